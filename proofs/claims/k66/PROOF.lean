import PyProof.Rows.All
import Wide.All
import OpenK.AllK
import Wide.FinOn
import Lean
import PyProof.EqAt
import PyProof.EqKinds
import PyProof.TupleCall
import PyProof.DictCompW
import PyProof.Rows.Range3
import KE.KRevIter
import PyProof.AutoRange
import PyProof.FactsAll.range_2
import PyProof.Rows.CallKwBuiltin
import PyProof.ListRange
import PyProof.TupleOfGen
import PyProof.P3Eq
import PyProof.Rows.RowHeap
import PyProof.CollectIter
import PyProof.WalksMore
import PyProof.AutoSeq1
import KE.KListMore
import PyProof.AttrMissHeap
import KE.KDictOf
import KE.KSortTup
import PyProof.Rows.SortWalk
import PyProof.SumWalkG
import PyProof.DictWalks
import KE.KDictSum
import PyProof.SetKind
import PyProof.SetRoads
import PyProof.Rows.SetFrom
import PySem.Challenge.RW_keepwhole_k66_whole_rows_beside_all_kept
open PySem renaming wpAny_bind->Γa
open PySem renaming wpAny_pure->Γb
open PySem.Heap renaming get?_push_of_some->Γc
open PySem.W renaming Frag->Γd
open PySem.Str renaming ofString->Γe
open PySem.Heap renaming get?_update_other->Γf
open PySem renaming wpAny_holding->Γg
open List renaming mem_cons_of_mem->Γh
open Nat renaming le_refl->Γi
open List renaming replicate->Γj
open Bool renaming false_ne_true->Γk
open PySem.Heap renaming lt_size->Γl
open PySem.Heap renaming get?_push_size->Γm
open List renaming mem_cons_self->Γn
open Nat renaming ne_of_lt->Γo
open Bool renaming false_eq_true->Γp
local macro_rules | `(tactic| nofun) => `(tactic| decide +kernel)
set_option Elab.async false
set_option linter.all false
set_option maxRecDepth 100000
section
namespace L2
open PySem PySem.Spec PyProof.Rows
abbrev Key:=Sum Int Str
def b6b:Key->Value->Bool
 | .inl k,v=>Value.isInt k v
 | .inr x,v=>Value.isStrOf x v
def keyH (w:World):Key->Int
 | .inl k=>hashInt k
 | .inr x=>hashStr w x
theorem a1e:∀ {k:Key}{v:Value},b6b k v=true->(∃ i t,k=Sum.inl i/\v=Value.int i t) ∨ (∃ x t,k=Sum.inr x/\v=Value.str x t)
 | .inl i,v,h=>by
  obtain⟨t,e⟩:=Value.isInt_shape (k:=i) (v:=v) h
  exact .inl ⟨i,t,rfl,e⟩
 | .inr x,v,h=>by
  obtain⟨t,e⟩:=Value.isStrOf_shape (x:=x) (v:=v) h
  exact .inr ⟨x,t,rfl,e⟩
theorem b9l (i:Int)(t:Tok):b6b (.inl i) (.int i t)=true:=by simp[b6b,Value.isInt]
theorem b9k (x:Str)(t:Tok):b6b (.inr x) (.str x t)=true:=by simp[b6b,Value.isStrOf]
theorem d3l (a b:Int):decide ((Sum.inl a:Key)=Sum.inl b)=(a == b):=by
 by_cases e:a=b
 ·subst e;simp
 ·have h:¬ (Sum.inl a:Key)=Sum.inl b:=λq=>e (Sum.inl.inj q)
  rw[decide_eq_false h]
  exact (beq_eq_false_iff_ne.mpr e).symm
theorem d3i (a b:Str):decide ((Sum.inr a:Key)=Sum.inr b)=decide (a=b):=by
 by_cases e:a=b
 ·subst e;simp
 ·have h:¬ (Sum.inr a:Key)=Sum.inr b:=λq=>e (Sum.inr.inj q)
  rw[decide_eq_false h,decide_eq_false e]
theorem d3k (a:Int)(b:Str):decide ((Sum.inl a:Key)=Sum.inr b)=false:=decide_eq_false (λq=>nomatch q)
theorem d3j (a:Str) (b:Int):decide ((Sum.inr a:Key)=Sum.inl b)=false:=decide_eq_false (λq=>nomatch q)
def a1b (prog:Program)(w:World):PySem.KeyKind prog w Key where
 is:=b6b
 hash:=keyH w
 inj:=λv a b ha hb=>by
  rcases a1e ha with⟨i,t,rfl,rfl⟩|⟨x,t,rfl,rfl⟩
  ·rcases a1e hb with⟨j,u,rfl,e⟩|⟨y,u,rfl,e⟩
   ·injection e with e1 _;rw[e1]
   ·exact nomatch e
  ·rcases a1e hb with⟨j,u,rfl,e⟩|⟨y,u,rfl,e⟩
   ·exact nomatch e
   ·injection e with e1 _;rw[e1]
 byValue:=λk v h=>by
  rcases a1e h with⟨i,t,rfl,rfl⟩|⟨x,t,rfl,rfl⟩<;>rfl
 pyHash:=λhv h=>by
  rcases a1e hv with⟨i,t,rfl,rfl⟩|⟨x,t,rfl,rfl⟩
  ·exact wpAny_pyHash_int h
  ·exact wpAny_pyHash_str h
 eqBool:=λhu hv h=>by
  rcases a1e hu with⟨i,t,rfl,rfl⟩|⟨x,t,rfl,rfl⟩
  ·rcases a1e hv with⟨j,u,rfl,rfl⟩|⟨y,u,rfl,rfl⟩
   ·rw[d3l] at h;exact wpAny_eqBool_int h
   ·rw[d3k] at h;exact SeqAt.EqAt.int_str i t y u _ _ _ _ h
  ·rcases a1e hv with⟨j,u,rfl,rfl⟩|⟨y,u,rfl,rfl⟩
   ·rw[d3j] at h;exact SeqAt.EqAt.str_int x t j u _ _ _ _ h
   ·rw[d3i] at h;exact wpAny_eqBool_str h
 «strs»:=λk x t v h=>by
  rcases a1e h with⟨i,u,rfl,e⟩|⟨y,u,rfl,e⟩
  ·exact nomatch e
  ·injection e with e1 _
   subst e1
   cases v<;>rfl
theorem b2i (prog:Program)(w:World) (i:Int)(t:Tok):(a1b prog w).is (.inl i) (.int i t)=true:=b9l i t
theorem b2h (prog:Program)(w:World)(x:Str)(t:Tok):(a1b prog w).is (.inr x) (.str x t)=true:=b9k x t
end L2
namespace L2
open PySem PySem.Spec PyProof.Rows
inductive V where
 | non|bl (b:Bool)|int (i:Int)|str (x:Str)|byt (b:Array UInt8)|flt (b:UInt64)|ref (a:Addr)|ty (n:String)
 deriving DecidableEq
def RelV:V->Value->Prop
 | .non,u=>u=Value.none
 | .bl b,u=>u=Value.bool b
 | .int i,u=>∃ t,u=Value.int i t
 | .str x,u=>∃ t,u=Value.str x t
 | .byt b,u=>∃ t,u=Value.bytes b t
 | .flt b,u=>∃ t,u=Value.float b t
 | .ref a,u=>u=Value.ref a
 | .ty n,u=>u=Value.type n
abbrev Vals:List V->List Value->Prop:=Paired RelV
theorem Vals.length {xs:List V}{us:List Value}(r:Vals xs us):xs.length=us.length:=Paired.length r
theorem Vals.get:∀ {xs:List V}{us:List Value}{i:Nat}{x:V},Vals xs us->xs[i]?=some x->∃ u,us[i]?=some u/\RelV x u
 | _,_,_,_,.nil,e=>by simp at e
 | _,_,0,_,.cons r _,e=>by simp at e;subst e;exact⟨_,rfl,r⟩
 | _,_,i+1,x,.cons _ t,e=>by
  obtain⟨u,h1,h2⟩:=Vals.get (i:=i) (x:=x) t (by simpa using e)
  exact⟨u,by simpa using h1,h2⟩
theorem Vals.set {x:V}{u:Value}(r:RelV x u):∀ {xs:List V}{us:List Value} (i:Nat),Vals xs us->Vals (xs.set i x) (us.set i u)
 | _,_,_,.nil=>.nil
 | _,_,0,.cons _ t=>.cons r t
 | _,_,i+1,.cons q t=>.cons q (Vals.set r i t)
theorem Vals.append:∀ {xs ys:List V}{us ws:List Value},Vals xs us->Vals ys ws->Vals (xs++ys) (us++ws)
 | _,_,_,_,.nil,s=>s
 | _,_,_,_,.cons r t,s=>.cons r (Vals.append t s)
theorem Vals.take:∀ {xs:List V}{us:List Value} (n:Nat),Vals xs us->Vals (xs.take n) (us.take n)
 | _,_,0,_=>.nil
 | _,_,_+1,.nil=>.nil
 | _,_,n+1,.cons r t=>.cons r (Vals.take n t)
theorem Vals.drop:∀ {xs:List V}{us:List Value} (n:Nat),Vals xs us->Vals (xs.drop n) (us.drop n)
 | _,_,0,r=>r
 | _,_,_+1,.nil=>.nil
 | _,_,n+1,.cons _ t=>Vals.drop n t
def RelO:Option V->Option Value->Prop
 | some v,some u=>RelV v u
 | none,none=>True
 | _,_=>False
def KV {κ:Type}:List (κ×V)->List (κ×Value)->Prop:=Paired λ(p:κ×V)(q:κ×Value)=>p.1=q.1/\RelV p.2 q.2
def kV:Key->V
 | .inl i=>.int i
 | .inr x=>.str x
inductive HO where
 | lst (xs:List V)
 | tup (xs:List V)
 | dK (kvs:List (Key×V))|dT (kvs:List (List Key×V))
 | set (S:Int->Bool) (n:Nat)
 | ins (C dx:Addr)(fs:List (Str×V))
 | own (x:Addr)
 | xd (fs:List (Str×V))
 | met (f x:Addr)
 | rng (lo hi:Int)
 | frz (o:Obj)(u:HO)
 | tbl (ps:Array Value)
 | ext (φ:Heap->Prop)
abbrev Hp:=Addr->Option HO
def upd (H:Hp)(a:Addr)(o:HO):Hp:=λb=>if b=a then some o else H b
theorem a0h {H:Hp}{a:Addr}{o:HO}:upd H a o a=some o:=by unfold upd;rw[if_pos rfl]
theorem a0g {H:Hp}{a b:Addr}{o:HO}(h:b≠a):upd H a o b=H b:=by unfold upd;rw[if_neg h]
theorem d2x {H:Hp}{a b:Addr}{o u:HO}(h:H a=some o)(h':H b=some u)(d:o≠u):a≠b:=by
 intro e;subst e;rw[h] at h';exact d (Option.some.inj h')
theorem a1a {H:Hp}{a b:Addr}{o:HO}(h:H a=some o)(h':H b=none):a≠b:=by
 intro e;subst e;rw[h] at h';cases h'
section
variable (P:Program)(w:World)
def ObjOk (H:Hp)(h:Heap)(a:Addr):HO->Prop
 | .lst xs=>xs.length<=sizeLine/\∃ (its:List Value) (n:Nat),Vals xs its/\h.get? a=some { cls:=.type "list",data:=.seq its.toArray n }
 | .tup xs=>xs.length<=sizeLine/\∃ its:List Value,Vals xs its/\IsTup h a its.toArray
 | .dK kvs=>kvs.length<=sizeLine/\(a == sysModules)=false/\∃ vs,KV kvs vs/\h.DictOf (a1b P w) a vs
 | .dT kvs=>kvs.length<=sizeLine/\(a == sysModules)=false/\∃ xs:List (List Key×Addr×Value),
   Paired (λ(p:List Key×V)(q:List Key×Addr×Value)=>p.1=q.1/\H q.2.1=some (.tup (p.1.map kV))/\RelV p.2 q.2.2) kvs xs /\
   ∃ o es ep,h.get? a=some o/\o.ExactDict/\o.data=.dict es ep/\es.toList=xs.map (entryOfKey (tupleKind (a1b P w)))/\(xs.map (·.1)).Nodup
 | .set S n=>h.SetOf (intKind P w) a S n
 | .ins C dx fs=>H dx=some (.own a)/\fs.length<=1000/\dx≠a/\h.get? a=some (PySem.W.instObj C dx) /\
   ∃ mA,h.Ns1 dx mA/\(∀ f,RelO (fs.lookup f) (mA f))/\PySem.Within mA (fs.map (·.1))
 | .own _=>∃ o,h.get? a=some o
 | .xd fs=>∃ mA,h.Ns1 a mA/\∀ f,RelO (fs.lookup f) (mA f)
 | .rng lo hi=>∃ t u v,h.get? a=some { cls:=.type "range",data:=.fields #[.int lo t,.int hi u,.int 1 v] }
 | .frz o u=>h.get? a=some o/\ObjOk H h a u
 | .tbl ps=>h.get? a=some { cls:=.none,data:=.fields ps }
 | .met f x=>h.get? a=some (PySem.W.methodObj (.ref f) (.ref x))
 | .ext φ=>φ h/\(∃ o,h.get? a=some o)/\∀ h1 h2:Heap,φ h1->(∀ o,h1.get? a=some o->h2.get? a=some o)->φ h2
def HOk (H:Hp)(h:Heap):Prop:=∀ a o,H a=some o->ObjOk P w H h a o
end
section
variable {P:Program}{w:World}{H H':Hp}{h h':Heap}{a:Addr}{o:HO}
theorem ObjOk.lt (x:ObjOk P w H h a o):a<h.objs.size:=by
 cases o with
 | lst xs=>obtain⟨_,_,_,_,e⟩:=x;exact Γl e
 | tup xs=>obtain⟨_,_,_,p⟩:=x;exact p.lt
 | dK kvs=>obtain⟨_,_,_,_,o,_,_,e,_⟩:=x;exact Γl e
 | dT kvs=>obtain⟨_,_,_,_,o,_,_,e,_⟩:=x;exact Γl e
 | set S n=>obtain⟨o,_,_,_,e,_⟩:=x;exact Γl e
 | ins C dx fs=>obtain⟨_,_,_,e,_⟩:=x;exact Γl e
 | own y=>obtain⟨_,e⟩:=x;exact Γl e
 | xd fs=>obtain⟨_,⟨_,_,_,e,_⟩,_⟩:=x;exact Γl e
 | rng lo hi=>obtain⟨_,_,_,e⟩:=x;exact Γl e
 | frz ob u=>obtain⟨e,_⟩:=x;exact Γl e
 | tbl ps=>exact Γl (show h.get? a=some _ from x)
 | met f y=>exact Γl (show h.get? a=some _ from x)
 | ext φ=>obtain⟨_,⟨_,e⟩,_⟩:=x;exact Γl e
theorem Paired.mapP {α β:Type}{F G:α->β->Prop}:∀ {l₁:List α}{l₂:List β},Paired F l₁ l₂->(∀ a b,F a b->G a b)->Paired G l₁ l₂
 | _,_,.nil,_=>.nil
 | _,_,.cons r t,f=>.cons (f _ _ r) (Paired.mapP t f)
theorem ObjOk.stay (x:ObjOk P w H h a o)(k:∀ b u,(b=a ∨ H b=some (.own a))->h.get? b=some u->h'.get? b=some u)
  (ho:∀ b,H b=some (.own a)->H' b=some (.own a))(ht:∀ b xs,H b=some (.tup xs)->H' b=some (.tup xs)):ObjOk P w H' h' a o:=by
 induction o with
 | lst xs=>obtain⟨z,its,n,r,e⟩:=x;exact⟨z,its,n,r,k _ _ (.inl rfl) e⟩
 | tup xs=>obtain⟨z,its,r,ob,e,c⟩:=x;exact⟨z,its,r,ob,k _ _ (.inl rfl) e,c⟩
 | dK kvs=>obtain⟨z,y,vs,r,ob,es,ep,e,c⟩:=x;exact⟨z,y,vs,r,ob,es,ep,k _ _ (.inl rfl) e,c⟩
 | dT kvs =>
  obtain⟨z,y,xs,r,ob,es,ep,e,c⟩:=x
  exact⟨z,y,xs,Paired.mapP r λp q z=>⟨z.1,ht _ _ z.2.1,z.2.2⟩,ob,es,ep,k _ _ (.inl rfl) e,c⟩
 | set S n=>obtain⟨ob,es,ep,t,e,c⟩:=x;exact⟨ob,es,ep,t,k _ _ (.inl rfl) e,c⟩
 | ins C dx fs =>
  obtain⟨d,z,ne,e,mA,⟨od,es,ep,e2,c⟩,r⟩:=x
  exact⟨ho _ d,z,ne,k _ _ (.inl rfl) e,mA,⟨od,es,ep,k _ _ (.inr d) e2,c⟩,r⟩
 | own y=>obtain⟨ob,e⟩:=x;exact⟨ob,k _ _ (.inl rfl) e⟩
 | xd fs=>obtain⟨mA,⟨od,es,ep,e,c⟩,r⟩:=x;exact⟨mA,⟨od,es,ep,k _ _ (.inl rfl) e,c⟩,r⟩
 | rng lo hi=>obtain⟨t,u,v,e⟩:=x;exact⟨t,u,v,k _ _ (.inl rfl) e⟩
 | frz ob u ih=>obtain⟨e,q⟩:=x;exact⟨k _ _ (.inl rfl) e,ih q⟩
 | tbl ps =>
  have e:h.get? a=some { cls:=.none,data:=.fields ps }:=x
  show h'.get? a=some { cls:=.none,data:=.fields ps }
  exact k a _ (.inl rfl) e
 | met f y =>
  have e:h.get? a=some (PySem.W.methodObj (.ref f) (.ref y)):=x
  show h'.get? a=some (PySem.W.methodObj (.ref f) (.ref y))
  exact k a _ (.inl rfl) e
 | ext φ=>obtain⟨p,⟨o,e⟩,st⟩:=x;exact⟨st _ _ p λo q=>k _ _ (.inl rfl) q,⟨o,k _ _ (.inl rfl) e⟩,st⟩
theorem HOk.lt (x:HOk P w H h)(e:H a=some o):a<h.objs.size:=(x a o e).lt
theorem HOk.fresh (x:HOk P w H h)(e:h.objs.size<=a):H a=none:=by
 cases q:H a with
 | none=>rfl
 | some u=>exact absurd (Nat.lt_of_lt_of_le (x.lt q) e) (Nat.lt_irrefl _)
theorem HOk.kept (x:HOk P w H h)(k:∀ b u,h.get? b=some u->h'.get? b=some u):HOk P w H h':=λa o e =>
 (x a o e).stay (λb u _ q=>k b u q) (λ_ q=>q) λ_ _ q=>q
theorem HOk.laid (x:HOk P w H h)(k:∀ b u,h.get? b=some u->h'.get? b=some u)(hp:h.objs.size<=a)(new:ObjOk P w (upd H a o) h' a o):HOk P w (upd H a o) h':=λb u e=>by
 have hn:=x.fresh hp
 by_cases hb:b=a
 ·subst hb;rw[a0h] at e;cases e;exact new
 ·rw[a0g hb] at e
  exact (x b u e).stay (λc v _ q=>k c v q) (λc q=>by rw[a0g (a1a q hn)];exact q) λc xs q=>by rw[a0g (a1a q hn)];exact q
end
def Rd (H:Hp)(a:Addr)(u:HO):Prop:=H a=some u ∨ ∃ o,H a=some (.frz o u)
theorem Rd.ok {P:Program}{w:World}{H:Hp}{h:Heap}{a:Addr}{u:HO}(r:Rd H a u)(x:HOk P w H h):ObjOk P w H h a u:=by
 rcases r with r|⟨o,r⟩
 ·exact x a u r
 ·obtain⟨_,q⟩:=x a _ r
  exact q
def Mut:Option HO->Prop
 | some (.lst _)=>True
 | some (.dK _)=>True
 | some (.dT _)=>True
 | some (.set _ _)=>True
 | some (.ins _ _ _)=>True
 | some (.ext _)=>True
 | _=>False
section
variable {P:Program}{w:World}{H:Hp}{h h':Heap}{x e:Addr}{o':HO}
theorem HOk.write (ok:HOk P w H h)(mu:Mut (H x))(he:e=x ∨ H e=some (.own x))(k:∀ b u,b≠e->h.get? b=some u->h'.get? b=some u)(heo:∃ u,h'.get? e=some u)
  (new:ObjOk P w (upd H x o') h' x o'):HOk P w (upd H x o') h':=λb u q=>by
 have nown:∀ c y,H c=some (.own y)->c≠x:=λc y r z=>by subst z;rw[r] at mu;exact mu
 have ntup:∀ c xs,H c=some (.tup xs)->c≠x:=λc xs r z=>by subst z;rw[r] at mu;exact mu
 by_cases hb:b=x
 ·subst hb;rw[a0h] at q;cases q;exact new
 ·rw[a0g hb] at q
  by_cases hbe:b=e
  ·have q':H b=some (.own x):=by
    rcases he with z|z
    ·exact absurd (hbe.trans z) hb
    ·rw[hbe];exact z
   rw[q] at q';cases q'
   obtain⟨v,hv⟩:=heo
   exact⟨v,by rw[hbe];exact hv⟩
  ·refine (ok b u q).stay (λc v hc r=>k c v ?_ r) (λc r=>by rw[a0g (nown c b r)];exact r) λc xs r=>by rw[a0g (ntup c xs r)];exact r
   rcases hc with rfl|hc
   ·exact hbe
   ·rintro rfl
    rcases he with z|z
    ·exact nown c b hc z
    ·rw[hc] at z;cases z;exact hb rfl
end
structure Un (fs ex:List Addr)(H H':Hp)(h h':Heap):Prop where
 keep:∀ b o,h.get? b=some o->H b=none->b ∉ fs->b ∉ ex->h'.get? b=some o
 slot:∀ b o,h.get? b=some o->H b=none->b∈fs->b ∉ ex->∃ sl,h'.get? b=some { o with slots:=sl }
 free:∀ b o,h.get? b=some o->H b=none->b ∉ ex->H' b=none
 there:∀ b o,h.get? b=some o->b ∉ ex->∃ o',h'.get? b=some o'
 tups:∀ b xs,H b=some (.tup xs)->H' b=some (.tup xs)
 frzs:∀ b o u,H b=some (.frz o u)->H' b=some (.frz o u)
 tbls:∀ b ps,H b=some (.tbl ps)->∃ more,H' b=some (.tbl (ps++more))
section
variable {fs fs' ex ex':List Addr}{H H1 H2:Hp}{h h1 h2 h':Heap}{a x e:Addr}{o:HO}
theorem Un.any (u:Un fs ex H H1 h h1){b:Addr}{ob:Obj}(q:h.get? b=some ob)(n:H b=none)(hx:b ∉ ex):∃ sl,h1.get? b=some { ob with slots:=sl }:=by
 by_cases hb:b∈fs
 ·exact u.slot b ob q n hb hx
 ·exact⟨ob.slots,u.keep b ob q n hb hx⟩
theorem Un.trans (a:Un fs ex H H1 h h1)(b:Un fs ex H1 H2 h1 h2):Un fs ex H H2 h h2 where
 keep:=λc ob q n hc hx=>b.keep c ob (a.keep c ob q n hc hx) (a.free c ob q n hx) hc hx
 slot:=λc ob q n hc hx=>by
  obtain⟨sl,e1⟩:=a.slot c ob q n hc hx
  obtain⟨sl',e2⟩:=b.slot c _ e1 (a.free c ob q n hx) hc hx
  exact⟨sl',e2⟩
 free:=λc ob q n hx=>by
  obtain⟨o',e1⟩:=a.there c ob q hx
  exact b.free c o' e1 (a.free c ob q n hx) hx
 there:=λc ob q hx=>by
  obtain⟨o',e1⟩:=a.there c ob q hx
  exact b.there c o' e1 hx
 tups:=λc xs q=>b.tups c xs (a.tups c xs q)
 frzs:=λc ob xs q=>b.frzs c ob xs (a.frzs c ob xs q)
 tbls:=λc ps q=>by
  obtain⟨m1,e1⟩:=a.tbls c ps q
  obtain⟨m2,e2⟩:=b.tbls c _ e1
  exact⟨m1++m2,by rw[e2,Array.append_assoc]⟩
theorem Un.kept (k:∀ b u,h.get? b=some u->h'.get? b=some u):Un fs ex H H h h' :=
 ⟨λb ob q _ _ _=>k b ob q,λb ob q _ _ _=>⟨ob.slots,k b ob q⟩,λ_ _ _ n _=>n,λb ob q _=>⟨ob,k b ob q⟩,λ_ _ q=>q,λ_ _ _ q=>q,λ_ ps q=>⟨#[],by rw[q];simp⟩⟩
theorem Un.refl:Un fs ex H H h h:=Un.kept λ_ _ q=>q
theorem Un.laid (k:∀ b u,h.get? b=some u->h'.get? b=some u)(hp:h.objs.size<=a)(hn:H a=none):Un fs ex H (upd H a o) h h' where
 keep:=λb u q _ _ _=>k b u q
 slot:=λb u q _ _ _=>⟨u.slots,k b u q⟩
 free:=λb u q n _=>by rw[a0g (Γo (Nat.lt_of_lt_of_le (Γl q) hp))];exact n
 there:=λb u q _=>⟨u,k b u q⟩
 tups:=λb xs q=>by rw[a0g (a1a q hn)];exact q
 frzs:=λb u xs q=>by rw[a0g (a1a q hn)];exact q
 tbls:=λb ps q=>⟨#[],by rw[a0g (a1a q hn),q];simp⟩
theorem Un.write (mu:Mut (H x))(he:e=x ∨ H e=some (.own x))(k:∀ b u,b≠e->h.get? b=some u->h'.get? b=some u)(heo:∃ u,h'.get? e=some u):Un fs ex H (upd H x o) h h':=by
 have hx:∀ b,H b=none->b≠x:=λb n z=>by subst z;rw[n] at mu;exact mu
 have hb:∀ b,H b=none->b≠e:=λb n z=>by
  subst z
  rcases he with r|r
  ·exact hx b n r
  ·rw[n] at r;cases r
 have hm:∀ b u,H b=some u->¬ Mut (some u)->b≠x:=λb u q nm z=>by subst z;rw[q] at mu;exact nm mu
 refine⟨λb u q n _ _=>k b u (hb b n) q,λb u q n _ _=>⟨u.slots,k b u (hb b n) q⟩,λb u q n _=>by rw[a0g (hx b n)];exact n,λb u q _=>?_,
  λb xs q=>by rw[a0g (hm b _ q λz=>z)];exact q,λb u xs q=>by rw[a0g (hm b _ q λz=>z)];exact q,λb ps q=>⟨#[],by rw[a0g (hm b _ q λz=>z),q];simp⟩⟩
 by_cases hbe:b=e
 ·subst hbe;exact heo
 ·exact⟨u,k b u hbe q⟩
theorem Un.mono (u:Un fs ex H H1 h h1)(hs:∀ b∈fs,b∈fs')(hx:∀ b∈ex,b∈ex'):Un fs' ex' H H1 h h1 :=
 ⟨λb ob q n hb he=>u.keep b ob q n (λz=>hb (hs b z)) λz=>he (hx b z),λ_ _ q n _ he=>u.any q n λz=>he (hx _ z),λb ob q n he=>u.free b ob q n λz=>he (hx b z),λb ob q he=>u.there b ob q λz=>he (hx b z),u.tups,u.frzs,u.tbls⟩
end
def trk (h:Heap)(H:Hp):List Addr:=(List.range h.objs.size).filter λa=>(H a).isSome
def c3s (h:Heap)(H:Hp):Heap:=PySem.W.hideAll h (trk h H)
theorem b9w (h:Heap)(H:Hp):(c3s h H).objs.size=h.objs.size:=PySem.W.hideAll_size _ _
theorem c3r {h:Heap}{H:Hp}{b:Addr}{o:Obj}(e:h.get? b=some o)(n:H b=none):(c3s h H).get? b=some o :=
 PySem.W.hideAll_get _ e λhm=>by
  have q:(H b).isSome=true:=(List.mem_filter.mp hm).2
  rw[n] at q;simp at q
theorem c8c {h:Heap}{H:Hp}{b:Addr}{o:Obj}(e:(c3s h H).get? b=some o):h.get? b=some o/\H b=none:=by
 have e':h.get? b=some o:=PySem.W.of_hideAll (trk h H) e
 refine⟨e',?_⟩
 cases q:H b with
 | none=>rfl
 | some x =>
  have hm:b∈trk h H:=List.mem_filter.mpr ⟨List.mem_range.mpr (Γl e'),by simp[q]⟩
  have z:(c3s h H).get? b=none:=PySem.W.hideAll_none (trk h H) hm
  rw[z] at e;cases e
def d0g (g h:Heap)(L:Addr):List (Addr×Obj):=(List.range h.objs.size).filterMap λa=>if a=L ∨ (g.get? a).isSome=true then none else (h.get? a).map λo=>(a,o)
def rest (g h:Heap)(L d:Addr):List (Addr×Obj):=(d0g g h L).filter λp=>decide (p.1≠d)
end L2
namespace L2
open PySem PySem.Spec PyProof.Rows
structure Mod (K:Γd)(mg:Str->Option Value)(base:Heap):Prop where
 kin:K.In base
 glob:base.Ns mainGlobals mg
 blt:∃ mb,base.Ns builtinsNs mb/\∀ x:Str,x≠"__name__"->mb x=bootBuiltins x
 nolimit:base.NoLimit
structure Cx where
 prog:Program
 w:World
 K:Γd
 mg:Str->Option Value
 base:Heap
 A:Around
 N:List Str
 s₀:Shared
 H₀:Hp
 env:Env
 outer:List Env
 stack:List Env
 ex:List Addr
 fn:Str->Bool
 calm:Bool
 pn:List (Addr×Obj)
 xe:Value->Shared->Prop
def frs (l:List Env):List Addr:=l.filterMap (·.frame)
abbrev Cx.fs (X:Cx):List Addr:=frs X.outer
def Vis (sc:Scope)(x:Str):Prop:=sc.names.lookup x=some .local ∨ sc.names.lookup x=some .cell ∨ sc.names.lookup x=some .free
def Loc (sc:Scope)(x:Str):Prop:=sc.names.lookup x=some .local ∨ sc.names.lookup x=some .cell
def Look (env:Env)(h:Heap)(m:Str->Option Value)(x:Str)(u:Value):Prop :=
 (env.kindOf x=some .local/\m x=some u) ∨ ((env.kindOf x=some .cell ∨ env.kindOf x=some .free)/\∃ c,env.cells.lookup x=some c/\h.IsCell c (some u))
structure Cx.Ok (X:Cx):Prop where
 mod:Mod X.K X.mg X.base
 kind:X.env.scope.kind=.function
 glob:X.env.globals=mainGlobals
 blt:X.env.builtins=builtinsNs
 above:X.s₀.heap.objs.size<=X.env.locals
 inj:∀ x y c,X.env.cells.lookup x=some c->X.env.cells.lookup y=some c->x=y
 has:∀ x,(X.env.kindOf x=some .cell ∨ X.env.kindOf x=some .free)->∃ c,X.env.cells.lookup x=some c
 cab:∀ x c,X.fn x=true->X.env.cells.lookup x=some c->X.s₀.heap.objs.size<=c
 hd:X.calm=true->X.A.handled=none
 frames:X.A.frames=some X.stack
 stk:X.stack=X.outer ∨ (X.stack=X.env :: X.outer/\X.env.frame=some X.env.locals)
 exf:∀ b∈X.ex,b≠X.env.locals/\∀ x c,X.env.cells.lookup x=some c->c≠b
 bs:∀ b o,X.base.get? b=some o->X.s₀.heap.get? b=some o/\X.H₀ b=none
 bsz:X.base.objs.size<=X.s₀.heap.objs.size
 noex:∀ b o,X.base.get? b=some o->b ∉ X.ex
 exfs:∀ b∈X.ex,b ∉ X.fs
 funs:X.s₀.heap.FunFrames X.base X.outer
 frf:∀ b∈X.fs,X.H₀ b=none
structure Inv (X:Cx)(pins:List (Addr×Obj))(σ:List (Option V))(H:Hp)(s:Shared):Prop where
 ok:X.Ok
 os:s.os=X.s₀.os
 bare:AllBare s.gens
 base:Un X.fs X.ex X.H₀ H X.s₀.heap s.heap
 loc:∃ m,s.heap.Ns X.env.locals m/\∀ (i:Nat)(x:Str)(v:V),X.N[i]?=some x->σ[i]?=some (some v)->Vis X.env.scope x->∃ u,RelV v u/\Look X.env s.heap m x u
 cell:∀ x c,X.env.cells.lookup x=some c->∃ v,s.heap.IsCell c v
 free:H X.env.locals=none
 freeC:∀ x c,X.env.cells.lookup x=some c->H c=none
 pin:∀ p∈X.pn++pins,s.heap.get? p.1=some p.2/\H p.1=none/\p.1≠X.env.locals/\p.1 ∉ X.fs/\∀ v,p.2.data≠.cell v
 hok:HOk X.prog X.w H s.heap
 len:σ.length=X.N.length
section
variable {X:Cx}{pins:List (Addr×Obj)}{σ:List (Option V)}{H H':Hp}{s:Shared}{h':Heap}
theorem Cx.Ok.nofr (ok:X.Ok){b:Addr}{o:Obj}(e:X.base.get? b=some o):b ∉ X.fs:=λhb=>by
 have:=(ok.funs.mem hb).1
 rw[e] at this;cases this
theorem Inv.bs (I:Inv X pins σ H s):∀ b o,X.base.get? b=some o->s.heap.get? b=some o/\H b=none:=λb o e =>
 ⟨I.base.keep b o (I.ok.bs b o e).1 (I.ok.bs b o e).2 (I.ok.nofr e) (I.ok.noex b o e),I.base.free b o (I.ok.bs b o e).1 (I.ok.bs b o e).2 (I.ok.noex b o e)⟩
theorem Inv.bk (I:Inv X pins σ H s):∀ b o,X.base.get? b=some o->s.heap.get? b=some o:=λb o e=>(I.bs b o e).1
theorem Inv.mod (I:Inv X pins σ H s):Mod X.K X.mg X.base:=I.ok.mod
theorem Inv.kIn (I:Inv X pins σ H s):X.K.In s.heap:=I.ok.mod.kin.keeps I.bk
theorem Inv.nolimit (I:Inv X pins σ H s):s.heap.NoLimit:=I.ok.mod.nolimit.keeps I.bk
theorem Inv.lt (I:Inv X pins σ H s):X.env.locals<s.heap.objs.size:=let ⟨_,hn,_⟩:=I.loc;hn.lt
theorem Inv.sz (I:Inv X pins σ H s):X.s₀.heap.objs.size<=s.heap.objs.size:=Nat.le_trans I.ok.above (Nat.le_of_lt I.lt)
theorem Inv.nofs (I:Inv X pins σ H s){a:Addr}(h:s.heap.objs.size<=a):a ∉ X.fs:=λhb=>by
 obtain⟨_,o,ho,_⟩:=I.ok.funs.mem hb
 exact absurd (Nat.lt_of_lt_of_le (Γl ho) (Nat.le_trans I.sz h)) (Nat.lt_irrefl _)
theorem Inv.cne (I:Inv X pins σ H s):∀ x c,X.env.cells.lookup x=some c->c≠X.env.locals:=λx c e z=>by
 obtain⟨v,o,ho,hd⟩:=I.cell x c e
 obtain⟨m,⟨o',es,ep,ho',hd',_⟩,_⟩:=I.loc
 rw[z,ho'] at ho;cases ho;rw[hd'] at hd;cases hd
theorem Inv.funs (I:Inv X pins σ H s):s.heap.FunFrames X.base X.outer:=by
 have all:∀ (l:List Env),(∀ b∈frs l,b∈X.fs)->X.s₀.heap.FunFrames X.base l->s.heap.FunFrames X.base l:=by
  intro l
  induction l with
  | nil=>intro _ _;trivial
  | cons env r ih =>
   intro hs hl
   obtain⟨hk,⟨L,o,hf,hn,ho,hd⟩,hr⟩:=hl
   have hL:L∈X.fs:=hs L (by unfold frs;rw[List.filterMap_cons,hf];exact Γn)
   obtain⟨sl,e⟩:=I.base.slot L o ho (I.ok.frf L hL) hL λz=>I.ok.exfs L z hL
   exact⟨hk,⟨L,_,hf,hn,e,hd⟩,ih (λb hb=>hs b (by unfold frs;rw[List.filterMap_cons,hf];exact Γh _ hb)) hr⟩
 exact all X.outer (λ_ hb=>hb) I.ok.funs
theorem Inv.stack (I:Inv X pins σ H s):s.heap.FunFrames X.base X.stack:=by
 rcases I.ok.stk with e|⟨e,hf⟩
 ·rw[e];exact I.funs
 ·rw[e]
  obtain⟨m,hn,_⟩:=I.loc
  refine .cons (by rw[I.ok.kind];decide) hf hn ?_ I.funs
  exact Heap.get?_none_of_le (Nat.le_trans I.ok.bsz I.ok.above)
theorem Inv.stkSub (I:Inv X pins σ H s):∀ b∈frs X.stack,b∈X.env.locals :: X.fs:=λb hb=>by
 rcases I.ok.stk with e|⟨e,hf⟩
 ·rw[e] at hb;exact Γh _ hb
 ·rw[e] at hb
  unfold frs at hb
  rw[List.filterMap_cons,hf] at hb
  exact hb
theorem Inv.stkFree (I:Inv X pins σ H s):∀ b∈frs X.stack,H b=none:=λb hb=>by
 rcases List.mem_cons.mp (I.stkSub b hb) with e|hb
 ·rw[e];exact I.free
 ·obtain⟨_,o,ho,_⟩:=I.ok.funs.mem hb
  exact I.base.free b o ho (I.ok.frf b hb) λz=>I.ok.exfs b z hb
theorem Inv.step {g':Array GenState}{t':Nat}{d':Drawn}{ch:List Addr}(I:Inv X pins σ H s)
  (hch:∀ b∈ch,(b∈X.ex ∨ X.s₀.heap.objs.size<=b)/\b≠X.env.locals/\(∀ x c,X.env.cells.lookup x=some c->c≠b)/\∀ p∈X.pn++pins,p.1≠b)
  (keep:∀ b o,b≠X.env.locals->b ∉ X.fs->b ∉ ch->s.heap.get? b=some o->H b=none->h'.get? b=some o)
  (slot:∀ b o,b≠X.env.locals->b∈X.fs->b ∉ ch->s.heap.get? b=some o->H b=none->∃ sl,h'.get? b=some { o with slots:=sl })(free:∀ b o,b ∉ ch->s.heap.get? b=some o->H b=none->H' b=none)
  (there:∀ b o,b ∉ ch->s.heap.get? b=some o->∃ o',h'.get? b=some o')
  (tups:∀ b xs,H b=some (.tup xs)->H' b=some (.tup xs))(frzs:∀ b o u,H b=some (.frz o u)->H' b=some (.frz o u))(tbls:∀ b ps,H b=some (.tbl ps)->∃ more,H' b=some (.tbl (ps++more)))
  (ns:∀ m,s.heap.Ns X.env.locals m->h'.Ns X.env.locals m)(hok:HOk X.prog X.w H' h')(hg:AllBare g') :
  Inv X pins σ H' { s with heap:=h',gens:=g',drawn:=d',toks:=t' }:=by
 have neL:∀ b o,X.s₀.heap.get? b=some o->b≠X.env.locals:=λb o e=>Γo (Nat.lt_of_lt_of_le (Γl e) I.ok.above)
 have neC:∀ b o,X.s₀.heap.get? b=some o->b ∉ X.ex->b ∉ ch:=λb o e hx hb=>by
  rcases (hch b hb).1 with z|z
  ·exact hx z
  ·exact absurd (Nat.lt_of_lt_of_le (Γl e) z) (Nat.lt_irrefl _)
 have cellK:∀ x c,X.env.cells.lookup x=some c->∀ v,s.heap.IsCell c v->h'.IsCell c v:=λx c e v ⟨o,ho,hd⟩=>by
  have nch:c ∉ ch:=λz=>(hch c z).2.2.1 x c e rfl
  by_cases hc:c∈X.fs
  ·obtain⟨sl,q⟩:=slot c o (I.cne x c e) hc nch ho (I.freeC x c e)
   exact⟨_,q,hd⟩
  ·exact⟨o,keep c o (I.cne x c e) hc nch ho (I.freeC x c e),hd⟩
 refine⟨I.ok,I.os,hg,⟨λb o e n hb hx=>?_,λb o e n hb hx=>?_,λb o e n hx=>?_,λb o e hx=>?_,λb xs e=>tups b xs (I.base.tups b xs e),λb o xs e=>frzs b o xs (I.base.frzs b o xs e),λb ps e=>?_⟩,?_,λx c e=>?_,?_,λx c e=>?_,λp hp=>?_,hok,I.len⟩
 ·exact keep b o (neL b o e) hb (neC b o e hx) (I.base.keep b o e n hb hx) (I.base.free b o e n hx)
 ·obtain⟨sl,e1⟩:=I.base.slot b o e n hb hx
  obtain⟨sl',e2⟩:=slot b _ (neL b o e) hb (neC b o e hx) e1 (I.base.free b o e n hx)
  exact⟨sl',e2⟩
 ·obtain⟨o',e1⟩:=I.base.there b o e hx
  exact free b o' (neC b o e hx) e1 (I.base.free b o e n hx)
 ·obtain⟨o',e1⟩:=I.base.there b o e hx
  exact there b o' (neC b o e hx) e1
 ·obtain⟨m1,e1⟩:=I.base.tbls b ps e
  obtain⟨m2,e2⟩:=tbls b _ e1
  exact⟨m1++m2,by rw[e2,Array.append_assoc]⟩
 ·obtain⟨m,hn,hl⟩:=I.loc
  refine⟨m,ns m hn,λi x v e1 e2 e3=>?_⟩
  obtain⟨u,r,l⟩:=hl i x v e1 e2 e3
  refine⟨u,r,?_⟩
  rcases l with l|⟨k,c,e,z⟩
  ·exact .inl l
  ·exact .inr ⟨k,c,e,cellK x c e _ z⟩
 ·obtain⟨v,z⟩:=I.cell x c e
  exact⟨v,cellK x c e v z⟩
 ·obtain⟨m,⟨o,_,_,ho,_⟩,_⟩:=I.loc
  exact free _ o (λz=>(hch _ z).2.1 rfl) ho I.free
 ·obtain⟨v,o,ho,hd⟩:=I.cell x c e
  exact free c o (λz=>(hch c z).2.2.1 x c e rfl) ho (I.freeC x c e)
 ·obtain⟨e,n,ne,nf,d⟩:=I.pin p hp
  have nch:p.1 ∉ ch:=λz=>(hch p.1 z).2.2.2 p hp rfl
  exact⟨keep p.1 p.2 ne nf nch e n,free p.1 p.2 nch e n,ne,nf,d⟩
theorem Inv.un {t':Nat}(I:Inv X pins σ H s)(u:Un X.fs [] H H' s.heap h')(hok:HOk X.prog X.w H' h'):Inv X pins σ H' { s with heap:=h',toks:=t' }:=by
 obtain⟨m,⟨o,es,ep,ho,r⟩,_⟩:=id I.loc
 obtain⟨sl,hL⟩:=u.any ho I.free (by simp)
 exact I.step (g':=s.gens) (d':=s.drawn) (ch:=[]) (λ_ z=>nomatch z) (λb o _ hb _ e n=>u.keep b o e n hb (by simp)) (λb o _ hb _ e n=>u.slot b o e n hb (by simp)) (λb o _ e n=>u.free b o e n (by simp)) (λb o _ e=>u.there b o e (by simp)) u.tups u.frzs u.tbls (λm' hm=>by
  obtain⟨o',es',ep',ho',r'⟩:=hm
  rw[ho] at ho';cases ho'
  exact⟨_,es',ep',hL,r'⟩) hok I.bare
theorem Inv.call {g':Array GenState}{t':Nat}{d':Drawn}{ch:List Addr}(I:Inv X pins σ H s)(u:Un (frs X.stack) ch H H' s.heap h')(hok:HOk X.prog X.w H' h')(hg:AllBare g')
  (hch:∀ b∈ch,(b∈X.ex ∨ X.s₀.heap.objs.size<=b)/\b≠X.env.locals/\(∀ x c,X.env.cells.lookup x=some c->c≠b)/\∀ p∈X.pn++pins,p.1≠b) :
  Inv X pins σ H' { s with heap:=h',gens:=g',drawn:=d',toks:=t' }:=by
 obtain⟨m,⟨o,es,ep,ho,r⟩,_⟩:=id I.loc
 obtain⟨sl,hL⟩:=u.any ho I.free λz=>(hch _ z).2.1 rfl
 exact I.step (ch:=ch) hch (λb o hL hb hc e n=>u.keep b o e n (λz=>(List.mem_cons.mp (I.stkSub b z)).elim hL hb) hc) (λb o _ _ hc e n=>u.any e n hc) (λb o hc e n=>u.free b o e n hc) (λb o hc e=>u.there b o e hc) u.tups u.frzs u.tbls (λm' hm=>by
  obtain⟨o',es',ep',ho',r'⟩:=hm
  rw[ho] at ho';cases ho'
  exact⟨_,es',ep',hL,r'⟩) hok hg
theorem Inv.turned {t':Nat}{it:Addr}(I:Inv X pins σ H s)(k:∀ b o,b≠it->s.heap.get? b=some o->h'.get? b=some o)(hn:H it=none)(hL:it≠X.env.locals)
  (h1:it∈X.ex ∨ X.s₀.heap.objs.size<=it)(h2:∀ x c,X.env.cells.lookup x=some c->c≠it)(h3:∀ p∈X.pn++pins,p.1≠it):Inv X pins σ H { s with heap:=h',toks:=t' }:=by
 have nit:∀ b u,H b=some u->b≠it:=λb u e z=>by rw[z,hn] at e;cases e
 refine I.step (g':=s.gens) (d':=s.drawn) (ch:=[it]) (λb hb=>?_) (λb o _ _ hc e _=>k b o (λz=>hc (by simp[z])) e) (λb o _ _ hc e _=>⟨o.slots,k b o (λz=>hc (by simp[z])) e⟩) (λ_ _ _ _ n=>n)
  (λb o hc e=>⟨o,k b o (λz=>hc (by simp[z])) e⟩) (λ_ _ e=>e) (λ_ _ _ e=>e) (λb ps e=>⟨#[],by rw[e];simp⟩) (λm hm=>?_) (λb u e=>?_) I.bare
 ·have e:b=it:=by simpa using hb
  subst e
  exact⟨h1,hL,h2,h3⟩
 ·obtain⟨o,es,ep,ho,r⟩:=hm
  exact⟨o,es,ep,k _ o (Ne.symm hL) ho,r⟩
 ·refine (I.hok b u e).stay (λc v hc q=>k c v ?_ q) (λ_ q=>q) λ_ _ q=>q
  rcases hc with z|z
  ·rw[z];exact nit b u e
  ·exact nit c _ z
theorem Inv.tok (I:Inv X pins σ H s) (t:Nat):Inv X pins σ H { s with toks:=t }:=I.un (h':=s.heap) (t':=t) Un.refl I.hok
theorem Inv.kept {t':Nat}(I:Inv X pins σ H s)(k:∀ b u,s.heap.get? b=some u->h'.get? b=some u):Inv X pins σ H { s with heap:=h',toks:=t' }:=I.un (Un.kept k) (I.hok.kept k)
theorem Inv.laid {a:Addr}{o:HO}{t':Nat}(I:Inv X pins σ H s)(k:∀ b u,s.heap.get? b=some u->h'.get? b=some u)(hp:s.heap.objs.size<=a)(new:ObjOk X.prog X.w (upd H a o) h' a o) :
  Inv X pins σ (upd H a o) { s with heap:=h',toks:=t' }:=I.un (Un.laid k hp (I.hok.fresh hp)) (I.hok.laid k hp new)
theorem Inv.write {x e:Addr}{o:HO}{t':Nat}(I:Inv X pins σ H s)(mu:Mut (H x))(he:e=x ∨ H e=some (.own x))(k:∀ b u,b≠e->s.heap.get? b=some u->h'.get? b=some u)(heo:∃ u,h'.get? e=some u)
  (new:ObjOk X.prog X.w (upd H x o) h' x o):Inv X pins σ (upd H x o) { s with heap:=h',toks:=t' }:=I.un (Un.write mu he k heo) (I.hok.write mu he k heo new)
theorem Inv.weak {σ':List (Option V)}(I:Inv X pins σ H s)(hl:σ'.length=σ.length)(w:∀ (i:Nat) v,σ'[i]?=some (some v)->σ[i]?=some (some v)):Inv X pins σ' H s :=
 ⟨I.ok,I.os,I.bare,I.base,let ⟨m,hn,hl'⟩:=I.loc;⟨m,hn,λi x v e1 e2 e3=>hl' i x v e1 (w i v e2) e3⟩,I.cell,I.free,I.freeC,I.pin,I.hok,hl.trans I.len⟩
theorem Inv.pins_of {pins':List (Addr×Obj)}(I:Inv X pins σ H s)(h:∀ p∈pins',s.heap.get? p.1=some p.2/\H p.1=none/\p.1≠X.env.locals/\p.1 ∉ X.fs/\∀ v,p.2.data≠.cell v):Inv X pins' σ H s :=
 ⟨I.ok,I.os,I.bare,I.base,I.loc,I.cell,I.free,I.freeC,λp hp=>(List.mem_append.mp hp).elim (λz=>I.pin p (List.mem_append_left _ z)) (h p),I.hok,I.len⟩
theorem b4d {N:List Str}(hN:N.Nodup){i j:Nat}{x:Str}(a:N[i]?=some x)(b:N[j]?=some x):i=j:=by
 obtain⟨h1,e1⟩:=List.getElem?_eq_some_iff.mp a
 obtain⟨h2,e2⟩:=List.getElem?_eq_some_iff.mp b
 exact (List.getElem_inj hN).mp (e1.trans e2.symm)
theorem b0b {M:Model}{A:Around}{E:Value->Shared->Prop}{i:Nat}{x:Str}{v:V}{u:Value}{Q:Unit->Shared->Prop}(I:Inv X pins σ H s)(hN:X.N.Nodup)(hi:X.N[i]?=some x)(hx:Loc X.env.scope x)(r:RelV v u)
  (h:∀ s',Inv X pins (σ.set i (some v)) H s'->(∃ a,Heap.SameBut a s.heap s'.heap/\(a=X.env.locals ∨ X.env.cells.lookup x=some a))->Q () s')(hf:X.fn x=true ∨ X.env.scope.names.lookup x=some .local:=by first|exact .inl rfl|exact .inr rfl|assumption):wpAny M A (storeName X.env x u) Q E s:=by
 obtain⟨m,hn,hl⟩:=id I.loc
 have hcls:(X.env.scope.kind == .class || (X.env.scope.kind == .module && X.env.locals != X.env.globals))=false:=by rw[I.ok.kind];rfl
 have hiσ:i<σ.length:=by rw[I.len];exact (List.getElem?_eq_some_iff.mp hi).1
 have cne:=I.cne
 have tracked:∀ {a:Addr}{h':Heap},(∃ o,s.heap.get? a=some o/\H a=none)->Heap.SameBut a s.heap h'->HOk X.prog X.w H h':=λ{a h'} ha hs b ob e=>by
  obtain⟨_,_,hfree⟩:=ha
  refine (I.hok b ob e).stay (λc w' hc q=>(hs.2 c ?_).trans q) (λ_ q=>q) λ_ _ q=>q
  rintro rfl
  rcases hc with rfl|hc
  ·rw[hfree] at e;cases e
  ·rw[hfree] at hc;cases hc
 rcases hx with hk|hk
 ·refine wpAny_storeName_local hk hn (λh' hn' hs=>?_) hcls
  obtain⟨oL,_,_,hoL,_⟩:=id hn
  refine h _ ⟨I.ok,I.os,I.bare,⟨λb o e n hb hx=>?_,λb o e n hb hx=>?_,I.base.free,λb o e hx=>?_,I.base.tups,I.base.frzs,I.base.tbls⟩,⟨_,hn',λj y v' e1 e2 e3=>?_⟩,λy c e=>?_,I.free,I.freeC,λp hp=>?_,tracked ⟨oL,hoL,I.free⟩ hs,by simpa using I.len⟩ ⟨_,hs,.inl rfl⟩
  ·exact (hs.2 b (Γo (Nat.lt_of_lt_of_le (Γl e) I.ok.above))).trans (I.base.keep b o e n hb hx)
  ·obtain⟨sl,e1⟩:=I.base.slot b o e n hb hx
   exact⟨sl,(hs.2 b (Γo (Nat.lt_of_lt_of_le (Γl e) I.ok.above))).trans e1⟩
  ·obtain⟨o',e1⟩:=I.base.there b o e hx
   exact⟨o',(hs.2 b (Γo (Nat.lt_of_lt_of_le (Γl e) I.ok.above))).trans e1⟩
  ·by_cases hj:j=i
   ·subst hj
    rw[hi] at e1;cases e1
    rw[List.getElem?_set_self hiσ] at e2
    cases e2
    exact⟨u,r,.inl ⟨hk,by simp⟩⟩
   ·rw[List.getElem?_set_ne (Ne.symm hj)] at e2
    obtain⟨u',r',q⟩:=hl j y v' e1 e2 e3
    refine⟨u',r',?_⟩
    rcases q with⟨k,e⟩|⟨k,c,e,z⟩
    ·refine .inl ⟨k,?_⟩
     have:y≠x:=λe=>hj (b4d hN e1 (e ▸ hi))
     simp[this,e]
    ·exact .inr ⟨k,c,e,z.sameBut hs (cne y c e)⟩
  ·obtain⟨w',z⟩:=I.cell y c e
   exact⟨w',z.sameBut hs (cne y c e)⟩
  ·obtain⟨e,n,ne,nf,d⟩:=I.pin p hp
   exact⟨(hs.2 p.1 ne).trans e,n,ne,nf,d⟩
 ·have hfn:X.fn x=true:=by
   rcases hf with z|z
   ·exact z
   ·rw[z] at hk;cases hk
  obtain⟨c,hc⟩:=I.ok.has x (.inl hk)
  obtain⟨w',z⟩:=I.cell x c hc
  refine wpAny_storeName_cell I.ok.kind hk hc z (λh' hc' hs=>?_)
  obtain⟨oc,hoc,hocd⟩:=id z
  refine h { s with heap:=h' } ⟨I.ok,I.os,I.bare,⟨λb o e n hb hx=>?_,λb o e n hb hx=>?_,I.base.free,λb o e hx=>?_,I.base.tups,I.base.frzs,I.base.tbls⟩,⟨m,hn.sameBut hs (Ne.symm (cne x c hc)),λj y v' e1 e2 e3=>?_⟩,λy c' e=>?_,I.free,I.freeC,λp hp=>?_,tracked ⟨oc,hoc,I.freeC x c hc⟩ hs,by simpa using I.len⟩ ⟨c,hs,.inr hc⟩
  ·exact (hs.2 b (Γo (Nat.lt_of_lt_of_le (Γl e) (I.ok.cab x c hfn hc)))).trans (I.base.keep b o e n hb hx)
  ·obtain⟨sl,e1⟩:=I.base.slot b o e n hb hx
   exact⟨sl,(hs.2 b (Γo (Nat.lt_of_lt_of_le (Γl e) (I.ok.cab x c hfn hc)))).trans e1⟩
  ·obtain⟨o',e1⟩:=I.base.there b o e hx
   exact⟨o',(hs.2 b (Γo (Nat.lt_of_lt_of_le (Γl e) (I.ok.cab x c hfn hc)))).trans e1⟩
  ·by_cases hj:j=i
   ·subst hj
    rw[hi] at e1;cases e1
    rw[List.getElem?_set_self hiσ] at e2
    cases e2
    exact⟨u,r,.inr ⟨.inl hk,c,hc,hc'⟩⟩
   ·rw[List.getElem?_set_ne (Ne.symm hj)] at e2
    obtain⟨u',r',q⟩:=hl j y v' e1 e2 e3
    refine⟨u',r',?_⟩
    rcases q with q|⟨k,c',e,z'⟩
    ·exact .inl q
    ·refine .inr ⟨k,c',e,z'.sameBut hs ?_⟩
     rintro rfl
     exact hj (b4d hN e1 (I.ok.inj _ _ _ e hc ▸ hi))
  ·by_cases hcc:c'=c
   ·subst hcc;exact⟨_,hc'⟩
   ·obtain⟨w2,z2⟩:=I.cell y c' e
    exact⟨w2,z2.sameBut hs hcc⟩
  ·obtain⟨e,n,ne,nf,d⟩:=I.pin p hp
   refine⟨(hs.2 p.1 ?_).trans e,n,ne,nf,d⟩
   intro q
   rw[q,hoc] at e
   have q':oc=p.2:=Option.some.inj e
   exact d w' (by rw[<- q'];exact hocd)
theorem a8p {M:Model}{A:Around}{E:Value->Shared->Prop}{i:Nat}{x:Str}{v:V}{u:Value}{Q:Unit->Shared->Prop}(I:Inv X pins σ H s)(hN:X.N.Nodup)(hi:X.N[i]?=some x)(hx:Loc X.env.scope x)(r:RelV v u)
  (h:∀ s',Inv X pins (σ.set i (some v)) H s'->Q () s')(hf:X.fn x=true ∨ X.env.scope.names.lookup x=some .local:=by first|exact .inl rfl|exact .inr rfl|assumption):wpAny M A (storeName X.env x u) Q E s :=
 b0b I hN hi hx r (λs' I' _=>h s' I') hf
theorem Inv.call' {s':Shared}{ch:List Addr}(I:Inv X pins σ H s)(ho:s'.os=s.os)(u:Un (frs X.stack) ch H H' s.heap s'.heap)(hok:HOk X.prog X.w H' s'.heap)(hg:AllBare s'.gens)
  (hch:∀ b∈ch,(b∈X.ex ∨ X.s₀.heap.objs.size<=b)/\b≠X.env.locals/\(∀ x c,X.env.cells.lookup x=some c->c≠b)/\∀ p∈X.pn++pins,p.1≠b):Inv X pins σ H' s':=by
 obtain⟨h',g',d',t',o'⟩:=s'
 have e:o'=s.os:=ho
 subst e
 exact I.call (g':=g') (t':=t') (d':=d') u hok hg hch
end
abbrev XK:=Value->Option Addr->Hp->Prop
abbrev St:=List (Option V)
abbrev VK:=V->Hp->Prop
abbrev TE:=St->Hp->VK->Prop
abbrev TT:=St->Hp->(Bool->Hp->Prop)->Prop
abbrev TA:=St->Hp->(List V->Hp->Prop)->Prop
structure Ends where
 nx:St->Hp->Prop
 rt:VK
 bk:St->Hp->Prop:=λ_ _=>False
 ct:St->Hp->Prop:=λ_ _=>False
abbrev TS:=Ends->St->Hp->Prop
def EP (X:Cx)(pins:List (Addr×Obj))(σ:St)(Q:VK)(u:Value)(s':Shared):Prop:=∃ v H',Inv X pins σ H' s'/\RelV v u/\Q v H'
def TP (X:Cx)(pins:List (Addr×Obj))(σ:St)(Q:Bool->Hp->Prop)(b:Bool)(s':Shared):Prop:=∃ H',Inv X pins σ H' s'/\Q b H'
def AP (X:Cx)(pins:List (Addr×Obj))(σ:St)(Q:List V->Hp->Prop)(us:List Value)(s':Shared):Prop:=∃ vs H',Inv X pins σ H' s'/\Vals vs us/\Q vs H'
def SP (X:Cx)(pins:List (Addr×Obj))(D:Ends)(f:Flow)(s':Shared):Prop :=
 match f with
 | .next=>∃ σ' H',Inv X pins σ' H' s'/\D.nx σ' H'
 | .brk=>∃ σ' H',Inv X pins σ' H' s'/\D.bk σ' H'
 | .cont=>∃ σ' H',Inv X pins σ' H' s'/\D.ct σ' H'
 | .ret u=>∃ v σ' H',Inv X pins σ' H' s'/\RelV v u/\D.rt v H'
def PE (X:Cx)(e:Expr)(t:TE):Prop :=
 ∀ (pins:List (Addr×Obj))(s:Shared)(σ:St)(H:Hp)(Q:VK),Inv X pins σ H s->t σ H Q->wpAny (model X.prog X.w) X.A (eval e X.env) (EP X pins σ Q) X.xe s
def PT (X:Cx)(e:Expr)(t:TT):Prop :=
 ∀ (pins:List (Addr×Obj))(s:Shared)(σ:St)(H:Hp)(Q:Bool->Hp->Prop),Inv X pins σ H s->t σ H Q->wpAny (model X.prog X.w) X.A (isTrue e X.env (eval e X.env)) (TP X pins σ Q) X.xe s
def PW (X:Cx)(e:Expr)(t:TT):Prop :=
 ∀ (whole:Sem Value)(pins:List (Addr×Obj))(s:Shared)(σ:St)(H:Hp)(Q:Bool->Hp->Prop),Inv X pins σ H s->t σ H Q->wpAny (model X.prog X.w) X.A (isTrue e X.env whole) (TP X pins σ Q) X.xe s
theorem PW.pt {X:Cx}{e:Expr}{t:TT}(h:PW X e t):PT X e t:=h _
def PA (X:Cx)(es:List Expr)(t:TA):Prop :=
 ∀ (pos:Pos)(pins:List (Addr×Obj))(s:Shared)(σ:St)(H:Hp)(Q:List V->Hp->Prop),Inv X pins σ H s->t σ H Q->wpAny (model X.prog X.w) X.A (spliced (backTo pos (starEach es X.env))) (AP X pins σ Q) X.xe s
def PS (X:Cx)(st:Stmt)(t:TS):Prop :=
 ∀ (pins:List (Addr×Obj))(s:Shared)(σ:St)(H:Hp)(D:Ends),Inv X pins σ H s->t D σ H->wpAny (model X.prog X.w) X.A (exec st X.env) (SP X pins D) X.xe s
def PSs (X:Cx)(st:List Stmt)(t:TS):Prop :=
 ∀ (pins:List (Addr×Obj))(s:Shared)(σ:St)(H:Hp)(D:Ends),Inv X pins σ H s->t D σ H->wpAny (model X.prog X.w) X.A (execs st X.env) (SP X pins D) X.xe s
theorem thn {α:Type}{t:Sem α}{Q Q':α->Shared->Prop}{M:Model}{A:Around}{E:Value->Shared->Prop}{s:Shared}(h:wpAny M A t Q E s)(hQ:∀ a s,Q a s->Q' a s):wpAny M A t Q' E s:=wpAny_mono h hQ λ_ _ x=>x
end L2
namespace L2
open PySem PySem.Spec PyProof.Rows
section
variable {X:Cx}
def d0k (i:Nat):TE:=λσ H Q=>∃ v,σ[i]?=some (some v)/\Q v H
def tC (v:V):TE:=λ_ H Q=>Q v H
theorem b4c {i:Nat}{x:Str}{pos:Pos}(hN:X.N[i]?=some x)(hv:Vis X.env.scope x)(hd:(x == ("__debug__":Str))=false:=by decide)(hcd:(x == ("__classdict__":Str))=false:=by decide):PE X (.Name x pos) (d0k i):=by
 intro pins s σ H Q I h
 obtain⟨v,e,h⟩:=h
 obtain⟨m,hn,hl⟩:=I.loc
 obtain⟨u,r,l⟩:=hl i x v hN e hv
 have fin:EP X pins σ Q u s:=⟨v,H,I,r,h⟩
 rcases l with⟨hk,hm⟩|⟨hk,c,hc,hcell⟩
 ·exact wpAny_Name (wpAny_loadName_local I.ok.kind hk hn hm fin) hd
 ·rcases hk with hk|hk
  ·exact wpAny_Name (wpAny_loadName_cell I.ok.kind hk hc hcell fin) hd
  ·exact wpAny_Name (wpAny_loadName_free I.ok.kind hk hc hcell fin hcd) hd
theorem d2h {i j pos}:PE X (.Constant (.int i) j pos) (tC (.int i)):=λ_ _ _ H _ I h=>wpAny_Constant_int ⟨.int i,H,I.tok _,⟨_,rfl⟩,h⟩
theorem d8r {b j pos}:PE X (.Constant (.bool b) j pos) (tC (.bl b)):=λ_ _ _ H _ I h=>Constant_bool ⟨.bl b,H,I,rfl,h⟩
theorem d2f {j pos}:PE X (.Constant .none j pos) (tC .non):=λ_ _ _ H _ I h=>Constant_none ⟨.non,H,I,rfl,h⟩
def Gl (X:Cx)(x:Str):Prop:=X.env.kindOf x=some .globalImplicit
theorem c8k {E:Value->Shared->Prop}{pins:List (Addr×Obj)}{s:Shared}{σ:St}{H:Hp}{x:Str}{u:Value}{pos:Pos}{Q:Value->Shared->Prop}(I:Inv X pins σ H s)(hg:Gl X x)(hm:X.mg x=some u)(h:Q u s)
  (hd:(x == ("__debug__":Str))=false:=by decide):wpAny (model X.prog X.w) X.A (eval (.Name x pos) X.env) Q E s :=
 Calls.Name_function_global I.ok.kind hg (Calls.loadGlobal_global (by rw[I.ok.glob];exact I.mod.glob.keeps I.bk) hm h) hd
theorem a3n {E:Value->Shared->Prop}{pins:List (Addr×Obj)}{s:Shared}{σ:St}{H:Hp}{x:Str}{u:Value}{pos:Pos}{Q:Value->Shared->Prop}(I:Inv X pins σ H s)(hg:Gl X x)(hm:X.mg x=none)(hv:bootBuiltins x=some u)(h:Q u s)
  (hn:x≠"__name__":=by decide)(hd:(x == ("__debug__":Str))=false:=by decide):wpAny (model X.prog X.w) X.A (eval (.Name x pos) X.env) Q E s:=by
 obtain⟨mb,h1,h2⟩:=I.mod.blt
 exact Calls.Name_function_global I.ok.kind hg (Calls.loadGlobal_builtin (by rw[I.ok.glob];exact I.mod.glob.keeps I.bk) hm (by rw[I.ok.blt];exact h1.keeps I.bk) ((h2 x hn).trans hv) h) hd
theorem c7u {x:Str}{v:V}{u:Value}{pos:Pos}(hg:Gl X x)(hm:X.mg x=none)(hv:bootBuiltins x=some u)(r:RelV v u)(hn:x≠"__name__":=by decide)(hd:(x == ("__debug__":Str))=false:=by decide):PE X (.Name x pos) (tC v) :=
 λ_ _ _ H _ I h=>a3n I hg hm hv ⟨v,H,I,r,h⟩ hn hd
variable {a b:Expr}{ta tb:TE}{pos:Pos}
def PC (X:Cx)(op:CmpOp)(a b:Expr)(t:TE):Prop :=
 ∀ (pins:List (Addr×Obj))(s:Shared)(σ:St)(H:Hp)(Q:VK),Inv X pins σ H s->t σ H Q ->
  wpAny (model X.prog X.w) X.A (eval a X.env) (λv s₁=>wpAny (model X.prog X.w) X.A (eval b X.env) (λu s₂=>wpAny (model X.prog X.w) X.A (compareOp op v u) (EP X pins σ Q) X.xe s₂) X.xe s₁) X.xe s
theorem a2a (b:Expr){op:CmpOp}(h:op≠.In)(h2:op≠.NotIn):behindInMarks op b=false:=by
 have e1:(op == CmpOp.In)=false:=by cases op<;>first|rfl|exact absurd rfl h
 have e2:(op == CmpOp.NotIn)=false:=by cases op<;>first|rfl|exact absurd rfl h2
 cases b<;>simp[behindInMarks,e1,e2]
def tIsN (ta:TE):TE:=λσ H Q=>ta σ H λx H1=>Q (.bl (decide (x=.non))) H1
def d7c (ta:TE):TE:=λσ H Q=>ta σ H λx H1=>Q (.bl (!decide (x=.non))) H1
theorem RelV.none_iff {x:V}{v:Value}(r:RelV x v):(v == Value.none)=decide (x=.non):=by
 cases x with
 | non=>cases r;rfl
 | bl _=>cases r;rfl
 | int _=>obtain⟨t,rfl⟩:=r;rfl
 | str _=>obtain⟨t,rfl⟩:=r;rfl
 | byt _=>obtain⟨t,rfl⟩:=r;rfl
 | flt _=>obtain⟨t,rfl⟩:=r;rfl
 | ref _=>cases r;rfl
 | ty _=>cases r;rfl
theorem d2j {j pos'}(ha:PE X a ta):PC X .Is a (.Constant .none j pos') (tIsN ta):=by
 intro pins s σ H Q I h
 refine thn (ha pins s σ H _ I h) λv s1 ⟨x,H1,I1,r1,q1⟩=>?_
 exact Constant_none (is_none_gen ⟨.bl _,H1,I1,by rw[r1.none_iff];rfl,q1⟩)
theorem c7w {j pos'}(ha:PE X a ta):PC X .IsNot a (.Constant .none j pos') (d7c ta):=by
 intro pins s σ H Q I h
 refine thn (ha pins s σ H _ I h) λv s1 ⟨x,H1,I1,r1,q1⟩=>?_
 exact Constant_none (isnot_none_gen ⟨.bl _,H1,I1,by rw[r1.none_iff];rfl,q1⟩)
def tB (t:TE):TT:=λσ H Q=>t σ H λx H1=>∃ c,x=.bl c/\Q c H1
theorem c5b {op:CmpOp}{t:TE}(h:PC X op a b t)(h1:behindInMarks op b=false:=by first|exact a2a _ (by decide) (by decide)|rfl):PT X (.Compare a [op] [b] pos) (tB t):=by
 intro pins s σ H Q I hw
 refine wpAny_isTrue_Compare1 (thn (h pins s σ H _ I hw) λv s1 h1=>thn h1 λu s2 h2=>thn h2 λc s3 ⟨x,H1,I1,r1,q1⟩=>?_) h1
 obtain⟨d,rfl,q⟩:=q1
 cases r1
 exact wpAny_truthy_bool ⟨H1,I1,q⟩
variable {tA tB':TT}{rest:List Expr}
def tAnd (t u:TT):TT:=λσ H Q=>t σ H λc H1=>if c=true then u σ H1 Q else Q false H1
def tOr (t u:TT):TT:=λσ H Q=>t σ H λc H1=>if c=true then Q true H1 else u σ H1 Q
def tNot (t:TT):TT:=λσ H Q=>t σ H λc H1=>Q (!c) H1
theorem c7b (ha:PT X a tA):PW X (.BoolOp .And [a] pos) tA:=by
 intro wh pins s σ H Q I h
 refine isTrue_and (thn (ha pins s σ H Q I h) λc s1 e=>?_)
 cases c with
 | true=>exact isTrue_and_nil e
 | false=>exact e
theorem d1t (ha:PT X a tA):PW X (.BoolOp .Or [a] pos) tA:=by
 intro wh pins s σ H Q I h
 refine isTrue_or (thn (ha pins s σ H Q I h) λc s1 e=>?_)
 cases c with
 | false=>exact isTrue_or_nil e
 | true=>exact e
theorem d1u (ha:PT X a tA)(hb:PW X (.BoolOp .And (b :: rest) pos) tB'):PW X (.BoolOp .And (a :: b :: rest) pos) (tAnd tA tB'):=by
 intro wh pins s σ H Q I h
 refine isTrue_and (thn (ha pins s σ H _ I h) λc s1 ⟨H1,I1,q1⟩=>?_)
 cases c with
 | true=>exact hb wh pins s1 σ H1 Q I1 q1
 | false=>exact⟨H1,I1,q1⟩
theorem d8l (ha:PT X a tA)(hb:PW X (.BoolOp .Or (b :: rest) pos) tB'):PW X (.BoolOp .Or (a :: b :: rest) pos) (tOr tA tB'):=by
 intro wh pins s σ H Q I h
 refine isTrue_or (thn (ha pins s σ H _ I h) λc s1 ⟨H1,I1,q1⟩=>?_)
 cases c with
 | true=>exact⟨H1,I1,q1⟩
 | false=>exact hb wh pins s1 σ H1 Q I1 q1
theorem d1v (ha:PT X a tA):PT X (.UnaryOp .Not a pos) (tNot tA):=by
 intro pins s σ H Q I h
 exact isTrue_not (ha pins s σ H (λc H1=>Q (!c) H1) I h)
def d7b (ta:TE):TE:=λσ H Q=>ta σ H λx H1=>∃ c,x=.bl c/\Q (.bl (!c)) H1
theorem d2d {op}{t:TE}(h:PE X a t):PE X (.BoolOp op [a] pos) t:=λpins s σ H Q I hw=>BoolOp_one (h pins s σ H Q I hw)
theorem d2e (ha:PE X a ta):PE X (.UnaryOp .Not a pos) (d7b ta):=by
 intro pins s σ H Q I h
 refine UnaryOp_ (thn (ha pins s σ H _ I h) λv s1 ⟨x,H1,I1,r1,q1⟩=>?_)
 obtain⟨c,rfl,q1⟩:=q1
 cases r1
 exact not_of (wpAny_truthy_bool ⟨.bl (!c),H1,I1,rfl,q1⟩)
def tIf (t:TT)(ta tb:TE):TE:=λσ H Q=>t σ H λc H1=>if c=true then ta σ H1 Q else tb σ H1 Q
theorem c2u {c:Expr}(hc:PT X c tA)(ha:PE X a ta)(hb:PE X b tb):PE X (.IfExp c a b pos) (tIf tA ta tb):=by
 intro pins s σ H Q I h
 refine wpAny_IfExp (thn (hc pins s σ H _ I h) λd s1 ⟨H1,I1,q1⟩=>?_)
 cases d with
 | true=>exact ha pins s1 σ H1 Q I1 q1
 | false=>exact hb pins s1 σ H1 Q I1 q1
end
end L2
namespace L2
open PySem PySem.Spec PyProof.Rows
def SqL (K:Γd)(H:Hp)(a:Addr)(xs:List V):Prop :=
 Rd H a (.lst xs) ∨
  ∃ (o:Obj)(its:Array Value) (n:Nat),K.lookup a=some o/\o.cls=.type "list"/\o.dict=none/\o.data=.seq its n/\its.size<=sizeLine/\Vals xs its.toList
def SqT (K:Γd)(H:Hp)(a:Addr)(xs:List V):Prop :=
 Rd H a (.tup xs) ∨
  ∃ (o:Obj)(its:Array Value) (n:Nat),K.lookup a=some o/\o.cls=.type "tuple"/\o.data=.seq its n/\its.size<=sizeLine/\Vals xs its.toList
def absV:Value->Option V
 | .none=>some .non
 | .bool b=>some (.bl b)
 | .int i _=>some (.int i)
 | .str x _=>some (.str x)
 | .bytes b _=>some (.byt b)
 | .float b _=>some (.flt b)
 | .ref a=>some (.ref a)
 | .type n=>some (.ty n)
 | _=>none
theorem RelV.abs {x:V}{u:Value}(r:RelV x u):absV u=some x:=by
 cases x with
 | non=>cases r;rfl
 | bl _=>cases r;rfl
 | int _=>obtain⟨t,rfl⟩:=r;rfl
 | str _=>obtain⟨t,rfl⟩:=r;rfl
 | byt _=>obtain⟨t,rfl⟩:=r;rfl
 | flt _=>obtain⟨t,rfl⟩:=r;rfl
 | ref _=>cases r;rfl
 | ty _=>cases r;rfl
theorem RelV.inj {x y:V}{u:Value}(r:RelV x u)(q:RelV y u):x=y:=Option.some.inj (r.abs.symm.trans q.abs)
theorem Vals.inj:∀ {xs ys:List V}{us:List Value},Vals xs us->Vals ys us->xs=ys
 | _,_,_,.nil,.nil=>rfl
 | _,_,_,.cons r t,.cons r' t'=>by rw[r.inj r',Vals.inj t t']
section
variable {X:Cx}{pins:List (Addr×Obj)}{σ:St}{H:Hp}{s:Shared}{a:Addr}{xs ys:List V}
theorem SqL.of {K:Γd}(h:H a=some (.lst xs)):SqL K H a xs:=.inl (.inl h)
theorem SqT.of {K:Γd}(h:H a=some (.tup xs)):SqT K H a xs:=.inl (.inl h)
theorem Inv.list (I:Inv X pins σ H s)(h:SqL X.K H a xs):∃ its:List Value,Vals xs its/\PlainL s.heap a its.toArray/\xs.length<=sizeLine:=by
 rcases h with h|⟨o,its,n,hk,hc,hd,hs,hz,r⟩
 ·obtain⟨z,its,n,r,e⟩:=h.ok I.hok
  exact⟨its,r,⟨_,n,e,rfl,rfl,rfl⟩,z⟩
 ·refine⟨its.toList,r,⟨o,n,I.kIn a o hk,hc,hd,by simpa using hs⟩,?_⟩
  have e:=r.length
  simp only[Array.length_toList] at e
  lia
theorem Inv.tuple (I:Inv X pins σ H s)(h:SqT X.K H a xs):∃ its:List Value,Vals xs its/\IsTup s.heap a its.toArray/\xs.length<=sizeLine:=by
 rcases h with h|⟨o,its,n,hk,hc,hs,hz,r⟩
 ·obtain⟨z,its,r,p⟩:=h.ok I.hok
  exact⟨its,r,p,z⟩
 ·refine⟨its.toList,r,⟨o,I.kIn a o hk,hc,n,by simpa using hs⟩,?_⟩
  have e:=r.length
  simp only[Array.length_toList] at e
  lia
theorem Inv.list_inj (I:Inv X pins σ H s)(h:SqL X.K H a xs)(h':SqL X.K H a ys):xs=ys:=by
 obtain⟨its,r,⟨o,n,e,_,_,d⟩,_⟩:=I.list h
 obtain⟨its',r',⟨o',n',e',_,_,d'⟩,_⟩:=I.list h'
 rw[e] at e';cases e'
 rw[d] at d'
 injection d' with d1 _
 have:its=its':=by simpa using congrArg Array.toList d1
 subst this
 exact r.inj r'
theorem Inv.tuple_inj (I:Inv X pins σ H s)(h:SqT X.K H a xs)(h':SqT X.K H a ys):xs=ys:=by
 obtain⟨its,r,⟨o,e,_,n,d⟩,_⟩:=I.tuple h
 obtain⟨its',r',⟨o',e',_,n',d'⟩,_⟩:=I.tuple h'
 rw[e] at e';cases e'
 rw[d] at d'
 injection d' with d1 _
 have:its=its':=by simpa using congrArg Array.toList d1
 subst this
 exact r.inj r'
end
abbrev Cx.wish (X:Cx)(E:Value->Shared->Prop):Cx:={ X with xe:=E }
abbrev Cx.nox (X:Cx):Cx:=X.wish λ_ _=>False
theorem Cx.Ok.wish {X:Cx}(ok:X.Ok)(E:Value->Shared->Prop):(X.wish E).Ok :=
 ⟨ok.mod,ok.kind,ok.glob,ok.blt,ok.above,ok.inj,ok.has,ok.cab,ok.hd,ok.frames,ok.stk,ok.exf,ok.bs,ok.bsz,ok.noex,ok.exfs,ok.funs,ok.frf⟩
theorem Cx.Ok.unwish {X:Cx}{E:Value->Shared->Prop}(ok:(X.wish E).Ok):X.Ok :=
 ⟨ok.mod,ok.kind,ok.glob,ok.blt,ok.above,ok.inj,ok.has,ok.cab,ok.hd,ok.frames,ok.stk,ok.exf,ok.bs,ok.bsz,ok.noex,ok.exfs,ok.funs,ok.frf⟩
section
variable {X:Cx}{pins:List (Addr×Obj)}{σ:St}{H:Hp}{s:Shared}{E:Value->Shared->Prop}
theorem Inv.wish (I:Inv X pins σ H s)(E:Value->Shared->Prop):Inv (X.wish E) pins σ H s:=⟨I.ok.wish E,I.os,I.bare,I.base,I.loc,I.cell,I.free,I.freeC,I.pin,I.hok,I.len⟩
theorem Inv.unwish (I:Inv (X.wish E) pins σ H s):Inv X pins σ H s:=⟨I.ok.unwish,I.os,I.bare,I.base,I.loc,I.cell,I.free,I.freeC,I.pin,I.hok,I.len⟩
theorem SP.unwish {D:Ends}{f:Flow}{s':Shared}(h:SP (X.wish E) pins D f s'):SP X pins D f s':=by
 cases f with
 | next=>obtain⟨σ',H',I,q⟩:=h;exact⟨σ',H',I.unwish,q⟩
 | brk=>obtain⟨σ',H',I,q⟩:=h;exact⟨σ',H',I.unwish,q⟩
 | cont=>obtain⟨σ',H',I,q⟩:=h;exact⟨σ',H',I.unwish,q⟩
 | ret u=>obtain⟨v,σ',H',I,r,q⟩:=h;exact⟨v,σ',H',I.unwish,r,q⟩
theorem PSs.nox {st:List Stmt}{t:TS}(h:PSs X.nox st t):PSs X st t:=λpins s σ H D I hw =>
 wpAny_mono (h pins s σ H D (I.wish _) hw) (λ_ _ q=>q.unwish) λ_ _ z=>False.elim z
end
section
variable {X:Cx}{st:Stmt}{rest:List Stmt}{t u:TS}{e:Expr}{te:TE}{pos:Pos}
def d7d:TS:=λD σ H=>D.nx σ H
def tSeq (t u:TS):TS:=λD σ H=>t { D with nx:=u D } σ H
theorem c7g:PSs X [] d7d:=λ_ _ σ H _ I h=>wpAny_execs_nil ⟨σ,H,I,h⟩
theorem c2p (h1:PS X st t)(h2:PSs X rest u):PSs X (st :: rest) (tSeq t u):=by
 intro pins s σ H D I h
 refine wpAny_execs_cons (thn (h1 pins s σ H { D with nx:=u D } I h) λf s1 q=>?_)
 cases f with
 | next =>
  obtain⟨σ',H',I',q⟩:=q
  exact h2 pins s1 σ' H' D I' q
 | ret v=>exact q
 | brk=>exact q
 | cont=>exact q
theorem c7f (h1:PS X st t):PSs X [st] t:=by
 intro pins s σ H D I h
 refine wpAny_execs_cons (thn (h1 pins s σ H D I h) λf s1 q=>?_)
 cases f with
 | next=>exact wpAny_execs_nil q
 | ret v=>exact q
 | brk=>exact q
 | cont=>exact q
theorem Inv.quiet {pins:List (Addr×Obj)}{σ:St}{H:Hp}{s:Shared}(I:Inv X pins σ H s):interactive X.env=false:=by simp[interactive,I.ok.kind]
def d7e (te:TE):TS:=λD σ H=>te σ H λ_ H1=>D.nx σ H1
theorem c7i (he:PE X e te)(hs:swapsWith e none pos.line X.env=pure false:=by rfl):PS X (.Expr e pos) (d7e te):=by
 intro pins s σ H D I h
 exact wpAny_Expr_any (thn (he pins s σ H _ I h) λv s1 ⟨x,H1,I1,r1,q1⟩=>⟨σ,H1,I1,q1⟩) I.quiet hs
def tRet (te:TE):TS:=λD σ H=>te σ H D.rt
theorem b8k (he:PE X e te):PS X (.Return (some e) pos) (tRet te):=by
 intro pins s σ H D I h
 exact wpAny_Return_some (thn (he pins s σ H _ I h) λv s1 ⟨x,H1,I1,r1,q1⟩=>⟨x,σ,H1,I1,r1,q1⟩)
def tIfS (c:TT)(t u:TS):TS:=λD σ H=>c σ H λb H1=>if b=true then t D σ H1 else u D σ H1
theorem d8m {c:Expr}{a b:List Stmt}{tc:TT}(hc:PT X c tc)(ha:PSs X a t)(hb:PSs X b u):PS X (.If c a b pos) (tIfS tc t u):=by
 intro pins s σ H D I h
 refine wpAny_If (thn (hc pins s σ H _ I h) λd s1 ⟨H1,I1,q1⟩=>?_)
 cases d with
 | true=>exact ha pins s1 σ H1 D I1 q1
 | false=>exact hb pins s1 σ H1 D I1 q1
end
abbrev TG:=V->St->Hp->(St->Hp->Prop)->Prop
abbrev TGs:=List V->St->Hp->(St->Hp->Prop)->Prop
def PG (X:Cx)(target:Expr)(t:TG):Prop :=
 ∀ (pins:List (Addr×Obj))(s:Shared)(σ:St)(H:Hp)(v:V)(u:Value)(Q:St->Hp->Prop),Inv X pins σ H s->RelV v u->t v σ H Q ->
  wpAny (model X.prog X.w) X.A (assign target X.env u) (λ_ s'=>∃ σ' H',Inv X pins σ' H' s'/\Q σ' H') X.xe s
def PGs (X:Cx)(ts:List Expr)(t:TGs):Prop :=
 ∀ (pins:List (Addr×Obj))(s:Shared)(σ:St)(H:Hp)(vs:List V)(us:List Value)(Q:St->Hp->Prop),Inv X pins σ H s->Vals vs us->t vs σ H Q ->
  wpAny (model X.prog X.w) X.A (assignInOrder ((assignEach ts X.env).map (·.2)) us) (λ_ s'=>∃ σ' H',Inv X pins σ' H' s'/\Q σ' H') X.xe s
abbrev e4h:=V->V->V->Hp->(Hp->Prop)->Prop
def PSet (X:Cx)(t:e4h):Prop :=
 ∀ (pins:List (Addr×Obj))(s:Shared)(σ:St)(H:Hp)(o i v:V)(ov iv u:Value)(Q:Hp->Prop),Inv X pins σ H s->RelV o ov->RelV i iv->RelV v u->t o i v H Q ->
  wpAny (model X.prog X.w) X.A (setItem ov iv u) (λ_ s'=>∃ H',Inv X pins σ H' s'/\Q H') X.xe s
abbrev TIp:=V->V->Hp->VK->Prop
def PIp (X:Cx)(op:Operator)(t:TIp):Prop :=
 ∀ (pins:List (Addr×Obj))(s:Shared)(σ:St)(H:Hp)(x y:V)(v u:Value)(Q:VK),Inv X pins σ H s->RelV x v->RelV y u->t x y H Q ->
  wpAny (model X.prog X.w) X.A (inplaceOp op v u) (EP X pins σ Q) X.xe s
section
variable {X:Cx}{pos:Pos}
def a6r (i:Nat):TG:=λv σ H Q=>Q (σ.set i (some v)) H
theorem c7p {i:Nat}{x:Str}(hN:X.N.Nodup)(hi:X.N[i]?=some x)(hx:Loc X.env.scope x)(hf:X.fn x=true ∨ X.env.scope.names.lookup x=some .local:=by first|exact .inl rfl|exact .inr rfl|assumption):PG X (.Name x pos) (a6r i):=by
 intro pins s σ H v u Q I r h
 exact wpAny_assign_Name (a8p I hN hi hx r (λs' I'=>⟨_,H,I',h⟩) hf)
def d9u:TGs:=λvs σ H Q=>vs=[]/\Q σ H
def c3v (t:TG)(u:TGs):TGs:=λvs σ H Q=>∃ v r,vs=v :: r/\t v σ H λσ' H'=>u r σ' H' Q
theorem b8q:PGs X [] d9u:=by
 intro pins s σ H vs us Q I r h
 obtain⟨e,h⟩:=h
 subst e
 cases r
 exact assignInOrder_nil ⟨σ,H,I,h⟩
theorem a8x {e:Expr}{es:List Expr}{t:TG}{u:TGs}(h1:PG X e t)(h2:PGs X es u)
  (hs:(assignEach (e :: es) X.env).map (·.2)=assign e X.env :: (assignEach es X.env).map (·.2):=by rfl):PGs X (e :: es) (c3v t u):=by
 intro pins s σ H vs us Q I r h
 obtain⟨v,vr,e1,h⟩:=h
 subst e1
 cases r with
 | cons r rr =>
  rw[hs]
  refine assignInOrder_cons (thn (h1 pins s σ H _ _ _ I r h) λ_ s1 ⟨σ1,H1,I1,q1⟩=>?_)
  exact h2 pins s1 σ1 H1 _ _ Q I1 rr q1
def d5p (K:Γd) (n:Nat)(t:TGs):TG:=λv σ H Q=>∃ a xs,v=.ref a/\SqT K H a xs/\xs.length=n/\t xs σ H Q
theorem c5d {es:List Expr}{k:Nat}{t:TGs}{n:Nat}(hc:X.calm=true)(h:PGs X es t)
  (hn:(assignEach es X.env).length=n:=by rfl)(hst:(assignEach es X.env).findIdx? (·.1)=none:=by rfl):PG X (.Tuple es k pos) (d5p X.K n t):=by
 intro pins s σ H v u Q I r hw
 obtain⟨a,xs,e1,hq,hl,hw⟩:=hw
 subst e1
 cases r
 obtain⟨its,rv,ht,hz⟩:=I.tuple hq
 refine assign_Tuple_tuple (I.ok.hd hc) ht (by simp[hn,<- hl,rv.length]) hst λh' hx=>?_
 have I1:Inv X pins σ H { s with heap:=h' }:=I.kept (t':=s.toks) λb o e=>hx b o (Γo (Γl e)) e
 exact h pins _ σ H xs _ Q I1 (by simpa using rv) hw
def gSub (to ti:TE)(t:e4h):TG:=λv σ H Q=>to σ H λo H1=>ti σ H1 λi H2=>t o i v H2 λH3=>Q σ H3
theorem d2b {o i:Expr}{to ti:TE}{t:e4h}(ho:PE X o to)(hi:PE X i ti)(hs:PSet X t)
  (ha:∀ v,assign (.Subscript o i pos) X.env v=(do
   let ov <- holding [v] (eval o X.env)
   let iv <- holding [v,ov] (eval i X.env)
   standAt pos
   holding [v,ov,iv] (setItem ov iv v)
   release [v,ov,iv] []):=by intro _;rfl):PG X (.Subscript o i pos) (gSub to ti t):=by
 intro pins s σ H v u Q I r h
 rw[ha]
 refine Γa (Γg (thn (ho pins s σ H _ I h) λov s1 ⟨x,H1,I1,r1,q1⟩=>?_))
 refine Γa (Γg (thn (hi pins s1 σ H1 _ I1 q1) λiv s2 ⟨y,H2,I2,r2,q2⟩=>?_))
 refine Γa (wpAny_standAt (Γa (Γg (thn (hs pins s2 σ H2 x y v ov iv u _ I2 r1 r2 r q2) λ_ s3 ⟨H3,I3,q3⟩=>?_))))
 exact wpAny_release ⟨σ,H3,I3,q3⟩
def c4w (te:TE)(g:TG):TS:=λD σ H=>te σ H λx H1=>g x σ H1 D.nx
theorem b8l {tg e:Expr}{te:TE}{g:TG}(he:PE X e te)(hg:PG X tg g)(hs:swapsWithSole [tg] e pos.line X.env=pure false:=by rfl)(hw:swappedStores [tg] e X.env=pure none:=by rfl)
  (h1:(assignEach [tg] X.env).map (·.2)=[assign tg X.env]:=by rfl):PS X (.Assign [tg] e pos) (c4w te g):=by
 intro pins s σ H D I h
 refine wpAny_Assign_stores (thn (he pins s σ H _ I h) λv s1 ⟨x,H1,I1,r1,q1⟩=>?_) hs hw
 rw[h1]
 exact thn (hg pins s1 σ H1 x v _ I1 r1 q1) λ_ s2 q=>q
theorem d1x {i:Nat}{x:Str}{e:Expr}{te:TE}{pos':Pos}(hN:X.N.Nodup)(hi:X.N[i]?=some x)(hx:Loc X.env.scope x)(he:PE X e te)(hs:swapsWith e (some (.Name x pos')) pos.line X.env=pure false:=by rfl)(hf:X.fn x=true ∨ X.env.scope.names.lookup x=some .local:=by first|exact .inl rfl|exact .inr rfl|assumption) :
  PS X (.Assign [.Name x pos'] e pos) (c4w te (a6r i)):=by
 intro pins s σ H D I h
 refine wpAny_Assign_Name (thn (he pins s σ H _ I h) λv s1 ⟨y,H1,I1,r1,q1⟩=>?_) hs
 exact a8p I1 hN hi hx r1 (λs2 I2=>⟨_,H1,I2,q1⟩) hf
def tAug (i:Nat)(te:TE)(ti:TIp):TS:=λD σ H=>∃ x,σ[i]?=some (some x)/\te σ H λy H1=>ti x y H1 λz H2=>D.nx (σ.set i (some z)) H2
theorem d1z {i:Nat}{x:Str}{e:Expr}{te:TE}{op:Operator}{ti:TIp}{pos':Pos}(hN:X.N.Nodup)(hi:X.N[i]?=some x)(hx:Loc X.env.scope x)(he:PE X e te)(ho:PIp X op ti)(hf:X.fn x=true ∨ X.env.scope.names.lookup x=some .local:=by first|exact .inl rfl|exact .inr rfl|assumption) :
  PS X (.AugAssign (.Name x pos') op e pos) (tAug i te ti):=by
 intro pins s σ H D I h
 obtain⟨v,e1,h⟩:=h
 obtain⟨m,hn,hl⟩:=I.loc
 have vis:Vis X.env.scope x:=by rcases hx with k|k;exact .inl k;exact .inr (.inl k)
 obtain⟨u,r,l⟩:=hl i x v hi e1 vis
 refine wpAny_AugAssign_Name ?_
 have go:wpAny (model X.prog X.w) X.A (eval e X.env) (λw s₂=>wpAny (model X.prog X.w) X.A (inplaceOp op u w) (λr s₃=>wpAny (model X.prog X.w) X.A (storeName X.env x r) (λ_=>SP X pins D .next) X.xe s₃) X.xe s₂) X.xe s:=by
  refine thn (he pins s σ H _ I h) λw s1 ⟨y,H1,I1,r1,q1⟩=>?_
  refine thn (ho pins s1 σ H1 v y u w _ I1 r r1 q1) λz s2 ⟨zv,H2,I2,r2,q2⟩=>?_
  exact a8p I2 hN hi hx r2 (λs3 I3=>⟨_,H2,I3,q2⟩) hf
 rcases l with⟨hk,hm⟩|⟨hk,c,hc,hcell⟩
 ·exact wpAny_loadName_local I.ok.kind hk hn hm go
 ·rcases hk with hk|hk
  ·exact wpAny_loadName_cell I.ok.kind hk hc hcell go
  ·rcases hx with k|k
   ·have:X.env.scope.names.lookup x=some .free:=hk
    rw[k] at this;cases this
   ·have:X.env.scope.names.lookup x=some .free:=hk
    rw[k] at this;cases this
def ipI (f:Int->Int->Int):TIp:=λx y H Q=>∃ i j,x=.int i/\y=.int j/\Q (.int (f i j)) H
theorem d3q:PIp X .Add (ipI λi j=>i+j):=by
 intro pins s σ H x y v u Q I r1 r2 h
 obtain⟨i,j,e1,e2,q⟩:=h
 subst e1;subst e2
 obtain⟨t,rfl⟩:=r1
 obtain⟨t',rfl⟩:=r2
 exact iadd_int ⟨.int _,H,I.tok _,⟨_,rfl⟩,q⟩
end
section
variable {X:Cx}{pos:Pos}
def c4u (c:TT)(tb:TS):TS:=λD σ H=>∃ W:Nat->St->Hp->Prop,(∃ m,W m σ H)/\∀ m σ H,W m σ H ->
 c σ H λb H1=>if b=true then ∃ N:St->Hp->Prop,(∀ σ' H',N σ' H'->∃ m',m'<m/\W m' σ' H')/\tb { D with nx:=N,ct:=N,bk:=D.nx } σ H1 else D.nx σ H1
theorem c2q {c:Expr}{body:List Stmt}{tc:TT}{tb:TS}(hp:PassesOwn (model X.prog X.w) X.A X.env X.xe)(hc:PT X c tc)(hb:PSs X body tb):PS X (.While c body [] pos) (c4u tc tb):=by
 intro pins s σ H D I h
 obtain⟨W,⟨m0,w0⟩,turn⟩:=h
 refine wpAny_While (codeAny_whileLoop (λn s'=>∃ σ' H',Inv X pins σ' H' s'/\W n σ' H') ?_ m0 ⟨σ,H,I,w0⟩)
 rintro n s1 ⟨σ1,H1,I1,w1⟩
 refine wpAny_passesOwn hp (thn (hc pins s1 σ1 H1 _ I1 (turn n σ1 H1 w1)) λb s2 ⟨H2,I2,q2⟩=>?_)
 cases b with
 | true =>
  obtain⟨N,hN,q2⟩:=q2
  rw[if_pos rfl]
  refine wpAny_passesOwn hp (thn (hb pins s2 σ1 H2 _ I2 q2) λf s3 q3=>?_)
  cases f with
  | next =>
   obtain⟨σ3,H3,I3,n3⟩:=q3
   obtain⟨m',hm,w3⟩:=hN σ3 H3 n3
   exact⟨m',hm,σ3,H3,I3,w3⟩
  | cont =>
   obtain⟨σ3,H3,I3,n3⟩:=q3
   obtain⟨m',hm,w3⟩:=hN σ3 H3 n3
   exact⟨m',hm,σ3,H3,I3,w3⟩
  | brk=>exact q3
  | ret v=>exact q3
 | false =>
  rw[if_neg Γk]
  exact wpAny_execs_nil ⟨σ1,H2,I2,q2⟩
end
structure It where
 go:Nat->Hp->Prop
 yld:Nat->Hp->V->Hp->Prop
 stop:Nat->Hp->Prop
def a9x (X:Cx)(pins:List (Addr×Obj))(H:Hp)(b:Addr):Prop :=
 H b=none/\b≠X.env.locals/\b ∉ X.fs/\(b∈X.ex ∨ X.s₀.heap.objs.size<=b)/\(∀ x c,X.env.cells.lookup x=some c->c≠b)/\∀ p∈X.pn++pins,p.1≠b
theorem Inv.fpOk {X:Cx}{pins:List (Addr×Obj)}{σ:St}{H H':Hp}{s:Shared}{b:Addr}(I:Inv X pins σ H s)(hb:s.heap.objs.size<=b)(hn:H' b=none):a9x X pins H' b:=by
 refine⟨hn,Nat.ne_of_gt (Nat.lt_of_lt_of_le I.lt hb),I.nofs hb,.inr (Nat.le_trans I.sz hb),λx c e z=>?_,λp hp z=>?_⟩
 ·obtain⟨v,q⟩:=I.cell x c e
  exact absurd (Nat.lt_of_lt_of_le q.lt (by rw[z];exact hb)) (Nat.lt_irrefl _)
 ·exact absurd (Nat.lt_of_lt_of_le (Γl (I.pin p hp).1) (by rw[z];exact hb)) (Nat.lt_irrefl _)
structure Turn (P:Program)(w:World)(K:Γd)(tg:Expr)(J:It)(fp:List Addr)(it:Addr)(tn:Nat->Heap->Prop):Prop where
 mem:it∈fp
 obj:∀ i h,tn i h->∀ b∈fp,∃ o,h.get? b=some o/\∀ v,o.data≠.cell v
 keep:∀ i h h',tn i h->(∀ b∈fp,∀ o,h.get? b=some o->h'.get? b=some o)->tn i h'
 item:∀ (X:Cx),X.prog=P->X.w=w->X.K=K->X.calm=true->∀ (i:Nat)(pins:List (Addr×Obj))(s:Shared)(σ:St)(H:Hp)(E:Value->Shared->Prop),Inv X pins σ H s->(∀ b∈fp,a9x X pins H b)->tn i s.heap->J.go i H ->
  wpAny (model P w) X.A (pyNext (.ref it)) (λr s1=>∃ u,r=some u /\
   wpAny (model P w) X.A (letOwnedTupleGo tg (.ref it) u) (λ_ s2=>∃ x H',Inv X pins σ H' s2/\RelV x u/\J.yld i H x H'/\tn (i+1) s2.heap/\∀ b∈fp,H' b=none) E s1) E s
 done:∀ (X:Cx),X.prog=P->X.w=w->X.K=K->X.calm=true->∀ (i:Nat)(pins:List (Addr×Obj))(s:Shared)(σ:St)(H:Hp)(E:Value->Shared->Prop),Inv X pins σ H s->(∀ b∈fp,a9x X pins H b)->tn i s.heap->J.stop i H ->
  wpAny (model P w) X.A (pyNext (.ref it)) (λr s1=>r=none/\Inv X pins σ H s1) E s
 self:∀ (A:Around) (i:Nat)(s:Shared)(Q:Value->Shared->Prop)(E:Value->Shared->Prop),tn i s.heap->Q (.ref it) s->wpAny (model P w) A (pyIter (.ref it)) Q E s
abbrev TI:=St->Hp->(It->Hp->Prop)->Prop
def PIE (X:Cx)(pins:List (Addr×Obj))(σ:St)(tg:Expr)(R:It->Hp->Prop)(itv:Value)(s2:Shared):Prop :=
 ∃ (it:Addr)(fp:List Addr)(tn:Nat->Heap->Prop)(J:It)(H':Hp),itv=.ref it/\Inv X pins σ H' s2/\Turn X.prog X.w X.K tg J fp it tn/\tn 0 s2.heap/\(∀ b∈fp,a9x X pins H' b)/\R J H'
def PI (X:Cx)(tg iter:Expr)(wi:TI):Prop :=
 ∀ (pins:List (Addr×Obj))(s:Shared)(σ:St)(H:Hp)(R:It->Hp->Prop),Inv X pins σ H s->wi σ H R ->
  wpAny (model X.prog X.w) X.A (eval iter X.env) (λv s1=>wpAny (model X.prog X.w) X.A (pyIter v) (PIE X pins σ tg R) X.xe s1) X.xe s
theorem c3t {M : Model} {A : Around} {E : Value -> Shared -> Prop} {s : Shared} {tg : Expr} {it : Addr} {u : Value} {o : Obj} {n : String} {vs : Array Value} {Q : Unit -> Shared -> Prop} (ho : s.heap.get? it = some o) (hc : o.cls = .type n) (hd : o.data = .fields vs)
    (hn:["enumerate","zip","dict_itemiterator","dict_reverseitemiterator","odict_iterator","itertools.zip_longest","itertools.pairwise"].contains n=false) (hQ:Q () s):wpAny M A (letOwnedTupleGo tg (.ref it) u) Q E s:=by
  unfold letOwnedTupleGo
  cases tg<;>first
    | exact Γb hQ
    | (cases u <;> first
        | exact Γb hQ
        | (refine Γa (wpAny_load ho ?_)
           rw [hc, hd]
           show wpAny M A (if (["enumerate", "zip", "dict_itemiterator", "dict_reverseitemiterator", "odict_iterator", "itertools.zip_longest", "itertools.pairwise"].contains n && vs[0]? == some (rawInt _)) = true then _ else _) Q E s
           rw [if_neg (by intro h; rw [hn, Bool.false_and] at h; cases h)]
           exact Γb hQ))
def Itl (K:Γd)(a:Addr):It :=
 ⟨λi H=>∃ xs x,SqL K H a xs/\xs[i]?=some x,λi H x H'=>H'=H/\∀ xs,SqL K H a xs->xs[i]?=some x,λi H=>∃ xs,SqL K H a xs/\xs.length<=i⟩
def Itt (K:Γd)(a:Addr):It :=
 ⟨λi H=>∃ xs x,SqT K H a xs/\xs[i]?=some x,λi H x H'=>H'=H/\∀ xs,SqT K H a xs->xs[i]?=some x,λi H=>∃ xs,SqT K H a xs/\xs.length<=i⟩
def Itr (lo:Int) (n:Nat):It:=⟨λi _=>i<n,λi H x H'=>H'=H/\x=.int (lo+i),λi _=>n<=i⟩
theorem b7j {P:Program}{w:World}{K:Γd}{tg:Expr}(a it:Addr):Turn P w K tg (Itl K a) [it] it (λi h=>h.IsListIter it a i) where
 mem:=by simp
 obj:=λi h st b hb=>by
  have e:b=it:=by simpa using hb
  subst e
  obtain⟨o,e,c,d⟩:=st
  exact⟨o,e,λv z=>by rw[d] at z;cases z⟩
 keep:=λi h h' st k=>st.at λo e=>k it (by simp) o e
 item:=by
  intro X hP hw hK hc i pins s σ H E I hf st hg
  subst hP hw hK
  obtain⟨xs,x,hq,hx⟩:=hg
  obtain⟨its,rv,p,hz⟩:=I.list hq
  obtain⟨u,hu,ru⟩:=rv.get hx
  obtain⟨f0,f1,f2,f3,f4,f5⟩:=hf it (by simp)
  refine wpAny_pyNext_list_item st p.isList (x:=u) (by simpa using hu) λh' st' sb=>?_
  have I1:Inv X pins σ H { s with heap:=h' }:=I.turned (t':=s.toks) (λb o hb e=>(sb.2 b hb).trans e) f0 f1 f3 f4 f5
  obtain⟨o,e,c,d⟩:=id st'
  exact⟨u,rfl,c3t (s:={ s with heap:=h' }) e c d (by decide) ⟨x,H,I1,ru,⟨rfl,λys hy=>by rw[I.list_inj hy hq];exact hx⟩,st',λb hb=>(hf b hb).1⟩⟩
 done:=by
  intro X hP hw hK hc i pins s σ H E I hf st hg
  subst hP hw hK
  obtain⟨xs,hq,hx⟩:=hg
  obtain⟨its,rv,p,hz⟩:=I.list hq
  obtain⟨f0,f1,f2,f3,f4,f5⟩:=hf it (by simp)
  have hl:=rv.length
  exact wpAny_pyNext_list_end (I.ok.hd hc) st p.isList (by simp;lia) λh' eb=>⟨rfl,I.turned (t':=s.toks) (λb o hb e=>eb b o hb e) f0 f1 f3 f4 f5⟩
 self:=λ_ _ _ _ _ st h=>wpAny_pyIter_listiter st h
theorem b5i {P:Program}{w:World}{K:Γd}{tg:Expr}(a it:Addr):Turn P w K tg (Itt K a) [it] it (λi h=>h.IsTupleIter it a i) where
 mem:=by simp
 obj:=λi h st b hb=>by
  have e:b=it:=by simpa using hb
  subst e
  obtain⟨o,e,c,d⟩:=st
  exact⟨o,e,λv z=>by rw[d] at z;cases z⟩
 keep:=λi h h' st k=>st.at λo e=>k it (by simp) o e
 item:=by
  intro X hP hw hK hc i pins s σ H E I hf st hg
  subst hP hw hK
  obtain⟨xs,x,hq,hx⟩:=hg
  obtain⟨its,rv,p,hz⟩:=I.tuple hq
  obtain⟨u,hu,ru⟩:=rv.get hx
  obtain⟨f0,f1,f2,f3,f4,f5⟩:=hf it (by simp)
  refine wpAny_pyNext_tuple_item st (show s.heap.IsTuple a its.toArray from p) (x:=u) (by simpa using hu) λh' st' sb=>?_
  have I1:Inv X pins σ H { s with heap:=h' }:=I.turned (t':=s.toks) (λb o hb e=>(sb.2 b hb).trans e) f0 f1 f3 f4 f5
  obtain⟨o,e,c,d⟩:=id st'
  exact⟨u,rfl,c3t (s:={ s with heap:=h' }) e c d (by decide) ⟨x,H,I1,ru,⟨rfl,λys hy=>by rw[I.tuple_inj hy hq];exact hx⟩,st',λb hb=>(hf b hb).1⟩⟩
 done:=by
  intro X hP hw hK hc i pins s σ H E I hf st hg
  subst hP hw hK
  obtain⟨xs,hq,hx⟩:=hg
  obtain⟨its,rv,p,hz⟩:=I.tuple hq
  obtain⟨f0,f1,f2,f3,f4,f5⟩:=hf it (by simp)
  have hl:=rv.length
  exact wpAny_pyNext_tuple_end (I.ok.hd hc) st (show s.heap.IsTuple a its.toArray from p) (by simp;lia) λh' eb=>⟨rfl,I.turned (t':=s.toks) (λb o hb e=>eb b o hb e) f0 f1 f3 f4 f5⟩
 self:=λ_ _ _ _ _ st h=>wpAny_pyIter_tupleiter st h
theorem b5j {P:Program}{w:World}{K:Γd}{tg:Expr}(it:Addr) (lo:Int) (n:Nat):Turn P w K tg (Itr lo n) [it] it (λi h=>IsRangeIter h it (lo+(i:Nat)*1) ((n:Int)-(i:Nat)) 1) where
 mem:=by simp
 obj:=λi h st b hb=>by
  have e:b=it:=by simpa using hb
  subst e
  exact⟨_,st,λv z=>by
   have z':Data.fields _=Data.cell v:=z
   cases z'⟩
 keep:=λi h h' st k=>k it (by simp) _ st
 item:=by
  intro X hP hw hK hc i pins s σ H E I hf st hg
  subst hP hw hK
  obtain⟨f0,f1,f2,f3,f4,f5⟩:=hf it (by simp)
  have W:=Walks.range (prog:=X.prog) (w:=X.w) (I.ok.hd hc) it lo 1 n
  refine W.item i s _ _ hg st λv h' tk hv st' kk=>?_
  obtain⟨t,rfl⟩:=hv
  have I1:Inv X pins σ H { s with heap:=h',toks:=tk }:=I.turned (λb o hb e=>kk b o (by simpa using hb) e) f0 f1 f3 f4 f5
  refine⟨_,rfl,c3t (s:={ s with heap:=h',toks:=tk }) (n:="range_iterator") st' rfl rfl (by decide) ⟨.int (lo+i),H,I1,⟨t,?_⟩,⟨rfl,rfl⟩,st',λb hb=>(hf b hb).1⟩⟩
  rw[Int.mul_one]
 done:=by
  intro X hP hw hK hc i pins s σ H E I hf st hg
  subst hP hw hK
  obtain⟨f0,f1,f2,f3,f4,f5⟩:=hf it (by simp)
  exact wpAny_pyNext_range_end (I.ok.hd hc) st (by have:n<=i:=hg;lia) λh' eb=>⟨rfl,I.turned (t':=s.toks) (λb o hb e=>eb b o hb e) f0 f1 f3 f4 f5⟩
 self:=λ_ _ _ _ _ st h=>wpAny_pyIter_rangeiter st h
end L2
namespace L2
open PySem PySem.Spec PyProof.Rows
section
variable {X:Cx}{tg:Expr}
theorem b4a {pins:List (Addr×Obj)}{σ:St}{H:Hp}{s:Shared}{R:It->Hp->Prop}{E:Value->Shared->Prop}{lo hi:Int}{t u v:Tok}{tk:Nat}(I:Inv X pins σ H s)(h1:-(2 ^ 62)<=lo)(h2:lo<2 ^ 62)(h3:-(2 ^ 62)<=hi)(h4:hi<2 ^ 62)
  (q:R (Itr lo (hi-lo).toNat) H):wpAny (model X.prog X.w) X.A (pyIter (.ref s.heap.objs.size)) (PIE X pins σ tg R) E { s with heap:=s.heap.push { cls:=.type "range",data:=.fields #[.int lo t,.int hi u,.int 1 v] },toks:=tk }:=by
 refine wpAny_pyIter_range (IsRange.new ..) (small_one h1 h2 h3 h4) ?_
 have I1:Inv X pins σ H { s with heap:=s.heap.push { cls:=.type "range",data:=.fields #[.int lo t,.int hi u,.int 1 v] },toks:=tk }:=I.kept λb o e=>Γc _ e
 refine⟨(s.heap.push { cls:=.type "range",data:=.fields #[.int lo t,.int hi u,.int 1 v] }).objs.size,[(s.heap.push { cls:=.type "range",data:=.fields #[.int lo t,.int hi u,.int 1 v] }).objs.size],_,_,H,rfl,
  I1.kept (t':=tk) λb o e=>Γc _ e,b5j _ lo (hi-lo).toNat,?_,λb hb=>?_,q⟩
 ·have e1:lo+((0:Nat):Int)*1=lo:=by simp
  have e2:(((hi-lo).toNat:Nat):Int)-((0:Nat):Int)=Builtin.Range.rangeSize lo hi 1:=by rw[rangeSize_one];split<;>lia
  show IsRangeIter _ _ (lo+((0:Nat):Int)*1) ((((hi-lo).toNat:Nat):Int)-((0:Nat):Int)) 1
  rw[e1,e2]
  exact Γm _ rfl
 ·have e:b=(s.heap.push { cls:=.type "range",data:=.fields #[.int lo t,.int hi u,.int 1 v] }).objs.size:=by simpa using hb
  subst e
  exact I1.fpOk (Γi _) (I1.hok.fresh (Γi _))
def d9t (ta:TA):TI:=λσ H R=>ta σ H λvs H1=>∃ j:Int,vs=[.int j]/\-(2 ^ 62)<=j/\j<2 ^ 62/\R (Itr 0 j.toNat) H1
def iRng2 (ta:TA):TI:=λσ H R=>ta σ H λvs H1=>∃ i j:Int,vs=[.int i,.int j]/\(-(2 ^ 62)<=i/\i<2 ^ 62/\-(2 ^ 62)<=j/\j<2 ^ 62)/\R (Itr i (j-i).toNat) H1
theorem b8p {a:Expr}{ta:TA}{p pos:Pos}(hg:Gl X "range")(hm:X.mg "range" = none)(ha:PA X [a] ta)(hs:starEach [a] X.env=[(false,eval a X.env)]:=by rfl):PI X tg (.Call (.Name "range" p) [a] [] pos) (d9t ta):=by
 intro pins s σ H R I h
 refine Call_ (a3n I hg hm boot_range (PyProof.Rows.callWith_type1 (thn (ha pos pins s σ H _ I h) λus s1 ⟨vs,H1,I1,r1,q1⟩=>?_) hs rfl))
 obtain⟨j,e,q1,q2,q⟩:=q1
 subst e
 cases r1 with
 | cons r rr =>
  cases rr
  obtain⟨t,rfl⟩:=r
  exact call_range_1 (b4a I1 (by lia) (by lia) q1 q2 (by simpa using q))
theorem b0k {a b:Expr}{ta:TA}{p pos:Pos}(hg:Gl X "range")(hm:X.mg "range" = none)(ha:PA X [a,b] ta)(hs:starEach [a,b] X.env=[(false,eval a X.env),(false,eval b X.env)]:=by rfl)(hs2:starEach [b] X.env=[(false,eval b X.env)]:=by rfl) :
  PI X tg (.Call (.Name "range" p) [a,b] [] pos) (iRng2 ta):=by
 intro pins s σ H R I h
 refine Call_ (a3n I hg hm boot_range (PyProof.Rows.callWith_type1 (thn (ha pos pins s σ H _ I h) λus s1 ⟨vs,H1,I1,r1,q1⟩=>?_) (by rw[hs,hs2]) (by rw[hs2];rfl)))
 obtain⟨i,j,e,⟨q1,q2,q3,q4⟩,q⟩:=q1
 subst e
 cases r1 with
 | cons r rr =>
  cases rr with
  | cons r' rr =>
   cases rr
   obtain⟨t,rfl⟩:=r
   obtain⟨t',rfl⟩:=r'
   exact call_range_2 (b4a I1 q1 q2 q3 q4 q)
def tFor (wi:TI)(g:TG)(tb:TS):TS:=λD σ H=>wi σ H λJ H1=>∃ W:Nat->Nat->St->Hp->Prop,(∃ m,W 0 m σ H1)/\∀ i m σ H,W i m σ H ->
 (J.stop i H/\D.nx σ H) ∨ (J.go i H/\∃ N:St->Hp->Prop,(∀ σ' H',N σ' H'->∃ m',m'<m/\W (i+1) m' σ' H')/\∀ x H',J.yld i H x H'->g x σ H' λσ2 H2=>tb { D with nx:=N,ct:=N,bk:=D.nx } σ2 H2)
def a4k (fp:List Addr)(h:Heap):List (Addr×Obj):=fp.filterMap λb=>(h.get? b).map λo=>(b,o)
theorem a1h {fp:List Addr}{h:Heap}{b:Addr}{o:Obj}(hb:b∈fp)(e:h.get? b=some o):(b,o)∈a4k fp h:=List.mem_filterMap.mpr ⟨b,hb,by rw[e];rfl⟩
theorem b8w {fp:List Addr}{h:Heap}{p:Addr×Obj}(hp:p∈a4k fp h):p.1∈fp/\h.get? p.1=some p.2:=by
 obtain⟨b,hb,e⟩:=List.mem_filterMap.mp hp
 cases q:h.get? b with
 | none=>rw[q] at e;cases e
 | some o =>
  rw[q] at e
  have e':(b,o)=p:=Option.some.inj e
  subst e'
  exact⟨hb,q⟩
theorem Inv.pinned {pins:List (Addr×Obj)}{σ:St}{H:Hp}{s:Shared}{fp:List Addr}(I:Inv X pins σ H s)(hf:∀ b∈fp,a9x X pins H b)(ho:∀ b∈fp,∃ o,s.heap.get? b=some o/\∀ v,o.data≠.cell v):Inv X (pins++a4k fp s.heap) σ H s :=
 I.pins_of λp hp=>(List.mem_append.mp hp).elim (λz=>I.pin p (List.mem_append_right _ z)) λz=>by
  obtain⟨hb,e⟩:=b8w z
  obtain⟨f0,f1,f2,_⟩:=hf p.1 hb
  obtain⟨o,e',d⟩:=ho p.1 hb
  rw[e] at e';cases e'
  exact⟨e,f0,f1,f2,d⟩
theorem Inv.unpinned {pins pl:List (Addr×Obj)}{σ:St}{H:Hp}{s:Shared}(I:Inv X (pins++pl) σ H s):Inv X pins σ H s:=I.pins_of λp hp=>I.pin p (List.mem_append_right _ (List.mem_append_left _ hp))
theorem d1y {iter:Expr}{body:List Stmt}{wi:TI}{g:TG}{tb:TS}{pos:Pos}(hp:PassesOwn (model X.prog X.w) X.A X.env X.xe)(hc:X.calm=true)(hi:PI X tg iter wi)(hg:PG X tg g)(hb:PSs X body tb)
  (hs:∀ x,foldedSetIterable iter X.env x=pure x:=by intro _;rfl):PS X (.For tg iter body [] pos) (tFor wi g tb):=by
 intro pins s σ H D I h
 refine wpAny_For (thn (hi pins s σ H _ I h) λv s1 h1=>thn h1 λitv s2 h2=>?_) hs
 obtain⟨it,fp,tn,J,H2,e,I2,T,st2,f2,W,⟨m0,w0⟩,turn⟩:=h2
 subst e
 -- what stays true of the iterator's objects through the loop
 have stat:∀ {H':Hp},(∀ b∈fp,H' b=none)->∀ b∈fp,a9x X pins H' b:=λhn b hb=>⟨hn b hb,(f2 b hb).2⟩
 refine codeAny_forLoop_any (λn s'=>∃ i σ' H',Inv X pins σ' H' s'/\tn i s'.heap/\(∀ b∈fp,H' b=none)/\W i n σ' H') ?_ m0 ⟨0,σ,H2,I2,st2,λb hb=>(f2 b hb).1,w0⟩
 rintro n s3 ⟨i,σ3,H3,I3,st3,fr3,w3⟩
 rcases turn i n σ3 H3 w3 with⟨stop,qn⟩|⟨go,N,hN,step⟩
 ·refine wpAny_passesOwn hp (thn (T.done X rfl rfl rfl hc i pins s3 σ3 H3 X.xe I3 (stat fr3) st3 stop) λr s4 ⟨hr,I4⟩=>?_)
  subst hr
  exact wpAny_execs_nil ⟨σ3,H3,I4,qn⟩
 ·refine wpAny_passesOwn hp (thn (T.item X rfl rfl rfl hc i pins s3 σ3 H3 X.xe I3 (stat fr3) st3 go) λr s4 ⟨u,hr,h4⟩=>?_)
  subst hr
  refine wpAny_passesOwn hp (thn h4 λ_ s5 ⟨x,H5,I5,r5,y5,st5,fr5⟩=>?_)
  have I5':=I5.pinned (stat fr5) (T.obj _ _ st5)
  refine wpAny_passesOwn hp (thn (hg _ s5 σ3 H5 x u _ I5' r5 (step x H5 y5)) λ_ s6 ⟨σ6,H6,I6,q6⟩=>?_)
  refine wpAny_passesOwn hp (thn (hb _ s6 σ6 H6 _ I6 q6) λf s7 q7=>?_)
  have again:∀ {σ7:St}{H7:Hp},Inv X (pins++a4k fp s5.heap) σ7 H7 s7->N σ7 H7->∃ m,m<n/\∃ i σ' H',Inv X pins σ' H' s7/\tn i s7.heap/\(∀ b∈fp,H' b=none)/\W i m σ' H':=λ{σ7 H7} I7 n7=>by
   obtain⟨m',hm,w7⟩:=hN σ7 H7 n7
   refine⟨m',hm,i+1,σ7,H7,I7.unpinned,T.keep _ _ _ st5 λb hb o e=>(I7.pin (b,o) (List.mem_append_right _ (List.mem_append_right _ (a1h hb e)))).1,λb hb=>?_,w7⟩
   obtain⟨o,e,d⟩:=T.obj _ _ st5 b hb
   exact (I7.pin (b,o) (List.mem_append_right _ (List.mem_append_right _ (a1h hb e)))).2.1
  cases f with
  | next=>obtain⟨σ7,H7,I7,n7⟩:=q7;exact again I7 n7
  | cont=>obtain⟨σ7,H7,I7,n7⟩:=q7;exact again I7 n7
  | brk=>obtain⟨σ7,H7,I7,q7⟩:=q7;exact⟨σ7,H7,I7.unpinned,q7⟩
  | ret v=>obtain⟨x7,σ7,H7,I7,r7,q7⟩:=q7;exact⟨x7,σ7,H7,I7.unpinned,r7,q7⟩
end
theorem while_by {c:TT}{tb:TS}{D:Ends}{σ:St}{H:Hp}(Pv:St->Hp->Prop) (μ:St->Hp->Nat)(h0:Pv σ H)
  (hs:∀ σ H,Pv σ H->c σ H λb H1=>if b=true then tb { D with nx:=λσ' H'=>Pv σ' H'/\μ σ' H'<μ σ H,ct:=λσ' H'=>Pv σ' H'/\μ σ' H'<μ σ H,bk:=D.nx } σ H1 else D.nx σ H1)
  (mono:∀ σ H Q Q',(∀ b H1,Q b H1->Q' b H1)->c σ H Q->c σ H Q'):c4u c tb D σ H:=by
 refine⟨λm σ H=>m=μ σ H/\Pv σ H,⟨_,rfl,h0⟩,?_⟩
 rintro m σ H ⟨rfl,p⟩
 refine mono σ H _ _ (λb H1 q=>?_) (hs σ H p)
 cases b with
 | true=>exact⟨_,λσ' H' ⟨p',l⟩=>⟨_,l,rfl,p'⟩,q⟩
 | false=>exact q
end L2
namespace L2
open PySem PySem.Spec PyProof.Rows
abbrev R2:=V->V->Hp->VK->Prop
def OpR (X:Cx)(f:Value->Value->Sem Value)(r:R2):Prop :=
 ∀ (pins:List (Addr×Obj))(s:Shared)(σ:St)(H:Hp)(x y:V)(v u:Value)(Q:VK),Inv X pins σ H s->RelV x v->RelV y u->r x y H Q ->
  wpAny (model X.prog X.w) X.A (f v u) (EP X pins σ Q) X.xe s
def UnR (X:Cx)(f:Value->Sem Value)(r:V->Hp->VK->Prop):Prop :=
 ∀ (pins:List (Addr×Obj))(s:Shared)(σ:St)(H:Hp)(x:V)(v:Value)(Q:VK),Inv X pins σ H s->RelV x v->r x H Q ->
  wpAny (model X.prog X.w) X.A (f v) (EP X pins σ Q) X.xe s
def a1r (X:Cx)(f:Value)(r:List V->Hp->VK->Prop):Prop :=
 ∀ (pins:List (Addr×Obj))(s:Shared)(σ:St)(H:Hp)(xs:List V)(us:List Value)(Q:VK),Inv X pins σ H s->Vals xs us->r xs H Q ->
  wpAny (model X.prog X.w) X.A (call f us) (EP X pins σ Q) X.xe s
def TruR (X:Cx)(r:V->Hp->(Bool->Hp->Prop)->Prop):Prop :=
 ∀ (pins:List (Addr×Obj))(s:Shared)(σ:St)(H:Hp)(x:V)(v:Value)(Q:Bool->Hp->Prop),Inv X pins σ H s->RelV x v->r x H Q ->
  wpAny (model X.prog X.w) X.A (truthy v) (TP X pins σ Q) X.xe s
def tOp (r:R2)(ta tb:TE):TE:=λσ H Q=>ta σ H λx H1=>tb σ H1 λy H2=>r x y H2 Q
def tUn (r:V->Hp->VK->Prop)(ta:TE):TE:=λσ H Q=>ta σ H λx H1=>r x H1 Q
def rI (C:Int->Int->Prop)(g:Int->Int->V):R2:=λx y H Q=>∃ i j,x=.int i/\y=.int j/\C i j/\Q (g i j) H
def rI0 (g:Int->Int->V):R2:=λx y H Q=>∃ i j,x=.int i/\y=.int j/\Q (g i j) H
def rU (g:Int->V):V->Hp->VK->Prop:=λx H Q=>∃ i,x=.int i/\Q (g i) H
section
variable {X:Cx}{a b c:Expr}{ta tb tc:TE}{pos:Pos}
theorem e3e (ha:PE X a ta)(hb:PE X b tb){pins:List (Addr×Obj)}{s:Shared}{σ:St}{H:Hp}{R:V->V->Hp->Prop}(I:Inv X pins σ H s)
  (h:ta σ H λx H1=>tb σ H1 λy H2=>R x y H2){Q:Value->Shared->Prop}{f:Value->Value->Sem Value}
  (hf:∀ v u s2 x y H2,Inv X pins σ H2 s2->RelV x v->RelV y u->R x y H2->wpAny (model X.prog X.w) X.A (f v u) Q X.xe s2) :
  wpAny (model X.prog X.w) X.A (eval a X.env) (λv s₁=>wpAny (model X.prog X.w) X.A (eval b X.env) (λu s₂=>wpAny (model X.prog X.w) X.A (f v u) Q X.xe s₂) X.xe s₁) X.xe s:=by
 refine thn (ha pins s σ H _ I h) λv s1 ⟨x,H1,I1,r1,q1⟩=>?_
 refine thn (hb pins s1 σ H1 _ I1 q1) λu s2 ⟨y,H2,I2,r2,q2⟩=>?_
 exact hf v u s2 x y H2 I2 r1 r2 q2
theorem d8q {op:Operator}{r:R2}(ho:OpR X (binaryOp op) r)(ha:PE X a ta)(hb:PE X b tb):PE X (.BinOp a op b pos) (tOp r ta tb):=by
 intro pins s σ H Q I h
 exact wpAny_BinOp (e3e ha hb I h λv u s2 x y H2 I2 rx ry q=>ho pins s2 σ H2 x y v u Q I2 rx ry q)
theorem d8p {op:UnaryOp}{r:V->Hp->VK->Prop}(ho:UnR X (unaryOp op) r)(ha:PE X a ta):PE X (.UnaryOp op a pos) (tUn r ta):=by
 intro pins s σ H Q I h
 exact UnaryOp_ (thn (ha pins s σ H _ I h) λv s1 ⟨x,H1,I1,r1,q1⟩=>ho pins s1 σ H1 x v Q I1 r1 q1)
theorem opI {f:Value->Value->Sem Value}{C:Int->Int->Prop}{g:Int->Int->Int}
  (rule:∀ (i j:Int)(t u:Tok)(s:Shared)(Q:Value->Shared->Prop)(E:Value->Shared->Prop),C i j->Q (.int (g i j) s.toks) { s with toks:=s.toks+1 }->wpAny (model X.prog X.w) X.A (f (.int i t) (.int j u)) Q E s) :
  OpR X f (rI C λi j=>.int (g i j)):=by
 intro pins s σ H x y v u Q I rx ry h
 obtain⟨i,j,rfl,rfl,hc,q⟩:=h
 obtain⟨t,rfl⟩:=rx
 obtain⟨t',rfl⟩:=ry
 exact rule i j t t' s _ _ hc ⟨.int (g i j),H,I.tok _,⟨_,rfl⟩,q⟩
theorem opI0 {f:Value->Value->Sem Value}{g:Int->Int->Int}
  (rule:∀ (i j:Int)(t u:Tok)(s:Shared)(Q:Value->Shared->Prop)(E:Value->Shared->Prop),Q (.int (g i j) s.toks) { s with toks:=s.toks+1 }->wpAny (model X.prog X.w) X.A (f (.int i t) (.int j u)) Q E s) :
  OpR X f (rI0 λi j=>.int (g i j)):=by
 intro pins s σ H x y v u Q I rx ry h
 obtain⟨i,j,rfl,rfl,q⟩:=h
 obtain⟨t,rfl⟩:=rx
 obtain⟨t',rfl⟩:=ry
 exact rule i j t t' s _ _ ⟨.int (g i j),H,I.tok _,⟨_,rfl⟩,q⟩
theorem d5h {f:Value->Value->Sem Value}{g:Int->Int->Bool}
  (rule:∀ (i j:Int)(t u:Tok)(s:Shared)(Q:Value->Shared->Prop)(E:Value->Shared->Prop),Q (.bool (g i j)) s->wpAny (model X.prog X.w) X.A (f (.int i t) (.int j u)) Q E s) :
  OpR X f (rI0 λi j=>.bl (g i j)):=by
 intro pins s σ H x y v u Q I rx ry h
 obtain⟨i,j,rfl,rfl,q⟩:=h
 obtain⟨t,rfl⟩:=rx
 obtain⟨t',rfl⟩:=ry
 exact rule i j t t' s _ _ ⟨.bl (g i j),H,I,rfl,q⟩
def CDiv (i j:Int):Prop:=0<j/\j<1073741824
def CPow (i j:Int):Prop:=0<=j/\j<=1000000/\i.natAbs<2 ^ 64
def CMul (i j:Int):Prop:=(-(2 ^ 64)<i/\i<2 ^ 64) ∨ (-(2 ^ 64)<j/\j<2 ^ 64)
theorem CMul.ok {i j:Int}(h:CMul i j):IntMulOk i j:=by
 rcases h with⟨h1,h2⟩|⟨h1,h2⟩
 ·exact .of_left (intBits_le_64 h1 h2)
 ·exact .of_right (intBits_le_64 h1 h2)
theorem d2t:OpR X (binaryOp .Add) (rI0 λi j=>.int (i+j)):=opI0 λ_ _ _ _ _ _ _ q=>add_int q
theorem d2l:OpR X (binaryOp .Sub) (rI0 λi j=>.int (i-j)):=opI0 λ_ _ _ _ _ _ _ q=>sub_int q
theorem d2o:OpR X (binaryOp .Mult) (rI CMul λi j=>.int (i*j)):=opI λ_ _ _ _ _ _ _ hc q=>mul_int q hc.ok
theorem c8a:OpR X (binaryOp .FloorDiv) (rI CDiv λi j=>.int (i / j)):=opI λi j _ _ _ _ _ hc q=>by
 have h1:(0:Int)<j:=hc.1
 have h2:j<1073741824:=hc.2
 exact floordiv_int (by lia) (by rw[Int.fdiv_eq_ediv_of_nonneg i (by lia)];exact q) (.inl (PyProof.noPylong_small (by lia)))
theorem d2p:OpR X (binaryOp .Mod) (rI (λ_ j=>0<j) λi j=>.int (i % j)):=opI λi j _ _ _ _ _ hc q=>by
 have h1:(0:Int)<j:=hc
 exact mod_int' (by lia) (by rw[Int.fmod_eq_emod_of_nonneg i (by lia)];exact q)
theorem d2n:OpR X (binaryOp .Pow) (rI CPow λi j=>.int (i ^ j.toNat)):=opI λ_ _ _ _ _ _ _ hc q=>pow_int_small hc.1 hc.2.1 hc.2.2 q
theorem unI {f:Value->Sem Value}{g:Int->Int}
  (rule:∀ (i:Int)(t:Tok)(s:Shared)(Q:Value->Shared->Prop)(E:Value->Shared->Prop),Q (.int (g i) s.toks) { s with toks:=s.toks+1 }->wpAny (model X.prog X.w) X.A (f (.int i t)) Q E s) :
  UnR X f (rU λi=>.int (g i)):=by
 intro pins s σ H x v Q I rx h
 obtain⟨i,rfl,q⟩:=h
 obtain⟨t,rfl⟩:=rx
 exact rule i t s _ _ ⟨.int (g i),H,I.tok _,⟨_,rfl⟩,q⟩
theorem d0r:UnR X (unaryOp .USub) (rU λi=>.int (-i)):=unI λ_ _ _ _ _ q=>neg_int q
end
def scal:V->V->Bool
 | .non,.non=>true|.non,.int _=>true|.int _,.non=>true|.non,.bl _=>true|.bl _,.non=>true|.non,.str _=>true|.str _,.non=>true
 | .int _,.int _=>true|.bl _,.bl _=>true|.str _,.str _=>true|.byt _,.byt _=>true
 | .int _,.str _=>true|.str _,.int _=>true|.bl _,.str _=>true|.str _,.bl _=>true
 | _,_=>false
def rEq:R2:=λx y H Q=>scal x y=true/\Q (.bl (decide (x=y))) H
def rNe:R2:=λx y H Q=>scal x y=true/\Q (.bl (!decide (x=y))) H
theorem c0s {i j:Int}:decide (V.int i=V.int j)=(i == j):=by
 rw[Bool.eq_iff_iff]
 simp
theorem c5w {i j:Bool}:decide (V.bl i=V.bl j)=(i == j):=by
 rw[Bool.eq_iff_iff]
 simp
theorem c0r {i j:Str}:decide (V.str i=V.str j)=(i == j):=by
 rw[Bool.eq_iff_iff]
 simp
theorem c0t {i j:Array UInt8}:decide (V.byt i=V.byt j)=(i.toList == j.toList):=by
 rw[Bool.eq_iff_iff]
 cases i
 cases j
 simp
section
variable {X:Cx}{a b c:Expr}{ta tb tc:TE}{pos:Pos}
theorem a0r {pins:List (Addr×Obj)}{σ:St}{H:Hp}{s:Shared}{Q:VK}{k k':Bool}(I:Inv X pins σ H s)(q:Q (.bl k) H)(e:k=k'):EP X pins σ Q (.bool k') s:=by
 subst e
 exact⟨.bl k,H,I,rfl,q⟩
theorem d9a:OpR X (compareOp .Eq) rEq:=by
 intro pins s σ H x y v u Q I rx ry h
 obtain⟨hs,q⟩:=h
 cases x with
 | non =>
  cases rx
  cases y with
  | non=>cases ry;exact PySem.EqNone.eq_none_none (a0r I q (by simp))
  | bl j=>cases ry;exact PySem.EqNone.eq_none_bool (a0r I q (by simp))
  | int j=>obtain⟨t',rfl⟩:=ry;exact PySem.EqNone.eq_none_int (a0r I q (by simp))
  | str j=>obtain⟨t',rfl⟩:=ry;exact PySem.EqNone.eq_none_str (a0r I q (by simp))
  | _=>exact absurd (show false=true from hs) Γk
 | bl i =>
  cases rx
  cases y with
  | non=>cases ry;exact PySem.EqNone.eq_bool_none (a0r I q (by simp))
  | bl j=>cases ry;exact eq_bool (a0r I q c5w)
  | str j=>obtain⟨t',rfl⟩:=ry;exact PySem.EqMixed.eq_bool_str (a0r I q (by simp))
  | _=>exact absurd (show false=true from hs) Γk
 | int i =>
  obtain⟨t,rfl⟩:=rx
  cases y with
  | non=>cases ry;exact PySem.EqNone.eq_int_none (a0r I q (by simp))
  | int j=>obtain⟨t',rfl⟩:=ry;exact eq_int (a0r I q c0s)
  | str j=>obtain⟨t',rfl⟩:=ry;exact PySem.EqMixed.eq_int_str (a0r I q (by simp))
  | _=>exact absurd (show false=true from hs) Γk
 | str i =>
  obtain⟨t,rfl⟩:=rx
  cases y with
  | non=>cases ry;exact PySem.EqNone.eq_str_none (a0r I q (by simp))
  | bl j=>cases ry;exact PySem.EqMixed.eq_str_bool (a0r I q (by simp))
  | int j=>obtain⟨t',rfl⟩:=ry;exact PySem.EqMixed.eq_str_int (a0r I q (by simp))
  | str j=>obtain⟨t',rfl⟩:=ry;exact eq_str (a0r I q c0r)
  | _=>exact absurd (show false=true from hs) Γk
 | byt i =>
  obtain⟨t,rfl⟩:=rx
  cases y with
  | byt j=>obtain⟨t',rfl⟩:=ry;exact PySem.W.eq_bytes (a0r I q c0t)
  | _=>exact absurd (show false=true from hs) Γk
 | _=>cases y<;>exact absurd (show false=true from hs) Γk
theorem d8v:OpR X (compareOp .NotEq) rNe:=by
 intro pins s σ H x y v u Q I rx ry h
 obtain⟨hs,q⟩:=h
 cases x with
 | non =>
  cases rx
  cases y with
  | non=>cases ry;exact PySem.EqNone.ne_none_none (a0r I q (by simp))
  | bl j=>cases ry;exact PySem.EqNone.ne_none_bool (a0r I q (by simp))
  | int j=>obtain⟨t',rfl⟩:=ry;exact PySem.EqNone.ne_none_int (a0r I q (by simp))
  | str j=>obtain⟨t',rfl⟩:=ry;exact PySem.EqNone.ne_none_str (a0r I q (by simp))
  | _=>exact absurd (show false=true from hs) Γk
 | bl i =>
  cases rx
  cases y with
  | non=>cases ry;exact PySem.EqNone.ne_bool_none (a0r I q (by simp))
  | bl j=>cases ry;exact ne_bool (a0r I q (congrArg not c5w))
  | str j=>obtain⟨t',rfl⟩:=ry;exact PySem.EqMixed.ne_bool_str (a0r I q (by simp))
  | _=>exact absurd (show false=true from hs) Γk
 | int i =>
  obtain⟨t,rfl⟩:=rx
  cases y with
  | non=>cases ry;exact PySem.EqNone.ne_int_none (a0r I q (by simp))
  | int j=>obtain⟨t',rfl⟩:=ry;exact ne_int (a0r I q (congrArg not c0s))
  | str j=>obtain⟨t',rfl⟩:=ry;exact PySem.EqMixed.ne_int_str (a0r I q (by simp))
  | _=>exact absurd (show false=true from hs) Γk
 | str i =>
  obtain⟨t,rfl⟩:=rx
  cases y with
  | non=>cases ry;exact PySem.EqNone.ne_str_none (a0r I q (by simp))
  | bl j=>cases ry;exact PySem.EqMixed.ne_str_bool (a0r I q (by simp))
  | int j=>obtain⟨t',rfl⟩:=ry;exact PySem.EqMixed.ne_str_int (a0r I q (by simp))
  | str j=>obtain⟨t',rfl⟩:=ry;exact ne_str (a0r I q (congrArg not c0r))
  | _=>exact absurd (show false=true from hs) Γk
 | byt i =>
  obtain⟨t,rfl⟩:=rx
  cases y with
  | byt j=>obtain⟨t',rfl⟩:=ry;exact PySem.W.ne_bytes (a0r I q (congrArg not c0t))
  | _=>exact absurd (show false=true from hs) Γk
 | _=>cases y<;>exact absurd (show false=true from hs) Γk
theorem d8w:OpR X (compareOp .Lt) (rI0 λi j=>.bl (decide (i<j))):=d5h λ_ _ _ _ _ _ _ q=>lt_int q
theorem d8x:OpR X (compareOp .LtE) (rI0 λi j=>.bl (decide (i<=j))):=d5h λ_ _ _ _ _ _ _ q=>le_int q
theorem d8y:OpR X (compareOp .Gt) (rI0 λi j=>.bl (decide (j<i))):=d5h λ_ _ _ _ _ _ _ q=>gt_int q
theorem d8z:OpR X (compareOp .GtE) (rI0 λi j=>.bl (decide (j<=i))):=d5h λ_ _ _ _ _ _ _ q=>ge_int q
def d9n:HO->Bool
 | .lst _=>true
 | .ins _ _ _=>true
 | _=>false
theorem obj_there {pins:List (Addr×Obj)}{s:Shared}{σ:St}{H:Hp}{a:Addr}{o:HO}(I:Inv X pins σ H s)(h:H a=some o)(p:d9n o=true):∃ ob,s.heap.get? a=some ob/\ob.cls≠.type "tuple":=by
 cases o with
 | lst xs =>
  obtain⟨_,its,n,_,e⟩:xs.length<=sizeLine/\∃ (its:List Value) (n:Nat),Vals xs its/\s.heap.get? a=some { cls:=.type "list",data:=.seq its.toArray n }:=I.hok a _ h
  exact⟨_,e,(by show Value.type "list"≠.type "tuple";nofun)⟩
 | ins C dx fs =>
  have x:=I.hok a _ h
  obtain⟨_,_,_,e,_⟩:=x
  exact⟨_,e,(by show Value.ref C≠.type "tuple";exact λz=>by cases z)⟩
 | _=>exact absurd (show false=true from p) Γk
theorem nomark (b:Expr){op:CmpOp}(h:op≠.In:=by decide)(h2:op≠.NotIn:=by decide):behindInMarks op b=false:=by
 have e1:(op == CmpOp.In)=false:=by cases op<;>first|rfl|exact absurd rfl h
 have e2:(op == CmpOp.NotIn)=false:=by cases op<;>first|rfl|exact absurd rfl h2
 cases b<;>simp[behindInMarks,e1,e2]
theorem c7s {op:CmpOp}{r:R2}(ho:OpR X (compareOp op) r)(ha:PE X a ta)(hb:PE X b tb)(hm:behindInMarks op b=false):PE X (.Compare a [op] [b] pos) (tOp r ta tb):=by
 intro pins s σ H Q I h
 exact wpAny_Compare1 (e3e ha hb I h λv u s2 x y H2 I2 rx ry q=>ho pins s2 σ H2 x y v u Q I2 rx ry q) hm
def d6z (t:TE):TT:=λσ H Q=>t σ H λx H'=>∃ k,x=.bl k/\Q k H'
theorem c7e {op:CmpOp}{r:R2}(ho:OpR X (compareOp op) r)(ha:PE X a ta)(hb:PE X b tb)(hm:behindInMarks op b=false):PT X (.Compare a [op] [b] pos) (d6z (tOp r ta tb)):=by
 intro pins s σ H Q I h
 refine wpAny_isTrue_Compare1 (thn (ha pins s σ H _ I h) λv s1 ⟨x,H1,I1,r1,q1⟩=>thn (hb pins s1 σ H1 _ I1 q1) λu s2 ⟨y,H2,I2,r2,q2⟩ =>
  thn (ho pins s2 σ H2 x y v u _ I2 r1 r2 q2) λc s3 ⟨z,H3,I3,r3,k,e,q3⟩=>?_) hm
 subst e
 cases r3
 exact wpAny_truthy_bool ⟨H3,I3,q3⟩
def c4v (r r':R2)(ta tb tc:TE):TE:=λσ H Q=>ta σ H λx H1=>tb σ H1 λy H2=>r x y H2 λz H3=>∃ k,z=.bl k /\
 (if k=true then tc σ H3 λw' H4=>r' y w' H4 Q else Q (.bl false) H3)
theorem c2x {op op':CmpOp}{r r':R2}(ho:OpR X (compareOp op) r)(ho':OpR X (compareOp op') r')(ha:PE X a ta)(hb:PE X b tb)(hc:PE X c tc)
  (hm:lastMarks [op,op'] [b,c]=false:=by with_unfolding_all rfl):PE X (.Compare a [op,op'] [b,c] pos) (c4v r r' ta tb tc):=by
 intro pins s σ H Q I h
 refine Compare_chain (thn (ha pins s σ H _ I h) λv s1 ⟨x,H1,I1,r1,q1⟩=>chain_link (thn (hb pins s1 σ H1 _ I1 q1) λu s2 ⟨y,H2,I2,r2,q2⟩ =>
  thn (ho pins s2 σ H2 x y v u _ I2 r1 r2 q2) λd s3 ⟨z,H3,I3,r3,k,e,q3⟩=>?_)) hm
 subst e
 cases r3
 refine wpAny_truthy_bool ?_
 cases k with
 | false=>exact ite_ff ⟨.bl false,H3,I3,rfl,q3⟩
 | true=>exact ite_tt (chain_last (thn (hc pins s3 σ H3 _ I3 q3) λw' s4 ⟨z',H4,I4,r4,q4⟩=>ho' pins s4 σ H4 y z' u w' Q I4 r2 r4 q4))
def d6u (K:Γd)(x:V)(H:Hp)(k:Bool):Prop :=
 match x with
 | .non=>k=false
 | .bl b=>k=b
 | .int i=>k=(i != 0)
 | .str y=>y.length<=sizeLine/\k=((y.length:Int) != 0)
 | .byt y=>y.size<=sizeLine/\k=((y.size:Int) != 0)
 | .ref p=>(∃ xs,SqL K H p xs/\k = !xs.isEmpty) ∨ (∃ xs,SqT K H p xs/\k = !xs.isEmpty) ∨ ∃ kvs,H p=some (.dK kvs)/\k = !kvs.isEmpty
 | _=>False
theorem b6d {κ:Type}{kvs:List (κ×V)}{vs:List (κ×Value)}(r:KV kvs vs):(!vs.isEmpty) = !kvs.isEmpty:=by
 cases r<;>rfl
theorem a8c {xs:List V}{its:List Value}(r:Vals xs its):(!its.toArray.isEmpty) = !xs.isEmpty:=by
 cases r<;>simp
theorem b0v:(sizeLine:Nat)<2 ^ 63:=by rw[sizeLine_eq];decide
theorem c4s:TruR X (λx H Q=>∃ k,d6u X.K x H k/\Q k H):=by
 intro pins s σ H x v Q I rx h
 obtain⟨k,e,q⟩:=h
 have hl:=b0v
 have hs:sizeLine=16777216:=sizeLine_eq
 cases x with
 | non =>
  cases rx
  have e':k=false:=e
  subst e'
  exact truthy_none ⟨H,I,q⟩
 | bl b =>
  cases rx
  have e':k=b:=e
  subst e'
  exact wpAny_truthy_bool ⟨H,I,q⟩
 | int i =>
  obtain⟨t,rfl⟩:=rx
  have e':k=(i != 0):=e
  subst e'
  exact PySem.P.truthy_int ⟨H,I,q⟩
 | str y =>
  obtain⟨t,rfl⟩:=rx
  obtain⟨hy,e'⟩:y.length<=sizeLine/\k=((y.length:Int) != 0):=e
  subst e'
  exact PySem.P.truthy_str (by lia) ⟨H,I.tok _,q⟩
 | byt y =>
  obtain⟨t,rfl⟩:=rx
  obtain⟨hy,e'⟩:y.size<=sizeLine/\k=((y.size:Int) != 0):=e
  subst e'
  exact PySem.W.truthy_bytes (by lia) ⟨H,I.tok _,q⟩
 | ref p =>
  cases rx
  have e':(∃ xs,SqL X.K H p xs/\k = !xs.isEmpty) ∨ (∃ xs,SqT X.K H p xs/\k = !xs.isEmpty) ∨ ∃ kvs,H p=some (.dK kvs)/\k = !kvs.isEmpty:=e
  rcases e' with⟨xs,hx,e'⟩|⟨xs,hx,e'⟩|⟨kvs,hx,e'⟩
  ·subst e'
   obtain⟨its,r,pl,hz⟩:=I.list hx
   have hlen:=r.length
   exact wpAny_truthy_list pl.isList (by simp only[List.size_toArray];lia) ⟨H,I.tok _,by rw[a8c r];exact q⟩
  ·subst e'
   obtain⟨its,r,pl,hz⟩:=I.tuple hx
   have hlen:=r.length
   exact truthy_tuple pl (by simp only[List.size_toArray];lia) ⟨H,I.tok _,by rw[a8c r];exact q⟩
  ·subst e'
   obtain⟨hz,hS,vs,r,m⟩:kvs.length<=sizeLine/\(p == sysModules)=false/\∃ vs,KV kvs vs/\s.heap.DictOf (a1b X.prog X.w) p vs:=I.hok p _ hx
   have hlen:kvs.length=vs.length:=Paired.length r
   exact wpAny_truthy_dict hS m (by lia) ⟨H,I.tok _,by rw[b6d r];exact q⟩
 | _=>exact (show False from e).elim
theorem c2o (ha:PE X a ta)(he:∀ whole,isTrue a X.env whole=(do let v <- whole;standAt a.pos;holding [v] (truthy v))) :
  PT X a (λσ H Q=>ta σ H λx H'=>∃ k,d6u X.K x H' k/\Q k H'):=by
 intro pins s σ H Q I h
 exact isTrue_plain (thn (ha pins s σ H _ I h) λv s1 ⟨x,H1,I1,r1,q1⟩=>c4s pins s1 σ H1 x v Q I1 r1 q1) (he _)
theorem a3h {x:V}{us:List Value}(r:Vals [x] us):∃ u,us=[u]/\RelV x u:=by
 cases r with
 | cons r1 r2=>cases r2;exact⟨_,rfl,r1⟩
theorem c6a {x y:V}{us:List Value}(r:Vals [x,y] us):∃ u w',us=[u,w']/\RelV x u/\RelV y w':=by
 cases r with
 | cons r1 r2 =>
  cases r2 with
  | cons r3 r4=>cases r4;exact⟨_,_,rfl,r1,r3⟩
theorem c4k:a1r X (.builtin "abs") (λxs H Q=>∃ i,xs=[.int i]/\Q (.int (if i<0 then -i else i)) H):=by
 intro pins s σ H xs us Q I r h
 obtain⟨i,rfl,q⟩:=h
 obtain⟨u,rfl,t,rfl⟩:=a3h r
 exact call_abs_int λu tk=>⟨.int (if i<0 then -i else i),H,I.tok _,⟨_,rfl⟩,q⟩
theorem c1k (hc:X.calm=true):a1r X (.builtin "min") (λxs H Q=>∃ i j,xs=[.int i,.int j]/\Q (.int (if j<i then j else i)) H):=by
 intro pins s σ H xs us Q I r h
 obtain⟨i,j,rfl,q⟩:=h
 obtain⟨u,w',rfl,⟨t,rfl⟩,⟨t',rfl⟩⟩:=c6a r
 refine min_two_ints (I.ok.hd hc) λh' tk k=>⟨_,H,I.kept k,?_,q⟩
 by_cases hj:j<i
 ·rw[if_pos hj,if_pos hj];exact⟨_,rfl⟩
 ·rw[if_neg hj,if_neg hj];exact⟨_,rfl⟩
theorem b1n:a1r X (.type "int") (λxs H Q=>(∃ i,xs=[.int i]/\Q (.int i) H) ∨ ∃ k,xs=[.bl k]/\Q (.int (if k then 1 else 0)) H):=by
 intro pins s σ H xs us Q I r h
 rcases h with⟨i,rfl,q⟩|⟨k,rfl,q⟩
 ·obtain⟨u,rfl,t,rfl⟩:=a3h r
  exact call_int_int ⟨.int i,H,I,⟨_,rfl⟩,q⟩
 ·obtain⟨u,rfl,r1⟩:=a3h r
  cases r1
  exact call_int_bool ⟨.int (if k then 1 else 0),H,I.tok _,⟨_,rfl⟩,q⟩
end
end L2
namespace L2
open PySem PySem.Spec PyProof.Rows
structure ObjM (h:Heap)(x dx C:Addr)(mA:Str->Option Value):Prop where
 obj:h.get? x=some (PySem.W.instObj C dx)
 ns:h.Ns1 dx mA
 ne:dx≠x
theorem b9f {h:Heap}{dx:Addr}{mA:Str->Option Value}(n:h.Ns1 dx mA):∃ od,h.get? dx=some od/\∀ name,PySem.W.lookIn name od=some (mA name):=by
 obtain⟨o,es,ep,ho,hd,hk,_,hm⟩:=n
 refine⟨o,ho,λname=>?_⟩
 have e:=hm name
 unfold nsFind findBy at e
 rw[<- Array.find?_toList] at e
 unfold PySem.W.lookIn
 rw[hd]
 dsimp only
 split
 ·rename_i y q
  rw[q] at e
  exact congrArg some e
 ·rename_i q
  rw[q] at e
  have a:es.toList.any (·.refKey)=false:=by
   rw[List.any_eq_false]
   intro y hy
   obtain⟨z,t,hkey⟩:=hk y (Array.mem_toList_iff.mp hy)
   simp[DictEntry.refKey,hkey]
  have a':¬ es.toList.any (·.refKey)=true:=by rw[a];exact Γk
  rw[if_neg a']
  exact congrArg some e
theorem ObjM.look {h:Heap}{x dx C:Addr}{mA:Str->Option Value}(I:ObjM h x dx C mA):∃ od,PySem.W.InstAt h x (PySem.W.instObj C dx) C (some od)/\∀ name,PySem.W.lookIn name od=some (mA name) :=
 let ⟨od,ho,hl⟩:=b9f I.ns
 ⟨od,⟨I.obj,rfl,rfl,ho⟩,hl⟩
section
variable {prog:Program}{w:World}{A:Around}{E:Value->Shared->Prop}{s:Shared}{K:Γd}{x dx C f:Addr}{mA:Str->Option Value}{name:Str}{v:Value}
end
theorem RelO.some_of {v:V}{o:Option Value}(r:RelO (some v) o):∃ u,o=some u/\RelV v u:=by
 cases o with
 | none=>exact (show False from r).elim
 | some u=>exact⟨u,rfl,r⟩
section
variable {P:Program}{w:World}{H H':Hp}{h h':Heap}{a C dx:Addr}{fs fs':List (Str×V)}
theorem c8t (hok:HOk P w H h)(e:H a=some (.ins C dx fs)):∃ mA,ObjM h a dx C mA/\(∀ f,RelO (fs.lookup f) (mA f))/\PySem.Within mA (fs.map (·.1))/\fs.length<=1000/\H dx=some (.own a):=by
 obtain⟨d,z,ne,ob,mA,n,r,q⟩:=(show ObjOk P w H h a (.ins C dx fs) from hok a _ e)
 exact⟨mA,⟨ob,n,ne⟩,r,q,z,d⟩
end
structure Cls (K:Γd)(C:Addr):Prop where
 pg:PySem.W.plainGet K C Str.empty=true
 hd:PySem.W.hasDictIn K C=true
 po:PySem.W.plainOver K C=true
 sa:PySem.W.findIn K (.ref C) "__setattr__" = some (some (.builtin "object.__setattr__"))
theorem Cls.get {K:Γd}{C:Addr}(c:Cls K C)(f:Str):PySem.W.plainGet K C f=true:=c.pg
structure Con (K:Γd)(C:Addr)(f:Str)(v:V)(u:Value):Prop where
 at_:PySem.W.findIn K (.ref C) f=some (some u)
 rel:RelV v u
 get:PySem.W.specialIn K u "__get__" = some none
 cp:PySem.W.copiedNames.contains f=false
structure Meth (K:Γd)(C:Addr)(m:Str)(f:Addr):Prop where
 at_:PySem.W.findIn K (.ref C) m=some (some (.ref f))
 fn:PySem.W.isFn K (.ref f)=true
 kp:PySem.W.keepIn K (.ref f)=true
section
variable {X:Cx}{pins:List (Addr×Obj)}{σ:St}{H:Hp}{s:Shared}{a C dx:Addr}{fs:List (Str×V)}{f:Str}{v:V}{A:Around}{E:Value->Shared->Prop}
theorem Inv.made (I:Inv X pins σ H s):Inv X pins σ (upd (upd H s.heap.objs.size (.own (s.heap.objs.size+1))) (s.heap.objs.size+1) (.ins C s.heap.objs.size []))
  { s with heap:=(s.heap.push PySem.W.emptyDict).push (PySem.W.instObj C s.heap.objs.size) }:=by
 have e1:(s.heap.push PySem.W.emptyDict).get? s.heap.objs.size=some PySem.W.emptyDict:=Γm s.heap rfl
 have e2:((s.heap.push PySem.W.emptyDict).push (PySem.W.instObj C s.heap.objs.size)).get? (s.heap.objs.size+1)=some (PySem.W.instObj C s.heap.objs.size):=by
  have:=Γm (s.heap.push PySem.W.emptyDict) (o:=PySem.W.instObj C s.heap.objs.size) rfl
  rwa [Heap.size_push] at this
 have e3:(s.heap.push PySem.W.emptyDict).Ns s.heap.objs.size (λ_=>none):=⟨PySem.W.emptyDict,#[],_,e1,rfl,(λe he=>absurd he (by simp)),λ_=>rfl⟩
 have I1:=I.laid (a:=s.heap.objs.size) (o:=.own (s.heap.objs.size+1)) (h':=s.heap.push PySem.W.emptyDict) (t':=s.toks) (λb u q=>Γc _ q) (Γi _) ⟨_,e1⟩
 refine I1.laid (a:=s.heap.objs.size+1) (o:=.ins C s.heap.objs.size []) (t':=s.toks) (λb u q=>Γc _ q) (Nat.le_of_eq (Heap.size_push _ _)) ?_
 have ne:s.heap.objs.size≠s.heap.objs.size+1:=Γo (Nat.lt_succ_self _)
 refine⟨by rw[a0g ne,a0h],Nat.zero_le _,ne,e2,λ_=>none,(Heap.Ns1.of_empty e3).at λo q=>Γc _ q,λ_=>True.intro,λy hy=>absurd rfl hy⟩
end
section
variable {X:Cx}{o e value:Expr}{f:Str}{pos pos' tpos:Pos}{ta tv:TE}
end
section
variable {X:Cx}{pins:List (Addr×Obj)}{σ:St}{H:Hp}{s:Shared}{A:Around}{E:Value->Shared->Prop}{Q:Value->Shared->Prop}{c:Value}{b:Bool}
inductive TyOf (K:Γd)(H:Hp):V->Value->Prop where
 | non:TyOf K H .non (.type "NoneType")
 | bl (x:Bool):TyOf K H (.bl x) (.type "bool")
 | int (i:Int):TyOf K H (.int i) (.type "int")
 | str (x:Str):TyOf K H (.str x) (.type "str")
 | flt (x:UInt64):TyOf K H (.flt x) (.type "float")
 | lst {a:Addr}{xs:List V}(e:H a=some (.lst xs)):TyOf K H (.ref a) (.type "list")
 | frz {a:Addr}{o:Obj}{xs:List V}(e:H a=some (.frz o (.lst xs))):TyOf K H (.ref a) (.type "list")
 | tup {a:Addr}{xs:List V}(e:H a=some (.tup xs)):TyOf K H (.ref a) (.type "tuple")
 | dK {a:Addr}{kvs:List (Key×V)}(e:H a=some (.dK kvs)):TyOf K H (.ref a) (.type "dict")
 | dT {a:Addr}{kvs:List (List Key×V)}(e:H a=some (.dT kvs)):TyOf K H (.ref a) (.type "dict")
 | ins {a C dx:Addr}{fs:List (Str×V)}(e:H a=some (.ins C dx fs))(cl:Cls K C)(ha:PySem.W.findIn K (.ref C) "__class__" = some (some (.builtin "object.__class__")))
   (hn:PySem.W.specialIn K (.builtin "object.__class__") "__get__" = some (some (.builtin "getset_descriptor.__get__")))(htk:PySem.W.takesIn K (.builtin "object.__class__")=some true)
   (hm:PySem.W.mroIn K C (.type "object")=some true):TyOf K H (.ref a) (.ref C)
theorem b9q {x:V}{u t:Value}(I:Inv X pins σ H s)(rx:RelV x u)(ty:TyOf X.K H x t)(e:PySem.W.kitOne X.K t c=some b)(h:∀ tk,Q (.bool b) { s with toks:=tk }) :
  wpAny (model X.prog X.w) A (call (.builtin "isinstance") [u,c]) Q E s:=by
 cases ty with
 | non=>cases (show u=Value.none from rx);exact PySem.W.kia_one PySem.W.kitx_none I.kIn True.intro e (λz=>nomatch z) h
 | bl y=>cases (show u=Value.bool y from rx);exact PySem.W.kia_one PySem.W.kitx_bool I.kIn True.intro e (λz=>nomatch z) h
 | int i=>obtain⟨t,q⟩:=(show ∃ t,u=Value.int i t from rx);cases q;exact PySem.W.kia_one PySem.W.kitx_int I.kIn True.intro e (λz=>nomatch z) h
 | str y=>obtain⟨t,q⟩:=(show ∃ t,u=Value.str y t from rx);cases q;exact PySem.W.kia_one PySem.W.kitx_str I.kIn True.intro e (λz=>nomatch z) h
 | flt y=>obtain⟨t,q⟩:=(show ∃ t,u=Value.float y t from rx);cases q;exact PySem.W.kia_one PySem.W.kitx_float I.kIn True.intro e (λz=>nomatch z) h
 | @lst a xs ea =>
  cases (show u=Value.ref a from rx)
  obtain⟨_,_,n,_,h1⟩:=(show ObjOk X.prog X.w H s.heap a (.lst xs) from I.hok a _ ea)
  exact PySem.W.kia_one PySem.W.kitx_list I.kIn ⟨_,h1,rfl⟩ e (λz=>nomatch z) h
 | @frz a ob xs ea =>
  cases (show u=Value.ref a from rx)
  obtain⟨_,_,_,n,_,h1⟩:=(show ObjOk X.prog X.w H s.heap a (.frz ob (.lst xs)) from I.hok a _ ea)
  exact PySem.W.kia_one PySem.W.kitx_list I.kIn ⟨_,h1,rfl⟩ e (λz=>nomatch z) h
 | @tup a xs ea =>
  cases (show u=Value.ref a from rx)
  obtain⟨_,_,_,p⟩:=(show ObjOk X.prog X.w H s.heap a (.tup xs) from I.hok a _ ea)
  obtain⟨o,h1,h2,_⟩:=p
  exact PySem.W.kia_one PySem.W.kitx_tuple I.kIn ⟨o,h1,h2⟩ e (λz=>nomatch z) h
 | @dK a kvs ea =>
  cases (show u=Value.ref a from rx)
  obtain⟨_,_,vs,_,p⟩:=(show ObjOk X.prog X.w H s.heap a (.dK kvs) from I.hok a _ ea)
  obtain⟨o,es,ep,h1,h2,_⟩:=p
  exact PySem.W.kia_one PySem.W.kitx_dict I.kIn ⟨o,h1,h2.1⟩ e (λz=>nomatch z) h
 | @dT a kvs ea =>
  cases (show u=Value.ref a from rx)
  obtain⟨_,_,xs,_,o,es,ep,h1,h2,_⟩:=(show ObjOk X.prog X.w H s.heap a (.dT kvs) from I.hok a _ ea)
  exact PySem.W.kia_one PySem.W.kitx_dict I.kIn ⟨o,h1,h2.1⟩ e (λz=>nomatch z) h
 | @ins a C dx fs ea cl ha hn htk hm =>
  cases (show u=Value.ref a from rx)
  obtain⟨mA,O,_⟩:=c8t I.hok ea
  obtain⟨od,J,_⟩:=O.look
  exact PySem.W.kia_one (PySem.W.kitx_own (cl.get _) cl.hd ha hn htk hm) I.kIn J e (λz=>nomatch z) h
end
end L2
namespace L2
open PySem PySem.Spec PyProof.Rows
structure Room (k:Nat)(A:Around):Prop where
 hd:A.handled=none
 dp:A.depth+3*k+5<recursionLimit
 un:A.units+16*k+200<cLine
 gd:A.guards=some []
theorem Room.mono {j k:Nat}{A:Around}(r:Room k A)(h:j<=k):Room j A:=⟨r.hd,by have:=r.dp;lia,by have:=r.un;lia,r.gd⟩
theorem Room.deeper {k:Nat}{A:Around}(r:Room (k+1) A)(env:Env):Room k (A.deeper env) :=
 ⟨r.hd,by have:=r.dp;show A.depth+1+3*k+5<_;lia,by have:=r.un;show A.units+3+16*k+200<_;lia,r.gd⟩
theorem Room.in1 {k:Nat}{A:Around}(r:Room (k+1) A):Room k A.in1 :=
 ⟨r.hd,by have:=r.dp;show A.depth+3*k+5<_;lia,by have:=r.un;show A.units+1+16*k+200<_;lia,r.gd⟩
theorem Room.depth {k:Nat}{A:Around}(r:Room k A):A.depth<recursionLimit:=by have:=r.dp;lia
theorem Room.units {k:Nat}{A:Around}(r:Room k A):A.units+64<cLine:=by have:=r.un;lia
def tNil:TA:=λ_ H Q=>Q [] H
def c2d (ta:TE)(tr:TA):TA:=λσ H Q=>ta σ H λx H1=>tr σ H1 λxs H2=>Q (x :: xs) H2
section
variable {X:Cx}{e:Expr}{es:List Expr}{te:TE}{t:TA}{pos:Pos}
theorem a2m:PA X [] tNil:=λ_ _ _ _ H Q I h=>Calls.spliced_nil ⟨[],H,I,.nil,h⟩
theorem a0x (ha:PE X e te)(hr:PA X es t)(hs:starEach (e :: es) X.env=(false,eval e X.env) :: starEach es X.env:=by rfl):PA X (e :: es) (c2d te t):=by
 intro pos pins s σ H Q I h
 rw[hs]
 show wpAny _ _ (spliced ((false,eval e X.env) :: backTo pos (starEach es X.env))) _ _ s
 refine Calls.spliced_cons (thn (ha pins s σ H _ I h) λu s1 ⟨x,H1,I1,r1,q1⟩=>?_)
 exact thn (hr pos pins s1 σ H1 _ I1 q1) λus s2 ⟨xs,H2,I2,r2,q2⟩=>⟨x :: xs,H2,I2,.cons r1 r2,q2⟩
def tTup (t:TA):TE:=λσ H Q=>t σ H λxs H1=>xs.length<=sizeLine/\∀ p,H1 p=none->Q (.ref p) (upd H1 p (.tup xs))
def tLst (t:TA):TE:=λσ H Q=>t σ H λxs H1=>xs.length<=sizeLine/\∀ p,H1 p=none->Q (.ref p) (upd H1 p (.lst xs))
theorem d2c {x1}(h:PA X es t):PE X (.Tuple es x1 pos) (tTup t):=by
 intro pins s σ H Q I hq
 refine wpAny_Tuple_spliced (thn (h pos pins s σ H _ I hq) λus s1 ⟨xs,H1,I1,r,z,q⟩=>⟨by rw[<- r.length];exact z,?_⟩)
 have hf:H1 s1.heap.objs.size=none:=I1.hok.fresh (Γi _)
 refine⟨.ref s1.heap.objs.size,upd H1 s1.heap.objs.size (.tup xs),I1.laid (t':=s1.toks) (λb u e=>Γc _ e) (Γi _) ?_,rfl,q _ hf⟩
 exact⟨z,us,r,⟨_,Γm _ rfl,rfl,_,rfl⟩⟩
theorem c5e (h:PA X es t):PE X (.List es pos) (tLst t):=by
 intro pins s σ H Q I hq
 refine wpAny_List_spliced (thn (h pos pins s σ H _ I hq) λus s1 ⟨xs,H1,I1,r,z,q⟩=>⟨by rw[<- r.length];exact z,?_⟩)
 have hf:H1 s1.heap.objs.size=none:=I1.hok.fresh (Γi _)
 refine⟨.ref s1.heap.objs.size,upd H1 s1.heap.objs.size (.lst xs),I1.laid (t':=s1.toks) (λb u e=>Γc _ e) (Γi _) ?_,rfl,q _ hf⟩
 exact⟨z,us,0,r,Γm _ rfl⟩
end
abbrev Sp:=List V->Hp->VK->XK->Prop
abbrev CXT:=List Env->Hp->Shared->XK->Value->Shared->Prop
structure Env0 (P:Program)(w:World)(K:Γd)(mg:Str->Option Value)(base:Heap)(A:Around)(outer:List Env)(s:Shared)(H:Hp):Prop where
 frames:A.frames=some outer
 mod:Mod K mg base
 bs:∀ b o,base.get? b=some o->s.heap.get? b=some o/\H b=none
 bsz:base.objs.size<=s.heap.objs.size
 funs:s.heap.FunFrames base outer
 frf:∀ b∈frs outer,H b=none
 hok:HOk P w H s.heap
 bare:AllBare s.gens
def CE (outer:List Env)(P:Program)(w:World)(H:Hp)(s:Shared)(Q:VK)(u:Value)(s':Shared):Prop :=
 ∃ v H',s'.os=s.os/\AllBare s'.gens/\Un (frs outer) [] H H' s.heap s'.heap/\HOk P w H' s'.heap/\RelV v u/\Q v H'
def CR (CX:CXT)(outer:List Env)(P:Program)(w:World)(H:Hp)(s:Shared)(Q:VK)(E:XK)(r:Result)(s':Shared):Prop :=
 match r with
 | .ok (.ret u)=>CE outer P w H s Q u s'
 | .ok _=>False
 | .error e=>CX outer H s E e s'
structure FnOk (P:Program)(w:World)(K:Γd)(mg:Str->Option Value)(base:Heap)(CX:CXT) (k:Nat)(f:Addr)(fd:FuncData)(ps:List Str)(sp:Sp):Prop where
 len:∀ vs H Q E,sp vs H Q E->vs.length=ps.length
 run:∀ (A:Around)(outer:List Env)(s:Shared)(H:Hp)(args:Args)(us:List Value)(vs:List V)(Q:VK)(E:XK),Room k A->Env0 P w K mg base A outer s H->BindsTo s fd args (ps.zip us)->Vals vs us->sp vs H Q E ->
  codeAny (model P w) A (.call (.ref f) args) (CR CX outer P w H s Q E) s
theorem FnOk.mono {P:Program}{w:World}{K:Γd}{mg:Str->Option Value}{base:Heap}{CX:CXT}{j k:Nat}{f:Addr}{fd:FuncData}{ps:List Str}{sp:Sp}(F:FnOk P w K mg base CX j f fd ps sp)(h:j<=k) :
  FnOk P w K mg base CX k f fd ps sp:=⟨F.len,λA outer s H args us vs Q E hr=>F.run A outer s H args us vs Q E (hr.mono h)⟩
theorem Env0.in1 {P:Program}{w:World}{K:Γd}{mg:Str->Option Value}{base:Heap}{A:Around}{outer:List Env}{s:Shared}{H:Hp}(e:Env0 P w K mg base A outer s H) :
  Env0 P w K mg base A.in1 outer s H:=⟨e.frames,e.mod,e.bs,e.bsz,e.funs,e.frf,e.hok,e.bare⟩
section
variable {X:Cx}{pins:List (Addr×Obj)}{σ:St}{H:Hp}{s s':Shared}
theorem Inv.env0 (I:Inv X pins σ H s):Env0 X.prog X.w X.K X.mg X.base X.A X.stack s H :=
 ⟨I.ok.frames,I.ok.mod,I.bs,Nat.le_trans I.ok.bsz I.sz,I.stack,I.stkFree,I.hok,I.bare⟩
theorem Inv.after {Q:VK}{u:Value}(I:Inv X pins σ H s)(h:CE X.stack X.prog X.w H s Q u s'):EP X pins σ Q u s':=by
 obtain⟨v,H',os,bare,un,hok,r,q⟩:=h
 obtain⟨hh,g,d,t,os'⟩:=s'
 obtain rfl:os'=s.os:=os
 exact⟨v,H',I.call (h':=hh) (g':=g) (d':=d) (t':=t) (ch:=[]) un hok bare (λb z=>absurd z (by simp)),r,q⟩
end
def d7h (sp:Sp)(dvs:List V)(E:XK)(t:TA):TE:=λσ H Q=>t σ H λvs H1=>sp (vs++dvs) H1 Q E
def Binds (K:Γd)(fd:FuncData)(ps:List Str)(ds:List Value):Prop :=
 ∀ (s:Shared)(us:List Value),K.In s.heap->(us++ds).length=ps.length->BindsTo s fd ⟨us,[]⟩ (ps.zip (us++ds))
theorem Binds.all {K:Γd}{fd:FuncData}{ps:List Str}(h:∀ us:List Value,us.length=ps.length->bindArgs fd ⟨us,[]⟩=pure (ps.zip us)):Binds K fd ps []:=λs us _ hl=>by
 rw[List.append_nil] at hl ⊢
 exact .of_eq (h us hl)
def c1v (CX:CXT)(X:Cx)(E:XK):Prop:=∀ (pins:List (Addr×Obj))(σ:St)(H:Hp)(s:Shared)(e:Value)(s':Shared),Inv X pins σ H s->CX X.stack H s E e s'->X.xe e s'
section
variable {X:Cx}{CX:CXT}{k:Nat}{f C:Addr}{fd:FuncData}{ps:List Str}{sp:Sp}{dvs:List V}{ds:List Value}{E:XK}{x m:Str}{p pos apos:Pos}{e o:Expr}{es:List Expr}{ta:TE}{t:TA}
theorem d1i {pins:List (Addr×Obj)}{σ:St}{H:Hp}{s:Shared}{Q:VK}{us:List Value}{vs:List V}(F:FnOk X.prog X.w X.K X.mg X.base CX k f fd ps sp)(hr:Room k X.A)(hb:Binds X.K fd ps ds)(hd:Vals dvs ds)(hx:c1v CX X E)
  (I:Inv X pins σ H s)(r:Vals vs us)(h:sp (vs++dvs) H Q E):wpAny (model X.prog X.w) X.A (call (.ref f) us) (EP X pins σ Q) X.xe s:=by
 have r2:Vals (vs++dvs) (us++ds):=r.append hd
 have hl:(us++ds).length=ps.length:=by rw[<- r2.length];exact F.len _ _ _ _ h
 refine wpAny_call (codeAny_mono (F.run X.A X.stack s H ⟨us,[]⟩ (us++ds) (vs++dvs) Q E hr I.env0 (hb s us I.kIn hl) r2 h) λr s' hq=>?_)
 cases r with
 | error e=>exact hx pins σ H s e s' I hq
 | ok fl =>
  cases fl with
  | ret u=>exact I.after hq
  | next=>exact False.elim hq
  | brk=>exact False.elim hq
  | cont=>exact False.elim hq
theorem c7t (F:FnOk X.prog X.w X.K X.mg X.base CX k f fd ps sp)(hr:Room k X.A)(hg:Gl X x)(hm:X.mg x=some (.ref f))(hk:PySem.W.keepIn X.K (.ref f)=true)(hb:Binds X.K fd ps ds)(hd:Vals dvs ds)(hx:c1v CX X E)
  (ha:PA X (e :: es) t)(hdb:(x == ("__debug__":Str))=false:=by decide)(he:starEach (e :: es) X.env=(false,eval e X.env) :: starEach es X.env:=by rfl)(hpl:(backTo pos (starEach es X.env)).any (·.1)=false:=by rfl) :
  PE X (.Call (.Name x p) (e :: es) [] pos) (d7h sp dvs E t):=by
 intro pins s σ H Q I h
 refine wpAny_Call_Name_kw (c8k I hg hm ?_ hdb)
 refine PySem.W.callWith_K (h₀:=X.base) I.ok.mod.kin hk (thn (ha pos pins s σ H _ I h) λus s1 ⟨vs,H1,I1,r,q⟩=>⟨I1.kIn,?_⟩) he hpl
 exact d1i F hr hb hd hx I1 r q
structure Mk (K:Γd)(C f:Addr):Prop where
 makes:PySem.W.makesIn K C=true
 init:PySem.W.findIn K (.ref C) "__init__" = some (some (.ref f))
 fn:PySem.W.isFn K (.ref f)=true
 kp:PySem.W.keepIn K (.ref C)=true
end
section
variable {X:Cx}{CX:CXT}{k:Nat}{f C:Addr}{fd:FuncData}{ps ks:List Str}{sp:Sp}{E:XK}{x m:Str}{p pos apos kpos:Pos}{e o:Expr}{es:List Expr}{kws:List Keyword}{te ta:TE}{t tk:TA}{nm:Option Str}
structure KBinds (K:Γd)(fd:FuncData)(ps ks:List Str)(g:List Value->List Value->List Value)(gV:List V->List V->List V):Prop where
 to:∀ (s:Shared)(us ws:List Value),K.In s.heap->(g us ws).length=ps.length->BindsTo s fd ⟨us,ks.zip ws⟩ (ps.zip (g us ws))
 rel:∀ {vs:List V}{us:List Value}{zs:List V}{ws:List Value},Vals vs us->Vals zs ws->Vals (gV vs zs) (g us ws)
variable {g:List Value->List Value->List Value}{gV:List V->List V->List V}
end
structure FnScope (N P:List Str)(sc:Scope):Prop where
 kind:sc.kind=.function
 co:sc.isCoroutine=false
 gen:sc.isGenerator=false
 nd:N.Nodup
 pre:N.take P.length=P
 par:∀ x∈P,sc.names.lookup x=some .local ∨ sc.names.lookup x=some .cell
 nofree:∀ y∈sc.names,y.2≠.free
theorem b1o {kindOf:Str->Option NameKind}{x:Str}:∀ {binds:List (Str×Value)}{m:Str->Option Value},(∀ v,(x,v) ∉ binds)->bindL kindOf binds m x=m x
 | [],_,_=>rfl
 | (n,v) :: r,m,h=>by
  unfold bindL
  rw[b1o λw hw=>h w (Γh _ hw)]
  split
  ·have:x≠n:=by rintro rfl;exact h v Γn
   simp[this]
  ·rfl
theorem b1q {kindOf:Str->Option NameKind}{x:Str}:∀ {binds:List (Str×Value)}{m:Str->Option Value},(∀ v,(x,v) ∉ binds)->bindC kindOf binds m x=m x
 | [],_,_=>rfl
 | (n,v) :: r,m,h=>by
  unfold bindC
  rw[b1q λw hw=>h w (Γh _ hw)]
  split
  ·rfl
  ·have:x≠n:=by rintro rfl;exact h v Γn
   simp[this]
theorem b1p {kindOf:Str->Option NameKind}{x:Str}{v:Value}:∀ {P:List Str}{vs:List Value}{i:Nat}{m:Str->Option Value},P.Nodup->P[i]?=some x->vs[i]?=some v->kindOf x=some .local ->
  bindL kindOf (P.zip vs) m x=some v
 | [],_,_,_,_,h,_,_=>by simp at h
 | _ :: _,[],_,_,_,_,h,_=>by simp at h
 | p :: P,w :: vs,0,m,nd,h1,h2,hk=>by
  simp at h1 h2;subst h1;subst h2
  show bindL kindOf ((p,w) :: P.zip vs) m p=_
  unfold bindL
  rw[b1o λv hv=>(List.nodup_cons.mp nd).1 (List.of_mem_zip hv).1,if_pos hk]
  simp
 | p :: P,w :: vs,i+1,m,nd,h1,h2,hk=>by
  show bindL kindOf ((p,w) :: P.zip vs) m x=_
  unfold bindL
  exact b1p (i:=i) (List.nodup_cons.mp nd).2 (by simpa using h1) (by simpa using h2) hk
theorem b1r {kindOf:Str->Option NameKind}{x:Str}{v:Value}:∀ {P:List Str}{vs:List Value}{i:Nat}{m:Str->Option Value},P.Nodup->P[i]?=some x->vs[i]?=some v->kindOf x≠some .local ->
  bindC kindOf (P.zip vs) m x=some v
 | [],_,_,_,_,h,_,_=>by simp at h
 | _ :: _,[],_,_,_,_,h,_=>by simp at h
 | p :: P,w :: vs,0,m,nd,h1,h2,hk=>by
  simp at h1 h2;subst h1;subst h2
  show bindC kindOf ((p,w) :: P.zip vs) m p=_
  unfold bindC
  rw[b1q λv hv=>(List.nodup_cons.mp nd).1 (List.of_mem_zip hv).1,if_neg hk]
  simp
 | p :: P,w :: vs,i+1,m,nd,h1,h2,hk=>by
  show bindC kindOf ((p,w) :: P.zip vs) m x=_
  unfold bindC
  exact b1r (i:=i) (List.nodup_cons.mp nd).2 (by simpa using h1) (by simpa using h2) hk
def start (N:List Str)(vs:List V):St:=vs.map some++Γj (N.length-vs.length) none
def c9r (CX:CXT)(P:Program)(w:World)(K:Γd)(mg:Str->Option Value)(base:Heap)(N:List Str)(qual:Str)(scope:Scope)(f:Addr)(cd:Value)(A:Around)(outer:List Env)(s:Shared)(H:Hp)(E:XK):Cx where
 prog:=P
 w:=w
 K:=K
 mg:=mg
 base:=base
 A:=A.deeper (envOfC qual scope s.heap.objs.size f cd)
 N:=N
 s₀:=s
 H₀:=H
 env:=envOfC qual scope s.heap.objs.size f cd
 outer:=outer
 stack:=envOfC qual scope s.heap.objs.size f cd :: outer
 ex:=[]
 calm:=true
 fn:=λ_=>true
 pn:=[]
 xe:=λe s'=>wpAny (model P w) (A.deeper (envOfC qual scope s.heap.objs.size f cd)) (leaving (envOfC qual scope s.heap.objs.size f cd) e) (λ_ s''=>CX outer H s E e s'') (λe' s''=>CX outer H s E e' s'') s'
theorem b5b {sc:Scope}{n:Nat}{x:Str}(h:sc.names.lookup x=some .cell):∃ c,(cellsFrom n sc.names []).lookup x=some c:=by
 have q:=PySem.W.cellsFrom_some sc.names n [] (.inl h)
 exact Option.isSome_iff_exists.mp q
theorem b9s {CX:CXT}{P:Program}{w:World}{K:Γd}{mg:Str->Option Value}{base:Heap}{N ps:List Str}{qual:Str}{scope:Scope}{f:Addr}{cd:Value}{A:Around}{outer:List Env}{s s1:Shared}{H:Hp}{E:XK}{us:List Value}{vs:List V}
  (S:FnScope N ps scope)(hd:A.handled=none)(e0:Env0 P w K mg base A outer s H)(hl:vs.length=ps.length)(r:Vals vs us)
  (x:InCallC s s.heap.objs.size (bindL (envOfC qual scope s.heap.objs.size f cd).kindOf (ps.zip us) λ_=>none) (cellsFrom (s.heap.objs.size+1) scope.names []) (bindC (envOfC qual scope s.heap.objs.size f cd).kindOf (ps.zip us) λ_=>none) s1) :
  Inv (c9r CX P w K mg base N qual scope f cd A outer s H E) [] (start N vs) H s1:=by
 have hpl:ps.length<=N.length:=by have:=congrArg List.length S.pre;rw[List.length_take] at this;lia
 obtain⟨h1,tk,rfl,hk⟩:=x.done
 have noA:∀ b:Addr,b ∉ (c9r CX P w K mg base N qual scope f cd A outer s H E).ex:=λb z=>absurd (show b∈([]:List Addr) from z) (by simp)
 refine⟨⟨e0.mod,S.kind,rfl,rfl,Γi _,λy z c h1 h2=>?_,λy hy=>?_,λy c _ h=>?_,λ_=>hd,Around.frames_deeper e0.frames,.inr ⟨rfl,rfl⟩,λb z=>absurd z (noA b),e0.bs,e0.bsz,λb _ _=>noA b,λb z=>absurd z (noA b),e0.funs,e0.frf⟩,
  rfl,e0.bare,Un.kept hk,⟨_,x.toInCall.ns,λi y v h1 h2 h3=>?_⟩,λy c h=>⟨_,x.cell y c h⟩,e0.hok.fresh (Γi _),λy c h=>?_,λp hp=>absurd (show p∈([]:List (Addr×Obj)) from hp) (by simp),e0.hok.kept hk,?_⟩
 ·exact name_of_addr x.apart (PySem.mem_of_lookup h1) (PySem.mem_of_lookup h2)
 ·have hy:scope.names.lookup y=some .cell ∨ scope.names.lookup y=some .free:=hy
  rcases hy with hy|hy
  ·exact b5b hy
  ·exact absurd rfl (S.nofree _ (PySem.mem_of_lookup hy))
 ·exact Nat.le_of_lt (x.above y c (PySem.mem_of_lookup h))
 ·have hi:i<vs.length:=by
   unfold start at h2
   by_cases hi:i<vs.length
   ·exact hi
   ·rw[List.getElem?_append_right (by simpa using hi)] at h2
    rw[List.getElem?_replicate] at h2
    split at h2<;>cases h2
  have ha:vs[i]?=some v:=by
   unfold start at h2
   rw[List.getElem?_append_left (by simpa using hi),List.getElem?_map] at h2
   cases e:vs[i]? with
   | none=>rw[e] at h2;cases h2
   | some a=>rw[e] at h2;cases h2;rfl
  obtain⟨u,hu,rv⟩:=r.get ha
  have hp:ps[i]?=some y:=by
   rw[<- S.pre,List.getElem?_take_of_lt (by lia)];exact h1
  have ndP:ps.Nodup:=by rw[<- S.pre];exact S.nd.sublist (List.take_sublist _ _)
  refine⟨u,rv,?_⟩
  rcases S.par y (List.mem_of_getElem? hp) with k|k
  ·exact .inl ⟨k,b1p ndP hp hu k⟩
  ·obtain⟨c,e⟩:=b5b (n:=s.heap.objs.size+1) k
   refine .inr ⟨.inl k,c,e,?_⟩
   have q:=x.cell y c e
   rw[b1r ndP hp hu (by show scope.names.lookup y≠_;rw[k];decide)] at q
   exact q
 ·exact e0.hok.fresh (Nat.le_of_lt (x.above y c (PySem.mem_of_lookup h)))
 ·unfold start
  show _=N.length
  rw[List.length_append,List.length_map,List.length_replicate]
  lia
theorem e0f {CX:CXT}{P:Program}{w:World}{K:Γd}{mg:Str->Option Value}{base:Heap}{k:Nat}{f:Addr}{name qual:Str}{params:Arguments}{body:List Stmt}{scope:Scope}{dV kV doc pm cdv ct oc:Value}{an od:Option Addr}
  {osl:Array (Option Value)}{N ps:List Str}{sp:Sp}(lk:K.lookup f=some ⟨oc,od,.func (PySem.W.fnOf name qual params body scope dV kV doc pm an cdv ct),osl⟩)(hcd:PySem.W.codeIn K cdv qual=true)(S:FnScope N ps scope)
  (len:∀ vs H Q E,sp vs H Q E->vs.length=ps.length)
  (hbody:∀ (A:Around)(outer:List Env)(s:Shared)(H:Hp)(vs:List V)(Q:VK)(E:XK),Room k (A.deeper (envOfC qual scope s.heap.objs.size f cdv))->sp vs H Q E ->
   ∃ t,PSs (c9r CX P w K mg base N qual scope f cdv A outer s H E) body t/\t { nx:=λ_ H'=>Q .non H',rt:=Q } (start N vs) H) :
  FnOk P w K mg base CX (k+1) f (PySem.W.fnOf name qual params body scope dV kV doc pm an cdv ct) ps sp:=by
 refine⟨len,λA outer s H args us vs Q E hr e0 hb r hsp=>?_⟩
 have hl:=len _ _ _ _ hsp
 have KX:K.In s.heap:=e0.mod.kin.keeps λb o e=>(e0.bs b o e).1
 have lim:s.heap.NoLimit:=e0.mod.nolimit.keeps λb o e=>(e0.bs b o e).1
 have hkind:∀ y∈ps.zip us,scope.names.lookup y.1=some .local ∨ (scope.names.lookup y.1=some .cell/\((cellsFrom (s.heap.objs.size+1) scope.names []).lookup y.1).isSome=true):=λ⟨n,v⟩ hy=>by
  rcases S.par n (List.of_mem_zip hy).1 with q|q
  ·exact .inl q
  ·exact .inr ⟨q,PySem.W.cellsFrom_some _ _ _ (.inl q)⟩
 refine codeAny_call_function hr.depth (KX _ _ lk) rfl S.co S.gen rfl (PySem.W.codeRec_of KX hcd) (hb _ _ _ _ ?_)
 refine wpAny_newFunctionEnv_cells S.kind hkind λenv he s1 x=>?_
 subst he
 refine⟨lim.keeps x.toInCall.keep,codeAny_func ?_⟩
 obtain⟨t,ht,hq⟩:=hbody A outer s H vs Q E (hr.deeper _) hsp
 have I:Inv (c9r CX P w K mg base N qual scope f cdv A outer s H E) [] (start N vs) H s1:=b9s S hr.hd e0 hl r x
 refine wpAny_mono (ht [] s1 (start N vs) H _ I hq) (λfl s' hs=>?_) λe s' hs=>hs
 have fin:∀ {σ':St}{H':Hp}{v:V}{u:Value},Inv (c9r CX P w K mg base N qual scope f cdv A outer s H E) [] σ' H' s'->RelV v u->Q v H'->CE outer P w H s Q u s' :=
  λ{σ' H' v u} J rv q=>⟨v,H',J.os,J.bare,J.base,J.hok,rv,q⟩
 cases fl with
 | ret u =>
  obtain⟨v,σ',H',J,rv,q⟩:=hs
  exact fin J rv q
 | next =>
  obtain⟨σ',H',J,q⟩:=hs
  exact fin (v:=V.non) (u:=Value.none) J rfl q
 | brk =>
  obtain⟨_,_,_,q⟩:=hs
  exact False.elim q
 | cont =>
  obtain⟨_,_,_,q⟩:=hs
  exact False.elim q
end L2
namespace L2
open PySem PySem.Spec PyProof.Rows
section
variable {X:Cx}{x:Str}{p pos:Pos}{e:Expr}{es:List Expr}{t:TA}{id T:String}{r:List V->Hp->VK->Prop}
def tCB (r:List V->Hp->VK->Prop)(t:TA):TE:=λσ H Q=>t σ H λvs H1=>r vs H1 Q
theorem a5q (hc:a1r X (.builtin id) r)(hg:Gl X x)(hm:X.mg x=none)(hv:bootBuiltins x=some (.builtin id))(ha:PA X (e :: es) t)(hn:x≠"__name__":=by decide)(hdb:(x == ("__debug__":Str))=false:=by decide)
  (he:starEach (e :: es) X.env=(false,eval e X.env) :: starEach es X.env:=by rfl)(hpl:(backTo pos (starEach es X.env)).any (·.1)=false:=by rfl):PE X (.Call (.Name x p) (e :: es) [] pos) (tCB r t):=by
 intro pins s σ H Q I h
 refine wpAny_Call_Name_kw (a3n I hg hm hv ?_ hn hdb)
 exact PyProof.Rows.callWith_builtin1 (thn (ha pos pins s σ H _ I h) λus s1 ⟨vs,H1,I1,r1,q1⟩=>hc pins s1 σ H1 vs us Q I1 r1 q1) he hpl
theorem b8u (hc:a1r X (.type T) r)(hg:Gl X x)(hm:X.mg x=none)(hv:bootBuiltins x=some (.type T))(ha:PA X (e :: es) t)(hn:x≠"__name__":=by decide)(hdb:(x == ("__debug__":Str))=false:=by decide)
  (he:starEach (e :: es) X.env=(false,eval e X.env) :: starEach es X.env:=by rfl)(hpl:(backTo pos (starEach es X.env)).any (·.1)=false:=by rfl):PE X (.Call (.Name x p) (e :: es) [] pos) (tCB r t):=by
 intro pins s σ H Q I h
 refine wpAny_Call_Name_kw (a3n I hg hm hv ?_ hn hdb)
 exact PyProof.Rows.callWith_type1 (thn (ha pos pins s σ H _ I h) λus s1 ⟨vs,H1,I1,r1,q1⟩=>hc pins s1 σ H1 vs us Q I1 r1 q1) he hpl
end
end L2
namespace HT
open PySem PyProof.Rows
def lexLt:List Int->List Int->Bool
 | [],[]=>false
 | [],_ :: _=>true
 | _ :: _,[]=>false
 | x :: xs,y :: ys=>if x=y then lexLt xs ys else decide (x<y)
theorem b5y (x y:Int)(xs ys:List Int):lexLt (x :: xs) (y :: ys)=if x=y then lexLt xs ys else decide (x<y):=rfl
theorem a9d:lexLt [] []=false:=rfl
theorem a7g (y:Int)(ys:List Int):lexLt [] (y :: ys)=true:=rfl
theorem a7h (x:Int)(xs:List Int):lexLt (x :: xs) []=false:=rfl
theorem c3z (A:Around)(s:Shared) (a:Int)(t:Tok) (c:Int)(u:Tok):∃ e,SeqAt.EqAt A s (.int a t) (.int c u) e/\(e=true↔a=c) :=
 ⟨(a == c),SeqAt.EqAt.int_int a t c u,by simp⟩
theorem c2l (A:Around)(s:Shared) (a:Int)(t:Tok) (c:Int)(u:Tok)(prog:Program)(w:World)(E:Value->Shared->Prop)(Q:Value->Shared->Prop)(h:Q (.bool (decide (a<c))) s) :
  wpAny (model prog w) A (richCompare .Lt (.int a t) (.int c u)) Q E s :=
 (PyProof.Rows.lt_int h:wpAny (model prog w) A (compareOp .Lt (.int a t) (.int c u)) Q E s)
section
open PySem.SeqAt
open PySem.AutoSeq1 (wpAny_loadPart')
open PySem.MeetsSeq PySem.MeetsSeq2 PySem.MeetsSeq3
theorem a8m (l b:Addr)(items items2:Array Value) (n n2:Nat)(dd dd2:Option Addr)(sl sl2:Array (Option Value))(ns ms:List Int)(hi:IntsAre items.toList ns)(hj:IntsAre items2.toList ms) :
  Meets (Builtin.«tuple.__lt__» ⟨[.ref l,.ref b],[]⟩)
   (λ_ R s=>s.heap.get? l=some { cls:=.type "tuple",dict:=dd,data:=.seq items n,slots:=sl }/\s.heap.get? b=some { cls:=.type "tuple",dict:=dd2,data:=.seq items2 n2,slots:=sl2 } /\
    R (.ok (.ret (.bool (lexLt ns ms)))) s) :=
 .of_wp λprog w A R s h=>by
  obtain⟨hp,g,d,tk,os⟩:=s;obtain⟨hl,hb,h⟩:=h
  have f2:=AutoSeq1.sub_tuple_tuple
  have z1:items.size=ns.length:=by rw[<- hi.length];simp
  have z2:items2.size=ms.length:=by rw[<- hj.length];simp
  wp_walk using wpAny_loadPart' hl,wpAny_loadPart' hb,wpAny_forIn_list _ (λrest b s'=>b.1=none/\s'=⟨hp,g,d,tk,os⟩/\∃ (vs ws:List Value)(ns' ms':List Int),rest=vs.zip ws /\
   IntsAre vs ns'/\IntsAre ws ms'/\ns'.length+items2.size=ms'.length+items.size/\R (.ok (.ret (.bool (lexLt ns' ms')))) ⟨hp,g,d,tk,os⟩) _
  case turn =>
   rintro⟨y,x⟩ rest b s' ⟨hb',rfl,vs,ws,ns',ms',hz,hvi,hwi,hlen,hR⟩
   cases hvi with
   | nil=>rw[List.zip_nil_left] at hz;cases hz
   | cons a t hvi' =>
    cases hwi with
    | nil=>rw[List.zip_nil_right] at hz;cases hz
    | cons c u hwi' =>
     rw[List.zip_cons_cons] at hz
     injection hz with hyx hrest
     injection hyx with hy hx
     subst hy hx
     rw[b5y] at hR
     simp only[List.length_cons] at hlen
     obtain⟨e,he,hiff⟩:=c3z A.in1 ⟨hp,g,d,tk,os⟩ a t c u
     refine Γa (he prog w _ _ ?_)
     cases e with
     | true =>
      rw[if_pos (hiff.mp rfl)] at hR
      wp_walk
      exact⟨rfl,rfl,_,_,_,_,hrest,hvi',hwi',by lia,hR⟩
     | false =>
      rw[if_neg (λq=>absurd (hiff.mpr q) Γk)] at hR
      have hri:=c2l A.in1 ⟨hp,g,d,tk,os⟩ a t c u prog w
      wp_walk using hri
      exact⟨_,rfl,by simpa using hR⟩
  case fin =>
   rintro⟨b1,b2⟩ s' ⟨hb',rfl,vs,ws,ns',ms',hz,hvi,hwi,hlen,hR⟩
   simp only at hb'
   subst hb'
   have hv:lexLt ns' ms'=decide (items.size<items2.size):=by
    cases hvi with
    | nil =>
     cases hwi with
     | nil =>
      simp only[List.length_nil] at hlen
      rw[a9d]
      exact (decide_eq_false (by lia)).symm
     | cons c u hw =>
      simp only[List.length_nil,List.length_cons] at hlen
      rw[a7g]
      exact (decide_eq_true (by lia)).symm
    | cons a t hv =>
     cases hwi with
     | nil =>
      simp only[List.length_nil,List.length_cons] at hlen
      rw[a7h]
      exact (decide_eq_false (by lia)).symm
     | cons c u hw =>
      rw[List.zip_cons_cons] at hz
      cases hz
   rw[hv] at hR
   wp_walk
   exact⟨_,rfl,by simpa[Builtin.Tuple.tupleCompareSizes] using hR⟩
  case h =>
   exact⟨rfl,rfl,items.toList,items2.toList,ns,ms,rfl,hi,hj,by lia,h⟩
end
section
variable {prog:Program}{w:World}{A:Around}{E:Value->Shared->Prop}{s:Shared}
theorem lt_tupInts {l b:Addr}{items items2:Array Value}{ns ms:List Int}{Q:Value->Shared->Prop}(hl:IsTup s.heap l items)(hb:IsTup s.heap b items2)(hi:IntsAre items.toList ns)(hj:IntsAre items2.toList ms)
  (hu:A.units<cLine)(h:Q (.bool (lexLt ns ms)) s):wpAny (model prog w) A (compareOp .Lt (.ref l) (.ref b)) Q E s:=by
 obtain⟨⟨cls,dd,data,sl⟩,ho,hc,n,hd⟩:=id hl
 obtain⟨⟨cls2,dd2,data2,sl2⟩,ho2,hc2,n2,hd2⟩:=id hb
 simp only at hc hd hc2 hd2
 subst hc hd hc2 hd2
 exact richCompare_meets_room (op:=.Lt) ⟨_,ho,rfl⟩ ⟨_,ho2,rfl⟩ PySem.F.slot_tuple_lt PySem.F.entry_tuple_lt (PySem.F.args_tuple_lt_2 _ _) (a8m l b items items2 n n2 dd dd2 sl sl2 ns ms hi hj)
  ⟨ho,ho2,show Value.bool (lexLt ns ms)≠Value.notImplemented/\Q (.bool (lexLt ns ms)) s from ⟨(λx=>nomatch x),h⟩⟩ hu
theorem cat_tup {t b:Addr}{vs ws:List Value}{Q:Value->Shared->Prop}(ht:IsTup s.heap t vs.toArray)(hb:IsTup s.heap b ws.toArray)(hv:vs≠[])
  (h1:ws=[]->Q (.ref t) s)(h2:ws≠[]->Q (.ref s.heap.objs.size) { s with heap:=s.heap.push { cls:=.type "tuple",data:=.seq (vs++ws).toArray } })
  (hsz:vs.length+ws.length<=sizeLine):wpAny (model prog w) A (binaryOp .Add (.ref t) (.ref b)) Q E s:=by
 obtain⟨⟨cls,dd,data,sl⟩,ho,hc,n,hd⟩:=id ht
 obtain⟨⟨cls2,dd2,data2,sl2⟩,ho2,hc2,n2,hd2⟩:=id hb
 simp only at hc hd hc2 hd2
 subst hc hd hc2 hd2
 have e:vs.toArray++ws.toArray=(vs++ws).toArray:=by simp
 by_cases hw:ws=[]
 ·exact concat_meets ⟨_,ho,rfl⟩ ⟨_,ho2,rfl⟩ noFill_tuple_add seq_tuple_add PySem.F.slot_tuple_add PySem.F.entry_tuple_add (PySem.F.args_tuple_add_2 _ _)
   (tuple_addW1 t b vs.toArray ws.toArray n n2 dd dd2 sl sl2 (by simpa using hv) (by simp[hw])) ⟨ho,ho2,h1 hw⟩
 ·refine concat_meets ⟨_,ho,rfl⟩ ⟨_,ho2,rfl⟩ noFill_tuple_add seq_tuple_add PySem.F.slot_tuple_add PySem.F.entry_tuple_add (PySem.F.args_tuple_add_2 _ _)
   (tuple_addW2 t b vs.toArray ws.toArray n n2 dd dd2 sl sl2 (by simpa using hv) (by simpa using hw) (by rw[List.size_toArray,List.size_toArray];exact hsz)) ⟨ho,ho2,?_⟩
  rw[e]
  exact h2 hw
def sIx (n d:Nat):Option Int->Nat
 | none=>d
 | some v=>if v<0 then (v+(n:Int)).toNat else min v.toNat n
theorem d1g (n d:Nat)(hd:d<=n)(o:Option Int):sIx n d o<=n:=by
 cases o with
 | none=>exact hd
 | some v =>
  show (if v<0 then (v+(n:Int)).toNat else min v.toNat n)<=n
  by_cases hv:v<0
  ·rw[if_pos hv];lia
  ·rw[if_neg hv];exact Nat.min_le_right _ _
theorem c1g (v:Int) (n d:Nat):(if v<0 then max (v+(n:Int)) 0 else min v (n:Int))=((sIx n d (some v):Nat):Int):=by
 show (if v<0 then max (v+(n:Int)) 0 else min v (n:Int))=(((if v<0 then (v+(n:Int)).toNat else min v.toNat n):Nat):Int)
 by_cases hv:v<0
 ·simp only[if_pos hv];lia
 ·simp only[if_neg hv];lia
theorem b6t (lo hi:Option Int) (n:Nat):Builtin.Slice.sliceAdjust lo hi 1 (n:Int)=(((sIx n 0 lo:Nat):Int),((sIx n n hi:Nat):Int)):=by
 have h1:¬ ((1:Int)<0):=by lia
 unfold Builtin.Slice.sliceAdjust
 simp only[h1,if_false]
 refine Prod.ext ?_ ?_
 ·cases lo with
  | none=>rfl
  | some v=>exact c1g v n 0
 ·cases hi with
  | none=>rfl
  | some v=>exact c1g v n n
theorem b5u (i j:Nat):Builtin.Slice.slicePlaces (i:Int) (j:Int) 1=j-i:=by
 unfold Builtin.Slice.slicePlaces
 have h1:(1:Int) > 0:=by lia
 simp only[h1,if_true,Int.ediv_one]
 split<;>lia
theorem a7s {v:Value}{o:Option Int}{Q:Option Int->Shared->Prop}(p:IsPart v o)(h:Q o s):wpAny (model prog w) A (Builtin.Slice.slicePartIndex v) Q E s:=by
 cases p with
 | none=>exact slicePart_none h
 | int i t=>exact slicePart_int h
theorem sliceApplied_gen {sl:Addr}{vl vu:Value}{lo hi:Option Int}{n:Nat}{Q:Int×Int×Nat->Shared->Prop}(hs:s.heap.IsSliceOf sl vl vu .none)(pl:IsPart vl lo)(pu:IsPart vu hi)
  (h:Q (((sIx n 0 lo:Nat):Int),1,sIx n n hi-sIx n 0 lo) s):wpAny (model prog w) A (Builtin.Slice.sliceApplied (.ref sl) (pure (n:Int))) Q E s:=by
 obtain⟨os,hos,hcs,hds⟩:=id hs
 unfold Builtin.Slice.sliceApplied Builtin.Slice.sliceFields
 refine Γa (Γa (wpAny_field hos hds (x:=vl) rfl (Γa (wpAny_field hos hds (x:=vu) rfl (Γa (wpAny_field hos hds (x:=.none) rfl (Γb ?_)))))))
 refine Γa (slicePart_none ?_)
 show wpAny _ _ (if ((1:Int) == 0)=true then _ else _) _ _ s
 rw[if_neg (by decide)]
 refine Γa (a7s pl (Γa (a7s pu (Γa (Γb ?_)))))
 show wpAny _ _ (match Builtin.Slice.sliceAdjust lo hi 1 (n:Int) with|(lo,hi)=>pure (lo,(1:Int),Builtin.Slice.slicePlaces lo hi 1)) _ _ s
 rw[b6t lo hi n]
 show wpAny _ _ (pure (((sIx n 0 lo:Nat):Int),(1:Int),Builtin.Slice.slicePlaces ((sIx n 0 lo:Nat):Int) ((sIx n n hi:Nat):Int) 1)) _ _ s
 rw[b5u]
 exact Γb h
theorem c2s (xs:Array Value) (i k:Nat):((List.range k).filterMap λ(m:Nat)=>xs[((i:Int)+(m:Int)*1).toNat]?).toArray=((xs.toList.drop i).take k).toArray:=by
 have e:(λ(m:Nat)=>xs[((i:Int)+(m:Int)*1).toNat]?)=λm=>xs[i+m]?:=by
  funext m
  have:((i:Int)+(m:Int)*1).toNat=i+m:=by lia
  rw[this]
 rw[e]
 have:=pick_run xs i k
 rw[List.filterMap_map] at this
 have e2:((λx=>xs[x]?) ∘ λx=>i+x)=λm=>xs[i+m]?:=rfl
 rw[e2] at this
 rw[this]
theorem getItem_tuple_cut {t sl:Addr}{items:Array Value}{vl vu:Value}{lo hi:Option Int}{Q:Value->Shared->Prop}(ht:IsTup s.heap t items)(hs:s.heap.IsSliceOf sl vl vu .none)(pl:IsPart vl lo)(pu:IsPart vu hi)
  (hw:¬ (sIx items.size 0 lo=0/\sIx items.size items.size hi=items.size))
  (h:Q (.ref s.heap.objs.size) { s with heap:=s.heap.push { cls:=.type "tuple",data:=.seq ((items.toList.drop (sIx items.size 0 lo)).take (sIx items.size items.size hi-sIx items.size 0 lo)).toArray } })
  (hsz:items.size<=sizeLine):wpAny (model prog w) A (getItem (.ref t) (.ref sl)) Q E s:=by
 have htake:sizeOk (.seq ((items.toList.drop (sIx items.size 0 lo)).take (sIx items.size items.size hi-sIx items.size 0 lo)).toArray):=by
  show ((items.toList.drop (sIx items.size 0 lo)).take (sIx items.size items.size hi-sIx items.size 0 lo)).toArray.size<=sizeLine
  rw[List.size_toArray,List.length_take,List.length_drop,Array.length_toList]
  lia
 have hj:sIx items.size items.size hi<=items.size:=d1g _ _ (Γi _) hi
 obtain⟨os,hos,hcs,hds⟩:=id hs
 have hTs:s.TypeIs (.ref sl) "slice":=⟨os,hos,hcs⟩
 unfold getItem
 try with_reducible refine Γg ?_
 first|refine Γa (Γb ?_)|skip
 refine Γa (wpAny_sequenceKey ht.typeIs (by decide) ?_)
 refine Γa (wpAny_callSpecial?_slot (name:=Γe "__getitem__") ht.typeIs PyProof.Rows.slot_tuple_getitem
  (wpAny_call_entry PyProof.Rows.slot_tuple_getitem ht.typeIs entry_tuple_getitem ?_ (args_tuple_getitem _ _)))
 show wpAny _ _ (Builtin.Tuple.tupleItemsOf (.ref t) >>= _) _ _ s
 refine Γa (tupleItemsOf_ ht ?_)
 refine Γa (wpAny_typeOf hTs ?_)
 rw[if_pos (by decide)]
 refine Γa (sliceApplied_gen hs pl pu ?_)
 have hno:¬ ((((sIx items.size 0 lo:Nat):Int) == 0 && (1:Int) == 1 && (sIx items.size items.size hi-sIx items.size 0 lo) == items.size)=true):=by
  intro q
  rw[Bool.and_eq_true,Bool.and_eq_true] at q
  have q1:((sIx items.size 0 lo:Nat):Int)=0:=eq_of_beq q.1.1
  have q2:sIx items.size items.size hi-sIx items.size 0 lo=items.size:=eq_of_beq q.2
  exact hw ⟨by lia,by lia⟩
 show wpAny _ _ (if (((sIx items.size 0 lo:Nat):Int) == 0 && (1:Int) == 1 && (sIx items.size items.size hi-sIx items.size 0 lo) == items.size)=true then _ else _) _ _ s
 rw[if_neg hno,c2s]
 first
  | exact Γa (m:=Builtin.Tuple.tupleExact _) (wpAny_newObj_type (Γb ⟨_,rfl,Γb h⟩) htake)
  | exact Γa (m:=Builtin.Tuple.tupleExact _) (wpAny_newObj_type (Γa (Γb (Γb ⟨_,rfl,Γb h⟩))) htake)
  | exact Γa (Γa (m:=Builtin.Tuple.tupleExact _) (wpAny_newObj_type (Γb (Γb ⟨_,rfl,Γb h⟩)) htake))
  | exact Γa (Γa (m:=Builtin.Tuple.tupleExact _) (wpAny_newObj_type (Γb ⟨_,rfl,Γb h⟩) htake))
end
end HT
namespace L2
open PySem PySem.Spec PyProof.Rows
abbrev TO:=St->Hp->(Option Int->Hp->Prop)->Prop
def PO (X:Cx)(e:Option Expr)(t:TO):Prop :=
 ∀ (pins:List (Addr×Obj))(s:Shared)(σ:St)(H:Hp)(Q:Option Int->Hp->Prop),Inv X pins σ H s->t σ H Q ->
  wpAny (model X.prog X.w) X.A (evalPart e X.env) (λu s'=>∃ o H',Inv X pins σ H' s'/\IsPart u o/\Q o H') X.xe s
def c6f:TO:=λ_ H Q=>Q none H
def d7a (t:TE):TO:=λσ H Q=>t σ H λx H1=>∃ i,x=.int i/\Q (some i) H1
theorem a3w {ns:List Int}:∀ {us:List Value},Vals (ns.map V.int) us->IntsAre us ns:=by
 induction ns with
 | nil=>intro us r;rw[List.map_nil] at r;cases r;exact .nil
 | cons n ns ih =>
  intro us r
  rw[List.map_cons] at r
  cases r with
  | cons r1 r2 =>
   obtain⟨t,e⟩:=r1
   subst e
   exact .cons n t (ih r2)
section
variable {X:Cx}{e:Expr}{te:TE}{lo hi:Option Expr}{tl th:TO}{pos p2:Pos}
theorem c7n:PO X none c6f:=by
 intro pins s σ H Q I h
 rw[evalPart_none]
 exact Γb ⟨none,H,I,.none,h⟩
theorem c7m (h:PE X e te):PO X (some e) (d7a te):=by
 intro pins s σ H Q I hw
 rw[evalPart_some]
 refine thn (h pins s σ H _ I hw) λu s1 ⟨x,H1,I1,r1,q1⟩=>?_
 obtain⟨i,rfl,q⟩:=q1
 obtain⟨t,rfl⟩:=r1
 exact⟨some i,H1,I1,.int i t,q⟩
def SlR (X:Cx)(r:V->Option Int->Option Int->Hp->VK->Prop):Prop :=
 ∀ (pins:List (Addr×Obj))(s:Shared)(σ:St)(H:Hp)(x:V)(v vl vu:Value)(lo hi:Option Int)(sl:Addr)(Q:VK),Inv X pins σ H s->RelV x v->s.heap.IsSliceOf sl vl vu .none->IsPart vl lo->IsPart vu hi->r x lo hi H Q ->
  ∃ T id,typeLookup (.type T) "__getitem__" = pure (some (.builtin id))/\s.TypeIs v T/\wpAny (model X.prog X.w) X.A (getItem v (.ref sl)) (EP X pins σ Q) X.xe s
def tSl (r:V->Option Int->Option Int->Hp->VK->Prop)(te:TE)(tl th:TO):TE:=λσ H Q=>te σ H λx H1=>tl σ H1 λl H2=>th σ H2 λu H3=>r x l u H3 Q
theorem c2t {r:V->Option Int->Option Int->Hp->VK->Prop}(hr:SlR X r)(he:PE X e te)(hl:PO X lo tl)(hu:PO X hi th):PE X (.Subscript e (.Slice lo hi none p2) pos) (tSl r te tl th):=by
 intro pins s σ H Q I h
 refine Subscript_ (thn (he pins s σ H _ I h) λv s1 ⟨x,H1,I1,r1,q1⟩=>?_)
 refine wpAny_Slice (thn (hl pins s1 σ H1 _ I1 q1) λvl s2 ⟨l,H2,I2,pl,q2⟩=>thn (hu pins s2 σ H2 _ I2 q2) λvu s3 ⟨u,H3,I3,pu,q3⟩=>?_)
 rw[evalPart_none]
 refine Γb ?_
 have I4:Inv X pins σ H3 { s3 with heap:=s3.heap.push { cls:=.type "slice",data:=.fields #[vl,vu,.none] } }:=I3.kept (t':=s3.toks) λb ob q=>Γc _ q
 obtain⟨T,id,hT,ht,hg⟩:=hr pins { s3 with heap:=s3.heap.push { cls:=.type "slice",data:=.fields #[vl,vu,.none] } } σ H3 x v vl vu l u s3.heap.objs.size Q I4 r1 (Heap.IsSliceOf.new ..) pl pu q3
 show wpAny (model X.prog X.w) X.A (subscriptTail e (.Slice lo hi none p2) v (.ref s3.heap.objs.size)) (EP X pins σ Q) X.xe { s3 with heap:=s3.heap.push { cls:=.type "slice",data:=.fields #[vl,vu,.none] } }
 exact tail_any (ops:=[.ref s3.heap.objs.size,v]) ht hT hg (by with_unfolding_all rfl)
def c5x (xs:List V)(lo hi:Option Int):List V:=(xs.drop (HT.sIx xs.length 0 lo)).take (HT.sIx xs.length xs.length hi-HT.sIx xs.length 0 lo)
theorem a6z (xs:List V)(lo hi:Option Int):(c5x xs lo hi).length<=xs.length:=by
 unfold c5x
 rw[List.length_take,List.length_drop]
 lia
def rSlT (K:Γd):V->Option Int->Option Int->Hp->VK->Prop:=λx lo hi H Q=>∃ a xs,x=.ref a/\SqT K H a xs /\
 ¬ (HT.sIx xs.length 0 lo=0/\HT.sIx xs.length xs.length hi=xs.length)/\∀ p,H p=none->Q (.ref p) (upd H p (.tup (c5x xs lo hi)))
theorem d1f:SlR X (rSlT X.K):=by
 intro pins s σ H x v vl vu lo hi sl Q I rx hs pl pu h
 obtain⟨a,xs,rfl,hx,hw,q⟩:=h
 cases rx
 obtain⟨its,r,ht,hz⟩:=I.tuple hx
 have hlen:its.toArray.size=xs.length:=by rw[List.size_toArray];exact r.length.symm
 refine⟨"tuple",_,PyProof.Rows.slot_tuple_getitem.lookup,ht.typeIs,?_⟩
 refine HT.getItem_tuple_cut ht hs pl pu (by rw[hlen];exact hw) ?_ (by rw[hlen];exact hz)
 rw[hlen]
 refine⟨.ref s.heap.objs.size,_,I.laid (t':=s.toks) (o:=.tup (c5x xs lo hi)) (λb ob q=>Γc _ q) (Γi _) ?_,rfl,q _ (I.hok.fresh (Γi _))⟩
 exact⟨Nat.le_trans (a6z xs lo hi) hz,_,(r.drop (HT.sIx xs.length 0 lo)).take (HT.sIx xs.length xs.length hi-HT.sIx xs.length 0 lo),IsTup.new _ _⟩
def rLtT (K:Γd):R2:=λx y H Q=>∃ a b ns ms,x=.ref a/\y=.ref b/\SqT K H a (ns.map V.int)/\SqT K H b (ms.map V.int)/\Q (.bl (HT.lexLt ns ms)) H
theorem d2q (hu:X.A.units<cLine):OpR X (compareOp .Lt) (rLtT X.K):=by
 intro pins s σ H x y v u Q I rx ry h
 obtain⟨a,b,ns,ms,rfl,rfl,ha,hb,q⟩:=h
 cases rx
 cases ry
 obtain⟨its,r1,p1,_⟩:=I.tuple ha
 obtain⟨its2,r2,p2,_⟩:=I.tuple hb
 have i1:IntsAre its.toArray.toList ns:=a3w r1
 have i2:IntsAre its2.toArray.toList ms:=a3w r2
 exact HT.lt_tupInts p1 p2 i1 i2 hu ⟨.bl (HT.lexLt ns ms),H,I,rfl,q⟩
def d8a (K:Γd):R2:=λx y H Q=>∃ a b xs ys,x=.ref a/\y=.ref b/\SqT K H a xs/\SqT K H b ys/\xs≠[]/\xs.length+ys.length<=sizeLine /\
 (ys=[]->Q (.ref a) H)/\(ys≠[]->∀ p,H p=none->Q (.ref p) (upd H p (.tup (xs++ys))))
theorem Vals.nil_iff {xs:List V}{us:List Value}(r:Vals xs us):us=[]↔xs=[]:=by
 cases r with
 | nil=>simp
 | cons _ _=>simp
theorem c8b:OpR X (binaryOp .Add) (d8a X.K):=by
 intro pins s σ H x y v u Q I rx ry h
 obtain⟨a,b,xs,ys,rfl,rfl,ha,hb,hx,hz,q1,q2⟩:=h
 cases rx
 cases ry
 obtain⟨its,r1,p1,_⟩:=I.tuple ha
 obtain⟨its2,r2,p2,_⟩:=I.tuple hb
 refine HT.cat_tup p1 p2 (λz=>hx (r1.nil_iff.mp z)) (λz=>⟨.ref a,H,I,rfl,q1 (r2.nil_iff.mp z)⟩) (λz=>?_) (by rw[<- r1.length,<- r2.length];exact hz)
 refine⟨.ref s.heap.objs.size,_,I.laid (t':=s.toks) (o:=.tup (xs++ys)) (λb ob q=>Γc _ q) (Γi _) ?_,rfl,q2 (λw=>z (r2.nil_iff.mpr w)) _ (I.hok.fresh (Γi _))⟩
 exact⟨by rw[List.length_append];exact hz,_,r1.append r2,IsTup.new _ _⟩
end
end L2
namespace L2
open PySem PySem.Spec PyProof.Rows
def ixN (n:Nat) (i:Int):Option Nat:=if 0<=i then (if i<n then some i.toNat else none) else if -(n:Int)<=i then some (i+n).toNat else none
def atI {α:Type}(xs:List α) (i:Int):Option α:=(ixN xs.length i).bind λj=>xs[j]?
theorem b9n {n:Nat}{i:Int}{j:Nat}(h:ixN n i=some j):seqIndex? i n=some j/\j<n/\-(n:Int)<=i/\i<n:=by
 unfold ixN at h
 by_cases h0:0<=i
 ·rw[if_pos h0] at h
  by_cases h1:i<n
  ·rw[if_pos h1] at h
   have e:i.toNat=j:=Option.some.inj h
   exact⟨by rw[seqIndex_of h0 h1,e],by lia,by lia,h1⟩
  ·rw[if_neg h1] at h;cases h
 ·rw[if_neg h0] at h
  by_cases h1:-(n:Int)<=i
  ·rw[if_pos h1] at h
   have e:(i+n).toNat=j:=Option.some.inj h
   exact⟨by rw[seqIndex_neg (by lia) h1,e],by lia,h1,by lia⟩
  ·rw[if_neg h1] at h;cases h
theorem c1n {α:Type}{xs:List α}{i:Int}{v:α}(h:atI xs i=some v):∃ j,seqIndex? i xs.length=some j/\xs[j]?=some v/\j<xs.length/\-(xs.length:Int)<=i/\i<xs.length:=by
 unfold atI at h
 cases e:ixN xs.length i with
 | none=>rw[e] at h;cases h
 | some j =>
  rw[e] at h
  obtain⟨h1,h2,h3,h4⟩:=b9n e
  exact⟨j,h1,h,h2,h3,h4⟩
def c1u (b:Expr):Prop:=∀ o i,subscripted b false o i=operate [o,i] (getItem o i)
def IxR (X:Cx)(r:R2):Prop :=
 ∀ (value slice:Expr)(pins:List (Addr×Obj))(s:Shared)(σ:St)(H:Hp)(x y:V)(v u:Value)(Q:VK),Inv X pins σ H s->RelV x v->RelV y u->r x y H Q ->
  subscripted slice false v u=operate [v,u] (getItem v u)->wpAny (model X.prog X.w) X.A (subscriptTail value slice v u) (EP X pins σ Q) X.xe s
def MtR (X:Cx)(id:String)(r:V->List V->Hp->VK->Prop):Prop :=
 ∀ (pins:List (Addr×Obj))(s:Shared)(σ:St)(H:Hp)(x:V)(xs:List V)(v:Value)(us:List Value)(Q:VK),Inv X pins σ H s->RelV x v->Vals xs us->r x xs H Q ->
  wpAny (model X.prog X.w) X.A (call (.builtin id) (v :: us)) (EP X pins σ Q) X.xe s
section
variable {X:Cx}{a b:Expr}{ta tb:TE}{pos:Pos}
theorem d2g {r:R2}(hr:IxR X r)(ha:PE X a ta)(hb:PE X b tb)(hs:c1u b):PE X (.Subscript a b pos) (tOp r ta tb):=by
 intro pins s σ H Q I h
 exact Subscript_ (e3e ha hb I h λv u s2 x y H2 I2 rx ry q=>hr a b pins s2 σ H2 x y v u Q I2 rx ry q (hs _ _))
def rIxL (K:Γd):R2:=λx y H Q=>∃ p xs i v,x=.ref p/\y=.int i/\SqL K H p xs/\atI xs i=some v/\Q v H
def rIxT (K:Γd):R2:=λx y H Q=>∃ p xs i v,x=.ref p/\y=.int i/\SqT K H p xs/\atI xs i=some v/\Q v H
theorem c8o:IxR X (rIxL X.K):=by
 intro value slice pins s σ H x y v u Q I rx ry h hs
 obtain⟨p,xs,i,z,rfl,rfl,hq,he,q⟩:=h
 cases rx
 obtain⟨t,rfl⟩:=ry
 obtain⟨its,r,pl,hz⟩:=I.list hq
 obtain⟨j,h1,h2,h3,h4,h5⟩:=c1n he
 obtain⟨w,ew,rw'⟩:=r.get h2
 have hl:=r.length
 have hn:=b0v
 have fin:EP X pins σ Q w s:=⟨z,H,I,rw',q⟩
 by_cases h0:0<=i
 ·have hj:i.toNat=j:=by
   rw[seqIndex_of h0 h5] at h1
   exact Option.some.inj h1
  exact item_listR pl.isList h0 (by lia) (by rw[hj];simpa using ew) fin hs
 ·have hj:(i+(its.toArray.size:Int)).toNat=j:=by
   rw[seqIndex_neg (by lia) h4] at h1
   rw[List.size_toArray,<- hl]
   exact Option.some.inj h1
  exact subscriptTail_builtinR (x:=w) pl.isList.typeIs slot_list_getitem.lookup
   (wpAny_getItem_list_neg (Q:=λr s'=>r=w/\EP X pins σ Q r s') pl.isList (by lia) (by rw[List.size_toArray]<;>lia) (by lia) (by rw[hj];simpa using ew) ⟨rfl,fin⟩) hs
theorem d3m:IxR X (rIxT X.K):=by
 intro value slice pins s σ H x y v u Q I rx ry h hs
 obtain⟨p,xs,i,z,rfl,rfl,hq,he,q⟩:=h
 cases rx
 obtain⟨t,rfl⟩:=ry
 obtain⟨its,r,pl,hz⟩:=I.tuple hq
 obtain⟨j,h1,h2,h3,h4,h5⟩:=c1n he
 obtain⟨w,ew,rw'⟩:=r.get h2
 have hl:=r.length
 have hn:=b0v
 have fin:EP X pins σ Q w s:=⟨z,H,I,rw',q⟩
 exact subscriptTail_builtinR (x:=w) pl.typeIs slot_tuple_getitem.lookup
  (getItem_tuple (j:=j) (Q:=λr s'=>r=w/\EP X pins σ Q r s') pl (by lia) (by lia) (by rw[List.size_toArray,<- hl];exact h1) (by simpa using ew) ⟨rfl,fin⟩) hs
theorem b5x (its:List Value) (n j:Nat)(u:Value):Obj.mapSeq (·.setIfInBounds j u) { cls:=.type "list",data:=.seq its.toArray n } = { cls:=.type "list",data:=.seq (its.set j u).toArray n }:=by
 simp[Obj.mapSeq]
theorem Inv.lst {pins:List (Addr×Obj)}{σ:St}{H:Hp}{s:Shared}{p:Addr}{xs:List V}(I:Inv X pins σ H s)(h:H p=some (.lst xs)) :
  ∃ (its:List Value) (n:Nat),Vals xs its/\s.heap.get? p=some { cls:=.type "list",data:=.seq its.toArray n }/\xs.length<=sizeLine:=by
 obtain⟨z,its,n,r,e⟩:=I.hok p _ h
 exact⟨its,n,r,e,z⟩
theorem Inv.lstUpd {pins:List (Addr×Obj)}{σ:St}{H:Hp}{s:Shared}{p:Addr}{xs ys:List V}{its its':List Value}{n n':Nat}{f:Obj->Obj}(I:Inv X pins σ H s)(h:H p=some (.lst xs))
  (ho:s.heap.get? p=some { cls:=.type "list",data:=.seq its.toArray n })(hf:f { cls:=.type "list",data:=.seq its.toArray n } = { cls:=.type "list",data:=.seq its'.toArray n' })(r:Vals ys its')(hz:ys.length<=sizeLine) (t:Nat) :
  Inv X pins σ (upd H p (.lst ys)) { s with heap:=s.heap.update p f,toks:=t }:=by
 have e:(s.heap.update p f).get? p=some { cls:=.type "list",data:=.seq its'.toArray n' }:=by
  rw[Heap.get?_update_self f ho (by rw[hf]<;>rfl),hf]
 refine I.write (x:=p) (e:=p) (by rw[h];trivial) (.inl rfl) (λb u hb q=>(Γf _ _ (Ne.symm hb)).trans q) ⟨_,e⟩ ?_
 exact⟨hz,its',n',r,e⟩
def d7z:V->V->V->Hp->(Hp->Prop)->Prop:=λo i v H Q=>∃ p xs k j,o=.ref p/\i=.int k/\H p=some (.lst xs)/\ixN xs.length k=some j/\Q (upd H p (.lst (xs.set j v)))
theorem c2i:PSet X d7z:=by
 intro pins s σ H o i v ov iv u Q I ro ri rv h
 obtain⟨p,xs,k,j,rfl,rfl,hp,hj,q⟩:=h
 cases ro
 obtain⟨t,rfl⟩:=ri
 obtain⟨its,n,r,ho,hz⟩:=I.lst hp
 obtain⟨h1,h2,h3,h4⟩:=b9n hj
 have hl:=r.length
 have hn:=b0v
 have I':Inv X pins σ (upd H p (.lst (xs.set j v))) { s with heap:=s.heap.update p (Obj.mapSeq (·.setIfInBounds j u)) } :=
  I.lstUpd hp ho (b5x its n j u) (r.set rv j) (by rw[List.length_set];exact hz) s.toks
 by_cases h0:0<=k
 ·have hk:k.toNat=j:=by
   rw[seqIndex_of h0 h4] at h1
   exact Option.some.inj h1
  exact PySem.W.ki_setAt ho h0 (by lia) (by rw[List.size_toArray,<- hl];exact h4) (by rw[hk];exact⟨_,I',q⟩)
 ·have hk:(k+(its.toArray.size:Int)).toNat=j:=by
   rw[seqIndex_neg (by lia) h3] at h1
   rw[List.size_toArray,<- hl]
   exact Option.some.inj h1
  exact PySem.W.ki_setBack ho (by lia) (by rw[List.size_toArray,<- hl];exact h3) (by lia) (by rw[hk];exact⟨_,I',q⟩)
theorem b0d (lo hi:Option Int) (n:Nat):(sliceBounds lo hi none n).1=((HT.sIx n 0 lo:Nat):Int)/\(sliceBounds lo hi none n).2.1=((HT.sIx n n hi:Nat):Int)/\(sliceBounds lo hi none n).2.2=1:=by
 refine⟨?_,?_,rfl⟩
 ·cases lo with
  | none=>simp[sliceBounds,HT.sIx]
  | some i =>
   simp only[sliceBounds,HT.sIx,Option.getD_none,show (1:Int) > 0 by decide,if_true]
   by_cases h:i<0
   ·simp only[h,if_true]<;>lia
   ·simp only[h,if_false]<;>lia
 ·cases hi with
  | none=>simp[sliceBounds,HT.sIx]
  | some i =>
   simp only[sliceBounds,HT.sIx,Option.getD_none,show (1:Int) > 0 by decide,if_true]
   by_cases h:i<0
   ·simp only[h,if_true]<;>lia
   ·simp only[h,if_false]<;>lia
theorem a8r (its:List Value)(lo hi:Option Int):slicePick its.toArray lo hi none=((its.drop (HT.sIx its.length 0 lo)).take (HT.sIx its.length its.length hi-HT.sIx its.length 0 lo)).toArray:=by
 obtain⟨h1,h2,h3⟩:=b0d lo hi its.toArray.size
 unfold slicePick
 rw[h1,h2,h3]
 simp only[sliceRange_one,pick_run,List.size_toArray]<;>rfl
def rSlL (K:Γd):V->Option Int->Option Int->Hp->VK->Prop:=λx lo hi H Q=>∃ a xs,x=.ref a/\SqL K H a xs/\∀ p,H p=none->Q (.ref p) (upd H p (.lst (c5x xs lo hi)))
theorem c6r:SlR X (rSlL X.K):=by
 intro pins s σ H x v vl vu lo hi sl Q I rx hs pl pu h
 obtain⟨a,xs,rfl,hx,q⟩:=h
 cases rx
 obtain⟨its,r,ht,hz⟩:=I.list hx
 have hlen:=r.length
 refine⟨"list",_,slot_list_getitem.lookup,ht.isList.typeIs,?_⟩
 refine wpAny_getItem_list_slice ht.isList hs pl pu .none (by simp) ?_ (by rw[List.size_toArray]<;>lia)
 rw[a8r,<- hlen]
 refine⟨.ref s.heap.objs.size,_,I.laid (t':=s.toks) (o:=.lst (c5x xs lo hi)) (λb ob q=>Γc _ q) (Γi _) ?_,rfl,q _ (I.hok.fresh (Γi _))⟩
 exact⟨Nat.le_trans (a6z xs lo hi) hz,_,0,(r.drop (HT.sIx xs.length 0 lo)).take (HT.sIx xs.length xs.length hi-HT.sIx xs.length 0 lo),Γm _ rfl⟩
theorem b1m:a1r X (.builtin "len") (λxs H Q=>∃ p ys,xs=[.ref p]/\(SqL X.K H p ys ∨ SqT X.K H p ys)/\Q (.int ys.length) H):=by
 intro pins s σ H xs us Q I r h
 obtain⟨p,ys,rfl,hq,q⟩:=h
 obtain⟨u,rfl,rx⟩:=a3h r
 cases rx
 have hn:=b0v
 rcases hq with hq|hq
 ·obtain⟨its,r',pl,hz⟩:=I.list hq
  have hlen:=r'.length
  exact Calls.call_len_list pl.isList (by simp only[List.size_toArray]<;>lia) ⟨.int ys.length,H,I.tok _,⟨s.toks+1,by rw[List.size_toArray,hlen]⟩,q⟩
 ·obtain⟨its,r',pl,hz⟩:=I.tuple hq
  have hlen:=r'.length
  exact len_tuple pl (by simp only[List.size_toArray]<;>lia) ⟨.int ys.length,H,I.tok _,⟨s.toks+1,by rw[List.size_toArray,hlen]⟩,q⟩
theorem a2y:a1r X (.type "tuple") (λxs H Q=>∃ p ys,xs=[.ref p]/\((SqL X.K H p ys/\∀ l,H l=none->Q (.ref l) (upd H l (.tup ys))) ∨ (SqT X.K H p ys/\Q (.ref p) H))):=by
 intro pins s σ H xs us Q I r h
 obtain⟨p,ys,rfl,h⟩:=h
 obtain⟨u,rfl,rx⟩:=a3h r
 cases rx
 rcases h with⟨hq,q⟩|⟨hq,q⟩
 ·obtain⟨its,r',pl,hz⟩:=I.list hq
  have hlen:=r'.length
  refine call_tuple_list pl.isList (λh' kp=>?_) (by simp only[List.size_toArray]<;>lia)
  have I1:Inv X pins σ H { s with heap:=h' }:=I.kept (t':=s.toks) kp
  have I2:Inv X pins σ (upd H h'.objs.size (.tup ys)) { s with heap:=h'.push { cls:=.type "tuple",data:=.seq its.toArray } } :=
   I1.laid (t':=s.toks) (λb o e=>Γc _ e) (Γi _) (show ObjOk X.prog X.w _ _ _ (.tup ys) from ⟨hz,its,r',IsTup.new _ _⟩)
  exact⟨.ref h'.objs.size,_,I2,rfl,q _ (I1.hok.fresh (Γi _))⟩
 ·obtain⟨its,r',pl,hz⟩:=I.tuple hq
  exact call_tuple_same pl ⟨.ref p,H,I,rfl,q⟩
def tyV (K:Γd)(T:String)(x:V)(H:Hp):Prop:=match x with
 | .str _=>T = "str"
 | .int _=>T = "int"
 | .ref p=>(T = "list"/\∃ xs,SqL K H p xs) ∨ (T = "tuple"/\∃ o,K.lookup p=some o/\o.cls=.type "tuple"/\o.dict=none) ∨
   (T = "dict"/\((∃ kvs,H p=some (.dK kvs)) ∨ ∃ kvs,H p=some (.dT kvs))) ∨ (T = "set"/\∃ S n,H p=some (.set S n))
 | _=>False
theorem d0s {pins:List (Addr×Obj)}{σ:St}{H:Hp}{s:Shared}{T:String}{x:V}{v:Value}(I:Inv X pins σ H s)(r:RelV x v)(ty:tyV X.K T x H) :
  s.TypeIs v T/\∀ a,v=.ref a->∃ ob,s.heap.get? a=some ob/\ob.dict=none:=by
 cases x with
 | str z =>
  obtain⟨t,rfl⟩:=r
  cases (show T = "str" from ty)
  exact⟨typeIs_str s z t,λ_ e=>nomatch e⟩
 | int i =>
  obtain⟨t,rfl⟩:=r
  cases (show T = "int" from ty)
  exact⟨typeIs_int s i t,λ_ e=>nomatch e⟩
 | ref p =>
  cases r
  rcases ty with⟨rfl,xs,hq⟩|⟨rfl,o,hk,hc,hd⟩|⟨rfl,hk⟩|⟨rfl,S,n,hk⟩
  ·obtain⟨its,_,pl,_⟩:=I.list hq
   refine⟨pl.isList.typeIs,λa e=>?_⟩
   cases e
   obtain⟨o,n,e,c,hd,_⟩:=pl
   exact⟨o,e,hd⟩
  ·refine⟨⟨o,I.kIn p o hk,hc⟩,λa e=>?_⟩
   cases e
   exact⟨o,I.kIn _ o hk,hd⟩
  ·have z:∃ o,s.heap.get? p=some o/\o.ExactDict:=by
    rcases hk with⟨kvs,hk⟩|⟨kvs,hk⟩
    ·obtain⟨_,_,_,_,o,_,_,e,ex,_⟩:=I.hok p _ hk
     exact⟨o,e,ex⟩
    ·obtain⟨_,_,_,_,o,_,_,e,ex,_⟩:=I.hok p _ hk
     exact⟨o,e,ex⟩
   obtain⟨o,e,ex⟩:=z
   refine⟨⟨o,e,ex.1⟩,λa e2=>?_⟩
   cases e2
   exact⟨o,e,ex.2.1⟩
  ·obtain⟨o,_,_,_,e,ex,_⟩:=I.hok p _ hk
   refine⟨⟨o,e,ex.1⟩,λa e2=>?_⟩
   cases e2
   exact⟨o,e,ex.2.1⟩
 | _=>exact False.elim ty
def tBM (K:Γd)(T:String)(r:V->List V->Hp->VK->Prop)(to:TE)(t:TA):TE:=λσ H Q=>to σ H λx H1=>tyV K T x H1/\t σ H1 λxs H2=>r x xs H2 Q
variable {o e:Expr}{es:List Expr}{to:TE}{t:TA}{name:Str}{apos cpos:Pos}{T id:String}{r:V->List V->Hp->VK->Prop}
theorem d2i (pa:PlainAttrs T)(slot:Slot T name id)(hty:typeOf (.builtin id)=pure (.type "method_descriptor"))(hm:MtR X id r)(ho:PE X o to)(ha:PA X (e :: es) t)
  (hbase:attributeBase o name X.env (eval o X.env)=eval o X.env:=by rfl)
  (hfew:((backTo cpos (starEach (e :: es) X.env)).all (λx=>!x.1) && (backToKw cpos (keywordEach [] X.env)).all (λx=>x.1.isSome)
   && decide ((e :: es).length+([]:List Keyword).length+(if ([]:List Keyword).isEmpty then 0 else 1)<30))=true:=by rfl)
  (hline:(apos.endLine == cpos.line)=true:=by rfl)(hs:starEach (e :: es) X.env=(false,eval e X.env) :: starEach es X.env:=by rfl)(hplain:(backTo cpos (starEach es X.env)).any (·.1)=false:=by rfl) :
  PE X (.Call (.Attribute o name apos) (e :: es) [] cpos) (tBM X.K T r to t):=by
 intro pins s σ H Q I h
 refine wpAny_Call_method_late hbase hfew hline rfl (thn (ho pins s σ H _ I h) λv s1 ⟨x,H1,I1,r1,ty,q1⟩=>?_)
 obtain⟨h1,h2⟩:=d0s I1 r1 ty
 refine⟨T,id,pa,slot,hty,h1,h2,?_⟩
 have hA:=ha cpos pins s1 σ H1 _ I1 q1
 rw[hs] at hA ⊢
 refine Calls.callWith_builtin (by show (false || (backTo cpos (starEach es X.env)).any (·.1))=false;rw[hplain]<;>rfl) (Calls.evalArgs_plain ?_)
 exact thn hA λus s2 ⟨vs,H2,I2,r2,q2⟩=>hm pins s2 σ H2 x vs v us Q I2 r1 r2 q2
/- xs.append(e),list.index on a module's tuple .. are MtR facts of 06m -/
end
end L2
namespace L2
open PySem PySem.Spec PyProof.Rows
def MtM (X:Cx)(id:String)(r:V->List V->Hp->VK->Prop):Prop :=
 ∀ (pins:List (Addr×Obj))(s:Shared)(σ:St)(H:Hp)(x:V)(xs:List V)(v:Value)(us:List Value)(Q:VK),Inv X pins σ H s->RelV x v->Vals xs us->r x xs H Q ->
  wpAny (model X.prog X.w) X.A (call (.builtin id) (v :: us)) (EP X pins σ Q) X.xe s
theorem Vals.one:∀ {x:V}{us:List Value},Vals [x] us->∃ u,us=[u]/\RelV x u
 | _,_,.cons r .nil=>⟨_,rfl,r⟩
theorem Vals.dropLast {xs:List V}{us:List Value}(h:Vals xs us):Vals xs.dropLast us.dropLast:=by
 induction h with
 | nil=>exact .nil
 | cons r t ih =>
  cases t with
  | nil=>exact .nil
  | cons q t'=>exact .cons r ih
theorem Vals.eraseIdx:∀ {xs:List V}{us:List Value} (i:Nat),Vals xs us->Vals (xs.eraseIdx i) (us.eraseIdx i)
 | _,_,_,.nil=>.nil
 | _,_,0,.cons _ t=>t
 | _,_,i+1,.cons r t=>.cons r (Vals.eraseIdx i t)
theorem Vals.reverse {xs:List V}{us:List Value}(h:Vals xs us):Vals xs.reverse us.reverse:=by
 induction h with
 | nil=>exact .nil
 | cons r t ih=>rw[List.reverse_cons,List.reverse_cons];exact Vals.append ih (.cons r .nil)
theorem Vals.rep {xs:List V}{us:List Value}(h:Vals xs us):∀ k:Nat,Vals (Γj k xs).flatten (Γj k us).flatten
 | 0=>.nil
 | k+1=>by
  rw[List.replicate_succ,List.replicate_succ,List.flatten_cons,List.flatten_cons]
  exact Vals.append h (Vals.rep h k)
theorem a6t (its:List Value):∀ (k:Nat)(acc:List Value),
  List.foldl (λx1 x2=>x1++x2) acc.toArray (Γj k its.toArray)=(acc++(Γj k its).flatten).toArray
 | 0,acc=>by simp
 | k+1,acc=>by
  have e:acc.toArray++its.toArray=(acc++its).toArray:=by simp
  have e2:(acc++its)++(Γj k its).flatten=acc++(Γj (k+1) its).flatten:=by
   rw[List.replicate_succ,List.flatten_cons,List.append_assoc]
  rw[<- e2,<- a6t its k (acc++its),<- e,List.replicate_succ,List.foldl_cons]
section
variable {X:Cx}{pins:List (Addr×Obj)}{σ:St}{H:Hp}{s:Shared}{l b:Addr}{xs ys zs:List V}
theorem Inv.lset {its its':List Value}{n:Nat}{f:Array Value->Array Value}{t':Nat}(I:Inv X pins σ H s)(hH:H l=some (.lst xs))
  (e:s.heap.get? l=some { cls:=.type "list",data:=.seq its.toArray n })(hf:f its.toArray=its'.toArray)(hv:Vals ys its')(hz:ys.length<=sizeLine) :
  Inv X pins σ (upd H l (.lst ys)) { s with heap:=s.heap.update l (Obj.mapSeq f),toks:=t' }:=by
 have q:=PySem.IsL.update e f
 rw[hf] at q
 refine I.write (x:=l) (e:=l) (by rw[hH];exact trivial) (.inl rfl) (λb' u hb hu=>(Γf s.heap (Obj.mapSeq f) (Ne.symm hb)).trans hu) ⟨_,q⟩ ?_
 exact⟨hz,its',_,hv,q⟩
theorem Inv.lnew {its:List Value}{t':Nat}(I:Inv X pins σ H s)(hv:Vals ys its)(hz:ys.length<=sizeLine) :
  Inv X pins σ (upd H s.heap.objs.size (.lst ys)) { s with heap:=s.heap.push { cls:=.type "list",data:=.seq its.toArray },toks:=t' } :=
 I.laid (λ_ _ q=>Γc _ q) (Γi _) ⟨hz,its,0,hv,Γm _ rfl⟩
theorem Inv.fresh (I:Inv X pins σ H s):H s.heap.objs.size=none:=I.hok.fresh (Γi _)
theorem Inv.lstM (I:Inv X pins σ H s)(hH:H l=some (.lst xs)):xs.length<=sizeLine/\∃ (its:List Value) (n:Nat),Vals xs its/\xs.length=its.length/\s.heap.get? l=some { cls:=.type "list",data:=.seq its.toArray n }:=by
 obtain⟨z,its,n,r,e⟩:=I.hok l _ hH
 exact⟨z,its,n,r,r.length,e⟩
theorem c3a {n:Nat}(h:n<=sizeLine):Builtin.List.listTooLong n=false:=by
 unfold Builtin.List.listTooLong
 exact decide_eq_false (by lia)
end
section
variable {X:Cx}
def c7a:V->List V->Hp->VK->Prop:=λx vs H Q=>∃ l xs y,x=.ref l/\vs=[y]/\H l=some (.lst xs)/\xs.length<sizeLine/\Q .non (upd H l (.lst (xs++[y])))
theorem b0q:MtM X "list.append" c7a:=by
 intro pins s σ H x vs v us Q I rx rv h
 obtain⟨l,xs,y,rfl,rfl,hH,hz,q⟩:=h
 cases rx
 obtain⟨u,rfl,ru⟩:=rv.one
 obtain⟨z,its,n,r,hl,e⟩:=I.lstM hH
 refine call_meets F.slot_list_append ⟨_,e,rfl⟩ F.entry_list_append (F.args_list_append_2 _ _) (PySem.list_append l its.toArray n u (by rw[List.size_toArray];lia)) ⟨e,?_⟩
 refine⟨.non,_,I.lset (its':=its++[u]) hH e (by simp) (r.append (.cons ru .nil)) ?_,rfl,q⟩
 rw[List.length_append,List.length_singleton]
 lia
def rCat:R2:=λx y H Q=>∃ l b xs zs,x=.ref l/\y=.ref b/\H l=some (.lst xs)/\H b=some (.lst zs)/\xs.length+zs.length<=sizeLine/\∀ p,H p=none->Q (.ref p) (upd H p (.lst (xs++zs)))
theorem d2s:OpR X (binaryOp .Add) rCat:=by
 intro pins s σ H x y v u Q I rx ry h
 obtain⟨l,b,xs,zs,rfl,rfl,hH,hB,hz,q⟩:=h
 cases rx
 cases ry
 obtain⟨z,its,n,r,hl,e⟩:=I.lstM hH
 obtain⟨z2,its2,n2,r2,hl2,e2⟩:=I.lstM hB
 refine PySem.P.add_list e e2 ?_ (by rw[List.size_toArray,List.size_toArray];lia)
 have ea:its.toArray++its2.toArray=(its++its2).toArray:=by simp
 rw[ea]
 exact⟨.ref _,_,I.lnew (t':=s.toks) (r.append r2) (by rw[List.length_append];lia),rfl,q _ I.fresh⟩
def rRep:R2:=λx y H Q=>∃ l k xs,x=.ref l/\y=.int k/\H l=some (.lst xs)/\-(2 ^ 63)<=k/\k<2 ^ 63/\xs.length*k.toNat<=sizeLine /\
 ∀ p,H p=none->Q (.ref p) (upd H p (.lst (Γj k.toNat xs).flatten))
theorem b9i {α:Type}(xs:List α) (k:Nat):(Γj k xs).flatten.length=k*xs.length:=by
 induction k with
 | zero=>simp
 | succ k ih=>rw[List.replicate_succ,List.flatten_cons,List.length_append,ih,Nat.succ_mul,Nat.add_comm]
theorem d2m:OpR X (binaryOp .Mult) rRep:=by
 intro pins s σ H x y v u Q I rx ry h
 obtain⟨l,k,xs,rfl,rfl,hH,h1,h2,hz,q⟩:=h
 cases rx
 obtain⟨t,rfl⟩:=ry
 obtain⟨z,its,n,r,hl,e⟩:=I.lstM hH
 have hlen:its.toArray.size*k.toNat<=sizeLine:=by rw[List.size_toArray,<- hl];exact hz
 have hcap:¬ its.toArray.size*k.toNat > (2 ^ 63-1) / 8:=by
  have:(sizeLine:Nat)<=(2 ^ 63-1) / 8:=by decide
  lia
 have hfit:¬ (!Builtin.List.listFitsIndex k)=true:=by
  rw[fitsIndex_both h1 h2]
  exact Γk
 have hlong:¬ Builtin.List.listTooLong (its.toArray.size*k.toNat)=true:=by
  rw[c3a hlen]
  exact Γk
 have hnew:List.foldl (λx1 x2=>x1++x2) #[] (Γj (if its.toArray.isEmpty=true then 0 else k.toNat) its.toArray)=(Γj k.toNat its).flatten.toArray:=by
  have f0:∀ m:Nat,List.foldl (λx1 x2=>x1++x2) #[] (Γj m its.toArray)=(Γj m its).flatten.toArray:=λm=>by
   have:=a6t its m []
   rw[List.nil_append] at this
   exact this
  rw[f0]
  cases its with
  | nil=>simp
  | cons a r'=>rw[if_neg (by simp)]
 refine wpAny_binaryOp_repeat_ref (T:="list") (U:="int") (by decide) ⟨_,e,rfl⟩ (λs'=>typeIs_int s' k t) noFill_list_mul F.fills_int_mul F.slot_int_rmul repeat_list F.slot_int_index.lookup
  (call_meets F.slot_int_rmul (typeIs_int s k t) F.entry_int_rmul (F.args_int_rmul_2 _ _) (int___rmul___int_list k t l its.toArray n)
   ⟨e,rfl,⟨_,e,rfl⟩,call_meets F.slot_list_mul ⟨_,e,rfl⟩ F.entry_list_mul (F.args_list_mul_2 _ _) (AutoListH.list___mul___list_int_3 l its.toArray n k t hfit hcap hlong) ⟨e,?_⟩⟩)
 rw[hnew]
 exact⟨.ref _,_,I.lnew (t':=s.toks) (r.rep k.toNat) (by rw[b9i,Nat.mul_comm];exact hz),rfl,q _ I.fresh⟩
end
section
variable {prog:Program}{w:World}{A:Around}{E:Value->Shared->Prop}{s:Shared}
set_option maxRecDepth 100000 in
end
section
variable {X:Cx}
end
end L2
namespace Att
open PySem PySem.W PySem.Calls PyProof.Rows
theorem a6o {P:Params}{h:Heap}:∀ (ns:List Int)(vs:List Value),WellAll P h vs (ns.map WData.int)->IntsAre vs ns:=by
 intro ns
 induction ns with
 | nil =>
  intro vs w
  rw[List.map_nil] at w
  cases w
  exact .nil
 | cons n ns ih =>
  intro vs w
  rw[List.map_cons] at w
  cases w with
  | cons a b =>
   cases a
   exact .cons _ _ (ih _ b)
theorem b7z {l:OpenLaw}{n:Nat}(hn:l.most=some n){P:Params}{h:Heap}{args:List WData}{vals:List Value}
  (hpre:l.row.toRowW.claim.pre args=true)(hwl:WellAll P h vals args) :
  ∃ a vs ns,vals=[Value.ref a]/\args=[WData.list (ns.map WData.int)]/\h.get? a=some { cls:=.type "list",data:=.seq vs.toArray }/\IntsAre vs ns/\ns.length<=n:=by
 have hsh:WShape.hasAll [] args [.list .int]=true:=(pre_splitW hpre).1
 have hc:l.pre.holds [] { args:=args } = true:=(pre_splitW hpre).2
 obtain⟨d,r,rfl,h1,h2⟩:=hasAllW_cons hsh
 obtain rfl:=hasAllW_nil h2
 obtain⟨xs,rfl,h3⟩:=hasW_list h1
 obtain⟨ns,rfl⟩:=items_int h3
 have hlen:ns.length<=n:=by
  unfold OpenLaw.pre at hc
  have h4:(WTm.not (.lt (.lit (.int (n:Int))) (.len (.arg 0)))).holds [] { args:=[.list (ns.map .int)] } = true:=by
   have h4:=(holds_andW hc).1
   rw[hn] at h4
   exact h4
  have h5:=condW_of h4 (w_not (w_lt w_lit (w_len_list (w_arg rfl))))
  rw[List.length_map] at h5
  refine Nat.le_of_not_lt λq=>?_
  have q':(n:Int)<((ns.length:Nat):Int):=by lia
  first
   | (rw[decide_eq_true q'] at h5;exact absurd h5 (by decide))
   | (simp at h5;lia)
 cases hwl with
 | cons w1 w2 =>
  cases w2
  cases w1 with
  | list ho hall=>exact⟨_,_,ns,rfl,rfl,ho,a6o ns _ hall,hlen⟩
theorem b8m (l:OpenLaw)(args:List WData):l.row.toRowW.claim.post args (.bool true) args=true :=
 postW_of (r:=l.row.toRowW) (X:=(true == true))
  (show WShape.has [] (.bool true) .bool=true by first|rfl|decide|simp[WShape.has,WShape.arms,WShape.armsAll])
  (show (WTm.eq .res (.lit (.bool true))).value [] { args:=args,res:=some (.bool true),after:=args } = some (.bool (true == true)) from w_eq_bool (w_res rfl) w_lit) rfl
theorem attach_call {l:OpenLaw}{n:Nat}{q:Program}{loose:List Str}{XP:(Str->Option Value)->Heap->Prop}{YP:World->Heap->Prop}{d:DefRec}
  (hn:l.most=some n)(hdf:d.params.defaults=[])
  (call:∀ (w:World)(s₀ s₁:Shared)(mg mb:Str->Option Value)(fa:Addr)(o:Obj)(pm cd doc:Value)(a:Addr)(vs:List Value)(ns:List Int),
   Ground q loose [] XP w s₀ mg mb s₁.heap->YP w s₁.heap ->
   s₁.heap.get? fa=some o->o.data=.func (docDef d.name d.params d.body d.scope pm cd doc)->s₁.heap.CodeRec cd d.name->mg d.name=some (.ref fa) ->
   s₁.heap.get? a=some { cls:=.type "list",data:=.seq vs.toArray }->IntsAre vs ns->ns.length<=n->s₁.gens = #[] ->
   codeAny (model l.prog w) callerA (.call (.ref fa) ⟨[.ref a],[]⟩) (λr s'=>r=.ok (.ret (.bool true))/\OldK s₁.heap s'.heap/\s'.os=s₁.os/\AllBare s'.gens) s₁) :
  WalkO q loose XP YP l.row.toRowW d [] (λf vs=>PySem.call f vs):=by
 intro w s₀ s₁ mg mb G Y fa o pm cd doc dV kV ho hd hcd hD hmg hg args vals as hpre hlay hrd hwl hlo
 obtain rfl:dV=.none:=Dflts.none hD hdf
 obtain rfl:kV=.none:=Dflts.noKw hD
 obtain⟨a,vs,ns,rfl,rfl,hobj,hints,hlen⟩:=b7z hn hpre hwl
 refine enter_call (codeAny_mono (call w s₀ s₁ mg mb fa o pm cd doc a vs ns G Y ho (fd_plain hd) hcd hmg hobj hints hlen hg) λr s' hq=>?_)
 obtain⟨rfl,h2,h3,h4⟩:=hq
 exact⟨.inl ⟨.bool true,.bool true,[],rfl,λ_=>rfl,.bool true,b8m l _,λ_=>⟨List.Pairwise.nil,λ_ hm=>(nomatch hm)⟩⟩,h2,h3,h4⟩
section
variable {prog:Program}{w:World}{A:Around}{E:Value->Shared->Prop}{s:Shared}{K:Frag}
theorem e2y {R:Result->Shared->Prop}{name qual:Str}{params:Arguments}{body:List Stmt}{scope:Scope}{dV kV doc pm cdv ct oc:Value}{an od:Option Addr}{osl:Array (Option Value)}{f:Addr}{args:Args}{binds:List (Str×Value)}
  (X:K.In s.heap)(hlim:s.heap.NoLimit)(ho:K.lookup f=some ⟨oc,od,.func (fnOf name qual params body scope dV kV doc pm an cdv ct),osl⟩)(hcd:codeIn K cdv qual=true)(hroom:A.depth<recursionLimit)
  (hbind:BindsTo s (fnOf name qual params body scope dV kV doc pm an cdv ct) args binds)
  (hkind:(binds.all λy=>scope.names.lookup y.1 == some .local || scope.names.lookup y.1 == some .cell)=true)
  (h:∀ s₁,InCallC s s.heap.objs.size (bindL (envOfC qual scope s.heap.objs.size f cdv).kindOf binds λ_=>none) (cellsFrom (s.heap.objs.size+1) scope.names [])
    (bindC (envOfC qual scope s.heap.objs.size f cdv).kindOf binds λ_=>none) s₁ ->
   wpAny (model prog w) (A.deeper (envOfC qual scope s.heap.objs.size f cdv)) (execs body (envOfC qual scope s.heap.objs.size f cdv))
    (λfl s'=>R (.ok (.ret (match fl with|.ret v=>v|_=>.none))) s')
    (λe s'=>wpAny (model prog w) (A.deeper (envOfC qual scope s.heap.objs.size f cdv)) (leaving (envOfC qual scope s.heap.objs.size f cdv) e) (λ_ s''=>R (.error e) s'') (λe' s''=>R (.error e') s'') s') s₁)
  (hco:scope.isCoroutine=false)(hgen:scope.isGenerator=false)(hk:scope.kind=.function):codeAny (model prog w) A (.call (.ref f) args) R s:=by
 refine codeAny_call_function hroom (X _ _ ho) rfl hco hgen rfl (codeRec_of X hcd) (hbind _ _ _ _ ?_)
 refine wpAny_newFunctionEnv_cells hk (kindsX hkind _) λenv he s₁ x=>?_
 subst he
 exact⟨hlim.keeps x.toInCall.keep,codeAny_func (h s₁ x)⟩
def ledger (h:Heap)(L d:Addr):List (Addr×Obj):=(List.range h.objs.size).filterMap λa=>if a=L ∨ a=d then none else (h.get? a).map λo=>(a,o)
end
end Att
namespace L2
open PySem PySem.Spec PyProof.Rows
theorem a9z:∀ {vs:List Value}{ns:List Int},IntsAre vs ns->Vals (ns.map V.int) vs
 | _,_,.nil=>.nil
 | _,_,.cons n t h=>.cons ⟨t,rfl⟩ (a9z h)
def d5c (H:Hp):Prop:=∀ b,H b=none ∨ ∃ o xs,H b=some (.frz o (.lst xs))
theorem b4o {P:Program}{w:World}{K:Γd}{mg mb:Str->Option Value}{CX:CXT}{k:Nat}{fa a:Addr}{fd:FuncData}{x:Str}{sp:Sp}{s₁:Shared}{vs:List Value}{ns:List Int}
  (KX:K.In s₁.heap)(hns:s₁.heap.Ns mainGlobals mg)(hb:s₁.heap.Ns builtinsNs mb)(hbb:∀ x:Str,x≠"__name__"->mb x=bootBuiltins x)(hlim:s₁.heap.NoLimit)(hg:s₁.gens = #[])
  (ha:s₁.heap.get? a=some { cls:=.type "list",data:=.seq vs.toArray })(hi:IntsAre vs ns)(hl:ns.length<=sizeLine)(hr:Room k callerA)
  (F:∀ base:Heap,K.In base->base.Ns mainGlobals mg->FnOk P w K mg base CX k fa fd [x] sp)(hbind:∀ (s:Shared)(u:Value),BindsTo s fd ⟨[u],[]⟩ [(x,u)])
  (hsp:∀ H:Hp,d5c H->SqL K H a (ns.map V.int)->sp [.ref a] H (λv _=>v=.bl true) λ_ _ _=>False)
  (hCX:∀ H e s',CX [] H s₁ (λ_ _ _=>False) e s'->False) :
  codeAny (model P w) callerA (.call (.ref fa) ⟨[.ref a],[]⟩) (λr s'=>r=.ok (.ret (.bool true))/\OldK s₁.heap s'.heap/\s'.os=s₁.os/\AllBare s'.gens) s₁:=by
 have rv:=a9z hi
 have lenV:=hi.length
 -- from an abstract heap in which nothing but the script may be tracked
 have core:∀ H:Hp,d5c H->SqL K H a (ns.map V.int)->HOk P w H s₁.heap->(∀ b,H b≠none->b=a)->(H a≠none->K.lookup a=none) ->
   codeAny (model P w) callerA (.call (.ref fa) ⟨[.ref a],[]⟩) (λr s'=>r=.ok (.ret (.bool true))/\OldK s₁.heap s'.heap/\s'.os=s₁.os/\AllBare s'.gens) s₁:=by
  intro H hO hS hok hA hK
  have base_of:∀ {b:Addr}{o:Obj},s₁.heap.get? b=some o->H b=none->(c3s s₁.heap H).get? b=some o:=λe n=>c3r e n
  have noA:∀ {b:Addr}{o:Obj}{es:Array DictEntry}{ep:Nat},s₁.heap.get? b=some o->o.data=.dict es ep->H b=none:=λ{b o es ep} e d=>by
   cases q:H b with
   | none=>rfl
   | some u =>
    have e':b=a:=hA b (by rw[q];simp)
    subst e'
    rw[ha] at e;cases e
    have d':Data.seq vs.toArray _=Data.dict es ep:=d
    cases d'
  have nsK:∀ {b:Addr}{m:Str->Option Value},s₁.heap.Ns b m->(c3s s₁.heap H).Ns b m:=λ{b m} ⟨o,es,ep,e,d,r⟩=>⟨o,es,ep,base_of e (noA e d),d,r⟩
  have hKb:K.In (c3s s₁.heap H):=λb o e=>base_of (KX b o e) (by
   cases q:H b with
   | none=>rfl
   | some u =>
    have e':b=a:=hA b (by rw[q];simp)
    subst e'
    rw[hK (by rw[q];simp)] at e;cases e)
  have hM:Mod K mg (c3s s₁.heap H):=⟨hKb,nsK hns,⟨mb,nsK hb,hbb⟩,let ⟨mc,h1,h2⟩:=hlim;⟨mc,nsK h1,h2⟩⟩
  have e0:Env0 P w K mg (c3s s₁.heap H) callerA [] s₁ H:=⟨rfl,hM,λb o e=>c8c e,Nat.le_of_eq (b9w _ _),trivial,λb hb=>absurd (show b∈([]:List Addr) from hb) (by simp),hok,.of_eq hg⟩
  refine codeAny_mono ((F _ hKb (nsK hns)).run callerA [] s₁ H ⟨[.ref a],[]⟩ [.ref a] [.ref a] _ _ hr e0 (hbind s₁ (.ref a)) (.cons rfl .nil) (hsp H hO hS)) λr s' h=>?_
  cases r with
  | error e=>exact (hCX H e s' h).elim
  | ok fl =>
   cases fl with
   | next=>exact False.elim h
   | brk=>exact False.elim h
   | cont=>exact False.elim h
   | ret u =>
    obtain⟨v,H',os,bare,un,hok',r',q⟩:=h
    have q':v=.bl true:=q
    subst q'
    obtain rfl:u=Value.bool true:=r'
    refine⟨rfl,OldK.of_keep λb o e=>?_,os,bare⟩
    cases q:H b with
    | none=>exact un.keep b o e q (by intro z;exact absurd (show b∈([]:List Addr) from z) (by simp)) (by simp)
    | some u =>
     rcases hO b with z|⟨ob,xs,z⟩
     ·rw[q] at z;cases z
     ·have z2:=un.frzs b ob _ z
      obtain⟨e1,_⟩:=hok b _ z
      obtain⟨e2,_⟩:=hok' b _ z2
      rw[e] at e1;cases e1
      exact e2
 cases hk:K.lookup a with
 | some o =>
  -- the script is one of the module's own objects
  have e:=KX a o hk
  rw[ha] at e
  cases e
  refine core (λ_=>none) (λ_=>.inl rfl) (.inr ⟨_,vs.toArray,_,hk,rfl,rfl,rfl,by rw[List.size_toArray,lenV];exact hl,by simpa using rv⟩) (λb u z=>by have z':(none:Option HO)=some u:=z;cases z') (λb z=>absurd rfl z) λz=>absurd rfl z
 | none =>
  refine core (λb=>if b=a then some (.frz { cls:=.type "list",data:=.seq vs.toArray } (.lst (ns.map V.int))) else none) (λb=>?_) (.inl (.inr ⟨{ cls:=.type "list",data:=.seq vs.toArray },if_pos rfl⟩)) (λb u z=>?_) (λb z=>?_) λ_=>hk
  ·by_cases hb:b=a
   ·exact .inr ⟨_,_,if_pos hb⟩
   ·exact .inl (if_neg hb)
  ·by_cases hb:b=a
   ·have z':=(if_pos hb).symm.trans z
    cases z'
    subst hb
    exact⟨ha,by rw[List.length_map];exact hl,vs,_,rv,ha⟩
   ·have z':=(if_neg hb).symm.trans z
    cases z'
  ·by_cases hb:b=a
   ·exact hb
   ·exact absurd (if_neg hb) z
end L2
namespace L2
open PySem PySem.Spec PyProof.Rows
abbrev KOf {K:Γd}{h:Heap}(_:K.In h):Γd:=K
theorem walk_of {l:PySem.W.OpenLaw}{n k:Nat}{q:Program}{loose:List Str}{XP:(Str->Option Value)->Heap->Prop}{YP:World->Heap->Prop}{d:DefRec}{K:Params->Γd}{CX:World->CXT}{sp:World->Sp}{x:Str}
  (hn:l.most=some n)(hn2:n<=sizeLine)(hdf:d.params.defaults=[])(hr:Room k callerA)
  (hY:∀ (w:World)(h:Heap),YP w h->(K w.params).In h)
  (F:∀ (w:World)(mg:Str->Option Value)(fa:Addr)(h:Heap),(K w.params).In h->h.Ns mainGlobals mg->mg d.name=some (.ref fa) ->
   ∃ fd:FuncData,(∀ (s:Shared)(u:Value),BindsTo s fd ⟨[u],[]⟩ [(x,u)]) /\
    ∀ base:Heap,(K w.params).In base->base.Ns mainGlobals mg->FnOk l.prog w (K w.params) mg base (CX w) k fa fd [x] (sp w))
  (hsp:∀ (w:World)(H:Hp)(a:Addr)(ns:List Int),ns.length<=n->d5c H->SqL (K w.params) H a (ns.map V.int)->sp w [.ref a] H (λv _=>v=.bl true) λ_ _ _=>False)
  (hCX:∀ (w:World)(H:Hp)(s:Shared)(e:Value)(s':Shared),CX w [] H s (λ_ _ _=>False) e s'->False) :
  PySem.W.WalkO q loose XP YP l.row.toRowW d [] (λf vs=>PySem.call f vs):=by
 refine Att.attach_call hn hdf λw s₀ s₁ mg mb fa o pm cd doc a vs ns G Y ho hd hcd hmg hobj hints hlen hg=>?_
 have KX:=hY w _ Y
 obtain⟨fd,hb,hF⟩:=F w mg fa _ KX G.T.g hmg
 exact b4o KX G.T.g G.T.b G.T.builtins G.T.nolimit hg hobj hints (Nat.le_trans hlen hn2) hr hF hb (λH hO hS=>hsp w H a ns hlen hO hS) λH e s'=>hCX w H s₁ e s'
end L2
/- THE LAST THEOREM (shape; LID, My.* are yours):
   My.Adr: a structure of the addresses that your layer names (classes,functions);My.Txt K t: a structure (Prop) of the equations over K;
   My.txt_mk:{K} {implicit addresses ..} (e1:nsIn K mainGlobals "law" = some (some (.ref f))) (e2:K.lookup f=some ⟨oc,od,.func (fnOf "law" "law" params body scope dV kV doc pm an cdv ct),sl⟩) (e3:codeIn K cdv "law" = true) ..:∃ t,My.Txt K t
set_option maxRecDepth 100000 in
set_option maxHeartbeats 0 in
theorem PySem.Challenge.cw_LID_holds:PySem.Challenge.rw_LID.Holds:=by
 w_on;o_law;k_head;(case hw=>w_witness2)
 k_fill
 refine L2.walk_of (l:=PySem.Challenge.rw_LID) (n:=63) (k:=40) (x:="script") (CX:=λw=>..) (sp:=λ_=>My.sp_law) rfl (by decide) rfl ⟨rfl,by decide,by decide⟩ (λw h Y=>PySem.W.kIn_of Y) ?F ?S ?C
 case F =>
  intro w mg fa h KX G hmg
  have T:∃ t,My.Txt (L2.KOf KX) t:=by
   dsimp only[L2.KOf]                          -- K must stand as «<heap const> w.params» for k_is
   refine' My.txt_mk ?e1 ?e2 ?e3 ..
   (case e1=>PySem.W.k_is)                    -- in the order: a name->its address->its object->its parts
   (case e2=>PySem.W.k_is)
   ..
  obtain⟨t,T⟩:=T
  have e0:=hmg.symm.trans (PySem.W.mg_of KX G T.law)
  cases e0                                       -- fa is the law's own address
  exact⟨_,λs u=>.of_eq rfl,λbase kb nb=>My.law_fn T kb nb⟩     -- if «.of_eq rfl» comes too early: refine' ⟨_,?b,λbase kb nb=>My.law_fn T kb nb⟩;exact λs u=>.of_eq rfl
 case S=>exact λw H a ns hl hO hS=>..
 case C=>exact ..
(the tactic k_is has no namespace: write k_is) -/
namespace L2
open PySem PySem.Spec PyProof.Rows
def a4x (s:Stmt):Arguments:=match s with
 | .FunctionDef _ a _ _ _ _ _ _ _ _=>a
 | _=>{ posonlyargs:=[],args:=[],vararg:=none,kwonlyargs:=[],kw_defaults:=[],kwarg:=none,defaults:=[] }
def a2n (s:Stmt):List Stmt:=match s with
 | .FunctionDef _ _ b _ _ _ _ _ _ _=>b
 | _=>[]
def a0p (s:Stmt):Scope:=match s with
 | .FunctionDef _ _ _ _ _ _ sc _ _ _=>sc
 | _=>{ kind:=.function,names:=[],isGenerator:=false,isCoroutine:=false }
abbrev CX0:CXT:=λ_ _ _ _ _ _=>False
abbrev E0:XK:=λ_ _ _=>False
theorem d8s {X:Cx}:c1v CX0 X E0:=λ_ _ _ _ _ _ _ h=>h.elim
structure Fun (K:Γd)(x qual:Str)(st:Stmt)(f:Addr)(fd:FuncData):Prop where
 ex:∃ (oc:Value)(od:Option Addr)(kV doc pm:Value)(an:Option Addr)(cdv ct:Value)(osl:Array (Option Value)),
  fd=PySem.W.fnOf x qual (a4x st) (a2n st) (a0p st) .none kV doc pm an cdv ct/\K.lookup f=some ⟨oc,od,.func fd,osl⟩/\PySem.W.codeIn K cdv qual=true
 kp:PySem.W.keepIn K (.ref f)=true
section
variable {P:Program}{w:World}{K:Γd}{mg:Str->Option Value}{base:Heap}
theorem Fun.ok {x qual:Str}{st:Stmt}{f:Addr}{fd:FuncData}{N ps:List Str}{k:Nat}{sp:Sp}(F:Fun K x qual st f fd)(S:FnScope N ps (a0p st))(len:∀ vs H Q E,sp vs H Q E->vs.length=ps.length)
  (hbody:∀ (cdv:Value)(A:Around)(outer:List Env)(s:Shared)(H:Hp)(vs:List V)(Q:VK)(E:XK),Room k (A.deeper (envOfC qual (a0p st) s.heap.objs.size f cdv))->sp vs H Q E ->
   ∃ t,PSs (c9r CX0 P w K mg base N qual (a0p st) f cdv A outer s H E).nox (a2n st) t/\t { nx:=λ_ H'=>Q .non H',rt:=Q } (start N vs) H):FnOk P w K mg base CX0 (k+1) f fd ps sp:=by
 obtain⟨oc,od,kV,doc,pm,an,cdv,ct,osl,rfl,lk,hcd⟩:=F.ex
 refine e0f lk hcd S len λA outer s H vs Q E hr hsp=>?_
 obtain⟨t,h,q⟩:=hbody cdv A outer s H vs Q E hr hsp
 exact⟨t,h.nox,q⟩
theorem Fun.binds {x qual:Str}{st:Stmt}{f:Addr}{fd:FuncData}{ps:List Str}(F:Fun K x qual st f fd)
  (h:∀ (kV doc pm:Value)(an:Option Addr)(cdv ct:Value)(us:List Value),us.length=ps.length->bindArgs (PySem.W.fnOf x qual (a4x st) (a2n st) (a0p st) .none kV doc pm an cdv ct) ⟨us,[]⟩=pure (ps.zip us)):Binds K fd ps []:=by
 obtain⟨oc,od,kV,doc,pm,an,cdv,ct,osl,rfl,lk,hcd⟩:=F.ex
 exact .all (h kV doc pm an cdv ct)
theorem d3s {x qual:Str}{st:Stmt}{f:Addr}{oc:Value}{od an:Option Addr}{osl:Array (Option Value)}{kV doc pm cdv ct:Value}(l:K.lookup f=some ⟨oc,od,.func (PySem.W.fnOf x qual (a4x st) (a2n st) (a0p st) .none kV doc pm an cdv ct),osl⟩)
  (c:PySem.W.codeIn K cdv qual=true)(k:PySem.W.keepIn K (.ref f)=true):Fun K x qual st f (PySem.W.fnOf x qual (a4x st) (a2n st) (a0p st) .none kV doc pm an cdv ct):=⟨⟨oc,od,kV,doc,pm,an,cdv,ct,osl,rfl,l,c⟩,k⟩
end
section
variable {X:Cx}
theorem pv (i:Nat){x:Str}{pos:Pos}(hN:X.N[i]?=some x:=by rfl)(hv:Vis X.env.scope x:=by first|exact Or.inl rfl|exact Or.inr (Or.inl rfl)|exact Or.inr (Or.inr rfl))(hd:(x == ("__debug__":Str))=false:=by decide)
  (hcd:(x == ("__classdict__":Str))=false:=by decide):PE X (.Name x pos) (d0k i):=b4c hN hv hd hcd
end
theorem ite2 {c A B:Prop} [Decidable c] (h1:c->A)(h2:¬ c->B):if c then A else B:=by
 by_cases h:c
 ·rw[if_pos h]
  exact h1 h
 ·rw[if_neg h]
  exact h2 h
def Same (H H':Hp):Prop:=∀ b o,H b=some o->H' b=some o
theorem Same.refl (H:Hp):Same H H:=λ_ _ h=>h
theorem Same.trans {H H1 H2:Hp}(a:Same H H1)(b:Same H1 H2):Same H H2:=λc o h=>b c o (a c o h)
theorem Same.free {H H':Hp}(e:Same H H'){l:Addr}(h:H' l=Option.none):H l=Option.none:=by
 cases q:H l with
 | none=>rfl
 | some o =>
  rw[e l o q] at h
  cases h
theorem Same.seq {K:Γd}{H H':Hp}{a:Addr}{xs:List V}(e:Same H H')(h:SqL K H a xs):SqL K H' a xs:=by
 rcases h with (h|⟨o,h⟩)|h
 ·exact .inl (.inl (e _ _ h))
 ·exact .inl (.inr ⟨o,e _ _ h⟩)
 ·exact .inr h
end L2
end
section
namespace L2
open PySem PySem.Spec PyProof.Rows
section
variable {κ:Type} [DecidableEq κ]
def b1u (kvs:List (κ×V))(k:κ):Option V:=(kvs.find? λkv=>decide (kv.1=k)).map (·.2)
def a5g (kvs:List (κ×V))(k:κ)(v:V):List (κ×V) :=
 if (kvs.any λkv=>decide (kv.1=k))=true then kvs.map (λkv=>if kv.1=k then (kv.1,v) else kv) else kvs++[(k,v)]
def d4f (kvs:List (κ×V))(k:κ):List (κ×V):=kvs.filter λkv=>decide (kv.1≠k)
theorem a4g {p:κ×V}{r:List (κ×V)}{k:κ}(e:p.1=k):b1u (p :: r) k=some p.2:=by simp[b1u,List.find?_cons,e]
theorem a4h {p:κ×V}{r:List (κ×V)}{k:κ}(e:¬ p.1=k):b1u (p :: r) k=b1u r k:=by simp[b1u,List.find?_cons,e]
theorem a5m (k:κ):∀ kvs:List (κ×V),(kvs.any λkv=>decide (kv.1=k))=(b1u kvs k).isSome
 | []=>rfl
 | p :: r=>by
  rw[List.any_cons]
  by_cases e:p.1=k
  ·simp only[a4g e,decide_eq_true e,Bool.true_or,Option.isSome_some]
  ·rw[a4h e,decide_eq_false e,Bool.false_or];exact a5m k r
theorem a2w (kvs:List (κ×V))(k:κ)(v:V):(a5g kvs k v).length<=kvs.length+1:=by
 unfold a5g
 split
 ·rw[List.length_map];lia
 ·rw[List.length_append,List.length_cons,List.length_nil];lia
theorem RelO.isSome_eq {o:Option V}{u:Option Value}(r:RelO o u):o.isSome=u.isSome:=by
 cases o with
 | none=>cases u with
  | none=>rfl
  | some _=>exact (show False from r).elim
 | some _=>cases u with
  | none=>exact (show False from r).elim
  | some _=>rfl
theorem RelO.getD {o:Option V}{u:Option Value}{d:V}{d':Value}(r:RelO o u)(rd:RelV d d'):RelV (o.getD d) (u.getD d'):=by
 cases o with
 | none=>cases u with
  | none=>exact rd
  | some _=>exact (show False from r).elim
 | some _=>cases u with
  | none=>exact (show False from r).elim
  | some _=>exact r
theorem KV.val {kvs:List (κ×V)}{vs:List (κ×Value)}(r:KV kvs vs)(k:κ):RelO (b1u kvs k) (valueAt vs k):=by
 unfold KV at r
 induction r with
 | nil=>exact True.intro
 | @cons p q ps qs h t ih =>
  obtain⟨h1,h2⟩:=h
  by_cases e:p.1=k
  ·have e':q.1=k:=h1.symm.trans e
   have b:valueAt (q :: qs) k=some q.2:=by simp[valueAt,List.find?_cons,e']
   rw[a4g e,b];exact h2
  ·have e':¬ q.1=k:=λz=>e (h1.trans z)
   have b:valueAt (q :: qs) k=valueAt qs k:=by simp[valueAt,List.find?_cons,e']
   rw[a4h e,b];exact ih
theorem KV.any {kvs:List (κ×V)}{vs:List (κ×Value)}(r:KV kvs vs)(k:κ):(kvs.any λkv=>decide (kv.1=k))=vs.any λkv=>decide (kv.1=k):=by
 unfold KV at r
 induction r with
 | nil=>rfl
 | cons h t ih=>rw[List.any_cons,List.any_cons,ih,h.1]
theorem KV.repl {kvs:List (κ×V)}{vs:List (κ×Value)}(r:KV kvs vs)(k:κ){y:V}{u:Value}(ry:RelV y u) :
  KV (kvs.map λkv=>if kv.1=k then (kv.1,y) else kv) (vs.map λkv=>if kv.1=k then (kv.1,u) else kv):=by
 unfold KV at r ⊢
 induction r with
 | nil=>exact .nil
 | @cons p q ps qs h t ih =>
  rw[List.map_cons,List.map_cons]
  refine .cons ?_ ih
  obtain⟨h1,h2⟩:=h
  by_cases e:p.1=k
  ·rw[if_pos e,if_pos (h1.symm.trans e)];exact⟨h1,ry⟩
  ·rw[if_neg e,if_neg (λz=>e (h1.trans z))];exact⟨h1,h2⟩
theorem KV.put {kvs:List (κ×V)}{vs:List (κ×Value)}(r:KV kvs vs)(k:κ){y:V}{u:Value}(ry:RelV y u):KV (a5g kvs k y) (stored vs k u):=by
 unfold a5g stored
 rw[r.any k]
 by_cases e:(vs.any λkv=>decide (kv.1=k))=true
 ·rw[if_pos e,if_pos e];exact r.repl k ry
 ·rw[if_neg e,if_neg e];exact Paired.snoc r ⟨rfl,ry⟩
theorem KV.drop {kvs:List (κ×V)}{vs:List (κ×Value)}(r:KV kvs vs)(k:κ):KV (d4f kvs k) (without vs k):=by
 unfold KV at r ⊢
 unfold d4f without
 induction r with
 | nil=>exact .nil
 | @cons p q ps qs h t ih =>
  obtain⟨h1,h2⟩:=h
  rw[List.filter_cons,List.filter_cons]
  by_cases e:p.1=k
  ·have a:¬ decide (p.1≠k)=true:=by simp[e]
   have b:¬ decide (q.1≠k)=true:=by simp[h1.symm.trans e]
   rw[if_neg a,if_neg b];exact ih
  ·have e':¬ q.1=k:=λz=>e (h1.trans z)
   have a:decide (p.1≠k)=true:=by simp[e]
   have b:decide (q.1≠k)=true:=by simp[e']
   rw[if_pos a,if_pos b];exact .cons ⟨h1,h2⟩ ih
theorem KV.length {kvs:List (κ×V)}{vs:List (κ×Value)}(r:KV kvs vs):kvs.length=vs.length:=Paired.length r
end
theorem b2u {P:Program}{w:World}{k:Key}{u:Value}(r:RelV (kV k) u):(a1b P w).is k u=true:=by
 cases k with
 | inl i=>obtain⟨t,e⟩:=(show ∃ t,u=Value.int i t from r);subst e;exact b2i P w i t
 | inr x=>obtain⟨t,e⟩:=(show ∃ t,u=Value.str x t from r);subst e;exact b2h P w x t
theorem b0z {P:Program}{w:World}:∀ {ks:List Key}{us:List Value},Vals (ks.map kV) us->ItemsAre (a1b P w) ks us
 | [],_,r=>by rw[List.map_nil] at r;cases r;exact .nil
 | k :: ks,_,r=>by
  rw[List.map_cons] at r
  cases r with
  | cons h t=>exact .cons (b2u h) (b0z t)
abbrev KT (H:Hp):List (List Key×V)->List (List Key×Addr×Value)->Prop:=Paired λp q=>p.1=q.1/\H q.2.1=some (.tup (p.1.map kV))/\RelV p.2 q.2.2
theorem KT.val {H:Hp}{kvs:List (List Key×V)}{xs:List (List Key×Addr×Value)}(r:KT H kvs xs)(k:List Key):RelO (b1u kvs k) ((atKey xs k).map (·.2)):=by
 induction r with
 | nil=>exact True.intro
 | @cons p q ps qs h t ih =>
  obtain⟨h1,_,h2⟩:=h
  by_cases e:p.1=k
  ·have e':q.1=k:=h1.symm.trans e
   have b:atKey (q :: qs) k=some q.2:=by simp[atKey,List.find?_cons,e']
   rw[a4g e,b];exact h2
  ·have e':¬ q.1=k:=λz=>e (h1.trans z)
   have b:atKey (q :: qs) k=atKey qs k:=by simp[atKey,List.find?_cons,e']
   rw[a4h e,b];exact ih
theorem KT.repl {H:Hp}{kvs:List (List Key×V)}{xs:List (List Key×Addr×Value)}(r:KT H kvs xs)(k:List Key){y:V}{u:Value}(ry:RelV y u) :
  KT H (kvs.map λkv=>if kv.1=k then (kv.1,y) else kv) (xs.map (putAt k u)):=by
 induction r with
 | nil=>exact .nil
 | @cons p q ps qs h t ih =>
  rw[List.map_cons,List.map_cons]
  refine .cons ?_ ih
  obtain⟨h1,h2,h3⟩:=h
  unfold putAt
  by_cases e:p.1=k
  ·rw[if_pos e,if_pos (h1.symm.trans e)];exact⟨h1,h2,ry⟩
  ·rw[if_neg e,if_neg (λz=>e (h1.trans z))];exact⟨h1,h2,h3⟩
theorem KT.put {H:Hp}{kvs:List (List Key×V)}{xs:List (List Key×Addr×Value)}(r:KT H kvs xs)(k:List Key){b:Addr}{y:V}{u:Value}(hb:H b=some (.tup (k.map kV)))(ry:RelV y u) :
  KT H (a5g kvs k y) (storedH xs k b u):=by
 have e:(kvs.any λkv=>decide (kv.1=k))=(atKey xs k).isSome:=by
  rw[a5m,(r.val k).isSome_eq,Option.isSome_map]
 unfold a5g storedH
 rw[e]
 by_cases q:(atKey xs k).isSome=true
 ·rw[if_pos q,if_pos q];exact r.repl k ry
 ·rw[if_neg q,if_neg q];exact Paired.snoc r ⟨rfl,hb,ry⟩
theorem KT.keeps {H H':Hp}{kvs:List (List Key×V)}{xs:List (List Key×Addr×Value)}(r:KT H kvs xs)(ht:∀ b ys,H b=some (.tup ys)->H' b=some (.tup ys)):KT H' kvs xs :=
 Paired.mapP r λ_ _ z=>⟨z.1,ht _ _ z.2.1,z.2.2⟩
section
variable {P:Program}{w:World}{H:Hp}{h:Heap}{a:Addr}
theorem d1k {u:HO}(ok:HOk P w H h)(e:Rd H a u):ObjOk P w H h a u:=e.ok ok
theorem b3e {kvs:List (Key×V)}(ok:HOk P w H h)(e:Rd H a (.dK kvs)):kvs.length<=sizeLine/\(a == sysModules)=false/\∃ vs,KV kvs vs/\h.DictOf (a1b P w) a vs :=
 show ObjOk P w H h a (.dK kvs) from d1k ok e
theorem d4i {kvs:List (Key×V)}(ok:HOk P w H h)(e:H a=some (.dK kvs)):kvs.length<=sizeLine/\(a == sysModules)=false/\∃ vs,KV kvs vs/\h.DictOf (a1b P w) a vs:=b3e ok (.inl e)
theorem a6l {ks:List Key}(ok:HOk P w H h)(e:H a=some (.tup (ks.map kV))):(tupleKind (a1b P w)).is h ks a:=by
 obtain⟨_,its,r,o,h1,h2,n,h3⟩:=(show ObjOk P w H h a (.tup (ks.map kV)) from ok a _ e)
 exact⟨o,its.toArray,n,h1,h2,h3,by simpa using b0z r⟩
theorem b3d {kvs:List (List Key×V)}(ok:HOk P w H h)(e:Rd H a (.dT kvs)):kvs.length<=sizeLine/\(a == sysModules)=false /\
  ∃ xs,KT H kvs xs/\h.DictOfH (tupleKind (a1b P w)) a xs:=by
 obtain⟨z,y,xs,r,o,es,ep,h1,h2,h3,h4,h5⟩:=(show ObjOk P w H h a (.dT kvs) from d1k ok e)
 refine⟨z,y,xs,r,o,es,ep,h1,h2,h3,h4,λx hx=>?_,h5⟩
 have all:∀ {l:List (List Key×V)}{m:List (List Key×Addr×Value)},KT H l m->∀ x∈m,(tupleKind (a1b P w)).is h x.1 x.2.1:=by
  intro l m q
  induction q with
  | nil=>intro x hx;exact nomatch hx
  | @cons p q ps qs hq t ih =>
   intro x hx
   rcases List.mem_cons.mp hx with e|hx
   ·subst e
    exact a6l ok (by rw[<- hq.1];exact hq.2.1)
   ·exact ih x hx
 exact all r x hx
theorem d4e {kvs:List (List Key×V)}(ok:HOk P w H h)(e:H a=some (.dT kvs)):kvs.length<=sizeLine/\(a == sysModules)=false /\
  ∃ xs,KT H kvs xs/\h.DictOfH (tupleKind (a1b P w)) a xs:=b3d ok (.inl e)
end
def DGet (H:Hp)(a:Addr)(y:V)(r:Option V):Prop :=
 (∃ kvs k,Rd H a (.dK kvs)/\y=kV k/\r=b1u kvs k) ∨ ∃ kvs k b,Rd H a (.dT kvs)/\y=.ref b/\H b=some (.tup (k.map kV))/\r=b1u kvs k
def DPut (H:Hp)(a:Addr)(y v:V)(H':Hp):Prop :=
 (∃ kvs k,H a=some (.dK kvs)/\y=kV k/\kvs.length<sizeLine/\H'=upd H a (.dK (a5g kvs k v))) ∨
 ∃ kvs k b,H a=some (.dT kvs)/\y=.ref b/\H b=some (.tup (k.map kV))/\kvs.length<sizeLine/\H'=upd H a (.dT (a5g kvs k v))
theorem DGet.k {H:Hp}{a:Addr}{kvs:List (Key×V)}{k:Key}(e:H a=some (.dK kvs)):DGet H a (kV k) (b1u kvs k):=.inl ⟨kvs,k,.inl e,rfl,rfl⟩
theorem DGet.t {H:Hp}{a b:Addr}{kvs:List (List Key×V)}{k:List Key}(e:H a=some (.dT kvs))(eb:H b=some (.tup (k.map kV))):DGet H a (.ref b) (b1u kvs k):=.inr ⟨kvs,k,b,.inl e,rfl,eb,rfl⟩
theorem DPut.k {H:Hp}{a:Addr}{kvs:List (Key×V)}{k:Key}{v:V}(e:H a=some (.dK kvs))(hl:kvs.length<sizeLine):DPut H a (kV k) v (upd H a (.dK (a5g kvs k v))):=.inl ⟨kvs,k,e,rfl,hl,rfl⟩
theorem DPut.t {H:Hp}{a b:Addr}{kvs:List (List Key×V)}{k:List Key}{v:V}(e:H a=some (.dT kvs))(eb:H b=some (.tup (k.map kV)))(hl:kvs.length<sizeLine) :
  DPut H a (.ref b) v (upd H a (.dT (a5g kvs k v))):=.inr ⟨kvs,k,b,e,rfl,eb,hl,rfl⟩
section
variable {X:Cx}{pins:List (Addr×Obj)}{σ:St}{H:Hp}{s:Shared}{a:Addr}{y v:V}{u r:Value}{o:Option V}{A:Around}{E:Value->Shared->Prop}
theorem Inv.big (I:Inv X pins σ H s):sysModules<s.heap.objs.size:=by
 have h:mainGlobals<s.heap.objs.size:=(I.mod.glob.keeps I.bk).lt
 exact Nat.lt_trans (by decide) h
theorem c0w {Q:Value->Shared->Prop}(hu:A.units+1<cLine)(I:Inv X pins σ H s)(g:DGet H a y (some v))(ry:RelV y u)(h:∀ w' s',Inv X pins σ H s'->RelV v w'->Q w' s') :
  wpAny (model X.prog X.w) A (getItem (.ref a) u) Q E s:=by
 rcases g with⟨kvs,k,e,ey,l⟩|⟨kvs,k,b,e,ey,eb,l⟩
 ·subst ey
  obtain⟨z,hd,vs,rel,dd⟩:=b3e I.hok e
  obtain⟨w',hw,rw'⟩:=RelO.some_of (v:=v) (o:=valueAt vs k) (by rw[l];exact rel.val k)
  exact wpAny_getItem_of (b2u ry) dd.mapOf hw (h w' _ (I.tok _) rw')
 ·subst ey
  cases (show u=Value.ref b from ry)
  obtain⟨z,hd,xs,rel,dd⟩:=b3d I.hok e
  obtain⟨w',hw,rw'⟩:=RelO.some_of (v:=v) (o:=(atKey xs k).map (·.2)) (by rw[l];exact rel.val k)
  obtain⟨p,hp,hp2⟩:=Option.map_eq_some_iff.mp hw
  refine wpAny_getItem_heap (tupleKind_room_in1 hu) (a6l I.hok eb) dd hp ?_
  rw[hp2]
  exact h w' _ (I.tok _) rw'
theorem d_in {Q:Value->Shared->Prop}(hu:A.units+1<cLine)(I:Inv X pins σ H s)(g:DGet H a y o)(ry:RelV y u)(h:∀ s',Inv X pins σ H s'->Q (.bool o.isSome) s') :
  wpAny (model X.prog X.w) A (compareOp .In u (.ref a)) Q E s:=by
 rcases g with⟨kvs,k,e,ey,l⟩|⟨kvs,k,b,e,ey,eb,l⟩
 ·subst ey
  obtain⟨z,hd,vs,rel,dd⟩:=b3e I.hok e
  refine wpAny_in_of (b2u ry) hd dd.mapOf ?_
  rw[<- (rel.val k).isSome_eq,<- l]
  exact h _ (I.tok _)
 ·subst ey
  cases (show u=Value.ref b from ry)
  obtain⟨z,hd,xs,rel,dd⟩:=b3d I.hok e
  refine wpAny_in_heap (tupleKind_room_in1 hu) (a6l I.hok eb) hd dd ?_
  have q:=(rel.val k).isSome_eq
  rw[Option.isSome_map] at q
  rw[<- q,<- l]
  exact h _ (I.tok _)
theorem c0v {Q:Value->Shared->Prop}(hu:A.units+1<cLine)(I:Inv X pins σ H s)(g:DGet H a y o)(ry:RelV y u)(h:∀ s',Inv X pins σ H s'->Q (.bool (!o.isSome)) s') :
  wpAny (model X.prog X.w) A (compareOp .NotIn u (.ref a)) Q E s:=by
 rcases g with⟨kvs,k,e,ey,l⟩|⟨kvs,k,b,e,ey,eb,l⟩
 ·subst ey
  obtain⟨z,hd,vs,rel,dd⟩:=b3e I.hok e
  refine wpAny_notIn_of (b2u ry) hd dd.mapOf ?_
  rw[<- (rel.val k).isSome_eq,<- l]
  exact h _ (I.tok _)
 ·subst ey
  cases (show u=Value.ref b from ry)
  obtain⟨z,hd,xs,rel,dd⟩:=b3d I.hok e
  refine wpAny_notIn_heap (tupleKind_room_in1 hu) (a6l I.hok eb) hd dd ?_
  have q:=(rel.val k).isSome_eq
  rw[Option.isSome_map] at q
  rw[<- q,<- l]
  exact h _ (I.tok _)
theorem a9q {h':Heap}{t':Nat}{ob:HO}(I:Inv X pins σ H s)(mu:Mut (H a))(hs:Heap.SameBut a s.heap h')(he:∃ q,h'.get? a=some q)(new:ObjOk X.prog X.w (upd H a ob) h' a ob) :
  Inv X pins σ (upd H a ob) { s with heap:=h',toks:=t' } :=
 I.write (x:=a) (e:=a) mu (.inl rfl) (λb q hb z=>(hs.2 b hb).trans z) he new
theorem c5v {P:Program}{w:World}{H':Hp}{h':Heap}{kvs:List (Key×V)}{vs:List (Key×Value)}(z:kvs.length<=sizeLine)(hd:(a == sysModules)=false)(rel:KV kvs vs)(dd:h'.DictOf (a1b P w) a vs) :
  ObjOk P w H' h' a (.dK kvs):=⟨z,hd,vs,rel,dd⟩
theorem c0u {H':Hp}{Q:Unit->Shared->Prop}(hu:A.units+1<cLine)(I:Inv X pins σ H s)(g:DPut H a y v H')(ry:RelV y u)(rv:RelV v r)(h:∀ s',Inv X pins σ H' s'->Q () s') :
  wpAny (model X.prog X.w) A (setItem (.ref a) u r) Q E s:=by
 rcases g with⟨kvs,k,e,ey,l,eH⟩|⟨kvs,k,b,e,ey,eb,l,eH⟩
 ·subst ey eH
  obtain⟨z,hd,vs,rel,dd⟩:=d4i I.hok e
  have hz:vs.length<=sizeLine:=by rw[<- rel.length];exact z
  have hl:(a5g kvs k v).length<=sizeLine:=by have:=a2w kvs k v;lia
  refine wpAny_setItem_pairs (hsz:=hz) (b2u ry) dd λh' dd' hs=>h _ ?_
  have he:∃ q,h'.get? a=some q:=let ⟨q,_,_,hq,_⟩:=dd';⟨q,hq⟩
  exact a9q I (by rw[e];exact True.intro) hs he (c5v hl hd (rel.put k rv) dd')
 ·subst ey eH
  cases (show u=Value.ref b from ry)
  obtain⟨z,hd,xs,rel,dd⟩:=d4e I.hok e
  have hz:xs.length<=sizeLine:=by rw[<- Paired.length rel];exact z
  have hl:(a5g kvs k v).length<=sizeLine:=by have:=a2w kvs k v;lia
  refine wpAny_setItem_heap (hsz:=hz) (tupleKind_room_in1 hu) (a6l I.hok eb) dd λh' dd' hs=>h _ ?_
  obtain⟨q,es,ep,hq,h2,h3,h4,_,h5⟩:=dd'
  refine a9q I (by rw[e];exact True.intro) hs ⟨q,hq⟩ ⟨hl,hd,_,(rel.put k eb rv).keeps λc ys ec=>?_,q,es,ep,hq,h2,h3,h4,h5⟩
  rw[a0g (d2x ec e (λz=>nomatch z))]
  exact ec
end
section
variable {X:Cx}{pins:List (Addr×Obj)}{σ:St}{H:Hp}{s:Shared}{a:Addr}{kvs:List (Key×V)}{k:Key}{u:Value}{A:Around}{E:Value->Shared->Prop}
end
def NoSl (i:Expr):Prop:=∀ ov iv,subscripted i false ov iv=operate [ov,iv] (getItem ov iv)
theorem c6n {prog:Program}{w:World}{A:Around}{E:Value->Shared->Prop}{s:Shared}{env:Env}{value slice:Expr}{pos:Pos}{T id:String}{Q:Value->Shared->Prop}
  (hl:typeLookup (.type T) "__getitem__" = pure (some (.builtin id)))(hs:NoSl slice)
  (h:wpAny (model prog w) A (eval value env) (λo s₁=>wpAny (model prog w) A (eval slice env) (λi s₂=>s₂.TypeIs o T/\wpAny (model prog w) A (getItem o i) Q E s₂) E s₁) E s) :
  wpAny (model prog w) A (eval (.Subscript value slice pos) env) Q E s:=by
 refine Subscript_ (wpAny_mono h (λo s₁ h₁=>wpAny_mono h₁ (λi s₂ h₂=>?_) λ_ _ x=>x) λ_ _ x=>x)
 obtain⟨hT,h₂⟩:=h₂
 unfold subscriptTail
 refine Γa ?_
 rw[getitemInPython_of_ne hT.not_modules]
 refine Γa (wpAny_specialOf hT hl ?_)
 have fin:wpAny (model prog w) A (subscripted slice false o i) (λr s₃=>wpAny (model prog w) A (letTemporaryGo value o r >>= λ_=>pure r) Q E s₃) E s₂:=by
  rw[hs o i]
  exact wpAny_operating (wpAny_mono h₂ (λr s₃ h₃=>Γa (wpAny_letTemporaryGo (Γb h₃))) λ_ _ x=>x)
 first
  | exact Γb (Γa fin)
  | exact Γa (Γb (Γa fin))
  | exact Γa fin
theorem b3f {X:Cx}{pins:List (Addr×Obj)}{σ:St}{H:Hp}{s:Shared}{a:Addr}{y:V}{o:Option V}(I:Inv X pins σ H s)(g:DGet H a y o):s.TypeIs (.ref a) "dict":=by
 rcases g with⟨kvs,k,e,_,_⟩|⟨kvs,k,b,e,_,_,_⟩
 ·obtain⟨_,_,vs,_,dd⟩:=b3e I.hok e
  exact dd.typeIs
 ·obtain⟨_,_,xs,_,dd⟩:=b3d I.hok e
  exact dd.typeIs
def d7g (td ty:TE):TE:=λσ H Q=>td σ H λx H1=>ty σ H1 λy H2=>∃ a v,x=.ref a/\DGet H2 a y (some v)/\Q v H2
def d7v (td ty tv:TE):TS:=λD σ H=>tv σ H λv H1=>td σ H1 λx H2=>ty σ H2 λy H3=>∃ a H4,x=.ref a/\DPut H3 a y v H4/\D.nx σ H4
section
variable {X:Cx}{o i e value:Expr}{pos pos' tpos:Pos}{td ty tv:TE}
theorem b8r (hu:X.A.units+1<cLine)(ho:PE X o td)(hi:PE X i ty)(hs:NoSl i):PE X (.Subscript o i pos) (d7g td ty):=by
 intro pins s σ H Q I h
 refine c6n PySem.F.slot_dict_getitem.lookup hs (thn (ho pins s σ H _ I h) λu s1 ⟨x,H1,I1,rx,q1⟩=>thn (hi pins s1 σ H1 _ I1 q1) λiv s2 ⟨y,H2,I2,ry,a,v,ex,g,q2⟩=>?_)
 subst ex
 obtain rfl:u=Value.ref a:=rx
 exact⟨b3f I2 g,c0w hu I2 g ry λw' s3 I3 rw'=>⟨v,H2,I3,rw',q2⟩⟩
theorem c7j (hu:X.A.units+1<cLine)(ho:PE X o td)(hi:PE X i ty)(hv:PE X value tv)(hs:swapsWith value (some (.Subscript o i pos')) pos.line X.env=pure false) :
  PS X (.Assign [.Subscript o i pos'] value pos) (d7v td ty tv):=by
 intro pins s σ H D I h
 refine wpAny_Assign_Subscript (thn (hv pins s σ H _ I h) λr s1 ⟨v,H1,I1,rv,q1⟩=>thn (ho pins s1 σ H1 _ I1 q1) λu s2 ⟨x,H2,I2,rx,q2⟩=>thn (hi pins s2 σ H2 _ I2 q2) λiv s3 ⟨y,H3,I3,ry,a,H4,ex,g,q3⟩=>?_) hs
 subst ex
 obtain rfl:u=Value.ref a:=rx
 exact c0u hu I3 g ry rv λs4 I4=>⟨σ,H4,I4,q3⟩
end
theorem c4e {P:Program}{w:World}{H:Hp}(h:Heap)(hb:sysModules<h.objs.size):ObjOk P w H (h.push { cls:=.type "dict",data:=.dict #[] }) h.objs.size (.dK []) :=
 ⟨Nat.zero_le _,beq_eq_false_iff_ne.mpr (Ne.symm (Γo hb)),[],.nil,Heap.DictOf.new h⟩
theorem c4b {P:Program}{w:World}{H:Hp}(h:Heap)(hb:sysModules<h.objs.size):ObjOk P w H (h.push { cls:=.type "dict",data:=.dict #[] }) h.objs.size (.dT []) :=
 ⟨Nat.zero_le _,beq_eq_false_iff_ne.mpr (Ne.symm (Γo hb)),[],.nil,_,#[],0,Γm _ rfl,⟨rfl,rfl,rfl⟩,rfl,rfl,List.nodup_nil⟩
section
variable {X:Cx}{pos:Pos}
end
def b7q:List (TE×TE)->St->Hp->(List (V×V)->Hp->Prop)->Prop
 | [],_,H,Q=>Q [] H
 | (tk,tv) :: r,σ,H,Q=>tk σ H λx H1=>tv σ H1 λy H2=>b7q r σ H2 λps H3=>Q ((x,y) :: ps) H3
abbrev VV:List (V×V)->List (Value×Value)->Prop:=Paired λp q=>RelV p.1 q.1/\RelV p.2 q.2
def PPs (X:Cx)(pos:Pos)(keys:List (Option Expr))(values:List Expr)(trs:List (TE×TE)):Prop :=
 ∀ (pins:List (Addr×Obj))(s:Shared)(σ:St)(H:Hp)(Q:List (V×V)->Hp->Prop),Inv X pins σ H s->b7q trs σ H Q ->
  wpAny (model X.prog X.w) X.A (evalPairs (pairTrees keys values X.env pos)) (λvs s'=>∃ ps H',Inv X pins σ H' s'/\VV ps vs/\Q ps H') X.xe s
theorem c7k {X:Cx}{pos:Pos}:PPs X pos [] [] []:=λpins s σ H Q I h=>pairTrees_nil_walk ⟨[],H,I,.nil,h⟩
theorem c2r {X:Cx}{pos:Pos}{k v:Expr}{ks:List (Option Expr)}{vs:List Expr}{tk tv:TE}{trs:List (TE×TE)}(hk:PE X k tk)(hv:PE X v tv)(hr:PPs X pos ks vs trs) :
  PPs X pos (some k :: ks) (v :: vs) ((tk,tv) :: trs):=λpins s σ H Q I h =>
 pairTrees_cons_walk (thn (hk pins s σ H _ I h) λu s1 ⟨x,H1,I1,rx,q1⟩=>thn (hv pins s1 σ H1 _ I1 q1) λw2 s2 ⟨y,H2,I2,ry,q2⟩ =>
  thn (hr pins s2 σ H2 _ I2 q2) λws s3 ⟨ps,H3,I3,rel,q3⟩=>⟨(x,y) :: ps,H3,I3,.cons ⟨rx,ry⟩ rel,q3⟩)
def a7w (kvs more:List (Key×V)):List (Key×V):=more.foldl (λacc kv=>a5g acc kv.1 kv.2) kvs
theorem KV.merge:∀ {more:List (Key×V)}{rs:List (Key×Value)}{kvs:List (Key×V)}{vs:List (Key×Value)},KV more rs->KV kvs vs->KV (a7w kvs more) (merged vs rs):=by
 intro more rs kvs vs r
 unfold KV at r
 induction r generalizing kvs vs with
 | nil=>intro q;exact q
 | @cons p q ps qs h t ih =>
  intro r0
  have e:KV (a5g kvs p.1 p.2) (stored vs q.1 q.2):=by
   have:=r0.put p.1 h.2
   rw[<- h.1];exact this
  exact ih e
theorem a4m:∀ (more kvs:List (Key×V)),(a7w kvs more).length<=kvs.length+more.length
 | [],kvs=>by show kvs.length<=kvs.length+0;lia
 | p :: r,kvs=>by
  have h1:=a4m r (a5g kvs p.1 p.2)
  have h2:=a2w kvs p.1 p.2
  show (a7w (a5g kvs p.1 p.2) r).length<=_
  rw[List.length_cons];lia
theorem a8k {P:Program}{w:World}:∀ {kvs:List (Key×V)}{ws:List (Value×Value)},VV (kvs.map λkv=>(kV kv.1,kv.2)) ws->∃ rs,Carries (a1b P w) ws rs/\KV kvs rs
 | [],_,r=>by rw[List.map_nil] at r;cases r;exact⟨[],True.intro,.nil⟩
 | p :: kvs,_,r=>by
  rw[List.map_cons] at r
  cases r with
  | @cons a b as bs h t =>
   obtain⟨rs,c,q⟩:=a8k (P:=P) (w:=w) t
   obtain⟨b1,b2⟩:=b
   exact⟨(p.1,b2) :: rs,⟨b2u h.1,rfl,c⟩,.cons ⟨rfl,h.2⟩ q⟩
def d7f (trs:List (TE×TE)):TE:=λσ H Q=>∀ p,H p=none->b7q trs σ (upd H p (.dK [])) λps H2=>H2 p=some (.dK [])/\∃ kvs:List (Key×V),ps=kvs.map (λkv=>(kV kv.1,kv.2))/\kvs.length<=15/\Q (.ref p) (upd H2 p (.dK (a7w [] kvs)))
theorem c7r {X:Cx}{pos:Pos}{keys:List (Option Expr)}{values:List Expr}{trs:List (TE×TE)}(h:PPs X pos keys values trs)(hall:keys.all (·.isSome)=true)(hl:keys.length=values.length)(h0:keys≠[])
  (h15:keys.length<=15):PE X (.Dict keys values pos) (d7f trs):=by
 intro pins s σ H Q I q
 have hn:=I.hok.fresh (Γi s.heap.objs.size)
 have I1:=I.laid (a:=s.heap.objs.size) (o:=.dK []) (h':=s.heap.push { cls:=.type "dict",data:=.dict #[] }) (t':=s.toks) (λ_ _ q=>Γc _ q) (Γi _) (c4e s.heap I.big)
 refine wpAny_Dict_walk (knd:=a1b X.prog X.w) hall hl h0 h15 (thn (h pins _ σ _ _ I1 (q _ hn)) λws s2 ⟨ps,H2,I2,rel,e,kvs,ep,lk,q2⟩=>?_)
 subst ep
 obtain⟨rs,c,rk⟩:=a8k (P:=X.prog) (w:=X.w) rel
 obtain⟨z,hd,vs0,r0,dd⟩:=d4i I2.hok e
 cases r0
 refine⟨rs,c,dd,λh' dd' hs=>⟨.ref s.heap.objs.size,_,?_,rfl,q2⟩⟩
 have hz:(a7w [] kvs).length<=sizeLine:=by
  have h1:=a4m kvs []
  rw[List.length_nil] at h1
  rw[sizeLine_eq];lia
 have he:∃ q,h'.get? s.heap.objs.size=some q:=let ⟨q,_,_,hq,_⟩:=dd';⟨q,hq⟩
 exact a9q I2 (by rw[e];exact True.intro) hs he (c5v hz hd (rk.merge .nil) dd')
structure M1 (X:Cx)(o:Expr)(m:Str)(apos:Pos)(e:Expr)(cpos:Pos):Prop where
 base:attributeBase o m X.env (eval o X.env)=eval o X.env
 few:((backTo cpos (starEach [e] X.env)).all (λx=>!x.1) && (backToKw cpos (keywordEach [] X.env)).all (λx=>x.1.isSome)
  && decide (([e]:List Expr).length+([]:List Keyword).length+(if ([]:List Keyword).isEmpty then 0 else 1)<30))=true
 line:(apos.endLine == cpos.line)=true
 trees:backTo cpos (starEach [e] X.env)=[(false,eval e X.env)]
structure M2 (X:Cx)(o:Expr)(m:Str)(apos:Pos)(e f:Expr)(cpos:Pos):Prop where
 base:attributeBase o m X.env (eval o X.env)=eval o X.env
 few:((backTo cpos (starEach [e,f] X.env)).all (λx=>!x.1) && (backToKw cpos (keywordEach [] X.env)).all (λx=>x.1.isSome)
  && decide (([e,f]:List Expr).length+([]:List Keyword).length+(if ([]:List Keyword).isEmpty then 0 else 1)<30))=true
 line:(apos.endLine == cpos.line)=true
 trees:backTo cpos (starEach [e,f] X.env)=[(false,eval e X.env),(false,eval f X.env)]
def IsD (H:Hp)(a:Addr):Prop:=(∃ kvs,Rd H a (.dK kvs)) ∨ ∃ kvs,Rd H a (.dT kvs)
theorem d3p {X:Cx}{pins:List (Addr×Obj)}{σ:St}{H:Hp}{s:Shared}{a:Addr}(I:Inv X pins σ H s)(d:IsD H a) :
  s.TypeIs (.ref a) "dict"/\(∀ b,Value.ref a=.ref b->∃ ob,s.heap.get? b=some ob/\ob.dict=none)/\(a == sysModules)=false:=by
 rcases d with⟨kvs,e⟩|⟨kvs,e⟩
 ·obtain⟨_,hd,vs,_,dd⟩:=b3e I.hok e
  refine⟨dd.typeIs,λb q=>?_,hd⟩
  cases q
  obtain⟨ob,_,_,h1,h2,_⟩:=dd
  exact⟨ob,h1,h2.2.1⟩
 ·obtain⟨_,hd,xs,_,dd⟩:=b3d I.hok e
  refine⟨dd.typeIs,λb q=>?_,hd⟩
  cases q
  obtain⟨ob,_,_,h1,h2,_⟩:=dd
  exact⟨ob,h1,h2.2.1⟩
section
variable {X:Cx}{pins:List (Addr×Obj)}{σ:St}{H:Hp}{s:Shared}{a:Addr}{y d:V}{u r:Value}{o:Option V}{A:Around}{E:Value->Shared->Prop}
theorem d4k {Q:Value->Shared->Prop}(hu:A.units+1<cLine)(I:Inv X pins σ H s)(g:DGet H a y o)(ry:RelV y u)(h:∀ w' s',Inv X pins σ H s'->RelV (o.getD .non) w'->Q w' s') :
  wpAny (model X.prog X.w) A (call (.builtin "dict.get") [.ref a,u]) Q E s:=by
 rcases g with⟨kvs,k,e,ey,l⟩|⟨kvs,k,b,e,ey,eb,l⟩
 ·subst ey
  obtain⟨z,hd,vs,rel,dd⟩:=b3e I.hok e
  refine call_meetsIn PySem.F.slot_dict_get dd.typeIs PySem.F.entry_dict_get (PySem.F.args_dict_get_2 _ _) (meets_dict_get (a1b X.prog X.w) a (b2u ry) hd) ⟨_,dd.mapOf,h _ _ (I.tok _) ?_⟩
  rw[l]
  exact (rel.val k).getD rfl
 ·subst ey
  cases (show u=Value.ref b from ry)
  obtain⟨z,hd,xs,rel,dd⟩:=b3d I.hok e
  refine call_meetsIn PySem.F.slot_dict_get dd.typeIs PySem.F.entry_dict_get (PySem.F.args_dict_get_2 _ _) (meetsH_dict_get (tupleKind (a1b X.prog X.w)) a b hd) ⟨tupleKind_room_in1 hu,k,xs,a6l I.hok eb,dd,h _ _ (I.tok _) ?_⟩
  rw[l]
  exact (rel.val k).getD rfl
end
def d1a (td ty:TE):TE:=λσ H Q=>td σ H λx H1=>∃ a,x=.ref a/\IsD H1 a/\ty σ H1 λy H2=>∃ o,DGet H2 a y o/\Q (o.getD .non) H2
section
variable {X:Cx}{o e f:Expr}{apos cpos:Pos}{td ty tx:TE}
theorem c2v (hu:X.A.units+1<cLine)(ho:PE X o td)(he:PE X e ty)(m:M1 X o "get" apos e cpos):PE X (.Call (.Attribute o "get" apos) [e] [] cpos) (d1a td ty):=by
 intro pins s σ H Q I h
 refine wpAny_Call_method m.base m.few m.line PySem.F.plainAttrs_dict PySem.F.slot_dict_get PySem.F.type_dict_get (thn (ho pins s σ H _ I h) λu s1 ⟨x,H1,I1,rx,a,ex,d,q1⟩=>?_)
 subst ex
 obtain rfl:u=Value.ref a:=rx
 obtain⟨t1,t2,_⟩:=d3p I1 d
 refine⟨t1,t2,?_⟩
 rw[m.trees]
 refine Calls.callWith_builtin rfl (Calls.evalArgs_plain (Calls.spliced_cons (thn (he pins s1 σ H1 _ I1 q1) λiv s2 ⟨y,H2,I2,ry,ov,g,q2⟩=>Calls.spliced_nil ?_)))
 exact d4k hu I2 g ry λw' s3 I3 rw'=>⟨_,H2,I3,rw',q2⟩
end
section
variable {X:Cx}{pins:List (Addr×Obj)}{σ:St}{H:Hp}{s:Shared}{a:Addr}{kvs:List (Key×V)}{A:Around}{E:Value->Shared->Prop}
end
section
variable {X:Cx}{pins:List (Addr×Obj)}{σ:St}{H:Hp}{s:Shared}{a:Addr}{y:V}{u:Value}{A:Around}{E:Value->Shared->Prop}
end
end L2
namespace L2
open PySem PySem.Spec PyProof.Rows
section
variable {κ:Type} [DecidableEq κ]
end
end L2
end
section
namespace HT
open PySem PyProof.Rows
def lexLe:List Int->List Int->Bool
 | [],[]=>true
 | [],_ :: _=>true
 | _ :: _,[]=>false
 | x :: xs,y :: ys=>if x=y then lexLe xs ys else decide (x<=y)
theorem b5z (x y:Int)(xs ys:List Int):lexLe (x :: xs) (y :: ys)=if x=y then lexLe xs ys else decide (x<=y):=rfl
theorem a9e:lexLe [] []=true:=rfl
theorem a7i (y:Int)(ys:List Int):lexLe [] (y :: ys)=true:=rfl
theorem a7j (x:Int)(xs:List Int):lexLe (x :: xs) []=false:=rfl
theorem c0f (A:Around)(s:Shared) (a:Int)(t:Tok) (c:Int)(u:Tok):∃ e,SeqAt.EqAt A s (.int a t) (.int c u) e/\(e=true↔a=c) :=
 ⟨(a == c),SeqAt.EqAt.int_int a t c u,by simp⟩
theorem c2m (A:Around)(s:Shared) (a:Int)(t:Tok) (c:Int)(u:Tok)(prog:Program)(w:World)(E:Value->Shared->Prop)(Q:Value->Shared->Prop)(h:Q (.bool (decide (a<=c))) s) :
  wpAny (model prog w) A (richCompare .LtE (.int a t) (.int c u)) Q E s :=
 (PyProof.Rows.le_int h:wpAny (model prog w) A (compareOp .LtE (.int a t) (.int c u)) Q E s)
section
open PySem.SeqAt
open PySem.AutoSeq1 (wpAny_loadPart')
open PySem.MeetsSeq PySem.MeetsSeq2 PySem.MeetsSeq3
theorem a8n (l b:Addr)(items items2:Array Value) (n n2:Nat)(dd dd2:Option Addr)(sl sl2:Array (Option Value))(ns ms:List Int)(hi:IntsAre items.toList ns)(hj:IntsAre items2.toList ms) :
  Meets (Builtin.«tuple.__le__» ⟨[.ref l,.ref b],[]⟩)
   (λ_ R s=>s.heap.get? l=some { cls:=.type "tuple",dict:=dd,data:=.seq items n,slots:=sl }/\s.heap.get? b=some { cls:=.type "tuple",dict:=dd2,data:=.seq items2 n2,slots:=sl2 } /\
    R (.ok (.ret (.bool (lexLe ns ms)))) s) :=
 .of_wp λprog w A R s h=>by
  obtain⟨hp,g,d,tk,os⟩:=s;obtain⟨hl,hb,h⟩:=h
  have f2:=AutoSeq1.sub_tuple_tuple
  have z1:items.size=ns.length:=by rw[<- hi.length];simp
  have z2:items2.size=ms.length:=by rw[<- hj.length];simp
  wp_walk using wpAny_loadPart' hl,wpAny_loadPart' hb,wpAny_forIn_list _ (λrest b s'=>b.1=none/\s'=⟨hp,g,d,tk,os⟩/\∃ (vs ws:List Value)(ns' ms':List Int),rest=vs.zip ws /\
   IntsAre vs ns'/\IntsAre ws ms'/\ns'.length+items2.size=ms'.length+items.size/\R (.ok (.ret (.bool (lexLe ns' ms')))) ⟨hp,g,d,tk,os⟩) _
  case turn =>
   rintro⟨y,x⟩ rest b s' ⟨hb',rfl,vs,ws,ns',ms',hz,hvi,hwi,hlen,hR⟩
   cases hvi with
   | nil=>rw[List.zip_nil_left] at hz;cases hz
   | cons a t hvi' =>
    cases hwi with
    | nil=>rw[List.zip_nil_right] at hz;cases hz
    | cons c u hwi' =>
     rw[List.zip_cons_cons] at hz
     injection hz with hyx hrest
     injection hyx with hy hx
     subst hy hx
     rw[b5z] at hR
     simp only[List.length_cons] at hlen
     obtain⟨e,he,hiff⟩:=c0f A.in1 ⟨hp,g,d,tk,os⟩ a t c u
     refine Γa (he prog w _ _ ?_)
     cases e with
     | true =>
      rw[if_pos (hiff.mp rfl)] at hR
      wp_walk
      exact⟨rfl,rfl,_,_,_,_,hrest,hvi',hwi',by lia,hR⟩
     | false =>
      rw[if_neg (λq=>absurd (hiff.mpr q) Γk)] at hR
      have hri:=c2m A.in1 ⟨hp,g,d,tk,os⟩ a t c u prog w
      wp_walk using hri
      exact⟨_,rfl,by simpa using hR⟩
  case fin =>
   rintro⟨b1,b2⟩ s' ⟨hb',rfl,vs,ws,ns',ms',hz,hvi,hwi,hlen,hR⟩
   simp only at hb'
   subst hb'
   have hv:lexLe ns' ms'=decide (items.size<=items2.size):=by
    cases hvi with
    | nil =>
     cases hwi with
     | nil =>
      simp only[List.length_nil] at hlen
      rw[a9e]
      exact (decide_eq_true (by lia)).symm
     | cons c u hw =>
      simp only[List.length_nil,List.length_cons] at hlen
      rw[a7i]
      exact (decide_eq_true (by lia)).symm
    | cons a t hv =>
     cases hwi with
     | nil =>
      simp only[List.length_nil,List.length_cons] at hlen
      rw[a7j]
      exact (decide_eq_false (by lia)).symm
     | cons c u hw =>
      rw[List.zip_cons_cons] at hz
      cases hz
   rw[hv] at hR
   wp_walk
   exact⟨_,rfl,by simpa[Builtin.Tuple.tupleCompareSizes] using hR⟩
  case h =>
   exact⟨rfl,rfl,items.toList,items2.toList,ns,ms,rfl,hi,hj,by lia,h⟩
end
section
variable {prog:Program}{w:World}{A:Around}{E:Value->Shared->Prop}{s:Shared}
theorem le_tupInts {l b:Addr}{items items2:Array Value}{ns ms:List Int}{Q:Value->Shared->Prop}(hl:IsTup s.heap l items)(hb:IsTup s.heap b items2)(hi:IntsAre items.toList ns)(hj:IntsAre items2.toList ms)
  (hu:A.units<cLine)(h:Q (.bool (lexLe ns ms)) s):wpAny (model prog w) A (compareOp .LtE (.ref l) (.ref b)) Q E s:=by
 obtain⟨⟨cls,dd,data,sl⟩,ho,hc,n,hd⟩:=id hl
 obtain⟨⟨cls2,dd2,data2,sl2⟩,ho2,hc2,n2,hd2⟩:=id hb
 simp only at hc hd hc2 hd2
 subst hc hd hc2 hd2
 exact richCompare_meets_room (op:=.LtE) ⟨_,ho,rfl⟩ ⟨_,ho2,rfl⟩ PySem.F.slot_tuple_le PySem.F.entry_tuple_le (PySem.F.args_tuple_le_2 _ _) (a8n l b items items2 n n2 dd dd2 sl sl2 ns ms hi hj)
  ⟨ho,ho2,show Value.bool (lexLe ns ms)≠Value.notImplemented/\Q (.bool (lexLe ns ms)) s from ⟨(λx=>nomatch x),h⟩⟩ hu
end
end HT
namespace L2
open PySem PySem.Spec PyProof.Rows
section
variable {X:Cx}
def rLeT (K:Γd):R2:=λx y H Q=>∃ a b ns ms,x=.ref a/\y=.ref b/\SqT K H a (ns.map V.int)/\SqT K H b (ms.map V.int)/\Q (.bl (HT.lexLe ns ms)) H
theorem d2r (hu:X.A.units<cLine):OpR X (compareOp .LtE) (rLeT X.K):=by
 intro pins s σ H x y v u Q I rx ry h
 obtain⟨a,b,ns,ms,rfl,rfl,ha,hb,q⟩:=h
 cases rx
 cases ry
 obtain⟨its,r1,p1,_⟩:=I.tuple ha
 obtain⟨its2,r2,p2,_⟩:=I.tuple hb
 have i1:IntsAre its.toArray.toList ns:=a3w r1
 have i2:IntsAre its2.toArray.toList ms:=a3w r2
 exact HT.le_tupInts p1 p2 i1 i2 hu ⟨.bl (HT.lexLe ns ms),H,I,rfl,q⟩
end
end L2
end
set_option maxHeartbeats 4000000
section
namespace L2
open PySem PySem.Spec PyProof.Rows
open AutoSeq1 (wpAny_loadPart')
section
variable {X:Cx}
theorem c2y:OpR X (binaryOp .Add) (λx y H Q=>∃ a b ys,x=.ref a/\y=.ref b/\SqT X.K H a []/\SqT X.K H b ys/\Q (.ref b) H):=by
 intro pins s σ H x y v u Q I rx ry h
 obtain⟨a,b,ys,rfl,rfl,ha,hb,q⟩:=h
 cases rx;cases ry
 obtain⟨its,r1,⟨⟨oc,od,odt,os⟩,e1,ec,n,ed⟩,_⟩:=I.tuple ha
 obtain⟨its2,r2,⟨⟨oc2,od2,odt2,os2⟩,e2,ec2,n2,ed2⟩,_⟩:=I.tuple hb
 simp only at ec ed ec2 ed2
 subst ec ed ec2 ed2
 cases r1
 exact concat_meets ⟨_,e1,rfl⟩ ⟨_,e2,rfl⟩ noFill_tuple_add seq_tuple_add F.slot_tuple_add F.entry_tuple_add (F.args_tuple_add_2 _ _) (tuple_addW0 a b #[] its2.toArray n n2 od od2 os os2 rfl) ⟨e1,e2,.ref b,H,I,rfl,q⟩
theorem c2f:SlR X (λx lo hi H Q=>∃ a xs,x=.ref a/\SqT X.K H a xs/\HT.sIx xs.length 0 lo=0/\HT.sIx xs.length xs.length hi=xs.length/\Q (.ref a) H):=by
 intro pins s σ H x v vl vu lo hi sl Q I rx hs pl pu h
 obtain⟨t,xs,rfl,hx,h1,h2,q⟩:=h
 cases rx
 obtain⟨its,r,ht,hz⟩:=I.tuple hx
 have hlen:its.toArray.size=xs.length:=by rw[List.size_toArray];exact r.length.symm
 refine⟨"tuple",_,PyProof.Rows.slot_tuple_getitem.lookup,ht.typeIs,?_⟩
 obtain⟨os,eo,co,do'⟩:=id hs
 have ty:s.TypeIs (.ref sl) "slice":=⟨os,eo,co⟩
 rw[<- hlen] at h1 h2
 unfold getItem
 try with_reducible refine Γg ?_
 first|refine Γa (Γb ?_)|skip
 refine Γa (wpAny_sequenceKey ht.typeIs (by decide) (Γa (wpAny_callSpecial?_slot (name:=Γe "__getitem__") ht.typeIs PyProof.Rows.slot_tuple_getitem (wpAny_call_entry PyProof.Rows.slot_tuple_getitem ht.typeIs entry_tuple_getitem ?_ (args_tuple_getitem _ _)))))
 show wpAny _ _ (Builtin.Tuple.tupleItemsOf (.ref t) >>= _) _ _ s;refine Γa (tupleItemsOf_ ht (Γa (wpAny_typeOf ty ?_)))
 rw[if_pos (by decide)];refine Γa (HT.sliceApplied_gen hs pl pu ?_)
 show wpAny _ _ (if (((HT.sIx its.toArray.size 0 lo:Nat):Int) == 0 && (1:Int) == 1 && (HT.sIx its.toArray.size its.toArray.size hi-HT.sIx its.toArray.size 0 lo) == its.toArray.size)=true then _ else _) _ _ s
 rw[if_pos (by rw[h1,h2];simp)]
 refine Γa (m:=Builtin.Tuple.tupleIsExact (.ref t)) ?_
 unfold Builtin.Tuple.tupleIsExact
 refine Γa (wpAny_typeOf ht.typeIs (Γb ?_))
 rw[if_pos (by decide)]
 exact Γa (wpAny_rule (Γb ⟨_,rfl,Γb ⟨.ref t,H,I,rfl,q⟩⟩))
end
def Kept (h0 h:Heap) (N:Nat):Prop:=∀ b o,b<N->h0.get? b=some o->h.get? b=some o
def d0i (P:Program)(w:World)(A:Around)(I:Nat->Value->Prop)(bt:Nat->Nat->Bool)(h0:Heap) (N:Nat):Prop :=
 ∀ i j u v (s:Shared)(Q:Value->Shared->Prop)(E:Value->Shared->Prop),Kept h0 s.heap N->I i u->I j v->Q (.bool (bt i j)) s->wpAny (model P w) A (richCompare .Lt u v) Q E s
section
variable {P:Program}{w:World}{A:Around}{R:Result->Shared->Prop}{it S N:Addr}{fp wr:List Addr}{n:Nat}{V:Nat->Value->Prop}{St:Nat->Heap->Prop}{bt:Nat->Nat->Bool}{h0:Heap}
theorem b6a (W:Walks P w A.in1 it fp wr n V St)(C:d0i P w A.in1 V bt h0 N)(sf:S ∉ fp)(nw:∀ b∈wr,N<=b)(nS:N<=S) :
  ∀ (k j:Nat)(s:Shared)(best:Value) (c:Nat),n-(j+1)=k->j+1<=n->St (j+1) s.heap->V (argBest bt j) best->Kept h0 s.heap N->s.heap.get? S=some { cls:=.type "list",dict:=none,data:=.seq #[best,best] c,slots:=#[] } ->
  (∀ v h' tk,V (argBest bt (n-1)) v->(∀ b o,b ∉ wr->b≠S->s.heap.get? b=some o->h'.get? b=some o)->R (.ok (.ret v)) { s with heap:=h',toks:=tk })->codeAny (model P w) A (.builtin "min.loop" ⟨[.ref it,.none,.ref S],[]⟩) R s:=by
 have sw:S ∉ wr:=λh=>sf (W.sub _ h)
 have nm:(toString "min"++toString ".loop":String) = "min.loop":=by decide
 have low:∀ {b:Addr},b<N->b ∉ wr/\b≠S:=λ{b} hb=>⟨λz=>absurd (nw b z) (Nat.not_le.mpr hb),λz=>absurd nS (by rw[<- z];exact Nat.not_le.mpr hb)⟩
 intro k
 induction k with
 | zero =>
  intro j s best c hk hj hst hV kp hS hR
  have en:j+1=n:=by lia
  refine codeAny_builtin F.entry_min_loop ?_;rw[Around.under_plainId F.plain_min_loop _]
  show wpAny _ A.in1 (seqItems? (.ref S) >>= _) _ _ s;refine Γa (wpAny_seqItems hS rfl ?_)
  show wpAny _ A.in1 (tryCatch (pyNext (.ref it)) _ >>= _) _ _ s;refine Γa (wpAny_tryCatch (W.done s _ _ (en ▸ hst) λg tk kk=>?_))
  have S1:=kk S _ sw hS
  show wpAny _ A.in1 (updateSeq S (λ_=>#[]) >>= _) _ _ _;refine Γa (wpAny_updateSeq S1 rfl (Γa (wpAny_letGo (Γb ?_))))
  exact hR best _ tk (by rw[<- en];exact hV) λb o c1 c2 e=>(Γf _ _ (Ne.symm c2)).trans (kk b o c1 e)
 | succ k ih =>
  intro j s best c hk hj hst hV kp hS hR
  have lt:j+1<n:=by lia
  refine codeAny_builtin F.entry_min_loop ?_;rw[Around.under_plainId F.plain_min_loop _]
  show wpAny _ A.in1 (seqItems? (.ref S) >>= _) _ _ s;refine Γa (wpAny_seqItems hS rfl ?_)
  show wpAny _ A.in1 (tryCatch (pyNext (.ref it)) _ >>= _) _ _ s;refine Γa (wpAny_tryCatch (W.item (j+1) s _ _ lt hst λv g tk vP st1 kk=>?_))
  have S1:=kk S _ sw hS
  have kp1:Kept h0 g N:=λb o hb e=>kk b o (low hb).1 (kp b o hb e)
  show wpAny _ A.in1 (tryCatch (holding [v,v] (richCompare .Lt v best >>= _)) _ >>= _) _ _ _
  refine Γa (wpAny_tryCatch (Γg (Γa (C (j+1) (argBest bt j) v best _ _ _ kp1 vP hV (Γa (Γg (wpAny_truthy_bool (Γa (wpAny_letGo (Γb ?_))))))))))
  cases hb:bt (j+1) (argBest bt j) with
  | true =>
   simp only[if_true];refine Γa (wpAny_updateSeq S1 rfl (Γa (wpAny_letGo ?_)));rw[nm]
   refine Γb ⟨plainId_quiet F.plain_min_loop _,ih (j+1) _ v _ (by lia) lt (W.frame _ _ _ st1 λb bf o e=>(Γf _ _ (λh:S=b=>sf (by rw[h];exact bf))).trans e) (by simp only[argBest,hb,if_true];exact vP)
    (λb o l e=>(Γf _ _ (Ne.symm (low l).2)).trans (kp1 b o l e)) (Heap.get?_update_self _ S1 rfl) λv' g' tk' p' k'=>?_⟩
   exact hR v' g' tk' p' λb o c1 c2 e=>k' b o c1 c2 ((Γf _ _ (Ne.symm c2)).trans (kk b o c1 e))
  | false =>
   simp only[Γp,if_false];refine Γa (wpAny_letGo ?_);rw[nm]
   refine Γb ⟨plainId_quiet F.plain_min_loop _,ih (j+1) _ best c (by lia) lt st1 (by simp only[argBest,hb,Γp,if_false];exact hV) kp1 S1 λv' g' tk' p' k'=>?_⟩
   exact hR v' g' tk' p' λb o c1 c2 e=>k' b o c1 c2 (kk b o c1 e)
theorem b2s (W:Walks P w A.in1 it fp wr n V St)(C:d0i P w A.in1 V bt h0 N)(sf:S ∉ fp)(nw:∀ b∈wr,N<=b)(nS:N<=S)(hn:0<n){s:Shared}{c:Nat}(hst:St 0 s.heap)(kp:Kept h0 s.heap N)
  (hS:s.heap.get? S=some { cls:=.type "list",dict:=none,data:=.seq #[] c,slots:=#[] })
  (hR:∀ v h' tk,V (argBest bt (n-1)) v->(∀ b o,b ∉ wr->b≠S->s.heap.get? b=some o->h'.get? b=some o)->R (.ok (.ret v)) { s with heap:=h',toks:=tk }):codeAny (model P w) A (.builtin "min.loop" ⟨[.ref it,.none,.ref S],[]⟩) R s:=by
 have sw:S ∉ wr:=λh=>sf (W.sub _ h)
 have nm:(toString "min"++toString ".loop":String) = "min.loop":=by decide
 have low:∀ {b:Addr},b<N->b ∉ wr/\b≠S:=λ{b} hb=>⟨λz=>absurd (nw b z) (Nat.not_le.mpr hb),λz=>absurd nS (by rw[<- z];exact Nat.not_le.mpr hb)⟩
 refine codeAny_builtin F.entry_min_loop ?_;rw[Around.under_plainId F.plain_min_loop _]
 show wpAny _ A.in1 (seqItems? (.ref S) >>= _) _ _ s;refine Γa (wpAny_seqItems hS rfl ?_)
 show wpAny _ A.in1 (tryCatch (pyNext (.ref it)) _ >>= _) _ _ s;refine Γa (wpAny_tryCatch (W.item 0 s _ _ hn hst λv g tk vP st1 kk=>?_))
 have S1:=kk S _ sw hS
 show wpAny _ A.in1 (updateSeq S (λ_=>#[v,v]) >>= _) _ _ _;refine Γa (wpAny_updateSeq S1 rfl ?_);rw[nm]
 refine Γb ⟨plainId_quiet F.plain_min_loop _,b6a W C sf nw nS _ 0 _ v _ rfl hn (W.frame _ _ _ st1 λb bf o e=>(Γf _ _ (λh:S=b=>sf (by rw[h];exact bf))).trans e) vP
  (λb o l e=>(Γf _ _ (Ne.symm (low l).2)).trans (kk b o (low l).1 (kp b o l e))) (Heap.get?_update_self _ S1 rfl) λv' g' tk' p' k'=>?_⟩
 exact hR v' g' tk' p' λb o c1 c2 e=>k' b o c1 c2 ((Γf _ _ (Ne.symm c2)).trans (kk b o c1 e))
end
section
variable {P:Program}{w:World}{A:Around}{E:Value->Shared->Prop}{s:Shared}
theorem a8l {l:Addr}{xs:Array Value}{bt:Nat->Nat->Bool}{Q:Value->Shared->Prop}(hh:A.in1.handled=none)(hl:s.heap.IsList l xs)(hn:0<xs.size)(C:d0i P w A.in1 (λi v=>xs[i]?=some v) bt s.heap s.heap.objs.size)
  (K:∀ v h' tk,xs[argBest bt (xs.size-1)]?=some v->(∀ b o,s.heap.get? b=some o->h'.get? b=some o)->Q v { s with heap:=h',toks:=tk }):wpAny (model P w) A (call (.builtin "min") [.ref l]) Q E s:=by
 have nm:(toString "min"++toString ".loop":String) = "min.loop":=by decide
 have ll:l<s.heap.objs.size:=by obtain⟨_,e,_⟩:=hl;exact Γl e
 refine call_function_tree F.kind_min F.plain_min F.entry_min (F.args_min1 _) ?_
 show wpAny _ A.in1 (Builtin.Builtins.bindParams "min" ["key","default"] 0 ⟨[],[]⟩ >>= _) _ _ s
 refine Γa (wpAny_of_eq (show Builtin.Builtins.bindParams "min" ["key","default"] 0 ⟨[],[]⟩=pure [none,none] from rfl) (Γa (Γb (Γa (wpAny_pyIter_list hl ?_)))))
 have W:=Walks.list (prog:=P) (w:=w) hh s.heap.objs.size l (Γo ll) xs
 refine Γa (wpAny_newObj_type ?_)
 rw[nm]
 have z1:(s.heap.push { cls:=.type "list_iterator",data:=.fields #[.ref l,.int 0 0] }).objs.size=s.heap.objs.size+1:=Heap.size_push ..
 refine Γb ⟨plainId_quiet F.plain_min_loop _,b2s (S:=(s.heap.push { cls:=.type "list_iterator",data:=.fields #[.ref l,.int 0 0] }).objs.size) W C ?_ ?_ ?_ hn ⟨⟨_,Γc _ (Γm _ rfl),rfl,rfl⟩,(hl.push _).push _⟩
  (λb o hb e=>Γc _ (Γc _ e)) (Γm _ rfl) λv h' tk hv hk=>?_⟩
 ·rw[z1];intro z;simp only[List.mem_cons,List.not_mem_nil,or_false] at z;rcases z with z|z
  ·exact absurd z (Nat.ne_of_gt (Nat.lt_succ_self _))
  ·exact absurd z (Nat.ne_of_gt (Nat.lt_succ_of_lt ll))
 ·intro b hb;simp at hb;rw[hb];exact Γi _
 ·rw[z1];exact Nat.le_succ _
 ·refine K v h' tk hv λb o e=>hk b o (by simp;exact Γo (Γl e)) ?_ (Γc _ (Γc _ e))
  rw[z1];exact Γo (Nat.lt_succ_of_lt (Γl e))
end
end L2
end
section
namespace L2
open PySem PySem.Spec PyProof.Rows
section
variable {prog:Program}{w:World}{A:Around}{E:Value->Shared->Prop}{s:Shared}
end
section
variable {X:Cx}{a e k:Expr}{ta te tk:TE}{pos p2:Pos}
end
end L2
end
section
namespace L2
open PySem PySem.Spec PyProof.Rows
def a8j (cells:List (Str×Addr)):List (Str×NameKind)->List (Str×Addr)->List (Str×Addr)
 | [],acc=>acc
 | (n,k) :: r,acc=>if (k == NameKind.free)=true then a8j cells r ((n,(cells.lookup n).getD 0) :: acc) else a8j cells r acc
theorem b5a {env:Env}:∀ (names:List (Str×NameKind))(acc:List (Str×Addr)),(∀ p∈names,p.2=.free->∃ c,env.cells.lookup p.1=some c) ->
  (forIn names acc λ(x:Str×NameKind)(cs:List (Str×Addr))=>if (x.2 == NameKind.free)=true then cellOf env x.1 >>= λc=>pure (ForInStep.yield ((x.1,c) :: cs)) else pure (ForInStep.yield cs):Sem (List (Str×Addr)))=pure (a8j env.cells names acc)
 | [],acc,_=>rfl
 | (n,k) :: r,acc,h=>by
  have ih:=b5a (env:=env) r
  rw[List.forIn_cons]
  unfold a8j
  by_cases hk:(k == NameKind.free)=true
  ·obtain⟨c,hc⟩:=h (n,k) Γn (by simpa using hk)
   have hcell:cellOf env n=pure c:=by
    have hc':env.cells.lookup n=some c:=hc
    unfold cellOf;rw[hc']
   have hc':env.cells.lookup n=some c:=hc
   simp only[hk,if_true,hcell,hc',Option.getD_some,pure_bind]
   exact ih _ λp hp=>h p (Γh _ hp)
  ·simp only[hk,if_false,pure_bind,Γp]
   exact ih _ λp hp=>h p (Γh _ hp)
theorem a3x {scope:Scope}{env:Env}(h:∀ p∈scope.names,p.2=.free->∃ c,env.cells.lookup p.1=some c):closureFor scope env=pure (a8j env.cells scope.names []):=by
 have q:=b5a (env:=env) scope.names [] h
 unfold closureFor
 first
  | exact (by rw[q];rfl)
  | (simp only[bind_pure];exact q)
theorem a4e {cells:List (Str×Addr)}{x:Str}{c:Addr}:∀ (names:List (Str×NameKind))(acc:List (Str×Addr)),(∀ p∈names,p.2=.free->∃ c,cells.lookup p.1=some c)->(∀ y d,acc.lookup y=some d->cells.lookup y=some d) ->
  (a8j cells names acc).lookup x=some c->cells.lookup x=some c
 | [],acc,_,ha,h=>ha x c h
 | (n,k) :: r,acc,hn,ha,h=>by
  unfold a8j at h
  split at h
  ·rename_i hk
   refine a4e r _ (λp hp=>hn p (Γh _ hp)) (λy d hy=>?_) h
   rw[List.lookup_cons] at hy
   obtain⟨c',hc'⟩:=hn (n,k) Γn (by simpa using hk)
   have hc'':cells.lookup n=some c':=hc'
   split at hy
   ·rename_i hyn
    have e:y=n:=by simpa using hyn
    subst e
    rw[hc''] at hy ⊢
    exact hy
   ·exact ha y d hy
  ·exact a4e r _ (λp hp=>hn p (Γh _ hp)) ha h
theorem a9r {cells:List (Str×Addr)}{x:Str}:∀ (names:List (Str×NameKind))(acc:List (Str×Addr)),((x,NameKind.free)∈names ∨ ∃ c,acc.lookup x=some c)->∃ c,(a8j cells names acc).lookup x=some c
 | [],acc,h=>by
  rcases h with h|h
  ·simp at h
  ·exact h
 | (n,k) :: r,acc,h=>by
  unfold a8j
  split
  ·refine a9r r _ ?_
   by_cases hx:x=n
   ·subst hx
    exact .inr ⟨(cells.lookup x).getD 0,by rw[List.lookup_cons];simp⟩
   ·rcases h with h|⟨c,h⟩
    ·rcases List.mem_cons.mp h with h|h
     ·cases h;exact absurd rfl hx
     ·exact .inl h
    ·refine .inr ⟨c,?_⟩
     rw[List.lookup_cons]
     have:(x == n)=false:=by simpa using hx
     rw[this]
     exact h
  ·rename_i hk
   refine a9r r _ ?_
   rcases h with h|h
   ·rcases List.mem_cons.mp h with h|h
    ·cases h;simp at hk
    ·exact .inl h
   ·exact .inr h
theorem a3j {env : Env} {x : Str} : ∀ {names : List (Str × NameKind)},
    ((names.map λ(n,k)=>if (k == NameKind.free && env.scope.kind == .function && env.kindOf n == some .cell) then (n,NameKind.cell) else (n,k)).lookup x=some .cell ∨
     (names.map λ(n,k)=>if (k == NameKind.free && env.scope.kind == .function && env.kindOf n == some .cell) then (n,NameKind.cell) else (n,k)).lookup x=some .free)->names.lookup x=some .cell ∨ names.lookup x=some .free
  | [],h=>by rcases h with h|h<;>simp at h
  | (n,k) :: r,h=>by
    have ih:=@a3j env x r
    rw[List.map_cons] at h
    rw[List.lookup_cons]
    by_cases hk:(k == NameKind.free && env.scope.kind == .function && env.kindOf n == some .cell)=true
    · simp only[hk,if_true] at h
      cases hx:x == n with
      | true =>
        have : k = .free := by simp only [Bool.and_eq_true] at hk; simpa using hk.1.1
        exact .inr (by rw [this])
      | false =>
        simp only [List.lookup_cons, hx] at h
        exact ih h
    · simp only[hk,if_false,Γp] at h
      cases hx:x == n with
      | true=>simpa only[List.lookup_cons,hx] using h
      | false =>
        simp only [List.lookup_cons, hx] at h
        exact ih h
theorem a1f:∀ (names:List (Str×NameKind)) (b:Nat)(acc:List (Str×Addr)),cellsFrom b names acc=cellsFrom b names []++acc
 | [],_,_=>rfl
 | (n,k) :: r,b,acc=>by
  unfold cellsFrom
  split
  ·rw[a1f r _ ((n,b) :: acc),a1f r _ [(n,b)],List.append_assoc];rfl
  ·exact a1f r b acc
theorem a3t:∀ (names:List (Str×NameKind)) (b:Nat){x:Str}{c:Addr},(x,c)∈cellsFrom b names []->(x,NameKind.cell)∈names
 | [],_,_,_,h=>by simp[cellsFrom] at h
 | (n,k) :: r,b,x,c,h=>by
  unfold cellsFrom at h
  split at h
  ·rename_i hk
   rw[a1f] at h
   rcases List.mem_append.mp h with h|h
   ·exact Γh _ (a3t r _ h)
   ·simp at h
    have:k=.cell:=by simpa using hk
    rw[h.1,this];exact Γn
  ·exact Γh _ (a3t r _ h)
theorem a9c {x:Str}{c:Addr}:∀ {l l':List (Str×Addr)},(l++l').lookup x=some c->l.lookup x=some c ∨ (l.lookup x=none/\l'.lookup x=some c)
 | [],_,h=>.inr ⟨rfl,h⟩
 | (n,d) :: r,l',h=>by
  rw[List.cons_append,List.lookup_cons] at h
  rw[List.lookup_cons]
  cases hx:x == n with
  | true=>rw[hx] at h;exact .inl h
  | false=>rw[hx] at h;exact a9c h
theorem b9e {x:Str}:∀ {l l':List (Str×Addr)},((∃ c,l.lookup x=some c) ∨ ∃ c,l'.lookup x=some c)->∃ c,(l++l').lookup x=some c
 | [],_,h=>by
  rcases h with⟨c,h⟩|h
  ·cases h
  ·exact h
 | (n,d) :: r,l',h=>by
  rw[List.cons_append,List.lookup_cons]
  cases hx:x == n with
  | true=>exact⟨d,rfl⟩
  | false =>
   refine b9e ?_
   rcases h with⟨c,h⟩|h
   ·rw[List.lookup_cons,hx] at h;exact .inl ⟨c,h⟩
   ·exact .inr h
theorem a3m {M:Model}{A:Around}{E:Value->Shared->Prop}{s:Shared}{scope:Scope}{globals:Addr}{cl:List (Str×Addr)}{qual:Str}{env:Env}{Q:Env->Shared->Prop}
  (hQ:∀ h4:Heap,h4.Ns s.heap.objs.size (λ_=>none)->(∀ b o,s.heap.get? b=some o->h4.get? b=some o)->CellsOk h4 (s.heap.objs.size+1) (cellsFrom (s.heap.objs.size+1) scope.names []) ->
   Q (newEnv scope s.heap.objs.size globals (cellsFrom (s.heap.objs.size+1) scope.names cl) qual none .none (some env) builtinsNs) { s with heap:=h4,toks:=s.toks+([]:List (Str×Value)).length }) :
  wpAny M A (newFunctionEnv scope globals cl [] qual none .none (some env)) Q E s:=by
 simp only[newFunctionEnv,Option.isSome_some,if_true]
 refine Γa (wpAny_alloc ?_)
 refine Γa (wpAny_layCells _ (λname kind cells=>by cases hkc:kind == NameKind.cell<;>simp[hkc]) _ _ _ _ ?_)
 have ok:=cellsFrom_ok scope.names (s.heap.push { cls:=.type "dict",data:=.dict #[] }) (s.heap.objs.size+1) [] ⟨λ_ _ hm=>(nomatch hm),List.Pairwise.nil⟩ (by rw[Heap.size_push];exact Γi _)
 rw[Heap.size_push] at ok
 rw[show ({ s with heap:=s.heap.push { cls:=.type "dict",data:=.dict #[] } }:Shared).heap.objs.size=s.heap.objs.size+1 from Heap.size_push ..]
 simp only[List.forIn_nil]
 exact Γa (Γb (Γb (hQ _ ((Heap.Ns.new s.heap (.type "dict")).keeps (pushCells_keeps _ _)) (λb o e=>pushCells_keeps _ _ b o (Γc _ e)) ok)))
def d5o (x:Str):Str:=Γe "#"++x
def a9a (own:List Str)(x:Str):Str:=if own.contains x then d5o x else x
def cxC (X:Cx)(scope:Scope)(own:List Str)(fp:List Addr)(C:Addr)(s:Shared)(H:Hp):Cx :=
 { X with N:=X.N.map (a9a own)++own,s₀:=s,H₀:=H,env:=compEnvC scope (cellsFrom (C+1) scope.names (a8j X.env.cells scope.names [])) C X.env,outer:=X.stack,stack:=X.stack,ex:=fp,fn:=λx=>scope.names.lookup x == some .cell,pn:=[],xe:=λ_ _=>False }
structure CScope (X:Cx)(scope:Scope)(own:List Str):Prop where
 kind:scope.kind=.function
 nocell:∀ p∈scope.names,p.2=.cell->scope.names.lookup p.1=some .cell
 names:∀ p∈scope.names,p.2=.local->scope.names.lookup p.1=some .local
 free:∀ p∈scope.names,p.2=.free->X.env.kindOf p.1=some .cell ∨ X.env.kindOf p.1=some .free
 apart:∀ x∈X.N,own.contains x=false->scope.names.lookup x≠some .local/\scope.names.lookup x≠some .cell
 hid:∀ x∈X.N,own.contains x=true->scope.names.lookup (d5o x)=none
section
variable {X:Cx}
theorem a7y {names:List (Str×NameKind)}{x:Str}{k:NameKind}(h:names.lookup x=some k):(x,k)∈names:=PySem.mem_of_lookup h
theorem a4j {env:Env}{x:Str}:∀ {names:List (Str×NameKind)},
  (names.map λ(n,k)=>if (k == NameKind.free && env.scope.kind == .function && env.kindOf n == some .cell) then (n,NameKind.cell) else (n,k)).lookup x=some .local->names.lookup x=some .local
 | [],h=>by simp at h
 | (n,k) :: r,h=>by
  have ih:=@a4j env x r
  rw[List.map_cons] at h
  rw[List.lookup_cons]
  by_cases hk:(k == NameKind.free && env.scope.kind == .function && env.kindOf n == some .cell)=true
  ·simp only[hk,if_true] at h
   cases hx:x == n with
   | true=>simp[List.lookup_cons,hx] at h
   | false =>
    simp only[List.lookup_cons,hx] at h
    exact ih h
  ·simp only[hk,if_false,Γp] at h
   cases hx:x == n with
   | true=>simpa[List.lookup_cons,hx] using h
   | false =>
    simp only[List.lookup_cons,hx] at h
    exact ih h
theorem b0g {env:Env}{scope:Scope}{x:Str}(h:scope.names.lookup x=none):(relabel scope env).names.lookup x=none:=by
 unfold relabel
 simp only
 generalize scope.names=l at h
 induction l with
 | nil=>rfl
 | cons p r ih =>
  obtain⟨n,k⟩:=p
  rw[List.lookup_cons] at h
  cases e:(x == n) with
  | true=>rw[e] at h;cases h
  | false =>
   rw[e] at h
   rw[List.map_cons]
   split
   ·rw[List.lookup_cons,e];exact ih h
   ·rw[List.lookup_cons,e];exact ih h
theorem a9j {scope:Scope}{own:List Str}{fp:List Addr}{pins:List (Addr×Obj)}{σ:St}{H:Hp}{s:Shared}{h4:Heap}{t4:Nat}(I:Inv X pins σ H s)(SC:CScope X scope own)(hc:X.calm=true)
  (hf:∀ b∈fp,a9x X pins H b)(hfo:∀ b∈fp,∃ o,s.heap.get? b=some o)
  (hns:h4.Ns s.heap.objs.size (λ_=>none))(hk:∀ b o,s.heap.get? b=some o->h4.get? b=some o)(ok:CellsOk h4 (s.heap.objs.size+1) (cellsFrom (s.heap.objs.size+1) scope.names [])) :
  Inv (cxC X scope own fp s.heap.objs.size s H) [] (σ++Γj own.length none) H { s with heap:=h4,toks:=t4 }:=by
 have fr:∀ p∈scope.names,p.2=.free->∃ c,X.env.cells.lookup p.1=some c:=λp hp hq=>I.ok.has p.1 (SC.free p hp hq)
 have cl0:∀ {x:Str}{c:Addr},(a8j X.env.cells scope.names []).lookup x=some c->X.env.cells.lookup x=some c:=λh=>a4e scope.names [] fr (λy d hy=>by simp at hy) h
 have cl:∀ {x:Str}{c:Addr},(cellsFrom (s.heap.objs.size+1) scope.names (a8j X.env.cells scope.names [])).lookup x=some c->((x,c)∈cellsFrom (s.heap.objs.size+1) scope.names []/\s.heap.objs.size+1<=c) ∨ X.env.cells.lookup x=some c:=λh=>by
  rw[a1f] at h
  rcases a9c h with z|z
  ·exact .inl ⟨PySem.mem_of_lookup z,(ok.empty _ _ (PySem.mem_of_lookup z)).2⟩
  ·exact .inr (cl0 z.2)
 have hasC:∀ {x:Str},(scope.names.lookup x=some .cell ∨ scope.names.lookup x=some .free)->∃ c,(cellsFrom (s.heap.objs.size+1) scope.names (a8j X.env.cells scope.names [])).lookup x=some c:=λ{x} h=>by
  rw[a1f]
  refine b9e ?_
  rcases h with h|h
  ·exact .inl (Option.isSome_iff_exists.mp (PySem.W.cellsFrom_some _ _ _ (.inl h)))
  ·exact .inr (a9r scope.names [] (.inl (a7y h)))
 have clt:∀ {x:Str}{c:Addr},X.env.cells.lookup x=some c->c<s.heap.objs.size:=λh=>by obtain⟨v,q⟩:=I.cell _ _ h;exact q.lt
 refine⟨⟨I.ok.mod,SC.kind,I.ok.glob,I.ok.blt,Γi _,λx y c h1 h2=>?_,λx hx=>?_,λx c hf' h=>?_,λ_=>I.ok.hd hc,I.ok.frames,.inl rfl,λb hb=>?_,
   λb o e=>I.bs b o e,Nat.le_trans I.ok.bsz I.sz,λb o e hb=>?_,λb hb hz=>?_,I.stack,I.stkFree⟩,
  rfl,I.bare,Un.kept hk,⟨_,hns,λi x v e1 e2 e3=>?_⟩,λx c h=>?_,I.fresh,λx c h=>(cl h).elim (λz=>I.hok.fresh (by lia)) (I.freeC x c),λp hp=>absurd (show p∈([]:List (Addr×Obj)) from hp) (by simp),I.hok.kept hk,?_⟩
 ·rcases cl h1 with z1|z1<;>rcases cl h2 with z2|z2
  ·exact name_of_addr ok.apart z1.1 z2.1
  ·exact absurd (clt z2) (Nat.not_lt.mpr (Nat.le_of_succ_le z1.2))
  ·exact absurd (clt z1) (Nat.not_lt.mpr (Nat.le_of_succ_le z2.2))
  ·exact I.ok.inj x y c z1 z2
 ·have hx:(relabel scope X.env).names.lookup x=some .cell ∨ (relabel scope X.env).names.lookup x=some .free:=hx
  exact hasC (a3j hx)
 ·have hf':(scope.names.lookup x == some .cell)=true:=hf'
  have h:(cellsFrom (s.heap.objs.size+1) scope.names (a8j X.env.cells scope.names [])).lookup x=some c:=h
  obtain⟨c',hc'⟩:=Option.isSome_iff_exists.mp (PySem.W.cellsFrom_some scope.names (s.heap.objs.size+1) [] (.inl (by simpa using hf')))
  rw[a1f] at h
  rcases a9c h with z|z
  ·have:=(ok.empty _ _ (PySem.mem_of_lookup z)).2
   show s.heap.objs.size<=c
   lia
  ·rw[hc'] at z;cases z.1
 ·have hb:b∈fp:=hb
  obtain⟨o,ho⟩:=hfo b hb
  exact⟨Γo (Γl ho),λx c h=>(cl h).elim (λz e=>absurd (e ▸ Γl ho:c<s.heap.objs.size) (Nat.not_lt.mpr (Nat.le_of_succ_le z.2))) ((hf b hb).2.2.2.2.1 x c)⟩
 ·have hb:b∈fp:=hb
  have e:X.base.get? b=some o:=e
  rcases (hf b hb).2.2.2.1 with z|z
  ·exact I.ok.noex b o e z
  ·exact absurd (Nat.lt_of_lt_of_le (Γl e) (Nat.le_trans I.ok.bsz z)) (Nat.lt_irrefl _)
 ·have hb:b∈fp:=hb
  have hz:b∈frs X.stack:=hz
  rcases List.mem_cons.mp (I.stkSub b hz) with z|z
  ·exact (hf b hb).2.1 z
  ·exact (hf b hb).2.2.1 z
 ·have e1:(X.N.map (a9a own)++own)[i]?=some x:=e1
  have e3:Vis (relabel scope X.env) x:=e3
  have hi:i<σ.length:=by
   by_cases hi:i<σ.length
   ·exact hi
   ·rw[List.getElem?_append_right (by lia),List.getElem?_replicate] at e2
    split at e2<;>cases e2
  rw[List.getElem?_append_left hi] at e2
  rw[List.getElem?_append_left (by rw[List.length_map,<- I.len];exact hi),List.getElem?_map] at e1
  obtain⟨y,e1,ey⟩:=Option.map_eq_some_iff.mp e1
  have hny:own.contains y=false:=by
   cases hy:own.contains y with
   | false=>rfl
   | true =>
    exfalso
    have hh:=SC.hid y (List.mem_of_getElem? e1) hy
    have ex:x=d5o y:=by rw[<- ey];unfold a9a;rw[if_pos hy]
    rw[<- ex] at hh
    have e4:(relabel scope X.env).names.lookup x=none:=b0g hh
    rcases e3 with z|z|z<;>(rw[e4] at z;cases z)
  have ex:x=y:=by rw[<- ey];unfold a9a;rw[if_neg (by rw[hny];exact Γk)]
  rw[<- ex] at e1 hny
  have hnl:(relabel scope X.env).names.lookup x≠some .local:=λz=>(SC.apart x (List.mem_of_getElem? e1) hny).1 (a4j z)
  have hv:(relabel scope X.env).names.lookup x=some .cell ∨ (relabel scope X.env).names.lookup x=some .free:=by
   rcases e3 with z|z|z
   ·exact absurd z hnl
   ·exact .inl z
   ·exact .inr z
  have hfr:scope.names.lookup x=some .free:=(a3j hv).resolve_left (SC.apart x (List.mem_of_getElem? e1) hny).2
  have hm:=a7y hfr
  have hkx:=SC.free (x,.free) hm rfl
  obtain⟨m,hn,hl⟩:=I.loc
  have hkx':X.env.scope.names.lookup x=some .cell ∨ X.env.scope.names.lookup x=some .free:=hkx
  obtain⟨u,r,l⟩:=hl i x v e1 e2 (hkx'.elim (λz=>.inr (.inl z)) λz=>.inr (.inr z))
  refine⟨u,r,.inr ⟨hv,?_⟩⟩
  obtain⟨c,hcl⟩:=hasC (.inr hfr)
  refine⟨c,hcl,?_⟩
  rcases l with⟨z,_⟩|⟨z,c',hc',q⟩
  ·rcases hkx with y|y<;>(rw[z] at y;cases y)
  ·rcases cl hcl with y|y
   ·have:=SC.nocell _ (a3t _ _ y.1) rfl
    rw[hfr] at this;cases this
   ·rw[hc'] at y;cases y
    obtain⟨o,ho,hd⟩:=q
    exact⟨o,hk _ _ ho,hd⟩
 ·rcases cl h with z|z
  ·exact⟨_,(ok.empty _ _ z.1).1⟩
  obtain⟨v,o,ho,hd⟩:=I.cell x c z
  exact⟨v,o,hk _ _ ho,hd⟩
 ·show (σ++Γj own.length none).length=(X.N.map (a9a own)++own).length
  rw[List.length_append,List.length_append,List.length_map,List.length_replicate,I.len]
end
def a8o (ifs:List Expr)(env:Env):Sem Bool :=
 forIn ifs true λc r=>if r=true then do let ok <- isTrue c env (eval c env);pure (ForInStep.yield ok) else pure (ForInStep.yield r)
def PTs (X:Cx)(ifs:List Expr)(t:TT):Prop :=
 ∀ (pins:List (Addr×Obj))(s:Shared)(σ:St)(H:Hp)(Q:Bool->Hp->Prop),Inv X pins σ H s->t σ H Q->wpAny (model X.prog X.w) X.A (a8o ifs X.env) (TP X pins σ Q) X.xe s
section
variable {X:Cx}
def d6y:TT:=λ_ H Q=>Q true H
theorem c7c:PTs X [] d6y:=λ_ _ _ H _ I h=>Γb ⟨H,I,h⟩
end
section
variable {prog:Program}{w:World}{A:Around}{R:Result->Shared->Prop}{s:Shared}
theorem b6j {elt target iter:Expr}{ifs:List Expr}{scope:Scope}{pos:Pos}{it acc:Value}{env:Env}(I:Nat->Shared->Prop)
  (turn:∀ n s,I n s->wpAny (model prog w) A (pyNext it) (λr s1=>match r with
   | none=>R (.ok .next) s1
   | some v=>wpAny (model prog w) A (letOwnedTupleGo target it v) (λ_ s2=>wpAny (model prog w) A (assign target env v) (λ_ s3=>wpAny (model prog w) A (a8o ifs env) (λok s4 =>
     if ok=true then wpAny (model prog w) A (eval elt env) (λx s5=>wpAny (model prog w) A (call (.builtin "list.append") [acc,x]) (λ_ s6=>∃ m,m<n/\I m s6) (λ_ _=>False) s5) (λ_ _=>False) s4
     else ∃ m,m<n/\I m s4) (λ_ _=>False) s3) (λ_ _=>False) s2) (λ_ _=>False) s1) (λ_ _=>False) s)
  (n:Nat)(h:I n s):codeAny (model prog w) A (.compLoop (.ListComp elt [⟨target,iter,ifs,0⟩] scope pos) 0 it acc env) R s:=by
 refine codeAny_loop rfl I (λn s hI=>?_) n h
 show wpAny _ A ((compTurn (.ListComp elt [⟨target,iter,ifs,0⟩] scope pos) 0 it acc env).onRaise (λx=>do noteFrame x env;theTreesLotGoes x)) _ _ s
 refine wpAny_noted ?_
 rw[compTurn_list]
 have no:∀ (e:Value)(s':Shared),(λ(_:Value)(_:Shared)=>False) e s'->notedBy (model prog w) A env (λe s'=>R (.error e) s') e s':=λ_ _ z=>z.elim
 refine Γa (wpAny_standAt (Γa (wpAny_mono (turn n s hI) (λr s1 h1=>?_) no)))
 cases r with
 | none=>exact Γb h1
 | some v =>
  refine Γa (wpAny_mono h1 (λ_ s2 h2=>Γa (wpAny_mono h2 (λ_ s3 h3=>Γa (wpAny_mono h3 (λok s4 h4=>?_) no)) no)) no)
  cases ok with
  | true =>
   rw[if_pos rfl] at h4
   simp only[if_true]
   exact Γa (Γa (wpAny_mono h4 (λx s5 h5=>Γa (wpAny_mono h5 (λ_ s6 h6=>Γb (Γb ⟨rfl,h6⟩)) no)) no))
  | false =>
   rw[if_neg Γk] at h4
   simp only[Γp,if_false]
   first
    | exact Γb ⟨rfl,h4⟩
    | exact Γa (Γb (Γb ⟨rfl,h4⟩))
end
def Wk (σ σ2:St):Prop:=σ2.length=σ.length/\∀ (j:Nat)(v:V),σ[j]?=some (some v)->σ2[j]?=some (some v)
def c6i (wi:TI)(g:TG)(tt:TT)(te:TE) (own:Nat):TE:=λσ H Q=>wi σ H λJ H1=>∀ acc,H1 acc=none->∃ W:Nat->Nat->Hp->Prop,(∃ m,W 0 m (upd H1 acc (.lst [])))/\∀ i m H,W i m H ->
 (J.stop i H/\Q (.ref acc) H) ∨ (J.go i H/\∀ x H',J.yld i H x H'->g x (σ++Γj own none) H' λσ2 H2=>Wk (σ++Γj own none) σ2/\tt σ2 H2 λb H3 =>
  if b=true then te σ2 H3 λv H4=>∃ ys,H4 acc=some (.lst ys)/\ys.length<sizeLine/\∃ m',m'<m/\W (i+1) m' (upd H4 acc (.lst (ys++[v]))) else ∃ m',m'<m/\W (i+1) m' H3)
section
variable {X:Cx}{elt tg iter:Expr}{ifs:List Expr}{scope:Scope}{own:List Str}{pos:Pos}{wi:TI}{g:TG}{tt:TT}{te:TE}
theorem b4z {pins:List (Addr×Obj)}{σ:St}{H2:Hp}{s2:Shared}{Q:VK}{it:Addr}{fp:List Addr}{tn:Nat->Heap->Prop}{J:It}{RR:Value->Addr->Result->Shared->Prop}
  (hc:X.calm=true)(SC:CScope X scope own)
  (hblock:∀ C s H,PG (cxC X scope own fp C s H) tg g/\PTs (cxC X scope own fp C s H) ifs tt/\PE (cxC X scope own fp C s H) elt te)
  (I2:Inv X pins σ H2 s2)(T:Turn X.prog X.w X.K tg J fp it tn)(st2:tn 0 s2.heap)(f2:∀ b∈fp,a9x X pins H2 b)
  (h:∀ acc,H2 acc=none->∃ W:Nat->Nat->Hp->Prop,(∃ m,W 0 m (upd H2 acc (.lst [])))/\∀ i m H,W i m H ->
   (J.stop i H/\Q (.ref acc) H) ∨ (J.go i H/\∀ x H',J.yld i H x H'->g x (σ++Γj own.length none) H' λσ2 H2=>Wk (σ++Γj own.length none) σ2/\tt σ2 H2 λb H3 =>
    if b=true then te σ2 H3 λv H4=>∃ ys,H4 acc=some (.lst ys)/\ys.length<sizeLine/\∃ m',m'<m/\W (i+1) m' (upd H4 acc (.lst (ys++[v]))) else ∃ m',m'<m/\W (i+1) m' H3))
  (hRR:∀ acc C H' m s',Inv X pins σ H' s'->s'.heap.Ns C m->C≠X.env.locals->(∀ x c,X.env.cells.lookup x=some c->c≠C)->s2.heap.objs.size<=C->H' C=none->Q (.ref acc) H'->RR (.ref acc) C (.ok .next) s'){E:Value->Shared->Prop} :
  wpAny (model X.prog X.w) X.A (newList []) (λacc s3=>wpAny (model X.prog X.w) X.A (newFunctionEnv scope X.env.globals (a8j X.env.cells scope.names []) [] X.env.qual none .none (some X.env)) (λcenv s4 =>
   codeAny (model X.prog X.w) X.A (.compStart (.ListComp elt [⟨tg,iter,ifs,0⟩] scope pos) 0 (.ref it) acc { cenv with scope:=relabel scope X.env }) (RR acc cenv.locals) s4) E s3) E s2:=by
 have hacc:=I2.fresh
 have I3:Inv X pins σ (upd H2 s2.heap.objs.size (.lst [])) { s2 with heap:=s2.heap.push { cls:=.type "list",data:=.seq ([]:List Value).toArray },toks:=s2.toks }:=I2.lnew .nil (Nat.zero_le _)
 refine wpAny_newObj_type ?_
 obtain⟨W,⟨m0,w0⟩,turn⟩:=h _ hacc
 generalize hs3:({ s2 with heap:=s2.heap.push { cls:=.type "list",data:=.seq ([]:List Value).toArray },toks:=s2.toks }:Shared)=s3 at I3
 have keep23:∀ b o,s2.heap.get? b=some o->s3.heap.get? b=some o:=λb o e=>by rw[<- hs3];exact Γc _ e
 have hf3:∀ b∈fp,a9x X pins (upd H2 s2.heap.objs.size (.lst [])) b:=λb hb=>by
  obtain⟨o,ho,_⟩:=T.obj _ _ st2 b hb
  exact⟨by rw[a0g (Γo (Γl ho))];exact (f2 b hb).1,(f2 b hb).2⟩
 have st3:tn 0 s3.heap:=T.keep _ _ _ st2 λb hb o e=>keep23 b o e
 refine a3m λh4 hns' keep34 ok34=>?_
 have I4:=a9j (t4:=s3.toks+([]:List (Str×Value)).length) I3 SC hc hf3 (λb hb=>by obtain⟨o,ho,_⟩:=T.obj _ _ st3 b hb;exact⟨o,ho⟩) hns' keep34 ok34
 have st4:tn 0 h4:=T.keep _ _ _ st3 λb hb o e=>keep34 b o e
 obtain⟨hg,ht,he⟩:=hblock s3.heap.objs.size s3 (upd H2 s2.heap.objs.size (.lst []))
 have e5:(cxC X scope own fp s3.heap.objs.size s3 (upd H2 s2.heap.objs.size (.lst []))).env=compEnvC scope (cellsFrom (s3.heap.objs.size+1) scope.names (a8j X.env.cells scope.names [])) s3.heap.objs.size X.env:=rfl
 generalize hY:cxC X scope own fp s3.heap.objs.size s3 (upd H2 s2.heap.objs.size (.lst []))=Y at hg ht he I4 e5
 have fpY:∀ {H':Hp},(∀ b∈fp,H' b=none)->∀ b∈fp,a9x Y [] H' b:=λhn b hb=>by
  obtain⟨o,ho,_⟩:=T.obj _ _ st3 b hb
  refine⟨hn b hb,?_,?_,?_,?_,?_⟩
  ·rw[<- hY];exact Γo (Γl ho)
  ·have:=I4.ok.exfs b (by rw[<- hY];exact hb)
   exact this
  ·exact .inl (by rw[<- hY];exact hb)
  ·exact λx c h=>(I4.ok.exf b (by rw[<- hY];exact hb)).2 x c h
  ·intro p hp;rw[<- hY] at hp;exact absurd (show p∈([]:List (Addr×Obj)) from hp) (by simp)
 have hYp:Y.prog=X.prog/\Y.w=X.w/\Y.K=X.K/\Y.calm=true/\Y.A=X.A/\Y.xe=(λ_ _=>False)/\Y.s₀=s3/\Y.H₀=upd H2 s2.heap.objs.size (.lst [])/\Y.outer=X.stack/\Y.ex=fp:=by rw[<- hY];exact⟨rfl,rfl,rfl,hc,rfl,rfl,rfl,rfl,rfl,rfl⟩
 obtain⟨y1,y2,y3,y4,y5,y6,y7,y8,y9,y10⟩:=hYp
 have loop:∀ s5:Shared,s5 = { s3 with heap:=h4,toks:=s3.toks+([]:List (Str×Value)).length } ->
   codeAny (model X.prog X.w) X.A (.compLoop (.ListComp elt [⟨tg,iter,ifs,0⟩] scope pos) 0 (.ref it) (.ref s2.heap.objs.size) Y.env) (RR (.ref s2.heap.objs.size) s3.heap.objs.size) s5:=by
  rintro s5 rfl
  refine b6j (λn s'=>∃ i H',Inv Y [] (σ++Γj own.length none) H' s'/\tn i s'.heap/\(∀ b∈fp,H' b=none)/\W i n H') ?_ m0 ⟨0,_,I4,st4,λb hb=>(hf3 b hb).1,w0⟩
  rintro n s6 ⟨i,H6,I6,st6,fr6,w6⟩
  rcases turn i n H6 w6 with⟨stop,q⟩|⟨go,step⟩
  ·have d:=T.done Y y1 y2 y3 y4 i [] s6 _ H6 (λ_ _=>False) I6 (fpY fr6) st6 stop
   rw[y5] at d
   refine thn d λr s7 ⟨hr,I7⟩=>?_
   subst hr
   obtain⟨m,hn,_⟩:=I7.loc
   have hL:Y.env.locals=s3.heap.objs.size:=by rw[e5];rfl
   rw[hL] at hn
   have b7:=I7.base
   rw[y7,y8,y10] at b7
   have b7':Un (frs X.stack) fp (upd H2 s2.heap.objs.size (.lst [])) H6 s3.heap s7.heap:=by
    have z:Y.fs=frs X.stack:=by show frs Y.outer=_;rw[y9]
    rw[z] at b7
    exact b7
   have hok7:=I7.hok
   rw[y1,y2] at hok7
   have os7:=I7.os
   rw[y7] at os7
   have I8:Inv X pins σ H6 s7:=I3.call' os7 b7' hok7 I7.bare λb hb=>⟨(hf3 b hb).2.2.2.1,(hf3 b hb).2.1,(hf3 b hb).2.2.2.2.1,(hf3 b hb).2.2.2.2.2⟩
   have hfree:=I7.free
   rw[hL] at hfree
   refine hRR _ _ H6 m s7 I8 hn (Nat.ne_of_gt I3.lt) (λx c h z=>?_) ?_ hfree q
   ·obtain⟨v,y⟩:=I3.cell x c h
    exact absurd y.lt (by rw[z];exact Nat.lt_irrefl _)
   ·rw[<- hs3,Heap.size_push];exact Nat.le_succ _
  ·have d:=T.item Y y1 y2 y3 y4 i [] s6 _ H6 (λ_ _=>False) I6 (fpY fr6) st6 go
   rw[y5] at d
   refine thn d λr s7 ⟨u,hr,h7⟩=>?_
   subst hr
   refine thn h7 λ_ s8 ⟨x,H8,I8,r8,y8',st8,fr8⟩=>?_
   have I8':=I8.pinned (fpY fr8) (T.obj _ _ st8)
   have pinK:∀ {σ':St}{H':Hp}{s':Shared},Inv Y ([]++a4k fp s8.heap) σ' H' s'->tn (i+1) s'.heap/\∀ b∈fp,H' b=none:=λ{σ' H' s'} I' =>
    ⟨T.keep _ _ _ st8 λb hb o e=>(I'.pin (b,o) (List.mem_append_right _ (List.mem_append_right _ (a1h hb e)))).1,λb hb=>by
     obtain⟨o,e,_⟩:=T.obj _ _ st8 b hb
     exact (I'.pin (b,o) (List.mem_append_right _ (List.mem_append_right _ (a1h hb e)))).2.1⟩
   have dg:=hg _ s8 _ H8 x u _ I8' r8 (step x H8 y8')
   rw[y1,y2,y5,y6] at dg
   refine thn dg λ_ s9 ⟨σ9,H9,I9,wk,q9⟩=>?_
   have dt:=ht _ s9 σ9 H9 _ I9 q9
   rw[y1,y2,y5,y6] at dt
   refine thn dt λok s10 ⟨H10,I10,q10⟩=>?_
   cases ok with
   | true =>
    rw[if_pos rfl] at q10 ⊢
    have de:=he _ s10 σ9 H10 _ I10 q10
    rw[y1,y2,y5,y6] at de
    refine thn de λy s11 ⟨v11,H11,I11,r11,ys,hys,hz,m',hm,w11⟩=>?_
    have da:=b0q (X:=Y) _ s11 σ9 H11 (.ref s2.heap.objs.size) [v11] (.ref s2.heap.objs.size) [y] (λ_ H'=>H'=upd H11 s2.heap.objs.size (.lst (ys++[v11]))) I11 rfl (.cons r11 .nil) ⟨_,ys,v11,rfl,rfl,hys,hz,rfl⟩
    rw[y1,y2,y5,y6] at da
    refine thn da λ_ s12 ⟨v12,H12,I12,r12,e12⟩=>?_
    subst e12
    obtain⟨t12,f12⟩:=pinK I12
    exact⟨m',hm,i+1,_,(I12.unpinned).weak wk.1.symm wk.2,t12,f12,w11⟩
   | false =>
    rw[if_neg Γk] at q10 ⊢
    obtain⟨m',hm,w10⟩:=q10
    obtain⟨t10,f10⟩:=pinK I10
    exact⟨m',hm,i+1,_,(I10.unpinned).weak wk.1.symm wk.2,t10,f10,w10⟩
 rw[e5] at loop
 exact codeAny_compStart_list (loop _ rfl) (T.self _ 0 _ _ _ st4 (loop _ rfl))
theorem b8t (hc:X.calm=true)(SC:CScope X scope own)(hi:PI X.nox tg iter wi)
  (hblock:∀ fp C s H,PG (cxC X scope own fp C s H) tg g/\PTs (cxC X scope own fp C s H) ifs tt/\PE (cxC X scope own fp C s H) elt te)
  (hs:∀ x,foldedSetIterable iter X.env x=pure x:=by intro _;rfl) :
  PE X.nox (.ListComp elt [⟨tg,iter,ifs,0⟩] scope pos) (c6i wi g tt te own.length):=by
 intro pins s σ H Q I h
 have fr:∀ p∈scope.names,p.2=.free->∃ c,X.env.cells.lookup p.1=some c:=λp hp hq=>I.ok.has p.1 (SC.free p hp hq)
 rw[eval_ListComp]
 refine wpAny_comprehension_free (use:=none) rfl hs (a3x fr) SC.kind SC.names (thn (hi pins s σ H _ I h) λv s1 h1=>thn h1 λitv s2 h2=>?_)
 obtain⟨it,fp,tn,J,H2,e,I2,T,st2,f2,h2⟩:=h2
 subst e
 refine b4z (X:=X.nox) (own:=own) (RR:=λacc C=>compPost (model X.prog X.w) X.A (λ_ _=>False) none (EP X.nox pins σ Q) acc C) hc ⟨SC.kind,SC.nocell,SC.names,SC.free,SC.apart,SC.hid⟩ (λC s H=>hblock fp C s H) I2 T st2 f2 h2 ?_
 intro acc C H' m s' I' hn hL hcl hC hH q
 obtain⟨f0,f1,f2',f3,f4,f5⟩:=I2.fpOk hC hH
 refine⟨m,hn,λh' hsb=>⟨.ref acc,H',?_,rfl,q⟩⟩
 exact I'.turned (t':=s'.toks) (λb o hb e=>(hsb.2 b hb).trans e) f0 f1 f3 f4 f5
theorem b5t {i:Nat}{x:Str}{px:Pos}{spos:Pos}(hc:X.calm=true)(SC:CScope X scope own)(hN:X.N.Nodup)(hx:X.N[i]?=some x)(hl:X.env.scope.names.lookup x=some .local)(hi:PI X.nox tg iter wi)
  (hblock:∀ fp C s H,PG (cxC X scope own fp C s H) tg g/\PTs (cxC X scope own fp C s H) ifs tt/\PE (cxC X scope own fp C s H) elt te)
  (hsw:swapsWith (.ListComp elt [⟨tg,iter,ifs,0⟩] scope pos) (some (.Name x px)) spos.line X.env=pure true)
  (hs:∀ x,foldedSetIterable iter X.env x=pure x:=by intro _;rfl) :
  PS X.nox (.Assign [.Name x px] (.ListComp elt [⟨tg,iter,ifs,0⟩] scope pos) spos) (c4w (c6i wi g tt te own.length) (a6r i)):=by
 intro pins s σ H D I h
 have fr:∀ p∈scope.names,p.2=.free->∃ c,X.env.cells.lookup p.1=some c:=λp hp hq=>I.ok.has p.1 (SC.free p hp hq)
 show wpAny (model X.prog X.w) X.A (exec _ X.env) _ _ s
 rw[exec_Assign_Name_used _ _ _ _ hsw]
 refine Γa (wpAny_standAt (Γa ?_))
 show wpAny _ X.A (do let _ <- comprehension (.ListComp elt [⟨tg,iter,ifs,0⟩] scope pos) scope X.env _ (newList []) false (eval iter X.env) (some (assign (.Name x px) X.env))) _ _ s
 refine Γa (wpAny_mono (wpAny_comprehension_free (use:=some (assign (.Name x px) X.env)) (Q:=λ_ s'=>SP X.nox pins D .next s') rfl hs (a3x fr) SC.kind SC.names
  (thn (hi pins s σ H _ I h) λv s1 h1=>thn h1 λitv s2 h2=>?_)) (λ_ s' hq=>Γb (Γb hq)) λ_ _ e=>e)
 obtain⟨it,fp,tn,J,H2,e,I2,T,st2,f2,h2⟩:=h2
 subst e
 refine b4z (X:=X.nox) (own:=own) (Q:=λv H1=>a6r i v σ H1 D.nx) (RR:=λacc C=>compPost (model X.prog X.w) X.A (λ_ _=>False) (some (assign (.Name x px) X.env)) (λ_ s'=>SP X.nox pins D .next s') acc C) hc ⟨SC.kind,SC.nocell,SC.names,SC.free,SC.apart,SC.hid⟩ (λC s H=>hblock fp C s H) I2 T st2 f2 h2 ?_
 intro acc C H' m s' I' hn hL hcl hC hH q
 obtain⟨f0,f1,f2',f3,f4,f5⟩:=I2.fpOk hC hH
 show wpAny (model X.prog X.w) X.A (assign (.Name x px) X.env (.ref acc)) _ _ s'
 refine wpAny_assign_Name (b0b (X:=X.nox) I' hN hx (.inl hl) (v:=.ref acc) rfl (λs'' I'' hch=>?_) (.inr hl))
 obtain⟨a,hsa,ha⟩:=hch
 have hCa:C≠a:=by
  rcases ha with z|z
  ·rw[z];exact hL
  ·exact λy=>hcl x a z y.symm
 refine⟨m,hn.sameBut hsa hCa,λh' hsb=>?_⟩
 exact⟨_,H',I''.turned (t':=s''.toks) (λb o hb e=>(hsb.2 b hb).trans e) f0 f1 f3 f4 f5,q⟩
end
end L2
end
section
namespace L2
open PySem PySem.Spec PyProof.Rows
section
variable {X:Cx}{pins:List (Addr×Obj)}{σ:St}{H:Hp}{s:Shared}{h':Heap}
theorem Inv.turnedNew {t':Nat}{ch:List Addr}{p:Addr}{o:HO}(I:Inv X pins σ H s)(hp:s.heap.objs.size<=p)(k:∀ b ob,b ∉ ch->s.heap.get? b=some ob->h'.get? b=some ob)(hf:∀ b∈ch,a9x X pins H b)
  (new:ObjOk X.prog X.w (upd H p o) h' p o):Inv X pins σ (upd H p o) { s with heap:=h',toks:=t' }:=by
 have hn:H p=none:=I.hok.fresh hp
 have nit:∀ b u,H b=some u->b ∉ ch:=λb u e z=>by rw[(hf b z).1] at e;cases e
 have nep:∀ {b ob},s.heap.get? b=some ob->b≠p:=λe=>Γo (Nat.lt_of_lt_of_le (Γl e) hp)
 refine I.step (g':=s.gens) (d':=s.drawn) (ch:=ch) (λb hb=>⟨(hf b hb).2.2.2.1,(hf b hb).2.1,(hf b hb).2.2.2.2.1,(hf b hb).2.2.2.2.2⟩) (λb ob _ _ hc e _=>k b ob hc e) (λb ob _ _ hc e _=>⟨ob.slots,k b ob hc e⟩)
  (λb ob hc e n=>by rw[a0g (nep e)];exact n) (λb ob hc e=>⟨ob,k b ob hc e⟩) (λb xs e=>by rw[a0g (a1a e hn)];exact e) (λb u xs e=>by rw[a0g (a1a e hn)];exact e)
  (λb ps e=>⟨#[],by rw[a0g (a1a e hn),e];simp⟩) (λm hm=>?_) (λb u e=>?_) I.bare
 ·obtain⟨ob,es,ep,ho,r⟩:=hm
  exact⟨ob,es,ep,k _ ob (λz=>(hf _ z).2.1 rfl) ho,r⟩
 ·by_cases hb:b=p
  ·subst hb;rw[a0h] at e;cases e;exact new
  ·rw[a0g hb] at e
   refine (I.hok b u e).stay (λc v hc q=>k c v ?_ q) (λc q=>by rw[a0g (a1a q hn)];exact q) λc xs q=>by rw[a0g (a1a q hn)];exact q
   rcases hc with z|z
   ·rw[z];exact nit b u e
   ·exact nit c _ z
theorem Inv.turnedL {t':Nat}{ch:List Addr}(I:Inv X pins σ H s)(k:∀ b ob,b ∉ ch->s.heap.get? b=some ob->h'.get? b=some ob)(hf:∀ b∈ch,a9x X pins H b):Inv X pins σ H { s with heap:=h',toks:=t' }:=by
 have nit:∀ b u,H b=some u->b ∉ ch:=λb u e z=>by rw[(hf b z).1] at e;cases e
 refine I.step (g':=s.gens) (d':=s.drawn) (ch:=ch) (λb hb=>⟨(hf b hb).2.2.2.1,(hf b hb).2.1,(hf b hb).2.2.2.2.1,(hf b hb).2.2.2.2.2⟩) (λb ob _ _ hc e _=>k b ob hc e) (λb ob _ _ hc e _=>⟨ob.slots,k b ob hc e⟩)
  (λ_ _ _ _ n=>n) (λb ob hc e=>⟨ob,k b ob hc e⟩) (λ_ _ e=>e) (λ_ _ _ e=>e) (λb ps e=>⟨#[],by rw[e];simp⟩) (λm hm=>?_) (λb u e=>?_) I.bare
 ·obtain⟨ob,es,ep,ho,r⟩:=hm
  exact⟨ob,es,ep,k _ ob (λz=>(hf _ z).2.1 rfl) ho,r⟩
 ·refine (I.hok b u e).stay (λc v hc q=>k c v ?_ q) (λ_ q=>q) λ_ _ q=>q
  rcases hc with z|z
  ·rw[z];exact nit b u e
  ·exact nit c _ z
end
end L2
end
section
namespace L2
open PySem PySem.Spec PyProof.Rows
def SeqB (b:Bool)(h:Heap)(l:Addr)(xs:Array Value):Prop:=match b with|true=>h.IsList l xs|false=>h.IsTuple l xs
def IterB (b:Bool)(h:Heap)(it l:Addr) (i:Nat):Prop:=match b with|true=>h.IsListIter it l i|false=>h.IsTupleIter it l i
def a9h (b:Bool):String:=match b with|true=>"list_iterator" | false=>"tuple_iterator"
section
variable {b:Bool}{h h':Heap}{it l c:Addr}{i:Nat}{xs:Array Value}
theorem SeqB.move (x:SeqB b h l xs)(e:Heap.ExtBut c h h')(n:l≠c):SeqB b h' l xs:=by
 cases b
 ·exact Heap.IsTuple.extBut x e n
 ·exact Heap.IsList.extBut x e n
theorem SeqB.push {o:Obj}(x:SeqB b h l xs):SeqB b (h.push o) l xs:=by
 cases b
 ·exact Heap.IsTuple.push x o
 ·exact Heap.IsList.push x o
theorem SeqB.lt (x:SeqB b h l xs):l<h.objs.size:=by
 cases b<;>(obtain⟨_,e,_⟩:=x;exact Γl e)
theorem IterB.move (x:IterB b h it l i)(e:Heap.ExtBut c h h')(n:it≠c):IterB b h' it l i:=by
 cases b
 ·exact Heap.IsTupleIter.extBut x e n
 ·exact Heap.IsListIter.extBut x e n
theorem IterB.to (x:IterB b h it l i)(k:∀ o,h.get? it=some o->h'.get? it=some o):IterB b h' it l i:=by
 cases b<;>(obtain⟨o,e,r⟩:=x;exact⟨o,k o e,r⟩)
theorem IterB.obj (x:IterB b h it l i):∃ o,h.get? it=some o/\∀ v,o.data≠.cell v:=by
 cases b<;>(obtain⟨o,e,_,d⟩:=x;exact⟨o,e,λv z=>by rw[d] at z;cases z⟩)
theorem IterB.lt (x:IterB b h it l i):it<h.objs.size:=let ⟨_,e,_⟩:=x.obj;Γl e
end
section
variable {P:Program}{w:World}{A:Around}{E:Value->Shared->Prop}{s:Shared}{b:Bool}{it l:Addr}{i:Nat}{xs:Array Value}{Q:Value->Shared->Prop}
theorem b9o (x:SeqB b s.heap l xs)(q:Q (.ref s.heap.objs.size) { s with heap:=s.heap.push { cls:=.type (a9h b),data:=.fields #[.ref l,.int 0 0] } }):wpAny (model P w) A (pyIter (.ref l)) Q E s:=by
 cases b
 ·exact wpAny_pyIter_tuple x q
 ·exact wpAny_pyIter_list x q
theorem d9c {x:Value}(hi:s.heap.IsTupleIter it l i)(hl:s.heap.IsTuple l xs)(hx:xs[i]?=some x)(q:∀ h',h'.IsTupleIter it l (i+1)->Heap.SameBut it s.heap h'->Q x { s with heap:=h' }):wpAny (model P w) A (Builtin.SmallTypes.nextOf (.ref it)) Q E s:=by
 obtain⟨oi,ei,ci,di⟩:=id hi
 obtain⟨os,es,_,ns,ds⟩:=hl
 unfold Builtin.SmallTypes.nextOf
 refine Γa (wpAny_callSpecial?_slot (name:=Γe "__next__") hi.typeIs F.slot_tuple_iterator_next (wpAny_call_entry F.slot_tuple_iterator_next hi.typeIs F.entry_tuple_iterator_next ?_ (F.args_tuple_iterator_next_1 _)))
 show wpAny _ _ (field (.ref it) 0 >>= _) _ _ s;refine Γa (wpAny_field ei di (x:=.ref l) rfl ?_)
 show wpAny _ _ (if (Value.ref l == Value.none)=true then _ else _) _ _ s;rw[if_neg (show ¬ ((Value.ref l == Value.none)=true) from Γk)]
 show wpAny _ _ (field (.ref it) 1 >>= _) _ _ s;refine Γa (wpAny_field ei di (x:=.int i 0) rfl ?_)
 show wpAny _ _ (seqItems? (.ref l) >>= _) _ _ s;refine Γa (wpAny_seqItems es ds ?_)
 simp only[Int.toNat_natCast,hx]
 refine Γa (wpAny_setField ei di (by simp) (Γb ⟨x,rfl,Γb (q _ ⟨_,Heap.get?_update_self _ ei (Obj.isFreed_of_fields (Obj.data_mapFields di _)),(Obj.cls_mapFields ..).trans ci,?_⟩ (Heap.SameBut.update ..))⟩))
 rw[Obj.data_mapFields di];simp[rawInt]
theorem d7k (hh:A.handled=none)(hi:s.heap.IsTupleIter it l i)(hl:s.heap.IsTuple l xs)(hx:xs[i]?=none)
  (q:∀ h' e,Heap.ExtBut it s.heap h'->(∃ o,h'.get? e=some o/\o.cls=.type "StopIteration")->E (.ref e) { s with heap:=h' }):wpAny (model P w) A (Builtin.SmallTypes.nextOf (.ref it)) Q E s:=by
 obtain⟨oi,ei,ci,di⟩:=id hi
 obtain⟨os,es,_,ns,ds⟩:=hl
 unfold Builtin.SmallTypes.nextOf
 refine Γa (wpAny_callSpecial?_slot (name:=Γe "__next__") hi.typeIs F.slot_tuple_iterator_next (wpAny_call_entry F.slot_tuple_iterator_next hi.typeIs F.entry_tuple_iterator_next ?_ (F.args_tuple_iterator_next_1 _)))
 show wpAny _ _ (field (.ref it) 0 >>= _) _ _ s;refine Γa (wpAny_field ei di (x:=.ref l) rfl ?_)
 show wpAny _ _ (if (Value.ref l == Value.none)=true then _ else _) _ _ s;rw[if_neg (show ¬ ((Value.ref l == Value.none)=true) from Γk)]
 show wpAny _ _ (field (.ref it) 1 >>= _) _ _ s;refine Γa (wpAny_field ei di (x:=.int i 0) rfl ?_)
 show wpAny _ _ (seqItems? (.ref l) >>= _) _ _ s;refine Γa (wpAny_seqItems es ds ?_)
 simp only[Int.toNat_natCast,hx]
 refine Γa (wpAny_rule (Γa (wpAny_setField ei di (by simp) ?_)));show wpAny _ _ (newExc (.type "StopIteration") [] >>= _) _ _ _
 refine Γa ?_;simp only[newExc,newTuple]
 refine Γa (wpAny_newObj_type ?_ (by size_fits));refine Γa (m:=firstArgMember _ _) (wpAny_of_eq (a:=Value.none) (by first|rfl|(simp only[firstArgMember];rfl)) ?_)
 refine wpAny_newObj_type ?_ (by size_fits);simp only[raiseNew];refine Γa (wpAny_handled ?_)
 first|rw[show A.in1.handled=none from hh]|rw[hh]
 exact Γa (Γb (wpAny_throw (q _ _ (((Heap.SameBut.update ..).extBut.push _).push _) ⟨_,Γm _ rfl,rfl⟩)))
theorem c3c {x:Value}(hi:IterB b s.heap it l i)(hl:SeqB b s.heap l xs)(hx:xs[i]?=some x)(q:∀ h',IterB b h' it l (i+1)->Heap.SameBut it s.heap h'->Q x { s with heap:=h' }):wpAny (model P w) A (Builtin.SmallTypes.nextOf (.ref it)) Q E s:=by
 cases b
 ·exact d9c hi hl hx q
 ·exact wpAny_nextOf_list_item hi hl hx q
theorem c6o (hh:A.handled=none)(hi:IterB b s.heap it l i)(hl:SeqB b s.heap l xs)(hx:xs[i]?=none)
  (q:∀ h' e,Heap.ExtBut it s.heap h'->(∃ o,h'.get? e=some o/\o.cls=.type "StopIteration")->E (.ref e) { s with heap:=h' }):wpAny (model P w) A (Builtin.SmallTypes.nextOf (.ref it)) Q E s:=by
 cases b
 ·exact d7k hh hi hl hx q
 ·exact wpAny_nextOf_list_end hh hi hl hx q
end
section
variable {P:Program}{w:World}{A:Around}{E:Value->Shared->Prop}{s:Shared}{p q:Bool}{z TI TO i1 i2 l1 l2:Addr}{k1 k2:Nat}{xs ys:Array Value}{x y a b:Value}
theorem b7c {Q:Value->Shared->Prop}(D:ZipApart z TI TO i1 i2 l1 l2)(zz:IsZip s.heap z TI TO .none)(zi:IsPair s.heap TI (.ref i1) (.ref i2))(zo:IsPair s.heap TO a b)
  (t1:IterB p s.heap i1 l1 k1)(t2:IterB q s.heap i2 l2 k2)(m1:SeqB p s.heap l1 xs)(m2:SeqB q s.heap l2 ys)(ex:xs[k1]?=some x)(ey:ys[k2]?=some y)
  (K:∀ h',IsZip h' z TI TO (rawInt s.heap.objs.size)->IsPair h' TO x y->IterB p h' i1 l1 (k1+1)->IterB q h' i2 l2 (k2+1)->IsPair h' s.heap.objs.size x y ->
   (∀ c o,c≠z->c≠TO->c≠i1->c≠i2->s.heap.get? c=some o->h'.get? c=some o)->Q (.ref s.heap.objs.size) { s with heap:=h' }) :
  wpAny (model P w) A (Builtin.«zip.__next__» ⟨[.ref z],[]⟩) (λfin s'=>∃ v,fin=.done (.ret v)/\Q v s') E s:=by
 show wpAny _ _ (field (.ref z) 2 >>= _) _ _ _;refine Γa (wpAny_field zz rfl (x:=.bool false) rfl ?_)
 show wpAny _ _ (field (.ref z) 3 >>= _) _ _ _;refine Γa (wpAny_field zz rfl (x:=.ref TI) rfl (Γa (wpAny_seqItems zi rfl ?_)))
 show wpAny _ _ (Builtin.SmallTypes.ownedTupleIsFree (.ref z) >>= _) _ _ _;refine Γa ?_;unfold Builtin.SmallTypes.ownedTupleIsFree
 refine Γa (wpAny_field zz rfl (x:=.none) rfl (Γb ?_));simp only[if_true]
 refine Γa (wpAny_rule (Γa (wpAny_field zz rfl (x:=.ref TO) rfl (Γa (wpAny_setField_rec zz (by simp) λg1 z1 b1=>?_)))))
 replace z1:IsZip g1 z TI TO .ellipsis:=z1
 refine Γa ?_;simp only[List.zipIdx_cons,List.zipIdx_nil,List.forIn_cons,List.forIn_nil]
 refine Γa (Γa (wpAny_onRaise ?_));show wpAny _ _ (Builtin.SmallTypes.nextOf (.ref i1) >>= _) _ _ _
 refine Γa (c3c (t1.move b1.extBut D.i1z) (m1.move b1.extBut D.l1z) ex λg2 t12 b2=>Γb ?_)
 have o2:IsPair g2 TO a b:=b2.extBut _ _ D.TOi1 (b1.extBut _ _ D.TOz zo)
 refine Γa (wpAny_seqItems o2 rfl (Γa (wpAny_updateSeq_pair o2 λg3 o3 b3=>?_)))
 replace o3:IsPair g3 TO x b:=o3
 refine Γa (wpAny_letGo (Γb (Γa (Γa (wpAny_onRaise ?_)))));show wpAny _ _ (Builtin.SmallTypes.nextOf (.ref i2) >>= _) _ _ _
 refine Γa (c3c (((t2.move b1.extBut D.i2z).move b2.extBut D.i12.symm).move b3.extBut D.TOi2.symm) (((m2.move b1.extBut D.l2z).move b2.extBut D.l2i1).move b3.extBut D.l2TO) ey λg4 t24 b4=>Γb ?_)
 have o4:IsPair g4 TO x b:=b4.extBut _ _ D.TOi2 o3
 refine Γa (wpAny_seqItems o4 rfl (Γa (wpAny_updateSeq_pair o4 λg5 o5 b5=>?_)))
 replace o5:IsPair g5 TO x y:=o5
 refine Γa (wpAny_letGo (Γb (Γb (Γa (wpAny_seqItems o5 rfl (Γa (wpAny_newTuple ?_)))))))
 have sz:g5.objs.size=s.heap.objs.size:=by rw[b5.1,b4.1,b3.1,b2.1,b1.1]
 have z5:IsZip g5 z TI TO .ellipsis:=b5.extBut _ _ D.TOz.symm (b4.extBut _ _ D.i2z.symm (b3.extBut _ _ D.TOz.symm (b2.extBut _ _ D.i1z.symm z1)))
 have kk:∀ c o,c≠z->c≠TO->c≠i1->c≠i2->s.heap.get? c=some o->g5.get? c=some o:=λc o c1 c2 c3 c4 e=>b5.extBut _ _ c2 (b4.extBut _ _ c4 (b3.extBut _ _ c2 (b2.extBut _ _ c3 (b1.extBut _ _ c1 e))))
 have t15:IterB p g5 i1 l1 (k1+1):=((t12.move b3.extBut D.TOi1.symm).move b4.extBut D.i12).move b5.extBut D.TOi1.symm
 have t25:IterB q g5 i2 l2 (k2+1):=t24.move b5.extBut D.TOi2.symm
 have zlt:z<g5.objs.size:=Γl z5
 show wpAny _ _ (Builtin.SmallTypes.ownedTupleHandOut (.ref z) (.ref g5.objs.size) >>= _) _ _ _;refine Γa ?_;unfold Builtin.SmallTypes.ownedTupleHandOut
 have z6:IsZip (g5.push { cls:=.type "tuple",data:=.seq #[x,y] }) z TI TO .ellipsis:=Γc _ z5
 refine Γa (wpAny_setField_rec z6 (by simp) λg7 z7 b7=>?_);replace z7:IsZip g7 z TI TO (rawInt g5.objs.size):=z7
 refine wpAny_setField_rec z7 (by simp) λg8 z8 b8=>?_;replace z8:IsZip g8 z TI TO (rawInt g5.objs.size):=z8
 have up:∀ c o,c≠z->g5.get? c=some o->g8.get? c=some o:=λc o c1 e=>b8.extBut _ _ c1 (b7.extBut _ _ c1 (Γc _ e))
 have tt:IsPair g8 g5.objs.size x y:=b8.extBut _ _ (Nat.ne_of_gt zlt) (b7.extBut _ _ (Nat.ne_of_gt zlt) (Γm _ rfl))
 rw[sz] at z8 tt
 refine Γb ⟨_,rfl,?_⟩;show Q (.ref g5.objs.size) _;rw[sz]
 exact K g8 z8 (up _ _ D.TOz o5) (t15.to λo e=>up _ o D.i1z e) (t25.to λo e=>up _ o D.i2z e) tt λc o c1 c2 c3 c4 e=>up c o c1 (kk c o c1 c2 c3 c4 e)
theorem c1z {Q:Fin->Shared->Prop}(hh:A.handled=none)(D:ZipApart z TI TO i1 i2 l1 l2)(zz:IsZip s.heap z TI TO .none)(zi:IsPair s.heap TI (.ref i1) (.ref i2))(zo:IsPair s.heap TO a b)
  (t1:IterB p s.heap i1 l1 k1)(t2:IterB q s.heap i2 l2 k2)(m1:SeqB p s.heap l1 xs)(m2:SeqB q s.heap l2 ys)(en:xs[k1]?=none ∨ ys[k2]?=none)
  (K:∀ h' e,(∀ c o,c≠z->c≠TO->c≠i1->c≠i2->s.heap.get? c=some o->h'.get? c=some o)->(∃ o,h'.get? e=some o/\o.cls=.type "StopIteration")->E (.ref e) { s with heap:=h' }) :
  wpAny (model P w) A (Builtin.«zip.__next__» ⟨[.ref z],[]⟩) Q E s:=by
 show wpAny _ _ (field (.ref z) 2 >>= _) _ _ _;refine Γa (wpAny_field zz rfl (x:=.bool false) rfl ?_)
 show wpAny _ _ (field (.ref z) 3 >>= _) _ _ _;refine Γa (wpAny_field zz rfl (x:=.ref TI) rfl (Γa (wpAny_seqItems zi rfl ?_)))
 show wpAny _ _ (Builtin.SmallTypes.ownedTupleIsFree (.ref z) >>= _) _ _ _;refine Γa ?_;unfold Builtin.SmallTypes.ownedTupleIsFree
 refine Γa (wpAny_field zz rfl (x:=.none) rfl (Γb ?_));simp only[if_true]
 refine Γa (wpAny_rule (Γa (wpAny_field zz rfl (x:=.ref TO) rfl (Γa (wpAny_setField_rec zz (by simp) λg1 z1 b1=>?_)))))
 replace z1:IsZip g1 z TI TO .ellipsis:=z1
 refine Γa ?_;simp only[List.zipIdx_cons,List.zipIdx_nil,List.forIn_cons,List.forIn_nil]
 refine Γa (Γa (wpAny_onRaise ?_));show wpAny _ _ (Builtin.SmallTypes.nextOf (.ref i1) >>= _) _ _ _
 have fin:∀ {g:Heap}{e:Addr}{o:Obj},IsZip g z TI TO .ellipsis->g.get? e=some o->o.cls=.type "StopIteration"->e≠z:=λh1 h2 h3 x=>by subst x;rw[h1] at h2;cases h2;simp at h3
 cases hx:xs[k1]? with
 | none =>
  refine Γa (c6o hh (t1.move b1.extBut D.i1z) (m1.move b1.extBut D.l1z) hx λg2 e b2 he=>?_)
  obtain⟨oe,e1,e2⟩:=he
  have z2:IsZip g2 z TI TO .ellipsis:=b2 _ _ D.i1z.symm z1
  exact wpAny_setField_rec z2 (by simp) λg3 _ b3=>K g3 e (λc o c1 _ c3 _ x=>b3.extBut _ _ c1 (b2 _ _ c3 (b1.extBut _ _ c1 x))) ⟨oe,b3.extBut _ _ (fin z2 e1 e2) e1,e2⟩
 | some x =>
  have hy:ys[k2]?=none:=by rcases en with h|h;rw[hx] at h;cases h;exact h
  refine Γa (c3c (t1.move b1.extBut D.i1z) (m1.move b1.extBut D.l1z) hx λg2 t12 b2=>Γb ?_)
  have o2:IsPair g2 TO a b:=b2.extBut _ _ D.TOi1 (b1.extBut _ _ D.TOz zo)
  refine Γa (wpAny_seqItems o2 rfl (Γa (wpAny_updateSeq_pair o2 λg3 o3 b3=>Γa (wpAny_letGo (Γb (Γa (Γa (wpAny_onRaise ?_))))))))
  show wpAny _ _ (Builtin.SmallTypes.nextOf (.ref i2) >>= _) _ _ _
  refine Γa (c6o hh (((t2.move b1.extBut D.i2z).move b2.extBut D.i12.symm).move b3.extBut D.TOi2.symm) (((m2.move b1.extBut D.l2z).move b2.extBut D.l2i1).move b3.extBut D.l2TO) hy λg4 e b4 he=>?_)
  obtain⟨oe,e1,e2⟩:=he
  have z4:IsZip g4 z TI TO .ellipsis:=b4 _ _ D.i2z.symm (b3.extBut _ _ D.TOz.symm (b2.extBut _ _ D.i1z.symm z1))
  exact wpAny_setField_rec z4 (by simp) λg5 _ b5=>K g5 e (λc o c1 c2 c3 c4 x=>b5.extBut _ _ c1 (b4 _ _ c4 (b3.extBut _ _ c2 (b2.extBut _ _ c3 (b1.extBut _ _ c1 x))))) ⟨oe,b5.extBut _ _ (fin z4 e1 e2) e1,e2⟩
theorem b7b {Q:Option Value->Shared->Prop}(D:ZipApart z TI TO i1 i2 l1 l2)(zz:IsZip s.heap z TI TO .none)(zi:IsPair s.heap TI (.ref i1) (.ref i2))(zo:IsPair s.heap TO a b)
  (t1:IterB p s.heap i1 l1 k1)(t2:IterB q s.heap i2 l2 k2)(m1:SeqB p s.heap l1 xs)(m2:SeqB q s.heap l2 ys)(ex:xs[k1]?=some x)(ey:ys[k2]?=some y)
  (K:∀ h',IsZip h' z TI TO (rawInt s.heap.objs.size)->IsPair h' TO x y->IterB p h' i1 l1 (k1+1)->IterB q h' i2 l2 (k2+1)->IsPair h' s.heap.objs.size x y ->
   (∀ c o,c≠z->c≠TO->c≠i1->c≠i2->s.heap.get? c=some o->h'.get? c=some o)->Q (some (.ref s.heap.objs.size)) { s with heap:=h' }):wpAny (model P w) A (pyNext (.ref z)) Q E s:=by
 have ty:s.TypeIs (.ref z) "zip":=⟨_,zz,rfl⟩
 unfold pyNext
 exact Γa (wpAny_attempt (wpAny_callSpecial?_slot (name:=Γe "__next__") ty F.slot_zip_next (wpAny_call_entry F.slot_zip_next ty F.entry_zip_next (b7c D zz zi zo t1 t2 m1 m2 ex ey λh' a1 a2 a3 a4 a5 a6=>Γb (K h' a1 a2 a3 a4 a5 a6)) (F.args_zip_next_1 _))))
theorem b7a {Q:Option Value->Shared->Prop}(hh:A.handled=none)(D:ZipApart z TI TO i1 i2 l1 l2)(zz:IsZip s.heap z TI TO .none)(zi:IsPair s.heap TI (.ref i1) (.ref i2))(zo:IsPair s.heap TO a b)
  (t1:IterB p s.heap i1 l1 k1)(t2:IterB q s.heap i2 l2 k2)(m1:SeqB p s.heap l1 xs)(m2:SeqB q s.heap l2 ys)(en:xs[k1]?=none ∨ ys[k2]?=none)
  (K:∀ h',(∀ c o,c≠z->c≠TO->c≠i1->c≠i2->s.heap.get? c=some o->h'.get? c=some o)->Q none { s with heap:=h' }):wpAny (model P w) A (pyNext (.ref z)) Q E s:=by
 have ty:s.TypeIs (.ref z) "zip":=⟨_,zz,rfl⟩
 unfold pyNext
 refine Γa (wpAny_attempt (wpAny_callSpecial?_slot (name:=Γe "__next__") ty F.slot_zip_next (wpAny_call_entry F.slot_zip_next ty F.entry_zip_next (c1z hh D zz zi zo t1 t2 m1 m2 en λh' e hk he=>?_) (F.args_zip_next_1 _))))
 obtain⟨o,e1,e2⟩:=he
 exact Γa (wpAny_isInstance (T:="StopIteration") (b:=true) ⟨o,e1,e2⟩ isSubtype_stop (Γb (K _ hk)))
end
abbrev zb1 (p:Bool)(h:Heap)(l1:Addr):Heap:=h.push { cls:=.type (a9h p),data:=.fields #[.ref l1,.int 0 0] }
abbrev zb2 (p q:Bool)(h:Heap)(l1 l2:Addr):Heap:=(zb1 p h l1).push { cls:=.type (a9h q),data:=.fields #[.ref l2,.int 0 0] }
abbrev zb3 (p q:Bool)(h:Heap)(l1 l2:Addr):Heap:=(zb2 p q h l1 l2).push { cls:=.type "tuple",data:=.seq #[.ref h.objs.size,.ref (zb1 p h l1).objs.size] }
abbrev zb4 (p q:Bool)(h:Heap)(l1 l2:Addr):Heap:=(zb3 p q h l1 l2).push { cls:=.type "tuple",data:=.seq #[.none,.none] }
abbrev zb5 (p q:Bool)(h:Heap)(l1 l2:Addr):Heap:=(zb4 p q h l1 l2).push { cls:=.type "zip",data:=.fields #[.none,.bool false,.bool false,.ref (zb2 p q h l1 l2).objs.size,.ref (zb3 p q h l1 l2).objs.size] }
theorem b5w (p q:Bool)(l1 l2:Addr)(xs ys:Array Value) :
  Meets (Builtin.«zip.__new__» ⟨[.type "zip",.ref l1,.ref l2],[]⟩) (λ_ R s=>SeqB p s.heap l1 xs/\SeqB q s.heap l2 ys/\R (.ok (.ret (.ref (zb4 p q s.heap l1 l2).objs.size))) { s with heap:=zb5 p q s.heap l1 l2 }) :=
 .of_wp λprog w A R s h=>by
  obtain⟨hp,g,d,tk,os⟩:=s;obtain⟨m1,m2,h⟩:=h
  have hsub:=sub_zip
  have M1:SeqB p (Shared.heap ⟨hp,g,d,tk,os⟩) l1 xs:=m1
  have M2:SeqB q (Shared.heap ⟨hp.push { cls:=.type (a9h p),data:=.fields #[.ref l1,.int 0 0] },g,d,tk,os⟩) l2 ys:=SeqB.push m2
  wp_walk using b9o M1,b9o M2
  exact⟨_,rfl,h⟩
section
variable {P:Program}{w:World}{A:Around}{E:Value->Shared->Prop}{s:Shared}
theorem c1i {p q:Bool}{l1 l2:Addr}{xs ys:Array Value}{Q:Value->Shared->Prop}(m1:SeqB p s.heap l1 xs)(m2:SeqB q s.heap l2 ys)
  (K:∀ h',IsZip h' (s.heap.objs.size+4) (s.heap.objs.size+2) (s.heap.objs.size+3) .none->IsPair h' (s.heap.objs.size+2) (.ref s.heap.objs.size) (.ref (s.heap.objs.size+1)) ->
   IsPair h' (s.heap.objs.size+3) .none .none->IterB p h' s.heap.objs.size l1 0->IterB q h' (s.heap.objs.size+1) l2 0->(∀ c o,s.heap.get? c=some o->h'.get? c=some o)->Q (.ref (s.heap.objs.size+4)) { s with heap:=h' }) :
  wpAny (model P w) A (call (.type "zip") [.ref l1,.ref l2]) Q E s:=by
 refine callType_new F.called_zip (by decide) (F.typeCall_zip_2 _ _) (F.newCall_zip_2 _ _) (λobj=>F.args_object_init_3 obj _ _) F.entry_zip_new (b5w p q l1 l2 xs ys) ⟨m1,m2,?_⟩
 have z1:(zb1 p s.heap l1).objs.size=s.heap.objs.size+1:=Heap.size_push ..
 have z2:(zb2 p q s.heap l1 l2).objs.size=s.heap.objs.size+2:=by rw[Heap.size_push,z1]
 have z3:(zb3 p q s.heap l1 l2).objs.size=s.heap.objs.size+3:=by rw[Heap.size_push,z2]
 have z4:(zb4 p q s.heap l1 l2).objs.size=s.heap.objs.size+4:=by rw[Heap.size_push,z3]
 have f5:(zb5 p q s.heap l1 l2).get? (zb4 p q s.heap l1 l2).objs.size=some _:=Γm _ rfl
 have f4:(zb5 p q s.heap l1 l2).get? (zb3 p q s.heap l1 l2).objs.size=some _:=Γc _ (Γm _ rfl)
 have f3:(zb5 p q s.heap l1 l2).get? (zb2 p q s.heap l1 l2).objs.size=some _:=Γc _ (Γc _ (Γm _ rfl))
 have f2:(zb5 p q s.heap l1 l2).get? (zb1 p s.heap l1).objs.size=some _:=Γc _ (Γc _ (Γc _ (Γm _ rfl)))
 have f1:(zb5 p q s.heap l1 l2).get? s.heap.objs.size=some _:=Γc _ (Γc _ (Γc _ (Γc _ (Γm _ rfl))))
 show _/\_
 rw[z2,z3,z4] at f5;rw[z1,z2] at f3;rw[z3] at f4;rw[z1] at f2;rw[z4]
 refine⟨⟨_,f5,rfl⟩,K _ f5 f3 f4 ?_ ?_ λc o x=>Γc _ (Γc _ (Γc _ (Γc _ (Γc _ x))))⟩
 ·cases p<;>exact⟨_,f1,rfl,rfl⟩
 ·cases q<;>exact⟨_,f2,rfl,rfl⟩
end
end L2
end
section
namespace L2
open PySem PySem.Spec PyProof.Rows
open AutoSeq1 (wpAny_loadPart')
section
variable {P:Program}{w:World}{A:Around}{E:Value->Shared->Prop}{s:Shared}{p:Bool}{e it l:Addr}{i:Nat}{xs:Array Value}{x old:Value}
theorem b6h {Q:Value->Shared->Prop}(ee:IsEnum s.heap e it i old)(t1:IterB p s.heap it l i)(m1:SeqB p s.heap l xs)(ex:xs[i]?=some x)(ne:e≠it)
  (K:∀ h',IsEnumOut h' e it ((i:Int)+1) x s.heap.objs.size->IterB p h' it l (i+1)->h'.get? s.heap.objs.size=some { cls:=.type "tuple",data:=.seq #[.int i s.toks,x] } ->
   (∀ b o,b≠e->b≠it->s.heap.get? b=some o->h'.get? b=some o)->Q (.ref s.heap.objs.size) { s with heap:=h',toks:=s.toks+1 }) :
  wpAny (model P w) A (Builtin.«enumerate.__next__» ⟨[.ref e],[]⟩) (λfin s'=>∃ v,fin=.done (.ret v)/\Q v s') E s:=by
 obtain⟨hp,g,d,tk,os⟩:=s
 show wpAny _ _ (field (.ref e) 2 >>= _) _ _ _;refine Γa (wpAny_field ee rfl (x:=.ref it) rfl (Γa (c3c t1 m1 ex λg1 t11 b1=>?_)))
 replace b1:Heap.SameBut it hp g1:=b1
 have e1:IsEnum g1 e it i old:=(b1.2 e ne).trans ee
 show wpAny _ _ (field (.ref e) 3 >>= _) _ _ ⟨g1,g,d,tk,os⟩;refine Γa (wpAny_field e1 rfl (x:=rawInt i) rfl ?_)
 show wpAny _ _ (field (.ref e) 4 >>= _) _ _ ⟨g1,g,d,tk,os⟩;refine Γa (wpAny_field e1 rfl (x:=.none) rfl ?_)
 show wpAny _ _ (mkInt i >>= _) _ _ ⟨g1,g,d,tk,os⟩;refine Γa (wpAny_mkInt ?_)
 show wpAny _ _ (setField (.ref e) 3 (rawInt ((i:Int)+1)) >>= _) _ _ ⟨g1,g,d,tk+1,os⟩;refine Γa (wpAny_setField_rec e1 (by simp) λg2 e2 b2=>?_)
 replace b2:Heap.SameBut e g1 g2:=b2
 replace e2:IsEnum g2 e it ((i:Int)+1) old:=e2
 show wpAny _ _ (setField (.ref e) 4 .none >>= _) _ _ ⟨g2,g,d,tk+1,os⟩;refine Γa (wpAny_setField_rec e2 (by simp) λg3 e3 b3=>?_)
 replace b3:Heap.SameBut e g2 g3:=b3
 replace e3:IsEnum g3 e it ((i:Int)+1) old:=e3
 show wpAny _ _ (newTuple [.int i tk,x] >>= _) _ _ ⟨g3,g,d,tk+1,os⟩;refine Γa (wpAny_newTuple ?_)
 have e4:IsEnum (g3.push { cls:=.type "tuple",data:=.seq #[.int i tk,x] }) e it ((i:Int)+1) old:=Γc _ e3
 generalize hg4:g3.push { cls:=.type "tuple",data:=.seq #[.int i tk,x] } = g4 at e4
 have sz:g3.objs.size=hp.objs.size:=by rw[b3.1,b2.1,b1.1]
 have el:e<hp.objs.size:=Γl ee
 have t4:g4.get? hp.objs.size=some { cls:=.type "tuple",data:=.seq #[.int i tk,x] }:=by rw[<- hg4,<- sz];exact Γm _ rfl
 have k4:∀ b o,b≠e->b≠it->hp.get? b=some o->g4.get? b=some o:=λb o c1 c2 h=>by rw[<- hg4];exact Γc _ (b3.extBut b o c1 (b2.extBut b o c1 (b1.extBut b o c2 h)))
 have i4:IterB p g4 it l (i+1):=by
  rw[<- hg4];exact ((t11.move b2.extBut (Ne.symm ne)).move b3.extBut (Ne.symm ne)).to λo h=>Γc _ h
 show wpAny _ _ (Builtin.SmallTypes.ownedTupleIsFree (.ref e) >>= _) _ _ ⟨g4,g,d,tk+1,os⟩
 rw[sz]
 clear hg4 e3 b3 e2 b2 e1 b1 t11 sz g3 g2 g1
 refine Γa ?_;unfold Builtin.SmallTypes.ownedTupleIsFree
 refine Γa (wpAny_field e4 rfl (x:=.none) rfl (Γb ?_));simp only[if_true]
 refine Γa (wpAny_rule (Γa (wpAny_field e4 rfl (x:=old) rfl (Γa (wpAny_setField_rec e4 (by simp) λg5 e5 b5=>?_)))))
 replace b5:Heap.SameBut e g4 g5:=b5
 replace e5:IsEnum g5 e it ((i:Int)+1) x:=e5
 show wpAny _ _ (Builtin.SmallTypes.ownedTupleHandOut (.ref e) (.ref hp.objs.size) >>= _) _ _ ⟨g5,g,d,tk+1,os⟩;refine Γa ?_;unfold Builtin.SmallTypes.ownedTupleHandOut
 refine Γa (wpAny_setField_rec e5 (by simp) λg6 e6 b6=>?_)
 replace b6:Heap.SameBut e g5 g6:=b6
 replace e6:IsEnumOut g6 e it ((i:Int)+1) x hp.objs.size:=e6
 refine wpAny_setField_rec e6 (by simp) λg7 e7 b7=>?_
 replace b7:Heap.SameBut e g6 g7:=b7
 replace e7:IsEnumOut g7 e it ((i:Int)+1) x hp.objs.size:=e7
 refine Γa (wpAny_letGo (Γb ⟨_,rfl,K g7 e7 (((i4.move b5.extBut (Ne.symm ne)).move b6.extBut (Ne.symm ne)).move b7.extBut (Ne.symm ne)) ?_ λb o c1 c2 h=>b7.extBut b o c1 (b6.extBut b o c1 (b5.extBut b o c1 (k4 b o c1 c2 h)))⟩))
 exact b7.extBut _ _ (Nat.ne_of_gt el) (b6.extBut _ _ (Nat.ne_of_gt el) (b5.extBut _ _ (Nat.ne_of_gt el) t4))
theorem b6g {Q:Option Value->Shared->Prop}(ee:IsEnum s.heap e it i old)(t1:IterB p s.heap it l i)(m1:SeqB p s.heap l xs)(ex:xs[i]?=some x)(ne:e≠it)
  (K:∀ h',IsEnumOut h' e it ((i:Int)+1) x s.heap.objs.size->IterB p h' it l (i+1)->h'.get? s.heap.objs.size=some { cls:=.type "tuple",data:=.seq #[.int i s.toks,x] } ->
   (∀ b o,b≠e->b≠it->s.heap.get? b=some o->h'.get? b=some o)->Q (some (.ref s.heap.objs.size)) { s with heap:=h',toks:=s.toks+1 }):wpAny (model P w) A (pyNext (.ref e)) Q E s:=by
 have ty:s.TypeIs (.ref e) "enumerate":=⟨_,ee,rfl⟩
 unfold pyNext
 exact Γa (wpAny_attempt (wpAny_callSpecial?_slot (name:=Γe "__next__") ty F.slot_enumerate_next (wpAny_call_entry F.slot_enumerate_next ty F.entry_enumerate_next (b6h ee t1 m1 ex ne λh' a b c d=>Γb (K h' a b c d)) (F.args_enumerate_next_1 _))))
theorem b6f {Q:Option Value->Shared->Prop}(hh:A.handled=none)(ee:IsEnum s.heap e it i old)(t1:IterB p s.heap it l i)(m1:SeqB p s.heap l xs)(ex:xs[i]?=none)(K:∀ h',Heap.ExtBut it s.heap h'->Q none { s with heap:=h' }):wpAny (model P w) A (pyNext (.ref e)) Q E s:=by
 have ty:s.TypeIs (.ref e) "enumerate":=⟨_,ee,rfl⟩
 unfold pyNext
 refine Γa (wpAny_attempt (wpAny_callSpecial?_slot (name:=Γe "__next__") ty F.slot_enumerate_next (wpAny_call_entry F.slot_enumerate_next ty F.entry_enumerate_next ?_ (F.args_enumerate_next_1 _))))
 show wpAny _ _ (field (.ref e) 2 >>= _) _ _ _;refine Γa (wpAny_field ee rfl (x:=.ref it) rfl (Γa (c6o hh t1 m1 ex λh' v k hv=>?_)))
 obtain⟨o,e1,e2⟩:=hv
 exact Γa (wpAny_isInstance (T:="StopIteration") (b:=true) ⟨o,e1,e2⟩ isSubtype_stop (Γb (K _ k)))
end
theorem b2l (p:Bool)(l:Addr)(xs:Array Value) :
  Meets (Builtin.«enumerate.__new__» ⟨[.type "enumerate",.ref l],[]⟩) (λ_ R s=>SeqB p s.heap l xs /\
   R (.ok (.ret (.ref (zb1 p s.heap l).objs.size))) { s with heap:=(zb1 p s.heap l).push { cls:=.type "enumerate",data:=.fields #[.none,.bool false,.ref s.heap.objs.size,rawInt 0,.none,.none] } }) :=
 .of_wp λprog w A R s h=>by
  obtain⟨hp,g,d,tk,os⟩:=s;obtain⟨m1,h⟩:=h
  have hsub:=sub_enumerate
  have M1:SeqB p (Shared.heap ⟨hp,g,d,tk,os⟩) l xs:=m1
  have hob:∃ o,hp.get? l=some o:=by cases p<;>(obtain⟨o,e,_⟩:=m1;exact⟨o,e⟩)
  obtain⟨ob,hl⟩:=hob
  wp_walk using wpAny_loadPart' hl
  refine wpAny_stack_any λst=>Γb ?_
  split
  ·rename_i c _ _ _ _ _
   cases (c == Value.type "enumerate")
   ·wp_walk using wpAny_loadPart' hl,b9o M1
    exact⟨_,rfl,h⟩
   ·wp_walk using wpAny_loadPart' hl,b9o M1
    exact⟨_,rfl,h⟩
  ·wp_walk using wpAny_loadPart' hl,b9o M1
   exact⟨_,rfl,h⟩
section
variable {P:Program}{w:World}{A:Around}{E:Value->Shared->Prop}{s:Shared}
theorem b6q {p:Bool}{l:Addr}{xs:Array Value}{Q:Value->Shared->Prop}(m1:SeqB p s.heap l xs)
  (K:∀ h',IsEnum h' (s.heap.objs.size+1) s.heap.objs.size 0 .none->IterB p h' s.heap.objs.size l 0->(∀ b o,s.heap.get? b=some o->h'.get? b=some o)->Q (.ref (s.heap.objs.size+1)) { s with heap:=h' }) :
  wpAny (model P w) A (call (.type "enumerate") [.ref l]) Q E s:=by
 refine callType_new F.called_enumerate (by decide) (F.typeCall_enumerate_1 _) (F.newCall_enumerate_1 _) (λobj=>F.args_object_init_2 obj _) F.entry_enumerate_new (b2l p l xs) ⟨m1,?_⟩
 have z1:(zb1 p s.heap l).objs.size=s.heap.objs.size+1:=Heap.size_push ..
 show _/\_
 rw[z1]
 have f2:IsEnum ((zb1 p s.heap l).push { cls:=.type "enumerate",data:=.fields #[.none,.bool false,.ref s.heap.objs.size,rawInt 0,.none,.none] }) (s.heap.objs.size+1) s.heap.objs.size 0 .none:=by
  have:=Γm (zb1 p s.heap l) (o:={ cls:=.type "enumerate",data:=.fields #[.none,.bool false,.ref s.heap.objs.size,rawInt 0,.none,.none] }) rfl
  rw[z1] at this;exact this
 refine⟨⟨_,f2,rfl⟩,K _ f2 ?_ λb o x=>Γc _ (Γc _ x)⟩
 cases p<;>exact⟨_,Γc _ (Γm _ rfl),rfl,rfl⟩
end
def SqB (b:Bool)(K:Γd)(H:Hp)(a:Addr)(xs:List V):Prop:=match b with|true=>SqL K H a xs|false=>SqT K H a xs
section
variable {X:Cx}{pins:List (Addr×Obj)}{σ:St}{H:Hp}{s:Shared}{a:Addr}{xs ys:List V}{b:Bool}
theorem Inv.seqB (I:Inv X pins σ H s)(h:SqB b X.K H a xs):∃ its:List Value,Vals xs its/\SeqB b s.heap a its.toArray/\xs.length=its.length:=by
 cases b
 ·obtain⟨its,r,q,_⟩:=I.tuple h
  exact⟨its,r,q,r.length⟩
 ·obtain⟨its,r,q,_⟩:=I.list h
  exact⟨its,r,q.isList,r.length⟩
theorem Inv.seqB_inj (I:Inv X pins σ H s)(h:SqB b X.K H a xs)(h':SqB b X.K H a ys):xs=ys:=by
 cases b
 ·exact I.tuple_inj h h'
 ·exact I.list_inj h h'
end
def Iz2 (K:Γd) (p q:Bool) (a b:Addr):It :=
  ⟨λi H=>∃ xs ys x y,SqB p K H a xs/\SqB q K H b ys/\xs[i]?=some x/\ys[i]?=some y,
   λi H v H'=>∃ c,H c=none/\v=.ref c/\∀ xs ys x y,SqB p K H a xs->SqB q K H b ys->xs[i]?=some x->ys[i]?=some y->H'=upd H c (.tup [x,y]),
   λi H=>∃ xs ys,SqB p K H a xs/\SqB q K H b ys/\(xs.length<=i ∨ ys.length<=i)⟩
def Ien (K:Γd) (p:Bool) (a:Addr):It :=
  ⟨λi H=>∃ xs x,SqB p K H a xs/\xs[i]?=some x,
   λi H v H'=>∃ c,H c=none/\v=.ref c/\∀ xs x,SqB p K H a xs->xs[i]?=some x->H'=upd H c (.tup [.int i,x]),
   λi H=>∃ xs,SqB p K H a xs/\xs.length<=i⟩
theorem c6c {P:Program}{w:World}{K:Γd}{p q:Bool}{elts:List Expr}{k:Nat}{pos:Pos}{a b z TI TO i1 i2:Addr}(D:ZipApart z TI TO i1 i2 a b) :
  Turn P w K (.Tuple elts k pos) (Iz2 K p q a b) [z,TO,i1,i2,TI] z (λi h=>IsZip h z TI TO .none/\IsPair h TI (.ref i1) (.ref i2)/\(∃ c d,IsPair h TO c d)/\IterB p h i1 a i/\IterB q h i2 b i) where
 mem:=by simp
 obj:=λi h st c hc=>by
  obtain⟨zz,zi,⟨x,y,zo⟩,t1,t2⟩:=st
  simp only[List.mem_cons,List.not_mem_nil,or_false] at hc
  rcases hc with rfl|rfl|rfl|rfl|rfl
  ·exact⟨_,zz,λv z=>by cases z⟩
  ·exact⟨_,zo,λv z=>by cases z⟩
  ·exact t1.obj
  ·exact t2.obj
  ·exact⟨_,zi,λv z=>by cases z⟩
 keep:=λi h h' st kk=>by
  obtain⟨zz,zi,⟨x,y,zo⟩,t1,t2⟩:=st
  exact⟨kk z (by simp) _ zz,kk TI (by simp) _ zi,⟨x,y,kk TO (by simp) _ zo⟩,t1.to λo e=>kk i1 (by simp) o e,t2.to λo e=>kk i2 (by simp) o e⟩
 item:=by
  intro X hP hw hK hc i pins s σ H E I hf st hg
  subst hP hw hK
  obtain⟨xs,ys,x,y,q1,q2,hx,hy⟩:=hg
  obtain⟨zz,zi,⟨u0,v0,zo⟩,t1,t2⟩:=st
  obtain⟨its,rv,m1,_⟩:=I.seqB q1
  obtain⟨jts,rw',m2,_⟩:=I.seqB q2
  obtain⟨u,hu,ru⟩:=rv.get hx
  obtain⟨u',hu',ru'⟩:=rw'.get hy
  refine b7b D zz zi zo t1 t2 m1 m2 (x:=u) (y:=u') (by simpa using hu) (by simpa using hu') λh' a1 a2 a3 a4 a5 hk=>?_
  refine⟨_,rfl,wpAny_letOwnedTupleGo_zip a1 λh'' z'' hs''=>?_⟩
  have szn:z≠s.heap.objs.size:=Γo (Γl zz)
  have T'':IsPair h'' s.heap.objs.size u u':=hs''.extBut _ _ (Ne.symm szn) a5
  have I1:Inv X pins σ (upd H s.heap.objs.size (.tup [x,y])) { s with heap:=h'' }:=I.turnedNew (t':=s.toks) (ch:=[z,TO,i1,i2]) (Γi _)
   (λc ob hc e=>by simp only[List.mem_cons,List.not_mem_nil,or_false,not_or] at hc;exact hs''.extBut _ _ hc.1 (hk c ob hc.1 hc.2.1 hc.2.2.1 hc.2.2.2 e))
   (λc hc=>hf c (by simp only[List.mem_cons,List.not_mem_nil,or_false] at hc ⊢;rcases hc with z|z|z|z<;>simp[z])) ⟨by show 2<=sizeLine;decide,[u,u'],.cons ru (.cons ru' .nil),⟨_,T'',rfl,_,rfl⟩⟩
  refine⟨.ref s.heap.objs.size,_,I1,rfl,⟨_,I.fresh,rfl,λxs' ys' x' y' r1 r2 hx' hy'=>?_⟩,⟨z'',hs''.extBut _ _ D.TIz (hk _ _ D.TIz D.TITO D.TIi1 D.TIi2 zi),⟨_,_,hs''.extBut _ _ D.TOz a2⟩,a3.move hs''.extBut D.i1z,a4.move hs''.extBut D.i2z⟩,λc hc=>?_⟩
  ·have e1:=I.seqB_inj r1 q1
   have e2:=I.seqB_inj r2 q2
   subst e1 e2
   rw[hx] at hx';rw[hy] at hy';cases hx';cases hy';rfl
  ·have:c≠s.heap.objs.size:=by
    have hlt:c<s.heap.objs.size:=by
     simp only[List.mem_cons,List.not_mem_nil,or_false] at hc
     rcases hc with rfl|rfl|rfl|rfl|rfl
     ·exact Γl zz
     ·exact Γl zo
     ·exact t1.lt
     ·exact t2.lt
     ·exact Γl zi
    exact Γo hlt
   rw[a0g this];exact (hf c hc).1
 done:=by
  intro X hP hw hK hc i pins s σ H E I hf st hg
  subst hP hw hK
  obtain⟨xs,ys,q1,q2,hx⟩:=hg
  obtain⟨zz,zi,⟨u0,v0,zo⟩,t1,t2⟩:=st
  obtain⟨its,rv,m1,l1⟩:=I.seqB q1
  obtain⟨jts,rw',m2,l2⟩:=I.seqB q2
  refine b7a (I.ok.hd hc) D zz zi zo t1 t2 m1 m2 (hx.elim (λz=>.inl (by simp;lia)) λz=>.inr (by simp;lia)) λh' hk=>⟨rfl,?_⟩
  exact I.turnedL (t':=s.toks) (ch:=[z,TO,i1,i2]) (λc ob hc e=>by simp only[List.mem_cons,List.not_mem_nil,or_false,not_or] at hc;exact hk c ob hc.1 hc.2.1 hc.2.2.1 hc.2.2.2 e)
   (λc hc=>hf c (by simp only[List.mem_cons,List.not_mem_nil,or_false] at hc ⊢;rcases hc with z|z|z|z<;>simp[z]))
 self:=λ_ _ _ _ _ st h=>wpAny_pyIter_zip st.1 h
theorem c6d {P:Program}{w:World}{K:Γd}{p:Bool}{elts:List Expr}{k:Nat}{pos:Pos}{a e it:Addr}(ne:e≠it) :
  Turn P w K (.Tuple elts k pos) (Ien K p a) [e,it] e (λi h=>(∃ old,IsEnum h e it i old)/\IterB p h it a i) where
 mem:=by simp
 obj:=λi h st c hc=>by
  obtain⟨⟨old,ee⟩,t1⟩:=st
  simp only[List.mem_cons,List.not_mem_nil,or_false] at hc
  rcases hc with rfl|rfl
  ·exact⟨_,ee,λv z=>by cases z⟩
  ·exact t1.obj
 keep:=λi h h' st kk=>by
  obtain⟨⟨old,ee⟩,t1⟩:=st
  exact⟨⟨old,kk e (by simp) _ ee⟩,t1.to λo q=>kk it (by simp) o q⟩
 item:=by
  intro X hP hw hK hc i pins s σ H E I hf st hg
  subst hP hw hK
  obtain⟨xs,x,q1,hx⟩:=hg
  obtain⟨⟨old,ee⟩,t1⟩:=st
  obtain⟨its,rv,m1,_⟩:=I.seqB q1
  obtain⟨u,hu,ru⟩:=rv.get hx
  refine b6g ee t1 m1 (x:=u) (by simpa using hu) ne λh' a1 a2 a3 hk=>?_
  refine⟨_,rfl,wpAny_letOwnedTupleGo_enum a1 λh'' z'' hs''=>?_⟩
  have szn:e≠s.heap.objs.size:=Γo (Γl ee)
  have T'':=hs''.extBut _ _ (Ne.symm szn) a3
  have I1:Inv X pins σ (upd H s.heap.objs.size (.tup [.int i,x])) { s with heap:=h'',toks:=s.toks+1 }:=I.turnedNew (t':=s.toks+1) (ch:=[e,it]) (Γi _)
   (λc ob hc q=>by simp only[List.mem_cons,List.not_mem_nil,or_false,not_or] at hc;exact hs''.extBut _ _ hc.1 (hk c ob hc.1 hc.2 q))
   (λc hc=>hf c hc) ⟨by show 2<=sizeLine;decide,[.int i s.toks,u],.cons ⟨_,rfl⟩ (.cons ru .nil),⟨_,T'',rfl,_,rfl⟩⟩
  refine⟨.ref s.heap.objs.size,_,I1,rfl,⟨_,I.fresh,rfl,λxs' x' r1 hx'=>?_⟩,⟨⟨_,z''⟩,a2.move hs''.extBut (Ne.symm ne)⟩,λc hc=>?_⟩
  ·have e1:=I.seqB_inj r1 q1
   subst e1
   rw[hx] at hx';cases hx';rfl
  ·have:c≠s.heap.objs.size:=by
    have hlt:c<s.heap.objs.size:=by
     simp only[List.mem_cons,List.not_mem_nil,or_false] at hc
     rcases hc with rfl|rfl
     ·exact Γl ee
     ·exact t1.lt
    exact Γo hlt
   rw[a0g this];exact (hf c hc).1
 done:=by
  intro X hP hw hK hc i pins s σ H E I hf st hg
  subst hP hw hK
  obtain⟨xs,q1,hx⟩:=hg
  obtain⟨⟨old,ee⟩,t1⟩:=st
  obtain⟨its,rv,m1,l1⟩:=I.seqB q1
  refine b6f (I.ok.hd hc) ee t1 m1 (by simp;lia) λh' hk=>⟨rfl,?_⟩
  exact I.turnedL (t':=s.toks) (ch:=[it]) (λc ob hc q=>hk c ob (by simpa using hc) q) (λc hc=>hf c (by simp at hc;simp[hc]))
 self:=λ_ _ _ _ _ st h=>wpAny_pyIter_enum st.1.choose_spec h
section
variable {X:Cx}
def iZ2 (K:Γd)(ta:TA):TI:=λσ H R=>ta σ H λvs H1=>∃ p q a b,vs=[.ref a,.ref b]/\(∃ xs,SqB p K H1 a xs)/\(∃ ys,SqB q K H1 b ys)/\R (Iz2 K p q a b) H1
theorem d8n {elts:List Expr}{k:Nat}{tp:Pos}{e1 e2:Expr}{ta:TA}{p pos:Pos}(hg:Gl X "zip")(hm:X.mg "zip" = none)(ha:PA X [e1,e2] ta)
  (hs:starEach [e1,e2] X.env=[(false,eval e1 X.env),(false,eval e2 X.env)])(hs2:starEach [e2] X.env=[(false,eval e2 X.env)]):PI X (.Tuple elts k tp) (.Call (.Name "zip" p) [e1,e2] [] pos) (iZ2 X.K ta):=by
 intro pins s σ H R I h
 refine wpAny_Call_Name_kw (a3n I hg hm PyProof.Rows.boot_zip ?_ (by decide) (by decide))
 refine PyProof.Rows.callWith_type1 (thn (ha pos pins s σ H _ I h) λus s1 ⟨vs,H1,I1,r1,q1⟩=>?_) (by rw[hs,hs2]) (by rw[hs2];rfl)
 obtain⟨p,q,a,b,e,⟨xs,hq1⟩,⟨ys,hq2⟩,kk⟩:=q1
 subst e
 obtain⟨u1,u2,rfl,ra,rb⟩:=c6a r1
 cases ra;cases rb
 obtain⟨its,rv,m1,_⟩:=I1.seqB hq1
 obtain⟨jts,rw',m2,_⟩:=I1.seqB hq2
 refine c1i m1 m2 λh' zz zi zo t1 t2 hk=>wpAny_pyIter_zip (f0:=.none) zz ?_
 have I2:Inv X pins σ H1 { s1 with heap:=h' }:=I1.kept (t':=s1.toks) λc o e=>hk c o e
 refine⟨_,_,_,Iz2 X.K p q a b,H1,rfl,I2,c6c (zipApart_new m1.lt m2.lt),⟨zz,zi,⟨_,_,zo⟩,t1,t2⟩,λc hc=>?_,kk⟩
 have hge:s1.heap.objs.size<=c:=by
  simp only[List.mem_cons,List.not_mem_nil,or_false] at hc
  rcases hc with rfl|rfl|rfl|rfl|rfl<;>first|exact Γi _|exact Nat.le_add_right _ _
 exact I1.fpOk hge (I1.hok.fresh hge)
def iEn (K:Γd)(ta:TA):TI:=λσ H R=>ta σ H λvs H1=>∃ p a,vs=[.ref a]/\(∃ xs,SqB p K H1 a xs)/\R (Ien K p a) H1
theorem d8o {elts:List Expr}{k:Nat}{tp:Pos}{e1:Expr}{ta:TA}{p pos:Pos}(hg:Gl X "enumerate")(hm:X.mg "enumerate" = none)(ha:PA X [e1] ta)(hs:starEach [e1] X.env=[(false,eval e1 X.env)]) :
  PI X (.Tuple elts k tp) (.Call (.Name "enumerate" p) [e1] [] pos) (iEn X.K ta):=by
 intro pins s σ H R I h
 refine wpAny_Call_Name_kw (a3n I hg hm PyProof.Rows.boot_enumerate ?_ (by decide) (by decide))
 refine PyProof.Rows.callWith_type1 (thn (ha pos pins s σ H _ I h) λus s1 ⟨vs,H1,I1,r1,q1⟩=>?_) (by rw[hs];rfl) rfl
 obtain⟨p,a,e,⟨xs,hq1⟩,kk⟩:=q1
 subst e
 obtain⟨u1,rfl,ra⟩:=a3h r1
 cases ra
 obtain⟨its,rv,m1,_⟩:=I1.seqB hq1
 refine b6q m1 λh' ee t1 hk=>wpAny_pyIter_enum ee ?_
 have I2:Inv X pins σ H1 { s1 with heap:=h' }:=I1.kept (t':=s1.toks) λc o e=>hk c o e
 refine⟨_,_,_,Ien X.K p a,H1,rfl,I2,c6d (Nat.ne_of_gt (Nat.lt_succ_self _)),⟨⟨_,ee⟩,t1⟩,λc hc=>?_,kk⟩
 have hge:s1.heap.objs.size<=c:=by
  simp only[List.mem_cons,List.not_mem_nil,or_false] at hc
  rcases hc with rfl|rfl<;>first|exact Γi _|exact Nat.le_add_right _ _
 exact I1.fpOk hge (I1.hok.fresh hge)
end
end L2
end
section
namespace L2
open PySem PySem.Spec PyProof.Rows
section
variable {prog:Program}{w:World}{A:Around}{R:Result->Shared->Prop}{s:Shared}
theorem b3h {kx vx target iter:Expr}{ifs:List Expr}{scope:Scope}{pos:Pos}{it:Value}{D:Addr}{env:Env}(I:Nat->Shared->Prop)
  (turn:∀ n s,I n s->wpAny (model prog w) A (pyNext it) (λr s1=>match r with
   | none=>R (.ok .next) s1
   | some v=>wpAny (model prog w) A (letOwnedTupleGo target it v) (λ_ s2=>wpAny (model prog w) A (assign target env v) (λ_ s3=>wpAny (model prog w) A (a8o ifs env) (λok s4 =>
     if ok=true then wpAny (model prog w) A (eval kx env) (λkv s5=>wpAny (model prog w) A (eval vx env) (λvv s6=>wpAny (model prog w) A (dictSet D kv vv) (λ_ s7=>∃ m,m<n/\I m s7) (λ_ _=>False) s6) (λ_ _=>False) s5) (λ_ _=>False) s4
     else ∃ m,m<n/\I m s4) (λ_ _=>False) s3) (λ_ _=>False) s2) (λ_ _=>False) s1) (λ_ _=>False) s)
  (n:Nat)(h:I n s):codeAny (model prog w) A (.compLoop (.DictComp kx vx [⟨target,iter,ifs,0⟩] scope pos) 0 it (.ref D) env) R s:=by
 refine codeAny_loop rfl I (λn s hI=>?_) n h
 show wpAny _ A ((compTurn (.DictComp kx vx [⟨target,iter,ifs,0⟩] scope pos) 0 it (.ref D) env).onRaise (λx=>do noteFrame x env;theTreesLotGoes x)) _ _ s
 refine wpAny_noted ?_
 rw[compTurn_dict]
 have no:∀ (e:Value)(s':Shared),(λ(_:Value)(_:Shared)=>False) e s'->notedBy (model prog w) A env (λe s'=>R (.error e) s') e s':=λ_ _ z=>z.elim
 refine Γa (wpAny_standAt (Γa (wpAny_mono (turn n s hI) (λr s1 h1=>?_) no)))
 cases r with
 | none=>exact Γb h1
 | some v =>
  refine Γa (wpAny_mono h1 (λ_ s2 h2=>Γa (wpAny_mono h2 (λ_ s3 h3=>Γa (wpAny_mono h3 (λok s4 h4=>?_) no)) no)) no)
  cases ok with
  | true =>
   rw[if_pos rfl] at h4
   simp only[if_true]
   exact Γa (Γa (wpAny_mono h4 (λkv s5 h5=>Γa (Γg (wpAny_mono h5 (λvv s6 h6=>Γa (wpAny_standAt (Γg (wpAny_mono h6 (λ_ s7 h7=>Γb ⟨rfl,h7⟩) no)))) no))) no))
  | false =>
   rw[if_neg Γk] at h4
   simp only[Γp,if_false]
   first
    | exact Γb ⟨rfl,h4⟩
    | exact Γa (Γb (Γb ⟨rfl,h4⟩))
end
def d1b (wi:TI)(g:TG)(tt:TT)(tk tv:TE) (own:Nat):TE:=λσ H Q=>wi σ H λJ H1=>∀ acc,H1 acc=none->∃ W:Nat->Nat->Hp->Prop,(∃ m,W 0 m (upd H1 acc (.dT [])))/\∀ i m H,W i m H ->
 (J.stop i H/\Q (.ref acc) H) ∨ (J.go i H/\∀ x H',J.yld i H x H'->g x (σ++Γj own none) H' λσ2 H2=>Wk (σ++Γj own none) σ2/\tt σ2 H2 λb H3 =>
  if b=true then tk σ2 H3 λy H4=>tv σ2 H4 λv H5=>∃ kvs k b,H5 acc=some (.dT kvs)/\y=.ref b/\H5 b=some (.tup (k.map kV))/\kvs.length<sizeLine/\∃ m',m'<m/\W (i+1) m' (upd H5 acc (.dT (a5g kvs k v))) else ∃ m',m'<m/\W (i+1) m' H3)
section
variable {X:Cx}{kx vx tg iter:Expr}{ifs:List Expr}{scope:Scope}{own:List Str}{pos:Pos}{wi:TI}{g:TG}{tt:TT}{tk tv:TE}
theorem c1f {pins:List (Addr×Obj)}{σ:St}{H2:Hp}{s2:Shared}{Q:VK}{it:Addr}{fp:List Addr}{tn:Nat->Heap->Prop}{J:It}{RR:Value->Addr->Result->Shared->Prop}
  (hu:X.A.units+1<cLine)(hc:X.calm=true)(SC:CScope X scope own)
  (hblock:∀ C s H,PG (cxC X scope own fp C s H) tg g/\PTs (cxC X scope own fp C s H) ifs tt/\PE (cxC X scope own fp C s H) kx tk/\PE (cxC X scope own fp C s H) vx tv)
  (I2:Inv X pins σ H2 s2)(T:Turn X.prog X.w X.K tg J fp it tn)(st2:tn 0 s2.heap)(f2:∀ b∈fp,a9x X pins H2 b)
  (h:∀ acc,H2 acc=none->∃ W:Nat->Nat->Hp->Prop,(∃ m,W 0 m (upd H2 acc (.dT [])))/\∀ i m H,W i m H ->
   (J.stop i H/\Q (.ref acc) H) ∨ (J.go i H/\∀ x H',J.yld i H x H'->g x (σ++Γj own.length none) H' λσ2 H2=>Wk (σ++Γj own.length none) σ2/\tt σ2 H2 λb H3 =>
    if b=true then tk σ2 H3 λy H4=>tv σ2 H4 λv H5=>∃ kvs k b,H5 acc=some (.dT kvs)/\y=.ref b/\H5 b=some (.tup (k.map kV))/\kvs.length<sizeLine/\∃ m',m'<m/\W (i+1) m' (upd H5 acc (.dT (a5g kvs k v))) else ∃ m',m'<m/\W (i+1) m' H3))
  (hRR:∀ acc C H' m s',Inv X pins σ H' s'->s'.heap.Ns C m->C≠X.env.locals->(∀ x c,X.env.cells.lookup x=some c->c≠C)->s2.heap.objs.size<=C->H' C=none->Q (.ref acc) H'->RR (.ref acc) C (.ok .next) s'){E:Value->Shared->Prop} :
  wpAny (model X.prog X.w) X.A (newDict) (λacc s3=>wpAny (model X.prog X.w) X.A (newFunctionEnv scope X.env.globals (a8j X.env.cells scope.names []) [] X.env.qual none .none (some X.env)) (λcenv s4 =>
   codeAny (model X.prog X.w) X.A (.compStart (.DictComp kx vx [⟨tg,iter,ifs,0⟩] scope pos) 0 (.ref it) acc { cenv with scope:=relabel scope X.env }) (RR acc cenv.locals) s4) E s3) E s2:=by
 have hacc:=I2.fresh
 have I3:Inv X pins σ (upd H2 s2.heap.objs.size (.dT [])) { s2 with heap:=s2.heap.push { cls:=.type "dict",data:=.dict #[] },toks:=s2.toks }:=I2.laid (a:=s2.heap.objs.size) (o:=.dT []) (t':=s2.toks) (λ_ _ q=>Γc _ q) (Γi _) (c4b s2.heap I2.big)
 refine wpAny_newObj_type ?_
 obtain⟨W,⟨m0,w0⟩,turn⟩:=h _ hacc
 generalize hs3:({ s2 with heap:=s2.heap.push { cls:=.type "dict",data:=.dict #[] },toks:=s2.toks }:Shared)=s3 at I3
 have keep23:∀ b o,s2.heap.get? b=some o->s3.heap.get? b=some o:=λb o e=>by rw[<- hs3];exact Γc _ e
 have hf3:∀ b∈fp,a9x X pins (upd H2 s2.heap.objs.size (.dT [])) b:=λb hb=>by
  obtain⟨o,ho,_⟩:=T.obj _ _ st2 b hb
  exact⟨by rw[a0g (Γo (Γl ho))];exact (f2 b hb).1,(f2 b hb).2⟩
 have st3:tn 0 s3.heap:=T.keep _ _ _ st2 λb hb o e=>keep23 b o e
 refine a3m λh4 hns' keep34 ok34=>?_
 have I4:=a9j (t4:=s3.toks+([]:List (Str×Value)).length) I3 SC hc hf3 (λb hb=>by obtain⟨o,ho,_⟩:=T.obj _ _ st3 b hb;exact⟨o,ho⟩) hns' keep34 ok34
 have st4:tn 0 h4:=T.keep _ _ _ st3 λb hb o e=>keep34 b o e
 obtain⟨hg,ht,hk',hv'⟩:=hblock s3.heap.objs.size s3 (upd H2 s2.heap.objs.size (.dT []))
 have e5:(cxC X scope own fp s3.heap.objs.size s3 (upd H2 s2.heap.objs.size (.dT []))).env=compEnvC scope (cellsFrom (s3.heap.objs.size+1) scope.names (a8j X.env.cells scope.names [])) s3.heap.objs.size X.env:=rfl
 generalize hY:cxC X scope own fp s3.heap.objs.size s3 (upd H2 s2.heap.objs.size (.dT []))=Y at hg ht hk' hv' I4 e5
 have fpY:∀ {H':Hp},(∀ b∈fp,H' b=none)->∀ b∈fp,a9x Y [] H' b:=λhn b hb=>by
  obtain⟨o,ho,_⟩:=T.obj _ _ st3 b hb
  refine⟨hn b hb,?_,?_,?_,?_,?_⟩
  ·rw[<- hY];exact Γo (Γl ho)
  ·have:=I4.ok.exfs b (by rw[<- hY];exact hb)
   exact this
  ·exact .inl (by rw[<- hY];exact hb)
  ·exact λx c h=>(I4.ok.exf b (by rw[<- hY];exact hb)).2 x c h
  ·intro p hp;rw[<- hY] at hp;exact absurd (show p∈([]:List (Addr×Obj)) from hp) (by simp)
 have hYp:Y.prog=X.prog/\Y.w=X.w/\Y.K=X.K/\Y.calm=true/\Y.A=X.A/\Y.xe=(λ_ _=>False)/\Y.s₀=s3/\Y.H₀=upd H2 s2.heap.objs.size (.dT [])/\Y.outer=X.stack/\Y.ex=fp:=by rw[<- hY];exact⟨rfl,rfl,rfl,hc,rfl,rfl,rfl,rfl,rfl,rfl⟩
 obtain⟨y1,y2,y3,y4,y5,y6,y7,y8,y9,y10⟩:=hYp
 have loop:∀ s5:Shared,s5 = { s3 with heap:=h4,toks:=s3.toks+([]:List (Str×Value)).length } ->
   codeAny (model X.prog X.w) X.A (.compLoop (.DictComp kx vx [⟨tg,iter,ifs,0⟩] scope pos) 0 (.ref it) (.ref s2.heap.objs.size) Y.env) (RR (.ref s2.heap.objs.size) s3.heap.objs.size) s5:=by
  rintro s5 rfl
  refine b3h (λn s'=>∃ i H',Inv Y [] (σ++Γj own.length none) H' s'/\tn i s'.heap/\(∀ b∈fp,H' b=none)/\W i n H') ?_ m0 ⟨0,_,I4,st4,λb hb=>(hf3 b hb).1,w0⟩
  rintro n s6 ⟨i,H6,I6,st6,fr6,w6⟩
  rcases turn i n H6 w6 with⟨stop,q⟩|⟨go,step⟩
  ·have d:=T.done Y y1 y2 y3 y4 i [] s6 _ H6 (λ_ _=>False) I6 (fpY fr6) st6 stop
   rw[y5] at d
   refine thn d λr s7 ⟨hr,I7⟩=>?_
   subst hr
   obtain⟨m,hn,_⟩:=I7.loc
   have hL:Y.env.locals=s3.heap.objs.size:=by rw[e5];rfl
   rw[hL] at hn
   have b7:=I7.base
   rw[y7,y8,y10] at b7
   have b7':Un (frs X.stack) fp (upd H2 s2.heap.objs.size (.dT [])) H6 s3.heap s7.heap:=by
    have z:Y.fs=frs X.stack:=by show frs Y.outer=_;rw[y9]
    rw[z] at b7
    exact b7
   have hok7:=I7.hok
   rw[y1,y2] at hok7
   have os7:=I7.os
   rw[y7] at os7
   have I8:Inv X pins σ H6 s7:=I3.call' os7 b7' hok7 I7.bare λb hb=>⟨(hf3 b hb).2.2.2.1,(hf3 b hb).2.1,(hf3 b hb).2.2.2.2.1,(hf3 b hb).2.2.2.2.2⟩
   have hfree:=I7.free
   rw[hL] at hfree
   refine hRR _ _ H6 m s7 I8 hn (Nat.ne_of_gt I3.lt) (λx c h z=>?_) ?_ hfree q
   ·obtain⟨v,y⟩:=I3.cell x c h
    exact absurd y.lt (by rw[z];exact Nat.lt_irrefl _)
   ·rw[<- hs3,Heap.size_push];exact Nat.le_succ _
  ·have d:=T.item Y y1 y2 y3 y4 i [] s6 _ H6 (λ_ _=>False) I6 (fpY fr6) st6 go
   rw[y5] at d
   refine thn d λr s7 ⟨u,hr,h7⟩=>?_
   subst hr
   refine thn h7 λ_ s8 ⟨x,H8,I8,r8,y8',st8,fr8⟩=>?_
   have I8':=I8.pinned (fpY fr8) (T.obj _ _ st8)
   have pinK:∀ {σ':St}{H':Hp}{s':Shared},Inv Y ([]++a4k fp s8.heap) σ' H' s'->tn (i+1) s'.heap/\∀ b∈fp,H' b=none:=λ{σ' H' s'} I' =>
    ⟨T.keep _ _ _ st8 λb hb o e=>(I'.pin (b,o) (List.mem_append_right _ (List.mem_append_right _ (a1h hb e)))).1,λb hb=>by
     obtain⟨o,e,_⟩:=T.obj _ _ st8 b hb
     exact (I'.pin (b,o) (List.mem_append_right _ (List.mem_append_right _ (a1h hb e)))).2.1⟩
   have dg:=hg _ s8 _ H8 x u _ I8' r8 (step x H8 y8')
   rw[y1,y2,y5,y6] at dg
   refine thn dg λ_ s9 ⟨σ9,H9,I9,wk,q9⟩=>?_
   have dt:=ht _ s9 σ9 H9 _ I9 q9
   rw[y1,y2,y5,y6] at dt
   refine thn dt λok s10 ⟨H10,I10,q10⟩=>?_
   cases ok with
   | true =>
    rw[if_pos rfl] at q10 ⊢
    have dk:=hk' _ s10 σ9 H10 _ I10 q10
    rw[y1,y2,y5,y6] at dk
    refine thn dk λky s11 ⟨v11,H11,I11,r11,q11⟩=>?_
    have dv:=hv' _ s11 σ9 H11 _ I11 q11
    rw[y1,y2,y5,y6] at dv
    refine thn dv λy s12 ⟨v12,H12,I12,r12,kvs,k,b,hys,hyb,hkb,hz,m',hm,w12⟩=>?_
    subst hyb
    cases (show ky=Value.ref b from r11)
    obtain⟨z,hd,xs,rel,dd⟩:=d4e I12.hok hys
    rw[y1,y2] at dd
    have hz':xs.length<=sizeLine:=by rw[<- Paired.length rel];exact z
    have hl:(a5g kvs k v12).length<=sizeLine:=by have:=a2w kvs k v12;lia
    have ko:=a6l I12.hok hkb
    rw[y1,y2] at ko
    refine wpAny_dictSet_heap (knd:=tupleKind (a1b X.prog X.w)) (hsz:=hz') (show X.A.units<cLine by lia) ko dd λh' dd' hs=>?_
    obtain⟨q,es,ep,hq,h2',h3',h4',h5',h6'⟩:=dd'
    rw[<- y1,<- y2] at h4'
    have I13:Inv Y ([]++a4k fp s8.heap) σ9 (upd H12 s2.heap.objs.size (.dT (a5g kvs k v12))) { s12 with heap:=h',toks:=s12.toks+(tupleKind (a1b X.prog X.w)).draws k }:=by
     refine a9q I12 (by rw[hys];exact True.intro) hs ⟨q,hq⟩ ⟨hl,hd,_,(rel.put k hkb r12).keeps λc ys ec=>?_,q,es,ep,hq,h2',h3',h4',h6'⟩
     rw[a0g (d2x ec hys (λz=>nomatch z))]
     exact ec
    obtain⟨t13,f13⟩:=pinK I13
    exact⟨m',hm,i+1,_,(I13.unpinned).weak wk.1.symm wk.2,t13,f13,w12⟩
   | false =>
    rw[if_neg Γk] at q10 ⊢
    obtain⟨m',hm,w10⟩:=q10
    obtain⟨t10,f10⟩:=pinK I10
    exact⟨m',hm,i+1,_,(I10.unpinned).weak wk.1.symm wk.2,t10,f10,w10⟩
 rw[e5] at loop
 exact codeAny_compStart_dict (loop _ rfl) (T.self _ 0 _ _ _ st4 (loop _ rfl))
theorem c2w (hu:X.A.units+1<cLine)(hc:X.calm=true)(SC:CScope X scope own)(hi:PI X.nox tg iter wi)
  (hblock:∀ fp C s H,PG (cxC X scope own fp C s H) tg g/\PTs (cxC X scope own fp C s H) ifs tt/\PE (cxC X scope own fp C s H) kx tk/\PE (cxC X scope own fp C s H) vx tv)
  (hs:∀ x,foldedSetIterable iter X.env x=pure x:=by intro _;rfl) :
  PE X.nox (.DictComp kx vx [⟨tg,iter,ifs,0⟩] scope pos) (d1b wi g tt tk tv own.length):=by
 intro pins s σ H Q I h
 have fr:∀ p∈scope.names,p.2=.free->∃ c,X.env.cells.lookup p.1=some c:=λp hp hq=>I.ok.has p.1 (SC.free p hp hq)
 rw[arm_eval_DictComp]
 refine wpAny_comprehension_free (use:=none) rfl hs (a3x fr) SC.kind SC.names (thn (hi pins s σ H _ I h) λv s1 h1=>thn h1 λitv s2 h2=>?_)
 obtain⟨it,fp,tn,J,H2,e,I2,T,st2,f2,h2⟩:=h2
 subst e
 refine c1f (X:=X.nox) (own:=own) (RR:=λacc C=>compPost (model X.prog X.w) X.A (λ_ _=>False) none (EP X.nox pins σ Q) acc C) hu hc ⟨SC.kind,SC.nocell,SC.names,SC.free,SC.apart,SC.hid⟩ (λC s H=>hblock fp C s H) I2 T st2 f2 h2 ?_
 intro acc C H' m s' I' hn hL hcl hC hH q
 obtain⟨f0,f1,f2',f3,f4,f5⟩:=I2.fpOk hC hH
 refine⟨m,hn,λh' hsb=>⟨.ref acc,H',?_,rfl,q⟩⟩
 exact I'.turned (t':=s'.toks) (λb o hb e=>(hsb.2 b hb).trans e) f0 f1 f3 f4 f5
end
end L2
end
section
namespace L2
open PySem PySem.Spec PyProof.Rows
def b3q (target iter:Expr)(ifs:List Expr)(it:Value)(env:Env)(fin:Sem Fin)(c:Code):Sem Fin:=do
 standAt iter.pos
 match <- pyNext it with
 | none=>pure (.done .next)
 | some v =>
  letOwnedTupleGo target it v
  assign target env v
  let mut ok:=true
  for c in ifs do
   if ok then ok <- isTrue c env (eval c env)
  if ok then fin else again c
def b3a (e iter2:Expr)(acc:Value)(env:Env)(c:Code):Sem Fin:=do
 let x <- eval iter2 env
 standAt iter2.pos
 let x <- foldedSetIterable iter2 env x
 let _ <- runOwn (.compStart e 1 (<- holding [x] (pyIter x)) acc env) env
 again c
section
variable {prog:Program}{w:World}{A:Around}{R:Result->Shared->Prop}{s:Shared}
end
def tIn (wi:TI)(g:TG)(tt:TT)(te:TE)(acc:Addr)(σ:St)(H:Hp)(R:St->Hp->Prop):Prop:=wi σ H λJ H1=>∃ W:Nat->Nat->St->Hp->Prop,(∃ m,W 0 m σ H1)/\∀ i m σ H,W i m σ H ->
 (J.stop i H/\R σ H) ∨ (J.go i H/\∀ x H',J.yld i H x H'->g x σ H' λσ2 H2=>tt σ2 H2 λb H3 =>
  if b=true then te σ2 H3 λv H4=>∃ ys,H4 acc=some (.lst ys)/\ys.length<sizeLine/\∃ m',m'<m/\W (i+1) m' σ2 (upd H4 acc (.lst (ys++[v]))) else ∃ m',m'<m/\W (i+1) m' σ2 H3)
def d1c (wi:TI)(g:TG)(tt:TT)(wi2:TI)(g2:TG)(tt2:TT)(te:TE) (own:Nat):TE:=λσ H Q=>wi σ H λJ H1=>∀ acc,H1 acc=none->∃ W:Nat->Nat->Hp->Prop,(∃ m,W 0 m (upd H1 acc (.lst [])))/\∀ i m H,W i m H ->
 (J.stop i H/\Q (.ref acc) H) ∨ (J.go i H/\∀ x H',J.yld i H x H'->g x (σ++Γj own none) H' λσ2 H2=>Wk (σ++Γj own none) σ2/\tt σ2 H2 λb H3 =>
  if b=true then tIn wi2 g2 tt2 te acc σ2 H3 λσ3 H4=>Wk (σ++Γj own none) σ3/\∃ m',m'<m/\W (i+1) m' H4 else ∃ m',m'<m/\W (i+1) m' H3)
section
variable {X:Cx}{elt tg iter tg2 iter2:Expr}{ifs ifs2:List Expr}{scope:Scope}{own:List Str}{pos:Pos}{wi wi2:TI}{g g2:TG}{tt tt2:TT}{te:TE}
end
end L2
end
section
namespace Kq
open PySem PySem.Spec PyProof.Rows L2
inductive D where
 | non|bl (b:Bool)|int (i:Int)|str (x:String)|tup (xs:List D)|lst (xs:List D)
mutual
noncomputable def D.eqv:D->D->Bool
 | .non,.non=>true
 | .bl a,.bl b=>a == b
 | .bl a,.int j=>(if a then 1 else 0) == j
 | .int i,.bl b=>i == (if b then 1 else 0)
 | .int a,.int b=>a == b
 | .str a,.str b=>a == b
 | .tup a,.tup b=>D.eqvs a b
 | .lst a,.lst b=>D.eqvs a b
 | _,_=>false
noncomputable def D.eqvs:List D->List D->Bool
 | [],[]=>true
 | a :: r,b :: q=>D.eqv a b && D.eqvs r q
 | _,_=>false
end
mutual
noncomputable def D.wt:D->Nat
 | .non=>0|.bl _=>0
 | .int i=>if -(2 ^ 40)<i/\i<2 ^ 40 then 41 else 151
 | .str x=>x.length
 | .tup xs=>D.wts xs
 | .lst xs=>D.wts xs
noncomputable def D.wts:List D->Nat
 | []=>0
 | a :: r=>D.wt a+1+D.wts r
end
mutual
noncomputable def D.fit:D->Bool
 | .int i=>decide (-(2 ^ 150)<i/\i<2 ^ 150)
 | .tup xs=>D.fits xs
 | .lst xs=>D.fits xs
 | _=>true
noncomputable def D.fits:List D->Bool
 | []=>true
 | a :: r=>D.fit a && D.fits r
end
inductive FV where
 | non|bl (b:Bool)|int (i:Int)|str (x:String)|tup (xs:List FV)|lst (xs:List FV)
 | scr (ns:List Int)
 | shn (d:D)
 | dct (ks:List (List Int))(vs:List FV)
 | dci (ks:List Int)(vs:List FV)
 | dcz (o:Obj)(ks:List (List Int))(vs:List FV)
noncomputable def big:Nat:=100000
inductive Mo where|imm|own|frz
 deriving DecidableEq
abbrev Md:=List Mo
abbrev a0c:=List (Option FV)
noncomputable def a0q:Md->Nat->Mo
 | [],_=>.imm
 | m :: _,0=>m
 | _ :: ms,n+1=>a0q ms n
noncomputable def lk:a0c->Nat->Option FV
 | [],_=>none
 | x :: _,0=>x
 | _ :: L,n+1=>lk L n
theorem a4l:∀ (L:a0c) (i:Nat)(v:FV),lk L i=some v↔L[i]?=some (some v)
 | [],i,v=>by simp[lk]
 | x :: L,0,v=>by simp[lk]
 | x :: L,i+1,v=>by simpa[lk] using a4l L i v
noncomputable def wp {α:Type}(r:Option α)(Q:α->Prop):Prop:=match r with
 | some x=>Q x
 | none=>False
theorem wpx {α:Type}{r:Option α}{Q:α->Prop}(h:wp r Q):∃ x,r=some x/\Q x:=by
 cases r with
 | none=>exact h.elim
 | some x=>exact⟨x,rfl,h⟩
mutual
noncomputable def dPy:D->PyData
 | .non=>.none
 | .bl b=>.bool b
 | .int i=>.int i
 | .str x=>.str (Γe x)
 | .tup xs=>.tuple (a3a xs)
 | .lst xs=>.list (a3a xs)
noncomputable def a3a:List D->List PyData
 | []=>[]
 | a :: r=>dPy a :: a3a r
end
noncomputable def a1y (ks:List (List Int)):List (List (Int ⊕ Str)):=ks.map λk=>k.map Sum.inl
noncomputable def a3y (ks:List Int):List (Int ⊕ Str):=ks.map Sum.inl
noncomputable def ScrAt (K:Γd)(S:Hp)(a:Addr)(ns:List Int):Prop:=(∃ o,S a=some (.frz o (.lst (ns.map V.int)))) ∨ SqL K (λ_=>none) a (ns.map V.int)
mutual
noncomputable def RV (K:Γd)(S:Hp):FV->V->Prop
 | .non,v=>v=.non
 | .bl b,v=>v=.bl b
 | .int i,v=>v=.int i
 | .str x,v=>v=.str (Γe x)
 | .tup ps,v=>∃ a xs,v=.ref a/\S a=some (.tup xs)/\RVs K S ps xs
 | .lst ps,v=>∃ a xs,v=.ref a/\S a=some (.lst xs)/\RVs K S ps xs
 | .scr ns,v=>∃ a,v=.ref a/\ScrAt K S a ns
 | .shn d,v=>v=.str (dPy d).shown
 | .dct ks vs,v=>∃ a xs,v=.ref a/\ks.length=vs.length/\S a=some (.dT ((a1y ks).zip xs))/\RVs K S vs xs
 | .dci ks vs,v=>∃ a xs,v=.ref a/\ks.length=vs.length/\S a=some (.dK ((a3y ks).zip xs))/\RVs K S vs xs
 | .dcz o ks vs,v=>∃ a xs,v=.ref a/\ks.length=vs.length/\S a=some (.frz o (.dT ((a1y ks).zip xs)))/\RVs K S vs xs
noncomputable def RVs (K:Γd)(S:Hp):List FV->List V->Prop
 | [],vs=>vs=[]
 | p :: ps,vs=>∃ v r,vs=v :: r/\RV K S p v/\RVs K S ps r
end
mutual
theorem RV.mono {K:Γd}{S S':Hp}(x:Same S S'):∀ {p:FV}{v:V},RV K S p v->RV K S' p v
 | .non,v,h=>h
 | .bl b,v,h=>h
 | .int i,v,h=>h
 | .str _,v,h=>h
 | .shn _,v,h=>h
 | .tup ps,v,⟨a,xs,e,h1,h2⟩=>⟨a,xs,e,x _ _ h1,RVs.mono x h2⟩
 | .lst ps,v,⟨a,xs,e,h1,h2⟩=>⟨a,xs,e,x _ _ h1,RVs.mono x h2⟩
 | .dct ks vs,v,⟨a,xs,e,h0,h1,h2⟩=>⟨a,xs,e,h0,x _ _ h1,RVs.mono x h2⟩
 | .dci ks vs,v,⟨a,xs,e,h0,h1,h2⟩=>⟨a,xs,e,h0,x _ _ h1,RVs.mono x h2⟩
 | .dcz o ks vs,v,⟨a,xs,e,h0,h1,h2⟩=>⟨a,xs,e,h0,x _ _ h1,RVs.mono x h2⟩
 | .scr ns,v,⟨a,e,h⟩=>⟨a,e,h.elim (λ⟨o,h⟩=>.inl ⟨o,x _ _ h⟩) .inr⟩
theorem RVs.mono {K:Γd}{S S':Hp}(x:Same S S'):∀ {ps:List FV}{vs:List V},RVs K S ps vs->RVs K S' ps vs
 | [],vs,h=>h
 | p :: ps,vs,⟨v,r,e,h1,h2⟩=>⟨v,r,e,RV.mono x h1,RVs.mono x h2⟩
end
section
variable {K:Γd}{S H:Hp}
theorem RVs.length:∀ {ps:List FV}{vs:List V},RVs K S ps vs->ps.length=vs.length
 | [],vs,h=>by cases (show vs=[] from h);rfl
 | p :: ps,vs,h=>by
  obtain⟨v,r,e,_,h2⟩:=h
  subst e
  rw[List.length_cons,List.length_cons,RVs.length h2]
theorem RVs.get:∀ {ps:List FV}{vs:List V}{i:Nat}{p:FV},RVs K S ps vs->ps[i]?=some p->∃ v,vs[i]?=some v/\RV K S p v
 | [],vs,i,p,_,e=>by simp at e
 | q :: ps,vs,0,p,⟨v,r,e',h1,_⟩,e=>by
  subst e'
  simp at e;subst e
  exact⟨v,rfl,h1⟩
 | q :: ps,vs,i+1,p,⟨v,r,e',_,h2⟩,e=>by
  subst e'
  simpa using RVs.get (i:=i) (p:=p) h2 (by simpa using e)
theorem RVs.append:∀ {ps qs:List FV}{vs us:List V},RVs K S ps vs->RVs K S qs us->RVs K S (ps++qs) (vs++us)
 | [],qs,vs,us,h,g=>by cases (show vs=[] from h);exact g
 | p :: ps,qs,vs,us,⟨v,r,e,h1,h2⟩,g=>by
  subst e
  exact⟨v,r++us,rfl,h1,RVs.append h2 g⟩
theorem RVs.one {p:FV}{v:V}(h:RV K S p v):RVs K S [p] [v]:=⟨v,[],rfl,h,rfl⟩
theorem RVs.take:∀ {ps:List FV}{vs:List V} (n:Nat),RVs K S ps vs->RVs K S (ps.take n) (vs.take n)
 | [],vs,n,h=>by cases (show vs=[] from h);simp[RVs]
 | p :: ps,vs,0,h=>by simp[RVs]
 | p :: ps,vs,n+1,⟨v,r,e,h1,h2⟩=>by
  subst e
  exact⟨v,r.take n,rfl,h1,RVs.take n h2⟩
theorem RVs.drop:∀ {ps:List FV}{vs:List V} (n:Nat),RVs K S ps vs->RVs K S (ps.drop n) (vs.drop n)
 | [],vs,n,h=>by cases (show vs=[] from h);simp[RVs]
 | p :: ps,vs,0,h=>h
 | p :: ps,vs,n+1,⟨v,r,e,h1,h2⟩=>by
  subst e
  exact RVs.drop n h2
theorem RVs.set:∀ {ps:List FV}{vs:List V} (n:Nat){p:FV}{v:V},RVs K S ps vs->RV K S p v->RVs K S (ps.set n p) (vs.set n v)
 | [],vs,n,p,v,h,_=>by cases (show vs=[] from h);simp[RVs]
 | q :: ps,vs,0,p,v,⟨v',r,e,h1,h2⟩,g=>by
  subst e
  exact⟨v,r,rfl,g,h2⟩
 | q :: ps,vs,n+1,p,v,⟨v',r,e,h1,h2⟩,g=>by
  subst e
  exact⟨v',r.set n v,rfl,h1,RVs.set n h2 g⟩
theorem RVs.rev:∀ {ps:List FV}{vs:List V},RVs K S ps vs->RVs K S ps.reverse vs.reverse
 | [],vs,h=>by cases (show vs=[] from h);exact h
 | p :: ps,vs,⟨v,r,e,h1,h2⟩=>by
  subst e
  rw[List.reverse_cons,List.reverse_cons]
  exact (RVs.rev h2).append (RVs.one h1)
theorem RVs.rep {ps:List FV}{vs:List V}(h:RVs K S ps vs):∀ k:Nat,RVs K S (Γj k ps).flatten (Γj k vs).flatten
 | 0=>rfl
 | k+1=>by
  rw[List.replicate_succ,List.replicate_succ,List.flatten_cons,List.flatten_cons]
  exact h.append (h.rep k)
theorem RVs.ns:∀ (ns:List Int),RVs K S (ns.map .int) (ns.map V.int)
 | []=>rfl
 | n :: ns=>⟨_,_,rfl,rfl,RVs.ns ns⟩
theorem RVs.one_of {p:FV}{us:List V}(h:RVs K S [p] us):∃ u,us=[u]/\RV K S p u:=by
 obtain⟨v,r,rfl,h1,h2⟩:=h
 cases (show r=[] from h2)
 exact⟨v,rfl,h1⟩
theorem RVs.two_of {p q:FV}{us:List V}(h:RVs K S [p,q] us):∃ u v,us=[u,v]/\RV K S p u/\RV K S q v:=by
 obtain⟨v,r,rfl,h1,h2⟩:=h
 obtain⟨u,rfl,h3⟩:=h2.one_of
 exact⟨v,u,rfl,h1,h3⟩
noncomputable def d8u:FV->Option (List FV)
 | .lst ps=>some ps
 | .dct ks vs=>if ks.length=vs.length then some vs else none
 | .dci ks vs=>if ks.length=vs.length then some vs else none
 | .dcz _ ks vs=>if ks.length=vs.length then some vs else none
 | _=>none
noncomputable def d5g:FV->List V->HO
 | .dct ks _,xs=>.dT ((a1y ks).zip xs)
 | .dci ks _,xs=>.dK ((a3y ks).zip xs)
 | .dcz o ks _,xs=>.frz o (.dT ((a1y ks).zip xs))
 | _,xs=>.lst xs
noncomputable def a3z (K:Γd)(S H:Hp)(a:Addr)(v:FV):Prop:=S a=none/\∃ ps xs,d8u v=some ps/\H a=some (d5g v xs)/\RVs K S ps xs
noncomputable def RH (K:Γd)(S H:Hp)(v:FV)(x:V):Prop:=RV K S v x ∨ ∃ a,x=.ref a/\a3z K S H a v
theorem RH.lst {ps:List FV}{x:V}(s:Same S H)(h:RH K S H (.lst ps) x):∃ a xs,x=.ref a/\H a=some (.lst xs)/\RVs K S ps xs:=by
 rcases h with⟨a,xs,e,h1,h2⟩|⟨a,e,_,qs,xs,e2,h1,h2⟩
 ·exact⟨a,xs,e,s _ _ h1,h2⟩
 ·cases e2;exact⟨a,xs,e,h1,h2⟩
theorem RH.val {v:FV}{x:V}(h:RH K S H v x)(n:d8u v=none):RV K S v x:=by
 rcases h with h|⟨a,_,_,ps,xs,e,_⟩
 ·exact h
 ·rw[n] at e;cases e
theorem RH.tup {ps:List FV}{x:V}(s:Same S H)(h:RH K S H (.tup ps) x):∃ a xs,x=.ref a/\H a=some (.tup xs)/\RVs K S ps xs:=by
 obtain⟨a,xs,e,h1,h2⟩:=h.val rfl
 exact⟨a,xs,e,s _ _ h1,h2⟩
theorem ScrAt.sq {a:Addr}{ns:List Int}(s:Same S H)(h:ScrAt K S a ns):SqL K H a (ns.map V.int):=by
 rcases h with⟨o,h⟩|h
 ·exact .inl (.inr ⟨o,s _ _ h⟩)
 ·rcases h with (h|⟨o,h⟩)|h
  ·cases h
  ·cases h
  ·exact .inr h
noncomputable def a2c:FV->Option (List FV)
 | .lst xs=>some xs
 | .scr ns=>some (ns.map .int)
 | _=>none
noncomputable def a3i:FV->Option (List FV)
 | .tup xs=>some xs
 | v=>a2c v
theorem RH.list {v:FV}{ps:List FV}{x:V}(s:Same S H)(h:RH K S H v x)(e:a2c v=some ps):∃ a xs,x=.ref a/\SqL K H a xs/\RVs K S ps xs:=by
 cases v with
 | lst qs =>
  cases e
  obtain⟨a,xs,rfl,h1,h2⟩:=h.lst s
  exact⟨a,xs,rfl,SqL.of h1,h2⟩
 | scr ns =>
  cases e
  obtain⟨a,rfl,g⟩:=h.val rfl
  exact⟨a,_,rfl,ScrAt.sq s g,RVs.ns ns⟩
 | _=>cases e
noncomputable def isL:FV->Bool
 | .tup _=>false
 | _=>true
theorem RH.seq {v:FV}{ps:List FV}{x:V}(s:Same S H)(h:RH K S H v x)(e:a3i v=some ps):∃ a xs,x=.ref a/\SqB (isL v) K H a xs/\RVs K S ps xs:=by
 cases v with
 | tup qs =>
  cases e
  obtain⟨a,xs,rfl,h1,h2⟩:=h.tup s
  exact⟨a,xs,rfl,SqT.of h1,h2⟩
 | lst qs=>exact h.list s e
 | scr qs=>exact h.list s e
 | _=>cases e
end
noncomputable def a9i:HO->Bool
 | .tup _=>true
 | _=>false
theorem a6d (v:FV)(xs:List V):a9i (d5g v xs)=false:=by cases v<;>rfl
structure Cn where
 H0:Hp
 S0:Hp
 P0:Option Addr
 fz:List (Nat×Addr)
 pr:List (Addr×HO)
structure Iv (K:Γd)(c:Cn)(md:Md)(L:a0c)(σ:L2.St)(S H:Hp):Prop where
 len:L.length=σ.length
 imm:∀ i v,a0q md i=.imm->L[i]?=some (some v)->∃ x,σ[i]?=some (some x)/\RV K S v x
 own:∀ i v,a0q md i≠.imm->L[i]?=some (some v)->∃ a,σ[i]?=some (some (.ref a))/\a3z K S H a v/\(c.P0=some a ∨ c.H0 a=none)
 dis:∀ i j v w a,a0q md i≠.imm->a0q md j≠.imm->L[i]?=some (some v)->L[j]?=some (some w)->σ[i]?=some (some (.ref a))->σ[j]?=some (some (.ref a))->i=j
 sub:Same S H
 frame:∀ a o,c.H0 a=some o->c.P0≠some a->H a=some o
 s0:Same c.S0 S
 grow:∀ a o,S a=some o->c.S0 a=some o ∨ c.H0 a=none ∨ a9i o=true
 lent:∀ a,c.P0=some a->a0q md 0≠.imm/\σ[0]?=some (some (.ref a))/\∃ v,L[0]?=some (some v)
 fzs:∀ p∈c.fz,a0q md p.1=.frz/\σ[p.1]?=some (some (.ref p.2))/\∃ v,L[p.1]?=some (some v)
 fzm:∀ i v,a0q md i=.frz->L[i]?=some (some v)->∃ a,(i,a)∈c.fz
 fzp:∀ p∈c.fz,∃ o,(p.2,o)∈c.pr
 prs:∀ p∈c.pr,H p.1=some p.2/\S p.1=none/\∀ i v,a0q md i=.own->L[i]?=some (some v)->σ[i]?≠some (some (.ref p.1))
 ntp:∀ p∈c.pr,a9i p.2=false
section
variable {K:Γd}{c:Cn}{md:Md}{L:a0c}{σ:L2.St}{S H S' H':Hp}
theorem Iv.h0 (I:Iv K c md L σ S H){p:Addr}(h:H p=none):c.H0 p=none:=by
 cases e:c.H0 p with
 | none=>rfl
 | some o =>
  by_cases z:c.P0=some p
  ·obtain⟨m,e1,v,e2⟩:=I.lent p z
   obtain⟨a,e3,⟨_,_,_,_,e4,_⟩,_⟩:=I.own 0 v m e2
   rw[e1] at e3;cases e3
   rw[h] at e4;cases e4
  ·rw[I.frame p o e z] at h;cases h
theorem Iv.sn (I:Iv K c md L σ S H){p:Addr}(h:H p=none):S p=none:=by
 cases e:S p with
 | none=>rfl
 | some o=>rw[I.sub p o e] at h;cases h
theorem Iv.go3 (I:Iv K c md L σ S H)(s:Same S S')(sub:Same S' H')(g:∀ a o,S' a=some o->S a=some o ∨ H a=none ∨ a9i o=true)(k:∀ a o,H a=some o->H' a=some o):Iv K c md L σ S' H' where
 len:=I.len
 imm:=λi v h e=>let ⟨x,e1,r⟩:=I.imm i v h e;⟨x,e1,r.mono s⟩
 own:=λi v h e=>by
  obtain⟨a,e1,⟨h1,ps,xs,e2,h2,h3⟩,h4⟩:=I.own i v h e
  refine⟨a,e1,⟨?_,ps,xs,e2,k _ _ h2,h3.mono s⟩,h4⟩
  cases q:S' a with
  | none=>rfl
  | some o =>
   rcases g a o q with z|z|z
   ·rw[h1] at z;cases z
   ·rw[h2] at z;cases z
   ·have:=sub a o q
    rw[k _ _ h2] at this
    rw[<- Option.some.inj this,a6d] at z;cases z
 dis:=I.dis
 sub:=sub
 frame:=λa o h n=>k _ _ (I.frame a o h n)
 s0:=I.s0.trans s
 grow:=λa o h=>(g a o h).elim (I.grow a o) λz=>z.elim (λz=>.inr (.inl (I.h0 z))) λz=>.inr (.inr z)
 lent:=I.lent
 fzs:=I.fzs
 fzm:=I.fzm
 fzp:=I.fzp
 prs:=λp hp=>by
  obtain⟨h1,h2,h3⟩:=I.prs p hp
  refine⟨k _ _ h1,?_,h3⟩
  cases q:S' p.1 with
  | none=>rfl
  | some o =>
   rcases g _ o q with z|z|z
   ·rw[h2] at z;cases z
   ·rw[h1] at z;cases z
   ·have:=sub _ o q
    rw[k _ _ h1] at this
    rw[<- Option.some.inj this,I.ntp p hp] at z;cases z
 ntp:=I.ntp
theorem Iv.go (I:Iv K c md L σ S H)(s:Same S S')(sub:Same S' H')(g:∀ a o,S' a=some o->S a=some o ∨ H a=none)(k:∀ a o,H a=some o->H' a=some o):Iv K c md L σ S' H':=I.go3 s sub (λa o e=>(g a o e).imp_right .inl) k
theorem a0v {p:Addr}{o:HO}(h:H p=none):Same H (upd H p o):=λa u e=>by rw[a0g (a1a e h)];exact e
theorem Iv.new (I:Iv K c md L σ S H){p:Addr}(h:H p=none)(o:HO):Iv K c md L σ (upd S p o) (upd H p o) :=
 I.go (a0v (I.sn h)) (λa u e=>by
  by_cases z:a=p
  ·subst z;rw[a0h] at e ⊢;exact e
  ·rw[a0g z] at e ⊢;exact I.sub a u e) (λa u e=>by
  by_cases z:a=p
  ·subst z;exact .inr h
  ·rw[a0g z] at e;exact .inl e) (a0v h)
theorem Iv.lay (I:Iv K c md L σ S H){p:Addr}(h:H p=none)(o:HO):Iv K c md L σ S (upd H p o) :=
 I.go (Same.refl S) (I.sub.trans (a0v h)) (λa u e=>.inl e) (a0v h)
theorem Iv.back3 (I:Iv K c md L σ S H){i:Nat}{v w:FV}{a:Addr}(m:a0q md i=.own)(e:L[i]?=some (some v))(e1:σ[i]?=some (some (.ref a)))(s:Same S S')(sub:Same S' H')(g:∀ a o,S' a=some o->S a=some o ∨ H a=none ∨ a9i o=true)
  (k:∀ b o,H b=some o->b≠a->H' b=some o)(new:a3z K S' H' a w):Iv K c md (L.set i (some w)) σ S' H':=by
 have mi:a0q md i≠.imm:=λz=>by rw[m] at z;cases z
 have hi:=(List.getElem?_eq_some_iff.mp e).1
 obtain⟨a',e1',⟨h1,qs,ys,_,h2,h3⟩,h4⟩:=I.own i v mi e
 rw[e1] at e1';cases e1'
 have look:∀ j u,(L.set i (some w))[j]?=some (some u)->(j=i/\u=w) ∨ (j≠i/\L[j]?=some (some u)):=λj u z=>by
  by_cases q:j=i
  ·subst q;rw[List.getElem?_set_self hi] at z;cases z;exact .inl ⟨rfl,rfl⟩
  ·rw[List.getElem?_set_ne (Ne.symm q)] at z;exact .inr ⟨q,z⟩
 have lookx:∀ j,(∃ u,L[j]?=some (some u))->∃ u,(L.set i (some w))[j]?=some (some u):=λj h=>by
  obtain⟨u,z⟩:=h
  by_cases q:j=i
  ·subst q;exact⟨_,List.getElem?_set_self hi⟩
  ·exact⟨u,by rw[List.getElem?_set_ne (Ne.symm q)];exact z⟩
 have old:∀ j u,(L.set i (some w))[j]?=some (some u)->∃ u,L[j]?=some (some u):=λj u z=>(look j u z).elim (λq=>⟨v,by rw[q.1];exact e⟩) λq=>⟨u,q.2⟩
 refine⟨by rw[List.length_set];exact I.len,λj u hm z=>?_,λj u hm z=>?_,λj k u u2 b m1 m2 z1 z2=>?_,sub,λb o z n=>?_,I.s0.trans s,λb o z=>(g b o z).elim (I.grow b o) λz=>z.elim (λz=>.inr (.inl (I.h0 z))) λz=>.inr (.inr z),λb z=>?_,λp hp=>?_,λj u hm z=>?_,I.fzp,λp hp=>?_,I.ntp⟩
 ·rcases look j u z with⟨q,_⟩|⟨_,z⟩
  ·rw[q,m] at hm;cases hm
  ·obtain⟨x,f1,f2⟩:=I.imm j u hm z
   exact⟨x,f1,f2.mono s⟩
 ·rcases look j u z with⟨rfl,rfl⟩|⟨q,z⟩
  ·exact⟨a,e1,new,h4⟩
  ·obtain⟨b,f1,⟨g1,rs,zs,g2,g3,g4⟩,g5⟩:=I.own j u hm z
   have hb:b≠a:=λy=>by subst y;exact q (I.dis j i u v b hm mi z e f1 e1)
   refine⟨b,f1,⟨?_,rs,zs,g2,k b _ g3 hb,g4.mono s⟩,g5⟩
   cases q':S' b with
   | none=>rfl
   | some o =>
    rcases g b o q' with z|z|z
    ·rw[g1] at z;cases z
    ·rw[g3] at z;cases z
    ·have:=sub b o q'
     rw[k b _ g3 hb] at this
     rw[<- Option.some.inj this,a6d] at z;cases z
 ·obtain⟨w',z1⟩:=old j u z1
  obtain⟨u',z2⟩:=old k u2 z2
  exact I.dis j k w' u' b m1 m2 z1 z2
 ·refine k b o (I.frame b o z n) λy=>?_
  subst y
  rcases h4 with y|y
  ·exact n y
  ·rw[z] at y;cases y
 ·obtain⟨g1,g2,g3⟩:=I.lent b z
  exact⟨g1,g2,lookx 0 g3⟩
 ·obtain⟨g1,g2,g4⟩:=I.fzs p hp
  exact⟨g1,g2,lookx _ g4⟩
 ·rcases look j u z with⟨q,_⟩|⟨_,z⟩
  ·rw[q,m] at hm;cases hm
  ·exact I.fzm j u hm z
 ·obtain⟨g1,g2,g3⟩:=I.prs p hp
  have kp:=k _ _ g1 λy=>g3 i v m e (by rw[y];exact e1)
  refine⟨kp,?_,λj u hm z=>let ⟨u',z'⟩:=old j u z;g3 j u' hm z'⟩
  cases q':S' p.1 with
  | none=>rfl
  | some o =>
   rcases g _ o q' with z|z|z
   ·rw[g2] at z;cases z
   ·rw[g1] at z;cases z
   ·have:=sub _ o q'
    rw[kp] at this
    rw[<- Option.some.inj this,I.ntp p hp] at z;cases z
theorem Iv.back (I:Iv K c md L σ S H){i:Nat}{v w:FV}{a:Addr}(m:a0q md i=.own)(e:L[i]?=some (some v))(e1:σ[i]?=some (some (.ref a)))(s:Same S S')(sub:Same S' H')(g:∀ a o,S' a=some o->S a=some o ∨ H a=none)
  (k:∀ b o,H b=some o->b≠a->H' b=some o)(new:a3z K S' H' a w):Iv K c md (L.set i (some w)) σ S' H':=I.back3 m e e1 s sub (λa o e=>(g a o e).imp_right .inl) k new
theorem Iv.write (I:Iv K c md L σ S H){i:Nat}{v:FV}{a:Addr}{ps:List FV}{xs:List V}(m:a0q md i=.own)(e:L[i]?=some (some v))(e1:σ[i]?=some (some (.ref a)))(r:RVs K S ps xs) :
  Iv K c md (L.set i (some (.lst ps))) σ S (upd H a (.lst xs)):=by
 obtain⟨a',e1',⟨h1,_⟩,_⟩:=I.own i v (λz=>by rw[m] at z;cases z) e
 rw[e1] at e1';cases e1'
 exact I.back m e e1 (Same.refl S) (λb o z=>by rw[a0g λy=>by subst y;rw[h1] at z;cases z];exact I.sub b o z) (λb o z=>.inl z) (λb o z n=>by rw[a0g n];exact z) ⟨h1,ps,xs,rfl,a0h,r⟩
theorem Iv.set (I:Iv K c md L σ S H){i:Nat}{v:FV}{x:V}(ni:∀ a,c.P0=some a->i≠0)(nf:a0q md i≠.frz)(h:(a0q md i=.imm/\RV K S v x) ∨ (a0q md i=.own/\∃ a,x=.ref a/\a3z K S H a v/\c.H0 a=none/\(∀ p∈c.pr,p.1≠a)/\∀ j w,j≠i->a0q md j≠.imm->L[j]?=some (some w)->σ[j]?≠some (some (.ref a)))) :
  Iv K c md (L.set i (some v)) (σ.set i (some x)) S H:=by
 have look:∀ j w,(L.set i (some v))[j]?=some (some w)->(j=i/\w=v/\(σ.set i (some x))[j]?=some (some x)) ∨ (j≠i/\L[j]?=some (some w)/\(σ.set i (some x))[j]?=σ[j]?):=λj w z=>by
  by_cases q:j=i
  ·subst q
   have hj:j<L.length:=by have:=(List.getElem?_eq_some_iff.mp z).1;rwa [List.length_set] at this
   rw[List.getElem?_set_self hj] at z;cases z
   exact .inl ⟨rfl,rfl,by rw[List.getElem?_set_self (by rw[<- I.len];exact hj)]⟩
  ·rw[List.getElem?_set_ne (Ne.symm q)] at z
   exact .inr ⟨q,z,List.getElem?_set_ne (Ne.symm q)⟩
 have far:∀ j,j≠i->(L.set i (some v))[j]?=L[j]?/\(σ.set i (some x))[j]?=σ[j]?:=λj q=>⟨List.getElem?_set_ne (Ne.symm q),List.getElem?_set_ne (Ne.symm q)⟩
 refine⟨by rw[List.length_set,List.length_set];exact I.len,λj w hm z=>?_,λj w hm z=>?_,λj k w u b m1 m2 z1 z2 y1 y2=>?_,I.sub,I.frame,I.s0,I.grow,λb z=>?_,λp hp=>?_,λj w hm z=>?_,I.fzp,λp hp=>?_,I.ntp⟩
 ·rcases look j w z with⟨rfl,rfl,y⟩|⟨q,z,y⟩
  ·rcases h with⟨_,r⟩|⟨hm',_⟩
   ·exact⟨x,y,r⟩
   ·rw[hm] at hm';cases hm'
  ·rw[y];exact I.imm j w hm z
 ·rcases look j w z with⟨rfl,rfl,y⟩|⟨q,z,y⟩
  ·rcases h with⟨hm',_⟩|⟨_,a,rfl,o,h0,_,_⟩
   ·exact absurd hm' hm
   ·exact⟨a,y,o,.inr h0⟩
  ·rw[y];exact I.own j w hm z
 ·rcases look j w z1 with⟨p1,p2,p3⟩|⟨p1,p2,p3⟩
  ·rcases look k u z2 with⟨q1,q2,q3⟩|⟨q1,q2,q3⟩
   ·rw[p1,q1]
   ·rcases h with⟨hm',_⟩|⟨_,a,rfl,_,_,_,n⟩
    ·rw[p1] at m1;exact absurd hm' m1
    ·rw[p3] at y1;cases y1
     rw[q3] at y2
     exact absurd y2 (n k u q1 m2 q2)
  ·rw[p3] at y1
   rcases look k u z2 with⟨q1,q2,q3⟩|⟨q1,q2,q3⟩
   ·rcases h with⟨hm',_⟩|⟨_,a,rfl,_,_,_,n⟩
    ·rw[q1] at m2;exact absurd hm' m2
    ·rw[q3] at y2;cases y2
     exact absurd y1 (n j w p1 m1 p2)
   ·rw[q3] at y2
    exact I.dis j k w u b m1 m2 p2 q2 y1 y2
 ·obtain⟨g1,g2,g3⟩:=I.lent b z
  obtain⟨f1,f2⟩:=far 0 (Ne.symm (ni b z))
  rw[f1,f2];exact⟨g1,g2,g3⟩
 ·obtain⟨g1,g2,g4⟩:=I.fzs p hp
  obtain⟨f1,f2⟩:=far p.1 λy=>nf (by rw[<- y];exact g1)
  rw[f1,f2];exact⟨g1,g2,g4⟩
 ·rcases look j w z with⟨rfl,_,_⟩|⟨_,z,_⟩
  ·exact absurd hm nf
  ·exact I.fzm j w hm z
 ·obtain⟨g1,g2,g3⟩:=I.prs p hp
  refine⟨g1,g2,λj w hm z=>?_⟩
  rcases look j w z with⟨q1,q2,q3⟩|⟨q1,q2,q3⟩
  ·rcases h with⟨hm',_⟩|⟨_,a,rfl,_,_,n,_⟩
   ·rw[q1,hm'] at hm;cases hm
   ·rw[q3];exact λy=>n p hp (by cases y;rfl)
  ·rw[q3];exact g3 j w hm q2
theorem Iv.tup (I:Iv K c md L σ S H){b:Addr}{xs:List V}(h:H b=some (.tup xs)):Iv K c md L σ (upd S b (.tup xs)) H/\Same S (upd S b (.tup xs)):=by
 have s:Same S (upd S b (.tup xs)):=λa o e=>by
  by_cases z:a=b
  ·subst z;rw[I.sub _ _ e] at h;rw[h,a0h]
  ·rw[a0g z];exact e
 refine⟨I.go3 s (λa o e=>?_) (λa o e=>?_) λa o e=>e,s⟩
 ·by_cases z:a=b
  ·subst z;rw[a0h] at e;rw[<- e];exact h
  ·rw[a0g z] at e;exact I.sub a o e
 ·by_cases z:a=b
  ·subst z;rw[a0h] at e;cases e;exact .inr (.inr rfl)
  ·rw[a0g z] at e;exact .inl e
end
end Kq
end
section
namespace Kq
noncomputable def a6h {α β:Type}(f:α->Option β):List α->Option (List β)
 | []=>some []
 | x :: xs=>(f x).bind λy=>(a6h f xs).map (y :: ·)
noncomputable def fD:Nat->FV->Option D
 | 0,_=>none
 | n+1,v=>match v with
  | .non=>some .non
  | .bl b=>some (.bl b)
  | .int i=>some (.int i)
  | .str x=>some (.str x)
  | .tup xs=>(a6h (fD n) xs).map .tup
  | .lst xs=>(a6h (fD n) xs).map .lst
  | .scr _=>none
  | .shn _=>none
  | .dct _ _=>none
  | .dci _ _=>none
  | .dcz _ _ _=>none
noncomputable def a0j:Nat:=40
noncomputable def b7o:FV->Option Bool
 | .non=>some false
 | .bl b=>some b
 | .int i=>some (i != 0)
 | .str _=>none
 | .tup xs=>some (!xs.isEmpty)
 | .lst xs=>some (!xs.isEmpty)
 | .scr xs=>some (!xs.isEmpty)
 | .shn _=>none
 | .dct _ _=>none
 | .dci _ _=>none
 | .dcz _ _ _=>none
noncomputable def a3o:FV->Option Int|.int i=>some i|_=>none
noncomputable def blF:FV->Option Bool|.bl b=>some b|_=>none
noncomputable def a7d:FV->Option (List FV)|.tup xs=>some xs|_=>none
noncomputable def a7x:FV->Option (List FV)|.lst xs=>some xs|_=>none
noncomputable def small (i:Int):Bool:=decide (-(2 ^ 64)<i/\i<2 ^ 64)
noncomputable def a1i (i:Int):Bool:=decide (-(2 ^ 62)<=i/\i<2 ^ 62)
noncomputable def a5y (i:Int):Bool:=decide (-(2 ^ 40)<=i/\i<=2 ^ 40)
noncomputable def eqD (a b:FV):Option Bool:=(fD a0j a).bind λx=>(fD a0j b).bind λy=>some (D.eqv x y)
noncomputable def eqF (a b:FV):Option Bool:=match a,b with
 | .shn x,.shn y=>open Classical in if x=y then some true else none
 | a,b=>eqD a b
noncomputable def inD:D->D->Option Bool
 | x,.lst xs=>some (xs.any λy=>D.eqv y x)
 | x,.tup xs=>some (xs.any λy=>D.eqv y x)
 | _,_=>none
noncomputable def inF (a b:FV):Option Bool:=(fD a0j a).bind λx=>(fD a0j b).bind λy=>inD x y
noncomputable def a1d:List FV->Option (List Int)
 | []=>some []
 | .int i :: r=>(a1d r).map (i :: ·)
 | _=>none
noncomputable def a4t:List FV->Option (List Bool)
 | []=>some []
 | .bl b :: r=>(a4t r).map (b :: ·)
 | _=>none
noncomputable def d0t:List FV->Option (List (List Int))
 | []=>some []
 | .tup xs :: r=>(a1d xs).bind λt=>(d0t r).map (t :: ·)
 | _=>none
noncomputable def lexLt:List Int->List Int->Bool
 | [],[]=>false
 | [],_ :: _=>true
 | _ :: _,[]=>false
 | a :: r,b :: q=>if a=b then lexLt r q else decide (a<b)
noncomputable def lexLe:List Int->List Int->Bool
 | [],[]=>true
 | [],_ :: _=>true
 | _ :: _,[]=>false
 | a :: r,b :: q=>if a=b then lexLe r q else decide (a<=b)
noncomputable def a3c (f:Int->Int->Option FV)(v w:FV):Option FV:=(a3o v).bind λi=>(a3o w).bind λj=>f i j
noncomputable def a2e (v w:FV):Option FV:=match v with
 | .tup xs=>(a7d w).bind λys=>if xs.length+ys.length<=big then some (.tup (xs++ys)) else none
 | .lst xs=>(a7x w).bind λys=>if xs.length+ys.length<=big then some (.lst (xs++ys)) else none
 | v=>a3c (λi j=>some (.int (i+j))) v w
noncomputable def b5m:FV->FV->Option FV:=a3c λi j=>some (.int (i-j))
noncomputable def b1v (v w:FV):Option FV:=match v with
 | .lst xs=>(a3o w).bind λk=>if -(2 ^ 63)<=k/\k<2 ^ 63/\xs.length*k.toNat<=big then some (.lst (Γj k.toNat xs).flatten) else none
 | v=>a3c (λi j=>if (small i || small j)=true then some (.int (i*j)) else none) v w
noncomputable def b2z:FV->FV->Option FV:=a3c λi j=>if 0<j/\j<1073741824 then some (.int (i / j)) else none
noncomputable def c5i:FV->FV->Option FV:=a3c λi j=>if 0<j then some (.int (i % j)) else none
noncomputable def c7l:FV->FV->Option FV:=a3c λi j=>if 0<=j/\j<=1000/\small i=true then some (.int (i ^ j.toNat)) else none
noncomputable def eqB (a b:FV):Option FV:=(eqF a b).map .bl
noncomputable def neB (a b:FV):Option FV:=(eqF a b).map λr=>.bl (!r)
noncomputable def inB (a b:FV):Option FV:=(inF a b).map .bl
noncomputable def niB (a b:FV):Option FV:=(inF a b).map λr=>.bl (!r)
noncomputable def ltB (v w:FV):Option FV:=match v with
 | .tup xs=>(a7d w).bind λys=>(a1d xs).bind λa=>(a1d ys).bind λb=>some (.bl (lexLt a b))
 | v=>a3c (λi j=>some (.bl (decide (i<j)))) v w
noncomputable def leB (v w:FV):Option FV:=match v with
 | .tup xs=>(a7d w).bind λys=>(a1d xs).bind λa=>(a1d ys).bind λb=>some (.bl (lexLe a b))
 | v=>a3c (λi j=>some (.bl (decide (i<=j)))) v w
noncomputable def gtB:FV->FV->Option FV:=a3c λi j=>some (.bl (decide (j<i)))
noncomputable def geB:FV->FV->Option FV:=a3c λi j=>some (.bl (decide (j<=i)))
noncomputable def ixN (n:Nat) (i:Int):Option Nat:=if 0<=i then (if i<n then some i.toNat else none) else if -(n:Int)<=i then some (i+n).toNat else none
noncomputable def atF (xs:List FV) (i:Int):Option FV:=(ixN xs.length i).bind λj=>xs[j]?
noncomputable def ixF (v w:FV):Option FV:=(a3o w).bind λj=>(a3i v).bind λxs=>atF xs j
noncomputable def b9a:FV->FV->Option FV:=a3c λi j=>some (.int (if j<i then j else i))
noncomputable def max2F:FV->FV->Option FV:=a3c λi j=>some (.int (if j > i then j else i))
noncomputable def a2x:FV->Option FV|.non=>some (.bl true)|_=>some (.bl false)
noncomputable def a1u:FV->Option FV|.non=>some (.bl false)|_=>some (.bl true)
noncomputable def isBlF (c:Bool):FV->Option FV|.bl b=>some (.bl (b == c))|_=>some (.bl false)
noncomputable def notBlF (c:Bool):FV->Option FV|.bl b=>some (.bl (b != c))|_=>some (.bl true)
noncomputable def d9b (v:FV):Option FV:=(blF v).map λb=>.bl (!b)
noncomputable def d9e (v:FV):Option FV:=(a3o v).map λi=>.int (-i)
noncomputable def turnF (v:FV):Option FV:=(a7d v).map λxs=>.tup xs.reverse
noncomputable def a5j (v:FV):Option FV:=(a3i v).map λxs=>.int xs.length
noncomputable def d4z (v:FV):Option FV:=(a3o v).map λi=>.int (if i<0 then -i else i)
noncomputable def b3s:FV->Option FV|.int i=>some (.int i)|.bl b=>some (.int (if b then 1 else 0))|_=>none
noncomputable def c6m (xs:List FV):Option Int:=(a1d xs).bind λns=>if ns.length<=big/\ns.all a5y=true then some ns.sum else none
noncomputable def sumF (v:FV):Option FV:=(a2c v).bind λxs=>(c6m xs).map .int
noncomputable def c5y (v:FV):Option FV:=(a2c v).bind λxs=>(a4t xs).map λbs=>.bl (bs.all id)
noncomputable def d4y (v:FV):Option FV:=(a2c v).bind λxs=>(a4t xs).map λbs=>.bl (bs.any id)
noncomputable def a1c (b:Int):List Int->Int
 | []=>b
 | x :: r=>a1c (if x<b then x else b) r
noncomputable def c5o (b:List Int):List (List Int)->List Int
 | []=>b
 | x :: r=>c5o (if lexLt x b=true then x else b) r
noncomputable def d3d (xs:List FV):Option FV:=(a1d xs).bind λns=>match ns with
 | n :: r=>some (.int (a1c n r))
 | []=>none
noncomputable def minT (xs:List FV):Option FV:=(d0t xs).bind λns=>match ns with
 | n :: r=>some (.tup ((c5o n r).map .int))
 | []=>none
noncomputable def b5v (v:FV):Option FV:=(a2c v).bind d3d
noncomputable def minTF (v:FV):Option FV:=(a2c v).bind minT
noncomputable def a2z (v:FV):Option FV:=(a3i v).map .tup
noncomputable def d9j (v:FV):Option FV:=(a3i v).map .lst
noncomputable def shnF (v:FV):Option FV:=(fD a0j v).bind λd=>if d.fit=true/\d.wt<=big then some (.shn d) else none
noncomputable def strF (v:FV):Option FV:=match v with
 | .non=>some (.str "None")
 | .bl b=>some (.str (if b then "True" else "False"))
 | .str x=>some (.str x)
 | .int i=>if -(2 ^ 150)<i/\i<2 ^ 150 then some (.str (toString i)) else none
 | .tup xs=>shnF (.tup xs)
 | .lst xs=>shnF (.lst xs)
 | .scr _=>none|.shn _=>none|.dct _ _=>none|.dci _ _=>none|.dcz _ _ _=>none
inductive Ty where|int|bool|str|list|tuple
 deriving DecidableEq
noncomputable def a6n:FV->Ty->Option Bool
 | .non,_=>some false
 | .bl _,t=>some (t == .int || t == .bool)
 | .int _,t=>some (t == .int)
 | .str _,t=>some (t == .str)
 | .tup _,t=>some (t == .tuple)
 | .lst _,t=>some (t == .list)
 | .scr _,_=>none
 | .shn _,t=>some (t == .str)
 | .dct _ _,_=>none
 | .dci _ _,_=>none
 | .dcz _ _ _,_=>none
noncomputable def d0n (t:Ty)(v:FV):Option FV:=(a6n v t).map .bl
noncomputable def isi2F (t u:Ty)(v:FV):Option FV:=(a6n v t).bind λa=>(a6n v u).map λb=>.bl (a || b)
noncomputable def sIx (n d:Nat):Option Int->Nat
 | none=>d
 | some v=>if v<0 then (v+n).toNat else min v.toNat n
noncomputable def b1j {α:Type}(xs:List α)(lo hi:Option Int):List α:=(xs.drop (sIx xs.length 0 lo)).take (sIx xs.length xs.length hi-sIx xs.length 0 lo)
noncomputable def a5z (v:FV)(lo hi:Option Int):Option FV:=match v with
 | .tup xs=>some (.tup (b1j xs lo hi))
 | .lst xs=>some (.lst (b1j xs lo hi))
 | _=>none
abbrev EW:=a0c->(FV->a0c->Prop)->Prop
abbrev BW:=a0c->(Bool->a0c->Prop)->Prop
abbrev AW:=a0c->(List FV->a0c->Prop)->Prop
abbrev OW:=a0c->(Option Int->a0c->Prop)->Prop
noncomputable def a0b (i:Nat):EW:=λL Q=>wp (lk L i) λx=>Q x L
noncomputable def eC (v:FV):EW:=λL Q=>Q v L
noncomputable def eUn (f:FV->Option FV)(a:EW):EW:=λL Q=>a L λx L1=>wp (f x) λz=>Q z L1
noncomputable def eOp (f:FV->FV->Option FV)(a b:EW):EW:=λL Q=>a L λx L1=>b L1 λy L2=>wp (f x y) λz=>Q z L2
noncomputable def b6y (f:FV->FV->Option FV) (i:Nat)(b:EW):EW:=λL Q=>wp (lk L i) λ_=>b L λy L1=>wp (lk L1 i) λx=>wp (f x y) λz=>Q z L1
noncomputable def b1g (f g:FV->FV->Option FV)(a b c:EW):EW:=λL Q=>a L λx L1=>b L1 λy L2=>wp (f x y) λr=>wp (blF r) λr=>if r=true then c L2 λz L3=>wp (g y z) λq=>Q q L3 else Q (.bl false) L2
noncomputable def c4a (a b:EW):EW:=λL Q=>a L λx L1=>wp (b7o x) λr=>if r=true then b L1 Q else Q x L1
noncomputable def eOr (a b:EW):EW:=λL Q=>a L λx L1=>wp (b7o x) λr=>if r=true then Q x L1 else b L1 Q
noncomputable def eIf (c:BW)(a b:EW):EW:=λL Q=>c L λr L1=>if r=true then a L1 Q else b L1 Q
noncomputable def a1z (a:EW):BW:=λL Q=>a L λx L1=>wp (b7o x) λb=>Q b L1
noncomputable def d4v (a b:BW):BW:=λL Q=>a L λr L1=>if r=true then b L1 Q else Q false L1
noncomputable def bOr (a b:BW):BW:=λL Q=>a L λr L1=>if r=true then Q true L1 else b L1 Q
noncomputable def b3l (a:BW):BW:=λL Q=>a L λr L1=>Q (!r) L1
noncomputable def a0u:BW:=λL Q=>Q true L
noncomputable def a0k:AW:=λL Q=>Q [] L
noncomputable def a0a (a:EW)(r:AW):AW:=λL Q=>a L λx L1=>r L1 λxs L2=>Q (x :: xs) L2
noncomputable def a4q (a:AW):EW:=λL Q=>a L λxs L1=>xs.length<=big/\Q (.tup xs) L1
noncomputable def b1f (a:AW):EW:=λL Q=>a L λxs L1=>xs.length<=big/\Q (.lst xs) L1
noncomputable def b0n:OW:=λL Q=>Q none L
noncomputable def a5h (a:EW):OW:=λL Q=>a L λx L1=>wp (a3o x) λi=>Q (some i) L1
noncomputable def eSl (a:EW)(l h:OW):EW:=λL Q=>a L λx L1=>l L1 λi L2=>h L2 λj L3=>wp (a5z x i j) λz=>Q z L3
noncomputable def eSlN (k:Nat)(l h:OW):EW:=λL Q=>wp (lk L k) λ_=>l L λi L2=>h L2 λj L3=>wp (lk L3 k) λx=>wp (a5z x i j) λz=>Q z L3
abbrev CW:=Nat->List FV->(FV×FV->Prop)->Prop
noncomputable def a0i (call:CW) (f:Nat)(a:AW):EW:=λL Q=>a L λxs L1=>call f xs λz=>Q z.1 L1
noncomputable def a1j (call:CW) (f i:Nat)(a:AW):EW:=λL Q=>wp (lk L i) λ_=>a L λxs L1=>wp (lk L1 i) λx=>call f (x :: xs) λz=>Q z.1 (L1.set i (some z.2))
noncomputable def d0f (v y:FV):Option FV:=(a7x v).bind λxs=>if xs.length<big then some (.lst (xs++[y])) else none
noncomputable def nscF:FV->Option (List FV)|.tup xs=>some xs|.lst xs=>some xs|_=>none
noncomputable def extF (v y:FV):Option FV:=(a7x v).bind λxs=>(nscF y).bind λys=>if xs.length+ys.length<=big then some (.lst (xs++ys)) else none
noncomputable def b3c (f:FV->FV->Option FV) (i:Nat)(a:EW):EW:=λL Q=>wp (lk L i) λv=>wp (a7x v) λ_=>a L λy L1=>wp (lk L1 i) λx=>wp (f x y) λz=>Q .non (L1.set i (some z))
noncomputable def upF (lo:Int):Nat->List FV
 | 0=>[]
 | n+1=>.int lo :: upF (lo+1) n
noncomputable def a2v (xs ys:List FV):List FV:=xs.zipWith (λp q=>.tup [p,q]) ys
noncomputable def b2w (a:EW):AW:=λL Q=>a L λx L1=>wp (a3i x) λxs=>Q xs L1
noncomputable def b1a (a:EW):AW:=λL Q=>a L λx L1=>wp (a3o x) λj=>a1i j=true/\Q (upF 0 j.toNat) L1
noncomputable def iRng2 (a b:EW):AW:=λL Q=>a L λx L1=>b L1 λy L2=>wp (a3o x) λi=>wp (a3o y) λj=>(a1i i && a1i j)=true/\Q (upF i (j-i).toNat) L2
noncomputable def c5r (a b:EW):AW:=λL Q=>a L λx L1=>b L1 λy L2=>wp (a3i x) λxs=>wp (a3i y) λys=>Q (a2v xs ys) L2
noncomputable def c3p (a:EW):AW:=λL Q=>a L λx L1=>wp (a3i x) λxs=>Q (a2v (upF 0 xs.length) xs) L1
inductive Tg where|nm (i:Nat)|tp (is:List Nat)|tn (i:Nat)(is:List Nat)
noncomputable def c7x:List FV->Option (FV×FV)|[a,b]=>some (a,b)|_=>none
noncomputable def a7e:a0c->List Nat->List FV->Option a0c
 | L,[],[]=>some L
 | L,i :: is,v :: vs=>a7e (L.set i (some v)) is vs
 | _,_,_=>none
noncomputable def gW (tg:Tg)(v:FV)(L:a0c)(Q:a0c->Prop):Prop:=match tg with
 | .nm i=>Q (L.set i (some v))
 | .tp is=>wp (a7d v) λxs=>wp (a7e L is xs) Q
 | .tn i is=>wp (a7d v) λxs=>wp (c7x xs) λp=>wp (a7d p.2) λys=>wp (a7e (L.set i (some p.1)) is ys) Q
noncomputable def a4y (n m:Nat)(tg:Tg)(t:BW)(e:EW):List FV->List FV->a0c->(List FV->a0c->Prop)->Prop
 | [],acc,L,Q=>Q acc L
 | x :: xs,acc,L,Q=>gW tg x (L++Γj m none) λL1=>t L1 λb L2=>if b=true then e L2 λv L3=>a4y n m tg t e xs (acc++[v]) (L3.take n) Q else a4y n m tg t e xs acc (L2.take n) Q
noncomputable def a1p (n m:Nat)(it:AW)(tg:Tg)(t:BW)(e:EW):EW:=λL Q=>it L λxs L1=>L1.length=n/\xs.length<=big/\a4y n m tg t e xs [] L1 λys L2=>Q (.lst ys) L2
inductive FFl where|next|ret (v:FV)|brk|cont
abbrev SW:=a0c->(FFl->a0c->Prop)->Prop
noncomputable def aft (k:a0c->Prop)(Q:FFl->a0c->Prop):FFl->a0c->Prop
 | .next,L=>k L
 | .ret v,L=>Q (.ret v) L
 | .brk,L=>Q .brk L
 | .cont,L=>Q .cont L
noncomputable def a5f:SW:=λL Q=>Q .next L
noncomputable def a0s (s r:SW):SW:=λL Q=>s L (aft (λL1=>r L1 Q) Q)
noncomputable def a1k (e:EW)(tg:Tg):SW:=λL Q=>e L λx L1=>gW tg x L1 λL2=>Q .next L2
noncomputable def d7n (v j x:FV):Option FV:=(a7x v).bind λxs=>(a3o j).bind λn=>(ixN xs.length n).map λp=>.lst (xs.set p x)
noncomputable def d5f (k:Nat)(i e:EW):SW:=λL Q=>wp (lk L k) λ_=>e L λx L1=>i L1 λj L2=>wp (lk L2 k) λy=>wp (d7n y j x) λz=>Q .next (L2.set k (some z))
noncomputable def d1h (f:FV->FV->Option FV) (i:Nat)(e:EW):SW:=λL Q=>wp (lk L i) λa=>e L λx L1=>wp (f a x) λz=>Q .next (L1.set i (some z))
noncomputable def a1n (e:EW):SW:=λL Q=>e L λx L1=>Q (.ret x) L1
noncomputable def sRetN:SW:=λL Q=>Q (.ret .non) L
noncomputable def c6u (e:EW):SW:=λL Q=>e L λ_ L1=>Q .next L1
noncomputable def sIf (c:BW)(a b:SW):SW:=λL Q=>c L λr L1=>if r=true then a L1 Q else b L1 Q
noncomputable def sBrk:SW:=λL Q=>Q .brk L
noncomputable def sCont:SW:=λL Q=>Q .cont L
noncomputable def b1z (k:a0c->Prop)(Q:FFl->a0c->Prop):FFl->a0c->Prop
 | .next,L=>k L
 | .cont,L=>k L
 | .brk,L=>Q .next L
 | .ret v,L=>Q (.ret v) L
noncomputable def c9e (tg:Tg)(b:SW):List FV->a0c->(FFl->a0c->Prop)->Prop
 | [],L,Q=>Q .next L
 | x :: xs,L,Q=>gW tg x L λL1=>b L1 (b1z (λL2=>c9e tg b xs L2 Q) Q)
noncomputable def b5r (it:AW)(tg:Tg)(b:SW):SW:=λL Q=>it L λxs L1=>c9e tg b xs L1 Q
noncomputable def d0j (c:BW)(b:SW):Nat->a0c->(FFl->a0c->Prop)->Prop
 | 0,_,_=>False
 | n+1,L,Q=>c L λr L1=>if r=true then b L1 (b1z (λL2=>d0j c b n L2 Q) Q) else Q .next L1
noncomputable def d0l (c:BW)(b:SW):SW:=λL Q=>∃ n,d0j c b n L Q
structure FD where
 np:Nat
 ns:Nat
 body:CW->SW
 io:Bool
 fr:Bool
noncomputable def c1y (io fr:Bool)(Q:FV×FV->Prop):FFl->a0c->Prop
 | .ret v,L=>match io with
  | true=>wp (lk L 0) λx=>Q (v,x)
  | false=>Q (v,.non)
 | .next,L=>match fr with
  | true=>False
  | false=>match io with
   | true=>wp (lk L 0) λx=>Q (.non,x)
   | false=>Q (.non,.non)
 | _,_=>False
noncomputable def callW (tb:List FD):Nat->CW
 | 0,_,_,_=>False
 | d+1,f,args,Q=>match tb[f]? with
  | none=>False
  | some fd=>args.length=fd.np/\fd.body (callW tb d) (args.map some++Γj (fd.ns-fd.np) none) (c1y fd.io fd.fr Q)
end Kq
end
section
namespace Kq
open PySem PySem.Spec PyProof.Rows L2
theorem b0m {x y:String}(h:Γe x=Γe y):x=y:=by
 rw[Str.ofString_eq_toList,Str.ofString_eq_toList] at h
 have h2:x.toList.map Char.toNat=y.toList.map Char.toNat:=by
  injection h with h
  simpa using congrArg Array.toList h
 have inj:∀ (a b:List Char),a.map Char.toNat=b.map Char.toNat->a=b:=by
  intro a
  induction a with
  | nil=>intro b hb;cases b<;>simp_all
  | cons c a ih =>
   intro b hb
   cases b with
   | nil=>simp at hb
   | cons d b =>
    simp only[List.map_cons,List.cons.injEq] at hb
    rw[ih b hb.2,Char.toNat_inj.mp hb.1]
 exact String.toList_inj.mp (inj _ _ h2)
theorem d1e (a b:String):(Γe a == Γe b)=(a == b):=by
 rw[Bool.eq_iff_iff]
 simp only[beq_iff_eq]
 exact⟨b0m,λh=>by rw[h]⟩
theorem d1d (x:String):PyData.strOk (Γe x)=true:=by
 rw[Str.ofString_eq_toList]
 unfold PyData.strOk
 simp only[List.all_toArray,List.all_map,List.all_eq_true,Function.comp_apply,decide_eq_true_eq]
 intro c _
 have h:c.val.toNat<0xd800 ∨ (0xdfff<c.val.toNat/\c.val.toNat<0x110000):=c.valid
 show c.val.toNat<1114112
 lia
mutual
theorem a5k:∀ d:D,(dPy d).canLay0=true
 | .non=>rfl
 | .bl _=>rfl
 | .int _=>rfl
 | .str x=>by simp only[dPy,PyData.canLay0];exact d1d x
 | .tup xs=>by simp only[dPy,PyData.canLay0];exact a4r xs
 | .lst xs=>by simp only[dPy,PyData.canLay0];exact a4r xs
theorem a4r:∀ xs:List D,PyData.canLayAll0 (a3a xs)=true
 | []=>rfl
 | x :: xs=>by simp only[a3a,PyData.canLayAll0,a5k x,a4r xs,Bool.and_self]
end
mutual
theorem b6i:∀ a b:D,PyData.eqv (dPy a) (dPy b)=D.eqv a b
 | .non,b=>by cases b<;>simp only[dPy,PyData.eqv,D.eqv]
 | .bl _,b=>by cases b<;>simp only[dPy,PyData.eqv,D.eqv]
 | .int _,b=>by cases b<;>simp only[dPy,PyData.eqv,D.eqv]
 | .str x,b=>by cases b<;>simp only[dPy,PyData.eqv,D.eqv,d1e]
 | .tup xs,b=>by cases b<;>simp only[dPy,PyData.eqv,D.eqv,c0y]
 | .lst xs,b=>by cases b<;>simp only[dPy,PyData.eqv,D.eqv,c0y]
theorem c0y:∀ a b:List D,PyData.eqvAll (a3a a) (a3a b)=D.eqvs a b
 | [],b=>by cases b<;>simp only[a3a,PyData.eqvAll,D.eqvs]
 | x :: xs,b=>by cases b<;>simp only[a3a,PyData.eqvAll,D.eqvs,b6i,c0y]
end
theorem c0z (x:D):∀ xs:List D,((a3a xs).any λy=>PyData.eqv y (dPy x))=xs.any λy=>D.eqv y x
 | []=>rfl
 | y :: r=>by simp only[a3a,List.any_cons,b6i,c0z x r]
mutual
theorem c4g:∀ d:D,(dPy d).hasDict=false
 | .non=>rfl
 | .bl _=>rfl
 | .int _=>rfl
 | .str x=>rfl
 | .tup xs=>by simp only[dPy,PyData.hasDict];exact a6x xs
 | .lst xs=>by simp only[dPy,PyData.hasDict];exact a6x xs
theorem a6x:∀ xs:List D,PyData.hasDictAll (a3a xs)=false
 | []=>rfl
 | x :: xs=>by simp only[a3a,PyData.hasDictAll,c4g x,a6x xs,Bool.or_self]
end
theorem log2_lt {i:Int}{k:Nat}(hk:0<k)(h:-(2 ^ k:Int)<i/\i<2 ^ k):i.natAbs.log2<k:=by
 by_cases h0:i.natAbs=0
 ·rw[h0];simpa using hk
 ·rw[Nat.log2_lt h0]
  have e:((2 ^ k:Nat):Int)=(2:Int) ^ k:=by rw[Int.natCast_pow];rfl
  lia
mutual
theorem e2x:∀ d:D,d.fit=true->(dPy d).showable=true/\(dPy d).intsShort 160=true/\(dPy d).weight<=d.wt
 | .non,_=>⟨rfl,rfl,Γi _⟩
 | .bl _,_=>⟨rfl,rfl,Γi _⟩
 | .int i,h=>by
  have h:-(2 ^ 150:Int)<i/\i<2 ^ 150:=by simpa[D.fit] using h
  have l1:=log2_lt (k:=150) (by decide) h
  refine⟨?_,?_,?_⟩
  ·simp only[dPy,PyData.showable,decide_eq_true_eq];lia
  ·simp only[dPy,PyData.intsShort,decide_eq_true_eq]
   have e:=int_text_length_le (k:=150) (by decide) l1
   show (Γe (toString i)).length<=160
   rw[PySem.ofString_length];lia
  ·simp only[dPy,PyData.weight,D.wt]
   split
   ·lia
   ·split
    ·rename_i hs
     have l2:=log2_lt (k:=40) (by decide) hs
     lia
    ·lia
 | .str x,_=>by
  refine⟨rfl,rfl,?_⟩
  simp only[dPy,PyData.weight,D.wt]
  have:(Γe x).length=x.length:=PySem.ofString_length x
  exact Nat.le_of_eq this
 | .tup xs,h=>by
  obtain⟨h1,h2,h3⟩:=c0x xs (by simpa only[D.fit] using h)
  exact⟨by simpa only[dPy,PyData.showable] using h1,by simpa only[dPy,PyData.intsShort] using h2,by simpa only[dPy,PyData.weight,D.wt] using h3⟩
 | .lst xs,h=>by
  obtain⟨h1,h2,h3⟩:=c0x xs (by simpa only[D.fit] using h)
  exact⟨by simpa only[dPy,PyData.showable] using h1,by simpa only[dPy,PyData.intsShort] using h2,by simpa only[dPy,PyData.weight,D.wt] using h3⟩
theorem c0x:∀ xs:List D,D.fits xs=true->PyData.showableAll (a3a xs)=true/\PyData.intsShortAll 160 (a3a xs)=true/\PyData.weightAll (a3a xs)<=D.wts xs
 | [],_=>⟨rfl,rfl,Γi _⟩
 | x :: xs,h=>by
  have h:x.fit=true/\D.fits xs=true:=by simpa only[D.fits,Bool.and_eq_true] using h
  obtain⟨a1,a2,a3⟩:=e2x x h.1
  obtain⟨b1,b2,b3⟩:=c0x xs h.2
  refine⟨?_,?_,?_⟩
  ·simp only[a3a,PyData.showableAll,a1,b1,Bool.and_self]
  ·simp only[a3a,PyData.intsShortAll,a2,b2,Bool.and_self]
  ·simp only[a3a,PyData.weightAll,D.wts];lia
end
theorem b4g {α β:Type}{f:α->Option β}:∀ {xs:List α}{ys:List β},a6h f xs=some ys->ys.length=xs.length
 | [],ys,h=>by cases h;rfl
 | x :: xs,ys,h=>by
  simp only[a6h] at h
  cases e1:f x with
  | none=>rw[e1] at h;cases h
  | some y =>
   rw[e1] at h
   cases e2:a6h f xs with
   | none=>simp only[Option.bind_some,e2] at h;cases h
   | some zs=>simp only[Option.bind_some,e2,Option.map_some] at h;cases h;rw[List.length_cons,List.length_cons,b4g e2]
theorem bnd {α β:Type}{o:Option α}{f:α->Option β}{z:β}(h:o.bind f=some z):∃ a,o=some a/\f a=some z:=Option.bind_eq_some_iff.mp h
theorem mpd {α β:Type}{o:Option α}{f:α->β}{z:β}(h:o.map f=some z):∃ a,o=some a/\f a=z:=Option.map_eq_some_iff.mp h
theorem itd {α:Type}{c:Prop} [Decidable c] {a b:α}(h:(if c then some a else none)=some b):c/\a=b:=by
 by_cases z:c
 ·rw[if_pos z] at h;exact⟨z,Option.some.inj h⟩
 ·rw[if_neg z] at h;cases h
theorem a4p:∀ {n:Nat}{p:FV}{d:D},fD n p=some d->(dPy d).depth<=n
 | 0,p,d,h=>by cases h
 | n+1,p,d,h=>by
  have ds:∀ {ps:List FV}{ds:List D},a6h (fD n) ps=some ds->PyData.depthAll (a3a ds)<=n:=by
   intro ps
   induction ps with
   | nil=>intro ds h;cases h;simp[a3a,PyData.depthAll]
   | cons q ps ih =>
    intro ds h
    obtain⟨y,e1,h⟩:=bnd h
    obtain⟨zs,e2,rfl⟩:=mpd h
    simp only[a3a,PyData.depthAll]
    exact Nat.max_le.mpr ⟨a4p e1,ih e2⟩
  cases p with
  | tup ps=>obtain⟨zs,e,rfl⟩:=mpd (show (a6h (fD n) ps).map D.tup=some d from h);simp only[dPy,PyData.depth];have:=ds e;lia
  | lst ps=>obtain⟨zs,e,rfl⟩:=mpd (show (a6h (fD n) ps).map D.lst=some d from h);simp only[dPy,PyData.depth];have:=ds e;lia
  | non=>cases h;simp[dPy,PyData.depth]
  | bl _=>cases h;simp[dPy,PyData.depth]
  | int _=>cases h;simp[dPy,PyData.depth]
  | str _=>cases h;simp[dPy,PyData.depth]
  | scr _=>cases h
  | shn _=>cases h
  | dct _ _=>cases h
  | dci _ _=>cases h
  | dcz _ _ _=>cases h
section
variable {X:Cx}{pins:List (Addr×Obj)}{σ:L2.St}{S H:Hp}{s:Shared}
noncomputable def e4j (X:Cx)(S:Hp)(s:Shared) (n:Nat):Prop:=∀ (p:FV)(v:V)(u:Value)(d:D),RV X.K S p v->RelV v u->fD n p=some d->∃ as,Reads s.heap u (dPy d) as
theorem a6c {n:Nat}(R:e4j X S s n):∀ {ps:List FV}{vs:List V}{us:List Value}{ds:List D},RVs X.K S ps vs->Vals vs us->a6h (fD n) ps=some ds->∃ as,ReadsAll s.heap us (a3a ds) as
 | [],vs,us,ds,r,q,h=>by
  cases (show vs=[] from r)
  cases q
  cases h
  exact⟨[],.nil⟩
 | p :: ps,vs,us,ds,r,rq,h=>by
  obtain⟨v1,vr,rfl,r1,r2⟩:=r
  cases rq with
  | cons q1 q2 =>
   obtain⟨y,e1,h⟩:=bnd h
   obtain⟨zs,e2,rfl⟩:=mpd h
   obtain⟨as,ra⟩:=R _ _ _ _ r1 q1 e1
   obtain⟨bs,rb⟩:=a6c R r2 q2 e2
   exact⟨as++bs,.cons ra rb⟩
theorem b0h {n:Nat}(I:Inv X pins σ H s)(R:e4j X S s n){a:Addr}{xs:List V}{ps:List FV}{d:D}(h1:H a=some (.lst xs))(h2:RVs X.K S ps xs)(h:(a6h (fD n) ps).map D.lst=some d):∃ as,Reads s.heap (.ref a) (dPy d) as:=by
 obtain⟨zs,e,rfl⟩:=mpd h
 obtain⟨its,rr,⟨o,k,e1,e2,e2',e3⟩,_⟩:=I.list (SqL.of h1)
 obtain⟨as,ra⟩:=a6c R h2 rr e
 exact⟨a :: as,.list e1 e2 e3 (by simpa using ra)⟩
theorem a8u (I:Inv X pins σ H s)(hs:Same S H):∀ n,e4j X S s n
 | 0,p,v,u,d,_,_,h=>by cases h
 | n+1,p,v,u,d,rp,rv,h=>by
  have R:=a8u I hs n
  cases p with
  | tup ps =>
   obtain⟨a,xs,rfl,h1,h2⟩:=rp
   cases (show u=Value.ref a from rv)
   obtain⟨zs,e,rfl⟩:=mpd (show (a6h (fD n) ps).map D.tup=some d from h)
   obtain⟨its,rr,⟨o,e1,e2,k,e3⟩,_⟩:=I.tuple (SqT.of (hs _ _ h1))
   obtain⟨as,ra⟩:=a6c R h2 rr e
   exact⟨as,.tuple e1 e2 e3 (by simpa using ra)⟩
  | lst ps =>
   obtain⟨a,xs,rfl,h1,h2⟩:=rp
   cases (show u=Value.ref a from rv)
   exact b0h I R (hs _ _ h1) h2 h
  | non=>cases h;cases (show v=_ from rp);cases (show u=_ from rv);exact⟨_,.none⟩
  | bl _=>cases h;cases (show v=_ from rp);cases (show u=_ from rv);exact⟨_,.bool _⟩
  | int _=>cases h;cases (show v=_ from rp);obtain⟨t,rfl⟩:=rv;exact⟨_,.int _ _⟩
  | str _=>cases h;cases (show v=_ from rp);obtain⟨t,rfl⟩:=rv;exact⟨_,.str _ _⟩
  | scr _=>cases h
  | shn _=>cases h
  | dct _ _=>cases h
  | dci _ _=>cases h
  | dcz _ _ _=>cases h
theorem a2p (I:Inv X pins σ H s)(hs:Same S H){n:Nat}{p:FV}{v:V}{u:Value}{d:D}(rp:RH X.K S H p v)(rv:RelV v u)(h:fD n p=some d):∃ as,Reads s.heap u (dPy d) as:=by
 rcases rp with rp|⟨a,rfl,_,ps,xs,e,h1,h2⟩
 ·exact a8u I hs n p v u d rp rv h
 ·cases (show u=Value.ref a from rv)
  cases n with
  | zero=>cases h
  | succ n =>
   cases p with
   | lst qs=>cases e;exact b0h I (a8u I hs n) h1 h2 h
   | dct _ _=>cases h
   | dci _ _=>cases h
   | dcz _ _ _=>cases h
   | _=>cases e
end
theorem a1q:big<=sizeLine:=by decide
theorem a0t {v:FV}{i:Int}(h:a3o v=some i):v=.int i:=by cases v<;>cases h;rfl
theorem d4u {v:FV}{i:Bool}(h:blF v=some i):v=.bl i:=by cases v<;>cases h;rfl
theorem a1s {v:FV}{i:List FV}(h:a7d v=some i):v=.tup i:=by cases v<;>cases h;rfl
theorem a6i {v:FV}{i:List FV}(h:a7x v=some i):v=.lst i:=by cases v<;>cases h;rfl
structure NewOr (K:Γd)(S H:Hp)(Q:VK)(z:FV):Prop where
 old:∀ x,(∀ ps,z≠.lst ps)->RV K S z x->Q x H
 tup:∀ ps xs p,z=.tup ps->RVs K S ps xs->H p=none->Q (.ref p) (upd H p (.tup xs))
 lst:∀ ps xs p,z=.lst ps->RVs K S ps xs->H p=none->Q (.ref p) (upd H p (.lst xs))
section
variable {X:Cx}{K:Γd}{S H:Hp}{Q:VK}
theorem NewOr.bl {b:Bool}(k:NewOr K S H Q (.bl b)):Q (.bl b) H:=k.old _ (λ_ z=>nomatch z) rfl
theorem NewOr.int {b:Int}(k:NewOr K S H Q (.int b)):Q (.int b) H:=k.old _ (λ_ z=>nomatch z) rfl
theorem NewOr.str {b:String}(k:NewOr K S H Q (.str b)):Q (.str (Γe b)) H:=k.old _ (λ_ z=>nomatch z) rfl
theorem RH.int {i:Int}{x:V}(h:RH K S H (.int i) x):x=.int i:=h.val rfl
theorem RH.bl {i:Bool}{x:V}(h:RH K S H (.bl i) x):x=.bl i:=h.val rfl
noncomputable def Rq (K:Γd)(f:FV->FV->Option FV):R2:=λx y H Q=>∃ S v w z,Same S H/\RH K S H v x/\RH K S H w y/\f v w=some z/\NewOr K S H Q z
theorem a7f {g:Value->Value->Sem Value}{f:Int->Int->Option FV}{r:R2}(o:OpR X g r)(h:∀ i j z H Q,f i j=some z->(∀ x,(∀ S,RV X.K S z x)->Q x H)->r (.int i) (.int j) H Q)(n:∀ i j z,f i j=some z->∀ ps,z≠.lst ps):OpR X g (Rq X.K (a3c f)):=by
 intro pins s σ H x y u1 u2 Q I rx ry ⟨S,v,w,z,hs,hv,hw,e,k⟩
 obtain⟨i,e1,e⟩:=bnd e
 obtain⟨j,e2,e⟩:=bnd e
 cases a0t e1;cases a0t e2
 obtain rfl:=hv.int
 obtain rfl:=hw.int
 exact o pins s σ H _ _ u1 u2 Q I rx ry (h i j z H Q e λx hx=>k.old x (n i j z e) (hx S))
theorem d8b:OpR X (binaryOp .Sub) (Rq X.K b5m):=a7f d2l (λi j z H Q e k=>⟨i,j,rfl,rfl,k _ λS=>by cases e;rfl⟩) λi j z e ps=>by cases e;exact λz=>nomatch z
theorem d1p:OpR X (binaryOp .FloorDiv) (Rq X.K b2z):=a7f c8a (λi j z H Q e k=>⟨i,j,rfl,rfl,(itd e).1,k _ λS=>by cases (itd e).2;rfl⟩) λi j z e ps=>by cases (itd e).2;exact λz=>nomatch z
theorem d8f:OpR X (binaryOp .Mod) (Rq X.K c5i):=a7f d2p (λi j z H Q e k=>⟨i,j,rfl,rfl,(itd e).1,k _ λS=>by cases (itd e).2;rfl⟩) λi j z e ps=>by cases (itd e).2;exact λz=>nomatch z
theorem d8c:OpR X (binaryOp .Pow) (Rq X.K c7l):=a7f d2n (λi j z H Q e k=>⟨i,j,rfl,rfl,by
 obtain⟨h1,h2,h3⟩:=(itd e).1
 have:-(2 ^ 64)<i/\i<2 ^ 64:=by simpa[small] using h3
 exact⟨h1,by lia,by lia⟩,k _ λS=>by cases (itd e).2;rfl⟩) λi j z e ps=>by cases (itd e).2;exact λz=>nomatch z
theorem q_gt:OpR X (compareOp .Gt) (Rq X.K gtB):=a7f d8y (λi j z H Q e k=>⟨i,j,rfl,rfl,k _ λS=>by cases e;rfl⟩) λi j z e ps=>by cases e;exact λz=>nomatch z
theorem q_ge:OpR X (compareOp .GtE) (Rq X.K geB):=a7f d8z (λi j z H Q e k=>⟨i,j,rfl,rfl,k _ λS=>by cases e;rfl⟩) λi j z e ps=>by cases e;exact λz=>nomatch z
theorem d1s:OpR X (binaryOp .Add) (Rq X.K (a3c λi j=>some (.int (i+j)))):=a7f d2t (λi j z H Q e k=>⟨i,j,rfl,rfl,k _ λS=>by cases e;rfl⟩) λi j z e ps=>by cases e;exact λz=>nomatch z
theorem d1m:OpR X (binaryOp .Mult) (Rq X.K (a3c λi j=>if (small i || small j)=true then some (.int (i*j)) else none)):=a7f d2o (λi j z H Q e k=>⟨i,j,rfl,rfl,by
 have:=(itd e).1
 simp only[small,Bool.or_eq_true,decide_eq_true_eq] at this
 exact this,k _ λS=>by cases (itd e).2;rfl⟩) λi j z e ps=>by cases (itd e).2;exact λz=>nomatch z
theorem d8g:OpR X (compareOp .Lt) (Rq X.K (a3c λi j=>some (.bl (decide (i<j))))):=a7f d8w (λi j z H Q e k=>⟨i,j,rfl,rfl,k _ λS=>by cases e;rfl⟩) λi j z e ps=>by cases e;exact λz=>nomatch z
theorem d8i:OpR X (compareOp .LtE) (Rq X.K (a3c λi j=>some (.bl (decide (i<=j))))):=a7f d8x (λi j z H Q e k=>⟨i,j,rfl,rfl,k _ λS=>by cases e;rfl⟩) λi j z e ps=>by cases e;exact λz=>nomatch z
theorem d1r {xs ys:List FV}{x y:V}{z:FV}{pins:List (Addr×Obj)}{σ:L2.St}{s:Shared}{u1 u2:Value}(I:Inv X pins σ H s)(rx:RelV x u1)(ry:RelV y u2)(hs:Same S H)(hv:RH X.K S H (.tup xs) x)(hw:RH X.K S H (.tup ys) y)
  (e:(if xs.length+ys.length<=big then some (FV.tup (xs++ys)) else none)=some z)(k:NewOr X.K S H Q z):wpAny (model X.prog X.w) X.A (binaryOp .Add u1 u2) (EP X pins σ Q) X.xe s:=by
 obtain⟨hc,rfl⟩:=itd e
 have rv:=hv.val rfl
 have rw':=hw.val rfl
 obtain⟨a,as,rfl,ha,ra⟩:=hv.tup hs
 obtain⟨b,bs,rfl,hb,rb⟩:=hw.tup hs
 have l1:=ra.length
 have l2:=rb.length
 have hl:=a1q
 by_cases h0:as=[]
 ·subst h0
  have z2:xs=[]:=List.eq_nil_of_length_eq_zero (by simpa using l1)
  subst z2
  exact c2y pins s σ H _ _ u1 u2 Q I rx ry ⟨a,b,bs,rfl,rfl,SqT.of ha,SqT.of hb,k.old _ (λ_ z=>nomatch z) rw'⟩
 refine c8b pins s σ H _ _ u1 u2 Q I rx ry ⟨a,b,as,bs,rfl,rfl,SqT.of ha,SqT.of hb,h0,by lia,λz=>?_,λ_ p hp=>k.tup _ _ p rfl (ra.append rb) hp⟩
 subst z
 have z2:ys=[]:=List.eq_nil_of_length_eq_zero (by simpa using l2)
 subst z2
 exact k.old _ (λ_ z=>nomatch z) (by rw[List.append_nil];exact rv)
theorem d8k:OpR X (binaryOp .Add) (Rq X.K a2e):=by
 intro pins s σ H x y u1 u2 Q I rx ry ⟨S,v,w,z,hs,hv,hw,e,k⟩
 cases v with
 | tup xs =>
  obtain⟨ys,e1,e⟩:=bnd e
  cases a1s e1
  exact d1r I rx ry hs hv hw e k
 | lst xs =>
  obtain⟨ys,e1,e⟩:=bnd e
  cases a6i e1
  obtain⟨hc,rfl⟩:=itd e
  obtain⟨a,as,rfl,ha,ra⟩:=hv.lst hs
  obtain⟨b,bs,rfl,hb,rb⟩:=hw.lst hs
  have l1:=ra.length
  have l2:=rb.length
  have hl:=a1q
  exact d2s pins s σ H _ _ u1 u2 Q I rx ry ⟨a,b,as,bs,rfl,rfl,ha,hb,by lia,λp hp=>k.lst _ _ p rfl (ra.append rb) hp⟩
 | _=>exact d1s pins s σ H x y u1 u2 Q I rx ry ⟨S,_,w,z,hs,hv,hw,e,k⟩
theorem d8e:OpR X (binaryOp .Mult) (Rq X.K b1v):=by
 intro pins s σ H x y u1 u2 Q I rx ry ⟨S,v,w,z,hs,hv,hw,e,k⟩
 cases v with
 | lst xs =>
  obtain⟨j,e1,e⟩:=bnd e
  cases a0t e1
  obtain⟨hc,rfl⟩:=itd e
  obtain⟨a,as,rfl,ha,ra⟩:=hv.lst hs
  obtain rfl:=hw.int
  have l1:=ra.length
  have hl:=a1q
  exact d2m pins s σ H _ _ u1 u2 Q I rx ry ⟨a,j,as,rfl,rfl,ha,hc.1,hc.2.1,by rw[<- l1];lia,λp hp=>k.lst _ _ p rfl (ra.rep _) hp⟩
 | _=>exact d1m pins s σ H x y u1 u2 Q I rx ry ⟨S,_,w,z,hs,hv,hw,e,k⟩
theorem a1g:∀ {ps:List FV}{xs:List V}{ns:List Int},RVs K S ps xs->a1d ps=some ns->xs=ns.map V.int
 | [],xs,ns,r,e=>by cases (show xs=[] from r);cases e;rfl
 | p :: ps,xs,ns,r,e=>by
  obtain⟨v,q,rfl,h1,h2⟩:=r
  cases p with
  | int i =>
   obtain⟨ms,z,rfl⟩:=mpd (show (a1d ps).map (i :: ·)=some ns from e)
   rw[a1g h2 z,List.map_cons,show v=.int i from h1]
  | _=>cases e
theorem a5a:∀ {ps:List FV}{xs:List V}{ns:List Bool},RVs K S ps xs->a4t ps=some ns->xs=ns.map V.bl
 | [],xs,ns,r,e=>by cases (show xs=[] from r);cases e;rfl
 | p :: ps,xs,ns,r,e=>by
  obtain⟨v,q,rfl,h1,h2⟩:=r
  cases p with
  | bl i =>
   obtain⟨ms,z,rfl⟩:=mpd (show (a4t ps).map (i :: ·)=some ns from e)
   rw[a5a h2 z,List.map_cons,show v=.bl i from h1]
  | _=>cases e
theorem c5n:∀ a b:List Int,Kq.lexLt a b=HT.lexLt a b
 | [],[]=>by simp[Kq.lexLt,HT.lexLt]
 | [],_ :: _=>by simp[Kq.lexLt,HT.lexLt]
 | _ :: _,[]=>by simp[Kq.lexLt,HT.lexLt]
 | a :: r,b :: q=>by
  simp only[Kq.lexLt,HT.lexLt,c5n r q]
  try (by_cases h:a=b<;>simp[h])
theorem b4l:∀ a b:List Int,Kq.lexLe a b=HT.lexLe a b
 | [],[]=>by simp[Kq.lexLe,HT.lexLe]
 | [],_ :: _=>by simp[Kq.lexLe,HT.lexLe]
 | _ :: _,[]=>by simp[Kq.lexLe,HT.lexLe]
 | a :: r,b :: q=>by
  simp only[Kq.lexLe,HT.lexLe,b4l r q]
  try (by_cases h:a=b<;>simp[h])
theorem d8h (hu:X.A.units+64<cLine):OpR X (compareOp .Lt) (Rq X.K ltB):=by
 intro pins s σ H x y u1 u2 Q I rx ry ⟨S,v,w,z,hs,hv,hw,e,k⟩
 cases v with
 | tup xs =>
  obtain⟨ys,e1,e⟩:=bnd e
  cases a1s e1
  obtain⟨ns,e2,e⟩:=bnd e
  obtain⟨ms,e3,e⟩:=bnd e
  cases e
  obtain⟨a,as,rfl,ha,ra⟩:=hv.tup hs
  obtain⟨b,bs,rfl,hb,rb⟩:=hw.tup hs
  cases a1g ra e2;cases a1g rb e3
  exact d2q (by lia) pins s σ H _ _ u1 u2 Q I rx ry ⟨a,b,ns,ms,rfl,rfl,SqT.of ha,SqT.of hb,by rw[<- c5n];exact k.bl⟩
 | _=>exact d8g pins s σ H x y u1 u2 Q I rx ry ⟨S,_,w,z,hs,hv,hw,e,k⟩
theorem d8j (hu:X.A.units+64<cLine):OpR X (compareOp .LtE) (Rq X.K leB):=by
 intro pins s σ H x y u1 u2 Q I rx ry ⟨S,v,w,z,hs,hv,hw,e,k⟩
 cases v with
 | tup xs =>
  obtain⟨ys,e1,e⟩:=bnd e
  cases a1s e1
  obtain⟨ns,e2,e⟩:=bnd e
  obtain⟨ms,e3,e⟩:=bnd e
  cases e
  obtain⟨a,as,rfl,ha,ra⟩:=hv.tup hs
  obtain⟨b,bs,rfl,hb,rb⟩:=hw.tup hs
  cases a1g ra e2;cases a1g rb e3
  exact d2r (by lia) pins s σ H _ _ u1 u2 Q I rx ry ⟨a,b,ns,ms,rfl,rfl,SqT.of ha,SqT.of hb,by rw[<- b4l];exact k.bl⟩
 | _=>exact d8i pins s σ H x y u1 u2 Q I rx ry ⟨S,_,w,z,hs,hv,hw,e,k⟩
theorem d3y {p q:FV}{b:Bool}(e:eqF p q=some b):(∃ d,p=.shn d/\q=.shn d/\b=true) ∨ ∃ x y,fD a0j p=some x/\fD a0j q=some y/\b=D.eqv x y:=by
 have gen:eqD p q=some b->∃ x y,fD a0j p=some x/\fD a0j q=some y/\b=D.eqv x y:=λe=>by
  obtain⟨x,e1,e⟩:=bnd e
  obtain⟨y,e2,e⟩:=bnd e
  cases e
  exact⟨x,y,e1,e2,rfl⟩
 unfold eqF at e
 split at e
 ·obtain⟨rfl,rfl⟩:=@itd _ _ (Classical.propDecidable _) _ _ e
  exact .inl ⟨_,rfl,rfl,rfl⟩
 ·exact .inr (gen e)
theorem d1q (hu:X.A.units+64<cLine)(neg:Bool):OpR X (compareOp (if neg then .NotEq else .Eq)) (Rq X.K λp q=>(eqF p q).map λr=>.bl (neg != r)):=by
 intro pins s σ H x y v u Q I rx ry ⟨S,p,q,z,hs,rp,rq,e,k⟩
 obtain⟨b,e',rfl⟩:=mpd (show (eqF p q).map (λr=>FV.bl (neg != r))=some z from e)
 have fin:=k.bl
 rcases d3y e' with⟨d,rfl,rfl,rfl⟩|⟨dx,dy,e1,e2,rfl⟩
 ·obtain rfl:x=.str (dPy d).shown:=rp.val rfl
  obtain rfl:y=.str (dPy d).shown:=rq.val rfl
  cases neg with
  | false=>exact d9a pins s σ H _ _ v u Q I rx ry ⟨rfl,by simpa using fin⟩
  | true=>exact d8v pins s σ H _ _ v u Q I rx ry ⟨rfl,by simpa using fin⟩
 ·obtain⟨as,ra⟩:=a2p I hs rp rx e1
  obtain⟨bs,rb⟩:=a2p I hs rq ry e2
  have hd:X.A.units+min (dPy dx).depth (dPy dy).depth<cLine:=by
   have h1:=a4p e1
   unfold a0j at h1
   lia
  cases neg with
  | false=>exact PySem.SeqAt.compareEq_reads ra rb (a5k dx) (a5k dy) hd ⟨.bl _,H,I,rfl,by rw[b6i];simpa using fin⟩
  | true=>exact PySem.SeqAt.compareNe_reads ra rb (a5k dx) (a5k dy) hd ⟨.bl _,H,I,rfl,by rw[b6i];simpa using fin⟩
theorem q_eq (hu:X.A.units+64<cLine):OpR X (compareOp .Eq) (Rq X.K eqB):=λpins s σ H x y v u Q I rx ry ⟨S,p,q,z,hs,rp,rq,e,k⟩=>d1q hu false pins s σ H x y v u Q I rx ry ⟨S,p,q,z,hs,rp,rq,by
 obtain⟨b,e1,rfl⟩:=mpd e
 show (eqF p q).map _=_
 rw[e1];cases b<;>rfl,k⟩
theorem q_ne (hu:X.A.units+64<cLine):OpR X (compareOp .NotEq) (Rq X.K neB):=λpins s σ H x y v u Q I rx ry ⟨S,p,q,z,hs,rp,rq,e,k⟩=>d1q hu true pins s σ H x y v u Q I rx ry ⟨S,p,q,z,hs,rp,rq,by
 obtain⟨b,e1,rfl⟩:=mpd e
 show (eqF p q).map _=_
 rw[e1];cases b<;>rfl,k⟩
theorem d1n (hu:X.A.units+64<cLine)(neg:Bool):OpR X (compareOp (if neg then .NotIn else .In)) (Rq X.K λp q=>(inF p q).map λr=>.bl (neg != r)):=by
 intro pins s σ H x y v u Q I rx ry ⟨S,p,q,z,hs,rp,rq,e,k⟩
 obtain⟨b,e',rfl⟩:=mpd (show (inF p q).map (λr=>FV.bl (neg != r))=some z from e)
 have fin:=k.bl
 obtain⟨dx,e1,e'⟩:=bnd e'
 obtain⟨dy,e2,e'⟩:=bnd e'
 obtain⟨as,ra⟩:=a2p I hs rp rx e1
 obtain⟨bs,rb⟩:=a2p I hs rq ry e2
 have hd:∀ ys,X.A.units+1+min (PyData.depthAll (a3a ys)) (dPy dx).depth<cLine:=λys=>by
  have h1:=a4p e1
  unfold a0j at h1
  lia
 cases dy with
 | lst ys =>
  cases e'
  simp only[dPy] at rb
  cases neg with
  | false=>exact PySem.SeqAt.in_list_reads rb ra (a4r ys) (a5k dx) (hd ys) ⟨.bl _,H,I,rfl,by rw[c0z];simpa using fin⟩
  | true=>exact PySem.SeqAt.notIn_list_reads rb ra (a4r ys) (a5k dx) (hd ys) ⟨.bl _,H,I,rfl,by rw[c0z];simpa using fin⟩
 | tup ys =>
  cases e'
  simp only[dPy] at rb
  cases neg with
  | false=>exact PySem.SeqAt.in_tuple_reads rb ra (a4r ys) (a5k dx) (hd ys) ⟨.bl _,H,I,rfl,by rw[c0z];simpa using fin⟩
  | true=>exact PySem.SeqAt.notIn_tuple_reads rb ra (a4r ys) (a5k dx) (hd ys) ⟨.bl _,H,I,rfl,by rw[c0z];simpa using fin⟩
 | _=>cases e'
theorem q_in (hu:X.A.units+64<cLine):OpR X (compareOp .In) (Rq X.K inB):=λpins s σ H x y v u Q I rx ry ⟨S,p,q,z,hs,rp,rq,e,k⟩=>d1n hu false pins s σ H x y v u Q I rx ry ⟨S,p,q,z,hs,rp,rq,by
 obtain⟨b,e1,rfl⟩:=mpd e
 show (inF p q).map _=_
 rw[e1];cases b<;>rfl,k⟩
theorem q_ni (hu:X.A.units+64<cLine):OpR X (compareOp .NotIn) (Rq X.K niB):=λpins s σ H x y v u Q I rx ry ⟨S,p,q,z,hs,rp,rq,e,k⟩=>d1n hu true pins s σ H x y v u Q I rx ry ⟨S,p,q,z,hs,rp,rq,by
 obtain⟨b,e1,rfl⟩:=mpd e
 show (inF p q).map _=_
 rw[e1];cases b<;>rfl,k⟩
theorem d0a {ps:List FV}{xs:List V}{i:Int}{p:FV}(r:RVs K S ps xs)(e:atF ps i=some p):∃ v,L2.atI xs i=some v/\RV K S p v:=by
 obtain⟨j,e1,e2⟩:=bnd e
 obtain⟨v,h1,h2⟩:=r.get e2
 refine⟨v,?_,h2⟩
 show (L2.ixN xs.length i).bind (λj=>xs[j]?)=some v
 rw[<- r.length,show L2.ixN ps.length i=some j from e1]
 exact h1
noncomputable def Ri (K:Γd):R2:=λx y H Q=>∃ S v w z,Same S H/\RH K S H v x/\RH K S H w y/\ixF v w=some z/\∀ u,RV K S z u->Q u H
theorem q_ix:IxR X (Ri X.K):=by
 intro value slice pins s σ H x y v u Q I rx ry ⟨S,p,q,z,hs,rp,rq,e,k⟩ hsl
 obtain⟨j,e1,e3⟩:=bnd e
 obtain⟨ps,e2,e4⟩:=bnd e3
 cases a0t e1
 obtain rfl:=rq.int
 obtain⟨a,xs,rfl,hq,r⟩:=rp.seq hs e2
 obtain⟨w,h1,h2⟩:=d0a r e4
 cases hb:isL p with
 | true=>rw[hb] at hq;exact c8o value slice pins s σ H _ _ v u Q I rx ry ⟨a,xs,j,w,rfl,rfl,hq,h1,k w h2⟩ hsl
 | false=>rw[hb] at hq;exact d3m value slice pins s σ H _ _ v u Q I rx ry ⟨a,xs,j,w,rfl,rfl,hq,h1,k w h2⟩ hsl
theorem b3z (n d:Nat)(o:Option Int):Kq.sIx n d o=HT.sIx n d o:=by
 cases o with
 | none=>rfl
 | some v=>simp only[Kq.sIx,HT.sIx];try (split<;>split<;>lia)
theorem c1b {ps:List FV}{xs:List V}{lo hi:Option Int}(r:RVs K S ps xs):RVs K S (b1j ps lo hi) (c5x xs lo hi):=by
 unfold b1j c5x
 rw[b3z,b3z,r.length]
 exact (r.drop _).take _
noncomputable def Rsl (K:Γd):V->Option Int->Option Int->Hp->VK->Prop:=λx lo hi H Q=>∃ S v z,Same S H/\RH K S H v x/\a5z v lo hi=some z/\NewOr K S H Q z
theorem q_sl:SlR X (Rsl X.K):=by
 intro pins s σ H x v vl vu lo hi sl Q I rx hsl pl pu ⟨S,p,z,hs,rp,e,k⟩
 cases p with
 | tup ps =>
  cases e
  have rv:=rp.val rfl
  obtain⟨a,xs,rfl,ha,ra⟩:=rp.tup hs
  by_cases hc:HT.sIx xs.length 0 lo=0/\HT.sIx xs.length xs.length hi=xs.length
  ·refine c2f pins s σ H _ v vl vu lo hi sl Q I rx hsl pl pu ⟨a,xs,rfl,SqT.of ha,hc.1,hc.2,k.old _ (λ_ z=>nomatch z) ?_⟩
   have e:b1j ps lo hi=ps:=by
    unfold b1j
    rw[b3z,b3z,ra.length,hc.1,hc.2,List.drop_zero,Nat.sub_zero,List.take_of_length_le (Nat.le_of_eq ra.length)]
   rw[e];exact rv
  ·exact d1f pins s σ H _ v vl vu lo hi sl Q I rx hsl pl pu ⟨a,xs,rfl,SqT.of ha,hc,λp hp=>k.tup _ _ p rfl (c1b ra) hp⟩
 | lst ps =>
  cases e
  obtain⟨a,xs,rfl,ha,ra⟩:=rp.lst hs
  exact c6r pins s σ H _ v vl vu lo hi sl Q I rx hsl pl pu ⟨a,xs,rfl,SqL.of ha,λp hp=>k.lst _ _ p rfl (c1b ra) hp⟩
 | _=>cases e
end
section
variable {X:Cx}{K:Γd}{S H:Hp}{Q:VK}
noncomputable def Rc (K:Γd)(f:FV->Option FV):List V->Hp->VK->Prop:=λxs H Q=>∃ S v x z,xs=[x]/\Same S H/\RH K S H v x/\f v=some z/\NewOr K S H Q z
noncomputable def Rc2 (K:Γd)(f:FV->FV->Option FV):List V->Hp->VK->Prop:=λxs H Q=>∃ S v w x y z,xs=[x,y]/\Same S H/\RH K S H v x/\RH K S H w y/\f v w=some z/\NewOr K S H Q z
theorem d7m {b:Bool}{a:Addr}{xs:List V}(h:SqB b K H a xs):SqL K H a xs ∨ SqT K H a xs:=by cases b;exact .inr h;exact .inl h
theorem e2z:a1r X (.builtin "len") (Rc X.K a5j):=by
 rintro pins s σ H xs us Q I r ⟨S,v,x,z,rfl,hs,rv,e,k⟩
 obtain⟨ps,e1,rfl⟩:=mpd e
 obtain⟨a,ys,rfl,hq,ry⟩:=rv.seq hs e1
 refine b1m pins s σ H _ us Q I r ⟨a,ys,rfl,d7m hq,?_⟩
 rw[<- ry.length]
 exact k.int
theorem e3d:a1r X (.builtin "abs") (Rc X.K d4z):=by
 rintro pins s σ H xs us Q I r ⟨S,v,x,z,rfl,hs,rv,e,k⟩
 obtain⟨i,e1,rfl⟩:=mpd e
 cases a0t e1
 obtain rfl:=rv.int
 exact c4k pins s σ H _ us Q I r ⟨i,rfl,k.int⟩
theorem e3a:a1r X (.type "int") (Rc X.K b3s):=by
 rintro pins s σ H xs us Q I r ⟨S,v,x,z,rfl,hs,rv,e,k⟩
 cases v with
 | int i =>
  cases e
  obtain rfl:=rv.int
  exact b1n pins s σ H _ us Q I r (.inl ⟨i,rfl,k.int⟩)
 | bl b =>
  cases e
  obtain rfl:=rv.bl
  exact b1n pins s σ H _ us Q I r (.inr ⟨b,rfl,k.int⟩)
 | _=>cases e
theorem c9u:a1r X (.type "tuple") (Rc X.K a2z):=by
 rintro pins s σ H xs us Q I r ⟨S,v,x,z,rfl,hs,rv,e,k⟩
 obtain⟨ps,e1,rfl⟩:=mpd e
 obtain⟨a,ys,rfl,hq,ry⟩:=rv.seq hs e1
 cases v with
 | tup qs=>cases e1;exact a2y pins s σ H _ us Q I r ⟨a,ys,rfl,.inr ⟨hq,k.old _ (λ_ z=>nomatch z) (rv.val rfl)⟩⟩
 | lst qs=>exact a2y pins s σ H _ us Q I r ⟨a,ys,rfl,.inl ⟨hq,λl hl=>k.tup _ _ l rfl ry hl⟩⟩
 | scr qs=>exact a2y pins s σ H _ us Q I r ⟨a,ys,rfl,.inl ⟨hq,λl hl=>k.tup _ _ l rfl ry hl⟩⟩
 | _=>cases e1
theorem d4r (hc:X.calm=true):a1r X (.builtin "min") (Rc2 X.K b9a):=by
 rintro pins s σ H xs us Q I r ⟨S,v,w,x,y,z,rfl,hs,rv,rw',e,k⟩
 obtain⟨i,e1,e2⟩:=bnd e
 obtain⟨j,e3,e4⟩:=bnd e2
 cases a0t e1;cases a0t e3;cases e4
 obtain rfl:=rv.int
 obtain rfl:=rw'.int
 exact c1k hc pins s σ H _ us Q I r ⟨i,j,rfl,k.int⟩
theorem Vals.mapInt {ns:List Int}:∀ {us:List Value},Vals (ns.map V.int) us->∀ i:Nat,i<ns.length->∃ t,us[i]?=some (.int (ns.getD i 0) t):=λ{us} r i hi=>by
 obtain⟨u,e,t,rfl⟩:=r.get (i:=i) (x:=.int (ns.getD i 0)) (by simp[hi])
 exact⟨t,e⟩
theorem a1x (ns:List Int):∀ j,j<=ns.length->preSum (λi=>ns.getD i 0) j=(ns.take j).sum
 | 0,_=>by simp[preSum]
 | j+1,h=>by
  have hj:j<ns.length:=h
  show preSum _ j+ns.getD j 0=_
  rw[a1x ns j (by lia),List.take_succ_eq_append_getElem hj,List.sum_append]
  simp[List.getD,hj]
theorem b7s (B:Int)(hB:0<=B):∀ ns:List Int,(∀ n∈ns,-B<=n/\n<=B)->-(B*ns.length)<=ns.sum/\ns.sum<=B*ns.length
 | [],_=>by simp
 | n :: r,h=>by
  have ih:=b7s B hB r λm hm=>h m (Γh _ hm)
  have hn:=h n Γn
  rw[List.sum_cons,List.length_cons]
  have e:B*((r.length+1:Nat):Int)=B*(r.length:Int)+B:=by rw[Int.natCast_add,Int.mul_add];simp
  rw[e]
  lia
theorem b6n (hc:X.calm=true):a1r X (.builtin "sum") (λxs H Q=>∃ (a:Addr)(ns:List Int),xs=[.ref a]/\SqL X.K H a (ns.map V.int)/\ns.length<=big/\(∀ n∈ns,-(2 ^ 40)<=n/\n<=2 ^ 40)/\Q (.int ns.sum) H):=by
 intro pins s σ H xs us Q I r h
 obtain⟨a,ns,rfl,hq,hz,hb,q⟩:=h
 obtain⟨u,rfl,rx⟩:=a3h r
 cases rx
 obtain⟨its,r',pl,hz'⟩:=I.list hq
 have hlen:ns.length=its.length:=by have:=r'.length;simpa using this
 have alt:a<s.heap.objs.size:=by obtain⟨_,e,_⟩:=pl.isList;exact Γl e
 have hh:X.A.in1.handled=none:=I.ok.hd hc
 refine call_sum_walk (wpAny_pyIter_list pl.isList ?_)
 refine⟨s.heap.objs.size,_,_,_,_,_,λi=>ns.getD i 0,rfl,Walks.list hh s.heap.objs.size a (Γo alt) its.toArray,⟨⟨_,Γm _ rfl,rfl,rfl⟩,pl.isList.at λo e=>Γc _ e⟩,?_,?_,?_,?_⟩
 ·intro b hb'
  simp at hb'
  rcases hb' with rfl|rfl
  ·show _<(s.heap.push _).objs.size;rw[Heap.size_push];exact Nat.lt_succ_self _
  ·show _<(s.heap.push _).objs.size;rw[Heap.size_push];exact Nat.lt_succ_of_lt alt
 ·intro i v hv
  have hv:its.toArray[i]?=some v:=hv
  have hi:i<ns.length:=by rw[hlen];simpa using (Array.getElem?_eq_some_iff.mp hv).1
  obtain⟨t,e⟩:=Vals.mapInt r' i hi
  refine⟨t,?_⟩
  have e':its.toArray[i]?=some (.int (ns.getD i 0) t):=by simpa using e
  rw[hv] at e'
  exact Option.some.inj e'
 ·intro j hj
  have hj':j<ns.length:=by rw[hlen];simpa using hj
  have hm:ns.getD j 0∈ns:=by simp[List.getD,hj']
  refine⟨?_,?_⟩
  ·have:=hb _ hm
   show -(2 ^ 63)<=ns.getD j 0/\ns.getD j 0<2 ^ 63
   lia
  ·rw[a1x ns (j+1) hj']
   have b2:=b7s 1099511627776 (by decide) (ns.take (j+1)) λn hn=>by have:=hb n (List.mem_of_mem_take hn);lia
   have l2:(ns.take (j+1)).length<=100000:=by rw[List.length_take];unfold big at hz;lia
   unfold InLong;lia
 ·intro h' tk t' hk
  have e:preSum (λi=>ns.getD i 0) its.toArray.size=ns.sum:=by
   rw[List.size_toArray,<- hlen,a1x ns _ (Γi _),List.take_length]
  rw[e]
  refine⟨.int ns.sum,H,?_,⟨t',rfl⟩,q⟩
  exact I.kept (t':=tk) λb o e=>hk b o (by simp;exact Γo (Γl e)) (Γc _ e)
theorem b3r {prog:Program}{w:World}{A:Around}{its:List Value}{bs:List Bool}(r:Vals (bs.map V.bl) its):TruthOf prog w A (λi v=>its.toArray[i]?=some v) (λi=>bs.getD i false):=by
 intro i v s Q E hv hq
 have hlen:bs.length=its.length:=by have:=r.length;simpa using this
 have hi:i<bs.length:=by rw[hlen];simpa using (Array.getElem?_eq_some_iff.mp hv).1
 obtain⟨u,e,ru⟩:=r.get (i:=i) (x:=.bl (bs.getD i false)) (by simp[hi])
 have e':its.toArray[i]?=some u:=by simpa using e
 rw[hv] at e'
 cases e'
 cases ru
 exact Γb hq
theorem b8g (bs:List Bool):(List.range bs.length).all (λi=>bs.getD i false)=bs.all id:=by
 rw[Bool.eq_iff_iff]
 simp only[List.all_eq_true,List.mem_range,id]
 constructor
 ·intro h b hb
  obtain⟨i,hi,e⟩:=List.mem_iff_getElem.mp hb
  have:=h i hi
  simpa[List.getD,hi,e] using this
 ·intro h i hi
  have:=h bs[i] (List.getElem_mem hi)
  simpa[List.getD,hi] using this
theorem b8f (bs:List Bool):(List.range bs.length).any (λi=>bs.getD i false)=bs.any id:=by
 rw[Bool.eq_iff_iff]
 simp only[List.any_eq_true,List.mem_range,id]
 constructor
 ·rintro⟨i,hi,e⟩
  exact⟨bs[i],List.getElem_mem hi,by simpa[List.getD,hi] using e⟩
 ·rintro⟨b,hb,e⟩
  obtain⟨i,hi,e'⟩:=List.mem_iff_getElem.mp hb
  exact⟨i,hi,by simpa[List.getD,hi,e'] using e⟩
theorem b6s (hc:X.calm=true):a1r X (.builtin "all") (λxs H Q=>∃ (a:Addr)(bs:List Bool),xs=[.ref a]/\SqL X.K H a (bs.map V.bl)/\Q (.bl (bs.all id)) H):=by
 intro pins s σ H xs us Q I r h
 obtain⟨a,bs,rfl,hq,q⟩:=h
 obtain⟨u,rfl,rx⟩:=a3h r
 cases rx
 obtain⟨its,r',pl,hz'⟩:=I.list hq
 have hlen:bs.length=its.length:=by have:=r'.length;simpa using this
 have alt:a<s.heap.objs.size:=by obtain⟨_,e,_⟩:=pl.isList;exact Γl e
 have hh:X.A.in1.handled=none:=I.ok.hd hc
 refine call_all_walk (wpAny_pyIter_list pl.isList ?_)
 refine⟨s.heap.objs.size,_,_,_,_,_,λi=>bs.getD i false,rfl,Walks.list hh s.heap.objs.size a (Γo alt) its.toArray,⟨⟨_,Γm _ rfl,rfl,rfl⟩,pl.isList.at λo e=>Γc _ e⟩,b3r r',?_⟩
 intro h' tk hk
 rw[List.size_toArray,<- hlen,b8g]
 exact⟨.bl _,H,I.kept (t':=tk) λb o e=>hk b o (by simp;exact Γo (Γl e)) (Γc _ e),rfl,q⟩
theorem b6r (hc:X.calm=true):a1r X (.builtin "any") (λxs H Q=>∃ (a:Addr)(bs:List Bool),xs=[.ref a]/\SqL X.K H a (bs.map V.bl)/\Q (.bl (bs.any id)) H):=by
 intro pins s σ H xs us Q I r h
 obtain⟨a,bs,rfl,hq,q⟩:=h
 obtain⟨u,rfl,rx⟩:=a3h r
 cases rx
 obtain⟨its,r',pl,hz'⟩:=I.list hq
 have hlen:bs.length=its.length:=by have:=r'.length;simpa using this
 have alt:a<s.heap.objs.size:=by obtain⟨_,e,_⟩:=pl.isList;exact Γl e
 have hh:X.A.in1.handled=none:=I.ok.hd hc
 refine call_any_walk (wpAny_pyIter_list pl.isList ?_)
 refine⟨s.heap.objs.size,_,_,_,_,_,λi=>bs.getD i false,rfl,Walks.list hh s.heap.objs.size a (Γo alt) its.toArray,⟨⟨_,Γm _ rfl,rfl,rfl⟩,pl.isList.at λo e=>Γc _ e⟩,b3r r',?_⟩
 intro h' tk hk
 rw[List.size_toArray,<- hlen,b8f]
 exact⟨.bl _,H,I.kept (t':=tk) λb o e=>hk b o (by simp;exact Γo (Γl e)) (Γc _ e),rfl,q⟩
theorem d4o (hc:X.calm=true):a1r X (.builtin "sum") (Rc X.K sumF):=by
 rintro pins s σ H xs us Q I r ⟨S,v,x,z,rfl,hs,rv,e,k⟩
 obtain⟨ps,e1,e2⟩:=bnd e
 obtain⟨n,e3,rfl⟩:=mpd e2
 obtain⟨ns,e4,e5⟩:=bnd e3
 obtain⟨hb,rfl⟩:=itd e5
 obtain⟨a,ys,rfl,hq,ry⟩:=rv.list hs e1
 cases a1g ry e4
 refine b6n hc pins s σ H _ us Q I r ⟨a,ns,rfl,hq,hb.1,λn hn=>?_,k.int⟩
 have:=List.all_eq_true.mp hb.2 n hn
 simpa[a5y] using this
theorem e3c (hc:X.calm=true):a1r X (.builtin "all") (Rc X.K c5y):=by
 rintro pins s σ H xs us Q I r ⟨S,v,x,z,rfl,hs,rv,e,k⟩
 obtain⟨ps,e1,e2⟩:=bnd e
 obtain⟨bs,e3,rfl⟩:=mpd e2
 obtain⟨a,ys,rfl,hq,ry⟩:=rv.list hs e1
 cases a5a ry e3
 exact b6s hc pins s σ H _ us Q I r ⟨a,bs,rfl,hq,k.bl⟩
theorem e3b (hc:X.calm=true):a1r X (.builtin "any") (Rc X.K d4y):=by
 rintro pins s σ H xs us Q I r ⟨S,v,x,z,rfl,hs,rv,e,k⟩
 obtain⟨ps,e1,e2⟩:=bnd e
 obtain⟨bs,e3,rfl⟩:=mpd e2
 obtain⟨a,ys,rfl,hq,ry⟩:=rv.list hs e1
 cases a5a ry e3
 exact b6r hc pins s σ H _ us Q I r ⟨a,bs,rfl,hq,k.bl⟩
theorem a7z:∀ (xs:List Int) (b x:Int),a1c b (xs++[x])=if x<a1c b xs then x else a1c b xs
 | [],b,x=>rfl
 | y :: ys,b,x=>by
  show a1c (if y<b then y else b) (ys++[x])=_
  rw[a7z ys];rfl
theorem b0w (n:Int)(r:List Int):∀ k,k<=r.length->(n :: r)[argBest (λi j=>decide ((n :: r).getD i 0<(n :: r).getD j 0)) k]?=some (a1c n (r.take k))
 | 0,_=>by simp[argBest,a1c]
 | k+1,h=>by
  have ih:=b0w n r k (by lia)
  have hk:k<r.length:=h
  have e1:(n :: r).getD (argBest (λi j=>decide ((n :: r).getD i 0<(n :: r).getD j 0)) k) 0=a1c n (r.take k):=by rw[List.getD_eq_getElem?_getD,ih];rfl
  have e2:(n :: r).getD (k+1) 0=r[k]:=by simp[List.getD,hk]
  rw[List.take_succ_eq_append_getElem hk,a7z]
  simp only[argBest,e1,e2,decide_eq_true_eq]
  split
  ·simp[hk]
  ·exact ih
theorem d4p (hc:X.calm=true):a1r X (.builtin "min") (Rc X.K b5v):=by
 rintro pins s σ H xs us Q I r ⟨S,v,x,z,rfl,hs,rv,e,k⟩
 obtain⟨ps,e1,e2⟩:=bnd e
 obtain⟨ns,e3,e4⟩:=bnd e2
 obtain⟨a,ys,rfl,hq,ry⟩:=rv.list hs e1
 obtain⟨u,rfl,ru⟩:=a3h r
 cases (show u=Value.ref a from ru)
 obtain⟨its,r',pl,hz'⟩:=I.list hq
 have hh:X.A.in1.handled=none:=I.ok.hd hc
 have hlen:ys.length=its.length:=r'.length
 cases a1g ry e3
 cases ns with
 | nil=>cases e4
 | cons n r =>
  cases e4
  have hl2:its.length=r.length+1:=by rw[<- hlen];simp
  have it:∀ (i:Nat)(v:Value),its.toArray[i]?=some v->∃ t,v=Value.int ((n :: r).getD i 0) t:=λi v hv=>by
   have hv:its[i]?=some v:=by simpa using hv
   have hi:=(List.getElem?_eq_some_iff.mp hv).1
   obtain⟨t,e⟩:=Vals.mapInt r' i (by simp;lia)
   rw[hv] at e
   exact⟨t,Option.some.inj e⟩
  refine a8l (bt:=λi j=>decide ((n :: r).getD i 0<(n :: r).getD j 0)) hh pl.isList (by simp;lia) (λi j u v s1 Q1 E1 _ hi hj q1=>?_) λv h' tk hv hk=>?_
  ·obtain⟨t1,rfl⟩:=it i u hi
   obtain⟨t2,rfl⟩:=it j v hj
   exact PyProof.Rows.lt_int q1
  ·have hv:its[argBest (λi j=>decide ((n :: r).getD i 0<(n :: r).getD j 0)) (its.toArray.size-1)]?=some v:=by simpa using hv
   have hb:=b0w n r r.length (Γi _)
   rw[List.take_length] at hb
   have hsz:its.toArray.size-1=r.length:=by simp;lia
   rw[hsz] at hv
   generalize argBest (λi j=>decide ((n :: r).getD i 0<(n :: r).getD j 0)) r.length=z at hv hb
   obtain⟨t,rfl⟩:=it z v (by simpa using hv)
   rw[List.getD_eq_getElem?_getD,hb]
   exact⟨.int (a1c n r),H,I.kept (t':=tk) hk,⟨t,rfl⟩,k.int⟩
end
structure CC where
 N:List Str
 sc:List (Str×NameKind)
 fns:List Str
 md:Md
 top:Bool
 oc:List (Str×NameKind)
noncomputable def CC.vis (C:CC)(x:Str):Bool:=match C.sc.lookup x with
 | some .local=>true
 | some .cell=>true
 | some .free=>true
 | _=>false
noncomputable def CC.gl (C:CC)(x:Str):Bool:=decide (C.sc.lookup x=some .globalImplicit)
noncomputable def CC.loc (C:CC)(x:Str):Bool:=match C.sc.lookup x with
 | some .local=>true
 | some .cell=>C.top || C.oc.lookup x == some .cell
 | _=>false
noncomputable def CC.nm (C:CC) (i:Nat)(x:Str):Bool:=decide (C.N[i]?=some x) && C.vis x && !(x == ("__debug__":Str)) && !(x == ("__classdict__":Str))
noncomputable def bltNames:List String:=["len","abs","int","sum","all","any","min","max","tuple","list","isinstance","range","zip","bool","str","enumerate","reversed","sorted","dict","set"]
structure Good (X:Cx)(C:CC) (n:Nat)(sp:Γd->Nat->Sp):Prop where
 N:X.N=C.N
 sc:X.env.scope.names=C.sc
 kind:X.env.scope.kind=.function
 nd:C.N.Nodup
 calm:X.calm=true
 fn:∀ x,(C.top || C.oc.lookup x == some .cell)=true->X.fn x=true
 room:Room n X.A
 fns:∀ (f:Nat)(x:Str),C.fns[f]?=some x->∃ fa fd ps,X.mg x=some (.ref fa)/\PySem.W.keepIn X.K (.ref fa)=true/\Binds X.K fd ps []/\FnOk X.prog X.w X.K X.mg X.base CX0 n fa fd ps (sp X.K f)
 blt:∀ b∈bltNames,X.mg (Γe b)=none
theorem b2 {a b:Bool}(h:(a && b)=true):a=true/\b=true:=by simpa using h
theorem nb {a:Bool}(h:(!a)=true):a=false:=by simpa using h
theorem de {p:Prop} [Decidable p] (h:decide p=true):p:=by simpa using h
noncomputable def lv (K:Γd)(md:Md)(e:EW):TE:=λσ H Q=>∃ c L S Q0,Iv K c md L σ S H/\e L Q0/\∀ v L',Q0 v L'->∀ x S' H',RV K S' v x->Iv K c md L' σ S' H'->Same S S'->Q x H'
noncomputable def lr (K:Γd)(md:Md)(e:EW):TE:=λσ H Q=>∃ c L S Q0,Iv K c md L σ S H/\e L Q0/\∀ v L',Q0 v L'->∀ x S' H',RH K S' H' v x->Iv K c md L' σ S' H'->Same S S'->Q x H'
noncomputable def a9w (c:Cn)(md:Md)(L:a0c)(σ:L2.St)(a:Addr):Prop:=c.H0 a=none/\(∀ p∈c.pr,p.1≠a)/\∀ j w,a0q md j≠.imm->L[j]?=some (some w)->σ[j]?≠some (some (.ref a))
noncomputable def lf (K:Γd)(md:Md)(e:EW):TE:=λσ H Q=>∃ c L S Q0,Iv K c md L σ S H/\e L Q0/\∀ v L',Q0 v L'->∀ a S' H',a3z K S' H' a v->a9w c md L' σ a->Iv K c md L' σ S' H'->Same S S'->Q (.ref a) H'
noncomputable def lb (K:Γd)(md:Md)(e:BW):TT:=λσ H Q=>∃ c L S Q0,Iv K c md L σ S H/\e L Q0/\∀ v L',Q0 v L'->∀ S' H',Iv K c md L' σ S' H'->Same S S'->Q v H'
noncomputable def la (K:Γd)(md:Md)(e:AW):TA:=λσ H Q=>∃ c L S Q0,Iv K c md L σ S H/\e L Q0/\∀ v L',Q0 v L'->∀ x S' H',RVs K S' v x->Iv K c md L' σ S' H'->Same S S'->Q x H'
noncomputable def lo (K:Γd)(md:Md)(e:OW):TO:=λσ H Q=>∃ c L S Q0,Iv K c md L σ S H/\e L Q0/\∀ v L',Q0 v L'->∀ S' H',Iv K c md L' σ S' H'->Same S S'->Q v H'
noncomputable def FE (X:Cx)(C:CC)(x:Expr)(e:EW):Prop:=PE X.nox x (lv X.K C.md e)
noncomputable def FR (X:Cx)(C:CC)(x:Expr)(e:EW):Prop:=PE X.nox x (lr X.K C.md e)
noncomputable def FF (X:Cx)(C:CC)(x:Expr)(e:EW):Prop:=PE X.nox x (lf X.K C.md e)
noncomputable def FB (X:Cx)(C:CC)(x:Expr)(e:BW):Prop:=PT X.nox x (lb X.K C.md e)
noncomputable def FW (X:Cx)(C:CC)(x:Expr)(e:BW):Prop:=PW X.nox x (lb X.K C.md e)
noncomputable def FA (X:Cx)(C:CC)(x:List Expr)(e:AW):Prop:=PA X.nox x (la X.K C.md e)
noncomputable def FO (X:Cx)(C:CC)(x:Option Expr)(e:OW):Prop:=L2.PO X.nox x (lo X.K C.md e)
section
variable {X:Cx}
theorem PE.imp {e:Expr}{t u:TE}(h:PE X e t)(f:∀ σ H Q,u σ H Q->t σ H Q):PE X e u:=λpins s σ H Q I hu=>h pins s σ H Q I (f σ H Q hu)
theorem PT.imp {e:Expr}{t u:TT}(h:PT X e t)(f:∀ σ H Q,u σ H Q->t σ H Q):PT X e u:=λpins s σ H Q I hu=>h pins s σ H Q I (f σ H Q hu)
theorem PW.imp {e:Expr}{t u:TT}(h:PW X e t)(f:∀ σ H Q,u σ H Q->t σ H Q):PW X e u:=λw pins s σ H Q I hu=>h w pins s σ H Q I (f σ H Q hu)
theorem PA.imp {e:List Expr}{t u:TA}(h:PA X e t)(f:∀ σ H Q,u σ H Q->t σ H Q):PA X e u:=λp pins s σ H Q I hu=>h p pins s σ H Q I (f σ H Q hu)
theorem PO.imp {e:Option Expr}{t u:TO}(h:L2.PO X e t)(f:∀ σ H Q,u σ H Q->t σ H Q):L2.PO X e u:=λpins s σ H Q I hu=>h pins s σ H Q I (f σ H Q hu)
end
section
variable {X:Cx}{C:CC}{n:Nat}{sp:Γd->Nat->Sp}
theorem Good.vis (G:Good X C n sp){x:Str}(h:C.vis x=true):Vis X.env.scope x:=by
 unfold CC.vis at h
 unfold Vis
 rw[G.sc]
 split at h
 ·rename_i e;exact .inl e
 ·rename_i e;exact .inr (.inl e)
 ·rename_i e;exact .inr (.inr e)
 ·cases h
theorem Good.gl (G:Good X C n sp){x:Str}(h:C.gl x=true):Gl X x:=by
 show X.env.scope.names.lookup x=_
 rw[G.sc];exact de h
theorem Good.loc (G:Good X C n sp){x:Str}(h:C.loc x=true):L2.Loc X.env.scope x/\(X.fn x=true ∨ X.env.scope.names.lookup x=some .local):=by
 unfold CC.loc at h
 unfold L2.Loc
 rw[G.sc]
 split at h
 ·rename_i e;exact⟨.inl e,.inr e⟩
 ·rename_i e;exact⟨.inr e,.inl (G.fn x h)⟩
 ·cases h
variable {K:Γd}{c:Cn}{md:Md}{L:a0c}{σ:L2.St}{S H:Hp}
theorem Iv.rd (I:Iv K c md L σ S H){i:Nat}{v:FV}(e:lk L i=some v):∃ x,σ[i]?=some (some x)/\RH K S H v x:=by
 rw[a4l] at e
 by_cases m:a0q md i=.imm
 ·obtain⟨x,h1,h2⟩:=I.imm i v m e
  exact⟨x,h1,.inl h2⟩
 ·obtain⟨a,h1,h2,_⟩:=I.own i v m e
  exact⟨_,h1,.inr ⟨a,rfl,h2⟩⟩
theorem b0p {Q:VK}{z:FV}(I:Iv K c md L σ S H)(k:∀ x S' H',RV K S' z x->Iv K c md L σ S' H'->Same S S'->Q x H'):NewOr K S H Q z where
 old:=λx _ r=>k x S H r I (Same.refl S)
 tup:=λps xs p e r hp=>k _ _ _ (by rw[e];exact⟨p,xs,rfl,a0h,r.mono (a0v (I.sn hp))⟩) (I.new hp _) (a0v (I.sn hp))
 lst:=λps xs p e r hp=>k _ _ _ (by rw[e];exact⟨p,xs,rfl,a0h,r.mono (a0v (I.sn hp))⟩) (I.new hp _) (a0v (I.sn hp))
theorem Iv.fresh (I:Iv K c md L σ S H){p:Addr}(h:H p=none):a9w c md L σ p:=by
 refine⟨I.h0 h,λq hq z=>?_,λj w m e z=>?_⟩
 ·rw[<- z,(I.prs q hq).1] at h;cases h
 ·obtain⟨a,e1,⟨_,_,_,_,e2,_⟩,_⟩:=I.own j w m e
  rw[z] at e1;cases e1
  rw[h] at e2;cases e2
theorem d9d {Q:VK}{z:FV}(I:Iv K c md L σ S H)(hz:∃ ps,z=.lst ps)(k:∀ a S' H',a3z K S' H' a z->a9w c md L σ a->Iv K c md L σ S' H'->Same S S'->Q (.ref a) H'):NewOr K S H Q z where
 old:=λx n _=>let ⟨ps,e⟩:=hz;absurd e (n ps)
 tup:=λps xs p e r hp=>by obtain⟨qs,e2⟩:=hz;rw[e2] at e;cases e
 lst:=λps xs p e r hp=>by subst e;exact k p S _ ⟨I.sn hp,ps,xs,rfl,a0h,r⟩ (I.fresh hp) (I.lay hp _) (Same.refl S)
theorem fe_var (G:Good X C n sp){i:Nat}{x:Str}{pos:Pos}(h:C.nm i x=true)(m:a0q C.md i=.imm):FE X C (.Name x pos) (a0b i):=by
 have h:=b2 h;have h1:=b2 h.1;have h2:=b2 h1.1
 refine PE.imp (b4c (by show X.N[i]?=_;rw[G.N];exact de h2.1) (G.vis h2.2) (nb h1.2) (nb h.2)) λσ H Q ⟨c,L,S,Q0,I,h,k⟩=>?_
 obtain⟨v,e,q⟩:=wpx h
 obtain⟨x,e1,r⟩:=I.imm i v m ((a4l _ _ _).mp e)
 exact⟨x,e1,k v L q x S H r I (Same.refl S)⟩
theorem fr_var (G:Good X C n sp){i:Nat}{x:Str}{pos:Pos}(h:C.nm i x=true):FR X C (.Name x pos) (a0b i):=by
 have h:=b2 h;have h1:=b2 h.1;have h2:=b2 h1.1
 refine PE.imp (b4c (by show X.N[i]?=_;rw[G.N];exact de h2.1) (G.vis h2.2) (nb h1.2) (nb h.2)) λσ H Q ⟨c,L,S,Q0,I,h,k⟩=>?_
 obtain⟨v,e,q⟩:=wpx h
 obtain⟨x,e1,r⟩:=I.rd e
 exact⟨x,e1,k v L q x S H r I (Same.refl S)⟩
theorem fr_of {x:Expr}{e:EW}(h:FE X C x e):FR X C x e:=PE.imp h λσ H Q ⟨c,L,S,Q0,I,h,k⟩=>⟨c,L,S,Q0,I,h,λv L' q x S' H' r=>k v L' q x S' H' (.inl r)⟩
theorem e0z {x:Expr}{v:FV}{u:V}(h:PE X.nox x (tC u))(r:∀ S,RV X.K S v u):FE X C x (eC v):=PE.imp h λσ H Q ⟨c,L,S,Q0,I,h,k⟩=>k v L h u S H (r S) I (Same.refl S)
theorem fe_int {i j pos}:FE X C (.Constant (.int i) j pos) (eC (.int i)):=e0z d2h λ_=>rfl
theorem fe_bl {i j pos}:FE X C (.Constant (.bool i) j pos) (eC (.bl i)):=e0z d8r λ_=>rfl
theorem fe_non {j pos}:FE X C (.Constant .none j pos) (eC .non):=e0z d2f λ_=>rfl
section
variable {f:FV->FV->Option FV}{a b:Expr}{ea eb:EW}{pos:Pos}{i:Nat}{x:Str}
theorem a2u (G:Good X C n sp)(h:C.nm i x=true):PE X.nox (.Name x pos) (d0k i):=by
 have h:=b2 h;have h1:=b2 h.1;have h2:=b2 h1.1
 exact b4c (by show X.N[i]?=_;rw[G.N];exact de h2.1) (G.vis h2.2) (nb h1.2) (nb h.2)
theorem go2 {r:R2}{σ:L2.St}{H:Hp}{Q:VK}(hh:∃ (c:Cn)(L:a0c)(S:Hp)(Q0:FV->FV->a0c->Prop),Iv K c md L σ S H/\ea L (λx L1=>eb L1 λy L2=>Q0 x y L2)/\∀ v w L' S' H' x y,Q0 v w L'->RV K S' v x->RH K S' H' w y->Iv K c md L' σ S' H'->Same S S'->r x y H' Q):tOp r (lv K md ea) (lr K md eb) σ H Q:=by
 obtain⟨c,L,S,Q0,I,h,k⟩:=hh
 exact⟨c,L,S,_,I,h,λv L1 hv x S1 H1 r1 I1 s1=>⟨c,L1,S1,_,I1,hv,λw L2 hw y S2 H2 r2 I2 s2=>k v w L2 S2 H2 x y hw (r1.mono s2) r2 I2 (s1.trans s2)⟩⟩
theorem go2N {r:R2}{σ:L2.St}{H:Hp}{Q:VK}(hh:∃ (c:Cn)(L:a0c)(S:Hp)(Q0:FV->FV->a0c->Prop),Iv K c md L σ S H/\(wp (lk L i) λ_=>eb L λy L1=>wp (lk L1 i) λx=>Q0 x y L1)/\∀ v w L' S' H' x y,Q0 v w L'->RH K S' H' v x->RH K S' H' w y->Iv K c md L' σ S' H'->Same S S'->r x y H' Q):tOp r (d0k i) (lr K md eb) σ H Q:=by
 obtain⟨c,L,S,Q0,I,h,k⟩:=hh
 obtain⟨_,e,h⟩:=wpx h
 obtain⟨x,e1,_⟩:=I.rd e
 refine⟨x,e1,c,L,S,_,I,h,λw L2 hw y S2 H2 r2 I2 s2=>?_⟩
 obtain⟨v,e2,q⟩:=wpx hw
 obtain⟨x',e3,r1⟩:=I2.rd e2
 rw[e1] at e3;cases e3
 exact k v w L2 S2 H2 x y q r1 r2 I2 s2
theorem rq_v {Q0:FV->a0c->Prop}{Q:VK}{v w:FV}{x y:V}(I:Iv K c md L σ S H)(rv:RH K S H v x)(rw':RH K S H w y)(h:wp (f v w) λz=>Q0 z L)(k:∀ z,Q0 z L->∀ x S' H',RV K S' z x->Iv K c md L σ S' H'->Same S S'->Q x H'):Rq K f x y H Q:=by
 obtain⟨z,e,q⟩:=wpx h
 exact⟨S,v,w,z,I.sub,rv,rw',e,b0p I (k z q)⟩
theorem op_v (h:PE X.nox a (tOp (Rq X.K f) (lv X.K C.md ea) (lr X.K C.md eb))):FE X C a (eOp f ea eb):=PE.imp h λσ H Q ⟨c,L,S,Q0,I,h,k⟩ =>
 go2 ⟨c,L,S,λx y L2=>wp (f x y) λz=>Q0 z L2,I,h,λv w L' S' H' x y q r1 r2 I' s'=>rq_v I' (.inl r1) r2 q λz qz x S2 H2 r I2 s2=>k z L' qz x S2 H2 r I2 (s'.trans s2)⟩
variable {op:Operator}
theorem b2y (ho:OpR X.nox (binaryOp op) (Rq X.K f))(ha:FE X C a ea)(hb:FR X C b eb):FE X C (.BinOp a op b pos) (eOp f ea eb):=op_v (d8q ho ha hb)
theorem fe_add (ha:FE X C a ea)(hb:FR X C b eb):FE X C (.BinOp a .Add b pos) (eOp a2e ea eb):=b2y d8k ha hb
theorem fe_sub (ha:FE X C a ea)(hb:FR X C b eb):FE X C (.BinOp a .Sub b pos) (eOp b5m ea eb):=b2y d8b ha hb
theorem fe_mul (ha:FE X C a ea)(hb:FR X C b eb):FE X C (.BinOp a .Mult b pos) (eOp b1v ea eb):=b2y d8e ha hb
theorem e0w (ha:FE X C a ea)(hb:FR X C b eb):FE X C (.BinOp a .FloorDiv b pos) (eOp b2z ea eb):=b2y d1p ha hb
theorem fe_mod (ha:FE X C a ea)(hb:FR X C b eb):FE X C (.BinOp a .Mod b pos) (eOp c5i ea eb):=b2y d8f ha hb
theorem fe_pow (ha:FE X C a ea)(hb:FR X C b eb):FE X C (.BinOp a .Pow b pos) (eOp c7l ea eb):=b2y d8c ha hb
noncomputable def d9i (f:FV->FV->Option FV)(v w:FV):Option FV:=(f v w).bind λz=>(a7x z).map λxs=>.lst xs
variable {cop:CmpOp}
theorem b1c (ho:OpR X.nox (compareOp cop) (Rq X.K f))(ha:FE X C a ea)(hb:FR X C b eb)(hm:behindInMarks cop b=false):FE X C (.Compare a [cop] [b] pos) (eOp f ea eb):=op_v (c7s ho ha hb hm)
noncomputable def a4b (f:FV->FV->Option FV):Prop:=∀ v w z,f v w=some z->∃ b,z=.bl b
theorem d0v {Q0:Bool->a0c->Prop}{Q:Bool->Hp->Prop}{v w:FV}{x y:V}(tb:a4b f)(I:Iv K c md L σ S H)(rv:RH K S H v x)(rw':RH K S H w y)(h:wp (f v w) λz=>wp (b7o z) λb=>Q0 b L)(k:∀ z,Q0 z L->Q z H):Rq K f x y H (λx H'=>∃ k,x=.bl k/\Q k H'):=by
 obtain⟨z,e,q⟩:=wpx h
 obtain⟨b,rfl⟩:=tb v w z e
 exact⟨S,v,w,_,I.sub,rv,rw',e,⟨λx _ r=>⟨b,r,k b q⟩,λ_ _ _ e=>(nomatch e),λ_ _ _ e=>(nomatch e)⟩⟩
theorem a6u (tb:a4b f)(ho:OpR X.nox (compareOp cop) (Rq X.K f))(ha:FE X C a ea)(hb:FR X C b eb)(hm:behindInMarks cop b=false):FB X C (.Compare a [cop] [b] pos) (a1z (eOp f ea eb)):=PT.imp (c7e ho ha hb hm) λσ H Q ⟨c,L,S,Q0,I,h,k⟩ =>
 go2 ⟨c,L,S,λx y L2=>wp (f x y) λz=>wp (b7o z) λb=>Q0 b L2,I,h,λv w L' S' H' x y q r1 r2 I' s'=>d0v tb I' (.inl r1) r2 q λz qz=>k z L' qz S' H' I' s'⟩
end
end
noncomputable def a0n:Expr->Bool|.Starred ..=>true|_=>false
noncomputable def a4d:Expr->Bool|.Slice ..=>true|_=>false
noncomputable def c5c:Expr->Bool
 | .UnaryOp .Not _ _=>false
 | .BoolOp ..=>false
 | .IfExp ..=>false
 | .Compare ..=>false
 | _=>true
section
variable {X:Cx}{C:CC}{n:Nat}{sp:Γd->Nat->Sp}{a b d x y z:Expr}{ea eb ec:EW}{pos:Pos}
theorem a0d {xs:List Expr}{env:Env}(h:a0n x=false):starEach (x :: xs) env=(false,eval x env) :: starEach xs env:=by
 cases x<;>first|rfl|(cases h;done)
theorem a8w (h:a4d y=false):c1u y:=by
 intro o i
 cases y<;>first|rfl|(cases h;done)
theorem b0j {env:Env}(h:c5c x=true):∀ whole,isTrue x env whole=(do let v <- whole;standAt x.pos;holding [v] (PySem.truthy v)):=by
 intro whole
 cases x<;>first|rfl|(cases h;done)|(rename_i op x pos;cases op<;>first|rfl|(cases h;done))
theorem fe_eq (G:Good X C n sp)(ha:FE X C a ea)(hb:FR X C b eb):FE X C (.Compare a [.Eq] [b] pos) (eOp eqB ea eb):=b1c (q_eq G.room.units) ha hb (a2a _ (by decide) (by decide))
theorem fe_lt (G:Good X C n sp)(ha:FE X C a ea)(hb:FR X C b eb):FE X C (.Compare a [.Lt] [b] pos) (eOp ltB ea eb):=b1c (d8h G.room.units) ha hb (a2a _ (by decide) (by decide))
theorem fe_le (G:Good X C n sp)(ha:FE X C a ea)(hb:FR X C b eb):FE X C (.Compare a [.LtE] [b] pos) (eOp leB ea eb):=b1c (d8j G.room.units) ha hb (a2a _ (by decide) (by decide))
theorem fe_ge (ha:FE X C a ea)(hb:FR X C b eb):FE X C (.Compare a [.GtE] [b] pos) (eOp geB ea eb):=b1c q_ge ha hb (a2a _ (by decide) (by decide))
theorem c4t {f:FV->FV->Option Bool}{g:Bool->FV}(h:∀ b,∃ c,g b=.bl c):a4b λv w=>(f v w).map g:=λv w z e=>by
 obtain⟨b,_,rfl⟩:=mpd e
 exact h b
theorem b7p {f:Int->Int->Bool}:a4b (a3c λi j=>some (.bl (f i j))):=λv w z e=>by
 obtain⟨i,_,e⟩:=bnd e
 obtain⟨j,_,e⟩:=bnd e
 cases e;exact⟨_,rfl⟩
theorem d6x:a4b ltB:=λv w z e=>by
 cases v with
 | tup xs =>
  obtain⟨_,_,e⟩:=bnd e
  obtain⟨_,_,e⟩:=bnd e
  obtain⟨_,_,e⟩:=bnd e
  cases e;exact⟨_,rfl⟩
 | _=>exact b7p _ w z e
theorem d0x:a4b leB:=λv w z e=>by
 cases v with
 | tup xs =>
  obtain⟨_,_,e⟩:=bnd e
  obtain⟨_,_,e⟩:=bnd e
  obtain⟨_,_,e⟩:=bnd e
  cases e;exact⟨_,rfl⟩
 | _=>exact b7p _ w z e
theorem fb_eq (G:Good X C n sp)(ha:FE X C a ea)(hb:FR X C b eb):FB X C (.Compare a [.Eq] [b] pos) (a1z (eOp eqB ea eb)):=a6u (c4t λb=>⟨b,rfl⟩) (q_eq G.room.units) ha hb (a2a _ (by decide) (by decide))
theorem fb_ne (G:Good X C n sp)(ha:FE X C a ea)(hb:FR X C b eb):FB X C (.Compare a [.NotEq] [b] pos) (a1z (eOp neB ea eb)):=a6u (c4t λb=>⟨!b,rfl⟩) (q_ne G.room.units) ha hb (a2a _ (by decide) (by decide))
theorem fb_lt (G:Good X C n sp)(ha:FE X C a ea)(hb:FR X C b eb):FB X C (.Compare a [.Lt] [b] pos) (a1z (eOp ltB ea eb)):=a6u d6x (d8h G.room.units) ha hb (a2a _ (by decide) (by decide))
theorem fb_le (G:Good X C n sp)(ha:FE X C a ea)(hb:FR X C b eb):FB X C (.Compare a [.LtE] [b] pos) (a1z (eOp leB ea eb)):=a6u d0x (d8j G.room.units) ha hb (a2a _ (by decide) (by decide))
theorem fb_gt (ha:FE X C a ea)(hb:FR X C b eb):FB X C (.Compare a [.Gt] [b] pos) (a1z (eOp gtB ea eb)):=a6u b7p q_gt ha hb (a2a _ (by decide) (by decide))
variable {i:Nat}{nx:Str}{p:Pos}
section
variable {cop cop':CmpOp}{f g:FV->FV->Option FV}
theorem c4j (tf:a4b f){σ:L2.St}{S H:Hp}{Q:VK}{c:Cn}{L:a0c}{Q1:FV->a0c->Prop}(I:Iv X.K c C.md L σ S H)(h:b1g f g ea eb ec L Q1)
  (kf:∀ L' S' H',Q1 (.bl false) L'->Iv X.K c C.md L' σ S' H'->Same S S'->Q (.bl false) H')(kg:∀ w z L' S' H' y u,(wp (g w z) λq=>Q1 q L')->RV X.K S' w y->RH X.K S' H' z u->Iv X.K c C.md L' σ S' H'->Same S S'->Rq X.K g y u H' Q) :
  c4v (Rq X.K f) (Rq X.K g) (lv X.K C.md ea) (lv X.K C.md eb) (lr X.K C.md ec) σ H Q:=by
 refine⟨c,L,S,_,I,h,λv L1 hv x S1 H1 r1 I1 s1=>⟨c,L1,S1,_,I1,hv,λw L2 hw y S2 H2 r2 I2 s2=>?_⟩⟩
 obtain⟨r,e,q⟩:=wpx hw
 obtain⟨b,rfl⟩:=tf v w r e
 refine⟨S2,v,w,_,I2.sub,.inl (r1.mono s2),.inl r2,e,⟨λu _ ru=>⟨b,ru,?_⟩,λ_ _ _ e=>(nomatch e),λ_ _ _ e=>(nomatch e)⟩⟩
 have q:if b=true then ec L2 λz L3=>wp (g w z) λq=>Q1 q L3 else Q1 (.bl false) L2:=q
 cases b with
 | false=>rw[if_neg Γk] at q ⊢;exact kf L2 S2 H2 q I2 (s1.trans s2)
 | true =>
  rw[if_pos rfl] at q ⊢
  exact⟨c,L2,S2,_,I2,q,λz L3 hz u S3 H3 r3 I3 s3=>kg w z L3 S3 H3 y u hz (r2.mono s3) r3 I3 (s1.trans (s2.trans s3))⟩
theorem c3y (tf:a4b f)(ho:OpR X.nox (compareOp cop) (Rq X.K f))(ho':OpR X.nox (compareOp cop') (Rq X.K g))(ha:FE X C a ea)(hb:FE X C b eb)(hc:FR X C d ec)(hm:lastMarks [cop,cop'] [b,d]=false):FE X C (.Compare a [cop,cop'] [b,d] pos) (b1g f g ea eb ec) :=
 PE.imp (c2x ho ho' ha hb hc hm) λσ H Q ⟨c,L,S,Q0,I,h,k⟩=>c4j tf I h (λL' S' H' q I' s'=>k _ L' q _ S' H' rfl I' s') λw z L' S' H' y u q r1 r2 I' s'=>rq_v I' (.inl r1) r2 q λt qt x S4 H4 rt I4 s4=>k t L' qt x S4 H4 rt I4 (s'.trans s4)
theorem e0u (G:Good X C n sp)(ha:FE X C a ea)(hb:FE X C b eb)(hc:FR X C d ec)(hm:lastMarks [.LtE,.Lt] [b,d]=false):FE X C (.Compare a [.LtE,.Lt] [b,d] pos) (b1g leB ltB ea eb ec):=c3y d0x (d8j G.room.units) (d8h G.room.units) ha hb hc hm
end
end
section
variable {X:Cx}{C:CC}{n:Nat}{sp:Γd->Nat->Sp}{a b d x y z:Expr}{ea eb ec:EW}{ba bb:BW}{pos p:Pos}
variable {K:Γd}{c:Cn}{md:Md}{L:a0c}{σ:L2.St}{S H:Hp}
theorem c5h {v:FV}{x:V}(r1:RH K S H v x):a2x v=some (.bl (decide (x=V.non)))/\a1u v=some (.bl (!decide (x=V.non))):=by
 rcases r1 with r1|⟨a,rfl,_,ps,xs,e9,_⟩
 ·cases v<;>first|(cases (show x=_ from r1);simp[a2x,a1u];done)|(obtain⟨a,_,rfl,_⟩:=r1;simp[a2x,a1u];done)|(obtain⟨a,rfl,_⟩:=r1;simp[a2x,a1u];done)
 ·cases v<;>first|(cases e9;done)|simp[a2x,a1u]
theorem fb_isN {j pos'}(ha:FR X C a ea):FB X C (.Compare a [.Is] [.Constant .none j pos'] pos) (a1z (eUn a2x ea)):=PT.imp (c5b (d2j ha)) λσ H Q ⟨c,L,S,Q0,I,h,k⟩ =>
 ⟨c,L,S,_,I,h,λv L1 hv x S1 H1 r1 I1 s1=>by
  obtain⟨z,e3,q⟩:=wpx hv
  rw[(c5h r1).1] at e3;cases e3
  exact⟨_,rfl,k _ L1 q S1 H1 I1 s1⟩⟩
theorem e2i {j pos'}(ha:FR X C a ea):FB X C (.Compare a [.IsNot] [.Constant .none j pos'] pos) (a1z (eUn a1u ea)):=PT.imp (c5b (c7w ha)) λσ H Q ⟨c,L,S,Q0,I,h,k⟩ =>
 ⟨c,L,S,_,I,h,λv L1 hv x S1 H1 r1 I1 s1=>by
  obtain⟨z,e3,q⟩:=wpx hv
  rw[(c5h r1).2] at e3;cases e3
  exact⟨_,rfl,k _ L1 q S1 H1 I1 s1⟩⟩
theorem fe_not (ha:FE X C a ea):FE X C (.UnaryOp .Not a pos) (eUn d9b ea):=PE.imp (d2e ha) λσ H Q ⟨c,L,S,Q0,I,h,k⟩ =>
 ⟨c,L,S,_,I,h,λv L1 hv x S1 H1 r1 I1 s1=>by
  obtain⟨z,e,q⟩:=wpx hv
  obtain⟨b,e1,rfl⟩:=mpd e
  cases d4u e1
  exact⟨b,r1,k _ L1 q _ S1 H1 rfl I1 s1⟩⟩
theorem fe_neg (ha:FE X C a ea):FE X C (.UnaryOp .USub a pos) (eUn d9e ea):=PE.imp (d8p d0r ha) λσ H Q ⟨c,L,S,Q0,I,h,k⟩ =>
 ⟨c,L,S,_,I,h,λv L1 hv x S1 H1 r1 I1 s1=>by
  obtain⟨z,e,q⟩:=wpx hv
  obtain⟨b,e1,rfl⟩:=mpd e
  cases a0t e1
  exact⟨b,r1,k _ L1 q _ S1 H1 rfl I1 s1⟩⟩
theorem b7n {v:FV}{u:V}{t:Bool}(s:Same S H)(r:RH K S H v u)(e:b7o v=some t):d6u K u H t:=by
 have em:∀ {ps:List FV}{xs:List V},RVs K S ps xs->(!ps.isEmpty) = !xs.isEmpty:=λ{ps xs} h=>by cases ps<;>cases xs<;>first|rfl|(have:=h.length;simp at this)
 cases v with
 | non=>cases (show u=V.non from r.val rfl);cases e;exact rfl
 | bl c=>cases r.bl;cases e;exact rfl
 | int c=>cases r.int;cases e;exact rfl
 | str c=>cases e
 | shn c=>cases e
 | dct _ _=>cases e
 | dci _ _=>cases e
 | dcz _ _ _=>cases e
 | tup ps =>
  obtain⟨a,xs,rfl,h1,h2⟩:=r.tup s
  cases e
  exact .inr (.inl ⟨xs,SqT.of h1,em h2⟩)
 | lst l =>
  obtain⟨a,xs,rfl,h1,h2⟩:=r.lst s
  cases e
  exact .inl ⟨xs,SqL.of h1,em h2⟩
 | scr ns =>
  cases e
  obtain⟨a,xs,rfl,h1,h2⟩:=r.list s (show a2c (.scr ns)=_ from rfl)
  refine .inl ⟨_,h1,?_⟩
  rw[<- em h2];cases ns<;>rfl
theorem c7v {rest:List Expr}{ta tb:TE}(ha:PE X a ta)(hb:PE X (.BoolOp .And (b :: rest) pos) tb) :
  PE X (.BoolOp .And (a :: b :: rest) pos) (λσ H Q=>ta σ H λx H1=>∃ c,d6u X.K x H1 c/\(if c=true then tb σ H1 Q else Q x H1)):=by
 intro pins s σ H Q I h
 refine BoolOp_and (thn (ha pins s σ H _ I h) λv s1 ⟨x,H1,I1,r1,c,tv,q1⟩=>?_)
 refine thn (c4s pins s1 σ H1 x v (λc' H'=>c'=c/\H'=H1) I1 r1 ⟨c,tv,rfl,rfl⟩) λb s2 ⟨H2,I2,e1,e2⟩=>?_
 subst e1 e2
 cases b with
 | true=>exact hb pins s2 σ H2 Q I2 (by simpa using q1)
 | false=>exact⟨x,H2,I2,r1,by simpa using q1⟩
theorem fe_one {op:BoolOp}(ha:FE X C a ea):FE X C (.BoolOp op [a] pos) ea:=d2d ha
theorem fe_and {rest:List Expr}(ha:FE X C a ea)(hb:FE X C (.BoolOp .And (b :: rest) pos) eb):FE X C (.BoolOp .And (a :: b :: rest) pos) (c4a ea eb):=PE.imp (c7v ha hb) λσ H Q ⟨c,L,S,Q0,I,h,k⟩ =>
 ⟨c,L,S,_,I,h,λv L1 hv x S1 H1 r1 I1 s1=>by
  obtain⟨t,e,q⟩:=wpx hv
  refine⟨t,b7n I1.sub (.inl r1) e,?_⟩
  cases t with
  | true=>exact⟨c,L1,S1,Q0,I1,q,λv L' q x S' H' r I' s'=>k v L' q x S' H' r I' (s1.trans s')⟩
  | false=>exact k v L1 q x S1 H1 r1 I1 s1⟩
theorem fe_if (hc:FB X C d ba)(ha:FE X C a ea)(hb:FE X C b eb):FE X C (.IfExp d a b pos) (eIf ba ea eb):=PE.imp (c2u hc ha hb) λσ H Q ⟨c,L,S,Q0,I,h,k⟩ =>
 ⟨c,L,S,_,I,h,λt L1 hv S1 H1 I1 s1=>by
  cases t with
  | true=>exact⟨c,L1,S1,Q0,I1,hv,λv L' q x S' H' r I' s'=>k v L' q x S' H' r I' (s1.trans s')⟩
  | false=>exact⟨c,L1,S1,Q0,I1,hv,λv L' q x S' H' r I' s'=>k v L' q x S' H' r I' (s1.trans s')⟩⟩
theorem fb_val (hp:c5c a=true)(ha:FR X C a ea):FB X C a (a1z ea):=PT.imp (c2o ha (b0j hp)) λσ H Q ⟨c,L,S,Q0,I,h,k⟩ =>
 ⟨c,L,S,_,I,h,λv L1 hv x S1 H1 r1 I1 s1=>by
  obtain⟨t,e,q⟩:=wpx hv
  exact⟨t,b7n I1.sub r1 e,k t L1 q S1 H1 I1 s1⟩⟩
theorem fb_not (ha:FB X C a ba):FB X C (.UnaryOp .Not a pos) (b3l ba):=PT.imp (d1v ha) λσ H Q ⟨c,L,S,Q0,I,h,k⟩=>⟨c,L,S,_,I,h,λt L1 hv S1 H1 I1 s1=>k _ L1 hv S1 H1 I1 s1⟩
theorem d9v (ha:FB X C a ba):FW X C (.BoolOp .And [a] pos) ba:=c7b ha
theorem fw_or1 (ha:FB X C a ba):FW X C (.BoolOp .Or [a] pos) ba:=d1t ha
theorem fw_and {rest:List Expr}(ha:FB X C a ba)(hb:FW X C (.BoolOp .And (b :: rest) pos) bb):FW X C (.BoolOp .And (a :: b :: rest) pos) (d4v ba bb):=PW.imp (d1u ha hb) λσ H Q ⟨c,L,S,Q0,I,h,k⟩ =>
 ⟨c,L,S,_,I,h,λt L1 hv S1 H1 I1 s1=>by
  cases t with
  | true=>exact⟨c,L1,S1,Q0,I1,hv,λv L' q S' H' I' s'=>k v L' q S' H' I' (s1.trans s')⟩
  | false=>exact k _ L1 hv S1 H1 I1 s1⟩
theorem fw_or {rest:List Expr}(ha:FB X C a ba)(hb:FW X C (.BoolOp .Or (b :: rest) pos) bb):FW X C (.BoolOp .Or (a :: b :: rest) pos) (bOr ba bb):=PW.imp (d8l ha hb) λσ H Q ⟨c,L,S,Q0,I,h,k⟩ =>
 ⟨c,L,S,_,I,h,λt L1 hv S1 H1 I1 s1=>by
  cases t with
  | false=>exact⟨c,L1,S1,Q0,I1,hv,λv L' q S' H' I' s'=>k v L' q S' H' I' (s1.trans s')⟩
  | true=>exact k _ L1 hv S1 H1 I1 s1⟩
theorem fb_w (h:FW X C a ba):FB X C a ba:=PW.pt h
theorem fa_nil:FA X C [] a0k:=PA.imp a2m λσ H Q ⟨c,L,S,Q0,I,h,k⟩=>k [] L h [] S H rfl I (Same.refl S)
theorem e2j {xs:List Expr}{as:AW}(hs:a0n a=false)(ha:FE X C a ea)(hr:FA X C xs as):FA X C (a :: xs) (a0a ea as):=PA.imp (a0x ha hr (a0d hs)) λσ H Q ⟨c,L,S,Q0,I,h,k⟩ =>
 ⟨c,L,S,_,I,h,λv L1 hv x S1 H1 r1 I1 s1=>⟨c,L1,S1,_,I1,hv,λvs L2 hvs us S2 H2 r2 I2 s2=>k _ L2 hvs _ S2 H2 ⟨x,us,rfl,r1.mono s2,r2⟩ I2 (s1.trans s2)⟩⟩
theorem fe_tup {xs:List Expr}{as:AW}{m:Nat}(h:FA X C xs as):FE X C (.Tuple xs m pos) (a4q as):=PE.imp (d2c h) λσ H Q ⟨c,L,S,Q0,I,h,k⟩ =>
 ⟨c,L,S,_,I,h,λvs L1 hv us S1 H1 r1 I1 s1=>⟨by have:=a1q;rw[<- r1.length];exact Nat.le_trans hv.1 this,λp hp=>(b0p I1 λx S' H' r I' s'=>k _ L1 hv.2 x S' H' r I' (s1.trans s')).tup _ _ p rfl r1 hp⟩⟩
theorem fe_lst {xs:List Expr}{as:AW}(h:FA X C xs as):FE X C (.List xs pos) (b1f as):=PE.imp (c5e h) λσ H Q ⟨c,L,S,Q0,I,h,k⟩ =>
 ⟨c,L,S,_,I,h,λvs L1 hv us S1 H1 r1 I1 s1=>⟨by have:=a1q;rw[<- r1.length];exact Nat.le_trans hv.1 this,λp hp=>(b0p I1 λx S' H' r I' s'=>k _ L1 hv.2 x S' H' r I' (s1.trans s')).lst _ _ p rfl r1 hp⟩⟩
theorem ff_lst {xs:List Expr}{as:AW}(h:FA X C xs as):FF X C (.List xs pos) (b1f as):=PE.imp (c5e h) λσ H Q ⟨c,L,S,Q0,I,h,k⟩ =>
 ⟨c,L,S,_,I,h,λvs L1 hv us S1 H1 r1 I1 s1=>⟨by have:=a1q;rw[<- r1.length];exact Nat.le_trans hv.1 this,λp hp=>(d9d I1 ⟨vs,rfl⟩ λa S' H' o fr I' s'=>k _ L1 hv.2 a S' H' o fr I' (s1.trans s')).lst _ _ p rfl r1 hp⟩⟩
theorem fe_ix (hs:a4d b=false)(ha:FE X C a ea)(hb:FR X C b eb):FE X C (.Subscript a b pos) (eOp ixF ea eb):=PE.imp (d2g q_ix ha hb (a8w hs)) λσ H Q ⟨c,L,S,Q0,I,h,k⟩ =>
 go2 ⟨c,L,S,λx y L2=>wp (ixF x y) λz=>Q0 z L2,I,h,λv w L' S' H' x y q r1 r2 I' s'=>by
  obtain⟨z,e,q⟩:=wpx q
  exact⟨S',v,w,z,I'.sub,.inl r1,r2,e,λu r=>k z L' q u S' H' r I' s'⟩⟩
theorem fe_ixN (G:Good X C n sp){i:Nat}{nx:Str}(hs:a4d b=false)(h:C.nm i nx=true)(hb:FR X C b eb):FE X C (.Subscript (.Name nx p) b pos) (b6y ixF i eb):=PE.imp (d2g q_ix (a2u G h) hb (a8w hs)) λσ H Q ⟨c,L,S,Q0,I,h,k⟩ =>
 go2N ⟨c,L,S,λx y L2=>wp (ixF x y) λz=>Q0 z L2,I,h,λv w L' S' H' x y q r1 r2 I' s'=>by
  obtain⟨z,e,q⟩:=wpx q
  exact⟨S',v,w,z,I'.sub,r1,r2,e,λu r=>k z L' q u S' H' r I' s'⟩⟩
theorem e0e:FO X C none b0n:=PO.imp c7n λσ H Q ⟨c,L,S,Q0,I,h,k⟩=>k none L h S H I (Same.refl S)
theorem e0d (h:FE X C a ea):FO X C (some a) (a5h ea):=PO.imp (c7m h) λσ H Q ⟨c,L,S,Q0,I,h,k⟩ =>
 ⟨c,L,S,_,I,h,λv L1 hv x S1 H1 r1 I1 s1=>by
  obtain⟨i,e,q⟩:=wpx hv
  cases a0t e
  exact⟨i,r1,k _ L1 q S1 H1 I1 s1⟩⟩
variable {xl xh:Option Expr}{wl wh:OW}{p2:Pos}
theorem fe_sl (ha:FE X C a ea)(hl:FO X C xl wl)(hh:FO X C xh wh):FE X C (.Subscript a (.Slice xl xh none p2) pos) (eSl ea wl wh):=PE.imp (c2t q_sl ha hl hh) λσ H Q ⟨c,L,S,Q0,I,h,k⟩ =>
 ⟨c,L,S,_,I,h,λv L1 hv x S1 H1 r1 I1 s1=>⟨c,L1,S1,_,I1,hv,λo1 L2 h1 S2 H2 I2 s2=>⟨c,L2,S2,_,I2,h1,λo2 L3 h2 S3 H3 I3 s3=>by
  obtain⟨z,e,q⟩:=wpx h2
  exact⟨S3,v,z,I3.sub,.inl (r1.mono (s2.trans s3)),e,b0p I3 λx S' H' r I' s'=>k z L3 q x S' H' r I' (s1.trans (s2.trans (s3.trans s')))⟩⟩⟩⟩
end
section
variable {X:Cx}{C:CC}{n:Nat}{sp:Γd->Nat->Sp}{a b d x y z:Expr}{ea eb ec:EW}{ba bb:BW}{pos p:Pos}
variable {K:Γd}{c:Cn}{md:Md}{L:a0c}{σ:L2.St}{S H:Hp}{i:Nat}{nx:Str}
variable {xl xh:Option Expr}{wl wh:OW}{p2:Pos}
noncomputable def sliceL (k:Nat)(l h:OW):EW:=λL Q=>eSlN k l h L λz L'=>isL z=true/\(∃ ps,z=.lst ps)/\Q z L'
theorem d4l {f:FV->Option FV}{Q:VK}(hh:lv K md (eUn f ea) σ H Q):tCB (Rc K f) (c2d (lr K md ea) tNil) σ H Q:=by
 obtain⟨c,L,S,Q0,I,h,k⟩:=hh
 refine⟨c,L,S,_,I,h,λv L1 hv x S1 H1 r1 I1 s1=>?_⟩
 obtain⟨z,e,q⟩:=wpx hv
 exact⟨S1,v,x,z,rfl,I1.sub,r1,e,b0p I1 λx S' H' r I' s'=>k z L1 q x S' H' r I' (s1.trans s')⟩
theorem a7k {id nm:String}{f:FV->Option FV}(hc:a1r X.nox (.builtin id) (Rc X.K f))(G:Good X C n sp)(hb:nm∈bltNames)(hv:bootBuiltins (Γe nm)=some (.builtin id))(h1:Γe nm≠"__name__")(h2:(Γe nm == ("__debug__":Str))=false)(hg:C.gl (Γe nm)=true)(hs:a0n a=false)(ha:FR X C a ea) :
  FE X C (.Call (.Name (Γe nm) p) [a] [] pos) (eUn f ea):=PE.imp (a5q hc (G.gl hg) (G.blt nm hb) hv (a0x ha a2m (a0d hs)) h1 h2 (a0d hs) rfl) λσ H Q h=>d4l h
theorem d3x {T nm:String}{f:FV->Option FV}(hc:a1r X.nox (.type T) (Rc X.K f))(G:Good X C n sp)(hb:nm∈bltNames)(hv:bootBuiltins (Γe nm)=some (.type T))(h1:Γe nm≠"__name__")(h2:(Γe nm == ("__debug__":Str))=false)(hg:C.gl (Γe nm)=true)(hs:a0n a=false)(ha:FR X C a ea) :
  FE X C (.Call (.Name (Γe nm) p) [a] [] pos) (eUn f ea):=PE.imp (b8u hc (G.gl hg) (G.blt nm hb) hv (a0x ha a2m (a0d hs)) h1 h2 (a0d hs) rfl) λσ H Q h=>d4l h
theorem fe_len (G:Good X C n sp)(hg:C.gl (Γe "len")=true)(hs:a0n a=false)(ha:FR X C a ea):FE X C (.Call (.Name (Γe "len") p) [a] [] pos) (eUn a5j ea):=a7k e2z G (by decide) (by nofun) (by nofun) (by nofun) hg hs ha
theorem fe_abs (G:Good X C n sp)(hg:C.gl (Γe "abs")=true)(hs:a0n a=false)(ha:FR X C a ea):FE X C (.Call (.Name (Γe "abs") p) [a] [] pos) (eUn d4z ea):=a7k e3d G (by decide) (by nofun) (by nofun) (by nofun) hg hs ha
theorem fe_all (G:Good X C n sp)(hg:C.gl (Γe "all")=true)(hs:a0n a=false)(ha:FR X C a ea):FE X C (.Call (.Name (Γe "all") p) [a] [] pos) (eUn c5y ea):=a7k (e3c G.calm) G (by decide) (by nofun) (by nofun) (by nofun) hg hs ha
theorem fe_any (G:Good X C n sp)(hg:C.gl (Γe "any")=true)(hs:a0n a=false)(ha:FR X C a ea):FE X C (.Call (.Name (Γe "any") p) [a] [] pos) (eUn d4y ea):=a7k (e3b G.calm) G (by decide) (by nofun) (by nofun) (by nofun) hg hs ha
theorem e0p (G:Good X C n sp)(hg:C.gl (Γe "min")=true)(hs:a0n a=false)(ha:FR X C a ea):FE X C (.Call (.Name (Γe "min") p) [a] [] pos) (eUn b5v ea):=a7k (d4p G.calm) G (by decide) (by nofun) (by nofun) (by nofun) hg hs ha
theorem d5u (G:Good X C n sp)(hg:C.gl (Γe "int")=true)(hs:a0n a=false)(ha:FR X C a ea):FE X C (.Call (.Name (Γe "int") p) [a] [] pos) (eUn b3s ea):=d3x e3a G (by decide) (by nofun) (by nofun) (by nofun) hg hs ha
theorem d5t (G:Good X C n sp)(hg:C.gl (Γe "tuple")=true)(hs:a0n a=false)(ha:FR X C a ea):FE X C (.Call (.Name (Γe "tuple") p) [a] [] pos) (eUn a2z ea):=d3x c9u G (by decide) (by nofun) (by nofun) (by nofun) hg hs ha
theorem e1a {id nm:String}{f:FV->FV->Option FV}(hc:a1r X.nox (.builtin id) (Rc2 X.K f))(G:Good X C n sp)(hb:nm∈bltNames)(hv:bootBuiltins (Γe nm)=some (.builtin id))(h1:Γe nm≠"__name__")(h2:(Γe nm == ("__debug__":Str))=false)(hg:C.gl (Γe nm)=true)(hs:a0n a=false)(hs2:a0n b=false)(ha:FE X C a ea)(hb':FR X C b eb) :
  FE X C (.Call (.Name (Γe nm) p) [a,b] [] pos) (eOp f ea eb):=PE.imp (a5q hc (G.gl hg) (G.blt nm hb) hv (a0x ha (a0x hb' a2m (a0d hs2)) (a0d hs)) h1 h2 (a0d hs) (by rw[a0d hs2];rfl)) λσ H Q ⟨c,L,S,Q0,I,h,k⟩ =>
 ⟨c,L,S,_,I,h,λv L1 hv x S1 H1 r1 I1 s1=>⟨c,L1,S1,_,I1,hv,λw L2 hw y S2 H2 r2 I2 s2=>by
  obtain⟨z,e,q⟩:=wpx hw
  exact⟨S2,v,w,x,y,z,rfl,I2.sub,.inl (r1.mono s2),r2,e,b0p I2 λx S' H' r I' s'=>k z L2 q x S' H' r I' (s1.trans (s2.trans s'))⟩⟩⟩
theorem e0r (G:Good X C n sp)(hg:C.gl (Γe "min")=true)(hs:a0n a=false)(hs2:a0n b=false)(ha:FE X C a ea)(hb':FR X C b eb):FE X C (.Call (.Name (Γe "min") p) [a,b] [] pos) (eOp b9a ea eb):=e1a (d4r G.calm) G (by decide) (by nofun) (by nofun) (by nofun) hg hs hs2 ha hb'
noncomputable def b3p:Ty->String|.int=>"int" | .bool=>"bool" | .str=>"str" | .list=>"list" | .tuple=>"tuple"
theorem c2b {v:FV}{u:V}{t:Ty}{r:Bool}(s:Same S H)(rv:RH K S H v u)(e:a6n v t=some r):∃ T,TyOf K H u (.type T)/\PySem.W.kitOne K (.type T) (.type (b3p t))=some r:=by
 cases v with
 | non=>cases (show u=V.non from rv.val rfl);exact⟨_,.non,by cases e;cases t<;>rfl⟩
 | bl c=>cases rv.bl;exact⟨_,.bl _,by cases e;cases t<;>rfl⟩
 | int c=>cases rv.int;exact⟨_,.int _,by cases e;cases t<;>rfl⟩
 | str c=>cases (show u=V.str _ from rv.val rfl);exact⟨_,.str _,by cases e;cases t<;>rfl⟩
 | tup ps =>
  obtain⟨a,xs,rfl,h1,h2⟩:=rv.tup s
  exact⟨_,.tup h1,by cases e;cases t<;>rfl⟩
 | lst l =>
  obtain⟨a,xs,rfl,h1,h2⟩:=rv.lst s
  exact⟨_,.lst h1,by cases e;cases t<;>rfl⟩
 | scr ns=>cases e
 | dct _ _=>cases e
 | dci _ _=>cases e
 | dcz _ _ _=>cases e
 | shn d=>cases (show u=V.str _ from rv.val rfl);exact⟨_,.str _,by cases e;cases t<;>rfl⟩
theorem fe_isi {t:Ty}{tn:Str}(G:Good X C n sp)(hg:C.gl (Γe "isinstance")=true)(ht:tn=Γe (b3p t))(hg2:C.gl tn=true)(hs:a0n a=false)(ha:FR X C a ea) :
  FE X C (.Call (.Name (Γe "isinstance") p) [a,.Name tn p2] [] pos) (eUn (d0n t) ea):=by
 subst ht
 have cc:a1r X.nox (.builtin "isinstance") (λxs H Q=>∃ v c b T,xs=[v,.ty c]/\TyOf X.K H v (.type T)/\PySem.W.kitOne X.K (.type T) (.type c)=some b/\Q (.bl b) H):=by
  rintro pins s σ H xs us Q I r ⟨v,c,b,T,rfl,h1,h2,q⟩
  obtain⟨u,u',rfl,ru,ru'⟩:=c6a r
  obtain rfl:u'=.type c:=ru'
  exact b9q I ru h1 h2 λtk=>⟨.bl b,H,I.tok _,rfl,q⟩
 have tt:PE X.nox (.Name (Γe (b3p t)) p2) (tC (.ty (b3p t))):=by
  cases t<;>exact c7u (G.gl hg2) (G.blt _ (by decide)) (by nofun) rfl (by nofun) (by nofun)
 refine PE.imp (a5q cc (G.gl hg) (G.blt "isinstance" (by decide)) (by nofun) (a0x ha (a0x tt a2m rfl) (a0d hs)) (by nofun) (by nofun) (a0d hs) rfl) λσ H Q ⟨c,L,S,Q0,I,h,k⟩ =>
  ⟨c,L,S,_,I,h,λv L1 hv x S1 H1 r1 I1 s1=>?_⟩
 obtain⟨z,e,q⟩:=wpx hv
 obtain⟨r,e1,rfl⟩:=mpd e
 obtain⟨T,t1,t2⟩:=c2b I1.sub r1 e1
 exact⟨x,_,_,T,rfl,t1,t2,k _ L1 q _ S1 H1 rfl I1 s1⟩
noncomputable def d6f (apos cpos:Pos):Bool:=apos.endLine == cpos.line
theorem fe_app (G:Good X C n sp){apos cpos:Pos}(h:C.nm i nx=true)(m:a0q C.md i=.own)(hl:d6f apos cpos=true)(hs:a0n a=false)(ha:FE X C a ea):FE X C (.Call (.Attribute (.Name nx p) (Γe "append") apos) [a] [] cpos) (b3c d0f i ea):=by
 refine PE.imp (d2i PySem.F.plainAttrs_list PySem.F.slot_list_append PySem.F.type_list_append b0q (a2u G h) (a0x ha a2m (a0d hs)) rfl (by rw[a0d hs];rfl) hl (a0d hs) rfl) λσ H Q ⟨c,L,S,Q0,I,h,k⟩=>?_
 obtain⟨v,e,h⟩:=wpx h
 obtain⟨v9,e9,h⟩:=wpx h
 cases a6i e9
 have e':=(a4l _ _ _).mp e
 have mi:a0q C.md i≠.imm:=λz=>by rw[m] at z;cases z
 obtain⟨l,e1,⟨_,ps,xs,e8,h1,_⟩,_⟩:=I.own i _ mi e'
 refine⟨_,e1,.inl ⟨rfl,xs,SqL.of h1⟩,c,L,S,_,I,h,λw L1 hw y S1 H1 r1 I1 s1=>?_⟩
 obtain⟨v1,e2,hw⟩:=wpx hw
 obtain⟨z,e3,q⟩:=wpx hw
 have e2':=(a4l _ _ _).mp e2
 obtain⟨qs,e4,e5⟩:=bnd e3
 cases a6i e4
 obtain⟨hb,rfl⟩:=itd e5
 obtain⟨l',f1,⟨f2,rs,zs,f3,f4,f5⟩,_⟩:=I1.own i _ mi e2'
 rw[e1] at f1;cases f1
 cases f3
 have:=a1q
 exact⟨l,zs,y,rfl,rfl,f4,by rw[<- f5.length];lia,k _ _ q .non S1 _ rfl (I1.write m e2' e1 (f5.append (RVs.one r1))) s1⟩
end
noncomputable def ArgsOk (K:Γd)(S H:Hp)(args:List FV)(vs:List V):Bool->Prop
 | false=>RVs K S args vs
 | true=>∃ v r a us,args=v :: r/\vs=.ref a :: us/\a3z K S H a v/\RVs K S r us
noncomputable def d0h (K:Γd)(S' H' H:Hp)(v:FV)(x:V):Bool->Prop
 | false=>RV K S' v x
 | true=>∃ a,x=.ref a/\a3z K S' H' a v/\H a=none
noncomputable def b4m (vs:List V):Bool->Option Addr
 | false=>none
 | true=>match vs with
  | .ref a :: _=>some a
  | _=>none
structure Kept (K:Γd)(S H S' H':Hp)(P:Option Addr)(w:FV):Prop where
 same:Same S S'
 sub:Same S' H'
 grow:∀ a o,S' a=some o->S a=some o ∨ H a=none ∨ a9i o=true
 keep:∀ a o,H a=some o->P≠some a->H' a=some o
 back:∀ a,P=some a->a3z K S' H' a w
noncomputable def spQ (K:Γd)(call:CW)(io fr:Bool) (f:Nat):Sp:=λvs H Q E=>∃ S args Q0,Same S H/\ArgsOk K S H args vs io/\call f args Q0/\∀ z,Q0 z->∀ x S' H',Kept K S H S' H' (b4m vs io) z.2->d0h K S' H' H z.1 x fr->Q x H'
section
variable {X:Cx}{C:CC}{n:Nat}{sp:Γd->Nat->Sp}{a b d x y z:Expr}{ea eb ec:EW}{pos p:Pos}{call:CW}
variable {K:Γd}{c:Cn}{md:Md}{L:a0c}{σ:L2.St}{S H S' H':Hp}{i f:Nat}{nx:Str}{xs:List Expr}{as:AW}
noncomputable def a3l (xs:List Expr):Bool:=xs.all λx=>!a0n x
theorem b3v:∀ {xs:List Expr}{env:Env},a3l xs=true->(backTo pos (starEach xs env)).any (·.1)=false
 | [],_,_=>rfl
 | x :: xs,env,h=>by
  have h:=b2 (show (!a0n x && a3l xs)=true from h)
  rw[a0d (nb h.1)]
  show (false || (backTo pos (starEach xs env)).any (·.1))=false
  rw[b3v h.2];rfl
theorem Kept.iv (I:Iv K c md L σ S H){w:FV}(k:Kept K S H S' H' none w):Iv K c md L σ S' H':=I.go3 k.same k.sub k.grow λa o e=>k.keep a o e (by simp)
theorem b3k (G:Good X C n sp){t:TA}(hf:C.fns[f]?=some nx)(hg:C.gl nx=true)(hd:(nx == ("__debug__":Str))=false)(hs:a3l (a :: xs)=true)(ha:PA X.nox (a :: xs) t):PE X.nox (.Call (.Name nx p) (a :: xs) [] pos) (λσ H Q=>t σ H λvs H1=>sp X.K f vs H1 Q E0):=by
 obtain⟨fa,fd,ps,h1,h2,h3,h4⟩:=G.fns f nx hf
 have h:=b2 (show (!a0n a && a3l xs)=true from hs)
 refine PE.imp (c7t (X:=X.nox) h4 G.room (G.gl hg) h1 h2 h3 .nil d8s ha hd (a0d (nb h.1)) (b3v h.2)) λσ H Q q=>?_
 show t σ H λvs H1=>sp X.K f (vs++[]) H1 Q E0
 have e:(λvs H1=>sp X.K f (vs++[]) H1 Q E0)=λvs H1=>sp X.K f vs H1 Q E0:=by funext vs H1;rw[List.append_nil]
 rw[e];exact q
theorem e0y (G:Good X C n sp)(e:sp X.K f=spQ X.K call false false f)(hf:C.fns[f]?=some nx)(hg:C.gl nx=true)(hd:(nx == ("__debug__":Str))=false)(hs:a3l (a :: xs)=true)(ha:FA X C (a :: xs) as):FE X C (.Call (.Name nx p) (a :: xs) [] pos) (a0i call f as) :=
 PE.imp (b3k G hf hg hd hs ha) λσ H Q ⟨c,L,S,Q0,I,h,k⟩=>⟨c,L,S,_,I,h,λvs L1 hv us S1 H1 r1 I1 s1=>by
  rw[e]
  exact⟨S1,vs,_,I1.sub,r1,hv,λz q x S' H' kp r=>k _ L1 q x S' H' r (kp.iv I1) (s1.trans kp.same)⟩⟩
theorem e0k (G:Good X C n sp)(e:sp X.K f=spQ X.K call false true f)(hf:C.fns[f]?=some nx)(hg:C.gl nx=true)(hd:(nx == ("__debug__":Str))=false)(hs:a3l (a :: xs)=true)(ha:FA X C (a :: xs) as):FF X C (.Call (.Name nx p) (a :: xs) [] pos) (a0i call f as) :=
 PE.imp (b3k G hf hg hd hs ha) λσ H Q ⟨c,L,S,Q0,I,h,k⟩=>⟨c,L,S,_,I,h,λvs L1 hv us S1 H1 r1 I1 s1=>by
  rw[e]
  refine⟨S1,vs,_,I1.sub,r1,hv,λz q x S' H' kp r=>?_⟩
  obtain⟨a,rfl,o,hn⟩:=r
  exact k _ L1 q a S' H' o (I1.fresh hn) (kp.iv I1) (s1.trans kp.same)⟩
theorem b8x {v:FV}{q:Addr}(I:Iv K c md L σ S H)(o:a3z K S H q v)(fr:a9w c md L σ q):∃ u,H q=some u/\Iv K c md L σ (upd S q u) H/\RV K (upd S q u) v (.ref q):=by
 obtain⟨h1,ps,us,e0,h2,h3⟩:=o
 have s:=a0v (o:=d5g v us) h1
 refine⟨_,h2,⟨I.len,λi v h e=>let ⟨x,e1,r⟩:=I.imm i v h e;⟨x,e1,r.mono s⟩,λi v h e=>?_,I.dis,λa u e=>?_,I.frame,I.s0.trans s,λa u e=>?_,I.lent,I.fzs,I.fzm,I.fzp,λp hp=>let ⟨g1,g2,g3⟩:=I.prs p hp;⟨g1,by rw[a0g (fr.2.1 p hp)];exact g2,g3⟩,I.ntp⟩,?_⟩
 ·obtain⟨b,e1,⟨g1,rs,zs,g2,g3,g4⟩,g5⟩:=I.own i v h e
  have hb:b≠q:=λz=>by subst z;exact fr.2.2 i v h e e1
  exact⟨b,e1,⟨by rw[a0g hb];exact g1,rs,zs,g2,g3,g4.mono s⟩,g5⟩
 ·by_cases z:a=q
  ·subst z;rw[a0h] at e;cases e;exact h2
  ·rw[a0g z] at e;exact I.sub a u e
 ·by_cases z:a=q
  ·subst z;exact .inr (.inl fr.1)
  ·rw[a0g z] at e;exact I.grow a u e
 ·cases v with
  | lst qs=>cases e0;exact⟨q,us,rfl,a0h,h3.mono s⟩
  | dct ks vs=>obtain⟨hl,rfl⟩:=itd e0;exact⟨q,us,rfl,hl,a0h,h3.mono s⟩
  | dci ks vs=>obtain⟨hl,rfl⟩:=itd e0;exact⟨q,us,rfl,hl,a0h,h3.mono s⟩
  | dcz o ks vs=>obtain⟨hl,rfl⟩:=itd e0;exact⟨q,us,rfl,hl,a0h,h3.mono s⟩
  | _=>cases e0
theorem a2j (h:FF X C a ea):FE X C a ea:=PE.imp h λσ H Q ⟨c,L,S,Q0,I,h,k⟩=>⟨c,L,S,Q0,I,h,λv L' q a S' H' o fr I' s'=>by
 obtain⟨u,hu,I2,r⟩:=b8x I' o fr
 exact k v L' q _ _ H' r I2 (s'.trans (a0v o.1))⟩
theorem c7y (G:Good X C n sp){t:TA}(h:C.nm i nx=true)(hr:PA X.nox xs t):PA X.nox (.Name nx p :: xs) (c2d (d0k i) t):=a0x (a2u G h) hr rfl
theorem c4l {Q:VK}{fr:Bool}{Q1:FV->a0c->Prop}(I:Iv K c md L σ S H)(m:a0q md i=.own)(h:a1j call f i as L Q1)
  (k:∀ v L' x H1 S' H',Q1 v L'->d0h K S' H' H1 v x fr->Iv K c md L' σ S' H'->Same S S'->(∀ a,H1 a=none->a9w c md L' σ a)->Q x H'):c2d (d0k i) (la K md as) σ H λvs H1=>spQ K call true fr f vs H1 Q E0:=by
 obtain⟨v0,e,h⟩:=wpx h
 have mi:a0q md i≠.imm:=λz=>by rw[m] at z;cases z
 obtain⟨l,e1,_⟩:=I.own i v0 mi ((a4l _ _ _).mp e)
 refine⟨_,e1,c,L,S,_,I,h,λvs L1 hv us S1 H1 r1 I1 s1=>?_⟩
 obtain⟨v1,e2,q⟩:=wpx hv
 have e2:=(a4l _ _ _).mp e2
 obtain⟨l',f1,o,_⟩:=I1.own i v1 mi e2
 rw[e1] at f1;cases f1
 refine⟨S1,v1 :: vs,_,I1.sub,⟨v1,vs,l,us,rfl,rfl,o,r1⟩,q,λz q x S' H' kp r=>?_⟩
 have I2:=I1.back3 m e2 e1 kp.same kp.sub kp.grow (λb o e n=>kp.keep b o e λz=>n (by cases z;rfl)) (kp.back l rfl)
 refine k _ _ x H1 S' H' q r I2 (s1.trans kp.same) λa ha=>⟨I1.h0 ha,(I1.fresh ha).2.1,λj w mj ej z=>?_⟩
 obtain⟨_,_,g2⟩:=I1.fresh ha
 by_cases hj:j=i
 ·subst hj;exact g2 j v1 mj e2 z
 ·rw[List.getElem?_set_ne (Ne.symm hj)] at ej;exact g2 j w mj ej z
theorem d5v (G:Good X C n sp){np:Str}{pp:Pos}(e:sp X.K f=spQ X.K call true false f)(hf:C.fns[f]?=some np)(hg:C.gl np=true)(hd:(np == ("__debug__":Str))=false)(h:C.nm i nx=true)(m:a0q C.md i=.own)(hs:a3l xs=true)(ha:FA X C xs as):FE X C (.Call (.Name np pp) (.Name nx p :: xs) [] pos) (a1j call f i as) :=
 PE.imp (b3k G hf hg hd (show (true && a3l xs)=true by rw[hs];rfl) (c7y G h ha)) λσ H Q ⟨c,L,S,Q0,I,h,k⟩=>by
  rw[e]
  exact c4l I m h λv L' x H1 S' H' q r I' s' _=>k v L' q x S' H' r I' s'
end
section
variable {K:Γd}{c:Cn}{md:Md}{L:a0c}{σ:L2.St}{S H:Hp}{i:Nat}{v:FV}{x:V}{a:Addr}
theorem Iv.setI (I:Iv K c md L σ S H)(m:a0q md i=.imm)(r:RV K S v x):Iv K c md (L.set i (some v)) (σ.set i (some x)) S H :=
 I.set (λa h z=>by subst z;exact (I.lent a h).1 m) (λz=>by rw[m] at z;cases z) (.inl ⟨m,r⟩)
theorem Iv.prot (I:Iv K c md L σ S H){o:HO}(h:H a=some o)(hs:S a=none)(ho:∀ i v,a0q md i=.own->L[i]?=some (some v)->σ[i]?≠some (some (.ref a)))(nt:a9i o=false:=by first|rfl|exact a6d _ _):Iv K { c with pr:=(a,o) :: c.pr } md L σ S H :=
 ⟨I.len,I.imm,I.own,I.dis,I.sub,I.frame,I.s0,I.grow,I.lent,I.fzs,I.fzm,λp hp=>let ⟨xs,h⟩:=I.fzp p hp;⟨xs,Γh _ h⟩,λp hp=>(List.mem_cons.mp hp).elim (λe=>e ▸ ⟨h,hs,ho⟩) (I.prs p),λp hp=>(List.mem_cons.mp hp).elim (λe=>e ▸ nt) (I.ntp p)⟩
theorem b4f:∀ {md:Md}{i j:Nat}{m:Mo},i<md.length->a0q (md.set i m) j=if j=i then m else a0q md j
 | [],i,j,m,h=>absurd h (Nat.not_lt_zero _)
 | a :: md,0,0,m,h=>rfl
 | a :: md,0,j+1,m,h=>by simp[a0q]
 | a :: md,i+1,0,m,h=>by simp[a0q]
 | a :: md,i+1,j+1,m,h=>by
  have:=b4f (md:=md) (i:=i) (j:=j) (m:=m) (by simpa using h)
  simpa[a0q] using this
theorem c5j:∀ {md:Md}{i:Nat},a0q md i=.own->i<md.length
 | [],i,h=>by simp[a0q] at h
 | a :: md,0,h=>by simp
 | a :: md,i+1,h=>by simpa using c5j (md:=md) (i:=i) h
theorem Iv.frz (I:Iv K c md L σ S H){ob:HO}(m:a0q md i=.own)(e:L[i]?=some (some v))(e1:σ[i]?=some (some (.ref a)))(h:H a=some ob) :
  Iv K { c with fz:=(i,a) :: c.fz,pr:=(a,ob) :: c.pr } (md.set i .frz) L σ S H/\∀ L σ S H,Iv K { c with fz:=(i,a) :: c.fz,pr:=(a,ob) :: c.pr } (md.set i .frz) L σ S H->Iv K c md L σ S H:=by
 have hl:=c5j m
 have mi:a0q md i≠.imm:=λz=>by rw[m] at z;cases z
 have M:∀ j,a0q (md.set i .frz) j=if j=i then .frz else a0q md j:=λj=>b4f hl
 have im:∀ {j},a0q (md.set i .frz) j=.imm↔a0q md j=.imm:=λ{j}=>by
  rw[M]
  by_cases q:j=i
  ·subst q;rw[if_pos rfl,m];simp
  ·rw[if_neg q]
 have nfz:∀ p∈c.fz,p.1≠i:=λp hp z=>by have:=(I.fzs p hp).1;rw[z,m] at this;cases this
 have npr:∀ p∈c.pr,p.1≠a:=λp hp z=>(I.prs p hp).2.2 i v m e (by rw[z];exact e1)
 obtain⟨a',f1,o,_⟩:=I.own i v mi e
 rw[e1] at f1;cases f1
 have nt:a9i ob=false:=by
  obtain⟨_,_,_,_,h5,_⟩:=o
  rw[h] at h5;rw[Option.some.inj h5,a6d]
 constructor
 ·refine⟨I.len,λj w h=>I.imm j w (im.mp h),λj w h=>I.own j w (λz=>h (im.mpr z)),λj k w u b h1 h2=>I.dis j k w u b (λz=>h1 (im.mpr z)) (λz=>h2 (im.mpr z)),I.sub,I.frame,I.s0,I.grow,λb hb=>let ⟨g1,g2⟩:=I.lent b hb;⟨λz=>g1 (im.mp z),g2⟩,λp hp=>?_,λj w hm hj=>?_,λp hp=>?_,λp hp=>?_,λp hp=>(List.mem_cons.mp hp).elim (λz=>by rw[z];exact nt) (I.ntp p)⟩
  ·rcases List.mem_cons.mp hp with rfl|hp
   ·exact⟨by rw[M,if_pos rfl],e1,v,e⟩
   ·obtain⟨g1,g2⟩:=I.fzs p hp
    exact⟨by rw[M,if_neg (nfz p hp)];exact g1,g2⟩
  ·by_cases q:j=i
   ·subst q;exact⟨a,Γn⟩
   ·rw[M,if_neg q] at hm
    obtain⟨b,g1⟩:=I.fzm j w hm hj
    exact⟨b,Γh _ g1⟩
  ·rcases List.mem_cons.mp hp with rfl|hp
   ·exact⟨_,Γn⟩
   ·obtain⟨ys,g⟩:=I.fzp p hp
    exact⟨ys,Γh _ g⟩
  ·have own':∀ {j},a0q (md.set i .frz) j=.own->j≠i/\a0q md j=.own:=λ{j} z=>by
    by_cases q:j=i
    ·subst q;rw[M,if_pos rfl] at z;cases z
    ·rw[M,if_neg q] at z;exact⟨q,z⟩
   rcases List.mem_cons.mp hp with rfl|hp
   ·exact⟨h,o.1,λj w hm hj hz=>(own' hm).1 (I.dis j i w v a (λz=>by rw[(own' hm).2] at z;cases z) mi hj e hz e1)⟩
   ·obtain⟨g1,g2,g3⟩:=I.prs p hp
    exact⟨g1,g2,λj w hm=>g3 j w (own' hm).2⟩
 ·intro L σ S H J
  obtain⟨_,j1,_⟩:=J.fzs (i,a) Γn
  refine⟨J.len,λj w h=>J.imm j w (im.mpr h),λj w h=>J.own j w (λz=>h (im.mp z)),λj k w u b h1 h2=>J.dis j k w u b (λz=>h1 (im.mp z)) (λz=>h2 (im.mp z)),J.sub,J.frame,J.s0,J.grow,λb hb=>let ⟨g1,g2⟩:=J.lent b hb;⟨λz=>g1 (im.mpr z),g2⟩,λp hp=>?_,λj w hm hj=>?_,I.fzp,λp hp=>?_,I.ntp⟩
  ·obtain⟨g1,g2⟩:=J.fzs p (Γh _ hp)
   rw[M,if_neg (nfz p hp)] at g1
   exact⟨g1,g2⟩
  ·have q:j≠i:=λz=>by rw[z,m] at hm;cases hm
   obtain⟨b,g1⟩:=J.fzm j w (by rw[M,if_neg q];exact hm) hj
   rcases List.mem_cons.mp g1 with z|g1
   ·exact absurd (Prod.mk.inj z).1 q
   ·exact⟨b,g1⟩
  ·obtain⟨g1,g2,g3⟩:=J.prs p (Γh _ hp)
   refine⟨g1,g2,λj w hm hj=>?_⟩
   by_cases q:j=i
   ·subst q;rw[j1];exact λz=>npr p hp (by cases z;rfl)
   ·exact g3 j w (by rw[M,if_neg q];exact hm) hj
end
noncomputable def ItR (K:Γd)(c:Cn)(md:Md)(J:It)(xs:List FV)(S1:Hp):Prop :=
 ∀ (i:Nat)(L:a0c)(σ:L2.St)(S H:Hp),Iv K c md L σ S H->Same S1 S->(xs[i]?=none->J.stop i H)/\∀ p,xs[i]?=some p->J.go i H/\∀ v H',J.yld i H v H'->∃ S',Same S S'/\(∀ c md L σ,Iv K c md L σ S H->Iv K c md L σ S' H')/\RV K S' p v
noncomputable def li (K:Γd)(md md':Md)(it:AW):TI:=λσ H R=>∃ c L S Q0,Iv K c md L σ S H/\it L Q0/\∀ xs L',Q0 xs L'->∀ J c' S' H',Iv K c' md' L' σ S' H'->(∀ L σ S H,Iv K c' md' L σ S H->Iv K c md L σ S H)->c'.H0=c.H0->ItR K c' md' J xs S'->Same S S'->R J H'
noncomputable def FI (X:Cx)(C:CC)(md':Md)(tg iter:Expr)(it:AW):Prop:=PI X.nox tg iter (li X.K C.md md' it)
section
variable {X:Cx}{C:CC}{n:Nat}{sp:Γd->Nat->Sp}{a b d x y z tg:Expr}{ea eb ec:EW}{pos p:Pos}
variable {K:Γd}{c:Cn}{md:Md}{L:a0c}{σ:L2.St}{S H:Hp}{i:Nat}{nx:Str}
theorem PI.imp {X:Cx}{tg it:Expr}{t u:TI}(h:PI X tg it t)(f:∀ σ H R,u σ H R->t σ H R):PI X tg it u:=λpins s σ H R I hu=>h pins s σ H R I (f σ H R hu)
noncomputable def Its (K:Γd):Bool->Addr->It
 | true,a=>Itl K a
 | false,a=>Itt K a
theorem d2a {X:Cx}{tg it:Expr}{te:TE}(h:PE X it te):PI X tg it (λσ H R=>te σ H λv H1=>∃ b a xs,v=.ref a/\SqB b X.K H1 a xs/\R (Its X.K b a) H1):=by
 intro pins s σ H R I hh
 refine thn (h pins s σ H _ I hh) λv s1 ⟨x,H1,I1,r1,b,a,xs,e,hq,q⟩=>?_
 subst e
 cases r1
 cases b with
 | true =>
  obtain⟨its,rv,p,hz⟩:=I1.list hq
  refine wpAny_pyIter_list p.isList ?_
  refine⟨s1.heap.objs.size,[s1.heap.objs.size],_,_,H1,rfl,I1.kept (t':=s1.toks) λb o e=>Γc _ e,b7j a _,⟨_,Γm _ rfl,rfl,rfl⟩,λb hb=>?_,q⟩
  have e:b=s1.heap.objs.size:=by simpa using hb
  subst e
  exact I1.fpOk (Γi _) (I1.hok.fresh (Γi _))
 | false =>
  obtain⟨its,rv,p,hz⟩:=I1.tuple hq
  refine wpAny_pyIter_tuple p ?_
  refine⟨s1.heap.objs.size,[s1.heap.objs.size],_,_,H1,rfl,I1.kept (t':=s1.toks) λb o e=>Γc _ e,b5i a _,⟨_,Γm _ rfl,rfl,rfl⟩,λb hb=>?_,q⟩
  have e:b=s1.heap.objs.size:=by simpa using hb
  subst e
  exact I1.fpOk (Γi _) (I1.hok.fresh (Γi _))
theorem d3o {t:Bool}{q:Addr}{ps:List FV}{S1:Hp}(h:∀ L σ S H,Iv K c md L σ S H->Same S1 S->∃ vs,SqB t K H q vs/\RVs K S ps vs):ItR K c md (Its K t q) ps S1:=by
 intro i L σ S H I s
 obtain⟨vs,h1,h2⟩:=h L σ S H I s
 cases t with
 | true =>
  refine⟨λe=>⟨vs,h1,by rw[<- h2.length];exact List.getElem?_eq_none_iff.mp e⟩,λp ep=>?_⟩
  obtain⟨v,e1,r1⟩:=h2.get ep
  refine⟨⟨vs,v,h1,e1⟩,λw H' ⟨eh,y⟩=>?_⟩
  have:=y vs h1
  rw[e1] at this;cases this
  subst eh
  exact⟨S,Same.refl S,λ_ _ _ _ I=>I,r1⟩
 | false =>
  refine⟨λe=>⟨vs,h1,by rw[<- h2.length];exact List.getElem?_eq_none_iff.mp e⟩,λp ep=>?_⟩
  obtain⟨v,e1,r1⟩:=h2.get ep
  refine⟨⟨vs,v,h1,e1⟩,λw H' ⟨eh,y⟩=>?_⟩
  have:=y vs h1
  rw[e1] at this;cases this
  subst eh
  exact⟨S,Same.refl S,λ_ _ _ _ I=>I,r1⟩
theorem RV.stays {v:FV}{ps:List FV}{u:V}{S1:Hp}(r:RV K S1 v u)(e:a3i v=some ps):∃ q,u=.ref q/\∀ S H,Same S1 S->Same S H->∃ vs,SqB (isL v) K H q vs/\RVs K S ps vs:=by
 cases v with
 | tup qs=>cases e;obtain⟨q,vs,rfl,h1,h2⟩:=r;exact⟨q,rfl,λS H s s'=>⟨vs,SqT.of (s' _ _ (s _ _ h1)),h2.mono s⟩⟩
 | lst qs=>cases e;obtain⟨q,vs,rfl,h1,h2⟩:=r;exact⟨q,rfl,λS H s s'=>⟨vs,SqL.of (s' _ _ (s _ _ h1)),h2.mono s⟩⟩
 | scr ns=>cases e;obtain⟨q,rfl,h⟩:=r;exact⟨q,rfl,λS H s s'=>⟨_,h.sq (s.trans s'),RVs.ns ns⟩⟩
 | _=>cases e
theorem fi_seq (ha:FE X C a ea):FI X C C.md tg a (b2w ea):=PI.imp (d2a ha) λσ H R ⟨c,L,S,Q0,I,h,k⟩ =>
 ⟨c,L,S,_,I,h,λv L1 hv x S1 H1 r1 I1 s1=>by
  obtain⟨ps,e,q⟩:=wpx hv
  obtain⟨l,rfl,st⟩:=r1.stays e
  obtain⟨vs,h1,h2⟩:=st S1 H1 (Same.refl _) I1.sub
  exact⟨isL v,l,vs,rfl,h1,k ps L1 q _ c S1 H1 I1 (λ_ _ _ _ I=>I) rfl (d3o λL σ S H I s=>st S H s I.sub) s1⟩⟩
theorem b1y:∀ (n:Nat) (lo:Int) (i:Nat),(upF lo n)[i]?=if i<n then some (.int (lo+i)) else none
 | 0,lo,i=>by simp[upF]
 | n+1,lo,0=>by simp[upF]
 | n+1,lo,i+1=>by
  show (upF (lo+1) n)[i]?=_
  rw[b1y n (lo+1) i]
  have e:lo+1+(i:Int)=lo+((i+1:Nat):Int):=by lia
  rw[e]
  simp
theorem b9p {lo:Int}{m:Nat}{S1:Hp}:ItR K c md (Itr lo m) (upF lo m) S1:=by
 intro i L σ S H I s
 rw[b1y]
 by_cases h:i<m
 ·rw[if_pos h]
  refine⟨λe=>(nomatch e),λp e=>?_⟩
  cases e
  exact⟨h,λv H' ⟨e1,e2⟩=>⟨S,Same.refl S,by rw[e1];exact λ_ _ _ _ I=>I,e2⟩⟩
 ·rw[if_neg h]
  exact⟨λ_=>show m<=i by lia,λp e=>(nomatch e)⟩
theorem fi_rng (G:Good X C n sp)(hg:C.gl (Γe "range")=true)(hs:a0n a=false)(ha:FE X C a ea):FI X C C.md tg (.Call (.Name (Γe "range") p) [a] [] pos) (b1a ea):=PI.imp (b8p (G.gl hg) (G.blt "range" (by decide)) (a0x ha a2m (a0d hs)) (a0d hs)) λσ H R ⟨c,L,S,Q0,I,h,k⟩ =>
 ⟨c,L,S,_,I,h,λv L1 hv x S1 H1 r1 I1 s1=>by
  obtain⟨j,e,hb,q⟩:=wpx hv
  cases a0t e
  have hb:=de hb
  exact⟨j,by rw[show x=.int j from r1],hb.1,hb.2,k _ L1 q _ c S1 H1 I1 (λ_ _ _ _ I=>I) rfl b9p s1⟩⟩
theorem e0g (G:Good X C n sp)(hg:C.gl (Γe "range")=true)(hs:a0n a=false)(hs2:a0n b=false)(ha:FE X C a ea)(hb:FE X C b eb):FI X C C.md tg (.Call (.Name (Γe "range") p) [a,b] [] pos) (iRng2 ea eb) :=
 PI.imp (b0k (G.gl hg) (G.blt "range" (by decide)) (a0x ha (a0x hb a2m (a0d hs2)) (a0d hs)) (by rw[a0d hs,a0d hs2];rfl) (a0d hs2)) λσ H R ⟨c,L,S,Q0,I,h,k⟩ =>
 ⟨c,L,S,_,I,h,λv L1 hv x S1 H1 r1 I1 s1=>⟨c,L1,S1,_,I1,hv,λw L2 hw y S2 H2 r2 I2 s2=>by
  obtain⟨j,e,hw⟩:=wpx hw
  obtain⟨j',e',hb,q⟩:=wpx hw
  cases a0t e;cases a0t e'
  have hb:=b2 hb
  have h1:=de hb.1
  have h2:=de hb.2
  exact⟨j,j',by rw[show x=.int j from r1,show y=.int j' from r2],⟨h1.1,h1.2,h2.1,h2.2⟩,k _ L2 q _ c S2 H2 I2 (λ_ _ _ _ I=>I) rfl b9p (s1.trans s2)⟩⟩⟩
theorem b4e {P Q:FV}{u w:V}{pp:Addr}(I:Iv K c md L σ S H)(hp:H pp=none)(r1:RV K S P u)(r2:RV K S Q w):∃ S',Same S S'/\(∀ c md L σ,Iv K c md L σ S H->Iv K c md L σ S' (upd H pp (.tup [u,w])))/\RV K S' (.tup [P,Q]) (.ref pp) :=
 ⟨upd S pp (.tup [u,w]),a0v (I.sn hp),λ_ _ _ _ I=>I.new hp _,pp,[u,w],rfl,a0h,u,[w],rfl,r1.mono (a0v (I.sn hp)),w,[],rfl,r2.mono (a0v (I.sn hp)),rfl⟩
theorem d3n {t t':Bool}{q q':Addr}{ps qs:List FV}{S1:Hp}(h:∀ L σ S H,Iv K c md L σ S H->Same S1 S->∃ vs,SqB t K H q vs/\RVs K S ps vs)(h':∀ L σ S H,Iv K c md L σ S H->Same S1 S->∃ vs,SqB t' K H q' vs/\RVs K S qs vs):ItR K c md (Iz2 K t t' q q') (a2v ps qs) S1:=by
 intro i L σ S H I s
 obtain⟨vs,h1,h2⟩:=h L σ S H I s
 obtain⟨ws,g1,g2⟩:=h' L σ S H I s
 unfold a2v
 rw[List.getElem?_zipWith]
 refine⟨λz=>⟨vs,ws,h1,g1,?_⟩,λy ey=>?_⟩
 ·rw[<- h2.length,<- g2.length]
  cases c1:ps[i]? with
  | none=>exact .inl (List.getElem?_eq_none_iff.mp c1)
  | some _ =>
   cases c2:qs[i]? with
   | none=>exact .inr (List.getElem?_eq_none_iff.mp c2)
   | some _=>rw[c1,c2] at z;cases z
 ·cases c1:ps[i]? with
  | none=>rw[c1] at ey;cases ey
  | some p1 =>
   cases c2:qs[i]? with
   | none=>rw[c1,c2] at ey;cases ey
   | some q1 =>
    rw[c1,c2] at ey
    cases ey
    obtain⟨v,f1,f2⟩:=h2.get c1
    obtain⟨w,f3,f4⟩:=g2.get c2
    refine⟨⟨vs,ws,v,w,h1,g1,f1,f3⟩,λz H' ⟨pp,hp,ez,yy⟩=>?_⟩
    have:=yy vs ws v w h1 g1 f1 f3
    subst this ez
    exact b4e I hp f2 f4
theorem c8p {t:Bool}{q:Addr}{ps:List FV}{S1:Hp}(h:∀ L σ S H,Iv K c md L σ S H->Same S1 S->∃ vs,SqB t K H q vs/\RVs K S ps vs):ItR K c md (Ien K t q) (a2v (upF 0 ps.length) ps) S1:=by
 intro i L σ S H I s
 obtain⟨vs,h1,h2⟩:=h L σ S H I s
 unfold a2v
 rw[List.getElem?_zipWith,b1y]
 refine⟨λz=>⟨vs,h1,?_⟩,λy ey=>?_⟩
 ·rw[<- h2.length]
  by_cases hi:i<ps.length
  ·rw[if_pos hi,List.getElem?_eq_getElem hi] at z;cases z
  ·lia
 ·by_cases hi:i<ps.length
  ·rw[if_pos hi,List.getElem?_eq_getElem hi] at ey
   cases ey
   obtain⟨v,f1,f2⟩:=h2.get (List.getElem?_eq_getElem hi)
   refine⟨⟨vs,v,h1,f1⟩,λz H' ⟨pp,hp,ez,yy⟩=>?_⟩
   have:=yy vs v h1 f1
   subst this ez
   exact b4e I hp (show RV K S (.int (0+i)) (.int i) by show V.int i=V.int (0+i);rw[Int.zero_add]) f2
  ·rw[if_neg hi] at ey;cases ey
variable {elts:List Expr}{kk:Nat}{tp:Pos}
theorem fi_zip (G:Good X C n sp)(hg:C.gl (Γe "zip")=true)(hs:a0n a=false)(hs2:a0n b=false)(ha:FE X C a ea)(hb:FE X C b eb):FI X C C.md (.Tuple elts kk tp) (.Call (.Name (Γe "zip") p) [a,b] [] pos) (c5r ea eb) :=
 PI.imp (d8n (G.gl hg) (G.blt "zip" (by decide)) (a0x ha (a0x hb a2m (a0d hs2)) (a0d hs)) (by rw[a0d hs,a0d hs2];rfl) (a0d hs2)) λσ H R ⟨c,L,S,Q0,I,h,k⟩ =>
 ⟨c,L,S,_,I,h,λv L1 hv x S1 H1 r1 I1 s1=>⟨c,L1,S1,_,I1,hv,λw L2 hw y S2 H2 r2 I2 s2=>by
  obtain⟨ps,e,hw⟩:=wpx hw
  obtain⟨qs,e',q⟩:=wpx hw
  obtain⟨l,rfl,st⟩:=(r1.mono s2).stays e
  obtain⟨l',rfl,st'⟩:=r2.stays e'
  obtain⟨vs,h1,_⟩:=st S2 H2 (Same.refl _) I2.sub
  obtain⟨ws,h2,_⟩:=st' S2 H2 (Same.refl _) I2.sub
  exact⟨_,_,l,l',rfl,⟨vs,h1⟩,⟨ws,h2⟩,k _ L2 q _ c S2 H2 I2 (λ_ _ _ _ I=>I) rfl (d3n (λL σ S H I s=>st S H s I.sub) λL σ S H I s=>st' S H s I.sub) (s1.trans s2)⟩⟩⟩
theorem e0i (G:Good X C n sp)(hg:C.gl (Γe "enumerate")=true)(hs:a0n a=false)(ha:FE X C a ea):FI X C C.md (.Tuple elts kk tp) (.Call (.Name (Γe "enumerate") p) [a] [] pos) (c3p ea) :=
 PI.imp (d8o (G.gl hg) (G.blt "enumerate" (by decide)) (a0x ha a2m (a0d hs)) (a0d hs)) λσ H R ⟨c,L,S,Q0,I,h,k⟩ =>
 ⟨c,L,S,_,I,h,λv L1 hv x S1 H1 r1 I1 s1=>by
  obtain⟨ps,e,q⟩:=wpx hv
  obtain⟨l,rfl,st⟩:=r1.stays e
  obtain⟨vs,h1,_⟩:=st S1 H1 (Same.refl _) I1.sub
  exact⟨_,l,rfl,⟨vs,h1⟩,k _ L1 q _ c S1 H1 I1 (λ_ _ _ _ I=>I) rfl (c8p λL σ S H I s=>st S H s I.sub) s1⟩⟩
end
noncomputable def gTs:List Nat->TGs
 | []=>d9u
 | i :: is=>c3v (a6r i) (gTs is)
noncomputable def gT (K:Γd):Tg->TG
 | .nm i=>a6r i
 | .tp is=>d5p K is.length (gTs is)
 | .tn i is=>d5p K 2 (c3v (a6r i) (c3v (d5p K is.length (gTs is)) d9u))
noncomputable def a3b (md:Md):Tg->Bool
 | .nm i=>decide (a0q md i=.imm)
 | .tp is=>is.all λi=>decide (a0q md i=.imm)
 | .tn i is=>decide (a0q md i=.imm) && is.all λi=>decide (a0q md i=.imm)
noncomputable def a5e (n:Nat):Tg->Bool
 | .nm i=>decide (n<=i)
 | .tp is=>is.all λi=>decide (n<=i)
 | .tn i is=>decide (n<=i) && is.all λi=>decide (n<=i)
noncomputable def FG (X:Cx)(t:Expr)(tg:Tg):Prop:=PG X.nox t (gT X.K tg)
section
variable {K:Γd}{c:Cn}{md:Md}{L:a0c}{σ:L2.St}{S H:Hp}
theorem a8s:∀ {is:List Nat}{ps:List FV}{vs:List V}{L L':a0c}{σ:L2.St},(is.all λi=>decide (a0q md i=.imm))=true->Iv K c md L σ S H->RVs K S ps vs->a7e L is ps=some L' ->
  ∃ σ',(∀ Q:L2.St->Hp->Prop,Q σ' H->gTs is vs σ H Q)/\Iv K c md L' σ' S H/\σ'.length=σ.length/\is.length=vs.length/\∀ n,(is.all λi=>decide (n<=i))=true->∀ j,j<n->σ'[j]?=σ[j]?
 | [],[],vs,L,L',σ,_,I,r,e=>by cases (show vs=[] from r);cases e;exact⟨σ,λQ q=>⟨rfl,q⟩,I,rfl,rfl,λ_ _ _ _=>rfl⟩
 | i :: is,p :: ps,vs,L,L',σ,hm,I,r,e=>by
  obtain⟨v,q,rfl,h1,h2⟩:=r
  have hm:=b2 (show (decide (a0q md i=.imm) && is.all λi=>decide (a0q md i=.imm))=true from hm)
  obtain⟨σ',g,I',l1,l2,far⟩:=a8s (is:=is) (ps:=ps) (vs:=q) hm.2 (I.setI (de hm.1) h1) h2 e
  refine⟨σ',λQ q'=>⟨v,q,rfl,g Q q'⟩,I',by rw[l1,List.length_set],by rw[List.length_cons,List.length_cons,l2],λn hn j hj=>?_⟩
  have hn:=b2 (show (decide (n<=i) && is.all λi=>decide (n<=i))=true from hn)
  have:=de hn.1
  rw[far n hn.2 j hj,List.getElem?_set_ne (by lia)]
 | [],p :: ps,_,_,_,_,_,_,_,e=>by cases e
 | i :: is,[],_,_,_,_,_,_,_,e=>by cases e
theorem a5b {tg:Tg}{v:FV}{x:V}{Q:a0c->Prop}(hm:a3b md tg=true)(I:Iv K c md L σ S H)(r:RV K S v x)(h:gW tg v L Q) :
  ∃ σ' L',(∀ Q':L2.St->Hp->Prop,Q' σ' H->gT K tg x σ H Q')/\Q L'/\Iv K c md L' σ' S H/\σ'.length=σ.length/\∀ n,a5e n tg=true->∀ j,j<n->σ'[j]?=σ[j]?:=by
 cases tg with
 | nm i =>
  refine⟨σ.set i (some x),L.set i (some v),λQ q=>q,h,I.setI (de hm) r,List.length_set ..,λn hn j hj=>?_⟩
  have:n<=i:=de hn
  exact List.getElem?_set_ne (by lia)
 | tp is =>
  obtain⟨ps,e,h⟩:=wpx h
  obtain⟨L',e1,q⟩:=wpx h
  cases a1s e
  obtain⟨a,vs,rfl,h1,h2⟩:=r
  obtain⟨σ',g,I',l1,l2,far⟩:=a8s hm I h2 e1
  exact⟨σ',L',λQ q=>⟨a,vs,rfl,SqT.of (I.sub _ _ h1),l2.symm,g Q q⟩,q,I',l1,far⟩
 | tn i is =>
  have hm:=b2 hm
  obtain⟨ps,e,h⟩:=wpx h
  obtain⟨p,e1,h⟩:=wpx h
  obtain⟨qs,e2,h⟩:=wpx h
  obtain⟨L',e3,q⟩:=wpx h
  cases a1s e
  obtain⟨p1,p2⟩:=p
  obtain rfl:ps=[p1,p2]:=by
   rcases ps with _|⟨a,_|⟨b,_|⟨c,r⟩⟩⟩<;>first|(cases e1;done)|(cases e1;rfl)
  obtain⟨a,vs,rfl,h1,h2⟩:=r
  obtain⟨u,w,rfl,r1,r2⟩:=h2.two_of
  cases a1s e2
  obtain⟨b,ws,rfl,h3,h4⟩:=r2
  obtain⟨σ',g,I',l1,l2,far⟩:=a8s hm.2 (I.setI (de hm.1) r1) h4 e3
  refine⟨σ',L',λQ q=>⟨a,_,rfl,SqT.of (I.sub _ _ h1),rfl,_,_,rfl,_,_,rfl,b,ws,rfl,SqT.of (I.sub _ _ h3),l2.symm,g _ ⟨rfl,q⟩⟩,q,I',by rw[l1,List.length_set],λn hn j hj=>?_⟩
  have hn:=b2 hn
  have:=de hn.1
  rw[far n hn.2 j hj,List.getElem?_set_ne (by lia)]
theorem Iv.regrow {a:Addr}{o o':HO}(I:Iv K { c with pr:=(a,o) :: c.pr } md L σ S H)(h0:c.H0 a=none)(hp:∀ p∈c.pr,p.1≠a)(hz:∀ p∈c.fz,∃ o,(p.2,o)∈c.pr)(nt:a9i o'=false:=by first|rfl|exact a6d _ _):Iv K { c with pr:=(a,o') :: c.pr } md L σ S (upd H a o'):=by
 obtain⟨_,sa,na⟩:=I.prs (a,o) Γn
 have oa:∀ j w b,a0q md j≠.imm->L[j]?=some (some w)->σ[j]?=some (some (.ref b))->b≠a:=λj w b hm hj hs z=>by
  subst z
  by_cases m:a0q md j=.own
  ·exact na j w m hj hs
  ·have m:a0q md j=.frz:=by cases q:a0q md j with|imm=>exact absurd q hm|own=>exact absurd q m|frz=>rfl
   obtain⟨b',g1⟩:=I.fzm j w m hj
   obtain⟨_,g2,_⟩:=I.fzs _ g1
   rw[hs] at g2;cases g2
   obtain⟨xs,g3⟩:=hz _ g1
   exact hp _ g3 rfl
 refine⟨I.len,I.imm,λj w hm hj=>?_,I.dis,λb u e=>?_,λb u e n=>?_,I.s0,I.grow,I.lent,I.fzs,I.fzm,λp hpz=>let ⟨xs,g⟩:=hz p hpz;⟨xs,Γh _ g⟩,λp hpr=>?_,λp hpr=>(List.mem_cons.mp hpr).elim (λz=>by rw[z];exact nt) λz=>I.ntp p (Γh _ z)⟩
 ·obtain⟨b,e1,⟨g1,ps,xs,g2,g3,g4⟩,g5⟩:=I.own j w hm hj
  exact⟨b,e1,⟨g1,ps,xs,g2,by rw[a0g (oa j w b hm hj e1)];exact g3,g4⟩,g5⟩
 ·rw[a0g λz=>by subst z;rw[sa] at e;cases e];exact I.sub b u e
 ·rw[a0g λz=>by subst z;rw[h0] at e;cases e];exact I.frame b u e n
 ·rcases List.mem_cons.mp hpr with rfl|hpr
  ·exact⟨a0h,sa,na⟩
  ·obtain⟨g1,g2,g3⟩:=I.prs p (Γh _ hpr)
   exact⟨by rw[a0g (hp p hpr)];exact g1,g2,g3⟩
theorem Iv.unprot {a:Addr}{o:HO}(I:Iv K { c with pr:=(a,o) :: c.pr } md L σ S H)(hz:∀ p∈c.fz,∃ o,(p.2,o)∈c.pr):Iv K c md L σ S H :=
 ⟨I.len,I.imm,I.own,I.dis,I.sub,I.frame,I.s0,I.grow,I.lent,I.fzs,I.fzm,hz,λp hp=>I.prs p (Γh _ hp),λp hp=>I.ntp p (Γh _ hp)⟩
theorem c5k:∀ {md:Md}{i:Nat},md.length<=i->a0q md i=.imm
 | [],i,_=>rfl
 | a :: md,0,h=>absurd h (by simp)
 | a :: md,i+1,h=>c5k (md:=md) (i:=i) (by simpa using h)
theorem Iv.more (I:Iv K c md L σ S H) (m:Nat):Iv K c md (L++Γj m none) (σ++Γj m none) S H:=by
 have look:∀ j w,(L++Γj m none)[j]?=some (some w)->L[j]?=some (some w)/\(σ++Γj m none)[j]?=σ[j]?:=λj w z=>by
  by_cases h:j<L.length
  ·rw[List.getElem?_append_left h] at z
   exact⟨z,List.getElem?_append_left (by rw[<- I.len];exact h)⟩
  ·rw[List.getElem?_append_right (by lia),List.getElem?_replicate] at z
   split at z<;>cases z
 have up:∀ j w,L[j]?=some (some w)->(L++Γj m none)[j]?=some (some w)/\(σ++Γj m none)[j]?=σ[j]?:=λj w z=>by
  have h:=(List.getElem?_eq_some_iff.mp z).1
  exact⟨by rw[List.getElem?_append_left h];exact z,List.getElem?_append_left (by rw[<- I.len];exact h)⟩
 refine⟨by simp[I.len],λj w hm z=>?_,λj w hm z=>?_,λj k w u b m1 m2 z1 z2 y1 y2=>?_,I.sub,I.frame,I.s0,I.grow,λb hb=>?_,λp hp=>?_,λj w hm z=>I.fzm j w hm (look j w z).1,I.fzp,λp hp=>?_,I.ntp⟩
 ·obtain⟨z,y⟩:=look j w z;rw[y];exact I.imm j w hm z
 ·obtain⟨z,y⟩:=look j w z;rw[y];exact I.own j w hm z
 ·obtain⟨z1,q1⟩:=look j w z1
  obtain⟨z2,q2⟩:=look k u z2
  rw[q1] at y1;rw[q2] at y2
  exact I.dis j k w u b m1 m2 z1 z2 y1 y2
 ·obtain⟨g1,g2,w,g3⟩:=I.lent b hb
  obtain⟨f1,f2⟩:=up 0 w g3
  exact⟨g1,by rw[f2];exact g2,w,f1⟩
 ·obtain⟨g1,g2,w,g3⟩:=I.fzs p hp
  obtain⟨f1,f2⟩:=up p.1 w g3
  exact⟨g1,by rw[f2];exact g2,w,f1⟩
 ·obtain⟨g1,g2,g3⟩:=I.prs p hp
  refine⟨g1,g2,λj w hm z=>?_⟩
  obtain⟨z,y⟩:=look j w z
  rw[y];exact g3 j w hm z
theorem Iv.take {n:Nat}{σ2:L2.St}(I:Iv K c md L σ2 S H)(hmd:md.length<=n)(hs:σ.length=n)(hl:n<=σ2.length)(e:∀ j,j<n->σ2[j]?=σ[j]?):Iv K c md (L.take n) σ S H:=by
 have look:∀ j w,(L.take n)[j]?=some (some w)->L[j]?=some (some w)/\σ[j]?=σ2[j]?:=λj w z=>by
  have h:=(List.getElem?_eq_some_iff.mp z).1
  rw[List.length_take] at h
  rw[List.getElem?_take_of_lt (by lia)] at z
  exact⟨z,(e j (by lia)).symm⟩
 have up:∀ j w,a0q md j≠.imm->L[j]?=some (some w)->(L.take n)[j]?=some (some w)/\σ[j]?=σ2[j]?:=λj w hm z=>by
  have h:j<n:=by
   by_cases h:j<n
   ·exact h
   ·exact absurd (c5k (by lia)) hm
  exact⟨by rw[List.getElem?_take_of_lt h];exact z,(e j h).symm⟩
 refine⟨by rw[List.length_take,I.len,hs];lia,λj w hm z=>?_,λj w hm z=>?_,λj k w u b m1 m2 z1 z2 y1 y2=>?_,I.sub,I.frame,I.s0,I.grow,λb hb=>?_,λp hp=>?_,λj w hm z=>I.fzm j w hm (look j w z).1,I.fzp,λp hp=>?_,I.ntp⟩
 ·obtain⟨z,y⟩:=look j w z;rw[y];exact I.imm j w hm z
 ·obtain⟨z,y⟩:=look j w z;rw[y];exact I.own j w hm z
 ·obtain⟨z1,q1⟩:=look j w z1
  obtain⟨z2,q2⟩:=look k u z2
  rw[q1] at y1;rw[q2] at y2
  exact I.dis j k w u b m1 m2 z1 z2 y1 y2
 ·obtain⟨g1,g2,w,g3⟩:=I.lent b hb
  obtain⟨f1,f2⟩:=up 0 w g1 g3
  exact⟨g1,by rw[f2];exact g2,w,f1⟩
 ·obtain⟨g1,g2,w,g3⟩:=I.fzs p hp
  obtain⟨f1,f2⟩:=up p.1 w (λz=>by rw[g1] at z;cases z) g3
  exact⟨g1,by rw[f2];exact g2,w,f1⟩
 ·obtain⟨g1,g2,g3⟩:=I.prs p hp
  refine⟨g1,g2,λj w hm z=>?_⟩
  obtain⟨z,y⟩:=look j w z
  rw[y];exact g3 j w hm z
theorem c4i {J:It}{xs:List FV}{n m:Nat}{tg:Tg}{t:BW}{e:EW}{Q:VK}{Q1:List FV->a0c->Prop}(I:Iv K c md L σ S H)(hJ:ItR K c md J xs S)(hL:L.length=n)(hmd:md.length<=n)(ht:a3b md tg=true)(hg:a5e n tg=true)(hb:xs.length<=big)(h:a4y n m tg t e xs [] L Q1)
  (k:∀ acc ps L' S' H',H acc=none->Q1 ps L'->a3z K S' H' acc (.lst ps)->a9w c md L' σ acc->Iv K c md L' σ S' H'->Same S S'->Q (.ref acc) H') :
  ∀ acc,H acc=none->∃ W:Nat->Nat->Hp->Prop,(∃ m,W 0 m (upd H acc (.lst [])))/\∀ i j H,W i j H ->
   (J.stop i H/\Q (.ref acc) H) ∨ (J.go i H/\∀ x H',J.yld i H x H'->gT K tg x (σ++Γj m none) H' λσ2 H2=>Wk (σ++Γj m none) σ2/\lb K md t σ2 H2 λb H3 =>
    if b=true then lv K md e σ2 H3 λv H4=>∃ ys,H4 acc=some (.lst ys)/\ys.length<sizeLine/\∃ m',m'<j/\W (i+1) m' (upd H4 acc (.lst (ys++[v]))) else ∃ m',m'<j/\W (i+1) m' H3):=by
 intro acc hacc
 have h0:=I.h0 hacc
 have hp:∀ p∈c.pr,p.1≠acc:=(I.fresh hacc).2.1
 have hz:=I.fzp
 have hl:σ.length=n:=by rw[<- I.len];exact hL
 have hbl:=a1q
 let W:Nat->Nat->Hp->Prop:=λi j H1=>∃ L S1 ps us,j=(xs.drop i).length/\Iv K { c with pr:=(acc,.lst us) :: c.pr } md L σ S1 H1/\RVs K S1 ps us/\Same S S1/\L.length=n/\ps.length<=i/\a4y n m tg t e (xs.drop i) ps L Q1
 have I1:Iv K { c with pr:=(acc,.lst []) :: c.pr } md L σ S (upd H acc (.lst [])):=(I.lay hacc _).prot a0h (I.sn hacc) λj w hm hj=>(I.fresh hacc).2.2 j w (λz=>by rw[hm] at z;cases z) hj
 refine⟨W,⟨_,L,S,[],[],rfl,I1,rfl,Same.refl S,hL,Γi _,by rw[List.drop_zero];exact h⟩,?_⟩
 rintro i j H1 ⟨L,S1,ps,us,rfl,I,r,s,hL,hps,hc⟩
 have I0:=I.unprot hz
 obtain⟨j1,j2⟩:=hJ i L σ S1 H1 I0 s
 obtain⟨g1,g2,g3⟩:=I.prs (acc,.lst us) Γn
 cases hd:xs.drop i with
 | nil =>
  left
  rw[hd] at hc
  refine⟨j1 (List.getElem?_eq_none_iff.mpr (List.drop_eq_nil_iff.mp hd)),k acc ps L S1 H1 hacc hc ⟨g2,ps,us,rfl,g1,r⟩ ⟨h0,hp,λq w hm hq hs=>?_⟩ I0 s⟩
  by_cases mo:a0q md q=.own
  ·exact g3 q w mo hq hs
  ·have mo:a0q md q=.frz:=by cases z:a0q md q with|imm=>exact absurd z hm|own=>exact absurd z mo|frz=>rfl
   obtain⟨b,f1⟩:=I0.fzm q w mo hq
   obtain⟨_,f2,_⟩:=I0.fzs _ f1
   rw[hs] at f2;cases f2
   obtain⟨ys,f3⟩:=hz _ f1
   exact hp _ f3 rfl
 | cons p rest =>
  right
  rw[hd] at hc
  have hi:xs[i]?=some p:=by
   have:=congrArg (·[0]?) hd
   simpa using this
  have hd':xs.drop (i+1)=rest:=by
   have:=congrArg List.tail hd
   simpa[List.tail_drop] using this
  have hix:i<xs.length:=(List.getElem?_eq_some_iff.mp hi).1
  obtain⟨go,yl⟩:=j2 p hi
  refine⟨go,λx H2 y=>?_⟩
  obtain⟨S2,s2,tr,rx⟩:=yl x H2 y
  have I2:=(tr _ _ _ _ I).more m
  obtain⟨σ2,L2,gq,q2,I2,len2,far⟩:=a5b ht I2 rx hc
  have l2:n<=σ2.length:=by rw[len2,List.length_append,hl];lia
  have far':∀ q,q<n->σ2[q]?=σ[q]?:=λq hq=>by rw[far n hg q hq,List.getElem?_append_left (by rw[hl];exact hq)]
  refine gq _ ⟨⟨len2,λq v hv=>?_⟩,?_⟩
  ·have hq:q<n:=by
    by_cases h:q<σ.length
    ·rw[<- hl];exact h
    ·rw[List.getElem?_append_right (by lia),List.getElem?_replicate] at hv
     split at hv<;>cases hv
   rw[far n hg q hq];exact hv
  ·refine⟨_,L2,S2,_,I2,q2,λb L3 hb3 S3 H3 I3 s3=>?_⟩
   cases b with
   | false =>
    rw[if_neg Γk] at hb3 ⊢
    exact⟨rest.length,by simp,L3.take n,S3,ps,us,by rw[hd'],I3.take hmd hl l2 far',r.mono (s2.trans s3),s.trans (s2.trans s3),by rw[List.length_take,I3.len];lia,by lia,by rw[hd'];exact hb3⟩
   | true =>
    rw[if_pos rfl] at hb3 ⊢
    refine⟨_,L3,S3,_,I3,hb3,λv L4 hv u S4 H4 r4 I4 s4=>?_⟩
    obtain⟨k1,_⟩:=I4.prs (acc,.lst us) Γn
    have lr:=r.length
    exact⟨us,k1,by lia,rest.length,by simp,L4.take n,S4,ps++[v],us++[u],by rw[hd'],(I4.take hmd hl l2 far').regrow h0 hp hz,(r.mono (s2.trans (s3.trans s4))).append (RVs.one r4),s.trans (s2.trans (s3.trans s4)),by rw[List.length_take,I4.len];lia,by simp;lia,by rw[hd'];exact hv⟩
end
noncomputable def b9r:Expr->Bool
 | .Set ..=>true
 | _=>false
theorem b1b {x:Expr}{env:Env}(h:b9r x=false):∀ v,foldedSetIterable x env v=pure v:=by
 intro v
 cases x<;>first|rfl|(cases h;done)
noncomputable def CC.tn (C:CC) (i:Nat)(x:Str):Bool:=decide (C.N[i]?=some x) && C.loc x
noncomputable def d7y (outer:List (Str×NameKind))(names:List (Str×NameKind)):List (Str×NameKind) :=
 names.map λ(n,k)=>if (k == NameKind.free && outer.lookup n == some .cell) then (n,NameKind.cell) else (n,k)
noncomputable def CC.sub (C:CC)(scope:Scope)(own:List Str)(md:Md):CC:=⟨C.N.map (a9a own)++own,d7y C.sc scope.names,C.fns,md,false,scope.names⟩
noncomputable def CC.scOk (C:CC)(scope:Scope)(own:List Str):Bool :=
 decide (scope.kind=.function) && scope.names.all (λp=>decide (p.2=.cell->scope.names.lookup p.1=some .cell)) && scope.names.all (λp=>decide (p.2=.local->scope.names.lookup p.1=some .local)) &&
 scope.names.all (λp=>decide (p.2=.free->(C.sc.lookup p.1=some .cell ∨ C.sc.lookup p.1=some .free))) && C.N.all (λx=>if own.contains x then decide (scope.names.lookup (d5o x)=none) else decide (scope.names.lookup x≠some .local/\scope.names.lookup x≠some .cell)) && decide ((C.N.map (a9a own)++own).Nodup)
noncomputable def d3e:Md->Md->Bool
 | [],_=>true
 | a :: md,[]=>decide (a=.imm) && d3e md []
 | a :: md,b :: md'=>(decide (a=.imm) || !decide (b=.imm)) && d3e md md'
theorem a6g:∀ {md md':Md},d3e md md'=true->∀ j,a0q md j≠.imm->a0q md' j≠.imm
 | [],_,_,j,h=>absurd rfl h
 | a :: md,[],h,0,h0=>absurd (de (b2 h).1) h0
 | a :: md,[],h,j+1,h0=>a6g (md:=md) (md':=[]) (b2 h).2 j h0
 | a :: md,b :: md',h,0,h0=>λz=>by
  have h:=(b2 h).1
  have h0:a≠.imm:=h0
  have z:b=.imm:=z
  simp[h0,z] at h
 | a :: md,b :: md',h,j+1,h0=>a6g (md:=md) (md':=md') (b2 h).2 j h0
noncomputable def FGs (X:Cx)(es:List Expr)(is:List Nat):Prop:=PGs X.nox es (gTs is)/\(assignEach es X.env).length=is.length/\(assignEach es X.env).findIdx? (·.1)=none
noncomputable def FTs (X:Cx)(C:CC)(xs:List Expr)(t:BW):Prop:=PTs X.nox xs (lb X.K C.md t)
section
variable {X:Cx}{C:CC}{n:Nat}{sp:Γd->Nat->Sp}{a b x:Expr}{xs:List Expr}{pos p:Pos}{i k:Nat}{nx:Str}{is:List Nat}{t u:BW}
theorem Good.ix (G:Good X C n sp){y:Str}(h:decide (C.N[i]?=some y)=true):X.N[i]?=some y:=by rw[G.N];exact de h
theorem Good.nd' (G:Good X C n sp):X.N.Nodup:=by rw[G.N];exact G.nd
theorem d3u (G:Good X C n sp)(h:C.tn i nx=true):FG X (.Name nx p) (.nm i):=by
 have h:=b2 h
 obtain⟨l1,l2⟩:=G.loc h.2
 exact c7p (X:=X.nox) G.nd' (G.ix h.1) l1 l2
theorem e0j:FGs X [] []:=⟨b8q,rfl,rfl⟩
theorem d5r (G:Good X C n sp)(h:C.tn i nx=true)(r:FGs X xs is):FGs X (.Name nx p :: xs) (i :: is):=by
 obtain⟨h1,h2,h3⟩:=r
 refine⟨a8x (d3u G h) h1 rfl,?_,?_⟩
 ·show (assignEach xs X.env).length+1=is.length+1
  rw[h2]
 ·show ((false,assign (.Name nx p) X.env) :: assignEach xs X.env).findIdx? (·.1)=none
  rw[List.findIdx?_cons]
  simp[h3]
theorem c9h (G:Good X C n sp)(r:FGs X xs is):FG X (.Tuple xs k p) (.tp is):=c5d (X:=X.nox) G.calm r.1 r.2.1 r.2.2
theorem fg_tn (G:Good X C n sp){k2:Nat}{p2 p3:Pos}(h:C.tn i nx=true)(r:FGs X xs is):FG X (.Tuple [.Name nx p3,.Tuple xs k2 p2] k p) (.tn i is) :=
 c5d (X:=X.nox) G.calm (a8x (d3u G h) (a8x (c9h G r) b8q rfl) rfl) rfl rfl
theorem PTs.imp {e:List Expr}{t u:TT}(h:PTs X e t)(f:∀ σ H Q,u σ H Q->t σ H Q):PTs X e u:=λpins s σ H Q I hu=>h pins s σ H Q I (f σ H Q hu)
theorem d9w:FTs X C [] a0u:=PTs.imp c7c λσ H Q ⟨c,L,S,Q0,I,h,k⟩=>k true L h S H I (Same.refl S)
theorem Good.sub (G:Good X C n sp){scope:Scope}{own:List Str}(h:C.scOk scope own=true)(md:Md):CScope X scope own/\∀ fp D s H,Good (cxC X scope own fp D s H) (C.sub scope own md) n sp:=by
 simp only[CC.scOk,Bool.and_eq_true,decide_eq_true_eq,List.all_eq_true] at h
 obtain⟨⟨⟨⟨⟨h1,h2⟩,h3⟩,h4⟩,h5⟩,h6⟩:=h
 refine⟨⟨h1,λp hp=>by simpa using h2 p hp,λp hp=>by simpa using h3 p hp,λp hp hk=>?_,λx hx hw=>?_,λx hx hw=>?_⟩,λfp D s H=>⟨?_,?_,h1,h6,G.calm,(λx z=>z),G.room,G.fns,G.blt⟩⟩
 ·have:=h4 p hp
  show X.env.scope.names.lookup p.1=_ ∨ X.env.scope.names.lookup p.1=_
  rw[G.sc];exact this hk
 ·have:=h5 x (by rw[<- G.N];exact hx)
  rw[if_neg (by rw[hw];exact Γk)] at this
  exact de this
 ·have:=h5 x (by rw[<- G.N];exact hx)
  rw[if_pos hw] at this
  exact de this
 ·show X.N.map (a9a own)++own=C.N.map (a9a own)++own
  rw[G.N]
 ·show (relabel scope X.env).names=d7y C.sc scope.names
  unfold relabel d7y
  simp only
  refine List.map_congr_left λp hp=>?_
  obtain⟨nm,kd⟩:=p
  show (if (kd == NameKind.free && X.env.scope.kind == .function && X.env.scope.names.lookup nm == some .cell)=true then (nm,NameKind.cell) else (nm,kd))=_
  rw[G.kind,G.sc]
  simp
variable {scope:Scope}{own:List Str}{elt tgx iter:Expr}{ifs:List Expr}{it:AW}{tg:Tg}{e:EW}{nn m:Nat}{md':Md}
structure CompOk (X:Cx)(C:CC) (n:Nat)(sp:Γd->Nat->Sp)(scope:Scope)(own:List Str)(elt tgx iter:Expr)(ifs:List Expr) (nn m:Nat)(md':Md)(it:AW)(tg:Tg)(t:BW)(e:EW):Prop where
 st:(C.scOk scope own && decide (C.N.length=nn) && decide (own.length=m) && decide (md'.length<=nn) && d3e C.md md' && a3b md' tg && a5e nn tg && !b9r iter)=true
 it:FI X C md' tgx iter it
 tg:∀ X',Good X' (C.sub scope own md') n sp->FG X' tgx tg
 ts:∀ X',Good X' (C.sub scope own md') n sp->FTs X' (C.sub scope own md') ifs t
 el:∀ X',Good X' (C.sub scope own md') n sp->FE X' (C.sub scope own md') elt e
theorem CompOk.run (G:Good X C n sp)(h:CompOk X C n sp scope own elt tgx iter ifs nn m md' it tg t e){σ:L2.St}{H:Hp}{Q:VK}(hq:lf X.K C.md (a1p nn m it tg t e) σ H Q):c6i (li X.K C.md md' it) (gT X.K tg) (lb X.K md' t) (lv X.K md' e) own.length σ H Q:=by
 have h0:=b2 h.st;have h1:=b2 h0.1;have h2:=b2 h1.1;have h3:=b2 h2.1;have h4:=b2 h3.1;have h5:=b2 h4.1;have h6:=b2 h5.1
 obtain⟨c,L,S,Q0,I,hh,k⟩:=hq
 refine⟨c,L,S,_,I,hh,λxs L1 hx J c' S1 H1 I1 un e0 hJ s1=>?_⟩
 obtain⟨hl,hb,hc⟩:=hx
 rw[de h5.2]
 refine c4i I1 hJ hl (de h4.2) h2.2 h1.2 hb hc λacc ps L' S' H' hn q o fr I' s'=>k _ L' q acc S' H' o ⟨by rw[<- e0];exact fr.1,((un _ _ _ _ I1).fresh hn).2.1,λj w hm=>fr.2.2 j w (a6g h3.2 j hm)⟩ (un _ _ _ _ I') (s1.trans s')
theorem CompOk.blk (G:Good X C n sp)(h:CompOk X C n sp scope own elt tgx iter ifs nn m md' it tg t e):CScope X scope own/\(∀ fp D s H,PG (cxC X scope own fp D s H) tgx (gT X.K tg)/\PTs (cxC X scope own fp D s H) ifs (lb X.K md' t)/\PE (cxC X scope own fp D s H) elt (lv X.K md' e))/\∀ v,foldedSetIterable iter X.env v=pure v:=by
 have h0:=b2 h.st;have h1:=b2 h0.1;have h2:=b2 h1.1;have h3:=b2 h2.1;have h4:=b2 h3.1;have h5:=b2 h4.1;have h6:=b2 h5.1
 obtain⟨s1,s2⟩:=G.sub h6.1 md'
 exact⟨s1,λfp D s H=>⟨h.tg _ (s2 fp D s H),h.ts _ (s2 fp D s H),h.el _ (s2 fp D s H)⟩,b1b (nb h0.2)⟩
theorem a0o (G:Good X C n sp)(h:CompOk X C n sp scope own elt tgx iter ifs nn m md' it tg t e):FF X C (.ListComp elt [⟨tgx,iter,ifs,0⟩] scope pos) (a1p nn m it tg t e):=by
 obtain⟨s1,s2,s3⟩:=h.blk G
 exact PE.imp (b8t G.calm s1 h.it s2 s3) λσ H Q q=>h.run G q
end
noncomputable def e4i (K:Γd)(c:Cn)(S H:Hp)(v:FV)(x:V):Bool->Prop
 | false=>RV K S v x
 | true=>∃ a,x=.ref a/\a3z K S H a v/\c.H0 a=none
noncomputable def EndQ (K:Γd)(c:Cn)(fr:Bool)(D:Ends)(σ:L2.St)(S H:Hp):FFl->Prop
 | .next=>D.nx σ H
 | .brk=>D.bk σ H
 | .cont=>D.ct σ H
 | .ret v=>∀ x,e4i K c S H v x fr->D.rt x H
noncomputable def ls (K:Γd)(md:Md)(fr:Bool)(s:SW):TS:=λD σ H=>∃ c L S Q0,Iv K c md L σ S H/\s L Q0/\∀ fl L',Q0 fl L'->∀ σ' S' H',Iv K c md L' σ' S' H'->Same S S'->EndQ K c fr D σ' S' H' fl
noncomputable def FS (X:Cx)(C:CC)(fr:Bool)(x:Stmt)(s:SW):Prop:=PS X.nox x (ls X.K C.md fr s)
noncomputable def FSs (X:Cx)(C:CC)(fr:Bool)(x:List Stmt)(s:SW):Prop:=PSs X.nox x (ls X.K C.md fr s)
noncomputable def CC.wmd (C:CC)(md:Md):CC:=⟨C.N,C.sc,C.fns,md,C.top,C.oc⟩
section
variable {X:Cx}{C:CC}{n:Nat}{sp:Γd->Nat->Sp}{fr:Bool}{a b x y:Expr}{e ea eb:EW}{pos p px py:Pos}{i j k:Nat}{nx ny:Str}{is:List Nat}{st:Stmt}{sts:List Stmt}{s r:SW}
variable {K:Γd}{c:Cn}{md:Md}{L:a0c}{σ:L2.St}{S H:Hp}
theorem Good.wmd (G:Good X C n sp)(md:Md):Good X (C.wmd md) n sp:=⟨G.N,G.sc,G.kind,G.nd,G.calm,G.fn,G.room,G.fns,G.blt⟩
theorem PS.imp {e:Stmt}{t u:TS}(h:PS X e t)(f:∀ D σ H,u D σ H->t D σ H):PS X e u:=λpins s σ H D I hu=>h pins s σ H D I (f D σ H hu)
theorem PSs.imp {e:List Stmt}{t u:TS}(h:PSs X e t)(f:∀ D σ H,u D σ H->t D σ H):PSs X e u:=λpins s σ H D I hu=>h pins s σ H D I (f D σ H hu)
theorem fs_nil:FSs X C fr [] a5f:=PSs.imp c7g λD σ H ⟨c,L,S,Q0,I,h,k⟩=>k .next L h σ S H I (Same.refl S)
theorem a2g (h:FS X C fr st s):FSs X C fr [st] s:=c7f h
theorem a0m (h:FS X C fr st s)(h2:FSs X C fr sts r):FSs X C fr (st :: sts) (a0s s r):=PSs.imp (c2p h h2) λD σ H ⟨c,L,S,Q0,I,h,k⟩ =>
 ⟨c,L,S,_,I,h,λfl L1 q σ1 S1 H1 I1 s1=>by
  cases fl with
  | next=>exact⟨c,L1,S1,_,I1,q,λfl L2 q σ2 S2 H2 I2 s2=>k fl L2 q σ2 S2 H2 I2 (s1.trans s2)⟩
  | brk=>exact k _ L1 q σ1 S1 H1 I1 s1
  | cont=>exact k _ L1 q σ1 S1 H1 I1 s1
  | ret v=>exact k _ L1 q σ1 S1 H1 I1 s1⟩
noncomputable def a8d:Expr->Bool
 | .ListComp ..=>true
 | .SetComp ..=>true
 | .DictComp ..=>true
 | _=>false
theorem a4i {e:Expr}{t:Option Expr}{n:Nat}{env:Env}(h:a8d e=false):swapsWith e t n env=pure false:=by
 cases e<;>first|rfl|(cases h;done)
theorem e0b (hc:a8d a=false)(h:FE X C a e):FS X C fr (.Expr a pos) (c6u e):=PS.imp (c7i h (a4i hc)) λD σ H ⟨c,L,S,Q0,I,h,k⟩ =>
 ⟨c,L,S,_,I,h,λv L1 q x S1 H1 r I1 s1=>k .next L1 q σ S1 H1 I1 s1⟩
theorem fs_ret (h:FE X C a e):FS X C false (.Return (some a) pos) (a1n e):=PS.imp (b8k h) λD σ H ⟨c,L,S,Q0,I,h,k⟩ =>
 ⟨c,L,S,_,I,h,λv L1 q x S1 H1 r I1 s1=>k (.ret v) L1 q σ S1 H1 I1 s1 x r⟩
theorem e0a (h:FF X C a e):FS X C true (.Return (some a) pos) (a1n e):=PS.imp (b8k h) λD σ H ⟨c,L,S,Q0,I,h,k⟩ =>
 ⟨c,L,S,_,I,h,λv L1 q l S1 H1 o fr I1 s1=>k (.ret v) L1 q σ S1 H1 I1 s1 _ ⟨l,rfl,o,fr.1⟩⟩
theorem Iv.mine (I:Iv K c md L σ S H){v:FV}{a:Addr}(hi:i≠0)(m:a0q md i≠.imm)(e:L[i]?=some (some v))(e1:σ[i]?=some (some (.ref a))):c.H0 a=none:=by
 obtain⟨b,e2,_,h⟩:=I.own i v m e
 rw[e1] at e2;cases e2
 rcases h with h|h
 ·obtain⟨g1,g2,w,g3⟩:=I.lent a h
  exact absurd (I.dis i 0 v w a m g1 e g3 e1 g2) hi
 ·exact h
theorem d9z (G:Good X C n sp)(h:C.nm i nx=true)(m:(decide (a0q C.md i=.own) && decide (i≠0))=true):FS X C true (.Return (some (.Name nx p)) pos) (a1n (a0b i)):=PS.imp (b8k (a2u G h)) λD σ H ⟨c,L,S,Q0,I,h,k⟩=>by
 have m:=b2 m
 have mi:a0q C.md i≠.imm:=λz=>by rw[de m.1] at z;cases z
 obtain⟨v,e,q⟩:=wpx h
 have e:=(a4l _ _ _).mp e
 obtain⟨l,e1,o,_⟩:=I.own i v mi e
 exact⟨_,e1,k (.ret v) L q σ S H I (Same.refl S) _ ⟨l,rfl,o,I.mine (de m.2) mi e e1⟩⟩
theorem fs_if {t:BW}{xa xb:List Stmt}(h:FB X C a t)(ha:FSs X C fr xa s)(hb:FSs X C fr xb r):FS X C fr (.If a xa xb pos) (sIf t s r):=PS.imp (d8m h ha hb) λD σ H ⟨c,L,S,Q0,I,h,k⟩ =>
 ⟨c,L,S,_,I,h,λv L1 q S1 H1 I1 s1=>by
  cases v with
  | true=>rw[if_pos rfl] at q ⊢;exact⟨c,L1,S1,_,I1,q,λfl L2 q σ2 S2 H2 I2 s2=>k fl L2 q σ2 S2 H2 I2 (s1.trans s2)⟩
  | false=>rw[if_neg Γk] at q ⊢;exact⟨c,L1,S1,_,I1,q,λfl L2 q σ2 S2 H2 I2 s2=>k fl L2 q σ2 S2 H2 I2 (s1.trans s2)⟩⟩
theorem b3m {tg:Tg}{te:TE}(ht:a3b C.md tg=true)(hte:∀ σ H Q,lv X.K C.md e σ H Q->te σ H Q)(h:PS X.nox st (c4w te (gT X.K tg))):FS X C fr st (a1k e tg):=PS.imp h λD σ H ⟨c,L,S,Q0,I,h,k⟩=>hte _ _ _
 ⟨c,L,S,_,I,h,λv L1 q x S1 H1 r I1 s1=>by
  obtain⟨σ',L',g,q,I2,_⟩:=a5b ht I1 r q
  exact g _ (k .next L' q σ' S1 H1 I2 s1)⟩
theorem d0d {te:TE}(m:a0q C.md i=.imm)(hte:∀ σ H Q,lf X.K C.md e σ H Q->te σ H Q)(h:PS X.nox st (c4w te (a6r i))):FS X C fr st (a1k e (.nm i)):=PS.imp h λD σ H ⟨c,L,S,Q0,I,h,k⟩=>hte _ _ _
 ⟨c,L,S,_,I,h,λv L1 q l S1 H1 o f I1 s1=>by
  obtain⟨u,hu,I2,r⟩:=b8x I1 o f
  exact k .next _ q _ _ H1 (I2.setI m r) (s1.trans (a0v o.1))⟩
theorem d0c {te:TE}(m:(decide (a0q C.md i=.own) && decide (i≠0))=true)(hte:∀ σ H Q,lf X.K C.md e σ H Q->te σ H Q)(h:PS X.nox st (c4w te (a6r i))):FS X C fr st (a1k e (.nm i)):=PS.imp h λD σ H ⟨c,L,S,Q0,I,h,k⟩=>hte _ _ _
 ⟨c,L,S,_,I,h,λv L1 q l S1 H1 o f I1 s1=>by
  have m:=b2 m
  exact k .next _ q _ _ H1 (I1.set (λ_ _=>de m.2) (λz=>by rw[de m.1] at z;cases z) (.inr ⟨de m.1,l,rfl,o,f.1,f.2.1,λj w _ hm hj=>f.2.2 j w hm hj⟩)) s1⟩
theorem c7h (G:Good X C n sp){te:TE}(ht:C.tn i nx=true)(hs:swapsWith a (some (.Name nx px)) pos.line X.env=pure false)(h:PE X.nox a te):PS X.nox (.Assign [.Name nx px] a pos) (c4w te (a6r i)):=by
 have ht:=b2 ht
 obtain⟨l1,l2⟩:=G.loc ht.2
 exact d1x (X:=X.nox) G.nd' (G.ix ht.1) l1 h hs l2
theorem fs_set (G:Good X C n sp)(ht:C.tn i nx=true)(m:a0q C.md i=.imm)(hc:a8d a=false)(h:FE X C a e):FS X C fr (.Assign [.Name nx px] a pos) (a1k e (.nm i)) :=
 b3m (tg:=.nm i) (by simpa[a3b] using m) (λ_ _ _ z=>z) (c7h G ht (a4i hc) h)
theorem d9y (G:Good X C n sp)(ht:C.tn i nx=true)(m:(decide (a0q C.md i=.own) && decide (i≠0))=true)(hc:a8d a=false)(h:FF X C a e):FS X C fr (.Assign [.Name nx px] a pos) (a1k e (.nm i)) :=
 d0c m (λ_ _ _ z=>z) (c7h G ht (a4i hc) h)
noncomputable def swC (C:CC)(x:Str)(px:Pos)(scope:Scope)(p:Pos):Bool:=decide (C.sc.lookup x=some .local) && (px.line == p.line) && !(scope.names.any λ(n,k)=>n == x && (k == .local || k == .cell))
theorem c6j {elt:Expr}{gs:List Comprehension}{scope:Scope}{p px:Pos}{x:Str}{n:Nat}{env:Env}(hk:env.scope.kind=.function) :
  swapsWith (.ListComp elt gs scope p) (some (.Name x px)) n env=pure (decide (env.scope.names.lookup x=some .local) && (px.line == p.line) && !(scope.names.any λ(n,k)=>n == x && (k == .local || k == .cell))):=by
 have hb:env.blockKind=.function:=by unfold Env.blockKind;rw[hk];rfl
 have:(env.kindOf x == some .local)=decide (env.scope.names.lookup x=some .local):=by
  rw[Bool.eq_iff_iff];simp[Env.kindOf]
 unfold swapsWith
 simp only[hb,this]
 rfl
variable {scope:Scope}{own:List Str}{elt tgx iter:Expr}{ifs:List Expr}{it:AW}{tg:Tg}{t:BW}{nn m:Nat}{md':Md}
theorem c4h (G:Good X C n sp)(ht:C.tn i nx=true)(h:CompOk X C n sp scope own elt tgx iter ifs nn m md' it tg t e):∃ te:TE,(∀ σ H Q,lf X.K C.md (a1p nn m it tg t e) σ H Q->te σ H Q)/\PS X.nox (.Assign [.Name nx px] (.ListComp elt [⟨tgx,iter,ifs,0⟩] scope p) pos) (c4w te (a6r i)):=by
 have hsw:swapsWith (.ListComp elt [⟨tgx,iter,ifs,0⟩] scope p) (some (.Name nx px)) pos.line X.env=pure (swC C nx px scope p):=by rw[c6j G.kind,G.sc];rfl
 obtain⟨s1,s2,s3⟩:=h.blk G
 cases hb:swC C nx px scope p with
 | false =>
  rw[hb] at hsw
  exact⟨_,λσ H Q q=>h.run G q,c7h G ht hsw (b8t G.calm s1 h.it s2 s3)⟩
 | true =>
  rw[hb] at hsw
  have hlo:X.env.scope.names.lookup nx=some .local:=by
   rw[G.sc]
   have hb:=b2 hb
   exact de (b2 hb.1).1
  exact⟨_,λσ H Q q=>h.run G q,b5t G.calm s1 G.nd' (G.ix (b2 ht).1) hlo h.it s2 hsw s3⟩
theorem a6s (G:Good X C n sp)(ht:C.tn i nx=true)(hm:a0q C.md i=.imm)(h:CompOk X C n sp scope own elt tgx iter ifs nn m md' it tg t e):FS X C fr (.Assign [.Name nx px] (.ListComp elt [⟨tgx,iter,ifs,0⟩] scope p) pos) (a1k (a1p nn m it tg t e) (.nm i)) :=
 let ⟨te,h1,h2⟩:=c4h G ht h
 d0d hm h1 h2
noncomputable def tupX:Expr->Bool
 | .Tuple ..=>true
 | _=>false
theorem fs_tup (G:Good X C n sp){ts:List Expr}(hm:a3b C.md (.tp is)=true)(hn:tupX a=false)(hg:FGs X ts is)(h:FE X C a e):FS X C fr (.Assign [.Tuple ts k p] a pos) (a1k e (.tp is)) :=
 b3m (tg:=.tp is) hm (λ_ _ _ z=>z) (b8l (X:=X.nox) h (c9h G hg) (by cases a<;>rfl) (by cases a<;>first|rfl|(cases hn;done)) rfl)
noncomputable def b0o (sc:List (Str×NameKind))(t:Expr):Bool:=match t with
 | .Name x _=>!(decide (sc.lookup x=some .local))
 | _=>true
theorem d7i {ts vs:List Expr}{k k2:Nat}{tp tp2:Pos}{env:Env}(h:4<=ts.length ∨ ∃ t∈ts,b0o env.scope.names t=true):swappedStores [.Tuple ts k tp] (.Tuple vs k2 tp2) env=pure none:=by
 unfold swappedStores
 simp only
 split
 ·rfl
 ·rename_i h1
  split
  ·rfl
  ·have hlen:ts.length=2 ∨ ts.length=3:=by
    simp only[Bool.or_eq_true,Bool.not_eq_true',bne_iff_ne,ne_eq,not_or,Bool.not_eq_false] at h1
    simpa using h1.1.1
   obtain⟨t,ht,hn⟩:∃ t∈ts,b0o env.scope.names t=true:=by
    rcases h with h|h
    ·lia
    ·exact h
   have lt:∀ (l:List Expr)(f:Expr->Option Str),t∈l->f t=none->(l.filterMap f).length<l.length:=by
    intro l f
    induction l with
    | nil=>intro h;cases h
    | cons a r ih =>
     intro hm hf
     have le:=List.length_filterMap_le f r
     rcases List.mem_cons.mp hm with rfl|hm
     ·rw[List.filterMap_cons,hf,List.length_cons];show (List.filterMap f r).length<_;lia
     ·rw[List.filterMap_cons]
      have:=ih hm hf
      split<;>simp only[List.length_cons]<;>lia
   have:=lt ts (fun
    | .Name id pos=>if env.kindOf id == some .local && pos.line == (ts.head?.map (·.pos.line)).getD 0 then some id else none
    | _=>none) ht (by
     cases t with
     | Name x p =>
      have hx:¬ env.scope.names.lookup x=some .local:=by simpa[b0o] using hn
      have hk:(env.kindOf x == some NameKind.local)=false:=by
       cases hq:(env.kindOf x == some NameKind.local) with
       | false=>rfl
       | true=>exact absurd (show env.kindOf x=some .local by simpa using hq) hx
      simp only[hk,Bool.false_and,Γp,if_false]
     | _=>rfl)
   rw[if_pos]
   simp only[Bool.or_eq_true,bne_iff_ne,ne_eq]
   left
   exact Γo this
theorem d9x (G:Good X C n sp){ts vs:List Expr}{k2:Nat}{p2:Pos}(hm:a3b C.md (.tp is)=true)(hn:(decide (4<=ts.length) || ts.any λt=>b0o C.sc t)=true)(hg:FGs X ts is)(h:FE X C (.Tuple vs k2 p2) e):FS X C fr (.Assign [.Tuple ts k p] (.Tuple vs k2 p2) pos) (a1k e (.tp is)) :=
 b3m (tg:=.tp is) hm (λ_ _ _ z=>z) (b8l (X:=X.nox) h (c9h G hg) rfl (d7i (by
  show 4<=ts.length ∨ ∃ t∈ts,b0o X.env.scope.names t=true
  rw[G.sc]
  simpa using hn)) rfl)
theorem c2h {xo xi : Expr} {p : Pos} {env : Env} (h : a4d xi = false) : ∀ v, assign (.Subscript xo xi p) env v = (do
      let ov <- holding [v] (eval xo env)
      let iv <- holding [v,ov] (eval xi env)
      standAt p
      holding [v,ov,iv] (setItem ov iv v)
      release [v,ov,iv] []):=by
  intro v
  cases xi<;>first|rfl|(cases h;done)
theorem fs_ix (G:Good X C n sp)(hn:C.nm i nx=true)(m:a0q C.md i=.own)(hc:(!a8d a && !a4d b)=true)(ha:FE X C a ea)(hb:FE X C b eb):FS X C fr (.Assign [.Subscript (.Name nx px) b p] a pos) (d5f i eb ea):=by
 have hc:=b2 hc
 refine PS.imp (b8l (X:=X.nox) ha (d2b (a2u (pos:=px) G hn) hb c2i (c2h (nb hc.2))) (by simp only[swapsWithSole];exact a4i (nb hc.1)) rfl rfl) λD σ H ⟨c,L,S,Q0,I,h,k⟩=>?_
 have mi:a0q C.md i≠.imm:=λz=>by rw[m] at z;cases z
 obtain⟨v0,e,h⟩:=wpx h
 obtain⟨l,e1,_⟩:=I.own i v0 mi ((a4l _ _ _).mp e)
 refine⟨c,L,S,_,I,h,λv L1 q x S1 H1 r1 I1 s1=>⟨_,e1,c,L1,S1,_,I1,q,λw L2 q y S2 H2 r2 I2 s2=>?_⟩⟩
 obtain⟨v1,e2,q2⟩:=wpx q
 obtain⟨z,e3,q3⟩:=wpx q2
 have e2:=(a4l _ _ _).mp e2
 obtain⟨l',f1,⟨o1,ps,us,e9,o2,o3⟩,_⟩:=I2.own i v1 mi e2
 rw[e1] at f1;cases f1
 obtain⟨xs,g1,e3⟩:=bnd e3
 obtain⟨nn,g2,e3⟩:=bnd e3
 obtain⟨pp,g3,rfl⟩:=mpd e3
 cases a6i g1
 cases e9
 obtain rfl:w=.int nn:=by cases w<;>cases g2;rfl
 obtain rfl:y=.int nn:=r2
 refine⟨l,us,nn,pp,rfl,rfl,o2,by rw[<- o3.length];exact g3,?_⟩
 exact k .next _ q3 σ S2 _ (I2.write m e2 e1 (o3.set pp (r1.mono s2))) (s1.trans s2)
noncomputable def d0p (f:Int->Int->Int):FV->FV->Option FV
 | .int a,.int b=>some (.int (f a b))
 | _,_=>none
theorem c9y {f:Int->Int->Int}{v w z:FV}(h:d0p f v w=some z):∃ a b,v=.int a/\w=.int b/\z=.int (f a b):=by
 cases v<;>cases w<;>cases h
 exact⟨_,_,rfl,rfl,rfl⟩
theorem d4w {f:Int->Int->Int}(m:a0q C.md i=.imm)(h:PS X.nox st (tAug i (lv X.K C.md e) (ipI f))):FS X C fr st (d1h (d0p f) i e):=PS.imp h λD σ H ⟨c,L,S,Q0,I,h,k⟩=>by
 obtain⟨v,e0,h⟩:=wpx h
 obtain⟨x,e1,r⟩:=I.imm i v m ((a4l _ _ _).mp e0)
 refine⟨x,e1,c,L,S,_,I,h,λw L1 q y S1 H1 r1 I1 s1=>?_⟩
 obtain⟨z,e2,q⟩:=wpx q
 obtain⟨a,b,rfl,rfl,rfl⟩:=c9y e2
 exact⟨a,b,r,r1,k .next _ q _ S1 H1 (I1.setI (v:=.int _) m rfl) s1⟩
theorem fs_add (G:Good X C n sp)(ht:C.tn i nx=true)(m:a0q C.md i=.imm)(h:FE X C a e):FS X C fr (.AugAssign (.Name nx px) .Add a pos) (d1h (d0p λi j=>i+j) i e):=by
 have ht:=b2 ht
 obtain⟨l1,l2⟩:=G.loc ht.2
 exact d4w m (d1z (X:=X.nox) G.nd' (G.ix ht.1) l1 h d3q l2)
theorem c9d {J:It}{xs:List FV}{D:Ends}{Q0:FFl->a0c->Prop}(I:Iv K c md L σ S H)(hJ:ItR K c md J xs S)(ht:a3b md tg=true)(h:c9e tg s xs L Q0)
  (k:∀ fl L',Q0 fl L'->∀ σ' S' H',Iv K c md L' σ' S' H'->Same S S'->EndQ K c fr D σ' S' H' fl) :
  ∃ W:Nat->Nat->L2.St->Hp->Prop,(∃ m,W 0 m σ H)/\∀ i m σ H,W i m σ H ->
   (J.stop i H/\D.nx σ H) ∨ (J.go i H/\∃ N:L2.St->Hp->Prop,(∀ σ' H',N σ' H'->∃ m',m'<m/\W (i+1) m' σ' H')/\∀ x H',J.yld i H x H'->gT K tg x σ H' λσ2 H2=>ls K md fr s { D with nx:=N,ct:=N,bk:=D.nx } σ2 H2):=by
 let W:Nat->Nat->L2.St->Hp->Prop:=λi j σ1 H1=>∃ L S1,j=(xs.drop i).length/\Iv K c md L σ1 S1 H1/\Same S S1/\c9e tg s (xs.drop i) L Q0
 refine⟨W,⟨_,L,S,rfl,I,Same.refl S,by rw[List.drop_zero];exact h⟩,?_⟩
 rintro i m σ1 H1 ⟨L,S1,rfl,I,s1,h⟩
 obtain⟨j1,j2⟩:=hJ i L σ1 S1 H1 I s1
 cases hd:xs.drop i with
 | nil =>
  rw[hd] at h
  exact .inl ⟨j1 (List.getElem?_eq_none_iff.mpr (List.drop_eq_nil_iff.mp hd)),k .next L h σ1 S1 H1 I s1⟩
 | cons p rest =>
  right
  rw[hd] at h
  have hi:xs[i]?=some p:=by
   have:=congrArg (·[0]?) hd
   simpa using this
  have hd':xs.drop (i+1)=rest:=by
   have:=congrArg List.tail hd
   simpa[List.tail_drop] using this
  obtain⟨go,yl⟩:=j2 p hi
  refine⟨go,λσ' H'=>∃ m',m'<rest.length+1/\W (i+1) m' σ' H',λσ' H' h=>h,λx H2 y=>?_⟩
  obtain⟨S2,s2,tr,rx⟩:=yl x H2 y
  have I2:=tr _ _ _ _ I
  obtain⟨σ2,L2,g,q,I3,_⟩:=a5b ht I2 rx h
  refine g _ ⟨c,L2,S2,_,I3,q,λfl L3 q σ3 S3 H3 I4 s3=>?_⟩
  have ss:=s1.trans (s2.trans s3)
  cases fl with
  | next=>exact⟨_,Nat.lt_succ_self _,L3,S3,by rw[hd'],I4,ss,by rw[hd'];exact q⟩
  | cont=>exact⟨_,Nat.lt_succ_self _,L3,S3,by rw[hd'],I4,ss,by rw[hd'];exact q⟩
  | brk=>exact k .next L3 q σ3 S3 H3 I4 ss
  | ret v=>exact k (.ret v) L3 q σ3 S3 H3 I4 ss
theorem a3p (G:Good X C n sp){body:List Stmt}(hc:(a3b md' tg && !b9r iter)=true)(hi:FI X C md' tgx iter it)(hg:FG X tgx tg)(hb:Good X (C.wmd md') n sp->FSs X (C.wmd md') fr body s):FS X C fr (.For tgx iter body [] pos) (b5r it tg s):=by
 have hc:=b2 hc
 refine PS.imp (d1y (X:=X.nox) PassesOwn.never G.calm hi hg (hb (G.wmd md')) (b1b (nb hc.2))) λD σ H ⟨c,L,S,Q0,I,h,k⟩=>?_
 refine⟨c,L,S,_,I,h,λxs L1 q J c' S1 H1 I1 un e0 hJ s1=>?_⟩
 refine c9d I1 hJ hc.1 q λfl L2 q σ2 S2 H2 I2 s2=>?_
 have:=k fl L2 q σ2 S2 H2 (un _ _ _ _ I2) (s1.trans s2)
 cases fl with
 | next=>exact this
 | brk=>exact this
 | cont=>exact this
 | ret v =>
  intro x r
  refine this x ?_
  cases fr with
  | false=>exact r
  | true =>
   obtain⟨a,r1,r2,r3⟩:=r
   exact⟨a,r1,r2,by rw[<- e0];exact r3⟩
theorem fs_whl {body:List Stmt}(hc:FB X C a t)(hb:FSs X C fr body s):FS X C fr (.While a body [] pos) (d0l t s):=by
 refine PS.imp (c2q (X:=X.nox) PassesOwn.never hc hb) λD σ H ⟨c,L,S,Q0,I,⟨m,h⟩,k⟩=>?_
 refine⟨λm σ1 H1=>∃ L S1,Iv X.K c C.md L σ1 S1 H1/\Same S S1/\d0j t s m L Q0,⟨m,L,S,I,Same.refl S,h⟩,?_⟩
 rintro m σ1 H1 ⟨L,S1,I1,s1,h⟩
 cases m with
 | zero=>exact h.elim
 | succ m =>
  refine⟨c,L,S1,_,I1,h,λv L1 q S2 H2 I2 s2=>?_⟩
  cases v with
  | false =>
   rw[if_neg Γk] at q ⊢
   exact k .next L1 q σ1 S2 H2 I2 (s1.trans s2)
  | true =>
   rw[if_pos rfl] at q ⊢
   refine⟨λσ' H'=>∃ m',m'<m+1/\∃ L S1,Iv X.K c C.md L σ' S1 H'/\Same S S1/\d0j t s m' L Q0,λσ' H' h=>h,c,L1,S2,_,I2,q,λfl L3 q σ3 S3 H3 I4 s3=>?_⟩
   have ss:=s1.trans (s2.trans s3)
   cases fl with
   | next=>exact⟨m,Nat.lt_succ_self _,L3,S3,I4,ss,q⟩
   | cont=>exact⟨m,Nat.lt_succ_self _,L3,S3,I4,ss,q⟩
   | brk=>exact k .next L3 q σ3 S3 H3 I4 ss
   | ret v=>exact k (.ret v) L3 q σ3 S3 H3 I4 ss
end
structure Df where
 name:String
 st:Stmt
 ps:List Str
 N:List Str
 md:Md
noncomputable def Df.cc (d:Df)(fns:List Str):CC:=⟨d.N,(a0p d.st).names,fns,d.md,true,[]⟩
noncomputable def d8t (io:Bool)(md:Md) (np:Nat):Bool:=(List.range np).all λi=>decide (a0q md i=if (io && decide (i=0))=true then .own else .imm)
noncomputable def Df.ok (d:Df) (np ns:Nat)(io:Bool):Bool :=
 decide ((a0p d.st).kind=.function) && !(a0p d.st).isCoroutine && !(a0p d.st).isGenerator && decide (d.N.Nodup) && decide (d.N.take d.ps.length=d.ps) && d.ps.all (λx=>decide ((a0p d.st).names.lookup x=some .local ∨ (a0p d.st).names.lookup x=some .cell)) &&
 (a0p d.st).names.all (λp=>decide (p.2≠.free)) && decide (np=d.ps.length) && decide (ns=d.N.length) && d8t io d.md np
noncomputable def spT (K:Γd)(tb:List FD)(call:CW) (f:Nat):Sp:=match tb[f]? with
 | some fd=>spQ K call fd.io fd.fr f
 | none=>λ_ _ _ _=>False
noncomputable def spK (tb:List FD)(call:CW)(K:Γd):Nat->Sp:=spT K tb call
theorem Df.sc {d:Df}{np ns:Nat}{io:Bool}(h:d.ok np ns io=true):FnScope d.N d.ps (a0p d.st)/\np=d.ps.length/\ns=d.N.length/\∀ i,i<np->a0q d.md i=if (io && decide (i=0))=true then .own else .imm:=by
 have h0:=b2 h;have h1:=b2 h0.1;have h2:=b2 h1.1;have h3:=b2 h2.1;have h4:=b2 h3.1;have h5:=b2 h4.1;have h6:=b2 h5.1;have h7:=b2 h6.1;have h8:=b2 h7.1
 exact⟨⟨de h8.1,nb h8.2,nb h7.2,de h6.2,de h5.2,λx hx=>de (List.all_eq_true.mp h4.2 x hx),λy hy=>de (List.all_eq_true.mp h3.2 y hy)⟩,de h2.2,de h1.2,λi hi=>de (List.all_eq_true.mp h0.2 i (List.mem_range.mpr hi))⟩
section
variable {P:Program}{w:World}{K:Γd}{mg:Str->Option Value}{base:Heap}{tb:List FD}{fns:List Str}
theorem ArgsOk.len {S H:Hp}{args:List FV}{vs:List V}{io:Bool}(h:ArgsOk K S H args vs io):args.length=vs.length:=by
 cases io with
 | false=>exact RVs.length h
 | true =>
  obtain⟨v,r,a,us,rfl,rfl,_,h⟩:=h
  rw[List.length_cons,List.length_cons,h.length]
theorem c3k {S H:Hp}{args:List FV}{vs:List V}{io:Bool}{md:Md}{N:List Str}{np ns:Nat}(h:ArgsOk K S H args vs io)(hs:Same S H)(hn:args.length=np)(hN:ns=N.length)(hm:∀ i,i<np->a0q md i=if (io && decide (i=0))=true then .own else .imm) :
  Iv K ⟨H,S,b4m vs io,[],[]⟩ md (args.map some++Γj (ns-np) none) (L2.start N vs) S H:=by
 have hl:=h.len
 have look:∀ i v,(args.map some++Γj (ns-np) none)[i]?=some (some v)->args[i]?=some v/\i<np:=λi v e=>by
  by_cases hi:i<args.length
  ·rw[List.getElem?_append_left (by rw[List.length_map];exact hi),List.getElem?_map] at e
   cases ea:args[i]? with
   | none=>rw[ea] at e;cases e
   | some q=>rw[ea] at e;cases e;exact⟨rfl,by lia⟩
  ·rw[List.getElem?_append_right (by rw[List.length_map];lia),List.getElem?_replicate] at e
   split at e<;>cases e
 have st:∀ i,i<np->(L2.start N vs)[i]?=vs[i]?.map some:=λi hi=>by
  unfold L2.start
  rw[List.getElem?_append_left (by rw[List.length_map];lia),List.getElem?_map]
 have own:∀ i v,a0q md i≠.imm->(args.map some++Γj (ns-np) none)[i]?=some (some v)->i=0/\io=true/\a0q md 0=.own:=λi v hm' e=>by
  obtain⟨_,hi⟩:=look i v e
  have:=hm i hi
  cases io with
  | false=>exact absurd (by simpa using this) hm'
  | true =>
   by_cases h0:i=0
   ·subst h0;exact⟨rfl,rfl,by simpa using this⟩
   ·exact absurd (by simpa[h0] using this) hm'
 have lent:∀ a,b4m vs io=some a->io=true/\0<np/\a0q md 0=.own/\vs[0]?=some (.ref a)/\∃ v,args[0]?=some v/\a3z K S H a v:=λa e=>by
  cases io with
  | false=>cases e
  | true =>
   obtain⟨v,r,a',us,rfl,rfl,o,_⟩:=h
   cases e
   have hp:0<np:=by rw[<- hn];exact Nat.succ_pos _
   exact⟨rfl,hp,by simpa using hm 0 hp,rfl,v,rfl,o⟩
 refine⟨?_,λi v hm' e=>?_,λi v hm' e=>?_,λi j v w a m1 m2 e1 e2 _ _=>?_,hs,λa o e _=>e,Same.refl S,λa o e=>.inl e,λa e=>?_,λp hp=>absurd hp List.not_mem_nil,λi v hf e=>?_,λp hp=>absurd hp List.not_mem_nil,λp hp=>absurd hp List.not_mem_nil,λp hp=>absurd hp List.not_mem_nil⟩
 ·unfold L2.start
  rw[List.length_append,List.length_append,List.length_map,List.length_map,List.length_replicate,List.length_replicate,hN]
  lia
 ·obtain⟨ea,hi⟩:=look i v e
  rw[st i hi]
  cases io with
  | false =>
   obtain⟨x,e1,r⟩:=RVs.get (show RVs K S args vs from h) ea
   exact⟨x,by rw[e1];rfl,r⟩
  | true =>
   obtain⟨v0,r,a',us,rfl,rfl,o,hr⟩:=h
   cases i with
   | zero=>rw[show a0q md 0=.own by simpa using hm 0 hi] at hm';cases hm'
   | succ i =>
    obtain⟨x,e1,r1⟩:=RVs.get hr (by simpa using ea)
    exact⟨x,by simp[e1],r1⟩
 ·obtain⟨rfl,rfl,m0⟩:=own i v hm' e
  obtain⟨ea,hi⟩:=look 0 v e
  obtain⟨v0,r,a',us,rfl,rfl,o,hr⟩:=h
  cases ea
  exact⟨a',by rw[st 0 hi];rfl,o,.inl rfl⟩
 ·rw[(own i v m1 e1).1,(own j w m2 e2).1]
 ·obtain⟨rfl,hp,m0,e1,v,ea,_⟩:=lent a e
  refine⟨λz=>(nomatch (m0.symm.trans z)),by rw[st 0 hp,e1];rfl,v,?_⟩
  rw[List.getElem?_append_left (by rw[List.length_map];lia),List.getElem?_map,ea];rfl
 ·have:=own i v (λz=>by rw[z] at hf;cases hf) e
  rw[this.1,this.2.2] at hf;cases hf
theorem c0b {d f:Nat}{fa:Addr}{fdd:FuncData}{df:Df}{fd:FD}(F:Fun K (Γe df.name) (Γe df.name) df.st fa fdd)(hf:tb[f]?=some fd)(hok:df.ok fd.np fd.ns fd.io=true)
  (hb:∀ X call n,Good X (df.cc fns) n (spK tb call)->FSs X (df.cc fns) fd.fr (a2n df.st) (fd.body call))
  (fnsOk:∀ (f:Nat)(x:Str),fns[f]?=some x->∃ fa fd ps,mg x=some (.ref fa)/\PySem.W.keepIn K (.ref fa)=true/\Binds K fd ps []/\FnOk P w K mg base CX0 d fa fd ps (spT K tb (callW tb d) f))
  (blt:∀ b∈bltNames,mg (Γe b)=none):FnOk P w K mg base CX0 (d+1) fa fdd df.ps (spT K tb (callW tb (d+1)) f):=by
 obtain⟨S,hnp,hns,hmd⟩:=Df.sc hok
 have e0:spT K tb (callW tb (d+1)) f=spQ K (callW tb (d+1)) fd.io fd.fr f:=by unfold spT;rw[hf]
 have run:∀ {args:List FV}{Q:FV×FV->Prop},callW tb (d+1) f args Q->args.length=fd.np/\fd.body (callW tb d) (args.map some++Γj (fd.ns-fd.np) none) (c1y fd.io fd.fr Q):=λ{args Q} h=>by
  have h:(match tb[f]? with
   | none=>False
   | some fd=>args.length=fd.np/\fd.body (callW tb d) (args.map some++Γj (fd.ns-fd.np) none) (c1y fd.io fd.fr Q)):=h
  rw[hf] at h;exact h
 rw[e0]
 refine F.ok S (λvs H Q E h=>?_) (λcdv A outer s H vs Q E hr h=>?_)
 ·obtain⟨S0,args,Q0,_,ao,hc,_⟩:=h
  rw[<- ao.len,(run hc).1,hnp]
 ·obtain⟨S0,args,Q0,hs,ao,hc,k⟩:=h
  obtain⟨hl,hc⟩:=run hc
  have G:Good (c9r CX0 P w K mg base df.N (Γe df.name) (a0p df.st) fa cdv A outer s H E) (df.cc fns) d (spK tb (callW tb d)) :=
   ⟨rfl,rfl,S.kind,S.nd,rfl,λ_ _=>rfl,hr,fnsOk,blt⟩
  refine⟨_,hb _ _ _ G,_,_,S0,_,c3k ao hs hl hns hmd,hc,λfl L' q σ' S' H' I s'=>?_⟩
  have kp:∀ w,(fd.io=true->lk L' 0=some w)->Kept K S0 H S' H' (b4m vs fd.io) w:=λw hw=>⟨s',I.sub,I.grow,λa o e n=>I.frame a o e n,λa e=>by
   have hio:fd.io=true:=by
    cases z:fd.io with
    | true=>rfl
    | false=>rw[z] at e;cases e
   obtain⟨m0,e1,v,e2⟩:=I.lent a e
   obtain⟨b,e3,o,_⟩:=I.own 0 v m0 e2
   rw[e1] at e3;cases e3
   have:=(a4l _ _ _).mp (hw hio)
   rw[e2] at this;cases this
   exact o⟩
  have fin:∀ v x,c1y fd.io fd.fr Q0 (.ret v) L'->d0h K S' H' H v x fd.fr->Q x H':=λv x q r=>by
   cases hio:fd.io with
   | true =>
    rw[hio] at q
    obtain⟨w,e1,q⟩:=wpx q
    exact k _ q x S' H' (kp w λ_=>e1) r
   | false =>
    rw[hio] at q
    exact k (v,.non) q x S' H' (kp .non λz=>by rw[hio] at z;cases z) r
  cases fl with
  | next =>
   cases hfr:fd.fr with
   | true=>rw[hfr] at q;exact q.elim
   | false=>rw[hfr] at q;exact fin .non .non (by rw[hfr];exact q) (by rw[hfr];exact rfl)
  | ret v =>
   intro x r
   refine fin v x q ?_
   cases hfr:fd.fr with
   | true=>rw[hfr] at r;exact r
   | false=>rw[hfr] at r;exact r
  | brk=>exact q.elim
  | cont=>exact q.elim
theorem c1s (blt:∀ b∈bltNames,mg (Γe b)=none)
  (D:∀ (f:Nat)(x:Str),fns[f]?=some x->∃ df fd fa fdd,tb[f]?=some fd/\Df.ok df fd.np fd.ns fd.io=true/\(∀ X call n,Good X (df.cc fns) n (spK tb call)->FSs X (df.cc fns) fd.fr (a2n df.st) (fd.body call))/\Fun K (Γe df.name) (Γe df.name) df.st fa fdd/\mg x=some (.ref fa)/\Binds K fdd df.ps []) :
  ∀ (d f:Nat)(x:Str),fns[f]?=some x->∃ fa fd ps,mg x=some (.ref fa)/\PySem.W.keepIn K (.ref fa)=true/\Binds K fd ps []/\FnOk P w K mg base CX0 d fa fd ps (spT K tb (callW tb d) f)
 | 0,f,x,h=>by
  obtain⟨df,fd,fa,fdd,h1,h2,h6,h3,h4,h5⟩:=D f x h
  have no:∀ vs H Q E,¬ spT K tb (callW tb 0) f vs H Q E:=λvs H Q E z=>by
   unfold spT at z
   rw[h1] at z
   obtain⟨_,_,_,_,_,k,_⟩:=z
   exact k
  exact⟨fa,fdd,df.ps,h4,h3.kp,h5,λvs H Q E z=>absurd z (no vs H Q E),λA outer s H args us vs Q E _ _ _ _ z=>absurd z (no vs H Q E)⟩
 | d+1,f,x,h=>by
  obtain⟨df,fd,fa,fdd,h1,h2,h6,h3,h4,h5⟩:=D f x h
  exact⟨fa,fdd,df.ps,h4,h3.kp,h5,c0b h3 h1 h2 h6 (c1s blt D d) blt⟩
theorem law_sp {d f:Nat}{H:Hp}{a:Addr}{ns:List Int}{fd:FD}(hf:tb[f]?=some fd)(hio:fd.io=false)(hfr:fd.fr=false)(hO:d5c H)(hS:SqL K H a (ns.map V.int))(h:callW tb d f [.scr ns] λz=>z.1=.bl true) :
  spT K tb (callW tb d) f [.ref a] H (λv _=>v=.bl true) λ_ _ _=>False:=by
 have e0:spT K tb (callW tb d) f=spQ K (callW tb d) false false f:=by unfold spT;rw[hf];show spQ K (callW tb d) fd.io fd.fr f=_;rw[hio,hfr]
 rw[e0]
 refine⟨H,[.scr ns],_,Same.refl H,RVs.one ⟨a,rfl,?_⟩,h,λz e x S' H' _ r=>?_⟩
 ·rcases hS with (h|⟨o,h⟩)|h
  ·rcases hO a with z|⟨o,xs,z⟩
   ·rw[z] at h;cases h
   ·rw[z] at h;cases h
  ·exact .inl ⟨o,h⟩
  ·exact .inr (.inr h)
 ·have r:RV K S' z.1 x:=r
  rw[e] at r;exact r
end
noncomputable def EachI {α:Type}(P:Nat->α->Prop):Nat->List α->Prop
 | _,[]=>True
 | i,x :: xs=>P i x/\EachI P (i+1) xs
theorem EachI.get {α:Type}{P:Nat->α->Prop}:∀ {xs:List α}{k:Nat},EachI P k xs->∀ (f:Nat)(x:α),xs[f]?=some x->P (k+f) x
 | _ :: _,_,h,0,x,e=>(Option.some.inj e) ▸ h.1
 | _ :: xs,k,h,f+1,x,e=>by
  have:=EachI.get h.2 f x e
  rw[Nat.add_assoc,Nat.add_comm 1 f] at this
  exact this
theorem us1 {P:List Value->Prop}{us:List Value}(h:us.length=1)(H:∀ a,P [a]):P us:=match us,h with|[_],_=>H _
theorem us2 {P:List Value->Prop}{us:List Value}(h:us.length=2)(H:∀ a b,P [a,b]):P us:=match us,h with|[_,_],_=>H _ _
theorem us3 {P:List Value->Prop}{us:List Value}(h:us.length=3)(H:∀ a b c,P [a,b,c]):P us:=match us,h with|[_,_,_],_=>H _ _ _
theorem us4 {P:List Value->Prop}{us:List Value}(h:us.length=4)(H:∀ a b c d,P [a,b,c,d]):P us:=match us,h with|[_,_,_,_],_=>H _ _ _ _
theorem us6 {P:List Value->Prop}{us:List Value}(h:us.length=6)(H:∀ a b c d e f,P [a,b,c,d,e,f]):P us:=match us,h with|[_,_,_,_,_,_],_=>H _ _ _ _ _ _
end Kq
end
section
namespace Kq
open PySem PySem.Spec PySem.Calls PyProof.Rows L2 PySem.W
theorem a9b:∀ {K:Frag}{a:Addr}{o:Obj},K.lookup a=some o->(a,o)∈K
 | [],a,o,h=>by simp at h
 | (b,u) :: K,a,o,h=>by
  rw[List.lookup_cons] at h
  split at h
  ·rename_i e;cases h;rw[beq_iff_eq.mp e];exact Γn
  ·exact Γh _ (a9b h)
theorem b9d {K:Frag}{a:Addr}{o:Obj}(h:(a,o)∈K):∃ u,K.lookup a=some u:=by
 induction K with
 | nil=>exact absurd h List.not_mem_nil
 | cons p K ih =>
  obtain⟨b,u⟩:=p
  rw[List.lookup_cons]
  split
  ·exact⟨_,rfl⟩
  ·rename_i e
   rcases List.mem_cons.mp h with z|z
   ·rw[(Prod.mk.inj z).1,beq_self_eq_true] at e;cases e
   ·exact ih z
noncomputable def AllIn (K:Frag)(h:Heap):Prop:=∀ p∈K,h.get? p.1=some p.2
theorem AllIn.to {K:Frag}{h:Heap}(x:AllIn K h):K.In h:=λa o e=>x _ (a9b e)
theorem AllIn.look {K:Frag}{h:Heap}(x:AllIn K h){a:Addr}{o:Obj}(m:(a,o)∈K):K.lookup a=some o:=by
 obtain⟨u,e⟩:=b9d m
 have h1:=x _ (a9b e)
 rw[show h.get? a=some o from x _ m] at h1
 cases h1;exact e
noncomputable def CIn (K:Frag)(cd:Value)(q:Str):Prop:=∃ c oc vs t,cd=.ref c/\(c,oc)∈K/\oc.data=.fields vs/\vs[1]?=some (.str q t)
noncomputable def DIn (K:Frag)(mg:Str->Option Value)(d:DefRec):Prop:=∃ fa o pm cd doc,mg d.name=some (.ref fa)/\(fa,o)∈K/\o.data=.func (docDef d.name d.params d.body d.scope pm cd doc)/\CIn K cd d.name
theorem DIn.more {K K':Frag}{mg:Str->Option Value}{d:DefRec}(s:∀ p∈K,p∈K')(x:DIn K mg d):DIn K' mg d:=by
 obtain⟨fa,o,pm,cd,doc,h1,h2,h3,c,oc,vs,t,h4,h5,h6⟩:=x
 exact⟨fa,o,pm,cd,doc,h1,s _ h2,h3,c,oc,vs,t,h4,s _ h5,h6⟩
theorem c0p {q:Program}{loose:List Str}{mean:ExcName->Option Value}{mg mb:Str->Option Value}{h:Heap}(T:Top q loose mean mg mb h):∀ ds:List DefRec,(∀ d∈ds,d∈recsOf q)->∃ K:Frag,AllIn K h/\∀ d∈ds,DIn K mg d
 | [],_=>⟨[],λ_ m=>absurd m List.not_mem_nil,λ_ m=>absurd m List.not_mem_nil⟩
 | d :: ds,hm=>by
  obtain⟨K,h1,h2⟩:=c0p T ds λe m=>hm e (Γh _ m)
  obtain⟨a,o,pm,cd,doc,g1,g2,g3,c,oc,vs,t,g4,g5,g6⟩:=T.fn d (hm d Γn)
  refine⟨(a,o) :: (c,oc) :: K,λp m=>?_,λe m=>?_⟩
  ·rcases List.mem_cons.mp m with z|z
   ·cases z;exact g2
   ·rcases List.mem_cons.mp z with z|z
    ·cases z;exact g5
    ·exact h1 p z
  ·rcases List.mem_cons.mp m with z|z
   ·cases z
    exact⟨a,o,pm,cd,doc,g1,Γn,g3,c,oc,vs,t,g4,Γh _ Γn,g6⟩
   ·exact (h2 e z).more λp m=>Γh _ (Γh _ m)
theorem DIn.fn {K:Frag}{h:Heap}(A:AllIn K h){mg:Str->Option Value}{x:Str}{st:Stmt}{pos:Pos}(D:DIn K mg ⟨x,a4x st,a2n st,a0p st,pos⟩):∃ fa fd,mg x=some (.ref fa)/\Fun K x x st fa fd:=by
 obtain⟨fa,o,pm,cd,doc,h1,h2,h3,c,oc,vs,t,rfl,h5,h6,h7⟩:=D
 have l:=A.look h2
 have lc:=A.look h5
 obtain⟨k1,k2,k3,k4⟩:=o
 obtain⟨j1,j2,j3,j4⟩:=oc
 cases h3;cases h6
 refine⟨fa,_,h1,d3s (kV:=.none) (doc:=doc) (pm:=pm) (an:=none) (cdv:=.ref c) (ct:=.none) l ?_ ?_⟩
 ·show (match K.lookup c with|some ⟨_,_,.fields vs,_⟩=>_|_=>_)=true
  rw[lc]
  obtain⟨l⟩:=vs
  match l,h7 with
  | [],h7=>simp at h7
  | [a],h7=>simp at h7
  | a :: b :: r,h7 =>
   simp at h7;subst h7
   exact beq_self_eq_true _
 ·show (match K.lookup fa with|some ⟨_,_,.func _,_⟩=>true|some ⟨_,_,.cls _,_⟩=>_|_=>false)=true
  rw[l]
noncomputable def d4j:Stmt->Pos
 | .FunctionDef _ _ _ _ _ _ _ _ _ p=>p
 | _=>⟨0,0,0,0⟩
noncomputable def d9o:Stmt->Bool
 | .FunctionDef ..=>true
 | _=>false
noncomputable def d0q (p:Program):Program:={ p with main:={ p.main with body:=p.main.body.filter d9o } }
noncomputable def freeIn (q:Program)(loose:List Str)(x:Str):Bool:=!startupNames.contains x && !loose.contains x && !((recsOf q).map (·.name)).contains x && !((litsOf q).map (·.1)).contains x && !((clssOf q loose).map (·.name)).contains x
theorem c9c {q:Program}{loose:List Str}{mean:ExcName->Option Value}{mg mb:Str->Option Value}{h:Heap}(T:Top q loose mean mg mb h){x:Str}(e:freeIn q loose x=true):mg x=none:=by
 unfold freeIn at e
 simp only[Bool.and_eq_true,Bool.not_eq_true',List.contains_eq_mem,decide_eq_false_iff_not] at e
 exact T.free x e.1.1.1.1 e.1.1.1.2 e.1.1.2 e.1.2 e.2
theorem walk2 {l:OpenLaw}{n k:Nat}{q:Program}{XP:(Str->Option Value)->Heap->Prop}{YP:World->Heap->Prop}{d:DefRec}{ds:List DefRec}{x:Str}{sp:Frag->Sp}
  (hn:l.most=some n)(hn2:n<=sizeLine)(hdf:d.params.defaults=[])(hr:Room k callerA)(hds:ds=recsOf q)(hfree:(bltNames.all λb=>freeIn q (looseW q []) (Γe b))=true)
  (F:∀ (w:World)(K:Frag)(mg:Str->Option Value)(fa:Addr)(h:Heap),AllIn K h->(∀ d∈ds,DIn K mg d)->(∀ b∈bltNames,mg (Γe b)=none)->mg d.name=some (.ref fa) ->
   ∃ fd:FuncData,(∀ (s:Shared)(u:Value),BindsTo s fd ⟨[u],[]⟩ [(x,u)])/\∀ base:Heap,FnOk l.prog w K mg base CX0 k fa fd [x] (sp K))
  (hsp:∀ (K:Frag)(H:Hp)(a:Addr)(ns:List Int),ns.length<=n->d5c H->SqL K H a (ns.map V.int)->sp K [.ref a] H (λv _=>v=.bl true) λ_ _ _=>False) :
  WalkO q [] XP YP l.row.toRowW d [] (λf vs=>PySem.call f vs):=by
 refine Att.attach_call hn hdf λw s₀ s₁ mg mb fa o pm cd doc a vs ns G Y ho hd hcd hmg hobj hints hlen hg=>?_
 obtain⟨K,hK,hD⟩:=c0p G.T ds λd m=>hds ▸ m
 obtain⟨fd,hb,hF⟩:=F w K mg fa _ hK hD (λb hb=>c9c G.T (List.all_eq_true.mp hfree b hb)) hmg
 exact b4o hK.to G.T.g G.T.b G.T.builtins G.T.nolimit hg hobj hints (Nat.le_trans hlen hn2) hr (λbase _ _=>hF base) hb (λH hO hS=>hsp K H a ns hlen hO hS) λH e s' z=>z
theorem row_holds {l:OpenLaw}{q:Program}{d:DefRec}{N:Nat}(said:l.wellSaid=true)(left:LeftO l.prog q [] (λs=>xlAt q [] s && recOk (RowW.records l.row.toRowW) s) (λ_=>()) (λ_=>()) N)
  (hdef:defOf q l.name=some (d,[]))(hp:l.prog.theDef l.name=some (d.params,d.body,d.scope))(hk:kwWritten? d.params.kwonlyargs d.params.kw_defaults=some [])(hwr:(!l.writes || l.row.records.isEmpty)=true)
  (ok:(chainsOk q && opensWell l.prog && (frees l.row.toRowW && l.row.within.isEmpty))=true)(hb:l.prog.bare)(hw:l.row.toRowW.promised)
  (call:WalkO q [] (XL q []) (λ_ _=>True) l.row.toRowW d [] λf vs=>PySem.call f vs):l.Holds :=
 holds_law said λk1=>holds_open (r:=l.row) left (λ_ _ _=>trivial) (λ_ _ _ _ _=>trivial) (λs e=>xl_of s (Bool.and_eq_true_iff.mp e).1) XL.keeps hdef hp hk (λs e=>recFacts_of (Bool.and_eq_true_iff.mp e).2) hwr k1 ok hb hw call
end Kq
end
set_option maxHeartbeats 1000000
section
namespace Kq
@[scoped simp ↓] theorem a1o {α:Type}(x:α)(Q:α->Prop):wp (some x) Q=Q x:=propext Iff.rfl
@[scoped simp ↓] theorem d6v {α:Type}(Q:α->Prop):wp (none:Option α) Q=False:=propext Iff.rfl
theorem a2l {α β:Type}(r:Option α)(f:α->Option β)(Q:β->Prop):wp (r.bind f) Q↔wp r (λx=>wp (f x) Q):=by cases r<;>rfl
@[scoped simp ↓] theorem a2k {α β:Type}(r:Option α)(f:α->β)(Q:β->Prop):wp (r.map f) Q↔wp r (λx=>Q (f x)):=by cases r<;>rfl
@[scoped simp ↓] theorem a3f {α:Type}(c:Prop) [Decidable c] (a:α)(Q:α->Prop):wp (if c then some a else none) Q↔c/\Q a:=by
 by_cases h:c<;>simp[h]
@[scoped simp ↓] theorem e2o (i:Nat)(L:a0c)(Q:FV->a0c->Prop):a0b i L Q=(wp (lk L i) λx=>Q x L):=propext Iff.rfl
@[scoped simp ↓] theorem eC_eq (v:FV)(L:a0c)(Q:FV->a0c->Prop):eC v L Q=(Q v L):=propext Iff.rfl
@[scoped simp ↓] theorem eUn_eq (f:FV->Option FV)(a:EW)(L:a0c)(Q:FV->a0c->Prop):eUn f a L Q=(a L λx L1=>wp (f x) λz=>Q z L1):=propext Iff.rfl
@[scoped simp ↓] theorem eOp_eq (f:FV->FV->Option FV)(a b:EW)(L:a0c)(Q:FV->a0c->Prop):eOp f a b L Q=(a L λx L1=>b L1 λy L2=>wp (f x y) λz=>Q z L2):=propext Iff.rfl
@[scoped simp ↓] theorem e2s (f:FV->FV->Option FV) (i:Nat)(b:EW)(L:a0c)(Q:FV->a0c->Prop):b6y f i b L Q=(wp (lk L i) λ_=>b L λy L1=>wp (lk L1 i) λx=>wp (f x y) λz=>Q z L1):=propext Iff.rfl
@[scoped simp ↓] theorem d4c (f g:FV->FV->Option FV)(a b c:EW)(L:a0c)(Q:FV->a0c->Prop):b1g f g a b c L Q=(a L λx L1=>b L1 λy L2=>wp (f x y) λr=>wp (blF r) λr=>if r=true then c L2 λz L3=>wp (g y z) λq=>Q q L3 else Q (.bl false) L2):=propext Iff.rfl
@[scoped simp ↓] theorem e2u (a b:EW)(L:a0c)(Q:FV->a0c->Prop):c4a a b L Q=(a L λx L1=>wp (b7o x) λr=>if r=true then b L1 Q else Q x L1):=propext Iff.rfl
@[scoped simp ↓] theorem eIf_eq (c:BW)(a b:EW)(L:a0c)(Q:FV->a0c->Prop):eIf c a b L Q=(c L λr L1=>if r=true then a L1 Q else b L1 Q):=propext Iff.rfl
@[scoped simp ↓] theorem e4c (a:EW)(L:a0c)(Q:Bool->a0c->Prop):a1z a L Q=(a L λx L1=>wp (b7o x) λb=>Q b L1):=propext Iff.rfl
@[scoped simp ↓] theorem e4e (a b:BW)(L:a0c)(Q:Bool->a0c->Prop):d4v a b L Q=(a L λr L1=>if r=true then b L1 Q else Q false L1):=propext Iff.rfl
@[scoped simp ↓] theorem bOr_eq (a b:BW)(L:a0c)(Q:Bool->a0c->Prop):bOr a b L Q=(a L λr L1=>if r=true then Q true L1 else b L1 Q):=propext Iff.rfl
@[scoped simp ↓] theorem e4d (a:BW)(L:a0c)(Q:Bool->a0c->Prop):b3l a L Q=(a L λr L1=>Q (!r) L1):=propext Iff.rfl
@[scoped simp ↓] theorem d6s (L:a0c)(Q:Bool->a0c->Prop):a0u  L Q=(Q true L):=propext Iff.rfl
@[scoped simp ↓] theorem e4g (L:a0c)(Q:List FV->a0c->Prop):a0k  L Q=(Q [] L):=propext Iff.rfl
@[scoped simp ↓] theorem d6t (a:EW)(r:AW)(L:a0c)(Q:List FV->a0c->Prop):a0a a r L Q=(a L λx L1=>r L1 λxs L2=>Q (x :: xs) L2):=propext Iff.rfl
@[scoped simp ↓] theorem e2p (a:AW)(L:a0c)(Q:FV->a0c->Prop):a4q a L Q=(a L λxs L1=>xs.length<=big/\Q (.tup xs) L1):=propext Iff.rfl
@[scoped simp ↓] theorem e2t (a:AW)(L:a0c)(Q:FV->a0c->Prop):b1f a L Q=(a L λxs L1=>xs.length<=big/\Q (.lst xs) L1):=propext Iff.rfl
@[scoped simp ↓] theorem d5j (L:a0c)(Q:Option Int->a0c->Prop):b0n  L Q=(Q none L):=propext Iff.rfl
@[scoped simp ↓] theorem d5i (a:EW)(L:a0c)(Q:Option Int->a0c->Prop):a5h a L Q=(a L λx L1=>wp (a3o x) λi=>Q (some i) L1):=propext Iff.rfl
@[scoped simp ↓] theorem eSl_eq (a:EW)(l h:OW)(L:a0c)(Q:FV->a0c->Prop):eSl a l h L Q=(a L λx L1=>l L1 λi L2=>h L2 λj L3=>wp (a5z x i j) λz=>Q z L3):=propext Iff.rfl
@[scoped simp ↓] theorem d6d (call:CW) (f:Nat)(a:AW)(L:a0c)(Q:FV->a0c->Prop):a0i call f a L Q=(a L λxs L1=>call f xs λz=>Q z.1 L1):=propext Iff.rfl
@[scoped simp ↓] theorem d4d (call:CW) (f i:Nat)(a:AW)(L:a0c)(Q:FV->a0c->Prop):a1j call f i a L Q=(wp (lk L i) λ_=>a L λxs L1=>wp (lk L1 i) λx=>call f (x :: xs) λz=>Q z.1 (L1.set i (some z.2))):=propext Iff.rfl
@[scoped simp ↓] theorem d5z (f:FV->FV->Option FV) (i:Nat)(a:EW)(L:a0c)(Q:FV->a0c->Prop):b3c f i a L Q=(wp (lk L i) λv=>wp (a7x v) λ_=>a L λy L1=>wp (lk L1 i) λx=>wp (f x y) λz=>Q .non (L1.set i (some z))):=propext Iff.rfl
@[scoped simp ↓] theorem d9r (a:EW)(L:a0c)(Q:List FV->a0c->Prop):b2w a L Q=(a L λx L1=>wp (a3i x) λxs=>Q xs L1):=propext Iff.rfl
@[scoped simp ↓] theorem d9s (a:EW)(L:a0c)(Q:List FV->a0c->Prop):b1a a L Q=(a L λx L1=>wp (a3o x) λj=>a1i j=true/\Q (upF 0 j.toNat) L1):=propext Iff.rfl
@[scoped simp ↓] theorem d5l (a b:EW)(L:a0c)(Q:List FV->a0c->Prop):iRng2 a b L Q=(a L λx L1=>b L1 λy L2=>wp (a3o x) λi=>wp (a3o y) λj=>(a1i i && a1i j)=true/\Q (upF i (j-i).toNat) L2):=propext Iff.rfl
@[scoped simp ↓] theorem d9q (a b:EW)(L:a0c)(Q:List FV->a0c->Prop):c5r a b L Q=(a L λx L1=>b L1 λy L2=>wp (a3i x) λxs=>wp (a3i y) λys=>Q (a2v xs ys) L2):=propext Iff.rfl
@[scoped simp ↓] theorem d5n (a:EW)(L:a0c)(Q:List FV->a0c->Prop):c3p a L Q=(a L λx L1=>wp (a3i x) λxs=>Q (a2v (upF 0 xs.length) xs) L1):=propext Iff.rfl
@[scoped simp ↓] theorem d6c (n m:Nat)(it:AW)(tg:Tg)(t:BW)(e:EW)(L:a0c)(Q:FV->a0c->Prop):a1p n m it tg t e L Q=(it L λxs L1=>L1.length=n/\xs.length<=big/\a4y n m tg t e xs [] L1 λys L2=>Q (.lst ys) L2):=propext Iff.rfl
@[scoped simp ↓] theorem d7s (L:a0c)(Q:FFl->a0c->Prop):a5f  L Q=(Q .next L):=propext Iff.rfl
@[scoped simp ↓] theorem d7q (s r:SW)(L:a0c)(Q:FFl->a0c->Prop):a0s s r L Q=(s L (aft (λL1=>r L1 Q) Q)):=propext Iff.rfl
@[scoped simp ↓] theorem d7x (e:EW)(tg:Tg)(L:a0c)(Q:FFl->a0c->Prop):a1k e tg L Q=(e L λx L1=>gW tg x L1 λL2=>Q .next L2):=propext Iff.rfl
@[scoped simp ↓] theorem d7p (k:Nat)(i e:EW)(L:a0c)(Q:FFl->a0c->Prop):d5f k i e L Q=(wp (lk L k) λ_=>e L λx L1=>i L1 λj L2=>wp (lk L2 k) λy=>wp (d7n y j x) λz=>Q .next (L2.set k (some z))):=propext Iff.rfl
@[scoped simp ↓] theorem d7w (f:FV->FV->Option FV) (i:Nat)(e:EW)(L:a0c)(Q:FFl->a0c->Prop):d1h f i e L Q=(wp (lk L i) λa=>e L λx L1=>wp (f a x) λz=>Q .next (L1.set i (some z))):=propext Iff.rfl
@[scoped simp ↓] theorem d7r (e:EW)(L:a0c)(Q:FFl->a0c->Prop):a1n e L Q=(e L λx L1=>Q (.ret x) L1):=propext Iff.rfl
@[scoped simp ↓] theorem d7u (e:EW)(L:a0c)(Q:FFl->a0c->Prop):c6u e L Q=(e L λ_ L1=>Q .next L1):=propext Iff.rfl
@[scoped simp ↓] theorem sIf_eq (c:BW)(a b:SW)(L:a0c)(Q:FFl->a0c->Prop):sIf c a b L Q=(c L λr L1=>if r=true then a L1 Q else b L1 Q):=propext Iff.rfl
@[scoped simp ↓] theorem d7t (it:AW)(tg:Tg)(b:SW)(L:a0c)(Q:FFl->a0c->Prop):b5r it tg b L Q=(it L λxs L1=>c9e tg b xs L1 Q):=propext Iff.rfl
@[scoped simp ↓] theorem d7o (c:BW)(b:SW)(L:a0c)(Q:FFl->a0c->Prop):d0l c b L Q=(∃ n,d0j c b n L Q):=propext Iff.rfl
@[scoped simp ↓] theorem lk_z (x:Option FV)(L:a0c)(Q:FV->Prop):wp (lk (x :: L) 0) Q=wp x Q:=propext Iff.rfl
@[scoped simp ↓] theorem lk_s (x:Option FV)(L:a0c) (n:Nat)(Q:FV->Prop):wp (lk (x :: L) (n+1)) Q=wp (lk L n) Q:=propext Iff.rfl
@[scoped simp ↓] theorem gw_nm (i:Nat)(v:FV)(L:a0c)(Q:a0c->Prop):gW (.nm i) v L Q=Q (L.set i (some v)):=propext Iff.rfl
@[scoped simp ↓] theorem gw_tp (is:List Nat)(v:FV)(L:a0c)(Q:a0c->Prop):gW (.tp is) v L Q=wp (a7d v) λxs=>wp (a7e L is xs) Q:=propext Iff.rfl
@[scoped simp ↓] theorem gw_tn (i:Nat)(is:List Nat)(v:FV)(L:a0c)(Q:a0c->Prop):gW (.tn i is) v L Q=wp (a7d v) λxs=>wp (c7x xs) λp=>wp (a7d p.2) λys=>wp (a7e (L.set i (some p.1)) is ys) Q:=propext Iff.rfl
@[scoped simp ↓] theorem pr_2 (a b:FV)(Q:FV×FV->Prop):wp (c7x [a,b]) Q=Q (a,b):=propext Iff.rfl
@[scoped simp ↓] theorem sa_n (L:a0c)(Q:a0c->Prop):wp (a7e L [] []) Q=Q L:=propext Iff.rfl
@[scoped simp ↓] theorem sa_c (L:a0c) (i:Nat)(is:List Nat)(v:FV)(vs:List FV)(Q:a0c->Prop):wp (a7e L (i :: is) (v :: vs)) Q=wp (a7e (L.set i (some v)) is vs) Q:=propext Iff.rfl
section
variable (L:a0c)(k:a0c->Prop)(Q:FFl->a0c->Prop)
@[scoped simp ↓] theorem e4f:aft k Q .next L=k L:=propext Iff.rfl
@[scoped simp ↓] theorem af_ret (v:FV):aft k Q (.ret v) L=Q (.ret v) L:=propext Iff.rfl
@[scoped simp ↓] theorem tq_n:b1z k Q .next L=k L:=propext Iff.rfl
@[scoped simp ↓] theorem tq_r (v:FV):b1z k Q (.ret v) L=Q (.ret v) L:=propext Iff.rfl
end
@[scoped simp ↓] theorem en_rt (fr:Bool)(Q:FV×FV->Prop)(v:FV)(L:a0c):c1y true fr Q (.ret v) L=wp (lk L 0) λx=>Q (v,x):=propext Iff.rfl
@[scoped simp ↓] theorem en_rf (fr:Bool)(Q:FV×FV->Prop)(v:FV)(L:a0c):c1y false fr Q (.ret v) L=Q (v,.non):=propext Iff.rfl
section
variable (Q:FV->Prop)(B:Bool->Prop) (i j:Int)
@[scoped simp ↓] theorem tr_b (b:Bool):wp (b7o (.bl b)) B=B b:=propext Iff.rfl
@[scoped simp ↓] theorem tr_t (xs:List FV):wp (b7o (.tup xs)) B=B (!xs.isEmpty):=propext Iff.rfl
@[scoped simp ↓] theorem tr_l (xs:List FV):wp (b7o (.lst xs)) B=B (!xs.isEmpty):=propext Iff.rfl
@[scoped simp ↓] theorem in_i (Q:Int->Prop):wp (a3o (.int i)) Q=Q i:=propext Iff.rfl
@[scoped simp ↓] theorem bl_b (b:Bool):wp (blF (.bl b)) B=B b:=propext Iff.rfl
@[scoped simp ↓] theorem tp_t (xs:List FV)(Q:List FV->Prop):wp (a7d (.tup xs)) Q=Q xs:=propext Iff.rfl
@[scoped simp ↓] theorem ls_l (xs:List FV)(Q:List FV->Prop):wp (a7x (.lst xs)) Q=Q xs:=propext Iff.rfl
@[scoped simp ↓] theorem sq_t (xs:List FV)(Q:List FV->Prop):wp (a3i (.tup xs)) Q=Q xs:=propext Iff.rfl
@[scoped simp ↓] theorem sq_l (xs:List FV)(Q:List FV->Prop):wp (a3i (.lst xs)) Q=Q xs:=propext Iff.rfl
@[scoped simp ↓] theorem sq_s (ns:List Int)(Q:List FV->Prop):wp (a3i (.scr ns)) Q=Q (ns.map .int):=propext Iff.rfl
@[scoped simp ↓] theorem li_l (xs:List FV)(Q:List FV->Prop):wp (a2c (.lst xs)) Q=Q xs:=propext Iff.rfl
@[scoped simp ↓] theorem b_add:wp (a2e (.int i) (.int j)) Q=Q (.int (i+j)):=propext Iff.rfl
@[scoped simp ↓] theorem b_sub:wp (b5m (.int i) (.int j)) Q=Q (.int (i-j)):=propext Iff.rfl
@[scoped simp ↓] theorem b_mul:wp (b1v (.int i) (.int j)) Q↔(small i || small j)=true/\Q (.int (i*j)):=a3f _ _ _
@[scoped simp ↓] theorem b_fdiv:wp (b2z (.int i) (.int j)) Q↔(0<j/\j<1073741824)/\Q (.int (i / j)):=a3f _ _ _
@[scoped simp ↓] theorem b_mod:wp (c5i (.int i) (.int j)) Q↔0<j/\Q (.int (i % j)):=a3f _ _ _
@[scoped simp ↓] theorem b_pow:wp (c7l (.int i) (.int j)) Q↔(0<=j/\j<=1000/\small i=true)/\Q (.int (i ^ j.toNat)):=a3f _ _ _
@[scoped simp ↓] theorem b_addt (xs ys:List FV):wp (a2e (.tup xs) (.tup ys)) Q↔xs.length+ys.length<=big/\Q (.tup (xs++ys)):=a3f _ _ _
@[scoped simp ↓] theorem b_addl (xs ys:List FV):wp (a2e (.lst xs) (.lst ys)) Q↔xs.length+ys.length<=big/\Q (.lst (xs++ys)):=a3f _ _ _
@[scoped simp ↓] theorem k_eq (a b:FV):wp (eqB a b) Q↔wp (eqF a b) λr=>Q (.bl r):=a2k _ _ _
@[scoped simp ↓] theorem k_ne (a b:FV):wp (neB a b) Q↔wp (eqF a b) λr=>Q (.bl (!r)):=a2k _ _ _
@[scoped simp ↓] theorem k_lt:wp (ltB (.int i) (.int j)) Q=Q (.bl (decide (i<j))):=propext Iff.rfl
@[scoped simp ↓] theorem k_le:wp (leB (.int i) (.int j)) Q=Q (.bl (decide (i<=j))):=propext Iff.rfl
@[scoped simp ↓] theorem k_gt:wp (gtB (.int i) (.int j)) Q=Q (.bl (decide (j<i))):=propext Iff.rfl
@[scoped simp ↓] theorem k_ge:wp (geB (.int i) (.int j)) Q=Q (.bl (decide (j<=i))):=propext Iff.rfl
@[scoped simp ↓] theorem e_ii:wp (eqF (.int i) (.int j)) B=B (i == j):=propext Iff.rfl
@[scoped simp ↓] theorem e_bb (a b:Bool):wp (eqF (.bl a) (.bl b)) B=B (a == b):=propext Iff.rfl
@[scoped simp ↓] theorem ix_eq (v:FV):wp (ixF v (.int i)) Q↔wp (a3i v) λxs=>wp (atF xs i) Q:=by
 show wp ((a3i v).bind _) Q↔_;rw[a2l]
@[scoped simp ↓] theorem f_min:wp (b9a (.int i) (.int j)) Q=Q (.int (if j<i then j else i)):=propext Iff.rfl
@[scoped simp ↓] theorem f_not (b:Bool):wp (d9b (.bl b)) Q=Q (.bl (!b)):=propext Iff.rfl
@[scoped simp ↓] theorem f_neg:wp (d9e (.int i)) Q=Q (.int (-i)):=propext Iff.rfl
@[scoped simp ↓] theorem f_len (v:FV):wp (a5j v) Q↔wp (a3i v) λxs=>Q (.int xs.length):=a2k _ _ _
@[scoped simp ↓] theorem f_abs:wp (d4z (.int i)) Q=Q (.int (if i<0 then -i else i)):=propext Iff.rfl
@[scoped simp ↓] theorem f_intb (b:Bool):wp (b3s (.bl b)) Q=Q (.int (if b then 1 else 0)):=propext Iff.rfl
@[scoped simp ↓] theorem f_all (v:FV):wp (c5y v) Q↔wp (a2c v) λxs=>wp (a4t xs) λbs=>Q (.bl (bs.all id)):=by
 show wp ((a2c v).bind _) Q↔_;rw[a2l];simp only[a2k]
@[scoped simp ↓] theorem f_any (v:FV):wp (d4y v) Q↔wp (a2c v) λxs=>wp (a4t xs) λbs=>Q (.bl (bs.any id)):=by
 show wp ((a2c v).bind _) Q↔_;rw[a2l];simp only[a2k]
@[scoped simp ↓] theorem f_minI (v:FV):wp (b5v v) Q↔wp (a2c v) λxs=>wp (d3d xs) Q:=a2l _ _ _
@[scoped simp ↓] theorem e2k (v:FV):wp (a2z v) Q↔wp (a3i v) λxs=>Q (.tup xs):=a2k _ _ _
@[scoped simp ↓] theorem f_isi (t:Ty)(v:FV):wp (d0n t v) Q↔wp (a6n v t) λb=>Q (.bl b):=a2k _ _ _
@[scoped simp ↓] theorem y_non (t:Ty):wp (a6n .non t) B=B false:=propext Iff.rfl
@[scoped simp ↓] theorem y_bl (b:Bool)(t:Ty):wp (a6n (.bl b) t) B=B (t == .int || t == .bool):=propext Iff.rfl
@[scoped simp ↓] theorem y_int (t:Ty):wp (a6n (.int i) t) B=B (t == .int):=propext Iff.rfl
@[scoped simp ↓] theorem y_str (b:String)(t:Ty):wp (a6n (.str b) t) B=B (t == .str):=propext Iff.rfl
@[scoped simp ↓] theorem y_tup (b:List FV)(t:Ty):wp (a6n (.tup b) t) B=B (t == .tuple):=propext Iff.rfl
@[scoped simp ↓] theorem y_lst (b:List FV)(t:Ty):wp (a6n (.lst b) t) B=B (t == .list):=propext Iff.rfl
@[scoped simp ↓] theorem iN_n:wp (a2x .non) Q=Q (.bl true):=propext Iff.rfl
@[scoped simp ↓] theorem iN_i:wp (a2x (.int i)) Q=Q (.bl false):=propext Iff.rfl
@[scoped simp ↓] theorem nN_n:wp (a1u .non) Q=Q (.bl false):=propext Iff.rfl
@[scoped simp ↓] theorem nN_i:wp (a1u (.int i)) Q=Q (.bl true):=propext Iff.rfl
@[scoped simp ↓] theorem nN_t (xs:List FV):wp (a1u (.tup xs)) Q=Q (.bl true):=propext Iff.rfl
@[scoped simp ↓] theorem m_app (xs:List FV)(v:FV):wp (d0f (.lst xs) v) Q↔xs.length<big/\Q (.lst (xs++[v])):=a3f _ _ _
@[scoped simp ↓] theorem s_t (xs:List FV)(lo hi:Option Int):wp (a5z (.tup xs) lo hi) Q=Q (.tup (b1j xs lo hi)):=propext Iff.rfl
@[scoped simp ↓] theorem s_l (xs:List FV)(lo hi:Option Int):wp (a5z (.lst xs) lo hi) Q=Q (.lst (b1j xs lo hi)):=propext Iff.rfl
@[scoped simp ↓] theorem st_l (xs:List FV)(v:FV):wp (d7n (.lst xs) (.int j) v) Q↔wp (ixN xs.length j) λp=>Q (.lst (xs.set p v)):=a2k _ _ _
@[scoped simp ↓] theorem au_f (f:Int->Int->Int):wp (d0p f (.int i) (.int j)) Q=Q (.int (f i j)):=propext Iff.rfl
end
theorem a2s {xs:List FV}{i:Int}{n:Nat}{v:FV}{Q:FV->Prop}(h:i=n)(hv:xs[n]?=some v):wp (atF xs i) Q↔Q v:=by
 subst h
 have:=(List.getElem?_eq_some_iff.mp hv).1
 simp only[atF,ixN,Int.natCast_nonneg,if_true,Int.ofNat_lt,this,Option.bind_some,Int.toNat_natCast,hv,a1o]
@[scoped simp ↓] theorem at_0 (x:FV)(r:List FV)(Q:FV->Prop):wp (atF (x :: r) 0) Q↔Q x:=a2s (n:=0) rfl rfl
@[scoped simp ↓] theorem at_1 (x y:FV)(r:List FV)(Q:FV->Prop):wp (atF (x :: y :: r) 1) Q↔Q y:=a2s (n:=1) rfl rfl
@[scoped simp ↓] theorem at_2 (x y z:FV)(r:List FV)(Q:FV->Prop):wp (atF (x :: y :: z :: r) 2) Q↔Q z:=a2s (n:=2) rfl rfl
theorem b5f {xs:List FV}{u:Int}{Q:FV->Prop}(h0:0<=u)(h1:u<xs.length)(h:∀ x∈xs,Q x):wp (atF xs u) Q:=by
 have hu:u.toNat<xs.length:=by lia
 rw[a2s (show u=u.toNat by lia) (List.getElem?_eq_getElem hu)]
 exact h _ (List.getElem_mem hu)
theorem a2d {α:Type}(p:α->Bool):∀ xs:List α,a4t (xs.map λx=>.bl (p x))=some (xs.map p)
 | []=>rfl
 | x :: r=>by simp only[List.map_cons,a4t,a2d p r,Option.map_some]
theorem a2i:∀ ns:List Int,a1d (ns.map .int)=some ns
 | []=>rfl
 | x :: r=>by simp only[List.map_cons,a1d,a2i r,Option.map_some]
@[scoped simp] theorem ty_01:(Ty.int == Ty.bool)=false:=by decide
@[scoped simp] theorem ty_02:(Ty.int == Ty.str)=false:=by decide
@[scoped simp] theorem ty_03:(Ty.int == Ty.list)=false:=by decide
@[scoped simp] theorem ty_04:(Ty.int == Ty.tuple)=false:=by decide
@[scoped simp] theorem ty_10:(Ty.bool == Ty.int)=false:=by decide
@[scoped simp] theorem ty_40:(Ty.tuple == Ty.int)=false:=by decide
@[scoped simp] theorem ty_41:(Ty.tuple == Ty.bool)=false:=by decide
@[scoped simp] theorem ty_42:(Ty.tuple == Ty.str)=false:=by decide
@[scoped simp] theorem ty_43:(Ty.tuple == Ty.list)=false:=by decide
theorem a0e {tb:List FD}{d f:Nat}{args:List FV}{fd:FD}{Q:FV×FV->Prop}(h:tb[f]?=some fd)(hl:args.length=fd.np)
  (H:fd.body (callW tb d) (args.map some++Γj (fd.ns-fd.np) none) (c1y fd.io fd.fr Q)):callW tb (d+1) f args Q:=by
 show (match tb[f]? with
  | none=>False
  | some fd=>args.length=fd.np/\fd.body (callW tb d) (args.map some++Γj (fd.ns-fd.np) none) (c1y fd.io fd.fr Q))
 rw[h];exact⟨hl,H⟩
theorem a9s {tb:List FD}{d f:Nat}{args:List FV}{fd:FD}{Q:FV×FV->Prop}(h:tb[f]?=some fd)(hl:args.length=fd.np) :
  callW tb (d+1) f args Q↔fd.body (callW tb d) (args.map some++Γj (fd.ns-fd.np) none) (c1y fd.io fd.fr Q):=by
 show (match tb[f]? with
  | none=>False
  | some fd=>args.length=fd.np/\fd.body (callW tb d) (args.map some++Γj (fd.ns-fd.np) none) (c1y fd.io fd.fr Q))↔_
 rw[h];exact⟨λz=>z.2,λz=>⟨hl,z⟩⟩
theorem a4o {α:Type}{tg:Tg}{b:SW}{f:α->FV}{I:List α->a0c->Prop}{Q:FFl->a0c->Prop}(all:List α) :
  ∀ (rest done:List α)(L:a0c),all=done++rest->I done L ->
  (∀ d x r L (K:a0c->Prop),all=d++x :: r->I d L->(∀ L',I (d++[x]) L'->K L')->gW tg (f x) L λL1=>b L1 (b1z K Q)) ->
  (∀ L,I all L->Q .next L)->c9e tg b (rest.map f) L Q
 | [],done,L,e,h,_,E=>by
  rw[List.append_nil] at e
  exact E L (e ▸ h)
 | x :: rest,done,L,e,h,B,E=>B done x rest L _ e h λL' h'=>a4o all rest (done++[x]) L' (by simp[e]) h' B E
theorem a2r {tg:Tg}{b:SW}{I:Nat->a0c->Prop}{Q:FFl->a0c->Prop}:∀ (n i:Nat)(L:a0c),I i L ->
  (∀ j L (K:a0c->Prop),i<=j->j<i+n->I j L->(∀ L',I (j+1) L'->K L')->gW tg (.int (j:Int)) L λL1=>b L1 (b1z K Q)) ->
  (∀ L,I (i+n) L->Q .next L)->c9e tg b (upF (i:Int) n) L Q
 | 0,i,L,h,_,E=>E L h
 | n+1,i,L,h,B,E=>B i L _ (Γi _) (by lia) h λL' h'=>by
  have:=a2r n (i+1) L' h' (λj L K hj hj'=>B j L K (by lia) (by lia)) (λL h=>E L (by rw[show i+(n+1)=i+1+n by lia];exact h))
  simpa using this
theorem while_by {c:BW}{b:SW}{I:Nat->a0c->Prop}{Q:FFl->a0c->Prop}(B:∀ m L (K:a0c->Prop),I m L->(∀ m' L',m'<m->I m' L'->K L')->c L λt L1=>if t=true then b L1 (b1z K Q) else Q .next L1){m:Nat}{L:a0c}(h:I m L):d0l c b L Q:=by
 have go:∀ n m L,m<n->I m L->d0j c b n L Q:=by
  intro n
  induction n with
  | zero=>intro m L hm;lia
  | succ n ih=>intro m L hm h;exact B m L _ h λm' L' h1 h2=>ih m' L' (by lia) h2
 exact⟨m+1,go _ m L (Nat.lt_succ_self _) h⟩
theorem a3s {α:Type}{tg:Tg}{n m:Nat}{t:BW}{e:EW}{f:α->FV}{I:List α->List FV->a0c->Prop}{Q:List FV->a0c->Prop}(all:List α) :
  ∀ (rest done:List α)(acc:List FV)(L:a0c),all=done++rest->I done acc L ->
  (∀ d x r acc L (K:List FV->a0c->Prop),all=d++x :: r->I d acc L->(∀ acc' L',I (d++[x]) acc' L'->K acc' L')->gW tg (f x) (L++Γj m none) λL1=>t L1 λb L2=>if b=true then e L2 λv L3=>K (acc++[v]) (L3.take n) else K acc (L2.take n)) ->
  (∀ ys L,I all ys L->Q ys L)->a4y n m tg t e (rest.map f) acc L Q
 | [],done,acc,L,e,h,_,E=>by
  rw[List.append_nil] at e
  exact E acc L (e ▸ h)
 | x :: rest,done,acc,L,e,h,B,E=>B done x rest acc L (λacc' L'=>a4y _ _ _ _ _ (rest.map f) acc' L' Q) e h λacc' L' h'=>a3s all rest (done++[x]) acc' L' (by simp[e]) h' B E
theorem a0l {α:Type}{tg:Tg}{n m:Nat}{e:EW}{f:α->FV}{g:α->FV}{Q:List FV->a0c->Prop}{L:a0c}:∀ (xs:List α)(acc:List FV),
  (∀ x∈xs,∀ K:FV->a0c->Prop,K (g x) L->gW tg (f x) (L++Γj m none) λL1=>e L1 λv L3=>K v (L3.take n))->Q (acc++xs.map g) L->a4y n m tg a0u e (xs.map f) acc L Q
 | [],acc,_,E=>by
  show Q acc L
  simpa using E
 | x :: xs,acc,B,E=>B x Γn (λv L'=>a4y n m tg a0u e (xs.map f) (acc++[v]) L' Q) (a0l xs (acc++[g x]) (λy hy=>B y (Γh _ hy)) (by simpa using E))
theorem b7h:∀ n lo:Nat,upF (lo:Int) n=(List.range' lo n).map λi:Nat=>FV.int i
 | 0,lo=>rfl
 | n+1,lo=>by simp only[upF,List.range'_succ,List.map_cons];rw[<- b7h n (lo+1)];simp
theorem a1l (n:Nat):upF 0 n=(List.range n).map λi:Nat=>FV.int i:=by
 have:=b7h n 0
 rw[List.range_eq_range'];exact_mod_cast this
theorem ite2 {c A B:Prop} [Decidable c] (h1:c->A)(h2:¬ c->B):if c then A else B:=by
 by_cases h:c
 ·rw[if_pos h];exact h1 h
 ·rw[if_neg h];exact h2 h
end Kq
end
set_option maxHeartbeats 4000000
section
namespace Kq
open PySem PySem.Spec PyProof.Rows L2
section
variable {X:Cx}{C:CC}{n:Nat}{sp:Γd->Nat->Sp}{a:Expr}{ea:EW}{p p2 p3 p4 pos:Pos}
end
section
variable {X:Cx}{C:CC}{n:Nat}{sp:Γd->Nat->Sp}{fr:Bool}{a b:Expr}{ea eb:EW}{pos px py pt p2:Pos}{i j kt k2:Nat}{nx ny:Str}
end
noncomputable def Itd (lo:Int) (n:Nat):It:=⟨λi _=>i<n,λi H x H'=>H'=H/\x=.int (lo-i),λi _=>n<=i⟩
theorem b7k {P:Program}{w:World}{K:Γd}{tg:Expr}(it:Addr) (lo:Int) (n:Nat):Turn P w K tg (Itd lo n) [it] it (λi h=>IsRangeIter h it (lo+(i:Nat)*(-1)) ((n:Int)-(i:Nat)) (-1)) where
 mem:=by simp
 obj:=λi h st b hb=>by
  have e:b=it:=by simpa using hb
  subst e
  exact⟨_,st,λv z=>by
   have z':Data.fields _=Data.cell v:=z
   cases z'⟩
 keep:=λi h h' st k=>k it (by simp) _ st
 item:=by
  intro X hP hw hK hc i pins s σ H E I hf st hg
  subst hP hw hK
  obtain⟨f0,f1,f2,f3,f4,f5⟩:=hf it (by simp)
  have W:=Walks.range (prog:=X.prog) (w:=X.w) (I.ok.hd hc) it lo (-1) n
  refine W.item i s _ _ hg st λv h' tk hv st' kk=>?_
  obtain⟨t,rfl⟩:=hv
  have I1:Inv X pins σ H { s with heap:=h',toks:=tk }:=I.turned (λb o hb e=>kk b o (by simpa using hb) e) f0 f1 f3 f4 f5
  refine⟨_,rfl,c3t (s:={ s with heap:=h',toks:=tk }) (n:="range_iterator") st' rfl rfl (by decide) ⟨.int (lo-i),H,I1,⟨t,?_⟩,⟨rfl,rfl⟩,st',λb hb=>(hf b hb).1⟩⟩
  rw[Int.mul_neg,Int.mul_one,Int.sub_eq_add_neg]
 done:=by
  intro X hP hw hK hc i pins s σ H E I hf st hg
  subst hP hw hK
  obtain⟨f0,f1,f2,f3,f4,f5⟩:=hf it (by simp)
  exact wpAny_pyNext_range_end (I.ok.hd hc) st (by have:n<=i:=hg;lia) λh' eb=>⟨rfl,I.turned (t':=s.toks) (λb o hb e=>eb b o hb e) f0 f1 f3 f4 f5⟩
 self:=λ_ _ _ _ _ st h=>wpAny_pyIter_rangeiter st h
section
variable {X:Cx}{tg:Expr}
end
noncomputable def a6w (hi:Int):Nat->List FV
 | 0=>[]
 | n+1=>.int hi :: a6w (hi-1) n
noncomputable def iDown (a b:EW):AW:=λL Q=>a L λx L1=>b L1 λy L2=>wp (a3o x) λi=>wp (a3o y) λj=>(a1i i && a1i j)=true/\Q (a6w i (i-j).toNat) L2
theorem b1h:∀ (n:Nat) (lo:Int) (i:Nat),(a6w lo n)[i]?=if i<n then some (.int (lo-i)) else none
 | 0,lo,i=>by simp[a6w]
 | n+1,lo,0=>by simp[a6w]
 | n+1,lo,i+1=>by
  show (a6w (lo-1) n)[i]?=_
  rw[b1h n (lo-1) i]
  have e:lo-1-(i:Int)=lo-((i+1:Nat):Int):=by lia
  simp[e]
section
variable {X:Cx}{C:CC}{n:Nat}{sp:Γd->Nat->Sp}{a b tg:Expr}{ea eb:EW}{p p3 p4 pos:Pos}{kk:Nat}
variable {K:Γd}{c:Cn}{md:Md}
theorem c8q {lo:Int}{m:Nat}{S1:Hp}:ItR K c md (Itd lo m) (a6w lo m) S1:=by
 intro i L σ S H I s
 rw[b1h]
 by_cases h:i<m
 ·rw[if_pos h]
  refine⟨λe=>(nomatch e),λp e=>?_⟩
  cases e
  exact⟨h,λv H' ⟨e1,e2⟩=>⟨S,Same.refl S,by rw[e1];exact λ_ _ _ _ I=>I,e2⟩⟩
 ·rw[if_neg h]
  exact⟨λ_=>show m<=i by lia,λp e=>(nomatch e)⟩
end
end Kq
end
section
namespace PySem
open PySem.Spec
theorem F.sub_rit_reversed:isSubtype (.type "range_iterator") (.type "reversed")=pure false:=by rw[isSubtype_type];kernel_rfl
theorem b8c (r:Addr) (a b c:Int)(t u v:Tok)(hc0:¬(!(Builtin.Range.rangeFitsLong a && Builtin.Range.rangeFitsLong b && Builtin.Range.rangeFitsLong c && Builtin.Range.rangeFitsLong (-c) && Builtin.Range.rangeFitsLong (a-c) && Builtin.Range.rangeFitsLong (Builtin.Range.rangeSize a b c)))=true) :
  Meets (Builtin.«range.__reversed__» ⟨[.ref r],[]⟩) (λ_ R s=>s.heap.get? r=some { cls:=.type "range",dict:=none,data:=.fields #[.int a t,.int b u,.int c v],slots:=#[] }/\R (.ok (.ret (Value.ref s.heap.objs.size))) { s with heap:=s.heap.push { cls:=Value.type (if (Builtin.Range.rangeFitsLong a && Builtin.Range.rangeFitsLong b && Builtin.Range.rangeFitsLong c && Builtin.Range.rangeFitsLong (-c) && Builtin.Range.rangeFitsLong (a-c) && Builtin.Range.rangeFitsLong (Builtin.Range.rangeSize a b c))=true then "range_iterator" else "longrange_iterator"),data:=Data.fields #[rawInt (a+(Builtin.Range.rangeSize a b c-1)*c),rawInt (Builtin.Range.rangeSize a b c),rawInt (-c)] },toks:=s.toks }) :=
 .of_wp λprog w A R s h=>by obtain⟨hp,g,d,tk,os⟩:=s;obtain⟨hl,h⟩:=h;wp_walk;exact⟨_,rfl,h⟩
section
variable {prog:Program}{w:World}{A:Around}{E:Value->Shared->Prop}{s:Shared}
noncomputable def a6b (a n:Int):Obj:={ cls:=.type "range_iterator",data:=.fields #[rawInt a,rawInt n,rawInt (-1)] }
theorem a7q {r:Addr}{b:Int}{t u v:Tok}{Q:Value->Shared->Prop}(hr:IsRange s.heap r 0 b 1 t u v)(h1:-(2 ^ 62)<=b)(h2:b<2 ^ 62)
  (h:Q (.ref s.heap.objs.size) { s with heap:=s.heap.push (a6b ((b.toNat:Int)-1) b.toNat) }):wpAny (model prog w) A (call (.builtin "range.__reversed__") [.ref r]) Q E s:=by
 have hT:s.TypeIs (.ref r) "range":=⟨_,hr,rfl⟩
 have hn:Builtin.Range.rangeSize 0 b 1=(b.toNat:Int):=by rw[rangeSize_one];split<;>lia
 have hs:(Builtin.Range.rangeFitsLong 0 && Builtin.Range.rangeFitsLong b && Builtin.Range.rangeFitsLong 1 && Builtin.Range.rangeFitsLong (-1) && Builtin.Range.rangeFitsLong (0-1) && Builtin.Range.rangeFitsLong (Builtin.Range.rangeSize 0 b 1))=true:=by
  rw[hn]
  simp only[Builtin.Range.rangeFitsLong,Bool.and_eq_true,decide_eq_true_eq]
  lia
 refine call_meets F.slot_range_reversed hT F.entry_range_reversed (F.args_range_reversed_1 _) (b8c r 0 b 1 t u v (by rw[hs];decide)) ⟨hr,?_⟩
 rw[hs,if_pos rfl,hn]
 have e:(0:Int)+((b.toNat:Int)-1)*1=(b.toNat:Int)-1:=by lia
 rw[e]
 exact h
theorem a7n {r:Addr}{b:Int}{t u v:Tok}{Q₁:Value->Shared->Prop}(hr:IsRange s.heap r 0 b 1 t u v)(h1:-(2 ^ 62)<=b)(h2:b<2 ^ 62)
  (h:Q₁ (.ref s.heap.objs.size) { s with heap:=s.heap.push (a6b ((b.toNat:Int)-1) b.toNat) }) :
  codeAny (model prog w) A (.call (.builtin "reversed.__new__") ⟨[.type "reversed",.ref r],[]⟩) (wants Q₁ E) s:=by
 have hT:s.TypeIs (.ref r) "range":=⟨_,hr,rfl⟩
 refine codeAny_of_tree ?_
 show wpAny _ A.in1 (do checkBuiltinCall "reversed.__new__" ⟨[.type "reversed",.ref r],[]⟩;again (.builtin "reversed.__new__" ⟨[.type "reversed",.ref r],[]⟩)) _ _ s
 refine Γa (wpAny_of_eq (F.newCall_reversed_1 _) (Γb ⟨plainId_quiet F.plain_reversed_new _,codeAny_builtin F.entry_reversed_new ?_⟩))
 rw[Around.under_plainId F.plain_reversed_new _]
 unfold Builtin.«reversed.__new__»
 refine Γa (wpAny_of_eq (newClass_reversed _) ?_)
 try dsimp only
 refine Γa (wpAny_of_eq (a:=()) (by first|rfl|kernel_rfl) ?_)
 refine Γa (wpAny_of_eq (a:=()) (by first|rfl|kernel_rfl) ?_)
 try dsimp only
 refine Γa (wpAny_specialOf hT F.slot_range_reversed.lookup ?_)
 try dsimp only
 refine Γa (wpAny_of_eq (F.slot_range_reversed.bind _) ?_)
 try dsimp only
 first
 | rw[if_neg (show ¬ ((Value.builtin "range.__reversed__" == Value.none)=true) from Γk)]
 | (show wpAny _ _ (if (Value.builtin "range.__reversed__" == Value.none)=true then _ else _) _ _ _;rw[if_neg (show ¬ ((Value.builtin "range.__reversed__" == Value.none)=true) from Γk)])
 refine Γa (wpAny_rule ?_)
 refine Γa (m:=runValue (.call (.builtin "range.__reversed__") ⟨[.ref r],[]⟩)) (show wpAny _ _ (call (.builtin "range.__reversed__") [.ref r]) _ _ _ from a7q hr h1 h2 ?_)
 first
 | exact Γb h
 | exact Γa (Γb (Γb h))
theorem a7p {r:Addr}{b:Int}{t u v:Tok}{Q:Value->Shared->Prop}(hr:IsRange s.heap r 0 b 1 t u v)(h1:-(2 ^ 62)<=b)(h2:b<2 ^ 62)
  (h:Q (.ref s.heap.objs.size) { s with heap:=s.heap.push (a6b ((b.toNat:Int)-1) b.toNat) }):wpAny (model prog w) A (call (.type "reversed") [.ref r]) Q E s:=by
 refine callType_other (U:="range_iterator") (Q₁:=λobj s₁=>obj=.ref s.heap.objs.size/\s₁ = { s with heap:=s.heap.push (a6b ((b.toNat:Int)-1) b.toNat) }) (by nofun) F.create_reversed ⟨_,_,F.mro_reversed⟩ F.made_reversed F.sub_rit_reversed (F.typeCall_reversed_1 _) (a7n hr h1 h2 ⟨rfl,rfl⟩) ?_
 rintro obj s₁ ⟨rfl,rfl⟩
 exact⟨⟨_,Γm _ rfl,rfl⟩,h⟩
end
end PySem
end
section
namespace Kq
open PySem PySem.Spec PyProof.Rows L2
section
variable {X:Cx}{tg:Expr}
theorem c7o {a:Expr}{ta:TA}{p p2 pos pos2:Pos}(hg:Gl X "range")(hm:X.mg "range" = none)(hg2:Gl X "reversed")(hm2:X.mg "reversed" = none)(ha:PA X [a] ta)(hs:starEach [a] X.env=[(false,eval a X.env)]) :
  PI X tg (.Call (.Name "reversed" p) [.Call (.Name "range" p2) [a] [] pos2] [] pos) (λσ H R=>ta σ H λvs H1=>∃ j:Int,vs=[.int j]/\-(2 ^ 62)<=j/\j<2 ^ 62/\R (Itd ((j.toNat:Int)-1) j.toNat) H1):=by
 intro pins s σ H R I h
 refine Call_ (a3n I hg2 hm2 (by nofun) (PyProof.Rows.callWith_type1 (T:="reversed") ?_ rfl rfl))
 show wpAny _ _ (spliced ((false,eval (.Call (.Name "range" p2) [a] [] pos2) X.env) :: backTo pos [])) _ _ s
 refine Calls.spliced_cons (Call_ (a3n I hg hm boot_range (PyProof.Rows.callWith_type1 (thn (ha pos2 pins s σ H _ I h) λus s1 ⟨vs,H1,I1,r1,q1⟩=>?_) hs rfl)))
 obtain⟨j,e,q1,q2,q⟩:=q1
 subst e
 cases r1 with
 | cons r rr =>
  cases rr
  obtain⟨t,rfl⟩:=r
  refine call_range_1 (Calls.spliced_nil (a7p (IsRange.new ..) q1 q2 ?_))
  let h0:Heap:=s1.heap.push { cls:=.type "range",data:=.fields #[.int 0 s1.toks,.int j t,.int 1 (s1.toks+1)] }
  have I2:Inv X pins σ H1 { s1 with heap:=h0,toks:=s1.toks+1+1 }:=I1.kept λb o e=>Γc _ e
  have st:IsRangeIter (h0.push (a6b ((j.toNat:Int)-1) j.toNat)) h0.objs.size ((j.toNat:Int)-1) j.toNat (-1):=Γm _ rfl
  refine wpAny_pyIter_rangeiter st ?_
  refine⟨h0.objs.size,[h0.objs.size],_,_,H1,rfl,I2.kept (t':=s1.toks+1+1) λb o e=>Γc _ e,b7k _ ((j.toNat:Int)-1) j.toNat,?_,λb hb=>?_,q⟩
  ·have e1:((j.toNat:Int)-1)+((0:Nat):Int)*(-1)=(j.toNat:Int)-1:=by simp
   have e2:((j.toNat:Nat):Int)-((0:Nat):Int)=j.toNat:=by simp
   rw[e1,e2]
   exact st
  ·have e:b=h0.objs.size:=by simpa using hb
   subst e
   exact I2.fpOk (Γi _) (I2.hok.fresh (Γi _))
end
noncomputable def c3o (a:EW):AW:=λL Q=>a L λx L1=>wp (a3o x) λj=>a1i j=true/\Q (a6w ((j.toNat:Int)-1) j.toNat) L1
@[scoped simp ↓] theorem d5m (a:EW)(L:a0c)(Q:List FV->a0c->Prop):c3o a L Q=(a L λx L1=>wp (a3o x) λj=>a1i j=true/\Q (a6w ((j.toNat:Int)-1) j.toNat) L1):=propext Iff.rfl
theorem e0h {X:Cx}{C:CC}{n:Nat}{sp:Γd->Nat->Sp}{a tg:Expr}{ea:EW}{p p2 pos pos2:Pos}(G:Good X C n sp)(hg:(C.gl (Γe "range") && C.gl (Γe "reversed"))=true)(hs:a0n a=false)(ha:FE X C a ea):FI X C C.md tg (.Call (.Name (Γe "reversed") p) [.Call (.Name (Γe "range") p2) [a] [] pos2] [] pos) (c3o ea) :=
 PI.imp (c7o (G.gl (b2 hg).1) (G.blt "range" (by decide)) (G.gl (b2 hg).2) (G.blt "reversed" (by decide)) (a0x ha a2m (a0d hs)) (a0d hs)) λσ H R ⟨c,L,S,Q0,I,h,k⟩ =>
 ⟨c,L,S,_,I,h,λv L1 hv x S1 H1 r1 I1 s1=>by
  obtain⟨j,e,hb,q⟩:=wpx hv
  cases a0t e
  have h1:=de hb
  exact⟨j,by rw[show x=.int j from r1],h1.1,h1.2,k _ L1 q _ c S1 H1 I1 (λ_ _ _ _ I=>I) rfl c8q s1⟩⟩
theorem a9o:∀ n:Nat,a6w ((n:Int)-1) n=(List.range n).reverse.map λi:Nat=>FV.int i
 | 0=>rfl
 | n+1=>by
  have:=a9o n
  rw[List.range_succ,List.reverse_append,List.map_append,<- this]
  simp[a6w]
noncomputable def c4p (P:Program)(w:World)(A:Around)(I:Nat->Value->Prop)(bt:Nat->Nat->Bool)(h0:Heap) (N:Nat):Prop :=
 ∀ i j u v (s:Shared)(Q:Value->Shared->Prop)(E:Value->Shared->Prop),L2.Kept h0 s.heap N->I i u->I j v->Q (.bool (bt i j)) s->wpAny (model P w) A (richCompare .Gt u v) Q E s
section
variable {P:Program}{w:World}{A:Around}{R:Result->Shared->Prop}{it S N:Addr}{fp wr:List Addr}{n:Nat}{V:Nat->Value->Prop}{St:Nat->Heap->Prop}{bt:Nat->Nat->Bool}{h0:Heap}{kw:List (Str×Value)}
theorem b8y (W:Walks P w A.in1 it fp wr n V St)(C:c4p P w A.in1 V bt h0 N)(sf:S ∉ fp)(nw:∀ b∈wr,N<=b)(nS:N<=S) :
  ∀ (k j:Nat)(s:Shared)(best:Value) (c:Nat),n-(j+1)=k->j+1<=n->St (j+1) s.heap->V (argBest bt j) best->L2.Kept h0 s.heap N->s.heap.get? S=some { cls:=.type "list",dict:=none,data:=.seq #[best,best] c,slots:=#[] } ->
  (∀ v h' tk,V (argBest bt (n-1)) v->(∀ b o,b ∉ wr->b≠S->s.heap.get? b=some o->h'.get? b=some o)->R (.ok (.ret v)) { s with heap:=h',toks:=tk })->codeAny (model P w) A (.builtin "max.loop" ⟨[.ref it,.none,.ref S],kw⟩) R s:=by
 have sw:S ∉ wr:=λh=>sf (W.sub _ h)
 have nm:(toString "max"++toString ".loop":String) = "max.loop":=by decide
 have low:∀ {b:Addr},b<N->b ∉ wr/\b≠S:=λ{b} hb=>⟨λz=>absurd (nw b z) (Nat.not_le.mpr hb),λz=>absurd nS (by rw[<- z];exact Nat.not_le.mpr hb)⟩
 intro k
 induction k with
 | zero =>
  intro j s best c hk hj hst hV kp hS hR
  have en:j+1=n:=by lia
  refine codeAny_builtin F.entry_max_loop ?_;rw[PySem.Around.under_plainId F.plain_max_loop _]
  show wpAny _ A.in1 (seqItems? (.ref S) >>= _) _ _ s;refine Γa (wpAny_seqItems hS rfl ?_)
  show wpAny _ A.in1 (tryCatch (pyNext (.ref it)) _ >>= _) _ _ s;refine Γa (wpAny_tryCatch (W.done s _ _ (en ▸ hst) λg tk kk=>?_))
  have S1:=kk S _ sw hS
  show wpAny _ A.in1 (updateSeq S (λ_=>#[]) >>= _) _ _ _;refine Γa (wpAny_updateSeq S1 rfl (Γa (wpAny_letGo (Γb ?_))))
  exact hR best _ tk (by rw[<- en];exact hV) λb o c1 c2 e=>(Γf _ _ (Ne.symm c2)).trans (kk b o c1 e)
 | succ k ih =>
  intro j s best c hk hj hst hV kp hS hR
  have lt:j+1<n:=by lia
  refine codeAny_builtin F.entry_max_loop ?_;rw[PySem.Around.under_plainId F.plain_max_loop _]
  show wpAny _ A.in1 (seqItems? (.ref S) >>= _) _ _ s;refine Γa (wpAny_seqItems hS rfl ?_)
  show wpAny _ A.in1 (tryCatch (pyNext (.ref it)) _ >>= _) _ _ s;refine Γa (wpAny_tryCatch (W.item (j+1) s _ _ lt hst λv g tk vP st1 kk=>?_))
  have S1:=kk S _ sw hS
  have kp1:L2.Kept h0 g N:=λb o hb e=>kk b o (low hb).1 (kp b o hb e)
  show wpAny _ A.in1 (tryCatch (holding [v,v] (richCompare .Gt v best >>= _)) _ >>= _) _ _ _
  refine Γa (wpAny_tryCatch (Γg (Γa (C (j+1) (argBest bt j) v best _ _ _ kp1 vP hV (Γa (Γg (wpAny_truthy_bool (Γa (wpAny_letGo (Γb ?_))))))))))
  cases hb:bt (j+1) (argBest bt j) with
  | true =>
   simp only[if_true];refine Γa (wpAny_updateSeq S1 rfl (Γa (wpAny_letGo ?_)));rw[nm]
   refine Γb ⟨plainId_quiet F.plain_max_loop _,ih (j+1) _ v _ (by lia) lt (W.frame _ _ _ st1 λb bf o e=>(Γf _ _ (λh:S=b=>sf (by rw[h];exact bf))).trans e) (by simp only[argBest,hb,if_true];exact vP)
    (λb o l e=>(Γf _ _ (Ne.symm (low l).2)).trans (kp1 b o l e)) (Heap.get?_update_self _ S1 rfl) λv' g' tk' p' k'=>?_⟩
   exact hR v' g' tk' p' λb o c1 c2 e=>k' b o c1 c2 ((Γf _ _ (Ne.symm c2)).trans (kk b o c1 e))
  | false =>
   simp only[Γp,if_false];refine Γa (wpAny_letGo ?_);rw[nm]
   refine Γb ⟨plainId_quiet F.plain_max_loop _,ih (j+1) _ best c (by lia) lt st1 (by simp only[argBest,hb,Γp,if_false];exact hV) kp1 S1 λv' g' tk' p' k'=>?_⟩
   exact hR v' g' tk' p' λb o c1 c2 e=>k' b o c1 c2 (kk b o c1 e)
theorem a7v (W:Walks P w A.in1 it fp wr n V St)(C:c4p P w A.in1 V bt h0 N)(sf:S ∉ fp)(nw:∀ b∈wr,N<=b)(nS:N<=S)(hn:0<n){s:Shared}{c:Nat}(hst:St 0 s.heap)(kp:L2.Kept h0 s.heap N)
  (hS:s.heap.get? S=some { cls:=.type "list",dict:=none,data:=.seq #[] c,slots:=#[] })
  (hR:∀ v h' tk,V (argBest bt (n-1)) v->(∀ b o,b ∉ wr->b≠S->s.heap.get? b=some o->h'.get? b=some o)->R (.ok (.ret v)) { s with heap:=h',toks:=tk }):codeAny (model P w) A (.builtin "max.loop" ⟨[.ref it,.none,.ref S],kw⟩) R s:=by
 have sw:S ∉ wr:=λh=>sf (W.sub _ h)
 have nm:(toString "max"++toString ".loop":String) = "max.loop":=by decide
 have low:∀ {b:Addr},b<N->b ∉ wr/\b≠S:=λ{b} hb=>⟨λz=>absurd (nw b z) (Nat.not_le.mpr hb),λz=>absurd nS (by rw[<- z];exact Nat.not_le.mpr hb)⟩
 refine codeAny_builtin F.entry_max_loop ?_;rw[PySem.Around.under_plainId F.plain_max_loop _]
 show wpAny _ A.in1 (seqItems? (.ref S) >>= _) _ _ s;refine Γa (wpAny_seqItems hS rfl ?_)
 show wpAny _ A.in1 (tryCatch (pyNext (.ref it)) _ >>= _) _ _ s;refine Γa (wpAny_tryCatch (W.item 0 s _ _ hn hst λv g tk vP st1 kk=>?_))
 have S1:=kk S _ sw hS
 show wpAny _ A.in1 (updateSeq S (λ_=>#[v,v]) >>= _) _ _ _;refine Γa (wpAny_updateSeq S1 rfl ?_);rw[nm]
 refine Γb ⟨plainId_quiet F.plain_max_loop _,b8y W C sf nw nS _ 0 _ v _ rfl hn (W.frame _ _ _ st1 λb bf o e=>(Γf _ _ (λh:S=b=>sf (by rw[h];exact bf))).trans e) vP
  (λb o l e=>(Γf _ _ (Ne.symm (low l).2)).trans (kk b o (low l).1 (kp b o l e))) (Heap.get?_update_self _ S1 rfl) λv' g' tk' p' k'=>?_⟩
 exact hR v' g' tk' p' λb o c1 c2 e=>k' b o c1 c2 ((Γf _ _ (Ne.symm c2)).trans (kk b o c1 e))
end
section
variable {P:Program}{w:World}{A:Around}{E:Value->Shared->Prop}{s:Shared}
end
section
variable {P:Program}{w:World}{A:Around}{E:Value->Shared->Prop}{s:Shared}
end
noncomputable def a1m (b:Int):List Int->Int
 | []=>b
 | x :: r=>a1m (if b<x then x else b) r
noncomputable def mostD (d:Int):List Int->Int
 | []=>d
 | n :: r=>a1m n r
theorem b0r:∀ (xs:List Int) (b x:Int),a1m b (xs++[x])=if a1m b xs<x then x else a1m b xs
 | [],b,x=>rfl
 | y :: ys,b,x=>by
  show a1m (if b<y then y else b) (ys++[x])=_
  rw[b0r ys];rfl
theorem a8z (n:Int)(r:List Int):∀ k,k<=r.length->(n :: r)[argBest (λi j=>decide ((n :: r).getD j 0<(n :: r).getD i 0)) k]?=some (a1m n (r.take k))
 | 0,_=>by simp[argBest,a1m]
 | k+1,h=>by
  have ih:=a8z n r k (by lia)
  have hk:k<r.length:=h
  have e1:(n :: r).getD (argBest (λi j=>decide ((n :: r).getD j 0<(n :: r).getD i 0)) k) 0=a1m n (r.take k):=by rw[List.getD_eq_getElem?_getD,ih];rfl
  have e2:(n :: r).getD (k+1) 0=r[k]:=by simp[List.getD,hk]
  rw[List.take_succ_eq_append_getElem hk,b0r]
  simp only[argBest,e1,e2,decide_eq_true_eq]
  split
  ·simp[hk]
  ·exact ih
section
variable {X:Cx}
variable {x:Str}{p pos kp:Pos}{e v:Expr}{t:TA}{tv:TE}{id:String}{kn:Str}{r:V->V->Hp->VK->Prop}
end
section
variable {X:Cx}{C:CC}{n:Nat}{sp:Γd->Nat->Sp}{a b:Expr}{ea eb:EW}{pos p kp:Pos}
end
section
variable (Q:FV->Prop)
end
section
variable {P:Program}{w:World}{A:Around}{E:Value->Shared->Prop}
end
section
variable {X:Cx}{pos:Pos}
end
noncomputable def sUnp (e:EW)(is:List Nat):SW:=λL Q=>e L λx L1=>wp (a7x x) λxs=>wp (a7e L1 is xs) λL2=>Q .next L2
section
variable {X:Cx}{C:CC}{n:Nat}{sp:Γd->Nat->Sp}{fr:Bool}{a:Expr}{e:EW}{pos p:Pos}{is:List Nat}{k:Nat}
end
theorem b4n {α:Type}(xs:List α):∀ k:Nat,(Γj k xs).flatten.length=k*xs.length
 | 0=>by simp
 | k+1=>by rw[List.replicate_succ,List.flatten_cons,List.length_append,b4n xs k,Nat.add_mul,Nat.one_mul,Nat.add_comm]
theorem a5i:fillsNumberSlot (.type "tuple") "mul" = pure false :=
 PySem.fillsNumberSlot_seq (id:="tuple.__mul__") (r:=some (.builtin "tuple.__rmul__")) F.slot_tuple_mul.lookup (by nofun) F.slot_tuple_rmul.lookup (by nofun)
theorem b0f:seqRepeat? (.type "tuple")=pure (some (.builtin "tuple.__mul__")):=by
 unfold seqRepeat?
 rw[PySem.seqSlot_of (T:="tuple") (name:="__mul__") (id:="tuple.__mul__") F.slot_tuple_mul.lookup (by nofun),PySem.seqSlot_of (T:="tuple") (name:="__rmul__") (id:="tuple.__rmul__") F.slot_tuple_rmul.lookup (by nofun)]
 rfl
section
variable {prog:Program}{w:World}{A:Around}{E:Value->Shared->Prop}{s:Shared}
theorem c8e {t:Addr}{its:List Value}{k:Int}{u:Tok}{Q:Value->Shared->Prop}(ht:IsTup s.heap t its.toArray)(h1:-(2 ^ 63)<=k)(h2:k<2 ^ 63)(hz:its.length*k.toNat<=sizeLine)
  (hs:(its=[] ∨ k=1)->Q (.ref t) s)
  (hn:¬ (its=[] ∨ k=1)->Q (.ref s.heap.objs.size) { s with heap:=s.heap.push { cls:=.type "tuple",data:=.seq (Γj k.toNat its).flatten.toArray } }):wpAny (model prog w) A (binaryOp .Mult (.ref t) (.int k u)) Q E s:=by
 refine wpAny_binaryOp_repeat_ref (T:="tuple") (U:="int") (by decide) ht.typeIs (λs'=>typeIs_int s' k u) a5i F.fills_int_mul F.slot_int_rmul b0f F.slot_int_index.lookup ?_
 refine wpAny_call_entry F.slot_int_rmul (typeIs_int s k u) F.entry_int_rmul ?_ (F.args_int_rmul_2 _ _)
 have h3:wpAny (model prog w) A.in1 (Builtin.«int.__rmul__» ⟨[.int k u,.ref t],[]⟩) (λfin s'=>fin=.done (.ret .notImplemented)/\s'=s) E s:=by
  obtain⟨o,ho,hcl,n,hd⟩:=ht
  show wpAny _ A.in1 (asInt? (.ref t) >>= _) _ _ s
  unfold asInt?
  show wpAny _ A.in1 ((load t >>= _) >>= _) _ _ s
  refine Γa (Γa (wpAny_load ho ?_))
  rw[hd]
  exact Γb (Γa (wpAny_rule (Γb ⟨rfl,rfl⟩)))
 refine wpAny_mono h3 ?_ λ_ _ e=>e
 rintro _ _ ⟨rfl,rfl⟩
 refine⟨_,rfl,rfl,ht.typeIs,?_⟩
 refine wpAny_call_entry F.slot_tuple_mul ht.typeIs F.entry_tuple_mul ?_ (F.args_tuple_mul_2 _ _)
 show wpAny _ A.in1 (asIndex (.int k u) >>= _) _ _ _
 refine Γa (wpAny_of_eq (a:=k) rfl ?_)
 rw[if_neg (by simp;lia)]
 refine Γa (tupleItemsOf_ ht ?_)
 by_cases h0:its=[] ∨ k=1
 ·have e:(its.toArray.isEmpty || k == 1)=true:=by
   rcases h0 with h0|h0
   ·subst h0;rfl
   ·subst h0;simp
  rw[e]
  simp only[if_true]
  refine Γa (m:=Builtin.Tuple.tupleIsExact (.ref t)) ?_
  unfold Builtin.Tuple.tupleIsExact
  refine Γa (wpAny_typeOf ht.typeIs (Γb ?_))
  rw[if_pos (by decide)]
  exact Γa (wpAny_rule (Γb ⟨_,rfl,hs h0⟩))
 ·have hi:its≠[]:=λz=>h0 (.inl z)
  have hk:k≠1:=λz=>h0 (.inr z)
  have e:(its.toArray.isEmpty || k == 1)=false:=by simp[hi,hk]
  have e0:its.toArray.isEmpty=false:=by simp[hi]
  rw[e]
  simp only[Γp,if_false,e0,Bool.or_false]
  by_cases hp:k<=0
  ·rw[if_pos (by simpa using hp)]
   have hr:=hn h0
   rw[show k.toNat=0 by lia] at hr
   exact Γa (wpAny_newObj_type (Γb ⟨_,rfl,hr⟩))
  ·rw[if_neg (by simpa using hp)]
   have hk:((its.toArray.size:Int)*k)=((its.length*k.toNat:Nat):Int):=by
    rw[List.size_toArray,Int.natCast_mul];congr 1;lia
   have hl:(sizeLine:Nat)<=(2 ^ 63-1) / 8:=by decide
   rw[hk,if_neg (by lia)]
   have h4:Builtin.Tuple.tupleTooMany ((its.length*k.toNat:Nat):Int)=false:=by
    unfold Builtin.Tuple.tupleTooMany
    generalize its.length*k.toNat=m at hz
    exact decide_eq_false (by lia)
   rw[h4]
   simp only[Γp,if_false]
   have hr:=hn h0
   have f0:List.foldl (λx1 x2=>x1++x2) #[] (Γj k.toNat its.toArray)=(Γj k.toNat its).flatten.toArray:=by
    have:=a6t its k.toNat []
    rw[List.nil_append] at this
    exact this
   rw[f0]
   refine Γa (wpAny_newObj_type (Γb ⟨_,rfl,hr⟩) ?_)
   show ((Γj k.toNat its).flatten.toArray).size<=sizeLine
   rw[List.size_toArray,b4n,Nat.mul_comm];exact hz
end
section
variable {X:Cx}{S H:Hp}{Q:VK}
theorem c7z {pins:List (Addr×Obj)}{σ:L2.St}{s:Shared}{u1 u2:Value}{a:Addr}{as:List V}{k:Int}(I:Inv X pins σ H s)(rx:RelV (.ref a) u1)(ry:RelV (.int k) u2)(ha:SqT X.K H a as)(h1:-(2 ^ 63)<=k)(h2:k<2 ^ 63)(hz:as.length*k.toNat<=sizeLine)
  (q1:(as=[] ∨ k=1)->Q (.ref a) H)(q2:∀ p,H p=none->Q (.ref p) (upd H p (.tup (Γj k.toNat as).flatten))):wpAny (model X.prog X.w) X.A (binaryOp .Mult u1 u2) (EP X pins σ Q) X.xe s:=by
 cases rx
 obtain⟨t,rfl⟩:=ry
 obtain⟨its,r1,p1,_⟩:=I.tuple ha
 refine c8e p1 h1 h2 (by rw[<- r1.length];exact hz) (λz=>⟨.ref a,H,I,rfl,q1 (z.imp_left λz=>r1.nil_iff.mp z)⟩) λz=>?_
 refine⟨.ref s.heap.objs.size,_,I.laid (t':=s.toks) (o:=.tup (Γj k.toNat as).flatten) (λb ob q=>Γc _ q) (Γi _) ?_,rfl,q2 _ (I.hok.fresh (Γi _))⟩
 exact⟨by rw[b9i,Nat.mul_comm];exact hz,_,r1.rep _,IsTup.new _ _⟩
noncomputable def b5k (v w:FV):Option FV:=(a7d v).bind λxs=>(a3o w).bind λk=>if -(2 ^ 63)<=k/\k<2 ^ 63/\xs.length*k.toNat<=big then some (.tup (Γj k.toNat xs).flatten) else none
theorem d1l:OpR X (binaryOp .Mult) (Rq X.K b5k):=by
 intro pins s σ H x y u1 u2 Q I rx ry ⟨S,v,w,z,hs,hv,hw,e,k⟩
 obtain⟨xs,e1,e⟩:=bnd e
 obtain⟨j,e2,e⟩:=bnd e
 cases a1s e1
 cases a0t e2
 obtain⟨hc,rfl⟩:=itd e
 have rv:=hv.val rfl
 obtain⟨a,as,rfl,ha,ra⟩:=hv.tup hs
 obtain rfl:=hw.int
 have l1:=ra.length
 have hl:=a1q
 refine c7z I rx ry (SqT.of ha) hc.1 hc.2.1 (by rw[<- l1];lia) (λz=>k.old _ (λ_ z=>nomatch z) ?_) λp hp=>k.tup _ _ p rfl (ra.rep _) hp
 rcases z with z|z
 ·subst z
  have z2:xs=[]:=List.eq_nil_of_length_eq_zero (by simpa using l1)
  subst z2
  simpa using rv
 ·subst z;simpa using rv
end
section
variable {X:Cx}{C:CC}{a b:Expr}{ea eb:EW}{pos:Pos}
theorem e0m (ha:FE X C a ea)(hb:FR X C b eb):FE X C (.BinOp a .Mult b pos) (eOp b5k ea eb):=b2y d1l ha hb
@[scoped simp ↓] theorem b_tmul (xs:List FV) (k:Int)(Q:FV->Prop):wp (b5k (.tup xs) (.int k)) Q↔(-(2 ^ 63)<=k/\k<2 ^ 63/\xs.length*k.toNat<=big)/\Q (.tup (Γj k.toNat xs).flatten):=by
 show wp (if _ then some _ else none) Q↔_;exact a3f _ _ _
end
end Kq
end
section
namespace PySem
section
variable {prog:Program}{w:World}{A:Around}{E:Value->Shared->Prop}{s:Shared}
end
end PySem
end
section
namespace Kq
open PySem PySem.Spec PyProof.Rows L2
section
variable {X:Cx}
variable {a b:Expr}{ta:TA}{p p2 pos pos2:Pos}{T:Str}{Tn:String}{ho:List V->HO}
end
noncomputable def rngF (c:List FV->FV)(v:FV):Option FV:=(a3o v).bind λj=>if a1i j=true/\j.toNat<=big then some (c (upF 0 j.toNat)) else none
noncomputable def rng2F (c:List FV->FV)(v w:FV):Option FV:=(a3o v).bind λi=>(a3o w).bind λj=>if (a1i i && a1i j)=true/\(j-i).toNat<=big then some (c (upF i (j-i).toNat)) else none
section
variable {X:Cx}{C:CC}{n:Nat}{sp:Γd->Nat->Sp}{a b:Expr}{ea eb:EW}{pos p p2 pos2:Pos}
end
end Kq
end
section
namespace PySem
noncomputable def e4k (A:Around)(s:Shared)(x y:Value)(b:Bool):Prop :=
 ∀ (prog:Program)(w:World)(E:Value->Shared->Prop)(Q:Value->Shared->Prop),Q (.bool b) s->wpAny (model prog w) A (richCompare .Lt x y) Q E s
inductive LexAt (A:Around)(s:Shared):List Value->List Value->Bool->Prop
 | nn:LexAt A s [] [] false
 | nc {y ys}:LexAt A s [] (y :: ys) true
 | cn {x xs}:LexAt A s (x :: xs) [] false
 | eq {x y xs ys r}:SeqAt.EqAt A s x y true->LexAt A s xs ys r->LexAt A s (x :: xs) (y :: ys) r
 | ne {x y xs ys r}:SeqAt.EqAt A s x y false->e4k A s x y r->LexAt A s (x :: xs) (y :: ys) r
section
open PySem.SeqAt
open PySem.AutoSeq1 (wpAny_loadPart')
open PySem.MeetsSeq PySem.MeetsSeq2 PySem.MeetsSeq3
theorem b0a (l b:Addr)(items items2:Array Value) (n n2:Nat)(dd dd2:Option Addr)(sl sl2:Array (Option Value)) :
  Meets (Builtin.«tuple.__lt__» ⟨[.ref l,.ref b],[]⟩)
   (λA R s=>s.heap.get? l=some { cls:=.type "tuple",dict:=dd,data:=.seq items n,slots:=sl }/\s.heap.get? b=some { cls:=.type "tuple",dict:=dd2,data:=.seq items2 n2,slots:=sl2 } /\
    ∃ r,LexAt A.in1 s items.toList items2.toList r/\R (.ok (.ret (.bool r))) s) :=
 .of_wp λprog w A R s h=>by
  obtain⟨hp,g,d,tk,os⟩:=s;obtain⟨hl,hb,r,hlex,h⟩:=h
  have f2:=AutoSeq1.sub_tuple_tuple
  wp_walk using wpAny_loadPart' hl,wpAny_loadPart' hb,wpAny_forIn_list _ (λrest b s'=>b.1=none/\s'=⟨hp,g,d,tk,os⟩/\∃ (vs ws:List Value),rest=vs.zip ws /\
   LexAt A.in1 ⟨hp,g,d,tk,os⟩ vs ws r/\vs.length+items2.size=ws.length+items.size) _
  case turn =>
   rintro⟨y,x⟩ rest b s' ⟨hb',rfl,vs,ws,hz,hlx,hlen⟩
   cases hlx with
   | nn=>cases hz
   | nc=>cases hz
   | cn=>rw[List.zip_nil_right] at hz;cases hz
   | eq he hr =>
    rw[List.zip_cons_cons] at hz
    injection hz with hyx hrest
    injection hyx with hy hx
    subst hy hx
    simp only[List.length_cons] at hlen
    refine Γa (he prog w _ _ ?_)
    wp_walk
    exact⟨rfl,rfl,_,_,hrest,hr,by lia⟩
   | ne he hr =>
    rw[List.zip_cons_cons] at hz
    injection hz with hyx hrest
    injection hyx with hy hx
    subst hy hx
    refine Γa (he prog w _ _ ?_)
    have hri:=hr prog w
    wp_walk using hri
    exact⟨_,rfl,by simpa using h⟩
  case fin =>
   rintro⟨b1,b2⟩ s' ⟨hb',rfl,vs,ws,hz,hlx,hlen⟩
   simp only at hb'
   subst hb'
   have hv:r=decide (items.size<items2.size):=by
    cases hlx with
    | nn=>simp only[List.length_nil] at hlen;exact (decide_eq_false (by lia)).symm
    | nc=>simp only[List.length_nil,List.length_cons] at hlen;exact (decide_eq_true (by lia)).symm
    | cn=>simp only[List.length_nil,List.length_cons] at hlen;exact (decide_eq_false (by lia)).symm
    | eq=>rw[List.zip_cons_cons] at hz;cases hz
    | ne=>rw[List.zip_cons_cons] at hz;cases hz
   rw[hv] at h
   wp_walk
   exact⟨_,rfl,by simpa[Builtin.Tuple.tupleCompareSizes] using h⟩
  case h =>
   exact⟨rfl,rfl,items.toList,items2.toList,rfl,hlex,by simp;lia⟩
end
theorem c3i {A:Around}{s:Shared}{l b:Addr}{o o2:Obj}{items items2:Array Value}{n n2:Nat}{r:Bool}(h1:s.heap.get? l=some o)(h2:o.cls=.type "tuple")(h3:o.data=.seq items n)(g1:s.heap.get? b=some o2)(g2:o2.cls=.type "tuple")(g3:o2.data=.seq items2 n2)
  (hlex:LexAt A.in1 s items.toList items2.toList r)(hu:A.units<cLine):e4k A s (.ref l) (.ref b) r:=by
 intro prog w E Q h
 obtain⟨cls,dd,data,sl⟩:=o
 obtain⟨cls2,dd2,data2,sl2⟩:=o2
 simp only at h2 h3 g2 g3
 subst h2 h3 g2 g3
 exact richCompare_meets_room (op:=.Lt) ⟨_,h1,rfl⟩ ⟨_,g1,rfl⟩ PySem.F.slot_tuple_lt PySem.F.entry_tuple_lt (PySem.F.args_tuple_lt_2 _ _) (b0a l b items items2 n n2 dd dd2 sl sl2)
  ⟨h1,g1,r,hlex,show Value.bool r≠Value.notImplemented/\Q (.bool r) s from ⟨(λx=>nomatch x),h⟩⟩ hu
end PySem
namespace Kq
open PySem PySem.Spec PyProof.Rows L2
noncomputable def d7j (a b:String):Bool:=decide ((Γe a).cps.toList<(Γe b).cps.toList)
mutual
noncomputable def ltD:D->D->Option Bool
 | .int a,.int b=>some (decide (a<b))
 | .str a,.str b=>some (d7j a b)
 | .tup a,.tup b=>c1w a b
 | _,_=>none
noncomputable def c1w:List D->List D->Option Bool
 | [],[]=>some false
 | [],_ :: _=>some true
 | _ :: _,[]=>some false
 | a :: r,b :: q=>if D.eqv a b=true then c1w r q else ltD a b
end
mutual
theorem c5l:∀ (x y:D)(A:Around)(s:Shared)(v u:Value)(as bs:List Addr)(r:Bool),Reads s.heap v (dPy x) as->Reads s.heap u (dPy y) bs->ltD x y=some r->A.units+(dPy x).depth<cLine->e4k A s v u r
 | .int a,y,A,s,v,u,as,bs,r,h1,h2,e,hu=>by
  cases y with
  | int b =>
   cases e
   simp only[dPy] at h1 h2
   cases h1;cases h2
   exact λprog w E Q h=>PyProof.Rows.lt_int h
  | _=>cases e
 | .str a,y,A,s,v,u,as,bs,r,h1,h2,e,hu=>by
  cases y with
  | str b =>
   cases e
   simp only[dPy] at h1 h2
   cases h1;cases h2
   exact λprog w E Q h=>PySem.P.lt_str h
  | _=>cases e
 | .tup xs,y,A,s,v,u,as,bs,r,h1,h2,e,hu=>by
  cases y with
  | tup ys =>
   simp only[dPy] at h1 h2
   simp only[dPy,PyData.depth] at hu
   cases h1 with
   | tuple a1 a2 a3 a4 =>
    cases h2 with
    | tuple b1 b2 b3 b4 =>
     exact c3i a1 a2 a3 b1 b2 b3 (b9h xs ys A.in1 s _ _ _ _ r a4 b4 e (by show A.units+1+_<_;lia)) (by lia)
  | _=>cases e
 | .non,y,A,s,v,u,as,bs,r,h1,h2,e,hu=>by cases y<;>cases e
 | .bl _,y,A,s,v,u,as,bs,r,h1,h2,e,hu=>by cases y<;>cases e
 | .lst _,y,A,s,v,u,as,bs,r,h1,h2,e,hu=>by cases y<;>cases e
theorem b9h:∀ (xs ys:List D)(A:Around)(s:Shared)(vs us:List Value)(as bs:List Addr)(r:Bool),ReadsAll s.heap vs (a3a xs) as->ReadsAll s.heap us (a3a ys) bs->c1w xs ys=some r->A.units+PyData.depthAll (a3a xs)<cLine->LexAt A s vs us r
 | [],[],A,s,vs,us,as,bs,r,h1,h2,e,hu=>by cases h1;cases h2;cases e;exact .nn
 | [],y :: ys,A,s,vs,us,as,bs,r,h1,h2,e,hu=>by cases h1;cases h2;cases e;exact .nc
 | x :: xs,[],A,s,vs,us,as,bs,r,h1,h2,e,hu=>by cases h1;cases h2;cases e;exact .cn
 | x :: xs,y :: ys,A,s,vs,us,as,bs,r,h1,h2,e,hu=>by
  simp only[a3a] at h1 h2
  simp only[a3a,PyData.depthAll] at hu
  cases h1 with
  | cons a1 a2 =>
   cases h2 with
   | cons b1 b2 =>
    have he:=PySem.SeqAt.eqAt_reads _ _ A s _ _ _ _ a1 b1 (a5k x) (a5k y) (by lia)
    rw[b6i] at he
    simp only[c1w] at e
    split at e
    ·rename_i hq
     rw[hq] at he
     exact .eq he (b9h xs ys A s _ _ _ _ r a2 b2 e (by lia))
    ·rename_i hq
     have hq:D.eqv x y=false:=by simpa using hq
     rw[hq] at he
     exact .ne he (c5l x y A s _ _ _ _ r a1 b1 e (by lia))
end
end Kq
end
section
namespace Kq
open PySem PySem.Spec PyProof.Rows L2
theorem b4h {α β:Type}{f:α->Option β}:∀ {xs:List α}{ys:List β},a6h f xs=some ys->∀ (i:Nat)(x:α),xs[i]?=some x->∃ y,ys[i]?=some y/\f x=some y
 | [],ys,h,i,x,e=>by simp at e
 | a :: r,ys,h,i,x,e=>by
  simp only[a6h] at h
  obtain⟨b,h1,h2⟩:=bnd h
  obtain⟨q,h3,rfl⟩:=mpd h2
  cases i with
  | zero=>simp at e;subst e;exact⟨b,rfl,h1⟩
  | succ i=>exact b4h h3 i x (by simpa using e)
noncomputable def btD (ds:List D) (i j:Nat):Bool:=(ltD (ds.getD i .non) (ds.getD j .non)).getD false
open Classical in
noncomputable def b2k (v:FV):Option FV:=(a2c v).bind λxs=>(a6h (fD a0j) xs).bind λds =>
 if 0<ds.length/\(∀ x∈ds,∀ y∈ds,(ltD x y).isSome=true)/\∀ ps,xs[argBest (btD ds) (ds.length-1)]?≠some (.lst ps) then xs[argBest (btD ds) (ds.length-1)]? else none
section
variable {X:Cx}
theorem d4q (hc:X.calm=true)(hu:X.A.units+64<cLine):a1r X (.builtin "min") (Rc X.K b2k):=by
 rintro pins s σ H xs us Q I r ⟨S,v,x,z,rfl,hs,rv,e,k⟩
 obtain⟨qs,e1,e2⟩:=bnd e
 obtain⟨ds,e3,e4⟩:=bnd e2
 obtain⟨⟨hpos,hall,hnl⟩,e5⟩:(0<ds.length/\(∀ x∈ds,∀ y∈ds,(ltD x y).isSome=true)/\∀ ps,qs[argBest (btD ds) (ds.length-1)]?≠some (.lst ps))/\qs[argBest (btD ds) (ds.length-1)]?=some z:=by
  split at e4
  ·rename_i h;exact⟨h,e4⟩
  ·cases e4
 obtain⟨a,ys,rfl,hq,ry⟩:=rv.list hs e1
 obtain⟨u,rfl,ru⟩:=a3h r
 cases (show u=Value.ref a from ru)
 obtain⟨its,r',pl,hz'⟩:=I.list hq
 have hh:X.A.in1.handled=none:=I.ok.hd hc
 have hlen:ys.length=its.length:=r'.length
 have hql:=ry.length
 have hdl:=b4g e3
 have hl2:its.length=ds.length:=by rw[<- hlen,<- hql,hdl]
 have it:∀ (i:Nat)(v:Value),its.toArray[i]?=some v->∃ (p:FV)(y:V)(d:D),qs[i]?=some p/\ds[i]?=some d/\fD a0j p=some d/\RV X.K S p y/\RelV y v:=λi v hv=>by
  have hv:its[i]?=some v:=by simpa using hv
  have hi:=(List.getElem?_eq_some_iff.mp hv).1
  have hi':i<qs.length:=by lia
  obtain⟨d,f3,f4⟩:=b4h e3 i qs[i] (List.getElem?_eq_getElem hi')
  obtain⟨y,f1,f2⟩:=ry.get (i:=i) (List.getElem?_eq_getElem hi')
  obtain⟨u,g1,g2⟩:=r'.get f1
  rw[hv] at g1;cases g1
  exact⟨_,y,d,List.getElem?_eq_getElem hi',f3,f4,f2,g2⟩
 refine a8l (bt:=btD ds) hh pl.isList (by simp;lia) (λi j u v s1 Q1 E1 kp hi hj q1=>?_) λv h' tk hv hk=>?_
 ·obtain⟨p1,y1,d1,a1,a2,a3,a4,a5⟩:=it i u hi
  obtain⟨p2,y2,d2,b1,b2,b3,b4,b5⟩:=it j v hj
  obtain⟨as,ra⟩:=a2p I hs (.inl a4) a5 a3
  obtain⟨bs,rb⟩:=a2p I hs (.inl b4) b5 b3
  have hk:∀ b o,s.heap.get? b=some o->s1.heap.get? b=some o:=λb o e=>kp b o (Γl e) e
  have hcmp:=hall d1 (List.mem_of_getElem? a2) d2 (List.mem_of_getElem? b2)
  cases hr:ltD d1 d2 with
  | none=>rw[hr] at hcmp;cases hcmp
  | some c =>
   have hb:btD ds i j=c:=by simp only[btD,List.getD_eq_getElem?_getD,a2,b2,Option.getD_some,hr]
   rw[hb] at q1
   have hd:=a4p a3
   unfold a0j at hd
   exact c5l d1 d2 X.A.in1 s1 u v as bs c (PyProof.Rows.Reads.keeps hk ra) (PyProof.Rows.Reads.keeps hk rb) hr (by show X.A.units+1+_<_;lia) X.prog X.w _ _ q1
 ·have hv:its[argBest (btD ds) (its.toArray.size-1)]?=some v:=by simpa using hv
  have hsz:its.toArray.size-1=ds.length-1:=by simp;lia
  rw[hsz] at hv
  obtain⟨p,y,d,a1,a2,a3,a4,a5⟩:=it _ v (by simpa using hv)
  rw[e5] at a1;cases a1
  exact⟨y,H,I.kept (t':=tk) hk,a5,k.old _ (λps hz=>hnl ps (by rw[e5,hz])) a4⟩
end
section
variable {X:Cx}{C:CC}{n:Nat}{sp:Γd->Nat->Sp}{a:Expr}{ea:EW}{pos p:Pos}
theorem e0q (G:Good X C n sp)(hg:C.gl (Γe "min")=true)(hs:a0n a=false)(ha:FR X C a ea):FE X C (.Call (.Name (Γe "min") p) [a] [] pos) (eUn b2k ea):=a7k (d4q G.calm G.room.units) G (by decide) (by nofun) (by nofun) (by nofun) hg hs ha
end
noncomputable def a0y {α:Type}(lt:α->α->Bool):α->List α->α
 | b,[]=>b
 | b,x :: r=>a0y lt (if lt x b=true then x else b) r
theorem a6j {α:Type}(lt:α->α->Bool):∀ (xs:List α)(b x:α),a0y lt b (xs++[x])=if lt x (a0y lt b xs)=true then x else a0y lt b xs
 | [],b,x=>rfl
 | y :: ys,b,x=>by
  show a0y lt (if lt y b=true then y else b) (ys++[x])=_
  rw[a6j lt ys];rfl
theorem a8a {α:Type}(lt:α->α->Bool)(bt:Nat->Nat->Bool)(n:α)(r:List α)(h:∀ i j x y,(n :: r)[i]?=some x->(n :: r)[j]?=some y->bt i j=lt x y):∀ k,k<=r.length->(n :: r)[argBest bt k]?=some (a0y lt n (r.take k))
 | 0,_=>by simp[argBest,a0y]
 | k+1,hk=>by
  have ih:=a8a lt bt n r h k (by lia)
  have hk:k<r.length:=hk
  have e2:(n :: r)[k+1]?=some r[k]:=by simp[hk]
  rw[List.take_succ_eq_append_getElem hk,a6j]
  simp only[argBest,h (k+1) (argBest bt k) _ _ e2 ih]
  split
  ·exact e2
  ·exact ih
theorem c8g {α:Type}(enc:α->FV)(encD:α->D)(lt:α->α->Bool)(h1:∀ a,fD a0j (enc a)=some (encD a))(h2:∀ a b,ltD (encD a) (encD b)=some (lt a b))(h3:∀ a ps,enc a≠.lst ps)(n:α)(r:List α)(Q:FV->Prop):wp (b2k (.lst ((n :: r).map enc))) Q↔Q (enc (a0y lt n r)):=by
 have hm:∀ xs:List α,a6h (fD a0j) (xs.map enc)=some (xs.map encD):=by
  intro xs
  induction xs with
  | nil=>rfl
  | cons x r ih=>simp only[List.map_cons,a6h,h1,ih,Option.bind_some,Option.map_some]
 have hb:∀ i j x y,(n :: r)[i]?=some x->(n :: r)[j]?=some y->btD ((n :: r).map encD) i j=lt x y:=λi j x y hx hy=>by
  simp only[btD,List.getD_eq_getElem?_getD,List.getElem?_map,hx,hy,Option.map_some,Option.getD_some,h2]
 have ha:=a8a lt _ n r hb r.length (Γi _)
 rw[List.take_length] at ha
 have hx:((n :: r).map enc)[argBest (btD ((n :: r).map encD)) (((n :: r).map encD).length-1)]?=some (enc (a0y lt n r)):=by
  rw[List.length_map,List.length_cons,Nat.add_sub_cancel,List.getElem?_map,ha];rfl
 have he:b2k (.lst ((n :: r).map enc))=some (enc (a0y lt n r)):=by
  show ((some ((n :: r).map enc)).bind λxs=>(a6h (fD a0j) xs).bind _)=_
  rw[Option.bind_some,hm,Option.bind_some,if_pos,hx]
  refine⟨by simp,?_,?_⟩
  ·intro x hx y hy
   obtain⟨a,-,rfl⟩:=List.mem_map.mp hx
   obtain⟨b,-,rfl⟩:=List.mem_map.mp hy
   rw[h2];rfl
  ·intro ps z
   rw[hx] at z
   exact h3 _ ps (Option.some.inj z)
 rw[he];exact Iff.rfl
noncomputable def a3k {κ α:Type} [DecidableEq κ] (ks:List κ)(vs:List α)(k:κ)(v:α):List κ×List α :=
 if k∈ks then (ks,List.zipWith (λk' v'=>if k'=k then v else v') ks vs) else (ks++[k],vs++[v])
noncomputable def a2f {κ α:Type} [DecidableEq κ]:List κ->List α->κ->Option α
 | k' :: ks,v :: vs,k=>if k'=k then some v else a2f ks vs k
 | _,_,_=>none
theorem b9t {a b:List Int}(h:a.map (Sum.inl:Int->Int ⊕ Str)=b.map Sum.inl):a=b:=by
 induction a generalizing b with
 | nil=>cases b with|nil=>rfl|cons=>cases h
 | cons x r ih=>cases b with
  | nil=>cases h
  | cons y q =>
   simp only[List.map_cons,List.cons.injEq,Sum.inl.injEq] at h
   rw[h.1,ih h.2]
theorem a6q:∀ (ks:List (List Int))(us:List V)(k:List Int),b1u ((a1y ks).zip us) (k.map Sum.inl)=a2f ks us k
 | [],us,k=>by cases us<;>rfl
 | k' :: ks,[],k=>rfl
 | k' :: ks,u :: us,k=>by
  show b1u ((k'.map Sum.inl,u) :: (a1y ks).zip us) (k.map Sum.inl)=if k'=k then some u else a2f ks us k
  by_cases e:k'=k
  ·subst e;rw[a4g rfl,if_pos rfl]
  ·rw[a4h λz=>e (b9t z),if_neg e];exact a6q ks us k
theorem a2b {κ α:Type} [DecidableEq κ]:∀ {ks:List κ}{vs:List α}(k:κ),ks.length=vs.length->((a2f ks vs k).isSome=true↔k∈ks)
 | [],vs,k,h=>by simp[a2f]
 | k' :: ks,[],k,h=>by simp at h
 | k' :: ks,v :: vs,k,h=>by
  simp only[a2f]
  by_cases e:k'=k
  ·simp[e]
  ·simp only[e,if_false,List.mem_cons,Ne.symm e,false_or]
   rw[a2b k (by simpa using h)]
theorem b8h (ks:List (List Int))(us:List V)(k:List Int)(u:V)(hl:ks.length=us.length):a5g ((a1y ks).zip us) (k.map Sum.inl) u=(a1y (a3k ks us k u).1).zip (a3k ks us k u).2:=by
 have hany:(((a1y ks).zip us).any λkv=>decide (kv.1=k.map Sum.inl))=true↔k∈ks:=by
  rw[a5m,a6q,a2b k hl]
 unfold a5g a3k
 by_cases e:k∈ks
 ·rw[if_pos (hany.mpr e),if_pos e]
  clear e hany
  induction ks generalizing us with
  | nil=>cases us<;>rfl
  | cons k' ks ih=>cases us with
   | nil=>rfl
   | cons u' us =>
    have:=ih us (by simpa using hl)
    show (if k'.map Sum.inl=k.map Sum.inl then (k'.map Sum.inl,u) else (k'.map Sum.inl,u')) :: ((a1y ks).zip us).map _=(k'.map Sum.inl,if k'=k then u else u') :: (a1y ks).zip _
    rw[this]
    congr 1
    by_cases e:k'=k
    ·subst e;simp
    ·rw[if_neg λz=>e (b9t z),if_neg e]
 ·rw[if_neg λz=>e (hany.mp z),if_neg e]
  show _=(a1y (ks++[k])).zip (us++[u])
  have:a1y (ks++[k])=a1y ks++[k.map Sum.inl]:=by simp[a1y]
  rw[this,List.zip_append (by simpa[a1y] using hl)];rfl
theorem a5p {κ α:Type} [DecidableEq κ] (ks:List κ)(vs:List α)(k:κ)(v:α)(h:ks.length=vs.length):(a3k ks vs k v).1.length=(a3k ks vs k v).2.length/\(a3k ks vs k v).1.length<=ks.length+1:=by
 unfold a3k
 split
 ·simp[h]
 ·simp[h]
section
variable {K:Γd}{S H:Hp}
theorem b8i {κ:Type} [DecidableEq κ] {k:κ}{v:FV}{u:V}(r2:RV K S v u):∀ {ks:List κ}{vs:List FV}{us:List V},RVs K S vs us->RVs K S (List.zipWith (λk' v'=>if k'=k then v else v') ks vs) (List.zipWith (λk' v'=>if k'=k then u else v') ks us)
 | [],vs,us,_=>rfl
 | k' :: ks,[],us,r=>by cases (show us=[] from r);rfl
 | k' :: ks,p :: vs,us,⟨x,q,e,h1,h2⟩=>by
  subst e
  refine⟨_,_,rfl,?_,b8i r2 h2⟩
  by_cases e:k'=k
  ·simp only[e,if_true];exact r2
  ·simp only[e,if_false];exact h1
theorem a8v {κ:Type} [DecidableEq κ] {ks:List κ}{vs:List FV}{us:List V}{k:κ}{v:FV}{u:V}(r:RVs K S vs us)(r2:RV K S v u):(a3k ks vs k v).1=(a3k ks us k u).1/\RVs K S (a3k ks vs k v).2 (a3k ks us k u).2:=by
 unfold a3k
 split
 ·exact⟨rfl,b8i r2 r⟩
 ·exact⟨rfl,r.append (RVs.one r2)⟩
theorem a9l {κ:Type} [DecidableEq κ]:∀ {ks:List κ}{vs:List FV}{us:List V}{k:κ}{v:FV},RVs K S vs us->a2f ks vs k=some v->∃ u,a2f ks us k=some u/\RV K S v u
 | [],vs,us,k,v,r,e=>by simp[a2f] at e
 | k' :: ks,[],us,k,v,r,e=>by simp[a2f] at e
 | k' :: ks,p :: vs,us,k,v,⟨x,q,e',h1,h2⟩,e=>by
  subst e'
  simp only[a2f] at e ⊢
  by_cases e0:k'=k
  ·rw[if_pos e0] at e ⊢;cases e;exact⟨x,rfl,h1⟩
  ·rw[if_neg e0] at e ⊢;exact a9l h2 e
theorem b0x {ps:List FV}{k:List Int}{x:V}(r:RV K S (.tup ps) x)(e:a1d ps=some k):∃ b,x=.ref b/\S b=some (.tup ((k.map (Sum.inl:Int->Int ⊕ Str)).map kV)):=by
 obtain⟨b,xs,rfl,h1,h2⟩:=r
 refine⟨b,rfl,?_⟩
 rw[h1,a1g h2 e,List.map_map];rfl
variable {c:Cn}{md:Md}{L:a0c}{σ:L2.St}
theorem c8d {q:Addr}{ks:List (List Int)}{vs:List FV}{us:List V}(I:Iv K c md L σ S H)(h1:S q=none)(h2:H q=some (.dT ((a1y ks).zip us)))(hl:ks.length=vs.length)(h3:RVs K S vs us)(fr:a9w c md L σ q):∃ u,H q=some u/\Iv K c md L σ (upd S q u) H/\RV K (upd S q u) (.dct ks vs) (.ref q):=by
 have s:=a0v (o:=.dT ((a1y ks).zip us)) h1
 refine⟨_,h2,⟨I.len,λi v h e=>let ⟨x,e1,r⟩:=I.imm i v h e;⟨x,e1,r.mono s⟩,λi v h e=>?_,I.dis,λa u e=>?_,I.frame,I.s0.trans s,λa u e=>?_,I.lent,I.fzs,I.fzm,I.fzp,λp hp=>let ⟨g1,g2,g3⟩:=I.prs p hp;⟨g1,by rw[a0g (fr.2.1 p hp)];exact g2,g3⟩,I.ntp⟩,q,us,rfl,hl,a0h,h3.mono s⟩
 ·obtain⟨b,e1,⟨g1,rs,zs,g2,g3,g4⟩,g5⟩:=I.own i v h e
  have hb:b≠q:=λz=>by subst z;exact fr.2.2 i v h e e1
  exact⟨b,e1,⟨by rw[a0g hb];exact g1,rs,zs,g2,g3,g4.mono s⟩,g5⟩
 ·by_cases z:a=q
  ·subst z;rw[a0h] at e;cases e;exact h2
  ·rw[a0g z] at e;exact I.sub a u e
 ·by_cases z:a=q
  ·subst z;exact .inr (.inl fr.1)
  ·rw[a0g z] at e;exact I.grow a u e
end
noncomputable def a5d (n m:Nat)(tg:Tg)(t:BW)(ek ev:EW):List FV->List (List Int)->List FV->a0c->(List (List Int)->List FV->a0c->Prop)->Prop
 | [],ks,vs,L,Q=>Q ks vs L
 | x :: xs,ks,vs,L,Q=>gW tg x (L++Γj m none) λL1=>t L1 λb L2=>if b=true then ek L2 λkx L3=>wp (a7d kx) λps=>wp (a1d ps) λk=>ev L3 λv L4=>a5d n m tg t ek ev xs (a3k ks vs k v).1 (a3k ks vs k v).2 (L4.take n) Q else a5d n m tg t ek ev xs ks vs (L2.take n) Q
noncomputable def c0k (n m:Nat)(it:AW)(tg:Tg)(t:BW)(ek ev:EW):EW:=λL Q=>it L λxs L1=>L1.length=n/\xs.length<=big/\a5d n m tg t ek ev xs [] [] L1 λks vs L2=>Q (.dct ks vs) L2
section
variable {K:Γd}{c:Cn}{md:Md}{L:a0c}{σ:L2.St}{S H:Hp}
theorem c1d {J : It} {xs : List FV} {n m : Nat} {tg : Tg} {t : BW} {ek ev : EW} {Q : VK} {Q1 : List (List Int) -> List FV -> a0c -> Prop} (I : Iv K c md L σ S H) (hJ : ItR K c md J xs S) (hL : L.length = n) (hmd : md.length <= n) (ht : a3b md tg = true) (hg : a5e n tg = true) (hb : xs.length <= big) (h : a5d n m tg t ek ev xs [] [] L Q1)
    (k:∀ acc ks vs us L' S' H',H acc=none->Q1 ks vs L'->S' acc=none->H' acc=some (.dT ((a1y ks).zip us))->ks.length=vs.length->RVs K S' vs us->a9w c md L' σ acc->Iv K c md L' σ S' H'->Same S S'->Q (.ref acc) H') :
    ∀ acc,H acc=none->∃ W:Nat->Nat->Hp->Prop,(∃ m,W 0 m (upd H acc (.dT [])))/\∀ i j H,W i j H ->
      (J.stop i H/\Q (.ref acc) H) ∨ (J.go i H/\∀ x H',J.yld i H x H'->gT K tg x (σ++Γj m none) H' λσ2 H2=>Wk (σ++Γj m none) σ2/\lb K md t σ2 H2 λb H3 =>
        if b = true then lv K md ek σ2 H3 fun y H4 => lv K md ev σ2 H4 fun v H5 => ∃ kvs k b, H5 acc = some (.dT kvs) /\ y = .ref b /\ H5 b = some (.tup (k.map kV)) /\ kvs.length < sizeLine /\ ∃ m', m' < j /\ W (i + 1) m' (upd H5 acc (.dT (a5g kvs k v))) else ∃ m', m' < j /\ W (i + 1) m' H3) := by
  intro acc hacc
  have h0:=I.h0 hacc
  have hp:∀ p∈c.pr,p.1≠acc:=(I.fresh hacc).2.1
  have hz:=I.fzp
  have hl:σ.length=n:=by rw[<- I.len];exact hL
  have hbl:=a1q
  let W:Nat->Nat->Hp->Prop:=λi j H1=>∃ L S1 ks vs us,j=(xs.drop i).length/\Iv K { c with pr:=(acc,.dT ((a1y ks).zip us)) :: c.pr } md L σ S1 H1/\ks.length=vs.length/\RVs K S1 vs us/\Same S S1/\L.length=n/\ks.length<=i/\a5d n m tg t ek ev (xs.drop i) ks vs L Q1
  have I1:Iv K { c with pr:=(acc,.dT []) :: c.pr } md L σ S (upd H acc (.dT [])):=(I.lay hacc _).prot a0h (I.sn hacc) λj w hm hj=>(I.fresh hacc).2.2 j w (λz=>by rw[hm] at z;cases z) hj
  refine⟨W,⟨_,L,S,[],[],[],rfl,I1,rfl,rfl,Same.refl S,hL,Γi _,by rw[List.drop_zero];exact h⟩,?_⟩
  rintro i j H1 ⟨L,S1,ks,vs,us,rfl,I,hkl,r,s,hL,hps,hc⟩
  have I0:=I.unprot hz
  obtain⟨j1,j2⟩:=hJ i L σ S1 H1 I0 s
  obtain⟨g1,g2,g3⟩:=I.prs (acc,.dT ((a1y ks).zip us)) Γn
  cases hd:xs.drop i with
  | nil =>
    left
    rw[hd] at hc
    refine⟨j1 (List.getElem?_eq_none_iff.mpr (List.drop_eq_nil_iff.mp hd)),k acc ks vs us L S1 H1 hacc hc g2 g1 hkl r ⟨h0,hp,λq w hm hq hs=>?_⟩ I0 s⟩
    by_cases mo:a0q md q=.own
    · exact g3 q w mo hq hs
    · have mo:a0q md q=.frz:=by cases z:a0q md q with|imm=>exact absurd z hm|own=>exact absurd z mo|frz=>rfl
      obtain⟨b,f1⟩:=I0.fzm q w mo hq
      obtain⟨_,f2,_⟩:=I0.fzs _ f1
      rw[hs] at f2;cases f2
      obtain⟨ys,f3⟩:=hz _ f1
      exact hp _ f3 rfl
  | cons p rest =>
    right
    rw[hd] at hc
    have hi:xs[i]?=some p:=by
      have:=congrArg (·[0]?) hd
      simpa using this
    have hd':xs.drop (i+1)=rest:=by
      have:=congrArg List.tail hd
      simpa[List.tail_drop] using this
    have hix:i<xs.length:=(List.getElem?_eq_some_iff.mp hi).1
    obtain⟨go,yl⟩:=j2 p hi
    refine⟨go,λx H2 y=>?_⟩
    obtain⟨S2,s2,tr,rx⟩:=yl x H2 y
    have I2:=(tr _ _ _ _ I).more m
    obtain⟨σ2,L2,gq,q2,I2,len2,far⟩:=a5b ht I2 rx hc
    have l2:n<=σ2.length:=by rw[len2,List.length_append,hl];lia
    have far':∀ q,q<n->σ2[q]?=σ[q]?:=λq hq=>by rw[far n hg q hq,List.getElem?_append_left (by rw[hl];exact hq)]
    refine gq _ ⟨⟨len2,λq v hv=>?_⟩,?_⟩
    · have hq : q < n := by
        by_cases h : q < σ.length
        · rw [<- hl]; exact h
        · rw [List.getElem?_append_right (by lia), List.getElem?_replicate] at hv
          split at hv <;> cases hv
      rw[far n hg q hq];exact hv
    · refine⟨_,L2,S2,_,I2,q2,λb L3 hb3 S3 H3 I3 s3=>?_⟩
      cases b with
      | false =>
        rw [if_neg Γk] at hb3 ⊢
        exact ⟨rest.length, by simp, L3.take n, S3, ks, vs, us, by rw [hd'], I3.take hmd hl l2 far', hkl, r.mono (s2.trans s3), s.trans (s2.trans s3), by rw [List.length_take, I3.len]; lia, by lia, by rw [hd']; exact hb3⟩
      | true =>
        rw [if_pos rfl] at hb3 ⊢
        refine ⟨_, L3, S3, _, I3, hb3, fun kx L4 hk u S4 H4 r4 I4 s4 => ?_⟩
        obtain ⟨ps, e1, hk1⟩ := wpx hk
        obtain ⟨kk, e2, hk2⟩ := wpx hk1
        cases a1s e1
        obtain ⟨b, rfl, hb4⟩ := b0x r4 e2
        refine ⟨_, L4, S4, _, I4, hk2, fun v L5 hv u S5 H5 r5 I5 s5 => ?_⟩
        obtain ⟨k1, _⟩ := I5.prs (acc, .dT ((a1y ks).zip us)) Γn
        have lr := r.length
        have r' := r.mono (s2.trans (s3.trans (s4.trans s5)))
        obtain ⟨pe, pr⟩ := a8v (ks := ks) (k := kk) r' r5
        obtain ⟨pl1, pl2⟩ := a5p ks vs kk v hkl
        refine ⟨_, kk.map Sum.inl, b, k1, rfl, I5.sub _ _ (s5 _ _ hb4), by rw [List.length_zip]; have : (a1y ks).length = ks.length := by simp [a1y]
                                                                           lia, rest.length, by simp, L5.take n, S5, (a3k ks vs kk v).1, (a3k ks vs kk v).2, (a3k ks us kk u).2, by rw [hd'], ?_, pl1, pr, s.trans (s2.trans (s3.trans (s4.trans s5))), by rw [List.length_take, I5.len]; lia, by lia, by rw [hd']; exact hv⟩
        rw [b8h ks us kk u (by lia), pe]
        exact (I5.take hmd hl l2 far').regrow h0 hp hz
end
section
variable {X:Cx}{C:CC}{n:Nat}{sp:Γd->Nat->Sp}{pos:Pos}{scope:Scope}{own:List Str}{kx vx tgx iter:Expr}{ifs:List Expr}{it:AW}{tg:Tg}{t:BW}{ek ev:EW}{nn m:Nat}{md':Md}
theorem c3x (G:Good X C n sp)(h:CompOk X C n sp scope own kx tgx iter ifs nn m md' it tg t ek)(hv:∀ X',Good X' (C.sub scope own md') n sp->FE X' (C.sub scope own md') vx ev):FE X C (.DictComp kx vx [⟨tgx,iter,ifs,0⟩] scope pos) (c0k nn m it tg t ek ev):=by
 have h0:=b2 h.st;have h1:=b2 h0.1;have h2:=b2 h1.1;have h3:=b2 h2.1;have h4:=b2 h3.1;have h5:=b2 h4.1;have h6:=b2 h5.1
 obtain⟨s1,s2⟩:=G.sub h6.1 md'
 have hu:X.A.units+1<cLine:=by have:=G.room.units;lia
 have blk:∀ fp D s H,PG (cxC X scope own fp D s H) tgx (gT X.K tg)/\PTs (cxC X scope own fp D s H) ifs (lb X.K md' t)/\PE (cxC X scope own fp D s H) kx (lv X.K md' ek)/\PE (cxC X scope own fp D s H) vx (lv X.K md' ev):=λfp D s H=>⟨h.tg _ (s2 fp D s H),h.ts _ (s2 fp D s H),h.el _ (s2 fp D s H),hv _ (s2 fp D s H)⟩
 refine PE.imp (c2w (X:=X) hu G.calm s1 h.it blk (b1b (nb h0.2))) λσ H Q ⟨c,L,S,Q0,I,hh,k⟩=>?_
 refine⟨c,L,S,_,I,hh,λxs L1 hx J c' S1 H1 I1 un e0 hJ s1=>?_⟩
 obtain⟨hl,hb,hc⟩:=hx
 rw[de h5.2]
 refine c1d I1 hJ hl (de h4.2) h2.2 h1.2 hb hc λacc ks vs us L' S' H' hn q g1 g2 g3 g4 fr I' s'=>?_
 obtain⟨u,hu,I2,r⟩:=c8d (un _ _ _ _ I') g1 g2 g3 g4 ⟨by rw[<- e0];exact fr.1,((un _ _ _ _ I1).fresh hn).2.1,λj w hm=>fr.2.2 j w (a6g h3.2 j hm)⟩
 exact k _ L' q _ _ H' r I2 ((s1.trans s').trans (a0v g1))
end
noncomputable def c1x (a b:FV):Option FV:=match b with
 | .dct ks _=>(a7d a).bind λps=>(a1d ps).bind λk=>some (.bl (decide (k∈ks)))
 | .dci ks _=>(a3o a).bind λk=>some (.bl (decide (k∈ks)))
 | b=>inB a b
noncomputable def d2w (a b:FV):Option FV:=match b with
 | .dct ks _=>(a7d a).bind λps=>(a1d ps).bind λk=>some (.bl (!decide (k∈ks)))
 | .dci ks _=>(a3o a).bind λk=>some (.bl (!decide (k∈ks)))
 | b=>niB a b
noncomputable def c9o (v w:FV):Option FV:=match v with
 | .dct ks vs=>(a7d w).bind λps=>(a1d ps).bind λk=>a2f ks vs k
 | _=>none
section
variable {X:Cx}
theorem RH.dct {K:Γd}{S H:Hp}{ks:List (List Int)}{vs:List FV}{y:V}(hs:Same S H)(rq:RH K S H (.dct ks vs) y):∃ a us,y=.ref a/\ks.length=vs.length/\H a=some (.dT ((a1y ks).zip us))/\RVs K S vs us:=by
 rcases rq with⟨a,us,e,hl,h1,h2⟩|⟨a,e,_,ps,us,e9,h1,h2⟩
 ·exact⟨a,us,e,hl,hs _ _ h1,h2⟩
 ·obtain⟨hl,rfl⟩:=itd e9
  exact⟨a,us,e,hl,h1,h2⟩
theorem a9p {S H:Hp}{ks:List (List Int)}{vs:List FV}{ps:List FV}{k:List Int}{x y:V}(hs:Same S H)(rp:RH X.K S H (.tup ps) x)(rq:RH X.K S H (.dct ks vs) y)(e:a1d ps=some k):∃ a us,y=.ref a/\ks.length=us.length/\RVs X.K S vs us/\L2.DGet H a x (a2f ks us k):=by
 obtain⟨a,us,rfl,hl,h1,h2⟩:=rq.dct hs
 obtain⟨b,rfl,hb⟩:=b0x (rp.val rfl) e
 refine⟨a,us,rfl,by rw[hl,h2.length],h2,?_⟩
 rw[<- a6q]
 exact .t h1 (hs _ _ hb)
theorem a5v:∀ (ks:List Int)(us:List V) (k:Int),b1u ((a3y ks).zip us) (Sum.inl k)=a2f ks us k
 | [],us,k=>by cases us<;>rfl
 | k' :: ks,[],k=>rfl
 | k' :: ks,u :: us,k=>by
  show b1u ((Sum.inl k',u) :: (a3y ks).zip us) (Sum.inl k)=if k'=k then some u else a2f ks us k
  by_cases e:k'=k
  ·subst e;rw[a4g rfl,if_pos rfl]
  ·rw[a4h λz=>e (Sum.inl.inj z),if_neg e];exact a5v ks us k
theorem RH.dci {K:Γd}{S H:Hp}{ks:List Int}{vs:List FV}{y:V}(hs:Same S H)(rq:RH K S H (.dci ks vs) y):∃ a us,y=.ref a/\ks.length=vs.length/\H a=some (.dK ((a3y ks).zip us))/\RVs K S vs us:=by
 rcases rq with⟨a,us,e,hl,h1,h2⟩|⟨a,e,_,ps,us,e9,h1,h2⟩
 ·exact⟨a,us,e,hl,hs _ _ h1,h2⟩
 ·obtain⟨hl,rfl⟩:=itd e9
  exact⟨a,us,e,hl,h1,h2⟩
theorem b1i {S H:Hp}{ks:List Int}{vs:List FV}{k:Int}{y:V}(hs:Same S H)(rq:RH X.K S H (.dci ks vs) y):∃ a us,y=.ref a/\ks.length=us.length/\RVs X.K S vs us/\L2.DGet H a (.int k) (a2f ks us k):=by
 obtain⟨a,us,rfl,hl,h1,h2⟩:=rq.dci hs
 refine⟨a,us,rfl,by rw[hl,h2.length],h2,?_⟩
 rw[<- a5v]
 exact .k (k:=Sum.inl k) h1
theorem d1o (hu:X.A.units+64<cLine):OpR X (compareOp .In) (Rq X.K c1x):=by
 intro pins s σ H x y v u Q I rx ry ⟨S,p,q,z,hs,rp,rq,e,k⟩
 cases q with
 | dct ks vs =>
  obtain⟨ps,e1,e2⟩:=bnd e
  obtain⟨kk,e3,e4⟩:=bnd e2
  cases a1s e1
  cases e4
  obtain⟨a,us,rfl,hl,h2,g⟩:=a9p hs rp rq e3
  cases (show u=Value.ref a from ry)
  refine d_in (by lia) I g rx λs' I'=>⟨.bl _,H,I',rfl,?_⟩
  have:(a2f ks us kk).isSome=decide (kk∈ks):=by rw[Bool.eq_iff_iff,a2b kk hl];simp
  rw[this]
  exact k.bl
 | dci ks vs =>
  obtain⟨kk,e1,e4⟩:=bnd e
  cases a0t e1
  cases e4
  cases rp.int
  obtain⟨a,us,rfl,hl,h2,g⟩:=b1i (k:=kk) hs rq
  cases (show u=Value.ref a from ry)
  refine d_in (by lia) I g rx λs' I'=>⟨.bl _,H,I',rfl,?_⟩
  have:(a2f ks us kk).isSome=decide (kk∈ks):=by rw[Bool.eq_iff_iff,a2b kk hl];simp
  rw[this]
  exact k.bl
 | _=>exact q_in hu pins s σ H x y v u Q I rx ry ⟨S,p,_,z,hs,rp,rq,e,k⟩
theorem d8d (hu:X.A.units+64<cLine):OpR X (compareOp .NotIn) (Rq X.K d2w):=by
 intro pins s σ H x y v u Q I rx ry ⟨S,p,q,z,hs,rp,rq,e,k⟩
 cases q with
 | dct ks vs =>
  obtain⟨ps,e1,e2⟩:=bnd e
  obtain⟨kk,e3,e4⟩:=bnd e2
  cases a1s e1
  cases e4
  obtain⟨a,us,rfl,hl,h2,g⟩:=a9p hs rp rq e3
  cases (show u=Value.ref a from ry)
  refine c0v (by lia) I g rx λs' I'=>⟨.bl _,H,I',rfl,?_⟩
  have:(a2f ks us kk).isSome=decide (kk∈ks):=by rw[Bool.eq_iff_iff,a2b kk hl];simp
  rw[this]
  exact k.bl
 | dci ks vs =>
  obtain⟨kk,e1,e4⟩:=bnd e
  cases a0t e1
  cases e4
  cases rp.int
  obtain⟨a,us,rfl,hl,h2,g⟩:=b1i (k:=kk) hs rq
  cases (show u=Value.ref a from ry)
  refine c0v (by lia) I g rx λs' I'=>⟨.bl _,H,I',rfl,?_⟩
  have:(a2f ks us kk).isSome=decide (kk∈ks):=by rw[Bool.eq_iff_iff,a2b kk hl];simp
  rw[this]
  exact k.bl
 | _=>exact q_ni hu pins s σ H x y v u Q I rx ry ⟨S,p,_,z,hs,rp,rq,e,k⟩
end
theorem d0y:a4b c1x:=by
 intro v w z e
 cases w with
 | dct ks vs =>
  obtain⟨ps,_,e⟩:=bnd e
  obtain⟨k,_,e⟩:=bnd e
  cases e;exact⟨_,rfl⟩
 | dci ks vs =>
  obtain⟨k,_,e⟩:=bnd e
  cases e;exact⟨_,rfl⟩
 | _ =>
  obtain⟨b,_,rfl⟩:=mpd (show (inF v _).map FV.bl=some z from e)
  exact⟨_,rfl⟩
theorem d0w:a4b d2w:=by
 intro v w z e
 cases w with
 | dct ks vs =>
  obtain⟨ps,_,e⟩:=bnd e
  obtain⟨k,_,e⟩:=bnd e
  cases e;exact⟨_,rfl⟩
 | dci ks vs =>
  obtain⟨k,_,e⟩:=bnd e
  cases e;exact⟨_,rfl⟩
 | _ =>
  obtain⟨b,_,rfl⟩:=mpd (show (inF v _).map (λr=>FV.bl (!r))=some z from e)
  exact⟨_,rfl⟩
section
variable {X:Cx}{C:CC}{n:Nat}{sp:Γd->Nat->Sp}{a b:Expr}{ea eb:EW}{pos p:Pos}
theorem fe_in2 (G:Good X C n sp)(ha:FE X C a ea)(hb:FR X C b eb)(hm:behindInMarks .In b=false):FE X C (.Compare a [.In] [b] pos) (eOp c1x ea eb):=b1c (d1o G.room.units) ha hb hm
theorem fb_in2 (G:Good X C n sp)(ha:FE X C a ea)(hb:FR X C b eb)(hm:behindInMarks .In b=false):FB X C (.Compare a [.In] [b] pos) (a1z (eOp c1x ea eb)):=a6u d0y (d1o G.room.units) ha hb hm
theorem fb_ni2 (G:Good X C n sp)(ha:FE X C a ea)(hb:FR X C b eb)(hm:behindInMarks .NotIn b=false):FB X C (.Compare a [.NotIn] [b] pos) (a1z (eOp d2w ea eb)):=a6u d0w (d8d G.room.units) ha hb hm
variable {es:List Expr}{k:Nat}{p2:Pos}
theorem e0x (G:Good X C n sp)(ha:FE X C a ea)(hb:FE X C (.Tuple es k p2) eb):FE X C (.Subscript a (.Tuple es k p2) pos) (eOp c9o ea eb) :=
 PE.imp (b8r (X:=X.nox) (by have:=G.room.units;show X.A.units+1<cLine;lia) ha hb λ_ _=>rfl) λσ H Q ⟨c,L,S,Q0,I,h,k⟩ =>
 ⟨c,L,S,_,I,h,λv L1 hv x S1 H1 r1 I1 s1=>⟨c,L1,S1,_,I1,hv,λw L2 hw y S2 H2 r2 I2 s2=>by
  obtain⟨z,e,q⟩:=wpx hw
  cases v with
  | dct ks vs =>
   obtain⟨ps,e1,e2⟩:=bnd e
   obtain⟨kk,e3,e4⟩:=bnd e2
   cases a1s e1
   obtain⟨a,us,rfl,hl,h2,g⟩:=a9p (X:=X) I2.sub (.inl r2) (.inl (r1.mono s2)) e3
   obtain⟨u,e5,r5⟩:=a9l h2 e4
   rw[e5] at g
   exact⟨a,u,rfl,g,k z L2 q u S2 H2 r5 I2 (s1.trans s2)⟩
  | _=>cases e⟩⟩
end
section
variable (Q:FV->Prop)
@[scoped simp ↓] theorem k_in2i (k:Int)(ks:List Int)(vs:List FV):wp (c1x (.int k) (.dci ks vs)) Q=Q (.bl (decide (k∈ks))):=propext Iff.rfl
@[scoped simp ↓] theorem k_in2t (a:FV)(xs:List FV):wp (c1x a (.tup xs)) Q↔wp (inF a (.tup xs)) λr=>Q (.bl r):=a2k _ _ _
@[scoped simp ↓] theorem k_in2l (a:FV)(xs:List FV):wp (c1x a (.lst xs)) Q↔wp (inF a (.lst xs)) λr=>Q (.bl r):=a2k _ _ _
@[scoped simp ↓] theorem k_ni2l (a:FV)(xs:List FV):wp (d2w a (.lst xs)) Q↔wp (inF a (.lst xs)) λr=>Q (.bl (!r)):=a2k _ _ _
@[scoped simp ↓] theorem k_dget (ps:List FV)(ks:List (List Int))(vs:List FV):wp (c9o (.dct ks vs) (.tup ps)) Q↔wp (a1d ps) λk=>wp (a2f ks vs k) Q:=by
 show wp ((a1d ps).bind _) Q↔_;rw[a2l]
@[scoped simp ↓] theorem ints_n (Q:List Int->Prop):wp (a1d []) Q=Q []:=propext Iff.rfl
@[scoped simp ↓] theorem ints_c (i:Int)(r:List FV)(Q:List Int->Prop):wp (a1d (.int i :: r)) Q↔wp (a1d r) λns=>Q (i :: ns):=by
 show wp ((a1d r).map (i :: ·)) Q↔_;rw[a2k]
end
@[scoped simp ↓] theorem d4a (n m:Nat)(it:AW)(tg:Tg)(t:BW)(ek ev:EW)(L:a0c)(Q:FV->a0c->Prop):c0k n m it tg t ek ev L Q=(it L λxs L1=>L1.length=n/\xs.length<=big/\a5d n m tg t ek ev xs [] [] L1 λks vs L2=>Q (.dct ks vs) L2):=propext Iff.rfl
theorem b1k {α:Type}{tg:Tg}{n m:Nat}{ek ev:EW}{f:α->FV}{g:α->List Int}{h:α->FV}{Q:List (List Int)->List FV->a0c->Prop}{L:a0c}:∀ (xs:List α)(ks:List (List Int))(vs:List FV),
  (∀ x∈xs,g x ∉ ks)->(xs.map g).Nodup ->
  (∀ x∈xs,∀ K:List Int->FV->a0c->Prop,K (g x) (h x) L->gW tg (f x) (L++Γj m none) λL1=>ek L1 λkx L3=>wp (a7d kx) λps=>wp (a1d ps) λk=>ev L3 λv L4=>K k v (L4.take n))->Q (ks++xs.map g) (vs++xs.map h) L->a5d n m tg a0u ek ev (xs.map f) ks vs L Q
 | [],ks,vs,_,_,_,E=>by
  show Q ks vs L
  simpa using E
 | x :: xs,ks,vs,hn,hd,B,E=>by
  refine B x Γn (λk v L'=>a5d n m tg a0u ek ev (xs.map f) (a3k ks vs k v).1 (a3k ks vs k v).2 L' Q) ?_
  have hk:=hn x Γn
  simp only[List.map_cons,List.nodup_cons] at hd
  have e:a3k ks vs (g x) (h x)=(ks++[g x],vs++[h x]):=by simp[a3k,hk]
  rw[e]
  refine b1k xs _ _ (λy hy hm=>?_) hd.2 (λy hy=>B y (Γh _ hy)) (by simpa using E)
  rcases List.mem_append.mp hm with hm|hm
  ·exact hn y (Γh _ hy) hm
  ·simp at hm
   exact hd.1 (by rw[<- hm];exact List.mem_map_of_mem hy)
end Kq
end
section
namespace PySem
theorem F.nolen_lri:typeLookup (.type "list_reverseiterator") "__len__" = pure none:=by rw[typeLookup_type,builtinLookup_eq_fast];kernel_rfl
theorem F.slot_lri_hint:Slot "list_reverseiterator" "__length_hint__" "list_reverseiterator.__length_hint__" :=
 .of (owner:="list_reverseiterator") (n:="__length_hint__") (by rw[typeLookup_type,builtinLookup_eq_fast];kernel_rfl) (by nofun) (by nofun) (by nofun)
  (by first|exact .inl (by decide +kernel)|exact .inr (by decide +kernel)) (by rw[isSubtype_type];kernel_rfl)
section
variable {prog:Program}{w:World}{A:Around}{E:Value->Shared->Prop}{s:Shared}
theorem b3j {it l:Addr}{items:Array Value}{Q:List Value->Shared->Prop}(hh:A.handled=none)(hne:l≠it)(hit:s.heap.IsRevIter it l ((items.size:Int)-1))(hl:s.heap.IsList l items)(hz:items.size<=sizeLine)
  (hQ:∀ s' acc,Moved [it] (λa b=>b=a) s s'->ItemsOf (λi v=>items[items.size-1-i]?=some v) acc items.size->Q acc.toList s'):wpAny (model prog w) A (collect (.ref it)) Q E s:=by
 have W:=(Walks.listRev (prog:=prog) (w:=w) (A:=A.in1) (show A.in1.handled=none from hh) it l hne items).toS
 have l1:it<s.heap.objs.size:=by obtain⟨o,e,_⟩:=hit;exact Γl e
 have l2:l<s.heap.objs.size:=by obtain⟨o,e,_⟩:=hl;exact Γl e
 have hSf:s.heap.objs.size ∉ [it,l]:=λhm=>by
  simp only[List.mem_cons,List.not_mem_nil,or_false] at hm
  rcases hm with hm|hm
  ·exact Nat.lt_irrefl _ (hm ▸ l1)
  ·exact Nat.lt_irrefl _ (hm ▸ l2)
 have hSI:s.heap.objs.size≠it:=λe=>Nat.lt_irrefl _ (e ▸ l1)
 unfold collect
 refine Γa (wpAny_runValue (codeAny_builtin F.entry_proto_collect ?_));rw[Around.under_plainId F.plain_proto_collect _]
 show wpAny _ A.in1 (newList [] >>= λacc=>again (.builtin "list.__iadd__" ⟨[acc,.ref it],[]⟩)) _ _ s
 refine Γa (wpAny_newObj_type (Γb ⟨plainId_quiet F.plain_list_iadd _,codeAny_builtin F.entry_list_iadd ?_⟩));rw[Around.under_plainId F.plain_list_iadd _]
 generalize hs1:({ s with heap:=s.heap.push { cls:=.type "list",data:=.seq ([]:List Value).toArray } }:Shared)=s1
 have k1:∀ b o,s.heap.get? b=some o->s1.heap.get? b=some o:=λb o e=>by rw[<- hs1];exact Γc _ e
 have it1:=hit.at λo e=>k1 it o e
 have li1:=hl.at λo e=>k1 l o e
 have S1:s1.heap.get? s.heap.objs.size=some { cls:=.type "list",data:=.seq ([]:List Value).toArray }:=by rw[<- hs1];exact Γm _ rfl
 have st1:0<=items.size/\s1.heap.IsRevIter it l ((items.size:Int)-1-((0:Nat):Int))/\s1.heap.IsList l items:=⟨Nat.zero_le _,by simpa using it1,li1⟩
 have ty1:s1.TypeIs (.ref it) "list_reverseiterator":=it1.typeIs
 have h1:Builtin.List.listSameRef (.ref s.heap.objs.size) (.ref it)=false:=by simp[Builtin.List.listSameRef,hSI]
 show wpAny _ A.in1 (Builtin.List.listExtendWith (.ref s.heap.objs.size) (.ref it) (.ref s.heap.objs.size)) _ _ s1
 unfold Builtin.List.listExtendWith
 refine Γa (wpAny_typeOf ty1 ?_)
 rw[if_neg (by rw[h1];decide)]
 refine Γa (W.self 0 s1 _ _ st1 (Γa (Γg ?_)))
 unfold Builtin.List.listLengthHint
 refine Γa (wpAny_specialOf ty1 F.nolen_lri ?_)
 show wpAny _ A.in1 (specialOf (Value.ref it) (Γe "__length_hint__") >>= _) _ _ _
 refine Γa (wpAny_specialOf ty1 F.slot_lri_hint.lookup ?_)
 (generalize hid:("list_reverseiterator.__length_hint__":String)=id0;(fail_if_success (clear hid id0));wp_delta;rw[show splitId id0=some ("list_reverseiterator","__length_hint__") from by subst hid;nofun];subst hid)
 refine Γa (wpAny_isInstance (b:=true) ty1 (by rw[isSubtype_type];kernel_rfl) ?_)
 refine Γb ?_
 rw[if_neg (by decide)]
 refine Γb ⟨plainId_quiet F.plain_extend_loop _,codeAny_extend_loopS W hz _ hSf _ items.size 0 _ _ _ rfl (Nat.zero_le _) st1 S1 (ItemsOf.nil _) λs' acc' c' hm hS' hacc=>?_⟩
 show wpAny _ A (load s.heap.objs.size >>= _) _ _ s'
 refine Γa (wpAny_load hS' (Γb (hQ s' acc' ?_ hacc)))
 subst hs1
 exact Moved.drop_new (o:={ cls:=.type "list",data:=.seq ([]:List Value).toArray }) (tk:=s.toks) hm (Γi _)
end
end PySem
namespace Kq
open PySem PySem.Spec PyProof.Rows L2
section
variable {P:Program}{w:World}{A:Around}{E:Value->Shared->Prop}{s:Shared}
theorem b6p {l:Addr}{xs:Array Value}{bt:Nat->Nat->Bool}{Q:Value->Shared->Prop}(hh:A.in1.handled=none)(hl:s.heap.IsList l xs)(hn:0<xs.size)(C:c4p P w A.in1 (λi v=>xs[i]?=some v) bt s.heap s.heap.objs.size)
  (K:∀ v h' tk,xs[argBest bt (xs.size-1)]?=some v->(∀ b o,s.heap.get? b=some o->h'.get? b=some o)->Q v { s with heap:=h',toks:=tk }):wpAny (model P w) A (call (.builtin "max") [.ref l]) Q E s:=by
 have nm:(toString "max"++toString ".loop":String) = "max.loop":=by decide
 have ll:l<s.heap.objs.size:=by obtain⟨_,e,_⟩:=hl;exact Γl e
 refine call_function_tree F.kind_max F.plain_max F.entry_max (F.args_max1 _) ?_
 show wpAny _ A.in1 (Builtin.Builtins.bindParams "max" ["key","default"] 0 ⟨[],[]⟩ >>= _) _ _ s
 refine Γa (wpAny_of_eq (show Builtin.Builtins.bindParams "max" ["key","default"] 0 ⟨[],[]⟩=pure [none,none] from rfl) (Γa (Γb (Γa (wpAny_pyIter_list hl ?_)))))
 have W:=Walks.list (prog:=P) (w:=w) hh s.heap.objs.size l (Γo ll) xs
 refine Γa (wpAny_newObj_type ?_)
 rw[nm]
 have z1:(s.heap.push { cls:=.type "list_iterator",data:=.fields #[.ref l,.int 0 0] }).objs.size=s.heap.objs.size+1:=Heap.size_push ..
 refine Γb ⟨plainId_quiet F.plain_max_loop _,a7v (S:=(s.heap.push { cls:=.type "list_iterator",data:=.fields #[.ref l,.int 0 0] }).objs.size) W C ?_ ?_ ?_ hn ⟨⟨_,Γc _ (Γm _ rfl),rfl,rfl⟩,(hl.push _).push _⟩
  (λb o hb e=>Γc _ (Γc _ e)) (Γm _ rfl) λv h' tk hv hk=>?_⟩
 ·rw[z1];intro z;simp only[List.mem_cons,List.not_mem_nil,or_false] at z;rcases z with z|z
  ·exact absurd z (Nat.ne_of_gt (Nat.lt_succ_self _))
  ·exact absurd z (Nat.ne_of_gt (Nat.lt_succ_of_lt ll))
 ·intro b hb;simp at hb;rw[hb];exact Γi _
 ·rw[z1];exact Nat.le_succ _
 ·refine K v h' tk hv λb o e=>hk b o (by simp;exact Γo (Γl e)) ?_ (Γc _ (Γc _ e))
  rw[z1];exact Γo (Nat.lt_succ_of_lt (Γl e))
end
noncomputable def c3h (v:FV):Option FV:=(a2c v).bind λxs=>(a1d xs).bind λns=>match ns with
 | n :: r=>some (.int (a1m n r))
 | []=>none
section
variable {X:Cx}
theorem c1l (hc:X.calm=true):a1r X (.builtin "max") (Rc X.K c3h):=by
 rintro pins s σ H xs us Q I r ⟨S,v,x,z,rfl,hs,rv,e,k⟩
 obtain⟨ps,e1,e2⟩:=bnd e
 obtain⟨ns,e3,e4⟩:=bnd e2
 obtain⟨a,ys,rfl,hq,ry⟩:=rv.list hs e1
 obtain⟨u,rfl,ru⟩:=a3h r
 cases (show u=Value.ref a from ru)
 obtain⟨its,r',pl,hz'⟩:=I.list hq
 have hh:X.A.in1.handled=none:=I.ok.hd hc
 have hlen:ys.length=its.length:=r'.length
 cases a1g ry e3
 cases ns with
 | nil=>cases e4
 | cons n r =>
  cases e4
  have hl2:its.length=r.length+1:=by rw[<- hlen];simp
  have it:∀ (i:Nat)(v:Value),its.toArray[i]?=some v->∃ t,v=Value.int ((n :: r).getD i 0) t:=λi v hv=>by
   have hv:its[i]?=some v:=by simpa using hv
   have hi:=(List.getElem?_eq_some_iff.mp hv).1
   obtain⟨t,e⟩:=Vals.mapInt r' i (by simp;lia)
   rw[hv] at e
   exact⟨t,Option.some.inj e⟩
  refine b6p (bt:=λi j=>decide ((n :: r).getD j 0<(n :: r).getD i 0)) hh pl.isList (by simp;lia) (λi j u v s1 Q1 E1 _ hi hj q1=>?_) λv h' tk hv hk=>?_
  ·obtain⟨t1,rfl⟩:=it i u hi
   obtain⟨t2,rfl⟩:=it j v hj
   exact PyProof.Rows.gt_int q1
  ·have hv:its[argBest (λi j=>decide ((n :: r).getD j 0<(n :: r).getD i 0)) (its.toArray.size-1)]?=some v:=by simpa using hv
   have hb:=a8z n r r.length (Γi _)
   rw[List.take_length] at hb
   have hsz:its.toArray.size-1=r.length:=by simp;lia
   rw[hsz] at hv
   generalize argBest (λi j=>decide ((n :: r).getD j 0<(n :: r).getD i 0)) r.length=z at hv hb
   obtain⟨t,rfl⟩:=it z v (by simpa using hv)
   rw[List.getD_eq_getElem?_getD,hb]
   exact⟨.int (a1m n r),H,I.kept (t':=tk) hk,⟨t,rfl⟩,k.int⟩
end
section
variable {X:Cx}{C:CC}{n:Nat}{sp:Γd->Nat->Sp}{a:Expr}{ea:EW}{pos p:Pos}
theorem e0t (G:Good X C n sp)(hg:C.gl (Γe "max")=true)(hs:a0n a=false)(ha:FR X C a ea):FE X C (.Call (.Name (Γe "max") p) [a] [] pos) (eUn c3h ea):=a7k (c1l G.calm) G (by decide) (by nofun) (by nofun) (by nofun) hg hs ha
end
@[scoped simp ↓] theorem f_maxI (v:FV)(Q:FV->Prop):wp (c3h v) Q↔wp (a2c v) λxs=>wp (a1d xs) λns=>∃ n r,ns=n :: r/\Q (.int (a1m n r)):=by
 show wp ((a2c v).bind _) Q↔_
 simp only[a2l]
 have:∀ ns:List Int,wp (match ns with|n :: r=>some (FV.int (a1m n r))|[]=>none) Q↔∃ n r,ns=n :: r/\Q (.int (a1m n r)):=λns=>by
  cases ns with
  | nil=>exact⟨λh=>h.elim,λ⟨n,r,e,_⟩=>nomatch e⟩
  | cons n r=>exact⟨λh=>⟨n,r,rfl,h⟩,λ⟨n',r',e,h⟩=>by cases e;exact h⟩
 simp only[this]
end Kq
end
section
namespace PySem
section
variable {prog:Program}{w:World}{A:Around}{E:Value->Shared->Prop}{s:Shared}
theorem a7m {it l:Addr}{items:Array Value}{Q₁:Value->Shared->Prop}(hh:A.handled=none)(hne:l≠it)(hit:s.heap.IsRevIter it l ((items.size:Int)-1))(hl:s.heap.IsList l items)(hz:items.size<=sizeLine)
  (h:∀ s' acc,Moved [it] (λa b=>b=a) s s'->ItemsOf (λi v=>items[items.size-1-i]?=some v) acc items.size->Q₁ (.ref s'.heap.objs.size) { s' with heap:=s'.heap.push { cls:=.type "tuple",data:=.seq acc } }) :
  codeAny (model prog w) A (.call (.builtin "tuple.__new__") ⟨[.type "tuple",.ref it],[]⟩) (wants Q₁ E) s:=by
 refine codeAny_of_tree ?_
 show wpAny _ A.in1 (do checkBuiltinCall "tuple.__new__" ⟨[.type "tuple",.ref it],[]⟩;again (.builtin "tuple.__new__" ⟨[.type "tuple",.ref it],[]⟩)) _ _ s
 refine Γa (wpAny_of_eq (F.newCall_tuple_1 _) (Γb ⟨plainId_quiet F.plain_tuple_new _,codeAny_builtin F.entry_tuple_new ?_⟩));rw[Around.under_plainId F.plain_tuple_new _]
 have hsub:=sub_tuple_self;have hinit:=init_tuple_lookup;have hmh:=madeHere_tuple
 have hTI:s.TypeIs (.ref it) "list_reverseiterator":=hit.typeIs
 wp_walk using wpAny_typeOf hTI,b3j (A:=A.in1) (show A.in1.handled=none from hh) hne hit hl hz
 intro s' acc hm hacc
 show wpAny _ _ (Builtin.Tuple.tupleExact acc.toList.toArray >>= λv=>ret v) _ _ _
 unfold Builtin.Tuple.tupleExact
 refine Γa (wpAny_newObj_type (Γb ?_) (by show acc.toList.toArray.size<=sizeLine;simp only[Array.toArray_toList];rw[hacc.1];exact hz))
 have e:acc.toList.toArray=acc:=by simp
 rw[e];exact h s' acc hm hacc
theorem a7o {it l:Addr}{items:Array Value}{Q:Value->Shared->Prop}(hh:A.handled=none)(hne:l≠it)(hit:s.heap.IsRevIter it l ((items.size:Int)-1))(hl:s.heap.IsList l items)(hz:items.size<=sizeLine)
  (hQ:∀ s' acc,Moved [it] (λa b=>b=a) s s'->ItemsOf (λi v=>items[items.size-1-i]?=some v) acc items.size->Q (.ref s'.heap.objs.size) { s' with heap:=s'.heap.push { cls:=.type "tuple",data:=.seq acc } }) :
  wpAny (model prog w) A (call (.type "tuple") [.ref it]) Q E s:=by
 refine callType_codes (Q₁:=λobj s₁=>s₁.TypeIs obj "tuple"/\Q obj s₁) F.called_tuple (F.typeCall_tuple_1 _) F.entry_object_init (a7m (A:=A.in1) hh hne hit hl hz λs' acc hm hacc=>⟨⟨_,Γm _ rfl,rfl⟩,hQ s' acc hm hacc⟩) λobj s₁ h₁=>?_
 exact⟨h₁.1,F.args_object_init_2 obj _,object_init_meets F.called_tuple.init.lookup F.called_tuple.made (by decide) prog w A.in1 _ s₁ ⟨h₁.1,rfl,h₁.2⟩⟩
end
end PySem
namespace Kq
open PySem PySem.Spec PyProof.Rows L2
section
variable {X:Cx}{a:Expr}{ta:TA}{p p2 pos pos2:Pos}
theorem c7q (hc:X.calm=true)(hg:Gl X "reversed")(hm:X.mg "reversed" = none)(hg2:Gl X "tuple")(hm2:X.mg "tuple" = none)(ha:PA X [a] ta)(hs:starEach [a] X.env=[(false,eval a X.env)]) :
  PE X (.Call (.Name "tuple" p) [.Call (.Name "reversed" p2) [a] [] pos2] [] pos) (λσ H Q=>ta σ H λvs H1=>∃ l xs,vs=[.ref l]/\SqL X.K H1 l xs/\∀ q,H1 q=none->Q (.ref q) (upd H1 q (.tup xs.reverse))):=by
 intro pins s σ H Q I h
 refine wpAny_Call_Name_kw (a3n I hg2 hm2 (show bootBuiltins (Γe "tuple")=some (.type "tuple") by nofun) ?_ (by nofun) (by nofun))
 refine PyProof.Rows.callWith_type1 (T:="tuple") ?_ rfl rfl
 show wpAny _ _ (spliced ((false,eval (.Call (.Name "reversed" p2) [a] [] pos2) X.env) :: backTo pos [])) _ _ s
 refine Calls.spliced_cons (Call_ (a3n I hg hm (show bootBuiltins (Γe "reversed")=some (.type "reversed") by nofun) (PyProof.Rows.callWith_type1 (T:="reversed") (thn (ha pos2 pins s σ H _ I h) λus s1 ⟨vs,H1,I1,r1,q1⟩=>?_) hs rfl)))
 obtain⟨l,xs,e,hq,q⟩:=q1
 subst e
 obtain⟨u,rfl,ru⟩:=a3h r1
 cases (show u=Value.ref l from ru)
 obtain⟨its,rv,pl,hz⟩:=I1.list hq
 have hlen:=rv.length
 have ll:l<s1.heap.objs.size:=by obtain⟨o,e,_⟩:=pl.isList;exact Γl e
 refine call_reversed_list pl.isList (Calls.spliced_nil ?_)
 have I2:Inv X pins σ H1 { s1 with heap:=s1.heap.push (revObj l ((its.toArray.size:Int)-1)) }:=I1.kept (t':=s1.toks) λb o e=>Γc _ e
 refine a7o (items:=its.toArray) (l:=l) (I1.ok.hd hc) (Γo ll) ⟨_,Γm _ rfl,rfl,rfl⟩ (pl.isList.push _) (by simpa[<- hlen] using hz) λs' acc hm hacc=>?_
 have I3:Inv X pins σ H1 s':=by
  have:=I1.kept (h':=s'.heap) (t':=s'.toks) λb o e=>hm.heap b o (by simp;exact Γo (Γl e)) (Γc _ e)
  have e:s' = { s1 with heap:=s'.heap,toks:=s'.toks }:=by
   obtain⟨h1,h2,h3,h4,h5⟩:=hm
   obtain⟨a,b,c,d,e⟩:=s'
   simp only at h2 h3 h4
   subst h2 h3 h4;rfl
  rw[e];exact this
 refine⟨.ref s'.heap.objs.size,_,I3.laid (t':=s'.toks) (o:=.tup xs.reverse) (λb ob q=>Γc _ q) (Γi _) ?_,rfl,q _ (I3.hok.fresh (Γi _))⟩
 have e:acc.toList=its.reverse:=by
  have h1:acc.toList.length=its.length:=by simpa using hacc.1
  apply List.ext_getElem
  ·rw[List.length_reverse];exact h1
  ·intro i h2 h3
   have h4:=hacc.2 i (acc.toList[i]) (by simp at h2;simp[h2])
   have h5:its[its.length-1-i]?=some acc.toList[i]:=by simpa using h4
   rw[List.getElem_reverse]
   exact ((List.getElem?_eq_some_iff.mp h5).2).symm
 refine⟨by rw[List.length_reverse];exact hz,its.reverse,rv.reverse,?_⟩
 rw[<- e]
 exact IsTup.new _ _
end
noncomputable def c6y (v:FV):Option FV:=(a2c v).map λxs=>.tup xs.reverse
@[scoped simp ↓] theorem f_revT (v:FV)(Q:FV->Prop):wp (c6y v) Q↔wp (a2c v) λxs=>Q (.tup xs.reverse):=a2k _ _ _
theorem e0l {X:Cx}{C:CC}{n:Nat}{sp:Γd->Nat->Sp}{a:Expr}{ea:EW}{pos p p2 pos2:Pos}(G:Good X C n sp)(hg:(C.gl (Γe "reversed") && C.gl (Γe "tuple"))=true)(hs:a0n a=false)(ha:FR X C a ea):FE X C (.Call (.Name (Γe "tuple") p) [.Call (.Name (Γe "reversed") p2) [a] [] pos2] [] pos) (eUn c6y ea) :=
 PE.imp (c7q (X:=X.nox) G.calm (G.gl (b2 hg).1) (G.blt "reversed" (by decide)) (G.gl (b2 hg).2) (G.blt "tuple" (by decide)) (a0x ha a2m (a0d hs)) (a0d hs)) λσ H Q ⟨c,L,S,Q0,I,h,k⟩ =>
 ⟨c,L,S,_,I,h,λv L1 hv x S1 H1 r1 I1 s1=>by
  obtain⟨z,e,q⟩:=wpx hv
  obtain⟨ps,e1,rfl⟩:=mpd e
  obtain⟨a,ys,rfl,hq,ry⟩:=r1.list I1.sub e1
  exact⟨a,ys,rfl,hq,λp hp=>(b0p I1 λx S' H' r I' s'=>k _ L1 q x S' H' r I' (s1.trans s')).tup _ _ p rfl ry.rev hp⟩⟩
end Kq
end
section
namespace Kq
open PySem PySem.Spec PyProof.Rows L2
section
variable {P:Program}{w:World}{A:Around}{E:Value->Shared->Prop}{s:Shared}
theorem b6o {l:Addr}{xs:Array Value}{bt:Nat->Nat->Bool}{Q:Value->Shared->Prop}(hh:A.in1.handled=none)(hl:s.heap.IsTuple l xs)(hn:0<xs.size)(C:c4p P w A.in1 (λi v=>xs[i]?=some v) bt s.heap s.heap.objs.size)
  (K:∀ v h' tk,xs[argBest bt (xs.size-1)]?=some v->(∀ b o,s.heap.get? b=some o->h'.get? b=some o)->Q v { s with heap:=h',toks:=tk }):wpAny (model P w) A (call (.builtin "max") [.ref l]) Q E s:=by
 have nm:(toString "max"++toString ".loop":String) = "max.loop":=by decide
 have ll:l<s.heap.objs.size:=by obtain⟨_,e,_⟩:=hl;exact Γl e
 refine call_function_tree F.kind_max F.plain_max F.entry_max (F.args_max1 _) ?_
 show wpAny _ A.in1 (Builtin.Builtins.bindParams "max" ["key","default"] 0 ⟨[],[]⟩ >>= _) _ _ s
 refine Γa (wpAny_of_eq (show Builtin.Builtins.bindParams "max" ["key","default"] 0 ⟨[],[]⟩=pure [none,none] from rfl) (Γa (Γb (Γa (wpAny_pyIter_tuple hl ?_)))))
 have W:=Walks.tuple (prog:=P) (w:=w) hh s.heap.objs.size l (Γo ll) xs
 refine Γa (wpAny_newObj_type ?_)
 rw[nm]
 have z1:(s.heap.push { cls:=.type "tuple_iterator",data:=.fields #[.ref l,.int 0 0] }).objs.size=s.heap.objs.size+1:=Heap.size_push ..
 refine Γb ⟨plainId_quiet F.plain_max_loop _,a7v (S:=(s.heap.push { cls:=.type "tuple_iterator",data:=.fields #[.ref l,.int 0 0] }).objs.size) W C ?_ ?_ ?_ hn ⟨⟨_,Γc _ (Γm _ rfl),rfl,rfl⟩,(hl.push _).push _⟩
  (λb o hb e=>Γc _ (Γc _ e)) (Γm _ rfl) λv h' tk hv hk=>?_⟩
 ·rw[z1];intro z;simp only[List.mem_cons,List.not_mem_nil,or_false] at z;rcases z with z|z
  ·exact absurd z (Nat.ne_of_gt (Nat.lt_succ_self _))
  ·exact absurd z (Nat.ne_of_gt (Nat.lt_succ_of_lt ll))
 ·intro b hb;simp at hb;rw[hb];exact Γi _
 ·rw[z1];exact Nat.le_succ _
 ·refine K v h' tk hv λb o e=>hk b o (by simp;exact Γo (Γl e)) ?_ (Γc _ (Γc _ e))
  rw[z1];exact Γo (Nat.lt_succ_of_lt (Γl e))
end
noncomputable def b2a (v:FV):Option FV:=(a3i v).bind λxs=>(c6m xs).map .int
noncomputable def c3g (v:FV):Option FV:=(a3i v).bind λxs=>(a1d xs).bind λns=>match ns with
 | n :: r=>some (.int (a1m n r))
 | []=>none
section
variable {X:Cx}
theorem b6m (hc:X.calm=true):a1r X (.builtin "sum") (λxs H Q=>∃ (a:Addr)(ns:List Int),xs=[.ref a]/\SqT X.K H a (ns.map V.int)/\ns.length<=big/\(∀ n∈ns,-(2 ^ 40)<=n/\n<=2 ^ 40)/\Q (.int ns.sum) H):=by
 intro pins s σ H xs us Q I r h
 obtain⟨a,ns,rfl,hq,hz,hb,q⟩:=h
 obtain⟨u,rfl,rx⟩:=a3h r
 cases rx
 obtain⟨its,r',pl,hz'⟩:=I.tuple hq
 have hlen:ns.length=its.length:=by have:=r'.length;simpa using this
 have pt:s.heap.IsTuple a its.toArray:=pl
 have alt:a<s.heap.objs.size:=by obtain⟨_,e,_⟩:=pt;exact Γl e
 have hh:X.A.in1.handled=none:=I.ok.hd hc
 refine call_sum_walk (wpAny_pyIter_tuple pt ?_)
 refine⟨s.heap.objs.size,_,_,_,_,_,λi=>ns.getD i 0,rfl,Walks.tuple hh s.heap.objs.size a (Γo alt) its.toArray,⟨⟨_,Γm _ rfl,rfl,rfl⟩,pt.at λo e=>Γc _ e⟩,?_,?_,?_,?_⟩
 ·intro b hb'
  simp at hb'
  rcases hb' with rfl|rfl
  ·show _<(s.heap.push _).objs.size;rw[Heap.size_push];exact Nat.lt_succ_self _
  ·show _<(s.heap.push _).objs.size;rw[Heap.size_push];exact Nat.lt_succ_of_lt alt
 ·intro i v hv
  have hv:its.toArray[i]?=some v:=hv
  have hi:i<ns.length:=by rw[hlen];simpa using (Array.getElem?_eq_some_iff.mp hv).1
  obtain⟨t,e⟩:=Vals.mapInt r' i hi
  refine⟨t,?_⟩
  have e':its.toArray[i]?=some (.int (ns.getD i 0) t):=by simpa using e
  rw[hv] at e'
  exact Option.some.inj e'
 ·intro j hj
  have hj':j<ns.length:=by rw[hlen];simpa using hj
  have hm:ns.getD j 0∈ns:=by simp[List.getD,hj']
  refine⟨?_,?_⟩
  ·have:=hb _ hm
   show -(2 ^ 63)<=ns.getD j 0/\ns.getD j 0<2 ^ 63
   lia
  ·rw[a1x ns (j+1) hj']
   have b2:=b7s 1099511627776 (by decide) (ns.take (j+1)) λn hn=>by have:=hb n (List.mem_of_mem_take hn);lia
   have l2:(ns.take (j+1)).length<=100000:=by rw[List.length_take];unfold big at hz;lia
   unfold InLong;lia
 ·intro h' tk t' hk
  have e:preSum (λi=>ns.getD i 0) its.toArray.size=ns.sum:=by
   rw[List.size_toArray,<- hlen,a1x ns _ (Γi _),List.take_length]
  rw[e]
  refine⟨.int ns.sum,H,?_,⟨t',rfl⟩,q⟩
  exact I.kept (t':=tk) λb o e=>hk b o (by simp;exact Γo (Γl e)) (Γc _ e)
theorem d4n (hc:X.calm=true):a1r X (.builtin "sum") (Rc X.K b2a):=by
 rintro pins s σ H xs us Q I r ⟨S,v,x,z,rfl,hs,rv,e,k⟩
 cases v with
 | tup ps =>
  obtain⟨n,e3,rfl⟩:=mpd e
  obtain⟨ns,e4,e5⟩:=bnd e3
  obtain⟨hb,rfl⟩:=itd e5
  obtain⟨a,ys,rfl,hq,ry⟩:=rv.tup hs
  cases a1g ry e4
  refine b6m hc pins s σ H _ us Q I r ⟨a,ns,rfl,SqT.of hq,hb.1,λn hn=>?_,k.int⟩
  have:=List.all_eq_true.mp hb.2 n hn
  simpa[a5y] using this
 | lst ps=>exact d4o hc pins s σ H _ us Q I r ⟨S,.lst ps,x,z,rfl,hs,rv,e,k⟩
 | scr ps=>exact d4o hc pins s σ H _ us Q I r ⟨S,.scr ps,x,z,rfl,hs,rv,e,k⟩
 | _=>cases e
theorem d4s (hc:X.calm=true):a1r X (.builtin "max") (Rc X.K c3g):=by
 rintro pins s σ H xs us Q I r ⟨S,v,x,z,rfl,hs,rv,e,k⟩
 cases v with
 | lst ps=>exact c1l hc pins s σ H _ us Q I r ⟨S,.lst ps,x,z,rfl,hs,rv,e,k⟩
 | scr ps=>exact c1l hc pins s σ H _ us Q I r ⟨S,.scr ps,x,z,rfl,hs,rv,e,k⟩
 | tup ps =>
  obtain⟨qs,e0,e2⟩:=bnd e
  cases e0
  obtain⟨ns,e3,e4⟩:=bnd e2
  obtain⟨a,ys,rfl,hq,ry⟩:=rv.tup hs
  have hq:SqT X.K H a ys:=SqT.of hq
  obtain⟨u,rfl,ru⟩:=a3h r
  cases (show u=Value.ref a from ru)
  obtain⟨its,r',pl,hz'⟩:=I.tuple hq
  have hh:X.A.in1.handled=none:=I.ok.hd hc
  have hlen:ys.length=its.length:=r'.length
  cases a1g ry e3
  cases ns with
  | nil=>cases e4
  | cons n r =>
   cases e4
   have hl2:its.length=r.length+1:=by rw[<- hlen];simp
   have it:∀ (i:Nat)(v:Value),its.toArray[i]?=some v->∃ t,v=Value.int ((n :: r).getD i 0) t:=λi v hv=>by
    have hv:its[i]?=some v:=by simpa using hv
    have hi:=(List.getElem?_eq_some_iff.mp hv).1
    obtain⟨t,e⟩:=Vals.mapInt r' i (by simp;lia)
    rw[hv] at e
    exact⟨t,Option.some.inj e⟩
   refine b6o (bt:=λi j=>decide ((n :: r).getD j 0<(n :: r).getD i 0)) hh (show s.heap.IsTuple a its.toArray from pl) (by simp;lia) (λi j u v s1 Q1 E1 _ hi hj q1=>?_) λv h' tk hv hk=>?_
   ·obtain⟨t1,rfl⟩:=it i u hi
    obtain⟨t2,rfl⟩:=it j v hj
    exact PyProof.Rows.gt_int q1
   ·have hv:its[argBest (λi j=>decide ((n :: r).getD j 0<(n :: r).getD i 0)) (its.toArray.size-1)]?=some v:=by simpa using hv
    have hb:=a8z n r r.length (Γi _)
    rw[List.take_length] at hb
    have hsz:its.toArray.size-1=r.length:=by simp;lia
    rw[hsz] at hv
    generalize argBest (λi j=>decide ((n :: r).getD j 0<(n :: r).getD i 0)) r.length=z at hv hb
    obtain⟨t,rfl⟩:=it z v (by simpa using hv)
    rw[List.getD_eq_getElem?_getD,hb]
    exact⟨.int (a1m n r),H,I.kept (t':=tk) hk,⟨t,rfl⟩,k.int⟩
 | _=>cases e
end
section
variable {X:Cx}{C:CC}{n:Nat}{sp:Γd->Nat->Sp}{a:Expr}{ea:EW}{pos p:Pos}
theorem e0o (G:Good X C n sp)(hg:C.gl (Γe "sum")=true)(hs:a0n a=false)(ha:FR X C a ea):FE X C (.Call (.Name (Γe "sum") p) [a] [] pos) (eUn b2a ea):=a7k (d4n G.calm) G (by decide) (by nofun) (by nofun) (by nofun) hg hs ha
theorem e0s (G:Good X C n sp)(hg:C.gl (Γe "max")=true)(hs:a0n a=false)(ha:FR X C a ea):FE X C (.Call (.Name (Γe "max") p) [a] [] pos) (eUn c3g ea):=a7k (d4s G.calm) G (by decide) (by nofun) (by nofun) (by nofun) hg hs ha
end
@[scoped simp ↓] theorem f_sum2 (v:FV)(Q:FV->Prop):wp (b2a v) Q↔wp (a3i v) λxs=>wp (c6m xs) λn=>Q (.int n):=by
 show wp ((a3i v).bind _) Q↔_
 simp only[a2l,a2k]
@[scoped simp ↓] theorem f_maxS (v:FV)(Q:FV->Prop):wp (c3g v) Q↔wp (a3i v) λxs=>wp (a1d xs) λns=>∃ n r,ns=n :: r/\Q (.int (a1m n r)):=by
 show wp ((a3i v).bind _) Q↔_
 simp only[a2l]
 have:∀ ns:List Int,wp (match ns with|n :: r=>some (FV.int (a1m n r))|[]=>none) Q↔∃ n r,ns=n :: r/\Q (.int (a1m n r)):=λns=>by
  cases ns with
  | nil=>exact⟨λh=>h.elim,λ⟨n,r,e,_⟩=>nomatch e⟩
  | cons n r=>exact⟨λh=>⟨n,r,rfl,h⟩,λ⟨n',r',e,h⟩=>by cases e;exact h⟩
 simp only[this]
noncomputable def d9p {α:Type}(xs:List α) (k:Nat)(y:α):List α:=xs.take k++y :: xs.drop k
noncomputable def insF (v:FV)(ys:List FV):Option FV:=match ys with
 | [i,y]=>(a7x v).bind λxs=>(a3o i).bind λk=>if 0<=k/\k<4611686018427387904/\xs.length<big then some (.lst (d9p xs k.toNat y)) else none
 | _=>none
noncomputable def eMethA (f:FV->List FV->Option FV) (i:Nat)(as:AW):EW:=λL Q=>wp (lk L i) λv=>wp (a7x v) λ_=>as L λys L1=>wp (lk L1 i) λx=>wp (f x ys) λz=>Q .non (L1.set i (some z))
section
variable {X:Cx}
theorem Vals.take:∀ {xs:List V}{us:List Value} (k:Nat),Vals xs us->Vals (xs.take k) (us.take k)
 | _,_,0,_=>.nil
 | _,_,k+1,.nil=>.nil
 | _,_,k+1,.cons r t=>.cons r (Vals.take k t)
theorem Vals.drop:∀ {xs:List V}{us:List Value} (k:Nat),Vals xs us->Vals (xs.drop k) (us.drop k)
 | _,_,0,h=>h
 | _,_,k+1,.nil=>.nil
 | _,_,k+1,.cons r t=>Vals.drop k t
end
section
variable {K:Γd}{S:Hp}
theorem RVs.ins {ps:List FV}{vs:List V}{p:FV}{v:V} (k:Nat)(h:RVs K S ps vs)(hp:RV K S p v):RVs K S (d9p ps k p) (d9p vs k v) :=
 (h.take k).append (show RVs K S (p :: ps.drop k) (v :: vs.drop k) from ⟨v,_,rfl,hp,h.drop k⟩)
end
section
variable {X:Cx}{C:CC}{n:Nat}{sp:Γd->Nat->Sp}{a b:Expr}{as:AW}{nx:Str}{p:Pos}{i:Nat}
end
end Kq
end
section
namespace PySem
open Sem (wp)
end PySem
namespace Kq
open PySem PySem.Spec PyProof.Rows L2
section
variable {P:Program}{w:World}{A:Around}{R:Result->Shared->Prop}{H:Hp}{h0:Heap}{it l D:Addr}{items:Array Value}
end
section
variable {X:Cx}{pins:List (Addr×Obj)}{σ:L2.St}{H:Hp}{s:Shared}{A:Around}{E:Value->Shared->Prop}
end
end Kq
end
section
namespace Kq
open PySem PySem.Spec PyProof.Rows L2
noncomputable def d2k:FV->Option (List Int×FV)
 | .tup [.tup ks,v]=>(a1d ks).map λk=>(k,v)
 | _=>none
noncomputable def c5f:List FV->Option (List (List Int×FV))
 | []=>some []
 | x :: r=>(d2k x).bind λp=>(c5f r).map λq=>p :: q
noncomputable def b8j {α:Type}:List (List Int×α)->List (List Int)->List α->List (List Int)×List α
 | [],ks,vs=>(ks,vs)
 | p :: r,ks,vs=>b8j r (a3k ks vs p.1 p.2).1 (a3k ks vs p.1 p.2).2
noncomputable def dictF (v:FV):Option FV:=(a2c v).bind λxs=>(c5f xs).bind λps=>some (.dct (b8j ps [] []).1 (b8j ps [] []).2)
section
variable {K:Γd}{S:Hp}
end
section
variable {X:Cx}
end
section
variable {X:Cx}{C:CC}{n:Nat}{sp:Γd->Nat->Sp}{a b:Expr}{ea eb:EW}{pos p:Pos}
end
noncomputable def iZipN (i:Nat)(eb:EW):AW:=λL Q=>wp (lk L i) λ_=>eb L λy L1=>wp (lk L1 i) λx=>wp (a3i x) λxs=>wp (a3i y) λys=>Q (a2v xs ys) L1
section
variable {X:Cx}{C:CC}{n:Nat}{sp:Γd->Nat->Sp}{b:Expr}{eb:EW}{pos p p2 tp:Pos}{i kk:Nat}{nx:Str}{elts:List Expr}
end
end Kq
end
section
namespace L2
open PySem PySem.Spec PyProof.Rows
noncomputable def d5d (h:Heap)(z TI TO:Addr)(f m:Value):Prop:=h.get? z=some { cls:=.type "zip",data:=.fields #[f,m,.bool false,.ref TI,.ref TO] }
section
variable {P:Program}{w:World}{A:Around}{E:Value->Shared->Prop}{s:Shared}{z TI TO:Addr}{f m:Value}
end
section
variable {P:Program}{w:World}{A:Around}{E:Value->Shared->Prop}{s:Shared}{p q:Bool}{z TI TO i1 i2 l1 l2:Addr}{k1 k2:Nat}{xs ys:Array Value}{x y a b f m:Value}
end
section
variable {X:Cx}
end
end L2
end
section
namespace Kq
open PySem PySem.Spec PyProof.Rows L2
section
variable {X:Cx}{C:CC}{n:Nat}{sp:Γd->Nat->Sp}{a b:Expr}{ea eb:EW}{pos p tp:Pos}{nt:Str}
end
noncomputable def d2v (o:HO):Prop:=∀ xs,o≠.tup xs
mutual
noncomputable def noL:FV->Bool
 | .lst _=>false
 | .scr _=>false
 | .tup xs=>d0m xs
 | .dct _ _=>false
 | .dci _ _=>false
 | .dcz _ _ _=>false
 | _=>true
noncomputable def d0m:List FV->Bool
 | []=>true
 | x :: r=>noL x && d0m r
end
noncomputable def eCallL (call:CW) (f:Nat)(a:AW):EW:=λL Q=>a L λxs L1=>call f xs λz=>noL z.1=true/\Q z.1 L1
noncomputable def eCallM (call:CW) (f:Nat)(a:AW):EW:=λL Q=>a L λxs L1=>call f xs λz=>wp (a7x z.1) λps=>d0m ps=true/\Q z.1 L1
noncomputable def RHs (K:Γd)(S H:Hp)(os:List Addr):List FV->List V->Prop
 | [],vs=>vs=[]
 | p :: ps,vs=>∃ v r,vs=v :: r/\(RV K S p v ∨ ∃ a,v=.ref a/\a∈os/\a3z K S H a p)/\RHs K S H os ps r
section
variable {K:Γd}{S H S' H':Hp}{os os':List Addr}
theorem RHs.more:∀ {ps:List FV}{vs:List V},RHs K S H os ps vs->(∀ a∈os,a∈os')->RHs K S H os' ps vs
 | [],vs,h,_=>h
 | p :: ps,vs,⟨v,r,e,h1,h2⟩,k=>⟨v,r,e,h1.imp_right λ⟨a,e,m,o⟩=>⟨a,e,k a m,o⟩,RHs.more h2 k⟩
noncomputable def c8i (S:Hp)(os:List Addr):Hp:=λa=>if a∈os then none else S a
mutual
theorem RV.less {K:Γd}{S:Hp}{os:List Addr}(h:∀ a∈os,∃ o,S a=some o/\d2v o):∀ {p:FV}{v:V},noL p=true->RV K S p v->RV K (c8i S os) p v
 | .non,v,_,e=>e
 | .bl b,v,_,e=>e
 | .int i,v,_,e=>e
 | .str _,v,_,e=>e
 | .shn _,v,_,e=>e
 | .tup ps,v,n,⟨a,xs,e,h1,h2⟩=>⟨a,xs,e,by
   unfold c8i
   rw[if_neg λm=>by obtain⟨zs,z,n⟩:=h a m;rw[z] at h1;cases h1;exact n _ rfl];exact h1,RVs.less h (by simpa[noL] using n) h2⟩
 | .dct ks vs,v,n,_=>by simp[noL] at n
 | .dci ks vs,v,n,_=>by simp[noL] at n
 | .dcz _ ks vs,v,n,_=>by simp[noL] at n
 | .lst ps,v,n,_=>by simp[noL] at n
 | .scr ps,v,n,_=>by simp[noL] at n
theorem RVs.less {K:Γd}{S:Hp}{os:List Addr}(h:∀ a∈os,∃ o,S a=some o/\d2v o):∀ {ps:List FV}{vs:List V},d0m ps=true->RVs K S ps vs->RVs K (c8i S os) ps vs
 | [],vs,_,e=>e
 | p :: ps,vs,n,⟨v,r,e,h1,h2⟩=>by
  have n:noL p=true/\d0m ps=true:=by simpa[d0m] using n
  exact⟨v,r,e,RV.less h n.1 h1,RVs.less h n.2 h2⟩
end
variable {c:Cn}{md:Md}{L:a0c}{σ:L2.St}
end
section
variable {X:Cx}{C:CC}{n:Nat}{sp:Γd->Nat->Sp}{a:Expr}{ea:EW}{pos p:Pos}{call:CW}{f i:Nat}{nx:Str}{xs:List Expr}{as:AW}
end
noncomputable def revF (v:FV):Option FV:=(a7x v).map λxs=>.lst xs.reverse
noncomputable def eMeth0 (f:FV->Option FV) (i:Nat):EW:=λL Q=>wp (lk L i) λx=>wp (f x) λz=>Q .non (L.set i (some z))
section
variable {X:Cx}{C:CC}{n:Nat}{sp:Γd->Nat->Sp}{pos p:Pos}{call:CW}{f i:Nat}{nx:Str}
end
end Kq
end
section
namespace Kq
open PySem PySem.Spec PyProof.Rows L2 PySem.W
noncomputable def Lv {α:Type} (n:Nat)(P:α->Prop):KasT α->Prop
 | .ret a=>P a
 | .ask i j k=>i<n/\j<n/\∀ b,Lv n P (k b)
theorem Lv.mono {α:Type}{n:Nat}{P P':α->Prop}(h:∀ a,P a->P' a):∀ {t:KasT α},Lv n P t->Lv n P' t
 | .ret a,x=>h a x
 | .ask i j k,x=>⟨x.1,x.2.1,λb=>Lv.mono h (x.2.2 b)⟩
theorem Lv.bind {α β:Type}{n:Nat}{P:α->Prop}{P':β->Prop}{f:α->KasT β}(h:∀ a,P a->Lv n P' (f a)):∀ {t:KasT α},Lv n P t->Lv n P' (t.bind f)
 | .ret a,x=>h a x
 | .ask i j k,x=>⟨x.1,x.2.1,λb=>Lv.bind h (x.2.2 b)⟩
section
variable {n:Nat}
end
noncomputable def IntTup (h:Heap)(v:Value):Prop:=∃ (a:Addr)(o:Obj)(us:List Value) (n:Nat) (k:Int)(ks:List Int),v=.ref a/\h.get? a=some o/\o.cls=.type "tuple"/\o.data=.seq us.toArray n/\Vals ((k :: ks).map V.int) us
theorem IntTup.keep {h h':Heap}{v:Value}(x:IntTup h v)(k:∀ b o,h.get? b=some o->h'.get? b=some o):IntTup h' v:=by
 obtain⟨a,o,us,n,i,ks,e,h1,h2⟩:=x
 exact⟨a,o,us,n,i,ks,e,k _ _ h1,h2⟩
section
variable {prog:Program}{w:World}{A:Around}{E:Value->Shared->Prop}{s:Shared}{vs:List Value}
end
end Kq
end
section
namespace Kq
open PySem PySem.Spec PyProof.Rows L2
noncomputable def b7m:List FV->Bool
 | []=>true
 | .tup ps :: r=>(match a1d ps with|some (_ :: _)=>true|_=>false) && b7m r
 | _=>false
noncomputable def e2q (a:EW):EW:=λL Q=>a L λv L1=>wp (a2c v) λxs=>b7m xs=true/\2<=xs.length/\xs.length<64/\∀ ys:List FV,ys.Perm xs->Q (.lst ys) L1
theorem Vals.perm {us us':List Value}(p:us'.Perm us):∀ {ys:List V},Vals ys us->∃ zs,zs.Perm ys/\Vals zs us':=by
 induction p with
 | nil=>intro ys h;exact⟨ys,.refl _,h⟩
 | cons x p ih =>
  intro ys h
  cases h with
  | @cons y _ ys' _ r h =>
  obtain⟨zs,e,g⟩:=ih h
  exact⟨y :: zs,e.cons y,.cons r g⟩
 | swap x y l =>
  intro ys h
  cases h with
  | @cons a _ ys' _ r h =>
  cases h with
  | @cons b _ ys'' _ r' h =>
  exact⟨b :: a :: ys'',.swap a b ys'',.cons r' (.cons r h)⟩
 | trans p q ih1 ih2 =>
  intro ys h
  obtain⟨zs,e,g⟩:=ih2 h
  obtain⟨ws,e',g'⟩:=ih1 g
  exact⟨ws,e'.trans e,g'⟩
section
variable {K:Γd}{S:Hp}
theorem RVs.perm {vs vs':List V}(p:vs'.Perm vs):∀ {ps:List FV},RVs K S ps vs->∃ qs,qs.Perm ps/\RVs K S qs vs':=by
 induction p with
 | nil=>intro ps h;exact⟨ps,.refl _,h⟩
 | cons x p ih =>
  intro ps h
  cases ps with
  | nil=>cases h
  | cons q ps =>
   obtain⟨v,r,e,h1,h2⟩:=h
   cases e
   obtain⟨zs,e,g⟩:=ih h2
   exact⟨q :: zs,e.cons q,_,_,rfl,h1,g⟩
 | swap x y l =>
  intro ps h
  cases ps with
  | nil=>cases h
  | cons a ps =>
   obtain⟨v,r,e,h1,h2⟩:=h
   cases e
   cases ps with
   | nil=>cases h2
   | cons b ps =>
    obtain⟨v2,r2,e2,h3,h4⟩:=h2
    cases e2
    exact⟨b :: a :: ps,.swap a b ps,_,_,rfl,h3,_,_,rfl,h1,h4⟩
 | trans p q ih1 ih2 =>
  intro ps h
  obtain⟨zs,e,g⟩:=ih2 h
  obtain⟨ws,e',g'⟩:=ih1 g
  exact⟨ws,e'.trans e,g'⟩
end
section
variable {X:Cx}
end
section
variable {X:Cx}{C:CC}{n:Nat}{sp:Γd->Nat->Sp}{a:Expr}{ea:EW}{pos p:Pos}
end
theorem c2n (ks:List Int)(us:List V) (k:Int)(u:V)(hl:ks.length=us.length):a5g ((a3y ks).zip us) (Sum.inl k) u=(a3y (a3k ks us k u).1).zip (a3k ks us k u).2:=by
 have hany:(((a3y ks).zip us).any λkv=>decide (kv.1=Sum.inl k))=true↔k∈ks:=by
  rw[a5m,a5v,a2b k hl]
 unfold a5g a3k
 by_cases e:k∈ks
 ·rw[if_pos (hany.mpr e),if_pos e]
  clear e hany
  induction ks generalizing us with
  | nil=>cases us<;>rfl
  | cons k' ks ih=>cases us with
   | nil=>rfl
   | cons u' us =>
    have:=ih us (by simpa using hl)
    show (if (Sum.inl k':Int ⊕ Str)=Sum.inl k then (Sum.inl k',u) else (Sum.inl k',u')) :: ((a3y ks).zip us).map _=(Sum.inl k',if k'=k then u else u') :: (a3y ks).zip _
    rw[this]
    congr 1
    by_cases e:k'=k
    ·subst e;simp
    ·rw[if_neg λz=>e (Sum.inl.inj z),if_neg e]
 ·rw[if_neg λz=>e (hany.mp z),if_neg e]
  show _=(a3y (ks++[k])).zip (us++[u])
  have:a3y (ks++[k])=a3y ks++[Sum.inl k]:=by simp[a3y]
  rw[this,List.zip_append (by simpa[a3y] using hl)];rfl
theorem b9y {κ α β:Type} [DecidableEq κ] {ks:List κ}{vs:List α}{us:List β}{k:κ}(h1:ks.length=vs.length)(h2:ks.length=us.length)(h:a2f ks vs k=none):a2f ks us k=none:=by
 have a:=a2b (α:=α) k h1
 have b:=a2b (α:=β) k h2
 cases e:a2f ks us k with
 | none=>rfl
 | some u =>
  rw[e] at b
  have:=a.mpr (b.mp rfl)
  rw[h] at this;cases this
noncomputable def e2w (v w:FV):Option (Option FV):=match v with
 | .dct ks vs=>(a7d w).bind λps=>(a1d ps).bind λk=>some (a2f ks vs k)
 | .dci ks vs=>(a3o w).bind λk=>some (a2f ks vs k)
 | .dcz _ ks vs=>(a7d w).bind λps=>(a1d ps).bind λk=>some (a2f ks vs k)
 | _=>none
noncomputable def dgF (v w:FV):Option FV:=(e2w v w).bind id
noncomputable def c0o (v w:FV):Option FV:=(e2w v w).map λo=>o.getD .non
noncomputable def d5k:FV->Option Unit
 | .dct _ _=>some ()
 | .dci _ _=>some ()
 | _=>none
noncomputable def c4d (v j x:FV):Option FV:=match v with
 | .dct ks vs=>(a7d j).bind λps=>(a1d ps).bind λk=>if ks.length<big then some (.dct (a3k ks vs k x).1 (a3k ks vs k x).2) else none
 | .dci ks vs=>(a3o j).bind λk=>if ks.length<big then some (.dci (a3k ks vs k x).1 (a3k ks vs k x).2) else none
 | _=>none
noncomputable def RO (K:Γd)(S:Hp):Option FV->Option V->Prop
 | none,o=>o=none
 | some p,o=>∃ u,o=some u/\RV K S p u
section
variable {X:Cx}{K:Γd}{S H:Hp}
theorem b8b {κ:Type} [DecidableEq κ] {ks:List κ}{vs:List FV}{us:List V}{k:κ}(h1:ks.length=vs.length)(r:RVs K S vs us):RO K S (a2f ks vs k) (a2f ks us k):=by
 cases e:a2f ks vs k with
 | none=>exact b9y h1 (by rw[h1,r.length]) e
 | some p=>exact a9l r e
theorem RH.dcz {o:Obj}{ks:List (List Int)}{vs:List FV}{x:V}(hs:Same S H)(r:RH K S H (.dcz o ks vs) x):∃ a us,x=.ref a/\ks.length=vs.length/\H a=some (.frz o (.dT ((a1y ks).zip us)))/\RVs K S vs us:=by
 rcases r with⟨a,xs,e,h0,h1,h2⟩|⟨a,e,_,qs,xs,e2,h1,h2⟩
 ·exact⟨a,xs,e,h0,hs _ _ h1,h2⟩
 ·obtain⟨hl,rfl⟩:=itd e2
  exact⟨a,xs,e,hl,h1,h2⟩
theorem c0n {v w:FV}{x y:V}{o:Option FV}(hs:Same S H)(rv:RH K S H v x)(rw':RH K S H w y)(e:e2w v w=some o):∃ a o',x=.ref a/\L2.DGet H a y o'/\RO K S o o':=by
 cases v with
 | dct ks vs =>
  obtain⟨ps,e1,e2⟩:=bnd e
  obtain⟨k,e3,e4⟩:=bnd e2
  cases a1s e1
  cases e4
  obtain⟨a,us,rfl,hl,h1,h2⟩:=rv.dct hs
  obtain⟨b,rfl,hb⟩:=b0x (rw'.val rfl) e3
  refine⟨a,a2f ks us k,rfl,?_,b8b hl h2⟩
  rw[<- a6q]
  exact .t h1 (hs _ _ hb)
 | dci ks vs =>
  obtain⟨k,e3,e4⟩:=bnd e
  cases a0t e3
  cases e4
  cases rw'.int
  obtain⟨a,us,rfl,hl,h1,h2⟩:=rv.dci hs
  refine⟨a,a2f ks us k,rfl,?_,b8b hl h2⟩
  rw[<- a5v]
  exact .k (k:=Sum.inl k) h1
 | dcz o ks vs =>
  obtain⟨ps,e1,e2⟩:=bnd e
  obtain⟨k,e3,e4⟩:=bnd e2
  cases a1s e1
  cases e4
  obtain⟨a,us,rfl,hl,h1,h2⟩:=rv.dcz hs
  obtain⟨b,rfl,hb⟩:=b0x (rw'.val rfl) e3
  refine⟨a,a2f ks us k,rfl,?_,b8b hl h2⟩
  rw[<- a6q]
  exact .inr ⟨_,_,b,.inr ⟨o,h1⟩,rfl,hs _ _ hb,rfl⟩
 | _=>cases e
theorem c8s {v:FV}{x:V}{u:Unit}(hs:Same S H)(rv:RH K S H v x)(e:d5k v=some u):∃ a,x=.ref a/\L2.IsD H a:=by
 cases v with
 | dct ks vs =>
  obtain⟨a,us,rfl,hl,h1,h2⟩:=rv.dct hs
  exact⟨a,rfl,.inr ⟨_,.inl h1⟩⟩
 | dci ks vs =>
  obtain⟨a,us,rfl,hl,h1,h2⟩:=rv.dci hs
  exact⟨a,rfl,.inl ⟨_,.inl h1⟩⟩
 | _=>cases e
end
noncomputable def c9n (i:Nat)(b:EW):EW:=λL Q=>wp (lk L i) λv=>wp (d5k v) λ_=>b L λy L1=>wp (lk L1 i) λx=>wp (c0o x y) λz=>Q z L1
noncomputable def c6t (k:Nat)(i e:EW):SW:=λL Q=>wp (lk L k) λ_=>e L λx L1=>i L1 λj L2=>wp (lk L2 k) λy=>wp (c4d y j x) λz=>Q .next (L2.set k (some z))
noncomputable def c0j (ek ev:EW):EW:=λL Q=>ek L λk L1=>ev L1 λv L2=>wp (a3o k) λi=>Q (.dci [i] [v]) L2
section
variable {K:Γd}{c:Cn}{md:Md}{L:a0c}{σ:L2.St}{S H:Hp}
theorem Iv.writeV (I:Iv K c md L σ S H){i:Nat}{v w:FV}{a:Addr}{ps:List FV}{xs:List V}(m:a0q md i=.own)(e:L[i]?=some (some v))(e1:σ[i]?=some (some (.ref a)))(hw:d8u w=some ps)(r:RVs K S ps xs) :
  Iv K c md (L.set i (some w)) σ S (upd H a (d5g w xs)):=by
 obtain⟨a',e1',⟨h1,_⟩,_⟩:=I.own i v (λz=>by rw[m] at z;cases z) e
 rw[e1] at e1';cases e1'
 exact I.back m e e1 (Same.refl S) (λb o z=>by rw[a0g λy=>by subst y;rw[h1] at z;cases z];exact I.sub b o z) (λb o z=>.inl z) (λb o z n=>by rw[a0g n];exact z) ⟨h1,ps,xs,hw,a0h,r⟩
theorem c4c {i:Nat}{v j x z:FV}{a:Addr}{y u:V}(I:Iv K c md L σ S H)(m:a0q md i=.own)(e:L[i]?=some (some v))(e1:σ[i]?=some (some (.ref a)))(rj:RV K S j y)(rx:RV K S x u)(h:c4d v j x=some z):∃ H',L2.DPut H a y u H'/\Iv K c md (L.set i (some z)) σ S H':=by
 obtain⟨a',f1,⟨o1,ps,us,e9,o2,o3⟩,_⟩:=I.own i v (λz=>by rw[m] at z;cases z) e
 rw[e1] at f1;cases f1
 have hbl:=a1q
 cases v with
 | dct ks vs =>
  obtain⟨qs,g1,h⟩:=bnd h
  obtain⟨k,g2,h⟩:=bnd h
  obtain⟨hb,rfl⟩:=itd h
  obtain⟨hl,rfl⟩:=itd e9
  cases a1s g1
  obtain⟨b,rfl,hkb⟩:=b0x rj g2
  have hu:ks.length=us.length:=by rw[hl,o3.length]
  obtain⟨p1,p2⟩:=a8v (ks:=ks) (k:=k) o3 rx
  refine⟨_,.t o2 (I.sub _ _ hkb) (by simp[a1y];lia),?_⟩
  rw[b8h ks us k u hu,<- p1]
  exact I.writeV (w:=.dct _ _) m e e1 (if_pos (a5p ks _ k x hl).1) p2
 | dci ks vs =>
  obtain⟨k,g2,h⟩:=bnd h
  obtain⟨hb,rfl⟩:=itd h
  obtain⟨hl,rfl⟩:=itd e9
  cases a0t g2
  cases (show y=V.int k from rj)
  have hu:ks.length=us.length:=by rw[hl,o3.length]
  obtain⟨p1,p2⟩:=a8v (ks:=ks) (k:=k) o3 rx
  refine⟨_,.k (k:=Sum.inl k) o2 (by simp[a3y];lia),?_⟩
  rw[c2n ks us k u hu,<- p1]
  exact I.writeV (w:=.dci _ _) m e e1 (if_pos (a5p ks _ k x hl).1) p2
 | _=>cases h
end
section
variable {X:Cx}{C:CC}{n:Nat}{sp:Γd->Nat->Sp}{fr:Bool}{a b:Expr}{ea eb:EW}{pos p px:Pos}{i:Nat}{nx:Str}
theorem d5s (ha:FE X C a ea)(hb:FE X C b eb):FF X C (.Dict [some a] [b] pos) (c0j ea eb):=PE.imp (c7r (c2r ha hb c7k) rfl rfl (by simp) (by simp)) λσ H Q ⟨c,L,S,Q0,I,h,k⟩=>λp hp=>by
 have fr0:=I.fresh hp
 have I0:=I.lay hp (.dK [])
 have I1:=I0.prot (a:=p) (o:=.dK []) a0h (I.sn hp) λy u hy hu=>fr0.2.2 y u (λz=>by rw[hy] at z;cases z) hu
 refine⟨_,L,S,_,I1,h,λv L1 q x S1 H1 r1 J1 s1=>⟨_,L1,S1,_,J1,q,λw L2 q2 y S2 H2 r2 J2 s2=>?_⟩⟩
 obtain⟨kk,e,q2⟩:=wpx q2
 cases a0t e
 cases (show x=V.int kk from r1)
 obtain⟨g1,g2,g3⟩:=J2.prs (p,.dK []) Γn
 refine⟨g1,[(Sum.inl kk,y)],rfl,by simp,?_⟩
 have J3:=J2.regrow (o':=.dK (a7w [] [(Sum.inl kk,y)])) (I.h0 hp) (λq hq=>fr0.2.1 q hq) I.fzp
 have J4:=J3.unprot I.fzp
 obtain⟨_,f2,f3⟩:=J3.prs _ Γn
 refine k _ L2 q2 p S2 _ ⟨f2,[w],[y],rfl,a0h,RVs.one r2⟩ ⟨I.h0 hp,fr0.2.1,λz u hz hu hs=>?_⟩ J4 (s1.trans s2)
 by_cases mo:a0q C.md z=.own
 ·exact f3 z u mo hu hs
 ·have mo:a0q C.md z=.frz:=by cases t:a0q C.md z with|imm=>exact absurd t hz|own=>exact absurd t mo|frz=>rfl
  obtain⟨b',h1⟩:=J4.fzm z u mo hu
  obtain⟨_,h2,_⟩:=J4.fzs _ h1
  rw[hs] at h2;cases h2
  obtain⟨ys,h3⟩:=I.fzp _ h1
  exact fr0.2.1 _ h3 rfl
theorem fe_dgN (G:Good X C n sp)(hs:a4d b=false)(h:C.nm i nx=true)(hb:FR X C b eb):FE X C (.Subscript (.Name nx p) b pos) (b6y dgF i eb):=PE.imp (b8r (X:=X.nox) (by have:=G.room.units;show X.A.units+1<cLine;lia) (a2u G h) hb (a8w hs)) λσ H Q ⟨c,L,S,Q0,I,h,k⟩=>by
 obtain⟨v0,e,h⟩:=wpx h
 obtain⟨x,e1,_⟩:=I.rd e
 refine⟨x,e1,c,L,S,_,I,h,λw L2 hw y S2 H2 r2 I2 s2=>?_⟩
 obtain⟨v,e2,q⟩:=wpx hw
 obtain⟨x',e3,r1⟩:=I2.rd e2
 rw[e1] at e3;cases e3
 obtain⟨z,e4,q⟩:=wpx q
 obtain⟨o,e5,e6⟩:=bnd e4
 obtain⟨a,o',rfl,g,ro⟩:=c0n I2.sub r1 r2 e5
 cases (show o=some z from e6)
 obtain⟨u,rfl,r5⟩:=ro
 exact⟨a,u,rfl,g,k z L2 q u S2 H2 r5 I2 s2⟩
theorem e0v (G:Good X C n sp){apos cpos:Pos}(h:C.nm i nx=true)(hl:d6f apos cpos=true)(hs:a0n b=false)(hb:FR X C b eb):FE X C (.Call (.Attribute (.Name nx p) (Γe "get") apos) [b] [] cpos) (c9n i eb):=by
 refine PE.imp (c2v (X:=X.nox) (by have:=G.room.units;show X.A.units+1<cLine;lia) (a2u G h) hb ⟨rfl,by rw[a0d hs];rfl,hl,by rw[a0d hs];rfl⟩) λσ H Q ⟨c,L,S,Q0,I,h,k⟩=>?_
 obtain⟨v0,e,h⟩:=wpx h
 obtain⟨u0,e0,h⟩:=wpx h
 obtain⟨x,e1,r0⟩:=I.rd e
 obtain⟨a,rfl,hd⟩:=c8s I.sub r0 e0
 refine⟨_,e1,a,rfl,hd,c,L,S,_,I,h,λw L2 hw y S2 H2 r2 I2 s2=>?_⟩
 obtain⟨v,e2,q⟩:=wpx hw
 obtain⟨x',e3,r1⟩:=I2.rd e2
 rw[e1] at e3;cases e3
 obtain⟨z,e4,q⟩:=wpx q
 obtain⟨o,e5,rfl⟩:=mpd e4
 obtain⟨a',o',e6,g,ro⟩:=c0n I2.sub r1 r2 e5
 cases e6
 refine⟨o',g,k _ L2 q _ S2 H2 ?_ I2 s2⟩
 cases o with
 | none=>cases (show o'=none from ro);exact rfl
 | some q=>obtain⟨u,rfl,r5⟩:=ro;exact r5
theorem e0c (G:Good X C n sp)(hn:C.nm i nx=true)(m:a0q C.md i=.own)(hc:(!a8d a && !a4d b)=true)(ha:FE X C a ea)(hb:FE X C b eb):FS X C fr (.Assign [.Subscript (.Name nx px) b p] a pos) (c6t i eb ea):=by
 have hc:=b2 hc
 refine PS.imp (c7j (X:=X.nox) (by have:=G.room.units;show X.A.units+1<cLine;lia) (a2u (pos:=px) G hn) hb ha (a4i (nb hc.1))) λD σ H ⟨c,L,S,Q0,I,h,k⟩=>?_
 have mi:a0q C.md i≠.imm:=λz=>by rw[m] at z;cases z
 obtain⟨v0,e,h⟩:=wpx h
 obtain⟨l,e1,_⟩:=I.own i v0 mi ((a4l _ _ _).mp e)
 refine⟨c,L,S,_,I,h,λv L1 q x S1 H1 r1 I1 s1=>⟨_,e1,c,L1,S1,_,I1,q,λw L2 q y S2 H2 r2 I2 s2=>?_⟩⟩
 obtain⟨v1,e2,q2⟩:=wpx q
 obtain⟨z,e3,q3⟩:=wpx q2
 have e2:=(a4l _ _ _).mp e2
 obtain⟨H3,g,I3⟩:=c4c I2 m e2 e1 r2 (r1.mono s2) e3
 exact⟨l,H3,rfl,g,k .next _ q3 σ S2 _ I3 (s1.trans s2)⟩
end
section
variable (Q:FV->Prop) (i:Nat)(L:a0c)
@[scoped simp ↓] theorem d6b (b:EW)(Q:FV->a0c->Prop):c9n i b L Q=(wp (lk L i) λv=>wp (d5k v) λ_=>b L λy L1=>wp (lk L1 i) λx=>wp (c0o x y) λz=>Q z L1):=propext Iff.rfl
@[scoped simp ↓] theorem d5e (k:Nat)(i e:EW)(Q:FFl->a0c->Prop):c6t k i e L Q=(wp (lk L k) λ_=>e L λx L1=>i L1 λj L2=>wp (lk L2 k) λy=>wp (c4d y j x) λz=>Q .next (L2.set k (some z))):=propext Iff.rfl
@[scoped simp ↓] theorem d3z (ek ev:EW)(Q:FV->a0c->Prop):c0j ek ev L Q=(ek L λk L1=>ev L1 λv L2=>wp (a3o k) λi=>Q (.dci [i] [v]) L2):=propext Iff.rfl
@[scoped simp ↓] theorem isD_i (ks:List Int)(vs:List FV)(Q:Unit->Prop):wp (d5k (.dci ks vs)) Q=Q ():=propext Iff.rfl
@[scoped simp ↓] theorem k_dgi (ks:List Int)(vs:List FV) (k:Int):wp (dgF (.dci ks vs) (.int k)) Q=wp (a2f ks vs k) Q:=propext Iff.rfl
@[scoped simp ↓] theorem k_dg1i (ks:List Int)(vs:List FV) (k:Int):wp (c0o (.dci ks vs) (.int k)) Q=Q ((a2f ks vs k).getD .non):=propext Iff.rfl
@[scoped simp ↓] theorem d9m (ks:List Int)(vs:List FV) (k:Int)(x:FV):wp (c4d (.dci ks vs) (.int k) x) Q↔ks.length<big/\Q (.dci (a3k ks vs k x).1 (a3k ks vs k x).2):=a3f _ _ _
end
section
variable {P:Program}{w:World}{A:Around}{E:Value->Shared->Prop}{s:Shared}
end
section
variable {X:Cx}
theorem d2u:∀ {us:List Value}{ns:List Int},IntsAre us ns->Vals (ns.map V.int) us
 | _,_,.nil=>.nil
 | _,_,.cons n t h=>.cons ⟨t,rfl⟩ (d2u h)
end
noncomputable def eSortI (a:EW):EW:=λL Q=>a L λv L1=>wp (a2c v) λxs=>wp (a1d xs) λns=>ns.length<64/\∀ ms:List Int,ms.Perm ns->ms.Pairwise (·<=·)->Q (.lst (ms.map .int)) L1
section
variable {X:Cx}{C:CC}{n:Nat}{sp:Γd->Nat->Sp}{a:Expr}{ea:EW}{pos p:Pos}
end
noncomputable def b5l (v:FV):Option FV:=(a2c v).bind λxs=>(a1d xs).map λns=>.int ns.sum
section
variable {X:Cx}
theorem c1j (hc:X.calm=true):a1r X (.builtin "sum") (λxs H Q=>∃ (a:Addr)(ns:List Int),xs=[.ref a]/\SqL X.K H a (ns.map V.int)/\Q (.int ns.sum) H):=by
 intro pins s σ H xs us Q I r h
 obtain⟨a,ns,rfl,hq,q⟩:=h
 obtain⟨u,rfl,rx⟩:=a3h r
 cases rx
 obtain⟨its,r',pl,hz'⟩:=I.list hq
 have hlen:ns.length=its.length:=by have:=r'.length;simpa using this
 have alt:a<s.heap.objs.size:=by obtain⟨_,e,_⟩:=pl.isList;exact Γl e
 have hh:X.A.in1.handled=none:=I.ok.hd hc
 refine call_sum_walkG (wpAny_pyIter_list pl.isList ?_)
 refine⟨s.heap.objs.size,_,_,_,_,_,λi=>ns.getD i 0,rfl,Walks.list hh s.heap.objs.size a (Γo alt) its.toArray,⟨⟨_,Γm _ rfl,rfl,rfl⟩,pl.isList.at λo e=>Γc _ e⟩,?_,?_,?_⟩
 ·intro b hb'
  simp at hb'
  rcases hb' with rfl|rfl
  ·show _<(s.heap.push _).objs.size;rw[Heap.size_push];exact Nat.lt_succ_self _
  ·show _<(s.heap.push _).objs.size;rw[Heap.size_push];exact Nat.lt_succ_of_lt alt
 ·intro i v hv
  have hv:its.toArray[i]?=some v:=hv
  have hi:i<ns.length:=by rw[hlen];simpa using (Array.getElem?_eq_some_iff.mp hv).1
  obtain⟨t,e⟩:=Vals.mapInt r' i hi
  refine⟨t,?_⟩
  have e':its.toArray[i]?=some (.int (ns.getD i 0) t):=by simpa using e
  rw[hv] at e'
  exact Option.some.inj e'
 ·intro h' tk t' hk
  have e:preSum (λi=>ns.getD i 0) its.toArray.size=ns.sum:=by
   rw[List.size_toArray,<- hlen,a1x ns _ (Γi _),List.take_length]
  rw[e]
  refine⟨.int ns.sum,H,?_,⟨t',rfl⟩,q⟩
  exact I.kept (t':=tk) λb o e=>hk b o (by simp;exact Γo (Γl e)) (Γc _ e)
theorem d4m (hc:X.calm=true):a1r X (.builtin "sum") (Rc X.K b5l):=by
 rintro pins s σ H xs us Q I r ⟨S,v,x,z,rfl,hs,rv,e,k⟩
 obtain⟨ps,e1,e2⟩:=bnd e
 obtain⟨ns,e3,rfl⟩:=mpd e2
 obtain⟨a,ys,rfl,hq,ry⟩:=rv.list hs e1
 cases a1g ry e3
 exact c1j hc pins s σ H _ us Q I r ⟨a,ns,rfl,hq,k.int⟩
end
section
variable {X:Cx}{C:CC}{n:Nat}{sp:Γd->Nat->Sp}{a:Expr}{ea:EW}{pos p:Pos}
theorem e0n (G:Good X C n sp)(hg:C.gl (Γe "sum")=true)(hs:a0n a=false)(ha:FR X C a ea):FE X C (.Call (.Name (Γe "sum") p) [a] [] pos) (eUn b5l ea):=a7k (d4m G.calm) G (by decide) (by nofun) (by nofun) (by nofun) hg hs ha
end
@[scoped simp ↓] theorem f_sumG (v:FV)(Q:FV->Prop):wp (b5l v) Q↔wp (a2c v) λxs=>wp (a1d xs) λns=>Q (.int ns.sum):=by
 show wp ((a2c v).bind _) Q↔_;rw[a2l];simp only[a2k]
end Kq
end
section
namespace L2
open PySem PySem.Spec PyProof.Rows
noncomputable def ZSt (p q:Bool)(z TI TO i1 i2 a b:Addr) (i:Nat)(h:Heap):Prop:=(∃ f m,(f=.none ∨ ∃ n,f=.int n 0)/\(∃ c,m=.bool c)/\d5d h z TI TO f m)/\IsPair h TI (.ref i1) (.ref i2)/\(∃ c d,IsPair h TO c d)/\IterB p h i1 a i/\IterB q h i2 b i
theorem ZSt.keep {p q:Bool}{z TI TO i1 i2 a b:Addr}{i:Nat}{h h':Heap}(st:ZSt p q z TI TO i1 i2 a b i h)(kk:∀ c∈[z,TO,i1,i2,TI],∀ o,h.get? c=some o->h'.get? c=some o):ZSt p q z TI TO i1 i2 a b i h':=by
 obtain⟨⟨f,m,hf0,hm0,zz⟩,zi,⟨x,y,zo⟩,t1,t2⟩:=st
 exact⟨⟨f,m,hf0,hm0,kk z (by simp) _ zz⟩,kk TI (by simp) _ zi,⟨x,y,kk TO (by simp) _ zo⟩,t1.to λo e=>kk i1 (by simp) o e,t2.to λo e=>kk i2 (by simp) o e⟩
section
variable {X:Cx}{pins:List (Addr×Obj)}{σ:St}{A:Around}{R:Result->Shared->Prop}
end
end L2
end
section
namespace L2
open PySem PySem.Spec PyProof.Rows
section
variable {X:Cx}{pins:List (Addr×Obj)}{σ:St}
variable {e1 e2:Expr}{ta:TA}{pp p2 pos pos2:Pos}
end
end L2
end
section
namespace Kq
open PySem PySem.Spec PyProof.Rows L2
section
variable {X:Cx}{C:CC}{n:Nat}{sp:Γd->Nat->Sp}{a b:Expr}{ea eb:EW}{p p2 pos pos2:Pos}
end
noncomputable def inW (tg:Tg)(t:BW)(e:EW):List FV->List FV->a0c->(List FV->a0c->Prop)->Prop
 | [],acc,L,Q=>Q acc L
 | y :: r,acc,L,Q=>gW tg y L λL1=>t L1 λb L2=>if b=true then e L2 λv L3=>inW tg t e r (acc++[v]) L3 Q else inW tg t e r acc L2 Q
noncomputable def b1l (n m:Nat)(tg:Tg)(t:BW)(it2:AW)(tg2:Tg)(t2:BW)(e:EW):List FV->List FV->a0c->(List FV->a0c->Prop)->Prop
 | [],acc,L,Q=>Q acc L
 | x :: xs,acc,L,Q=>gW tg x (L++Γj m none) λL1=>t L1 λb L2=>if b=true then it2 L2 λys L3=>acc.length+ys.length<=big/\inW tg2 t2 e ys acc L3 λacc' L4=>b1l n m tg t it2 tg2 t2 e xs acc' (L4.take n) Q else b1l n m tg t it2 tg2 t2 e xs acc (L2.take n) Q
noncomputable def d4b (n m:Nat)(it:AW)(tg:Tg)(t:BW)(it2:AW)(tg2:Tg)(t2:BW)(e:EW):EW:=λL Q=>it L λxs L1=>L1.length=n/\b1l n m tg t it2 tg2 t2 e xs [] L1 λys L2=>Q (.lst ys) L2
noncomputable def liv (K:Γd)(md:Md)(it:AW):TI:=λσ H R=>∃ c L S Q0,Iv K c md L σ S H/\it L Q0/\∀ xs L',Q0 xs L'->∀ J S' H',Iv K c md L' σ S' H'->(∀ c md,ItR K c md J xs S')->Same S S'->R J H'
noncomputable def FIv (X:Cx)(C:CC)(tg iter:Expr)(it:AW):Prop:=PI X.nox tg iter (liv X.K C.md it)
section
variable {X:Cx}{C:CC}{n:Nat}{sp:Γd->Nat->Sp}{a b tg:Expr}{ea eb:EW}{pos p:Pos}
end
section
variable {K:Γd}{c:Cn}{md:Md}{L:a0c}{σ:L2.St}{S H:Hp}
theorem d3r {n:Nat}{it2:AW}{tg:Tg}{t:BW}{e:EW}{acc:Addr}{us:List V}{ps:List FV}{Q1:List FV->a0c->Prop}{R:L2.St->Hp->Prop}(I:Iv K { c with pr:=(acc,.lst us) :: c.pr } md L σ S H)
  (h0:c.H0 acc=none)(hp:∀ p∈c.pr,p.1≠acc)(hz:∀ p∈c.fz,∃ o,(p.2,o)∈c.pr)(r:RVs K S ps us)(ht:a3b md tg=true)(hg:a5e n tg=true)
  (hh:it2 L λys L1=>ps.length+ys.length<=big/\inW tg t e ys ps L1 Q1)
  (k:∀ ps' us' L' σ' S' H',Q1 ps' L'->Iv K { c with pr:=(acc,.lst us') :: c.pr } md L' σ' S' H'->RVs K S' ps' us'->Same S S'->σ'.length=σ.length->(∀ q,q<n->σ'[q]?=σ[q]?)->R σ' H') :
  tIn (liv K md it2) (gT K tg) (lb K md t) (lv K md e) acc σ H R:=by
 have hbl:=a1q
 refine⟨_,L,S,_,I,hh,λys L1 hx J S1 H1 I1 hJ s1=>?_⟩
 obtain⟨hb,hc⟩:=hx
 let W:Nat->Nat->L2.St->Hp->Prop:=λi j σ' H'=>∃ L' S' ps' us',j=(ys.drop i).length/\Iv K { c with pr:=(acc,.lst us') :: c.pr } md L' σ' S' H'/\RVs K S' ps' us'/\Same S1 S'/\σ'.length=σ.length/\(∀ q,q<n->σ'[q]?=σ[q]?)/\ps'.length<=ps.length+i/\inW tg t e (ys.drop i) ps' L' Q1
 refine⟨W,⟨_,L1,S1,ps,us,rfl,I1,r.mono s1,Same.refl _,rfl,λ_ _=>rfl,Γi _,by rw[List.drop_zero];exact hc⟩,?_⟩
 rintro i j σ' H' ⟨L',S',ps',us',rfl,I',r',s',hl,far0,hps,hc⟩
 obtain⟨j1,j2⟩:=hJ _ _ i L' σ' S' H' I' s'
 cases hd:ys.drop i with
 | nil =>
  left
  rw[hd] at hc
  exact⟨j1 (List.getElem?_eq_none_iff.mpr (List.drop_eq_nil_iff.mp hd)),k ps' us' L' σ' S' H' hc I' r' (s1.trans s') hl far0⟩
 | cons p rest =>
  right
  rw[hd] at hc
  have hi:ys[i]?=some p:=by
   have:=congrArg (·[0]?) hd
   simpa using this
  have hd':ys.drop (i+1)=rest:=by
   have:=congrArg List.tail hd
   simpa[List.tail_drop] using this
  have hix:i<ys.length:=(List.getElem?_eq_some_iff.mp hi).1
  obtain⟨go,yl⟩:=j2 p hi
  refine⟨go,λx H2 y=>?_⟩
  obtain⟨S2,s2,tr,rx⟩:=yl x H2 y
  have I2:=tr _ _ _ _ I'
  obtain⟨σ2,L2,gq,q2,I2,len2,far⟩:=a5b ht I2 rx hc
  refine gq _ ?_
  refine⟨_,L2,S2,_,I2,q2,λb L3 hb3 S3 H3 I3 s3=>?_⟩
  cases b with
  | false =>
   rw[if_neg Γk] at hb3 ⊢
   exact⟨rest.length,by simp,L3,S3,ps',us',by rw[hd'],I3,r'.mono (s2.trans s3),s'.trans (s2.trans s3),len2.trans hl,λq hq=>(far n hg q hq).trans (far0 q hq),by lia,by rw[hd'];exact hb3⟩
  | true =>
   rw[if_pos rfl] at hb3 ⊢
   refine⟨_,L3,S3,_,I3,hb3,λv L4 hv u S4 H4 r4 I4 s4=>?_⟩
   obtain⟨k1,_⟩:=I4.prs (acc,.lst us') Γn
   have lr:=r'.length
   exact⟨us',k1,by lia,rest.length,by simp,L4,S4,ps'++[v],us'++[u],by rw[hd'],I4.regrow h0 hp hz,(r'.mono (s2.trans (s3.trans s4))).append (RVs.one r4),s'.trans (s2.trans (s3.trans s4)),len2.trans hl,λq hq=>(far n hg q hq).trans (far0 q hq),by simp;lia,by rw[hd'];exact hv⟩
theorem c1e {J:It}{xs:List FV}{n m:Nat}{tg:Tg}{t:BW}{it2:AW}{tg2:Tg}{t2:BW}{e:EW}{Q:VK}{Q1:List FV->a0c->Prop}(I:Iv K c md L σ S H)(hJ:ItR K c md J xs S)(hL:L.length=n)(hmd:md.length<=n)(ht:a3b md tg=true)(hg:a5e n tg=true)(ht2:a3b md tg2=true)(hg2:a5e n tg2=true)(h:b1l n m tg t it2 tg2 t2 e xs [] L Q1)
  (k:∀ acc ps L' S' H',H acc=none->Q1 ps L'->a3z K S' H' acc (.lst ps)->a9w c md L' σ acc->Iv K c md L' σ S' H'->Same S S'->Q (.ref acc) H') :
  ∀ acc,H acc=none->∃ W:Nat->Nat->Hp->Prop,(∃ m,W 0 m (upd H acc (.lst [])))/\∀ i j H,W i j H ->
   (J.stop i H/\Q (.ref acc) H) ∨ (J.go i H/\∀ x H',J.yld i H x H'->gT K tg x (σ++Γj m none) H' λσ2 H2=>Wk (σ++Γj m none) σ2/\lb K md t σ2 H2 λb H3 =>
    if b=true then tIn (liv K md it2) (gT K tg2) (lb K md t2) (lv K md e) acc σ2 H3 λσ3 H4=>Wk (σ++Γj m none) σ3/\∃ m',m'<j/\W (i+1) m' H4 else ∃ m',m'<j/\W (i+1) m' H3):=by
 intro acc hacc
 have h0:=I.h0 hacc
 have hp:∀ p∈c.pr,p.1≠acc:=(I.fresh hacc).2.1
 have hz:=I.fzp
 have hl:σ.length=n:=by rw[<- I.len];exact hL
 let W:Nat->Nat->Hp->Prop:=λi j H1=>∃ L S1 ps us,j=(xs.drop i).length/\Iv K { c with pr:=(acc,.lst us) :: c.pr } md L σ S1 H1/\RVs K S1 ps us/\Same S S1/\L.length=n/\b1l n m tg t it2 tg2 t2 e (xs.drop i) ps L Q1
 have I1:Iv K { c with pr:=(acc,.lst []) :: c.pr } md L σ S (upd H acc (.lst [])):=(I.lay hacc _).prot a0h (I.sn hacc) λj w hm hj=>(I.fresh hacc).2.2 j w (λz=>by rw[hm] at z;cases z) hj
 refine⟨W,⟨_,L,S,[],[],rfl,I1,rfl,Same.refl S,hL,by rw[List.drop_zero];exact h⟩,?_⟩
 rintro i j H1 ⟨L,S1,ps,us,rfl,I,r,s,hL,hc⟩
 have I0:=I.unprot hz
 obtain⟨j1,j2⟩:=hJ i L σ S1 H1 I0 s
 obtain⟨g1,g2,g3⟩:=I.prs (acc,.lst us) Γn
 cases hd:xs.drop i with
 | nil =>
  left
  rw[hd] at hc
  refine⟨j1 (List.getElem?_eq_none_iff.mpr (List.drop_eq_nil_iff.mp hd)),k acc ps L S1 H1 hacc hc ⟨g2,ps,us,rfl,g1,r⟩ ⟨h0,hp,λq w hm hq hs=>?_⟩ I0 s⟩
  by_cases mo:a0q md q=.own
  ·exact g3 q w mo hq hs
  ·have mo:a0q md q=.frz:=by cases z:a0q md q with|imm=>exact absurd z hm|own=>exact absurd z mo|frz=>rfl
   obtain⟨b,f1⟩:=I0.fzm q w mo hq
   obtain⟨_,f2,_⟩:=I0.fzs _ f1
   rw[hs] at f2;cases f2
   obtain⟨ys,f3⟩:=hz _ f1
   exact hp _ f3 rfl
 | cons p rest =>
  right
  rw[hd] at hc
  have hi:xs[i]?=some p:=by
   have:=congrArg (·[0]?) hd
   simpa using this
  have hd':xs.drop (i+1)=rest:=by
   have:=congrArg List.tail hd
   simpa[List.tail_drop] using this
  have hix:i<xs.length:=(List.getElem?_eq_some_iff.mp hi).1
  obtain⟨go,yl⟩:=j2 p hi
  refine⟨go,λx H2 y=>?_⟩
  obtain⟨S2,s2,tr,rx⟩:=yl x H2 y
  have I2:=(tr _ _ _ _ I).more m
  obtain⟨σ2,L2,gq,q2,I2,len2,far⟩:=a5b ht I2 rx hc
  have l2:n<=σ2.length:=by rw[len2,List.length_append,hl];lia
  have far':∀ q,q<n->σ2[q]?=σ[q]?:=λq hq=>by rw[far n hg q hq,List.getElem?_append_left (by rw[hl];exact hq)]
  have wk:∀ {σ3:List (Option V)},σ3.length=(σ++Γj m none).length->(∀ q,q<n->σ3[q]?=σ[q]?)->Wk (σ++Γj m none) σ3:=λ{σ3} hl3 f3=>⟨hl3,λq v hv=>by
   have hq:q<n:=by
    by_cases h:q<σ.length
    ·rw[<- hl];exact h
    ·rw[List.getElem?_append_right (by lia),List.getElem?_replicate] at hv
     split at hv<;>cases hv
   rw[List.getElem?_append_left (by rw[hl];exact hq)] at hv
   rw[f3 q hq];exact hv⟩
  refine gq _ ⟨wk len2 far',?_⟩
  refine⟨_,L2,S2,_,I2,q2,λb L3 hb3 S3 H3 I3 s3=>?_⟩
  cases b with
  | false =>
   rw[if_neg Γk] at hb3 ⊢
   exact⟨rest.length,by simp,L3.take n,S3,ps,us,by rw[hd'],I3.take hmd hl l2 far',r.mono (s2.trans s3),s.trans (s2.trans s3),by rw[List.length_take,I3.len];lia,by rw[hd'];exact hb3⟩
  | true =>
   rw[if_pos rfl] at hb3 ⊢
   refine d3r (n:=n) I3 h0 hp hz (r.mono (s2.trans s3)) ht2 hg2 hb3 λps' us' L' σ' S' H' q' I' r' s' hl' f'=>?_
   have f'':∀ q,q<n->σ'[q]?=σ[q]?:=λq hq=>(f' q hq).trans (far' q hq)
   exact⟨wk (hl'.trans len2) f'',rest.length,by simp,L'.take n,S',ps',us',by rw[hd'],I'.take hmd hl (by rw[hl'];exact l2) f'',r',s.trans (s2.trans (s3.trans s')),by rw[List.length_take,I'.len,hl'];lia,by rw[hd'];exact q'⟩
end
section
variable {X:Cx}{C:CC}{n:Nat}{sp:Γd->Nat->Sp}{pos p px:Pos}{i:Nat}{nx:Str}{fr:Bool}
variable {scope:Scope}{own:List Str}{elt tgx iter tgx2 iter2:Expr}{ifs ifs2:List Expr}{it it2:AW}{tg tg2:Tg}{t t2:BW}{e:EW}{nn m:Nat}{md':Md}
structure CompOk2 (X:Cx)(C:CC) (n:Nat)(sp:Γd->Nat->Sp)(scope:Scope)(own:List Str)(elt tgx iter:Expr)(ifs:List Expr)(tgx2 iter2:Expr)(ifs2:List Expr) (nn m:Nat)(md':Md)(it:AW)(tg:Tg)(t:BW)(it2:AW)(tg2:Tg)(t2:BW)(e:EW):Prop where
 st:(C.scOk scope own && decide (C.N.length=nn) && decide (own.length=m) && decide (md'.length<=nn) && d3e C.md md' && a3b md' tg && a5e nn tg && !b9r iter)=true
 st2:(a3b md' tg2 && a5e nn tg2 && !b9r iter2)=true
 it:FI X C md' tgx iter it
 tg:∀ X',Good X' (C.sub scope own md') n sp->FG X' tgx tg
 ts:∀ X',Good X' (C.sub scope own md') n sp->FTs X' (C.sub scope own md') ifs t
 it2:∀ X',Good X' (C.sub scope own md') n sp->FIv X' (C.sub scope own md') tgx2 iter2 it2
 tg2:∀ X',Good X' (C.sub scope own md') n sp->FG X' tgx2 tg2
 ts2:∀ X',Good X' (C.sub scope own md') n sp->FTs X' (C.sub scope own md') ifs2 t2
 el:∀ X',Good X' (C.sub scope own md') n sp->FE X' (C.sub scope own md') elt e
theorem CompOk2.run (G:Good X C n sp)(h:CompOk2 X C n sp scope own elt tgx iter ifs tgx2 iter2 ifs2 nn m md' it tg t it2 tg2 t2 e){σ:L2.St}{H:Hp}{Q:VK}(hq:lf X.K C.md (d4b nn m it tg t it2 tg2 t2 e) σ H Q):d1c (li X.K C.md md' it) (gT X.K tg) (lb X.K md' t) (liv X.K md' it2) (gT X.K tg2) (lb X.K md' t2) (lv X.K md' e) own.length σ H Q:=by
 have h0:=b2 h.st;have h1:=b2 h0.1;have h2:=b2 h1.1;have h3:=b2 h2.1;have h4:=b2 h3.1;have h5:=b2 h4.1;have h6:=b2 h5.1
 have g0:=b2 h.st2;have g1:=b2 g0.1
 obtain⟨c,L,S,Q0,I,hh,k⟩:=hq
 refine⟨c,L,S,_,I,hh,λxs L1 hx J c' S1 H1 I1 un e0 hJ s1=>?_⟩
 obtain⟨hl,hc⟩:=hx
 rw[de h5.2]
 refine c1e I1 hJ hl (de h4.2) h2.2 h1.2 g1.1 g1.2 hc λacc ps L' S' H' hn q o fr I' s'=>k _ L' q acc S' H' o ⟨by rw[<- e0];exact fr.1,((un _ _ _ _ I1).fresh hn).2.1,λj w hm=>fr.2.2 j w (a6g h3.2 j hm)⟩ (un _ _ _ _ I') (s1.trans s')
theorem CompOk2.blk (G:Good X C n sp)(h:CompOk2 X C n sp scope own elt tgx iter ifs tgx2 iter2 ifs2 nn m md' it tg t it2 tg2 t2 e):CScope X scope own/\(∀ fp D s H,PG (cxC X scope own fp D s H) tgx (gT X.K tg)/\PTs (cxC X scope own fp D s H) ifs (lb X.K md' t)/\(PI (cxC X scope own fp D s H) tgx2 iter2 (liv X.K md' it2)/\PG (cxC X scope own fp D s H) tgx2 (gT X.K tg2)/\PTs (cxC X scope own fp D s H) ifs2 (lb X.K md' t2)/\PE (cxC X scope own fp D s H) elt (lv X.K md' e)/\∀ x,foldedSetIterable iter2 (cxC X scope own fp D s H).env x=pure x))/\∀ v,foldedSetIterable iter X.env v=pure v:=by
 have h0:=b2 h.st;have h1:=b2 h0.1;have h2:=b2 h1.1;have h3:=b2 h2.1;have h4:=b2 h3.1;have h5:=b2 h4.1;have h6:=b2 h5.1
 have g0:=b2 h.st2
 obtain⟨s1,s2⟩:=G.sub h6.1 md'
 exact⟨s1,λfp D s H=>⟨h.tg _ (s2 fp D s H),h.ts _ (s2 fp D s H),h.it2 _ (s2 fp D s H),h.tg2 _ (s2 fp D s H),h.ts2 _ (s2 fp D s H),h.el _ (s2 fp D s H),b1b (nb g0.2)⟩,b1b (nb h0.2)⟩
end
noncomputable def ePop (i:Nat):EW:=λL Q=>wp (lk L i) λv=>wp (a7x v) λxs=>wp (xs[xs.length-1]?) λy=>Q y (L.set i (some (.lst xs.dropLast)))
noncomputable def popI (xs:List FV) (k:Int):Option FV:=if 0<=k/\k<4611686018427387904 then xs[k.toNat]? else none
noncomputable def ePopAt (i:Nat)(a:EW):EW:=λL Q=>wp (lk L i) λv=>wp (a7x v) λ_=>a L λw L1=>wp (a3o w) λk=>wp (lk L1 i) λx=>wp (a7x x) λxs=>wp (popI xs k) λy=>Q y (L1.set i (some (.lst (xs.eraseIdx k.toNat))))
section
variable {K:Γd}{S:Hp}
end
section
variable {X:Cx}{C:CC}{n:Nat}{sp:Γd->Nat->Sp}{a:Expr}{ea:EW}{pos p:Pos}{i:Nat}{nx:Str}
end
end Kq
end
section
namespace L2
open PySem PySem.Spec PyProof.Rows
section
variable {X:Cx}{a e k:Expr}{ta te tk:TE}{pos p2:Pos}
end
end L2
namespace Kq
open PySem PySem.Spec PyProof.Rows L2
noncomputable def turnLF (v:FV):Option FV:=(a7x v).map λxs=>.lst xs.reverse
section
variable {X:Cx}{C:CC}{a:Expr}{ea:EW}{pos:Pos}
end
end Kq
end
section
namespace L2
open PySem PySem.Spec PyProof.Rows
section
variable {X:Cx}{pos:Pos}
end
end L2
namespace Kq
open PySem PySem.Spec PyProof.Rows L2
section
variable {X:Cx}{C:CC}{n:Nat}{sp:Γd->Nat->Sp}{a b d:Expr}{ea eb ed:EW}{pos px py pz:Pos}{i j l:Nat}{nx ny nz:Str}{fr:Bool}
end
end Kq
end
section
namespace Kq
open PySem PySem.Spec PyProof.Rows L2
noncomputable def eMv (j:Nat):EW:=λL Q=>wp (lk L j) λv=>Q v (L.set j none)
noncomputable def eCallT (call:CW) (f:Nat)(ea:EW)(as:AW):EW:=λL Q=>ea L λv L1=>as L1 λvs L2=>call f (v :: vs) λz=>Q z.1 L2
section
variable {X:Cx}{C:CC}{n:Nat}{sp:Γd->Nat->Sp}{a b:Expr}{ea eb:EW}{pos p:Pos}{call:CW}
variable {K:Γd}{c:Cn}{md:Md}{L:a0c}{σ:L2.St}{S H S' H':Hp}{i j f:Nat}{nx:Str}{xs:List Expr}{as:AW}
theorem a3v {L:a0c}{j i:Nat}{v:FV}(z:(L.set j none)[i]?=some (some v)):i≠j/\L[i]?=some (some v):=by
 by_cases q:i=j
 ·subst q
  have hj:i<L.length:=by have:=(List.getElem?_eq_some_iff.mp z).1;rwa [List.length_set] at this
  rw[List.getElem?_set_self hj] at z;cases z
 ·rw[List.getElem?_set_ne (Ne.symm q)] at z;exact⟨q,z⟩
theorem Iv.drop (I:Iv K c md L σ S H)(hm:a0q md j=.own)(hj:j≠0):Iv K c md (L.set j none) σ S H where
 len:=by rw[List.length_set];exact I.len
 imm:=λi v h e=>I.imm i v h (a3v e).2
 own:=λi v h e=>I.own i v h (a3v e).2
 dis:=λi k v w a h1 h2 e1 e2=>I.dis i k v w a h1 h2 (a3v e1).2 (a3v e2).2
 sub:=I.sub
 frame:=I.frame
 s0:=I.s0
 grow:=I.grow
 lent:=λa h=>by
  obtain⟨g1,g2,g3⟩:=I.lent a h
  rw[List.getElem?_set_ne hj];exact⟨g1,g2,g3⟩
 fzs:=λp hp=>by
  obtain⟨g1,g2,g3⟩:=I.fzs p hp
  have:p.1≠j:=λz=>by rw[z,hm] at g1;cases g1
  rw[List.getElem?_set_ne (Ne.symm this)];exact⟨g1,g2,g3⟩
 fzm:=λi v h e=>I.fzm i v h (a3v e).2
 fzp:=I.fzp
 prs:=λp hp=>let ⟨g1,g2,g3⟩:=I.prs p hp;⟨g1,g2,λi v h e=>g3 i v h (a3v e).2⟩
 ntp:=I.ntp
end
noncomputable def sFrz (j:Nat)(r:SW):SW:=λL Q=>wp (lk L j) λ_=>r L λfl L'=>Q fl (L'.set j none)
section
variable {X:Cx}{C:CC}{n:Nat}{sp:Γd->Nat->Sp}{fr:Bool}{sts:List Stmt}{r:SW}
variable {K:Γd}{c:Cn}{md md':Md}{L:a0c}{σ:L2.St}{S H:Hp}{j:Nat}
end
end Kq
end
set_option maxHeartbeats 1000000
set_option maxHeartbeats 4000000
section
namespace Kq
open PySem PySem.Spec PyProof.Rows L2 PySem.W
noncomputable def gA (a:Array Keyed) (i:Nat):Keyed:=a.getD i (.none,.none)
theorem c9b {a:Array Keyed}{i:Nat}(h:i<a.size):a[i]?=some (gA a i):=by
 simp[gA,Array.getD_eq_getD_getElem?,getElem?_pos a i h]
structure Cmp (prog:Program)(w:World)(A:Around)(E:Value->Shared->Prop)(s:Shared)(kd:SortKind)(Ok:Keyed->Prop)(lt:Keyed->Keyed->Bool):Prop where
 run:∀ x y,Ok x->Ok y->∀ (st:SortSt)(Q:Option Bool->SortSt->Prop),kindOf st=kd->Q (some (lt x y)) st->wpS (model prog w) A E s (lt' x y) Q st
 refl:∀ x,lt x x=false
 trans:∀ x y z,lt y x=false->lt z y=false->lt z x=false
 asym:∀ x y,lt x y=true->lt y x=false
noncomputable def Srt (lt:Keyed->Keyed->Bool)(a:Array Keyed) (lo hi:Nat):Prop:=∀ i j,lo<=i->i<=j->j<hi->lt (gA a j) (gA a i)=false
noncomputable def Out (a b:Array Keyed) (lo hi:Nat):Prop:=b.Perm a/\∀ k,k<lo ∨ hi<=k->gA b k=gA a k
theorem Out.refl (a:Array Keyed) (lo hi:Nat):Out a a lo hi:=⟨Array.Perm.refl _,λ_ _=>rfl⟩
theorem Out.trans {a b c:Array Keyed}{lo hi:Nat}(h:Out a b lo hi)(g:Out b c lo hi):Out a c lo hi:=⟨g.1.trans h.1,λk hk=>(g.2 k hk).trans (h.2 k hk)⟩
theorem Out.size {a b:Array Keyed}{lo hi:Nat}(h:Out a b lo hi):b.size=a.size:=h.1.size_eq
noncomputable def AllOk (Ok:Keyed->Prop)(a:Array Keyed):Prop:=∀ x∈a.toList,Ok x
theorem AllOk.at {Ok:Keyed->Prop}{a:Array Keyed}(h:AllOk Ok a){i:Nat}(hi:i<a.size):Ok (gA a i):=by
 refine h _ ?_
 have:=c9b hi
 rw[<- Array.getElem?_toList] at this
 exact List.mem_of_getElem? this
theorem AllOk.perm {Ok:Keyed->Prop}{a b:Array Keyed}(h:AllOk Ok a)(p:b.Perm a):AllOk Ok b:=λx hx=>h x ((Array.perm_iff_toList_perm.mp p).mem_iff.mp hx)
section
variable {prog:Program}{w:World}{A:Around}{E:Value->Shared->Prop}{s:Shared}{kd:SortKind}{Ok:Keyed->Prop}{lt:Keyed->Keyed->Bool}
abbrev stA (kd:SortKind)(a:Array Keyed)(p:Array (Nat×Nat×Nat)) (g:Nat):SortSt:=SortSt.mk' kd a p g none
theorem ask (C:Cmp prog w A E s kd Ok lt){a:Array Keyed}{p:Array (Nat×Nat×Nat)}{g i j:Nat}{Q:Option Bool->SortSt->Prop}(ho:AllOk Ok a)(hi:i<a.size)(hj:j<a.size)(h:Q (some (lt (gA a i) (gA a j))) (stA kd a p g)):wpS (model prog w) A E s (ltAt' i j) Q (stA kd a p g):=by
 rw[ltAt'_eq]
 refine wpS_bind (wpS_get ?_)
 show wpS _ _ _ _ (do let x <- elem' a i;let y <- elem' a j;lt' x y) Q _
 rw[elem'_eq,elem'_eq,c9b hi,c9b hj]
 exact wpS_bind (wpS_pure (wpS_bind (wpS_pure (C.run _ _ (ho.at hi) (ho.at hj) _ _ rfl h))))
theorem turned {a:Array Keyed}{p:Array (Nat×Nat×Nat)}{g i j:Nat}{Q:Unit->SortSt->Prop}(h:Q () (stA kd (mirror a i j ((j-i) / 2)) p g)):wpS (model prog w) A E s (reverseSlice' i j) Q (stA kd a p g):=by
 rw[reverseSlice'_eq];exact wpS_modify h
end
section
variable {prog:Program}{w:World}{A:Around}{E:Value->Shared->Prop}{s:Shared}{kd:SortKind}{Ok:Keyed->Prop}{lt:Keyed->Keyed->Bool}
end
section
variable {prog:Program}{w:World}{A:Around}{E:Value->Shared->Prop}{s:Shared}{kd:SortKind}{Ok:Keyed->Prop}{lt:Keyed->Keyed->Bool}
end
abbrev Asc {α:Type}(lt:α->α->Bool)(l:List α):Prop:=l.Pairwise λx y=>lt y x=false
structure MI {α:Type}(lt:α->α->Bool)(X Y O:List α) (i j:Nat):Prop where
 perm:O.Perm (X.take i++Y.take j)
 srt:Asc lt O
 bef:∀ x∈O,∀ y∈X.drop i++Y.drop j,lt y x=false
section
variable {α:Type}{lt:α->α->Bool}{X Y O:List α}{i j k:Nat}
theorem MI.swap (h:MI lt X Y O i j):MI lt Y X O j i:=⟨h.perm.trans List.perm_append_comm,h.srt,λx hx y hy=>h.bef x hx y (by simpa[or_comm] using hy)⟩
theorem MI.more (h:MI lt X Y O i j)(hX:Asc lt X)(hc:∀ x∈(X.drop i).take k,∀ y∈Y.drop j,lt y x=false):MI lt X Y (O++(X.drop i).take k) (i+k) j:=by
 have hsub:X.drop i=(X.drop i).take k++X.drop (i+k):=by rw[<- List.drop_drop,List.take_append_drop]
 have hXd:Asc lt (X.drop i):=hX.sublist (List.drop_sublist _ _)
 rw[hsub] at hXd
 obtain⟨s1,s2,s3⟩:=List.pairwise_append.mp hXd
 refine⟨?_,?_,λx hx y hy=>?_⟩
 ·rw[List.take_add,List.append_assoc]
  refine (h.perm.append_right _).trans ?_
  rw[List.append_assoc]
  exact List.Perm.append_left _ List.perm_append_comm
 ·refine List.pairwise_append.mpr ⟨h.srt,s1,λx hx y hy=>h.bef x hx y (List.mem_append_left _ (List.mem_of_mem_take hy))⟩
 ·rcases List.mem_append.mp hx with hx|hx
  ·refine h.bef x hx y ?_
   rcases List.mem_append.mp hy with hy|hy
   ·rw[hsub];exact List.mem_append_left _ (List.mem_append_right _ hy)
   ·exact List.mem_append_right _ hy
  ·rcases List.mem_append.mp hy with hy|hy
   ·exact s3 x hx y hy
   ·exact hc x hx y hy
noncomputable def Mrg (lt:α->α->Bool)(X Y R:List α):Prop:=R.Perm (X++Y)/\Asc lt R
theorem Mrg.swap {R:List α}(h:Mrg lt X Y R):Mrg lt Y X R:=⟨h.1.trans List.perm_append_comm,h.2⟩
end
section
variable {lt:Keyed->Keyed->Bool}{x y o:Array Keyed}{i j k:Nat}
abbrev MA (lt:Keyed->Keyed->Bool)(x y o:Array Keyed) (i j:Nat):Prop:=MI lt x.toList y.toList o.toList i j
theorem MA.swap (h:MA lt x y o i j):MA lt y x o j i:=MI.swap h
end
section
variable {prog:Program}{w:World}{A:Around}{E:Value->Shared->Prop}{s:Shared}{kd:SortKind}{Ok:Keyed->Prop}{lt:Keyed->Keyed->Bool}
end
abbrev rv (lt:Keyed->Keyed->Bool):Keyed->Keyed->Bool:=λu v=>lt v u
noncomputable def MH (lt:Keyed->Keyed->Bool)(x y o:Array Keyed) (i j:Nat):Prop:=MI (rv lt) x.toList.reverse y.toList.reverse o.toList (x.size-i) (y.size-j)
section
variable {lt:Keyed->Keyed->Bool}{x y o:Array Keyed}{i j t:Nat}
theorem MH.swap (h:MH lt x y o i j):MH lt y x o j i:=MI.swap h
end
section
variable {prog:Program}{w:World}{A:Around}{E:Value->Shared->Prop}{s:Shared}{kd:SortKind}{Ok:Keyed->Prop}{lt:Keyed->Keyed->Bool}
end
noncomputable def back (r:Array Keyed) (s:Nat)(a:Array Keyed):Array Keyed:=r.toList.zipIdx.foldl (λa q=>a.setIfInBounds (s+q.2) q.1) a
section
variable {prog:Program}{w:World}{A:Around}{E:Value->Shared->Prop}{s:Shared}{kd:SortKind}{Ok:Keyed->Prop}{lt:Keyed->Keyed->Bool}
end
noncomputable def Cov (lt:Keyed->Keyed->Bool)(a:Array Keyed):List (Nat×Nat×Nat)->Nat->Nat->Prop
 | [],s,e=>s=e
 | (u,n,_) :: r,s,e=>u=s/\1<=n/\Srt lt a s (s+n)/\Cov lt a r (s+n) e
section
variable {lt:Keyed->Keyed->Bool}{a b:Array Keyed}
theorem Cov.snoc:∀ {l:List (Nat×Nat×Nat)}{s e n f:Nat},Cov lt a l s e->1<=n->Srt lt a e (e+n)->Cov lt a (l++[(e,n,f)]) s (e+n)
 | [],s,e,n,f,h,h1,h2=>by cases (show s=e from h);exact⟨rfl,h1,h2,rfl⟩
 | (u,m,_) :: r,s,e,n,f,⟨g1,g2,g3,g4⟩,h1,h2=>⟨g1,g2,g3,g4.snoc h1 h2⟩
end
section
variable {prog:Program}{w:World}{A:Around}{E:Value->Shared->Prop}{s:Shared}{kd:SortKind}{Ok:Keyed->Prop}{lt:Keyed->Keyed->Bool}
end
section
variable {prog:Program}{w:World}{A:Around}{E:Value->Shared->Prop}{s:Shared}{vs:List Value}{kd:SortKind}{kf:Value->List Int}
end
noncomputable def numsOf (h:Heap):Value->List Int
 | .ref a=>match h.get? a with
  | some o=>match o.data with
   | .seq us _=>us.toList.map numOf
   | _=>[]
  | none=>[]
 | _=>[]
section
variable {prog:Program}{w:World}{A:Around}{E:Value->Shared->Prop}{s:Shared}{vs:List Value}
noncomputable def NumTup (h:Heap)(v:Value)(ks:List Int):Prop:=∃ (a:Addr)(o:Obj)(us:List Value) (n:Nat),v=.ref a/\h.get? a=some o/\o.cls=.type "tuple"/\o.data=.seq us.toArray n/\Vals (ks.map V.int) us/\ks≠[]
theorem NumTup.keep {h h':Heap}{v:Value}{ks:List Int}(x:NumTup h v ks)(k:∀ b o,h.get? b=some o->h'.get? b=some o):NumTup h' v ks:=by
 obtain⟨a,o,us,n,e,h1,h2⟩:=x
 exact⟨a,o,us,n,e,k _ _ h1,h2⟩
end
noncomputable def fkey:FV->List Int
 | .tup ps=>(a1d ps).getD []
 | _=>[]
noncomputable def eSortB (m:Nat)(a:EW):EW:=λL Q=>a L λv L1=>wp (a3i v) λxs=>b7m xs=true/\xs.length<=m/\∀ ys:List FV,ys.Perm xs->(ys.Pairwise λx y=>lexLt (fkey y) (fkey x)=false)->Q (.lst ys) L1
section
variable {K:Γd}{S:Hp}
end
section
variable {X:Cx}
end
section
variable {X:Cx}{C:CC}{n:Nat}{sp:Γd->Nat->Sp}{a:Expr}{ea:EW}{pos p:Pos}
end
noncomputable def EntAt (h:Heap)(d:Addr)(es:Array DictEntry) (ep:Nat):Prop:=∃ o,h.get? d=some o/\o.ExactDict/\o.data=.dict es ep
section
variable {prog:Program}{w:World}{A:Around}{E:Value->Shared->Prop}{s:Shared}{it d:Addr}{i n ep:Nat}{es:Array DictEntry}
theorem EntAt.keep {h h':Heap}(x:EntAt h d es ep)(k:∀ o,h.get? d=some o->h'.get? d=some o):EntAt h' d es ep:=by
 obtain⟨o,ho,r⟩:=x
 exact⟨o,k o ho,r⟩
end
section
variable {X:Cx}{pins:List (Addr×Obj)}{σ:L2.St}{H:Hp}{s:Shared}{a:Addr}
end
noncomputable def keyF (k:List Int):FV:=.tup (k.map .int)
section
variable {X:Cx}{C:CC}{n:Nat}{sp:Γd->Nat->Sp}{tg:Expr}{p:Pos}{i:Nat}{nx:Str}
variable {K:Γd}{c:Cn}{md:Md}
end
section
variable {prog:Program}{w:World}{A:Around}{E:Value->Shared->Prop}{s:Shared}{d:Addr}{es:Array DictEntry}{ep:Nat}
end
theorem obj_there {P:Program}{w:World}{H:Hp}{h:Heap}{a:Addr}{o:HO}(x:ObjOk P w H h a o):∃ u,h.get? a=some u:=by
 cases o with
 | lst xs=>exact let ⟨_,_,_,_,e⟩:=x;⟨_,e⟩
 | tup xs=>exact let ⟨_,_,_,o,e,_⟩:=x;⟨o,e⟩
 | dK kvs=>exact let ⟨_,_,_,_,o,_,_,e,_⟩:=x;⟨o,e⟩
 | dT kvs=>exact let ⟨_,_,_,_,o,_,_,e,_⟩:=x;⟨o,e⟩
 | set S n=>exact let ⟨o,_,_,_,e,_⟩:=x;⟨o,e⟩
 | ins C dx fs=>exact let ⟨_,_,_,e,_⟩:=x;⟨_,e⟩
 | own y=>exact x
 | xd fs=>exact let ⟨_,⟨o,_,_,e,_⟩,_⟩:=x;⟨o,e⟩
 | rng lo hi=>exact let ⟨_,_,_,e⟩:=x;⟨_,e⟩
 | frz ob u=>exact⟨ob,x.1⟩
 | tbl ps=>exact⟨_,x⟩
 | met f y=>exact⟨_,x⟩
 | ext φ=>exact x.2.1
theorem c3m {X:Cx}{pins:List (Addr×Obj)}{σ:L2.St}{H:Hp}{s:Shared}{h':Heap}{a:Addr}{o:HO}{t':Nat}(I:Inv X pins σ H s)(k:∀ b u,s.heap.get? b=some u->h'.get? b=some u)(hp:∀ b u,s.heap.get? b=some u->b≠a)(new:ObjOk X.prog X.w (upd H a o) h' a o):Inv X pins σ (upd H a o) { s with heap:=h',toks:=t' }/\H a=none:=by
 have tr:∀ {b u},H b=some u->b≠a:=λ{b u} e=>let ⟨v,hv⟩:=obj_there (I.hok b u e);hp b v hv
 have ow:∀ b u,H b=some u->upd H a o b=some u:=λb u e=>by rw[a0g (tr e)];exact e
 refine⟨I.un (t':=t') ⟨λb o' e _ _ _=>k b o' e,λb o' e _ _ _=>⟨o'.slots,k b o' e⟩,λb o' e n _=>by rw[a0g (hp b o' e)];exact n,λb o' e _=>⟨o',k b o' e⟩,λb xs e=>ow b _ e,λb o' u e=>ow b _ e,λb ps e=>⟨#[],by rw[Array.append_empty];exact ow b _ e⟩⟩ λb u e=>?_,?_⟩
 ·by_cases z:b=a
  ·subst z;rw[a0h] at e;cases e;exact new
  ·rw[a0g z] at e
   exact (I.hok b u e).stay (λc v _ q=>k c v q) (λc e=>ow c _ e) λc xs e=>ow c _ e
 ·cases q:H a with
  | none=>rfl
  | some u=>exact absurd rfl (tr q)
section
variable {X:Cx}
end
noncomputable def d4h:FV->Option (List (List Int))
 | .dct ks _=>some ks
 | .dcz _ ks _=>some ks
 | _=>none
noncomputable def eSortE (m j:Nat):EW:=λL Q=>wp (lk L j) λv=>wp (d4h v) λks=>ks.length<=m/\(∀ k∈ks,k≠[])/\∀ ys:List (List Int),ys.Perm ks->(ys.Pairwise λx y=>lexLt y x=false)->Q (.lst (ys.map keyF)) L
section
variable {X:Cx}{C:CC}{n:Nat}{sp:Γd->Nat->Sp}{pos p p':Pos}{i:Nat}{nx:Str}
theorem Iv.tups {K:Γd}{c:Cn}{md:Md}{L:a0c}{σ:L2.St}{H:Hp}:∀ {ys:List (List Int)}{zs:List V}{S:Hp},Iv K c md L σ S H->Paired (λ(k:List Int)(z:V)=>∃ b:Addr,z=V.ref b/\H b=some (.tup (k.map V.int))) ys zs->∃ S',Iv K c md L σ S' H/\Same S S'/\RVs K S' (ys.map keyF) zs
 | _,_,S,I,.nil=>⟨S,I,Same.refl S,rfl⟩
 | _,_,S,I,.cons (a:=k) (b:=z) ⟨b,e,hb⟩ t=>by
  subst e
  obtain⟨S',I',s',r⟩:=Iv.tups I t
  obtain⟨I2,s2⟩:=I'.tup hb
  exact⟨_,I2,s'.trans s2,V.ref b,_,rfl,⟨b,_,rfl,a0h,RVs.ns k⟩,r.mono s2⟩
end
noncomputable def b3n (xs:Array Nat):Prop:=∀ i j (hi:i<xs.size)(hj:j<xs.size),i<j->xs[i]<xs[j]
noncomputable def d5b (xs:Array Nat) (j r:Nat):Prop:=r<=xs.size/\(∀ k (h:k<xs.size),k<r->xs[k]<j)/\∀ k (h:k<xs.size),r<=k->j<=xs[k]
theorem a9v {xs:Array Nat}{j:Nat}(rs:b3n xs):∀ (f lo hi:Nat),hi<=xs.size->lo<=hi->hi-lo<=f->(∀ k (h:k<xs.size),k<lo->xs[k]<j)->(∀ k (h:k<xs.size),hi<=k->j<=xs[k])->d5b xs j (SetTable.below.go xs j f lo hi)
 | 0,lo,hi,h1,h2,h3,a,b=>by
  have e:lo=hi:=by lia
  subst e
  exact⟨h1,a,b⟩
 | f+1,lo,hi,h1,h2,h3,a,b=>by
  unfold SetTable.below.go
  by_cases h:lo<hi
  ·rw[if_pos h]
   have hm:(lo+hi) / 2<xs.size:=by lia
   dsimp only
   rw[Array.getD_eq_getD_getElem?,Array.getElem?_eq_getElem hm,Option.getD_some]
   by_cases q:xs[(lo+hi) / 2]<j
   ·rw[if_pos q]
    refine a9v rs f _ _ h1 (by lia) (by lia) (λk hk hl=>?_) b
    by_cases e:k=(lo+hi) / 2
    ·subst e;exact q
    ·exact Nat.lt_trans (rs k _ hk hm (by lia)) q
   ·rw[if_neg q]
    refine a9v rs f _ _ (by lia) (by lia) (by lia) a λk hk hl=>?_
    by_cases e:k=(lo+hi) / 2
    ·subst e;lia
    ·have:=rs _ k hm hk (by lia);lia
  ·rw[if_neg h]
   have e:lo=hi:=by lia
   subst e
   exact⟨h1,a,b⟩
theorem a7b {xs:Array Nat}(rs:b3n xs) (j:Nat):d5b xs j (SetTable.below xs j):=by
 unfold SetTable.below
 exact a9v rs _ _ _ (Γi _) (Nat.zero_le _) (by lia) (λk _ h=>absurd h (Nat.not_lt_zero _)) λk h1 h2=>absurd h1 (by lia)
theorem a9k {α:Type}(xs:Array α) (p:Nat)(x:α)(hp:p<=xs.size):(SetTable.insertAt xs p x).toList=xs.toList.take p++x :: xs.toList.drop p:=by
 unfold SetTable.insertAt
 simp
 exact List.take_of_length_le (by simp)
theorem rise_list {xs:Array Nat}:b3n xs↔xs.toList.Pairwise (· < ·):=by
 rw[List.pairwise_iff_getElem]
 constructor
 ·intro h i j hi hj l
  simpa using h i j (by simpa using hi) (by simpa using hj) l
 ·intro h i j hi hj l
  have:=h i j (by simpa using hi) (by simpa using hj) l
  rwa [Array.getElem_toList,Array.getElem_toList] at this
theorem b2v {xs:Array Nat}{j:Nat}(rs:b3n xs)(ne:xs[SetTable.below xs j]?≠some j):b3n (SetTable.insertAt xs (SetTable.below xs j) j):=by
 obtain⟨h1,h2,h3⟩:=a7b rs j
 rw[rise_list,a9k _ _ _ h1,List.pairwise_append]
 have rl:=rise_list.mp rs
 refine⟨rl.sublist (List.take_sublist _ _),List.pairwise_cons.mpr ⟨λy hy=>?_,rl.sublist (List.drop_sublist _ _)⟩,λx hx y hy=>?_⟩
 ·obtain⟨i,hi,e⟩:=List.mem_iff_getElem.mp hy
  simp at hi e
  have hb:SetTable.below xs j+i<xs.size:=by lia
  have g:=h3 _ hb (by lia)
  rw[e] at g
  rcases Nat.lt_or_ge j y with l|l
  ·exact l
  ·have e2:y=j:=by lia
   exfalso
   by_cases z:i=0
   ·subst z
    apply ne
    rw[Array.getElem?_eq_getElem (by lia)]
    simp at e
    rw[e,e2]
   ·have hb0:SetTable.below xs j<xs.size:=by lia
    have g0:=h3 _ hb0 (Γi _)
    have g1:=rs _ _ hb0 hb (by lia)
    rw[e] at g1;lia
 ·obtain⟨i,hi,e⟩:=List.mem_iff_getElem.mp hx
  simp at hi e
  have gx:=h2 i (by lia) (by lia)
  rw[e] at gx
  rcases List.mem_cons.mp hy with rfl|hy
  ·exact gx
  ·obtain⟨k,hk,e'⟩:=List.mem_iff_getElem.mp hy
   simp at hk e'
   have g:=h3 _ (show SetTable.below xs j+k<xs.size by lia) (by lia)
   rw[e'] at g;lia
noncomputable def TabOk (t:SetTable)(l:Bool):Prop:=t.led=l/\t.dummies = #[]/\(t.plain=true->b3n t.place)
theorem TabOk.fresh (f m:Nat)(l:Bool):TabOk (.fresh f m l) l:=⟨rfl,rfl,λ_ i j hi=>absurd hi (Nat.not_lt_zero _)⟩
theorem TabOk.stand {t:SetTable}{l:Bool}(h:TabOk t l) (n:Nat):TabOk (t.standIn n) l:=⟨h.1,rfl,λz=>Bool.noConfusion z⟩
theorem TabOk.orStand {t:SetTable}{l:Bool}(h:TabOk t l) (n:Nat):TabOk (t.orStandIn n) l:=by
 unfold SetTable.orStandIn
 split
 ·exact h
 ·exact h.stand n
theorem b4p (j:Nat):SetTable.has #[] j=false:=by
 unfold SetTable.has
 rfl
theorem b4b {t:SetTable}(hd:t.dummies = #[]){f:Nat->Int}{h:Int}:∀ (n:Nat)(p:SetTable.Probe) (j:Nat)(d:Option Nat),p.dummy=none->SetTable.probe.go t f h n p=some (.empty j d)->d=none/\t.slot j=.empty
 | 0,p,j,d,_,e=>by cases e
 | n+1,p,j,d,hp,e=>by
  unfold SetTable.probe.go at e
  have ad:(t.advance p).dummy=none:=by
   unfold SetTable.advance
   split
   ·exact hp
   ·exact hp
  cases q:t.slot p.j with
  | empty=>rw[q] at e;cases e;exact⟨hp,q⟩
  | dummy =>
   exfalso
   unfold SetTable.slot at q
   rw[hd,b4p] at q
   dsimp only at q
   by_cases z:(t.place[SetTable.below t.place p.j]? == some p.j)=true
   ·rw[if_pos z] at q;exact nomatch q
   ·rw[if_neg z,if_neg (by simp)] at q;exact nomatch q
  | live i =>
   rw[q] at e
   dsimp only at e
   split at e
   ·cases e
   ·exact b4b hd n _ j d ad e
theorem c0a {t:SetTable}(hd:t.dummies = #[]){h:Int}{j:Nat}{b:Bool}(e:t.freeSlot h=some (j,b)):t.slot j=.empty:=by
 unfold SetTable.freeSlot SetTable.probe at e
 split at e
 ·rename_i j' d q
  obtain⟨rfl,q2⟩:=b4b hd _ _ _ _ rfl q
  cases e
  exact q2
 ·cases e
theorem TabOk.put {t:SetTable}{l:Bool}(h:TabOk t l){j:Nat}(e:t.slot j=.empty):TabOk (t.put j).1 l:=by
 refine⟨h.1,?_,λp=>?_⟩
 ·show (if SetTable.has t.dummies j then _ else t.dummies) = #[]
  rw[h.2.1,b4p];rfl
 ·refine b2v (h.2.2 p) λz=>?_
  unfold SetTable.slot at e
  rw[if_pos (by rw[z];simp)] at e
  cases e
theorem TabOk.layNew {t:SetTable}{l:Bool}(h:TabOk t l)(es:Array (Int×Value)) (k:Int)(x:Value):TabOk (layNew t es k x).2.1 l:=by
 unfold PySem.layNew
 cases q:t.freeSlot k with
 | none=>exact h.stand _
 | some jb=>exact (h.put (c0a h.2.1 q)).orStand _
theorem TabOk.relay {t:SetTable}{l:Bool}(h:TabOk t l)(es:Array (Int×Value)) (n:Nat):TabOk (relayAll t es n).2.1 l:=by
 unfold relayAll
 cases q:t.relaid (es.map (·.1)) n with
 | none=>exact h.stand _
 | some p =>
  obtain⟨t',od⟩:=p
  dsimp only
  split
  ·show TabOk t' l
   unfold SetTable.relaid SetTable.laid at q
   cases ow:SetTable.layClean (SetTable.sizeAbove n-1) (es.map (·.1)) with
   | none=>rw[ow] at q;cases q
   | some owner =>
    rw[ow] at q
    cases q
    refine⟨h.1,rfl,λ_=>?_⟩
    rw[rise_list]
    show (List.map Prod.fst (List.filterMap (λj=>(owner.getD j none).map (j,·)) (List.range _))).Pairwise (· < ·)
    rw[List.pairwise_map,List.pairwise_filterMap]
    refine List.pairwise_lt_range.imp λ{a b} hab x hx y hy=>?_
    cases hoa:owner.getD a none with
    | none=>rw[hoa] at hx;cases hx
    | some va =>
     cases hob:owner.getD b none with
     | none=>rw[hob] at hy;cases hy
     | some vb =>
      rw[hoa] at hx;rw[hob] at hy
      cases hx;cases hy
      exact hab
  ·exact h.stand _
noncomputable def NumEs (l:List (Int×Value)):Prop:=∀ e∈l,∃ k tk,e=(hashInt k,Value.int k tk)
theorem NumEs.elems {prog:Program}{w:World}{l:List (Int×Value)}(h:NumEs l):ElemsOf (intKind prog w) l:=λe he=>by
 obtain⟨k,tk,rfl⟩:=h e he
 exact⟨⟨k,intKind_is _ _ _ _,rfl⟩,rfl⟩
theorem NumEs.perm {l l':List (Int×Value)}(h:NumEs l)(p:l'.Perm l):NumEs l':=λe he=>h e (p.mem_iff.mp he)
noncomputable def a8h (l:List (Int×Value)):List Int:=l.map λe=>numOf e.2
structure SetData (w:World)(o:Obj)(ns:List Int)(es:Array (Int×Value)) (ep:Nat)(t:SetTable):Prop where
 ex:o.ExactSet
 dat:o.data=.set es ep t
 num:NumEs es.toList
 perm:(a8h es.toList).Perm ns
 small:ns.length<scanBound
 fits:t.fits es.size=true
 tab:TabOk t (!w.params.followText "set-order")
noncomputable def SetN (w:World)(h:Heap)(a:Addr)(ns:List Int):Prop:=ns.Nodup/\∃ o es ep t,h.get? a=some o/\SetData w o ns es ep t
theorem SetData.size {w:World}{o:Obj}{ns:List Int}{es:Array (Int×Value)}{ep:Nat}{t:SetTable}(d:SetData w o ns es ep t):es.size=ns.length:=by
 have:=d.perm.length_eq
 rw[a8h,List.length_map,Array.length_toList] at this
 exact this
section
variable {prog:Program}{w:World}{A:Around}{E:Value->Shared->Prop}{s:Shared}{a:Addr}
theorem SetData.put {o:Obj}{ns ms:List Int}{es es':Array (Int×Value)}{ep:Nat}{t t':SetTable}{h:Heap}(d:SetData w o ns es ep t)(ho:h.get? a=some o)(n':NumEs es'.toList)(p':(a8h es'.toList).Perm ms)(s':ms.length<scanBound)(f':t'.fits es'.size=true)(t2:TabOk t' (!w.params.followText "set-order")) :
  ∃ o',(h.update a (Obj.putSet es' t')).get? a=some o'/\SetData w o' ms es' (ep+1) t':=by
 refine⟨_,Heap.get?_update_self (Obj.putSet es' t') ho (by rw[putSet_of es' t' d.dat];rfl),?_⟩
 rw[putSet_of es' t' d.dat]
 exact⟨d.ex,rfl,n',p',s',f',t2⟩
theorem b9z (b:Bool){Q:Unit->Shared->Prop}(q:Q () s):wpAny (model prog w) A (match b with|true=>rule "set.scan.the-table-gave-way" | false=>pure ()) Q E s:=by
 cases b
 ·exact Γb q
 ·exact wpAny_rule q
theorem add_num {k:Int}{tk:Nat}{ns:List Int}{Q:Bool->Shared->Prop}(hS:SetN w s.heap a ns)(hr:ns.length+1<scanBound)
  (q:∀ h' b,Heap.SameBut a s.heap h'->SetN w h' a (if k∈ns then ns else ns++[k])->Q b { s with heap:=h' }) :
  wpAny (model prog w) A (setAddHashed a (.int k tk) (hashInt k)) Q E s:=by
 obtain⟨nd,o,es,ep,t,ho,d⟩:=hS
 have hz:es.size<scanBound:=by rw[d.size];exact d.small
 have hk:(intKind prog w).is k (.int k tk)=true:=intKind_is _ _ _ _
 unfold setAddHashed setAddHashedIn
 refine Γg (Γa (wpAny_setState_of ho d.dat d.fits ?_))
 dsimp only
 rw[byScan_of (knd:=intKind prog w) rfl hz d.num.elems,if_pos rfl]
 unfold setAddByScan
 refine Γa (Γa (wpAny_rule (Γa (wpAny_setScan_of (knd:=intKind prog w) hk ho d.dat d.fits d.num.elems ?_))))
 have mem:k∈ns↔∃ e∈es.toList,(intKind prog w).is k e.2=true:=by
  rw[<- d.perm.mem_iff,a8h,List.mem_map]
  constructor
  ·rintro⟨e,he,ek⟩
   obtain⟨j,tj,rfl⟩:=d.num e he
   cases (show j=k from ek)
   exact⟨_,he,intKind_is _ _ _ _⟩
  ·rintro⟨e,he,ek⟩
   obtain⟨j,tj,rfl⟩:=d.num e he
   refine⟨_,he,?_⟩
   exact (intKind prog w).inj (.int j tj) _ _ (intKind_is _ _ _ _) ek
 cases fr:es.toList.findIdx? (λe=>(intKind prog w).is k e.2) with
 | some j =>
  obtain⟨hj,pj,_⟩:=List.findIdx?_eq_some_iff_getElem.mp fr
  have hin:k∈ns:=mem.mpr ⟨_,List.getElem_mem hj,pj⟩
  refine Γb (Γb ?_)
  have:=q s.heap false (Heap.SameBut.refl a s.heap)
  rw[if_pos hin] at this
  exact this ⟨nd,o,es,ep,t,ho,d⟩
 | none =>
  have hni:k ∉ ns:=λz=>by
   obtain⟨e,he,pe⟩:=mem.mp z
   have:=List.findIdx?_eq_none_iff.mp fr e he
   rw[pe] at this;cases this
  rw[if_neg hni] at q
  have nd':(ns++[k]).Nodup:=by
   rw[List.nodup_append]
   exact⟨nd,by simp,λx hx y hy z=>hni (by rw[List.mem_singleton.mp hy] at z;rw[<- z];exact hx)⟩
  dsimp only
  have lp:=layNew_perm t es (hashInt k) (.int k tk)
  have lf:=layNew_fits t es (hashInt k) (.int k tk)
  have lt:=d.tab.layNew es (hashInt k) (.int k tk)
  generalize layNew t es (hashInt k) (.int k tk)=R at lp lf lt ⊢
  obtain⟨es1,t1,wd,gv⟩:=R
  dsimp only at lp lf lt ⊢
  rw[Array.toList_push] at lp
  have n1:NumEs es1.toList:=λe he=>by
   rcases List.mem_append.mp (lp.mem_iff.mp he) with he|he
   ·exact d.num e he
   ·exact⟨k,tk,List.mem_singleton.mp he⟩
  have p1:(a8h es1.toList).Perm (ns++[k]):=by
   refine (lp.map _).trans ?_
   rw[List.map_append]
   exact d.perm.append (.refl _)
  have s1:(ns++[k]).length<scanBound:=by rw[List.length_append];exact hr
  have fin:∀ t2:SetTable,t2.fits es1.size=true->TabOk t2 (!w.params.followText "set-order")->wpAny (model prog w) A (do
    storeSet a es1 t2
    if (!wd && t2.tooFull)=true then do
      (match (relayAll t2 es1 (SetTable.grown es1.size)).2.2 with|true=>rule "set.scan.the-table-gave-way" | false=>pure ())
      storeSet a (relayAll t2 es1 (SetTable.grown es1.size)).1 (relayAll t2 es1 (SetTable.grown es1.size)).2.1
      pure (some true)
     else pure (some true)) (λr s'=>wpAny (model prog w) A (match r with|some added=>pure added|none=>setAddHashedIn a (.int k tk) (hashInt k) 99999) Q E s') E s:=by
   intro t2 f2 g2
   have sz:es1.size<scanBound:=by
    have:=p1.length_eq
    rw[a8h,List.length_map,Array.length_toList] at this
    rw[this];exact s1
   obtain⟨o1,ho1,d1⟩:=d.put ho n1 p1 s1 f2 g2
   refine Γa (wpAny_storeSet_of ho d.dat ?_ (fits_of_scanBound sz))
   have b1:=Heap.SameBut.update s.heap a (Obj.putSet es1 t2)
   split
   ·have rp:=relayAll_perm t2 es1 (SetTable.grown es1.size)
    have rf:=relayAll_fits t2 es1 (SetTable.grown es1.size)
    have rt:=g2.relay es1 (SetTable.grown es1.size)
    generalize relayAll t2 es1 (SetTable.grown es1.size)=R at rp rf rt ⊢
    obtain⟨es2,t3,gv2⟩:=R
    dsimp only at rp rf rt ⊢
    obtain⟨o2,ho2,d2⟩:=d1.put ho1 (n1.perm rp) ((rp.map _).trans p1) s1 rf rt
    refine Γa (b9z _ (Γa (wpAny_storeSet_of ho1 d1.dat ?_ (fits_of_scanBound (by rw[d2.size];exact s1)))))
    exact Γb (Γb (q _ true (b1.trans (Heap.SameBut.update _ a _)) ⟨nd',o2,es2,_,t3,ho2,d2⟩))
   ·exact Γb (Γb (q _ true b1 ⟨nd',o1,es1,_,t2,ho1,d1⟩))
  refine Γa (b9z _ ?_)
  split
  ·refine Γa ?_
   rw[hashByValue_scannable 8 rfl]
   refine Γb ?_
   simp only[plainKind,if_true]
   exact fin t1 lf lt
  ·refine Γa (Γb ?_)
   simp only[if_true]
   exact fin t1 lf lt
end
theorem sit_next:Slot "set_iterator" "__next__" "set_iterator.__next__":=.of (owner:="set_iterator") (n:="__next__") (by rw[typeLookup_type,builtinLookup_eq_fast];kernel_rfl) (by decide +kernel) (by decide +kernel) (by decide +kernel) (by first|exact .inl (by decide +kernel)|exact .inr (by decide +kernel)) (by rw[isSubtype_type];kernel_rfl)
theorem b3x:Slot "set_iterator" "__iter__" "set_iterator.__iter__":=.of (owner:="set_iterator") (n:="__iter__") (by rw[typeLookup_type,builtinLookup_eq_fast];kernel_rfl) (by decide +kernel) (by decide +kernel) (by decide +kernel) (by first|exact .inl (by decide +kernel)|exact .inr (by decide +kernel)) (by rw[isSubtype_type];kernel_rfl)
theorem a7t:entryFor table "set_iterator.__next__" = some Builtin.«set_iterator.__next__»:=entryFor_of_tree (by kernel_rfl)
theorem b5q:entryFor table "set.__iter__" = some Builtin.«frozenset.__iter__»:=entryFor_alias (id':="frozenset.__iter__") (by kernel_rfl) rfl (by nofun) (by kernel_rfl)
theorem b5o:entryFor table "set_iterator.__iter__" = some Builtin.«dict_keyiterator.__iter__»:=entryFor_alias (id':="dict_keyiterator.__iter__") (by kernel_rfl) rfl (by nofun) (by kernel_rfl)
theorem a7u (a:Value):argsOk "set_iterator.__next__" ⟨[a],[]⟩:=by kernel_rfl
theorem b5p (a:Value):argsOk "set_iterator.__iter__" ⟨[a],[]⟩:=by kernel_rfl
theorem a4w {α:Type}:∀ {l:List α}{i:Nat}(h:i<l.length),(l[i] :: l.eraseIdx i).Perm l
 | x :: l,0,_=>by simp
 | x :: l,i+1,h=>by
  have:=a4w (l:=l) (i:=i) (by simpa using h)
  simp only[List.getElem_cons_succ,List.eraseIdx_cons_succ]
  exact (List.Perm.swap x _ _).trans (this.cons x)
theorem b8o {α:Type}(f:Nat->Nat):∀ (n k:Nat)(l:List α)(out:Array α),n=l.length->(pickOrder.go f n k l out).toList.Perm (out.toList++l)
 | 0,k,l,out,h=>by
  cases l with
  | nil=>unfold pickOrder.go;simp
  | cons=>simp at h
 | n+1,k,l,out,h=>by
  unfold pickOrder.go
  have hp:0<l.length:=by lia
  have hm:f k % l.length<l.length:=Nat.mod_lt _ hp
  rw[List.getElem?_eq_getElem hm]
  dsimp only
  refine (b8o f n (k+1) (l.eraseIdx (f k % l.length)) _ (by rw[List.length_eraseIdx_of_lt hm];lia)).trans ?_
  rw[Array.toList_push,List.append_assoc]
  refine List.Perm.append_left _ ?_
  exact a4w hm
theorem b8n {α:Type}(f:Nat->Nat)(xs:Array α):(pickOrder f xs).toList.Perm xs.toList:=by
 unfold pickOrder
 simpa using b8o f xs.size 0 xs.toList #[] (by simp)
section
variable {prog:Program}{w:World}{A:Around}{E:Value->Shared->Prop}{s:Shared}{a:Addr}
theorem c1h {n:Nat}{src:Source}{Q:Nat->Shared->Prop}(hn:n≠0)(q:∀ i,i<n->Q i { s with drawn:=s.drawn.bump src }):wpAny (model prog w) A (choose src n) Q E s:=λΓ p hΓ=>⟨hn,q _ (Nat.mod_lt _ (Nat.pos_of_ne_zero hn))⟩
theorem c0m {α:Type}:∀ (n:Nat)(xs:List α){s:Shared}{Q:List α->Shared->Prop},n=xs.length->(∀ ys dr,ys.Perm xs->Q ys { s with drawn:=dr })->wpAny (model prog w) A (drawOrder n xs) Q E s
 | 0,xs,s,Q,h,q=>by
  cases xs with
  | nil=>exact Γb (q [] s.drawn (.refl _))
  | cons=>simp at h
 | n+1,[],s,Q,h,q=>by simp at h
 | n+1,x :: xs,s,Q,h,q=>by
  unfold drawOrder
  refine Γa (c1h (by simp) λi hi=>?_)
  rw[List.getElem?_eq_getElem hi]
  dsimp only
  refine Γa (c0m n ((x :: xs).eraseIdx i) (by rw[List.length_eraseIdx_of_lt hi];lia) λys dr hy=>Γb (q _ dr ((hy.cons _).trans (a4w hi))))
end
section
variable {prog:Program}{w:World}{A:Around}{E:Value->Shared->Prop}{s:Shared}{a:Addr}
noncomputable def SetIt (h:Heap)(it a:Addr)(f:Value) (i n ep:Nat):Prop:=∃ o,h.get? it=some o/\o.cls=.type "set_iterator"/\o.data=.fields #[f,.int i 0,.ref a,.int n 0,.int ep 0]
theorem SetIt.ty {it a:Addr}{f:Value}{i n ep:Nat}(x:SetIt s.heap it a f i n ep):s.TypeIs (.ref it) "set_iterator":=let ⟨o,ho,hc,_⟩:=x;⟨o,ho,hc⟩
theorem SetIt.keep {h h':Heap}{it a:Addr}{f:Value}{i n ep:Nat}(x:SetIt h it a f i n ep)(k:∀ o,h.get? it=some o->h'.get? it=some o):SetIt h' it a f i n ep:=let ⟨o,ho,r⟩:=x;⟨o,k o ho,r⟩
inductive Goes (w:World)(h:Heap)(a:Addr)(es:Array (Int×Value)) (ep:Nat)(t:SetTable):List Value->Nat->Value->Prop
 | text {i:Nat}{sl:Nat}:w.params.followText "set-order" = true->Goes w h a es ep t ((pickOrder (w.params.setOrder a ep) es).toList.map (·.2)) i (.int sl 0)
 | table {i:Nat}:w.params.followText "set-order" = false->(!t.plain && decide (es.size > 1))=false->Goes w h a es ep t (es.toList.map (·.2)) i (.int ((if i=0 then 0 else t.place.getD (i-1) 0+1:Nat):Int) 0)
 | drawn {i:Nat}{p:Addr}{od:List Nat}:w.params.followText "set-order" = false->h.IsTuple p (od.map λ(n:Nat)=>rawInt n).toArray->od.Perm (List.range es.size)->Goes w h a es ep t (od.map λn=>(es.getD n (0,.none)).2) i (.ref p)
theorem c3l {ns:List Int}{o:Obj}{es:Array (Int×Value)}{ep:Nat}{t:SetTable}{Q:Value->Shared->Prop}(ho:s.heap.get? a=some o)(d:SetData w o ns es ep t)
  (q:∀ (I:Addr)(h':Heap)(dr:Drawn)(vs:List Value)(f:Value),s.heap.objs.size<=I->(∀ p,f=.ref p->s.heap.objs.size<=p/\p≠I)->(∀ b o,s.heap.get? b=some o->h'.get? b=some o)->SetIt h' I a f 0 es.size ep->Goes w h' a es ep t vs 0 f->Q (.ref I) { s with heap:=h',drawn:=dr }):wpAny (model prog w) A (pyIter (.ref a)) Q E s:=by
 have hT:s.TypeIs (.ref a) "set":=⟨o,ho,d.ex.1⟩
 refine wpAny_pyIter_slot hT F.slot_set_iter (wpAny_call_entry F.slot_set_iter hT b5q ?_ (F.args_set_iter_1 _))
 unfold Builtin.«frozenset.__iter__»
 refine Γa (Γb ?_)
 refine Γa (Γa (wpAny_setEntries_of ho d.dat d.fits (Γb ?_)))
 unfold setDrawn setsByText
 refine Γa (Γa (wpAny_setState_of ho d.dat d.fits (Γa (Γa (wpAny_askSetting (Γb (Γb ?_)))))))
 show wpAny _ _ (if (!w.params.followText "set-order" && (!t.plain && decide (es.size > 1)))=true then _ else _) _ _ _
 have fin:∀ (h1:Heap)(dr:Drawn)(vs:List Value)(f:Value),s.heap.objs.size<=h1.objs.size->(∀ p,f=.ref p->s.heap.objs.size<=p/\p<h1.objs.size)->(∀ b o,s.heap.get? b=some o->h1.get? b=some o)->(∀ h':Heap,(∀ b o,h1.get? b=some o->h'.get? b=some o)->Goes w h' a es ep t vs 0 f)->wpAny (model prog w) A.in1 (do
   let l <- setEpoch a
   let r <- newFields "set_iterator" [f,rawInt 0,.ref a,rawInt es.size,rawInt l]
   ret r) (λfin s'=>∃ v,fin=Fin.done (Flow.ret v)/\∃ T' r,s'.TypeIs v T'/\typeLookup (Value.type T') (Γe "__next__")=pure (some r)/\Q v s') E { s with heap:=h1,drawn:=dr }:=by
  intro h1 dr vs f sz pz kp g
  refine Γa (wpAny_setEpoch_of (s:={ s with heap:=h1,drawn:=dr }) (kp _ _ ho) d.dat d.fits (Γa (wpAny_newObj_type (Γb ⟨_,rfl,"set_iterator",_,⟨_,Γm _ rfl,rfl⟩,sit_next.lookup,?_⟩))))
  have k2:∀ b o,h1.get? b=some o->(h1.push { cls:=.type "set_iterator",data:=.fields #[f,rawInt 0,.ref a,rawInt es.size,rawInt ep] }).get? b=some o:=λb o e=>Γc _ e
  exact q _ _ dr vs f sz (λp z=>⟨(pz p z).1,Γo (pz p z).2⟩) (λb o e=>k2 b o (kp b o e)) ⟨_,Γm _ rfl,rfl,rfl⟩ (g _ k2)
 by_cases hb:w.params.followText "set-order" = true
 ·rw[if_neg (by rw[hb];simp)]
  refine Γa (Γb ?_)
  exact fin s.heap s.drawn _ _ (Γi _) (λp z=>nomatch z) (λb o e=>e) λh' _=>Goes.text (sl:=0) hb
 ·have hb:w.params.followText "set-order" = false:=by simpa using hb
  by_cases hd:(!t.plain && decide (es.size > 1))=true
  ·rw[if_pos (by rw[hb,hd];rfl)]
   refine Γa (c0m _ _ (by simp) λod dr p=>?_)
   have hl:od.length=es.size:=by rw[p.length_eq,List.length_range]
   have hz:es.size<=sizeLine:=fits_of_scanBound (by rw[d.size];exact d.small)
   refine Γa (wpAny_newObj_type ?_ (by show (od.map _).toArray.size<=_;simp;lia))
   refine fin _ dr _ _ (by rw[Heap.size_push];exact Nat.le_succ _) (λp z=>by cases z;exact⟨Γi _,by rw[Heap.size_push];exact Nat.lt_succ_self _⟩) (λb o e=>Γc _ e) λh' k=>Goes.drawn hb ?_ p
   exact⟨_,k _ _ (Γm _ rfl),rfl,_,rfl⟩
  ·have hd:(!t.plain && decide (es.size > 1))=false:=by simpa using hd
   rw[if_neg (by rw[hb,hd];simp)]
   refine Γa (Γb ?_)
   exact fin s.heap s.drawn _ _ (Γi _) (λp z=>nomatch z) (λb o e=>e) λh' _=>Goes.table (i:=0) hb hd
theorem b3t {ns:List Int}{o:Obj}{es:Array (Int×Value)}{ep:Nat}{t:SetTable}(d:SetData w o ns es ep t)(hd:(!t.plain && decide (es.size > 1))=false) (i:Nat)(hi:i<=es.size):SetTable.below t.place (if i=0 then 0 else t.place.getD (i-1) 0+1)=i/\t.place.size=es.size:=by
 have hs:t.place.size=es.size:=by
  have:=d.fits
  unfold SetTable.fits at this
  simp at this
  exact this.1
 have rs:b3n t.place:=by
  by_cases hp:t.plain=true
  ·exact d.tab.2.2 hp
  ·have:es.size<=1:=by simp[hp] at hd;exact hd
   intro x y hx hy l
   lia
 refine⟨?_,hs⟩
 obtain⟨h1,h2,h3⟩:=a7b rs (if i=0 then 0 else t.place.getD (i-1) 0+1)
 by_cases h0:i=0
 ·subst h0
  rw[if_pos rfl] at h1 h2 h3 ⊢
  by_cases z:SetTable.below t.place 0=0
  ·exact z
  ·have:=h2 0 (by lia) (by lia)
   lia
 ·rw[if_neg h0] at h1 h2 h3 ⊢
  have hg:t.place.getD (i-1) 0=t.place[i-1]'(by lia):=by rw[Array.getD_eq_getD_getElem?,Array.getElem?_eq_getElem (by lia)];rfl
  rw[hg] at h1 h2 h3 ⊢
  generalize SetTable.below t.place (t.place[i-1]'(by lia)+1)=r at h1 h2 h3 ⊢
  rcases Nat.lt_trichotomy r i with l|l|l
  ·have:=h3 (i-1) (by lia) (by lia)
   lia
  ·exact l
  ·have a1:=h2 i (by lia) l
   have a2:=rs (i-1) i (by lia) (by lia) (by lia)
   lia
theorem c3b {ns:List Int}{o:Obj}{es:Array (Int×Value)}{ep:Nat}{t:SetTable}{it:Addr}{vs:List Value}{i:Nat}{f:Value}{Q:Option Value->Shared->Prop}(ne:a≠it)(hit:SetIt s.heap it a f i es.size ep)(ho:s.heap.get? a=some o)(d:SetData w o ns es ep t)(g:Goes w s.heap a es ep t vs i f)(hi:i<vs.length)
  (q:∀ (h':Heap)(f':Value),(∀ p,f'=.ref p->f=.ref p)->Heap.SameBut it s.heap h'->SetIt h' it a f' (i+1) es.size ep->(∀ h2:Heap,(∀ b o,b≠it->s.heap.get? b=some o->h2.get? b=some o)->Goes w h2 a es ep t vs (i+1) f')->Q (some vs[i]) { s with heap:=h' }):wpAny (model prog w) A (pyNext (.ref it)) Q E s:=by
 have hT:=hit.ty
 obtain⟨oi,e0,c0,d0⟩:=id hit
 unfold pyNext
 refine Γa (wpAny_attempt (wpAny_callSpecial?_slot (name:=Γe "__next__") hT sit_next (wpAny_call_entry sit_next hT a7t ?_ (a7u _))))
 unfold Builtin.«set_iterator.__next__»
 refine Γa (Γb (Γa (wpAny_fieldsOf e0 d0 ?_)))
 show wpAny _ _ (setEntries a >>= _) _ _ s
 refine Γa (wpAny_setEntries_of ho d.dat d.fits ?_)
 rw[if_neg (by simp)]
 have step:∀ (sl nx:Nat)(x:Value),f=.int sl 0->x=vs[i]->(∀ h2:Heap,(∀ b o,b≠it->s.heap.get? b=some o->h2.get? b=some o)->Goes w h2 a es ep t vs (i+1) (.int nx 0))->(∀ (Q':Option (Value×Nat)->Shared->Prop)(E':Value->Shared->Prop),Q' (some (x,nx)) s->wpAny (model prog w) A.in1 (setNext a sl i ep) Q' E' s)->wpAny (model prog w) A.in1 (do
   let r <- setNext a (sl:Int).toNat (i:Int).toNat (ep:Int).toNat
   match r with
    | some (x,next)=>do
     setField (Value.ref it) 0 (rawInt next)
     setField (Value.ref it) 1 (rawInt (i+1))
     ret x
    | none=>do
     setField (Value.ref it) 2 Value.none
     let e <- newExc (Value.type "StopIteration") []
     raiseNew e) (λfin s'=>∃ v,fin=Fin.done (Flow.ret v)/\wpAny (model prog w) A (pure (some v)) Q E s') (λe s'=>wpAny (model prog w) A (do
      let b <- isInstance e (Value.type "StopIteration")
      if b=true then pure none else throw e) Q E s') s:=by
  intro sl nx x ef ex g' hn
  subst ef
  simp only[Int.toNat_natCast]
  refine Γa (hn _ _ ?_)
  dsimp only
  refine Γa (wpAny_setField e0 d0 (by simp) ?_)
  have e1:=Heap.get?_update_self (Obj.mapFields (·.setIfInBounds 0 (rawInt nx))) e0 (Obj.isFreed_of_fields (Obj.data_mapFields d0 _))
  have d1:=Obj.data_mapFields d0 (·.setIfInBounds 0 (rawInt nx))
  refine Γa (wpAny_setField (s:={ s with heap:=_ }) e1 d1 (by simp) ?_)
  have e2:=Heap.get?_update_self (Obj.mapFields (·.setIfInBounds 1 (rawInt ((i:Int)+1)))) e1 (Obj.isFreed_of_fields (Obj.data_mapFields d1 _))
  have d2:=Obj.data_mapFields d1 (·.setIfInBounds 1 (rawInt ((i:Int)+1)))
  refine Γb ⟨_,rfl,Γb ?_⟩
  rw[ex]
  refine q _ (.int nx 0) (λp z=>nomatch z) ((Heap.SameBut.update ..).trans (Heap.SameBut.update ..)) ⟨_,e2,?_,?_⟩ g'
  ·rw[Obj.cls_mapFields,Obj.cls_mapFields];exact c0
  ·rw[d2];simp[rawInt]
 cases g with
 | @text _ sl hb =>
  refine step sl sl _ rfl rfl (λh2 _=>.text hb) λQ' E' q'=>?_
  unfold setNext setsByText
  refine Γa (wpAny_setState_of ho d.dat d.fits (Γa (Γa (wpAny_askSetting (Γb ?_)))))
  dsimp only
  refine wpAny_ite_split (λ_=>?_) λz=>absurd hb z
  rw[if_neg (by simp)]
  unfold setWalk setsByText
  refine Γa (Γa (wpAny_setState_of ho d.dat d.fits (Γa (Γa (wpAny_askSetting (Γb ?_))))))
  dsimp only
  refine wpAny_ite_split (λ_=>?_) λz=>absurd hb z
  refine Γa (wpAny_askSetting (Γb (Γb ?_)))
  have hl:i<(pickOrder (w.params.setOrder a ep) es).size:=by simpa using hi
  show Q' (Option.map (λe=>(e.snd,sl)) (pickOrder (w.params.setOrder a ep) es)[i]?) s
  rw[Array.getElem?_eq_getElem hl]
  simpa using q'
 | table hb hd =>
  have hl:i<es.size:=by simpa using hi
  obtain⟨t1,t2⟩:=b3t d hd i (by lia)
  refine step _ (t.place.getD i 0+1) _ rfl rfl (λh2 _=>?_) λQ' E' q'=>?_
  ·have:=Goes.table (w:=w) (h:=h2) (a:=a) (es:=es) (ep:=ep) (t:=t) (i:=i+1) hb hd
   simpa using this
  ·unfold setNext setsByText
   refine Γa (wpAny_setState_of ho d.dat d.fits (Γa (Γa (wpAny_askSetting (Γb ?_)))))
   dsimp only
   rw[if_neg (by show ¬ w.params.followText "set-order" = true;rw[hb];simp)]
   refine wpAny_ite_split (λz=>absurd (hd.symm.trans z) (by simp)) λ_=>?_
   refine Γa (wpAny_ite_split (λz=>?_) λ_=>Γb ?_)
   ·have:t.led=true:=by rw[d.tab.1,hb];rfl
    rw[this] at z;simp at z
   ·rw[t1]
    rw[Array.getElem?_eq_getElem hl,Array.getElem?_eq_getElem (show i<t.place.size by lia)]
    refine Γb ?_
    have hp:t.place.getD i 0=t.place[i]'(by lia):=by rw[Array.getD_eq_getD_getElem?,Array.getElem?_eq_getElem (by lia)];rfl
    rw[hp] at q'
    simpa using q'
 | @drawn _ p od hb ht pm =>
  have hl:i<od.length:=by simpa using hi
  obtain⟨ot,o1,o2,nt,o3⟩:=id ht
  refine Γa (wpAny_seqItems o1 o3 ?_)
  dsimp only
  rw[Int.toNat_natCast,Int.toNat_natCast]
  rw[List.getElem?_toArray,List.getElem?_map,List.getElem?_eq_getElem hl]
  dsimp only[Option.map_some,rawInt]
  have hm:od[i]<es.size:=List.mem_range.mp (pm.mem_iff.mp (List.getElem_mem hl))
  unfold setNextDrawn
  refine Γa (Γa (wpAny_setState_of ho d.dat d.fits ?_))
  dsimp only
  rw[if_neg (by simp),Int.toNat_natCast,Array.getElem?_eq_getElem hm]
  refine Γb ?_
  refine Γa (wpAny_setField e0 d0 (by simp) ?_)
  have e1:=Heap.get?_update_self (Obj.mapFields (·.setIfInBounds 1 (rawInt ((i:Int)+1)))) e0 (Obj.isFreed_of_fields (Obj.data_mapFields d0 _))
  have d1:=Obj.data_mapFields d0 (·.setIfInBounds 1 (rawInt ((i:Int)+1)))
  refine Γb ⟨_,rfl,Γb ?_⟩
  have hx:(es[od[i]]'hm).2=(od.map λn=>(es.getD n (0,.none)).2)[i]'hi:=by
   rw[List.getElem_map,Array.getD_eq_getD_getElem?,Array.getElem?_eq_getElem hm];rfl
  show Q (some (es[od[i]]'hm).2) _
  rw[hx]
  refine q _ (.ref p) (λp' z=>z) (Heap.SameBut.update ..) ⟨_,e1,?_,?_⟩ λh2 k=>.drawn hb ?_ pm
  ·rw[Obj.cls_mapFields];exact c0
  ·rw[d1];simp[rawInt]
  ·refine⟨ot,k p ot (λz=>?_) o1,o2,nt,o3⟩
   subst z
   rw[e0] at o1;cases o1
   rw[d0] at o3;cases o3
theorem c9j {ns : List Int} {o : Obj} {es : Array (Int × Value)} {ep : Nat} {t : SetTable} {it : Addr} {vs : List Value} {i : Nat} {f : Value} {Q : Option Value -> Shared -> Prop} (hh : A.handled = none) (hit : SetIt s.heap it a f i es.size ep) (ho : s.heap.get? a = some o) (d : SetData w o ns es ep t) (g : Goes w s.heap a es ep t vs i f) (hi : vs.length = i)
    (q:∀ h':Heap,Heap.ExtBut it s.heap h'->Q none { s with heap:=h' }):wpAny (model prog w) A (pyNext (.ref it)) Q E s:=by
  have hT:=hit.ty
  obtain⟨oi,e0,c0,d0⟩:=id hit
  unfold pyNext
  refine Γa (wpAny_attempt (wpAny_callSpecial?_slot (name:=Γe "__next__") hT sit_next (wpAny_call_entry sit_next hT a7t ?_ (a7u _))))
  unfold Builtin.«set_iterator.__next__»
  refine Γa (Γb (Γa (wpAny_fieldsOf e0 d0 ?_)))
  show wpAny _ _ (setEntries a >>= _) _ _ s
  refine Γa (wpAny_setEntries_of ho d.dat d.fits ?_)
  rw[if_neg (by simp)]
  have stop : ∀ h1 : Heap, Heap.ExtBut it s.heap h1 -> wpAny (model prog w) A.in1 (do
          let e <- newExc (Value.type "StopIteration") []
          raiseNew e) (fun fin s' => ∃ v, fin = Fin.done (Flow.ret v) /\ wpAny (model prog w) A (pure (some v)) Q E s') (fun e s' => wpAny (model prog w) A (do
            let b <- isInstance e (Value.type "StopIteration")
            if b = true then pure none else throw e) Q E s') { s with heap := h1 } := by
    intro h1 x1
    refine Γa ?_
    simp only[newExc,newTuple]
    refine Γa (wpAny_newObj_type ?_ (by size_fits));refine Γa (m:=firstArgMember _ _) (wpAny_of_eq (a:=Value.none) (by first|rfl|(simp only[firstArgMember];rfl)) ?_);refine wpAny_newObj_type ?_ (by size_fits);simp only[raiseNew]
    refine Γa (wpAny_handled ?_);rw[show A.in1.handled=none from hh];refine Γa (Γb (wpAny_throw ?_))
    refine Γa (wpAny_isInstance (T:="StopIteration") (b:=true) ⟨_,Γm _ rfl,rfl⟩ isSubtype_stop ?_);exact Γb (q _ ((x1.push _).push _))
  have step : ∀ sl : Nat, f = .int sl 0 -> (∀ (Q' : Option (Value × Nat) -> Shared -> Prop) (E' : Value -> Shared -> Prop), Q' none s -> wpAny (model prog w) A.in1 (setNext a sl i ep) Q' E' s) -> wpAny (model prog w) A.in1 (do
      let r <- setNext a (sl:Int).toNat (i:Int).toNat (ep:Int).toNat
      match r with
        | some (x, next) => do
          setField (Value.ref it) 0 (rawInt next)
          setField (Value.ref it) 1 (rawInt (i + 1))
          ret x
        | none => do
          setField (Value.ref it) 2 Value.none
          let e <- newExc (Value.type "StopIteration") []
          raiseNew e) (fun fin s' => ∃ v, fin = Fin.done (Flow.ret v) /\ wpAny (model prog w) A (pure (some v)) Q E s') (fun e s' => wpAny (model prog w) A (do
            let b <- isInstance e (Value.type "StopIteration")
            if b = true then pure none else throw e) Q E s') s := by
    intro sl ef hn
    subst ef
    simp only[Int.toNat_natCast]
    refine Γa (hn _ _ ?_)
    dsimp only
    refine Γa (wpAny_setField e0 d0 (by simp) ?_)
    exact stop _ (Heap.SameBut.update ..).extBut
  cases g with
  | @text _ sl hb =>
    refine step sl rfl λQ' E' q'=>?_
    unfold setNext setsByText
    refine Γa (wpAny_setState_of ho d.dat d.fits (Γa (Γa (wpAny_askSetting (Γb ?_)))))
    dsimp only
    refine wpAny_ite_split (λ_=>?_) λz=>absurd hb z
    rw[if_neg (by simp)]
    unfold setWalk setsByText
    refine Γa (Γa (wpAny_setState_of ho d.dat d.fits (Γa (Γa (wpAny_askSetting (Γb ?_))))))
    dsimp only
    refine wpAny_ite_split (λ_=>?_) λz=>absurd hb z
    refine Γa (wpAny_askSetting (Γb (Γb ?_)))
    have hl:(pickOrder (w.params.setOrder a ep) es).size<=i:=by simp at hi;lia
    show Q' (Option.map (λe=>(e.snd,sl)) (pickOrder (w.params.setOrder a ep) es)[i]?) s
    rw[Array.getElem?_eq_none hl]
    exact q'
  | table hb hd =>
    have hl:es.size=i:=by simpa using hi
    obtain⟨t1,t2⟩:=b3t d hd i (by lia)
    refine step _ rfl λQ' E' q'=>?_
    unfold setNext setsByText
    refine Γa (wpAny_setState_of ho d.dat d.fits (Γa (Γa (wpAny_askSetting (Γb ?_)))))
    dsimp only
    rw[if_neg (by show ¬ w.params.followText "set-order" = true;rw[hb];simp)]
    refine wpAny_ite_split (λz=>absurd (hd.symm.trans z) (by simp)) λ_=>?_
    refine Γa (wpAny_ite_split (λz=>?_) λ_=>Γb ?_)
    · have:t.led=true:=by rw[d.tab.1,hb];rfl
      rw[this] at z;simp at z
    · rw[t1]
      rw[Array.getElem?_eq_none (by lia)]
      exact Γb q'
  | @drawn _ p od hb ht pm =>
    have hl:od.length=i:=by simpa using hi
    obtain⟨ot,o1,o2,nt,o3⟩:=id ht
    refine Γa (wpAny_seqItems o1 o3 ?_)
    dsimp only
    rw[Int.toNat_natCast,Int.toNat_natCast]
    rw[List.getElem?_toArray,List.getElem?_eq_none (by simp;lia)]
    refine Γa (wpAny_setField e0 d0 (by simp) ?_)
    have e1:=Heap.get?_update_self (Obj.mapFields (·.setIfInBounds 0 (rawInt 0))) e0 (Obj.isFreed_of_fields (Obj.data_mapFields d0 _))
    have d1:=Obj.data_mapFields d0 (·.setIfInBounds 0 (rawInt 0))
    refine Γa (wpAny_setField (s:={ s with heap:=_ }) e1 d1 (by simp) ?_)
    exact stop _ ((Heap.SameBut.update ..).trans (Heap.SameBut.update ..)).extBut
theorem Goes.keep {h h':Heap}{es:Array (Int×Value)}{ep:Nat}{t:SetTable}{vs:List Value}{i:Nat}{f:Value}(g:Goes w h a es ep t vs i f)(k:∀ p,f=.ref p->∀ o,h.get? p=some o->h'.get? p=some o):Goes w h' a es ep t vs i f:=by
 cases g with
 | text hb=>exact .text hb
 | table hb hd=>exact .table hb hd
 | @drawn _ p od hb ht pm =>
  obtain⟨ot,o1,r⟩:=ht
  exact .drawn hb ⟨ot,k p rfl ot o1,r⟩ pm
theorem Goes.perm {ns:List Int}{o:Obj}{h:Heap}{es:Array (Int×Value)}{ep:Nat}{t:SetTable}{vs:List Value}{i:Nat}{f:Value}(d:SetData w o ns es ep t)(g:Goes w h a es ep t vs i f):vs.Perm (es.toList.map (·.2)):=by
 cases g with
 | text hb=>exact (b8n _ _).map _
 | table hb hd=>exact .refl _
 | @drawn _ p od hb ht pm =>
  refine (pm.map _).trans (.of_eq ?_)
  apply List.ext_getElem
  ·simp
  ·intro i i1 i2
   simp at i1
   simp[Array.getD_eq_getD_getElem?,i1]
end
section
variable {prog:Program}{w:World}{A:Around}{E:Value->Shared->Prop}{s:Shared}{a:Addr}{ns:List Int}{o:Obj}{es:Array (Int×Value)}{ep:Nat}{t:SetTable}
noncomputable def c4o (w:World)(I a:Addr)(o:Obj)(es:Array (Int×Value)) (ep:Nat)(t:SetTable)(vs:List Value)(pl:List Addr) (i:Nat)(h:Heap):Prop:=(∃ f,(∀ p,f=.ref p->p∈pl)/\SetIt h I a f i es.size ep/\Goes w h a es ep t vs i f)/\h.get? a=some o
theorem c2a {I:Addr}{vs:List Value}{pl:List Addr}(hh:A.handled=none)(d:SetData w o ns es ep t)(ne:a≠I)(np:I ∉ pl):Walks prog w A I (I :: a :: pl) [I] vs.length (λi v=>vs[i]?=some v) (c4o w I a o es ep t vs pl) where
 sub:=λb hb=>by simp at hb;simp[hb]
 frame:=λi h h' st hk=>by
  obtain⟨⟨f,f1,f2,f3⟩,ho⟩:=st
  exact⟨⟨f,f1,f2.keep λo e=>hk I (by simp) o e,f3.keep λp z o e=>hk p (by simp[f1 p z]) o e⟩,hk a (by simp) o ho⟩
 item:=λi s Q E hi st hQ=>by
  obtain⟨⟨f,f1,f2,f3⟩,ho⟩:=st
  refine c3b ne f2 ho d f3 hi λh' f' p1 sb it' g'=>?_
  have kp:∀ b o,b≠I->s.heap.get? b=some o->h'.get? b=some o:=λb o n e=>(sb.2 b n).trans e
  exact hQ _ h' s.toks (by simp[hi]) ⟨⟨f',λp z=>f1 p (p1 p z),it',g' h' kp⟩,kp a o ne ho⟩ λb o hb e=>kp b o (λz=>hb (by simp[z])) e
 done:=λs Q E st hQ=>by
  obtain⟨⟨f,f1,f2,f3⟩,ho⟩:=st
  exact c9j hh f2 ho d f3 rfl λh' eb=>hQ h' s.toks λb o hb e=>eb b o (λz=>hb (by simp[z])) e
 self:=λi s Q E st hQ=>by
  obtain⟨⟨f,f1,f2,f3⟩,ho⟩:=st
  refine wpAny_pyIter_slot f2.ty b3x (wpAny_call_entry b3x f2.ty b5o ?_ (b5p _))
  show wpAny _ _ (ret (.ref I)) _ _ s
  exact Γb ⟨_,rfl,"set_iterator",_,f2.ty,sit_next.lookup,hQ⟩
theorem c3q {Q:Bool->Shared->Prop}(hT:s.TypeIs (.ref a) "set")(q:Q false s):wpAny (model prog w) A (Builtin.List.listLengthHint (.ref a)) Q E s:=by
 unfold Builtin.List.listLengthHint
 refine Γa (wpAny_specialOf hT F.slot_set_len.lookup ?_)
 generalize hid:("set.__len__":String)=id0
 wp_delta
 rw[show splitId id0=some ("set","__len__") from by subst hid;nofun]
 subst hid
 refine Γa (wpAny_isInstance (T:="set") (b:=true) hT (by rw[isSubtype_type];kernel_rfl) ?_)
 exact wpAny_ite_split (λz=>absurd z (by decide)) λ_=>wpAny_ite_split (λ_=>Γa (wpAny_typeOf hT (Γb q))) λz=>absurd (by nofun) z
theorem b3i {R:List Value->Shared->Prop}(hh:A.handled=none)(ho:s.heap.get? a=some o)(d:SetData w o ns es ep t)
  (q:∀ (h':Heap) (tk:Nat)(dr:Drawn)(vs:List Value),(∀ b o,s.heap.get? b=some o->h'.get? b=some o)->vs.Perm (es.toList.map (·.2))->R vs { s with heap:=h',toks:=tk,drawn:=dr }):wpAny (model prog w) A (collect (.ref a)) R E s:=by
 have hlt:a<s.heap.objs.size:=Γl ho
 have hz:es.size<=sizeLine:=fits_of_scanBound (by rw[d.size];exact d.small)
 unfold collect
 refine Γa (wpAny_runValue (codeAny_builtin entry_proto_collect' ?_))
 rw[Around.under_plainId F.plain_proto_collect _]
 refine Γa (m:=newList []) (wpAny_newObj_type (Γb ⟨plainId_quiet F.plain_list_iadd _,codeAny_builtin entry_list_iadd' ?_⟩))
 rw[Around.under_plainId F.plain_list_iadd _]
 have L0:(s.heap.push { cls:=.type "list",data:=.seq ([]:List Value).toArray }).get? s.heap.objs.size=some { cls:=.type "list",data:=.seq #[] }:=Γm _ rfl
 have k0:∀ b o,s.heap.get? b=some o->(s.heap.push { cls:=.type "list",data:=.seq ([]:List Value).toArray }).get? b=some o:=λb o e=>Γc _ e
 show wpAny _ A.in1 (Builtin.List.listExtendWith (.ref s.heap.objs.size) (.ref a) (.ref s.heap.objs.size)) _ _ _
 generalize hl0:s.heap.push { cls:=.type "list",data:=.seq ([]:List Value).toArray } = g0 at L0 k0 ⊢
 have s0:g0.objs.size=s.heap.objs.size+1:=by rw[<- hl0,Heap.size_push]
 unfold Builtin.List.listExtendWith
 have hT:Shared.TypeIs { s with heap:=g0 } (.ref a) "set":=⟨o,k0 _ _ ho,d.ex.1⟩
 refine Γa (wpAny_typeOf (T:="set") hT ?_)
 have h1:Builtin.List.listSameRef (.ref s.heap.objs.size) (.ref a)=false:=by simp[Builtin.List.listSameRef];exact Nat.ne_of_gt hlt
 have h2:(Value.type "set" == Value.type "list")=false:=by decide
 have h3:(Value.type "set" == Value.type "tuple")=false:=by decide
 simp only[h1,h2,h3,Bool.or_false,Γp,if_false]
 refine Γa (c3l (k0 _ _ ho) d λI h' dr vs f hI pz kp it g=>?_)
 have hI':s.heap.objs.size<I:=by
  have:g0.objs.size<=I:=hI
  rw[s0] at this;exact this
 have pm:=g.perm d
 have hvs:vs.length=es.size:=by rw[pm.length_eq];simp
 obtain⟨pl,p1,p2,p3⟩:∃ pl:List Addr,(∀ p,f=.ref p->p∈pl)/\I ∉ pl/\s.heap.objs.size ∉ pl:=by
  by_cases z:∃ p,f=.ref p
  ·obtain⟨p,z⟩:=z
   obtain⟨y1,y2⟩:=pz p z
   have y1:g0.objs.size<=p:=y1
   rw[s0] at y1
   refine⟨[p],λp' z'=>?_,?_,?_⟩
   ·rw[z] at z';cases z';simp
   ·simp;exact λe=>y2 e.symm
   ·simp;exact Γo y1
  ·exact⟨[],λp e=>absurd ⟨p,e⟩ z,by simp,by simp⟩
 have loop:∀ (h4:Heap) (c tk:Nat),c4o w I a o es ep t vs pl 0 h4->(∀ b o,s.heap.get? b=some o->h4.get? b=some o)->h4.get? s.heap.objs.size=some { cls:=.type "list",data:=.seq #[] c }->codeAny (model prog w) A (.builtin "list.extend.loop" ⟨[.ref s.heap.objs.size,.ref I,.ref s.heap.objs.size],[]⟩) (wants (λr s'=>∃ (h':Heap) (tk:Nat)(acc:Array Value) (c':Nat),r=.ref s.heap.objs.size/\s' = { s with heap:=h',toks:=tk,drawn:=dr }/\(∀ b o,s.heap.get? b=some o->h'.get? b=some o)/\h'.get? s.heap.objs.size=some { cls:=.type "list",dict:=none,data:=.seq acc c',slots:=#[] }/\acc.toList=vs) E) { s with heap:=h4,toks:=tk,drawn:=dr }:=by
  intro h4 c tk st k4 l4
  refine codeAny_extend_loopS (c2a (A:=A.in1) (prog:=prog) hh d (Γo (Nat.lt_trans hlt hI')) p2).toS (by rw[hvs];exact hz) s.heap.objs.size (by simp;exact⟨Γo hI',Nat.ne_of_gt hlt,p3⟩) (.ref s.heap.objs.size) vs.length 0 _ #[] c rfl (Nat.zero_le _) st l4 (ItemsOf.nil _) λs' acc c' hm l5 it=>?_
  rw[Moved.eq_with hm]
  refine⟨s'.heap,s'.toks,acc,c',rfl,rfl,λb o e=>hm.heap b o (λz=>?_) (k4 b o e),l5,?_⟩
  ·have hb:=Γl e
   rcases List.mem_cons.mp z with z|z
   ·rw[z] at hb;exact Nat.lt_irrefl _ hb
   ·rw[List.mem_singleton.mp z] at hb;exact Nat.lt_irrefl _ (Nat.lt_trans hb hI')
  ·obtain⟨i1,i2⟩:=it
   apply List.ext_getElem
   ·simpa using i1
   ·intro i j1 j2
    have:=i2 i acc[i] (by simp at j1;simp[j1])
    have:vs[i]?=some acc[i]:=this
    rw[List.getElem?_eq_getElem j2] at this
    rw[Option.some.inj this];simp
 have st0:c4o w I a o es ep t vs pl 0 h':=⟨⟨f,p1,it,g⟩,kp _ _ (k0 _ _ ho)⟩
 have fin:∀ (r:Value)(s':Shared),(∃ (h':Heap) (tk:Nat)(acc:Array Value) (c':Nat),r=.ref s.heap.objs.size/\s' = { s with heap:=h',toks:=tk,drawn:=dr }/\(∀ b o,s.heap.get? b=some o->h'.get? b=some o)/\h'.get? s.heap.objs.size=some { cls:=.type "list",dict:=none,data:=.seq acc c',slots:=#[] }/\acc.toList=vs)->wpAny (model prog w) A (do
   let .ref l:=r|unsupported "internal:collect"
   match (<- load l).data with
   | .seq xs _=>pure xs.toList
   | _=>unsupported "internal:collect") R E s':=by
  rintro r s' ⟨h5,tk,acc,c',rfl,rfl,k5,l5,e5⟩
  refine Γa (wpAny_load l5 (Γb ?_))
  rw[e5]
  exact q h5 tk dr vs k5 pm
 have L1:h'.get? s.heap.objs.size=some { cls:=.type "list",data:=.seq #[] }:=kp _ _ L0
 have last:∀ (h4:Heap) (c tk:Nat),c4o w I a o es ep t vs pl 0 h4->(∀ b o,s.heap.get? b=some o->h4.get? b=some o)->h4.get? s.heap.objs.size=some { cls:=.type "list",data:=.seq #[] c }->wpAny (model prog w) A.in1 (again (.builtin "list.extend.loop" ⟨[.ref s.heap.objs.size,.ref I,.ref s.heap.objs.size],[]⟩)) (λfin s'=>match fin with
   | .done f=>match (Except.ok f:Result) with
    | .ok (.ret v)=>wpAny (model prog w) A (do
     let .ref l:=v|unsupported "internal:collect"
     match (<- load l).data with
     | .seq xs _=>pure xs.toList
     | _=>unsupported "internal:collect") R E s'
    | .ok _=>False
    | .error e=>E e s'
   | .again c'=>c'.quiet=true/\codeAny (model prog w) A c' (λr s'=>match r with
    | .ok (.ret v)=>wpAny (model prog w) A (do
     let .ref l:=v|unsupported "internal:collect"
     match (<- load l).data with
     | .seq xs _=>pure xs.toList
     | _=>unsupported "internal:collect") R E s'
    | .ok _=>False
    | .error e=>E e s') s') (λe s'=>E e s') { s with heap:=h4,toks:=tk,drawn:=dr }:=by
  intro h4 c tk x1 x2 x3
  refine Γb ⟨plainId_quiet F.plain_extend_loop _,codeAny_mono (loop h4 c tk x1 x2 x3) λr s' y=>?_⟩
  cases r with
  | error e=>exact y
  | ok fl=>cases fl with
   | ret v=>exact fin v s' y
   | _=>exact y.elim
 have k1:∀ b o,s.heap.get? b=some o->h'.get? b=some o:=λb o e=>kp b o (k0 b o e)
 refine Γa (Γg (c3q (s:={ s with heap:=h',drawn:=dr }) ⟨o,k1 _ _ ho,d.ex.1⟩ ?_))
 refine wpAny_ite_split (λ_=>?_) λ_=>last h' 0 s.toks st0 k1 L1
 refine Γa (wpAny_rule (Γa ?_))
 show wpAny _ _ (updateSeq s.heap.objs.size (·.push .none) >>= λ_=>updateSeq s.heap.objs.size (·.pop)) _ _ _
 refine Γa (wpAny_updateSeq (s:={ s with heap:=h',drawn:=dr }) L1 rfl ?_)
 have L2:=Heap.get?_update_self (Obj.mapSeq (·.push Value.none)) L1 rfl
 refine wpAny_updateSeq (s:={ s with heap:=_,drawn:=dr }) (hz:=by seq_fits) L2 rfl ?_
 have L3:=Heap.get?_update_self (Obj.mapSeq (·.pop)) L2 rfl
 have k3:∀ b o,b≠s.heap.objs.size->h'.get? b=some o->((h'.update s.heap.objs.size (Obj.mapSeq (·.push Value.none))).update s.heap.objs.size (Obj.mapSeq (·.pop))).get? b=some o:=λb o n e=>(Γf _ _ (Ne.symm n)).trans ((Γf _ _ (Ne.symm n)).trans e)
 refine last _ _ s.toks ?_ (λb o e=>k3 b o (Γo (Γl e)) (k1 b o e)) L3
 exact⟨⟨f,p1,it.keep λo e=>k3 _ o (Nat.ne_of_gt hI') e,g.keep λp z o e=>k3 p o (λy=>p3 (y ▸ p1 p z)) e⟩,k3 _ _ (Γo hlt) (k1 _ _ ho)⟩
end
theorem SetN.none {w:World}{h:Heap}{a:Addr}(e:h.get? a=some { cls:=.type "set",dict:=none,data:=.set #[] 0 (.fresh 0 0 (!w.params.followText "set-order")) }):SetN w h a [] :=
 ⟨List.nodup_nil,_,#[],0,_,e,⟨⟨rfl,rfl,rfl⟩,rfl,λe he=>by simp at he,.refl _,by decide,rfl,TabOk.fresh _ _ _⟩⟩
theorem SetN.keep {w:World}{h h':Heap}{a:Addr}{ns:List Int}(x:SetN w h a ns)(k:∀ o,h.get? a=some o->h'.get? a=some o):SetN w h' a ns:=by
 obtain⟨nd,o,es,ep,t,ho,d⟩:=x
 exact⟨nd,o,es,ep,t,k o ho,d⟩
noncomputable def addOne (ns:List Int) (k:Int):List Int:=if k∈ns then ns else ns++[k]
theorem b6u (ns:List Int) (k x:Int):x∈addOne ns k↔x∈ns ∨ x=k:=by
 unfold addOne
 by_cases h:k∈ns
 ·rw[if_pos h]
  exact⟨.inl,λz=>z.elim id λz=>z ▸ h⟩
 ·rw[if_neg h];simp
theorem b6v (ns:List Int) (k:Int):(addOne ns k).length<=ns.length+1:=by
 unfold addOne
 split
 ·lia
 ·simp
theorem b4q (x:Int):∀ (ks ns:List Int),x∈ks.foldl addOne ns↔x∈ns ∨ x∈ks
 | [],ns=>by simp
 | k :: ks,ns=>by rw[List.foldl_cons,b4q x ks,b6u,List.mem_cons,or_assoc]
theorem a9m:∀ (ks ns:List Int),(ks.foldl addOne ns).length<=ns.length+ks.length
 | [],ns=>by simp
 | k :: ks,ns=>by
  have h1:=a9m ks (addOne ns k)
  have h2:=b6v ns k
  rw[List.foldl_cons,List.length_cons];lia
section
variable {prog:Program}{w:World}{A:Around}{R:Result->Shared->Prop}{E:Value->Shared->Prop}{s:Shared}{I:Addr}{fp wr:List Addr}{G:Array GenState->Array GenState->Prop}{n:Nat}{P:Nat->Value->Prop}{St:Nat->Shared->Prop}
end
abbrev freshSet (w:World):Obj:={ cls:=.type "set",dict:=none,data:=.set #[] 0 (.fresh 0 0 (!w.params.followText "set-order")) }
section
variable {prog:Program}{w:World}{A:Around}{E:Value->Shared->Prop}{s:Shared}
structure NumSrc (prog:Program)(w:World)(s:Shared)(l:Addr)(T:String)(ks:List Int):Prop where
 ty:s.TypeIs (.ref l) T
 su:isSubtype (.type T) (.type "set")=pure false
 sf:isSubtype (.type T) (.type "frozenset")=pure false
 nd:(Value.type T == Value.type "dict")=false
 it:∀ h:Heap,(∀ b o,s.heap.get? b=some o->h.get? b=some o)->∃ (oI:Obj)(P:Nat->Value->Prop)(St:Nat->Heap->Prop),(∀ (A':Around)(E':Value->Shared->Prop)(Q:Value->Shared->Prop),Q (.ref h.objs.size) { s with heap:=h.push oI }->wpAny (model prog w) A' (pyIter (.ref l)) Q E' { s with heap:=h })/\(∀ A':Around,A'.handled=none->Walks prog w A' h.objs.size [h.objs.size,l] [h.objs.size] ks.length P St)/\St 0 (h.push oI)/\∀ i v,P i v->∃ t,v=.int (ks.getD i 0) t
end
noncomputable def d5a (prog:Program)(w:World) (m:Nat):Prop:=∀ (A:Around)(E:Value->Shared->Prop)(s:Shared)(a:Addr) (n:Nat)(vs:List Value)(ns:List Int)(P:PySem.Fin->Shared->Prop),s.heap.get? a=some (seqObj "list" vs.toArray n)->IntsAre vs ns->vs.length<=m ->
 (∀ (us:List Value)(ms:List Int)(h':Heap) (c tk:Nat),IntsAre us ms->ms.Perm ns->ms.Pairwise (·<=·)->h'.get? a=some (seqObj "list" us.toArray c)->(∀ b o,b≠a->s.heap.get? b=some o->h'.get? b=some o)->P (.done (.ret .none)) { s with heap:=h',toks:=tk }) ->
 wpAny (model prog w) A (Builtin.«list.sort» ⟨[.ref a],[]⟩) P E s
theorem c6q (prog:Program)(w:World):d5a prog w 63:=by
 intro A E s a n vs ns P ho hi hl k
 refine list_sort_tree ho hi (by lia) λout ms i1 i2 i3=>?_
 obtain⟨c,hc⟩:=sortedHeap_at (out:=out) ho
 exact k out.toList ms _ c s.toks i1 i2 i3 (by rw[Array.toArray_toList];exact hc) λb o hb e=>(sortedHeap_old hb (Γl e)).trans e
section
variable {X:Cx}
noncomputable def SetO (w:World)(a:Addr)(ns:List Int):HO:=.ext λh=>SetN w h a ns
noncomputable def c5a (X:Cx) (m:Nat):List V->Hp->VK->Prop:=λxs H Q=>∃ (a:Addr)(ns:List Int),xs=[.ref a]/\H a=some (SetO X.w a ns)/\ns.length<=m/\∀ p (ms:List Int),H p=none->ms.Perm ns->ms.Pairwise (·<=·)->Q (.ref p) (upd H p (.lst (ms.map V.int)))
theorem c9v (hc:X.calm=true){m:Nat}(hm:m<=100000)(S:d5a X.prog X.w m):a1r X (.builtin "sorted") (c5a X m):=by
 rintro pins s σ H xs us Q I r ⟨a,ns,rfl,ha,hb,k⟩
 obtain⟨u,rfl,ru⟩:=a3h r
 cases (show u=Value.ref a from ru)
 obtain⟨⟨nd,o,es,ep,t,ho,d⟩,_,_⟩:=(show ObjOk X.prog X.w H s.heap a (SetO X.w a ns) from I.hok a _ ha)
 refine Calls.call_function_entry kind_sorted plain_sorted entry_sorted (args_sorted1 _) ?_
 unfold Builtin.«sorted»
 refine Γa (m:=checkCount "sorted" 1 1 _) (Γb (Γa (b3i (I.ok.hd hc) ho d λh1 tk dr vs k1 pv=>?_)))
 have hi:IntsAre vs (vs.map numOf):=by
  have:∀ x∈vs,∃ i t,x=.int i t:=λx hx=>by
   obtain⟨e,he,rfl⟩:=List.mem_map.mp (pv.mem_iff.mp hx)
   obtain⟨i,t,rfl⟩:=d.num e he
   exact⟨i,t,rfl⟩
  clear pv
  induction vs with
  | nil=>exact .nil
  | cons x r ih =>
   obtain⟨i,t,rfl⟩:=this x (by simp)
   exact .cons i t (ih λy hy=>this y (by simp[hy]))
 have pn:(vs.map numOf).Perm ns:=by
  refine (pv.map numOf).trans ?_
  rw[List.map_map]
  exact d.perm
 have hl:vs.length<=m:=by have:=pn.length_eq;rw[List.length_map] at this;lia
 refine Γa (wpAny_newList ?_ (by rw[sizeLine_eq];lia))
 have hoL:(h1.push (seqObj "list" vs.toArray 0)).get? h1.objs.size=some (seqObj "list" vs.toArray 0):=Γm _ rfl
 have old:∀ b o,s.heap.get? b=some o->b≠h1.objs.size:=λb o e=>Γo (Γl (k1 b o e))
 show wpAny _ _ _ _ _ { s with heap:=h1.push (seqObj "list" vs.toArray 0),toks:=tk,drawn:=dr }
 refine Γa (Γg (wpAny_call_entry slot_list_sort ⟨_,hoL,rfl⟩ entry_list_sort (S _ _ { s with heap:=h1.push (seqObj "list" vs.toArray 0),toks:=tk,drawn:=dr } _ _ vs _ _ hoL hi hl λus ms h' c tk' i1 i2 i3 i4 i5=>⟨_,rfl,?_⟩) (args_list_sort _)))
 have kp:∀ b o,s.heap.get? b=some o->h'.get? b=some o:=λb o e=>i5 b o (old b o e) (Γc _ (k1 b o e))
 have I0:Inv X pins σ H { s with drawn:=dr }:=⟨I.ok,I.os,I.bare,I.base,I.loc,I.cell,I.free,I.freeC,I.pin,I.hok,I.len⟩
 obtain⟨I2,hD⟩:=c3m (a:=h1.objs.size) (o:=.lst (ms.map V.int)) (t':=tk') I0 kp old ⟨by rw[List.length_map,i2.length_eq,List.length_map,sizeLine_eq];lia,us,c,d2u i1,i4⟩
 exact Γb ⟨_,rfl,.ref h1.objs.size,_,I2,rfl,k _ ms hD (i2.trans pn) i3⟩
end
theorem a8g:∀ (ks ns:List Int),ns.Nodup->(ks.foldl addOne ns).Nodup
 | [],ns,h=>h
 | k :: ks,ns,h=>by
  refine a8g ks _ ?_
  unfold addOne
  split
  ·exact h
  ·rename_i hk
   rw[List.nodup_append]
   exact⟨h,by simp,λx hx y hy z=>hk (by rw[List.mem_singleton.mp hy] at z;rw[<- z];exact hx)⟩
theorem b7t {ms:List Int}(h1:ms.Pairwise (·<=·))(h2:ms.Nodup):ms.Pairwise (· < ·):=by
 have:=List.Pairwise.and h1 h2
 exact this.imp λ{a b} h=>by have:=h.1;have:=h.2;lia
section
variable {X:Cx}{C:CC}{n:Nat}{sp:Γd->Nat->Sp}{a:Expr}{ea:EW}{pos pos' p p':Pos}
end
end Kq
end
section
namespace L2
open PySem PySem.Spec PyProof.Rows
noncomputable def c0i (elt:Expr)(acc:Value)(env:Env)(c:Code):Sem Fin:=do
 (do let v <- eval elt env;standAt elt.pos;let _ <- call (.builtin "set.add") [acc,v])
 again c
theorem c3d {prog:Program}{w:World}{A:Around}{E:Value->Shared->Prop}{s:Shared}{Q:Value->Shared->Prop}(q:Q (.ref s.heap.objs.size) { s with heap:=s.heap.push (Kq.freshSet w) }):wpAny (model prog w) A (newSet (.type "set")) Q E s :=
 Γa (Γa (wpAny_askSetting (Γb (Γa (wpAny_alloc (Γb q))))))
theorem c1t {Y:Cx}{pins:List (Addr×Obj)}{σ:St}{H:Hp}{s:Shared}{acc:Addr}{ys:List Int}{k:Int}{tk:Nat}{Q:Value->Shared->Prop}{E:Value->Shared->Prop}(I:Inv Y pins σ H s)(hy:H acc=some (Kq.SetO Y.w acc ys))(hz:ys.length+1<scanBound)
  (q:∀ s',Inv Y pins σ (upd H acc (Kq.SetO Y.w acc (Kq.addOne ys k))) s'->Q .none s'):wpAny (model Y.prog Y.w) Y.A (call (.builtin "set.add") [.ref acc,.int k tk]) Q E s:=by
 have hS:Kq.SetN Y.w s.heap acc ys:=(show ObjOk Y.prog Y.w H s.heap acc (Kq.SetO Y.w acc ys) from I.hok acc _ hy).1
 have hT:s.TypeIs (.ref acc) "set":=by obtain⟨_,o,_,_,_,ho,d⟩:=hS;exact⟨o,ho,d.ex.1⟩
 refine wpAny_call_entry F.slot_set_add hT F.entry_set_add ?_ (F.args_set_add_2 _ _)
 unfold Builtin.«set.add» Builtin.Frozenset.oneOther
 simp only[List.isEmpty_nil,bind_assoc]
 unfold Builtin.Frozenset.addrOf setAdd
 refine Γa (Γb (Γa (Γb (Γa (Γg (Γa ((intKind Y.prog Y.w).pyHash (k:=k) (intKind_is _ _ _ _) ?_)))))))
 refine Kq.add_num (s:={ s with toks:=s.toks+1 }) hS hz λh' b sb x=>?_
 refine Γb ⟨_,rfl,q _ (I.write (x:=acc) (e:=acc) (t':=s.toks+1) (by rw[hy];exact True.intro) (.inl rfl) (λb o hb e=>(sb.2 b hb).trans e) ?_ ⟨x,?_,λh1 h2 y kk=>y.keep kk⟩)⟩
 all_goals
  obtain⟨_,o,_,_,_,ho,_⟩:=x
  exact⟨o,ho⟩
theorem c2c (elt:Expr)(g1:Comprehension)(target iter:Expr)(ifs:List Expr)(scope:Scope)(pos:Pos)(it acc:Value)(env:Env) :
  compTurn (.SetComp elt [g1,⟨target,iter,ifs,0⟩] scope pos) 1 it acc env=b3q target iter ifs it env (c0i elt acc env (.compLoop (.SetComp elt [g1,⟨target,iter,ifs,0⟩] scope pos) 1 it acc env)) (.compLoop (.SetComp elt [g1,⟨target,iter,ifs,0⟩] scope pos) 1 it acc env):=rfl
theorem b7i (elt target iter:Expr)(ifs:List Expr)(tg2 iter2:Expr)(ifs2:List Expr)(scope:Scope)(pos:Pos)(it acc:Value)(env:Env) :
  compTurn (.SetComp elt [⟨target,iter,ifs,0⟩,⟨tg2,iter2,ifs2,0⟩] scope pos) 0 it acc env=b3q target iter ifs it env (b3a (.SetComp elt [⟨target,iter,ifs,0⟩,⟨tg2,iter2,ifs2,0⟩] scope pos) iter2 acc env (.compLoop (.SetComp elt [⟨target,iter,ifs,0⟩,⟨tg2,iter2,ifs2,0⟩] scope pos) 0 it acc env)) (.compLoop (.SetComp elt [⟨target,iter,ifs,0⟩,⟨tg2,iter2,ifs2,0⟩] scope pos) 0 it acc env):=rfl
section
variable {prog:Program}{w:World}{A:Around}{R:Result->Shared->Prop}{s:Shared}
theorem a8f {elt:Expr}{gs:List Comprehension}{scope:Scope}{pos:Pos}{dp:Nat}{target iter:Expr}{ifs:List Expr}{it acc:Value}{env:Env}{fin:Sem Fin}(ht:compTurn (.SetComp elt gs scope pos) dp it acc env=b3q target iter ifs it env fin (.compLoop (.SetComp elt gs scope pos) dp it acc env))(I:Nat->Shared->Prop)
  (turn:∀ n s,I n s->wpAny (model prog w) A (pyNext it) (λr s1=>match r with
   | none=>R (.ok .next) s1
   | some v=>wpAny (model prog w) A (letOwnedTupleGo target it v) (λ_ s2=>wpAny (model prog w) A (assign target env v) (λ_ s3=>wpAny (model prog w) A (a8o ifs env) (λok s4 =>
     if ok=true then wpAny (model prog w) A fin (λf s6=>f=.again (.compLoop (.SetComp elt gs scope pos) dp it acc env)/\∃ m,m<n/\I m s6) (λ_ _=>False) s4
     else ∃ m,m<n/\I m s4) (λ_ _=>False) s3) (λ_ _=>False) s2) (λ_ _=>False) s1) (λ_ _=>False) s)
  (n:Nat)(h:I n s):codeAny (model prog w) A (.compLoop (.SetComp elt gs scope pos) dp it acc env) R s:=by
 refine codeAny_loop rfl I (λn s hI=>?_) n h
 show wpAny _ A ((compTurn (.SetComp elt gs scope pos) dp it acc env).onRaise (λx=>do noteFrame x env;theTreesLotGoes x)) _ _ s
 refine wpAny_noted ?_
 rw[ht]
 unfold b3q
 have no:∀ (e:Value)(s':Shared),(λ(_:Value)(_:Shared)=>False) e s'->notedBy (model prog w) A env (λe s'=>R (.error e) s') e s':=λ_ _ z=>z.elim
 refine Γa (wpAny_standAt (Γa (wpAny_mono (turn n s hI) (λr s1 h1=>?_) no)))
 cases r with
 | none=>exact Γb h1
 | some v =>
  refine Γa (wpAny_mono h1 (λ_ s2 h2=>Γa (wpAny_mono h2 (λ_ s3 h3=>Γa (wpAny_mono h3 (λok s4 h4=>?_) no)) no)) no)
  cases ok with
  | true =>
   rw[if_pos rfl] at h4
   simp only[if_true]
   exact wpAny_mono h4 (λf s6 ⟨e6,h6⟩=>by rw[e6];exact⟨rfl,h6⟩) no
  | false =>
   rw[if_neg Γk] at h4
   simp only[Γp,if_false]
   first
    | exact Γb ⟨rfl,h4⟩
    | exact Γa (Γb (Γb ⟨rfl,h4⟩))
theorem b7w {elt:Expr}{g1:Comprehension}{target iter:Expr}{ifs:List Expr}{scope:Scope}{pos:Pos}{it acc:Value}{env:Env}
  (h0:codeAny (model prog w) A (.compLoop (.SetComp elt [g1,⟨target,iter,ifs,0⟩] scope pos) 1 it acc env) R s)
  (h:wpAny (model prog w) A (pyIter it) (λit' s'=>codeAny (model prog w) A (.compLoop (.SetComp elt [g1,⟨target,iter,ifs,0⟩] scope pos) 1 it' acc env) R s')
   (notedBy (model prog w) A env λx s'=>R (.error x) s') s) :
  codeAny (model prog w) A (.compStart (.SetComp elt [g1,⟨target,iter,ifs,0⟩] scope pos) 1 it acc env) R s:=by
 refine codeAny_of_tree ?_
 show wpAny _ _ ((compStart (.SetComp elt [g1,⟨target,iter,ifs,0⟩] scope pos) 1 it acc env).onRaise (λx=>do noteFrame x env;standAt theWindowsPlace)) _ _ s
 refine wpAny_notedAt ?_
 unfold compStart
 show wpAny _ _ (ask >>= _) _ _ s
 refine Γa (wpAny_askSetting (wpAny_ite ?_))
 split
 ·first
   | exact Γa (Γb (Γb (And.intro rfl h0)))
   | exact Γb (And.intro rfl h0)
 ·first
   | exact Γa (wpAny_rule (Γa (wpAny_standAt (Γa (wpAny_mono h (λit' s' h'=>Γb (And.intro rfl h')) λ_ _ x=>x)))))
   | (refine Γa (wpAny_rule ?_);show wpAny _ _ (standAt iter.pos >>= _) _ _ s;exact Γa (wpAny_standAt (Γa (wpAny_mono h (λit' s' h'=>Γb (And.intro rfl h')) λ_ _ x=>x))))
theorem b5n {elt:Expr}{g2:Comprehension}{target iter:Expr}{ifs:List Expr}{scope:Scope}{pos:Pos}{it acc:Value}{env:Env}
  (h0:codeAny (model prog w) A (.compLoop (.SetComp elt [⟨target,iter,ifs,0⟩,g2] scope pos) 0 it acc env) R s)
  (h:wpAny (model prog w) A (pyIter it) (λit' s'=>codeAny (model prog w) A (.compLoop (.SetComp elt [⟨target,iter,ifs,0⟩,g2] scope pos) 0 it' acc env) R s')
   (notedBy (model prog w) A env λx s'=>R (.error x) s') s) :
  codeAny (model prog w) A (.compStart (.SetComp elt [⟨target,iter,ifs,0⟩,g2] scope pos) 0 it acc env) R s:=by
 refine codeAny_of_tree ?_
 show wpAny _ _ ((compStart (.SetComp elt [⟨target,iter,ifs,0⟩,g2] scope pos) 0 it acc env).onRaise (λx=>do noteFrame x env;standAt theWindowsPlace)) _ _ s
 refine wpAny_notedAt ?_
 unfold compStart
 show wpAny _ _ (ask >>= _) _ _ s
 refine Γa (wpAny_askSetting (wpAny_ite ?_))
 split
 ·first
   | exact Γa (Γb (Γb (And.intro rfl h0)))
   | exact Γb (And.intro rfl h0)
 ·first
   | exact Γa (wpAny_rule (Γa (wpAny_standAt (Γa (wpAny_mono h (λit' s' h'=>Γb (And.intro rfl h')) λ_ _ x=>x)))))
   | (refine Γa (wpAny_rule ?_);show wpAny _ _ (standAt iter.pos >>= _) _ _ s;exact Γa (wpAny_standAt (Γa (wpAny_mono h (λit' s' h'=>Γb (And.intro rfl h')) λ_ _ x=>x))))
end
noncomputable def d0z (ww:World)(wi:TI)(g:TG)(tt:TT)(te:TE)(acc:Addr)(σ:St)(H:Hp)(R:St->Hp->Prop):Prop:=wi σ H λJ H1=>∃ W:Nat->Nat->St->Hp->Prop,(∃ m,W 0 m σ H1)/\∀ i m σ H,W i m σ H ->
 (J.stop i H/\R σ H) ∨ (J.go i H/\∀ x H',J.yld i H x H'->g x σ H' λσ2 H2=>tt σ2 H2 λb H3 =>
  if b=true then te σ2 H3 λv H4=>∃ ys k,v=.int k/\H4 acc=some (Kq.SetO ww acc ys)/\ys.length+1<scanBound/\∃ m',m'<m/\W (i+1) m' σ2 (upd H4 acc (Kq.SetO ww acc (Kq.addOne ys k))) else ∃ m',m'<m/\W (i+1) m' σ2 H3)
theorem c8w {Y:Cx}{elt:Expr}{g1:Comprehension}{tg iter:Expr}{ifs:List Expr}{scope:Scope}{pos:Pos}{wi:TI}{g:TG}{tt:TT}{te:TE}{acc:Addr}{c:Code}
  (hc:Y.calm=true)(hx:Y.xe=λ_ _=>False)(hi:PI Y tg iter wi)(hg:PG Y tg g)(ht:PTs Y ifs tt)(he:PE Y elt te)(hs:∀ x,foldedSetIterable iter Y.env x=pure x)
  {pins:List (Addr×Obj)}{s:Shared}{σ:St}{H:Hp}{R:St->Hp->Prop}(I:Inv Y pins σ H s)(h:d0z Y.w wi g tt te acc σ H R) :
  wpAny (model Y.prog Y.w) Y.A (b3a (.SetComp elt [g1,⟨tg,iter,ifs,0⟩] scope pos) iter (.ref acc) Y.env c) (λf s'=>f=.again c/\∃ σ' H',Inv Y pins σ' H' s'/\R σ' H') (λ_ _=>False) s:=by
 unfold b3a
 have hi':=hi pins s σ H _ I h
 rw[hx] at hi'
 refine Γa (thn hi' λv s1 h1=>Γa (wpAny_standAt (Γa (wpAny_of_eq (hs v) ?_))))
 refine Γa (Γg (thn h1 λitv s2 h2=>Γa (wpAny_runOwn ?_)))
 obtain⟨it,fp,tn,J,H2,e,I2,T,st2,f2,W,⟨m0,w0⟩,turn⟩:=h2
 subst e
 have stat:∀ {H':Hp},(∀ b∈fp,H' b=none)->∀ b∈fp,a9x Y pins H' b:=λhn b hb=>⟨hn b hb,(f2 b hb).2⟩
 have loop:codeAny (model Y.prog Y.w) Y.A (.compLoop (.SetComp elt [g1,⟨tg,iter,ifs,0⟩] scope pos) 1 (.ref it) (.ref acc) Y.env) (λr s'=>match r with
   | .ok f=>wpAny (model Y.prog Y.w) Y.A (again c) (λf s'=>f=.again c/\∃ σ' H',Inv Y pins σ' H' s'/\R σ' H') (λ_ _=>False) s'
   | .error e=>cameBackBy (model Y.prog Y.w) Y.A Y.env (λ_ _=>False) e s') s2:=by
  refine a8f (c2c ..) (λn s'=>∃ i σ' H',Inv Y pins σ' H' s'/\tn i s'.heap/\(∀ b∈fp,H' b=none)/\W i n σ' H') ?_ m0 ⟨0,σ,H2,I2,st2,λb hb=>(f2 b hb).1,w0⟩
  rintro n s3 ⟨i,σ3,H3,I3,st3,fr3,w3⟩
  rcases turn i n σ3 H3 w3 with⟨stop,qn⟩|⟨go,step⟩
  ·refine thn (T.done Y rfl rfl rfl hc i pins s3 σ3 H3 (λ_ _=>False) I3 (stat fr3) st3 stop) λr s4 ⟨hr,I4⟩=>?_
   subst hr
   exact Γb ⟨rfl,σ3,H3,I4,qn⟩
  ·refine thn (T.item Y rfl rfl rfl hc i pins s3 σ3 H3 (λ_ _=>False) I3 (stat fr3) st3 go) λr s4 ⟨u,hr,h4⟩=>?_
   subst hr
   refine thn h4 λ_ s5 ⟨x,H5,I5,r5,y5,st5,fr5⟩=>?_
   have I5':=I5.pinned (stat fr5) (T.obj _ _ st5)
   have pinK:∀ {σ':St}{H':Hp}{s':Shared},Inv Y (pins++a4k fp s5.heap) σ' H' s'->tn (i+1) s'.heap/\∀ b∈fp,H' b=none:=λ{σ' H' s'} I' =>
    ⟨T.keep _ _ _ st5 λb hb o e=>(I'.pin (b,o) (List.mem_append_right _ (List.mem_append_right _ (a1h hb e)))).1,λb hb=>by
     obtain⟨o,e,_⟩:=T.obj _ _ st5 b hb
     exact (I'.pin (b,o) (List.mem_append_right _ (List.mem_append_right _ (a1h hb e)))).2.1⟩
   have dg:=hg _ s5 _ H5 x u _ I5' r5 (step x H5 y5)
   rw[hx] at dg
   refine thn dg λ_ s6 ⟨σ6,H6,I6,q6⟩=>?_
   have dt:=ht _ s6 σ6 H6 _ I6 q6
   rw[hx] at dt
   refine thn dt λok s7 ⟨H7,I7,q7⟩=>?_
   cases ok with
   | true =>
    rw[if_pos rfl] at q7 ⊢
    have de:=he _ s7 σ6 H7 _ I7 q7
    rw[hx] at de
    unfold c0i
    refine Γa (Γa (thn de λy s8 ⟨v8,H8,I8,r8,ys,k,ev,hys,hz,m',hm,w8⟩=>Γa (wpAny_standAt (Γa ?_))))
    subst ev
    obtain⟨tk,rfl⟩:=r8
    refine c1t I8 hys hz λs9 I9=>Γb (Γb ?_)
    obtain⟨t9,f9⟩:=pinK I9
    exact⟨rfl,m',hm,i+1,_,_,I9.unpinned,t9,f9,w8⟩
   | false =>
    rw[if_neg Γk] at q7 ⊢
    obtain⟨m',hm,w7⟩:=q7
    obtain⟨t7,f7⟩:=pinK I7
    exact⟨m',hm,i+1,_,_,I7.unpinned,t7,f7,w7⟩
 exact b7w loop (T.self _ 0 _ _ _ st2 loop)
noncomputable def c6h (ww:World)(wi:TI)(g:TG)(tt:TT)(wi2:TI)(g2:TG)(tt2:TT)(te:TE) (own:Nat):TE:=λσ H Q=>wi σ H λJ H1=>∀ acc,H1 acc=none->∃ W:Nat->Nat->Hp->Prop,(∃ m,W 0 m (upd H1 acc (Kq.SetO ww acc [])))/\∀ i m H,W i m H ->
 (J.stop i H/\Q (.ref acc) H) ∨ (J.go i H/\∀ x H',J.yld i H x H'->g x (σ++Γj own none) H' λσ2 H2=>Wk (σ++Γj own none) σ2/\tt σ2 H2 λb H3 =>
  if b=true then d0z ww wi2 g2 tt2 te acc σ2 H3 λσ3 H4=>Wk (σ++Γj own none) σ3/\∃ m',m'<m/\W (i+1) m' H4 else ∃ m',m'<m/\W (i+1) m' H3)
section
variable {X:Cx}{elt tg iter tg2 iter2:Expr}{ifs ifs2:List Expr}{scope:Scope}{own:List Str}{pos:Pos}{wi wi2:TI}{g g2:TG}{tt tt2:TT}{te:TE}
theorem b6l {pins:List (Addr×Obj)}{σ:St}{H2:Hp}{s2:Shared}{Q:VK}{it:Addr}{fp:List Addr}{tn:Nat->Heap->Prop}{J:It}{RR:Value->Addr->Result->Shared->Prop}
  (hc:X.calm=true)(SC:CScope X scope own)
  (hblock:∀ C s H,PG (cxC X scope own fp C s H) tg g/\PTs (cxC X scope own fp C s H) ifs tt/\(PI (cxC X scope own fp C s H) tg2 iter2 wi2/\PG (cxC X scope own fp C s H) tg2 g2/\PTs (cxC X scope own fp C s H) ifs2 tt2/\PE (cxC X scope own fp C s H) elt te/\∀ x,foldedSetIterable iter2 (cxC X scope own fp C s H).env x=pure x))
  (I2:Inv X pins σ H2 s2)(T:Turn X.prog X.w X.K tg J fp it tn)(st2:tn 0 s2.heap)(f2:∀ b∈fp,a9x X pins H2 b)
  (h:∀ acc,H2 acc=none->∃ W:Nat->Nat->Hp->Prop,(∃ m,W 0 m (upd H2 acc (Kq.SetO X.w acc [])))/\∀ i m H,W i m H ->
   (J.stop i H/\Q (.ref acc) H) ∨ (J.go i H/\∀ x H',J.yld i H x H'->g x (σ++Γj own.length none) H' λσ2 H2=>Wk (σ++Γj own.length none) σ2/\tt σ2 H2 λb H3 =>
    if b=true then d0z X.w wi2 g2 tt2 te acc σ2 H3 λσ3 H4=>Wk (σ++Γj own.length none) σ3/\∃ m',m'<m/\W (i+1) m' H4 else ∃ m',m'<m/\W (i+1) m' H3))
  (hRR:∀ acc C H' m s',Inv X pins σ H' s'->s'.heap.Ns C m->C≠X.env.locals->(∀ x c,X.env.cells.lookup x=some c->c≠C)->s2.heap.objs.size<=C->H' C=none->Q (.ref acc) H'->RR (.ref acc) C (.ok .next) s'){E:Value->Shared->Prop} :
  wpAny (model X.prog X.w) X.A (newSet (.type "set")) (λacc s3=>wpAny (model X.prog X.w) X.A (newFunctionEnv scope X.env.globals (a8j X.env.cells scope.names []) [] X.env.qual none .none (some X.env)) (λcenv s4 =>
   codeAny (model X.prog X.w) X.A (.compStart (.SetComp elt [⟨tg,iter,ifs,0⟩,⟨tg2,iter2,ifs2,0⟩] scope pos) 0 (.ref it) acc { cenv with scope:=relabel scope X.env }) (RR acc cenv.locals) s4) E s3) E s2:=by
 have hacc:=I2.fresh
 have I3:Inv X pins σ (upd H2 s2.heap.objs.size (Kq.SetO X.w s2.heap.objs.size [])) { s2 with heap:=s2.heap.push (Kq.freshSet X.w),toks:=s2.toks }:=I2.laid (a:=s2.heap.objs.size) (o:=Kq.SetO X.w s2.heap.objs.size []) (t':=s2.toks) (λ_ _ q=>Γc _ q) (Γi _) ⟨Kq.SetN.none (Γm _ rfl),⟨_,Γm _ rfl⟩,λh1 h2 y kk=>y.keep kk⟩
 refine c3d ?_
 obtain⟨W,⟨m0,w0⟩,turn⟩:=h _ hacc
 generalize hs3:({ s2 with heap:=s2.heap.push (Kq.freshSet X.w),toks:=s2.toks }:Shared)=s3 at I3
 have keep23:∀ b o,s2.heap.get? b=some o->s3.heap.get? b=some o:=λb o e=>by rw[<- hs3];exact Γc _ e
 have hf3:∀ b∈fp,a9x X pins (upd H2 s2.heap.objs.size (Kq.SetO X.w s2.heap.objs.size [])) b:=λb hb=>by
  obtain⟨o,ho,_⟩:=T.obj _ _ st2 b hb
  exact⟨by rw[a0g (Γo (Γl ho))];exact (f2 b hb).1,(f2 b hb).2⟩
 have st3:tn 0 s3.heap:=T.keep _ _ _ st2 λb hb o e=>keep23 b o e
 refine a3m λh4 hns' keep34 ok34=>?_
 have I4:=a9j (t4:=s3.toks+([]:List (Str×Value)).length) I3 SC hc hf3 (λb hb=>by obtain⟨o,ho,_⟩:=T.obj _ _ st3 b hb;exact⟨o,ho⟩) hns' keep34 ok34
 have st4:tn 0 h4:=T.keep _ _ _ st3 λb hb o e=>keep34 b o e
 obtain⟨hg,ht,he⟩:=hblock s3.heap.objs.size s3 (upd H2 s2.heap.objs.size (Kq.SetO X.w s2.heap.objs.size []))
 have e5:(cxC X scope own fp s3.heap.objs.size s3 (upd H2 s2.heap.objs.size (Kq.SetO X.w s2.heap.objs.size []))).env=compEnvC scope (cellsFrom (s3.heap.objs.size+1) scope.names (a8j X.env.cells scope.names [])) s3.heap.objs.size X.env:=rfl
 generalize hY:cxC X scope own fp s3.heap.objs.size s3 (upd H2 s2.heap.objs.size (Kq.SetO X.w s2.heap.objs.size []))=Y at hg ht he I4 e5
 have fpY:∀ {H':Hp},(∀ b∈fp,H' b=none)->∀ b∈fp,a9x Y [] H' b:=λhn b hb=>by
  obtain⟨o,ho,_⟩:=T.obj _ _ st3 b hb
  refine⟨hn b hb,?_,?_,?_,?_,?_⟩
  ·rw[<- hY];exact Γo (Γl ho)
  ·have:=I4.ok.exfs b (by rw[<- hY];exact hb)
   exact this
  ·exact .inl (by rw[<- hY];exact hb)
  ·exact λx c h=>(I4.ok.exf b (by rw[<- hY];exact hb)).2 x c h
  ·intro p hp;rw[<- hY] at hp;exact absurd (show p∈([]:List (Addr×Obj)) from hp) (by simp)
 have hYp:Y.prog=X.prog/\Y.w=X.w/\Y.K=X.K/\Y.calm=true/\Y.A=X.A/\Y.xe=(λ_ _=>False)/\Y.s₀=s3/\Y.H₀=upd H2 s2.heap.objs.size (Kq.SetO X.w s2.heap.objs.size [])/\Y.outer=X.stack/\Y.ex=fp:=by rw[<- hY];exact⟨rfl,rfl,rfl,hc,rfl,rfl,rfl,rfl,rfl,rfl⟩
 obtain⟨y1,y2,y3,y4,y5,y6,y7,y8,y9,y10⟩:=hYp
 have loop:∀ s5:Shared,s5 = { s3 with heap:=h4,toks:=s3.toks+([]:List (Str×Value)).length } ->
   codeAny (model X.prog X.w) X.A (.compLoop (.SetComp elt [⟨tg,iter,ifs,0⟩,⟨tg2,iter2,ifs2,0⟩] scope pos) 0 (.ref it) (.ref s2.heap.objs.size) Y.env) (RR (.ref s2.heap.objs.size) s3.heap.objs.size) s5:=by
  rintro s5 rfl
  refine a8f (b7i ..) (λn s'=>∃ i H',Inv Y [] (σ++Γj own.length none) H' s'/\tn i s'.heap/\(∀ b∈fp,H' b=none)/\W i n H') ?_ m0 ⟨0,_,I4,st4,λb hb=>(hf3 b hb).1,w0⟩
  rintro n s6 ⟨i,H6,I6,st6,fr6,w6⟩
  rcases turn i n H6 w6 with⟨stop,q⟩|⟨go,step⟩
  ·have d:=T.done Y y1 y2 y3 y4 i [] s6 _ H6 (λ_ _=>False) I6 (fpY fr6) st6 stop
   rw[y5] at d
   refine thn d λr s7 ⟨hr,I7⟩=>?_
   subst hr
   obtain⟨m,hn,_⟩:=I7.loc
   have hL:Y.env.locals=s3.heap.objs.size:=by rw[e5];rfl
   rw[hL] at hn
   have b7:=I7.base
   rw[y7,y8,y10] at b7
   have b7':Un (frs X.stack) fp (upd H2 s2.heap.objs.size (Kq.SetO X.w s2.heap.objs.size [])) H6 s3.heap s7.heap:=by
    have z:Y.fs=frs X.stack:=by show frs Y.outer=_;rw[y9]
    rw[z] at b7
    exact b7
   have hok7:=I7.hok
   rw[y1,y2] at hok7
   have os7:=I7.os
   rw[y7] at os7
   have I8:Inv X pins σ H6 s7:=I3.call' os7 b7' hok7 I7.bare λb hb=>⟨(hf3 b hb).2.2.2.1,(hf3 b hb).2.1,(hf3 b hb).2.2.2.2.1,(hf3 b hb).2.2.2.2.2⟩
   have hfree:=I7.free
   rw[hL] at hfree
   refine hRR _ _ H6 m s7 I8 hn (Nat.ne_of_gt I3.lt) (λx c h z=>?_) ?_ hfree q
   ·obtain⟨v,y⟩:=I3.cell x c h
    exact absurd y.lt (by rw[z];exact Nat.lt_irrefl _)
   ·rw[<- hs3,Heap.size_push];exact Nat.le_succ _
  ·have d:=T.item Y y1 y2 y3 y4 i [] s6 _ H6 (λ_ _=>False) I6 (fpY fr6) st6 go
   rw[y5] at d
   refine thn d λr s7 ⟨u,hr,h7⟩=>?_
   subst hr
   refine thn h7 λ_ s8 ⟨x,H8,I8,r8,y8',st8,fr8⟩=>?_
   have I8':=I8.pinned (fpY fr8) (T.obj _ _ st8)
   have pinK:∀ {σ':St}{H':Hp}{s':Shared},Inv Y ([]++a4k fp s8.heap) σ' H' s'->tn (i+1) s'.heap/\∀ b∈fp,H' b=none:=λ{σ' H' s'} I' =>
    ⟨T.keep _ _ _ st8 λb hb o e=>(I'.pin (b,o) (List.mem_append_right _ (List.mem_append_right _ (a1h hb e)))).1,λb hb=>by
     obtain⟨o,e,_⟩:=T.obj _ _ st8 b hb
     exact (I'.pin (b,o) (List.mem_append_right _ (List.mem_append_right _ (a1h hb e)))).2.1⟩
   have dg:=hg _ s8 _ H8 x u _ I8' r8 (step x H8 y8')
   rw[y1,y2,y5,y6] at dg
   refine thn dg λ_ s9 ⟨σ9,H9,I9,wk,q9⟩=>?_
   have dt:=ht _ s9 σ9 H9 _ I9 q9
   rw[y1,y2,y5,y6] at dt
   refine thn dt λok s10 ⟨H10,I10,q10⟩=>?_
   cases ok with
   | true =>
    rw[if_pos rfl] at q10 ⊢
    obtain⟨hi2,hg2,ht2,he2,hs2⟩:=he
    rw[<- y2] at q10
    have de:=c8w (c:=.compLoop (.SetComp elt [⟨tg,iter,ifs,0⟩,⟨tg2,iter2,ifs2,0⟩] scope pos) 0 (.ref it) (.ref s2.heap.objs.size) Y.env) (g1:=⟨tg,iter,ifs,0⟩) (scope:=scope) (pos:=pos) y4 y6 hi2 hg2 ht2 he2 hs2 I10 q10
    rw[y1,y2,y5] at de
    refine thn de λ_ s12 ⟨e12,σ12,H12,I12,wk2,m',hm,w11⟩=>⟨e12,?_⟩
    obtain⟨t12,f12⟩:=pinK I12
    exact⟨m',hm,i+1,_,(I12.unpinned).weak wk2.1.symm wk2.2,t12,f12,w11⟩
   | false =>
    rw[if_neg Γk] at q10 ⊢
    obtain⟨m',hm,w10⟩:=q10
    obtain⟨t10,f10⟩:=pinK I10
    exact⟨m',hm,i+1,_,(I10.unpinned).weak wk.1.symm wk.2,t10,f10,w10⟩
 rw[e5] at loop
 exact b5n (loop _ rfl) (T.self _ 0 _ _ _ st4 (loop _ rfl))
theorem b8s (hc:X.calm=true)(SC:CScope X scope own)(hi:PI X.nox tg iter wi)
  (hblock:∀ fp C s H,PG (cxC X scope own fp C s H) tg g/\PTs (cxC X scope own fp C s H) ifs tt/\(PI (cxC X scope own fp C s H) tg2 iter2 wi2/\PG (cxC X scope own fp C s H) tg2 g2/\PTs (cxC X scope own fp C s H) ifs2 tt2/\PE (cxC X scope own fp C s H) elt te/\∀ x,foldedSetIterable iter2 (cxC X scope own fp C s H).env x=pure x))
  (hs:∀ x,foldedSetIterable iter X.env x=pure x:=by intro _;rfl) :
  PE X.nox (.SetComp elt [⟨tg,iter,ifs,0⟩,⟨tg2,iter2,ifs2,0⟩] scope pos) (c6h X.w wi g tt wi2 g2 tt2 te own.length):=by
 intro pins s σ H Q I h
 have fr:∀ p∈scope.names,p.2=.free->∃ c,X.env.cells.lookup p.1=some c:=λp hp hq=>I.ok.has p.1 (SC.free p hp hq)
 rw[arm_eval_SetComp]
 refine wpAny_comprehension_free (use:=none) rfl hs (a3x fr) SC.kind SC.names (thn (hi pins s σ H _ I h) λv s1 h1=>thn h1 λitv s2 h2=>?_)
 obtain⟨it,fp,tn,J,H2,e,I2,T,st2,f2,h2⟩:=h2
 subst e
 refine b6l (X:=X.nox) (own:=own) (RR:=λacc C=>compPost (model X.prog X.w) X.A (λ_ _=>False) none (EP X.nox pins σ Q) acc C) hc ⟨SC.kind,SC.nocell,SC.names,SC.free,SC.apart,SC.hid⟩ (λC s H=>hblock fp C s H) I2 T st2 f2 h2 ?_
 intro acc C H' m s' I' hn hL hcl hC hH q
 obtain⟨f0,f1,f2',f3,f4,f5⟩:=I2.fpOk hC hH
 refine⟨m,hn,λh' hsb=>⟨.ref acc,H',?_,rfl,q⟩⟩
 exact I'.turned (t':=s'.toks) (λb o hb e=>(hsb.2 b hb).trans e) f0 f1 f3 f4 f5
end
end L2
end
section
namespace Kq
open PySem PySem.Spec PyProof.Rows L2
noncomputable def inS (tg:Tg)(t:BW)(e:EW):List FV->List Int->a0c->(List Int->a0c->Prop)->Prop
 | [],acc,L,Q=>Q acc L
 | y :: r,acc,L,Q=>gW tg y L λL1=>t L1 λb L2=>if b=true then e L2 λv L3=>wp (a3o v) λk=>inS tg t e r (acc++[k]) L3 Q else inS tg t e r acc L2 Q
noncomputable def a4s (n m:Nat)(tg:Tg)(t:BW)(it2:AW)(tg2:Tg)(t2:BW)(e:EW):List FV->List Int->a0c->(List Int->a0c->Prop)->Prop
 | [],acc,L,Q=>Q acc L
 | x :: xs,acc,L,Q=>gW tg x (L++Γj m none) λL1=>t L1 λb L2=>if b=true then it2 L2 λys L3=>acc.length+ys.length<=4000/\inS tg2 t2 e ys acc L3 λacc' L4=>a4s n m tg t it2 tg2 t2 e xs acc' (L4.take n) Q else a4s n m tg t it2 tg2 t2 e xs acc (L2.take n) Q
noncomputable def e2r (n m:Nat)(it:AW)(tg:Tg)(t:BW)(it2:AW)(tg2:Tg)(t2:BW)(e:EW):EW:=λL Q=>it L λxs L1=>L1.length=n/\a4s n m tg t it2 tg2 t2 e xs [] L1 λns L2=>ns.length<=4000/\∀ ms:List Int,(∀ x,x∈ms↔x∈ns)->ms.Pairwise (· < ·)->Q (.lst (ms.map .int)) L2
section
variable {X:Cx}{C:CC}{n:Nat}{sp:Γd->Nat->Sp}{a b tg:Expr}{ea eb:EW}{pos p:Pos}
theorem d5q (G:Good X C n sp)(hg:C.gl (Γe "range")=true)(hs:a0n a=false)(hs2:a0n b=false)(ha:FE X C a ea)(hb:FE X C b eb):FIv X C tg (.Call (.Name (Γe "range") p) [a,b] [] pos) (iRng2 ea eb) :=
 PI.imp (b0k (G.gl hg) (G.blt "range" (by decide)) (a0x ha (a0x hb a2m (a0d hs2)) (a0d hs)) (by rw[a0d hs,a0d hs2];rfl) (a0d hs2)) λσ H R ⟨c,L,S,Q0,I,h,k⟩ =>
 ⟨c,L,S,_,I,h,λv L1 hv x S1 H1 r1 I1 s1=>⟨c,L1,S1,_,I1,hv,λw L2 hw y S2 H2 r2 I2 s2=>by
  obtain⟨j,e,hw⟩:=wpx hw
  obtain⟨j',e',hb,q⟩:=wpx hw
  cases a0t e;cases a0t e'
  have hb:=b2 hb
  have h1:=de hb.1
  have h2:=de hb.2
  exact⟨j,j',by rw[show x=.int j from r1,show y=.int j' from r2],⟨h1.1,h1.2,h2.1,h2.2⟩,k _ L2 q _ S2 H2 I2 (λ_ _=>b9p) (s1.trans s2)⟩⟩⟩
end
section
variable {K:Γd}{c:Cn}{md:Md}{L:a0c}{σ:L2.St}{S H:Hp}
theorem c8v {ww:World}{n:Nat}{it2:AW}{tg:Tg}{t:BW}{e:EW}{acc:Addr}{ps:List Int}{Q1:List Int->a0c->Prop}{R:L2.St->Hp->Prop}(I:Iv K { c with pr:=(acc,SetO ww acc (ps.foldl addOne [])) :: c.pr } md L σ S H)
  (h0:c.H0 acc=none)(hp:∀ p∈c.pr,p.1≠acc)(hz:∀ p∈c.fz,∃ o,(p.2,o)∈c.pr)(ht:a3b md tg=true)(hg:a5e n tg=true)
  (hh:it2 L λys L1=>ps.length+ys.length<=4000/\inS tg t e ys ps L1 Q1)
  (k:∀ ps' L' σ' S' H',Q1 ps' L'->Iv K { c with pr:=(acc,SetO ww acc (ps'.foldl addOne [])) :: c.pr } md L' σ' S' H'->Same S S'->σ'.length=σ.length->(∀ q,q<n->σ'[q]?=σ[q]?)->R σ' H') :
  d0z ww (liv K md it2) (gT K tg) (lb K md t) (lv K md e) acc σ H R:=by
 refine⟨_,L,S,_,I,hh,λys L1 hx J S1 H1 I1 hJ s1=>?_⟩
 obtain⟨hb,hc⟩:=hx
 let W:Nat->Nat->L2.St->Hp->Prop:=λi j σ' H'=>∃ L' S' ps',j=(ys.drop i).length/\Iv K { c with pr:=(acc,SetO ww acc (ps'.foldl addOne [])) :: c.pr } md L' σ' S' H'/\Same S1 S'/\σ'.length=σ.length/\(∀ q,q<n->σ'[q]?=σ[q]?)/\ps'.length<=ps.length+i/\inS tg t e (ys.drop i) ps' L' Q1
 refine⟨W,⟨_,L1,S1,ps,rfl,I1,Same.refl _,rfl,λ_ _=>rfl,Γi _,by rw[List.drop_zero];exact hc⟩,?_⟩
 rintro i j σ' H' ⟨L',S',ps',rfl,I',s',hl,far0,hps,hc⟩
 obtain⟨j1,j2⟩:=hJ _ _ i L' σ' S' H' I' s'
 cases hd:ys.drop i with
 | nil =>
  left
  rw[hd] at hc
  exact⟨j1 (List.getElem?_eq_none_iff.mpr (List.drop_eq_nil_iff.mp hd)),k ps' L' σ' S' H' hc I' (s1.trans s') hl far0⟩
 | cons p rest =>
  right
  rw[hd] at hc
  have hi:ys[i]?=some p:=by
   have:=congrArg (·[0]?) hd
   simpa using this
  have hd':ys.drop (i+1)=rest:=by
   have:=congrArg List.tail hd
   simpa[List.tail_drop] using this
  have hix:i<ys.length:=(List.getElem?_eq_some_iff.mp hi).1
  obtain⟨go,yl⟩:=j2 p hi
  refine⟨go,λx H2 y=>?_⟩
  obtain⟨S2,s2,tr,rx⟩:=yl x H2 y
  have I2:=tr _ _ _ _ I'
  obtain⟨σ2,L2,gq,q2,I2,len2,far⟩:=a5b ht I2 rx hc
  refine gq _ ?_
  refine⟨_,L2,S2,_,I2,q2,λb L3 hb3 S3 H3 I3 s3=>?_⟩
  cases b with
  | false =>
   rw[if_neg Γk] at hb3 ⊢
   exact⟨rest.length,by simp,L3,S3,ps',by rw[hd'],I3,s'.trans (s2.trans s3),len2.trans hl,λq hq=>(far n hg q hq).trans (far0 q hq),by lia,by rw[hd'];exact hb3⟩
  | true =>
   rw[if_pos rfl] at hb3 ⊢
   refine⟨_,L3,S3,_,I3,hb3,λv L4 hv u S4 H4 r4 I4 s4=>?_⟩
   obtain⟨k1,_⟩:=I4.prs (acc,SetO ww acc (ps'.foldl addOne [])) Γn
   obtain⟨kk,ek,hv⟩:=wpx hv
   cases a0t ek
   have fl:=a9m ps' []
   simp at fl
   have e5:(ps'++[kk]).foldl addOne []=addOne (ps'.foldl addOne []) kk:=by rw[List.foldl_append];rfl
   refine⟨ps'.foldl addOne [],kk,r4,k1,by unfold scanBound;lia,rest.length,by simp,L4,S4,ps'++[kk],by rw[hd'],?_,s'.trans (s2.trans (s3.trans s4)),len2.trans hl,λq hq=>(far n hg q hq).trans (far0 q hq),by simp;lia,by rw[hd'];exact hv⟩
   rw[e5]
   exact I4.regrow h0 hp hz
theorem b6k {ww:World}{J:It}{xs:List FV}{n m:Nat}{tg:Tg}{t:BW}{it2:AW}{tg2:Tg}{t2:BW}{e:EW}{Q:VK}{Q1:List Int->a0c->Prop}(I:Iv K c md L σ S H)(hJ:ItR K c md J xs S)(hL:L.length=n)(hmd:md.length<=n)(ht:a3b md tg=true)(hg:a5e n tg=true)(ht2:a3b md tg2=true)(hg2:a5e n tg2=true)(h:a4s n m tg t it2 tg2 t2 e xs [] L Q1)
  (k:∀ acc ps L' S' H',H acc=none->Q1 ps L'->H' acc=some (SetO ww acc (ps.foldl addOne []))->Iv K c md L' σ S' H'->Same S S'->Q (.ref acc) H') :
  ∀ acc,H acc=none->∃ W:Nat->Nat->Hp->Prop,(∃ m,W 0 m (upd H acc (SetO ww acc [])))/\∀ i j H,W i j H ->
   (J.stop i H/\Q (.ref acc) H) ∨ (J.go i H/\∀ x H',J.yld i H x H'->gT K tg x (σ++Γj m none) H' λσ2 H2=>Wk (σ++Γj m none) σ2/\lb K md t σ2 H2 λb H3 =>
    if b=true then d0z ww (liv K md it2) (gT K tg2) (lb K md t2) (lv K md e) acc σ2 H3 λσ3 H4=>Wk (σ++Γj m none) σ3/\∃ m',m'<j/\W (i+1) m' H4 else ∃ m',m'<j/\W (i+1) m' H3):=by
 intro acc hacc
 have h0:=I.h0 hacc
 have hp:∀ p∈c.pr,p.1≠acc:=(I.fresh hacc).2.1
 have hz:=I.fzp
 have hl:σ.length=n:=by rw[<- I.len];exact hL
 let W:Nat->Nat->Hp->Prop:=λi j H1=>∃ L S1 ps,j=(xs.drop i).length/\Iv K { c with pr:=(acc,SetO ww acc (ps.foldl addOne [])) :: c.pr } md L σ S1 H1/\Same S S1/\L.length=n/\a4s n m tg t it2 tg2 t2 e (xs.drop i) ps L Q1
 have I1:Iv K { c with pr:=(acc,SetO ww acc []) :: c.pr } md L σ S (upd H acc (SetO ww acc [])):=(I.lay hacc _).prot a0h (I.sn hacc) λj w hm hj=>(I.fresh hacc).2.2 j w (λz=>by rw[hm] at z;cases z) hj
 refine⟨W,⟨_,L,S,[],rfl,I1,Same.refl S,hL,by rw[List.drop_zero];exact h⟩,?_⟩
 rintro i j H1 ⟨L,S1,ps,rfl,I,s,hL,hc⟩
 have I0:=I.unprot hz
 obtain⟨j1,j2⟩:=hJ i L σ S1 H1 I0 s
 obtain⟨g1,g2,g3⟩:=I.prs (acc,SetO ww acc (ps.foldl addOne [])) Γn
 cases hd:xs.drop i with
 | nil =>
  left
  rw[hd] at hc
  refine⟨j1 (List.getElem?_eq_none_iff.mpr (List.drop_eq_nil_iff.mp hd)),k acc ps L S1 H1 hacc hc g1 I0 s⟩
 | cons p rest =>
  right
  rw[hd] at hc
  have hi:xs[i]?=some p:=by
   have:=congrArg (·[0]?) hd
   simpa using this
  have hd':xs.drop (i+1)=rest:=by
   have:=congrArg List.tail hd
   simpa[List.tail_drop] using this
  have hix:i<xs.length:=(List.getElem?_eq_some_iff.mp hi).1
  obtain⟨go,yl⟩:=j2 p hi
  refine⟨go,λx H2 y=>?_⟩
  obtain⟨S2,s2,tr,rx⟩:=yl x H2 y
  have I2:=(tr _ _ _ _ I).more m
  obtain⟨σ2,L2,gq,q2,I2,len2,far⟩:=a5b ht I2 rx hc
  have l2:n<=σ2.length:=by rw[len2,List.length_append,hl];lia
  have far':∀ q,q<n->σ2[q]?=σ[q]?:=λq hq=>by rw[far n hg q hq,List.getElem?_append_left (by rw[hl];exact hq)]
  have wk:∀ {σ3:List (Option V)},σ3.length=(σ++Γj m none).length->(∀ q,q<n->σ3[q]?=σ[q]?)->Wk (σ++Γj m none) σ3:=λ{σ3} hl3 f3=>⟨hl3,λq v hv=>by
   have hq:q<n:=by
    by_cases h:q<σ.length
    ·rw[<- hl];exact h
    ·rw[List.getElem?_append_right (by lia),List.getElem?_replicate] at hv
     split at hv<;>cases hv
   rw[List.getElem?_append_left (by rw[hl];exact hq)] at hv
   rw[f3 q hq];exact hv⟩
  refine gq _ ⟨wk len2 far',?_⟩
  refine⟨_,L2,S2,_,I2,q2,λb L3 hb3 S3 H3 I3 s3=>?_⟩
  cases b with
  | false =>
   rw[if_neg Γk] at hb3 ⊢
   exact⟨rest.length,by simp,L3.take n,S3,ps,by rw[hd'],I3.take hmd hl l2 far',s.trans (s2.trans s3),by rw[List.length_take,I3.len];lia,by rw[hd'];exact hb3⟩
  | true =>
   rw[if_pos rfl] at hb3 ⊢
   refine c8v (n:=n) I3 h0 hp hz ht2 hg2 hb3 λps' L' σ' S' H' q' I' s' hl' f'=>?_
   have f'':∀ q,q<n->σ'[q]?=σ[q]?:=λq hq=>(f' q hq).trans (far' q hq)
   exact⟨wk (hl'.trans len2) f'',rest.length,by simp,L'.take n,S',ps',by rw[hd'],I'.take hmd hl (by rw[hl'];exact l2) f'',s.trans (s2.trans (s3.trans s')),by rw[List.length_take,I'.len,hl'];lia,by rw[hd'];exact q'⟩
end
section
variable {X:Cx}{C:CC}{n:Nat}{sp:Γd->Nat->Sp}{pos pos' p:Pos}
variable {scope:Scope}{own:List Str}{elt tgx iter tgx2 iter2:Expr}{ifs ifs2:List Expr}{it it2:AW}{tg tg2:Tg}{t t2:BW}{e:EW}{nn m:Nat}{md':Md}
end
theorem b9u {α:Type}{tg:Tg}{e:EW}{f:α->FV}{g:α->Int}{Q:List Int->a0c->Prop}{P:a0c->Prop}:∀ (ys:List α)(acc:List Int)(L:a0c),P L->(∀ y∈ys,∀ (L:a0c)(K:FV->a0c->Prop),P L->(∀ L',P L'->K (.int (g y)) L')->gW tg (f y) L λL1=>e L1 K)->(∀ L',P L'->Q (acc++ys.map g) L')->inS tg a0u e (ys.map f) acc L Q
 | [],acc,L,hL,_,E=>by
  have:=E L hL
  rw[List.map_nil,List.append_nil] at this
  exact this
 | y :: ys,acc,L,hL,B,E=>B y Γn L _ hL λL' hL'=>b9u ys (acc++[g y]) L' hL' (λz hz=>B z (Γh _ hz)) (by simpa using E)
theorem a8i {α:Type}{n m:Nat}{tg tg2:Tg}{it2:AW}{e:EW}{f:α->FV}{g:α->List Int}{Q:List Int->a0c->Prop}{L:a0c}:∀ (xs:List α)(acc:List Int),
  (∀ x∈xs,∀ (acc:List Int)(K:List Int->a0c->Prop),acc.length<=31*31->K (acc++g x) L->gW tg (f x) (L++Γj m none) λL1=>it2 L1 λys L3=>acc.length+ys.length<=4000/\inS tg2 a0u e ys acc L3 λacc' L4=>K acc' (L4.take n))->(∀ x∈xs,(g x).length<=31)->acc.length+31*xs.length<=31*31->Q (acc++xs.flatMap g) L->a4s n m tg a0u it2 tg2 a0u e (xs.map f) acc L Q
 | [],acc,_,_,_,E=>by
  rw[List.flatMap_nil,List.append_nil] at E
  exact E
 | x :: xs,acc,B,hg,hl,E=>by
  have h1:=hg x Γn
  simp at hl
  exact B x Γn acc (λacc' L'=>a4s n m tg a0u it2 tg2 a0u e (xs.map f) acc' L' Q) (by lia) (a8i xs (acc++g x) (λy hy=>B y (Γh _ hy)) (λy hy=>hg y (Γh _ hy)) (by simp;lia) (by simpa using E))
noncomputable def dsF:FV->Option (List D):=λv=>(fD a0j v).bind λd=>match d with|.lst ys=>some ys|_=>none
noncomputable def c8z (x:D):List D->Option Nat
 | []=>none
 | y :: r=>if D.eqv y x=true then some 0 else (c8z x r).map (· + 1)
noncomputable def a8e (v w:FV):Option FV:=(dsF v).bind λys=>(fD a0j w).bind λx=>(c8z x ys).bind λj=>if j<big then some (.int (j:Int)) else none
noncomputable def countF (v w:FV):Option FV:=(dsF v).bind λys=>(fD a0j w).bind λx=>some (.int ((ys.countP λy=>D.eqv y x:Nat):Int))
noncomputable def d6a (f:FV->FV->Option FV) (i:Nat)(b:EW):EW:=λL Q=>wp (lk L i) λv=>wp (a7x v) λ_=>b L λy L1=>wp (lk L1 i) λx=>wp (f x y) λz=>Q z L1
noncomputable def Rm (K:Γd)(f:FV->FV->Option FV):V->List V->Hp->VK->Prop:=λx xs H Q=>∃ y,xs=[y]/\Rq K f x y H Q
section
variable {X:Cx}{pins:List (Addr×Obj)}{s:Shared}{σ:L2.St}{H S:Hp}
theorem b9v {x:D}:∀ {ys:List D}{j:Nat},c8z x ys=some j->∃ h:j<ys.length,D.eqv ys[j] x=true/\∀ m (hm:m<ys.length),m<j->D.eqv ys[m] x=false
 | [],j,e=>by cases e
 | y :: r,j,e=>by
  unfold c8z at e
  split at e
  ·rename_i h;cases e
   exact⟨by simp,h,λm _ h=>absurd h (Nat.not_lt_zero _)⟩
  ·rename_i h
   obtain⟨k,e1,rfl⟩:=mpd e
   obtain⟨h1,h2,h3⟩:=b9v e1
   refine⟨by simp;lia,by simpa using h2,λm hm hl=>?_⟩
   cases m with
   | zero=>simpa using h
   | succ m=>simpa using h3 m (by simpa using hm) (by lia)
theorem b2c {h:Heap}:∀ {ys:List D}{vs:List Value}{as:List Addr},ReadsAll h vs (a3a ys) as->vs.map (SeqAt.readOf h)=a3a ys:=λ{ys vs as} r=>SeqAt.readsAll_map _ _ _ (a4r ys) r
theorem b4w:∀ (ys:List D) (j:Nat),(a3a ys)[j]?=ys[j]?.map dPy
 | [],j=>by simp[a3a]
 | y :: r,0=>by simp[a3a]
 | y :: r,j+1=>by simpa[a3a] using b4w r j
theorem b4v:∀ (ys:List D),(a3a ys).length=ys.length
 | []=>rfl
 | y :: r=>by simp[a3a,b4v r]
theorem e2v {v:FV}{ys:List D}(e:dsF v=some ys):fD a0j v=some (.lst ys):=by
 obtain⟨d,e1,e2⟩:=bnd e
 cases d with
 | lst zs=>cases e2;exact e1
 | _=>cases e2
theorem c3f (hu:X.A.units+64<cLine):MtR X "list.index" (Rm X.K a8e):=by
 rintro pins s σ H x xs v us Q I rx rv ⟨y,rfl,S,p,q,z,hs,rp,rq,e,k⟩
 obtain⟨u,rfl,ru⟩:=rv.one
 obtain⟨ys,e1,e⟩:=bnd e
 obtain⟨dx,e2,e⟩:=bnd e
 obtain⟨j,e3,e⟩:=bnd e
 obtain⟨hb,rfl⟩:=itd e
 obtain⟨as,ra⟩:=a2p I hs rp rx (e2v e1)
 obtain⟨bs,rb⟩:=a2p I hs rq ru e2
 obtain⟨hj,hit,hno⟩:=b9v e3
 have hd:X.A.units+1+min (PyData.depthAll (a3a ys)) (dPy dx).depth<cLine:=by
  have h1:=a4p e2
  unfold a0j at h1
  lia
 simp only[dPy] at ra
 cases ra with
 | list h1 h2 h3 h4 =>
  rename_i a o its n bs'
  obtain⟨cls,dd,data,sl⟩:=o
  simp only at h2 h3
  subst h2 h3
  have hm:=b2c h4
  have hsz:its.size=ys.length:=by rw[<- b4v ys,<- hm];simp
  have hat:∀ m (hm1:m<its.size)(hm2:m<ys.length),PyData.eqv (SeqAt.readOf s.heap its[m]) (dPy dx)=D.eqv ys[m] dx:=λm hm1 hm2=>by
   have:=congrArg (λl=>l[m]?) hm
   rw[b4w] at this
   simp[hm1,hm2] at this
   rw[this,b6i]
  refine call_meets PySem.F.slot_list_index ⟨_,h1,rfl⟩ PySem.F.entry_list_index (PySem.F.args_list_index_2 _ _) (SeqAt.list_indexAt a its n dd sl u (λy=>PyData.eqv (SeqAt.readOf s.heap y) (dPy dx)) j (by lia) ?_ ?_ ?_) ⟨h1,SeqAt.items_eqAt h4 rb (a4r ys) (a5k dx) hd,?_⟩
  ·unfold big at hb;lia
  ·rw[hat j (by lia) hj];exact hit
  ·intro m hm1 hl
   show PyData.eqv _ _=_
   rw[hat m hm1 (by lia)];exact hno m (by lia) hl
  ·exact⟨.int j,H,I.tok _,⟨_,rfl⟩,k.old _ (λ_ z=>nomatch z) rfl⟩
end
section
variable {X:Cx}{C:CC}{n:Nat}{sp:Γd->Nat->Sp}{a b:Expr}{ea eb:EW}{p:Pos}{i:Nat}{nx:Str}
theorem d3f {K:Γd}{S H:Hp}{v:FV}{l:List FV}{x:V}(s:Same S H)(rv:RH K S H v x)(e:a7x v=some l):tyV K "list" x H:=by
 cases a6i e
 obtain⟨a,xs,rfl,h1,_⟩:=rv.lst s
 exact .inl ⟨rfl,xs,SqL.of h1⟩
theorem d3v {f:FV->FV->Option FV}{id nm:String}(slot:Slot "list" (Γe nm) id)(hty:typeOf (.builtin id)=pure (.type "method_descriptor"))(hm:MtR X.nox id (Rm X.K f))(G:Good X C n sp){apos cpos:Pos}(h:C.nm i nx=true)(hl:d6f apos cpos=true)(hs:a0n b=false)(hb:FR X C b eb):FE X C (.Call (.Attribute (.Name nx p) (Γe nm) apos) [b] [] cpos) (d6a f i eb):=by
 refine PE.imp (d2i PySem.F.plainAttrs_list slot hty hm (a2u G h) (a0x hb a2m (a0d hs)) rfl (by rw[a0d hs];rfl) hl (a0d hs) rfl) λσ H Q ⟨c,L,S,Q0,I,h,k⟩=>?_
 obtain⟨v,e,h⟩:=wpx h
 obtain⟨l,e9,h⟩:=wpx h
 obtain⟨x,e1,r1⟩:=I.rd e
 refine⟨x,e1,d3f I.sub r1 e9,c,L,S,_,I,h,λw L1 hw y S1 H1 r2 I1 s1=>?_⟩
 obtain⟨v1,e2,hw⟩:=wpx hw
 obtain⟨z,e3,q⟩:=wpx hw
 obtain⟨x',f1,r3⟩:=I1.rd e2
 rw[e1] at f1;cases f1
 exact⟨y,rfl,S1,v1,w,z,I1.sub,r3,r2,e3,b0p I1 λx S' H' r I' s'=>k z L1 q x S' H' r I' (s1.trans s')⟩
theorem d3w (G:Good X C n sp){apos cpos:Pos}(h:C.nm i nx=true)(hl:d6f apos cpos=true)(hs:a0n b=false)(hb:FR X C b eb):FE X C (.Call (.Attribute (.Name nx p) (Γe "index") apos) [b] [] cpos) (d6a a8e i eb):=d3v PySem.F.slot_list_index PySem.F.type_list_index (c3f G.room.units) G h hl hs hb
end
noncomputable def b3b (n m:Nat)(it:AW)(tg:Tg)(t:BW)(it2:AW)(tg2:Tg)(t2:BW)(e:EW):EW:=λL Q=>it L λxs L1=>L1.length=n/\a4s n m tg t it2 tg2 t2 e xs [] L1 λns L2=>ns.length<=63/\∀ ms:List Int,(∀ x,x∈ms↔x∈ns)->ms.Pairwise (· < ·)->Q (.lst (ms.map .int)) L2
@[scoped simp ↓] theorem d0o (n m:Nat)(it:AW)(tg:Tg)(t:BW)(it2:AW)(tg2:Tg)(t2:BW)(e:EW)(L:a0c)(Q:FV->a0c->Prop):b3b n m it tg t it2 tg2 t2 e L Q=(it L λxs L1=>L1.length=n/\a4s n m tg t it2 tg2 t2 e xs [] L1 λns L2=>ns.length<=63/\∀ ms:List Int,(∀ x,x∈ms↔x∈ns)->ms.Pairwise (· < ·)->Q (.lst (ms.map .int)) L2):=propext Iff.rfl
section
variable {X:Cx}{C:CC}{n:Nat}{sp:Γd->Nat->Sp}{pos pos' p:Pos}
variable {scope:Scope}{own:List Str}{elt tgx iter tgx2 iter2:Expr}{ifs ifs2:List Expr}{it it2:AW}{tg tg2:Tg}{t t2:BW}{e:EW}{nn m:Nat}{md':Md}
theorem c0d (G:Good X C n sp)(hg:C.gl (Γe "sorted")=true)(h:CompOk2 X C n sp scope own elt tgx iter ifs tgx2 iter2 ifs2 nn m md' it tg t it2 tg2 t2 e):FE X C (.Call (.Name (Γe "sorted") p) [.SetComp elt [⟨tgx,iter,ifs,0⟩,⟨tgx2,iter2,ifs2,0⟩] scope pos'] [] pos) (b3b nn m it tg t it2 tg2 t2 e):=by
 obtain⟨s1,s2,s3⟩:=h.blk G
 refine PE.imp (a5q (c9v (X:=X.nox) G.calm (m:=63) (by decide) (c6q _ _)) (G.gl hg) (G.blt "sorted" (by decide)) (by nofun) (a0x (b8s (pos:=pos') G.calm s1 h.it s2 s3) a2m (a0d rfl)) (by nofun) (by nofun) (a0d rfl) rfl) λσ H Q ⟨c,L,S,Q0,I,hh,k⟩=>?_
 have h0:=b2 h.st;have h1:=b2 h0.1;have h2:=b2 h1.1;have h3:=b2 h2.1;have h4:=b2 h3.1;have h5:=b2 h4.1;have h6:=b2 h5.1
 have g0:=b2 h.st2;have g1:=b2 g0.1
 refine⟨c,L,S,_,I,hh,λxs L1 hx J c' S1 H1 I1 un e0 hJ s1'=>?_⟩
 obtain⟨hl,hc⟩:=hx
 rw[de h5.2]
 refine b6k (ww:=X.w) (Q:=λv H=>c5a X.nox 63 [v] H Q) I1 hJ hl (de h4.2) h2.2 h1.2 g1.1 g1.2 hc λacc ps L' S' H' hn q ho I' s'=>?_
 obtain⟨q1,q⟩:=q
 have fl:=a9m ps []
 simp at fl
 have I2:=un _ _ _ _ I'
 refine⟨acc,ps.foldl addOne [],rfl,ho,by lia,λp2 ms hp2 pm po=>?_⟩
 refine k _ L' (q ms (λx=>?_) (b7t po (pm.nodup_iff.mpr (a8g ps [] List.nodup_nil)))) _ _ _ ⟨p2,_,rfl,a0h,RVs.ns ms⟩ (I2.new hp2 _) ((s1'.trans s').trans (a0v (I2.sn hp2)))
 rw[pm.mem_iff,b4q];simp
end
end Kq
end
set_option maxRecDepth 10000
set_option maxHeartbeats 1000000
section
namespace Kq
noncomputable def bd0 (call:CW):SW:=a1n (c4a (eUn (d0n .int) (a0b 0)) (eUn d9b (eUn (d0n .bool) (a0b 0))))
noncomputable def bd1 (call:CW):SW:=a1n (c4a (eUn (d0n .tuple) (a0b 0)) (eOp eqB (eUn a5j (a0b 0)) (a0b 1)))
noncomputable def bd2 (call:CW):SW:=a1n (c4a (a0i call 0 (a0a (a0b 0) a0k)) (b1g leB ltB (eC (.int 0)) (a0b 0) (a0b 1)))
noncomputable def bd3 (call:CW):SW:=a1n (c0k 1 3 (b2w (eOp ixF (a0b 0) (eC (.int 1)))) (.tp [1,2,3]) a0u (a4q (a0a (a0b 1) (a0a (a0b 2) a0k))) (a0b 3))
noncomputable def bd4 (call:CW):SW:=a0s (a1k (a0i call 3 (a0a (a0b 0) a0k)) (.nm 2)) (a1n (a1p 3 2 (c3p (a0b 1)) (.tp [3,4]) a0u (eIf (a1z (eUn a2x (a0b 4))) (eOp ixF (eOp ixF (a0b 0) (eC (.int 0))) (a0b 3)) (eOp c9o (a0b 2) (a4q (a0a (a0b 4) (a0a (a0b 3) a0k)))))))
noncomputable def bd5 (call:CW):SW:=a1n (eUn b2a (a0i call 4 (a0a (a0b 0) (a0a (a0b 1) a0k))))
noncomputable def bd6 (call:CW):SW:=a0s (a1k (b1f (a0a (a0b 1) a0k)) (.nm 2)) (a0s (a1k (eOp ixF (a0b 0) (a0b 1)) (.nm 3)) (a0s (d0l (a1z (eUn a1u (a0b 3))) (a0s (c6u (b3c d0f 2 (a0b 3))) (a1k (eOp ixF (a0b 0) (a0b 3)) (.nm 3)))) (a1n (eUn c6y (a0b 2)))))
noncomputable def bd7 (call:CW):SW:=a1n (eOp b5m (eUn a5j (a0i call 6 (a0a (a0b 0) (a0a (a0b 1) a0k)))) (eC (.int 1)))
noncomputable def bd8 (call:CW):SW:=a0s (a1k (a0i call 4 (a0a (a0b 0) (a0a (a0b 1) a0k))) (.nm 2)) (a1n (eUn a2z (a1p 3 1 (b1a (eUn a5j (a0b 1))) (.nm 3) a0u (eUn b5l (a1p 4 1 (b2w (a0i call 6 (a0a (a0b 1) (a0a (a0b 3) a0k)))) (.nm 4) a0u (eOp ixF (a0b 2) (a0b 4)))))))
noncomputable def bd9 (call:CW):SW:=a0s (sIf (bOr (b3l (a1z (eUn (d0n .tuple) (a0b 0)))) (b3l (a1z (a0b 0)))) (a1n (eC (.bl false))) a5f) (a0s (sIf (b3l (a1z (eUn c5y (a1p 2 1 (b2w (a0b 0)) (.nm 2) a0u (a0i call 2 (a0a (a0b 2) (a0a (a0b 1) a0k))))))) (a1n (eC (.bl false))) a5f) (a1n (eUn c5y (a1p 2 2 (c5r (a0b 0) (eSl (a0b 0) (a5h (eC (.int 1))) b0n)) (.tp [2,3]) a0u (eOp ltB (a0b 2) (a0b 3))))))
noncomputable def e4b (call:CW):SW:=a0s (a1k (a0b 0) (.tp [1,2])) (a1n (a4q (a0a (a0b 1) (a0a (eUn a2z (a1p 3 2 (c3p (a0b 2)) (.tp [3,4]) a0u (a4q (a0a (a0b 3) (a0a (eOp a2e (a0b 3) (eC (.int 1))) (a0a (a0b 4) a0k)))))) a0k))))
noncomputable def d6r (call:CW):SW:=a1n (eUn a2z (a1p 2 1 (b1a (eUn a5j (eOp ixF (a0b 0) (eC (.int 0))))) (.nm 2) a0u (eIf (a1z (eOp c1x (a0b 2) (a0b 1))) (eC .non) (eOp b5m (a0b 2) (eC (.int 1))))))
noncomputable def d6q (call:CW):SW:=a1n (a0i call 5 (a0a (a0i call 10 (a0a (a0b 0) a0k)) (a0a (a0i call 11 (a0a (a0b 0) (a0a (a0b 1) a0k))) a0k)))
noncomputable def d6p (call:CW):SW:=a1n (a0i call 8 (a0a (a0i call 10 (a0a (a0b 0) a0k)) (a0a (a0i call 11 (a0a (a0b 0) (a0a (a0b 1) a0k))) a0k)))
noncomputable def e4a (call:CW):SW:=a0s (a1k (a0i call 11 (a0a (a0b 0) (a0a (a0b 1) a0k))) (.nm 2)) (a1n (eUn c3h (a1p 3 1 (b1a (eUn a5j (a0b 2))) (.nm 3) a0u (a0i call 7 (a0a (a0b 2) (a0a (a0b 3) a0k))))))
noncomputable def e3z (call:CW):SW:=a0s (a1k (a0b 0) (.tp [3,4])) (a1n (eOp a2e (eOp ixF (a0b 3) (a0b 1)) (eUn b2a (eSl (a0b 4) (a5h (a0b 1)) (a5h (eOp b5m (a0b 2) (eC (.int 1))))))))
noncomputable def d6o (call:CW):SW:=a1n (eOp ixF (a0i call 18 (a0a (a0b 0) (a0a (a0b 1) (a0a (a0b 2) a0k)))) (eC (.int 0)))
noncomputable def d6n (call:CW):SW:=a1n (eUn a2z (a1p 3 2 (b2w (a0i call 18 (a0a (a0b 0) (a0a (a0b 1) (a0a (a0b 2) a0k))))) (.tp [3,4]) a0u (a0b 3)))
noncomputable def e3y (call:CW):SW:=a0s (a1k (b1f (a0a (a4q (a0a (eC (.int 0)) (a0a (a4q a0k) a0k))) a0k)) (.nm 3)) (a0s (b5r (c3o (eUn a5j (eOp ixF (a0b 0) (eC (.int 0))))) (.nm 4) (a0s (a1k (a0i call 19 (a0a (a0b 0) (a0a (a0b 1) (a0a (a0b 2) (a0a (a0b 4) a0k))))) (.nm 5)) (a0s (a1k (a1p 7 3 (c5r (a0b 5) (a0b 3)) (.tn 7 [8,9]) a0u (a4q (a0a (eOp a2e (a0b 7) (a0b 8)) (a0a (eOp a2e (a4q (a0a (a0b 4) a0k)) (a0b 9)) a0k)))) (.nm 6)) (a1k (eOp a2e (b1f (a0a (eUn b2k (a0b 6)) a0k)) (a0b 3)) (.nm 3))))) (a1n (a0b 3)))
noncomputable def e3x (call:CW):SW:=a0s (a1k (b1f a0k) (.nm 4)) (a0s (a1k (eC (.int 0)) (.nm 5)) (a0s (b5r (iRng2 (a0b 3) (eUn a5j (eOp ixF (a0b 0) (eC (.int 0))))) (.nm 6) (a0s (a1k (a0i call 15 (a0a (a0b 0) (a0a (a0b 3) (a0a (eOp a2e (a0b 6) (eC (.int 1))) a0k)))) (.nm 7)) (a0s (d1h (d0p λi j=>i+j) 5 (eOp b1v (eOp ixF (a0b 1) (a0b 6)) (a0b 7))) (c6u (b3c d0f 4 (eOp a2e (eOp b1v (a0b 2) (a0b 7)) (a0b 5))))))) (a1n (a0b 4))))
noncomputable def e3w (call:CW):SW:=a0s (sIf (bOr (b3l (a1z (a0i call 0 (a0a (a0b 3) a0k)))) (bOr (b3l (a1z (a0i call 21 (a0a (a0b 0) (a0a (a0b 4) a0k))))) (b3l (a1z (a0i call 23 (a0a (a0b 0) (a0a (a0b 1) (a0a (a0b 2) (a0a (a0b 5) a0k))))))))) (a1n (eC (.bl false))) a5f) (a1n (c4a (eOp eqB (a0i call 22 (a0a (a0b 0) (a0a (a0b 1) (a0a (a0b 2) (a0a (a0b 4) a0k))))) (a0b 3)) (eOp eqB (eOp ixF (a0b 5) (eC (.int 0))) (a0b 3))))
noncomputable def d6m (call:CW):SW:=a1n (c4a (a0i call 9 (a0a (a0b 1) (a0a (eUn a5j (eOp ixF (a0b 0) (eC (.int 0)))) a0k))) (eOp eqB (eOp ixF (a0b 1) (eC (.int 0))) (eC (.int 0))))
noncomputable def e3v (call:CW):SW:=a0s (a1k (a1p 5 2 (c5r (a0b 1) (a0i call 13 (a0a (a0b 0) (a0a (a0b 3) a0k)))) (.tp [5,6]) a0u (eOp b1v (a0b 5) (a0b 6))) (.nm 4)) (a1n (eOp a2e (eOp b1v (a0b 2) (a0i call 12 (a0a (a0b 0) (a0a (a0b 3) a0k)))) (eUn b5l (a0b 4))))
noncomputable def d6l (call:CW):SW:=a0s (a1k (eUn a5j (eOp ixF (a0b 0) (eC (.int 0)))) (.nm 4)) (a0s (sIf (bOr (b3l (a1z (a0i call 1 (a0a (a0b 3) (a0a (eOp a2e (a0b 4) (eC (.int 1))) a0k))))) (b3l (a1z (eUn c5y (a1p 7 1 (b2w (a0b 3)) (.nm 7) a0u (a0i call 0 (a0a (a0b 7) a0k))))))) (a1n (eC (.bl false))) a5f) (a0s (sIf (a1z (eOp neB (eOp ixF (a0b 3) (a0b 4)) (eC (.int 0)))) (a1n (eC (.bl false))) a5f) (a0s (b5r (b1a (a0b 4)) (.nm 5) (a0s (a1k (a0i call 19 (a0a (a0b 0) (a0a (a0b 1) (a0a (a0b 2) (a0a (a0b 5) a0k))))) (.nm 6)) (sIf (a1z (eOp neB (eOp ixF (a0b 3) (a0b 5)) (eUn b5v (a1p 7 2 (c5r (a0b 6) (eSl (a0b 3) (a5h (eOp a2e (a0b 5) (eC (.int 1)))) b0n)) (.tp [7,8]) a0u (eOp a2e (a0b 7) (a0b 8)))))) (a1n (eC (.bl false))) a5f))) (a1n (eC (.bl true))))))
noncomputable def e3u (call:CW):SW:=a0s (a1k (eUn a5j (eOp ixF (a0b 0) (eC (.int 0)))) (.nm 2)) (a1n (a0i call 27 (a0a (a0b 0) (a0a (a1p 3 1 (b1a (a0b 2)) (.nm 3) a0u (eOp b9a (eOp a2e (eOp a2e (a0b 3) (a0b 1)) (eC (.int 1))) (a0b 2))) a0k))))
noncomputable def d6k (call:CW):SW:=a1n (a0i call 27 (a0a (a0b 0) (a0a (a1p 2 1 (b1a (eUn a5j (eOp ixF (a0b 0) (eC (.int 0))))) (.nm 2) a0u (a0i call 26 (a0a (a0b 0) (a0a (a0b 2) (a0a (a0b 1) a0k))))) a0k)))
noncomputable def e3t (call:CW):SW:=a0s (a1k (a0b 1) (.nm 3)) (a0s (d0l (d4v (a1z (eOp ltB (a0b 3) (eUn a5j (eOp ixF (a0b 0) (eC (.int 0)))))) (a1z (eOp leB (a0i call 15 (a0a (a0b 0) (a0a (a0b 1) (a0a (eOp a2e (a0b 3) (eC (.int 1))) a0k)))) (a0b 2)))) (d1h (d0p λi j=>i+j) 3 (eC (.int 1)))) (a1n (a0b 3)))
noncomputable def e3s (call:CW):SW:=a0s (a1k (eUn a5j (eOp ixF (a0b 0) (eC (.int 0)))) (.nm 2)) (a0s (a1k (c0j (a0b 2) (a4q (a0a (eC (.int 0)) (a0a (a4q a0k) a0k)))) (.nm 3)) (a0s (b5r (c3o (a0b 2)) (.nm 4) (a0s (a1k (b1f a0k) (.nm 5)) (a0s (b5r (iRng2 (eOp a2e (a0b 4) (eC (.int 1))) (eOp a2e (eOp ixF (a0b 1) (a0b 4)) (eC (.int 1)))) (.nm 6) (sIf (a1z (eOp c1x (a0b 6) (a0b 3))) (a0s (a1k (b6y dgF 3 (a0b 6)) (.tp [7,8])) (c6u (b3c d0f 5 (a4q (a0a (eOp a2e (a0i call 15 (a0a (a0b 0) (a0a (a0b 4) (a0a (a0b 6) a0k)))) (a0b 7)) (a0a (eOp a2e (a4q (a0a (a0b 4) a0k)) (a0b 8)) a0k)))))) a5f)) (sIf (a1z (a0b 5)) (c6t 3 (a0b 4) (eUn b2k (a0b 5))) a5f)))) (a1n (c9n 3 (eC (.int 0))))))
noncomputable def e3r (call:CW):SW:=a0s (b5r (b1a (eUn a5j (eOp ixF (a0b 0) (eC (.int 0))))) (.nm 2) (a0s (a1k (a0i call 24 (a0a (a0b 0) (a0a (a0b 2) a0k))) (.tp [3,4])) (sIf (a1z (eOp leB (a0b 3) (a0b 1))) (a1n (a4q (a0a (a0b 2) (a0a (a0b 3) (a0a (a0b 4) a0k))))) a5f))) (a1n (eC .non))
noncomputable def e3q (call:CW):SW:=a0s (a1k (eUn a5j (eOp ixF (a0b 0) (eC (.int 0)))) (.nm 2)) (a0s (a1k (b3b 10 2 (b1a (a0b 2)) (.nm 10) a0u (iRng2 (eOp a2e (a0b 10) (eC (.int 1))) (eOp a2e (a0b 2) (eC (.int 1)))) (.nm 11) a0u (a0i call 15 (a0a (a0b 0) (a0a (a0b 10) (a0a (a0b 11) a0k))))) (.nm 3)) (a0s (a1k (eC (.int 0)) (.nm 4)) (a0s (a1k (eUn a5j (a0b 3)) (.nm 5)) (a0s (d0l (a1z (eOp ltB (a0b 4) (a0b 5))) (a0s (a1k (eOp b2z (eOp a2e (a0b 4) (a0b 5)) (eC (.int 2))) (.nm 6)) (a0s (a1k (a0i call 25 (a0a (a0b 0) (a0a (eOp ixF (a0b 3) (a0b 6)) a0k))) (.nm 7)) (sIf (d4v (a1z (eUn a1u (a0b 7))) (a1z (eOp leB (eOp ixF (a0b 7) (eC (.int 0))) (a0b 1)))) (a1k (a0b 6) (.nm 5)) (a1k (eOp a2e (a0b 6) (eC (.int 1))) (.nm 4)))))) (a0s (sIf (a1z (eOp eqB (a0b 4) (eUn a5j (a0b 3)))) (a1n (eC .non)) a5f) (a0s (a1k (a0i call 25 (a0a (a0b 0) (a0a (eOp ixF (a0b 3) (a0b 4)) a0k))) (.tp [8,9])) (a1n (a4q (a0a (eOp ixF (a0b 3) (a0b 4)) (a0a (a0b 8) (a0a (a0b 9) a0k)))))))))))
noncomputable def e3p (call:CW):SW:=a0s (a1k (b1f a0k) (.nm 1)) (a0s (b5r (b1a (eUn a5j (eOp ixF (a0b 0) (eC (.int 0))))) (.nm 2) (a0s (a1k (eOp ixF (a0i call 24 (a0a (a0b 0) (a0a (a0b 2) a0k))) (eC (.int 0))) (.nm 3)) (sIf (bOr (b3l (a1z (a0b 1))) (a1z (eOp ltB (a0b 3) (eOp ixF (b6y ixF 1 (eUn d9e (eC (.int 1)))) (eC (.int 1)))))) (c6u (b3c d0f 1 (a4q (a0a (a0b 2) (a0a (a0b 3) a0k))))) a5f))) (a1n (a0b 1)))
noncomputable def e3o (call:CW):SW:=a0s (a1k (eOp c5i (eOp b1v (eOp a2e (eOp a2e (eOp c5i (a0b 0) (eC (.int 2147483629))) (eOp b1v (eOp b1v (a0b 1) (a0b 1)) (eC (.int 7919)))) (eC (.int 11))) (eC (.int 48271))) (eC (.int 2147483647))) (.nm 2)) (a1n (eOp c5i (eOp b1v (a0b 2) (a0b 2)) (eC (.int 1999999973))))
noncomputable def e3n (call:CW):SW:=a0s (a1k (eIf (a1z (eOp ltB (a0b 1) (eUn a5j (a0b 0)))) (eOp ixF (a0b 0) (a0b 1)) (eC (.int 0))) (.nm 2)) (a1n (b1f (a0a (eOp b1v (eUn d4z (a0b 2)) (eUn b3s (eOp geB (eUn d4z (a0b 2)) (eOp c7l (eC (.int 10)) (eC (.int 18)))))) (a0a (eOp a2e (a0b 2) (eOp b1v (eC (.int 1000003)) (a0b 1))) (a0a (eC (.int 0)) a0k)))))
noncomputable def d6j (call:CW):SW:=a0s (d5f 0 (eC (.int 2)) (eOp a2e (b6y ixF 0 (eC (.int 2))) (eC (.int 1)))) (a0s (sIf (a1z (eOp gtB (b6y ixF 0 (eC (.int 0))) (eC (.int 0)))) (a0s (a1k (eOp c5i (b6y ixF 0 (eC (.int 0))) (a0b 1)) (.nm 2)) (a0s (d5f 0 (eC (.int 0)) (eOp b2z (b6y ixF 0 (eC (.int 0))) (a0b 1))) (a1n (a0b 2)))) a5f) (a1n (eOp c5i (eOp b2z (a0i call 31 (a0a (a0i call 31 (a0a (b6y ixF 0 (eC (.int 1))) (a0a (b6y ixF 0 (eC (.int 2))) a0k))) (a0a (eOp a2e (b6y ixF 0 (eC (.int 2))) (eC (.int 64))) a0k))) (eC (.int 64))) (a0b 1))))
noncomputable def e3m (call:CW):SW:=a0s (a1k (a1j call 33 0 (a0a (eC (.int 4)) a0k)) (.nm 2)) (a0s (sIf (d4v (a1z (eOp eqB (a0b 2) (eC (.int 3)))) (a1z (eOp eqB (a0b 1) (eC (.int 0))))) (a1n (eOp a2e (eC (.int 1)) (a1j call 33 0 (a0a (eOp b5m (eOp c7l (eC (.int 10)) (eC (.int 9))) (eC (.int 20))) a0k)))) a5f) (a1n (eOp a2e (eC (.int 1)) (a1j call 33 0 (a0a (eOp ixF (b1f (a0a (eC (.int 9)) (a0a (eC (.int 9)) (a0a (eC (.int 40)) (a0a (eC (.int 3)) a0k))))) (a0b 2)) a0k)))))
noncomputable def e3l (call:CW):SW:=a0s (a1k (eIf (a1z (eOp gtB (a1j call 33 0 (a0a (eC (.int 8)) a0k)) (eC (.int 0)))) (eOp a2e (eC (.int 1)) (a1j call 33 0 (a0a (eC (.int 7)) a0k))) (eOp a2e (eC (.int 8)) (a1j call 33 0 (a0a (eOp b5m (a0b 1) (eC (.int 7))) a0k)))) (.nm 2)) (a0s (a1k (a1j call 33 0 (a0a (eC (.int 4)) a0k)) (.nm 3)) (a0s (a1k (eUn a2z (a1p 5 1 (b1a (a0b 2)) (.nm 5) a0u (eOp a2e (a1j call 34 0 (a0a (a0b 3) a0k)) (eOp ixF (b1f (a0a (eC (.int 0)) (a0a (eC (.int 9)) a0k))) (a1j call 33 0 (a0a (eC (.int 2)) a0k)))))) (.nm 4)) (a1n (a4q (a0a (a0b 4) (a0a (eUn a2z (a1p 5 1 (b1a (eOp b5m (a0b 2) (eC (.int 1)))) (.nm 5) a0u (a1j call 34 0 (a0a (a0b 3) a0k)))) a0k))))))
noncomputable def e3k (call:CW):SW:=a0s (a1k (a4q (a0a (eOp ixF (b1f (a0a (eC (.int 1)) (a0a (eC (.int 2)) (a0a (eC (.int 4)) (a0a (eC (.int 30)) (a0a (eOp a2e (eOp c7l (eC (.int 10)) (eC (.int 9))) (eC (.int 1))) a0k)))))) (a1j call 33 0 (a0a (eC (.int 5)) a0k))) (a0a (a1j call 33 0 (a0a (eC (.int 5)) a0k)) a0k))) (.tp [2,3])) (a0s (a1k (a1p 6 1 (b1a (a0b 1)) (.nm 6) a0u (eOp b2z (eOp b1v (a1j call 33 0 (a0a (a0b 2) a0k)) (a1j call 33 0 (a0a (eC (.int 3)) a0k))) (eC (.int 2)))) (.nm 4)) (a0s (a1k (b1f (a0a (eC (.int 0)) (a0a (eC (.int 1)) (a0a (eOp a2e (eC (.int 1)) (a1j call 33 0 (a0a (eC (.int 9)) a0k))) (a0a (a1j call 33 0 (a0a (eOp a2e (eOp c7l (eC (.int 10)) (eC (.int 9))) (eC (.int 1))) a0k)) (a0a (eC (.int 1)) a0k)))))) (.nm 5)) (a1n (a4q (a0a (eUn a2z (a0b 4)) (a0a (eOp ixF (a0b 5) (a0b 3)) a0k))))))
noncomputable def d6i (call:CW):SW:=a1n (eOp a2e (eOp ixF (eOp ixF (a0b 0) (eC (.int 0))) (a0b 1)) (eUn b2a (eSl (eOp ixF (a0b 0) (eC (.int 1))) (a5h (a0b 1)) (a5h (eOp b5m (a0b 2) (eC (.int 1)))))))
noncomputable def e3j (call:CW):SW:=a0s (a1k (b1f (a0a (a4q (a0a (eC (.int 0)) a0k)) a0k)) (.nm 1)) (a0s (b5r (iRng2 (eC (.int 1)) (a0b 0)) (.nm 2) (a1k (eOp a2e (a0b 1) (a1p 3 1 (b2w (a0b 1)) (.nm 3) a0u (eOp a2e (a0b 3) (a4q (a0a (a0b 2) a0k))))) (.nm 1))) (a1n (a0b 1)))
noncomputable def e3i (call:CW):SW:=a0s (a1k (b1f a0k) (.nm 1)) (a0s (b5r (b1a (eUn a5j (eOp ixF (a0b 0) (eC (.int 0))))) (.nm 2) (c6u (b3c d0f 1 (eUn b5v (a1p 3 1 (b1a (eOp a2e (a0b 2) (eC (.int 1)))) (.nm 3) a0u (a0i call 37 (a0a (a0b 0) (a0a (a0b 3) (a0a (eOp a2e (a0b 2) (eC (.int 1))) a0k))))))))) (a1n (eUn a2z (a0b 1))))
noncomputable def d6h (call:CW):SW:=a1n (a4q (a0a (eSl (eOp ixF (a0b 0) (eC (.int 0))) b0n (a5h (a0b 1))) (a0a (eSl (eOp ixF (a0b 0) (eC (.int 1))) b0n (a5h (eOp b5m (a0b 1) (eC (.int 1))))) a0k)))
noncomputable def e3h (call:CW):SW:=a0s (a1k (a4q (a0a (a0i call 14 (a0a (a0b 0) (a0a (a0b 1) a0k))) (a0a (a0i call 12 (a0a (a0b 0) (a0a (a0b 1) a0k))) (a0a (eUn c3g (a0i call 13 (a0a (a0b 0) (a0a (a0b 1) a0k)))) a0k)))) (.tp [3,4,5])) (a0s (sIf (b3l (a1z (eUn d4y (a1p 6 2 (b2w (a0b 2)) (.tp [6,7]) a0u (c4a (eOp leB (a0b 6) (a0b 3)) (eOp leB (a0b 7) (a0b 4))))))) (a1n (eC (.bl false))) a5f) (a0s (sIf (bOr (a1z (eOp gtB (eOp ixF (a0i call 28 (a0a (a0b 0) (a0a (a0b 4) a0k))) (eC (.int 0))) (a0b 3))) (a1z (eOp gtB (eOp ixF (a0i call 29 (a0a (a0b 0) (a0a (a0b 4) a0k))) (eC (.int 0))) (a0b 5)))) (a1n (eC (.bl false))) a5f) (a1n (c4a (eOp leB (eOp ixF (a0i call 24 (a0a (a0b 0) (a0a (a0b 3) a0k))) (eC (.int 0))) (a0b 4)) (eOp leB (eOp ixF (a0i call 25 (a0a (a0b 0) (a0a (a0b 5) a0k))) (eC (.int 0))) (a0b 4))))))
noncomputable def d6g (call:CW):SW:=a1n (eOp a2e (eOp b1v (a0b 2) (a0i call 12 (a0a (a0b 0) (a0a (a0b 3) a0k)))) (eUn b5l (a1p 4 2 (c5r (a0b 1) (a0i call 13 (a0a (a0b 0) (a0a (a0b 3) a0k)))) (.tp [4,5]) a0u (eOp b1v (a0b 4) (a0b 5)))))
noncomputable def e3g (call:CW):SW:=a0s (a1k (a0i call 16 (a0a (a0b 0) (a0a (a0b 1) (a0a (a0b 2) a0k)))) (.tp [4,5])) (a0s (a1k (a0i call 17 (a0a (a0b 0) (a0a (a0b 1) (a0a (a0b 2) a0k)))) (.nm 6)) (a0s (a1k (a1p 11 1 (b2w (a0b 3)) (.nm 11) a0u (a0i call 42 (a0a (a0b 0) (a0a (a0b 1) (a0a (a0b 2) (a0a (a0b 11) a0k)))))) (.nm 7)) (a0s (sIf (bOr (a1z (eOp neB (eUn b5v (a0b 7)) (a0b 4))) (bOr (a1z (eOp d2w (a0b 5) (a0b 3))) (a1z (eOp neB (eOp ixF (a0b 7) (d6a a8e 3 (a0b 5))) (a0b 4))))) (a1n (eC (.bl false))) a5f) (a0s (b5r (c5r (eSl (a0b 3) b0n (a5h (eC (.int 40)))) (a0b 7)) (.tp [8,9]) (a0s (sIf (a1z (eOp neB (a0i call 20 (a0a (a0b 0) (a0a (a0b 1) (a0a (a0b 2) (a0a (a0b 4) (a0a (a0b 8) (a0a (a0b 6) a0k))))))) (eOp eqB (a0b 9) (a0b 4)))) (a1n (eC (.bl false))) a5f) (sIf (a1z (eOp gtB (a0b 9) (a0b 4))) (a0s (a1k (eUn a2z (a1p 11 1 (b2w (a0b 6)) (.nm 11) a0u (eOp b5m (eOp a2e (a0b 11) (a0b 9)) (a0b 4)))) (.nm 10)) (sIf (a1z (eUn d4y (a1p 11 1 (b2w (a4q (a0a (a0b 6) (a0a (eOp a2e (a4q (a0a (a0b 9) a0k)) (eSl (a0b 6) (a5h (eC (.int 1))) b0n)) (a0a (a0b 10) a0k))))) (.nm 11) a0u (a0i call 20 (a0a (a0b 0) (a0a (a0b 1) (a0a (a0b 2) (a0a (a0b 9) (a0a (a0b 8) (a0a (a0b 11) a0k)))))))))) (a1n (eC (.bl false))) a5f)) a5f))) (a1n (eC (.bl true)))))))
noncomputable def e3f (call:CW):SW:=a0s (b5r (b1a (eOp a2e (eC (.int 1)) (eOp b9a (eC (.int 2)) (eUn a5j (a0b 0))))) (.nm 1) (a0s (a1k (a0i call 32 (a0a (a0b 0) (a0a (a0b 1) a0k))) (.nm 2)) (a0s (a1k (a0i call 40 (a0a (a1j call 35 2 (a0a (eC (.int 12)) a0k)) (a0a (eC (.int 8)) a0k))) (.nm 3)) (a0s (a1k (eUn a5j (eOp ixF (a0b 3) (eC (.int 0)))) (.nm 4)) (a0s (a1k (a1j call 36 2 (a0a (a0b 4) a0k)) (.tp [5,6])) (a0s (a1k (a0i call 38 (a0a (a0b 4) a0k)) (.nm 7)) (a0s (a1k (a0i call 30 (a0a (a0b 3) a0k)) (.nm 8)) (a0s (sIf (b3l (a1z (eUn c5y (a1p 10 1 (b2w (a0b 7)) (.nm 10) a0u (a0i call 41 (a0a (a0b 3) (a0a (a0b 10) (a0a (a0b 8) a0k)))))))) (a1n (eC (.bl false))) a5f) (a0s (a1k (a1p 10 1 (b2w (a0b 7)) (.nm 10) a0u (a4q (a0a (a0i call 14 (a0a (a0b 3) (a0a (a0b 10) a0k))) (a0a (a0i call 12 (a0a (a0b 3) (a0a (a0b 10) a0k))) a0k)))) (.nm 9)) (a0s (sIf (bOr (b3l (a1z (eUn c5y (a1p 10 1 (b2w (a0b 8)) (.nm 10) a0u (eOp c1x (a0b 10) (a0b 9)))))) (b3l (a1z (a0i call 43 (a0a (a0b 3) (a0a (a0b 5) (a0a (a0b 6) (a0a (a0b 7) a0k)))))))) (a1n (eC (.bl false))) a5f) (a0s (sIf (a1z (eOp neB (eOp ixF (a0i call 16 (a0a (a0b 3) (a0a (eOp b5k (a4q (a0a (eC (.int 0)) a0k)) (a0b 4)) (a0a (eC (.int 1)) a0k)))) (eC (.int 0))) (eOp ixF (a0i call 24 (a0a (a0b 3) (a0a (a0b 4) a0k))) (eC (.int 0))))) (a1n (eC (.bl false))) a5f) (sIf (a1z (eOp neB (eOp ixF (a0i call 16 (a0a (a0b 3) (a0a (eOp b5k (a4q (a0a (eC (.int 1)) a0k)) (a0b 4)) (a0a (eC (.int 0)) a0k)))) (eC (.int 0))) (eUn b2a (a0i call 39 (a0a (a0b 3) a0k))))) (a1n (eC (.bl false))) a5f)))))))))))) (a1n (eC (.bl true)))
noncomputable def fd0:FD:=⟨1,1,bd0,false,false⟩
noncomputable def fd1:FD:=⟨2,2,bd1,false,false⟩
noncomputable def fd2:FD:=⟨2,2,bd2,false,false⟩
noncomputable def fd3:FD:=⟨1,1,bd3,false,false⟩
noncomputable def fd4:FD:=⟨2,3,bd4,false,false⟩
noncomputable def fd5:FD:=⟨2,2,bd5,false,false⟩
noncomputable def fd6:FD:=⟨2,4,bd6,false,false⟩
noncomputable def fd7:FD:=⟨2,2,bd7,false,false⟩
noncomputable def fd8:FD:=⟨2,3,bd8,false,false⟩
noncomputable def fd9:FD:=⟨2,2,bd9,false,false⟩
noncomputable def e2h:FD:=⟨1,3,e4b,false,false⟩
noncomputable def e2g:FD:=⟨2,2,d6r,false,false⟩
noncomputable def e2f:FD:=⟨2,2,d6q,false,false⟩
noncomputable def e2e:FD:=⟨2,2,d6p,false,false⟩
noncomputable def e2d:FD:=⟨2,3,e4a,false,false⟩
noncomputable def e2c:FD:=⟨3,5,e3z,false,false⟩
noncomputable def e2b:FD:=⟨3,3,d6o,false,false⟩
noncomputable def e2a:FD:=⟨3,3,d6n,false,false⟩
noncomputable def e1z:FD:=⟨3,7,e3y,false,false⟩
noncomputable def e1y:FD:=⟨4,8,e3x,false,true⟩
noncomputable def e1x:FD:=⟨6,6,e3w,false,false⟩
noncomputable def e1w:FD:=⟨2,2,d6m,false,false⟩
noncomputable def e1v:FD:=⟨4,5,e3v,false,false⟩
noncomputable def d5x:FD:=⟨4,7,d6l,false,false⟩
noncomputable def e1u:FD:=⟨2,3,e3u,false,false⟩
noncomputable def e1t:FD:=⟨2,2,d6k,false,false⟩
noncomputable def e1s:FD:=⟨3,4,e3t,false,false⟩
noncomputable def e1r:FD:=⟨2,9,e3s,false,false⟩
noncomputable def e1q:FD:=⟨2,5,e3r,false,false⟩
noncomputable def e1p:FD:=⟨2,10,e3q,false,false⟩
noncomputable def e1o:FD:=⟨1,4,e3p,false,true⟩
noncomputable def e1n:FD:=⟨2,3,e3o,false,false⟩
noncomputable def e1m:FD:=⟨2,3,e3n,false,true⟩
noncomputable def d5w:FD:=⟨2,3,d6j,true,false⟩
noncomputable def e1l:FD:=⟨2,3,e3m,true,false⟩
noncomputable def e1k:FD:=⟨2,5,e3l,true,false⟩
noncomputable def e1j:FD:=⟨2,6,e3k,true,false⟩
noncomputable def e1i:FD:=⟨3,3,d6i,false,false⟩
noncomputable def e1h:FD:=⟨1,3,e3j,false,false⟩
noncomputable def e1g:FD:=⟨1,3,e3i,false,false⟩
noncomputable def e1f:FD:=⟨2,2,d6h,false,false⟩
noncomputable def e1e:FD:=⟨3,6,e3h,false,false⟩
noncomputable def e1d:FD:=⟨4,4,d6g,false,false⟩
noncomputable def e1c:FD:=⟨4,11,e3g,false,false⟩
noncomputable def e1b:FD:=⟨1,10,e3f,false,false⟩
noncomputable def tb:List FD:=[fd0,fd1,fd2,fd3,fd4,fd5,fd6,fd7,fd8,fd9,e2h,e2g,e2f,e2e,e2d,e2c,e2b,e2a,e1z,e1y,e1x,e1w,e1v,d5x,e1u,e1t,e1s,e1r,e1q,e1p,e1o,e1n,e1m,d5w,e1l,e1k,e1j,e1i,e1h,e1g,e1f,e1e,e1d,e1c,e1b]
noncomputable def mixV (a k:Int):Int:=((a % 2147483629+k*k*7919+11)*48271 % 2147483647)*((a % 2147483629+k*k*7919+11)*48271 % 2147483647) % 1999999973
theorem b7y (x:Int):small (x % 2147483647)=true:=by
 have:=Int.emod_nonneg x (show (2147483647:Int)≠0 by decide)
 have:=Int.emod_lt_of_pos x (show (0:Int)<2147483647 by decide)
 simp only[small,decide_eq_true_eq];lia
theorem a2h {i:Int}(h:0<=i)(h':i<2 ^ 60):small i=true:=by
 simp only[small,decide_eq_true_eq];lia
theorem a0f {i:Int}(h:0<=i)(h':i<2 ^ 60):a1i i=true:=by
 simp only[a1i,decide_eq_true_eq];lia
theorem d3c (d:Nat) (a k:Int)(hk:small k=true)(Q:FV×FV->Prop):callW tb (d+1) 31 [.int a,.int k] Q↔Q (.int (mixV a k),.non):=by
 have h2:small 48271=true:=by decide
 have h3:small 7919=true:=by decide
 rw[a9s (fd:=e1n) rfl rfl]
 simp[e1n,e3o,h2,h3,hk,b7y,mixV]
noncomputable def Lf (n:Int)(v:FV):Prop:=∃ a b c,v=.lst [.int a,.int b,.int c]/\0<=c/\c<=n
theorem Lf.mono {n m:Int}{v:FV}(h:Lf n v)(k:n<=m):Lf m v:=by
 obtain⟨a,b,c,h,h1,h2⟩:=h
 exact⟨a,b,c,h,h1,by lia⟩
theorem a1t (d:Nat){many n:Int}{v:FV}{Q:FV×FV->Prop}(hs:Lf n v)(hn:n<1000000)(h1:0<many)(h2:many<1073741824)
  (q:∀ u v',0<=u->u<many->Lf (n+1) v'->Q (.int u,v')):callW tb (d+2) 33 [v,.int many] Q:=by
 obtain⟨a,b,c,rfl,h3,h4⟩:=hs
 refine a0e (fd:=d5w) rfl rfl ?_
 have s1:small (c+1)=true:=a2h (by lia) (by lia)
 have s2:small (c+1+64)=true:=a2h (by lia) (by lia)
 by_cases ha:0<a
 ·simp[d5w,d6j,ixN,ha,h1,h2]
  exact q _ _ (Int.emod_nonneg _ (by lia)) (Int.emod_lt_of_pos _ h1) ⟨_,_,_,rfl,by lia,by lia⟩
 ·simp[d5w,d6j,ixN,ha,h1,h2,d3c,s1,s2]
  exact q _ _ (Int.emod_nonneg _ (by lia)) (Int.emod_lt_of_pos _ h1) ⟨_,_,_,rfl,by lia,by lia⟩
theorem c8j (d:Nat)(ns:List Int) (k:Nat){Q:FV×FV->Prop}(q:∀ v y,Lf 0 v->Q (v,y)):callW tb (d+1) 32 [.scr ns,.int k] Q:=by
 refine a0e (fd:=e1m) rfl rfl ?_
 have h1:small 1000003=true:=by decide
 have h2:small 0=true:=by decide
 have h4:small 10=true:=by decide
 have h5:∀ r:Bool,small (if r=true then 1 else 0)=true:=by intro r;cases r<;>decide
 simp[e1m,e3n]
 split
 ·rename_i hk
  rw[a2s rfl (show (ns.map FV.int)[k]?=some (.int ns[k]) by simp[hk])]
  simp[h1,h4,h5,big]
  exact⟨.inr (by by_cases hh:1000000000000000000<=(if ns[k]<0 then -ns[k] else ns[k])<;>simp only[hh,if_true,if_false]<;>decide),q _ _ ⟨_,_,_,rfl,by lia,by lia⟩⟩
 ·simp[h1,h2,h4,big]
  exact q _ _ ⟨_,_,_,rfl,by lia,by lia⟩
mutual
noncomputable def dF:D->FV
 | .non=>.non
 | .bl b=>.bl b
 | .int i=>.int i
 | .str x=>.str x
 | .tup xs=>.tup (dFs xs)
 | .lst xs=>.lst (dFs xs)
noncomputable def dFs:List D->List FV
 | []=>[]
 | x :: r=>dF x :: dFs r
end
theorem a1v:∀ xs:List D,dFs xs=xs.map dF
 | []=>rfl
 | x :: r=>by rw[dFs,a1v r];rfl
mutual
noncomputable def dep:D->Nat
 | .tup xs=>a7l xs+1
 | .lst xs=>a7l xs+1
 | .non=>0|.bl _=>0|.int _=>0|.str _=>0
noncomputable def a7l:List D->Nat
 | []=>0
 | x :: r=>max (dep x) (a7l r)
end
mutual
theorem b1d:∀ (x:D) (n:Nat),dep x<n->fD n (dF x)=some x
 | .non,0,h=>by lia
 | .non,n+1,h=>rfl
 | .bl _,0,h=>by lia
 | .bl _,n+1,h=>rfl
 | .int _,0,h=>by lia
 | .int _,n+1,h=>rfl
 | .str _,0,h=>by lia
 | .str _,n+1,h=>rfl
 | .tup xs,0,h=>by lia
 | .tup xs,n+1,h=>by simp only[dF,fD];rw[c0e xs n (by simp only[dep] at h;lia)];rfl
 | .lst xs,0,h=>by lia
 | .lst xs,n+1,h=>by simp only[dF,fD];rw[c0e xs n (by simp only[dep] at h;lia)];rfl
theorem c0e:∀ (xs:List D) (n:Nat),a7l xs<n->a6h (fD n) (dFs xs)=some xs
 | [],n,h=>rfl
 | x :: r,n,h=>by
  simp only[a7l] at h
  simp only[dFs,a6h,b1d x n (by lia),c0e r n (by lia),Option.bind_some,Option.map_some]
end
noncomputable def Vl (k p:Nat)(x:FV):Prop:=∃ d,x=dF d/\dep d<=p/\d.fit=true/\d.wt<=k
theorem Vl.mono {k k' p p':Nat}{x:FV}(h:Vl k p x)(hk:k<=k')(hp:p<=p'):Vl k' p' x:=by
 obtain⟨d,e,h1,h2,h3⟩:=h
 exact⟨d,e,by lia,h2,by lia⟩
theorem Vl.all {k p:Nat}:∀ {xs:List FV},(∀ x∈xs,Vl k p x)->∃ ds:List D,xs=dFs ds/\a7l ds<=p/\D.fits ds=true/\D.wts ds<=ds.length*(k+1)/\ds.length=xs.length
 | [],_=>⟨[],rfl,Nat.zero_le _,rfl,by simp[D.wts],rfl⟩
 | x :: r,h=>by
  obtain⟨d,e,h1,h2,h3⟩:=h x (Γn ..)
  obtain⟨ds,e',h1',h2',h3',h4'⟩:=Vl.all (xs:=r) λy hy=>h y (Γh _ hy)
  refine⟨d :: ds,by rw[e,e'];rfl,by simp only[a7l];lia,by simp only[D.fits,h2,h2',Bool.and_self],?_,by simp[h4']⟩
  simp only[D.wts,List.length_cons,Nat.add_mul,Nat.one_mul];lia
theorem Vl.tup {k p m:Nat}{xs:List FV}(h:∀ x∈xs,Vl k p x)(hl:xs.length<=m):Vl (m*(k+1)) (p+1) (.tup xs):=by
 obtain⟨ds,e,h1,h2,h3,h4⟩:=Vl.all h
 refine⟨.tup ds,by rw[e];rfl,by simp only[dep];lia,by simp only[D.fit,h2],?_⟩
 simp only[D.wt]
 exact Nat.le_trans h3 (Nat.mul_le_mul_right _ (by lia))
theorem Vl.lst {k p m:Nat}{xs:List FV}(h:∀ x∈xs,Vl k p x)(hl:xs.length<=m):Vl (m*(k+1)) (p+1) (.lst xs):=by
 obtain⟨ds,e,h1,h2,h3,h4⟩:=Vl.all h
 refine⟨.lst ds,by rw[e];rfl,by simp only[dep];lia,by simp only[D.fit,h2],?_⟩
 simp only[D.wt]
 exact Nat.le_trans h3 (Nat.mul_le_mul_right _ (by lia))
theorem Vl.int {i:Int}(h:-(2 ^ 40)<i)(h':i<2 ^ 40):Vl 41 0 (.int i):=⟨.int i,rfl,Γi _,by simp only[D.fit,decide_eq_true_eq];lia,by simp only[D.wt];rw[if_pos ⟨h,h'⟩];exact Γi _⟩
theorem Vl.bl {b:Bool}:Vl 0 0 (.bl b):=⟨.bl b,rfl,Γi _,rfl,Γi _⟩
theorem b4y {α:Type}(xs:List α) (n:Nat):b1j xs (some (n:Int)) none=xs.drop n:=by
 have h:sIx xs.length 0 (some (n:Int))=min n xs.length:=by simp only[sIx];rw[if_neg (by lia)];simp
 unfold b1j
 rw[h]
 show (xs.drop (min n xs.length)).take (xs.length-min n xs.length)=_
 by_cases hn:n<=xs.length
 ·rw[Nat.min_eq_left hn,List.take_of_length_le (by simp)]
 ·rw[Nat.min_eq_right (by lia),List.drop_of_length_le (Γi _),List.drop_of_length_le (by lia)];simp
theorem c1a {α:Type}(xs:List α) (n:Nat):b1j xs none (some (n:Int))=xs.take n:=by
 have h:sIx xs.length xs.length (some (n:Int))=min n xs.length:=by simp only[sIx];rw[if_neg (by lia)];simp
 unfold b1j
 rw[h]
 show (xs.drop 0).take (min n xs.length-0)=_
 rw[List.drop_zero,Nat.sub_zero,List.take_eq_take_iff];lia
theorem a2q {α β:Type}(f:α->FV)(g:β->FV):∀ (xs:List α)(ys:List β),a2v (xs.map f) (ys.map g)=(xs.zip ys).map λp=>.tup [f p.1,g p.2]
 | [],ys=>rfl
 | x :: xs,[]=>rfl
 | x :: xs,y :: ys=>by
  show FV.tup [f x,g y] :: a2v (xs.map f) (ys.map g)=_
  rw[a2q f g xs ys];rfl
abbrev Chg:=Nat×Nat×Int
noncomputable def c5t (c:Chg):FV:=.tup [.int c.1,.int c.2.1,.int c.2.2]
structure Gst (ws:List Int)(cs:List Chg):Prop where
 w:∀ x∈ws,1<=x
 c:∀ x∈cs,x.1<ws.length/\x.2.1<ws.length/\x.1≠x.2.1/\1<=x.2.2
 s:∀ x∈cs.zip (cs.drop 1),lexLt [(x.1.1:Int),x.1.2.1] [(x.2.1:Int),x.2.2.1]=true
noncomputable def c5s (ws:List Int)(cs:List Chg):FV:=.tup [.tup (ws.map .int),.tup (cs.map c5t)]
theorem b5g {α:Type}(xs:List α):(xs.map λ_=>FV.bl true)=xs.map λx=>FV.bl ((λ_=>true) x):=rfl
theorem a8b {cs:List Chg}(h:∀ x∈cs.zip (cs.drop 1),lexLt [(x.1.1:Int),x.1.2.1] [(x.2.1:Int),x.2.2.1]=true):(cs.map λc=>[(c.1:Int),c.2.1]).Nodup:=by
 have lt:∀ a b c d:Int,lexLt [a,b] [c,d]=true↔(a<c ∨ a=c/\b<d):=λa b c d=>by
  by_cases e:a=c
  ·subst e
   by_cases e2:b=d
   ·subst e2;simp[lexLt]
   ·simp[lexLt,e2]
  ·simp[lexLt,e]
 have go:∀ (cs:List Chg) (a b:Nat),(∀ x∈cs.zip (cs.drop 1),lexLt [(x.1.1:Int),x.1.2.1] [(x.2.1:Int),x.2.2.1]=true)->(∀ c∈cs.head?,a<c.1 ∨ a=c.1/\b<c.2.1)->(∀ c∈cs,a<c.1 ∨ a=c.1/\b<c.2.1)/\(cs.map λc=>[(c.1:Int),c.2.1]).Nodup:=by
  intro cs
  induction cs with
  | nil=>intro a b _ _;simp
  | cons x r ih =>
   intro a b hs hh
   have hx:=hh x (by simp)
   have h2:=ih x.1 x.2.1 (λp hp=>hs p (by
    cases r with
    | nil=>simp at hp
    | cons y q=>simp at hp ⊢;exact .inr hp)) (λc hc=>by
    cases r with
    | nil=>simp at hc
    | cons y q =>
     simp at hc;subst hc
     have:=(lt _ _ _ _).mp (hs (x,y) (by simp))
     dsimp only at this
     lia)
   refine⟨λc hc=>?_,?_⟩
   ·rcases List.mem_cons.mp hc with rfl|hc
    ·exact hx
    ·have:=h2.1 c hc;lia
   ·simp only[List.map_cons,List.nodup_cons]
    refine⟨λhm=>?_,h2.2⟩
    obtain⟨c,hc,e⟩:=List.mem_map.mp hm
    have:=h2.1 c hc
    simp at e;lia
 cases cs with
 | nil=>simp
 | cons x r =>
  have h2:=go r x.1 x.2.1 (λp hp=>h p (by
   cases r with
   | nil=>simp at hp
   | cons y q=>simp at hp ⊢;exact .inr hp)) (λc hc=>by
   cases r with
   | nil=>simp at hc
   | cons y q =>
    simp at hc;subst hc
    have:=(lt _ _ _ _).mp (h (x,y) (by simp))
    dsimp only at this
    lia)
  simp only[List.map_cons,List.nodup_cons]
  refine⟨λhm=>?_,h2.2⟩
  obtain⟨c,hc,e⟩:=List.mem_map.mp hm
  have:=h2.1 c hc
  simp at e;lia
noncomputable def keyH (c:Chg):List Int:=[c.1,c.2.1]
theorem c2g (d:Nat){ws:List Int}{cs:List Chg}(h:Gst ws cs)(hc:cs.length<=1000){Q:FV×FV->Prop}(q:Q (.dct (cs.map keyH) (cs.map λc=>.int c.2.2),.non)):callW tb (d+1) 3 [c5s ws cs] Q:=by
 refine a0e (fd:=fd3) rfl rfl ?_
 simp[fd3,bd3,c5s,big]
 refine⟨by lia,?_⟩
 refine b1k (f:=c5t) (g:=keyH) (h:=λc=>.int c.2.2) cs [] [] (by simp) (a8b h.s) (λx hx K k=>?_) (by simpa using q)
 simp[c5t,big]
 exact k
noncomputable def b1w:Option Nat->FV|none=>.non|some a=>.int a
theorem c8y (m:Int)(ks:List Int)(R:Bool->Prop):wp (inF (.int m) (.tup (ks.map .int))) R↔R (decide (m∈ks)):=by
 have h:FV.tup (ks.map .int)=dF (.tup (ks.map .int)):=by simp[dF,a1v,Function.comp_def]
 have hd:∀ xs:List Int,a7l (xs.map D.int)=0:=λxs=>by induction xs with|nil=>rfl|cons x r ih=>simp[a7l,dep,ih]
 have e:inF (.int m) (.tup (ks.map .int))=some (decide (m∈ks)):=by
  unfold inF
  rw[h,show FV.int m=dF (.int m) from rfl,b1d _ a0j (by simp[dep,a0j]),b1d _ a0j (by simp only[dep,hd,a0j];lia)]
  simp only[Option.bind_some,inD]
  congr 1
  induction ks with
  | nil=>simp
  | cons x r ih =>
   have ih:(r.map D.int).any (λy=>D.eqv y (D.int m))=decide (m∈r):=ih (by simp[dF,a1v,Function.comp_def])
   simp only[List.map_cons,List.any_cons,D.eqv,ih,List.mem_cons]
   rw[Bool.eq_iff_iff];simp;constructor<;>(rintro (h|h)<;>first|exact .inl h.symm|exact .inr h)
 rw[e];exact Iff.rfl
theorem b4j (d:Nat){n g:Int}{v:FV}{Q:FV×FV->Prop}(hs:Lf n v)(h0:0<=n)(hn:n<100000)(q:∀ s v',1<=s->s<1000000000->Lf (n+2) v'->Q (.int s,v')):callW tb (d+3) 34 [v,.int g] Q:=by
 refine a0e (fd:=e1l) rfl rfl ?_
 simp[e1l,e3m,big]
 refine a1t d hs (by lia) (by decide) (by decide) λu v1 u0 u1 l1=>?_
 simp
 have fin:wp (atF [FV.int 9,FV.int 9,FV.int 40,FV.int 3] u) λz=>callW tb (d+2) 33 [v1,z] λz=>wp (a2e (FV.int 1) z.fst) λz_1=>Q (z_1,z.snd):=by
  refine b5f u0 u1 ?_
  intro f hf
  obtain⟨k,rfl,k0,k1⟩:∃ k:Int,f=.int k/\0<k/\k<=40:=by
   simp at hf
   rcases hf with rfl|rfl|rfl|rfl<;>exact⟨_,rfl,by decide,by decide⟩
  refine a1t d l1 (by lia) k0 (by lia) λw v2 w0 w1 l2=>?_
  simp
  exact q _ _ (by lia) (by lia) (l2.mono (by lia))
 refine ite2 (λh=>?_) (λh=>fin)
 refine ite2 (λh=>?_) (λh=>fin)
 refine⟨by decide,a1t d l1 (by lia) (by decide) (by decide) λw v2 w0 w1 l2=>?_⟩
 simp
 exact q _ _ (by lia) (by lia) (l2.mono (by lia))
noncomputable def Szs (xs:List Int):Prop:=∀ x∈xs,1<=x/\x<2000000000
theorem d1j (d:Nat) {n M:Int} {v:FV} {Q:FV×FV->Prop} (hs:Lf n v) (h0:0<=n) (hn:n<10000) (hM:8<=M) (hM2:M<=30) (q:∀ (ws ss:List Int) v',1<=ws.length->ws.length<=30->ss.length+1=ws.length->Szs ws->Szs ss->Lf (n+200) v'->Q (.tup [.tup (ws.map .int),.tup (ss.map .int)],v')):callW tb (d+4) 35 [v,.int M] Q:=by
  refine a0e (fd:=e1k) rfl rfl ?_
  simp[e1k,e3l,big]
  refine a1t (d+1) hs (by lia) (by decide) (by decide) λu v1 u0 u1 l1=>?_
  simp
  have tail : ∀ (m : Nat) (v2 : FV), 1 <= m -> m <= 30 -> Lf (n + 2) v2 -> callW tb (d + 3) 33 [v2, FV.int 4] fun z =>
      a1i (m:Int)=true/\(upF 0 (m:Int).toNat).length<=100000 /\
        a4y 5 1 (Tg.nm 5) a0u
          (eOp a2e (a1j (callW tb (d + 3)) 34 0 (a0a (a0b 3) a0k))
            (eOp ixF (b1f (a0a (eC (FV.int 0)) (a0a (eC (FV.int 9)) a0k)))
              (a1j (callW tb (d + 3)) 33 0 (a0a (eC (FV.int 2)) a0k))))
          (upF 0 (m : Int).toNat) [] [some z.snd, some (FV.int M), some (FV.int m), some z.fst, none] fun ys L2 =>
          wp (lk (List.set L2 4 (some (FV.tup ys))) 4) fun x =>
            wp (lk (List.set L2 4 (some (FV.tup ys))) 2) fun x_1 =>
              wp (b5m x_1 (FV.int 1)) fun z =>
                wp (a3o z) fun j =>
                  a1i j = true /\ List.length L2 = 5 /\ (upF 0 j.toNat).length <= 100000 /\
                        a4y 5 1 (Tg.nm 5) a0u (a1j (callW tb (d + 3)) 34 0 (a0a (a0b 3) a0k)) (upF 0 j.toNat)
                          [] (List.set L2 4 (some (FV.tup ys))) fun ys L2 =>
                          wp (lk L2 0) fun x_2 => Q (FV.tup [x, FV.tup ys], x_2) := by
    intro m v2 m1 m2 l2
    refine a1t (d+1) l2 (by lia) (by decide) (by decide) λg v3 g0 g1 l3=>?_
    refine⟨a0f (by lia) (by lia),?_⟩
    rw[Int.toNat_natCast,a1l]
    refine⟨by simp;lia,?_⟩
    refine a3s (f:=λi:Nat=>FV.int i) (I:=λds acc L=>∃ v' xs,L=[some v',some (.int M),some (.int m),some (.int g),none]/\acc=xs.map .int/\xs.length=ds.length/\Szs xs/\Lf (n+3+3*ds.length) v') (List.range m) (List.range m) [] [] _ rfl ⟨v3,[],rfl,rfl,rfl,by simp[Szs],by simpa[Int.add_assoc] using l3⟩ ?_ ?_
    · rintro ds x r acc L K e ⟨v',xs,rfl,rfl,hl,hx,lf⟩ k
      have hd:ds.length<30:=by have:=congrArg List.length e;simp at this;lia
      simp
      refine b4j d lf (by lia) (by lia) λs v4 s0 s1 l4=>?_
      simp[big]
      refine a1t (d+1) l4 (by lia) (by decide) (by decide) λw v5 w0 w1 l5=>?_
      simp
      refine b5f w0 w1 ?_
      intro f hf
      obtain⟨p,rfl,p0,p1⟩:∃ p:Int,f=.int p/\0<=p/\p<=9:=by
        simp at hf
        rcases hf with rfl | rfl <;> exact ⟨_, rfl, by decide, by decide⟩
      simp
      refine k _ _ ⟨v5,xs++[s+p],rfl,by simp,by simp[hl],?_,l5.mono (by simp;lia)⟩
      intro y hy
      rcases List.mem_append.mp hy with hy|hy
      · exact hx y hy
      · simp at hy;subst hy;lia
    · rintro ys L ⟨v',ws,rfl,rfl,hl,hx,lf⟩
      simp only[List.length_range] at hl lf
      simp
      refine⟨a0f (by lia) (by lia),?_⟩
      rw[a1l]
      refine⟨by simp;lia,?_⟩
      refine a3s (f:=λi:Nat=>FV.int i) (I:=λds acc L=>∃ v' xs,L=[some v',some (.int M),some (.int m),some (.int g),some (.tup (ws.map .int))]/\acc=xs.map .int/\xs.length=ds.length/\Szs xs/\Lf (n+93+3*ds.length) v') (List.range (m-1)) (List.range (m-1)) [] [] _ rfl ⟨v',[],rfl,rfl,rfl,by simp[Szs],lf.mono (by simp;lia)⟩ ?_ ?_
      · rintro ds x r acc L K e ⟨v',xs,rfl,rfl,hl,hx,lf⟩ k
        have hd : ds.length < 30 := by have := congrArg List.length e; simp at this; lia
        simp
        refine b4j d lf (by lia) (by lia) fun s v4 s0 s1 l4 => ?_
        simp
        refine k _ _ ⟨v4, xs ++ [s], rfl, by simp, by simp [hl], ?_, l4.mono (by simp; lia)⟩
        intro y hy
        rcases List.mem_append.mp hy with hy | hy
        · exact hx y hy
        · simp at hy; subst hy; lia
      · rintro ys L ⟨v',ss,rfl,rfl,hl2,hx2,lf⟩
        simp only [List.length_range] at hl2 lf
        simp
        exact q ws ss v' (by lia) (by lia) (by lia) hx hx2 (lf.mono (by lia))
  refine ite2 (λh=>?_) (λh=>?_)
  · refine a1t (d+1) l1 (by lia) (by decide) (by decide) λw v2 w0 w1 l2=>?_
    obtain⟨m,hm⟩:∃ m:Nat,1+w=m:=⟨(1+w).toNat,by lia⟩
    simp
    rw[hm]
    exact tail m v2 (by lia) (by lia) (l2.mono (by lia))
  · refine a1t (d+1) l1 (by lia) (by lia) (by lia) λw v2 w0 w1 l2=>?_
    obtain⟨m,hm⟩:∃ m:Nat,8+w=m:=⟨(8+w).toNat,by lia⟩
    simp
    rw[hm]
    exact tail m v2 (by lia) (by lia) (l2.mono (by lia))
noncomputable def b5s (ss:List Int):List Chg:=(List.range ss.length).map λi=>(i,i+1,ss.getD i 0)
theorem c6v {ws ss:List Int}(hw:Szs ws)(hs:Szs ss)(hl:ss.length+1=ws.length):Gst ws (b5s ss):=by
 refine⟨λx hx=>(hw x hx).1,λx hx=>?_,λx hx=>?_⟩
 ·obtain⟨i,hi,rfl⟩:=List.mem_map.mp hx
  have hi:=List.mem_range.mp hi
  refine⟨by show i<_;lia,by show i+1<_;lia,by show i≠i+1;lia,?_⟩
  show 1<=ss.getD i 0
  simp only[List.getD,List.getElem?_eq_getElem hi,Option.getD_some]
  exact (hs _ (List.getElem_mem hi)).1
 ·obtain⟨j,hj⟩:=List.mem_iff_getElem?.mp hx
  obtain⟨h1,h2⟩:=List.getElem?_zip_eq_some.mp hj
  rw[List.getElem?_drop] at h2
  simp only[b5s,List.getElem?_map] at h1 h2
  obtain⟨a,e1,e2⟩:=Option.map_eq_some_iff.mp h1
  obtain⟨b,e3,e4⟩:=Option.map_eq_some_iff.mp h2
  have ha:a=j:=by have:=(List.getElem?_eq_some_iff.mp e1).2;simpa using this.symm
  have hb:b=1+j:=by have:=(List.getElem?_eq_some_iff.mp e3).2;simpa using this.symm
  rw[<- e2,<- e4,ha,hb]
  show lexLt [(j:Int),((j+1:Nat):Int)] [((1+j:Nat):Int),((1+j+1:Nat):Int)]=true
  have:¬ (j:Int)=((1+j:Nat):Int):=by lia
  rw[lexLt,if_neg this,decide_eq_true_eq]
  lia
theorem c2j (ss:List Int):(b5s ss).length=ss.length:=by simp[b5s]
noncomputable def b6w (ks:List Nat) (n:Nat):List (Option Nat):=(List.range n).map λm=>if m∈ks then none else some (m-1)
theorem b0e (d:Nat){ws ss:List Int}(hl:ss.length<=30){Q:FV×FV->Prop}(q:Q (c5s ws (b5s ss),.non)):callW tb (d+1) 10 [.tup [.tup (ws.map .int),.tup (ss.map .int)]] Q:=by
 refine a0e (fd:=e2h) rfl rfl ?_
 simp[e2h,e4b,big]
 rw[a1l,a2q]
 refine⟨by simp;lia,?_⟩
 refine a0l (g:=λp:Nat×Int=>c5t (p.1,p.1+1,p.2)) ((List.range ss.length).zip ss) [] (λx hx K k=>?_) ?_
 ·simp[big]
  simpa[c5t] using k
 ·have e:((List.range ss.length).zip ss).map (λp:Nat×Int=>c5t (p.1,p.1+1,p.2))=(b5s ss).map c5t:=by
   apply List.ext_getElem
   ·simp[b5s]
   ·intro i h1 h2
    simp at h1 h2
    have:i<ss.length:=by simpa[b5s] using h2
    simp[b5s,this,List.getD]
  rw[List.nil_append,e]
  simpa[c5s] using q
theorem c8x (m:Nat)(ks:List Nat)(R:Bool->Prop):wp (inF (.int m) (.tup (ks.map λi:Nat=>.int i))) R↔R (decide (m∈ks)):=by
 have ek:(ks.map λi:Nat=>FV.int i)=(ks.map λi:Nat=>(i:Int)).map .int:=by simp
 rw[ek,c8y]
 have:((m:Int)∈ks.map λi:Nat=>(i:Int))↔m∈ks:=by
  rw[List.mem_map]
  exact⟨λ⟨a,h,e⟩=>(show a=m by lia) ▸ h,λh=>⟨m,h,rfl⟩⟩
 simp only[this]
theorem b2b (d:Nat){ws ss:List Int}{ks:List Nat}(hl:ws.length<=30)(h0:0∈ks){Q:FV×FV->Prop}(q:Q (.tup ((b6w ks ws.length).map b1w),.non)):callW tb (d+1) 11 [.tup [.tup (ws.map .int),.tup (ss.map .int)],.tup (ks.map λi:Nat=>.int i)] Q:=by
 refine a0e (fd:=e2g) rfl rfl ?_
 simp[e2g,d6r,big]
 refine⟨a0f (by lia) (by lia),?_⟩
 rw[a1l]
 refine⟨by simp;lia,?_⟩
 refine a0l (f:=λi:Nat=>FV.int i) (g:=λm=>b1w (if m∈ks then none else some (m-1))) (List.range ws.length) [] (λm hm K k=>?_) ?_
 ·simp[c8x]
  refine ite2 (λh=>?_) (λh=>?_)
  ·rw[if_pos h] at k;simpa[b1w] using k
  ·rw[if_neg h] at k
   have hm0:m≠0:=λz=>h (by rw[z];exact h0)
   have:((m-1:Nat):Int)=(m:Int)-1:=by lia
   simpa[b1w,this] using k
 ·simp
  simpa[b6w,Function.comp_def] using q
theorem c9t {α:Type}(xs:List α) (i t:Nat):b1j xs (some (i:Int)) (some ((i:Int)+(t:Int)))=(xs.drop i).take t:=by
 have h1:sIx xs.length 0 (some (i:Int))=min i xs.length:=by simp only[sIx];rw[if_neg (by lia)];simp
 have h2:sIx xs.length xs.length (some ((i:Int)+(t:Int)))=min (i+t) xs.length:=by simp only[sIx];rw[if_neg (by lia)];congr 1
 unfold b1j
 rw[h1,h2]
 by_cases hi:i<=xs.length
 ·rw[Nat.min_eq_left hi,List.take_eq_take_iff,List.length_drop];lia
 ·rw[Nat.min_eq_right (show xs.length<=i by lia),List.drop_of_length_le (Γi _),List.drop_of_length_le (by lia)];simp
theorem c1c {α:Type}(xs:List α){i j:Nat}(h:i<=j):b1j xs (some (i:Int)) (some (j:Int))=(xs.drop i).take (j-i):=by
 obtain⟨t,rfl⟩:∃ t,j=i+t:=⟨j-i,by lia⟩
 rw[Nat.add_sub_cancel_left,<- c9t];simp
noncomputable def kp (ws ss:List Int)(ks:List Nat) (m:Nat):Int:=if m∈ks then ws.getD m 0 else ss.getD (m-1) 0
noncomputable def a3g (ks:List Nat):Nat->List Nat
 | 0=>[0]
 | m+1=>if m+1∈ks then [m+1] else a3g ks m++[m+1]
theorem b7f {ks:List Nat}(h0:0∈ks){b:Nat}(hb:b∈ks):∀ j,b<=j->(∀ i,b<i->i<=j->i ∉ ks)->a3g ks j=List.range' b (j+1-b)
 | 0,h,_=>by
  have:b=0:=by lia
  subst this;rfl
 | j+1,h,hn=>by
  unfold a3g
  by_cases e:b=j+1
  ·rw[if_pos (e ▸ hb),<- e,show b+1-b=1 by lia];rfl
  ·rw[if_neg (hn (j+1) (by lia) (Γi _)),b7f h0 hb j (by lia) (λi h1 h2=>hn i h1 (by lia)),show j+1+1-b=(j+1-b)+1 by lia,List.range'_concat]
   congr 2;lia
noncomputable def a0w (ws ss:List Int) (b e:Nat):Int:=ws.getD b 0+((ss.drop b).take (e-1-b)).sum
theorem b7u {ws ss:List Int}{ks:List Nat}{b e:Nat}(hb:b∈ks)(h1:b<e)(h2:e<=ss.length+1)(hn:∀ i,b<i->i<e->i ∉ ks):((List.range' b (e-b)).map (kp ws ss ks)).sum=a0w ws ss b e:=by
 obtain⟨t,rfl⟩:∃ t,e=b+t+1:=⟨e-b-1,by lia⟩
 have e1:b+t+1-b=t+1:=by lia
 have e2:b+t+1-1-b=t:=by lia
 rw[a0w,e1,e2,List.range'_succ,List.map_cons,List.sum_cons,kp,if_pos hb]
 congr 2
 apply List.ext_getElem
 ·simp;lia
 ·intro i h3 h4
  have h5:i<t:=by simpa using h3
  simp only[List.getElem_map,List.getElem_range',List.getElem_take,List.getElem_drop]
  rw[kp,if_neg (hn _ (by lia) (by lia)),show b+1+1*i-1=b+i by lia,List.getD,List.getElem?_eq_getElem (by lia)];rfl
noncomputable def a4a (ks:List Nat) (n:Nat):List (Nat×Nat):=ks.zip (ks.drop 1++[n])
theorem a1w:∀ {ks:List Nat}{n:Nat},ks.Pairwise (· < ·)->(∀ k∈ks,k<n)->∀ p∈a4a ks n,p.1∈ks/\p.1<p.2/\p.2<=n/\∀ i,p.1<i->i<p.2->i ∉ ks
 | [],n,_,_,p,hp=>by simp[a4a] at hp
 | [k],n,_,hk,p,hp=>by
  have:p=(k,n):=by simpa[a4a] using hp
  subst this
  have:=hk k (by simp)
  exact⟨by simp,this,Γi _,λi h1 h2 h3=>by simp at h3;lia⟩
 | k :: k2 :: r,n,hs,hk,p,hp=>by
  obtain⟨h1,h2⟩:=List.pairwise_cons.mp hs
  have hp:p=(k,k2) ∨ p∈a4a (k2 :: r) n:=by simpa[a4a] using hp
  rcases hp with rfl|hp
  ·refine⟨by simp,h1 k2 (by simp),Nat.le_of_lt (hk k2 (by simp)),λi h3 h4 h5=>?_⟩
   rcases List.mem_cons.mp h5 with h5|h5
   ·simp at h3;lia
   ·rcases List.mem_cons.mp h5 with h6|h6
    ·simp at h4;lia
    ·have:=(List.pairwise_cons.mp h2).1 i h6
     simp at h4;lia
  ·obtain⟨a,b,c,d⟩:=a1w h2 (λx hx=>hk x (Γh _ hx)) p hp
   refine⟨Γh _ a,b,c,λi h3 h4 h5=>?_⟩
   rcases List.mem_cons.mp h5 with h5|h5
   ·have:=h1 _ a;lia
   ·exact d i h3 h4 h5
theorem b3u {α:Type}(f:Nat->α):∀ {k:Nat}{r:List Nat}{n:Nat},(k :: r).Pairwise (· < ·)->(∀ x∈k :: r,x<n)->(a4a (k :: r) n).flatMap (λp=>(List.range' p.1 (p.2-p.1)).map f)=(List.range' k (n-k)).map f
 | k,[],n,_,_=>by simp[a4a]
 | k,k2 :: r,n,hs,hk=>by
  obtain⟨h1,h2⟩:=List.pairwise_cons.mp hs
  have e:a4a (k :: k2 :: r) n=(k,k2) :: a4a (k2 :: r) n:=by simp[a4a]
  rw[e,List.flatMap_cons,b3u f h2 λx hx=>hk x (Γh _ hx),<- List.map_append]
  congr 1
  have a:=h1 k2 (by simp)
  have b:=hk k2 (by simp)
  show List.range' k (k2-k)++List.range' k2 (n-k2)=_
  have e2:List.range' k2 (n-k2)=List.range' (k+1*(k2-k)) (n-k2):=by congr 1;lia
  rw[e2,List.range'_append]
  congr 1;lia
theorem a6m {ks:List Nat}(h0:0∈ks)(hs:ks.Pairwise (· < ·)):∃ r,ks=0 :: r:=by
 cases ks with
 | nil=>cases h0
 | cons k r =>
  rcases List.mem_cons.mp h0 with h|h
  ·exact⟨r,by rw[<- h]⟩
  ·have:=(List.pairwise_cons.mp hs).1 0 h;lia
theorem a3u {α:Type}(f:Nat->α){ks:List Nat}{n:Nat}(h0:0∈ks)(hs:ks.Pairwise (· < ·))(hk:∀ x∈ks,x<n):(a4a ks n).flatMap (λp=>(List.range' p.1 (p.2-p.1)).map f)=(List.range n).map f:=by
 obtain⟨r,rfl⟩:=a6m h0 hs
 rw[b3u f hs hk,List.range_eq_range'];rfl
noncomputable def rd (ws ss:List Int)(ks:List Nat) (m:Nat):Int:=((a3g ks m).map (kp ws ss ks)).sum
theorem a9n {α:Type}(g:α->List Int):∀ xs:List α,(xs.flatMap g).sum=(xs.map λx=>(g x).sum).sum
 | []=>rfl
 | x :: r=>by rw[List.flatMap_cons,List.sum_append,a9n g r];rfl
theorem b8a {ws ss:List Int}{ks:List Nat}(hl:ss.length+1=ws.length)(h0:0∈ks)(hs:ks.Pairwise (· < ·))(hk:∀ x∈ks,x<ws.length):((List.range ws.length).map (kp ws ss ks)).sum=((a4a ks ws.length).map λp=>a0w ws ss p.1 p.2).sum:=by
 rw[<- a3u _ h0 hs hk,a9n]
 congr 1
 apply List.map_congr_left
 intro p hp
 obtain⟨a,b,c,d⟩:=a1w hs hk p hp
 exact b7u a b (by lia) d
theorem c4y {ws ss:List Int}{ks:List Nat}(hl:ss.length+1=ws.length)(h0:0∈ks)(hs:ks.Pairwise (· < ·))(hk:∀ x∈ks,x<ws.length){p:Nat×Nat}(hp:p∈a4a ks ws.length){j:Nat}(h1:p.1<=j)(h2:j<p.2):rd ws ss ks j=a0w ws ss p.1 (j+1):=by
 obtain⟨a,b,c,d⟩:=a1w hs hk p hp
 rw[rd,b7f h0 a j h1 (λi h3 h4=>d i h3 (by lia))]
 exact b7u a (by lia) (by lia) (λi h3 h4=>d i h3 (by lia))
theorem a6f:∀ (xs:List Int) (b:Int),b<=a1m b xs/\∀ x∈xs,x<=a1m b xs
 | [],b=>⟨Int.le_refl _,by simp⟩
 | x :: r,b=>by
  have:=a6f r (if b<x then x else b)
  show b<=a1m (if b<x then x else b) r/\_
  refine⟨by have:=this.1;split at this<;>lia,λy hy=>?_⟩
  show y<=a1m (if b<x then x else b) r
  rcases List.mem_cons.mp hy with rfl|hy
  ·have:=this.1;split at this<;>lia
  ·exact this.2 y hy
theorem a5s:∀ (xs:List Int) (b:Int),a1m b xs∈b :: xs
 | [],b=>by simp[a1m]
 | x :: r,b=>by
  have:=a5s r (if b<x then x else b)
  show a1m (if b<x then x else b) r∈_
  split at this<;>rename_i h
  ·rw[if_pos h];exact Γh _ this
  ·rw[if_neg h]
   rcases List.mem_cons.mp this with h|h
   ·rw[h];simp
   ·simp[h]
theorem c8f {a b:Int}{xs ys:List Int}(h1:∀ x∈a :: xs,∃ y∈b :: ys,x<=y)(h2:∀ y∈b :: ys,∃ x∈a :: xs,y<=x):a1m a xs=a1m b ys:=by
 have up:∀ (c:Int)(zs:List Int),∀ z∈c :: zs,z<=a1m c zs:=λc zs z hz=>by
  rcases List.mem_cons.mp hz with rfl|hz
  ·exact (a6f zs z).1
  ·exact (a6f zs c).2 z hz
 obtain⟨y,hy,h3⟩:=h1 _ (a5s xs a)
 obtain⟨x,hx,h4⟩:=h2 _ (a5s ys b)
 have:=up b ys y hy
 have:=up a xs x hx
 lia
theorem c9q {n:Nat}{ks:List Nat}(h0:0∈ks)(hs:ks.Pairwise (· < ·))(hk:∀ x∈ks,x<n){a b:Int}{xs ys:List Int}(e1:(List.range n).map (λm=>((a3g ks m).length:Int)-1)=a :: xs)(e2:(a4a ks n).map (λp=>(p.2:Int)-p.1-1)=b :: ys):a1m a xs=a1m b ys:=by
 have len:∀ p∈a4a ks n,∀ j,p.1<=j->j<p.2->(a3g ks j).length=j+1-p.1:=λp hp j h1 h2=>by
  obtain⟨a,b,c,d⟩:=a1w hs hk p hp
  rw[b7f h0 a j h1 (λi h3 h4=>d i h3 (by lia))];simp
 refine c8f ?_ ?_
 ·rw[<- e1,<- e2,<- a3u _ h0 hs hk]
  intro x hx
  obtain⟨p,hp,hx⟩:=List.mem_flatMap.mp hx
  obtain⟨j,hj,rfl⟩:=List.mem_map.mp hx
  have hj:=List.mem_range'_1.mp hj
  obtain⟨-,b,-,-⟩:=a1w hs hk p hp
  refine⟨_,List.mem_map.mpr ⟨p,hp,rfl⟩,?_⟩
  rw[len p hp j (by lia) (by lia)];lia
 ·rw[<- e1,<- e2,<- a3u _ h0 hs hk]
  intro x hx
  obtain⟨p,hp,rfl⟩:=List.mem_map.mp hx
  obtain⟨-,b,-,-⟩:=a1w hs hk p hp
  refine⟨_,List.mem_flatMap.mpr ⟨p,hp,List.mem_map.mpr ⟨p.2-1,List.mem_range'_1.mpr (by lia),rfl⟩⟩,?_⟩
  rw[len p hp _ (by lia) (by lia)];lia
theorem b9x:∀ {cs:List Chg}{c:Chg},(cs.map keyH).Nodup->c∈cs->a2f (cs.map keyH) (cs.map λc=>FV.int c.2.2) (keyH c)=some (.int c.2.2)
 | x :: r,c,hn,hc=>by
  simp only[List.map_cons,List.nodup_cons] at hn
  show (if keyH x=keyH c then some (FV.int x.2.2) else a2f (r.map keyH) (r.map λc=>FV.int c.2.2) (keyH c))=_
  rcases List.mem_cons.mp hc with rfl|hc
  ·rw[if_pos rfl]
  ·rw[if_neg λe:keyH x=keyH c=>hn.1 (by rw[e];exact List.mem_map.mpr ⟨c,hc,rfl⟩)]
   exact b9x hn.2 hc
theorem b4s (ws:List Int)(cs:List Chg)(Q:List FV->Prop):wp (a3i (c5s ws cs)) Q↔Q [.tup (ws.map .int),.tup (cs.map c5t)]:=Iff.rfl
theorem a4f {xs:List Int}{i:Nat}(h:i<xs.length)(Q:FV->Prop):wp (atF (xs.map .int) (i:Int)) Q↔Q (.int (xs.getD i 0)) :=
 a2s rfl (by rw[List.getElem?_map,List.getElem?_eq_getElem h];simp[List.getD,h])
theorem b7r {xs:List Int}(hl:xs.length<=1000)(h:∀ x∈xs,0<=x/\x<2000000000){Q:Int->Prop}(q:Q xs.sum):wp (c6m (xs.map .int)) Q:=by
 simp only[c6m,a2l,a2i,a1o]
 rw[a3f]
 refine⟨⟨by simp only[big];lia,?_⟩,q⟩
 rw[List.all_eq_true]
 intro x hx
 have:=h x hx
 simp only[a5y,decide_eq_true_eq];lia
theorem c3j (ks:List Nat) (n:Nat):a2v ((List.range n).map λi:Nat=>FV.int i) ((b6w ks n).map b1w)=(List.range n).map λm:Nat=>FV.tup [.int (m:Int),b1w (if m∈ks then none else some (m-1))]:=by
 rw[a2q]
 apply List.ext_getElem
 ·simp[b6w]
 ·intro i h1 h2
  simp[b6w]
structure Rw (ws ss:List Int)(ks:List Nat):Prop where
 hw:Szs ws
 hs:Szs ss
 hl:ss.length+1=ws.length
 hn:ws.length<=30
 h0:0∈ks
 hc:ks.length<=30
 hp:ks.Pairwise (· < ·)
 hk:∀ k∈ks,k<ws.length
theorem b2x {xs:List Int}(h:Szs xs){i:Nat}(hi:i<xs.length):1<=xs.getD i 0/\xs.getD i 0<2000000000:=by
 rw[List.getD,List.getElem?_eq_getElem hi];exact h _ (List.getElem_mem hi)
theorem d9l {ws ss:List Int}{ks:List Nat}(h:Rw ws ss ks){m:Nat}(hm:m<ws.length):1<=kp ws ss ks m/\kp ws ss ks m<2000000000:=by
 unfold kp
 split
 ·exact b2x h.hw hm
 ·rename_i hk
  have:m≠0:=λz=>hk (z ▸ h.h0)
  have:=h.hl
  exact b2x h.hs (by lia)
noncomputable def b1e (ks:List Nat) (n:Nat):FV:=.tup ((b6w ks n).map b1w)
theorem a3q (ks:List Nat) (n:Nat)(Q:List FV->Prop):wp (a3i (b1e ks n)) Q↔Q ((b6w ks n).map b1w):=Iff.rfl
theorem a9f (ks:List Nat) (n:Nat):(b6w ks n).length=n:=by simp[b6w]
theorem c5p (d:Nat){ws ss:List Int}{ks:List Nat}(h:Rw ws ss ks){Q:FV×FV->Prop}(q:Q (.lst (((List.range ws.length).map (kp ws ss ks)).map .int),.non)):callW tb (d+2) 4 [c5s ws (b5s ss),b1e ks ws.length] Q:=by
 have hn:=h.hn
 have hl:=h.hl
 have hG:=c6v h.hw h.hs h.hl
 refine a0e (fd:=fd4) rfl rfl ?_
 simp[fd4,bd4]
 refine c2g d hG (by rw[c2j];lia) ?_
 simp[a3q,a9f,b4s]
 rw[a1l,c3j]
 refine⟨by simp[big];lia,?_⟩
 refine a0l (g:=λm=>.int (kp ws ss ks m)) (List.range ws.length) [] (λm hm K k=>?_) ?_
 ·have hm:=List.mem_range.mp hm
  by_cases hk:m∈ks
  ·rw[kp,if_pos hk] at k
   simp[hk,b1w,b4s]
   rw[a4f hm]
   exact k
  ·rw[kp,if_neg hk] at k
   have m0:m≠0:=λz=>hk (z ▸ h.h0)
   have mem:((m-1,m,ss.getD (m-1) 0):Chg)∈b5s ss:=List.mem_map.mpr ⟨m-1,List.mem_range.mpr (by lia),by rw[show m-1+1=m by lia]⟩
   have e:=b9x (a8b hG.s) mem
   simp only[keyH] at e
   simp[hk,b1w,big]
   rw[e]
   exact k
 ·simpa[List.map_map,Function.comp_def] using q
theorem c6w (d:Nat){ws ss:List Int}{ks:List Nat}(h:Rw ws ss ks){Q:FV×FV->Prop}(q:Q (.int ((List.range ws.length).map (kp ws ss ks)).sum,.non)):callW tb (d+3) 5 [c5s ws (b5s ss),b1e ks ws.length] Q:=by
 have hn:=h.hn
 refine a0e (fd:=fd5) rfl rfl ?_
 simp[fd5,bd5]
 refine c5p d h ?_
 simp only[sq_l]
 refine b7r (by simp;lia) ?_ q
 intro x hx
 obtain⟨m,hm,rfl⟩:=List.mem_map.mp hx
 have:=d9l h (List.mem_range.mp hm)
 lia
theorem b7d {ks:List Nat}:∀ {m i:Nat},i∈a3g ks m->i<=m
 | 0,i,h=>by simp[a3g] at h;lia
 | m+1,i,h=>by
  unfold a3g at h
  split at h
  ·simp at h;lia
  ·rcases List.mem_append.mp h with h|h
   ·have:=b7d h;lia
   ·simp at h;lia
theorem b7e {ks:List Nat}:∀ m:Nat,(a3g ks m).length<=m+1/\1<=(a3g ks m).length
 | 0=>by simp[a3g]
 | m+1=>by
  unfold a3g
  split
  ·simp
  ·have:=b7e (ks:=ks) m;simp;lia
noncomputable def e2m (ks:List Nat) (m:Nat):FV:=.tup ((a3g ks m).map λi:Nat=>.int i)
theorem b4r (ks:List Nat) (m:Nat)(Q:List FV->Prop):wp (a3i (e2m ks m)) Q↔Q ((a3g ks m).map λi:Nat=>.int i):=Iff.rfl
theorem c1m {ks:List Nat}{n i:Nat}(h:i<n)(Q:FV->Prop):wp (atF ((b6w ks n).map b1w) (i:Int)) Q↔Q (b1w (if i∈ks then none else some (i-1))) :=
 a2s rfl (by simp[b6w,h])
theorem c4q (d:Nat){ks:List Nat}{n m:Nat}(hn:n<=30)(h0:0∈ks)(hm:m<n){Q:FV×FV->Prop}(q:Q (e2m ks m,.non)):callW tb (d+1) 6 [b1e ks n,.int m] Q:=by
 refine a0e (fd:=fd6) rfl rfl ?_
 simp[fd6,bd6,big,a3q]
 rw[c1m hm]
 -- out++the way of what is yet to come,read backwards
 refine while_by (I:=λt L=>∃ (o:Option Nat)(out:List Nat),L=[some (b1e ks n),some (.int m),some (.lst (out.map λi:Nat=>.int i)),some (b1w o)]/\out.length+t<=31/\(match o with|none=>a3g ks m=out.reverse|some p=>p<m/\t=p+1/\a3g ks m=a3g ks p++out.reverse)) ?_ (m:=m) ⟨if m∈ks then none else some (m-1),[m],rfl,by simp;lia,?_⟩
 ·rintro t L K ⟨o,out,rfl,hl,ho⟩ k
  cases o with
  | none =>
   dsimp only at ho
   simp[b1w]
   simpa[e2m,ho] using q
  | some p =>
   obtain⟨hp,rfl,hw⟩:=ho
   simp[b1w,big,a3q]
   refine⟨by lia,?_⟩
   rw[c1m (by lia)]
   by_cases hk:p∈ks
   ·refine k 0 _ (by lia) ⟨none,out++[p],by simp[hk],by simp;lia,?_⟩
    show a3g ks m=_
    rw[hw]
    cases p with
    | zero=>simp[a3g]
    | succ p=>simp[a3g,hk]
   ·have p0:p≠0:=λz=>hk (z ▸ h0)
    obtain⟨r,rfl⟩:∃ r,p=r+1:=⟨p-1,by lia⟩
    refine k (r+1) _ (by lia) ⟨some r,out++[r+1],by simp[hk],by simp;lia,by lia,rfl,?_⟩
    rw[hw]
    simp[a3g,hk]
 ·by_cases hk:m∈ks
  ·rw[if_pos hk]
   show a3g ks m=_
   cases m with
   | zero=>simp[a3g]
   | succ m=>simp[a3g,hk]
  ·have p0:m≠0:=λz=>hk (z ▸ h0)
   obtain⟨r,rfl⟩:∃ r,m=r+1:=⟨m-1,by lia⟩
   rw[if_neg hk]
   refine⟨by lia,?_,?_⟩
   ·rfl
   ·simp[a3g,hk]
theorem c4f (d:Nat){ks:List Nat}{n m:Nat}(hn:n<=30)(h0:0∈ks)(hm:m<n){Q:FV×FV->Prop}(q:Q (.int (((a3g ks m).length:Int)-1),.non)):callW tb (d+2) 7 [b1e ks n,.int m] Q:=by
 refine a0e (fd:=fd7) rfl rfl ?_
 simp[fd7,bd7]
 refine c4q d hn h0 hm ?_
 simp[b4r]
 exact q
theorem c2k (d:Nat){ws ss:List Int}{ks:List Nat}(h:Rw ws ss ks){Q:FV×FV->Prop}(q:Q (.tup (((List.range ws.length).map (rd ws ss ks)).map .int),.non)):callW tb (d+3) 8 [c5s ws (b5s ss),b1e ks ws.length] Q:=by
 have hn:=h.hn
 refine a0e (fd:=fd8) rfl rfl ?_
 simp[fd8,bd8]
 refine c5p d h ?_
 simp[a3q,a9f]
 refine⟨a0f (by lia) (by lia),?_⟩
 rw[a1l]
 refine⟨by simp[big];lia,?_⟩
 refine a0l (f:=λi:Nat=>FV.int i) (g:=λm=>.int (rd ws ss ks m)) (List.range ws.length) [] (λm hm K k=>?_) ?_
 ·have hm:=List.mem_range.mp hm
  have hwl:=(b7e (ks:=ks) m).1
  simp
  refine c4q (d+1) h.hn h.h0 hm ?_
  simp[b4r]
  refine⟨by simp[big];lia,?_⟩
  refine a0l (f:=λi:Nat=>FV.int i) (g:=λi=>.int (kp ws ss ks i)) (a3g ks m) [] (λi hi K k=>?_) ?_
  ·have hi:=b7d hi
   simp
   rw[a2s rfl (show ((List.range ws.length).map (FV.int ∘ kp ws ss ks))[i]?=some (.int (kp ws ss ks i)) by simp[show i<ws.length by lia])]
   exact k
  ·have e:((a3g ks m).map λi=>FV.int (kp ws ss ks i))=((a3g ks m).map (kp ws ss ks)).map .int:=by simp
   rw[List.nil_append,e]
   rw[a2i,a1o]
   exact k
 ·simpa[List.map_map,Function.comp_def] using q
noncomputable def a2o (ws ss:List Int):FV:=.tup [.tup (ws.map .int),.tup (ss.map .int)]
theorem a0z (ws ss:List Int)(Q:List FV->Prop):wp (a3i (a2o ws ss)) Q↔Q [.tup (ws.map .int),.tup (ss.map .int)]:=Iff.rfl
noncomputable def a3r (ks:List Nat):FV:=.tup (ks.map λi:Nat=>.int i)
theorem a5o (d:Nat){ws ss:List Int}{ks:List Nat}(h:Rw ws ss ks){Q:FV×FV->Prop}(q:Q (.int ((List.range ws.length).map (kp ws ss ks)).sum,.non)):callW tb (d+4) 12 [a2o ws ss,a3r ks] Q:=by
 have hn:=h.hn
 have hl:=h.hl
 refine a0e (fd:=e2f) rfl rfl ?_
 simp[e2f,d6q]
 refine b0e (d+2) (by lia) ?_
 dsimp only
 refine b2b (d+2) h.hn h.h0 ?_
 dsimp only
 exact c6w d h q
theorem a6a (d:Nat){ws ss:List Int}{ks:List Nat}(h:Rw ws ss ks){Q:FV×FV->Prop}(q:Q (.tup (((List.range ws.length).map (rd ws ss ks)).map .int),.non)):callW tb (d+4) 13 [a2o ws ss,a3r ks] Q:=by
 have hn:=h.hn
 have hl:=h.hl
 refine a0e (fd:=e2e) rfl rfl ?_
 simp[e2e,d6p]
 refine b0e (d+2) (by lia) ?_
 dsimp only
 refine b2b (d+2) h.hn h.h0 ?_
 dsimp only
 exact c2k d h q
noncomputable def b3g (ks:List Nat) (n:Nat):List Int:=(List.range n).map λm=>((a3g ks m).length:Int)-1
noncomputable def mx (xs:List Int):Int:=a1m (xs.headD 0) xs.tail
theorem d9g {xs:List Int}(h:xs≠[]){Q:FV->Prop}(q:Q (.int (mx xs))):wp (a1d (xs.map .int)) λns=>∃ n r,ns=n :: r/\Q (.int (a1m n r)):=by
 cases xs with
 | nil=>exact absurd rfl h
 | cons x r =>
  simp only[a2i,a1o]
  exact⟨x,r,rfl,q⟩
theorem b0i (d:Nat){ws ss:List Int}{ks:List Nat}(h:Rw ws ss ks){Q:FV×FV->Prop}(q:Q (.int (mx (b3g ks ws.length)),.non)):callW tb (d+3) 14 [a2o ws ss,a3r ks] Q:=by
 have hn:=h.hn
 have hl:=h.hl
 refine a0e (fd:=e2d) rfl rfl ?_
 simp[e2d,e4a]
 refine b2b (d+1) h.hn h.h0 ?_
 rw[show FV.tup ((b6w ks ws.length).map b1w)=b1e ks ws.length from rfl]
 simp[a3q,a9f]
 refine⟨a0f (by lia) (by lia),?_⟩
 rw[a1l]
 refine⟨by simp[big];lia,?_⟩
 refine a0l (f:=λi:Nat=>FV.int i) (g:=λm=>.int (((a3g ks m).length:Int)-1)) (List.range ws.length) [] (λm hm K k=>?_) ?_
 ·have hm:=List.mem_range.mp hm
  simp
  exact c4f d h.hn h.h0 hm k
 ·rw[List.nil_append,show (List.range ws.length).map (λm=>FV.int (((a3g ks m).length:Int)-1))=(b3g ks ws.length).map .int by simp[b3g]]
  refine d9g (Q:=λz=>Q (z,.non)) ?_ q
  intro z
  have e:=congrArg List.length z
  simp only[b3g,List.length_map,List.length_range,List.length_nil] at e
  lia
theorem b2q (d:Nat){ws ss:List Int}{b e:Nat}(hs:Szs ss)(hl:ss.length<=30)(h:b<=e)(hb:b<ws.length){i:Int}(hi:i=e+1){Q:FV×FV->Prop}(q:Q (.int (a0w ws ss b (e+1)),.non)):callW tb (d+1) 37 [a2o ws ss,.int b,.int i] Q:=by
 subst hi
 refine a0e (fd:=e1i) rfl rfl ?_
 simp[e1i,d6i,a0z]
 rw[a4f hb]
 simp
 rw[c1c _ h,<- List.map_drop,<- List.map_take]
 refine b7r (by simp;lia) ?_ ?_
 ·intro x hx
  have:=hs x (List.mem_of_mem_drop (List.mem_of_mem_take hx))
  lia
 ·simpa[a0w] using q
theorem c6k {xs:List Int}(hl:xs.length<=1000)(h:∀ x∈xs,0<=x/\x<=100000000000){Q:Int->Prop}(q:Q xs.sum):wp (c6m (xs.map .int)) Q:=by
 simp only[c6m,a2l,a2i,a1o]
 rw[a3f]
 refine⟨⟨by simp only[big];lia,?_⟩,q⟩
 rw[List.all_eq_true]
 intro x hx
 have:=h x hx
 simp only[a5y,decide_eq_true_eq];lia
theorem c4x:∀ {xs:List Int},(∀ x∈xs,0<=x/\x<=2000000000)->0<=xs.sum/\xs.sum<=2000000000*xs.length
 | [],_=>by simp
 | x :: r,h=>by
  have:=c4x λy hy=>h y (Γh _ hy)
  have:=h x (by simp)
  simp only[List.sum_cons,List.length_cons,Int.natCast_add]
  lia
noncomputable def nxt (n:Nat):List Nat->Nat
 | []=>n
 | k :: _=>k
noncomputable def vp (ok:Nat->Nat->Bool) (n:Nat):List Nat->Prop
 | []=>True
 | k :: r=>k<nxt n r/\ok k (nxt n r)=true/\vp ok n r
noncomputable def pc (c:Nat->Nat->Int) (n:Nat):List Nat->Int
 | []=>0
 | k :: r=>c k (nxt n r)+pc c n r
noncomputable def lxN:List Nat->List Nat->Bool
 | [],[]=>false
 | [],_ :: _=>true
 | _ :: _,[]=>false
 | a :: r,b :: q=>if a=b then lxN r q else decide (a<b)
abbrev PT:=Int×List Nat
noncomputable def ltP (x y:PT):Bool:=if x.1=y.1 then lxN x.2 y.2 else decide (x.1<y.1)
theorem b2m:∀ a:List Nat,lxN a a=false
 | []=>rfl
 | a :: r=>by simp[lxN,b2m r]
theorem b0s:∀ {a b c:List Nat},lxN a b=true->lxN b c=true->lxN a c=true
 | [],[],_,h,_=>by cases h
 | [],b :: q,[],_,h=>by cases h
 | [],b :: q,c :: s,_,_=>rfl
 | a :: r,[],_,h,_=>by cases h
 | a :: r,b :: q,[],_,h=>by cases h
 | a :: r,b :: q,c :: s,h,g=>by
  simp only[lxN] at h g ⊢
  by_cases e1:a=b
  ·subst e1
   rw[if_pos rfl] at h
   by_cases e2:a=c
   ·subst e2;rw[if_pos rfl] at g ⊢;exact b0s h g
   ·rw[if_neg e2] at g ⊢;exact g
  ·rw[if_neg e1] at h
   have h:=of_decide_eq_true h
   by_cases e2:b=c
   ·subst e2;rw[if_neg e1];exact decide_eq_true h
   ·rw[if_neg e2] at g
    have g:=of_decide_eq_true g
    rw[if_neg (by lia)];exact decide_eq_true (by lia)
theorem b9b:∀ {a b:List Nat},lxN a b=false->lxN b a=false->a=b
 | [],[],_,_=>rfl
 | [],b :: q,h,_=>by cases h
 | a :: r,[],_,h=>by cases h
 | a :: r,b :: q,h,g=>by
  simp only[lxN] at h g
  by_cases e:a=b
  ·subst e
   rw[if_pos rfl] at h g
   rw[b9b h g]
  ·rw[if_neg e] at h
   rw[if_neg (Ne.symm e)] at g
   have h:=of_decide_eq_false h
   have g:=of_decide_eq_false g
   lia
theorem b2o (a:PT):ltP a a=false:=by simp[ltP,b2m]
theorem b0t {a b c:PT}(h:ltP a b=true)(g:ltP b c=true):ltP a c=true:=by
 simp only[ltP] at h g ⊢
 by_cases e1:a.1=b.1
 ·rw[if_pos e1] at h
  by_cases e2:b.1=c.1
  ·rw[if_pos e2] at g;rw[if_pos (e1.trans e2)];exact b0s h g
  ·rw[if_neg e2] at g
   have g:=of_decide_eq_true g
   rw[if_neg (by lia)];exact decide_eq_true (by lia)
 ·rw[if_neg e1] at h
  have h:=of_decide_eq_true h
  by_cases e2:b.1=c.1
  ·rw[if_neg (by lia)];exact decide_eq_true (by lia)
  ·rw[if_neg e2] at g
   have g:=of_decide_eq_true g
   rw[if_neg (by lia)];exact decide_eq_true (by lia)
theorem b2n {a b:PT}(h:ltP a b=false)(g:ltP b a=false):a=b:=by
 simp only[ltP] at h g
 by_cases e1:a.1=b.1
 ·rw[if_pos e1] at h;rw[if_pos e1.symm] at g
  exact Prod.ext e1 (b9b h g)
 ·rw[if_neg e1] at h;rw[if_neg (Ne.symm e1)] at g
  have h:=of_decide_eq_false h
  have g:=of_decide_eq_false g
  lia
theorem a6k {a b c:PT}(h:ltP b a=false)(g:ltP c b=false):ltP c a=false:=by
 cases e:ltP c a with
 | false=>rfl
 | true =>
  cases e2:ltP a b with
  | true=>rw[b0t e e2] at g;cases g
  | false=>rw[b2n e2 h,g] at e;cases e
theorem a4v {a b:PT}(h:ltP b a=false):a.1<=b.1:=by
 simp only[ltP] at h
 by_cases e:b.1=a.1
 ·lia
 ·rw[if_neg e] at h
  have:=of_decide_eq_false h
  lia
theorem b4i {c:Int}{i:Nat}{x y:PT}:ltP (c+x.1,i :: x.2) (c+y.1,i :: y.2)=ltP x y:=by
 simp only[ltP,lxN,if_true]
 by_cases e:x.1=y.1
 ·rw[if_pos e,if_pos (by lia)]
 ·rw[if_neg e,if_neg (by lia)]
  congr 1
  exact propext ⟨λh=>by lia,λh=>by lia⟩
theorem a5u {α:Type}(lt:α->α->Bool):∀ (xs:List α)(b:α),a0y lt b xs∈b :: xs
 | [],b=>by simp[a0y]
 | x :: r,b=>by
  have:=a5u lt r (if lt x b=true then x else b)
  show a0y lt (if lt x b=true then x else b) r∈_
  split at this<;>rename_i h
  ·rw[if_pos h];exact Γh _ this
  ·rw[if_neg h]
   rcases List.mem_cons.mp this with e|e
   ·rw[e];simp
   ·exact Γh _ (Γh _ e)
theorem a5t:∀ (xs:List PT)(b:PT),∀ x∈b :: xs,ltP x (a0y ltP b xs)=false
 | [],b,x,h=>by
  rcases List.mem_cons.mp h with rfl|h
  ·exact b2o _
  ·cases h
 | y :: r,b,x,h=>by
  show ltP x (a0y ltP (if ltP y b=true then y else b) r)=false
  have ih:=a5t r (if ltP y b=true then y else b)
  have h0:=ih _ Γn
  rcases List.mem_cons.mp h with rfl|h
  ·by_cases e:ltP y x=true
   ·rw[if_pos e] at h0 ⊢
    refine a6k h0 ?_
    cases e2:ltP x y with
    | false=>rfl
    | true=>have:=b0t e e2;rw[b2o] at this;cases this
   ·rw[if_neg e] at h0 ⊢;exact h0
  ·rcases List.mem_cons.mp h with rfl|h
   ·by_cases e:ltP x b=true
    ·rw[if_pos e] at h0 ⊢;exact h0
    ·rw[if_neg e] at h0 ⊢
     exact a6k h0 (by simpa using e)
   ·exact ih x (Γh _ h)
noncomputable def Bst (ok:Nat->Nat->Bool)(c:Nat->Nat->Int) (n i:Nat):Option PT->Prop
 | some p=>p.1=pc c n p.2/\nxt n p.2=i/\vp ok n p.2/\∀ ks,nxt n ks=i->vp ok n ks->ltP (pc c n ks,ks) p=false
 | none=>∀ ks,nxt n ks=i->¬ vp ok n ks
section
variable {ok ok':Nat->Nat->Bool}{c:Nat->Nat->Int}{n:Nat}
theorem Bst.uniq {i:Nat}{o o':Option PT}(h:Bst ok c n i o)(h':Bst ok c n i o'):o=o':=by
 cases o with
 | none =>
  cases o' with
  | none=>rfl
  | some p=>exact absurd h'.2.2.1 (h _ h'.2.1)
 | some p =>
  cases o' with
  | none=>exact absurd h.2.2.1 (h' _ h.2.1)
  | some q =>
   have a:=h.2.2.2 q.2 h'.2.1 h'.2.2.1
   have b:=h'.2.2.2 p.2 h.2.1 h.2.2.1
   rw[<- h'.1] at a
   rw[<- h.1] at b
   exact congrArg some (b2n b a)
theorem b1x:∀ {ks:List Nat},vp ok n ks->(∀ k∈ks,k<n)/\ks.Pairwise (· < ·)/\∀ k∈ks,nxt n ks<=k
 | [],_=>by simp
 | k :: r,h=>by
  obtain⟨h1,h2,h3⟩:=h
  obtain⟨a,b,d⟩:=b1x h3
  have hk:k<n:=by
   cases r with
   | nil=>exact h1
   | cons x q=>have:=a x (by simp);simp[nxt] at h1;lia
  refine⟨λx hx=>?_,List.pairwise_cons.mpr ⟨λx hx=>?_,b⟩,λx hx=>?_⟩
  ·rcases List.mem_cons.mp hx with rfl|hx
   ·exact hk
   ·exact a x hx
  ·have:=d x hx;lia
  ·show k<=x
   rcases List.mem_cons.mp hx with rfl|hx
   ·exact Γi _
   ·have:=d x hx;lia
theorem a6e {ks:List Nat}(h:vp ok n ks):nxt n ks<=n:=by
 cases ks with
 | nil=>exact Γi _
 | cons k r=>exact Nat.le_of_lt ((b1x h).1 k (by simp))
theorem b3o:∀ {ks:List Nat},vp ok n ks->ks.length+nxt n ks<=n
 | [],_=>by simp[nxt]
 | k :: r,⟨h1,_,h3⟩=>by
  have:=b3o h3
  show r.length+1+k<=n
  lia
theorem a9u:Bst ok c n n (some (0,[])):=by
 refine⟨rfl,rfl,trivial,λks h1 h2=>?_⟩
 cases ks with
 | nil=>exact b2o _
 | cons k r=>have:=(b1x h2).1 k (by simp);simp[nxt] at h1;lia
theorem b5e {i:Nat}(hi:i<n)(h:∀ e,i<e->e<=n->ok i e=true->Bst ok c n e none):Bst ok c n i none:=by
 intro ks h1 h2
 cases ks with
 | nil=>simp[nxt] at h1;lia
 | cons k r =>
  cases (show k=i from h1)
  exact h _ h2.1 (a6e h2.2.2) h2.2.1 r rfl h2.2.2
theorem a9t {i:Nat}{B:Nat->Option PT}(hi:i<n)(hB:∀ e,i<e->e<=n->Bst ok c n e (B e)){p:PT}(hp:∃ e,i<e/\e<=n/\ok i e=true/\∃ q,B e=some q/\p=(c i e+q.1,i :: q.2))
  (hl:∀ e q,i<e->e<=n->ok i e=true->B e=some q->ltP (c i e+q.1,i :: q.2) p=false):Bst ok c n i (some p):=by
 obtain⟨e,h1,h2,h3,q,hq,rfl⟩:=hp
 have b:=hB e h1 h2
 rw[hq] at b
 obtain⟨b1,b2,b3,b4⟩:=b
 refine⟨?_,rfl,⟨by rw[b2];exact h1,by rw[b2];exact h3,b3⟩,λks k1 k2=>?_⟩
 ·show c i e+q.1=c i (nxt n q.2)+pc c n q.2
  rw[b2,b1]
 ·cases ks with
  | nil=>simp[nxt] at k1;lia
  | cons k r =>
   cases (show k=i from k1)
   obtain⟨k3,k4,k5⟩:=k2
   have hn:=a6e k5
   have b':=hB (nxt n r) k3 hn
   cases e2:B (nxt n r) with
   | none=>rw[e2] at b';exact absurd k5 (b' r rfl)
   | some q' =>
    rw[e2] at b'
    have l1:=hl _ q' k3 hn k4 e2
    have l2:=b'.2.2.2 r rfl k5
    refine a6k l1 ?_
    show ltP (c i (nxt n r)+(pc c n r,r).1,i :: (pc c n r,r).2) (c i (nxt n r)+q'.1,i :: q'.2)=false
    rw[b4i];exact l2
theorem a7a {i:Nat}{o:Option PT}(hk:∀ a e,a<e->e<=n->ok a e=ok' a e)(h:Bst ok c n i o):Bst ok' c n i o:=by
 have hv:∀ ks,vp ok n ks↔vp ok' n ks:=by
  intro ks
  induction ks with
  | nil=>exact Iff.rfl
  | cons k r ih =>
   constructor
   ·exact λ⟨a,b,d⟩=>⟨a,by rw[<- hk _ _ a (a6e d)];exact b,ih.mp d⟩
   ·exact λ⟨a,b,d⟩=>⟨a,by rw[hk _ _ a (a6e d)];exact b,ih.mpr d⟩
 cases o with
 | none=>exact λks h1 h2=>h ks h1 ((hv ks).mpr h2)
 | some p=>exact⟨h.1,h.2.1,(hv _).mp h.2.2.1,λks h1 h2=>h.2.2.2 ks h1 ((hv ks).mpr h2)⟩
end
section
variable {ok:Nat->Nat->Bool}{c:Nat->Nat->Int}{n:Nat}{B:Nat->Option PT}
theorem d4t {i:Nat}(hi:i<n)(hB:∀ e,i<e->e<=n->Bst ok c n e (B e)):∃ o,Bst ok c n i o:=by
 obtain⟨ps,hps⟩:∃ ps,ps=((List.range' (i+1) (n-i)).filter λe=>ok i e).filterMap λe=>(B e).map λq:PT=>(c i e+q.1,i :: q.2):=⟨_,rfl⟩
 have hin:∀ p,p∈ps↔∃ e,i<e/\e<=n/\ok i e=true/\∃ q,B e=some q/\p=(c i e+q.1,i :: q.2):=by
  intro p
  rw[hps,List.mem_filterMap]
  constructor
  ·rintro⟨e,he,h2⟩
   obtain⟨q,hq,rfl⟩:=Option.map_eq_some_iff.mp h2
   obtain⟨h3,h4⟩:=List.mem_filter.mp he
   have:=List.mem_range'_1.mp h3
   exact⟨e,by lia,by lia,h4,q,hq,rfl⟩
  ·rintro⟨e,h1,h2,h3,q,hq,rfl⟩
   exact⟨e,List.mem_filter.mpr ⟨List.mem_range'_1.mpr (by lia),h3⟩,by rw[hq];rfl⟩
 cases ps with
 | nil =>
  refine⟨none,b5e hi λe h1 h2 h3=>?_⟩
  cases hBe:B e with
  | none=>have:=hB e h1 h2;rw[hBe] at this;exact this
  | some p=>exact absurd ((hin _).mpr ⟨e,h1,h2,h3,p,hBe,rfl⟩) (by simp)
 | cons p0 pr =>
  refine⟨some (a0y ltP p0 pr),a9t hi hB ((hin _).mp (a5u ltP pr p0)) λe q h1 h2 h3 h4=>?_⟩
  exact a5t pr p0 _ ((hin _).mpr ⟨e,h1,h2,h3,q,h4,rfl⟩)
theorem c4m {i:Nat}{p:PT}(hi:i<n)(hB:∀ e,i<=e->e<=n->Bst ok c n e (B e))(hp:B i=some p):∃ r,p.2=i :: r/\i<nxt n r/\nxt n r<=n/\ok i (nxt n r)=true/\B (nxt n r)=some (pc c n r,r)/\p.1=c i (nxt n r)+pc c n r:=by
 have b:=hB i (Γi _) (by lia)
 rw[hp] at b
 obtain⟨b1,b2,b3,b4⟩:=b
 obtain⟨t,ks⟩:=p
 cases ks with
 | nil=>have:n=i:=b2;lia
 | cons k r =>
  cases (show k=i from b2)
  obtain⟨v1,v2,v3⟩:=b3
  have hn:=a6e v3
  refine⟨r,rfl,v1,hn,v2,?_,b1⟩
  have b':=hB (nxt n r) (by lia) hn
  cases e2:B (nxt n r) with
  | none=>rw[e2] at b';exact absurd v3 (b' r rfl)
  | some q =>
   rw[e2] at b'
   obtain⟨d1,d2,d3,d4⟩:=b'
   have l1:=d4 r rfl v3
   have l2:=b4 (i :: q.2) rfl ⟨by rw[d2];exact v1,by rw[d2];exact v2,d3⟩
   have e3:(pc c n (i :: q.2),i :: q.2)=(c i (nxt n r)+q.1,i :: q.2):=by show (c i (nxt n q.2)+pc c n q.2,_)=_;rw[d2,d1]
   have e4:((t,i :: r):PT)=(c i (nxt n r)+(pc c n r,r).1,i :: (pc c n r,r).2):=by rw[show t=pc c n (i :: r) from b1];rfl
   rw[e3,e4,b4i] at l2
   exact congrArg some (b2n l2 l1)
theorem c9w {i e:Nat}{p q:PT}(hB:∀ e,i<=e->e<=n->Bst ok c n e (B e))(hp:B i=some p)(h1:i<e)(h2:e<=n)(h3:ok i e=true)(hq:B e=some q):ltP (c i e+q.1,i :: q.2) p=false:=by
 have b:=hB i (Γi _) (by lia)
 rw[hp] at b
 have b':=hB e (by lia) h2
 rw[hq] at b'
 obtain⟨d1,d2,d3,_⟩:=b'
 have l:=b.2.2.2 (i :: q.2) rfl ⟨by rw[d2];exact h1,by rw[d2];exact h3,d3⟩
 have e3:(pc c n (i :: q.2),i :: q.2)=(c i e+q.1,i :: q.2):=by show (c i (nxt n q.2)+pc c n q.2,_)=_;rw[d2,d1]
 rw[e3] at l;exact l
end
theorem b2d (c:Nat->Nat->Int) (n:Nat):∀ ks:List Nat,pc c n ks=((a4a ks n).map λp=>c p.1 p.2).sum
 | []=>rfl
 | [k]=>rfl
 | k :: k2 :: r=>by
  have e:a4a (k :: k2 :: r) n=(k,k2) :: a4a (k2 :: r) n:=by simp[a4a]
  show c k k2+pc c n (k2 :: r)=_
  rw[b2d c n (k2 :: r),e];rfl
theorem a4u (ok:Nat->Nat->Bool) (n:Nat):∀ ks:List Nat,vp ok n ks↔∀ p∈a4a ks n,p.1<p.2/\ok p.1 p.2=true
 | []=>by simp[vp,a4a]
 | [k]=>by simp[vp,a4a,nxt]
 | k :: k2 :: r=>by
  have e:a4a (k :: k2 :: r) n=(k,k2) :: a4a (k2 :: r) n:=by simp[a4a]
  rw[e]
  have ih:=a4u ok n (k2 :: r)
  constructor
  ·rintro⟨h1,h2,h3⟩ p hp
   rcases List.mem_cons.mp hp with rfl|hp
   ·exact⟨h1,h2⟩
   ·exact ih.mp h3 p hp
  ·intro h
   have h0:=h (k,k2) (by simp)
   exact⟨h0.1,h0.2,ih.mpr λp hp=>h p (Γh _ hp)⟩
noncomputable def AK:Nat->List (List Nat)
 | 0=>[[0]]
 | m+1=>AK m++(AK m).map λks=>ks++[m+1]
theorem b5h:∀ m,(AK m).length=2 ^ m
 | 0=>rfl
 | m+1=>by simp[AK,b5h m];lia
theorem a7c:∀ m,∀ ks∈AK m,(∃ r,ks=0 :: r)/\ks.Pairwise (· < ·)/\(∀ k∈ks,k<=m)/\ks.length<=m+1
 | 0,ks,h=>by simp[AK] at h;subst h;simp
 | m+1,ks,h=>by
  rcases List.mem_append.mp h with h|h
  ·obtain⟨a,b,c,d⟩:=a7c m ks h
   exact⟨a,b,λk hk=>Nat.le_succ_of_le (c k hk),by lia⟩
  ·obtain⟨ks',h',rfl⟩:=List.mem_map.mp h
   obtain⟨⟨r,rfl⟩,b,c,d⟩:=a7c m ks' h'
   refine⟨⟨r++[m+1],rfl⟩,?_,λk hk=>?_,by simp at d ⊢;lia⟩
   ·rw[List.pairwise_append]
    exact⟨b,by simp,λx hx y hy=>by simp at hy;have:=c x hx;lia⟩
   ·rcases List.mem_append.mp hk with hk|hk
    ·exact Nat.le_succ_of_le (c k hk)
    ·simp at hk;lia
theorem b1t:∀ (m:Nat)(r:List Nat),(0 :: r).Pairwise (· < ·)->(∀ k∈r,k<=m)->(0 :: r)∈AK m
 | 0,r,h,hk=>by
  cases r with
  | nil=>simp[AK]
  | cons k s=>have:=(List.pairwise_cons.mp h).1 k (by simp);have:=hk k (by simp);lia
 | m+1,r,h,hk=>by
  by_cases hm:m+1∈r
  ·obtain⟨s,t,rfl⟩:=List.append_of_mem hm
   have ht:t=[]:=by
    cases t with
    | nil=>rfl
    | cons y t =>
     have h1:=(List.pairwise_cons.mp h).2
     have h2:=(List.pairwise_append.mp h1).2.1
     have:=(List.pairwise_cons.mp h2).1 y (by simp)
     have:=hk y (by simp)
     lia
   subst ht
   have h1:=(List.pairwise_cons.mp h)
   have h2:=List.pairwise_append.mp h1.2
   refine List.mem_append_right _ (List.mem_map.mpr ⟨0 :: s,b1t m s ?_ λk hk'=>?_,rfl⟩)
   ·exact List.pairwise_cons.mpr ⟨λx hx=>h1.1 x (List.mem_append_left _ hx),h2.1⟩
   ·have:=h2.2.2 k hk' (m+1) (by simp);lia
  ·refine List.mem_append_left _ (b1t m r h λk hk'=>?_)
   have:=hk k hk'
   have:k≠m+1:=λz=>hm (z ▸ hk')
   lia
theorem a4z (ok:Nat->Nat->Bool)(c:Nat->Nat->Int) (n:Nat):∀ t,t<=n->∃ B:Nat->Option PT,∀ e,n-t<=e->e<=n->Bst ok c n e (B e)
 | 0,_=>⟨λ_=>some (0,[]),λe h1 h2=>by
  have:e=n:=by lia
  subst this;exact a9u⟩
 | t+1,ht=>by
  obtain⟨B,hB⟩:=a4z ok c n t (by lia)
  obtain⟨o,ho⟩:=d4t (ok:=ok) (c:=c) (n:=n) (i:=n-(t+1)) (B:=B) (by lia) λe h1 h2=>hB e (by lia) h2
  refine⟨λe=>if e=n-(t+1) then o else B e,λe h1 h2=>?_⟩
  by_cases z:e=n-(t+1)
  ·simp only[z,if_true];exact ho
  ·simp only[z,if_false];exact hB e (by lia) h2
theorem b5d (ok:Nat->Nat->Bool)(c:Nat->Nat->Int) (n:Nat):∃ o,Bst ok c n 0 o:=by
 obtain⟨B,hB⟩:=a4z ok c n n (Γi _)
 exact⟨B 0,hB 0 (by lia) (Nat.zero_le _)⟩
theorem b7g {ok:Nat->Nat->Bool}{n:Nat}(h:∀ i,i<n->ok i (i+1)=true):∀ t,t<=n->vp ok n (List.range' (n-t) t)/\nxt n (List.range' (n-t) t)=n-t
 | 0,_=>⟨trivial,by simp[nxt]⟩
 | t+1,ht=>by
  obtain⟨a,b⟩:=b7g h t (by lia)
  rw[show n-(t+1)=n-t-1 by lia,List.range'_succ,show n-t-1+1=n-t by lia]
  refine⟨⟨by rw[b];lia,?_,a⟩,rfl⟩
  rw[b]
  have:=h (n-t-1) (by lia)
  rwa [show n-t-1+1=n-t by lia] at this
structure Rwo (ws ss:List Int):Prop where
 hw:Szs ws
 hs:Szs ss
 hl:ss.length+1=ws.length
 hn:ws.length<=30
theorem c6p {ws ss:List Int}(h:Rwo ws ss){b e:Nat}(hb:b<ws.length):1<=a0w ws ss b e/\a0w ws ss b e<=100000000000:=by
 have h1:=c4x (xs:=(ss.drop b).take (e-1-b)) λx hx=>by
  have:=h.hs x (List.mem_of_mem_drop (List.mem_of_mem_take hx))
  lia
 have h2:=b2x h.hw hb
 have h3:((ss.drop b).take (e-1-b)).length<=ss.length:=by simp;lia
 have:=h.hl
 have:=h.hn
 unfold a0w
 lia
theorem a8q (d:Nat){ws ss:List Int}(h:Rwo ws ss){b e:Nat}(hb:b<ws.length)(he:b<e){i:Int}(hi:i=e){Q:FV×FV->Prop}(q:Q (.int (a0w ws ss b e),.non)):callW tb (d+1) 15 [a2o ws ss,.int b,.int i] Q:=by
 subst hi
 have hn:=h.hn
 have hl:=h.hl
 refine a0e (fd:=e2c) rfl rfl ?_
 simp[e2c,e3z,a2o]
 rw[a4f hb]
 have e1:(e:Int)-1=((e-1:Nat):Int):=by lia
 simp
 rw[e1,c1c _ (show b<=e-1 by lia),<- List.map_drop,<- List.map_take]
 refine b7r (by simp;lia) ?_ ?_
 ·intro x hx
  have:=h.hs x (List.mem_of_mem_drop (List.mem_of_mem_take hx))
  lia
 ·simpa[a0w] using q
noncomputable def a3d (p:PT):FV:=.tup [.int p.1,.tup (p.2.map λi:Nat=>.int i)]
noncomputable def c0h:Option PT->FV
 | none=>.non
 | some p=>a3d p
theorem c9i (n:Nat)(hn:1<n)(ks:List Nat):fD n (.tup (ks.map λi:Nat=>.int i))=some (.tup (ks.map λi:Nat=>.int i)):=by
 obtain⟨m,rfl⟩:∃ m,n=m+2:=⟨n-2,by lia⟩
 have:a6h (fD (m+1)) (ks.map λi:Nat=>FV.int i)=some (ks.map λi:Nat=>D.int i):=by
  induction ks with
  | nil=>rfl
  | cons k r ih =>
   show ((some (D.int k)).bind λy=>(a6h (fD (m+1)) (r.map λi:Nat=>FV.int i)).map (y :: ·))=_
   rw[ih];rfl
 show (a6h (fD (m+1)) (ks.map λi:Nat=>FV.int i)).map D.tup=_
 rw[this];rfl
theorem a6v:∀ a b:List Nat,D.eqvs (a.map λi:Nat=>.int i) (b.map λi:Nat=>.int i)=decide (a=b)
 | [],[]=>by simp[D.eqvs]
 | [],b :: q=>by simp[D.eqvs]
 | a :: r,[]=>by simp[D.eqvs]
 | a :: r,b :: q=>by
  simp only[List.map_cons,D.eqvs,D.eqv,a6v r q]
  by_cases h:a=b
  ·subst h;simp
  ·have:¬ (a:Int)=(b:Int):=by lia
   simp[h,this]
theorem b0u:∀ a b:List Nat,c1w (a.map λi:Nat=>.int i) (b.map λi:Nat=>.int i)=some (lxN a b)
 | [],[]=>by simp[c1w,lxN]
 | [],b :: q=>by simp[c1w,lxN]
 | a :: r,[]=>by simp[c1w,lxN]
 | a :: r,b :: q=>by
  simp only[List.map_cons,c1w,D.eqv,lxN,ltD,b0u r q]
  by_cases h:a=b
  ·subst h;simp
  ·have:¬ (a:Int)=(b:Int):=by lia
   simp[h,this]
noncomputable def c0g (p:PT):D:=.tup [.int p.1,.tup (p.2.map λi:Nat=>.int i)]
theorem c9m (p:PT):fD a0j (a3d p)=some (c0g p):=by
 have:=c9i 39 (by decide) p.2
 show ((some (D.int p.1)).bind λy=>((fD 39 (FV.tup (p.2.map λi:Nat=>.int i))).bind λz=>(some []).map (z :: ·)).map (y :: ·)).map D.tup=_
 rw[this];rfl
theorem c9l (a b:PT):ltD (c0g a) (c0g b)=some (ltP a b):=by
 simp only[c0g,ltD,c1w,D.eqv,a6v,b0u,ltP]
 by_cases e:a.1=b.1
 ·rw[if_pos e,if_pos (by simpa using e)]
  by_cases e2:a.2=b.2
  ·rw[e2,if_pos (by simp),b2m]
  ·rw[if_neg (by simpa using e2)]
 ·rw[if_neg e,if_neg (by simpa using e)]
theorem minP (p:PT)(r:List PT)(Q:FV->Prop):wp (b2k (.lst ((p :: r).map a3d))) Q↔Q (a3d (a0y ltP p r)):=c8g a3d c0g ltP c9m c9l (λa ps z=>nomatch z) p r Q
theorem b6z {κ α:Type} [DecidableEq κ] {k:κ}{v:α}:∀ (r:List κ)(q:List α),r.length=q.length->k ∉ r->List.zipWith (λk' v'=>if k'=k then v else v') r q=q
 | [],[],_,_=>rfl
 | [],a :: b,h,_=>by simp at h
 | a :: b,[],h,_=>by simp at h
 | a :: b,a' :: b',h,hr=>by
  have h1:¬ a=k:=λz=>hr (by simp[z])
  rw[List.zipWith_cons_cons,if_neg h1,b6z b b' (by simpa using h) λz=>hr (Γh _ z)]
theorem c3u {κ α:Type} [DecidableEq κ]:∀ {ks:List κ}{vs:List α}(k:κ)(v:α)(j:κ),ks.length=vs.length->a2f (a3k ks vs k v).1 (a3k ks vs k v).2 j=if j=k then some v else a2f ks vs j:=by
 have go1:∀ {ks:List κ}{vs:List α}(k:κ)(v:α)(j:κ),ks.length=vs.length->k∈ks->a2f ks (List.zipWith (λk' v'=>if k'=k then v else v') ks vs) j=if j=k then some v else a2f ks vs j:=by
  intro ks
  induction ks with
  | nil=>intro vs k v j _ h;simp at h
  | cons x r ih =>
   intro vs k v j hl hk
   cases vs with
   | nil=>simp at hl
   | cons y q =>
    simp only[List.zipWith_cons_cons,a2f]
    by_cases e:x=j
    ·subst e
     by_cases e2:x=k
     ·subst e2;simp
     ·simp[e2]
    ·rw[if_neg e,if_neg e]
     by_cases hr:k∈r
     ·exact ih k v j (by simpa using hl) hr
     ·have hx:k=x:=by simpa[hr] using hk
      subst hx
      have:=b6z (k:=k) (v:=v) r q (by simpa using hl) hr
      rw[this,if_neg (Ne.symm e)]
 have go2:∀ {ks:List κ}{vs:List α}(k:κ)(v:α)(j:κ),ks.length=vs.length->k ∉ ks->a2f (ks++[k]) (vs++[v]) j=if j=k then some v else a2f ks vs j:=by
  intro ks
  induction ks with
  | nil =>
   intro vs k v j hl _
   have:vs=[]:=by cases vs with|nil=>rfl|cons=>simp at hl
   subst this
   simp only[List.nil_append,a2f]
   by_cases e:k=j
   ·subst e;simp
   ·simp[e,Ne.symm e]
  | cons x r ih =>
   intro vs k v j hl hk
   cases vs with
   | nil=>simp at hl
   | cons y q =>
    simp only[List.cons_append,a2f]
    by_cases e:x=j
    ·subst e
     have:¬ x=k:=λz=>hk (by simp[z])
     simp[this]
    ·rw[if_neg e,if_neg e]
     exact ih k v j (by simpa using hl) λz=>hk (Γh _ z)
 intro ks vs k v j hl
 unfold a3k
 by_cases e:k∈ks
 ·rw[if_pos e];exact go1 k v j hl e
 ·rw[if_neg e];exact go2 k v j hl e
theorem a4n:∀ (xs:List Int) (b:Int),a1c b xs∈b :: xs
 | [],b=>by simp[a1c]
 | x :: r,b=>by
  have:=a4n r (if x<b then x else b)
  show a1c (if x<b then x else b) r∈_
  split at this<;>rename_i h
  ·rw[if_pos h];exact Γh _ this
  ·rw[if_neg h]
   rcases List.mem_cons.mp this with e|e
   ·rw[e];simp
   ·exact Γh _ (Γh _ e)
theorem a2t:∀ (xs:List Int) (b:Int),a1c b xs<=b/\∀ x∈xs,a1c b xs<=x
 | [],b=>⟨Int.le_refl _,by simp⟩
 | x :: r,b=>by
  have:=a2t r (if x<b then x else b)
  show a1c (if x<b then x else b) r<=b/\∀ y∈x :: r,a1c (if x<b then x else b) r<=y
  refine⟨by have:=this.1;split at this<;>lia,λy hy=>?_⟩
  rcases List.mem_cons.mp hy with rfl|hy
  ·have:=this.1;split at this<;>lia
  ·exact this.2 y hy
theorem c9z (xs:List FV)(v:FV)(Q:FV->Prop):wp (atF (xs++[v]) (-1)) Q↔Q v:=by
 have:ixN (xs++[v]).length (-1)=some xs.length:=by
  simp only[ixN,List.length_append,List.length_cons,List.length_nil]
  rw[if_neg (by decide),if_pos (by lia)]
  congr 1;lia
 unfold atF
 rw[this]
 simp
structure Ask (n:Nat)(as:List Int) (r:Int):Prop where
 len:as.length=n
 a:∀ x∈as,0<=x/\x<=2000000000
 r0:0<=r
 r1:r<=2000000000
noncomputable def c1p (ws ss as:List Int) (i e:Nat):Int:=((List.range' i (e-i)).map λm=>as.getD m 0*a0w ws ss i (m+1)).sum
noncomputable def sc (ws ss as:List Int) (r:Int) (i e:Nat):Int:=r*a0w ws ss i e+c1p ws ss as i e
theorem c1o (ws ss as:List Int) (i:Nat):c1p ws ss as i i=0:=by simp[c1p]
theorem b1s (ws ss as:List Int){i e:Nat}(h:i<=e):c1p ws ss as i (e+1)=c1p ws ss as i e+as.getD e 0*a0w ws ss i (e+1):=by
 unfold c1p
 rw[show e+1-i=(e-i)+1 by lia,List.range'_concat,List.map_append,List.sum_append]
 simp[show i+(e-i)=e by lia]
theorem b7v {ws ss:List Int}{i e:Nat}(h:i<e)(he:e<=ss.length):a0w ws ss i (e+1)=a0w ws ss i e+ss.getD (e-1) 0:=by
 obtain⟨t,rfl⟩:∃ t,e=i+t+1:=⟨e-i-1,by lia⟩
 unfold a0w
 rw[show i+t+1+1-1-i=t+1 by lia,show i+t+1-1-i=t by lia,show i+t+1-1=i+t by lia]
 rw[List.take_succ_eq_append_getElem (by simp;lia),List.sum_append]
 simp[List.getD,show i+t<ss.length by lia]
 lia
theorem a5n (ws ss:List Int) (i:Nat):a0w ws ss i (i+1)=ws.getD i 0:=by simp[a0w]
theorem c1r {n:Nat}{as:List Int}{r:Int}(h:Ask n as r){i:Nat}(hi:i<n):0<=as.getD i 0/\as.getD i 0<=2000000000:=by
 rw[List.getD,List.getElem?_eq_getElem (by rw[h.len];exact hi)]
 exact h.a _ (List.getElem_mem _)
theorem d3b {a b A B:Int}(h1:0<=a)(h2:a<=A)(h3:0<=b)(h4:b<=B):0<=a*b/\a*b<=A*B:=by
 refine⟨Int.mul_nonneg h1 h3,?_⟩
 have h5:=Int.mul_le_mul_of_nonneg_right h2 h3
 have h6:=Int.mul_le_mul_of_nonneg_left h4 (show 0<=A by lia)
 lia
noncomputable def okT:Nat->Nat->Bool:=λ_ _=>true
theorem c2z {c:Nat->Nat->Int}{n i:Nat}(hi:i<=n){o:Option PT}(h:Bst okT c n i o):∃ p,o=some p:=by
 cases o with
 | some p=>exact⟨p,rfl⟩
 | none =>
  have:=b7g (ok:=okT) (n:=n) (λi _=>rfl) (n-i) (by lia)
  rw[show n-(n-i)=i by lia] at this
  exact absurd this.1 (h _ this.2)
theorem b2e (c:Nat->Nat->Int) (n:Nat):∃ P:Nat->PT,∀ j,j<=n->Bst okT c n j (some (P j)):=by
 obtain⟨B,hB⟩:=a4z okT c n n (Γi _)
 have:∀ j,∃ p:PT,j<=n->B j=some p:=λj=>by
  by_cases hj:j<=n
  ·obtain⟨p,hp⟩:=c2z hj (hB j (by lia) hj)
   exact⟨p,λ_=>hp⟩
  ·exact⟨(0,[]),λz=>absurd z hj⟩
 obtain⟨P,hP⟩:=Classical.axiomOfChoice this
 exact⟨P,λj hj=>by have:=hB j (by lia) hj;rwa [hP j hj] at this⟩
noncomputable def a9y (as:List Int):FV:=.tup (as.map .int)
theorem a5w (as:List Int)(Q:List FV->Prop):wp (a3i (a9y as)) Q↔Q (as.map .int):=Iff.rfl
theorem a3e {α:Type}:∀ xs:List α,xs.zip xs=xs.map λx=>(x,x)
 | []=>rfl
 | x :: r=>by simp[a3e r]
theorem b3w (d:Nat){ws ss as:List Int}{r:Int}(h:Rwo ws ss)(ha:Ask ws.length as r){i:Nat}(hi:i<ws.length){Q:FV×FV->Prop}(q:Q (.lst ((List.range' (i+1) (ws.length-i)).map λe=>.int (sc ws ss as r i e)),.non)):callW tb (d+2) 19 [a2o ws ss,a9y as,.int r,.int i] Q:=by
 have hn:=h.hn
 have r0:=ha.r0
 have r1:=ha.r1
 refine a0e (fd:=e1y) rfl rfl ?_
 simp[e1y,e3x,a0z]
 refine⟨⟨a0f (by lia) (by lia),a0f (by lia) (by lia)⟩,?_⟩
 refine a2r (I:=λj L=>∃ a b,L=[some (a2o ws ss),some (a9y as),some (.int r),some (.int i),some (.lst ((List.range' (i+1) (j-i)).map λe=>.int (sc ws ss as r i e))),some (.int (c1p ws ss as i j)),a,b]) (ws.length-i) i _ ⟨none,none,by simp[c1o]⟩ ?_ ?_
 ·rintro j L K h1 h2 ⟨a,b,rfl⟩ k
  have hj:j<ws.length:=by lia
  simp
  refine a8q d h hi (e:=j+1) (by lia) (by lia) ?_
  simp[a5w]
  rw[a4f (by rw[ha.len];exact hj)]
  have g1:0<=as[j]?.getD 0/\as[j]?.getD 0<=2000000000:=c1r ha hj
  simp[big]
  refine⟨.inl (a2h (by lia) (by lia)),.inl (a2h (by lia) (by lia)),by lia,?_⟩
  refine k _ ?_
  rw[show j+1-i=(j-i)+1 by lia,List.range'_concat,List.map_append,b1s _ _ _ h1]
  refine⟨some (.int j),some (.int (a0w ws ss i (j+1))),?_⟩
  rw[show [i+1+1*(j-i)].map (λe=>FV.int (sc ws ss as r i e))=[FV.int (r*a0w ws ss i (j+1)+(c1p ws ss as i j+as.getD j 0*a0w ws ss i (j+1)))] by
   rw[show i+1+1*(j-i)=j+1 by lia];simp only[List.map_cons,List.map_nil,sc,b1s _ _ _ h1]]
  rfl
 ·rintro L ⟨a,b,rfl⟩
  simp
  exact q
theorem b5c (d:Nat){ws ss as:List Int}{r:Int}(h:Rwo ws ss)(ha:Ask ws.length as r){P:Nat->PT}(hP:∀ j,j<=ws.length->Bst okT (sc ws ss as r) ws.length j (some (P j))){Q:FV×FV->Prop}(q:Q (.lst ((List.range (ws.length+1)).map λj=>a3d (P j)),.non)):callW tb (d+3) 18 [a2o ws ss,a9y as,.int r] Q:=by
 have hn:=h.hn
 refine a0e (fd:=e1z) rfl rfl ?_
 simp[e1z,e3y,a0z,big]
 refine⟨a0f (by lia) (by lia),?_⟩
 rw[a9o]
 have pn:P ws.length=(0,[]):=Option.some.inj ((hP ws.length (Γi _)).uniq a9u)
 refine a4o (f:=λi:Nat=>FV.int i) (I:=λds L=>∃ (i:Nat)(a b c:Option FV),L=[some (a2o ws ss),some (a9y as),some (.int r),some (.lst ((List.range' i (ws.length+1-i)).map λj=>a3d (P j))),a,b,c]/\i+ds.length=ws.length) (List.range ws.length).reverse (List.range ws.length).reverse [] _ rfl ⟨ws.length,none,none,none,by rw[show ws.length+1-ws.length=1 by lia];simp[a3d,pn],rfl⟩ ?_ ?_
 ·rintro ds x q' L K e ⟨i,a,b,c,rfl,hi⟩ k
  have hx:x+1=i:=by
   have e2:=congrArg (λl=>l[ds.length]?) e
   have hd:ds.length<ws.length:=by have:=congrArg List.length e;simp at this;lia
   simp[List.getElem?_reverse,hd] at e2
   lia
  subst hx
  have hxn:x<ws.length:=by lia
  simp
  refine b3w d h ha hxn ?_
  simp
  rw[a2q,a3e,List.map_map]
  refine⟨by simp[big];lia,?_⟩
  refine a0l (f:=(λp:Nat×Nat=>FV.tup [FV.int (sc ws ss as r x p.1),a3d (P p.2)]) ∘ λx=>(x,x)) (g:=λe=>a3d (sc ws ss as r x e+(P e).1,x :: (P e).2)) _ [] (λe he K2 k2=>?_) ?_
  ·have he:=List.mem_range'_1.mp he
   have hl:(P e).2.length<=30:=by
    have:=b3o (hP e (by lia)).2.2.1
    lia
   simp[a3d,big]
   refine⟨by lia,?_⟩
   simpa[a3d] using k2
  ·obtain⟨t,ht⟩:∃ t,ws.length-x=t+1:=⟨ws.length-x-1,by lia⟩
   obtain⟨p0,pr,hpl⟩:∃ p0 pr,(List.range' (x+1) (ws.length-x)).map (λe=>(sc ws ss as r x e+(P e).1,x :: (P e).2))=p0 :: pr:=by
    rw[ht,List.range'_succ,List.map_cons];exact⟨_,_,rfl⟩
   have hm:(List.range' (x+1) (ws.length-x)).map (λe=>a3d (sc ws ss as r x e+(P e).1,x :: (P e).2))=(p0 :: pr).map a3d:=by
    rw[<- hpl,List.map_map];rfl
   have hin:∀ p,p∈p0 :: pr↔∃ e,x<e/\e<=ws.length/\p=(sc ws ss as r x e+(P e).1,x :: (P e).2):=λp=>by
    rw[<- hpl,List.mem_map]
    constructor
    ·rintro⟨e,h1,rfl⟩;have:=List.mem_range'_1.mp h1;exact⟨e,by lia,by lia,rfl⟩
    ·rintro⟨e,h1,h2,rfl⟩;exact⟨e,List.mem_range'_1.mpr (by lia),rfl⟩
   have hmin:a0y ltP p0 pr=P x:=by
    obtain⟨e,h1,h2,h3⟩:=(hin _).mp (a5u ltP pr p0)
    have:=a9t (ok:=okT) (c:=sc ws ss as r) (n:=ws.length) (i:=x) (B:=λe=>some (P e)) (p:=a0y ltP p0 pr) hxn (λe _ h2=>hP e h2) ⟨e,h1,h2,rfl,_,rfl,h3⟩ λe' q2 h4 h5 _ h6=>by
     cases h6
     exact a5t pr p0 _ ((hin _).mpr ⟨e',h4,h5,rfl⟩)
    exact Option.some.inj (this.uniq (hP x (by lia)))
   rw[List.nil_append,hm]
   simp only[List.set_cons_succ,List.set_cons_zero,lk_z,lk_s,a1o]
   rw[minP,hmin]
   simp[big]
   refine⟨by lia,?_⟩
   refine k _ ⟨x,some (.int x),some (.lst ((List.range' (x+1) (ws.length-x)).map λe=>.int (sc ws ss as r x e))),some (.lst ((p0 :: pr).map a3d)),?_,by simp;lia⟩
   rw[show ws.length+1-x=(ws.length-x)+1 by lia,List.range'_succ]
   simp
 ·rintro L ⟨i,a,b,c,rfl,hi⟩
  have hi0:i=0:=by simp at hi;lia
  subst hi0
  simp
  rw[List.range_eq_range'] at q
  exact q
theorem b2p (d:Nat){ws ss as:List Int}{r:Int}(h:Rwo ws ss)(ha:Ask ws.length as r){P:Nat->PT}(hP:∀ j,j<=ws.length->Bst okT (sc ws ss as r) ws.length j (some (P j))){Q:FV×FV->Prop}(q:Q (a3d (P 0),.non)):callW tb (d+4) 16 [a2o ws ss,a9y as,.int r] Q:=by
 refine a0e (fd:=e2b) rfl rfl ?_
 simp[e2b,d6o]
 refine b5c d h ha hP ?_
 simp
 rw[a2s (i:=0) (n:=0) rfl (show ((List.range (ws.length+1)).map λj=>a3d (P j))[0]?=some (a3d (P 0)) by simp)]
 exact q
theorem b2j {xs:List Int}{x:Int}{r:List Int}(h:xs=x :: r)(Q:FV->Prop):wp (d3d (xs.map .int)) Q↔Q (.int (a1c x r)):=by
 subst h
 simp only[d3d,a2i,Option.bind_some];rfl
theorem c6b {b n:Nat}(h:b<n){i j:Int}(hi:i=((b+1:Nat):Int))(hj:j=(n:Int)+1):upF i (j-i).toNat=(List.range' (b+1) (n-b)).map λi:Nat=>FV.int i:=by
 subst hi hj
 rw[show ((n:Int)+1-((b+1:Nat):Int)).toNat=n-b by lia];exact b7h _ _
theorem d0b (d:Nat){n:Int}{v:FV}{m:Nat}{Q:FV×FV->Prop}(hs:Lf n v)(h0:0<=n)(hn:n<10000)(hm:m<=30)(q:∀ (as:List Int) (r:Int) v',Ask m as r->Lf (n+70) v'->Q (.tup [a9y as,.int r],v')):callW tb (d+3) 36 [v,.int m] Q:=by
 refine a0e (fd:=e1j) rfl rfl ?_
 simp[e1j,e3k,big]
 refine⟨by decide,?_⟩
 refine a1t (d+1) hs (by lia) (by decide) (by decide) λu v1 u0 u1 l1=>?_
 simp
 refine b5f u0 u1 λf hf=>?_
 obtain⟨M,rfl,M0,M1⟩:∃ M:Int,f=.int M/\0<M/\M<=1000000001:=by
  simp at hf
  rcases hf with rfl|rfl|rfl|rfl|rfl<;>exact⟨_,rfl,by decide,by decide⟩
 refine a1t (d+1) l1 (by lia) (by decide) (by decide) λc v2 c0 c1 l2=>?_
 simp
 refine⟨a0f (by lia) (by lia),?_⟩
 rw[a1l]
 refine⟨by simp;lia,?_⟩
 refine a3s (f:=λi:Nat=>FV.int i) (I:=λds acc L=>∃ (v':FV)(xs:List Int),L=[some v',some (.int m),some (.int M),some (.int c),none,none]/\acc=xs.map .int/\xs.length=ds.length/\(∀ x∈xs,0<=x/\x<=2000000000)/\Lf (n+2+2*ds.length) v') (List.range m) (List.range m) [] [] _ rfl ⟨v2,[],rfl,rfl,rfl,by simp,l2.mono (by simp;lia)⟩ ?_ ?_
 ·rintro ds x r acc L K e ⟨v',xs,rfl,rfl,hl,hx,lf⟩ k
  have hd:ds.length<30:=by have:=congrArg List.length e;simp at this;lia
  simp
  refine a1t (d+1) lf (by lia) M0 (by lia) λa v3 a0 a1 l3=>?_
  simp
  refine a1t (d+1) l3 (by lia) (by decide) (by decide) λb v4 b0 b1 l4=>?_
  simp
  refine⟨.inl (a2h (by lia) (by lia)),?_⟩
  have hab:=d3b a0 (show a<=1000000000 by lia) b0 (show b<=2 by lia)
  refine k _ _ ⟨v4,xs++[a*b / 2],rfl,by simp,by simp[hl],?_,l4.mono (by simp;lia)⟩
  intro y hy
  rcases List.mem_append.mp hy with hy|hy
  ·exact hx y hy
  ·simp at hy;subst hy;lia
 ·rintro ys L ⟨v',xs,rfl,rfl,hl,hx,lf⟩
  simp only[List.length_range] at hl lf
  simp
  refine a1t (d+1) lf (by lia) (by decide) (by decide) λa v3 a0 a1 l3=>?_
  simp
  refine⟨by decide,?_⟩
  refine a1t (d+1) l3 (by lia) (by decide) (by decide) λb v4 b0 b1 l4=>?_
  simp[big]
  refine b5f c0 c1 λf hf=>?_
  obtain⟨r,rfl,r0,r1⟩:∃ r:Int,f=.int r/\0<=r/\r<=1000000001:=by
   simp at hf
   rcases hf with rfl|rfl|rfl|rfl|rfl
   ·exact⟨_,rfl,by decide,by decide⟩
   ·exact⟨_,rfl,by decide,by decide⟩
   ·exact⟨_,rfl,by lia,by lia⟩
   ·exact⟨_,rfl,by lia,by lia⟩
   ·exact⟨_,rfl,by decide,by decide⟩
  exact q xs r v4 ⟨hl,hx,r0,by lia⟩ (l4.mono (by lia))
theorem b8z {c:Nat->Nat->Int}{n x:Nat}{P:Nat->PT}(hx:x<n)(hP:∀ j,j<=n->Bst okT c n j (some (P j))){t:Int}{tr:List Int}(h:(List.range' (x+1) (n-x)).map (λe=>c x e+(P e).1)=t :: tr):a1c t tr=(P x).1:=by
 have hin:∀ y,y∈t :: tr↔∃ e,x<e/\e<=n/\y=c x e+(P e).1:=λy=>by
  rw[<- h,List.mem_map]
  constructor
  ·rintro⟨e,h1,rfl⟩;have:=List.mem_range'_1.mp h1;exact⟨e,by lia,by lia,rfl⟩
  ·rintro⟨e,h1,h2,rfl⟩;exact⟨e,List.mem_range'_1.mpr (by lia),rfl⟩
 have hB:∀ e,x<=e->e<=n->Bst okT c n e ((λe=>some (P e)) e):=λe _ h2=>hP e h2
 obtain⟨e,h1,h2,h3⟩:=(hin _).mp (a4n tr t)
 have l1:=a4v (c9w (B:=λe=>some (P e)) hB rfl h1 h2 rfl rfl)
 obtain⟨r,f0,f1,f2,f3,f4,f5⟩:=c4m (B:=λe=>some (P e)) hx hB rfl
 have l2:=(hin _).mpr ⟨_,f1,f2,rfl⟩
 have l3:a1c t tr<=c x (nxt n r)+(P (nxt n r)).1:=by
  rcases List.mem_cons.mp l2 with z|z
  ·rw[z];exact (a2t tr t).1
  ·exact (a2t tr t).2 _ z
 have f4:P (nxt n r)=(pc c n r,r):=Option.some.inj f4
 rw[f4] at l3
 have l1:(P x).1<=c x e+(P e).1:=l1
 have l3:a1c t tr<=c x (nxt n r)+pc c n r:=l3
 lia
noncomputable def c9k (P:Nat->PT) (n:Nat):FV:=.tup ((List.range (n+1)).map λj=>.int (P j).1)
noncomputable def isI:D->Bool|.int _=>true|_=>false
noncomputable def a4c:D->Int|.int i=>i|_=>0
theorem a6p:∀ {ds:List D},ds.all isI=true->ds=(ds.map a4c).map .int
 | [],_=>rfl
 | x :: r,h=>by
  rw[List.all_cons,Bool.and_eq_true] at h
  cases x with
  | int i=>rw[List.map_cons,List.map_cons,<- a6p h.2];rfl
  | _=>exact absurd h.1 Γk
theorem a6y (ns:List Int):(ns.map D.int).map dF=ns.map .int:=by rw[List.map_map];rfl
theorem noF {ds:List D}:ds.all isI=true↔¬ false∈ds.map isI:=by
 simp[List.all_eq_true]
theorem b2f (d:Nat)(x:D)(Q:FV×FV->Prop):callW tb (d+1) 0 [dF x] Q↔Q (.bl (isI x),.non):=by
 rw[a9s (fd:=fd0) rfl rfl]
 cases x<;>simp[fd0,bd0,dF,isI]
theorem b7l (d:Nat)(x:D) (n:Nat)(Q:FV×FV->Prop):callW tb (d+1) 1 [dF x,.int n] Q↔Q (.bl (match x with|.tup xs=>decide (xs.length=n)|_=>false),.non):=by
 rw[a9s (fd:=fd1) rfl rfl]
 have e:∀ a b:Nat,((a:Int) == (b:Int))=decide (a=b):=λa b=>by
  rw[Bool.eq_iff_iff,beq_iff_eq,decide_eq_true_eq];lia
 cases x<;>simp[fd1,bd1,dF,a1v,e]
theorem b7x (d:Nat){ws ss as:List Int}{r:Int}(h:Rwo ws ss)(ha:Ask ws.length as r){P:Nat->PT}(hP:∀ j,j<=ws.length->Bst okT (sc ws ss as r) ws.length j (some (P j))){Q:FV×FV->Prop}(q:Q (c9k P ws.length,.non)):callW tb (d+4) 17 [a2o ws ss,a9y as,.int r] Q:=by
 have hn:=h.hn
 refine a0e (fd:=e2a) rfl rfl ?_
 simp[e2a,d6n]
 refine b5c d h ha hP ?_
 simp
 refine⟨by simp[big];lia,?_⟩
 refine a0l (f:=λj=>a3d (P j)) (g:=λj=>.int (P j).1) (List.range (ws.length+1)) [] (λj hj K k=>?_) ?_
 ·simp[a3d]
  exact k
 ·simp
  exact q
theorem b4k (d:Nat){ws ss:List Int}(h:Rwo ws ss){es:List Nat}(he:es.length=ws.length)(hb:∀ e∈es,e<=ws.length){Q:FV×FV->Prop}(q:∀ o,Bst (λi e=>decide (e<=es.getD i 0)) (a0w ws ss) ws.length 0 o->Q (c0h o,.non)) :
  callW tb (d+2) 27 [a2o ws ss,.lst (es.map λi:Nat=>.int i)] Q:=by
 have hn:=h.hn
 have hl:=h.hl
 refine a0e (fd:=e1r) rfl rfl ?_
 simp[e1r,e3s,a0z,big]
 refine⟨a0f (by lia) (by lia),?_⟩
 rw[a9o]
 refine a4o (f:=λi:Nat=>FV.int i) (I:=λds L=>∃ (ks:List Int)(vs:List FV)(B:Nat->Option PT) (i:Nat)(a b c e f:Option FV),L=[some (a2o ws ss),some (.lst (es.map λi:Nat=>.int i)),some (.int ws.length),some (.dci ks vs),a,b,c,e,f]/\i+ds.length=ws.length/\ks.length=vs.length/\ks.length<=ds.length+1 /\
   (∀ j:Nat,j<=ws.length->a2f ks vs (j:Int)=if i<=j then (B j).map a3d else none)/\∀ j,i<=j->j<=ws.length->Bst (λi e=>decide (e<=es.getD i 0)) (a0w ws ss) ws.length j (B j)) (List.range ws.length).reverse (List.range ws.length).reverse [] _ rfl ?_ ?_ ?_
 ·refine⟨_,_,λj=>if j=ws.length then some (0,[]) else none,ws.length,_,_,_,_,_,rfl,rfl,rfl,by simp,λj hj=>?_,λj h1 h2=>?_⟩
  ·by_cases e:j=ws.length
   ·subst e;simp[a2f,a3d]
   ·have:¬ (ws.length:Int)=(j:Int):=by lia
    rw[if_neg (by lia)]
    simp[a2f,this]
  ·have:j=ws.length:=by lia
   subst this
   simp only[if_true]
   exact a9u
 ·rintro ds x r L K e ⟨ks,vs,B,i,a,b,c,e1,f1,rfl,hi,hkl,hks,hg,hB⟩ k
  have hx:x+1=i:=by
   have e2:=congrArg (λl=>l[ds.length]?) e
   have hd:ds.length<ws.length:=by have:=congrArg List.length e;simp at this;lia
   simp[List.getElem?_reverse,hd] at e2
   lia
  subst hx
  have hxn:x<ws.length:=by lia
  have hd:ds.length<30:=by lia
  obtain⟨E,hE⟩:∃ E,es.getD x 0=E:=⟨_,rfl⟩
  have hex:es[x]?=some E:=by rw[<- hE,List.getD,List.getElem?_eq_getElem (by lia)];rfl
  have hel:E<=ws.length:=hb _ (List.mem_of_getElem? hex)
  simp
  rw[a2s (n:=x) rfl (show (es.map λi:Nat=>FV.int i)[x]?=some (.int E) by rw[List.getElem?_map,hex];rfl)]
  simp
  refine⟨⟨a0f (by lia) (by lia),a0f (by lia) (by lia)⟩,?_⟩
  have hg1:∀ j:Nat,x<j->j<=ws.length->a2f ks vs (j:Int)=(B j).map a3d:=λj h1 h2=>by rw[hg j h2,if_pos (show x+1<=j from h1)]
  rw[show ((x:Int)+1)=((x+1:Nat):Int) by lia]
  refine a2r (I:=λj L=>∃ c e f,L=[some (a2o ws ss),some (.lst (es.map λi:Nat=>.int i)),some (.int ws.length),some (.dci ks vs),some (.int x),some (.lst (((List.range' (x+1) (j-(x+1))).filterMap λe=>(B e).map λq:PT=>(a0w ws ss x e+q.1,x :: q.2)).map a3d)),c,e,f]) _ (x+1) _ ⟨c,e1,f1,by simp⟩ ?_ ?_
  ·rintro j L K2 hj1 hj2 ⟨c,e,f,rfl⟩ k2
   have hjn:j<=ws.length:=by lia
   have hr:List.range' (x+1) (j+1-(x+1))=List.range' (x+1) (j-(x+1))++[j]:=by
    rw[show j+1-(x+1)=(j-(x+1))+1 by lia,List.range'_concat]
    congr 2;lia
   have hlen:((List.range' (x+1) (j-(x+1))).filterMap λe=>(B e).map λq:PT=>(a0w ws ss x e+q.1,x :: q.2)).length<=30:=by
    refine Nat.le_trans (List.length_filterMap_le _ _) ?_
    simp;lia
   simp
   have hmem:((j:Int)∈ks)↔(B j).isSome=true:=by
    rw[<- a2b (vs:=vs) (j:Int) hkl,hg1 j (by lia) hjn]
    cases B j<;>simp
   cases hBj:B j with
   | none =>
    rw[hBj] at hmem
    rw[if_neg (by simpa using hmem)]
    refine k2 _ ?_
    rw[hr,List.filterMap_append,show [j].filterMap (λe=>(B e).map λq:PT=>(a0w ws ss x e+q.1,x :: q.2))=[] by simp[hBj],List.append_nil]
    exact⟨_,_,_,rfl⟩
   | some p =>
    rw[hBj] at hmem
    rw[if_pos (by simpa using hmem)]
    have hgj:=hg1 j (by lia) hjn
    rw[hBj] at hgj
    rw[hgj]
    simp[a3d]
    have hpl:p.2.length<=30:=by
     have b1:=hB j (by lia) hjn
     rw[hBj] at b1
     have b2:=b3o b1.2.2.1
     lia
    refine a8q d h hxn (by lia) rfl ?_
    simp[big]
    refine⟨by lia,by lia,?_⟩
    refine k2 _ ?_
    rw[hr,List.filterMap_append,show [j].filterMap (λe=>(B e).map λq:PT=>(a0w ws ss x e+q.1,x :: q.2))=[(a0w ws ss x j+p.1,x :: p.2)] by simp[hBj],List.map_append]
    exact⟨_,_,_,rfl⟩
  ·rintro L ⟨c,e,f,rfl⟩
   rw[show x+1+((E:Int)+1-((x+1:Nat):Int)).toNat-(x+1)=E-x by lia]
   generalize hps:((List.range' (x+1) (E-x)).filterMap λe=>(B e).map λq:PT=>(a0w ws ss x e+q.1,x :: q.2))=ps
   have hin:∀ p,p∈ps↔∃ e,x<e/\e<=E/\∃ q,B e=some q/\p=(a0w ws ss x e+q.1,x :: q.2):=by
    intro p
    rw[<- hps,List.mem_filterMap]
    constructor
    ·rintro⟨e,he,h2⟩
     obtain⟨q,hq,rfl⟩:=Option.map_eq_some_iff.mp h2
     have:=List.mem_range'_1.mp he
     exact⟨e,by lia,by lia,q,hq,rfl⟩
    ·rintro⟨e,h1,h2,q,hq,rfl⟩
     exact⟨e,List.mem_range'_1.mpr (by lia),by rw[hq];rfl⟩
   simp
   cases ps with
   | nil =>
    simp
    refine k _ ⟨ks,vs,λj=>if j=x then none else B j,x,_,_,_,_,_,rfl,by simp;lia,hkl,by simp;lia,λj hj=>?_,λj h1 h2=>?_⟩
    ·rw[hg j hj]
     by_cases e:j=x
     ·subst e;rw[if_neg (by lia)];simp
     ·by_cases e2:x<=j
      ·rw[if_pos e2,if_pos (by lia)];simp[e]
      ·rw[if_neg e2,if_neg (by lia)]
    ·by_cases e:j=x
     ·subst e
      simp only[if_true]
      refine b5e hxn λe h3 h4 h5=>?_
      have h5:e<=E:=by rw[<- hE];exact of_decide_eq_true h5
      cases hBe:B e with
      | none=>have:=hB e (by lia) h4;rw[hBe] at this;exact this
      | some p=>exact absurd ((hin _).mpr ⟨e,h3,h5,p,hBe,rfl⟩) (by simp)
     ·simp only[e,if_false]
      exact hB j (by lia) h2
   | cons p0 pr =>
    simp only[List.map_cons,List.isEmpty_cons,Bool.not_false,if_true]
    rw[<- List.map_cons,minP]
    simp[big]
    refine⟨by lia,?_⟩
    have pl:=a5p ks vs (x:Int) (a3d (a0y ltP p0 pr)) hkl
    refine k _ ⟨_,_,λj=>if j=x then some (a0y ltP p0 pr) else B j,x,_,_,_,_,_,rfl,by simp;lia,pl.1,by simp;lia,λj hj=>?_,λj h1 h2=>?_⟩
    ·rw[c3u _ _ _ hkl,hg j hj]
     by_cases e:j=x
     ·subst e;simp
     ·have:¬ (j:Int)=(x:Int):=by lia
      rw[if_neg this]
      by_cases e2:x<=j
      ·rw[if_pos e2,if_pos (by lia)];simp[e]
      ·rw[if_neg e2,if_neg (by lia)]
    ·by_cases e:j=x
     ·subst e
      simp only[if_true]
      have hm:=(hin _).mp (a5u ltP pr p0)
      obtain⟨e,h3,h4,q0,h5,h6⟩:=hm
      refine a9t (B:=B) hxn (λe h1 h2=>hB e (by lia) h2) ⟨e,h3,by lia,decide_eq_true (by rw[hE];exact h4),q0,h5,h6⟩ λe' q' h7 h8 h9 h10=>?_
      exact a5t pr p0 _ ((hin _).mpr ⟨e',h7,by rw[<- hE];exact of_decide_eq_true h9,q',h10,rfl⟩)
     ·simp only[e,if_false]
      exact hB j (by lia) h2
 ·rintro L ⟨ks,vs,B,i,a,b,c,e,f,rfl,hi,hkl,hks,hg,hB⟩
  have hi0:i=0:=by simp at hi;lia
  subst hi0
  simp
  have h0:=hg 0 (by lia)
  simp at h0
  rw[h0]
  have:=q (B 0) (hB 0 (Γi _) (by lia))
  cases hb0:B 0 with
  | none=>rw[hb0] at this;exact this
  | some p=>rw[hb0] at this;exact this
noncomputable def encI:Option Int->FV
 | none=>.non
 | some i=>.int i
noncomputable def leO (x:Int):Option Int->Bool
 | none=>true
 | some m=>decide (x<=m)
noncomputable def okM (ws ss:List Int)(md mr:Option Int) (b e:Nat):Bool:=leO ((e:Int)-b-1) md && leO (a0w ws ss b e) mr
theorem c8h (d:Nat){ws ss:List Int}(h:Rwo ws ss){b e:Nat}(hb:b<ws.length)(he:b<e){i:Int}(hi:i=e){Q:FV×FV->Prop}(q:Q (.int (a0w ws ss b e),.non)):callW tb (d+1) 37 [a2o ws ss,.int b,.int i] Q:=by
 have hn:=h.hn
 have hl:=h.hl
 have e1:e=(e-1)+1:=by lia
 rw[e1] at q
 exact b2q d h.hs (by lia) (show b<=e-1 by lia) hb (by lia) q
noncomputable def fstO (o:Option PT):Option Int:=o.map (·.1)
theorem b0c {ws ss:List Int}(h:Rwo ws ss){b e e':Nat}(h2:e<=e'):a0w ws ss b e<=a0w ws ss b e':=by
 have go:∀ (xs:List Int) (i j:Nat),(∀ x∈xs,0<=x)->i<=j->(xs.take i).sum<=(xs.take j).sum:=by
  intro xs
  induction xs with
  | nil=>intro i j _ _;simp
  | cons x r ih =>
   intro i j hx hij
   cases i with
   | zero =>
    cases j with
    | zero=>simp
    | succ j =>
     have:=ih 0 j (λy hy=>hx y (Γh _ hy)) (Nat.zero_le _)
     have:=hx x (by simp)
     simp at *;lia
   | succ i =>
    cases j with
    | zero=>lia
    | succ j =>
     have:=ih i j (λy hy=>hx y (Γh _ hy)) (by lia)
     simp;lia
 have:=go (ss.drop b) (e-1-b) (e'-1-b) (λx hx=>by have:=h.hs x (List.mem_of_mem_drop hx);lia) (by lia)
 unfold a0w;lia
theorem c6z (d:Nat){ws ss:List Int}(h:Rwo ws ss){b:Nat}{m:Int}(hb:b<ws.length){Q:FV×FV->Prop}(q:∀ E:Nat,b<=E->E<=ws.length->(∀ e,b<e->e<=ws.length->(e<=E↔a0w ws ss b e<=m))->Q (.int E,.non)):callW tb (d+2) 26 [a2o ws ss,.int b,.int m] Q:=by
 have hn:=h.hn
 refine a0e (fd:=e1s) rfl rfl ?_
 simp[e1s,e3t]
 refine while_by (I:=λk L=>∃ E:Nat,L=[some (a2o ws ss),some (.int b),some (.int m),some (.int E)]/\k=ws.length-E/\b<=E/\E<=ws.length/\(b<E->a0w ws ss b E<=m)) ?_ (m:=ws.length-b) ⟨b,rfl,rfl,Γi _,by lia,λz=>by lia⟩
 rintro k L K ⟨E,rfl,hk,h1,h2,h3⟩ kk
 have fin:(E=ws.length ∨ m<a0w ws ss b (E+1))->Q (.int E,.non):=λhf=>by
  refine q E h1 h2 λe h4 h5=>⟨λh6=>?_,λh6=>?_⟩
  ·have:=b0c h (b:=b) h6
   have:=h3 (by lia)
   lia
  ·rcases hf with hf|hf
   ·lia
   ·refine Nat.le_of_not_lt λh7=>?_
    have:=b0c h (b:=b) (show E+1<=e from h7)
    lia
 simp[a0z]
 refine ite2 (λhlt=>?_) (λhge=>?_)
 ·refine a8q d h hb (e:=E+1) (by lia) (by lia) ?_
  simp
  refine ite2 (λh4=>?_) (λh4=>?_)
  ·exact kk (ws.length-(E+1)) _ (by lia) ⟨E+1,by simp,rfl,by lia,by lia,λ_=>h4⟩
  ·exact fin (.inr (by lia))
 ·exact fin (.inl (by lia))
theorem a5x (d:Nat){ws ss:List Int}(h:Rwo ws ss) (m:Int){Q:FV×FV->Prop}(q:∀ o,Bst (okM ws ss none (some m)) (a0w ws ss) ws.length 0 o->Q (c0h o,.non)):callW tb (d+3) 25 [a2o ws ss,.int m] Q:=by
 have hn:=h.hn
 refine a0e (fd:=e1t) rfl rfl ?_
 simp[e1t,d6k,a0z]
 refine⟨a0f (by lia) (by lia),?_⟩
 rw[a1l]
 refine⟨by simp[big];lia,?_⟩
 refine a3s (f:=λi:Nat=>FV.int i) (I:=λds acc L=>∃ es:List Nat,L=[some (a2o ws ss),some (.int m)]/\acc=es.map (λi:Nat=>.int i)/\es.length=ds.length/\(∀ x∈es,x<=ws.length)/\∀ b,b<es.length->∀ e,b<e->e<=ws.length->(e<=es.getD b 0↔a0w ws ss b e<=m)) (List.range ws.length) (List.range ws.length) [] [] _ rfl ⟨[],rfl,rfl,rfl,by simp,by simp⟩ ?_ ?_
 ·rintro ds x r acc L K e ⟨es,rfl,rfl,hl,hb,hE⟩ k
  have hx:x=ds.length:=by
   have e2:=congrArg (λl=>l[ds.length]?) e
   have hd:ds.length<ws.length:=by have:=congrArg List.length e;simp at this;lia
   simp[hd] at e2;lia
  have hxn:x<ws.length:=by have:=congrArg List.length e;simp at this;lia
  simp
  refine c6z d h hxn λE h1 h2 h3=>?_
  refine k _ _ ⟨es++[E],rfl,by simp,by simp[hl],?_,?_⟩
  ·intro y hy
   rcases List.mem_append.mp hy with hy|hy
   ·exact hb y hy
   ·simp at hy;lia
  ·intro b hb' e' h4 h5
   have hb':b<es.length+1:=by simpa using hb'
   by_cases z:b<es.length
   ·rw[List.getD,List.getElem?_append_left z]
    exact hE b z e' h4 h5
   ·have:b=x:=by lia
    subst this
    have:(es++[E]).getD b 0=E:=by rw[List.getD,List.getElem?_append_right (by lia),show b-es.length=0 by lia];rfl
    rw[this];exact h3 e' h4 h5
 ·rintro ys L ⟨es,rfl,rfl,hl,hb,hE⟩
  simp at hl
  refine b4k d h hl hb λo ho=>q o (a7a (λa e h1 h2=>?_) ho)
  have:=hE a (by lia) e h1 h2
  simp only[okM,leO,Bool.true_and]
  exact decide_eq_decide.mpr this
theorem a5l (d:Nat){ws ss:List Int}(h:Rwo ws ss){m:Nat}(hm:m<=1000){Q:FV×FV->Prop}(q:∀ o,Bst (okM ws ss (some (m:Int)) none) (a0w ws ss) ws.length 0 o->Q (c0h o,.non)):callW tb (d+3) 24 [a2o ws ss,.int m] Q:=by
 have hn:=h.hn
 refine a0e (fd:=e1u) rfl rfl ?_
 simp[e1u,e3u,a0z]
 refine⟨a0f (by lia) (by lia),?_⟩
 rw[a1l]
 refine⟨by simp[big];lia,?_⟩
 refine a0l (f:=λi:Nat=>FV.int i) (g:=λi:Nat=>FV.int ((min (i+m+1) ws.length:Nat):Int)) (List.range ws.length) [] (λi hi K k=>?_) ?_
 ·simp
  have e:(if (ws.length:Int)<(i:Int)+m+1 then (ws.length:Int) else (i:Int)+m+1)=((min (i+m+1) ws.length:Nat):Int):=by split<;>lia
  rw[e];exact k
 ·rw[List.nil_append,show (List.range ws.length).map (λi:Nat=>FV.int ((min (i+m+1) ws.length:Nat):Int))=((List.range ws.length).map λi=>min (i+m+1) ws.length).map λi:Nat=>FV.int i by simp]
  refine b4k (d+1) h (by simp) (λe he=>?_) λo ho=>q o (a7a (λa e h1 h2=>?_) ho)
  ·obtain⟨i,_,rfl⟩:=List.mem_map.mp he
   exact Nat.min_le_right _ _
  ·have:((List.range ws.length).map λi=>min (i+m+1) ws.length).getD a 0=min (a+m+1) ws.length:=by simp[List.getD,show a<ws.length by lia]
   rw[this]
   simp only[okM,leO,Bool.and_true]
   exact decide_eq_decide.mpr ⟨λz=>by lia,λz=>by lia⟩
theorem c0q {ws ss:List Int}{m:Int}(hm:0<=m){o:Option PT}(h:Bst (okM ws ss (some m) none) (a0w ws ss) ws.length 0 o):∃ p,o=some p:=by
 cases o with
 | some p=>exact⟨p,rfl⟩
 | none =>
  have:=b7g (ok:=okM ws ss (some m) none) (n:=ws.length) (λi _=>by simp only[okM,leO,Bool.and_true];exact decide_eq_true (by lia)) ws.length (Γi _)
  rw[Nat.sub_self] at this
  exact absurd this.1 (h _ this.2)
noncomputable def Tld (ws ss:List Int)(T:Nat->PT):Prop:=∀ i,i<ws.length->Bst (okM ws ss (some (i:Int)) none) (a0w ws ss) ws.length 0 (some (T i))
theorem c6e (ws ss:List Int):∃ T,Tld ws ss T:=by
 have:∀ i:Nat,∃ p:PT,Bst (okM ws ss (some (i:Int)) none) (a0w ws ss) ws.length 0 (some p):=λi=>by
  obtain⟨o,ho⟩:=b5d (okM ws ss (some (i:Int)) none) (a0w ws ss) ws.length
  obtain⟨p,rfl⟩:=c0q (by lia) ho
  exact⟨p,ho⟩
 obtain⟨T,hT⟩:=Classical.axiomOfChoice this
 exact⟨T,λi _=>hT i⟩
noncomputable def gd (f:Nat->Int) (i:Nat):Bool:=(List.range i).all λj=>decide (f i<f j)
theorem gd_iff {f:Nat->Int}{i:Nat}:gd f i=true↔∀ j,j<i->f i<f j:=by simp[gd]
noncomputable def nbt (f:Nat->Int) (n:Nat):List Nat:=(List.range n).filter (gd f)
theorem a8y (f:Nat->Int) (n:Nat):nbt f (n+1)=if gd f n=true then nbt f n++[n] else nbt f n:=by
 unfold nbt
 rw[List.range_succ,List.filter_append]
 by_cases h:gd f n=true
 ·rw[if_pos h];simp[h]
 ·rw[if_neg h];simp[h]
theorem a5r (f:Nat->Int):∀ n,∃ r l,nbt f (n+1)=r++[l]/\l<n+1/\∀ j,j<n+1->f l<=f j
 | 0=>by
  refine⟨[],0,by simp[nbt,gd],by lia,λj hj=>?_⟩
  have:j=0:=by lia
  subst this
  exact Int.le_refl _
 | n+1=>by
  obtain⟨r,l,h1,h2,h3⟩:=a5r f n
  rw[a8y,h1]
  by_cases h:gd f (n+1)=true
  ·refine⟨r++[l],n+1,by rw[if_pos h],by lia,λj hj=>?_⟩
   by_cases e:j=n+1
   ·subst e;exact Int.le_refl _
   ·exact Int.le_of_lt (gd_iff.mp h j (by lia))
  ·refine⟨r,l,by rw[if_neg h],by lia,λj hj=>?_⟩
   by_cases e:j=n+1
   ·subst e
    refine Int.not_lt.mp λz=>h (gd_iff.mpr λj hj=>?_)
    have:=h3 j hj
    lia
   ·exact h3 j (by lia)
theorem c9a {f:Nat->Int}{n l:Nat}{r:List Nat}(h1:nbt f n=r++[l]):gd f n=true↔f n<f l:=by
 cases n with
 | zero=>simp[nbt] at h1
 | succ n =>
  obtain⟨r',l',g1,g2,g3⟩:=a5r f n
  rw[g1] at h1
  have e:l'=l:=by
   have:=congrArg List.getLast? h1
   simpa using this
  subst e
  exact⟨λh=>gd_iff.mp h l' g2,λh=>gd_iff.mpr λj hj=>by have:=g3 j hj;lia⟩
theorem c3e (f:Nat->Int) (n:Nat):(nbt f n=[]/\gd f n=true) ∨ ∃ r l,nbt f n=r++[l]/\(gd f n=true↔f n<f l):=by
 cases n with
 | zero=>exact .inl ⟨by simp[nbt],by simp[gd]⟩
 | succ n =>
  obtain⟨r,l,h1,h2,h3⟩:=a5r f n
  exact .inr ⟨r,l,h1,c9a h1⟩
theorem b2g (f:Nat->Int) (n:Nat):(nbt f n).length<=n:=by
 have:=List.length_filter_le (gd f) (List.range n)
 simpa[nbt] using this
noncomputable def b4t (f:Nat->Int) (i:Nat):FV:=.tup [.int i,.int (f i)]
noncomputable def d5y (f:Nat->Int) (n:Nat):FV:=.lst ((nbt f n).map (b4t f))
theorem d2y (d:Nat){ws ss:List Int}(h:Rwo ws ss){T:Nat->PT}(hT:Tld ws ss T){Q:FV×FV->Prop}(q:Q (d5y (λi=>(T i).1) ws.length,.non)):callW tb (d+4) 30 [a2o ws ss] Q:=by
 have hn:=h.hn
 refine a0e (fd:=e1o) rfl rfl ?_
 simp[e1o,e3p,a0z]
 refine⟨a0f (by lia) (by lia),?_⟩
 obtain⟨f,hf⟩:∃ f,f=λi=>(T i).1:=⟨_,rfl⟩
 refine a2r (I:=λt L=>∃ a b,L=[some (a2o ws ss),some (.lst ((nbt f t).map (b4t f))),a,b]) ws.length 0 _ ⟨none,none,by simp[nbt]⟩ ?_ ?_
 ·rintro t L K-ht ⟨a,b,rfl⟩ k
  simp
  refine a5l d h (by lia) λo ho=>?_
  cases ho.uniq (hT t (by lia))
  simp[c0h,a3d]
  have hl:=b2g f t
  have hft:(T t).1=f t:=by rw[hf]
  rw[hft]
  have fin:gd f t=true->2<=big/\(nbt f t).length<big/\K [some (a2o ws ss),some (.lst ((nbt f t).map (b4t f)++[.tup [.int t,.int (f t)]])),some (.int t),some (.int (f t))]:=λhg =>
   ⟨by decide,by simp only[big];lia,k _ ⟨_,_,by rw[a8y,if_pos hg,List.map_append];rfl⟩⟩
  have non:gd f t=false->K [some (a2o ws ss),some (.lst ((nbt f t).map (b4t f))),some (.int t),some (.int (f t))]:=λhg =>
   k _ ⟨_,_,by rw[a8y,if_neg (by rw[hg];exact Γk)]⟩
  rcases c3e f t with⟨h1,h2⟩|⟨r,l,h1,h2⟩
  ·rw[if_pos h1];exact fin h2
  ·rw[if_neg (by rw[h1];simp)]
   have e:wp (atF ((nbt f t).map (b4t f)) (-1))=wp (some (b4t f l)):=by
    funext Q2
    rw[h1,List.map_append]
    exact propext (c9z _ _ _)
   rw[e]
   simp[b4t]
   refine ite2 (λh3=>fin (h2.mpr h3)) (λh3=>non ?_)
   cases z:gd f t with
   | false=>rfl
   | true=>exact absurd (h2.mp z) h3
 ·rintro L ⟨a,b,rfl⟩
  simp
  rw[hf];exact q
noncomputable def dp (n:Nat)(ks:List Nat):Int:=mx ((a4a ks n).map λp=>(p.2:Int)-p.1-1)
theorem d2z {xs:List Int}(h:xs≠[]):mx xs∈xs:=by
 cases xs with
 | nil=>exact absurd rfl h
 | cons x r=>exact a5s r x
theorem d3a {xs:List Int}{x:Int}(h:x∈xs):x<=mx xs:=by
 cases xs with
 | nil=>cases h
 | cons y r =>
  rcases List.mem_cons.mp h with rfl|h
  ·exact (a6f r x).1
  ·exact (a6f r y).2 x h
section
variable {ws ss:List Int}{T:Nat->PT}{n:Nat}
theorem d4g {ks:List Nat}(hks:ks∈AK n) (i:Nat):dp (n+1) ks<=i↔vp (okM ws ss (some (i:Int)) none) (n+1) ks:=by
 obtain⟨⟨r,er⟩,hs,hk,_⟩:=a7c n ks hks
 have hok:=a1w hs (λx hx=>Nat.lt_succ_of_le (hk x hx))
 have hne:(a4a ks (n+1)).map (λp=>(p.2:Int)-p.1-1)≠[]:=by rw[er];simp[a4a]
 rw[a4u]
 constructor
 ·intro h p hp
  refine⟨(hok p hp).2.1,?_⟩
  have:=d3a (List.mem_map_of_mem (f:=λp:Nat×Nat=>(p.2:Int)-p.1-1) hp)
  unfold dp at h
  simp only[okM,leO,Bool.and_true,decide_eq_true_eq]
  lia
 ·intro h
  obtain⟨p,hp,e⟩:=List.mem_map.mp (d2z hne)
  have:=(h p hp).2
  simp only[okM,leO,Bool.and_true,decide_eq_true_eq] at this
  unfold dp
  lia
theorem c5u {ks:List Nat}(hks:ks∈AK n):0<=dp (n+1) ks/\dp (n+1) ks<=n:=by
 obtain⟨⟨r,er⟩,hs,hk,_⟩:=a7c n ks hks
 have hok:=a1w hs (λx hx=>Nat.lt_succ_of_le (hk x hx))
 have hne:(a4a ks (n+1)).map (λp=>(p.2:Int)-p.1-1)≠[]:=by rw[er];simp[a4a]
 obtain⟨p,hp,e⟩:=List.mem_map.mp (d2z hne)
 obtain⟨_,g1,g2,_⟩:=hok p hp
 unfold dp
 lia
theorem T_le (hn:ws.length=n+1)(hT:Tld ws ss T){i:Nat}(hi:i<n+1){ks:List Nat}(hks:ks∈AK n)(h:dp (n+1) ks<=i):(T i).1<=pc (a0w ws ss) (n+1) ks:=by
 have b:=hT i (by lia)
 rw[hn] at b
 obtain⟨⟨r,er⟩,_⟩:=a7c n ks hks
 exact a4v (b.2.2.2 ks (by rw[er];rfl) ((d4g hks i).mp h))
theorem T_in (hn:ws.length=n+1)(hT:Tld ws ss T){i:Nat}(hi:i<n+1):(T i).2∈AK n/\(T i).1=pc (a0w ws ss) (n+1) (T i).2/\dp (n+1) (T i).2<=i:=by
 have b:=hT i (by lia)
 rw[hn] at b
 obtain⟨b1,b2,b3,_⟩:=b
 obtain⟨v1,v2,_⟩:=b1x b3
 have hin:(T i).2∈AK n:=by
  cases e:(T i).2 with
  | nil=>rw[e] at b2;simp[nxt] at b2
  | cons k r =>
   rw[e] at b2 v1 v2
   cases (show k=0 from b2)
   exact b1t n r v2 λx hx=>by have:=v1 x (Γh _ hx);lia
 exact⟨hin,b1,(d4g hin i).mpr b3⟩
end
noncomputable def encF (T:Nat->PT):Option Nat->FV
 | none=>.non
 | some i=>.tup [.int i,.int (T i).1,.tup ((T i).2.map λi:Nat=>.int i)]
noncomputable def a5c (T:Nat->PT) (n:Nat) (m:Int):Option Nat:=(List.range n).find? λi=>decide ((T i).1<=m)
theorem b6e {T:Nat->PT}{n:Nat}{m:Int}{ds:List Nat}{x:Nat}{r:List Nat}(e:List.range n=ds++x :: r)(h:∀ i∈ds,¬ (T i).1<=m)(hx:(T x).1<=m):a5c T n m=some x:=by
 unfold a5c
 rw[e,List.find?_append,List.find?_eq_none.mpr (by simpa using h)]
 simp[hx]
theorem c3w {T:Nat->PT}{n:Nat}{m:Int}(h:∀ i∈List.range n,¬ (T i).1<=m):a5c T n m=none:=by
 unfold a5c
 exact List.find?_eq_none.mpr (by simpa using h)
theorem c9p (d:Nat){ws ss:List Int}(h:Rwo ws ss){T:Nat->PT}(hT:Tld ws ss T) (m:Int){Q:FV×FV->Prop}(q:Q (encF T (a5c T ws.length m),.non)):callW tb (d+4) 28 [a2o ws ss,.int m] Q:=by
 have hn:=h.hn
 refine a0e (fd:=e1q) rfl rfl ?_
 simp[e1q,e3r,a0z]
 refine⟨a0f (by lia) (by lia),?_⟩
 rw[a1l]
 refine a4o (f:=λi:Nat=>FV.int i) (I:=λds L=>∃ a b c,L=[some (a2o ws ss),some (.int m),a,b,c]/\∀ i∈ds,¬ (T i).1<=m) (List.range ws.length) (List.range ws.length) [] _ rfl ⟨_,_,_,rfl,by simp⟩ ?_ ?_
 ·rintro ds x r L K e ⟨a,b,c,rfl,hd⟩ k
  have hx:x<ws.length:=List.mem_range.mp (by rw[e];simp)
  simp
  refine a5l d h (by lia) λo ho=>?_
  cases ho.uniq (hT x hx)
  simp[c0h,a3d]
  refine ite2 (λhle=>?_) (λhgt=>?_)
  ·rw[b6e e hd hle] at q
   exact⟨by decide,q⟩
  ·refine k _ ⟨_,_,_,rfl,λi hi=>?_⟩
   rcases List.mem_append.mp hi with hi|hi
   ·exact hd i hi
   ·simp at hi;subst hi;lia
 ·rintro L ⟨a,b,c,rfl,hd⟩
  simp
  rw[c3w hd] at q
  exact q
noncomputable def b6x (ws ss:List Int) (M m:Int):Prop:=∃ p,Bst (okM ws ss none (some m)) (a0w ws ss) ws.length 0 (some p)/\p.1<=M
theorem c5g {ws ss:List Int}{m m':Int}(hm:m<=m') (a e:Nat)(h:okM ws ss none (some m) a e=true):okM ws ss none (some m') a e=true:=by
 simp only[okM,leO,Bool.true_and,decide_eq_true_eq] at h ⊢
 lia
theorem c5z {ok ok':Nat->Nat->Bool}{n:Nat}(hk:∀ a e,ok a e=true->ok' a e=true):∀ {ks:List Nat},vp ok n ks->vp ok' n ks
 | [],_=>trivial
 | _ :: _,⟨a,b,d⟩=>⟨a,hk _ _ b,c5z hk d⟩
theorem c4r {ws ss:List Int}{n:Nat}{m:Int}:∀ {ks:List Nat},ks≠[]->vp (okM ws ss none (some m)) n ks->∃ a e,a<e/\e<=n/\a0w ws ss a e<=m/\vp (okM ws ss none (some (a0w ws ss a e))) n ks
 | [],h,_=>absurd rfl h
 | k :: r,_,⟨a,b,d⟩=>by
  have hb:a0w ws ss k (nxt n r)<=m:=by simpa only[okM,leO,Bool.true_and,decide_eq_true_eq] using b
  have ok0:∀ m',a0w ws ss k (nxt n r)<=m'->okM ws ss none (some m') k (nxt n r)=true:=λm' h=>by simpa only[okM,leO,Bool.true_and,decide_eq_true_eq] using h
  by_cases hr:r=[]
  ·subst hr
   exact⟨k,_,a,a6e d,hb,a,ok0 _ (Int.le_refl _),trivial⟩
  ·obtain⟨a',e',h1,h2,h3,h4⟩:=c4r hr d
   by_cases hc:a0w ws ss k (nxt n r)<=a0w ws ss a' e'
   ·exact⟨a',e',h1,h2,h3,a,ok0 _ hc,h4⟩
   ·exact⟨k,_,a,a6e d,hb,a,ok0 _ (Int.le_refl _),c5z (c5g (by lia)) h4⟩
theorem c0c {ws ss:List Int}{M m:Int}{ks:List Nat}(h1:nxt ws.length ks=0)(h2:vp (okM ws ss none (some m)) ws.length ks)(h3:pc (a0w ws ss) ws.length ks<=M):b6x ws ss M m:=by
 obtain⟨o,ho⟩:=b5d (okM ws ss none (some m)) (a0w ws ss) ws.length
 cases o with
 | none=>exact absurd h2 (ho _ h1)
 | some p =>
  have:=a4v (ho.2.2.2 ks h1 h2)
  exact⟨p,ho,by dsimp only at this;lia⟩
theorem d3t {ws ss:List Int}{M m m':Int}(h:b6x ws ss M m)(hm:m<=m'):b6x ws ss M m':=by
 obtain⟨p,hp,hl⟩:=h
 exact c0c hp.2.1 (c5z (c5g hm) hp.2.2.1) (by rw[<- hp.1];exact hl)
theorem c9f {ws ss:List Int}{M m:Int}(hn:1<=ws.length)(h:b6x ws ss M m):∃ a e,a<e/\e<=ws.length/\a0w ws ss a e<=m/\b6x ws ss M (a0w ws ss a e):=by
 obtain⟨p,hp,hl⟩:=h
 have hne:p.2≠[]:=λe=>by have:=hp.2.1;rw[e] at this;simp[nxt] at this;simp[this] at hn
 obtain⟨a,e,h1,h2,h3,h4⟩:=c4r hne hp.2.2.1
 exact⟨a,e,h1,h2,h3,c0c hp.2.1 h4 (by rw[<- hp.1];exact hl)⟩
noncomputable def encG:Option (Int×PT)->FV
 | none=>.non
 | some q=>.tup [.int q.1,.int q.2.1,.tup (q.2.2.map λi:Nat=>.int i)]
noncomputable def Res (ws ss:List Int) (M:Int):Option (Int×PT)->Prop
 | none=>∀ m,¬ b6x ws ss M m
 | some q=>Bst (okM ws ss none (some q.1)) (a0w ws ss) ws.length 0 (some q.2)/\q.2.1<=M/\∀ m,b6x ws ss M m->q.1<=m
theorem c6x (d:Nat){ws ss:List Int}(h:Rwo ws ss)(h1:1<=ws.length)(h8:ws.length<=8) (M:Int){Q:FV×FV->Prop}(q:∀ o,Res ws ss M o->Q (encG o,.non)):callW tb (d+4) 29 [a2o ws ss,.int M] Q:=by
 have hn:=h.hn
 refine a0e (fd:=e1p) rfl rfl ?_
 simp[e1p,e3q,a0z]
 refine⟨a0f (by lia) (by lia),?_⟩
 rw[a1l]
 refine a8i (f:=λi:Nat=>FV.int i) (g:=λa=>(List.range' (a+1) (ws.length-a)).map λe=>a0w ws ss a e) (List.range ws.length) [] ?_ ?_ ?_ ?_
 ·intro a ha acc K hacc hK
  have ha:=List.mem_range.mp ha
  simp
  refine⟨⟨a0f (by lia) (by lia),a0f (by lia) (by lia)⟩,?_⟩
  rw[c6b ha (by lia) rfl]
  refine⟨by simp;lia,?_⟩
  refine b9u (f:=λi:Nat=>FV.int i) (g:=λe=>a0w ws ss a e) (P:=λL=>∃ y,L=[some (a2o ws ss),some (.int M),some (.int ws.length),none,none,none,none,none,none,none,some (.int a),y]) (List.range' (a+1) (ws.length-a)) acc _ ⟨none,rfl⟩ ?_ ?_
  ·rintro e he L K2 ⟨y,rfl⟩ k2
   have he:=List.mem_range'_1.mp he
   simp
   exact a8q (d+2) h ha (e:=e) (by lia) rfl (k2 _ ⟨_,rfl⟩)
  ·rintro L ⟨y,rfl⟩
   exact hK
 ·intro a ha
  simp;lia
 ·simp;lia
 ·have few:∀ n,n<=8->((List.range n).map λa=>n-a).sum<=63:=by decide
  have hfl:((List.range ws.length).flatMap (λa=>(List.range' (a+1) (ws.length-a)).map λe=>a0w ws ss a e)).length<=63:=by
   rw[List.length_flatMap]
   simpa using few _ h8
  have hms0:∀ x,x∈(List.range ws.length).flatMap (λa=>(List.range' (a+1) (ws.length-a)).map λe=>a0w ws ss a e)↔∃ a e,a<e/\e<=ws.length/\x=a0w ws ss a e:=λx=>by
   simp only[List.mem_flatMap,List.mem_range,List.mem_map,List.mem_range'_1]
   constructor
   ·rintro⟨a,h1,e,⟨h2,h3⟩,rfl⟩
    exact⟨a,e,by lia,by lia,rfl⟩
   ·rintro⟨a,e,h1,h2,rfl⟩
    exact⟨a,by lia,e,⟨by lia,by lia⟩,rfl⟩
  generalize (List.range ws.length).flatMap (λa=>(List.range' (a+1) (ws.length-a)).map λe=>a0w ws ss a e)=ns at hfl hms0 ⊢
  rw[List.nil_append]
  refine⟨by lia,λms hm hp=>?_⟩
  have hms:∀ x,x∈ms↔∃ a e,a<e/\e<=ws.length/\x=a0w ws ss a e:=λx=>(hm x).trans (hms0 x)
  clear hms0 hm hfl
  simp
  have up:∀ {i j:Nat}{x y:Int},ms[i]?=some x->ms[j]?=some y->i<=j->x<=y:=λ{i j x y} hx hy hij=>by
   obtain⟨hi,rfl⟩:=List.getElem?_eq_some_iff.mp hx
   obtain⟨hj,rfl⟩:=List.getElem?_eq_some_iff.mp hy
   by_cases e:i=j
   ·subst e;exact Int.le_refl _
   ·exact Int.le_of_lt (List.pairwise_iff_getElem.mp hp i j hi hj (by lia))
  refine while_by (I:=λk L=>∃ (lo hi:Nat)(a b:Option FV),L=[some (a2o ws ss),some (.int M),some (.int ws.length),some (.lst (ms.map .int)),some (.int lo),some (.int hi),a,b,none,none]/\k=hi-lo/\lo<=hi/\hi<=ms.length/\(∀ i x,i<lo->ms[i]?=some x->¬ b6x ws ss M x)/\∀ x,ms[hi]?=some x->b6x ws ss M x) ?_ (m:=ms.length) ⟨0,ms.length,none,none,rfl,rfl,Nat.zero_le _,Γi _,λi x z=>by lia,λx hx=>by simp at hx⟩
  rintro k L K ⟨lo,hi,a,b,rfl,hk,l1,l2,l3,l4⟩ kk
  simp
  refine ite2 (λhlt=>?_) (λhge=>?_)
  ·have hmid:((lo:Int)+hi) / 2=((lo+hi) / 2:Nat):=by lia
   obtain⟨mid,hmd⟩:∃ mid,mid=(lo+hi) / 2:=⟨_,rfl⟩
   rw[hmid,<- hmd]
   obtain⟨x,hx⟩:∃ x,ms[mid]?=some x:=⟨_,List.getElem?_eq_getElem (show mid<ms.length by lia)⟩
   have hat:∀ Q:FV->Prop,wp (atF (ms.map FV.int) (mid:Int)) Q↔Q (.int x):=λQ=>a2s rfl (by simp[hx])
   rw[hat]
   refine a5x d h x λo ho=>?_
   have low:¬ b6x ws ss M x->∀ i y,i<mid+1->ms[i]?=some y->¬ b6x ws ss M y:=λhf i y hi hy hf'=>hf (d3t hf' (up hy hx (by lia)))
   cases o with
   | none =>
    simp[c0h]
    exact kk (hi-(mid+1)) _ (by lia) ⟨mid+1,hi,_,_,rfl,rfl,by lia,l2,low λ⟨p,hp,_⟩=>(by cases ho.uniq hp),l4⟩
   | some p =>
    simp[c0h,a3d]
    refine ite2 (λhle=>?_) (λhgt=>?_)
    ·exact kk (mid-lo) _ (by lia) ⟨lo,mid,_,_,rfl,rfl,by lia,by lia,l3,λy hy=>by rw[hx] at hy;cases hy;exact⟨p,ho,hle⟩⟩
    ·exact kk (hi-(mid+1)) _ (by lia) ⟨mid+1,hi,_,_,rfl,rfl,by lia,l2,low λ⟨p',hp,hl⟩=>(by cases ho.uniq hp;exact hgt hl),l4⟩
  ·have find:∀ m,b6x ws ss M m->∃ i y,ms[i]?=some y/\lo<=i/\y<=m:=λm hf=>by
    obtain⟨a,e,g1,g2,g3,g4⟩:=c9f h1 hf
    obtain⟨i,hi⟩:=List.mem_iff_getElem?.mp ((hms _).mpr ⟨a,e,g1,g2,rfl⟩)
    exact⟨i,_,hi,Nat.le_of_not_lt λz=>l3 i _ z hi g4,g3⟩
   refine ite2 (λhe=>?_) (λhne=>?_)
   ·refine q none λm hf=>?_
    obtain⟨i,y,g1,g2,g3⟩:=find m hf
    obtain⟨g4,_⟩:=List.getElem?_eq_some_iff.mp g1
    lia
   ·have e2:lo=hi:=by lia
    subst e2
    obtain⟨x,hx⟩:∃ x,ms[lo]?=some x:=⟨_,List.getElem?_eq_getElem (show lo<ms.length by lia)⟩
    have hat:∀ Q:FV->Prop,wp (atF (ms.map FV.int) (lo:Int)) Q↔Q (.int x):=λQ=>a2s rfl (by simp[hx])
    rw[hat]
    refine a5x d h x λo ho=>?_
    obtain⟨p,hp,hl⟩:=l4 x hx
    cases ho.uniq hp
    simp[c0h,a3d]
    rw[hat]
    refine⟨by decide,?_⟩
    refine q (some (x,p)) ⟨hp,hl,λm hf=>?_⟩
    obtain⟨i,y,g1,g2,g3⟩:=find m hf
    have:=up hx g1 g2
    show x<=m
    lia
noncomputable def KI (n:Nat)(js:List Int):Prop:=js.head?=some 0/\js.Pairwise (· < ·)/\∀ j∈js,j<n
noncomputable instance (n:Nat)(js:List Int):Decidable (KI n js):=Classical.propDecidable _
theorem KI.nat {n:Nat}{js:List Int}(h:KI n js):∃ ks:List Nat,js=ks.map (λi:Nat=>(i:Int))/\0∈ks/\ks.Pairwise (· < ·)/\∀ k∈ks,k<n:=by
 obtain⟨h1,h2,h3⟩:=h
 have h0:∀ j∈js,0<=j:=by
  cases js with
  | nil=>simp
  | cons a r =>
   simp at h1;subst h1
   intro j hj
   rcases List.mem_cons.mp hj with rfl|hj
   ·exact Int.le_refl _
   ·have:=(List.pairwise_cons.mp h2).1 j hj;lia
 have e:js=(js.map Int.toNat).map (λi:Nat=>(i:Int)):=by
  rw[List.map_map]
  conv=>lhs;rw[<- List.map_id js]
  apply List.map_congr_left
  intro j hj
  have:=h0 j hj
  simp;lia
 refine⟨js.map Int.toNat,e,?_,?_,?_⟩
 ·cases js with
  | nil=>simp at h1
  | cons a r=>simp at h1;subst h1;simp
 ·rw[List.pairwise_map]
  refine List.Pairwise.imp_of_mem (λ{a b} ha hb hab=>?_) h2
  have:=h0 a ha;have:=h0 b hb;lia
 ·intro k hk
  obtain⟨j,hj,rfl⟩:=List.mem_map.mp hk
  have:=h0 j hj;have:=h3 j hj;lia
noncomputable def kD (n:Nat):D->Option (List Nat)
 | .tup ds=>if ds.all isI=true/\KI n (ds.map a4c) then some ((ds.map a4c).map Int.toNat) else none
 | _=>none
theorem c8n {n:Nat}{y:D}{ks:List Nat}(h:kD n y=some ks):dF y=a3r ks/\0∈ks/\ks.Pairwise (· < ·)/\∀ k∈ks,k<n:=by
 cases y with
 | tup ds =>
  simp only[kD] at h
  split at h
  ·rename_i hh
   obtain⟨ha,hk⟩:=hh
   cases h
   obtain⟨ks,e,k1,k2,k3⟩:=hk.nat
   have e2:(ds.map a4c).map Int.toNat=ks:=by
    rw[e,List.map_map]
    conv=>rhs;rw[<- List.map_id ks]
    apply List.map_congr_left
    intro j _;simp
   rw[e2]
   refine⟨?_,k1,k2,k3⟩
   rw[dF,a1v,a6p ha,a6y,e,List.map_map];rfl
  ·cases h
 | _=>cases h
noncomputable def mnL (c:Nat->Nat->Int) (n:Nat)(ts:List Int) (b:Nat):Int:=match (List.range' (b+1) (n-b)).map (λe=>c b e+ts.getD e 0) with
 | x :: r=>a1c x r
 | []=>0
theorem d9h {c:Nat->Nat->Int}{n:Nat}{ts:List Int}{b:Nat}(hb:b<n)(Q:FV->Prop):wp (d3d ((List.range' (b+1) (n-b)).map λe=>.int (c b e+ts.getD e 0))) Q↔Q (.int (mnL c n ts b)):=by
 obtain⟨t,ht⟩:∃ t,n-b=t+1:=⟨n-b-1,by lia⟩
 obtain⟨x,r,hx⟩:∃ x r,(List.range' (b+1) (n-b)).map (λe=>c b e+ts.getD e 0)=x :: r:=by rw[ht,List.range'_succ];exact⟨_,_,rfl⟩
 rw[show (List.range' (b+1) (n-b)).map (λe=>FV.int (c b e+ts.getD e 0))=((List.range' (b+1) (n-b)).map λe=>c b e+ts.getD e 0).map .int by simp,b2j hx]
 unfold mnL
 rw[hx]
noncomputable def TI (c:Nat->Nat->Int) (n:Nat)(ts:List Int):Prop:=ts.length=n+1/\ts.getD n 0=0/\∀ b,b<n->ts.getD b 0=mnL c n ts b
noncomputable instance (c:Nat->Nat->Int) (n:Nat)(ts:List Int):Decidable (TI c n ts):=Classical.propDecidable _
noncomputable def tD (c:Nat->Nat->Int) (n:Nat):D->Option (List Int)
 | .tup ds=>if ds.all isI=true/\TI c n (ds.map a4c) then some (ds.map a4c) else none
 | _=>none
theorem c6g {c:Nat->Nat->Int}{n:Nat}{z:D}{ts:List Int}(h:tD c n z=some ts):z=.tup (ts.map .int)/\TI c n ts:=by
 cases z with
 | tup ds =>
  simp only[tD] at h
  split at h
  ·rename_i hh
   cases h
   exact⟨by rw[<- a6p hh.1],hh.2⟩
  ·cases h
 | _=>cases h
noncomputable def okS (c:Nat->Nat->Int) (n:Nat)(x y z:D):Bool:=isI x && (match kD n y,tD c n z with
 | some ks,some ts=>decide (pc c n ks=a4c x) && decide (ts.getD 0 0=a4c x)
 | _,_=>false)
theorem b9g {α:Type} (r:Int)(f g:α->Int):∀ l:List α,r*(l.map f).sum+(l.map g).sum=(l.map λp=>r*f p+g p).sum
 | []=>by simp
 | x :: l=>by
  have:=b9g r f g l
  simp only[List.map_cons,List.sum_cons]
  rw[Int.mul_add];lia
theorem b2t {ws ss as:List Int}{r:Int}{ks:List Nat}(hl:ss.length+1=ws.length)(h0:0∈ks)(hs:ks.Pairwise (· < ·))(hk:∀ x∈ks,x<ws.length):r*((List.range ws.length).map (kp ws ss ks)).sum+((List.range ws.length).map λm=>as.getD m 0*rd ws ss ks m).sum=pc (sc ws ss as r) ws.length ks:=by
 rw[b2d,b8a hl h0 hs hk,<- a3u _ h0 hs hk,a9n,b9g]
 congr 1
 apply List.map_congr_left
 intro p hp
 rw[sc,c1p]
 congr 2
 apply List.map_congr_left
 intro m hm
 have hm:=List.mem_range'_1.mp hm
 rw[c4y hl h0 hs hk hp hm.1 (by obtain⟨_,b,_⟩:=a1w hs hk p hp;lia)]
noncomputable def isM (n:Nat)(x:D):Bool:=isI x && decide (0<=a4c x/\a4c x<n)
theorem c8r (d:Nat)(x:D) (n:Nat){Q:FV×FV->Prop}(q:Q (.bl (isM n x),.non)):callW tb (d+2) 2 [dF x,.int n] Q:=by
 refine a0e (fd:=fd2) rfl rfl ?_
 simp[fd2,bd2]
 rw[b2f]
 cases x with
 | int i =>
  simp[isI,dF]
  simp[isM,isI,a4c] at q
  by_cases h1:0<=i
  ·by_cases h2:i<n
   ·simpa[h1,h2] using q
   ·simpa[h1,h2] using q
  ·simpa[h1] using q
 | _=>simpa[isI,isM] using q
theorem b8v (ns:List Int):a2v (ns.map FV.int) ((ns.drop 1).map .int)=(ns.zip (ns.drop 1)).map λp:Int×Int=>FV.tup [.int p.1,.int p.2]:=by rw[a2q]
theorem a8t:∀ ns:List Int,(ns.zip (ns.drop 1)).all (λp=>decide (p.1<p.2))=true↔ns.Pairwise (· < ·)
 | []=>by simp
 | [a]=>by simp
 | a :: b :: r=>by
  have ih:=a8t (b :: r)
  simp only[List.drop_succ_cons,List.drop_zero,List.zip_cons_cons,List.all_cons,Bool.and_eq_true,decide_eq_true_eq] at ih ⊢
  rw[ih]
  constructor
  ·rintro⟨h1,h2⟩
   refine List.pairwise_cons.mpr ⟨λx hx=>?_,h2⟩
   rcases List.mem_cons.mp hx with rfl|hx
   ·exact h1
   ·have:=(List.pairwise_cons.mp h2).1 x hx;lia
  ·intro hh
   obtain⟨h1,h2⟩:=List.pairwise_cons.mp hh
   exact⟨h1 b (by simp),h2⟩
theorem sl_t (xs:List FV)(lo hi:Option Int)(Q:FV->Prop):wp (a5z (.tup xs) lo hi) Q↔Q (.tup (b1j xs lo hi)):=Iff.rfl
theorem b4x (ns:List Int):b1j (ns.map FV.int) (some 1) none=(ns.drop 1).map .int:=by rw[List.map_drop];simpa using b4y (ns.map FV.int) 1
theorem d0e (d:Nat){ws ss:List Int}(h:Rwo ws ss)(y:D)(hy:∀ ds,y=.tup ds->ds.length<=60){Q:FV×FV->Prop}(q:Q (.bl (kD ws.length y).isSome,.non)):callW tb (d+4) 21 [a2o ws ss,dF y] Q:=by
 have hn:=h.hn
 refine a0e (fd:=e1w) rfl rfl ?_
 simp[e1w,d6m,a0z]
 refine a0e (fd:=fd9) rfl rfl ?_
 cases y with
 | tup ds =>
  have hd:=hy ds rfl
  rw[dF,a1v]
  simp[fd9,bd9]
  cases hds:ds with
  | nil =>
   subst hds
   simp
   simpa[kD,KI] using q
  | cons d0 dr =>
   rw[<- hds]
   have hne:ds≠[]:=by rw[hds];simp
   refine ite2 (λz=>absurd z hne) (λ_=>?_)
   refine⟨by simp[big];lia,?_⟩
   refine a0l (f:=dF) (g:=λx=>.bl (isM ws.length x)) ds [] (λx hx K k=>?_) ?_
   ·simp
    exact c8r _ x _ k
   rw[List.nil_append,a2d,a1o]
   by_cases hm:ds.all (isM ws.length)=true
   rotate_left
   ·have hkn:kD ws.length (.tup ds)=none:=by
     simp only[kD]
     rw[if_neg]
     rintro⟨ha,hk⟩
     apply hm
     obtain⟨ks,e,k1,k2,k3⟩:=hk.nat
     rw[List.all_eq_true] at ha ⊢
     intro x hx
     have hv:a4c x∈ds.map a4c:=List.mem_map.mpr ⟨x,hx,rfl⟩
     rw[e] at hv
     obtain⟨k,hk,ek⟩:=List.mem_map.mp hv
     have:=k3 k hk
     simp only[isM,ha x hx,Bool.true_and,decide_eq_true_eq]
     lia
    rw[hkn] at q
    exact ite2 (λ_=>q) (λz=>absurd (by rw[List.all_eq_true];intro x hx;cases e:isM ws.length x with|true=>rfl|false=>exact absurd (List.mem_map.mpr ⟨x,hx,e⟩) z) hm)
   refine ite2 (λz=>?_) (λ_=>?_)
   ·obtain⟨x,hx,e⟩:=List.mem_map.mp z
    rw[List.all_eq_true.mp hm x hx] at e;cases e
   have hm':∀ x∈ds,isI x=true/\0<=a4c x/\a4c x<ws.length:=λx hx=>by
    have:=List.all_eq_true.mp hm x hx
    simpa[isM] using this
   have ha:ds.all isI=true:=List.all_eq_true.mpr λx hx=>(hm' x hx).1
   have hb:∀ j∈ds.map a4c,0<=j/\j<ws.length:=λj hj=>by
    obtain⟨x,hx,rfl⟩:=List.mem_map.mp hj
    exact (hm' x hx).2
   have hkd:kD ws.length (.tup ds)=if KI ws.length (ds.map a4c) then some ((ds.map a4c).map Int.toNat) else none:=by
    simp only[kD,ha,true_and]
   rw[hkd] at q
   have hlen:(ds.map a4c).length<=60:=by simpa using hd
   have hne':ds.map a4c≠[]:=by simpa using hne
   rw[a6p ha,a6y]
   generalize ds.map a4c=ns at q hb hlen hne'
   obtain⟨n0,nr,rfl⟩:∃ a r,ns=a :: r:=by cases ns with|nil=>exact absurd rfl hne'|cons a r=>exact⟨a,r,rfl⟩
   simp only[lk_z,lk_s,a1o,sl_t,sq_t,b4x]
   rw[b8v]
   refine⟨rfl,by simp[big];simp at hlen;lia,?_⟩
   refine a0l (f:=λp:Int×Int=>FV.tup [.int p.1,.int p.2]) (g:=λp=>.bl (decide (p.1<p.2))) _ [] (λp hp K k=>?_) ?_
   ·simpa using k
   rw[List.nil_append,a2d,a1o]
   by_cases hr:(n0 :: nr).Pairwise (· < ·)
   rotate_left
   ·rw[if_neg (λz=>hr z.2.1)] at q
    have hr2:¬ ((n0 :: nr).zip ((n0 :: nr).drop 1)).all (λp=>decide (p.1<p.2))=true:=λz=>hr ((a8t _).mp z)
    refine ite2 (λ_=>?_) (λz=>?_)
    ·rw[List.all_map]
     have:(((n0 :: nr).zip ((n0 :: nr).drop 1)).all (id ∘ λp=>decide (p.1<p.2)))=false:=Bool.eq_false_iff.mpr hr2
     rw[this];exact q
    ·exact absurd (by rw[List.all_eq_true];intro x hx;cases e:decide (x.1<x.2) with|true=>rfl|false=>exact absurd (List.mem_map.mpr ⟨x,hx,e⟩) z) hr2
   refine ite2 (λz=>?_) (λ_=>?_)
   ·obtain⟨x,hx,e⟩:=List.mem_map.mp z
    have:=List.all_eq_true.mp ((a8t _).mpr hr) x hx
    rw[e] at this;cases this
   ·have e0:∀ R:FV->Prop,wp (atF ((n0 :: nr).map FV.int) 0) R↔R (.int n0):=λR=>a2s (n:=0) rfl (by simp)
    rw[e0]
    simp
    by_cases h00:n0=0
    ·rw[if_pos ⟨by rw[h00];rfl,hr,λj hj=>(hb j hj).2⟩] at q
     simpa[h00] using q
    ·rw[if_neg (λz=>h00 (by simpa using z.1))] at q
     have:(n0 == 0)=false:=by simpa using h00
     rw[this];exact q
 | _ =>
  simp[fd9,bd9,dF]
  exact q
theorem c0l {ts:List Int}{n j:Nat}(h:ts.length=n+1):ts.drop (j+1)=(List.range' (j+1) (n-j)).map λe=>ts.getD e 0:=by
 apply List.ext_getElem
 ·simp;lia
 ·intro i h1 h2
  simp at h1
  simp[List.getD,show j+1+i<ts.length by lia]
theorem c7d (d:Nat){ws ss as:List Int}{r:Int}(h:Rwo ws ss)(ha:Ask ws.length as r)(z:D){Q:FV×FV->Prop}(q:Q (.bl (tD (sc ws ss as r) ws.length z).isSome,.non)):callW tb (d+3) 23 [a2o ws ss,a9y as,.int r,dF z] Q:=by
 have hn:=h.hn
 refine a0e (fd:=d5x) rfl rfl ?_
 cases z with
 | tup ds =>
  simp[d5x,d6l,a0z]
  have e1:((ws.length:Int)+1)=((ws.length+1:Nat):Int):=by lia
  rw[e1,b7l]
  simp
  rw[dF,a1v]
  by_cases hl:ds.length=ws.length+1
  rotate_left
  ·have:tD (sc ws ss as r) ws.length (.tup ds)=none:=by
    simp only[tD]
    rw[if_neg (λz=>hl (by simpa using z.2.1))]
   rw[this] at q
   exact ite2 (λz=>absurd z hl) (λ_=>q)
  refine ite2 (λ_=>?_) (λz=>absurd hl z)
  refine⟨by simp[big];lia,?_⟩
  refine a0l (f:=dF) (g:=λx=>.bl (isI x)) ds [] (λx hx K k=>?_) ?_
  ·simp[b2f]
   exact k
  rw[List.nil_append]
  simp[a2d,-List.mem_map]
  by_cases hai:ds.all isI=true
  rotate_left
  ·have:tD (sc ws ss as r) ws.length (.tup ds)=none:=by
    simp only[tD]
    rw[if_neg (λz=>hai z.1)]
   rw[this] at q
   exact ite2 (λ_=>q) (λz=>absurd (noF.mpr z) hai)
  refine ite2 (λz=>absurd z (noF.mp hai)) (λ_=>?_)
  have htd:tD (sc ws ss as r) ws.length (.tup ds)=if TI (sc ws ss as r) ws.length (ds.map a4c) then some (ds.map a4c) else none:=by simp only[tD,hai,true_and]
  rw[htd] at q
  have hl':(ds.map a4c).length=ws.length+1:=by simpa using hl
  rw[a6p hai,a6y]
  generalize ds.map a4c=ts at q hl'
  rw[a4f (by lia)]
  simp
  by_cases h0:ts.getD ws.length 0=0
  rotate_left
  ·rw[if_neg (λz=>h0 z.2.1)] at q
   exact ite2 (λz=>absurd z h0) (λ_=>q)
  refine ite2 (λ_=>?_) (λz=>absurd h0 z)
  refine⟨a0f (by lia) (by lia),?_⟩
  refine a2r (I:=λj L=>∃ a b,L=[some (a2o ws ss),some (a9y as),some (.int r),some (.tup (ts.map .int)),some (.int ws.length),a,b]/\∀ b',b'<j->ts.getD b' 0=mnL (sc ws ss as r) ws.length ts b') ws.length 0 _ ⟨none,none,rfl,λb' hb=>absurd hb (Nat.not_lt_zero _)⟩ ?_ ?_
  ·rintro j L K-hj ⟨a,b,rfl,hI⟩ k
   have hj:j<ws.length:=by lia
   simp
   refine b3w d h ha hj ?_
   simp
   rw[a4f (by lia),show (j:Int)+1=((j+1:Nat):Int) by lia,b4y,<- List.map_drop,c0l hl',List.map_map,a2q,a3e,List.map_map]
   refine⟨by simp[big];lia,?_⟩
   refine a0l (g:=λe=>.int (sc ws ss as r j e+ts.getD e 0)) _ [] (λe he K2 k2=>?_) ?_
   ·simpa using k2
   rw[List.nil_append,d9h hj]
   by_cases hh:ts.getD j 0=mnL (sc ws ss as r) ws.length ts j
   ·have:(ts[j]?.getD 0 == mnL (sc ws ss as r) ws.length ts j)=true:=by rw[beq_iff_eq];exact hh
    simp
    refine ite2 (λ_=>?_) (λz=>absurd hh z)
    refine k _ ⟨_,_,rfl,λb' hb'=>?_⟩
    by_cases e:b'=j
    ·rw[e];exact hh
    ·exact hI b' (by lia)
   ·simp
    refine ite2 (λz=>absurd z hh) (λ_=>?_)
    rw[if_neg (λz=>hh (z.2.2 j hj))] at q
    exact q
  ·rintro L ⟨a,b,rfl,hI⟩
   rw[if_pos ⟨hl',h0,λb hb=>hI b (by lia)⟩] at q
   simpa using q
 | _ =>
  simp[d5x,d6l,a0z]
  rw[show ((ws.length:Int)+1)=((ws.length+1:Nat):Int) by lia,b7l]
  exact q
theorem c8m (d:Nat){ws ss as:List Int}{r:Int}(h:Rwo ws ss)(ha:Ask ws.length as r){ks:List Nat}(h0:0∈ks)(hp:ks.Pairwise (· < ·))(hk:∀ k∈ks,k<ws.length){Q:FV×FV->Prop}(q:Q (.int (pc (sc ws ss as r) ws.length ks),.non)):callW tb (d+5) 22 [a2o ws ss,a9y as,.int r,a3r ks] Q:=by
 have hn:=h.hn
 have hc:ks.length<=30:=by
  have:=b3o ((a4u okT ws.length ks).mpr λp hp'=>⟨(a1w hp hk p hp').2.1,rfl⟩)
  lia
 have R:Rw ws ss ks:=⟨h.hw,h.hs,h.hl,hn,h0,hc,hp,hk⟩
 refine a0e (fd:=e1v) rfl rfl ?_
 simp[e1v,e3v,a5w]
 refine a6a _ R ?_
 simp
 have ea:as=(List.range ws.length).map λm=>as.getD m 0:=by
  apply List.ext_getElem
  ·simp[ha.len]
  ·intro i h1 h2
   simp[List.getD,h1]
 have e1:a2v (as.map FV.int) ((List.range ws.length).map (FV.int ∘ rd ws ss ks))=(List.range ws.length).map λm=>FV.tup [.int (as.getD m 0),.int (rd ws ss ks m)]:=by
  conv=>lhs;rw[ea]
  rw[List.map_map,a2q,a3e,List.map_map];rfl
 rw[e1]
 refine⟨by simp[big];lia,?_⟩
 refine a0l (g:=λm=>.int (as.getD m 0*rd ws ss ks m)) _ [] (λm hm K k=>?_) ?_
 ·have hm:=List.mem_range.mp hm
  have:=c1r ha hm
  simp
  exact⟨.inl (a2h (by simp at this;lia) (by simp at this;lia)),by simpa using k⟩
 rw[List.nil_append]
 simp
 refine a5o _ R ?_
 have r0:=ha.r0
 have r1:=ha.r1
 simp
 refine⟨.inl (a2h (by lia) (by lia)),?_⟩
 rw[show (List.range ws.length).map (λm=>FV.int (as[m]?.getD 0*rd ws ss ks m))=((List.range ws.length).map λm=>as.getD m 0*rd ws ss ks m).map .int by simp,a2i,a1o]
 simp
 have:=b2t (ws:=ws) (ss:=ss) (as:=as) (r:=r) h.hl h0 hp hk
 rw[<- this] at q
 simpa using q
theorem d1w (d:Nat){ws ss as:List Int}{r:Int}(h:Rwo ws ss)(ha:Ask ws.length as r)(x y z:D)(hy:∀ ds,y=.tup ds->ds.length<=60){Q:FV×FV->Prop}(q:Q (.bl (okS (sc ws ss as r) ws.length x y z),.non)):callW tb (d+6) 20 [a2o ws ss,a9y as,.int r,dF x,dF y,dF z] Q:=by
 refine a0e (fd:=e1x) rfl rfl ?_
 simp[e1x,e3w]
 rw[b2f]
 simp
 cases hx:isI x with
 | false =>
  have:okS (sc ws ss as r) ws.length x y z=false:=by simp[okS,hx]
  rw[this] at q
  simpa using q
 | true =>
  simp
  refine d0e _ h y hy ?_
  simp
  cases hk:kD ws.length y with
  | none =>
   have:okS (sc ws ss as r) ws.length x y z=false:=by simp[okS,hk]
   rw[this] at q
   simpa using q
  | some ks =>
   simp
   refine c7d _ h ha z ?_
   simp
   cases ht:tD (sc ws ss as r) ws.length z with
   | none =>
    have:okS (sc ws ss as r) ws.length x y z=false:=by simp[okS,hk,ht]
    rw[this] at q
    simpa using q
   | some ts =>
    simp
    obtain⟨k0,k1,k2,k3⟩:=c8n hk
    obtain⟨rfl,t1⟩:=c6g ht
    rw[k0]
    refine c8m _ h ha k1 k2 k3 ?_
    have e:okS (sc ws ss as r) ws.length x y (.tup (ts.map .int))=(decide (pc (sc ws ss as r) ws.length ks=a4c x) && decide (ts.getD 0 0=a4c x)):=by simp only[okS,hx,hk,ht,Bool.true_and]
    rw[e] at q
    cases x with
    | int i =>
     have et:dF (.tup (ts.map D.int))=.tup (ts.map .int):=by rw[dF,a1v,a6y]
     rw[et]
     have e0:∀ R:FV->Prop,wp (atF (ts.map FV.int) 0) R↔R (.int (ts.getD 0 0)):=λR=>by
      have:=a4f (xs:=ts) (i:=0) (by have:=t1.1;lia) R
      simpa using this
     simp[dF,a4c,e0] at q ⊢
     by_cases h1:pc (sc ws ss as r) ws.length ks=i
     ·simp only[h1,decide_true,Bool.true_and,beq_self_eq_true,if_true] at q ⊢
      exact q
     ·have e2:(pc (sc ws ss as r) ws.length ks == i)=false:=by simpa using h1
      rw[e2]
      simpa[h1] using q
    | _=>cases hx
theorem b9j {c:Nat->Nat->Int}{n:Nat}{p:PT}(hp:Bst okT c (n+1) 0 (some p)){t:Int}{tr:List Int}(h:(AK n).map (λks=>pc c (n+1) ks)=t :: tr):a1c t tr=p.1:=by
 have hvp:∀ ks∈AK n,vp okT (n+1) ks/\nxt (n+1) ks=0:=λks hks=>by
  obtain⟨⟨r,rfl⟩,b,c,_⟩:=a7c n ks hks
  refine⟨?_,rfl⟩
  rw[a4u]
  exact λp hp=>⟨(a1w b (λx hx=>Nat.lt_succ_of_le (c x hx)) p hp).2.1,rfl⟩
 obtain⟨b1,b2,b3,b4⟩:=hp
 have h1:=a4n tr t
 rw[<- h] at h1
 obtain⟨ks,hks,e⟩:=List.mem_map.mp h1
 have l1:=a4v (b4 ks (hvp ks hks).2 (hvp ks hks).1)
 have hm:p.2∈AK n:=by
  cases e2:p.2 with
  | nil=>rw[e2] at b2;simp[nxt] at b2
  | cons k0 r0 =>
   rw[e2] at b2 b3
   cases (show k0=0 from b2)
   obtain⟨c1,c2,_⟩:=b1x b3
   exact b1t n r0 c2 λk hk=>by have:=c1 k (Γh _ hk);lia
 have h2:p.1∈t :: tr:=by rw[<- h,b1];exact List.mem_map.mpr ⟨_,hm,rfl⟩
 have l2:a1c t tr<=p.1:=by
  rcases List.mem_cons.mp h2 with z|z
  ·rw[z];exact (a2t tr t).1
  ·exact (a2t tr t).2 _ z
 have l1:p.1<=pc c (n+1) ks:=l1
 lia
theorem c4n (d:Nat){n:Nat}(h1:1<=n)(h2:n<=9){Q:FV×FV->Prop}(q:Q (.lst ((AK (n-1)).map a3r),.non)):callW tb (d+1) 38 [.int n] Q:=by
 refine a0e (fd:=e1h) rfl rfl ?_
 simp[e1h,e3j,big]
 refine⟨⟨by decide,a0f (by lia) (by lia)⟩,?_⟩
 refine a2r (I:=λj L=>∃ a,L=[some (.int n),some (.lst ((AK (j-1)).map a3r)),a]) (n-1) 1 _ ⟨none,rfl⟩ ?_ ?_
 ·rintro j L K hj1 hj2 ⟨a,rfl⟩ k
  have hl:(AK (j-1)).length<=256:=by
   rw[b5h]
   exact Nat.pow_le_pow_right (by decide) (show j-1<=8 by lia)
  simp
  refine⟨by simp[big];lia,?_⟩
  refine a0l (f:=a3r) (g:=λks=>a3r (ks++[j])) (AK (j-1)) [] (λks hks K2 k2=>?_) ?_
  ·have:=(a7c _ ks hks).2.2.2
   simp[a3r,big] at k2 ⊢
   exact⟨by lia,k2⟩
  ·simp[big]
   refine⟨by lia,?_⟩
   refine k _ ⟨some (.int j),?_⟩
   obtain⟨i,rfl⟩:∃ i,j=i+1:=⟨j-1,by lia⟩
   simp[AK,Function.comp_def]
 ·rintro L ⟨a,rfl⟩
  simp
  exact q
noncomputable def lrd (ws ss:List Int):Nat->Int
 | 0=>ws.getD 0 0
 | m+1=>if ws.getD (m+1) 0<=lrd ws ss m+ss.getD m 0 then ws.getD (m+1) 0 else lrd ws ss m+ss.getD m 0
theorem b8d {ws ss:List Int}{ks:List Nat}(h0:0∈ks):rd ws ss ks 0=ws.getD 0 0:=by simp[rd,a3g,kp,h0]
theorem b8e {ws ss:List Int}{ks:List Nat} (m:Nat):rd ws ss ks (m+1)=if m+1∈ks then ws.getD (m+1) 0 else rd ws ss ks m+ss.getD m 0:=by
 unfold rd
 rw[a3g]
 by_cases h:m+1∈ks
 ·simp[h,kp]
 ·simp[h,kp]
theorem c5m {ws ss:List Int}{ks:List Nat}(h0:0∈ks):∀ m,lrd ws ss m<=rd ws ss ks m
 | 0=>by rw[b8d h0];exact Int.le_refl _
 | m+1=>by
  have:=c5m (ws:=ws) (ss:=ss) h0 m
  rw[b8e,lrd]
  split<;>split<;>lia
noncomputable def lks (ws ss:List Int) (n:Nat):List Nat:=(List.range n).filter λm=>m == 0 || decide (ws.getD m 0<=lrd ws ss (m-1)+ss.getD (m-1) 0)
theorem lks_mem {ws ss:List Int}{n m:Nat}:m∈lks ws ss n↔m<n/\(m=0 ∨ ws.getD m 0<=lrd ws ss (m-1)+ss.getD (m-1) 0):=by
 simp[lks]
theorem c4z {ws ss:List Int}{n:Nat}:∀ m,m<n->rd ws ss (lks ws ss n) m=lrd ws ss m
 | 0,h=>b8d (lks_mem.mpr ⟨h,.inl rfl⟩)
 | m+1,h=>by
  rw[b8e,lrd,c4z m (by lia)]
  by_cases c:ws.getD (m+1) 0<=lrd ws ss m+ss.getD m 0
  ·rw[if_pos (lks_mem.mpr ⟨h,.inr c⟩),if_pos c]
  ·rw[if_neg c,if_neg λz=>?_]
   obtain⟨_,z|z⟩:=lks_mem.mp z
   ·lia
   ·exact c z
theorem b2r {ws ss:List Int}(hl:ss.length+1=ws.length):∀ m,m<ws.length->(∀ b,b<=m->lrd ws ss m<=a0w ws ss b (m+1))/\∃ b,b<=m/\lrd ws ss m=a0w ws ss b (m+1)
 | 0,h=>by
  refine⟨λb hb=>?_,0,Γi _,?_⟩
  ·have:b=0:=by lia
   subst this
   rw[a5n];exact Int.le_refl _
  ·rw[a5n];rfl
 | m+1,h=>by
  obtain⟨h1,b0,h2,h3⟩:=b2r hl m (by lia)
  have st:∀ b,b<=m->a0w ws ss b (m+1+1)=a0w ws ss b (m+1)+ss.getD m 0:=λb hb=>by
   rw[b7v (by lia) (by lia)];simp
  rw[lrd]
  refine⟨λb hb=>?_,?_⟩
  ·by_cases e:b=m+1
   ·subst e;rw[a5n];split<;>lia
   ·have:=h1 b (by lia)
    rw[st b (by lia)];split<;>lia
  ·by_cases c:ws.getD (m+1) 0<=lrd ws ss m+ss.getD m 0
   ·exact⟨m+1,Γi _,by rw[if_pos c,a5n]⟩
   ·exact⟨b0,by lia,by rw[if_neg c,st b0 h2,h3]⟩
theorem b9c {ws ss:List Int}(hl:ss.length+1=ws.length){m:Nat}(hm:m<ws.length){x:Int}{r:List Int}(e:(List.range (m+1)).map (λb=>a0w ws ss b (m+1))=x :: r):a1c x r=lrd ws ss m:=by
 obtain⟨h1,b0,h2,h3⟩:=b2r hl m hm
 have g1:=a4n r x
 have g2:=a2t r x
 rw[<- e] at g1
 obtain⟨b,hb,eb⟩:=List.mem_map.mp g1
 have:=h1 b (by have:=List.mem_range.mp hb;lia)
 have hin:a0w ws ss b0 (m+1)∈x :: r:=by rw[<- e];exact List.mem_map_of_mem (List.mem_range.mpr (by lia))
 have:a1c x r<=a0w ws ss b0 (m+1):=by
  rcases List.mem_cons.mp hin with z|z
  ·rw[z];exact g2.1
  ·exact g2.2 _ z
 lia
theorem a7r {f g:Nat->Int}:∀ l:List Nat,(∀ m∈l,f m<=g m)->(l.map f).sum<=(l.map g).sum
 | [],_=>by simp
 | a :: r,h=>by
  have:=h a (by simp);have:=a7r r λm hm=>h m (by simp[hm])
  simp only[List.map_cons,List.sum_cons];lia
theorem c6l {ws ss:List Int}(hl:ss.length+1=ws.length){p:PT}(h:Bst okT (sc ws ss (Γj ws.length 1) 0) ws.length 0 (some p)):p.1=((List.range ws.length).map (lrd ws ss)).sum:=by
 have cost:∀ ks:List Nat,0∈ks->ks.Pairwise (· < ·)->(∀ x∈ks,x<ws.length)->pc (sc ws ss (Γj ws.length 1) 0) ws.length ks=((List.range ws.length).map (rd ws ss ks)).sum:=λks a b c=>by
  rw[<- b2t hl a b c,Int.zero_mul,Int.zero_add]
  congr 1
  apply List.map_congr_left
  intro m hm
  simp[List.getD,List.mem_range.mp hm]
 obtain⟨b1,b2,b3,b4⟩:=h
 obtain⟨v1,v2,_⟩:=b1x b3
 have hin:0∈p.2:=by
  cases e:p.2 with
  | nil=>rw[e] at b2;have b2:ws.length=0:=b2;lia
  | cons k r=>rw[e] at b2;cases (show k=0 from b2);simp
 have up:=a7r (f:=lrd ws ss) (g:=rd ws ss p.2) (List.range ws.length) λm _=>c5m hin m
 rw[<- cost p.2 hin v2 v1,<- b1] at up
 have l0:0∈lks ws ss ws.length:=lks_mem.mpr ⟨by lia,.inl rfl⟩
 have lp:(lks ws ss ws.length).Pairwise (· < ·):=List.Pairwise.filter _ List.pairwise_lt_range
 have ll:∀ x∈lks ws ss ws.length,x<ws.length:=λx hx=>(lks_mem.mp hx).1
 obtain⟨r,er⟩:=a6m l0 lp
 have hv:vp okT ws.length (lks ws ss ws.length):=by
  rw[a4u]
  exact λq hq=>⟨(a1w lp ll q hq).2.1,rfl⟩
 have lo:=a4v (b4 _ (by rw[er];rfl) hv)
 dsimp only at lo
 rw[cost _ l0 lp ll] at lo
 have:(List.range ws.length).map (rd ws ss (lks ws ss ws.length))=(List.range ws.length).map (lrd ws ss):=List.map_congr_left λm hm=>c4z m (List.mem_range.mp hm)
 rw[this] at lo
 lia
theorem d3g {ws ss:List Int}(h:Rwo ws ss){m:Nat}(hm:m<ws.length):0<=lrd ws ss m/\lrd ws ss m<=100000000000:=by
 obtain⟨_,b,h1,h2⟩:=b2r h.hl m hm
 have:=c6p h (show b<ws.length by lia) (e:=m+1)
 lia
theorem d3h (d:Nat){ws ss:List Int}(h:Rwo ws ss){Q:FV×FV->Prop}(q:Q (.tup (((List.range ws.length).map (lrd ws ss)).map .int),.non)):callW tb (d+2) 39 [a2o ws ss] Q:=by
 have hn:=h.hn
 refine a0e (fd:=e1g) rfl rfl ?_
 simp[e1g,e3i,a0z,big]
 refine⟨a0f (by lia) (by lia),?_⟩
 refine a2r (I:=λj L=>∃ a,L=[some (a2o ws ss),some (.lst ((List.range j).map λm=>.int (lrd ws ss m))),a]) ws.length 0 _ ⟨none,rfl⟩ ?_ ?_
 ·rintro j L K-hj ⟨a,rfl⟩ k
  simp
  refine⟨a0f (by lia) (by lia),?_⟩
  rw[a1l]
  refine⟨by simp[big];lia,?_⟩
  refine a0l (f:=λi:Nat=>FV.int i) (g:=λb=>.int (a0w ws ss b (j+1))) (List.range (j+1)) [] (λb hb K2 k2=>?_) ?_
  ·have hb:=List.mem_range.mp hb
   simp
   exact c8h d h (by lia) (by lia) rfl k2
  ·rw[List.nil_append,show (List.range (j+1)).map (λb=>FV.int (a0w ws ss b (j+1)))=((List.range (j+1)).map λb=>a0w ws ss b (j+1)).map .int by simp]
   obtain⟨x,r,e⟩:∃ x r,(List.range (j+1)).map (λb=>a0w ws ss b (j+1))=x :: r:=by rw[List.range_succ_eq_map];exact⟨_,_,rfl⟩
   rw[b2j e,b9c h.hl (by lia) e]
   simp[big]
   refine⟨by lia,k _ ⟨some (.int j),?_⟩⟩
   rw[List.range_succ,List.map_append];rfl
 ·rintro L ⟨a,rfl⟩
  simp
  simpa[Function.comp_def] using q
theorem c8l (d:Nat){ws ss:List Int}{Q:FV×FV->Prop}(q:Q (a2o (ws.take 8) (ss.take 7),.non)):callW tb (d+1) 40 [a2o ws ss,.int 8] Q:=by
 refine a0e (fd:=e1f) rfl rfl ?_
 simp[e1f,d6h,a0z]
 refine⟨by decide,?_⟩
 rw[show (8:Int)=((8:Nat):Int) from rfl,show (7:Int)=((7:Nat):Int) from rfl,c1a,c1a,<- List.map_take,<- List.map_take]
 exact q
theorem c9s {ws ss:List Int}(h:Rwo ws ss):Rwo (ws.take 8) (ss.take 7) where
 hw:=λx hx=>h.hw x (List.mem_of_mem_take hx)
 hs:=λx hx=>h.hs x (List.mem_of_mem_take hx)
 hl:=by have:=h.hl;simp;lia
 hn:=by have:=h.hn;simp;lia
theorem a9g {ws ss:List Int}(h:Rwo ws ss){n:Nat}(hn:ws.length=n+1){ks:List Nat}(hks:ks∈AK n):Rw ws ss ks:=by
 obtain⟨⟨r,er⟩,hs,hk,hl⟩:=a7c n ks hks
 have:=h.hn
 exact⟨h.hw,h.hs,h.hl,h.hn,by rw[er];simp,by lia,hs,λk hk'=>by have:=hk k hk';lia⟩
theorem b0y {ws ss:List Int}{ks:List Nat}(h:Rw ws ss ks):((List.range ws.length).map (kp ws ss ks)).sum=pc (a0w ws ss) ws.length ks:=by
 rw[b8a h.hl h.h0 h.hp h.hk,b2d]
theorem b9m {ws ss:List Int}{ks:List Nat}(h:Rw ws ss ks):mx (b3g ks ws.length)=dp ws.length ks:=by
 have hl:=h.hl
 obtain⟨r,er⟩:=a6m h.h0 h.hp
 obtain⟨a,xs,e1⟩:∃ a xs,b3g ks ws.length=a :: xs:=by
  unfold b3g
  rw[<- hl,List.range_succ_eq_map];exact⟨_,_,rfl⟩
 obtain⟨b,ys,e2⟩:∃ b ys,(a4a ks ws.length).map (λp=>(p.2:Int)-p.1-1)=b :: ys:=by
  rw[er];unfold a4a
  cases r with
  | nil=>exact⟨_,_,rfl⟩
  | cons k r=>exact⟨_,_,rfl⟩
 unfold dp mx
 rw[e1,e2]
 exact c9q h.h0 h.hp h.hk e1 e2
theorem b6c {ws ss:List Int}(h:Rwo ws ss){n:Nat}(hn:ws.length=n+1){ks:List Nat}(hks:ks∈AK n):vp (okM ws ss none (some (mx ((List.range ws.length).map (rd ws ss ks))))) ws.length ks:=by
 have w:=a9g h hn hks
 rw[a4u]
 intro p hp
 obtain⟨g1,g2,g3,g4⟩:=a1w w.hp w.hk p hp
 refine⟨g2,?_⟩
 have:=c4y w.hl w.h0 w.hp w.hk hp (j:=p.2-1) (by lia) (by lia)
 rw[show p.2-1+1=p.2 by lia] at this
 have:=d3a (List.mem_map_of_mem (f:=rd ws ss ks) (List.mem_range.mpr (show p.2-1<ws.length by lia)))
 simp only[okM,leO,Bool.true_and,decide_eq_true_eq]
 lia
theorem d4x {f:Nat->Int}{n j:Nat}{m:Int}(hj:j<n)(h:f j<=m):∃ i∈nbt f n,i<=j/\f i<=m:=by
 obtain⟨r,l,h1,h2,h3⟩:=a5r f j
 have hl:l∈nbt f (j+1):=by rw[h1];simp
 obtain⟨g1,g2⟩:=List.mem_filter.mp hl
 refine⟨l,List.mem_filter.mpr ⟨List.mem_range.mpr (by lia),g2⟩,by lia,?_⟩
 have:=h3 j (by lia)
 lia
theorem c9g {T:Nat->PT}{n j:Nat}{m:Int}(hj:j<n)(h:(T j).1<=m):∃ i,a5c T n m=some i/\i<=j:=by
 cases e:a5c T n m with
 | none =>
  have:=List.find?_eq_none.mp e j (List.mem_range.mpr hj)
  simp[h] at this
 | some i =>
  refine⟨i,rfl,?_⟩
  unfold a5c at e
  obtain⟨_,as,bs,e1,h1⟩:=List.find?_eq_some_iff_append.mp e
  refine Nat.not_lt.mp λz=>?_
  have hin:j∈as:=by
   have hp:(List.range n).Pairwise (· < ·):=List.pairwise_lt_range
   rw[e1] at hp
   have hjm:j∈as++i :: bs:=by rw[<- e1];exact List.mem_range.mpr hj
   rcases List.mem_append.mp hjm with q|q
   ·exact q
   ·rcases List.mem_cons.mp q with q|q
    ·lia
    ·have:=(List.pairwise_cons.mp (List.pairwise_append.mp hp).2.1).1 j q
     lia
  have:=h1 j hin
  simp[h] at this
theorem d9k (d:Nat){ws ss:List Int}(h:Rwo ws ss){n:Nat}(hn:ws.length=n+1)(h8:ws.length<=8){T:Nat->PT}(hT:Tld ws ss T){ks:List Nat}(hks:ks∈AK n){Q:FV×FV->Prop}(q:Q (.bl true,.non)):callW tb (d+5) 41 [a2o ws ss,a3r ks,d5y (λi=>(T i).1) ws.length] Q:=by
 have w:=a9g h hn hks
 have h30:=h.hn
 refine a0e (fd:=e1e) rfl rfl ?_
 simp[e1e,e3h]
 refine b0i (d+1) w ?_
 rw[b9m w]
 refine a5o d w ?_
 rw[b0y w]
 refine a6a d w ?_
 have hne:(List.range ws.length).map (rd ws ss ks)≠[]:=by rw[hn];simp[List.range_succ]
 obtain⟨mr,hmr⟩:∃ mr,mr=mx ((List.range ws.length).map (rd ws ss ks)):=⟨_,rfl⟩
 obtain⟨g0,g1⟩:=c5u hks
 rw[<- hn] at g0 g1
 obtain⟨dd,hdd⟩:∃ i:Nat,dp ws.length ks=i:=⟨(dp ws.length ks).toNat,by lia⟩
 have hd:dd<ws.length:=by lia
 obtain⟨⟨r0,er0⟩,_⟩:=a7c n ks hks
 have hz:nxt ws.length ks=0:=by rw[er0];rfl
 have hle:(T dd).1<=pc (a0w ws ss) ws.length ks:=by
  have:=T_le hn hT (show dd<n+1 by lia) hks (by rw[<- hn];lia)
  rwa [<- hn] at this
 have hvr:=b6c h hn hks
 rw[<- hmr] at hvr
 obtain⟨x,r,e2⟩:∃ x r,(List.range ws.length).map (rd ws ss ks)=x :: r:=by
  cases e:(List.range ws.length).map (rd ws ss ks) with
  | nil=>exact absurd e hne
  | cons a b=>exact⟨a,b,rfl⟩
 have hx:a1m x r=mr:=by rw[hmr,e2];rfl
 rw[e2]
 show wp (a1d ((x :: r).map .int)) _
 rw[a2i,a1o]
 refine⟨x,r,rfl,by decide,?_⟩
 rw[hx,hdd]
 have hnl:=b2g (λi=>(T i).1) ws.length
 simp[d5y]
 refine⟨by simp[big];lia,?_⟩
 refine a0l (f:=b4t λi=>(T i).1) (g:=λi=>.bl (decide ((i:Int)<=dd/\(T i).1<=pc (a0w ws ss) ws.length ks))) (nbt (λi=>(T i).1) ws.length) [] (λi hi K2 k2=>?_) ?_
 ·simp[b4t]
  by_cases h1:i<=dd
  ·rw[if_pos h1];simpa[h1] using k2
  ·rw[if_neg h1];simpa[h1] using k2
 ·rw[List.nil_append,a2d,a1o,if_pos]
  ·simp
   refine c9p d h hT _ ?_
   obtain⟨i,e3,hi⟩:=c9g hd hle
   rw[e3]
   simp[encF]
   rw[if_neg (by lia)]
   refine c6x d h (by lia) h8 _ λo ho=>?_
   have hf:=c0c hz hvr (Int.le_refl _)
   cases o with
   | none=>exact absurd hf (ho _)
   | some g =>
    have hg:=ho.2.2 _ hf
    simp[encG]
    rw[if_neg (by lia)]
    refine a5l (d+1) h (by lia) λo ho2=>?_
    cases ho2.uniq (hT dd hd)
    simp[c0h,a3d]
    rw[if_pos hle]
    refine a5x (d+1) h mr λo ho3=>?_
    cases o with
    | none=>exact absurd hvr (ho3 _ hz)
    | some p =>
     have:=a4v (ho3.2.2.2 ks hz hvr)
     dsimp only at this
     simp[c0h,a3d,this]
     exact q
  ·obtain⟨i,h1,h2,h3⟩:=d4x (f:=λi=>(T i).1) hd hle
   exact List.mem_map.mpr ⟨i,h1,by simp[h2,h3]⟩
theorem c2e (d:Nat){ws ss as:List Int}{r:Int}(h:Rwo ws ss)(ha:Ask ws.length as r){ks:List Nat}(R:Rw ws ss ks){Q:FV×FV->Prop}(q:Q (.int (pc (sc ws ss as r) ws.length ks),.non)):callW tb (d+5) 42 [a2o ws ss,a9y as,.int r,a3r ks] Q:=by
 have hn:=h.hn
 refine a0e (fd:=e1d) rfl rfl ?_
 simp[e1d,d6g,a5w]
 refine a5o _ R ?_
 have r0:=ha.r0
 have r1:=ha.r1
 simp[a5w]
 refine⟨.inl (a2h (by lia) (by lia)),?_⟩
 refine a6a _ R ?_
 simp
 have ea:as=(List.range ws.length).map λm=>as.getD m 0:=by
  apply List.ext_getElem
  ·simp[ha.len]
  ·intro i h1 h2
   simp[List.getD,h1]
 have e1:a2v (as.map FV.int) ((List.range ws.length).map (FV.int ∘ rd ws ss ks))=(List.range ws.length).map λm=>FV.tup [.int (as.getD m 0),.int (rd ws ss ks m)]:=by
  conv=>lhs;rw[ea]
  rw[List.map_map,a2q,a3e,List.map_map];rfl
 rw[e1]
 refine⟨by simp[big];lia,?_⟩
 refine a0l (g:=λm=>.int (as.getD m 0*rd ws ss ks m)) _ [] (λm hm K k=>?_) ?_
 ·have hm:=List.mem_range.mp hm
  have:=c1r ha hm
  simp
  exact⟨.inl (a2h (by simp at this;lia) (by simp at this;lia)),by simpa using k⟩
 rw[List.nil_append,show (List.range ws.length).map (λm=>FV.int (as.getD m 0*rd ws ss ks m))=((List.range ws.length).map λm=>as.getD m 0*rd ws ss ks m).map .int by simp,a2i,a1o]
 simp
 have:=b2t (ws:=ws) (ss:=ss) (as:=as) (r:=r) h.hl R.h0 R.hp R.hk
 rw[<- this] at q
 simpa using q
noncomputable def dK (ks:List Nat):D:=.tup (ks.map λi:Nat=>.int i)
theorem d6e (ks:List Nat):a3r ks=dF (dK ks):=by rw[dK,dF,a1v,List.map_map];rfl
theorem b4u:∀ ks:List Nat,a7l (ks.map λi:Nat=>D.int i)=0
 | []=>rfl
 | k :: r=>by simp[a7l,dep,b4u r]
theorem dsK (L:List (List Nat)):dsF (.lst (L.map a3r))=some (L.map dK):=by
 have dp:∀ L:List (List Nat),a7l (L.map dK)<=1:=by
  intro L
  induction L with
  | nil=>simp[a7l]
  | cons x r ih=>simp only[List.map_cons,a7l,dK,dep,b4u];lia
 have e:FV.lst (L.map a3r)=dF (.lst (L.map dK)):=by
  simp only[dF,a1v,List.map_map]
  congr 1
  exact List.map_congr_left λb _=>d6e b
 unfold dsF
 rw[e,b1d _ _ (by have:=dp L;simp only[dep,a0j];lia)]
 rfl
theorem fdK (ks:List Nat):fD a0j (a3r ks)=some (dK ks):=by rw[d6e,b1d _ _ (by simp only[dK,dep,b4u,a0j];lia)]
theorem e2l (a b:List Nat):D.eqv (dK a) (dK b)=decide (a=b):=a6v a b
theorem c5q {ks:List Nat}:∀ {L:List (List Nat)},ks∈L->∃ j,c8z (dK ks) (L.map dK)=some j/\L[j]?=some ks
 | x :: r,h=>by
  by_cases e:x=ks
  ·exact⟨0,by simp[c8z,e2l,e],by simp[e]⟩
  ·have hr:ks∈r:=by simpa[Ne.symm e] using h
   obtain⟨j,e1,e2⟩:=c5q hr
   exact⟨j+1,by simp[c8z,e2l,e,e1],by simpa using e2⟩
theorem c8u {ks:List Nat}{L:List (List Nat)}(h:ks∈L)(hl:L.length<=1000){Q:FV->Prop}(q:∀ j:Nat,L[j]?=some ks->Q (.int j)):wp (a8e (.lst (L.map a3r)) (a3r ks)) Q:=by
 obtain⟨j,e1,e2⟩:=c5q h
 have hj:=(List.getElem?_eq_some_iff.mp e2).1
 have:a8e (.lst (L.map a3r)) (a3r ks)=some (.int j):=by
  unfold a8e
  rw[dsK,fdK]
  simp only[Option.bind_some,e1]
  rw[if_pos (by unfold big;lia)]
 rw[this]
 exact q j e2
theorem in_K {ks:List Nat}{L:List (List Nat)}(h:ks∈L)(R:Bool->Prop):wp (inF (a3r ks) (.lst (L.map a3r))) R↔R true:=by
 have dp:∀ L:List (List Nat),a7l (L.map dK)<=1:=by
  intro L
  induction L with
  | nil=>simp[a7l]
  | cons x r ih=>simp only[List.map_cons,a7l,dK,dep,b4u];lia
 have e2:FV.lst (L.map a3r)=dF (.lst (L.map dK)):=by
  simp only[dF,a1v,List.map_map]
  congr 1
  exact List.map_congr_left λb _=>d6e b
 have e:inF (a3r ks) (.lst (L.map a3r))=some true:=by
  unfold inF
  rw[fdK,e2,b1d _ _ (by have:=dp L;simp only[dep,a0j];lia)]
  show some _=some true
  congr 1
  exact List.any_eq_true.mpr ⟨_,List.mem_map.mpr ⟨ks,h,rfl⟩,by rw[e2l];simp⟩
 rw[e];exact Iff.rfl
theorem c9x {ok:Nat->Nat->Bool}{c:Nat->Nat->Int}{n:Nat}{p:PT}(h:Bst ok c (n+1) 0 (some p)):p.2∈AK n:=by
 obtain⟨b1,b2,b3,_⟩:=h
 obtain⟨v1,v2,_⟩:=b1x b3
 cases e:p.2 with
 | nil=>rw[e] at b2;simp[nxt] at b2
 | cons k r =>
  rw[e] at b2 v1 v2
  cases (show k=0 from b2)
  exact b1t n r v2 λx hx=>by have:=v1 x (Γh _ hx);lia
theorem kD_K {n:Nat}{ks:List Nat}(h:ks∈AK n):kD (n+1) (dK ks)=some ks:=by
 obtain⟨⟨r,er⟩,hs,hk,_⟩:=a7c n ks h
 have val:(ks.map λi:Nat=>D.int i).map a4c=ks.map λi:Nat=>(i:Int):=by rw[List.map_map];rfl
 have all:(ks.map λi:Nat=>D.int i).all isI=true:=by rw[List.all_map];simp[isI]
 unfold dK kD
 simp only[all,val,true_and]
 rw[if_pos]
 ·rw[List.map_map]
  congr 1
  conv=>rhs;rw[<- List.map_id ks]
  apply List.map_congr_left
  intro j _;simp
 ·refine⟨by rw[er];rfl,?_,λj hj=>?_⟩
  ·rw[List.pairwise_map]
   exact hs.imp λ{a b} hab=>by lia
  ·obtain⟨k,hk',rfl⟩:=List.mem_map.mp hj
   have:=hk k hk'
   lia
noncomputable def dT (ts:List Int):D:=.tup (ts.map .int)
theorem tD_T {c:Nat->Nat->Int}{n:Nat}{ts:List Int}:tD c n (dT ts)=if TI c n ts then some ts else none:=by
 have val:(ts.map D.int).map a4c=ts:=by
  rw[List.map_map]
  conv=>rhs;rw[<- List.map_id ts]
  rfl
 have all:(ts.map D.int).all isI=true:=by rw[List.all_map];simp[isI]
 unfold dT tD
 simp only[all,val,true_and]
theorem b3y (d:Nat){ws ss as:List Int}{r:Int}(h:Rwo ws ss)(ha:Ask ws.length as r){n:Nat}(hn:ws.length=n+1){ks:List Nat}(hks:ks∈AK n) (x:Int)(ts:List Int){Q:FV×FV->Prop}(q:Q (.bl (decide (TI (sc ws ss as r) ws.length ts/\pc (sc ws ss as r) ws.length ks=x/\ts.getD 0 0=x)),.non)):callW tb (d+6) 20 [a2o ws ss,a9y as,.int r,.int x,a3r ks,.tup (ts.map .int)] Q:=by
 rw[d6e,show FV.tup (ts.map .int)=dF (dT ts) by rw[dT,dF,a1v,a6y]]
 obtain⟨_,_,_,hl⟩:=a7c n ks hks
 have:=h.hn
 refine d1w d h ha (.int x) _ _ (λds e=>?_) ?_
 ·cases e;simp;lia
 ·have:okS (sc ws ss as r) ws.length (.int x) (dK ks) (dT ts)=decide (TI (sc ws ss as r) ws.length ts/\pc (sc ws ss as r) ws.length ks=x/\ts.getD 0 0=x):=by
   unfold okS
   have e:=kD_K hks
   rw[<- hn] at e
   rw[e,tD_T]
   by_cases c:TI (sc ws ss as r) ws.length ts
   ·simp[c,isI,a4c];rfl
   ·simp[c,isI]
  rw[this];exact q
theorem d6w {c:Nat->Nat->Int}{n:Nat}{P:Nat->PT}(hP:∀ j,j<=n->Bst okT c n j (some (P j))):TI c n ((List.range (n+1)).map λj=>(P j).1):=by
 have hg:∀ e,e<=n->((List.range (n+1)).map λj=>(P j).1).getD e 0=(P e).1:=λe he=>by
  simp[List.getD,show e<n+1 by lia]
 refine⟨by simp,?_,λb hb=>?_⟩
 ·rw[hg _ (Γi _),Option.some.inj ((hP n (Γi _)).uniq a9u)]
 ·rw[hg b (by lia)]
  have e:(List.range' (b+1) (n-b)).map (λe=>c b e+((List.range (n+1)).map λj=>(P j).1).getD e 0)=(List.range' (b+1) (n-b)).map λe=>c b e+(P e).1:=by
   apply List.map_congr_left
   intro e he
   have he:=List.mem_range'_1.mp he
   rw[hg e (by lia)]
  unfold mnL
  rw[e]
  obtain⟨t,ht⟩:∃ t,n-b=t+1:=⟨n-b-1,by lia⟩
  obtain⟨x,r',hx⟩:∃ x r',(List.range' (b+1) (n-b)).map (λe=>c b e+(P e).1)=x :: r':=by rw[ht,List.range'_succ];exact⟨_,_,rfl⟩
  rw[hx]
  exact (b8z hb hP hx).symm
theorem d0u {c:Nat->Nat->Int}{n:Nat}(hn:0<n){x y:Int}{ts:List Int}(h:TI c n (x :: ts))(hy:y≠x):¬ TI c n (y :: ts):=by
 intro z
 have e1:=h.2.2 0 hn
 have e2:=z.2.2 0 hn
 have:mnL c n (x :: ts) 0=mnL c n (y :: ts) 0:=by
  unfold mnL
  have:(List.range' (0+1) (n-0)).map (λe=>c 0 e+(x :: ts).getD e 0)=(List.range' (0+1) (n-0)).map λe=>c 0 e+(y :: ts).getD e 0:=by
   apply List.map_congr_left
   intro e he
   have he:=List.mem_range'_1.mp he
   obtain⟨k,rfl⟩:∃ k,e=k+1:=⟨e-1,by lia⟩
   rfl
  rw[this]
 simp at e1 e2
 lia
theorem b0l {α:Type}(f g:α->FV):∀ (m:Nat)(l:List α),a2v ((l.take m).map f) (l.map g)=(l.take m).map λx=>FV.tup [f x,g x]
 | 0,l=>by simp[a2v]
 | m+1,[]=>by simp[a2v]
 | m+1,x :: r=>by
  have:=b0l f g m r
  simp only[a2v,List.map_take] at this ⊢
  simp[this]
theorem d7l (d:Nat){ws ss as:List Int}{r:Int}(h:Rwo ws ss)(ha:Ask ws.length as r){n:Nat}(hn:ws.length=n+1)(h8:n<=8){Q:FV×FV->Prop}(q:Q (.bl true,.non)):callW tb (d+7) 43 [a2o ws ss,a9y as,.int r,.lst ((AK n).map a3r)] Q:=by
 obtain⟨P,hP⟩:=b2e (sc ws ss as r) ws.length
 have hak:(AK n).length<=256:=by
  rw[b5h]
  exact Nat.pow_le_pow_right (by decide) (show n<=8 by lia)
 have h0:=hP 0 (Nat.zero_le _)
 rw[hn] at h0
 have hin:=c9x h0
 refine a0e (fd:=e1c) rfl rfl ?_
 simp[e1c,e3g]
 refine b2p (d+2) h ha hP ?_
 rw[show a3d (P 0)=.tup [.int (P 0).1,a3r (P 0).2] from rfl]
 simp
 refine b7x (d+2) h ha hP ?_
 simp
 refine⟨by simp[big];lia,?_⟩
 refine a0l (f:=a3r) (g:=λks=>.int (pc (sc ws ss as r) ws.length ks)) (AK n) [] (λks hks K k=>?_) ?_
 ·simp
  exact c2e (d+1) h ha (a9g h hn hks) k
 rw[List.nil_append]
 obtain⟨ts,hts⟩:∃ ts,ts=(List.range (ws.length+1)).map λj=>(P j).1:=⟨_,rfl⟩
 have hti:TI (sc ws ss as r) ws.length ts:=by rw[hts];exact d6w hP
 have ht0:ts.getD 0 0=(P 0).1:=by rw[hts];simp[List.getD]
 have etb:c9k P ws.length=.tup (ts.map .int):=by rw[hts,c9k,List.map_map];rfl
 rw[etb]
 have es:(AK n).map (λks=>FV.int (pc (sc ws ss as r) ws.length ks))=((AK n).map λks=>pc (sc ws ss as r) ws.length ks).map .int:=by simp
 rw[es]
 obtain⟨gs,hgs⟩:∃ gs,gs=(AK n).map λks=>pc (sc ws ss as r) ws.length ks:=⟨_,rfl⟩
 rw[<- hgs]
 obtain⟨x,xr,ex⟩:∃ x xr,gs=x :: xr:=by
  cases e:gs with
  | nil=>rw[hgs,List.map_eq_nil_iff] at e;rw[e] at hin;cases hin
  | cons a b=>exact⟨a,b,rfl⟩
 have hx:a1c x xr=(P 0).1:=by
  rw[hgs,hn] at ex
  exact b9j h0 ex
 simp
 rw[b2j ex,hx]
 simp
 rw[in_K hin]
 simp[d6a]
 refine c8u hin (by lia) λj hj=>?_
 simp
 rw[a2s (n:=j) rfl (show (gs.map FV.int)[j]?=some (.int (P 0).1) by rw[hgs];simp[hj];rw[hn];exact h0.1.symm)]
 simp
 rw[show (40:Int)=((40:Nat):Int) from rfl,c1a,<- List.map_take,show gs.map FV.int=(AK n).map λks=>FV.int (pc (sc ws ss as r) ws.length ks) by rw[hgs,<- es],b0l]
 refine a4o (f:=λks=>FV.tup [a3r ks,.int (pc (sc ws ss as r) ws.length ks)]) (I:=λ_ L=>∃ a b c,L=[some (a2o ws ss),some (a9y as),some (.int r),some (.lst ((AK n).map a3r)),some (.int (P 0).1),some (a3r (P 0).2),some (.tup (ts.map .int)),some (.lst ((AK n).map λks=>.int (pc (sc ws ss as r) ws.length ks))),a,b,c]) ((AK n).take 40) ((AK n).take 40) [] _ rfl ⟨_,_,_,rfl⟩ ?_ ?_
 ·rintro ds ks r' L K e ⟨a,b,c,rfl⟩ k
  have hks:ks∈AK n:=List.mem_of_mem_take (by rw[e];simp)
  simp
  refine b3y d h ha hn hks _ ts ?_
  generalize ho:pc (sc ws ss as r) ws.length ks=o
  have e1:decide (TI (sc ws ss as r) ws.length ts/\o=(P 0).1/\ts.getD 0 0=(P 0).1)=decide (o=(P 0).1):=by simp only[hti,ht0,true_and,and_true]
  rw[e1]
  simp
  rw[if_pos (by rw[Bool.eq_iff_iff];simp)]
  refine ite2 (λhgt=>?_) (λhle=>k _ ⟨_,_,_,rfl⟩)
  have hl:=hti.1
  have h30:=h.hn
  obtain⟨t0,tr,et⟩:∃ t0 tr,ts=t0 :: tr:=by
   cases z:ts with
   | nil=>rw[z] at hl;simp at hl
   | cons a b=>exact⟨a,b,rfl⟩
  have e0:t0=(P 0).1:=by rw[et] at ht0;simpa using ht0
  refine⟨by simp only[big];lia,?_⟩
  refine a0l (f:=λt:Int=>FV.int t) (g:=λt=>.int (t+o-(P 0).1)) ts [] (λt ht K2 k2=>?_) ?_
  ·simp
   exact k2
  rw[List.nil_append,show ts.map (λt=>FV.int (t+o-(P 0).1))=(ts.map λt=>t+o-(P 0).1).map .int by simp]
  obtain⟨us,hus⟩:∃ us,us=ts.map λt=>t+o-(P 0).1:=⟨_,rfl⟩
  rw[<- hus]
  simp[sl_t]
  refine⟨by decide,?_⟩
  rw[b4x]
  rw[et] at hl
  simp at hl
  simp[et,big]
  refine⟨by lia,?_⟩
  rw[show [FV.tup (FV.int t0 :: tr.map .int),FV.tup (FV.int o :: tr.map .int),FV.tup (us.map .int)]=[t0 :: tr,o :: tr,us].map λl=>FV.tup (l.map .int) by simp]
  refine a0l (f:=λl:List Int=>FV.tup (l.map .int)) (g:=λl=>.bl (decide (TI (sc ws ss as r) ws.length l/\o=o/\l.getD 0 0=o))) [t0 :: tr,o :: tr,us] [] (λl hl' K2 k2=>?_) ?_
  ·simp only[a4y,a0i,a0a,a0b,a0k]
   simp
   refine b3y d h ha hn hks _ l ?_
   rw[ho]
   exact k2
  ·rw[List.nil_append,a2d,a1o,if_neg]
   ·exact k _ ⟨some (a3r ks),some (.int o),some (.tup (us.map .int)),by rw[et];rfl⟩
   ·intro hm
    obtain⟨l,hl',el⟩:=List.mem_map.mp hm
    obtain⟨c1,_,c2⟩:=of_decide_eq_true el
    simp only[List.mem_cons,List.not_mem_nil,or_false] at hl'
    rw[et] at hti
    rcases hl' with rfl|rfl|rfl
    ·simp at c2;lia
    ·exact d0u (by lia) hti (by lia) c1
    ·have hlast:=c1.2.1
     have hold:=hti.2.1
     rw[<- et] at hold
     have hx9:ws.length<ts.length:=by rw[et];simp;lia
     rw[hus] at hlast
     simp[List.getD,hx9] at hlast hold
     lia
 ·rintro L ⟨a,b,c,rfl⟩
  simp
  exact q
theorem c3n {f:Nat->Int}{i:Nat}{L:List (List Nat)}{a b:List Nat->Int}(h:∃ ks∈L,a ks=i/\b ks=f i)(R:Bool->Prop):wp (inF (b4t f i) (.lst (L.map λks=>FV.tup [.int (a ks),.int (b ks)]))) R↔R true:=by
 obtain⟨ks,hk,e1,e2⟩:=h
 have e3:b4t f i=dF (.tup [.int i,.int (f i)]):=by simp[b4t,dF,a1v]
 have e4:FV.lst (L.map λks=>FV.tup [.int (a ks),.int (b ks)])=dF (.lst (L.map λks=>.tup [.int (a ks),.int (b ks)])):=by simp[dF,a1v,Function.comp_def]
 have dp:∀ L:List (List Nat),a7l (L.map λks=>D.tup [.int (a ks),.int (b ks)])<=1:=by
  intro L
  induction L with
  | nil=>simp[a7l]
  | cons x r ih=>simp only[List.map_cons,a7l,dep];lia
 have e:inF (b4t f i) (.lst (L.map λks=>FV.tup [.int (a ks),.int (b ks)]))=some true:=by
  rw[e3,e4]
  unfold inF
  rw[b1d _ _ (by simp[dep,a7l,a0j]),b1d _ _ (by have:=dp L;simp only[dep,a0j];lia)]
  show some _=some true
  congr 1
  exact List.any_eq_true.mpr ⟨_,List.mem_map.mpr ⟨ks,hk,rfl⟩,by rw[e1,e2];simp[D.eqv,D.eqvs]⟩
 rw[e];exact Iff.rfl
theorem d9f {ws ss:List Int}{T:Nat->PT}{n:Nat}(hn:ws.length=n+1)(hT:Tld ws ss T){i:Nat}(hi:i∈nbt (λi=>(T i).1) ws.length):∃ ks∈AK n,dp ws.length ks=i/\pc (a0w ws ss) ws.length ks=(T i).1:=by
 obtain⟨hin,hg⟩:=List.mem_filter.mp hi
 have hin:=List.mem_range.mp hin
 have hg:=gd_iff.mp hg
 obtain⟨t1,t2,t3⟩:=T_in hn hT (show i<n+1 by lia)
 refine⟨_,t1,?_,by rw[hn];exact t2.symm⟩
 rw[hn]
 obtain⟨g0,g1⟩:=c5u t1
 obtain⟨j,hj⟩:∃ j:Nat,dp (n+1) (T i).2=j:=⟨(dp (n+1) (T i).2).toNat,by lia⟩
 by_cases e:j=i
 ·lia
 ·have a1:=T_le hn hT (show j<n+1 by lia) t1 (by lia)
  have a2:=hg j (by lia)
  lia
theorem c1q {n:Nat}{a r:Int}(ha:0<=a/\a<=1)(hr:0<=r/\r<=1):Ask n (Γj n a) r:=by
 refine⟨by simp,λx hx=>?_,by lia,by lia⟩
 rw[(List.mem_replicate.mp hx).2];lia
theorem c6s {ws ss:List Int}{n b e:Nat}:sc ws ss (Γj n 0) 1 b e=a0w ws ss b e:=by
 have:c1p ws ss (Γj n 0) b e=0:=by
  unfold c1p
  have:(List.range' b (e-b)).map (λm=>(Γj n (0:Int)).getD m 0*a0w ws ss b (m+1))=(List.range' b (e-b)).map λ_=>(0:Int):=by
   apply List.map_congr_left
   intro m _
   have:(Γj n (0:Int)).getD m 0=0:=by
    simp only[List.getD,List.getElem?_replicate]
    split<;>rfl
   rw[this,Int.zero_mul]
  rw[this]
  induction (List.range' b (e-b)) with
  | nil=>rfl
  | cons x r ih=>simpa using ih
 unfold sc
 rw[this];lia
theorem law_val (ns:List Int):callW tb 14 44 [.scr ns] λz=>z.1=.bl true:=by
 refine a0e (fd:=e1b) rfl rfl ?_
 simp[e1b,e3f]
 refine⟨by simp[a1i];split<;>lia,?_⟩
 refine a2r (I:=λ_ L=>∃ a b c d e f g h i,L=[some (.scr ns),a,b,c,d,e,f,g,h,i]) _ 0 _ ⟨_,_,_,_,_,_,_,_,_,rfl⟩ ?_ ?_
 ·rintro k L K - - ⟨a,b,c,d,e,f,g,h,i,rfl⟩ kk
  simp
  refine c8j 12 ns k λv1 y l1=>?_
  simp
  refine d1j 9 l1 (by lia) (by lia) (by decide) (by decide) λws0 ss0 v2 w1 w2 hsl hw hs l2=>?_
  have R0:Rwo ws0 ss0:=⟨hw,hs,hsl,w2⟩
  rw[show FV.tup [.tup (ws0.map .int),.tup (ss0.map .int)]=a2o ws0 ss0 from rfl]
  have R:=c9s R0
  simp
  refine c8l 12 ?_
  have h8:(ws0.take 8).length<=8:=by simp;lia
  have h1:1<=(ws0.take 8).length:=by simp;lia
  generalize ws0.take 8=ws at R h8 h1 ⊢
  generalize ss0.take 7=ss at R ⊢
  clear R0 w1 w2 hsl hw hs ws0 ss0
  obtain⟨n,hn⟩:∃ n,ws.length=n+1:=⟨ws.length-1,by lia⟩
  simp[a0z]
  refine d0b 10 l2 (by lia) (by lia) R.hn λas r v3 ha l3=>?_
  simp
  refine c4n 12 h1 (by lia) ?_
  obtain⟨T,hT⟩:=c6e ws ss
  have hak:(AK n).length<=256:=by
   rw[b5h]
   exact Nat.pow_le_pow_right (by decide) (show n<=8 by lia)
  rw[show ws.length-1=n by lia]
  simp
  refine d2y 9 R hT ?_
  simp
  refine⟨by simp only[big];lia,?_⟩
  refine a0l (f:=a3r) (g:=λ_=>.bl true) (AK n) [] (λks hks K2 k2=>?_) ?_
  ·simp
   exact d9k 8 R hn h8 hT hks k2
  rw[List.nil_append,b5g,a2d,a1o]
  simp
  refine⟨by simp only[big];lia,?_⟩
  refine a0l (f:=a3r) (g:=λks=>.tup [.int (dp ws.length ks),.int (pc (a0w ws ss) ws.length ks)]) (AK n) [] (λks hks K2 k2=>?_) ?_
  ·have w:=a9g R hn hks
   simp
   refine b0i 10 w ?_
   rw[b9m w]
   refine a5o 9 w ?_
   rw[b0y w]
   exact⟨by decide,k2⟩
  rw[List.nil_append]
  have hnl:=b2g (λi=>(T i).1) ws.length
  simp[d5y]
  refine⟨by simp only[big];lia,?_⟩
  refine a0l (f:=b4t λi=>(T i).1) (g:=λ_=>.bl true) (nbt (λi=>(T i).1) ws.length) [] (λi hi K2 k2=>?_) ?_
  ·simp
   rw[c3n (f:=λi=>(T i).1) (a:=λks=>dp ws.length ks) (b:=λks=>pc (a0w ws ss) ws.length ks) (d9f hn hT hi)]
   exact k2
  rw[List.nil_append,b5g,a2d,a1o]
  simp
  refine d7l 6 R ha hn (by lia) ?_
  have h30:=R.hn
  simp[b5k]
  refine⟨by decide,⟨by lia,by simp only[big];lia⟩,?_⟩
  have er:∀ a:Int,FV.tup (Γj ws.length (.int a))=a9y (Γj ws.length a):=λa=>by simp[a9y]
  rw[er 0,er 1]
  have a0:Ask ws.length (Γj ws.length 0) 1:=c1q (by decide) (by decide)
  have a1:Ask ws.length (Γj ws.length 1) 0:=c1q (by decide) (by decide)
  obtain⟨P,hP⟩:=b2e (sc ws ss (Γj ws.length 0) 1) ws.length
  obtain⟨P',hP'⟩:=b2e (sc ws ss (Γj ws.length 1) 0) ws.length
  refine b2p 9 R a0 hP ?_
  simp[a3d]
  refine a5l 10 R (by lia) λo ho=>?_
  have hb:=hP 0 (Nat.zero_le _)
  rw[show sc ws ss (Γj ws.length 0) 1=a0w ws ss from funext λb=>funext λe=>c6s] at hb
  have ho':Bst okT (a0w ws ss) ws.length 0 o:=a7a (λa e h1 h2=>by simp only[okM,leO,okT,Bool.and_true];exact decide_eq_true (by lia)) ho
  cases ho'.uniq hb
  simp[c0h,a3d]
  refine⟨by decide,⟨by lia,by simp only[big];lia⟩,?_⟩
  refine b2p 9 R a1 hP' ?_
  simp[a3d]
  refine d3h 11 R ?_
  simp
  rw[show (List.range ws.length).map (FV.int ∘ lrd ws ss)=((List.range ws.length).map (lrd ws ss)).map .int by simp]
  refine c6k (by simp;lia) (λx hx=>?_) ?_
  ·obtain⟨m,hm,rfl⟩:=List.mem_map.mp hx
   exact d3g R (List.mem_range.mp hm)
  rw[<- c6l R.hl (hP' 0 (Nat.zero_le _))]
  simp
  exact kk _ ⟨_,_,_,_,_,_,_,_,_,rfl⟩
 ·rintro L ⟨a,b,c,d,e,f,g,h,i,rfl⟩
  simp
end Kq
end
set_option maxRecDepth 100000
set_option maxHeartbeats 4000000
section
namespace Kq
open PySem PySem.Spec PyProof.Rows L2 PySem.W
noncomputable def top (i:Nat):Stmt:=PySem.Challenge.pw_keepwhole_k66_whole_rows_beside_all_kept.main.body.getD i (.Pass ⟨0,0,0,0⟩)
noncomputable def d0:Df:=⟨"is_number",top 1,["thing"],["thing"],[]⟩
noncomputable def d1:Df:=⟨"is_tuple_of",top 2,["thing","many"],["thing","many"],[]⟩
noncomputable def d2:Df:=⟨"is_make",top 4,["thing","makes"],["thing","makes"],[]⟩
noncomputable def d3:Df:=⟨"change_sizes",top 5,["stock"],["stock"],[]⟩
noncomputable def d4:Df:=⟨"kept_sizes",top 6,["stock","laying"],["stock","laying","sizes"],[]⟩
noncomputable def d5:Df:=⟨"room",top 7,["stock","laying"],["stock","laying"],[]⟩
noncomputable def d6:Df:=⟨"way",top 8,["laying","make"],["laying","make","makes","on"],[.imm,.imm,.own]⟩
noncomputable def d7:Df:=⟨"deep",top 9,["laying","make"],["laying","make"],[]⟩
noncomputable def d8:Df:=⟨"reads",top 10,["stock","laying"],["stock","laying","sizes"],[]⟩
noncomputable def d9:Df:=⟨"are_makes",top 12,["thing","many"],["thing","many"],[]⟩
noncomputable def d10:Df:=⟨"row_stock",top 14,["row"],["row","wholes","steps"],[]⟩
noncomputable def d11:Df:=⟨"row_laying",top 15,["row","kept"],["row","kept"],[]⟩
noncomputable def d12:Df:=⟨"row_room",top 16,["row","kept"],["row","kept"],[]⟩
noncomputable def d13:Df:=⟨"row_reads",top 17,["row","kept"],["row","kept"],[]⟩
noncomputable def d14:Df:=⟨"row_deep",top 18,["row","kept"],["row","kept","laying"],[]⟩
noncomputable def d15:Df:=⟨"stretch_size",top 19,["row","first","end"],["row","first","end","wholes","steps"],[]⟩
noncomputable def d16:Df:=⟨"least_sum",top 21,["row","asks","rate"],["row","asks","rate"],[]⟩
noncomputable def d17:Df:=⟨"sum_table",top 22,["row","asks","rate"],["row","asks","rate"],[]⟩
noncomputable def d18:Df:=⟨"best_sums",top 23,["row","asks","rate"],["row","asks","rate","best","first","stretches","found"],[]⟩
noncomputable def d19:Df:=⟨"stretch_sums",top 24,["row","asks","rate","first"],["row","asks","rate","first","sums","asked","make","read"],[.imm,.imm,.imm,.imm,.own]⟩
noncomputable def d20:Df:=⟨"shows_sum",top 25,["row","asks","rate","number","kept","table"],["row","asks","rate","number","kept","table"],[]⟩
noncomputable def d21:Df:=⟨"is_kept",top 26,["row","thing"],["row","thing"],[]⟩
noncomputable def d22:Df:=⟨"kept_sum",top 27,["row","asks","rate","kept"],["row","asks","rate","kept","asked"],[]⟩
noncomputable def d23:Df:=⟨"is_table",top 28,["row","asks","rate","thing"],["row","asks","rate","thing","many","first","stretches"],[]⟩
noncomputable def d24:Df:=⟨"within_deep",top 30,["row","most"],["row","most","many"],[]⟩
noncomputable def d25:Df:=⟨"within_reads",top 31,["row","most"],["row","most"],[]⟩
noncomputable def d26:Df:=⟨"reads_end",top 32,["row","first","most"],["row","first","most","end"],[]⟩
noncomputable def d27:Df:=⟨"least_kept",top 33,["row","ends"],["row","ends","many","best","first","found","end","takes","kept"],[.imm,.imm,.imm,.own,.imm,.own]⟩
noncomputable def d28:Df:=⟨"deep_for",top 34,["row","most"],["row","most","bound","takes","kept"],[]⟩
noncomputable def d29:Df:=⟨"reads_for",top 35,["row","most"],["row","most","many","bounds","low","high","middle","told","takes","kept"],[]⟩
noncomputable def d30:Df:=⟨"not_beaten",top 36,["row"],["row","pairs","bound","takes"],[.imm,.own]⟩
noncomputable def d31:Df:=⟨"_law_mix",top 38,["_law_cell","_law_k"],["_law_cell","_law_k","_law_m"],[]⟩
noncomputable def d32:Df:=⟨"_law_left",top 39,["_law_script","_law_k"],["_law_script","_law_k","_law_cell"],[]⟩
noncomputable def d33:Df:=⟨"_law_pick",top 40,["_law_left_here","_law_many"],["_law_left_here","_law_many","_law_digit"],[.own]⟩
noncomputable def d34:Df:=⟨"_law_size",top 41,["_law_left_here","_law_great"],["_law_left_here","_law_great","_law_way_drawn"],[.own]⟩
noncomputable def d35:Df:=⟨"_law_row",top 42,["_law_left_here","_law_most"],["_law_left_here","_law_most","_law_many","_law_great","_law_wholes"],[.own]⟩
noncomputable def d36:Df:=⟨"_law_asks",top 43,["_law_left_here","_law_many"],["_law_left_here","_law_many","_law_most","_law_chosen","_law_found","_law_some"],[.own]⟩
noncomputable def d37:Df:=⟨"_law_stretch",top 44,["_law_row_here","_law_begin","_law_end"],["_law_row_here","_law_begin","_law_end"],[]⟩
noncomputable def d38:Df:=⟨"_law_all_kept",top 45,["_law_many"],["_law_many","_law_found","_law_make"],[]⟩
noncomputable def d39:Df:=⟨"_law_least_reads",top 46,["_law_row_here"],["_law_row_here","_law_found","_law_make"],[.imm,.own]⟩
noncomputable def d40:Df:=⟨"_law_cut",top 47,["_law_row_here","_law_many"],["_law_row_here","_law_many"],[]⟩
noncomputable def d41:Df:=⟨"_law_kept_right",top 48,["_law_row_here","_law_kept","_law_pairs"],["_law_row_here","_law_kept","_law_pairs","_law_far","_law_size_here","_law_most"],[]⟩
noncomputable def d42:Df:=⟨"_law_sum_of",top 49,["_law_row_here","_law_asks_here","_law_rate","_law_kept"],["_law_row_here","_law_asks_here","_law_rate","_law_kept"],[]⟩
noncomputable def d43:Df:=⟨"_law_sums_right",top 50,["_law_row_here","_law_asks_here","_law_rate","_law_every"],["_law_row_here","_law_asks_here","_law_rate","_law_every","_law_number","_law_kept","_law_table","_law_sums","_law_one","_law_own","_law_more"],[]⟩
noncomputable def d44:Df:=⟨"law",top 51,["_law_script"],["_law_script","_law_k","_law_left_here","_law_row_here","_law_many","_law_asks_here","_law_rate","_law_every","_law_pairs","_law_some"],[.imm,.imm,.own]⟩
noncomputable def fns:List Str:=[Γe "is_number",Γe "is_tuple_of",Γe "is_make",Γe "change_sizes",Γe "kept_sizes",Γe "room",Γe "way",Γe "deep",Γe "reads",Γe "are_makes",Γe "row_stock",Γe "row_laying",Γe "row_room",Γe "row_reads",Γe "row_deep",Γe "stretch_size",Γe "least_sum",Γe "sum_table",Γe "best_sums",Γe "stretch_sums",Γe "shows_sum",Γe "is_kept",Γe "kept_sum",Γe "is_table",Γe "within_deep",Γe "within_reads",Γe "reads_end",Γe "least_kept",Γe "deep_for",Γe "reads_for",Γe "not_beaten",Γe "_law_mix",Γe "_law_left",Γe "_law_pick",Γe "_law_size",Γe "_law_row",Γe "_law_asks",Γe "_law_stretch",Γe "_law_all_kept",Γe "_law_least_reads",Γe "_law_cut",Γe "_law_kept_right",Γe "_law_sum_of",Γe "_law_sums_right",Γe "law"]
abbrev DB (d:Df)(fr:Bool)(b:CW->SW):Prop:=∀ (X:Cx)(call:CW) (n:Nat),Good X (d.cc fns) n (spK tb call)->FSs X (d.cc fns) fr (a2n d.st) (b call)
local macro_rules | `(tactic| ac_rfl)=>do
 let g:=Lean.mkIdent `G
 let mut ts:Array (Lean.TSyntax ``Lean.Parser.Tactic.tacticSeq):=#[]
 for r in ("§fe_var 12210;e2j 03110;fe_int 00010;fa_nil 00010;fr_var 11110;a0m 02010;a2g 01010;e0y 16510;fs_ret 01010;fe_ix 03110;fe_add 02010;d5r 12110;fs_set 14310;d9w 00010;d3u 11110;CompOk.mk 05110;fe_tup 01010;fs_if 03010;fs_nil 00010;fe_len 13210;e0j 00010;fe_bl 00010;d5v 18710;fb_not 01010;fe_mul 02010;c9h 11010;e0d 01010;fe_sub 02010;d5t 13210;fw_or 02010;fe_sl 03010;fe_ixN 13210;fe_one 01010;fe_and 02010;d9y 14310;fw_or1 01010;fe_lst 01010;fb_ne 12010;ff_lst 01010;e0e 00010;fe_eq 12010;fe_app 15410;e0b 02110;fe_all 13210;fe_mod 02010;fb_gt 02010;fe_isi 15410;fe_if 03010;e0o 13210;e0k 16510;fb_lt 12010;e0w 02010;fe_pow 02010;fe_le 12010;fs_whl 02010;e0n 13210;fe_non 00010;e0p 13210;fb_le 12010;d9v 01010;fw_and 02010;fb_eq 12010;e2i 01010;fb_in2 13010;e0q 13210;fs_add 13210;d9z 12210;e0r 15310;fe_abs 13210;fs_ix 15310;d9x 14210;fe_any 13210;e0m 02010;fe_not 01010;e0u 14010;fb_isN 01010;e0x 12010;e0l 13210;fe_lt 12010;e0t 13210;fg_tn 12110;d5s 02010;fe_dgN 13210;e0c 15310;e0v 14310;d5q 15310;CompOk2.mk 09210;fe_neg 01010;fe_ge 02010;d5u 13210;e0s 13210;d3w 14310;fb_ni2 13010;fe_in2 13010;fs_tup 14210;e0a 01010;fr_of 01010;fb_val 02110;fb_w 01010;e0k 16511;fi_rng 13200;fi_seq 01000;fi_zip 15300;e0g 15300;e0i 13200;e0h 13200;fe_int 00000;fe_bl 00000;fe_non 00000".drop 1).toString.splitOn ";" do
  let [n,c]:=r.splitOn " " | continue
  let [a,k,s,w,e]:=c.toList.map λx=>x.toNat-48|continue
  let f:=Lean.mkIdent n.toName
  let mut as:Array Lean.Term:=if a=1 then #[g] else #[]
  for _ in [0:k] do as:=as.push (<- `(?_))
  let mut t <- if as.isEmpty then `(tactic| exact $f) else `(tactic| refine $f $as*)
  if w=1 then t <- `(tactic| with_reducible $t:tactic)
  if e=1 then t <- `(tactic| ((with_reducible refine a2j ?_); $t:tactic))
  for _ in [0:s] do t <- `(tactic| (($t:tactic); first | decide +kernel | rfl))
  ts:=ts.push (<- `(Lean.Parser.Tactic.tacticSeq| $t:tactic))
 ts:=ts.push (<- `(Lean.Parser.Tactic.tacticSeq| first | decide +kernel))
 `(tactic| repeat' first $[| $ts]*)
local macro_rules | `(tactic| ac_nf)=>do
 let g:=Lean.mkIdent `G
 `(tactic| (intro _ $g:ident; ac_rfl))
local macro_rules | `(tactic| eq_refl)=>do
 let g:=Lean.mkIdent `G
 `(tactic| (intro $g:ident; ac_rfl))
local macro_rules | `(tactic| exists $e)=>`(tactic| (refine $e; ac_rfl))
local macro_rules | `(tactic| exists $e,$g:ident)=>`(tactic| (intro X call n $g:ident; refine $e; ac_rfl))
theorem db0:DB d0 false bd0:=by
 delta bd0
 exists a2g ?_,G
theorem db1:DB d1 false bd1:=by
 delta bd1
 exists a2g ?_,G
theorem db2:DB d2 false bd2:=by
 delta bd2
 exists a2g ?_,G
theorem db3:DB d3 false bd3:=by
 delta bd3
 exists a2g ?_,G
 exists c3x G (own:=["a","b","size"]) (md':=[]) ?_ ?_
 ac_nf
 ac_nf
 ac_nf
 ac_nf
theorem db4:DB d4 false bd4:=by
 exists a0m ?_ ?_,G
 exists a2j (a0o G (own:=["make","on"]) (md':=[]) ?_)
 ac_nf
 ac_nf
 ac_nf
theorem db5:DB d5 false bd5:=by
 delta bd5
 exists a2g ?_,G
theorem db6:DB d6 false bd6:=by
 exists a0m ?_ ?_,G
theorem db7:DB d7 false bd7:=by
 delta bd7
 exists a2g ?_,G
theorem db8:DB d8 false bd8:=by
 exists a0m ?_ ?_,G
 exists a2j (a0o G (own:=["make"]) (md':=[]) ?_)
 ac_nf
 ac_nf
 ac_nf
 exists a2j (a0o G (own:=["passed"]) (md':=[]) ?_)
 ac_nf
 ac_nf
 ac_nf
theorem db9:DB d9 false bd9:=by
 exists a0m ?_ ?_,G
 exists a2j (a0o G (own:=["make"]) (md':=[]) ?_)
 ac_nf
 ac_nf
 ac_nf
 exists a2j (a0o G (own:=["ahead","behind"]) (md':=[]) ?_)
 ac_nf
 ac_nf
 ac_nf
theorem db10:DB d10 false e4b:=by
 exists a0m ?_ ?_,G
 exists a2j (a0o G (own:=["make","size"]) (md':=[]) ?_)
 ac_nf
 ac_nf
 ac_nf
theorem db11:DB d11 false d6r:=by
 delta d6r
 exists a2g ?_,G
 exists a2j (a0o G (own:=["make"]) (md':=[]) ?_)
 ac_nf
 ac_nf
 ac_nf
theorem db12:DB d12 false d6q:=by
 delta d6q
 exists a2g ?_,G
theorem db13:DB d13 false d6p:=by
 delta d6p
 exists a2g ?_,G
theorem db14:DB d14 false e4a:=by
 exists a0m ?_ ?_,G
 exists a2j (a0o G (own:=["make"]) (md':=[]) ?_)
 ac_nf
 ac_nf
 ac_nf
theorem db15:DB d15 false e3z:=by
 exists a0m ?_ ?_,G
theorem db16:DB d16 false d6o:=by
 delta d6o
 exists a2g ?_,G
theorem db17:DB d17 false d6n:=by
 delta d6n
 exists a2g ?_,G
 exists a2j (a0o G (own:=["number","kept"]) (md':=[]) ?_)
 ac_nf
 ac_nf
 ac_nf
theorem db18:DB d18 false e3y:=by
 exists a0m ?_ ?_,G
 exists a3p G (md':=[]) ?_ ?_ ?_ ?_
 eq_refl
 exists a6s G (own:=["takes","number","kept"]) (md':=[]) ?_ ?_ ?_
 ac_nf
 ac_nf
 ac_nf
theorem db19:DB d19 true e3x:=by
 exists a0m ?_ ?_,G
 exists a3p G (md':=[.imm,.imm,.imm,.imm,.own]) ?_ ?_ ?_ ?_
 eq_refl
theorem db20:DB d20 false e3w:=by
 exists a0m ?_ ?_,G
theorem db21:DB d21 false d6m:=by
 delta d6m
 exists a2g ?_,G
theorem db22:DB d22 false e3v:=by
 exists a0m ?_ ?_,G
 exists a6s G (own:=["ask","read"]) (md':=[]) ?_ ?_ ?_
 ac_nf
 ac_nf
 ac_nf
theorem db23:DB d23 false d6l:=by
 exists a0m ?_ ?_,G
 exists a2j (a0o G (own:=["number"]) (md':=[]) ?_)
 ac_nf
 ac_nf
 ac_nf
 exists a3p G (md':=[]) ?_ ?_ ?_ ?_
 eq_refl
 exists a2j (a0o G (own:=["takes","number"]) (md':=[]) ?_)
 ac_nf
 ac_nf
 ac_nf
theorem db24:DB d24 false e3u:=by
 exists a0m ?_ ?_,G
 exists a2j (a0o G (own:=["first"]) (md':=[]) ?_)
 ac_nf
 ac_nf
 ac_nf
theorem db25:DB d25 false d6k:=by
 delta d6k
 exists a2g ?_,G
 exists a2j (a0o G (own:=["first"]) (md':=[]) ?_)
 ac_nf
 ac_nf
 ac_nf
theorem db26:DB d26 false e3t:=by
 exists a0m ?_ ?_,G
theorem db27:DB d27 false e3s:=by
 exists a0m ?_ ?_,G
 exists a3p G (md':=[.imm,.imm,.imm,.own,.imm,.own]) ?_ ?_ ?_ ?_
 eq_refl
 exists a3p G (md':=[.imm,.imm,.imm,.own,.imm,.own]) ?_ ?_ ?_ ?_
 eq_refl
theorem db28:DB d28 false e3r:=by
 exists a0m ?_ ?_,G
 exists a3p G (md':=[]) ?_ ?_ ?_ ?_
 eq_refl
theorem db29:DB d29 false e3q:=by
 exists a0m ?_ ?_,G
 exists c0d G (own:=["first","end"]) (md':=[]) ?_ ?_
 ac_nf
 ac_nf
 ac_nf
 ac_nf
 ac_nf
 ac_nf
theorem db30:DB d30 true e3p:=by
 exists a0m ?_ ?_,G
 exists a3p G (md':=[.imm,.own]) ?_ ?_ ?_ ?_
 eq_refl
theorem db31:DB d31 false e3o:=by
 exists a0m ?_ ?_,G
theorem db32:DB d32 true e3n:=by
 exists a0m ?_ ?_,G
theorem db33:DB d33 false d6j:=by
 exists a0m ?_ ?_,G
theorem db34:DB d34 false e3m:=by
 exists a0m ?_ ?_,G
theorem db35:DB d35 false e3l:=by
 exists a0m ?_ ?_,G
 exists a2j (a0o G (own:=["_law_k"]) (md':=[.own]) ?_)
 ac_nf
 ac_nf
 ac_nf
 exists a2j (a0o G (own:=["_law_k"]) (md':=[.own]) ?_)
 ac_nf
 ac_nf
 ac_nf
theorem db36:DB d36 false e3k:=by
 exists a0m ?_ ?_,G
 exists a6s G (own:=["_law_k"]) (md':=[.own]) ?_ ?_ ?_
 ac_nf
 ac_nf
 ac_nf
theorem db37:DB d37 false d6i:=by
 delta d6i
 exists a2g ?_,G
theorem db38:DB d38 false e3j:=by
 exists a0m ?_ ?_,G
 exists a3p G (md':=[]) ?_ ?_ ?_ ?_
 eq_refl
 exists a2j (a0o G (own:=["_law_kept"]) (md':=[]) ?_)
 ac_nf
 ac_nf
 ac_nf
theorem db39:DB d39 false e3i:=by
 exists a0m ?_ ?_,G
 exists a3p G (md':=[.imm,.own]) ?_ ?_ ?_ ?_
 eq_refl
 exists a2j (a0o G (own:=["_law_begin"]) (md':=[.imm,.own]) ?_)
 ac_nf
 ac_nf
 ac_nf
theorem db40:DB d40 false d6h:=by
 delta d6h
 exists a2g ?_,G
theorem db41:DB d41 false e3h:=by
 exists a0m ?_ ?_,G
 exists a2j (a0o G (own:=["_law_one","_law_other"]) (md':=[]) ?_)
 ac_nf
 ac_nf
 ac_nf
theorem db42:DB d42 false d6g:=by
 delta d6g
 exists a2g ?_,G
 exists a2j (a0o G (own:=["_law_ask","_law_size_here"]) (md':=[]) ?_)
 ac_nf
 ac_nf
 ac_nf
theorem db43:DB d43 false e3g:=by
 exists a0m ?_ ?_,G
 exists a6s G (own:=["_law_one"]) (md':=[]) ?_ ?_ ?_
 ac_nf
 ac_nf
 ac_nf
 exists a3p G (md':=[]) ?_ ?_ ?_ ?_
 eq_refl
 exists a2j (a0o G (own:=["_law_least"]) (md':=[]) ?_)
 ac_nf
 ac_nf
 ac_nf
 exists a2j (a0o G (own:=["_law_other"]) (md':=[]) ?_)
 ac_nf
 ac_nf
 ac_nf
theorem db44:DB d44 false e3f:=by
 exists a0m ?_ ?_,G
 exists a3p G (md':=[.imm,.imm,.own]) ?_ ?_ ?_ ?_
 eq_refl
 exists a2j (a0o G (own:=["_law_kept"]) (md':=[.imm,.imm,.own]) ?_)
 ac_nf
 ac_nf
 ac_nf
 exists a6s G (own:=["_law_kept"]) (md':=[.imm,.imm,.own]) ?_ ?_ ?_
 ac_nf
 ac_nf
 ac_nf
 exists a2j (a0o G (own:=["_law_pair"]) (md':=[.imm,.imm,.own]) ?_)
 ac_nf
 ac_nf
 ac_nf
noncomputable def rc (d:Df):DefRec:=⟨Γe d.name,a4x d.st,a2n d.st,a0p d.st,d4j d.st⟩
noncomputable def recs:List DefRec:=[rc d0,rc d1,rc d2,rc d3,rc d4,rc d5,rc d6,rc d7,rc d8,rc d9,rc d10,rc d11,rc d12,rc d13,rc d14,rc d15,rc d16,rc d17,rc d18,rc d19,rc d20,rc d21,rc d22,rc d23,rc d24,rc d25,rc d26,rc d27,rc d28,rc d29,rc d30,rc d31,rc d32,rc d33,rc d34,rc d35,rc d36,rc d37,rc d38,rc d39,rc d40,rc d41,rc d42,rc d43,rc d44]
noncomputable def view:Program:=d0q PySem.Challenge.pw_keepwhole_k66_whole_rows_beside_all_kept
theorem recs_eq:recs=recsOf view:=by kernel_rfl!
noncomputable def PD (K:Frag)(mg:Str->Option Value) (i:Nat)(x:Str):Prop:=∃ df fd fa fdd,tb[i]?=some fd/\Df.ok df fd.np fd.ns fd.io=true/\(∀ X call n,Good X (df.cc fns) n (spK tb call)->FSs X (df.cc fns) fd.fr (a2n df.st) (fd.body call))/\Fun K (Γe df.name) (Γe df.name) df.st fa fdd/\mg x=some (.ref fa)/\Binds K fdd df.ps []
local macro_rules | `(tactic| exists $d,$b,$j,$u)=>`(tactic| (refine And.intro (have ⟨fa,fd,m,F⟩:=DIn.fn (by assumption) ((by assumption:∀ d∈recs,DIn _ _ d) (rc $d) (List.mem_of_getElem? (i:=$j) rfl)); ⟨$d,_,fa,fd,rfl,by decide +kernel,$b,F,m,F.binds fun _ _ _ _ _ _ us hl=>$u (P:=fun us=>bindArgs _ ⟨us,[]⟩=pure (List.zip _ us)) hl (by intros; first | kernel_rfl! | rfl)⟩) ?_))
theorem e2n {K:Frag}{h:Heap}{mg:Str->Option Value}(A:AllIn K h)(D:∀ d∈recs,DIn K mg d):EachI (PD K mg) 0 fns:=by
 exists d0,db0,0,us1
 exists d1,db1,1,us2
 exists d2,db2,2,us2
 exists d3,db3,3,us1
 exists d4,db4,4,us2
 exists d5,db5,5,us2
 exists d6,db6,6,us2
 exists d7,db7,7,us2
 exists d8,db8,8,us2
 exists d9,db9,9,us2
 exists d10,db10,10,us1
 exists d11,db11,11,us2
 exists d12,db12,12,us2
 exists d13,db13,13,us2
 exists d14,db14,14,us2
 exists d15,db15,15,us3
 exists d16,db16,16,us3
 exists d17,db17,17,us3
 exists d18,db18,18,us3
 exists d19,db19,19,us4
 exists d20,db20,20,us6
 exists d21,db21,21,us2
 exists d22,db22,22,us4
 exists d23,db23,23,us4
 exists d24,db24,24,us2
 exists d25,db25,25,us2
 exists d26,db26,26,us3
 exists d27,db27,27,us2
 exists d28,db28,28,us2
 exists d29,db29,29,us2
 exists d30,db30,30,us1
 exists d31,db31,31,us2
 exists d32,db32,32,us2
 exists d33,db33,33,us2
 exists d34,db34,34,us2
 exists d35,db35,35,us2
 exists d36,db36,36,us2
 exists d37,db37,37,us3
 exists d38,db38,38,us1
 exists d39,db39,39,us1
 exists d40,db40,40,us2
 exists d41,db41,41,us3
 exists d42,db42,42,us4
 exists d43,db43,43,us4
 exists d44,db44,44,us1
 trivial
theorem law_fn (w:World)(K:Frag)(mg:Str->Option Value)(fa:Addr)(h:Heap)(A:AllIn K h)(D:∀ d∈recs,DIn K mg d)(blt:∀ b∈bltNames,mg (Γe b)=none)(hm:mg (Γe "law")=some (.ref fa)) :
  ∃ fd:FuncData,(∀ (s:Shared)(u:Value),BindsTo s fd ⟨[u],[]⟩ [(Γe "_law_script",u)])/\∀ base:Heap,FnOk PySem.Challenge.pw_keepwhole_k66_whole_rows_beside_all_kept w K mg base CX0 14 fa fd [Γe "_law_script"] (spT K tb (callW tb 14) 44):=by
 obtain⟨fa2,fd,m,F⟩:=DIn.fn A (D (rc d44) (List.mem_of_getElem? (i:=44) rfl))
 have e:=hm.symm.trans m
 cases e
 have E:∀ (f:Nat)(x:Str),fns[f]?=some x->PD K mg f x:=λf x hx=>by
  have:=EachI.get (e2n A D) f x hx
  rwa [Nat.zero_add] at this
 refine⟨fd,?_,λbase=>c0b (df:=d44) F rfl (by nofun) db44 (c1s blt E 13) blt⟩
 obtain⟨oc,od,kV,doc,pm,an,cdv,ct,osl,rfl,lk,hcd⟩:=F.ex
 exact λs v=>.of_eq rfl
end Kq
end
set_option maxHeartbeats 0
section
open PySem PySem.W PyProof.Rows
theorem Kq.said : PySem.Challenge.rw_keepwhole_k66_whole_rows_beside_all_kept.wellSaid = true := by nofun
theorem Kq.left : LeftO PySem.Challenge.rw_keepwhole_k66_whole_rows_beside_all_kept.prog Kq.view [] (fun s => xlAt Kq.view [] s && recOk (RowW.records PySem.Challenge.rw_keepwhole_k66_whole_rows_beside_all_kept.row.toRowW) s) (fun _ => ()) (fun _ => ()) 3000 := by
  intro w
  kernel_rfl!
theorem Kq.freeAll : (Kq.bltNames.all fun b => Kq.freeIn Kq.view (looseW Kq.view []) (Str.ofString b)) = true := by nofun
theorem Kq.hdef : defOf Kq.view PySem.Challenge.rw_keepwhole_k66_whole_rows_beside_all_kept.name = some (Kq.rc Kq.d44, []) := by kernel_rfl!
theorem Kq.hp : PySem.Challenge.rw_keepwhole_k66_whole_rows_beside_all_kept.prog.theDef PySem.Challenge.rw_keepwhole_k66_whole_rows_beside_all_kept.name = some ((Kq.rc Kq.d44).params, (Kq.rc Kq.d44).body, (Kq.rc Kq.d44).scope) := by kernel_rfl!
theorem Kq.okq : (chainsOk Kq.view && opensWell PySem.Challenge.rw_keepwhole_k66_whole_rows_beside_all_kept.prog && (frees PySem.Challenge.rw_keepwhole_k66_whole_rows_beside_all_kept.row.toRowW && PySem.Challenge.rw_keepwhole_k66_whole_rows_beside_all_kept.row.within.isEmpty)) = true := by nofun
theorem Kq.prom : PySem.Challenge.rw_keepwhole_k66_whole_rows_beside_all_kept.row.toRowW.promised := ⟨[.list []], by nofun, by nofun⟩
theorem PySem.Challenge.cw_keepwhole_k66_whole_rows_beside_all_kept_holds : PySem.Challenge.rw_keepwhole_k66_whole_rows_beside_all_kept.Holds :=
  Kq.row_holds Kq.said Kq.left Kq.hdef Kq.hp rfl rfl Kq.okq ⟨rfl, rfl, rfl, rfl, rfl, by nofun⟩ Kq.prom (Kq.walk2 (n := 63) (k := 14) (ds := Kq.recs) (x := Str.ofString "_law_script") (sp := fun K => Kq.spT K Kq.tb (Kq.callW Kq.tb 14) 44) rfl (by decide) rfl ⟨rfl, by decide, by decide, rfl⟩ Kq.recs_eq Kq.freeAll Kq.law_fn fun _ _ a ns hl hO hS => Kq.law_sp rfl rfl rfl hO hS (Kq.law_val ns))
end
