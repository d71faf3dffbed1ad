import PyProof.Rows.All
import Wide.All
import OpenK.AllK
import Wide.FinOn
import Lean
import PyProof.EqAt
import PyProof.EqKinds
import PyProof.TupleCall
import PyProof.DictCompW
import PyProof.Rows.Range3
import KE.KRevIter
import PyProof.AutoRange
import PyProof.FactsAll.range_2
import PyProof.Rows.CallKwBuiltin
import PyProof.ListRange
import PyProof.TupleOfGen
import PyProof.P3Eq
import PyProof.Rows.RowHeap
import PyProof.CollectIter
import PyProof.WalksMore
import PyProof.AutoSeq1
import KE.KListMore
import PyProof.AttrMissHeap
import KE.KDictOf
import KE.KSortTup
import PyProof.Rows.SortWalk
import PyProof.SumWalkG
import PyProof.DictWalks
import KE.KDictSum
import PyProof.SetKind
import PyProof.SetRoads
import PyProof.Rows.SetFrom
import PyProof.TupleKey
import PySem.Challenge.RW_keepwhole_k19_least_room_of_anything
open PySem renaming wpAny_bind->Γa
open PySem renaming wpAny_pure->Γb
open PySem.Heap renaming get?_push_of_some->Γc
open PySem.W renaming Frag->Γd
open PySem.Str renaming ofString->Γe
open PySem.Heap renaming get?_update_other->Γf
open PySem renaming wpAny_holding->Γg
open List renaming mem_cons_of_mem->Γh
open Nat renaming le_refl->Γi
open List renaming replicate->Γj
open Bool renaming false_ne_true->Γk
open PySem.Heap renaming lt_size->Γl
open PySem.Heap renaming get?_push_size->Γm
open List renaming mem_cons_self->Γn
open Nat renaming ne_of_lt->Γo
open Bool renaming false_eq_true->Γp
local macro_rules | `(command| $m:declModifiers def $i:declId $s:optDeclSig $v:declVal) => if m.raw.getArgs.all (·.getNumArgs == 0) then `(command| noncomputable def $i:declId $s:optDeclSig $v:declVal) else Lean.Macro.throwUnsupported
local macro_rules | `(command| $m:declModifiers abbrev $i:declId $s:optDeclSig $v:declVal) => if m.raw.getArgs.all (·.getNumArgs == 0) then `(command| noncomputable abbrev $i:declId $s:optDeclSig $v:declVal) else Lean.Macro.throwUnsupported
local macro_rules | `(tactic| nofun) => `(tactic| decide +kernel)
set_option Elab.async false
set_option linter.all false
set_option maxRecDepth 100000
section
namespace L2
open PySem PySem.Spec PyProof.Rows
abbrev Key:=Sum Int (Option Str)
def b5l:Key->Value->Bool
 | .inl k,v=>Value.isInt k v
 | .inr (some x),v=>Value.isStrOf x v
 | .inr none,v=>match v with
  | .none=>true
  | _=>false
def keyH (w:World):Key->Int
 | .inl k=>hashInt k
 | .inr (some x)=>hashStr w x
 | .inr none=>4238894112
theorem b9a {prog:Program}{w:World}{A:Around}{E:Value->Shared->Prop}{s:Shared}{Q:Int->Shared->Prop}(h:Q 4238894112 { s with toks:=s.toks+1 }):wpAny (model prog w) A (pyHash .none) Q E s:=by
 have hT:s.TypeIs .none "NoneType":=rfl
 show wpAny _ _ (pyHashByItsType .none) Q E s
 unfold pyHashByItsType
 have hv:[Value.none].any Value.onHeap=false:=rfl
 refine Γa ?_
 rw[cRoomFor,if_neg (by rw[hv];exact Γk)];refine Γb ?_
 refine Γa (wpAny_specialOf hT PySem.F.slot_NoneType_hash.lookup ?_)
 show wpAny _ _ (if (some (Value.builtin "NoneType.__hash__") == some Value.none)=true then _ else _) Q E s
 rw[if_neg (by decide)]
 refine Γa (wpAny_specialOf hT PySem.F.slot_NoneType_hash.lookup ?_)
 show wpAny _ _ (callSpecialIfBoundUnlessNone? .none "__hash__" _ >>= _) Q E s
 refine Γa (wpAny_callSpecialIfBoundUnlessNone?_slot hT PySem.F.slot_NoneType_hash
  (wpAny_call_entry PySem.F.slot_NoneType_hash hT PySem.F.entry_NoneType_hash
   (show wpAny _ _ (do ret (<- mkInt 4238894112)) _ _ s from wpAny_ret_mkInt ?_) (PySem.F.args_NoneType_hash_1 _)))
 show wpAny _ _ (if (decide (-(2:Int) ^ 63<=4238894112) && decide ((4238894112:Int)<2 ^ 63))=true then _ else _) Q E _
 rw[if_pos (by decide)]
 exact Γb h
theorem a1f:∀ {k:Key}{v:Value},b5l k v=true->(∃ i t,k=Sum.inl i/\v=Value.int i t) ∨ (∃ x t,k=Sum.inr (some x)/\v=Value.str x t) ∨ (k=Sum.inr none/\v=Value.none)
 | .inl i,v,h=>by
  obtain⟨t,e⟩:=Value.isInt_shape (k:=i) (v:=v) h
  exact .inl ⟨i,t,rfl,e⟩
 | .inr (some x),v,h=>by
  obtain⟨t,e⟩:=Value.isStrOf_shape (x:=x) (v:=v) h
  exact .inr (.inl ⟨x,t,rfl,e⟩)
 | .inr none,v,h=>by
  cases v with
  | none=>exact .inr (.inr ⟨rfl,rfl⟩)
  | _=>cases h
theorem b8k (i:Int)(t:Tok):b5l (.inl i) (.int i t)=true:=by simp[b5l,Value.isInt]
theorem b8j (x:Str)(t:Tok):b5l (.inr (some x)) (.str x t)=true:=by simp[b5l,Value.isStrOf]
theorem d2u (a b:Int):decide ((Sum.inl a:Key)=Sum.inl b)=(a == b):=by
 by_cases e:a=b
 ·subst e;simp
 ·have h:¬ (Sum.inl a:Key)=Sum.inl b:=λq=>e (Sum.inl.inj q)
  rw[decide_eq_false h]
  exact (beq_eq_false_iff_ne.mpr e).symm
theorem d2t (a b:Str):decide ((Sum.inr (some a):Key)=Sum.inr (some b))=decide (a=b):=by
 by_cases e:a=b
 ·subst e;simp
 ·have h:¬ (Sum.inr (some a):Key)=Sum.inr (some b):=λq=>e (Option.some.inj (Sum.inr.inj q))
  rw[decide_eq_false h,decide_eq_false e]
def a0z (prog:Program)(w:World):PySem.KeyKind prog w Key where
 is:=b5l
 hash:=keyH w
 inj:=λv a b ha hb=>by
  rcases a1f ha with⟨i,t,rfl,rfl⟩|⟨x,t,rfl,rfl⟩|⟨rfl,rfl⟩<;>rcases a1f hb with⟨j,u,rfl,e⟩|⟨y,u,rfl,e⟩|⟨rfl,e⟩<;>first|rfl|(injection e with e1 _;rw[e1])|cases e
 byValue:=λk v h=>by
  rcases a1f h with⟨i,t,rfl,rfl⟩|⟨x,t,rfl,rfl⟩|⟨rfl,rfl⟩<;>rfl
 pyHash:=λhv h=>by
  rcases a1f hv with⟨i,t,rfl,rfl⟩|⟨x,t,rfl,rfl⟩|⟨rfl,rfl⟩
  ·exact wpAny_pyHash_int h
  ·exact wpAny_pyHash_str h
  ·exact b9a h
 eqBool:=λhu hv h=>by
  rcases a1f hu with⟨i,t,rfl,rfl⟩|⟨x,t,rfl,rfl⟩|⟨rfl,rfl⟩
  ·rcases a1f hv with⟨j,u,rfl,rfl⟩|⟨y,u,rfl,rfl⟩|⟨rfl,rfl⟩
   ·rw[d2u] at h;exact wpAny_eqBool_int h
   ·rw[decide_eq_false (show ¬ (Sum.inl i:Key)=Sum.inr (some y) from λq=>nomatch q)] at h;exact SeqAt.EqAt.int_str i t y u _ _ _ _ h
   ·rw[decide_eq_false (show ¬ (Sum.inl i:Key)=Sum.inr none from λq=>nomatch q)] at h;exact SeqAt.EqAt.int_none i t _ _ _ _ h
  ·rcases a1f hv with⟨j,u,rfl,rfl⟩|⟨y,u,rfl,rfl⟩|⟨rfl,rfl⟩
   ·rw[decide_eq_false (show ¬ (Sum.inr (some x):Key)=Sum.inl j from λq=>nomatch q)] at h;exact SeqAt.EqAt.str_int x t j u _ _ _ _ h
   ·rw[d2t] at h;exact wpAny_eqBool_str h
   ·rw[decide_eq_false (show ¬ (Sum.inr (some x):Key)=Sum.inr none from λq=>nomatch q)] at h;exact SeqAt.EqAt.str_none x t _ _ _ _ h
  ·rcases a1f hv with⟨j,u,rfl,rfl⟩|⟨y,u,rfl,rfl⟩|⟨rfl,rfl⟩
   ·rw[decide_eq_false (show ¬ (Sum.inr none:Key)=Sum.inl j from λq=>nomatch q)] at h;exact SeqAt.EqAt.none_int j u _ _ _ _ h
   ·rw[decide_eq_false (show ¬ (Sum.inr none:Key)=Sum.inr (some y) from λq=>nomatch q)] at h;exact SeqAt.EqAt.none_str y u _ _ _ _ h
   ·rw[decide_eq_true rfl] at h;exact SeqAt.EqAt.same .none _ _ _ _ h
 «strs»:=λk x t v h=>by
  rcases a1f h with⟨i,u,rfl,e⟩|⟨y,u,rfl,e⟩|⟨rfl,e⟩
  ·exact nomatch e
  ·injection e with e1 _
   subst e1
   cases v<;>rfl
  ·exact nomatch e
theorem b2n (prog:Program)(w:World) (i:Int)(t:Tok):(a0z prog w).is (.inl i) (.int i t)=true:=b8k i t
theorem b0i (prog:Program)(w:World):(a0z prog w).is (.inr none) .none=true:=rfl
theorem b2m (prog:Program)(w:World)(x:Str)(t:Tok):(a0z prog w).is (.inr (some x)) (.str x t)=true:=b8j x t
end L2
namespace L2
open PySem PySem.Spec PyProof.Rows
inductive V where
 | non|bl (b:Bool)|int (i:Int)|str (x:Str)|byt (b:Array UInt8)|flt (b:UInt64)|ref (a:Addr)|ty (n:String)
 deriving DecidableEq
def RelV:V->Value->Prop
 | .non,u=>u=Value.none
 | .bl b,u=>u=Value.bool b
 | .int i,u=>∃ t,u=Value.int i t
 | .str x,u=>∃ t,u=Value.str x t
 | .byt b,u=>∃ t,u=Value.bytes b t
 | .flt b,u=>∃ t,u=Value.float b t
 | .ref a,u=>u=Value.ref a
 | .ty n,u=>u=Value.type n
abbrev Vals:List V->List Value->Prop:=Paired RelV
theorem Vals.length {xs:List V}{us:List Value}(r:Vals xs us):xs.length=us.length:=Paired.length r
theorem Vals.get:∀ {xs:List V}{us:List Value}{i:Nat}{x:V},Vals xs us->xs[i]?=some x->∃ u,us[i]?=some u/\RelV x u
 | _,_,_,_,.nil,e=>by simp at e
 | _,_,0,_,.cons r _,e=>by simp at e;subst e;exact⟨_,rfl,r⟩
 | _,_,i+1,x,.cons _ t,e=>by
  obtain⟨u,h1,h2⟩:=Vals.get (i:=i) (x:=x) t (by simpa using e)
  exact⟨u,by simpa using h1,h2⟩
theorem Vals.set {x:V}{u:Value}(r:RelV x u):∀ {xs:List V}{us:List Value} (i:Nat),Vals xs us->Vals (xs.set i x) (us.set i u)
 | _,_,_,.nil=>.nil
 | _,_,0,.cons _ t=>.cons r t
 | _,_,i+1,.cons q t=>.cons q (Vals.set r i t)
theorem Vals.append:∀ {xs ys:List V}{us ws:List Value},Vals xs us->Vals ys ws->Vals (xs++ys) (us++ws)
 | _,_,_,_,.nil,s=>s
 | _,_,_,_,.cons r t,s=>.cons r (Vals.append t s)
theorem Vals.take:∀ {xs:List V}{us:List Value} (n:Nat),Vals xs us->Vals (xs.take n) (us.take n)
 | _,_,0,_=>.nil
 | _,_,_+1,.nil=>.nil
 | _,_,n+1,.cons r t=>.cons r (Vals.take n t)
theorem Vals.drop:∀ {xs:List V}{us:List Value} (n:Nat),Vals xs us->Vals (xs.drop n) (us.drop n)
 | _,_,0,r=>r
 | _,_,_+1,.nil=>.nil
 | _,_,n+1,.cons _ t=>Vals.drop n t
def RelO:Option V->Option Value->Prop
 | some v,some u=>RelV v u
 | none,none=>True
 | _,_=>False
def KV {κ:Type}:List (κ×V)->List (κ×Value)->Prop:=Paired λ(p:κ×V)(q:κ×Value)=>p.1=q.1/\RelV p.2 q.2
def kV:Key->V
 | .inl i=>.int i
 | .inr (some x)=>.str x
 | .inr none=>.non
inductive HO where
 | lst (xs:List V)
 | tup (xs:List V)
 | dK (kvs:List (Key×V))|dT (kvs:List (List Key×V))
 | set (S:Int->Bool) (n:Nat)
 | ins (C dx:Addr)(fs:List (Str×V))
 | big (C dx:Addr)(fs:List (Str×V))(gs:List (Addr×List V))
 | own (x:Addr)
 | xd (fs:List (Str×V))
 | met (f x:Addr)
 | rng (lo hi:Int)
 | frz (o:Obj)(u:HO)
 | tbl (ps:Array Value)
 | ext (φ:Heap->Prop)
abbrev Hp:=Addr->Option HO
def upd (H:Hp)(a:Addr)(o:HO):Hp:=λb=>if b=a then some o else H b
theorem a0e {H:Hp}{a:Addr}{o:HO}:upd H a o a=some o:=by unfold upd;rw[if_pos rfl]
theorem a0d {H:Hp}{a b:Addr}{o:HO}(h:b≠a):upd H a o b=H b:=by unfold upd;rw[if_neg h]
theorem d2k {H:Hp}{a b:Addr}{o u:HO}(h:H a=some o)(h':H b=some u)(d:o≠u):a≠b:=by
 intro e;subst e;rw[h] at h';exact d (Option.some.inj h')
theorem a1a {H:Hp}{a b:Addr}{o:HO}(h:H a=some o)(h':H b=none):a≠b:=by
 intro e;subst e;rw[h] at h';cases h'
section
variable (P:Program)(w:World)
def ObjOk (H:Hp)(h:Heap)(a:Addr):HO->Prop
 | .lst xs=>xs.length<=sizeLine/\∃ (its:List Value) (n:Nat),Vals xs its/\h.get? a=some { cls:=.type "list",data:=.seq its.toArray n }
 | .tup xs=>xs.length<=sizeLine/\∃ its:List Value,Vals xs its/\IsTup h a its.toArray
 | .dK kvs=>kvs.length<=sizeLine/\(a == sysModules)=false/\∃ vs,KV kvs vs/\h.DictOf (a0z P w) a vs
 | .dT kvs=>kvs.length<=sizeLine/\(a == sysModules)=false/\∃ xs:List (List Key×Addr×Value),
   Paired (λ(p:List Key×V)(q:List Key×Addr×Value)=>p.1=q.1/\H q.2.1=some (.tup (p.1.map kV))/\RelV p.2 q.2.2) kvs xs /\
   ∃ o es ep,h.get? a=some o/\o.ExactDict/\o.data=.dict es ep/\es.toList=xs.map (entryOfKey (tupleKind (a0z P w)))/\(xs.map (·.1)).Nodup
 | .set S n=>h.SetOf (intKind P w) a S n
 | .ins C dx fs=>H dx=some (.own a)/\fs.length<=1000/\dx≠a/\h.get? a=some (PySem.W.instObj C dx) /\
   ∃ mA,h.Ns1 dx mA/\(∀ f,RelO (fs.lookup f) (mA f))/\PySem.Within mA (fs.map (·.1))
 | .big C dx fs gs=>H dx=some (.own a)/\(∀ g∈gs,H g.1=some (.own a))/\(a :: dx :: gs.map (·.1)).Nodup/\fs.length<=1000/\h.get? a=some (PySem.W.instObj C dx) /\
   (∃ mA,h.Ns1 dx mA/\(∀ f,RelO (fs.lookup f) (mA f))/\PySem.Within mA (fs.map (·.1))) /\
   ∀ g∈gs,g.2.length<=sizeLine/\∃ (its:List Value) (n:Nat),Vals g.2 its/\h.get? g.1=some { cls:=.type "list",data:=.seq its.toArray n }
 | .own _=>∃ o,h.get? a=some o
 | .xd fs=>∃ mA,h.Ns1 a mA/\∀ f,RelO (fs.lookup f) (mA f)
 | .rng lo hi=>∃ t u v,h.get? a=some { cls:=.type "range",data:=.fields #[.int lo t,.int hi u,.int 1 v] }
 | .frz o u=>h.get? a=some o/\ObjOk H h a u
 | .tbl ps=>h.get? a=some { cls:=.none,data:=.fields ps }
 | .met f x=>h.get? a=some (PySem.W.methodObj (.ref f) (.ref x))
 | .ext φ=>φ h/\(∃ o,h.get? a=some o)/\∀ h1 h2:Heap,φ h1->(∀ o,h1.get? a=some o->h2.get? a=some o)->φ h2
def HOk (H:Hp)(h:Heap):Prop:=∀ a o,H a=some o->ObjOk P w H h a o
end
section
variable {P:Program}{w:World}{H H':Hp}{h h':Heap}{a:Addr}{o:HO}
theorem ObjOk.lt (x:ObjOk P w H h a o):a<h.objs.size:=by
 cases o with
 | lst xs=>obtain⟨_,_,_,_,e⟩:=x;exact Γl e
 | tup xs=>obtain⟨_,_,_,p⟩:=x;exact p.lt
 | dK kvs=>obtain⟨_,_,_,_,o,_,_,e,_⟩:=x;exact Γl e
 | dT kvs=>obtain⟨_,_,_,_,o,_,_,e,_⟩:=x;exact Γl e
 | set S n=>obtain⟨o,_,_,_,e,_⟩:=x;exact Γl e
 | ins C dx fs=>obtain⟨_,_,_,e,_⟩:=x;exact Γl e
 | big C dx fs gs=>obtain⟨_,_,_,_,e,_⟩:=x;exact Γl e
 | own y=>obtain⟨_,e⟩:=x;exact Γl e
 | xd fs=>obtain⟨_,⟨_,_,_,e,_⟩,_⟩:=x;exact Γl e
 | rng lo hi=>obtain⟨_,_,_,e⟩:=x;exact Γl e
 | frz ob u=>obtain⟨e,_⟩:=x;exact Γl e
 | tbl ps=>exact Γl (show h.get? a=some _ from x)
 | met f y=>exact Γl (show h.get? a=some _ from x)
 | ext φ=>obtain⟨_,⟨_,e⟩,_⟩:=x;exact Γl e
theorem Paired.mapP {α β:Type}{F G:α->β->Prop}:∀ {l₁:List α}{l₂:List β},Paired F l₁ l₂->(∀ a b,F a b->G a b)->Paired G l₁ l₂
 | _,_,.nil,_=>.nil
 | _,_,.cons r t,f=>.cons (f _ _ r) (Paired.mapP t f)
theorem ObjOk.stay (x:ObjOk P w H h a o)(k:∀ b u,(b=a ∨ H b=some (.own a))->h.get? b=some u->h'.get? b=some u)
  (ho:∀ b,H b=some (.own a)->H' b=some (.own a))(ht:∀ b xs,H b=some (.tup xs)->H' b=some (.tup xs)):ObjOk P w H' h' a o:=by
 induction o with
 | lst xs=>obtain⟨z,its,n,r,e⟩:=x;exact⟨z,its,n,r,k _ _ (.inl rfl) e⟩
 | tup xs=>obtain⟨z,its,r,ob,e,c⟩:=x;exact⟨z,its,r,ob,k _ _ (.inl rfl) e,c⟩
 | dK kvs=>obtain⟨z,y,vs,r,ob,es,ep,e,c⟩:=x;exact⟨z,y,vs,r,ob,es,ep,k _ _ (.inl rfl) e,c⟩
 | dT kvs =>
  obtain⟨z,y,xs,r,ob,es,ep,e,c⟩:=x
  exact⟨z,y,xs,Paired.mapP r λp q z=>⟨z.1,ht _ _ z.2.1,z.2.2⟩,ob,es,ep,k _ _ (.inl rfl) e,c⟩
 | set S n=>obtain⟨ob,es,ep,t,e,c⟩:=x;exact⟨ob,es,ep,t,k _ _ (.inl rfl) e,c⟩
 | ins C dx fs =>
  obtain⟨d,z,ne,e,mA,⟨od,es,ep,e2,c⟩,r⟩:=x
  exact⟨ho _ d,z,ne,k _ _ (.inl rfl) e,mA,⟨od,es,ep,k _ _ (.inr d) e2,c⟩,r⟩
 | big C dx fs gs =>
  obtain⟨d,gg,nd,z,e,⟨mA,⟨od,es,ep,e2,c⟩,r⟩,ls⟩:=x
  exact⟨ho _ d,λg m=>ho _ (gg g m),nd,z,k _ _ (.inl rfl) e,⟨mA,⟨od,es,ep,k _ _ (.inr d) e2,c⟩,r⟩,λg m=>let ⟨l1,its,n,l2,l3⟩:=ls g m;⟨l1,its,n,l2,k _ _ (.inr (gg g m)) l3⟩⟩
 | own y=>obtain⟨ob,e⟩:=x;exact⟨ob,k _ _ (.inl rfl) e⟩
 | xd fs=>obtain⟨mA,⟨od,es,ep,e,c⟩,r⟩:=x;exact⟨mA,⟨od,es,ep,k _ _ (.inl rfl) e,c⟩,r⟩
 | rng lo hi=>obtain⟨t,u,v,e⟩:=x;exact⟨t,u,v,k _ _ (.inl rfl) e⟩
 | frz ob u ih=>obtain⟨e,q⟩:=x;exact⟨k _ _ (.inl rfl) e,ih q⟩
 | tbl ps =>
  have e:h.get? a=some { cls:=.none,data:=.fields ps }:=x
  show h'.get? a=some { cls:=.none,data:=.fields ps }
  exact k a _ (.inl rfl) e
 | met f y =>
  have e:h.get? a=some (PySem.W.methodObj (.ref f) (.ref y)):=x
  show h'.get? a=some (PySem.W.methodObj (.ref f) (.ref y))
  exact k a _ (.inl rfl) e
 | ext φ=>obtain⟨p,⟨o,e⟩,st⟩:=x;exact⟨st _ _ p λo q=>k _ _ (.inl rfl) q,⟨o,k _ _ (.inl rfl) e⟩,st⟩
theorem HOk.lt (x:HOk P w H h)(e:H a=some o):a<h.objs.size:=(x a o e).lt
theorem HOk.fresh (x:HOk P w H h)(e:h.objs.size<=a):H a=none:=by
 cases q:H a with
 | none=>rfl
 | some u=>exact absurd (Nat.lt_of_lt_of_le (x.lt q) e) (Nat.lt_irrefl _)
theorem HOk.kept (x:HOk P w H h)(k:∀ b u,h.get? b=some u->h'.get? b=some u):HOk P w H h':=λa o e =>
 (x a o e).stay (λb u _ q=>k b u q) (λ_ q=>q) λ_ _ q=>q
theorem HOk.laid (x:HOk P w H h)(k:∀ b u,h.get? b=some u->h'.get? b=some u)(hp:h.objs.size<=a)(new:ObjOk P w (upd H a o) h' a o):HOk P w (upd H a o) h':=λb u e=>by
 have hn:=x.fresh hp
 by_cases hb:b=a
 ·subst hb;rw[a0e] at e;cases e;exact new
 ·rw[a0d hb] at e
  exact (x b u e).stay (λc v _ q=>k c v q) (λc q=>by rw[a0d (a1a q hn)];exact q) λc xs q=>by rw[a0d (a1a q hn)];exact q
end
def Rd (H:Hp)(a:Addr)(u:HO):Prop:=H a=some u ∨ ∃ o,H a=some (.frz o u)
theorem Rd.ok {P:Program}{w:World}{H:Hp}{h:Heap}{a:Addr}{u:HO}(r:Rd H a u)(x:HOk P w H h):ObjOk P w H h a u:=by
 rcases r with r|⟨o,r⟩
 ·exact x a u r
 ·obtain⟨_,q⟩:=x a _ r
  exact q
def Mut:Option HO->Prop
 | some (.lst _)=>True
 | some (.dK _)=>True
 | some (.dT _)=>True
 | some (.set _ _)=>True
 | some (.ins _ _ _)=>True
 | some (.ext _)=>True
 | _=>False
section
variable {P:Program}{w:World}{H:Hp}{h h':Heap}{x e:Addr}{o':HO}
theorem HOk.write (ok:HOk P w H h)(mu:Mut (H x))(he:e=x ∨ H e=some (.own x))(k:∀ b u,b≠e->h.get? b=some u->h'.get? b=some u)(heo:∃ u,h'.get? e=some u)
  (new:ObjOk P w (upd H x o') h' x o'):HOk P w (upd H x o') h':=λb u q=>by
 have nown:∀ c y,H c=some (.own y)->c≠x:=λc y r z=>by subst z;rw[r] at mu;exact mu
 have ntup:∀ c xs,H c=some (.tup xs)->c≠x:=λc xs r z=>by subst z;rw[r] at mu;exact mu
 by_cases hb:b=x
 ·subst hb;rw[a0e] at q;cases q;exact new
 ·rw[a0d hb] at q
  by_cases hbe:b=e
  ·have q':H b=some (.own x):=by
    rcases he with z|z
    ·exact absurd (hbe.trans z) hb
    ·rw[hbe];exact z
   rw[q] at q';cases q'
   obtain⟨v,hv⟩:=heo
   exact⟨v,by rw[hbe];exact hv⟩
  ·refine (ok b u q).stay (λc v hc r=>k c v ?_ r) (λc r=>by rw[a0d (nown c b r)];exact r) λc xs r=>by rw[a0d (ntup c xs r)];exact r
   rcases hc with rfl|hc
   ·exact hbe
   ·rintro rfl
    rcases he with z|z
    ·exact nown c b hc z
    ·rw[hc] at z;cases z;exact hb rfl
end
structure Un (fs ex:List Addr)(H H':Hp)(h h':Heap):Prop where
 keep:∀ b o,h.get? b=some o->H b=none->b ∉ fs->b ∉ ex->h'.get? b=some o
 slot:∀ b o,h.get? b=some o->H b=none->b∈fs->b ∉ ex->∃ sl,h'.get? b=some { o with slots:=sl }
 free:∀ b o,h.get? b=some o->H b=none->b ∉ ex->H' b=none
 there:∀ b o,h.get? b=some o->b ∉ ex->∃ o',h'.get? b=some o'
 tups:∀ b xs,H b=some (.tup xs)->H' b=some (.tup xs)
 frzs:∀ b o u,H b=some (.frz o u)->H' b=some (.frz o u)
 tbls:∀ b ps,H b=some (.tbl ps)->∃ more,H' b=some (.tbl (ps++more))
section
variable {fs fs' ex ex':List Addr}{H H1 H2:Hp}{h h1 h2 h':Heap}{a x e:Addr}{o:HO}
theorem Un.any (u:Un fs ex H H1 h h1){b:Addr}{ob:Obj}(q:h.get? b=some ob)(n:H b=none)(hx:b ∉ ex):∃ sl,h1.get? b=some { ob with slots:=sl }:=by
 by_cases hb:b∈fs
 ·exact u.slot b ob q n hb hx
 ·exact⟨ob.slots,u.keep b ob q n hb hx⟩
theorem Un.kept (k:∀ b u,h.get? b=some u->h'.get? b=some u):Un fs ex H H h h' :=
 ⟨λb ob q _ _ _=>k b ob q,λb ob q _ _ _=>⟨ob.slots,k b ob q⟩,λ_ _ _ n _=>n,λb ob q _=>⟨ob,k b ob q⟩,λ_ _ q=>q,λ_ _ _ q=>q,λ_ ps q=>⟨#[],by rw[q];simp⟩⟩
theorem Un.refl:Un fs ex H H h h:=Un.kept λ_ _ q=>q
theorem Un.laid (k:∀ b u,h.get? b=some u->h'.get? b=some u)(hp:h.objs.size<=a)(hn:H a=none):Un fs ex H (upd H a o) h h' where
 keep:=λb u q _ _ _=>k b u q
 slot:=λb u q _ _ _=>⟨u.slots,k b u q⟩
 free:=λb u q n _=>by rw[a0d (Γo (Nat.lt_of_lt_of_le (Γl q) hp))];exact n
 there:=λb u q _=>⟨u,k b u q⟩
 tups:=λb xs q=>by rw[a0d (a1a q hn)];exact q
 frzs:=λb u xs q=>by rw[a0d (a1a q hn)];exact q
 tbls:=λb ps q=>⟨#[],by rw[a0d (a1a q hn),q];simp⟩
theorem Un.write (mu:Mut (H x))(he:e=x ∨ H e=some (.own x))(k:∀ b u,b≠e->h.get? b=some u->h'.get? b=some u)(heo:∃ u,h'.get? e=some u):Un fs ex H (upd H x o) h h':=by
 have hx:∀ b,H b=none->b≠x:=λb n z=>by subst z;rw[n] at mu;exact mu
 have hb:∀ b,H b=none->b≠e:=λb n z=>by
  subst z
  rcases he with r|r
  ·exact hx b n r
  ·rw[n] at r;cases r
 have hm:∀ b u,H b=some u->¬ Mut (some u)->b≠x:=λb u q nm z=>by subst z;rw[q] at mu;exact nm mu
 refine⟨λb u q n _ _=>k b u (hb b n) q,λb u q n _ _=>⟨u.slots,k b u (hb b n) q⟩,λb u q n _=>by rw[a0d (hx b n)];exact n,λb u q _=>?_,
  λb xs q=>by rw[a0d (hm b _ q λz=>z)];exact q,λb u xs q=>by rw[a0d (hm b _ q λz=>z)];exact q,λb ps q=>⟨#[],by rw[a0d (hm b _ q λz=>z),q];simp⟩⟩
 by_cases hbe:b=e
 ·subst hbe;exact heo
 ·exact⟨u,k b u hbe q⟩
end
def trk (h:Heap)(H:Hp):List Addr:=(List.range h.objs.size).filter λa=>(H a).isSome
def c3e (h:Heap)(H:Hp):Heap:=PySem.W.hideAll h (trk h H)
theorem b8z (h:Heap)(H:Hp):(c3e h H).objs.size=h.objs.size:=PySem.W.hideAll_size _ _
theorem c3d {h:Heap}{H:Hp}{b:Addr}{o:Obj}(e:h.get? b=some o)(n:H b=none):(c3e h H).get? b=some o :=
 PySem.W.hideAll_get _ e λhm=>by
  have q:(H b).isSome=true:=(List.mem_filter.mp hm).2
  rw[n] at q;simp at q
theorem c7e {h:Heap}{H:Hp}{b:Addr}{o:Obj}(e:(c3e h H).get? b=some o):h.get? b=some o/\H b=none:=by
 have e':h.get? b=some o:=PySem.W.of_hideAll (trk h H) e
 refine⟨e',?_⟩
 cases q:H b with
 | none=>rfl
 | some x =>
  have hm:b∈trk h H:=List.mem_filter.mpr ⟨List.mem_range.mpr (Γl e'),by simp[q]⟩
  have z:(c3e h H).get? b=none:=PySem.W.hideAll_none (trk h H) hm
  rw[z] at e;cases e
end L2
namespace L2
open PySem PySem.Spec PyProof.Rows
structure Mod (K:Γd)(mg:Str->Option Value)(base:Heap):Prop where
 kin:K.In base
 glob:base.Ns mainGlobals mg
 blt:∃ mb,base.Ns builtinsNs mb/\∀ x:Str,x≠"__name__"->mb x=bootBuiltins x
 nolimit:base.NoLimit
structure Cx where
 prog:Program
 w:World
 K:Γd
 mg:Str->Option Value
 base:Heap
 A:Around
 N:List Str
 s₀:Shared
 H₀:Hp
 env:Env
 outer:List Env
 stack:List Env
 ex:List Addr
 fn:Str->Bool
 calm:Bool
 pn:List (Addr×Obj)
 xe:Value->Shared->Prop
def frs (l:List Env):List Addr:=l.filterMap (·.frame)
abbrev Cx.fs (X:Cx):List Addr:=frs X.outer
def Vis (sc:Scope)(x:Str):Prop:=sc.names.lookup x=some .local ∨ sc.names.lookup x=some .cell ∨ sc.names.lookup x=some .free
def Loc (sc:Scope)(x:Str):Prop:=sc.names.lookup x=some .local ∨ sc.names.lookup x=some .cell
def Look (env:Env)(h:Heap)(m:Str->Option Value)(x:Str)(u:Value):Prop :=
 (env.kindOf x=some .local/\m x=some u) ∨ ((env.kindOf x=some .cell ∨ env.kindOf x=some .free)/\∃ c,env.cells.lookup x=some c/\h.IsCell c (some u))
structure Cx.Ok (X:Cx):Prop where
 mod:Mod X.K X.mg X.base
 kind:X.env.scope.kind=.function
 glob:X.env.globals=mainGlobals
 blt:X.env.builtins=builtinsNs
 above:X.s₀.heap.objs.size<=X.env.locals
 inj:∀ x y c,X.env.cells.lookup x=some c->X.env.cells.lookup y=some c->x=y
 has:∀ x,(X.env.kindOf x=some .cell ∨ X.env.kindOf x=some .free)->∃ c,X.env.cells.lookup x=some c
 cab:∀ x c,X.fn x=true->X.env.cells.lookup x=some c->X.s₀.heap.objs.size<=c
 hd:X.calm=true->X.A.handled=none
 frames:X.A.frames=some X.stack
 stk:X.stack=X.outer ∨ (X.stack=X.env :: X.outer/\X.env.frame=some X.env.locals)
 exf:∀ b∈X.ex,b≠X.env.locals/\∀ x c,X.env.cells.lookup x=some c->c≠b
 bs:∀ b o,X.base.get? b=some o->X.s₀.heap.get? b=some o/\X.H₀ b=none
 bsz:X.base.objs.size<=X.s₀.heap.objs.size
 noex:∀ b o,X.base.get? b=some o->b ∉ X.ex
 exfs:∀ b∈X.ex,b ∉ X.fs
 funs:X.s₀.heap.FunFrames X.base X.outer
 frf:∀ b∈X.fs,X.H₀ b=none
structure Inv (X:Cx)(pins:List (Addr×Obj))(σ:List (Option V))(H:Hp)(s:Shared):Prop where
 ok:X.Ok
 os:s.os=X.s₀.os
 bare:AllBare s.gens
 base:Un X.fs X.ex X.H₀ H X.s₀.heap s.heap
 loc:∃ m,s.heap.Ns X.env.locals m/\∀ (i:Nat)(x:Str)(v:V),X.N[i]?=some x->σ[i]?=some (some v)->Vis X.env.scope x->∃ u,RelV v u/\Look X.env s.heap m x u
 cell:∀ x c,X.env.cells.lookup x=some c->∃ v,s.heap.IsCell c v
 free:H X.env.locals=none
 freeC:∀ x c,X.env.cells.lookup x=some c->H c=none
 pin:∀ p∈X.pn++pins,s.heap.get? p.1=some p.2/\H p.1=none/\p.1≠X.env.locals/\p.1 ∉ X.fs/\∀ v,p.2.data≠.cell v
 hok:HOk X.prog X.w H s.heap
 len:σ.length=X.N.length
section
variable {X:Cx}{pins:List (Addr×Obj)}{σ:List (Option V)}{H H':Hp}{s:Shared}{h':Heap}
theorem Cx.Ok.nofr (ok:X.Ok){b:Addr}{o:Obj}(e:X.base.get? b=some o):b ∉ X.fs:=λhb=>by
 have:=(ok.funs.mem hb).1
 rw[e] at this;cases this
theorem Inv.bs (I:Inv X pins σ H s):∀ b o,X.base.get? b=some o->s.heap.get? b=some o/\H b=none:=λb o e =>
 ⟨I.base.keep b o (I.ok.bs b o e).1 (I.ok.bs b o e).2 (I.ok.nofr e) (I.ok.noex b o e),I.base.free b o (I.ok.bs b o e).1 (I.ok.bs b o e).2 (I.ok.noex b o e)⟩
theorem Inv.bk (I:Inv X pins σ H s):∀ b o,X.base.get? b=some o->s.heap.get? b=some o:=λb o e=>(I.bs b o e).1
theorem Inv.mod (I:Inv X pins σ H s):Mod X.K X.mg X.base:=I.ok.mod
theorem Inv.kIn (I:Inv X pins σ H s):X.K.In s.heap:=I.ok.mod.kin.keeps I.bk
theorem Inv.lt (I:Inv X pins σ H s):X.env.locals<s.heap.objs.size:=let ⟨_,hn,_⟩:=I.loc;hn.lt
theorem Inv.sz (I:Inv X pins σ H s):X.s₀.heap.objs.size<=s.heap.objs.size:=Nat.le_trans I.ok.above (Nat.le_of_lt I.lt)
theorem Inv.nofs (I:Inv X pins σ H s){a:Addr}(h:s.heap.objs.size<=a):a ∉ X.fs:=λhb=>by
 obtain⟨_,o,ho,_⟩:=I.ok.funs.mem hb
 exact absurd (Nat.lt_of_lt_of_le (Γl ho) (Nat.le_trans I.sz h)) (Nat.lt_irrefl _)
theorem Inv.cne (I:Inv X pins σ H s):∀ x c,X.env.cells.lookup x=some c->c≠X.env.locals:=λx c e z=>by
 obtain⟨v,o,ho,hd⟩:=I.cell x c e
 obtain⟨m,⟨o',es,ep,ho',hd',_⟩,_⟩:=I.loc
 rw[z,ho'] at ho;cases ho;rw[hd'] at hd;cases hd
theorem Inv.funs (I:Inv X pins σ H s):s.heap.FunFrames X.base X.outer:=by
 have all:∀ (l:List Env),(∀ b∈frs l,b∈X.fs)->X.s₀.heap.FunFrames X.base l->s.heap.FunFrames X.base l:=by
  intro l
  induction l with
  | nil=>intro _ _;trivial
  | cons env r ih =>
   intro hs hl
   obtain⟨hk,⟨L,o,hf,hn,ho,hd⟩,hr⟩:=hl
   have hL:L∈X.fs:=hs L (by unfold frs;rw[List.filterMap_cons,hf];exact Γn)
   obtain⟨sl,e⟩:=I.base.slot L o ho (I.ok.frf L hL) hL λz=>I.ok.exfs L z hL
   exact⟨hk,⟨L,_,hf,hn,e,hd⟩,ih (λb hb=>hs b (by unfold frs;rw[List.filterMap_cons,hf];exact Γh _ hb)) hr⟩
 exact all X.outer (λ_ hb=>hb) I.ok.funs
theorem Inv.stack (I:Inv X pins σ H s):s.heap.FunFrames X.base X.stack:=by
 rcases I.ok.stk with e|⟨e,hf⟩
 ·rw[e];exact I.funs
 ·rw[e]
  obtain⟨m,hn,_⟩:=I.loc
  refine .cons (by rw[I.ok.kind];decide) hf hn ?_ I.funs
  exact Heap.get?_none_of_le (Nat.le_trans I.ok.bsz I.ok.above)
theorem Inv.stkSub (I:Inv X pins σ H s):∀ b∈frs X.stack,b∈X.env.locals :: X.fs:=λb hb=>by
 rcases I.ok.stk with e|⟨e,hf⟩
 ·rw[e] at hb;exact Γh _ hb
 ·rw[e] at hb
  unfold frs at hb
  rw[List.filterMap_cons,hf] at hb
  exact hb
theorem Inv.stkFree (I:Inv X pins σ H s):∀ b∈frs X.stack,H b=none:=λb hb=>by
 rcases List.mem_cons.mp (I.stkSub b hb) with e|hb
 ·rw[e];exact I.free
 ·obtain⟨_,o,ho,_⟩:=I.ok.funs.mem hb
  exact I.base.free b o ho (I.ok.frf b hb) λz=>I.ok.exfs b z hb
theorem Inv.step {g':Array GenState}{t':Nat}{d':Drawn}{ch:List Addr}(I:Inv X pins σ H s)
  (hch:∀ b∈ch,(b∈X.ex ∨ X.s₀.heap.objs.size<=b)/\b≠X.env.locals/\(∀ x c,X.env.cells.lookup x=some c->c≠b)/\∀ p∈X.pn++pins,p.1≠b)
  (keep:∀ b o,b≠X.env.locals->b ∉ X.fs->b ∉ ch->s.heap.get? b=some o->H b=none->h'.get? b=some o)
  (slot:∀ b o,b≠X.env.locals->b∈X.fs->b ∉ ch->s.heap.get? b=some o->H b=none->∃ sl,h'.get? b=some { o with slots:=sl })(free:∀ b o,b ∉ ch->s.heap.get? b=some o->H b=none->H' b=none)
  (there:∀ b o,b ∉ ch->s.heap.get? b=some o->∃ o',h'.get? b=some o')
  (tups:∀ b xs,H b=some (.tup xs)->H' b=some (.tup xs))(frzs:∀ b o u,H b=some (.frz o u)->H' b=some (.frz o u))(tbls:∀ b ps,H b=some (.tbl ps)->∃ more,H' b=some (.tbl (ps++more)))
  (ns:∀ m,s.heap.Ns X.env.locals m->h'.Ns X.env.locals m)(hok:HOk X.prog X.w H' h')(hg:AllBare g') :
  Inv X pins σ H' { s with heap:=h',gens:=g',drawn:=d',toks:=t' }:=by
 have neL:∀ b o,X.s₀.heap.get? b=some o->b≠X.env.locals:=λb o e=>Γo (Nat.lt_of_lt_of_le (Γl e) I.ok.above)
 have neC:∀ b o,X.s₀.heap.get? b=some o->b ∉ X.ex->b ∉ ch:=λb o e hx hb=>by
  rcases (hch b hb).1 with z|z
  ·exact hx z
  ·exact absurd (Nat.lt_of_lt_of_le (Γl e) z) (Nat.lt_irrefl _)
 have cellK:∀ x c,X.env.cells.lookup x=some c->∀ v,s.heap.IsCell c v->h'.IsCell c v:=λx c e v ⟨o,ho,hd⟩=>by
  have nch:c ∉ ch:=λz=>(hch c z).2.2.1 x c e rfl
  by_cases hc:c∈X.fs
  ·obtain⟨sl,q⟩:=slot c o (I.cne x c e) hc nch ho (I.freeC x c e)
   exact⟨_,q,hd⟩
  ·exact⟨o,keep c o (I.cne x c e) hc nch ho (I.freeC x c e),hd⟩
 refine⟨I.ok,I.os,hg,⟨λb o e n hb hx=>?_,λb o e n hb hx=>?_,λb o e n hx=>?_,λb o e hx=>?_,λb xs e=>tups b xs (I.base.tups b xs e),λb o xs e=>frzs b o xs (I.base.frzs b o xs e),λb ps e=>?_⟩,?_,λx c e=>?_,?_,λx c e=>?_,λp hp=>?_,hok,I.len⟩
 ·exact keep b o (neL b o e) hb (neC b o e hx) (I.base.keep b o e n hb hx) (I.base.free b o e n hx)
 ·obtain⟨sl,e1⟩:=I.base.slot b o e n hb hx
  obtain⟨sl',e2⟩:=slot b _ (neL b o e) hb (neC b o e hx) e1 (I.base.free b o e n hx)
  exact⟨sl',e2⟩
 ·obtain⟨o',e1⟩:=I.base.there b o e hx
  exact free b o' (neC b o e hx) e1 (I.base.free b o e n hx)
 ·obtain⟨o',e1⟩:=I.base.there b o e hx
  exact there b o' (neC b o e hx) e1
 ·obtain⟨m1,e1⟩:=I.base.tbls b ps e
  obtain⟨m2,e2⟩:=tbls b _ e1
  exact⟨m1++m2,by rw[e2,Array.append_assoc]⟩
 ·obtain⟨m,hn,hl⟩:=I.loc
  refine⟨m,ns m hn,λi x v e1 e2 e3=>?_⟩
  obtain⟨u,r,l⟩:=hl i x v e1 e2 e3
  refine⟨u,r,?_⟩
  rcases l with l|⟨k,c,e,z⟩
  ·exact .inl l
  ·exact .inr ⟨k,c,e,cellK x c e _ z⟩
 ·obtain⟨v,z⟩:=I.cell x c e
  exact⟨v,cellK x c e v z⟩
 ·obtain⟨m,⟨o,_,_,ho,_⟩,_⟩:=I.loc
  exact free _ o (λz=>(hch _ z).2.1 rfl) ho I.free
 ·obtain⟨v,o,ho,hd⟩:=I.cell x c e
  exact free c o (λz=>(hch c z).2.2.1 x c e rfl) ho (I.freeC x c e)
 ·obtain⟨e,n,ne,nf,d⟩:=I.pin p hp
  have nch:p.1 ∉ ch:=λz=>(hch p.1 z).2.2.2 p hp rfl
  exact⟨keep p.1 p.2 ne nf nch e n,free p.1 p.2 nch e n,ne,nf,d⟩
theorem Inv.un {t':Nat}(I:Inv X pins σ H s)(u:Un X.fs [] H H' s.heap h')(hok:HOk X.prog X.w H' h'):Inv X pins σ H' { s with heap:=h',toks:=t' }:=by
 obtain⟨m,⟨o,es,ep,ho,r⟩,_⟩:=id I.loc
 obtain⟨sl,hL⟩:=u.any ho I.free (by simp)
 exact I.step (g':=s.gens) (d':=s.drawn) (ch:=[]) (λ_ z=>nomatch z) (λb o _ hb _ e n=>u.keep b o e n hb (by simp)) (λb o _ hb _ e n=>u.slot b o e n hb (by simp)) (λb o _ e n=>u.free b o e n (by simp)) (λb o _ e=>u.there b o e (by simp)) u.tups u.frzs u.tbls (λm' hm=>by
  obtain⟨o',es',ep',ho',r'⟩:=hm
  rw[ho] at ho';cases ho'
  exact⟨_,es',ep',hL,r'⟩) hok I.bare
theorem Inv.call {g':Array GenState}{t':Nat}{d':Drawn}{ch:List Addr}(I:Inv X pins σ H s)(u:Un (frs X.stack) ch H H' s.heap h')(hok:HOk X.prog X.w H' h')(hg:AllBare g')
  (hch:∀ b∈ch,(b∈X.ex ∨ X.s₀.heap.objs.size<=b)/\b≠X.env.locals/\(∀ x c,X.env.cells.lookup x=some c->c≠b)/\∀ p∈X.pn++pins,p.1≠b) :
  Inv X pins σ H' { s with heap:=h',gens:=g',drawn:=d',toks:=t' }:=by
 obtain⟨m,⟨o,es,ep,ho,r⟩,_⟩:=id I.loc
 obtain⟨sl,hL⟩:=u.any ho I.free λz=>(hch _ z).2.1 rfl
 exact I.step (ch:=ch) hch (λb o hL hb hc e n=>u.keep b o e n (λz=>(List.mem_cons.mp (I.stkSub b z)).elim hL hb) hc) (λb o _ _ hc e n=>u.any e n hc) (λb o hc e n=>u.free b o e n hc) (λb o hc e=>u.there b o e hc) u.tups u.frzs u.tbls (λm' hm=>by
  obtain⟨o',es',ep',ho',r'⟩:=hm
  rw[ho] at ho';cases ho'
  exact⟨_,es',ep',hL,r'⟩) hok hg
theorem Inv.turned {t':Nat}{it:Addr}(I:Inv X pins σ H s)(k:∀ b o,b≠it->s.heap.get? b=some o->h'.get? b=some o)(hn:H it=none)(hL:it≠X.env.locals)
  (h1:it∈X.ex ∨ X.s₀.heap.objs.size<=it)(h2:∀ x c,X.env.cells.lookup x=some c->c≠it)(h3:∀ p∈X.pn++pins,p.1≠it):Inv X pins σ H { s with heap:=h',toks:=t' }:=by
 have nit:∀ b u,H b=some u->b≠it:=λb u e z=>by rw[z,hn] at e;cases e
 refine I.step (g':=s.gens) (d':=s.drawn) (ch:=[it]) (λb hb=>?_) (λb o _ _ hc e _=>k b o (λz=>hc (by simp[z])) e) (λb o _ _ hc e _=>⟨o.slots,k b o (λz=>hc (by simp[z])) e⟩) (λ_ _ _ _ n=>n)
  (λb o hc e=>⟨o,k b o (λz=>hc (by simp[z])) e⟩) (λ_ _ e=>e) (λ_ _ _ e=>e) (λb ps e=>⟨#[],by rw[e];simp⟩) (λm hm=>?_) (λb u e=>?_) I.bare
 ·have e:b=it:=by simpa using hb
  subst e
  exact⟨h1,hL,h2,h3⟩
 ·obtain⟨o,es,ep,ho,r⟩:=hm
  exact⟨o,es,ep,k _ o (Ne.symm hL) ho,r⟩
 ·refine (I.hok b u e).stay (λc v hc q=>k c v ?_ q) (λ_ q=>q) λ_ _ q=>q
  rcases hc with z|z
  ·rw[z];exact nit b u e
  ·exact nit c _ z
theorem Inv.tok (I:Inv X pins σ H s) (t:Nat):Inv X pins σ H { s with toks:=t }:=I.un (h':=s.heap) (t':=t) Un.refl I.hok
theorem Inv.kept {t':Nat}(I:Inv X pins σ H s)(k:∀ b u,s.heap.get? b=some u->h'.get? b=some u):Inv X pins σ H { s with heap:=h',toks:=t' }:=I.un (Un.kept k) (I.hok.kept k)
theorem Inv.laid {a:Addr}{o:HO}{t':Nat}(I:Inv X pins σ H s)(k:∀ b u,s.heap.get? b=some u->h'.get? b=some u)(hp:s.heap.objs.size<=a)(new:ObjOk X.prog X.w (upd H a o) h' a o) :
  Inv X pins σ (upd H a o) { s with heap:=h',toks:=t' }:=I.un (Un.laid k hp (I.hok.fresh hp)) (I.hok.laid k hp new)
theorem Inv.write {x e:Addr}{o:HO}{t':Nat}(I:Inv X pins σ H s)(mu:Mut (H x))(he:e=x ∨ H e=some (.own x))(k:∀ b u,b≠e->s.heap.get? b=some u->h'.get? b=some u)(heo:∃ u,h'.get? e=some u)
  (new:ObjOk X.prog X.w (upd H x o) h' x o):Inv X pins σ (upd H x o) { s with heap:=h',toks:=t' }:=I.un (Un.write mu he k heo) (I.hok.write mu he k heo new)
theorem Inv.weak {σ':List (Option V)}(I:Inv X pins σ H s)(hl:σ'.length=σ.length)(w:∀ (i:Nat) v,σ'[i]?=some (some v)->σ[i]?=some (some v)):Inv X pins σ' H s :=
 ⟨I.ok,I.os,I.bare,I.base,let ⟨m,hn,hl'⟩:=I.loc;⟨m,hn,λi x v e1 e2 e3=>hl' i x v e1 (w i v e2) e3⟩,I.cell,I.free,I.freeC,I.pin,I.hok,hl.trans I.len⟩
theorem Inv.pins_of {pins':List (Addr×Obj)}(I:Inv X pins σ H s)(h:∀ p∈pins',s.heap.get? p.1=some p.2/\H p.1=none/\p.1≠X.env.locals/\p.1 ∉ X.fs/\∀ v,p.2.data≠.cell v):Inv X pins' σ H s :=
 ⟨I.ok,I.os,I.bare,I.base,I.loc,I.cell,I.free,I.freeC,λp hp=>(List.mem_append.mp hp).elim (λz=>I.pin p (List.mem_append_left _ z)) (h p),I.hok,I.len⟩
theorem b3z {N:List Str}(hN:N.Nodup){i j:Nat}{x:Str}(a:N[i]?=some x)(b:N[j]?=some x):i=j:=by
 obtain⟨h1,e1⟩:=List.getElem?_eq_some_iff.mp a
 obtain⟨h2,e2⟩:=List.getElem?_eq_some_iff.mp b
 exact (List.getElem_inj hN).mp (e1.trans e2.symm)
theorem a9s {M:Model}{A:Around}{E:Value->Shared->Prop}{i:Nat}{x:Str}{v:V}{u:Value}{Q:Unit->Shared->Prop}(I:Inv X pins σ H s)(hN:X.N.Nodup)(hi:X.N[i]?=some x)(hx:Loc X.env.scope x)(r:RelV v u)
  (h:∀ s',Inv X pins (σ.set i (some v)) H s'->(∃ a,Heap.SameBut a s.heap s'.heap/\(a=X.env.locals ∨ X.env.cells.lookup x=some a))->Q () s')(hf:X.fn x=true ∨ X.env.scope.names.lookup x=some .local:=by first|exact .inl rfl|exact .inr rfl|assumption):wpAny M A (storeName X.env x u) Q E s:=by
 obtain⟨m,hn,hl⟩:=id I.loc
 have hcls:(X.env.scope.kind == .class || (X.env.scope.kind == .module && X.env.locals != X.env.globals))=false:=by rw[I.ok.kind];rfl
 have hiσ:i<σ.length:=by rw[I.len];exact (List.getElem?_eq_some_iff.mp hi).1
 have cne:=I.cne
 have tracked:∀ {a:Addr}{h':Heap},(∃ o,s.heap.get? a=some o/\H a=none)->Heap.SameBut a s.heap h'->HOk X.prog X.w H h':=λ{a h'} ha hs b ob e=>by
  obtain⟨_,_,hfree⟩:=ha
  refine (I.hok b ob e).stay (λc w' hc q=>(hs.2 c ?_).trans q) (λ_ q=>q) λ_ _ q=>q
  rintro rfl
  rcases hc with rfl|hc
  ·rw[hfree] at e;cases e
  ·rw[hfree] at hc;cases hc
 rcases hx with hk|hk
 ·refine wpAny_storeName_local hk hn (λh' hn' hs=>?_) hcls
  obtain⟨oL,_,_,hoL,_⟩:=id hn
  refine h _ ⟨I.ok,I.os,I.bare,⟨λb o e n hb hx=>?_,λb o e n hb hx=>?_,I.base.free,λb o e hx=>?_,I.base.tups,I.base.frzs,I.base.tbls⟩,⟨_,hn',λj y v' e1 e2 e3=>?_⟩,λy c e=>?_,I.free,I.freeC,λp hp=>?_,tracked ⟨oL,hoL,I.free⟩ hs,by simpa using I.len⟩ ⟨_,hs,.inl rfl⟩
  ·exact (hs.2 b (Γo (Nat.lt_of_lt_of_le (Γl e) I.ok.above))).trans (I.base.keep b o e n hb hx)
  ·obtain⟨sl,e1⟩:=I.base.slot b o e n hb hx
   exact⟨sl,(hs.2 b (Γo (Nat.lt_of_lt_of_le (Γl e) I.ok.above))).trans e1⟩
  ·obtain⟨o',e1⟩:=I.base.there b o e hx
   exact⟨o',(hs.2 b (Γo (Nat.lt_of_lt_of_le (Γl e) I.ok.above))).trans e1⟩
  ·by_cases hj:j=i
   ·subst hj
    rw[hi] at e1;cases e1
    rw[List.getElem?_set_self hiσ] at e2
    cases e2
    exact⟨u,r,.inl ⟨hk,by simp⟩⟩
   ·rw[List.getElem?_set_ne (Ne.symm hj)] at e2
    obtain⟨u',r',q⟩:=hl j y v' e1 e2 e3
    refine⟨u',r',?_⟩
    rcases q with⟨k,e⟩|⟨k,c,e,z⟩
    ·refine .inl ⟨k,?_⟩
     have:y≠x:=λe=>hj (b3z hN e1 (e ▸ hi))
     simp[this,e]
    ·exact .inr ⟨k,c,e,z.sameBut hs (cne y c e)⟩
  ·obtain⟨w',z⟩:=I.cell y c e
   exact⟨w',z.sameBut hs (cne y c e)⟩
  ·obtain⟨e,n,ne,nf,d⟩:=I.pin p hp
   exact⟨(hs.2 p.1 ne).trans e,n,ne,nf,d⟩
 ·have hfn:X.fn x=true:=by
   rcases hf with z|z
   ·exact z
   ·rw[z] at hk;cases hk
  obtain⟨c,hc⟩:=I.ok.has x (.inl hk)
  obtain⟨w',z⟩:=I.cell x c hc
  refine wpAny_storeName_cell I.ok.kind hk hc z (λh' hc' hs=>?_)
  obtain⟨oc,hoc,hocd⟩:=id z
  refine h { s with heap:=h' } ⟨I.ok,I.os,I.bare,⟨λb o e n hb hx=>?_,λb o e n hb hx=>?_,I.base.free,λb o e hx=>?_,I.base.tups,I.base.frzs,I.base.tbls⟩,⟨m,hn.sameBut hs (Ne.symm (cne x c hc)),λj y v' e1 e2 e3=>?_⟩,λy c' e=>?_,I.free,I.freeC,λp hp=>?_,tracked ⟨oc,hoc,I.freeC x c hc⟩ hs,by simpa using I.len⟩ ⟨c,hs,.inr hc⟩
  ·exact (hs.2 b (Γo (Nat.lt_of_lt_of_le (Γl e) (I.ok.cab x c hfn hc)))).trans (I.base.keep b o e n hb hx)
  ·obtain⟨sl,e1⟩:=I.base.slot b o e n hb hx
   exact⟨sl,(hs.2 b (Γo (Nat.lt_of_lt_of_le (Γl e) (I.ok.cab x c hfn hc)))).trans e1⟩
  ·obtain⟨o',e1⟩:=I.base.there b o e hx
   exact⟨o',(hs.2 b (Γo (Nat.lt_of_lt_of_le (Γl e) (I.ok.cab x c hfn hc)))).trans e1⟩
  ·by_cases hj:j=i
   ·subst hj
    rw[hi] at e1;cases e1
    rw[List.getElem?_set_self hiσ] at e2
    cases e2
    exact⟨u,r,.inr ⟨.inl hk,c,hc,hc'⟩⟩
   ·rw[List.getElem?_set_ne (Ne.symm hj)] at e2
    obtain⟨u',r',q⟩:=hl j y v' e1 e2 e3
    refine⟨u',r',?_⟩
    rcases q with q|⟨k,c',e,z'⟩
    ·exact .inl q
    ·refine .inr ⟨k,c',e,z'.sameBut hs ?_⟩
     rintro rfl
     exact hj (b3z hN e1 (I.ok.inj _ _ _ e hc ▸ hi))
  ·by_cases hcc:c'=c
   ·subst hcc;exact⟨_,hc'⟩
   ·obtain⟨w2,z2⟩:=I.cell y c' e
    exact⟨w2,z2.sameBut hs hcc⟩
  ·obtain⟨e,n,ne,nf,d⟩:=I.pin p hp
   refine⟨(hs.2 p.1 ?_).trans e,n,ne,nf,d⟩
   intro q
   rw[q,hoc] at e
   have q':oc=p.2:=Option.some.inj e
   exact d w' (by rw[<- q'];exact hocd)
theorem a4m {M:Model}{A:Around}{E:Value->Shared->Prop}{i:Nat}{x:Str}{v:V}{u:Value}{Q:Unit->Shared->Prop}(I:Inv X pins σ H s)(hN:X.N.Nodup)(hi:X.N[i]?=some x)(hx:Loc X.env.scope x)(r:RelV v u)
  (h:∀ s',Inv X pins (σ.set i (some v)) H s'->Q () s')(hf:X.fn x=true ∨ X.env.scope.names.lookup x=some .local:=by first|exact .inl rfl|exact .inr rfl|assumption):wpAny M A (storeName X.env x u) Q E s :=
 a9s I hN hi hx r (λs' I' _=>h s' I') hf
theorem Inv.call' {s':Shared}{ch:List Addr}(I:Inv X pins σ H s)(ho:s'.os=s.os)(u:Un (frs X.stack) ch H H' s.heap s'.heap)(hok:HOk X.prog X.w H' s'.heap)(hg:AllBare s'.gens)
  (hch:∀ b∈ch,(b∈X.ex ∨ X.s₀.heap.objs.size<=b)/\b≠X.env.locals/\(∀ x c,X.env.cells.lookup x=some c->c≠b)/\∀ p∈X.pn++pins,p.1≠b):Inv X pins σ H' s':=by
 obtain⟨h',g',d',t',o'⟩:=s'
 have e:o'=s.os:=ho
 subst e
 exact I.call (g':=g') (t':=t') (d':=d') u hok hg hch
end
abbrev XK:=Value->Option Addr->Hp->Prop
abbrev St:=List (Option V)
abbrev VK:=V->Hp->Prop
abbrev TE:=St->Hp->VK->Prop
abbrev TT:=St->Hp->(Bool->Hp->Prop)->Prop
abbrev TA:=St->Hp->(List V->Hp->Prop)->Prop
structure Ends where
 nx:St->Hp->Prop
 rt:VK
 bk:St->Hp->Prop:=λ_ _=>False
 ct:St->Hp->Prop:=λ_ _=>False
abbrev TS:=Ends->St->Hp->Prop
def EP (X:Cx)(pins:List (Addr×Obj))(σ:St)(Q:VK)(u:Value)(s':Shared):Prop:=∃ v H',Inv X pins σ H' s'/\RelV v u/\Q v H'
def TP (X:Cx)(pins:List (Addr×Obj))(σ:St)(Q:Bool->Hp->Prop)(b:Bool)(s':Shared):Prop:=∃ H',Inv X pins σ H' s'/\Q b H'
def AP (X:Cx)(pins:List (Addr×Obj))(σ:St)(Q:List V->Hp->Prop)(us:List Value)(s':Shared):Prop:=∃ vs H',Inv X pins σ H' s'/\Vals vs us/\Q vs H'
def SP (X:Cx)(pins:List (Addr×Obj))(D:Ends)(f:Flow)(s':Shared):Prop :=
 match f with
 | .next=>∃ σ' H',Inv X pins σ' H' s'/\D.nx σ' H'
 | .brk=>∃ σ' H',Inv X pins σ' H' s'/\D.bk σ' H'
 | .cont=>∃ σ' H',Inv X pins σ' H' s'/\D.ct σ' H'
 | .ret u=>∃ v σ' H',Inv X pins σ' H' s'/\RelV v u/\D.rt v H'
def PE (X:Cx)(e:Expr)(t:TE):Prop :=
 ∀ (pins:List (Addr×Obj))(s:Shared)(σ:St)(H:Hp)(Q:VK),Inv X pins σ H s->t σ H Q->wpAny (model X.prog X.w) X.A (eval e X.env) (EP X pins σ Q) X.xe s
def PT (X:Cx)(e:Expr)(t:TT):Prop :=
 ∀ (pins:List (Addr×Obj))(s:Shared)(σ:St)(H:Hp)(Q:Bool->Hp->Prop),Inv X pins σ H s->t σ H Q->wpAny (model X.prog X.w) X.A (isTrue e X.env (eval e X.env)) (TP X pins σ Q) X.xe s
def PW (X:Cx)(e:Expr)(t:TT):Prop :=
 ∀ (whole:Sem Value)(pins:List (Addr×Obj))(s:Shared)(σ:St)(H:Hp)(Q:Bool->Hp->Prop),Inv X pins σ H s->t σ H Q->wpAny (model X.prog X.w) X.A (isTrue e X.env whole) (TP X pins σ Q) X.xe s
theorem PW.pt {X:Cx}{e:Expr}{t:TT}(h:PW X e t):PT X e t:=h _
def PA (X:Cx)(es:List Expr)(t:TA):Prop :=
 ∀ (pos:Pos)(pins:List (Addr×Obj))(s:Shared)(σ:St)(H:Hp)(Q:List V->Hp->Prop),Inv X pins σ H s->t σ H Q->wpAny (model X.prog X.w) X.A (spliced (backTo pos (starEach es X.env))) (AP X pins σ Q) X.xe s
def PS (X:Cx)(st:Stmt)(t:TS):Prop :=
 ∀ (pins:List (Addr×Obj))(s:Shared)(σ:St)(H:Hp)(D:Ends),Inv X pins σ H s->t D σ H->wpAny (model X.prog X.w) X.A (exec st X.env) (SP X pins D) X.xe s
def PSs (X:Cx)(st:List Stmt)(t:TS):Prop :=
 ∀ (pins:List (Addr×Obj))(s:Shared)(σ:St)(H:Hp)(D:Ends),Inv X pins σ H s->t D σ H->wpAny (model X.prog X.w) X.A (execs st X.env) (SP X pins D) X.xe s
theorem thn {α:Type}{t:Sem α}{Q Q':α->Shared->Prop}{M:Model}{A:Around}{E:Value->Shared->Prop}{s:Shared}(h:wpAny M A t Q E s)(hQ:∀ a s,Q a s->Q' a s):wpAny M A t Q' E s:=wpAny_mono h hQ λ_ _ x=>x
end L2
namespace L2
open PySem PySem.Spec PyProof.Rows
section
variable {X:Cx}
def c9x (i:Nat):TE:=λσ H Q=>∃ v,σ[i]?=some (some v)/\Q v H
def tC (v:V):TE:=λ_ H Q=>Q v H
theorem b7n {i:Nat}{x:Str}{pos:Pos}(hN:X.N[i]?=some x)(hv:Vis X.env.scope x)(hd:(x == ("__debug__":Str))=false:=by decide)(hcd:(x == ("__classdict__":Str))=false:=by decide):PE X (.Name x pos) (c9x i):=by
 intro pins s σ H Q I h
 obtain⟨v,e,h⟩:=h
 obtain⟨m,hn,hl⟩:=I.loc
 obtain⟨u,r,l⟩:=hl i x v hN e hv
 have fin:EP X pins σ Q u s:=⟨v,H,I,r,h⟩
 rcases l with⟨hk,hm⟩|⟨hk,c,hc,hcell⟩
 ·exact wpAny_Name (wpAny_loadName_local I.ok.kind hk hn hm fin) hd
 ·rcases hk with hk|hk
  ·exact wpAny_Name (wpAny_loadName_cell I.ok.kind hk hc hcell fin) hd
  ·exact wpAny_Name (wpAny_loadName_free I.ok.kind hk hc hcell fin hcd) hd
theorem d1p {i j pos}:PE X (.Constant (.int i) j pos) (tC (.int i)):=λ_ _ _ H _ I h=>wpAny_Constant_int ⟨.int i,H,I.tok _,⟨_,rfl⟩,h⟩
theorem d8y {b j pos}:PE X (.Constant (.bool b) j pos) (tC (.bl b)):=λ_ _ _ H _ I h=>Constant_bool ⟨.bl b,H,I,rfl,h⟩
theorem d1n {j pos}:PE X (.Constant .none j pos) (tC .non):=λ_ _ _ H _ I h=>Constant_none ⟨.non,H,I,rfl,h⟩
theorem d1i {x j pos}:PE X (.Constant (.str x) j pos) (tC (.str x)):=λ_ _ _ H _ I h=>Calls.Constant_str ⟨.str x,H,I.tok _,⟨_,rfl⟩,h⟩
def Gl (X:Cx)(x:Str):Prop:=X.env.kindOf x=some .globalImplicit
theorem c7r {E:Value->Shared->Prop}{pins:List (Addr×Obj)}{s:Shared}{σ:St}{H:Hp}{x:Str}{u:Value}{pos:Pos}{Q:Value->Shared->Prop}(I:Inv X pins σ H s)(hg:Gl X x)(hm:X.mg x=some u)(h:Q u s)
  (hd:(x == ("__debug__":Str))=false:=by decide):wpAny (model X.prog X.w) X.A (eval (.Name x pos) X.env) Q E s :=
 Calls.Name_function_global I.ok.kind hg (Calls.loadGlobal_global (by rw[I.ok.glob];exact I.mod.glob.keeps I.bk) hm h) hd
theorem a7x {E:Value->Shared->Prop}{pins:List (Addr×Obj)}{s:Shared}{σ:St}{H:Hp}{x:Str}{u:Value}{pos:Pos}{Q:Value->Shared->Prop}(I:Inv X pins σ H s)(hg:Gl X x)(hm:X.mg x=none)(hv:bootBuiltins x=some u)(h:Q u s)
  (hn:x≠"__name__":=by decide)(hd:(x == ("__debug__":Str))=false:=by decide):wpAny (model X.prog X.w) X.A (eval (.Name x pos) X.env) Q E s:=by
 obtain⟨mb,h1,h2⟩:=I.mod.blt
 exact Calls.Name_function_global I.ok.kind hg (Calls.loadGlobal_builtin (by rw[I.ok.glob];exact I.mod.glob.keeps I.bk) hm (by rw[I.ok.blt];exact h1.keeps I.bk) ((h2 x hn).trans hv) h) hd
theorem b7p {x:Str}{v:V}{u:Value}{pos:Pos}(hg:Gl X x)(hm:X.mg x=none)(hv:bootBuiltins x=some u)(r:RelV v u)(hn:x≠"__name__":=by decide)(hd:(x == ("__debug__":Str))=false:=by decide):PE X (.Name x pos) (tC v) :=
 λ_ _ _ H _ I h=>a7x I hg hm hv ⟨v,H,I,r,h⟩ hn hd
variable {a b:Expr}{ta tb:TE}{pos:Pos}
def PC (X:Cx)(op:CmpOp)(a b:Expr)(t:TE):Prop :=
 ∀ (pins:List (Addr×Obj))(s:Shared)(σ:St)(H:Hp)(Q:VK),Inv X pins σ H s->t σ H Q ->
  wpAny (model X.prog X.w) X.A (eval a X.env) (λv s₁=>wpAny (model X.prog X.w) X.A (eval b X.env) (λu s₂=>wpAny (model X.prog X.w) X.A (compareOp op v u) (EP X pins σ Q) X.xe s₂) X.xe s₁) X.xe s
theorem a2s (b:Expr){op:CmpOp}(h:op≠.In)(h2:op≠.NotIn):behindInMarks op b=false:=by
 have e1:(op == CmpOp.In)=false:=by cases op<;>first|rfl|exact absurd rfl h
 have e2:(op == CmpOp.NotIn)=false:=by cases op<;>first|rfl|exact absurd rfl h2
 cases b<;>simp[behindInMarks,e1,e2]
def tIsN (ta:TE):TE:=λσ H Q=>ta σ H λx H1=>Q (.bl (decide (x=.non))) H1
def d7b (ta:TE):TE:=λσ H Q=>ta σ H λx H1=>Q (.bl (!decide (x=.non))) H1
theorem RelV.none_iff {x:V}{v:Value}(r:RelV x v):(v == Value.none)=decide (x=.non):=by
 cases x with
 | non=>cases r;rfl
 | bl _=>cases r;rfl
 | int _=>obtain⟨t,rfl⟩:=r;rfl
 | str _=>obtain⟨t,rfl⟩:=r;rfl
 | byt _=>obtain⟨t,rfl⟩:=r;rfl
 | flt _=>obtain⟨t,rfl⟩:=r;rfl
 | ref _=>cases r;rfl
 | ty _=>cases r;rfl
theorem c4u {j pos'}(ha:PE X a ta):PC X .Is a (.Constant .none j pos') (tIsN ta):=by
 intro pins s σ H Q I h
 refine thn (ha pins s σ H _ I h) λv s1 ⟨x,H1,I1,r1,q1⟩=>?_
 exact Constant_none (is_none_gen ⟨.bl _,H1,I1,by rw[r1.none_iff];rfl,q1⟩)
theorem b7q {j pos'}(ha:PE X a ta):PC X .IsNot a (.Constant .none j pos') (d7b ta):=by
 intro pins s σ H Q I h
 refine thn (ha pins s σ H _ I h) λv s1 ⟨x,H1,I1,r1,q1⟩=>?_
 exact Constant_none (isnot_none_gen ⟨.bl _,H1,I1,by rw[r1.none_iff];rfl,q1⟩)
def tB (t:TE):TT:=λσ H Q=>t σ H λx H1=>∃ c,x=.bl c/\Q c H1
theorem c4t {op:CmpOp}{t:TE}(h:PC X op a b t)(h1:behindInMarks op b=false:=by first|exact a2s _ (by decide) (by decide)|rfl):PE X (.Compare a [op] [b] pos) t:=λpins s σ H Q I hw=>wpAny_Compare1 (h pins s σ H Q I hw) h1
theorem b7g {op:CmpOp}{t:TE}(h:PC X op a b t)(h1:behindInMarks op b=false:=by first|exact a2s _ (by decide) (by decide)|rfl):PT X (.Compare a [op] [b] pos) (tB t):=by
 intro pins s σ H Q I hw
 refine wpAny_isTrue_Compare1 (thn (h pins s σ H _ I hw) λv s1 h1=>thn h1 λu s2 h2=>thn h2 λc s3 ⟨x,H1,I1,r1,q1⟩=>?_) h1
 obtain⟨d,rfl,q⟩:=q1
 cases r1
 exact wpAny_truthy_bool ⟨H1,I1,q⟩
variable {tA tB':TT}{rest:List Expr}
def tAnd (t u:TT):TT:=λσ H Q=>t σ H λc H1=>if c=true then u σ H1 Q else Q false H1
def tOr (t u:TT):TT:=λσ H Q=>t σ H λc H1=>if c=true then Q true H1 else u σ H1 Q
def tNot (t:TT):TT:=λσ H Q=>t σ H λc H1=>Q (!c) H1
theorem c6g (ha:PT X a tA):PW X (.BoolOp .And [a] pos) tA:=by
 intro wh pins s σ H Q I h
 refine isTrue_and (thn (ha pins s σ H Q I h) λc s1 e=>?_)
 cases c with
 | true=>exact isTrue_and_nil e
 | false=>exact e
theorem d0x (ha:PT X a tA):PW X (.BoolOp .Or [a] pos) tA:=by
 intro wh pins s σ H Q I h
 refine isTrue_or (thn (ha pins s σ H Q I h) λc s1 e=>?_)
 cases c with
 | false=>exact isTrue_or_nil e
 | true=>exact e
theorem d0y (ha:PT X a tA)(hb:PW X (.BoolOp .And (b :: rest) pos) tB'):PW X (.BoolOp .And (a :: b :: rest) pos) (tAnd tA tB'):=by
 intro wh pins s σ H Q I h
 refine isTrue_and (thn (ha pins s σ H _ I h) λc s1 ⟨H1,I1,q1⟩=>?_)
 cases c with
 | true=>exact hb wh pins s1 σ H1 Q I1 q1
 | false=>exact⟨H1,I1,q1⟩
theorem d8q (ha:PT X a tA)(hb:PW X (.BoolOp .Or (b :: rest) pos) tB'):PW X (.BoolOp .Or (a :: b :: rest) pos) (tOr tA tB'):=by
 intro wh pins s σ H Q I h
 refine isTrue_or (thn (ha pins s σ H _ I h) λc s1 ⟨H1,I1,q1⟩=>?_)
 cases c with
 | true=>exact⟨H1,I1,q1⟩
 | false=>exact hb wh pins s1 σ H1 Q I1 q1
theorem d1a (ha:PT X a tA):PT X (.UnaryOp .Not a pos) (tNot tA):=by
 intro pins s σ H Q I h
 exact isTrue_not (ha pins s σ H (λc H1=>Q (!c) H1) I h)
def d7a (ta:TE):TE:=λσ H Q=>ta σ H λx H1=>∃ c,x=.bl c/\Q (.bl (!c)) H1
theorem d1l {op}{t:TE}(h:PE X a t):PE X (.BoolOp op [a] pos) t:=λpins s σ H Q I hw=>BoolOp_one (h pins s σ H Q I hw)
theorem d1m (ha:PE X a ta):PE X (.UnaryOp .Not a pos) (d7a ta):=by
 intro pins s σ H Q I h
 refine UnaryOp_ (thn (ha pins s σ H _ I h) λv s1 ⟨x,H1,I1,r1,q1⟩=>?_)
 obtain⟨c,rfl,q1⟩:=q1
 cases r1
 exact not_of (wpAny_truthy_bool ⟨.bl (!c),H1,I1,rfl,q1⟩)
def tIf (t:TT)(ta tb:TE):TE:=λσ H Q=>t σ H λc H1=>if c=true then ta σ H1 Q else tb σ H1 Q
theorem c2c {c:Expr}(hc:PT X c tA)(ha:PE X a ta)(hb:PE X b tb):PE X (.IfExp c a b pos) (tIf tA ta tb):=by
 intro pins s σ H Q I h
 refine wpAny_IfExp (thn (hc pins s σ H _ I h) λd s1 ⟨H1,I1,q1⟩=>?_)
 cases d with
 | true=>exact ha pins s1 σ H1 Q I1 q1
 | false=>exact hb pins s1 σ H1 Q I1 q1
end
end L2
namespace L2
open PySem PySem.Spec PyProof.Rows
def SqL (K:Γd)(H:Hp)(a:Addr)(xs:List V):Prop :=
 Rd H a (.lst xs) ∨
  ∃ (o:Obj)(its:Array Value) (n:Nat),K.lookup a=some o/\o.cls=.type "list"/\o.dict=none/\o.data=.seq its n/\its.size<=sizeLine/\Vals xs its.toList
def SqT (K:Γd)(H:Hp)(a:Addr)(xs:List V):Prop :=
 Rd H a (.tup xs) ∨
  ∃ (o:Obj)(its:Array Value) (n:Nat),K.lookup a=some o/\o.cls=.type "tuple"/\o.data=.seq its n/\its.size<=sizeLine/\Vals xs its.toList
def absV:Value->Option V
 | .none=>some .non
 | .bool b=>some (.bl b)
 | .int i _=>some (.int i)
 | .str x _=>some (.str x)
 | .bytes b _=>some (.byt b)
 | .float b _=>some (.flt b)
 | .ref a=>some (.ref a)
 | .type n=>some (.ty n)
 | _=>none
theorem RelV.abs {x:V}{u:Value}(r:RelV x u):absV u=some x:=by
 cases x with
 | non=>cases r;rfl
 | bl _=>cases r;rfl
 | int _=>obtain⟨t,rfl⟩:=r;rfl
 | str _=>obtain⟨t,rfl⟩:=r;rfl
 | byt _=>obtain⟨t,rfl⟩:=r;rfl
 | flt _=>obtain⟨t,rfl⟩:=r;rfl
 | ref _=>cases r;rfl
 | ty _=>cases r;rfl
theorem RelV.inj {x y:V}{u:Value}(r:RelV x u)(q:RelV y u):x=y:=Option.some.inj (r.abs.symm.trans q.abs)
theorem Vals.inj:∀ {xs ys:List V}{us:List Value},Vals xs us->Vals ys us->xs=ys
 | _,_,_,.nil,.nil=>rfl
 | _,_,_,.cons r t,.cons r' t'=>by rw[r.inj r',Vals.inj t t']
section
variable {X:Cx}{pins:List (Addr×Obj)}{σ:St}{H:Hp}{s:Shared}{a:Addr}{xs ys:List V}
theorem SqL.of {K:Γd}(h:H a=some (.lst xs)):SqL K H a xs:=.inl (.inl h)
theorem SqT.of {K:Γd}(h:H a=some (.tup xs)):SqT K H a xs:=.inl (.inl h)
theorem Inv.list (I:Inv X pins σ H s)(h:SqL X.K H a xs):∃ its:List Value,Vals xs its/\PlainL s.heap a its.toArray/\xs.length<=sizeLine:=by
 rcases h with h|⟨o,its,n,hk,hc,hd,hs,hz,r⟩
 ·obtain⟨z,its,n,r,e⟩:=h.ok I.hok
  exact⟨its,r,⟨_,n,e,rfl,rfl,rfl⟩,z⟩
 ·refine⟨its.toList,r,⟨o,n,I.kIn a o hk,hc,hd,by simpa using hs⟩,?_⟩
  have e:=r.length
  simp only[Array.length_toList] at e
  lia
theorem Inv.tuple (I:Inv X pins σ H s)(h:SqT X.K H a xs):∃ its:List Value,Vals xs its/\IsTup s.heap a its.toArray/\xs.length<=sizeLine:=by
 rcases h with h|⟨o,its,n,hk,hc,hs,hz,r⟩
 ·obtain⟨z,its,r,p⟩:=h.ok I.hok
  exact⟨its,r,p,z⟩
 ·refine⟨its.toList,r,⟨o,I.kIn a o hk,hc,n,by simpa using hs⟩,?_⟩
  have e:=r.length
  simp only[Array.length_toList] at e
  lia
theorem Inv.list_inj (I:Inv X pins σ H s)(h:SqL X.K H a xs)(h':SqL X.K H a ys):xs=ys:=by
 obtain⟨its,r,⟨o,n,e,_,_,d⟩,_⟩:=I.list h
 obtain⟨its',r',⟨o',n',e',_,_,d'⟩,_⟩:=I.list h'
 rw[e] at e';cases e'
 rw[d] at d'
 injection d' with d1 _
 have:its=its':=by simpa using congrArg Array.toList d1
 subst this
 exact r.inj r'
theorem Inv.tuple_inj (I:Inv X pins σ H s)(h:SqT X.K H a xs)(h':SqT X.K H a ys):xs=ys:=by
 obtain⟨its,r,⟨o,e,_,n,d⟩,_⟩:=I.tuple h
 obtain⟨its',r',⟨o',e',_,n',d'⟩,_⟩:=I.tuple h'
 rw[e] at e';cases e'
 rw[d] at d'
 injection d' with d1 _
 have:its=its':=by simpa using congrArg Array.toList d1
 subst this
 exact r.inj r'
end
abbrev Cx.wish (X:Cx)(E:Value->Shared->Prop):Cx:={ X with xe:=E }
abbrev Cx.nox (X:Cx):Cx:=X.wish λ_ _=>False
theorem Cx.Ok.wish {X:Cx}(ok:X.Ok)(E:Value->Shared->Prop):(X.wish E).Ok :=
 ⟨ok.mod,ok.kind,ok.glob,ok.blt,ok.above,ok.inj,ok.has,ok.cab,ok.hd,ok.frames,ok.stk,ok.exf,ok.bs,ok.bsz,ok.noex,ok.exfs,ok.funs,ok.frf⟩
theorem Cx.Ok.unwish {X:Cx}{E:Value->Shared->Prop}(ok:(X.wish E).Ok):X.Ok :=
 ⟨ok.mod,ok.kind,ok.glob,ok.blt,ok.above,ok.inj,ok.has,ok.cab,ok.hd,ok.frames,ok.stk,ok.exf,ok.bs,ok.bsz,ok.noex,ok.exfs,ok.funs,ok.frf⟩
section
variable {X:Cx}{pins:List (Addr×Obj)}{σ:St}{H:Hp}{s:Shared}{E:Value->Shared->Prop}
theorem Inv.wish (I:Inv X pins σ H s)(E:Value->Shared->Prop):Inv (X.wish E) pins σ H s:=⟨I.ok.wish E,I.os,I.bare,I.base,I.loc,I.cell,I.free,I.freeC,I.pin,I.hok,I.len⟩
theorem Inv.unwish (I:Inv (X.wish E) pins σ H s):Inv X pins σ H s:=⟨I.ok.unwish,I.os,I.bare,I.base,I.loc,I.cell,I.free,I.freeC,I.pin,I.hok,I.len⟩
theorem SP.unwish {D:Ends}{f:Flow}{s':Shared}(h:SP (X.wish E) pins D f s'):SP X pins D f s':=by
 cases f with
 | next=>obtain⟨σ',H',I,q⟩:=h;exact⟨σ',H',I.unwish,q⟩
 | brk=>obtain⟨σ',H',I,q⟩:=h;exact⟨σ',H',I.unwish,q⟩
 | cont=>obtain⟨σ',H',I,q⟩:=h;exact⟨σ',H',I.unwish,q⟩
 | ret u=>obtain⟨v,σ',H',I,r,q⟩:=h;exact⟨v,σ',H',I.unwish,r,q⟩
theorem PSs.nox {st:List Stmt}{t:TS}(h:PSs X.nox st t):PSs X st t:=λpins s σ H D I hw =>
 wpAny_mono (h pins s σ H D (I.wish _) hw) (λ_ _ q=>q.unwish) λ_ _ z=>False.elim z
end
section
variable {X:Cx}{st:Stmt}{rest:List Stmt}{t u:TS}{e:Expr}{te:TE}{pos:Pos}
def d7c:TS:=λD σ H=>D.nx σ H
def tSeq (t u:TS):TS:=λD σ H=>t { D with nx:=u D } σ H
theorem c6l:PSs X [] d7c:=λ_ _ σ H _ I h=>wpAny_execs_nil ⟨σ,H,I,h⟩
theorem c1w (h1:PS X st t)(h2:PSs X rest u):PSs X (st :: rest) (tSeq t u):=by
 intro pins s σ H D I h
 refine wpAny_execs_cons (thn (h1 pins s σ H { D with nx:=u D } I h) λf s1 q=>?_)
 cases f with
 | next =>
  obtain⟨σ',H',I',q⟩:=q
  exact h2 pins s1 σ' H' D I' q
 | ret v=>exact q
 | brk=>exact q
 | cont=>exact q
theorem c6k (h1:PS X st t):PSs X [st] t:=by
 intro pins s σ H D I h
 refine wpAny_execs_cons (thn (h1 pins s σ H D I h) λf s1 q=>?_)
 cases f with
 | next=>exact wpAny_execs_nil q
 | ret v=>exact q
 | brk=>exact q
 | cont=>exact q
theorem Inv.quiet {pins:List (Addr×Obj)}{σ:St}{H:Hp}{s:Shared}(I:Inv X pins σ H s):interactive X.env=false:=by simp[interactive,I.ok.kind]
def d7d (te:TE):TS:=λD σ H=>te σ H λ_ H1=>D.nx σ H1
theorem c6n (he:PE X e te)(hs:swapsWith e none pos.line X.env=pure false:=by rfl):PS X (.Expr e pos) (d7d te):=by
 intro pins s σ H D I h
 exact wpAny_Expr_any (thn (he pins s σ H _ I h) λv s1 ⟨x,H1,I1,r1,q1⟩=>⟨σ,H1,I1,q1⟩) I.quiet hs
def tRet (te:TE):TS:=λD σ H=>te σ H D.rt
theorem b7h (he:PE X e te):PS X (.Return (some e) pos) (tRet te):=by
 intro pins s σ H D I h
 exact wpAny_Return_some (thn (he pins s σ H _ I h) λv s1 ⟨x,H1,I1,r1,q1⟩=>⟨x,σ,H1,I1,r1,q1⟩)
def tIfS (c:TT)(t u:TS):TS:=λD σ H=>c σ H λb H1=>if b=true then t D σ H1 else u D σ H1
theorem d8s {c:Expr}{a b:List Stmt}{tc:TT}(hc:PT X c tc)(ha:PSs X a t)(hb:PSs X b u):PS X (.If c a b pos) (tIfS tc t u):=by
 intro pins s σ H D I h
 refine wpAny_If (thn (hc pins s σ H _ I h) λd s1 ⟨H1,I1,q1⟩=>?_)
 cases d with
 | true=>exact ha pins s1 σ H1 D I1 q1
 | false=>exact hb pins s1 σ H1 D I1 q1
end
abbrev TG:=V->St->Hp->(St->Hp->Prop)->Prop
abbrev TGs:=List V->St->Hp->(St->Hp->Prop)->Prop
def PG (X:Cx)(target:Expr)(t:TG):Prop :=
 ∀ (pins:List (Addr×Obj))(s:Shared)(σ:St)(H:Hp)(v:V)(u:Value)(Q:St->Hp->Prop),Inv X pins σ H s->RelV v u->t v σ H Q ->
  wpAny (model X.prog X.w) X.A (assign target X.env u) (λ_ s'=>∃ σ' H',Inv X pins σ' H' s'/\Q σ' H') X.xe s
def PGs (X:Cx)(ts:List Expr)(t:TGs):Prop :=
 ∀ (pins:List (Addr×Obj))(s:Shared)(σ:St)(H:Hp)(vs:List V)(us:List Value)(Q:St->Hp->Prop),Inv X pins σ H s->Vals vs us->t vs σ H Q ->
  wpAny (model X.prog X.w) X.A (assignInOrder ((assignEach ts X.env).map (·.2)) us) (λ_ s'=>∃ σ' H',Inv X pins σ' H' s'/\Q σ' H') X.xe s
abbrev e4f:=V->V->V->Hp->(Hp->Prop)->Prop
def PSet (X:Cx)(t:e4f):Prop :=
 ∀ (pins:List (Addr×Obj))(s:Shared)(σ:St)(H:Hp)(o i v:V)(ov iv u:Value)(Q:Hp->Prop),Inv X pins σ H s->RelV o ov->RelV i iv->RelV v u->t o i v H Q ->
  wpAny (model X.prog X.w) X.A (setItem ov iv u) (λ_ s'=>∃ H',Inv X pins σ H' s'/\Q H') X.xe s
abbrev TIp:=V->V->Hp->VK->Prop
def PIp (X:Cx)(op:Operator)(t:TIp):Prop :=
 ∀ (pins:List (Addr×Obj))(s:Shared)(σ:St)(H:Hp)(x y:V)(v u:Value)(Q:VK),Inv X pins σ H s->RelV x v->RelV y u->t x y H Q ->
  wpAny (model X.prog X.w) X.A (inplaceOp op v u) (EP X pins σ Q) X.xe s
section
variable {X:Cx}{pos:Pos}
def a5d (i:Nat):TG:=λv σ H Q=>Q (σ.set i (some v)) H
theorem c6t {i:Nat}{x:Str}(hN:X.N.Nodup)(hi:X.N[i]?=some x)(hx:Loc X.env.scope x)(hf:X.fn x=true ∨ X.env.scope.names.lookup x=some .local:=by first|exact .inl rfl|exact .inr rfl|assumption):PG X (.Name x pos) (a5d i):=by
 intro pins s σ H v u Q I r h
 exact wpAny_assign_Name (a4m I hN hi hx r (λs' I'=>⟨_,H,I',h⟩) hf)
def d9y:TGs:=λvs σ H Q=>vs=[]/\Q σ H
def c3g (t:TG)(u:TGs):TGs:=λvs σ H Q=>∃ v r,vs=v :: r/\t v σ H λσ' H'=>u r σ' H' Q
theorem c6s:PGs X [] d9y:=by
 intro pins s σ H vs us Q I r h
 obtain⟨e,h⟩:=h
 subst e
 cases r
 exact assignInOrder_nil ⟨σ,H,I,h⟩
theorem c2a {e:Expr}{es:List Expr}{t:TG}{u:TGs}(h1:PG X e t)(h2:PGs X es u)
  (hs:(assignEach (e :: es) X.env).map (·.2)=assign e X.env :: (assignEach es X.env).map (·.2):=by rfl):PGs X (e :: es) (c3g t u):=by
 intro pins s σ H vs us Q I r h
 obtain⟨v,vr,e1,h⟩:=h
 subst e1
 cases r with
 | cons r rr =>
  rw[hs]
  refine assignInOrder_cons (thn (h1 pins s σ H _ _ _ I r h) λ_ s1 ⟨σ1,H1,I1,q1⟩=>?_)
  exact h2 pins s1 σ1 H1 _ _ Q I1 rr q1
def d5m (K:Γd) (n:Nat)(t:TGs):TG:=λv σ H Q=>∃ a xs,v=.ref a/\SqT K H a xs/\xs.length=n/\t xs σ H Q
theorem d1g {es:List Expr}{k:Nat}{t:TGs}{n:Nat}(hc:X.calm=true)(h:PGs X es t)
  (hn:(assignEach es X.env).length=n:=by rfl)(hst:(assignEach es X.env).findIdx? (·.1)=none:=by rfl):PG X (.Tuple es k pos) (d5m X.K n t):=by
 intro pins s σ H v u Q I r hw
 obtain⟨a,xs,e1,hq,hl,hw⟩:=hw
 subst e1
 cases r
 obtain⟨its,rv,ht,hz⟩:=I.tuple hq
 refine assign_Tuple_tuple (I.ok.hd hc) ht (by simp[hn,<- hl,rv.length]) hst λh' hx=>?_
 have I1:Inv X pins σ H { s with heap:=h' }:=I.kept (t':=s.toks) λb o e=>hx b o (Γo (Γl e)) e
 exact h pins _ σ H xs _ Q I1 (by simpa using rv) hw
def gSub (to ti:TE)(t:e4f):TG:=λv σ H Q=>to σ H λo H1=>ti σ H1 λi H2=>t o i v H2 λH3=>Q σ H3
theorem d1h {o i:Expr}{to ti:TE}{t:e4f}(ho:PE X o to)(hi:PE X i ti)(hs:PSet X t)
  (ha:∀ v,assign (.Subscript o i pos) X.env v=(do
   let ov <- holding [v] (eval o X.env)
   let iv <- holding [v,ov] (eval i X.env)
   standAt pos
   holding [v,ov,iv] (setItem ov iv v)
   release [v,ov,iv] []):=by intro _;rfl):PG X (.Subscript o i pos) (gSub to ti t):=by
 intro pins s σ H v u Q I r h
 rw[ha]
 refine Γa (Γg (thn (ho pins s σ H _ I h) λov s1 ⟨x,H1,I1,r1,q1⟩=>?_))
 refine Γa (Γg (thn (hi pins s1 σ H1 _ I1 q1) λiv s2 ⟨y,H2,I2,r2,q2⟩=>?_))
 refine Γa (wpAny_standAt (Γa (Γg (thn (hs pins s2 σ H2 x y v ov iv u _ I2 r1 r2 r q2) λ_ s3 ⟨H3,I3,q3⟩=>?_))))
 exact wpAny_release ⟨σ,H3,I3,q3⟩
def c0z (te:TE)(g:TG):TS:=λD σ H=>te σ H λx H1=>g x σ H1 D.nx
theorem b7j {tg e:Expr}{te:TE}{g:TG}(he:PE X e te)(hg:PG X tg g)(hs:swapsWithSole [tg] e pos.line X.env=pure false:=by rfl)(hw:swappedStores [tg] e X.env=pure none:=by rfl)
  (h1:(assignEach [tg] X.env).map (·.2)=[assign tg X.env]:=by rfl):PS X (.Assign [tg] e pos) (c0z te g):=by
 intro pins s σ H D I h
 refine wpAny_Assign_stores (thn (he pins s σ H _ I h) λv s1 ⟨x,H1,I1,r1,q1⟩=>?_) hs hw
 rw[h1]
 exact thn (hg pins s1 σ H1 x v _ I1 r1 q1) λ_ s2 q=>q
theorem d1b {i:Nat}{x:Str}{e:Expr}{te:TE}{pos':Pos}(hN:X.N.Nodup)(hi:X.N[i]?=some x)(hx:Loc X.env.scope x)(he:PE X e te)(hs:swapsWith e (some (.Name x pos')) pos.line X.env=pure false:=by rfl)(hf:X.fn x=true ∨ X.env.scope.names.lookup x=some .local:=by first|exact .inl rfl|exact .inr rfl|assumption) :
  PS X (.Assign [.Name x pos'] e pos) (c0z te (a5d i)):=by
 intro pins s σ H D I h
 refine wpAny_Assign_Name (thn (he pins s σ H _ I h) λv s1 ⟨y,H1,I1,r1,q1⟩=>?_) hs
 exact a4m I1 hN hi hx r1 (λs2 I2=>⟨_,H1,I2,q1⟩) hf
def tPar (i j:Nat)(ta:TA):TS:=λD σ H=>ta σ H λvs H1=>∃ v w,vs=[v,w]/\D.nx ((σ.set i (some v)).set j (some w)) H1
theorem d1c {i j:Nat}{x y:Str}{a b:Expr}{ta:TA}{px py pt:Pos} {kt k2 pt2}(hc:X.calm=true)(hN:X.N.Nodup)(hi:X.N[i]?=some x)(hj:X.N[j]?=some y)(hij:i≠j)
  (hx:X.env.scope.names.lookup x=some .local)(hy:X.env.scope.names.lookup y=some .local)(ha:PA X [a,b] ta)
  (hw:swappedStores [.Tuple [.Name x px,.Name y py] kt pt] (.Tuple [a,b] k2 pt2) X.env=pure (some [x,y]))
  (hs:swapsWithSole [.Tuple [.Name x px,.Name y py] kt pt] (.Tuple [a,b] k2 pt2) pos.line X.env=pure false:=by rfl) :
  PS X (.Assign [.Tuple [.Name x px,.Name y py] kt pt] (.Tuple [a,b] k2 pt2) pos) (tPar i j ta):=by
 intro pins s σ H D I h
 rw[exec_Assign_arm]
 refine Γa (wpAny_standAt ?_)
 rw[hs]
 refine Γa (Γb ?_)
 rw[if_neg (by decide)]
 refine Γa (Tuple_ (thn (ha _ pins s σ H _ I h) λus s1 ⟨vs,H1,I1,r1,q1⟩=>?_))
 obtain⟨v,w,e1,q1⟩:=q1
 subst e1
 obtain⟨u1,u2,rfl,rv,rw'⟩:∃ u1 u2,us=[u1,u2]/\RelV v u1/\RelV w u2:=by
  cases r1 with
  | cons p q =>
   cases q with
   | cons p' q' =>
    cases q'
    exact⟨_,_,rfl,p,p'⟩
 refine wpAny_newObj_type ?_ (by show 2<=sizeLine;decide)
 have I2:Inv X pins σ H1 { s1 with heap:=s1.heap.push { cls:=.type "tuple",data:=.seq [u1,u2].toArray } }:=I1.kept (t':=s1.toks) λb o e=>Γc _ e
 rw[hw]
 refine Γa (Γb ?_)
 show wpAny (model X.prog X.w) X.A (do rule "assign.swapped-stores";let items <- unpackItems (.ref s1.heap.objs.size) 2 none;assignInOrder [λv=>bindName X.env y v,λv=>bindName X.env x v] items.reverse;pure Flow.next) _ _ _
 refine Γa (wpAny_rule (Γa (unpackItems_tuple (items:=#[u1,u2]) (I.ok.hd hc) (IsTup.new s1.heap _) λh' hx'=>?_)))
 have I3:=I2.kept (h':=h') (t':=s1.toks) λb o e=>hx' b o (Γo (Γl e)) e
 show wpAny _ _ (assignInOrder [λv=>bindName X.env y v,λv=>bindName X.env x v] [u2,u1] >>= λ_=>pure Flow.next) _ _ _
 refine Γa (assignInOrder_cons (wpAny_bindName (a4m I3 hN hj (.inl hy) rw' (λs2 I4=>?_) (.inr hy))))
 refine assignInOrder_cons (wpAny_bindName (a4m I4 hN hi (.inl hx) rv (λs3 I5=>assignInOrder_nil (Γb ?_)) (.inr hx)))
 rw[List.set_comm _ _ (Ne.symm hij)] at I5
 exact⟨_,H1,I5,q1⟩
def tAug (i:Nat)(te:TE)(ti:TIp):TS:=λD σ H=>∃ x,σ[i]?=some (some x)/\te σ H λy H1=>ti x y H1 λz H2=>D.nx (σ.set i (some z)) H2
theorem c4m {i:Nat}{x:Str}{e:Expr}{te:TE}{op:Operator}{ti:TIp}{pos':Pos}(hN:X.N.Nodup)(hi:X.N[i]?=some x)(hx:Loc X.env.scope x)(he:PE X e te)(ho:PIp X op ti)(hf:X.fn x=true ∨ X.env.scope.names.lookup x=some .local:=by first|exact .inl rfl|exact .inr rfl|assumption) :
  PS X (.AugAssign (.Name x pos') op e pos) (tAug i te ti):=by
 intro pins s σ H D I h
 obtain⟨v,e1,h⟩:=h
 obtain⟨m,hn,hl⟩:=I.loc
 have vis:Vis X.env.scope x:=by rcases hx with k|k;exact .inl k;exact .inr (.inl k)
 obtain⟨u,r,l⟩:=hl i x v hi e1 vis
 refine wpAny_AugAssign_Name ?_
 have go:wpAny (model X.prog X.w) X.A (eval e X.env) (λw s₂=>wpAny (model X.prog X.w) X.A (inplaceOp op u w) (λr s₃=>wpAny (model X.prog X.w) X.A (storeName X.env x r) (λ_=>SP X pins D .next) X.xe s₃) X.xe s₂) X.xe s:=by
  refine thn (he pins s σ H _ I h) λw s1 ⟨y,H1,I1,r1,q1⟩=>?_
  refine thn (ho pins s1 σ H1 v y u w _ I1 r r1 q1) λz s2 ⟨zv,H2,I2,r2,q2⟩=>?_
  exact a4m I2 hN hi hx r2 (λs3 I3=>⟨_,H2,I3,q2⟩) hf
 rcases l with⟨hk,hm⟩|⟨hk,c,hc,hcell⟩
 ·exact wpAny_loadName_local I.ok.kind hk hn hm go
 ·rcases hk with hk|hk
  ·exact wpAny_loadName_cell I.ok.kind hk hc hcell go
  ·rcases hx with k|k
   ·have:X.env.scope.names.lookup x=some .free:=hk
    rw[k] at this;cases this
   ·have:X.env.scope.names.lookup x=some .free:=hk
    rw[k] at this;cases this
def ipI (f:Int->Int->Int):TIp:=λx y H Q=>∃ i j,x=.int i/\y=.int j/\Q (.int (f i j)) H
theorem d3d:PIp X .Add (ipI λi j=>i+j):=by
 intro pins s σ H x y v u Q I r1 r2 h
 obtain⟨i,j,e1,e2,q⟩:=h
 subst e1;subst e2
 obtain⟨t,rfl⟩:=r1
 obtain⟨t',rfl⟩:=r2
 exact iadd_int ⟨.int _,H,I.tok _,⟨_,rfl⟩,q⟩
theorem d3c:PIp X .Sub (ipI λi j=>i-j):=by
 intro pins s σ H x y v u Q I r1 r2 h
 obtain⟨i,j,e1,e2,q⟩:=h
 subst e1;subst e2
 obtain⟨t,rfl⟩:=r1
 obtain⟨t',rfl⟩:=r2
 exact isub_int ⟨.int _,H,I.tok _,⟨_,rfl⟩,q⟩
end
section
variable {X:Cx}{pos:Pos}
def c9w (c:TT)(tb:TS):TS:=λD σ H=>∃ W:Nat->St->Hp->Prop,(∃ m,W m σ H)/\∀ m σ H,W m σ H ->
 c σ H λb H1=>if b=true then ∃ N:St->Hp->Prop,(∀ σ' H',N σ' H'->∃ m',m'<m/\W m' σ' H')/\tb { D with nx:=N,ct:=N,bk:=D.nx } σ H1 else D.nx σ H1
theorem c1x {c:Expr}{body:List Stmt}{tc:TT}{tb:TS}(hp:PassesOwn (model X.prog X.w) X.A X.env X.xe)(hc:PT X c tc)(hb:PSs X body tb):PS X (.While c body [] pos) (c9w tc tb):=by
 intro pins s σ H D I h
 obtain⟨W,⟨m0,w0⟩,turn⟩:=h
 refine wpAny_While (codeAny_whileLoop (λn s'=>∃ σ' H',Inv X pins σ' H' s'/\W n σ' H') ?_ m0 ⟨σ,H,I,w0⟩)
 rintro n s1 ⟨σ1,H1,I1,w1⟩
 refine wpAny_passesOwn hp (thn (hc pins s1 σ1 H1 _ I1 (turn n σ1 H1 w1)) λb s2 ⟨H2,I2,q2⟩=>?_)
 cases b with
 | true =>
  obtain⟨N,hN,q2⟩:=q2
  rw[if_pos rfl]
  refine wpAny_passesOwn hp (thn (hb pins s2 σ1 H2 _ I2 q2) λf s3 q3=>?_)
  cases f with
  | next =>
   obtain⟨σ3,H3,I3,n3⟩:=q3
   obtain⟨m',hm,w3⟩:=hN σ3 H3 n3
   exact⟨m',hm,σ3,H3,I3,w3⟩
  | cont =>
   obtain⟨σ3,H3,I3,n3⟩:=q3
   obtain⟨m',hm,w3⟩:=hN σ3 H3 n3
   exact⟨m',hm,σ3,H3,I3,w3⟩
  | brk=>exact q3
  | ret v=>exact q3
 | false =>
  rw[if_neg Γk]
  exact wpAny_execs_nil ⟨σ1,H2,I2,q2⟩
end
structure It where
 go:Nat->Hp->Prop
 yld:Nat->Hp->V->Hp->Prop
 stop:Nat->Hp->Prop
def b6d (X:Cx)(pins:List (Addr×Obj))(H:Hp)(b:Addr):Prop :=
 H b=none/\b≠X.env.locals/\b ∉ X.fs/\(b∈X.ex ∨ X.s₀.heap.objs.size<=b)/\(∀ x c,X.env.cells.lookup x=some c->c≠b)/\∀ p∈X.pn++pins,p.1≠b
theorem Inv.fpOk {X:Cx}{pins:List (Addr×Obj)}{σ:St}{H H':Hp}{s:Shared}{b:Addr}(I:Inv X pins σ H s)(hb:s.heap.objs.size<=b)(hn:H' b=none):b6d X pins H' b:=by
 refine⟨hn,Nat.ne_of_gt (Nat.lt_of_lt_of_le I.lt hb),I.nofs hb,.inr (Nat.le_trans I.sz hb),λx c e z=>?_,λp hp z=>?_⟩
 ·obtain⟨v,q⟩:=I.cell x c e
  exact absurd (Nat.lt_of_lt_of_le q.lt (by rw[z];exact hb)) (Nat.lt_irrefl _)
 ·exact absurd (Nat.lt_of_lt_of_le (Γl (I.pin p hp).1) (by rw[z];exact hb)) (Nat.lt_irrefl _)
structure Turn (P:Program)(w:World)(K:Γd)(tg:Expr)(J:It)(fp:List Addr)(it:Addr)(tn:Nat->Heap->Prop):Prop where
 mem:it∈fp
 obj:∀ i h,tn i h->∀ b∈fp,∃ o,h.get? b=some o/\∀ v,o.data≠.cell v
 keep:∀ i h h',tn i h->(∀ b∈fp,∀ o,h.get? b=some o->h'.get? b=some o)->tn i h'
 item:∀ (X:Cx),X.prog=P->X.w=w->X.K=K->X.calm=true->∀ (i:Nat)(pins:List (Addr×Obj))(s:Shared)(σ:St)(H:Hp)(E:Value->Shared->Prop),Inv X pins σ H s->(∀ b∈fp,b6d X pins H b)->tn i s.heap->J.go i H ->
  wpAny (model P w) X.A (pyNext (.ref it)) (λr s1=>∃ u,r=some u /\
   wpAny (model P w) X.A (letOwnedTupleGo tg (.ref it) u) (λ_ s2=>∃ x H',Inv X pins σ H' s2/\RelV x u/\J.yld i H x H'/\tn (i+1) s2.heap/\∀ b∈fp,H' b=none) E s1) E s
 done:∀ (X:Cx),X.prog=P->X.w=w->X.K=K->X.calm=true->∀ (i:Nat)(pins:List (Addr×Obj))(s:Shared)(σ:St)(H:Hp)(E:Value->Shared->Prop),Inv X pins σ H s->(∀ b∈fp,b6d X pins H b)->tn i s.heap->J.stop i H ->
  wpAny (model P w) X.A (pyNext (.ref it)) (λr s1=>r=none/\Inv X pins σ H s1) E s
 self:∀ (A:Around) (i:Nat)(s:Shared)(Q:Value->Shared->Prop)(E:Value->Shared->Prop),tn i s.heap->Q (.ref it) s->wpAny (model P w) A (pyIter (.ref it)) Q E s
abbrev TI:=St->Hp->(It->Hp->Prop)->Prop
def PIE (X:Cx)(pins:List (Addr×Obj))(σ:St)(tg:Expr)(R:It->Hp->Prop)(itv:Value)(s2:Shared):Prop :=
 ∃ (it:Addr)(fp:List Addr)(tn:Nat->Heap->Prop)(J:It)(H':Hp),itv=.ref it/\Inv X pins σ H' s2/\Turn X.prog X.w X.K tg J fp it tn/\tn 0 s2.heap/\(∀ b∈fp,b6d X pins H' b)/\R J H'
def PI (X:Cx)(tg iter:Expr)(wi:TI):Prop :=
 ∀ (pins:List (Addr×Obj))(s:Shared)(σ:St)(H:Hp)(R:It->Hp->Prop),Inv X pins σ H s->wi σ H R ->
  wpAny (model X.prog X.w) X.A (eval iter X.env) (λv s1=>wpAny (model X.prog X.w) X.A (pyIter v) (PIE X pins σ tg R) X.xe s1) X.xe s
theorem c3f {M : Model} {A : Around} {E : Value -> Shared -> Prop} {s : Shared} {tg : Expr} {it : Addr} {u : Value} {o : Obj} {n : String} {vs : Array Value} {Q : Unit -> Shared -> Prop} (ho : s.heap.get? it = some o) (hc : o.cls = .type n) (hd : o.data = .fields vs)
    (hn:["enumerate","zip","dict_itemiterator","dict_reverseitemiterator","odict_iterator","itertools.zip_longest","itertools.pairwise"].contains n=false) (hQ:Q () s):wpAny M A (letOwnedTupleGo tg (.ref it) u) Q E s:=by
  unfold letOwnedTupleGo
  cases tg<;>first
    | exact Γb hQ
    | (cases u <;> first
        | exact Γb hQ
        | (refine Γa (wpAny_load ho ?_)
           rw [hc, hd]
           show wpAny M A (if (["enumerate", "zip", "dict_itemiterator", "dict_reverseitemiterator", "odict_iterator", "itertools.zip_longest", "itertools.pairwise"].contains n && vs[0]? == some (rawInt _)) = true then _ else _) Q E s
           rw [if_neg (by intro h; rw [hn, Bool.false_and] at h; cases h)]
           exact Γb hQ))
def Itl (K:Γd)(a:Addr):It :=
 ⟨λi H=>∃ xs x,SqL K H a xs/\xs[i]?=some x,λi H x H'=>H'=H/\∀ xs,SqL K H a xs->xs[i]?=some x,λi H=>∃ xs,SqL K H a xs/\xs.length<=i⟩
def Itt (K:Γd)(a:Addr):It :=
 ⟨λi H=>∃ xs x,SqT K H a xs/\xs[i]?=some x,λi H x H'=>H'=H/\∀ xs,SqT K H a xs->xs[i]?=some x,λi H=>∃ xs,SqT K H a xs/\xs.length<=i⟩
def Itr (lo:Int) (n:Nat):It:=⟨λi _=>i<n,λi H x H'=>H'=H/\x=.int (lo+i),λi _=>n<=i⟩
theorem b6l {P:Program}{w:World}{K:Γd}{tg:Expr}(a it:Addr):Turn P w K tg (Itl K a) [it] it (λi h=>h.IsListIter it a i) where
 mem:=by simp
 obj:=λi h st b hb=>by
  have e:b=it:=by simpa using hb
  subst e
  obtain⟨o,e,c,d⟩:=st
  exact⟨o,e,λv z=>by rw[d] at z;cases z⟩
 keep:=λi h h' st k=>st.at λo e=>k it (by simp) o e
 item:=by
  intro X hP hw hK hc i pins s σ H E I hf st hg
  subst hP hw hK
  obtain⟨xs,x,hq,hx⟩:=hg
  obtain⟨its,rv,p,hz⟩:=I.list hq
  obtain⟨u,hu,ru⟩:=rv.get hx
  obtain⟨f0,f1,f2,f3,f4,f5⟩:=hf it (by simp)
  refine wpAny_pyNext_list_item st p.isList (x:=u) (by simpa using hu) λh' st' sb=>?_
  have I1:Inv X pins σ H { s with heap:=h' }:=I.turned (t':=s.toks) (λb o hb e=>(sb.2 b hb).trans e) f0 f1 f3 f4 f5
  obtain⟨o,e,c,d⟩:=id st'
  exact⟨u,rfl,c3f (s:={ s with heap:=h' }) e c d (by decide) ⟨x,H,I1,ru,⟨rfl,λys hy=>by rw[I.list_inj hy hq];exact hx⟩,st',λb hb=>(hf b hb).1⟩⟩
 done:=by
  intro X hP hw hK hc i pins s σ H E I hf st hg
  subst hP hw hK
  obtain⟨xs,hq,hx⟩:=hg
  obtain⟨its,rv,p,hz⟩:=I.list hq
  obtain⟨f0,f1,f2,f3,f4,f5⟩:=hf it (by simp)
  have hl:=rv.length
  exact wpAny_pyNext_list_end (I.ok.hd hc) st p.isList (by simp;lia) λh' eb=>⟨rfl,I.turned (t':=s.toks) (λb o hb e=>eb b o hb e) f0 f1 f3 f4 f5⟩
 self:=λ_ _ _ _ _ st h=>wpAny_pyIter_listiter st h
theorem b5a {P:Program}{w:World}{K:Γd}{tg:Expr}(a it:Addr):Turn P w K tg (Itt K a) [it] it (λi h=>h.IsTupleIter it a i) where
 mem:=by simp
 obj:=λi h st b hb=>by
  have e:b=it:=by simpa using hb
  subst e
  obtain⟨o,e,c,d⟩:=st
  exact⟨o,e,λv z=>by rw[d] at z;cases z⟩
 keep:=λi h h' st k=>st.at λo e=>k it (by simp) o e
 item:=by
  intro X hP hw hK hc i pins s σ H E I hf st hg
  subst hP hw hK
  obtain⟨xs,x,hq,hx⟩:=hg
  obtain⟨its,rv,p,hz⟩:=I.tuple hq
  obtain⟨u,hu,ru⟩:=rv.get hx
  obtain⟨f0,f1,f2,f3,f4,f5⟩:=hf it (by simp)
  refine wpAny_pyNext_tuple_item st (show s.heap.IsTuple a its.toArray from p) (x:=u) (by simpa using hu) λh' st' sb=>?_
  have I1:Inv X pins σ H { s with heap:=h' }:=I.turned (t':=s.toks) (λb o hb e=>(sb.2 b hb).trans e) f0 f1 f3 f4 f5
  obtain⟨o,e,c,d⟩:=id st'
  exact⟨u,rfl,c3f (s:={ s with heap:=h' }) e c d (by decide) ⟨x,H,I1,ru,⟨rfl,λys hy=>by rw[I.tuple_inj hy hq];exact hx⟩,st',λb hb=>(hf b hb).1⟩⟩
 done:=by
  intro X hP hw hK hc i pins s σ H E I hf st hg
  subst hP hw hK
  obtain⟨xs,hq,hx⟩:=hg
  obtain⟨its,rv,p,hz⟩:=I.tuple hq
  obtain⟨f0,f1,f2,f3,f4,f5⟩:=hf it (by simp)
  have hl:=rv.length
  exact wpAny_pyNext_tuple_end (I.ok.hd hc) st (show s.heap.IsTuple a its.toArray from p) (by simp;lia) λh' eb=>⟨rfl,I.turned (t':=s.toks) (λb o hb e=>eb b o hb e) f0 f1 f3 f4 f5⟩
 self:=λ_ _ _ _ _ st h=>wpAny_pyIter_tupleiter st h
theorem b5b {P:Program}{w:World}{K:Γd}{tg:Expr}(it:Addr) (lo:Int) (n:Nat):Turn P w K tg (Itr lo n) [it] it (λi h=>IsRangeIter h it (lo+(i:Nat)*1) ((n:Int)-(i:Nat)) 1) where
 mem:=by simp
 obj:=λi h st b hb=>by
  have e:b=it:=by simpa using hb
  subst e
  exact⟨_,st,λv z=>by
   have z':Data.fields _=Data.cell v:=z
   cases z'⟩
 keep:=λi h h' st k=>k it (by simp) _ st
 item:=by
  intro X hP hw hK hc i pins s σ H E I hf st hg
  subst hP hw hK
  obtain⟨f0,f1,f2,f3,f4,f5⟩:=hf it (by simp)
  have W:=Walks.range (prog:=X.prog) (w:=X.w) (I.ok.hd hc) it lo 1 n
  refine W.item i s _ _ hg st λv h' tk hv st' kk=>?_
  obtain⟨t,rfl⟩:=hv
  have I1:Inv X pins σ H { s with heap:=h',toks:=tk }:=I.turned (λb o hb e=>kk b o (by simpa using hb) e) f0 f1 f3 f4 f5
  refine⟨_,rfl,c3f (s:={ s with heap:=h',toks:=tk }) (n:="range_iterator") st' rfl rfl (by decide) ⟨.int (lo+i),H,I1,⟨t,?_⟩,⟨rfl,rfl⟩,st',λb hb=>(hf b hb).1⟩⟩
  rw[Int.mul_one]
 done:=by
  intro X hP hw hK hc i pins s σ H E I hf st hg
  subst hP hw hK
  obtain⟨f0,f1,f2,f3,f4,f5⟩:=hf it (by simp)
  exact wpAny_pyNext_range_end (I.ok.hd hc) st (by have:n<=i:=hg;lia) λh' eb=>⟨rfl,I.turned (t':=s.toks) (λb o hb e=>eb b o hb e) f0 f1 f3 f4 f5⟩
 self:=λ_ _ _ _ _ st h=>wpAny_pyIter_rangeiter st h
end L2
namespace L2
open PySem PySem.Spec PyProof.Rows
section
variable {X:Cx}{tg:Expr}
theorem c1s {pins:List (Addr×Obj)}{σ:St}{H:Hp}{s:Shared}{R:It->Hp->Prop}{E:Value->Shared->Prop}{lo hi:Int}{t u v:Tok}{tk:Nat}(I:Inv X pins σ H s)(h1:-(2 ^ 62)<=lo)(h2:lo<2 ^ 62)(h3:-(2 ^ 62)<=hi)(h4:hi<2 ^ 62)
  (q:R (Itr lo (hi-lo).toNat) H):wpAny (model X.prog X.w) X.A (pyIter (.ref s.heap.objs.size)) (PIE X pins σ tg R) E { s with heap:=s.heap.push { cls:=.type "range",data:=.fields #[.int lo t,.int hi u,.int 1 v] },toks:=tk }:=by
 refine wpAny_pyIter_range (IsRange.new ..) (small_one h1 h2 h3 h4) ?_
 have I1:Inv X pins σ H { s with heap:=s.heap.push { cls:=.type "range",data:=.fields #[.int lo t,.int hi u,.int 1 v] },toks:=tk }:=I.kept λb o e=>Γc _ e
 refine⟨(s.heap.push { cls:=.type "range",data:=.fields #[.int lo t,.int hi u,.int 1 v] }).objs.size,[(s.heap.push { cls:=.type "range",data:=.fields #[.int lo t,.int hi u,.int 1 v] }).objs.size],_,_,H,rfl,
  I1.kept (t':=tk) λb o e=>Γc _ e,b5b _ lo (hi-lo).toNat,?_,λb hb=>?_,q⟩
 ·have e1:lo+((0:Nat):Int)*1=lo:=by simp
  have e2:(((hi-lo).toNat:Nat):Int)-((0:Nat):Int)=Builtin.Range.rangeSize lo hi 1:=by rw[rangeSize_one];split<;>lia
  show IsRangeIter _ _ (lo+((0:Nat):Int)*1) ((((hi-lo).toNat:Nat):Int)-((0:Nat):Int)) 1
  rw[e1,e2]
  exact Γm _ rfl
 ·have e:b=(s.heap.push { cls:=.type "range",data:=.fields #[.int lo t,.int hi u,.int 1 v] }).objs.size:=by simpa using hb
  subst e
  exact I1.fpOk (Γi _) (I1.hok.fresh (Γi _))
def d9x (ta:TA):TI:=λσ H R=>ta σ H λvs H1=>∃ j:Int,vs=[.int j]/\-(2 ^ 62)<=j/\j<2 ^ 62/\R (Itr 0 j.toNat) H1
theorem b7m {a:Expr}{ta:TA}{p pos:Pos}(hg:Gl X "range")(hm:X.mg "range" = none)(ha:PA X [a] ta)(hs:starEach [a] X.env=[(false,eval a X.env)]:=by rfl):PI X tg (.Call (.Name "range" p) [a] [] pos) (d9x ta):=by
 intro pins s σ H R I h
 refine Call_ (a7x I hg hm boot_range (PyProof.Rows.callWith_type1 (thn (ha pos pins s σ H _ I h) λus s1 ⟨vs,H1,I1,r1,q1⟩=>?_) hs rfl))
 obtain⟨j,e,q1,q2,q⟩:=q1
 subst e
 cases r1 with
 | cons r rr =>
  cases rr
  obtain⟨t,rfl⟩:=r
  exact call_range_1 (c1s I1 (by lia) (by lia) q1 q2 (by simpa using q))
def tFor (wi:TI)(g:TG)(tb:TS):TS:=λD σ H=>wi σ H λJ H1=>∃ W:Nat->Nat->St->Hp->Prop,(∃ m,W 0 m σ H1)/\∀ i m σ H,W i m σ H ->
 (J.stop i H/\D.nx σ H) ∨ (J.go i H/\∃ N:St->Hp->Prop,(∀ σ' H',N σ' H'->∃ m',m'<m/\W (i+1) m' σ' H')/\∀ x H',J.yld i H x H'->g x σ H' λσ2 H2=>tb { D with nx:=N,ct:=N,bk:=D.nx } σ2 H2)
def b0b (fp:List Addr)(h:Heap):List (Addr×Obj):=fp.filterMap λb=>(h.get? b).map λo=>(b,o)
theorem a3y {fp:List Addr}{h:Heap}{b:Addr}{o:Obj}(hb:b∈fp)(e:h.get? b=some o):(b,o)∈b0b fp h:=List.mem_filterMap.mpr ⟨b,hb,by rw[e];rfl⟩
theorem b7y {fp:List Addr}{h:Heap}{p:Addr×Obj}(hp:p∈b0b fp h):p.1∈fp/\h.get? p.1=some p.2:=by
 obtain⟨b,hb,e⟩:=List.mem_filterMap.mp hp
 cases q:h.get? b with
 | none=>rw[q] at e;cases e
 | some o =>
  rw[q] at e
  have e':(b,o)=p:=Option.some.inj e
  subst e'
  exact⟨hb,q⟩
theorem Inv.pinned {pins:List (Addr×Obj)}{σ:St}{H:Hp}{s:Shared}{fp:List Addr}(I:Inv X pins σ H s)(hf:∀ b∈fp,b6d X pins H b)(ho:∀ b∈fp,∃ o,s.heap.get? b=some o/\∀ v,o.data≠.cell v):Inv X (pins++b0b fp s.heap) σ H s :=
 I.pins_of λp hp=>(List.mem_append.mp hp).elim (λz=>I.pin p (List.mem_append_right _ z)) λz=>by
  obtain⟨hb,e⟩:=b7y z
  obtain⟨f0,f1,f2,_⟩:=hf p.1 hb
  obtain⟨o,e',d⟩:=ho p.1 hb
  rw[e] at e';cases e'
  exact⟨e,f0,f1,f2,d⟩
theorem Inv.unpinned {pins pl:List (Addr×Obj)}{σ:St}{H:Hp}{s:Shared}(I:Inv X (pins++pl) σ H s):Inv X pins σ H s:=I.pins_of λp hp=>I.pin p (List.mem_append_right _ (List.mem_append_left _ hp))
theorem d1d {iter:Expr}{body:List Stmt}{wi:TI}{g:TG}{tb:TS}{pos:Pos}(hp:PassesOwn (model X.prog X.w) X.A X.env X.xe)(hc:X.calm=true)(hi:PI X tg iter wi)(hg:PG X tg g)(hb:PSs X body tb)
  (hs:∀ x,foldedSetIterable iter X.env x=pure x:=by intro _;rfl):PS X (.For tg iter body [] pos) (tFor wi g tb):=by
 intro pins s σ H D I h
 refine wpAny_For (thn (hi pins s σ H _ I h) λv s1 h1=>thn h1 λitv s2 h2=>?_) hs
 obtain⟨it,fp,tn,J,H2,e,I2,T,st2,f2,W,⟨m0,w0⟩,turn⟩:=h2
 subst e
 -- what stays true of the iterator's objects through the loop
 have stat:∀ {H':Hp},(∀ b∈fp,H' b=none)->∀ b∈fp,b6d X pins H' b:=λhn b hb=>⟨hn b hb,(f2 b hb).2⟩
 refine codeAny_forLoop_any (λn s'=>∃ i σ' H',Inv X pins σ' H' s'/\tn i s'.heap/\(∀ b∈fp,H' b=none)/\W i n σ' H') ?_ m0 ⟨0,σ,H2,I2,st2,λb hb=>(f2 b hb).1,w0⟩
 rintro n s3 ⟨i,σ3,H3,I3,st3,fr3,w3⟩
 rcases turn i n σ3 H3 w3 with⟨stop,qn⟩|⟨go,N,hN,step⟩
 ·refine wpAny_passesOwn hp (thn (T.done X rfl rfl rfl hc i pins s3 σ3 H3 X.xe I3 (stat fr3) st3 stop) λr s4 ⟨hr,I4⟩=>?_)
  subst hr
  exact wpAny_execs_nil ⟨σ3,H3,I4,qn⟩
 ·refine wpAny_passesOwn hp (thn (T.item X rfl rfl rfl hc i pins s3 σ3 H3 X.xe I3 (stat fr3) st3 go) λr s4 ⟨u,hr,h4⟩=>?_)
  subst hr
  refine wpAny_passesOwn hp (thn h4 λ_ s5 ⟨x,H5,I5,r5,y5,st5,fr5⟩=>?_)
  have I5':=I5.pinned (stat fr5) (T.obj _ _ st5)
  refine wpAny_passesOwn hp (thn (hg _ s5 σ3 H5 x u _ I5' r5 (step x H5 y5)) λ_ s6 ⟨σ6,H6,I6,q6⟩=>?_)
  refine wpAny_passesOwn hp (thn (hb _ s6 σ6 H6 _ I6 q6) λf s7 q7=>?_)
  have again:∀ {σ7:St}{H7:Hp},Inv X (pins++b0b fp s5.heap) σ7 H7 s7->N σ7 H7->∃ m,m<n/\∃ i σ' H',Inv X pins σ' H' s7/\tn i s7.heap/\(∀ b∈fp,H' b=none)/\W i m σ' H':=λ{σ7 H7} I7 n7=>by
   obtain⟨m',hm,w7⟩:=hN σ7 H7 n7
   refine⟨m',hm,i+1,σ7,H7,I7.unpinned,T.keep _ _ _ st5 λb hb o e=>(I7.pin (b,o) (List.mem_append_right _ (List.mem_append_right _ (a3y hb e)))).1,λb hb=>?_,w7⟩
   obtain⟨o,e,d⟩:=T.obj _ _ st5 b hb
   exact (I7.pin (b,o) (List.mem_append_right _ (List.mem_append_right _ (a3y hb e)))).2.1
  cases f with
  | next=>obtain⟨σ7,H7,I7,n7⟩:=q7;exact again I7 n7
  | cont=>obtain⟨σ7,H7,I7,n7⟩:=q7;exact again I7 n7
  | brk=>obtain⟨σ7,H7,I7,q7⟩:=q7;exact⟨σ7,H7,I7.unpinned,q7⟩
  | ret v=>obtain⟨x7,σ7,H7,I7,r7,q7⟩:=q7;exact⟨x7,σ7,H7,I7.unpinned,r7,q7⟩
end
end L2
namespace L2
open PySem PySem.Spec PyProof.Rows
abbrev R2:=V->V->Hp->VK->Prop
def OpR (X:Cx)(f:Value->Value->Sem Value)(r:R2):Prop :=
 ∀ (pins:List (Addr×Obj))(s:Shared)(σ:St)(H:Hp)(x y:V)(v u:Value)(Q:VK),Inv X pins σ H s->RelV x v->RelV y u->r x y H Q ->
  wpAny (model X.prog X.w) X.A (f v u) (EP X pins σ Q) X.xe s
def UnR (X:Cx)(f:Value->Sem Value)(r:V->Hp->VK->Prop):Prop :=
 ∀ (pins:List (Addr×Obj))(s:Shared)(σ:St)(H:Hp)(x:V)(v:Value)(Q:VK),Inv X pins σ H s->RelV x v->r x H Q ->
  wpAny (model X.prog X.w) X.A (f v) (EP X pins σ Q) X.xe s
def a1l (X:Cx)(f:Value)(r:List V->Hp->VK->Prop):Prop :=
 ∀ (pins:List (Addr×Obj))(s:Shared)(σ:St)(H:Hp)(xs:List V)(us:List Value)(Q:VK),Inv X pins σ H s->Vals xs us->r xs H Q ->
  wpAny (model X.prog X.w) X.A (call f us) (EP X pins σ Q) X.xe s
def TruR (X:Cx)(r:V->Hp->(Bool->Hp->Prop)->Prop):Prop :=
 ∀ (pins:List (Addr×Obj))(s:Shared)(σ:St)(H:Hp)(x:V)(v:Value)(Q:Bool->Hp->Prop),Inv X pins σ H s->RelV x v->r x H Q ->
  wpAny (model X.prog X.w) X.A (truthy v) (TP X pins σ Q) X.xe s
def tOp (r:R2)(ta tb:TE):TE:=λσ H Q=>ta σ H λx H1=>tb σ H1 λy H2=>r x y H2 Q
def tUn (r:V->Hp->VK->Prop)(ta:TE):TE:=λσ H Q=>ta σ H λx H1=>r x H1 Q
def rI (C:Int->Int->Prop)(g:Int->Int->V):R2:=λx y H Q=>∃ i j,x=.int i/\y=.int j/\C i j/\Q (g i j) H
def rI0 (g:Int->Int->V):R2:=λx y H Q=>∃ i j,x=.int i/\y=.int j/\Q (g i j) H
def rU (g:Int->V):V->Hp->VK->Prop:=λx H Q=>∃ i,x=.int i/\Q (g i) H
section
variable {X:Cx}{a b c:Expr}{ta tb tc:TE}{pos:Pos}
theorem e3f (ha:PE X a ta)(hb:PE X b tb){pins:List (Addr×Obj)}{s:Shared}{σ:St}{H:Hp}{R:V->V->Hp->Prop}(I:Inv X pins σ H s)
  (h:ta σ H λx H1=>tb σ H1 λy H2=>R x y H2){Q:Value->Shared->Prop}{f:Value->Value->Sem Value}
  (hf:∀ v u s2 x y H2,Inv X pins σ H2 s2->RelV x v->RelV y u->R x y H2->wpAny (model X.prog X.w) X.A (f v u) Q X.xe s2) :
  wpAny (model X.prog X.w) X.A (eval a X.env) (λv s₁=>wpAny (model X.prog X.w) X.A (eval b X.env) (λu s₂=>wpAny (model X.prog X.w) X.A (f v u) Q X.xe s₂) X.xe s₁) X.xe s:=by
 refine thn (ha pins s σ H _ I h) λv s1 ⟨x,H1,I1,r1,q1⟩=>?_
 refine thn (hb pins s1 σ H1 _ I1 q1) λu s2 ⟨y,H2,I2,r2,q2⟩=>?_
 exact hf v u s2 x y H2 I2 r1 r2 q2
theorem d1k {op:Operator}{r:R2}(ho:OpR X (binaryOp op) r)(ha:PE X a ta)(hb:PE X b tb):PE X (.BinOp a op b pos) (tOp r ta tb):=by
 intro pins s σ H Q I h
 exact wpAny_BinOp (e3f ha hb I h λv u s2 x y H2 I2 rx ry q=>ho pins s2 σ H2 x y v u Q I2 rx ry q)
theorem d8w {op:UnaryOp}{r:V->Hp->VK->Prop}(ho:UnR X (unaryOp op) r)(ha:PE X a ta):PE X (.UnaryOp op a pos) (tUn r ta):=by
 intro pins s σ H Q I h
 exact UnaryOp_ (thn (ha pins s σ H _ I h) λv s1 ⟨x,H1,I1,r1,q1⟩=>ho pins s1 σ H1 x v Q I1 r1 q1)
theorem opI {f:Value->Value->Sem Value}{C:Int->Int->Prop}{g:Int->Int->Int}
  (rule:∀ (i j:Int)(t u:Tok)(s:Shared)(Q:Value->Shared->Prop)(E:Value->Shared->Prop),C i j->Q (.int (g i j) s.toks) { s with toks:=s.toks+1 }->wpAny (model X.prog X.w) X.A (f (.int i t) (.int j u)) Q E s) :
  OpR X f (rI C λi j=>.int (g i j)):=by
 intro pins s σ H x y v u Q I rx ry h
 obtain⟨i,j,rfl,rfl,hc,q⟩:=h
 obtain⟨t,rfl⟩:=rx
 obtain⟨t',rfl⟩:=ry
 exact rule i j t t' s _ _ hc ⟨.int (g i j),H,I.tok _,⟨_,rfl⟩,q⟩
theorem opI0 {f:Value->Value->Sem Value}{g:Int->Int->Int}
  (rule:∀ (i j:Int)(t u:Tok)(s:Shared)(Q:Value->Shared->Prop)(E:Value->Shared->Prop),Q (.int (g i j) s.toks) { s with toks:=s.toks+1 }->wpAny (model X.prog X.w) X.A (f (.int i t) (.int j u)) Q E s) :
  OpR X f (rI0 λi j=>.int (g i j)):=by
 intro pins s σ H x y v u Q I rx ry h
 obtain⟨i,j,rfl,rfl,q⟩:=h
 obtain⟨t,rfl⟩:=rx
 obtain⟨t',rfl⟩:=ry
 exact rule i j t t' s _ _ ⟨.int (g i j),H,I.tok _,⟨_,rfl⟩,q⟩
theorem d5c {f:Value->Value->Sem Value}{g:Int->Int->Bool}
  (rule:∀ (i j:Int)(t u:Tok)(s:Shared)(Q:Value->Shared->Prop)(E:Value->Shared->Prop),Q (.bool (g i j)) s->wpAny (model X.prog X.w) X.A (f (.int i t) (.int j u)) Q E s) :
  OpR X f (rI0 λi j=>.bl (g i j)):=by
 intro pins s σ H x y v u Q I rx ry h
 obtain⟨i,j,rfl,rfl,q⟩:=h
 obtain⟨t,rfl⟩:=rx
 obtain⟨t',rfl⟩:=ry
 exact rule i j t t' s _ _ ⟨.bl (g i j),H,I,rfl,q⟩
def CDiv (i j:Int):Prop:=0<j/\j<1073741824
def CPow (i j:Int):Prop:=0<=j/\j<=1000000/\i.natAbs<2 ^ 64
def CMul (i j:Int):Prop:=(-(2 ^ 64)<i/\i<2 ^ 64) ∨ (-(2 ^ 64)<j/\j<2 ^ 64)
theorem CMul.ok {i j:Int}(h:CMul i j):IntMulOk i j:=by
 rcases h with⟨h1,h2⟩|⟨h1,h2⟩
 ·exact .of_left (intBits_le_64 h1 h2)
 ·exact .of_right (intBits_le_64 h1 h2)
theorem d1y:OpR X (binaryOp .Add) (rI0 λi j=>.int (i+j)):=opI0 λ_ _ _ _ _ _ _ q=>add_int q
theorem d1s:OpR X (binaryOp .Sub) (rI0 λi j=>.int (i-j)):=opI0 λ_ _ _ _ _ _ _ q=>sub_int q
theorem d1v:OpR X (binaryOp .Mult) (rI CMul λi j=>.int (i*j)):=opI λ_ _ _ _ _ _ _ hc q=>mul_int q hc.ok
theorem c7c:OpR X (binaryOp .FloorDiv) (rI CDiv λi j=>.int (i / j)):=opI λi j _ _ _ _ _ hc q=>by
 have h1:(0:Int)<j:=hc.1
 have h2:j<1073741824:=hc.2
 exact floordiv_int (by lia) (by rw[Int.fdiv_eq_ediv_of_nonneg i (by lia)];exact q) (.inl (PyProof.noPylong_small (by lia)))
theorem d1w:OpR X (binaryOp .Mod) (rI (λ_ j=>0<j) λi j=>.int (i % j)):=opI λi j _ _ _ _ _ hc q=>by
 have h1:(0:Int)<j:=hc
 exact mod_int' (by lia) (by rw[Int.fmod_eq_emod_of_nonneg i (by lia)];exact q)
theorem d1u:OpR X (binaryOp .Pow) (rI CPow λi j=>.int (i ^ j.toNat)):=opI λ_ _ _ _ _ _ _ hc q=>pow_int_small hc.1 hc.2.1 hc.2.2 q
theorem unI {f:Value->Sem Value}{g:Int->Int}
  (rule:∀ (i:Int)(t:Tok)(s:Shared)(Q:Value->Shared->Prop)(E:Value->Shared->Prop),Q (.int (g i) s.toks) { s with toks:=s.toks+1 }->wpAny (model X.prog X.w) X.A (f (.int i t)) Q E s) :
  UnR X f (rU λi=>.int (g i)):=by
 intro pins s σ H x v Q I rx h
 obtain⟨i,rfl,q⟩:=h
 obtain⟨t,rfl⟩:=rx
 exact rule i t s _ _ ⟨.int (g i),H,I.tok _,⟨_,rfl⟩,q⟩
theorem c9q:UnR X (unaryOp .USub) (rU λi=>.int (-i)):=unI λ_ _ _ _ _ q=>neg_int q
end
def scal:V->V->Bool
 | .non,.non=>true|.non,.int _=>true|.int _,.non=>true|.non,.bl _=>true|.bl _,.non=>true|.non,.str _=>true|.str _,.non=>true
 | .int _,.int _=>true|.bl _,.bl _=>true|.str _,.str _=>true|.byt _,.byt _=>true
 | .int _,.str _=>true|.str _,.int _=>true|.bl _,.str _=>true|.str _,.bl _=>true
 | _,_=>false
def rEq:R2:=λx y H Q=>scal x y=true/\Q (.bl (decide (x=y))) H
def rNe:R2:=λx y H Q=>scal x y=true/\Q (.bl (!decide (x=y))) H
theorem b9u {i j:Int}:decide (V.int i=V.int j)=(i == j):=by
 rw[Bool.eq_iff_iff]
 simp
theorem c5h {i j:Bool}:decide (V.bl i=V.bl j)=(i == j):=by
 rw[Bool.eq_iff_iff]
 simp
theorem b9t {i j:Str}:decide (V.str i=V.str j)=(i == j):=by
 rw[Bool.eq_iff_iff]
 simp
theorem b9v {i j:Array UInt8}:decide (V.byt i=V.byt j)=(i.toList == j.toList):=by
 rw[Bool.eq_iff_iff]
 cases i
 cases j
 simp
section
variable {X:Cx}{a b c:Expr}{ta tb tc:TE}{pos:Pos}
theorem a0x {pins:List (Addr×Obj)}{σ:St}{H:Hp}{s:Shared}{Q:VK}{k k':Bool}(I:Inv X pins σ H s)(q:Q (.bl k) H)(e:k=k'):EP X pins σ Q (.bool k') s:=by
 subst e
 exact⟨.bl k,H,I,rfl,q⟩
theorem d9l:OpR X (compareOp .Eq) rEq:=by
 intro pins s σ H x y v u Q I rx ry h
 obtain⟨hs,q⟩:=h
 cases x with
 | non =>
  cases rx
  cases y with
  | non=>cases ry;exact PySem.EqNone.eq_none_none (a0x I q (by simp))
  | bl j=>cases ry;exact PySem.EqNone.eq_none_bool (a0x I q (by simp))
  | int j=>obtain⟨t',rfl⟩:=ry;exact PySem.EqNone.eq_none_int (a0x I q (by simp))
  | str j=>obtain⟨t',rfl⟩:=ry;exact PySem.EqNone.eq_none_str (a0x I q (by simp))
  | _=>exact absurd (show false=true from hs) Γk
 | bl i =>
  cases rx
  cases y with
  | non=>cases ry;exact PySem.EqNone.eq_bool_none (a0x I q (by simp))
  | bl j=>cases ry;exact eq_bool (a0x I q c5h)
  | str j=>obtain⟨t',rfl⟩:=ry;exact PySem.EqMixed.eq_bool_str (a0x I q (by simp))
  | _=>exact absurd (show false=true from hs) Γk
 | int i =>
  obtain⟨t,rfl⟩:=rx
  cases y with
  | non=>cases ry;exact PySem.EqNone.eq_int_none (a0x I q (by simp))
  | int j=>obtain⟨t',rfl⟩:=ry;exact eq_int (a0x I q b9u)
  | str j=>obtain⟨t',rfl⟩:=ry;exact PySem.EqMixed.eq_int_str (a0x I q (by simp))
  | _=>exact absurd (show false=true from hs) Γk
 | str i =>
  obtain⟨t,rfl⟩:=rx
  cases y with
  | non=>cases ry;exact PySem.EqNone.eq_str_none (a0x I q (by simp))
  | bl j=>cases ry;exact PySem.EqMixed.eq_str_bool (a0x I q (by simp))
  | int j=>obtain⟨t',rfl⟩:=ry;exact PySem.EqMixed.eq_str_int (a0x I q (by simp))
  | str j=>obtain⟨t',rfl⟩:=ry;exact eq_str (a0x I q b9t)
  | _=>exact absurd (show false=true from hs) Γk
 | byt i =>
  obtain⟨t,rfl⟩:=rx
  cases y with
  | byt j=>obtain⟨t',rfl⟩:=ry;exact PySem.W.eq_bytes (a0x I q b9v)
  | _=>exact absurd (show false=true from hs) Γk
 | _=>cases y<;>exact absurd (show false=true from hs) Γk
theorem d9g:OpR X (compareOp .NotEq) rNe:=by
 intro pins s σ H x y v u Q I rx ry h
 obtain⟨hs,q⟩:=h
 cases x with
 | non =>
  cases rx
  cases y with
  | non=>cases ry;exact PySem.EqNone.ne_none_none (a0x I q (by simp))
  | bl j=>cases ry;exact PySem.EqNone.ne_none_bool (a0x I q (by simp))
  | int j=>obtain⟨t',rfl⟩:=ry;exact PySem.EqNone.ne_none_int (a0x I q (by simp))
  | str j=>obtain⟨t',rfl⟩:=ry;exact PySem.EqNone.ne_none_str (a0x I q (by simp))
  | _=>exact absurd (show false=true from hs) Γk
 | bl i =>
  cases rx
  cases y with
  | non=>cases ry;exact PySem.EqNone.ne_bool_none (a0x I q (by simp))
  | bl j=>cases ry;exact ne_bool (a0x I q (congrArg not c5h))
  | str j=>obtain⟨t',rfl⟩:=ry;exact PySem.EqMixed.ne_bool_str (a0x I q (by simp))
  | _=>exact absurd (show false=true from hs) Γk
 | int i =>
  obtain⟨t,rfl⟩:=rx
  cases y with
  | non=>cases ry;exact PySem.EqNone.ne_int_none (a0x I q (by simp))
  | int j=>obtain⟨t',rfl⟩:=ry;exact ne_int (a0x I q (congrArg not b9u))
  | str j=>obtain⟨t',rfl⟩:=ry;exact PySem.EqMixed.ne_int_str (a0x I q (by simp))
  | _=>exact absurd (show false=true from hs) Γk
 | str i =>
  obtain⟨t,rfl⟩:=rx
  cases y with
  | non=>cases ry;exact PySem.EqNone.ne_str_none (a0x I q (by simp))
  | bl j=>cases ry;exact PySem.EqMixed.ne_str_bool (a0x I q (by simp))
  | int j=>obtain⟨t',rfl⟩:=ry;exact PySem.EqMixed.ne_str_int (a0x I q (by simp))
  | str j=>obtain⟨t',rfl⟩:=ry;exact ne_str (a0x I q (congrArg not b9t))
  | _=>exact absurd (show false=true from hs) Γk
 | byt i =>
  obtain⟨t,rfl⟩:=rx
  cases y with
  | byt j=>obtain⟨t',rfl⟩:=ry;exact PySem.W.ne_bytes (a0x I q (congrArg not b9v))
  | _=>exact absurd (show false=true from hs) Γk
 | _=>cases y<;>exact absurd (show false=true from hs) Γk
theorem d9h:OpR X (compareOp .Lt) (rI0 λi j=>.bl (decide (i<j))):=d5c λ_ _ _ _ _ _ _ q=>lt_int q
theorem d9i:OpR X (compareOp .LtE) (rI0 λi j=>.bl (decide (i<=j))):=d5c λ_ _ _ _ _ _ _ q=>le_int q
theorem d9j:OpR X (compareOp .Gt) (rI0 λi j=>.bl (decide (j<i))):=d5c λ_ _ _ _ _ _ _ q=>gt_int q
theorem d9k:OpR X (compareOp .GtE) (rI0 λi j=>.bl (decide (j<=i))):=d5c λ_ _ _ _ _ _ _ q=>ge_int q
theorem c6u {op:CmpOp}{r:R2}(ho:OpR X (compareOp op) r)(ha:PE X a ta)(hb:PE X b tb)(hm:behindInMarks op b=false):PE X (.Compare a [op] [b] pos) (tOp r ta tb):=by
 intro pins s σ H Q I h
 exact wpAny_Compare1 (e3f ha hb I h λv u s2 x y H2 I2 rx ry q=>ho pins s2 σ H2 x y v u Q I2 rx ry q) hm
def d6y (t:TE):TT:=λσ H Q=>t σ H λx H'=>∃ k,x=.bl k/\Q k H'
theorem c6j {op:CmpOp}{r:R2}(ho:OpR X (compareOp op) r)(ha:PE X a ta)(hb:PE X b tb)(hm:behindInMarks op b=false):PT X (.Compare a [op] [b] pos) (d6y (tOp r ta tb)):=by
 intro pins s σ H Q I h
 refine wpAny_isTrue_Compare1 (thn (ha pins s σ H _ I h) λv s1 ⟨x,H1,I1,r1,q1⟩=>thn (hb pins s1 σ H1 _ I1 q1) λu s2 ⟨y,H2,I2,r2,q2⟩ =>
  thn (ho pins s2 σ H2 x y v u _ I2 r1 r2 q2) λc s3 ⟨z,H3,I3,r3,k,e,q3⟩=>?_) hm
 subst e
 cases r3
 exact wpAny_truthy_bool ⟨H3,I3,q3⟩
def c4i (r r':R2)(ta tb tc:TE):TE:=λσ H Q=>ta σ H λx H1=>tb σ H1 λy H2=>r x y H2 λz H3=>∃ k,z=.bl k /\
 (if k=true then tc σ H3 λw' H4=>r' y w' H4 Q else Q (.bl false) H3)
theorem c2f {op op':CmpOp}{r r':R2}(ho:OpR X (compareOp op) r)(ho':OpR X (compareOp op') r')(ha:PE X a ta)(hb:PE X b tb)(hc:PE X c tc)
  (hm:lastMarks [op,op'] [b,c]=false:=by with_unfolding_all rfl):PE X (.Compare a [op,op'] [b,c] pos) (c4i r r' ta tb tc):=by
 intro pins s σ H Q I h
 refine Compare_chain (thn (ha pins s σ H _ I h) λv s1 ⟨x,H1,I1,r1,q1⟩=>chain_link (thn (hb pins s1 σ H1 _ I1 q1) λu s2 ⟨y,H2,I2,r2,q2⟩ =>
  thn (ho pins s2 σ H2 x y v u _ I2 r1 r2 q2) λd s3 ⟨z,H3,I3,r3,k,e,q3⟩=>?_)) hm
 subst e
 cases r3
 refine wpAny_truthy_bool ?_
 cases k with
 | false=>exact ite_ff ⟨.bl false,H3,I3,rfl,q3⟩
 | true=>exact ite_tt (chain_last (thn (hc pins s3 σ H3 _ I3 q3) λw' s4 ⟨z',H4,I4,r4,q4⟩=>ho' pins s4 σ H4 y z' u w' Q I4 r2 r4 q4))
def d4v (K:Γd)(x:V)(H:Hp)(k:Bool):Prop :=
 match x with
 | .non=>k=false
 | .bl b=>k=b
 | .int i=>k=(i != 0)
 | .str y=>y.length<=sizeLine/\k=((y.length:Int) != 0)
 | .byt y=>y.size<=sizeLine/\k=((y.size:Int) != 0)
 | .ref p=>(∃ xs,SqL K H p xs/\k = !xs.isEmpty) ∨ (∃ xs,SqT K H p xs/\k = !xs.isEmpty) ∨ ∃ kvs,H p=some (.dK kvs)/\k = !kvs.isEmpty
 | _=>False
theorem b5n {κ:Type}{kvs:List (κ×V)}{vs:List (κ×Value)}(r:KV kvs vs):(!vs.isEmpty) = !kvs.isEmpty:=by
 cases r<;>rfl
theorem a7z {xs:List V}{its:List Value}(r:Vals xs its):(!its.toArray.isEmpty) = !xs.isEmpty:=by
 cases r<;>simp
theorem b0l:(sizeLine:Nat)<2 ^ 63:=by rw[sizeLine_eq];decide
theorem b6p:TruR X (λx H Q=>∃ k,d4v X.K x H k/\Q k H):=by
 intro pins s σ H x v Q I rx h
 obtain⟨k,e,q⟩:=h
 have hl:=b0l
 have hs:sizeLine=16777216:=sizeLine_eq
 cases x with
 | non =>
  cases rx
  have e':k=false:=e
  subst e'
  exact truthy_none ⟨H,I,q⟩
 | bl b =>
  cases rx
  have e':k=b:=e
  subst e'
  exact wpAny_truthy_bool ⟨H,I,q⟩
 | int i =>
  obtain⟨t,rfl⟩:=rx
  have e':k=(i != 0):=e
  subst e'
  exact PySem.P.truthy_int ⟨H,I,q⟩
 | str y =>
  obtain⟨t,rfl⟩:=rx
  obtain⟨hy,e'⟩:y.length<=sizeLine/\k=((y.length:Int) != 0):=e
  subst e'
  exact PySem.P.truthy_str (by lia) ⟨H,I.tok _,q⟩
 | byt y =>
  obtain⟨t,rfl⟩:=rx
  obtain⟨hy,e'⟩:y.size<=sizeLine/\k=((y.size:Int) != 0):=e
  subst e'
  exact PySem.W.truthy_bytes (by lia) ⟨H,I.tok _,q⟩
 | ref p =>
  cases rx
  have e':(∃ xs,SqL X.K H p xs/\k = !xs.isEmpty) ∨ (∃ xs,SqT X.K H p xs/\k = !xs.isEmpty) ∨ ∃ kvs,H p=some (.dK kvs)/\k = !kvs.isEmpty:=e
  rcases e' with⟨xs,hx,e'⟩|⟨xs,hx,e'⟩|⟨kvs,hx,e'⟩
  ·subst e'
   obtain⟨its,r,pl,hz⟩:=I.list hx
   have hlen:=r.length
   exact wpAny_truthy_list pl.isList (by simp only[List.size_toArray];lia) ⟨H,I.tok _,by rw[a7z r];exact q⟩
  ·subst e'
   obtain⟨its,r,pl,hz⟩:=I.tuple hx
   have hlen:=r.length
   exact truthy_tuple pl (by simp only[List.size_toArray];lia) ⟨H,I.tok _,by rw[a7z r];exact q⟩
  ·subst e'
   obtain⟨hz,hS,vs,r,m⟩:kvs.length<=sizeLine/\(p == sysModules)=false/\∃ vs,KV kvs vs/\s.heap.DictOf (a0z X.prog X.w) p vs:=I.hok p _ hx
   have hlen:kvs.length=vs.length:=Paired.length r
   exact wpAny_truthy_dict hS m (by lia) ⟨H,I.tok _,by rw[b5n r];exact q⟩
 | _=>exact (show False from e).elim
theorem c1v (ha:PE X a ta)(he:∀ whole,isTrue a X.env whole=(do let v <- whole;standAt a.pos;holding [v] (truthy v))) :
  PT X a (λσ H Q=>ta σ H λx H'=>∃ k,d4v X.K x H' k/\Q k H'):=by
 intro pins s σ H Q I h
 exact isTrue_plain (thn (ha pins s σ H _ I h) λv s1 ⟨x,H1,I1,r1,q1⟩=>b6p pins s1 σ H1 x v Q I1 r1 q1) (he _)
theorem a3e {x:V}{us:List Value}(r:Vals [x] us):∃ u,us=[u]/\RelV x u:=by
 cases r with
 | cons r1 r2=>cases r2;exact⟨_,rfl,r1⟩
theorem b6j {x y:V}{us:List Value}(r:Vals [x,y] us):∃ u w',us=[u,w']/\RelV x u/\RelV y w':=by
 cases r with
 | cons r1 r2 =>
  cases r2 with
  | cons r3 r4=>cases r4;exact⟨_,_,rfl,r1,r3⟩
theorem c4a:a1l X (.builtin "abs") (λxs H Q=>∃ i,xs=[.int i]/\Q (.int (if i<0 then -i else i)) H):=by
 intro pins s σ H xs us Q I r h
 obtain⟨i,rfl,q⟩:=h
 obtain⟨u,rfl,t,rfl⟩:=a3e r
 exact call_abs_int λu tk=>⟨.int (if i<0 then -i else i),H,I.tok _,⟨_,rfl⟩,q⟩
theorem c0l (hc:X.calm=true):a1l X (.builtin "max") (λxs H Q=>∃ i j,xs=[.int i,.int j]/\Q (.int (if j > i then j else i)) H):=by
 intro pins s σ H xs us Q I r h
 obtain⟨i,j,rfl,q⟩:=h
 obtain⟨u,w',rfl,⟨t,rfl⟩,⟨t',rfl⟩⟩:=b6j r
 refine max_two_ints (I.ok.hd hc) λh' tk k=>⟨_,H,I.kept k,?_,q⟩
 by_cases hj:j > i
 ·rw[if_pos hj,if_pos hj];exact⟨_,rfl⟩
 ·rw[if_neg hj,if_neg hj];exact⟨_,rfl⟩
theorem b1o:a1l X (.type "int") (λxs H Q=>(∃ i,xs=[.int i]/\Q (.int i) H) ∨ ∃ k,xs=[.bl k]/\Q (.int (if k then 1 else 0)) H):=by
 intro pins s σ H xs us Q I r h
 rcases h with⟨i,rfl,q⟩|⟨k,rfl,q⟩
 ·obtain⟨u,rfl,t,rfl⟩:=a3e r
  exact call_int_int ⟨.int i,H,I,⟨_,rfl⟩,q⟩
 ·obtain⟨u,rfl,r1⟩:=a3e r
  cases r1
  exact call_int_bool ⟨.int (if k then 1 else 0),H,I.tok _,⟨_,rfl⟩,q⟩
theorem b1l:a1l X (.type "str") (λxs H Q=>∃ i,xs=[.int i]/\i.natAbs.log2<1920/\Q (.str (toString i)) H):=by
 intro pins s σ H xs us Q I r h
 obtain⟨i,rfl,hz,q⟩:=h
 obtain⟨u,rfl,t,rfl⟩:=a3e r
 exact PySem.P.str_of_int hz ⟨.str _,H,I.tok _,⟨_,rfl⟩,q⟩
end
end L2
namespace L2
open PySem PySem.Spec PyProof.Rows
structure ObjM (h:Heap)(x dx C:Addr)(mA:Str->Option Value):Prop where
 obj:h.get? x=some (PySem.W.instObj C dx)
 ns:h.Ns1 dx mA
 ne:dx≠x
theorem b8g {h:Heap}{dx:Addr}{mA:Str->Option Value}(n:h.Ns1 dx mA):∃ od,h.get? dx=some od/\∀ name,PySem.W.lookIn name od=some (mA name):=by
 obtain⟨o,es,ep,ho,hd,hk,_,hm⟩:=n
 refine⟨o,ho,λname=>?_⟩
 have e:=hm name
 unfold nsFind findBy at e
 rw[<- Array.find?_toList] at e
 unfold PySem.W.lookIn
 rw[hd]
 dsimp only
 split
 ·rename_i y q
  rw[q] at e
  exact congrArg some e
 ·rename_i q
  rw[q] at e
  have a:es.toList.any (·.refKey)=false:=by
   rw[List.any_eq_false]
   intro y hy
   obtain⟨z,t,hkey⟩:=hk y (Array.mem_toList_iff.mp hy)
   simp[DictEntry.refKey,hkey]
  have a':¬ es.toList.any (·.refKey)=true:=by rw[a];exact Γk
  rw[if_neg a']
  exact congrArg some e
theorem ObjM.look {h:Heap}{x dx C:Addr}{mA:Str->Option Value}(I:ObjM h x dx C mA):∃ od,PySem.W.InstAt h x (PySem.W.instObj C dx) C (some od)/\∀ name,PySem.W.lookIn name od=some (mA name) :=
 let ⟨od,ho,hl⟩:=b8g I.ns
 ⟨od,⟨I.obj,rfl,rfl,ho⟩,hl⟩
section
variable {prog:Program}{w:World}{A:Around}{E:Value->Shared->Prop}{s:Shared}{K:Γd}{x dx C f:Addr}{mA:Str->Option Value}{name:Str}{v:Value}
end
def d8r (f:Str)(v:V):List (Str×V)->List (Str×V)
 | []=>[(f,v)]
 | (g,x) :: r=>if g=f then (g,v) :: r else (g,x) :: d8r f v r
theorem RelO.some_of {v:V}{o:Option Value}(r:RelO (some v) o):∃ u,o=some u/\RelV v u:=by
 cases o with
 | none=>exact (show False from r).elim
 | some u=>exact⟨u,rfl,r⟩
section
variable {P:Program}{w:World}{H H':Hp}{h h':Heap}{a C dx:Addr}{fs fs':List (Str×V)}
theorem c8c (hok:HOk P w H h)(e:H a=some (.ins C dx fs)):∃ mA,ObjM h a dx C mA/\(∀ f,RelO (fs.lookup f) (mA f))/\PySem.Within mA (fs.map (·.1))/\fs.length<=1000/\H dx=some (.own a):=by
 obtain⟨d,z,ne,ob,mA,n,r,q⟩:=(show ObjOk P w H h a (.ins C dx fs) from hok a _ e)
 exact⟨mA,⟨ob,n,ne⟩,r,q,z,d⟩
end
structure Cls (K:Γd)(C:Addr):Prop where
 pg:PySem.W.plainGet K C Str.empty=true
 hd:PySem.W.hasDictIn K C=true
 po:PySem.W.plainOver K C=true
 sa:PySem.W.findIn K (.ref C) "__setattr__" = some (some (.builtin "object.__setattr__"))
theorem Cls.get {K:Γd}{C:Addr}(c:Cls K C)(f:Str):PySem.W.plainGet K C f=true:=c.pg
def b1u (K:Γd)(C:Addr)(f:Str):Prop:=PySem.W.findIn K (.ref C) f=some none
structure Con (K:Γd)(C:Addr)(f:Str)(v:V)(u:Value):Prop where
 at_:PySem.W.findIn K (.ref C) f=some (some u)
 rel:RelV v u
 get:PySem.W.specialIn K u "__get__" = some none
 cp:PySem.W.copiedNames.contains f=false
structure Meth (K:Γd)(C:Addr)(m:Str)(f:Addr):Prop where
 at_:PySem.W.findIn K (.ref C) m=some (some (.ref f))
 fn:PySem.W.isFn K (.ref f)=true
 kp:PySem.W.keepIn K (.ref f)=true
section
variable {X:Cx}{pins:List (Addr×Obj)}{σ:St}{H:Hp}{s:Shared}{a C dx:Addr}{fs:List (Str×V)}{f:Str}{v:V}{A:Around}{E:Value->Shared->Prop}
end
def InOp (X:Cx)(op:Operator)(rd:V->V->Hp->VK->Prop):Prop :=
 ∀ (pins:List (Addr×Obj))(s:Shared)(σ:St)(H:Hp)(x y:V)(u v:Value)(Q:VK),Inv X pins σ H s->RelV x u->RelV y v->rd x y H Q->wpAny (model X.prog X.w) X.A (inplaceOp op u v) (EP X pins σ Q) X.xe s
section
variable {X:Cx}{o e value:Expr}{f:Str}{pos pos' tpos:Pos}{ta tv:TE}
end
section
variable {X:Cx}{pins:List (Addr×Obj)}{σ:St}{H:Hp}{s:Shared}{A:Around}{E:Value->Shared->Prop}{Q:Value->Shared->Prop}{c:Value}{b:Bool}
inductive TyOf (K:Γd)(H:Hp):V->Value->Prop where
 | non:TyOf K H .non (.type "NoneType")
 | bl (x:Bool):TyOf K H (.bl x) (.type "bool")
 | int (i:Int):TyOf K H (.int i) (.type "int")
 | str (x:Str):TyOf K H (.str x) (.type "str")
 | flt (x:UInt64):TyOf K H (.flt x) (.type "float")
 | lst {a:Addr}{xs:List V}(e:H a=some (.lst xs)):TyOf K H (.ref a) (.type "list")
 | frz {a:Addr}{o:Obj}{xs:List V}(e:H a=some (.frz o (.lst xs))):TyOf K H (.ref a) (.type "list")
 | tup {a:Addr}{xs:List V}(e:H a=some (.tup xs)):TyOf K H (.ref a) (.type "tuple")
 | dK {a:Addr}{kvs:List (Key×V)}(e:H a=some (.dK kvs)):TyOf K H (.ref a) (.type "dict")
 | dT {a:Addr}{kvs:List (List Key×V)}(e:H a=some (.dT kvs)):TyOf K H (.ref a) (.type "dict")
 | ins {a C dx:Addr}{fs:List (Str×V)}(e:H a=some (.ins C dx fs))(cl:Cls K C)(ha:PySem.W.findIn K (.ref C) "__class__" = some (some (.builtin "object.__class__")))
   (hn:PySem.W.specialIn K (.builtin "object.__class__") "__get__" = some (some (.builtin "getset_descriptor.__get__")))(htk:PySem.W.takesIn K (.builtin "object.__class__")=some true)
   (hm:PySem.W.mroIn K C (.type "object")=some true):TyOf K H (.ref a) (.ref C)
theorem b8r {x:V}{u t:Value}(I:Inv X pins σ H s)(rx:RelV x u)(ty:TyOf X.K H x t)(e:PySem.W.kitOne X.K t c=some b)(h:∀ tk,Q (.bool b) { s with toks:=tk }) :
  wpAny (model X.prog X.w) A (call (.builtin "isinstance") [u,c]) Q E s:=by
 cases ty with
 | non=>cases (show u=Value.none from rx);exact PySem.W.kia_one PySem.W.kitx_none I.kIn True.intro e (λz=>nomatch z) h
 | bl y=>cases (show u=Value.bool y from rx);exact PySem.W.kia_one PySem.W.kitx_bool I.kIn True.intro e (λz=>nomatch z) h
 | int i=>obtain⟨t,q⟩:=(show ∃ t,u=Value.int i t from rx);cases q;exact PySem.W.kia_one PySem.W.kitx_int I.kIn True.intro e (λz=>nomatch z) h
 | str y=>obtain⟨t,q⟩:=(show ∃ t,u=Value.str y t from rx);cases q;exact PySem.W.kia_one PySem.W.kitx_str I.kIn True.intro e (λz=>nomatch z) h
 | flt y=>obtain⟨t,q⟩:=(show ∃ t,u=Value.float y t from rx);cases q;exact PySem.W.kia_one PySem.W.kitx_float I.kIn True.intro e (λz=>nomatch z) h
 | @lst a xs ea =>
  cases (show u=Value.ref a from rx)
  obtain⟨_,_,n,_,h1⟩:=(show ObjOk X.prog X.w H s.heap a (.lst xs) from I.hok a _ ea)
  exact PySem.W.kia_one PySem.W.kitx_list I.kIn ⟨_,h1,rfl⟩ e (λz=>nomatch z) h
 | @frz a ob xs ea =>
  cases (show u=Value.ref a from rx)
  obtain⟨_,_,_,n,_,h1⟩:=(show ObjOk X.prog X.w H s.heap a (.frz ob (.lst xs)) from I.hok a _ ea)
  exact PySem.W.kia_one PySem.W.kitx_list I.kIn ⟨_,h1,rfl⟩ e (λz=>nomatch z) h
 | @tup a xs ea =>
  cases (show u=Value.ref a from rx)
  obtain⟨_,_,_,p⟩:=(show ObjOk X.prog X.w H s.heap a (.tup xs) from I.hok a _ ea)
  obtain⟨o,h1,h2,_⟩:=p
  exact PySem.W.kia_one PySem.W.kitx_tuple I.kIn ⟨o,h1,h2⟩ e (λz=>nomatch z) h
 | @dK a kvs ea =>
  cases (show u=Value.ref a from rx)
  obtain⟨_,_,vs,_,p⟩:=(show ObjOk X.prog X.w H s.heap a (.dK kvs) from I.hok a _ ea)
  obtain⟨o,es,ep,h1,h2,_⟩:=p
  exact PySem.W.kia_one PySem.W.kitx_dict I.kIn ⟨o,h1,h2.1⟩ e (λz=>nomatch z) h
 | @dT a kvs ea =>
  cases (show u=Value.ref a from rx)
  obtain⟨_,_,xs,_,o,es,ep,h1,h2,_⟩:=(show ObjOk X.prog X.w H s.heap a (.dT kvs) from I.hok a _ ea)
  exact PySem.W.kia_one PySem.W.kitx_dict I.kIn ⟨o,h1,h2.1⟩ e (λz=>nomatch z) h
 | @ins a C dx fs ea cl ha hn htk hm =>
  cases (show u=Value.ref a from rx)
  obtain⟨mA,O,_⟩:=c8c I.hok ea
  obtain⟨od,J,_⟩:=O.look
  exact PySem.W.kia_one (PySem.W.kitx_own (cl.get _) cl.hd ha hn htk hm) I.kIn J e (λz=>nomatch z) h
end
end L2
namespace L2
open PySem PySem.Spec PyProof.Rows
structure Room (k:Nat)(A:Around):Prop where
 hd:A.handled=none
 dp:A.depth+3*k+5<recursionLimit
 un:A.units+16*k+200<cLine
 gd:A.guards=some []
theorem Room.deeper {k:Nat}{A:Around}(r:Room (k+1) A)(env:Env):Room k (A.deeper env) :=
 ⟨r.hd,by have:=r.dp;show A.depth+1+3*k+5<_;lia,by have:=r.un;show A.units+3+16*k+200<_;lia,r.gd⟩
structure RoomS (k:Nat)(A:Around):Prop extends Room k A where
 dp2:A.depth+3*k+7<recursionLimit
 un2:A.units+16*k+210<cLine
theorem Room.deeperS {k:Nat}{A:Around}(r:Room (k+1) A)(env:Env):RoomS k (A.deeper env) :=
 ⟨r.deeper env,by have:=r.dp;show A.depth+1+3*k+7<_;lia,by have:=r.un;show A.units+3+16*k+210<_;lia⟩
theorem Room.depth {k:Nat}{A:Around}(r:Room k A):A.depth<recursionLimit:=by have:=r.dp;lia
theorem Room.units {k:Nat}{A:Around}(r:Room k A):A.units+64<cLine:=by have:=r.un;lia
def tNil:TA:=λ_ H Q=>Q [] H
def c1e (ta:TE)(tr:TA):TA:=λσ H Q=>ta σ H λx H1=>tr σ H1 λxs H2=>Q (x :: xs) H2
section
variable {X:Cx}{e:Expr}{es:List Expr}{te:TE}{t:TA}{pos:Pos}
theorem a2n:PA X [] tNil:=λ_ _ _ _ H Q I h=>Calls.spliced_nil ⟨[],H,I,.nil,h⟩
theorem a0n (ha:PE X e te)(hr:PA X es t)(hs:starEach (e :: es) X.env=(false,eval e X.env) :: starEach es X.env:=by rfl):PA X (e :: es) (c1e te t):=by
 intro pos pins s σ H Q I h
 rw[hs]
 show wpAny _ _ (spliced ((false,eval e X.env) :: backTo pos (starEach es X.env))) _ _ s
 refine Calls.spliced_cons (thn (ha pins s σ H _ I h) λu s1 ⟨x,H1,I1,r1,q1⟩=>?_)
 exact thn (hr pos pins s1 σ H1 _ I1 q1) λus s2 ⟨xs,H2,I2,r2,q2⟩=>⟨x :: xs,H2,I2,.cons r1 r2,q2⟩
def tTup (t:TA):TE:=λσ H Q=>t σ H λxs H1=>xs.length<=sizeLine/\∀ p,H1 p=none->Q (.ref p) (upd H1 p (.tup xs))
def tLst (t:TA):TE:=λσ H Q=>t σ H λxs H1=>xs.length<=sizeLine/\∀ p,H1 p=none->Q (.ref p) (upd H1 p (.lst xs))
theorem c4r {x1}(h:PA X es t):PE X (.Tuple es x1 pos) (tTup t):=by
 intro pins s σ H Q I hq
 refine wpAny_Tuple_spliced (thn (h pos pins s σ H _ I hq) λus s1 ⟨xs,H1,I1,r,z,q⟩=>⟨by rw[<- r.length];exact z,?_⟩)
 have hf:H1 s1.heap.objs.size=none:=I1.hok.fresh (Γi _)
 refine⟨.ref s1.heap.objs.size,upd H1 s1.heap.objs.size (.tup xs),I1.laid (t':=s1.toks) (λb u e=>Γc _ e) (Γi _) ?_,rfl,q _ hf⟩
 exact⟨z,us,r,⟨_,Γm _ rfl,rfl,_,rfl⟩⟩
theorem c4s (h:PA X es t):PE X (.List es pos) (tLst t):=by
 intro pins s σ H Q I hq
 refine wpAny_List_spliced (thn (h pos pins s σ H _ I hq) λus s1 ⟨xs,H1,I1,r,z,q⟩=>⟨by rw[<- r.length];exact z,?_⟩)
 have hf:H1 s1.heap.objs.size=none:=I1.hok.fresh (Γi _)
 refine⟨.ref s1.heap.objs.size,upd H1 s1.heap.objs.size (.lst xs),I1.laid (t':=s1.toks) (λb u e=>Γc _ e) (Γi _) ?_,rfl,q _ hf⟩
 exact⟨z,us,0,r,Γm _ rfl⟩
end
abbrev Sp:=List V->Hp->VK->XK->Prop
abbrev CXT:=List Env->Hp->Shared->XK->Value->Shared->Prop
structure Env0 (P:Program)(w:World)(K:Γd)(mg:Str->Option Value)(base:Heap)(A:Around)(outer:List Env)(s:Shared)(H:Hp):Prop where
 frames:A.frames=some outer
 mod:Mod K mg base
 bs:∀ b o,base.get? b=some o->s.heap.get? b=some o/\H b=none
 bsz:base.objs.size<=s.heap.objs.size
 funs:s.heap.FunFrames base outer
 frf:∀ b∈frs outer,H b=none
 hok:HOk P w H s.heap
 bare:AllBare s.gens
def CE (outer:List Env)(P:Program)(w:World)(H:Hp)(s:Shared)(Q:VK)(u:Value)(s':Shared):Prop :=
 ∃ v H',s'.os=s.os/\AllBare s'.gens/\Un (frs outer) [] H H' s.heap s'.heap/\HOk P w H' s'.heap/\RelV v u/\Q v H'
def CR (CX:CXT)(outer:List Env)(P:Program)(w:World)(H:Hp)(s:Shared)(Q:VK)(E:XK)(r:Result)(s':Shared):Prop :=
 match r with
 | .ok (.ret u)=>CE outer P w H s Q u s'
 | .ok _=>False
 | .error e=>CX outer H s E e s'
structure FnOk (P:Program)(w:World)(K:Γd)(mg:Str->Option Value)(base:Heap)(CX:CXT) (k:Nat)(f:Addr)(fd:FuncData)(ps:List Str)(sp:Sp):Prop where
 len:∀ vs H Q E,sp vs H Q E->vs.length=ps.length
 run:∀ (A:Around)(outer:List Env)(s:Shared)(H:Hp)(args:Args)(us:List Value)(vs:List V)(Q:VK)(E:XK),Room k A->Env0 P w K mg base A outer s H->BindsTo s fd args (ps.zip us)->Vals vs us->sp vs H Q E ->
  codeAny (model P w) A (.call (.ref f) args) (CR CX outer P w H s Q E) s
section
variable {X:Cx}{pins:List (Addr×Obj)}{σ:St}{H:Hp}{s s':Shared}
theorem Inv.env0 (I:Inv X pins σ H s):Env0 X.prog X.w X.K X.mg X.base X.A X.stack s H :=
 ⟨I.ok.frames,I.ok.mod,I.bs,Nat.le_trans I.ok.bsz I.sz,I.stack,I.stkFree,I.hok,I.bare⟩
theorem Inv.after {Q:VK}{u:Value}(I:Inv X pins σ H s)(h:CE X.stack X.prog X.w H s Q u s'):EP X pins σ Q u s':=by
 obtain⟨v,H',os,bare,un,hok,r,q⟩:=h
 obtain⟨hh,g,d,t,os'⟩:=s'
 obtain rfl:os'=s.os:=os
 exact⟨v,H',I.call (h':=hh) (g':=g) (d':=d) (t':=t) (ch:=[]) un hok bare (λb z=>absurd z (by simp)),r,q⟩
end
def d7f (sp:Sp)(dvs:List V)(E:XK)(t:TA):TE:=λσ H Q=>t σ H λvs H1=>sp (vs++dvs) H1 Q E
def Binds (K:Γd)(fd:FuncData)(ps:List Str)(ds:List Value):Prop :=
 ∀ (s:Shared)(us:List Value),K.In s.heap->(us++ds).length=ps.length->BindsTo s fd ⟨us,[]⟩ (ps.zip (us++ds))
theorem Binds.all {K:Γd}{fd:FuncData}{ps:List Str}(h:∀ us:List Value,us.length=ps.length->bindArgs fd ⟨us,[]⟩=pure (ps.zip us)):Binds K fd ps []:=λs us _ hl=>by
 rw[List.append_nil] at hl ⊢
 exact .of_eq (h us hl)
def c0y (CX:CXT)(X:Cx)(E:XK):Prop:=∀ (pins:List (Addr×Obj))(σ:St)(H:Hp)(s:Shared)(e:Value)(s':Shared),Inv X pins σ H s->CX X.stack H s E e s'->X.xe e s'
section
variable {X:Cx}{CX:CXT}{k:Nat}{f C:Addr}{fd:FuncData}{ps:List Str}{sp:Sp}{dvs:List V}{ds:List Value}{E:XK}{x m:Str}{p pos apos:Pos}{e o:Expr}{es:List Expr}{ta:TE}{t:TA}
theorem d0l {pins:List (Addr×Obj)}{σ:St}{H:Hp}{s:Shared}{Q:VK}{us:List Value}{vs:List V}(F:FnOk X.prog X.w X.K X.mg X.base CX k f fd ps sp)(hr:Room k X.A)(hb:Binds X.K fd ps ds)(hd:Vals dvs ds)(hx:c0y CX X E)
  (I:Inv X pins σ H s)(r:Vals vs us)(h:sp (vs++dvs) H Q E):wpAny (model X.prog X.w) X.A (call (.ref f) us) (EP X pins σ Q) X.xe s:=by
 have r2:Vals (vs++dvs) (us++ds):=r.append hd
 have hl:(us++ds).length=ps.length:=by rw[<- r2.length];exact F.len _ _ _ _ h
 refine wpAny_call (codeAny_mono (F.run X.A X.stack s H ⟨us,[]⟩ (us++ds) (vs++dvs) Q E hr I.env0 (hb s us I.kIn hl) r2 h) λr s' hq=>?_)
 cases r with
 | error e=>exact hx pins σ H s e s' I hq
 | ok fl =>
  cases fl with
  | ret u=>exact I.after hq
  | next=>exact False.elim hq
  | brk=>exact False.elim hq
  | cont=>exact False.elim hq
theorem c6v (F:FnOk X.prog X.w X.K X.mg X.base CX k f fd ps sp)(hr:Room k X.A)(hg:Gl X x)(hm:X.mg x=some (.ref f))(hk:PySem.W.keepIn X.K (.ref f)=true)(hb:Binds X.K fd ps ds)(hd:Vals dvs ds)(hx:c0y CX X E)
  (ha:PA X (e :: es) t)(hdb:(x == ("__debug__":Str))=false:=by decide)(he:starEach (e :: es) X.env=(false,eval e X.env) :: starEach es X.env:=by rfl)(hpl:(backTo pos (starEach es X.env)).any (·.1)=false:=by rfl) :
  PE X (.Call (.Name x p) (e :: es) [] pos) (d7f sp dvs E t):=by
 intro pins s σ H Q I h
 refine wpAny_Call_Name_kw (c7r I hg hm ?_ hdb)
 refine PySem.W.callWith_K (h₀:=X.base) I.ok.mod.kin hk (thn (ha pos pins s σ H _ I h) λus s1 ⟨vs,H1,I1,r,q⟩=>⟨I1.kIn,?_⟩) he hpl
 exact d0l F hr hb hd hx I1 r q
structure Mk (K:Γd)(C f:Addr):Prop where
 makes:PySem.W.makesIn K C=true
 init:PySem.W.findIn K (.ref C) "__init__" = some (some (.ref f))
 fn:PySem.W.isFn K (.ref f)=true
 kp:PySem.W.keepIn K (.ref C)=true
end
section
variable {X:Cx}{CX:CXT}{k:Nat}{f C:Addr}{fd:FuncData}{ps ks:List Str}{sp:Sp}{E:XK}{x m:Str}{p pos apos kpos:Pos}{e o:Expr}{es:List Expr}{kws:List Keyword}{te ta:TE}{t tk:TA}{nm:Option Str}
structure KBinds (K:Γd)(fd:FuncData)(ps ks:List Str)(g:List Value->List Value->List Value)(gV:List V->List V->List V):Prop where
 to:∀ (s:Shared)(us ws:List Value),K.In s.heap->(g us ws).length=ps.length->BindsTo s fd ⟨us,ks.zip ws⟩ (ps.zip (g us ws))
 rel:∀ {vs:List V}{us:List Value}{zs:List V}{ws:List Value},Vals vs us->Vals zs ws->Vals (gV vs zs) (g us ws)
variable {g:List Value->List Value->List Value}{gV:List V->List V->List V}
end
structure FnScope (N P:List Str)(sc:Scope):Prop where
 kind:sc.kind=.function
 co:sc.isCoroutine=false
 gen:sc.isGenerator=false
 nd:N.Nodup
 pre:N.take P.length=P
 par:∀ x∈P,sc.names.lookup x=some .local ∨ sc.names.lookup x=some .cell
 nofree:∀ y∈sc.names,y.2≠.free
theorem b1p {kindOf:Str->Option NameKind}{x:Str}:∀ {binds:List (Str×Value)}{m:Str->Option Value},(∀ v,(x,v) ∉ binds)->bindL kindOf binds m x=m x
 | [],_,_=>rfl
 | (n,v) :: r,m,h=>by
  unfold bindL
  rw[b1p λw hw=>h w (Γh _ hw)]
  split
  ·have:x≠n:=by rintro rfl;exact h v Γn
   simp[this]
  ·rfl
theorem b1r {kindOf:Str->Option NameKind}{x:Str}:∀ {binds:List (Str×Value)}{m:Str->Option Value},(∀ v,(x,v) ∉ binds)->bindC kindOf binds m x=m x
 | [],_,_=>rfl
 | (n,v) :: r,m,h=>by
  unfold bindC
  rw[b1r λw hw=>h w (Γh _ hw)]
  split
  ·rfl
  ·have:x≠n:=by rintro rfl;exact h v Γn
   simp[this]
theorem b1q {kindOf:Str->Option NameKind}{x:Str}{v:Value}:∀ {P:List Str}{vs:List Value}{i:Nat}{m:Str->Option Value},P.Nodup->P[i]?=some x->vs[i]?=some v->kindOf x=some .local ->
  bindL kindOf (P.zip vs) m x=some v
 | [],_,_,_,_,h,_,_=>by simp at h
 | _ :: _,[],_,_,_,_,h,_=>by simp at h
 | p :: P,w :: vs,0,m,nd,h1,h2,hk=>by
  simp at h1 h2;subst h1;subst h2
  show bindL kindOf ((p,w) :: P.zip vs) m p=_
  unfold bindL
  rw[b1p λv hv=>(List.nodup_cons.mp nd).1 (List.of_mem_zip hv).1,if_pos hk]
  simp
 | p :: P,w :: vs,i+1,m,nd,h1,h2,hk=>by
  show bindL kindOf ((p,w) :: P.zip vs) m x=_
  unfold bindL
  exact b1q (i:=i) (List.nodup_cons.mp nd).2 (by simpa using h1) (by simpa using h2) hk
theorem b1s {kindOf:Str->Option NameKind}{x:Str}{v:Value}:∀ {P:List Str}{vs:List Value}{i:Nat}{m:Str->Option Value},P.Nodup->P[i]?=some x->vs[i]?=some v->kindOf x≠some .local ->
  bindC kindOf (P.zip vs) m x=some v
 | [],_,_,_,_,h,_,_=>by simp at h
 | _ :: _,[],_,_,_,_,h,_=>by simp at h
 | p :: P,w :: vs,0,m,nd,h1,h2,hk=>by
  simp at h1 h2;subst h1;subst h2
  show bindC kindOf ((p,w) :: P.zip vs) m p=_
  unfold bindC
  rw[b1r λv hv=>(List.nodup_cons.mp nd).1 (List.of_mem_zip hv).1,if_neg hk]
  simp
 | p :: P,w :: vs,i+1,m,nd,h1,h2,hk=>by
  show bindC kindOf ((p,w) :: P.zip vs) m x=_
  unfold bindC
  exact b1s (i:=i) (List.nodup_cons.mp nd).2 (by simpa using h1) (by simpa using h2) hk
def start (N:List Str)(vs:List V):St:=vs.map some++Γj (N.length-vs.length) none
def c8u (CX:CXT)(P:Program)(w:World)(K:Γd)(mg:Str->Option Value)(base:Heap)(N:List Str)(qual:Str)(scope:Scope)(f:Addr)(cd:Value)(A:Around)(outer:List Env)(s:Shared)(H:Hp)(E:XK):Cx where
 prog:=P
 w:=w
 K:=K
 mg:=mg
 base:=base
 A:=A.deeper (envOfC qual scope s.heap.objs.size f cd)
 N:=N
 s₀:=s
 H₀:=H
 env:=envOfC qual scope s.heap.objs.size f cd
 outer:=outer
 stack:=envOfC qual scope s.heap.objs.size f cd :: outer
 ex:=[]
 calm:=true
 fn:=λ_=>true
 pn:=[]
 xe:=λe s'=>wpAny (model P w) (A.deeper (envOfC qual scope s.heap.objs.size f cd)) (leaving (envOfC qual scope s.heap.objs.size f cd) e) (λ_ s''=>CX outer H s E e s'') (λe' s''=>CX outer H s E e' s'') s'
theorem b4v {sc:Scope}{n:Nat}{x:Str}(h:sc.names.lookup x=some .cell):∃ c,(cellsFrom n sc.names []).lookup x=some c:=by
 have q:=PySem.W.cellsFrom_some sc.names n [] (.inl h)
 exact Option.isSome_iff_exists.mp q
theorem b8t {CX:CXT}{P:Program}{w:World}{K:Γd}{mg:Str->Option Value}{base:Heap}{N ps:List Str}{qual:Str}{scope:Scope}{f:Addr}{cd:Value}{A:Around}{outer:List Env}{s s1:Shared}{H:Hp}{E:XK}{us:List Value}{vs:List V}
  (S:FnScope N ps scope)(hd:A.handled=none)(e0:Env0 P w K mg base A outer s H)(hl:vs.length=ps.length)(r:Vals vs us)
  (x:InCallC s s.heap.objs.size (bindL (envOfC qual scope s.heap.objs.size f cd).kindOf (ps.zip us) λ_=>none) (cellsFrom (s.heap.objs.size+1) scope.names []) (bindC (envOfC qual scope s.heap.objs.size f cd).kindOf (ps.zip us) λ_=>none) s1) :
  Inv (c8u CX P w K mg base N qual scope f cd A outer s H E) [] (start N vs) H s1:=by
 have hpl:ps.length<=N.length:=by have:=congrArg List.length S.pre;rw[List.length_take] at this;lia
 obtain⟨h1,tk,rfl,hk⟩:=x.done
 have noA:∀ b:Addr,b ∉ (c8u CX P w K mg base N qual scope f cd A outer s H E).ex:=λb z=>absurd (show b∈([]:List Addr) from z) (by simp)
 refine⟨⟨e0.mod,S.kind,rfl,rfl,Γi _,λy z c h1 h2=>?_,λy hy=>?_,λy c _ h=>?_,λ_=>hd,Around.frames_deeper e0.frames,.inr ⟨rfl,rfl⟩,λb z=>absurd z (noA b),e0.bs,e0.bsz,λb _ _=>noA b,λb z=>absurd z (noA b),e0.funs,e0.frf⟩,
  rfl,e0.bare,Un.kept hk,⟨_,x.toInCall.ns,λi y v h1 h2 h3=>?_⟩,λy c h=>⟨_,x.cell y c h⟩,e0.hok.fresh (Γi _),λy c h=>?_,λp hp=>absurd (show p∈([]:List (Addr×Obj)) from hp) (by simp),e0.hok.kept hk,?_⟩
 ·exact name_of_addr x.apart (PySem.mem_of_lookup h1) (PySem.mem_of_lookup h2)
 ·have hy:scope.names.lookup y=some .cell ∨ scope.names.lookup y=some .free:=hy
  rcases hy with hy|hy
  ·exact b4v hy
  ·exact absurd rfl (S.nofree _ (PySem.mem_of_lookup hy))
 ·exact Nat.le_of_lt (x.above y c (PySem.mem_of_lookup h))
 ·have hi:i<vs.length:=by
   unfold start at h2
   by_cases hi:i<vs.length
   ·exact hi
   ·rw[List.getElem?_append_right (by simpa using hi)] at h2
    rw[List.getElem?_replicate] at h2
    split at h2<;>cases h2
  have ha:vs[i]?=some v:=by
   unfold start at h2
   rw[List.getElem?_append_left (by simpa using hi),List.getElem?_map] at h2
   cases e:vs[i]? with
   | none=>rw[e] at h2;cases h2
   | some a=>rw[e] at h2;cases h2;rfl
  obtain⟨u,hu,rv⟩:=r.get ha
  have hp:ps[i]?=some y:=by
   rw[<- S.pre,List.getElem?_take_of_lt (by lia)];exact h1
  have ndP:ps.Nodup:=by rw[<- S.pre];exact S.nd.sublist (List.take_sublist _ _)
  refine⟨u,rv,?_⟩
  rcases S.par y (List.mem_of_getElem? hp) with k|k
  ·exact .inl ⟨k,b1q ndP hp hu k⟩
  ·obtain⟨c,e⟩:=b4v (n:=s.heap.objs.size+1) k
   refine .inr ⟨.inl k,c,e,?_⟩
   have q:=x.cell y c e
   rw[b1s ndP hp hu (by show scope.names.lookup y≠_;rw[k];decide)] at q
   exact q
 ·exact e0.hok.fresh (Nat.le_of_lt (x.above y c (PySem.mem_of_lookup h)))
 ·unfold start
  show _=N.length
  rw[List.length_append,List.length_map,List.length_replicate]
  lia
theorem e0m {CX:CXT}{P:Program}{w:World}{K:Γd}{mg:Str->Option Value}{base:Heap}{k:Nat}{f:Addr}{name qual:Str}{params:Arguments}{body:List Stmt}{scope:Scope}{dV kV doc pm cdv ct oc:Value}{an od:Option Addr}
  {osl:Array (Option Value)}{N ps:List Str}{sp:Sp}(lk:K.lookup f=some ⟨oc,od,.func (PySem.W.fnOf name qual params body scope dV kV doc pm an cdv ct),osl⟩)(hcd:PySem.W.codeIn K cdv qual=true)(S:FnScope N ps scope)
  (len:∀ vs H Q E,sp vs H Q E->vs.length=ps.length)
  (hbody:∀ (A:Around)(outer:List Env)(s:Shared)(H:Hp)(vs:List V)(Q:VK)(E:XK),RoomS k (A.deeper (envOfC qual scope s.heap.objs.size f cdv))->sp vs H Q E ->
   ∃ t,PSs (c8u CX P w K mg base N qual scope f cdv A outer s H E) body t/\t { nx:=λ_ H'=>Q .non H',rt:=Q } (start N vs) H) :
  FnOk P w K mg base CX (k+1) f (PySem.W.fnOf name qual params body scope dV kV doc pm an cdv ct) ps sp:=by
 refine⟨len,λA outer s H args us vs Q E hr e0 hb r hsp=>?_⟩
 have hl:=len _ _ _ _ hsp
 have KX:K.In s.heap:=e0.mod.kin.keeps λb o e=>(e0.bs b o e).1
 have lim:s.heap.NoLimit:=e0.mod.nolimit.keeps λb o e=>(e0.bs b o e).1
 have hkind:∀ y∈ps.zip us,scope.names.lookup y.1=some .local ∨ (scope.names.lookup y.1=some .cell/\((cellsFrom (s.heap.objs.size+1) scope.names []).lookup y.1).isSome=true):=λ⟨n,v⟩ hy=>by
  rcases S.par n (List.of_mem_zip hy).1 with q|q
  ·exact .inl q
  ·exact .inr ⟨q,PySem.W.cellsFrom_some _ _ _ (.inl q)⟩
 refine codeAny_call_function hr.depth (KX _ _ lk) rfl S.co S.gen rfl (PySem.W.codeRec_of KX hcd) (hb _ _ _ _ ?_)
 refine wpAny_newFunctionEnv_cells S.kind hkind λenv he s1 x=>?_
 subst he
 refine⟨lim.keeps x.toInCall.keep,codeAny_func ?_⟩
 obtain⟨t,ht,hq⟩:=hbody A outer s H vs Q E (hr.deeperS _) hsp
 have I:Inv (c8u CX P w K mg base N qual scope f cdv A outer s H E) [] (start N vs) H s1:=b8t S hr.hd e0 hl r x
 refine wpAny_mono (ht [] s1 (start N vs) H _ I hq) (λfl s' hs=>?_) λe s' hs=>hs
 have fin:∀ {σ':St}{H':Hp}{v:V}{u:Value},Inv (c8u CX P w K mg base N qual scope f cdv A outer s H E) [] σ' H' s'->RelV v u->Q v H'->CE outer P w H s Q u s' :=
  λ{σ' H' v u} J rv q=>⟨v,H',J.os,J.bare,J.base,J.hok,rv,q⟩
 cases fl with
 | ret u =>
  obtain⟨v,σ',H',J,rv,q⟩:=hs
  exact fin J rv q
 | next =>
  obtain⟨σ',H',J,q⟩:=hs
  exact fin (v:=V.non) (u:=Value.none) J rfl q
 | brk =>
  obtain⟨_,_,_,q⟩:=hs
  exact False.elim q
 | cont =>
  obtain⟨_,_,_,q⟩:=hs
  exact False.elim q
end L2
namespace L2
open PySem PySem.Spec PyProof.Rows
section
variable {X:Cx}{x:Str}{p pos:Pos}{e:Expr}{es:List Expr}{t:TA}{id T:String}{r:List V->Hp->VK->Prop}
def tCB (r:List V->Hp->VK->Prop)(t:TA):TE:=λσ H Q=>t σ H λvs H1=>r vs H1 Q
theorem a3x (hc:a1l X (.builtin id) r)(hg:Gl X x)(hm:X.mg x=none)(hv:bootBuiltins x=some (.builtin id))(ha:PA X (e :: es) t)(hn:x≠"__name__":=by decide)(hdb:(x == ("__debug__":Str))=false:=by decide)
  (he:starEach (e :: es) X.env=(false,eval e X.env) :: starEach es X.env:=by rfl)(hpl:(backTo pos (starEach es X.env)).any (·.1)=false:=by rfl):PE X (.Call (.Name x p) (e :: es) [] pos) (tCB r t):=by
 intro pins s σ H Q I h
 refine wpAny_Call_Name_kw (a7x I hg hm hv ?_ hn hdb)
 exact PyProof.Rows.callWith_builtin1 (thn (ha pos pins s σ H _ I h) λus s1 ⟨vs,H1,I1,r1,q1⟩=>hc pins s1 σ H1 vs us Q I1 r1 q1) he hpl
theorem a6n (hc:a1l X (.type T) r)(hg:Gl X x)(hm:X.mg x=none)(hv:bootBuiltins x=some (.type T))(ha:PA X (e :: es) t)(hn:x≠"__name__":=by decide)(hdb:(x == ("__debug__":Str))=false:=by decide)
  (he:starEach (e :: es) X.env=(false,eval e X.env) :: starEach es X.env:=by rfl)(hpl:(backTo pos (starEach es X.env)).any (·.1)=false:=by rfl):PE X (.Call (.Name x p) (e :: es) [] pos) (tCB r t):=by
 intro pins s σ H Q I h
 refine wpAny_Call_Name_kw (a7x I hg hm hv ?_ hn hdb)
 exact PyProof.Rows.callWith_type1 (thn (ha pos pins s σ H _ I h) λus s1 ⟨vs,H1,I1,r1,q1⟩=>hc pins s1 σ H1 vs us Q I1 r1 q1) he hpl
end
end L2
namespace HT
open PySem PyProof.Rows
def lexLt:List Int->List Int->Bool
 | [],[]=>false
 | [],_ :: _=>true
 | _ :: _,[]=>false
 | x :: xs,y :: ys=>if x=y then lexLt xs ys else decide (x<y)
section
open PySem.SeqAt
open PySem.AutoSeq1 (wpAny_loadPart')
open PySem.MeetsSeq PySem.MeetsSeq2 PySem.MeetsSeq3
end
section
variable {prog:Program}{w:World}{A:Around}{E:Value->Shared->Prop}{s:Shared}
theorem cat_tup {t b:Addr}{vs ws:List Value}{Q:Value->Shared->Prop}(ht:IsTup s.heap t vs.toArray)(hb:IsTup s.heap b ws.toArray)(hv:vs≠[])
  (h1:ws=[]->Q (.ref t) s)(h2:ws≠[]->Q (.ref s.heap.objs.size) { s with heap:=s.heap.push { cls:=.type "tuple",data:=.seq (vs++ws).toArray } })
  (hsz:vs.length+ws.length<=sizeLine):wpAny (model prog w) A (binaryOp .Add (.ref t) (.ref b)) Q E s:=by
 obtain⟨⟨cls,dd,data,sl⟩,ho,hc,n,hd⟩:=id ht
 obtain⟨⟨cls2,dd2,data2,sl2⟩,ho2,hc2,n2,hd2⟩:=id hb
 simp only at hc hd hc2 hd2
 subst hc hd hc2 hd2
 have e:vs.toArray++ws.toArray=(vs++ws).toArray:=by simp
 by_cases hw:ws=[]
 ·exact concat_meets ⟨_,ho,rfl⟩ ⟨_,ho2,rfl⟩ noFill_tuple_add seq_tuple_add PySem.F.slot_tuple_add PySem.F.entry_tuple_add (PySem.F.args_tuple_add_2 _ _)
   (tuple_addW1 t b vs.toArray ws.toArray n n2 dd dd2 sl sl2 (by simpa using hv) (by simp[hw])) ⟨ho,ho2,h1 hw⟩
 ·refine concat_meets ⟨_,ho,rfl⟩ ⟨_,ho2,rfl⟩ noFill_tuple_add seq_tuple_add PySem.F.slot_tuple_add PySem.F.entry_tuple_add (PySem.F.args_tuple_add_2 _ _)
   (tuple_addW2 t b vs.toArray ws.toArray n n2 dd dd2 sl sl2 (by simpa using hv) (by simpa using hw) (by rw[List.size_toArray,List.size_toArray];exact hsz)) ⟨ho,ho2,?_⟩
  rw[e]
  exact h2 hw
def sIx (n d:Nat):Option Int->Nat
 | none=>d
 | some v=>if v<0 then (v+(n:Int)).toNat else min v.toNat n
theorem d0j (n d:Nat)(hd:d<=n)(o:Option Int):sIx n d o<=n:=by
 cases o with
 | none=>exact hd
 | some v =>
  show (if v<0 then (v+(n:Int)).toNat else min v.toNat n)<=n
  by_cases hv:v<0
  ·rw[if_pos hv];lia
  ·rw[if_neg hv];exact Nat.min_le_right _ _
theorem c0g (v:Int) (n d:Nat):(if v<0 then max (v+(n:Int)) 0 else min v (n:Int))=((sIx n d (some v):Nat):Int):=by
 show (if v<0 then max (v+(n:Int)) 0 else min v (n:Int))=(((if v<0 then (v+(n:Int)).toNat else min v.toNat n):Nat):Int)
 by_cases hv:v<0
 ·simp only[if_pos hv];lia
 ·simp only[if_neg hv];lia
theorem b6a (lo hi:Option Int) (n:Nat):Builtin.Slice.sliceAdjust lo hi 1 (n:Int)=(((sIx n 0 lo:Nat):Int),((sIx n n hi:Nat):Int)):=by
 have h1:¬ ((1:Int)<0):=by lia
 unfold Builtin.Slice.sliceAdjust
 simp only[h1,if_false]
 refine Prod.ext ?_ ?_
 ·cases lo with
  | none=>rfl
  | some v=>exact c0g v n 0
 ·cases hi with
  | none=>rfl
  | some v=>exact c0g v n n
theorem b5h (i j:Nat):Builtin.Slice.slicePlaces (i:Int) (j:Int) 1=j-i:=by
 unfold Builtin.Slice.slicePlaces
 have h1:(1:Int) > 0:=by lia
 simp only[h1,if_true,Int.ediv_one]
 split<;>lia
theorem a7n {v:Value}{o:Option Int}{Q:Option Int->Shared->Prop}(p:IsPart v o)(h:Q o s):wpAny (model prog w) A (Builtin.Slice.slicePartIndex v) Q E s:=by
 cases p with
 | none=>exact slicePart_none h
 | int i t=>exact slicePart_int h
theorem sliceApplied_gen {sl:Addr}{vl vu:Value}{lo hi:Option Int}{n:Nat}{Q:Int×Int×Nat->Shared->Prop}(hs:s.heap.IsSliceOf sl vl vu .none)(pl:IsPart vl lo)(pu:IsPart vu hi)
  (h:Q (((sIx n 0 lo:Nat):Int),1,sIx n n hi-sIx n 0 lo) s):wpAny (model prog w) A (Builtin.Slice.sliceApplied (.ref sl) (pure (n:Int))) Q E s:=by
 obtain⟨os,hos,hcs,hds⟩:=id hs
 unfold Builtin.Slice.sliceApplied Builtin.Slice.sliceFields
 refine Γa (Γa (wpAny_field hos hds (x:=vl) rfl (Γa (wpAny_field hos hds (x:=vu) rfl (Γa (wpAny_field hos hds (x:=.none) rfl (Γb ?_)))))))
 refine Γa (slicePart_none ?_)
 show wpAny _ _ (if ((1:Int) == 0)=true then _ else _) _ _ s
 rw[if_neg (by decide)]
 refine Γa (a7n pl (Γa (a7n pu (Γa (Γb ?_)))))
 show wpAny _ _ (match Builtin.Slice.sliceAdjust lo hi 1 (n:Int) with|(lo,hi)=>pure (lo,(1:Int),Builtin.Slice.slicePlaces lo hi 1)) _ _ s
 rw[b6a lo hi n]
 show wpAny _ _ (pure (((sIx n 0 lo:Nat):Int),(1:Int),Builtin.Slice.slicePlaces ((sIx n 0 lo:Nat):Int) ((sIx n n hi:Nat):Int) 1)) _ _ s
 rw[b5h]
 exact Γb h
theorem c1z (xs:Array Value) (i k:Nat):((List.range k).filterMap λ(m:Nat)=>xs[((i:Int)+(m:Int)*1).toNat]?).toArray=((xs.toList.drop i).take k).toArray:=by
 have e:(λ(m:Nat)=>xs[((i:Int)+(m:Int)*1).toNat]?)=λm=>xs[i+m]?:=by
  funext m
  have:((i:Int)+(m:Int)*1).toNat=i+m:=by lia
  rw[this]
 rw[e]
 have:=pick_run xs i k
 rw[List.filterMap_map] at this
 have e2:((λx=>xs[x]?) ∘ λx=>i+x)=λm=>xs[i+m]?:=rfl
 rw[e2] at this
 rw[this]
theorem getItem_tuple_cut {t sl:Addr}{items:Array Value}{vl vu:Value}{lo hi:Option Int}{Q:Value->Shared->Prop}(ht:IsTup s.heap t items)(hs:s.heap.IsSliceOf sl vl vu .none)(pl:IsPart vl lo)(pu:IsPart vu hi)
  (hw:¬ (sIx items.size 0 lo=0/\sIx items.size items.size hi=items.size))
  (h:Q (.ref s.heap.objs.size) { s with heap:=s.heap.push { cls:=.type "tuple",data:=.seq ((items.toList.drop (sIx items.size 0 lo)).take (sIx items.size items.size hi-sIx items.size 0 lo)).toArray } })
  (hsz:items.size<=sizeLine):wpAny (model prog w) A (getItem (.ref t) (.ref sl)) Q E s:=by
 have htake:sizeOk (.seq ((items.toList.drop (sIx items.size 0 lo)).take (sIx items.size items.size hi-sIx items.size 0 lo)).toArray):=by
  show ((items.toList.drop (sIx items.size 0 lo)).take (sIx items.size items.size hi-sIx items.size 0 lo)).toArray.size<=sizeLine
  rw[List.size_toArray,List.length_take,List.length_drop,Array.length_toList]
  lia
 have hj:sIx items.size items.size hi<=items.size:=d0j _ _ (Γi _) hi
 obtain⟨os,hos,hcs,hds⟩:=id hs
 have hTs:s.TypeIs (.ref sl) "slice":=⟨os,hos,hcs⟩
 unfold getItem
 try with_reducible refine Γg ?_
 first|refine Γa (Γb ?_)|skip
 refine Γa (wpAny_sequenceKey ht.typeIs (by decide) ?_)
 refine Γa (wpAny_callSpecial?_slot (name:=Γe "__getitem__") ht.typeIs PyProof.Rows.slot_tuple_getitem
  (wpAny_call_entry PyProof.Rows.slot_tuple_getitem ht.typeIs entry_tuple_getitem ?_ (args_tuple_getitem _ _)))
 show wpAny _ _ (Builtin.Tuple.tupleItemsOf (.ref t) >>= _) _ _ s
 refine Γa (tupleItemsOf_ ht ?_)
 refine Γa (wpAny_typeOf hTs ?_)
 rw[if_pos (by decide)]
 refine Γa (sliceApplied_gen hs pl pu ?_)
 have hno:¬ ((((sIx items.size 0 lo:Nat):Int) == 0 && (1:Int) == 1 && (sIx items.size items.size hi-sIx items.size 0 lo) == items.size)=true):=by
  intro q
  rw[Bool.and_eq_true,Bool.and_eq_true] at q
  have q1:((sIx items.size 0 lo:Nat):Int)=0:=eq_of_beq q.1.1
  have q2:sIx items.size items.size hi-sIx items.size 0 lo=items.size:=eq_of_beq q.2
  exact hw ⟨by lia,by lia⟩
 show wpAny _ _ (if (((sIx items.size 0 lo:Nat):Int) == 0 && (1:Int) == 1 && (sIx items.size items.size hi-sIx items.size 0 lo) == items.size)=true then _ else _) _ _ s
 rw[if_neg hno,c1z]
 first
  | exact Γa (m:=Builtin.Tuple.tupleExact _) (wpAny_newObj_type (Γb ⟨_,rfl,Γb h⟩) htake)
  | exact Γa (m:=Builtin.Tuple.tupleExact _) (wpAny_newObj_type (Γa (Γb (Γb ⟨_,rfl,Γb h⟩))) htake)
  | exact Γa (Γa (m:=Builtin.Tuple.tupleExact _) (wpAny_newObj_type (Γb (Γb ⟨_,rfl,Γb h⟩)) htake))
  | exact Γa (Γa (m:=Builtin.Tuple.tupleExact _) (wpAny_newObj_type (Γb ⟨_,rfl,Γb h⟩) htake))
end
end HT
namespace L2
open PySem PySem.Spec PyProof.Rows
abbrev TO:=St->Hp->(Option Int->Hp->Prop)->Prop
def PO (X:Cx)(e:Option Expr)(t:TO):Prop :=
 ∀ (pins:List (Addr×Obj))(s:Shared)(σ:St)(H:Hp)(Q:Option Int->Hp->Prop),Inv X pins σ H s->t σ H Q ->
  wpAny (model X.prog X.w) X.A (evalPart e X.env) (λu s'=>∃ o H',Inv X pins σ H' s'/\IsPart u o/\Q o H') X.xe s
def c5t:TO:=λ_ H Q=>Q none H
def d6z (t:TE):TO:=λσ H Q=>t σ H λx H1=>∃ i,x=.int i/\Q (some i) H1
section
variable {X:Cx}{e:Expr}{te:TE}{lo hi:Option Expr}{tl th:TO}{pos p2:Pos}
theorem c6q:PO X none c5t:=by
 intro pins s σ H Q I h
 rw[evalPart_none]
 exact Γb ⟨none,H,I,.none,h⟩
theorem c6p (h:PE X e te):PO X (some e) (d6z te):=by
 intro pins s σ H Q I hw
 rw[evalPart_some]
 refine thn (h pins s σ H _ I hw) λu s1 ⟨x,H1,I1,r1,q1⟩=>?_
 obtain⟨i,rfl,q⟩:=q1
 obtain⟨t,rfl⟩:=r1
 exact⟨some i,H1,I1,.int i t,q⟩
def SlR (X:Cx)(r:V->Option Int->Option Int->Hp->VK->Prop):Prop :=
 ∀ (pins:List (Addr×Obj))(s:Shared)(σ:St)(H:Hp)(x:V)(v vl vu:Value)(lo hi:Option Int)(sl:Addr)(Q:VK),Inv X pins σ H s->RelV x v->s.heap.IsSliceOf sl vl vu .none->IsPart vl lo->IsPart vu hi->r x lo hi H Q ->
  ∃ T id,typeLookup (.type T) "__getitem__" = pure (some (.builtin id))/\s.TypeIs v T/\wpAny (model X.prog X.w) X.A (getItem v (.ref sl)) (EP X pins σ Q) X.xe s
def tSl (r:V->Option Int->Option Int->Hp->VK->Prop)(te:TE)(tl th:TO):TE:=λσ H Q=>te σ H λx H1=>tl σ H1 λl H2=>th σ H2 λu H3=>r x l u H3 Q
theorem b3u {r:V->Option Int->Option Int->Hp->VK->Prop}(hr:SlR X r)(he:PE X e te)(hl:PO X lo tl)(hu:PO X hi th):PE X (.Subscript e (.Slice lo hi none p2) pos) (tSl r te tl th):=by
 intro pins s σ H Q I h
 refine Subscript_ (thn (he pins s σ H _ I h) λv s1 ⟨x,H1,I1,r1,q1⟩=>?_)
 refine wpAny_Slice (thn (hl pins s1 σ H1 _ I1 q1) λvl s2 ⟨l,H2,I2,pl,q2⟩=>thn (hu pins s2 σ H2 _ I2 q2) λvu s3 ⟨u,H3,I3,pu,q3⟩=>?_)
 rw[evalPart_none]
 refine Γb ?_
 have I4:Inv X pins σ H3 { s3 with heap:=s3.heap.push { cls:=.type "slice",data:=.fields #[vl,vu,.none] } }:=I3.kept (t':=s3.toks) λb ob q=>Γc _ q
 obtain⟨T,id,hT,ht,hg⟩:=hr pins { s3 with heap:=s3.heap.push { cls:=.type "slice",data:=.fields #[vl,vu,.none] } } σ H3 x v vl vu l u s3.heap.objs.size Q I4 r1 (Heap.IsSliceOf.new ..) pl pu q3
 show wpAny (model X.prog X.w) X.A (subscriptTail e (.Slice lo hi none p2) v (.ref s3.heap.objs.size)) (EP X pins σ Q) X.xe { s3 with heap:=s3.heap.push { cls:=.type "slice",data:=.fields #[vl,vu,.none] } }
 exact tail_any (ops:=[.ref s3.heap.objs.size,v]) ht hT hg (by with_unfolding_all rfl)
def c5i (xs:List V)(lo hi:Option Int):List V:=(xs.drop (HT.sIx xs.length 0 lo)).take (HT.sIx xs.length xs.length hi-HT.sIx xs.length 0 lo)
theorem a6w (xs:List V)(lo hi:Option Int):(c5i xs lo hi).length<=xs.length:=by
 unfold c5i
 rw[List.length_take,List.length_drop]
 lia
def rSlT (K:Γd):V->Option Int->Option Int->Hp->VK->Prop:=λx lo hi H Q=>∃ a xs,x=.ref a/\SqT K H a xs /\
 ¬ (HT.sIx xs.length 0 lo=0/\HT.sIx xs.length xs.length hi=xs.length)/\∀ p,H p=none->Q (.ref p) (upd H p (.tup (c5i xs lo hi)))
theorem d0h:SlR X (rSlT X.K):=by
 intro pins s σ H x v vl vu lo hi sl Q I rx hs pl pu h
 obtain⟨a,xs,rfl,hx,hw,q⟩:=h
 cases rx
 obtain⟨its,r,ht,hz⟩:=I.tuple hx
 have hlen:its.toArray.size=xs.length:=by rw[List.size_toArray];exact r.length.symm
 refine⟨"tuple",_,PyProof.Rows.slot_tuple_getitem.lookup,ht.typeIs,?_⟩
 refine HT.getItem_tuple_cut ht hs pl pu (by rw[hlen];exact hw) ?_ (by rw[hlen];exact hz)
 rw[hlen]
 refine⟨.ref s.heap.objs.size,_,I.laid (t':=s.toks) (o:=.tup (c5i xs lo hi)) (λb ob q=>Γc _ q) (Γi _) ?_,rfl,q _ (I.hok.fresh (Γi _))⟩
 exact⟨Nat.le_trans (a6w xs lo hi) hz,_,(r.drop (HT.sIx xs.length 0 lo)).take (HT.sIx xs.length xs.length hi-HT.sIx xs.length 0 lo),IsTup.new _ _⟩
def d8i (K:Γd):R2:=λx y H Q=>∃ a b xs ys,x=.ref a/\y=.ref b/\SqT K H a xs/\SqT K H b ys/\xs≠[]/\xs.length+ys.length<=sizeLine /\
 (ys=[]->Q (.ref a) H)/\(ys≠[]->∀ p,H p=none->Q (.ref p) (upd H p (.tup (xs++ys))))
theorem Vals.nil_iff {xs:List V}{us:List Value}(r:Vals xs us):us=[]↔xs=[]:=by
 cases r with
 | nil=>simp
 | cons _ _=>simp
theorem c7d:OpR X (binaryOp .Add) (d8i X.K):=by
 intro pins s σ H x y v u Q I rx ry h
 obtain⟨a,b,xs,ys,rfl,rfl,ha,hb,hx,hz,q1,q2⟩:=h
 cases rx
 cases ry
 obtain⟨its,r1,p1,_⟩:=I.tuple ha
 obtain⟨its2,r2,p2,_⟩:=I.tuple hb
 refine HT.cat_tup p1 p2 (λz=>hx (r1.nil_iff.mp z)) (λz=>⟨.ref a,H,I,rfl,q1 (r2.nil_iff.mp z)⟩) (λz=>?_) (by rw[<- r1.length,<- r2.length];exact hz)
 refine⟨.ref s.heap.objs.size,_,I.laid (t':=s.toks) (o:=.tup (xs++ys)) (λb ob q=>Γc _ q) (Γi _) ?_,rfl,q2 (λw=>z (r2.nil_iff.mpr w)) _ (I.hok.fresh (Γi _))⟩
 exact⟨by rw[List.length_append];exact hz,_,r1.append r2,IsTup.new _ _⟩
end
end L2
namespace L2
open PySem PySem.Spec PyProof.Rows
def ixN (n:Nat) (i:Int):Option Nat:=if 0<=i then (if i<n then some i.toNat else none) else if -(n:Int)<=i then some (i+n).toNat else none
def atI {α:Type}(xs:List α) (i:Int):Option α:=(ixN xs.length i).bind λj=>xs[j]?
theorem b8m {n:Nat}{i:Int}{j:Nat}(h:ixN n i=some j):seqIndex? i n=some j/\j<n/\-(n:Int)<=i/\i<n:=by
 unfold ixN at h
 by_cases h0:0<=i
 ·rw[if_pos h0] at h
  by_cases h1:i<n
  ·rw[if_pos h1] at h
   have e:i.toNat=j:=Option.some.inj h
   exact⟨by rw[seqIndex_of h0 h1,e],by lia,by lia,h1⟩
  ·rw[if_neg h1] at h;cases h
 ·rw[if_neg h0] at h
  by_cases h1:-(n:Int)<=i
  ·rw[if_pos h1] at h
   have e:(i+n).toNat=j:=Option.some.inj h
   exact⟨by rw[seqIndex_neg (by lia) h1,e],by lia,h1,by lia⟩
  ·rw[if_neg h1] at h;cases h
theorem c0p {α:Type}{xs:List α}{i:Int}{v:α}(h:atI xs i=some v):∃ j,seqIndex? i xs.length=some j/\xs[j]?=some v/\j<xs.length/\-(xs.length:Int)<=i/\i<xs.length:=by
 unfold atI at h
 cases e:ixN xs.length i with
 | none=>rw[e] at h;cases h
 | some j =>
  rw[e] at h
  obtain⟨h1,h2,h3,h4⟩:=b8m e
  exact⟨j,h1,h,h2,h3,h4⟩
def c0x (b:Expr):Prop:=∀ o i,subscripted b false o i=operate [o,i] (getItem o i)
def IxR (X:Cx)(r:R2):Prop :=
 ∀ (value slice:Expr)(pins:List (Addr×Obj))(s:Shared)(σ:St)(H:Hp)(x y:V)(v u:Value)(Q:VK),Inv X pins σ H s->RelV x v->RelV y u->r x y H Q ->
  subscripted slice false v u=operate [v,u] (getItem v u)->wpAny (model X.prog X.w) X.A (subscriptTail value slice v u) (EP X pins σ Q) X.xe s
def MtR (X:Cx)(id:String)(r:V->List V->Hp->VK->Prop):Prop :=
 ∀ (pins:List (Addr×Obj))(s:Shared)(σ:St)(H:Hp)(x:V)(xs:List V)(v:Value)(us:List Value)(Q:VK),Inv X pins σ H s->RelV x v->Vals xs us->r x xs H Q ->
  wpAny (model X.prog X.w) X.A (call (.builtin id) (v :: us)) (EP X pins σ Q) X.xe s
section
variable {X:Cx}{a b:Expr}{ta tb:TE}{pos:Pos}
theorem d1o {r:R2}(hr:IxR X r)(ha:PE X a ta)(hb:PE X b tb)(hs:c0x b):PE X (.Subscript a b pos) (tOp r ta tb):=by
 intro pins s σ H Q I h
 exact Subscript_ (e3f ha hb I h λv u s2 x y H2 I2 rx ry q=>hr a b pins s2 σ H2 x y v u Q I2 rx ry q (hs _ _))
def rIxL (K:Γd):R2:=λx y H Q=>∃ p xs i v,x=.ref p/\y=.int i/\SqL K H p xs/\atI xs i=some v/\Q v H
def rIxT (K:Γd):R2:=λx y H Q=>∃ p xs i v,x=.ref p/\y=.int i/\SqT K H p xs/\atI xs i=some v/\Q v H
theorem c7w:IxR X (rIxL X.K):=by
 intro value slice pins s σ H x y v u Q I rx ry h hs
 obtain⟨p,xs,i,z,rfl,rfl,hq,he,q⟩:=h
 cases rx
 obtain⟨t,rfl⟩:=ry
 obtain⟨its,r,pl,hz⟩:=I.list hq
 obtain⟨j,h1,h2,h3,h4,h5⟩:=c0p he
 obtain⟨w,ew,rw'⟩:=r.get h2
 have hl:=r.length
 have hn:=b0l
 have fin:EP X pins σ Q w s:=⟨z,H,I,rw',q⟩
 by_cases h0:0<=i
 ·have hj:i.toNat=j:=by
   rw[seqIndex_of h0 h5] at h1
   exact Option.some.inj h1
  exact item_listR pl.isList h0 (by lia) (by rw[hj];simpa using ew) fin hs
 ·have hj:(i+(its.toArray.size:Int)).toNat=j:=by
   rw[seqIndex_neg (by lia) h4] at h1
   rw[List.size_toArray,<- hl]
   exact Option.some.inj h1
  exact subscriptTail_builtinR (x:=w) pl.isList.typeIs slot_list_getitem.lookup
   (wpAny_getItem_list_neg (Q:=λr s'=>r=w/\EP X pins σ Q r s') pl.isList (by lia) (by rw[List.size_toArray]<;>lia) (by lia) (by rw[hj];simpa using ew) ⟨rfl,fin⟩) hs
theorem d2x:IxR X (rIxT X.K):=by
 intro value slice pins s σ H x y v u Q I rx ry h hs
 obtain⟨p,xs,i,z,rfl,rfl,hq,he,q⟩:=h
 cases rx
 obtain⟨t,rfl⟩:=ry
 obtain⟨its,r,pl,hz⟩:=I.tuple hq
 obtain⟨j,h1,h2,h3,h4,h5⟩:=c0p he
 obtain⟨w,ew,rw'⟩:=r.get h2
 have hl:=r.length
 have hn:=b0l
 have fin:EP X pins σ Q w s:=⟨z,H,I,rw',q⟩
 exact subscriptTail_builtinR (x:=w) pl.typeIs slot_tuple_getitem.lookup
  (getItem_tuple (j:=j) (Q:=λr s'=>r=w/\EP X pins σ Q r s') pl (by lia) (by lia) (by rw[List.size_toArray,<- hl];exact h1) (by simpa using ew) ⟨rfl,fin⟩) hs
theorem b5j (its:List Value) (n j:Nat)(u:Value):Obj.mapSeq (·.setIfInBounds j u) { cls:=.type "list",data:=.seq its.toArray n } = { cls:=.type "list",data:=.seq (its.set j u).toArray n }:=by
 simp[Obj.mapSeq]
theorem Inv.lst {pins:List (Addr×Obj)}{σ:St}{H:Hp}{s:Shared}{p:Addr}{xs:List V}(I:Inv X pins σ H s)(h:H p=some (.lst xs)) :
  ∃ (its:List Value) (n:Nat),Vals xs its/\s.heap.get? p=some { cls:=.type "list",data:=.seq its.toArray n }/\xs.length<=sizeLine:=by
 obtain⟨z,its,n,r,e⟩:=I.hok p _ h
 exact⟨its,n,r,e,z⟩
theorem Inv.lstUpd {pins:List (Addr×Obj)}{σ:St}{H:Hp}{s:Shared}{p:Addr}{xs ys:List V}{its its':List Value}{n n':Nat}{f:Obj->Obj}(I:Inv X pins σ H s)(h:H p=some (.lst xs))
  (ho:s.heap.get? p=some { cls:=.type "list",data:=.seq its.toArray n })(hf:f { cls:=.type "list",data:=.seq its.toArray n } = { cls:=.type "list",data:=.seq its'.toArray n' })(r:Vals ys its')(hz:ys.length<=sizeLine) (t:Nat) :
  Inv X pins σ (upd H p (.lst ys)) { s with heap:=s.heap.update p f,toks:=t }:=by
 have e:(s.heap.update p f).get? p=some { cls:=.type "list",data:=.seq its'.toArray n' }:=by
  rw[Heap.get?_update_self f ho (by rw[hf]<;>rfl),hf]
 refine I.write (x:=p) (e:=p) (by rw[h];trivial) (.inl rfl) (λb u hb q=>(Γf _ _ (Ne.symm hb)).trans q) ⟨_,e⟩ ?_
 exact⟨hz,its',n',r,e⟩
def d8g:V->V->V->Hp->(Hp->Prop)->Prop:=λo i v H Q=>∃ p xs k j,o=.ref p/\i=.int k/\H p=some (.lst xs)/\ixN xs.length k=some j/\Q (upd H p (.lst (xs.set j v)))
theorem c1l:PSet X d8g:=by
 intro pins s σ H o i v ov iv u Q I ro ri rv h
 obtain⟨p,xs,k,j,rfl,rfl,hp,hj,q⟩:=h
 cases ro
 obtain⟨t,rfl⟩:=ri
 obtain⟨its,n,r,ho,hz⟩:=I.lst hp
 obtain⟨h1,h2,h3,h4⟩:=b8m hj
 have hl:=r.length
 have hn:=b0l
 have I':Inv X pins σ (upd H p (.lst (xs.set j v))) { s with heap:=s.heap.update p (Obj.mapSeq (·.setIfInBounds j u)) } :=
  I.lstUpd hp ho (b5j its n j u) (r.set rv j) (by rw[List.length_set];exact hz) s.toks
 by_cases h0:0<=k
 ·have hk:k.toNat=j:=by
   rw[seqIndex_of h0 h4] at h1
   exact Option.some.inj h1
  exact PySem.W.ki_setAt ho h0 (by lia) (by rw[List.size_toArray,<- hl];exact h4) (by rw[hk];exact⟨_,I',q⟩)
 ·have hk:(k+(its.toArray.size:Int)).toNat=j:=by
   rw[seqIndex_neg (by lia) h3] at h1
   rw[List.size_toArray,<- hl]
   exact Option.some.inj h1
  exact PySem.W.ki_setBack ho (by lia) (by rw[List.size_toArray,<- hl];exact h3) (by lia) (by rw[hk];exact⟨_,I',q⟩)
theorem a9t (lo hi:Option Int) (n:Nat):(sliceBounds lo hi none n).1=((HT.sIx n 0 lo:Nat):Int)/\(sliceBounds lo hi none n).2.1=((HT.sIx n n hi:Nat):Int)/\(sliceBounds lo hi none n).2.2=1:=by
 refine⟨?_,?_,rfl⟩
 ·cases lo with
  | none=>simp[sliceBounds,HT.sIx]
  | some i =>
   simp only[sliceBounds,HT.sIx,Option.getD_none,show (1:Int) > 0 by decide,if_true]
   by_cases h:i<0
   ·simp only[h,if_true]<;>lia
   ·simp only[h,if_false]<;>lia
 ·cases hi with
  | none=>simp[sliceBounds,HT.sIx]
  | some i =>
   simp only[sliceBounds,HT.sIx,Option.getD_none,show (1:Int) > 0 by decide,if_true]
   by_cases h:i<0
   ·simp only[h,if_true]<;>lia
   ·simp only[h,if_false]<;>lia
theorem a8l (its:List Value)(lo hi:Option Int):slicePick its.toArray lo hi none=((its.drop (HT.sIx its.length 0 lo)).take (HT.sIx its.length its.length hi-HT.sIx its.length 0 lo)).toArray:=by
 obtain⟨h1,h2,h3⟩:=a9t lo hi its.toArray.size
 unfold slicePick
 rw[h1,h2,h3]
 simp only[sliceRange_one,pick_run,List.size_toArray]<;>rfl
def rSlL (K:Γd):V->Option Int->Option Int->Hp->VK->Prop:=λx lo hi H Q=>∃ a xs,x=.ref a/\SqL K H a xs/\∀ p,H p=none->Q (.ref p) (upd H p (.lst (c5i xs lo hi)))
theorem b6y:SlR X (rSlL X.K):=by
 intro pins s σ H x v vl vu lo hi sl Q I rx hs pl pu h
 obtain⟨a,xs,rfl,hx,q⟩:=h
 cases rx
 obtain⟨its,r,ht,hz⟩:=I.list hx
 have hlen:=r.length
 refine⟨"list",_,slot_list_getitem.lookup,ht.isList.typeIs,?_⟩
 refine wpAny_getItem_list_slice ht.isList hs pl pu .none (by simp) ?_ (by rw[List.size_toArray]<;>lia)
 rw[a8l,<- hlen]
 refine⟨.ref s.heap.objs.size,_,I.laid (t':=s.toks) (o:=.lst (c5i xs lo hi)) (λb ob q=>Γc _ q) (Γi _) ?_,rfl,q _ (I.hok.fresh (Γi _))⟩
 exact⟨Nat.le_trans (a6w xs lo hi) hz,_,0,(r.drop (HT.sIx xs.length 0 lo)).take (HT.sIx xs.length xs.length hi-HT.sIx xs.length 0 lo),Γm _ rfl⟩
theorem b1n:a1l X (.builtin "len") (λxs H Q=>∃ p ys,xs=[.ref p]/\(SqL X.K H p ys ∨ SqT X.K H p ys)/\Q (.int ys.length) H):=by
 intro pins s σ H xs us Q I r h
 obtain⟨p,ys,rfl,hq,q⟩:=h
 obtain⟨u,rfl,rx⟩:=a3e r
 cases rx
 have hn:=b0l
 rcases hq with hq|hq
 ·obtain⟨its,r',pl,hz⟩:=I.list hq
  have hlen:=r'.length
  exact Calls.call_len_list pl.isList (by simp only[List.size_toArray]<;>lia) ⟨.int ys.length,H,I.tok _,⟨s.toks+1,by rw[List.size_toArray,hlen]⟩,q⟩
 ·obtain⟨its,r',pl,hz⟩:=I.tuple hq
  have hlen:=r'.length
  exact len_tuple pl (by simp only[List.size_toArray]<;>lia) ⟨.int ys.length,H,I.tok _,⟨s.toks+1,by rw[List.size_toArray,hlen]⟩,q⟩
theorem b1m:a1l X (.type "list") (λxs H Q=>∃ p ys,xs=[.ref p]/\(SqL X.K H p ys ∨ SqT X.K H p ys)/\∀ l,H l=none->Q (.ref l) (upd H l (.lst ys))):=by
 intro pins s σ H xs us Q I r h
 obtain⟨p,ys,rfl,hq,q⟩:=h
 obtain⟨u,rfl,rx⟩:=a3e r
 cases rx
 have fin:∀ (its:List Value),Vals ys its->ys.length<=sizeLine->∀ (h':Heap) (c':Nat),(∀ b o',s.heap.get? b=some o'->h'.get? b=some o') ->
   h'.get? s.heap.objs.size=some { cls:=.type "list",dict:=none,data:=.seq its.toArray c',slots:=#[] }->EP X pins σ Q (.ref s.heap.objs.size) { s with heap:=h' }:=λits r' hz h' c' kp e =>
  ⟨.ref s.heap.objs.size,_,I.laid (t':=s.toks) kp (Γi _) (show ObjOk X.prog X.w _ h' _ (.lst ys) from ⟨hz,its,c',r',e⟩),rfl,q _ (I.hok.fresh (Γi _))⟩
 rcases hq with hq|hq
 ·obtain⟨its,r',pl,hz⟩:=I.list hq
  have hlen:=r'.length
  obtain⟨o,ho,hc,n,hd⟩:=pl.isList
  exact call_list_seq p (.inl rfl) ho hc hd (λh' c' kp e=>fin its r' hz h' c' kp e) (by simp only[List.size_toArray]<;>lia)
 ·obtain⟨its,r',pl,hz⟩:=I.tuple hq
  have hlen:=r'.length
  obtain⟨o,ho,hc,n,hd⟩:=pl
  exact call_list_seq p (.inr rfl) ho hc hd (λh' c' kp e=>fin its r' hz h' c' kp e) (by simp only[List.size_toArray]<;>lia)
theorem a3h:a1l X (.type "tuple") (λxs H Q=>∃ p ys,xs=[.ref p]/\((SqL X.K H p ys/\∀ l,H l=none->Q (.ref l) (upd H l (.tup ys))) ∨ (SqT X.K H p ys/\Q (.ref p) H))):=by
 intro pins s σ H xs us Q I r h
 obtain⟨p,ys,rfl,h⟩:=h
 obtain⟨u,rfl,rx⟩:=a3e r
 cases rx
 rcases h with⟨hq,q⟩|⟨hq,q⟩
 ·obtain⟨its,r',pl,hz⟩:=I.list hq
  have hlen:=r'.length
  refine call_tuple_list pl.isList (λh' kp=>?_) (by simp only[List.size_toArray]<;>lia)
  have I1:Inv X pins σ H { s with heap:=h' }:=I.kept (t':=s.toks) kp
  have I2:Inv X pins σ (upd H h'.objs.size (.tup ys)) { s with heap:=h'.push { cls:=.type "tuple",data:=.seq its.toArray } } :=
   I1.laid (t':=s.toks) (λb o e=>Γc _ e) (Γi _) (show ObjOk X.prog X.w _ _ _ (.tup ys) from ⟨hz,its,r',IsTup.new _ _⟩)
  exact⟨.ref h'.objs.size,_,I2,rfl,q _ (I1.hok.fresh (Γi _))⟩
 ·obtain⟨its,r',pl,hz⟩:=I.tuple hq
  exact call_tuple_same pl ⟨.ref p,H,I,rfl,q⟩
def tyV (K:Γd)(T:String)(x:V)(H:Hp):Prop:=match x with
 | .str _=>T = "str"
 | .int _=>T = "int"
 | .ref p=>(T = "list"/\∃ xs,SqL K H p xs) ∨ (T = "tuple"/\∃ o,K.lookup p=some o/\o.cls=.type "tuple"/\o.dict=none) ∨
   (T = "dict"/\((∃ kvs,H p=some (.dK kvs)) ∨ ∃ kvs,H p=some (.dT kvs))) ∨ (T = "set"/\∃ S n,H p=some (.set S n))
 | _=>False
theorem c9r {pins:List (Addr×Obj)}{σ:St}{H:Hp}{s:Shared}{T:String}{x:V}{v:Value}(I:Inv X pins σ H s)(r:RelV x v)(ty:tyV X.K T x H) :
  s.TypeIs v T/\∀ a,v=.ref a->∃ ob,s.heap.get? a=some ob/\ob.dict=none:=by
 cases x with
 | str z =>
  obtain⟨t,rfl⟩:=r
  cases (show T = "str" from ty)
  exact⟨typeIs_str s z t,λ_ e=>nomatch e⟩
 | int i =>
  obtain⟨t,rfl⟩:=r
  cases (show T = "int" from ty)
  exact⟨typeIs_int s i t,λ_ e=>nomatch e⟩
 | ref p =>
  cases r
  rcases ty with⟨rfl,xs,hq⟩|⟨rfl,o,hk,hc,hd⟩|⟨rfl,hk⟩|⟨rfl,S,n,hk⟩
  ·obtain⟨its,_,pl,_⟩:=I.list hq
   refine⟨pl.isList.typeIs,λa e=>?_⟩
   cases e
   obtain⟨o,n,e,c,hd,_⟩:=pl
   exact⟨o,e,hd⟩
  ·refine⟨⟨o,I.kIn p o hk,hc⟩,λa e=>?_⟩
   cases e
   exact⟨o,I.kIn _ o hk,hd⟩
  ·have z:∃ o,s.heap.get? p=some o/\o.ExactDict:=by
    rcases hk with⟨kvs,hk⟩|⟨kvs,hk⟩
    ·obtain⟨_,_,_,_,o,_,_,e,ex,_⟩:=I.hok p _ hk
     exact⟨o,e,ex⟩
    ·obtain⟨_,_,_,_,o,_,_,e,ex,_⟩:=I.hok p _ hk
     exact⟨o,e,ex⟩
   obtain⟨o,e,ex⟩:=z
   refine⟨⟨o,e,ex.1⟩,λa e2=>?_⟩
   cases e2
   exact⟨o,e,ex.2.1⟩
  ·obtain⟨o,_,_,_,e,ex,_⟩:=I.hok p _ hk
   refine⟨⟨o,e,ex.1⟩,λa e2=>?_⟩
   cases e2
   exact⟨o,e,ex.2.1⟩
 | _=>exact False.elim ty
def tBM (K:Γd)(T:String)(r:V->List V->Hp->VK->Prop)(to:TE)(t:TA):TE:=λσ H Q=>to σ H λx H1=>tyV K T x H1/\t σ H1 λxs H2=>r x xs H2 Q
variable {o e:Expr}{es:List Expr}{to:TE}{t:TA}{name:Str}{apos cpos:Pos}{T id:String}{r:V->List V->Hp->VK->Prop}
theorem d8x (pa:PlainAttrs T)(slot:Slot T name id)(hty:typeOf (.builtin id)=pure (.type "method_descriptor"))(hm:MtR X id r)(ho:PE X o to)(ha:PA X (e :: es) t)
  (hbase:attributeBase o name X.env (eval o X.env)=eval o X.env:=by rfl)
  (hfew:((backTo cpos (starEach (e :: es) X.env)).all (λx=>!x.1) && (backToKw cpos (keywordEach [] X.env)).all (λx=>x.1.isSome)
   && decide ((e :: es).length+([]:List Keyword).length+(if ([]:List Keyword).isEmpty then 0 else 1)<30))=true:=by rfl)
  (hline:(apos.endLine == cpos.line)=true:=by rfl)(hs:starEach (e :: es) X.env=(false,eval e X.env) :: starEach es X.env:=by rfl)(hplain:(backTo cpos (starEach es X.env)).any (·.1)=false:=by rfl) :
  PE X (.Call (.Attribute o name apos) (e :: es) [] cpos) (tBM X.K T r to t):=by
 intro pins s σ H Q I h
 refine wpAny_Call_method_late hbase hfew hline rfl (thn (ho pins s σ H _ I h) λv s1 ⟨x,H1,I1,r1,ty,q1⟩=>?_)
 obtain⟨h1,h2⟩:=c9r I1 r1 ty
 refine⟨T,id,pa,slot,hty,h1,h2,?_⟩
 have hA:=ha cpos pins s1 σ H1 _ I1 q1
 rw[hs] at hA ⊢
 refine Calls.callWith_builtin (by show (false || (backTo cpos (starEach es X.env)).any (·.1))=false;rw[hplain]<;>rfl) (Calls.evalArgs_plain ?_)
 exact thn hA λus s2 ⟨vs,H2,I2,r2,q2⟩=>hm pins s2 σ H2 x vs v us Q I2 r1 r2 q2
end
end L2
namespace L2
open PySem PySem.Spec PyProof.Rows
def MtM (X:Cx)(id:String)(r:V->List V->Hp->VK->Prop):Prop :=
 ∀ (pins:List (Addr×Obj))(s:Shared)(σ:St)(H:Hp)(x:V)(xs:List V)(v:Value)(us:List Value)(Q:VK),Inv X pins σ H s->RelV x v->Vals xs us->r x xs H Q ->
  wpAny (model X.prog X.w) X.A (call (.builtin id) (v :: us)) (EP X pins σ Q) X.xe s
theorem Vals.one:∀ {x:V}{us:List Value},Vals [x] us->∃ u,us=[u]/\RelV x u
 | _,_,.cons r .nil=>⟨_,rfl,r⟩
theorem Vals.rep {xs:List V}{us:List Value}(h:Vals xs us):∀ k:Nat,Vals (Γj k xs).flatten (Γj k us).flatten
 | 0=>.nil
 | k+1=>by
  rw[List.replicate_succ,List.replicate_succ,List.flatten_cons,List.flatten_cons]
  exact Vals.append h (Vals.rep h k)
theorem b0w (its:List Value):∀ (k:Nat)(acc:List Value),
  List.foldl (λx1 x2=>x1++x2) acc.toArray (Γj k its.toArray)=(acc++(Γj k its).flatten).toArray
 | 0,acc=>by simp
 | k+1,acc=>by
  have e:acc.toArray++its.toArray=(acc++its).toArray:=by simp
  have e2:(acc++its)++(Γj k its).flatten=acc++(Γj (k+1) its).flatten:=by
   rw[List.replicate_succ,List.flatten_cons,List.append_assoc]
  rw[<- e2,<- b0w its k (acc++its),<- e,List.replicate_succ,List.foldl_cons]
section
variable {X:Cx}{pins:List (Addr×Obj)}{σ:St}{H:Hp}{s:Shared}{l b:Addr}{xs ys zs:List V}
theorem Inv.lset {its its':List Value}{n:Nat}{f:Array Value->Array Value}{t':Nat}(I:Inv X pins σ H s)(hH:H l=some (.lst xs))
  (e:s.heap.get? l=some { cls:=.type "list",data:=.seq its.toArray n })(hf:f its.toArray=its'.toArray)(hv:Vals ys its')(hz:ys.length<=sizeLine) :
  Inv X pins σ (upd H l (.lst ys)) { s with heap:=s.heap.update l (Obj.mapSeq f),toks:=t' }:=by
 have q:=PySem.IsL.update e f
 rw[hf] at q
 refine I.write (x:=l) (e:=l) (by rw[hH];exact trivial) (.inl rfl) (λb' u hb hu=>(Γf s.heap (Obj.mapSeq f) (Ne.symm hb)).trans hu) ⟨_,q⟩ ?_
 exact⟨hz,its',_,hv,q⟩
theorem Inv.lnew {its:List Value}{t':Nat}(I:Inv X pins σ H s)(hv:Vals ys its)(hz:ys.length<=sizeLine) :
  Inv X pins σ (upd H s.heap.objs.size (.lst ys)) { s with heap:=s.heap.push { cls:=.type "list",data:=.seq its.toArray },toks:=t' } :=
 I.laid (λ_ _ q=>Γc _ q) (Γi _) ⟨hz,its,0,hv,Γm _ rfl⟩
theorem Inv.fresh (I:Inv X pins σ H s):H s.heap.objs.size=none:=I.hok.fresh (Γi _)
theorem Inv.lstM (I:Inv X pins σ H s)(hH:H l=some (.lst xs)):xs.length<=sizeLine/\∃ (its:List Value) (n:Nat),Vals xs its/\xs.length=its.length/\s.heap.get? l=some { cls:=.type "list",data:=.seq its.toArray n }:=by
 obtain⟨z,its,n,r,e⟩:=I.hok l _ hH
 exact⟨z,its,n,r,r.length,e⟩
theorem b3x {n:Nat}(h:n<=sizeLine):Builtin.List.listTooLong n=false:=by
 unfold Builtin.List.listTooLong
 exact decide_eq_false (by lia)
end
section
variable {X:Cx}
def c6e:V->List V->Hp->VK->Prop:=λx vs H Q=>∃ l xs y,x=.ref l/\vs=[y]/\H l=some (.lst xs)/\xs.length<sizeLine/\Q .non (upd H l (.lst (xs++[y])))
theorem b0h:MtM X "list.append" c6e:=by
 intro pins s σ H x vs v us Q I rx rv h
 obtain⟨l,xs,y,rfl,rfl,hH,hz,q⟩:=h
 cases rx
 obtain⟨u,rfl,ru⟩:=rv.one
 obtain⟨z,its,n,r,hl,e⟩:=I.lstM hH
 refine call_meets F.slot_list_append ⟨_,e,rfl⟩ F.entry_list_append (F.args_list_append_2 _ _) (PySem.list_append l its.toArray n u (by rw[List.size_toArray];lia)) ⟨e,?_⟩
 refine⟨.non,_,I.lset (its':=its++[u]) hH e (by simp) (r.append (.cons ru .nil)) ?_,rfl,q⟩
 rw[List.length_append,List.length_singleton]
 lia
def rCat:R2:=λx y H Q=>∃ l b xs zs,x=.ref l/\y=.ref b/\H l=some (.lst xs)/\H b=some (.lst zs)/\xs.length+zs.length<=sizeLine/\∀ p,H p=none->Q (.ref p) (upd H p (.lst (xs++zs)))
theorem d1x:OpR X (binaryOp .Add) rCat:=by
 intro pins s σ H x y v u Q I rx ry h
 obtain⟨l,b,xs,zs,rfl,rfl,hH,hB,hz,q⟩:=h
 cases rx
 cases ry
 obtain⟨z,its,n,r,hl,e⟩:=I.lstM hH
 obtain⟨z2,its2,n2,r2,hl2,e2⟩:=I.lstM hB
 refine PySem.P.add_list e e2 ?_ (by rw[List.size_toArray,List.size_toArray];lia)
 have ea:its.toArray++its2.toArray=(its++its2).toArray:=by simp
 rw[ea]
 exact⟨.ref _,_,I.lnew (t':=s.toks) (r.append r2) (by rw[List.length_append];lia),rfl,q _ I.fresh⟩
def rRep:R2:=λx y H Q=>∃ l k xs,x=.ref l/\y=.int k/\H l=some (.lst xs)/\-(2 ^ 63)<=k/\k<2 ^ 63/\xs.length*k.toNat<=sizeLine /\
 ∀ p,H p=none->Q (.ref p) (upd H p (.lst (Γj k.toNat xs).flatten))
theorem c7p {α:Type}(xs:List α) (k:Nat):(Γj k xs).flatten.length=k*xs.length:=by
 induction k with
 | zero=>simp
 | succ k ih=>rw[List.replicate_succ,List.flatten_cons,List.length_append,ih,Nat.succ_mul,Nat.add_comm]
theorem d1t:OpR X (binaryOp .Mult) rRep:=by
 intro pins s σ H x y v u Q I rx ry h
 obtain⟨l,k,xs,rfl,rfl,hH,h1,h2,hz,q⟩:=h
 cases rx
 obtain⟨t,rfl⟩:=ry
 obtain⟨z,its,n,r,hl,e⟩:=I.lstM hH
 have hlen:its.toArray.size*k.toNat<=sizeLine:=by rw[List.size_toArray,<- hl];exact hz
 have hcap:¬ its.toArray.size*k.toNat > (2 ^ 63-1) / 8:=by
  have:(sizeLine:Nat)<=(2 ^ 63-1) / 8:=by decide
  lia
 have hfit:¬ (!Builtin.List.listFitsIndex k)=true:=by
  rw[fitsIndex_both h1 h2]
  exact Γk
 have hlong:¬ Builtin.List.listTooLong (its.toArray.size*k.toNat)=true:=by
  rw[b3x hlen]
  exact Γk
 have hnew:List.foldl (λx1 x2=>x1++x2) #[] (Γj (if its.toArray.isEmpty=true then 0 else k.toNat) its.toArray)=(Γj k.toNat its).flatten.toArray:=by
  have f0:∀ m:Nat,List.foldl (λx1 x2=>x1++x2) #[] (Γj m its.toArray)=(Γj m its).flatten.toArray:=λm=>by
   have:=b0w its m []
   rw[List.nil_append] at this
   exact this
  rw[f0]
  cases its with
  | nil=>simp
  | cons a r'=>rw[if_neg (by simp)]
 refine wpAny_binaryOp_repeat_ref (T:="list") (U:="int") (by decide) ⟨_,e,rfl⟩ (λs'=>typeIs_int s' k t) noFill_list_mul F.fills_int_mul F.slot_int_rmul repeat_list F.slot_int_index.lookup
  (call_meets F.slot_int_rmul (typeIs_int s k t) F.entry_int_rmul (F.args_int_rmul_2 _ _) (int___rmul___int_list k t l its.toArray n)
   ⟨e,rfl,⟨_,e,rfl⟩,call_meets F.slot_list_mul ⟨_,e,rfl⟩ F.entry_list_mul (F.args_list_mul_2 _ _) (AutoListH.list___mul___list_int_3 l its.toArray n k t hfit hcap hlong) ⟨e,?_⟩⟩)
 rw[hnew]
 exact⟨.ref _,_,I.lnew (t':=s.toks) (r.rep k.toNat) (by rw[c7p,Nat.mul_comm];exact hz),rfl,q _ I.fresh⟩
end
section
variable {prog:Program}{w:World}{A:Around}{E:Value->Shared->Prop}{s:Shared}
set_option maxRecDepth 100000 in
end
section
variable {X:Cx}
end
end L2
namespace Att
open PySem PySem.W PySem.Calls PyProof.Rows
theorem a6t {P:Params}{h:Heap}:∀ (ns:List Int)(vs:List Value),WellAll P h vs (ns.map WData.int)->IntsAre vs ns:=by
 intro ns
 induction ns with
 | nil =>
  intro vs w
  rw[List.map_nil] at w
  cases w
  exact .nil
 | cons n ns ih =>
  intro vs w
  rw[List.map_cons] at w
  cases w with
  | cons a b =>
   cases a
   exact .cons _ _ (ih _ b)
theorem b6z {l:OpenLaw}{n:Nat}(hn:l.most=some n){P:Params}{h:Heap}{args:List WData}{vals:List Value}
  (hpre:l.row.toRowW.claim.pre args=true)(hwl:WellAll P h vals args) :
  ∃ a vs ns,vals=[Value.ref a]/\args=[WData.list (ns.map WData.int)]/\h.get? a=some { cls:=.type "list",data:=.seq vs.toArray }/\IntsAre vs ns/\ns.length<=n:=by
 have hsh:WShape.hasAll [] args [.list .int]=true:=(pre_splitW hpre).1
 have hc:l.pre.holds [] { args:=args } = true:=(pre_splitW hpre).2
 obtain⟨d,r,rfl,h1,h2⟩:=hasAllW_cons hsh
 obtain rfl:=hasAllW_nil h2
 obtain⟨xs,rfl,h3⟩:=hasW_list h1
 obtain⟨ns,rfl⟩:=items_int h3
 have hlen:ns.length<=n:=by
  unfold OpenLaw.pre at hc
  have h4:(WTm.not (.lt (.lit (.int (n:Int))) (.len (.arg 0)))).holds [] { args:=[.list (ns.map .int)] } = true:=by
   have h4:=(holds_andW hc).1
   rw[hn] at h4
   exact h4
  have h5:=condW_of h4 (w_not (w_lt w_lit (w_len_list (w_arg rfl))))
  rw[List.length_map] at h5
  refine Nat.le_of_not_lt λq=>?_
  have q':(n:Int)<((ns.length:Nat):Int):=by lia
  first
   | (rw[decide_eq_true q'] at h5;exact absurd h5 (by decide))
   | (simp at h5;lia)
 cases hwl with
 | cons w1 w2 =>
  cases w2
  cases w1 with
  | list ho hall=>exact⟨_,_,ns,rfl,rfl,ho,a6t ns _ hall,hlen⟩
theorem b7l (l:OpenLaw)(args:List WData):l.row.toRowW.claim.post args (.bool true) args=true :=
 postW_of (r:=l.row.toRowW) (X:=(true == true))
  (show WShape.has [] (.bool true) .bool=true by first|rfl|decide|simp[WShape.has,WShape.arms,WShape.armsAll])
  (show (WTm.eq .res (.lit (.bool true))).value [] { args:=args,res:=some (.bool true),after:=args } = some (.bool (true == true)) from w_eq_bool (w_res rfl) w_lit) rfl
theorem attach_call {l:OpenLaw}{n:Nat}{q:Program}{loose:List Str}{XP:(Str->Option Value)->Heap->Prop}{YP:World->Heap->Prop}{d:DefRec}
  (hn:l.most=some n)(hdf:d.params.defaults=[])
  (call:∀ (w:World)(s₀ s₁:Shared)(mg mb:Str->Option Value)(fa:Addr)(o:Obj)(pm cd doc:Value)(a:Addr)(vs:List Value)(ns:List Int),
   Ground q loose [] XP w s₀ mg mb s₁.heap->YP w s₁.heap ->
   s₁.heap.get? fa=some o->o.data=.func (docDef d.name d.params d.body d.scope pm cd doc)->s₁.heap.CodeRec cd d.name->mg d.name=some (.ref fa) ->
   s₁.heap.get? a=some { cls:=.type "list",data:=.seq vs.toArray }->IntsAre vs ns->ns.length<=n->s₁.gens = #[] ->
   codeAny (model l.prog w) callerA (.call (.ref fa) ⟨[.ref a],[]⟩) (λr s'=>r=.ok (.ret (.bool true))/\OldK s₁.heap s'.heap/\s'.os=s₁.os/\AllBare s'.gens) s₁) :
  WalkO q loose XP YP l.row.toRowW d [] (λf vs=>PySem.call f vs):=by
 intro w s₀ s₁ mg mb G Y fa o pm cd doc dV kV ho hd hcd hD hmg hg args vals as hpre hlay hrd hwl hlo
 obtain rfl:dV=.none:=Dflts.none hD hdf
 obtain rfl:kV=.none:=Dflts.noKw hD
 obtain⟨a,vs,ns,rfl,rfl,hobj,hints,hlen⟩:=b6z hn hpre hwl
 refine enter_call (codeAny_mono (call w s₀ s₁ mg mb fa o pm cd doc a vs ns G Y ho (fd_plain hd) hcd hmg hobj hints hlen hg) λr s' hq=>?_)
 obtain⟨rfl,h2,h3,h4⟩:=hq
 exact⟨.inl ⟨.bool true,.bool true,[],rfl,λ_=>rfl,.bool true,b7l l _,λ_=>⟨List.Pairwise.nil,λ_ hm=>(nomatch hm)⟩⟩,h2,h3,h4⟩
section
variable {prog:Program}{w:World}{A:Around}{E:Value->Shared->Prop}{s:Shared}{K:Frag}
end
end Att
namespace L2
open PySem PySem.Spec PyProof.Rows
theorem a9p:∀ {vs:List Value}{ns:List Int},IntsAre vs ns->Vals (ns.map V.int) vs
 | _,_,.nil=>.nil
 | _,_,.cons n t h=>.cons ⟨t,rfl⟩ (a9p h)
def d6u (H:Hp):Prop:=∀ b,H b=none ∨ ∃ o xs,H b=some (.frz o (.lst xs))
theorem c2u {P:Program}{w:World}{K:Γd}{mg mb:Str->Option Value}{CX:CXT}{k:Nat}{fa a:Addr}{fd:FuncData}{x:Str}{sp:Sp}{s₁:Shared}{vs:List Value}{ns:List Int}
  (KX:K.In s₁.heap)(hns:s₁.heap.Ns mainGlobals mg)(hb:s₁.heap.Ns builtinsNs mb)(hbb:∀ x:Str,x≠"__name__"->mb x=bootBuiltins x)(hlim:s₁.heap.NoLimit)(hg:s₁.gens = #[])
  (ha:s₁.heap.get? a=some { cls:=.type "list",data:=.seq vs.toArray })(hi:IntsAre vs ns)(hl:ns.length<=sizeLine)(hr:Room k callerA)
  (F:∀ base:Heap,K.In base->base.Ns mainGlobals mg->FnOk P w K mg base CX k fa fd [x] sp)(hbind:∀ (s:Shared)(u:Value),BindsTo s fd ⟨[u],[]⟩ [(x,u)])
  (hsp:∀ H:Hp,d6u H->SqL K H a (ns.map V.int)->sp [.ref a] H (λv _=>v=.bl true) λ_ _ _=>False)
  (hCX:∀ H e s',CX [] H s₁ (λ_ _ _=>False) e s'->False) :
  codeAny (model P w) callerA (.call (.ref fa) ⟨[.ref a],[]⟩) (λr s'=>r=.ok (.ret (.bool true))/\OldK s₁.heap s'.heap/\s'.os=s₁.os/\AllBare s'.gens) s₁:=by
 have rv:=a9p hi
 have lenV:=hi.length
 -- from an abstract heap in which nothing but the script may be tracked
 have core:∀ H:Hp,d6u H->SqL K H a (ns.map V.int)->HOk P w H s₁.heap->(∀ b,H b≠none->b=a)->(H a≠none->K.lookup a=none) ->
   codeAny (model P w) callerA (.call (.ref fa) ⟨[.ref a],[]⟩) (λr s'=>r=.ok (.ret (.bool true))/\OldK s₁.heap s'.heap/\s'.os=s₁.os/\AllBare s'.gens) s₁:=by
  intro H hO hS hok hA hK
  have base_of:∀ {b:Addr}{o:Obj},s₁.heap.get? b=some o->H b=none->(c3e s₁.heap H).get? b=some o:=λe n=>c3d e n
  have noA:∀ {b:Addr}{o:Obj}{es:Array DictEntry}{ep:Nat},s₁.heap.get? b=some o->o.data=.dict es ep->H b=none:=λ{b o es ep} e d=>by
   cases q:H b with
   | none=>rfl
   | some u =>
    have e':b=a:=hA b (by rw[q];simp)
    subst e'
    rw[ha] at e;cases e
    have d':Data.seq vs.toArray _=Data.dict es ep:=d
    cases d'
  have nsK:∀ {b:Addr}{m:Str->Option Value},s₁.heap.Ns b m->(c3e s₁.heap H).Ns b m:=λ{b m} ⟨o,es,ep,e,d,r⟩=>⟨o,es,ep,base_of e (noA e d),d,r⟩
  have hKb:K.In (c3e s₁.heap H):=λb o e=>base_of (KX b o e) (by
   cases q:H b with
   | none=>rfl
   | some u =>
    have e':b=a:=hA b (by rw[q];simp)
    subst e'
    rw[hK (by rw[q];simp)] at e;cases e)
  have hM:Mod K mg (c3e s₁.heap H):=⟨hKb,nsK hns,⟨mb,nsK hb,hbb⟩,let ⟨mc,h1,h2⟩:=hlim;⟨mc,nsK h1,h2⟩⟩
  have e0:Env0 P w K mg (c3e s₁.heap H) callerA [] s₁ H:=⟨rfl,hM,λb o e=>c7e e,Nat.le_of_eq (b8z _ _),trivial,λb hb=>absurd (show b∈([]:List Addr) from hb) (by simp),hok,.of_eq hg⟩
  refine codeAny_mono ((F _ hKb (nsK hns)).run callerA [] s₁ H ⟨[.ref a],[]⟩ [.ref a] [.ref a] _ _ hr e0 (hbind s₁ (.ref a)) (.cons rfl .nil) (hsp H hO hS)) λr s' h=>?_
  cases r with
  | error e=>exact (hCX H e s' h).elim
  | ok fl =>
   cases fl with
   | next=>exact False.elim h
   | brk=>exact False.elim h
   | cont=>exact False.elim h
   | ret u =>
    obtain⟨v,H',os,bare,un,hok',r',q⟩:=h
    have q':v=.bl true:=q
    subst q'
    obtain rfl:u=Value.bool true:=r'
    refine⟨rfl,OldK.of_keep λb o e=>?_,os,bare⟩
    cases q:H b with
    | none=>exact un.keep b o e q (by intro z;exact absurd (show b∈([]:List Addr) from z) (by simp)) (by simp)
    | some u =>
     rcases hO b with z|⟨ob,xs,z⟩
     ·rw[q] at z;cases z
     ·have z2:=un.frzs b ob _ z
      obtain⟨e1,_⟩:=hok b _ z
      obtain⟨e2,_⟩:=hok' b _ z2
      rw[e] at e1;cases e1
      exact e2
 cases hk:K.lookup a with
 | some o =>
  -- the script is one of the module's own objects
  have e:=KX a o hk
  rw[ha] at e
  cases e
  refine core (λ_=>none) (λ_=>.inl rfl) (.inr ⟨_,vs.toArray,_,hk,rfl,rfl,rfl,by rw[List.size_toArray,lenV];exact hl,by simpa using rv⟩) (λb u z=>by have z':(none:Option HO)=some u:=z;cases z') (λb z=>absurd rfl z) λz=>absurd rfl z
 | none =>
  refine core (λb=>if b=a then some (.frz { cls:=.type "list",data:=.seq vs.toArray } (.lst (ns.map V.int))) else none) (λb=>?_) (.inl (.inr ⟨{ cls:=.type "list",data:=.seq vs.toArray },if_pos rfl⟩)) (λb u z=>?_) (λb z=>?_) λ_=>hk
  ·by_cases hb:b=a
   ·exact .inr ⟨_,_,if_pos hb⟩
   ·exact .inl (if_neg hb)
  ·by_cases hb:b=a
   ·have z':=(if_pos hb).symm.trans z
    cases z'
    subst hb
    exact⟨ha,by rw[List.length_map];exact hl,vs,_,rv,ha⟩
   ·have z':=(if_neg hb).symm.trans z
    cases z'
  ·by_cases hb:b=a
   ·exact hb
   ·exact absurd (if_neg hb) z
end L2
namespace L2
open PySem PySem.Spec PyProof.Rows
end L2
namespace L2
open PySem PySem.Spec PyProof.Rows
def a5f (s:Stmt):Arguments:=match s with
 | .FunctionDef _ a _ _ _ _ _ _ _ _=>a
 | _=>{ posonlyargs:=[],args:=[],vararg:=none,kwonlyargs:=[],kw_defaults:=[],kwarg:=none,defaults:=[] }
def a2g (s:Stmt):List Stmt:=match s with
 | .FunctionDef _ _ b _ _ _ _ _ _ _=>b
 | _=>[]
def a0u (s:Stmt):Scope:=match s with
 | .FunctionDef _ _ _ _ _ _ sc _ _ _=>sc
 | _=>{ kind:=.function,names:=[],isGenerator:=false,isCoroutine:=false }
abbrev CX0:CXT:=λ_ _ _ _ _ _=>False
abbrev E0:XK:=λ_ _ _=>False
theorem d8z {X:Cx}:c0y CX0 X E0:=λ_ _ _ _ _ _ _ h=>h.elim
structure Fun (K:Γd)(x qual:Str)(st:Stmt)(f:Addr)(fd:FuncData):Prop where
 ex:∃ (oc:Value)(od:Option Addr)(kV doc pm:Value)(an:Option Addr)(cdv ct:Value)(osl:Array (Option Value)),
  fd=PySem.W.fnOf x qual (a5f st) (a2g st) (a0u st) .none kV doc pm an cdv ct/\K.lookup f=some ⟨oc,od,.func fd,osl⟩/\PySem.W.codeIn K cdv qual=true
 kp:PySem.W.keepIn K (.ref f)=true
section
variable {P:Program}{w:World}{K:Γd}{mg:Str->Option Value}{base:Heap}
theorem Fun.ok {x qual:Str}{st:Stmt}{f:Addr}{fd:FuncData}{N ps:List Str}{k:Nat}{sp:Sp}(F:Fun K x qual st f fd)(S:FnScope N ps (a0u st))(len:∀ vs H Q E,sp vs H Q E->vs.length=ps.length)
  (hbody:∀ (cdv:Value)(A:Around)(outer:List Env)(s:Shared)(H:Hp)(vs:List V)(Q:VK)(E:XK),RoomS k (A.deeper (envOfC qual (a0u st) s.heap.objs.size f cdv))->sp vs H Q E ->
   ∃ t,PSs (c8u CX0 P w K mg base N qual (a0u st) f cdv A outer s H E).nox (a2g st) t/\t { nx:=λ_ H'=>Q .non H',rt:=Q } (start N vs) H):FnOk P w K mg base CX0 (k+1) f fd ps sp:=by
 obtain⟨oc,od,kV,doc,pm,an,cdv,ct,osl,rfl,lk,hcd⟩:=F.ex
 refine e0m lk hcd S len λA outer s H vs Q E hr hsp=>?_
 obtain⟨t,h,q⟩:=hbody cdv A outer s H vs Q E hr hsp
 exact⟨t,h.nox,q⟩
theorem Fun.binds {x qual:Str}{st:Stmt}{f:Addr}{fd:FuncData}{ps:List Str}(F:Fun K x qual st f fd)
  (h:∀ (kV doc pm:Value)(an:Option Addr)(cdv ct:Value)(us:List Value),us.length=ps.length->bindArgs (PySem.W.fnOf x qual (a5f st) (a2g st) (a0u st) .none kV doc pm an cdv ct) ⟨us,[]⟩=pure (ps.zip us)):Binds K fd ps []:=by
 obtain⟨oc,od,kV,doc,pm,an,cdv,ct,osl,rfl,lk,hcd⟩:=F.ex
 exact .all (h kV doc pm an cdv ct)
theorem d3g {x qual:Str}{st:Stmt}{f:Addr}{oc:Value}{od an:Option Addr}{osl:Array (Option Value)}{kV doc pm cdv ct:Value}(l:K.lookup f=some ⟨oc,od,.func (PySem.W.fnOf x qual (a5f st) (a2g st) (a0u st) .none kV doc pm an cdv ct),osl⟩)
  (c:PySem.W.codeIn K cdv qual=true)(k:PySem.W.keepIn K (.ref f)=true):Fun K x qual st f (PySem.W.fnOf x qual (a5f st) (a2g st) (a0u st) .none kV doc pm an cdv ct):=⟨⟨oc,od,kV,doc,pm,an,cdv,ct,osl,rfl,l,c⟩,k⟩
end
section
variable {X:Cx}
end
def Same (H H':Hp):Prop:=∀ b o,H b=some o->H' b=some o
theorem Same.refl (H:Hp):Same H H:=λ_ _ h=>h
theorem Same.trans {H H1 H2:Hp}(a:Same H H1)(b:Same H1 H2):Same H H2:=λc o h=>b c o (a c o h)
end L2
end
section
namespace L2
open PySem PySem.Spec PyProof.Rows
section
variable {κ:Type} [DecidableEq κ]
def a9n (kvs:List (κ×V))(k:κ):Option V:=(kvs.find? λkv=>decide (kv.1=k)).map (·.2)
def a4z (kvs:List (κ×V))(k:κ)(v:V):List (κ×V) :=
 if (kvs.any λkv=>decide (kv.1=k))=true then kvs.map (λkv=>if kv.1=k then (kv.1,v) else kv) else kvs++[(k,v)]
theorem a3t {p:κ×V}{r:List (κ×V)}{k:κ}(e:p.1=k):a9n (p :: r) k=some p.2:=by simp[a9n,List.find?_cons,e]
theorem a3u {p:κ×V}{r:List (κ×V)}{k:κ}(e:¬ p.1=k):a9n (p :: r) k=a9n r k:=by simp[a9n,List.find?_cons,e]
theorem a4l (k:κ):∀ kvs:List (κ×V),(kvs.any λkv=>decide (kv.1=k))=(a9n kvs k).isSome
 | []=>rfl
 | p :: r=>by
  rw[List.any_cons]
  by_cases e:p.1=k
  ·simp only[a3t e,decide_eq_true e,Bool.true_or,Option.isSome_some]
  ·rw[a3u e,decide_eq_false e,Bool.false_or];exact a4l k r
theorem a2v (kvs:List (κ×V))(k:κ)(v:V):(a4z kvs k v).length<=kvs.length+1:=by
 unfold a4z
 split
 ·rw[List.length_map];lia
 ·rw[List.length_append,List.length_cons,List.length_nil];lia
theorem RelO.isSome_eq {o:Option V}{u:Option Value}(r:RelO o u):o.isSome=u.isSome:=by
 cases o with
 | none=>cases u with
  | none=>rfl
  | some _=>exact (show False from r).elim
 | some _=>cases u with
  | none=>exact (show False from r).elim
  | some _=>rfl
theorem KV.val {kvs:List (κ×V)}{vs:List (κ×Value)}(r:KV kvs vs)(k:κ):RelO (a9n kvs k) (valueAt vs k):=by
 unfold KV at r
 induction r with
 | nil=>exact True.intro
 | @cons p q ps qs h t ih =>
  obtain⟨h1,h2⟩:=h
  by_cases e:p.1=k
  ·have e':q.1=k:=h1.symm.trans e
   have b:valueAt (q :: qs) k=some q.2:=by simp[valueAt,List.find?_cons,e']
   rw[a3t e,b];exact h2
  ·have e':¬ q.1=k:=λz=>e (h1.trans z)
   have b:valueAt (q :: qs) k=valueAt qs k:=by simp[valueAt,List.find?_cons,e']
   rw[a3u e,b];exact ih
theorem KV.any {kvs:List (κ×V)}{vs:List (κ×Value)}(r:KV kvs vs)(k:κ):(kvs.any λkv=>decide (kv.1=k))=vs.any λkv=>decide (kv.1=k):=by
 unfold KV at r
 induction r with
 | nil=>rfl
 | cons h t ih=>rw[List.any_cons,List.any_cons,ih,h.1]
theorem KV.repl {kvs:List (κ×V)}{vs:List (κ×Value)}(r:KV kvs vs)(k:κ){y:V}{u:Value}(ry:RelV y u) :
  KV (kvs.map λkv=>if kv.1=k then (kv.1,y) else kv) (vs.map λkv=>if kv.1=k then (kv.1,u) else kv):=by
 unfold KV at r ⊢
 induction r with
 | nil=>exact .nil
 | @cons p q ps qs h t ih =>
  rw[List.map_cons,List.map_cons]
  refine .cons ?_ ih
  obtain⟨h1,h2⟩:=h
  by_cases e:p.1=k
  ·rw[if_pos e,if_pos (h1.symm.trans e)];exact⟨h1,ry⟩
  ·rw[if_neg e,if_neg (λz=>e (h1.trans z))];exact⟨h1,h2⟩
theorem KV.put {kvs:List (κ×V)}{vs:List (κ×Value)}(r:KV kvs vs)(k:κ){y:V}{u:Value}(ry:RelV y u):KV (a4z kvs k y) (stored vs k u):=by
 unfold a4z stored
 rw[r.any k]
 by_cases e:(vs.any λkv=>decide (kv.1=k))=true
 ·rw[if_pos e,if_pos e];exact r.repl k ry
 ·rw[if_neg e,if_neg e];exact Paired.snoc r ⟨rfl,ry⟩
theorem KV.length {kvs:List (κ×V)}{vs:List (κ×Value)}(r:KV kvs vs):kvs.length=vs.length:=Paired.length r
end
theorem b8l {P:Program}{w:World}{k:Key}{u:Value}(r:RelV (kV k) u):(a0z P w).is k u=true:=by
 rcases k with i|x|x
 ·obtain⟨t,e⟩:=(show ∃ t,u=Value.int i t from r);subst e;exact b2n P w i t
 ·cases (show u=Value.none from r);exact b0i P w
 ·obtain⟨t,e⟩:=(show ∃ t,u=Value.str x t from r);subst e;exact b2m P w x t
theorem b0s {P:Program}{w:World}:∀ {ks:List Key}{us:List Value},Vals (ks.map kV) us->ItemsAre (a0z P w) ks us
 | [],_,r=>by rw[List.map_nil] at r;cases r;exact .nil
 | k :: ks,_,r=>by
  rw[List.map_cons] at r
  cases r with
  | cons h t=>exact .cons (b8l h) (b0s t)
abbrev KT (H:Hp):List (List Key×V)->List (List Key×Addr×Value)->Prop:=Paired λp q=>p.1=q.1/\H q.2.1=some (.tup (p.1.map kV))/\RelV p.2 q.2.2
theorem KT.val {H:Hp}{kvs:List (List Key×V)}{xs:List (List Key×Addr×Value)}(r:KT H kvs xs)(k:List Key):RelO (a9n kvs k) ((atKey xs k).map (·.2)):=by
 induction r with
 | nil=>exact True.intro
 | @cons p q ps qs h t ih =>
  obtain⟨h1,_,h2⟩:=h
  by_cases e:p.1=k
  ·have e':q.1=k:=h1.symm.trans e
   have b:atKey (q :: qs) k=some q.2:=by simp[atKey,List.find?_cons,e']
   rw[a3t e,b];exact h2
  ·have e':¬ q.1=k:=λz=>e (h1.trans z)
   have b:atKey (q :: qs) k=atKey qs k:=by simp[atKey,List.find?_cons,e']
   rw[a3u e,b];exact ih
theorem KT.repl {H:Hp}{kvs:List (List Key×V)}{xs:List (List Key×Addr×Value)}(r:KT H kvs xs)(k:List Key){y:V}{u:Value}(ry:RelV y u) :
  KT H (kvs.map λkv=>if kv.1=k then (kv.1,y) else kv) (xs.map (putAt k u)):=by
 induction r with
 | nil=>exact .nil
 | @cons p q ps qs h t ih =>
  rw[List.map_cons,List.map_cons]
  refine .cons ?_ ih
  obtain⟨h1,h2,h3⟩:=h
  unfold putAt
  by_cases e:p.1=k
  ·rw[if_pos e,if_pos (h1.symm.trans e)];exact⟨h1,h2,ry⟩
  ·rw[if_neg e,if_neg (λz=>e (h1.trans z))];exact⟨h1,h2,h3⟩
theorem KT.put {H:Hp}{kvs:List (List Key×V)}{xs:List (List Key×Addr×Value)}(r:KT H kvs xs)(k:List Key){b:Addr}{y:V}{u:Value}(hb:H b=some (.tup (k.map kV)))(ry:RelV y u) :
  KT H (a4z kvs k y) (storedH xs k b u):=by
 have e:(kvs.any λkv=>decide (kv.1=k))=(atKey xs k).isSome:=by
  rw[a4l,(r.val k).isSome_eq,Option.isSome_map]
 unfold a4z storedH
 rw[e]
 by_cases q:(atKey xs k).isSome=true
 ·rw[if_pos q,if_pos q];exact r.repl k ry
 ·rw[if_neg q,if_neg q];exact Paired.snoc r ⟨rfl,hb,ry⟩
theorem KT.keeps {H H':Hp}{kvs:List (List Key×V)}{xs:List (List Key×Addr×Value)}(r:KT H kvs xs)(ht:∀ b ys,H b=some (.tup ys)->H' b=some (.tup ys)):KT H' kvs xs :=
 Paired.mapP r λ_ _ z=>⟨z.1,ht _ _ z.2.1,z.2.2⟩
section
variable {P:Program}{w:World}{H:Hp}{h:Heap}{a:Addr}
theorem d0n {u:HO}(ok:HOk P w H h)(e:Rd H a u):ObjOk P w H h a u:=e.ok ok
theorem b5t {kvs:List (Key×V)}(ok:HOk P w H h)(e:Rd H a (.dK kvs)):kvs.length<=sizeLine/\(a == sysModules)=false/\∃ vs,KV kvs vs/\h.DictOf (a0z P w) a vs :=
 show ObjOk P w H h a (.dK kvs) from d0n ok e
theorem e2v {kvs:List (Key×V)}(ok:HOk P w H h)(e:H a=some (.dK kvs)):kvs.length<=sizeLine/\(a == sysModules)=false/\∃ vs,KV kvs vs/\h.DictOf (a0z P w) a vs:=b5t ok (.inl e)
theorem a6r {ks:List Key}(ok:HOk P w H h)(e:H a=some (.tup (ks.map kV))):(tupleKind (a0z P w)).is h ks a:=by
 obtain⟨_,its,r,o,h1,h2,n,h3⟩:=(show ObjOk P w H h a (.tup (ks.map kV)) from ok a _ e)
 exact⟨o,its.toArray,n,h1,h2,h3,by simpa using b0s r⟩
theorem b9p {kvs:List (List Key×V)}(ok:HOk P w H h)(e:Rd H a (.dT kvs)):kvs.length<=sizeLine/\(a == sysModules)=false /\
  ∃ xs,KT H kvs xs/\h.DictOfH (tupleKind (a0z P w)) a xs:=by
 obtain⟨z,y,xs,r,o,es,ep,h1,h2,h3,h4,h5⟩:=(show ObjOk P w H h a (.dT kvs) from d0n ok e)
 refine⟨z,y,xs,r,o,es,ep,h1,h2,h3,h4,λx hx=>?_,h5⟩
 have all:∀ {l:List (List Key×V)}{m:List (List Key×Addr×Value)},KT H l m->∀ x∈m,(tupleKind (a0z P w)).is h x.1 x.2.1:=by
  intro l m q
  induction q with
  | nil=>intro x hx;exact nomatch hx
  | @cons p q ps qs hq t ih =>
   intro x hx
   rcases List.mem_cons.mp hx with e|hx
   ·subst e
    exact a6r ok (by rw[<- hq.1];exact hq.2.1)
   ·exact ih x hx
 exact all r x hx
theorem d3w {kvs:List (List Key×V)}(ok:HOk P w H h)(e:H a=some (.dT kvs)):kvs.length<=sizeLine/\(a == sysModules)=false /\
  ∃ xs,KT H kvs xs/\h.DictOfH (tupleKind (a0z P w)) a xs:=b9p ok (.inl e)
end
def DGet (H:Hp)(a:Addr)(y:V)(r:Option V):Prop :=
 (∃ kvs k,Rd H a (.dK kvs)/\y=kV k/\r=a9n kvs k) ∨ ∃ kvs k b,Rd H a (.dT kvs)/\y=.ref b/\H b=some (.tup (k.map kV))/\r=a9n kvs k
def DPut (H:Hp)(a:Addr)(y v:V)(H':Hp):Prop :=
 (∃ kvs k,H a=some (.dK kvs)/\y=kV k/\kvs.length<sizeLine/\H'=upd H a (.dK (a4z kvs k v))) ∨
 ∃ kvs k b,H a=some (.dT kvs)/\y=.ref b/\H b=some (.tup (k.map kV))/\kvs.length<sizeLine/\H'=upd H a (.dT (a4z kvs k v))
theorem DGet.k {H:Hp}{a:Addr}{kvs:List (Key×V)}{k:Key}(e:H a=some (.dK kvs)):DGet H a (kV k) (a9n kvs k):=.inl ⟨kvs,k,.inl e,rfl,rfl⟩
theorem DGet.t {H:Hp}{a b:Addr}{kvs:List (List Key×V)}{k:List Key}(e:H a=some (.dT kvs))(eb:H b=some (.tup (k.map kV))):DGet H a (.ref b) (a9n kvs k):=.inr ⟨kvs,k,b,.inl e,rfl,eb,rfl⟩
theorem DPut.k {H:Hp}{a:Addr}{kvs:List (Key×V)}{k:Key}{v:V}(e:H a=some (.dK kvs))(hl:kvs.length<sizeLine):DPut H a (kV k) v (upd H a (.dK (a4z kvs k v))):=.inl ⟨kvs,k,e,rfl,hl,rfl⟩
theorem DPut.t {H:Hp}{a b:Addr}{kvs:List (List Key×V)}{k:List Key}{v:V}(e:H a=some (.dT kvs))(eb:H b=some (.tup (k.map kV)))(hl:kvs.length<sizeLine) :
  DPut H a (.ref b) v (upd H a (.dT (a4z kvs k v))):=.inr ⟨kvs,k,b,e,rfl,eb,hl,rfl⟩
section
variable {X:Cx}{pins:List (Addr×Obj)}{σ:St}{H:Hp}{s:Shared}{a:Addr}{y v:V}{u r:Value}{o:Option V}{A:Around}{E:Value->Shared->Prop}
theorem Inv.big (I:Inv X pins σ H s):sysModules<s.heap.objs.size:=by
 have h:mainGlobals<s.heap.objs.size:=(I.mod.glob.keeps I.bk).lt
 exact Nat.lt_trans (by decide) h
theorem b1f {Q:Value->Shared->Prop}(hu:A.units+1<cLine)(I:Inv X pins σ H s)(g:DGet H a y (some v))(ry:RelV y u)(h:∀ w' s',Inv X pins σ H s'->RelV v w'->Q w' s') :
  wpAny (model X.prog X.w) A (getItem (.ref a) u) Q E s:=by
 rcases g with⟨kvs,k,e,ey,l⟩|⟨kvs,k,b,e,ey,eb,l⟩
 ·subst ey
  obtain⟨z,hd,vs,rel,dd⟩:=b5t I.hok e
  obtain⟨w',hw,rw'⟩:=RelO.some_of (v:=v) (o:=valueAt vs k) (by rw[l];exact rel.val k)
  exact wpAny_getItem_of (b8l ry) dd.mapOf hw (h w' _ (I.tok _) rw')
 ·subst ey
  cases (show u=Value.ref b from ry)
  obtain⟨z,hd,xs,rel,dd⟩:=b9p I.hok e
  obtain⟨w',hw,rw'⟩:=RelO.some_of (v:=v) (o:=(atKey xs k).map (·.2)) (by rw[l];exact rel.val k)
  obtain⟨p,hp,hp2⟩:=Option.map_eq_some_iff.mp hw
  refine wpAny_getItem_heap (tupleKind_room_in1 hu) (a6r I.hok eb) dd hp ?_
  rw[hp2]
  exact h w' _ (I.tok _) rw'
theorem d_in {Q:Value->Shared->Prop}(hu:A.units+1<cLine)(I:Inv X pins σ H s)(g:DGet H a y o)(ry:RelV y u)(h:∀ s',Inv X pins σ H s'->Q (.bool o.isSome) s') :
  wpAny (model X.prog X.w) A (compareOp .In u (.ref a)) Q E s:=by
 rcases g with⟨kvs,k,e,ey,l⟩|⟨kvs,k,b,e,ey,eb,l⟩
 ·subst ey
  obtain⟨z,hd,vs,rel,dd⟩:=b5t I.hok e
  refine wpAny_in_of (b8l ry) hd dd.mapOf ?_
  rw[<- (rel.val k).isSome_eq,<- l]
  exact h _ (I.tok _)
 ·subst ey
  cases (show u=Value.ref b from ry)
  obtain⟨z,hd,xs,rel,dd⟩:=b9p I.hok e
  refine wpAny_in_heap (tupleKind_room_in1 hu) (a6r I.hok eb) hd dd ?_
  have q:=(rel.val k).isSome_eq
  rw[Option.isSome_map] at q
  rw[<- q,<- l]
  exact h _ (I.tok _)
theorem b9w {Q:Value->Shared->Prop}(hu:A.units+1<cLine)(I:Inv X pins σ H s)(g:DGet H a y o)(ry:RelV y u)(h:∀ s',Inv X pins σ H s'->Q (.bool (!o.isSome)) s') :
  wpAny (model X.prog X.w) A (compareOp .NotIn u (.ref a)) Q E s:=by
 rcases g with⟨kvs,k,e,ey,l⟩|⟨kvs,k,b,e,ey,eb,l⟩
 ·subst ey
  obtain⟨z,hd,vs,rel,dd⟩:=b5t I.hok e
  refine wpAny_notIn_of (b8l ry) hd dd.mapOf ?_
  rw[<- (rel.val k).isSome_eq,<- l]
  exact h _ (I.tok _)
 ·subst ey
  cases (show u=Value.ref b from ry)
  obtain⟨z,hd,xs,rel,dd⟩:=b9p I.hok e
  refine wpAny_notIn_heap (tupleKind_room_in1 hu) (a6r I.hok eb) hd dd ?_
  have q:=(rel.val k).isSome_eq
  rw[Option.isSome_map] at q
  rw[<- q,<- l]
  exact h _ (I.tok _)
theorem b3b {h':Heap}{t':Nat}{ob:HO}(I:Inv X pins σ H s)(mu:Mut (H a))(hs:Heap.SameBut a s.heap h')(he:∃ q,h'.get? a=some q)(new:ObjOk X.prog X.w (upd H a ob) h' a ob) :
  Inv X pins σ (upd H a ob) { s with heap:=h',toks:=t' } :=
 I.write (x:=a) (e:=a) mu (.inl rfl) (λb q hb z=>(hs.2 b hb).trans z) he new
theorem d3y {P:Program}{w:World}{H':Hp}{h':Heap}{kvs:List (Key×V)}{vs:List (Key×Value)}(z:kvs.length<=sizeLine)(hd:(a == sysModules)=false)(rel:KV kvs vs)(dd:h'.DictOf (a0z P w) a vs) :
  ObjOk P w H' h' a (.dK kvs):=⟨z,hd,vs,rel,dd⟩
theorem b1e {H':Hp}{Q:Unit->Shared->Prop}(hu:A.units+1<cLine)(I:Inv X pins σ H s)(g:DPut H a y v H')(ry:RelV y u)(rv:RelV v r)(h:∀ s',Inv X pins σ H' s'->Q () s') :
  wpAny (model X.prog X.w) A (setItem (.ref a) u r) Q E s:=by
 rcases g with⟨kvs,k,e,ey,l,eH⟩|⟨kvs,k,b,e,ey,eb,l,eH⟩
 ·subst ey eH
  obtain⟨z,hd,vs,rel,dd⟩:=e2v I.hok e
  have hz:vs.length<=sizeLine:=by rw[<- rel.length];exact z
  have hl:(a4z kvs k v).length<=sizeLine:=by have:=a2v kvs k v;lia
  refine wpAny_setItem_pairs (hsz:=hz) (b8l ry) dd λh' dd' hs=>h _ ?_
  have he:∃ q,h'.get? a=some q:=let ⟨q,_,_,hq,_⟩:=dd';⟨q,hq⟩
  exact b3b I (by rw[e];exact True.intro) hs he (d3y hl hd (rel.put k rv) dd')
 ·subst ey eH
  cases (show u=Value.ref b from ry)
  obtain⟨z,hd,xs,rel,dd⟩:=d3w I.hok e
  have hz:xs.length<=sizeLine:=by rw[<- Paired.length rel];exact z
  have hl:(a4z kvs k v).length<=sizeLine:=by have:=a2v kvs k v;lia
  refine wpAny_setItem_heap (hsz:=hz) (tupleKind_room_in1 hu) (a6r I.hok eb) dd λh' dd' hs=>h _ ?_
  obtain⟨q,es,ep,hq,h2,h3,h4,_,h5⟩:=dd'
  refine b3b I (by rw[e];exact True.intro) hs ⟨q,hq⟩ ⟨hl,hd,_,(rel.put k eb rv).keeps λc ys ec=>?_,q,es,ep,hq,h2,h3,h4,h5⟩
  rw[a0d (d2k ec e (λz=>nomatch z))]
  exact ec
end
section
variable {X:Cx}{pins:List (Addr×Obj)}{σ:St}{H:Hp}{s:Shared}{a:Addr}{kvs:List (Key×V)}{k:Key}{u:Value}{A:Around}{E:Value->Shared->Prop}
theorem e2x {Q:Value->Shared->Prop}(I:Inv X pins σ H s)(e:Rd H a (.dK kvs))(h:∀ t s',Inv X pins σ H s'->Q (.int kvs.length t) s'):wpAny (model X.prog X.w) A (call (.builtin "len") [.ref a]) Q E s:=by
 obtain⟨z,hd,vs,rel,dd⟩:=b5t I.hok e
 refine call_len_dict hd dd (by rw[<- rel.length];rw[sizeLine_eq] at z;lia) ?_
 rw[<- rel.length]
 exact h _ _ (I.tok _)
end
def NoSl (i:Expr):Prop:=∀ ov iv,subscripted i false ov iv=operate [ov,iv] (getItem ov iv)
theorem c5w {prog:Program}{w:World}{A:Around}{E:Value->Shared->Prop}{s:Shared}{env:Env}{value slice:Expr}{pos:Pos}{T id:String}{Q:Value->Shared->Prop}
  (hl:typeLookup (.type T) "__getitem__" = pure (some (.builtin id)))(hs:NoSl slice)
  (h:wpAny (model prog w) A (eval value env) (λo s₁=>wpAny (model prog w) A (eval slice env) (λi s₂=>s₂.TypeIs o T/\wpAny (model prog w) A (getItem o i) Q E s₂) E s₁) E s) :
  wpAny (model prog w) A (eval (.Subscript value slice pos) env) Q E s:=by
 refine Subscript_ (wpAny_mono h (λo s₁ h₁=>wpAny_mono h₁ (λi s₂ h₂=>?_) λ_ _ x=>x) λ_ _ x=>x)
 obtain⟨hT,h₂⟩:=h₂
 unfold subscriptTail
 refine Γa ?_
 rw[getitemInPython_of_ne hT.not_modules]
 refine Γa (wpAny_specialOf hT hl ?_)
 have fin:wpAny (model prog w) A (subscripted slice false o i) (λr s₃=>wpAny (model prog w) A (letTemporaryGo value o r >>= λ_=>pure r) Q E s₃) E s₂:=by
  rw[hs o i]
  exact wpAny_operating (wpAny_mono h₂ (λr s₃ h₃=>Γa (wpAny_letTemporaryGo (Γb h₃))) λ_ _ x=>x)
 first
  | exact Γb (Γa fin)
  | exact Γa (Γb (Γa fin))
  | exact Γa fin
theorem b3a {X:Cx}{pins:List (Addr×Obj)}{σ:St}{H:Hp}{s:Shared}{a:Addr}{y:V}{o:Option V}(I:Inv X pins σ H s)(g:DGet H a y o):s.TypeIs (.ref a) "dict":=by
 rcases g with⟨kvs,k,e,_,_⟩|⟨kvs,k,b,e,_,_,_⟩
 ·obtain⟨_,_,vs,_,dd⟩:=b5t I.hok e
  exact dd.typeIs
 ·obtain⟨_,_,xs,_,dd⟩:=b9p I.hok e
  exact dd.typeIs
def d7e (td ty:TE):TE:=λσ H Q=>td σ H λx H1=>ty σ H1 λy H2=>∃ a v,x=.ref a/\DGet H2 a y (some v)/\Q v H2
def d8a (td ty tv:TE):TS:=λD σ H=>tv σ H λv H1=>td σ H1 λx H2=>ty σ H2 λy H3=>∃ a H4,x=.ref a/\DPut H3 a y v H4/\D.nx σ H4
def d8b (td ty tv:TE)(rd:V->V->Hp->VK->Prop):TS:=λD σ H=>td σ H λx H1=>ty σ H1 λy H2=>∃ a v,x=.ref a/\DGet H2 a y (some v) /\
 tv σ H2 λy2 H3=>rd v y2 H3 λz H4=>∃ H5,DPut H4 a y z H5/\D.nx σ H5
section
variable {X:Cx}{o i e value:Expr}{pos pos' tpos:Pos}{td ty tv:TE}
theorem b2h (hu:X.A.units+1<cLine)(ho:PE X o td)(hi:PE X i ty)(hs:NoSl i):PE X (.Subscript o i pos) (d7e td ty):=by
 intro pins s σ H Q I h
 refine c5w PySem.F.slot_dict_getitem.lookup hs (thn (ho pins s σ H _ I h) λu s1 ⟨x,H1,I1,rx,q1⟩=>thn (hi pins s1 σ H1 _ I1 q1) λiv s2 ⟨y,H2,I2,ry,a,v,ex,g,q2⟩=>?_)
 subst ex
 obtain rfl:u=Value.ref a:=rx
 exact⟨b3a I2 g,b1f hu I2 g ry λw' s3 I3 rw'=>⟨v,H2,I3,rw',q2⟩⟩
theorem b7i (hu:X.A.units+1<cLine)(ho:PE X o td)(hi:PE X i ty)(hv:PE X value tv)(hs:swapsWith value (some (.Subscript o i pos')) pos.line X.env=pure false) :
  PS X (.Assign [.Subscript o i pos'] value pos) (d8a td ty tv):=by
 intro pins s σ H D I h
 refine wpAny_Assign_Subscript (thn (hv pins s σ H _ I h) λr s1 ⟨v,H1,I1,rv,q1⟩=>thn (ho pins s1 σ H1 _ I1 q1) λu s2 ⟨x,H2,I2,rx,q2⟩=>thn (hi pins s2 σ H2 _ I2 q2) λiv s3 ⟨y,H3,I3,ry,a,H4,ex,g,q3⟩=>?_) hs
 subst ex
 obtain rfl:u=Value.ref a:=rx
 exact b1e hu I3 g ry rv λs4 I4=>⟨σ,H4,I4,q3⟩
theorem c6o {op:Operator}{rd:V->V->Hp->VK->Prop}(hu:X.A.units+1<cLine)(ho:PE X o td)(hi:PE X i ty)(hv:PE X value tv)(hop:InOp X op rd)
  (ha:∀ ov iv new,augStore i ov iv new=(do holding [new,ov,iv] (setItem ov iv new);release [new,ov,iv] [];pure .next)):PS X (.AugAssign (.Subscript o i tpos) op value pos) (d8b td ty tv rd):=by
 intro pins s σ H D I h
 refine wpAny_AugAssign_SubscriptAny (thn (ho pins s σ H _ I h) λu s1 ⟨x,H1,I1,rx,q1⟩=>thn (hi pins s1 σ H1 _ I1 q1) λiv s2 ⟨y,H2,I2,ry,a,v,ex,g,q2⟩=>?_) ha
 subst ex
 obtain rfl:u=Value.ref a:=rx
 refine b1f hu I2 g ry λw' s3 I3 rw'=>thn (hv pins s3 σ H2 _ I3 q2) λw2 s4 ⟨y2,H3,I4,ry2,q3⟩=>thn (hop pins s4 σ H3 v y2 w' w2 _ I4 rw' ry2 q3) λw3 s5 ⟨z,H4,I5,rz,H5,g5,q4⟩=>?_
 exact b1e hu I5 g5 ry rz λs6 I6=>⟨σ,H5,I6,q4⟩
end
theorem c3t {P:Program}{w:World}{H:Hp}(h:Heap)(hb:sysModules<h.objs.size):ObjOk P w H (h.push { cls:=.type "dict",data:=.dict #[] }) h.objs.size (.dK []) :=
 ⟨Nat.zero_le _,beq_eq_false_iff_ne.mpr (Ne.symm (Γo hb)),[],.nil,Heap.DictOf.new h⟩
theorem c3p {P:Program}{w:World}{H:Hp}(h:Heap)(hb:sysModules<h.objs.size):ObjOk P w H (h.push { cls:=.type "dict",data:=.dict #[] }) h.objs.size (.dT []) :=
 ⟨Nat.zero_le _,beq_eq_false_iff_ne.mpr (Ne.symm (Γo hb)),[],.nil,_,#[],0,Γm _ rfl,⟨rfl,rfl,rfl⟩,rfl,rfl,List.nodup_nil⟩
def c9y:TE:=λ_ H Q=>∀ p,H p=none->Q (.ref p) (upd H p (.dK []))
section
variable {X:Cx}{pos:Pos}
theorem c2d:PE X (.Dict [] [] pos) c9y:=λpins s σ H Q I h =>
 wpAny_Dict_empty ⟨.ref s.heap.objs.size,_,I.laid (a:=s.heap.objs.size) (o:=.dK []) (t':=s.toks) (λ_ _ q=>Γc _ q) (Γi _) (c3t s.heap I.big),rfl,h _ (I.hok.fresh (Γi _))⟩
end
structure M1 (X:Cx)(o:Expr)(m:Str)(apos:Pos)(e:Expr)(cpos:Pos):Prop where
 base:attributeBase o m X.env (eval o X.env)=eval o X.env
 few:((backTo cpos (starEach [e] X.env)).all (λx=>!x.1) && (backToKw cpos (keywordEach [] X.env)).all (λx=>x.1.isSome)
  && decide (([e]:List Expr).length+([]:List Keyword).length+(if ([]:List Keyword).isEmpty then 0 else 1)<30))=true
 line:(apos.endLine == cpos.line)=true
 trees:backTo cpos (starEach [e] X.env)=[(false,eval e X.env)]
structure M2 (X:Cx)(o:Expr)(m:Str)(apos:Pos)(e f:Expr)(cpos:Pos):Prop where
 base:attributeBase o m X.env (eval o X.env)=eval o X.env
 few:((backTo cpos (starEach [e,f] X.env)).all (λx=>!x.1) && (backToKw cpos (keywordEach [] X.env)).all (λx=>x.1.isSome)
  && decide (([e,f]:List Expr).length+([]:List Keyword).length+(if ([]:List Keyword).isEmpty then 0 else 1)<30))=true
 line:(apos.endLine == cpos.line)=true
 trees:backTo cpos (starEach [e,f] X.env)=[(false,eval e X.env),(false,eval f X.env)]
section
variable {X:Cx}{pins:List (Addr×Obj)}{σ:St}{H:Hp}{s:Shared}{a:Addr}{y d:V}{u r:Value}{o:Option V}{A:Around}{E:Value->Shared->Prop}
end
section
variable {X:Cx}{o e f:Expr}{apos cpos:Pos}{td ty tx:TE}
end
section
variable {X:Cx}{pins:List (Addr×Obj)}{σ:St}{H:Hp}{s:Shared}{a:Addr}{kvs:List (Key×V)}{A:Around}{E:Value->Shared->Prop}
end
section
variable {X:Cx}{pins:List (Addr×Obj)}{σ:St}{H:Hp}{s:Shared}{a:Addr}{y:V}{u:Value}{A:Around}{E:Value->Shared->Prop}
end
end L2
namespace L2
open PySem PySem.Spec PyProof.Rows
section
variable {κ:Type} [DecidableEq κ]
end
end L2
end
section
namespace HT
open PySem PyProof.Rows
section
open PySem.SeqAt
open PySem.AutoSeq1 (wpAny_loadPart')
open PySem.MeetsSeq PySem.MeetsSeq2 PySem.MeetsSeq3
end
section
variable {prog:Program}{w:World}{A:Around}{E:Value->Shared->Prop}{s:Shared}
end
end HT
namespace L2
open PySem PySem.Spec PyProof.Rows
section
variable {X:Cx}
end
end L2
end
set_option maxHeartbeats 4000000
section
namespace L2
open PySem PySem.Spec PyProof.Rows
open AutoSeq1 (wpAny_loadPart')
section
variable {X:Cx}
theorem c2g:OpR X (binaryOp .Add) (λx y H Q=>∃ a b ys,x=.ref a/\y=.ref b/\SqT X.K H a []/\SqT X.K H b ys/\Q (.ref b) H):=by
 intro pins s σ H x y v u Q I rx ry h
 obtain⟨a,b,ys,rfl,rfl,ha,hb,q⟩:=h
 cases rx;cases ry
 obtain⟨its,r1,⟨⟨oc,od,odt,os⟩,e1,ec,n,ed⟩,_⟩:=I.tuple ha
 obtain⟨its2,r2,⟨⟨oc2,od2,odt2,os2⟩,e2,ec2,n2,ed2⟩,_⟩:=I.tuple hb
 simp only at ec ed ec2 ed2
 subst ec ed ec2 ed2
 cases r1
 exact concat_meets ⟨_,e1,rfl⟩ ⟨_,e2,rfl⟩ noFill_tuple_add seq_tuple_add F.slot_tuple_add F.entry_tuple_add (F.args_tuple_add_2 _ _) (tuple_addW0 a b #[] its2.toArray n n2 od od2 os os2 rfl) ⟨e1,e2,.ref b,H,I,rfl,q⟩
theorem c1j:SlR X (λx lo hi H Q=>∃ a xs,x=.ref a/\SqT X.K H a xs/\HT.sIx xs.length 0 lo=0/\HT.sIx xs.length xs.length hi=xs.length/\Q (.ref a) H):=by
 intro pins s σ H x v vl vu lo hi sl Q I rx hs pl pu h
 obtain⟨t,xs,rfl,hx,h1,h2,q⟩:=h
 cases rx
 obtain⟨its,r,ht,hz⟩:=I.tuple hx
 have hlen:its.toArray.size=xs.length:=by rw[List.size_toArray];exact r.length.symm
 refine⟨"tuple",_,PyProof.Rows.slot_tuple_getitem.lookup,ht.typeIs,?_⟩
 obtain⟨os,eo,co,do'⟩:=id hs
 have ty:s.TypeIs (.ref sl) "slice":=⟨os,eo,co⟩
 rw[<- hlen] at h1 h2
 unfold getItem
 try with_reducible refine Γg ?_
 first|refine Γa (Γb ?_)|skip
 refine Γa (wpAny_sequenceKey ht.typeIs (by decide) (Γa (wpAny_callSpecial?_slot (name:=Γe "__getitem__") ht.typeIs PyProof.Rows.slot_tuple_getitem (wpAny_call_entry PyProof.Rows.slot_tuple_getitem ht.typeIs entry_tuple_getitem ?_ (args_tuple_getitem _ _)))))
 show wpAny _ _ (Builtin.Tuple.tupleItemsOf (.ref t) >>= _) _ _ s;refine Γa (tupleItemsOf_ ht (Γa (wpAny_typeOf ty ?_)))
 rw[if_pos (by decide)];refine Γa (HT.sliceApplied_gen hs pl pu ?_)
 show wpAny _ _ (if (((HT.sIx its.toArray.size 0 lo:Nat):Int) == 0 && (1:Int) == 1 && (HT.sIx its.toArray.size its.toArray.size hi-HT.sIx its.toArray.size 0 lo) == its.toArray.size)=true then _ else _) _ _ s
 rw[if_pos (by rw[h1,h2];simp)]
 refine Γa (m:=Builtin.Tuple.tupleIsExact (.ref t)) ?_
 unfold Builtin.Tuple.tupleIsExact
 refine Γa (wpAny_typeOf ht.typeIs (Γb ?_))
 rw[if_pos (by decide)]
 exact Γa (wpAny_rule (Γb ⟨_,rfl,Γb ⟨.ref t,H,I,rfl,q⟩⟩))
end
def Kept (h0 h:Heap) (N:Nat):Prop:=∀ b o,b<N->h0.get? b=some o->h.get? b=some o
def c9e (P:Program)(w:World)(A:Around)(I:Nat->Value->Prop)(bt:Nat->Nat->Bool)(h0:Heap) (N:Nat):Prop :=
 ∀ i j u v (s:Shared)(Q:Value->Shared->Prop)(E:Value->Shared->Prop),Kept h0 s.heap N->I i u->I j v->Q (.bool (bt i j)) s->wpAny (model P w) A (richCompare .Lt u v) Q E s
section
variable {P:Program}{w:World}{A:Around}{R:Result->Shared->Prop}{it S N:Addr}{fp wr:List Addr}{n:Nat}{V:Nat->Value->Prop}{St:Nat->Heap->Prop}{bt:Nat->Nat->Bool}{h0:Heap}
theorem b5k (W:Walks P w A.in1 it fp wr n V St)(C:c9e P w A.in1 V bt h0 N)(sf:S ∉ fp)(nw:∀ b∈wr,N<=b)(nS:N<=S) :
  ∀ (k j:Nat)(s:Shared)(best:Value) (c:Nat),n-(j+1)=k->j+1<=n->St (j+1) s.heap->V (argBest bt j) best->Kept h0 s.heap N->s.heap.get? S=some { cls:=.type "list",dict:=none,data:=.seq #[best,best] c,slots:=#[] } ->
  (∀ v h' tk,V (argBest bt (n-1)) v->(∀ b o,b ∉ wr->b≠S->s.heap.get? b=some o->h'.get? b=some o)->R (.ok (.ret v)) { s with heap:=h',toks:=tk })->codeAny (model P w) A (.builtin "min.loop" ⟨[.ref it,.none,.ref S],[]⟩) R s:=by
 have sw:S ∉ wr:=λh=>sf (W.sub _ h)
 have nm:(toString "min"++toString ".loop":String) = "min.loop":=by decide
 have low:∀ {b:Addr},b<N->b ∉ wr/\b≠S:=λ{b} hb=>⟨λz=>absurd (nw b z) (Nat.not_le.mpr hb),λz=>absurd nS (by rw[<- z];exact Nat.not_le.mpr hb)⟩
 intro k
 induction k with
 | zero =>
  intro j s best c hk hj hst hV kp hS hR
  have en:j+1=n:=by lia
  refine codeAny_builtin F.entry_min_loop ?_;rw[Around.under_plainId F.plain_min_loop _]
  show wpAny _ A.in1 (seqItems? (.ref S) >>= _) _ _ s;refine Γa (wpAny_seqItems hS rfl ?_)
  show wpAny _ A.in1 (tryCatch (pyNext (.ref it)) _ >>= _) _ _ s;refine Γa (wpAny_tryCatch (W.done s _ _ (en ▸ hst) λg tk kk=>?_))
  have S1:=kk S _ sw hS
  show wpAny _ A.in1 (updateSeq S (λ_=>#[]) >>= _) _ _ _;refine Γa (wpAny_updateSeq S1 rfl (Γa (wpAny_letGo (Γb ?_))))
  exact hR best _ tk (by rw[<- en];exact hV) λb o c1 c2 e=>(Γf _ _ (Ne.symm c2)).trans (kk b o c1 e)
 | succ k ih =>
  intro j s best c hk hj hst hV kp hS hR
  have lt:j+1<n:=by lia
  refine codeAny_builtin F.entry_min_loop ?_;rw[Around.under_plainId F.plain_min_loop _]
  show wpAny _ A.in1 (seqItems? (.ref S) >>= _) _ _ s;refine Γa (wpAny_seqItems hS rfl ?_)
  show wpAny _ A.in1 (tryCatch (pyNext (.ref it)) _ >>= _) _ _ s;refine Γa (wpAny_tryCatch (W.item (j+1) s _ _ lt hst λv g tk vP st1 kk=>?_))
  have S1:=kk S _ sw hS
  have kp1:Kept h0 g N:=λb o hb e=>kk b o (low hb).1 (kp b o hb e)
  show wpAny _ A.in1 (tryCatch (holding [v,v] (richCompare .Lt v best >>= _)) _ >>= _) _ _ _
  refine Γa (wpAny_tryCatch (Γg (Γa (C (j+1) (argBest bt j) v best _ _ _ kp1 vP hV (Γa (Γg (wpAny_truthy_bool (Γa (wpAny_letGo (Γb ?_))))))))))
  cases hb:bt (j+1) (argBest bt j) with
  | true =>
   simp only[if_true];refine Γa (wpAny_updateSeq S1 rfl (Γa (wpAny_letGo ?_)));rw[nm]
   refine Γb ⟨plainId_quiet F.plain_min_loop _,ih (j+1) _ v _ (by lia) lt (W.frame _ _ _ st1 λb bf o e=>(Γf _ _ (λh:S=b=>sf (by rw[h];exact bf))).trans e) (by simp only[argBest,hb,if_true];exact vP)
    (λb o l e=>(Γf _ _ (Ne.symm (low l).2)).trans (kp1 b o l e)) (Heap.get?_update_self _ S1 rfl) λv' g' tk' p' k'=>?_⟩
   exact hR v' g' tk' p' λb o c1 c2 e=>k' b o c1 c2 ((Γf _ _ (Ne.symm c2)).trans (kk b o c1 e))
  | false =>
   simp only[Γp,if_false];refine Γa (wpAny_letGo ?_);rw[nm]
   refine Γb ⟨plainId_quiet F.plain_min_loop _,ih (j+1) _ best c (by lia) lt st1 (by simp only[argBest,hb,Γp,if_false];exact hV) kp1 S1 λv' g' tk' p' k'=>?_⟩
   exact hR v' g' tk' p' λb o c1 c2 e=>k' b o c1 c2 (kk b o c1 e)
theorem b2r (W:Walks P w A.in1 it fp wr n V St)(C:c9e P w A.in1 V bt h0 N)(sf:S ∉ fp)(nw:∀ b∈wr,N<=b)(nS:N<=S)(hn:0<n){s:Shared}{c:Nat}(hst:St 0 s.heap)(kp:Kept h0 s.heap N)
  (hS:s.heap.get? S=some { cls:=.type "list",dict:=none,data:=.seq #[] c,slots:=#[] })
  (hR:∀ v h' tk,V (argBest bt (n-1)) v->(∀ b o,b ∉ wr->b≠S->s.heap.get? b=some o->h'.get? b=some o)->R (.ok (.ret v)) { s with heap:=h',toks:=tk }):codeAny (model P w) A (.builtin "min.loop" ⟨[.ref it,.none,.ref S],[]⟩) R s:=by
 have sw:S ∉ wr:=λh=>sf (W.sub _ h)
 have nm:(toString "min"++toString ".loop":String) = "min.loop":=by decide
 have low:∀ {b:Addr},b<N->b ∉ wr/\b≠S:=λ{b} hb=>⟨λz=>absurd (nw b z) (Nat.not_le.mpr hb),λz=>absurd nS (by rw[<- z];exact Nat.not_le.mpr hb)⟩
 refine codeAny_builtin F.entry_min_loop ?_;rw[Around.under_plainId F.plain_min_loop _]
 show wpAny _ A.in1 (seqItems? (.ref S) >>= _) _ _ s;refine Γa (wpAny_seqItems hS rfl ?_)
 show wpAny _ A.in1 (tryCatch (pyNext (.ref it)) _ >>= _) _ _ s;refine Γa (wpAny_tryCatch (W.item 0 s _ _ hn hst λv g tk vP st1 kk=>?_))
 have S1:=kk S _ sw hS
 show wpAny _ A.in1 (updateSeq S (λ_=>#[v,v]) >>= _) _ _ _;refine Γa (wpAny_updateSeq S1 rfl ?_);rw[nm]
 refine Γb ⟨plainId_quiet F.plain_min_loop _,b5k W C sf nw nS _ 0 _ v _ rfl hn (W.frame _ _ _ st1 λb bf o e=>(Γf _ _ (λh:S=b=>sf (by rw[h];exact bf))).trans e) vP
  (λb o l e=>(Γf _ _ (Ne.symm (low l).2)).trans (kk b o (low l).1 (kp b o l e))) (Heap.get?_update_self _ S1 rfl) λv' g' tk' p' k'=>?_⟩
 exact hR v' g' tk' p' λb o c1 c2 e=>k' b o c1 c2 ((Γf _ _ (Ne.symm c2)).trans (kk b o c1 e))
end
section
variable {P:Program}{w:World}{A:Around}{E:Value->Shared->Prop}{s:Shared}
theorem b5w {l:Addr}{xs:Array Value}{bt:Nat->Nat->Bool}{Q:Value->Shared->Prop}(hh:A.in1.handled=none)(hl:s.heap.IsList l xs)(hn:0<xs.size)(C:c9e P w A.in1 (λi v=>xs[i]?=some v) bt s.heap s.heap.objs.size)
  (K:∀ v h' tk,xs[argBest bt (xs.size-1)]?=some v->(∀ b o,s.heap.get? b=some o->h'.get? b=some o)->Q v { s with heap:=h',toks:=tk }):wpAny (model P w) A (call (.builtin "min") [.ref l]) Q E s:=by
 have nm:(toString "min"++toString ".loop":String) = "min.loop":=by decide
 have ll:l<s.heap.objs.size:=by obtain⟨_,e,_⟩:=hl;exact Γl e
 refine call_function_tree F.kind_min F.plain_min F.entry_min (F.args_min1 _) ?_
 show wpAny _ A.in1 (Builtin.Builtins.bindParams "min" ["key","default"] 0 ⟨[],[]⟩ >>= _) _ _ s
 refine Γa (wpAny_of_eq (show Builtin.Builtins.bindParams "min" ["key","default"] 0 ⟨[],[]⟩=pure [none,none] from rfl) (Γa (Γb (Γa (wpAny_pyIter_list hl ?_)))))
 have W:=Walks.list (prog:=P) (w:=w) hh s.heap.objs.size l (Γo ll) xs
 refine Γa (wpAny_newObj_type ?_)
 rw[nm]
 have z1:(s.heap.push { cls:=.type "list_iterator",data:=.fields #[.ref l,.int 0 0] }).objs.size=s.heap.objs.size+1:=Heap.size_push ..
 refine Γb ⟨plainId_quiet F.plain_min_loop _,b2r (S:=(s.heap.push { cls:=.type "list_iterator",data:=.fields #[.ref l,.int 0 0] }).objs.size) W C ?_ ?_ ?_ hn ⟨⟨_,Γc _ (Γm _ rfl),rfl,rfl⟩,(hl.push _).push _⟩
  (λb o hb e=>Γc _ (Γc _ e)) (Γm _ rfl) λv h' tk hv hk=>?_⟩
 ·rw[z1];intro z;simp only[List.mem_cons,List.not_mem_nil,or_false] at z;rcases z with z|z
  ·exact absurd z (Nat.ne_of_gt (Nat.lt_succ_self _))
  ·exact absurd z (Nat.ne_of_gt (Nat.lt_succ_of_lt ll))
 ·intro b hb;simp at hb;rw[hb];exact Γi _
 ·rw[z1];exact Nat.le_succ _
 ·refine K v h' tk hv λb o e=>hk b o (by simp;exact Γo (Γl e)) ?_ (Γc _ (Γc _ e))
  rw[z1];exact Γo (Nat.lt_succ_of_lt (Γl e))
end
end L2
end
section
namespace L2
open PySem PySem.Spec PyProof.Rows
section
variable {prog:Program}{w:World}{A:Around}{E:Value->Shared->Prop}{s:Shared}
end
section
variable {X:Cx}{a e k:Expr}{ta te tk:TE}{pos p2:Pos}
theorem RelV.bool_iff {x:V}{v:Value}{b:Bool}(r:RelV x v):(v == Value.bool b)=decide (x=.bl b):=by
 cases x with
 | non=>cases r;rfl
 | bl c=>cases r;cases c<;>cases b<;>rfl
 | int _=>obtain⟨t,rfl⟩:=r;rfl
 | str _=>obtain⟨t,rfl⟩:=r;rfl
 | byt _=>obtain⟨t,rfl⟩:=r;rfl
 | flt _=>obtain⟨t,rfl⟩:=r;rfl
 | ref _=>cases r;rfl
 | ty _=>cases r;rfl
theorem a7f {M:Model}{A:Around}{E:Value->Shared->Prop}{s:Shared}{Q:Value->Shared->Prop}{x:V}{v:Value}{b:Bool}(r:RelV x v)(h:Q (.bool (!decide (x=.bl b))) s):wpAny M A (compareOp .IsNot v (.bool b)) Q E s:=by
 rw[<- r.bool_iff] at h
 cases x with
 | bl c=>cases r;exact Γb h
 | non=>cases r;exact Γb h
 | ref _=>cases r;exact Γb h
 | ty _=>cases r;exact Γb h
 | _=>obtain⟨t,rfl⟩:=r;exact Γb h
theorem c6x {b:Bool} {j pos'}(ha:PE X a ta):PC X .IsNot a (.Constant (.bool b) j pos') (λσ H Q=>ta σ H λx H1=>Q (.bl (!decide (x=.bl b))) H1):=by
 intro pins s σ H Q I h
 refine thn (ha pins s σ H _ I h) λv s1 ⟨x,H1,I1,r1,q1⟩=>?_
 exact Constant_bool (a7f r1 ⟨.bl _,H1,I1,rfl,q1⟩)
end
end L2
end
section
namespace L2
open PySem PySem.Spec PyProof.Rows
def b1y (cells:List (Str×Addr)):List (Str×NameKind)->List (Str×Addr)->List (Str×Addr)
 | [],acc=>acc
 | (n,k) :: r,acc=>if (k == NameKind.free)=true then b1y cells r ((n,(cells.lookup n).getD 0) :: acc) else b1y cells r acc
theorem b4u {env:Env}:∀ (names:List (Str×NameKind))(acc:List (Str×Addr)),(∀ p∈names,p.2=.free->∃ c,env.cells.lookup p.1=some c) ->
  (forIn names acc λ(x:Str×NameKind)(cs:List (Str×Addr))=>if (x.2 == NameKind.free)=true then cellOf env x.1 >>= λc=>pure (ForInStep.yield ((x.1,c) :: cs)) else pure (ForInStep.yield cs):Sem (List (Str×Addr)))=pure (b1y env.cells names acc)
 | [],acc,_=>rfl
 | (n,k) :: r,acc,h=>by
  have ih:=b4u (env:=env) r
  rw[List.forIn_cons]
  unfold b1y
  by_cases hk:(k == NameKind.free)=true
  ·obtain⟨c,hc⟩:=h (n,k) Γn (by simpa using hk)
   have hcell:cellOf env n=pure c:=by
    have hc':env.cells.lookup n=some c:=hc
    unfold cellOf;rw[hc']
   have hc':env.cells.lookup n=some c:=hc
   simp only[hk,if_true,hcell,hc',Option.getD_some,pure_bind]
   exact ih _ λp hp=>h p (Γh _ hp)
  ·simp only[hk,if_false,pure_bind,Γp]
   exact ih _ λp hp=>h p (Γh _ hp)
theorem a8c {scope:Scope}{env:Env}(h:∀ p∈scope.names,p.2=.free->∃ c,env.cells.lookup p.1=some c):closureFor scope env=pure (b1y env.cells scope.names []):=by
 have q:=b4u (env:=env) scope.names [] h
 unfold closureFor
 first
  | exact (by rw[q];rfl)
  | (simp only[bind_pure];exact q)
theorem a4j {cells:List (Str×Addr)}{x:Str}{c:Addr}:∀ (names:List (Str×NameKind))(acc:List (Str×Addr)),(∀ p∈names,p.2=.free->∃ c,cells.lookup p.1=some c)->(∀ y d,acc.lookup y=some d->cells.lookup y=some d) ->
  (b1y cells names acc).lookup x=some c->cells.lookup x=some c
 | [],acc,_,ha,h=>ha x c h
 | (n,k) :: r,acc,hn,ha,h=>by
  unfold b1y at h
  split at h
  ·rename_i hk
   refine a4j r _ (λp hp=>hn p (Γh _ hp)) (λy d hy=>?_) h
   rw[List.lookup_cons] at hy
   obtain⟨c',hc'⟩:=hn (n,k) Γn (by simpa using hk)
   have hc'':cells.lookup n=some c':=hc'
   split at hy
   ·rename_i hyn
    have e:y=n:=by simpa using hyn
    subst e
    rw[hc''] at hy ⊢
    exact hy
   ·exact ha y d hy
  ·exact a4j r _ (λp hp=>hn p (Γh _ hp)) ha h
theorem a9j {cells:List (Str×Addr)}{x:Str}:∀ (names:List (Str×NameKind))(acc:List (Str×Addr)),((x,NameKind.free)∈names ∨ ∃ c,acc.lookup x=some c)->∃ c,(b1y cells names acc).lookup x=some c
 | [],acc,h=>by
  rcases h with h|h
  ·simp at h
  ·exact h
 | (n,k) :: r,acc,h=>by
  unfold b1y
  split
  ·refine a9j r _ ?_
   by_cases hx:x=n
   ·subst hx
    exact .inr ⟨(cells.lookup x).getD 0,by rw[List.lookup_cons];simp⟩
   ·rcases h with h|⟨c,h⟩
    ·rcases List.mem_cons.mp h with h|h
     ·cases h;exact absurd rfl hx
     ·exact .inl h
    ·refine .inr ⟨c,?_⟩
     rw[List.lookup_cons]
     have:(x == n)=false:=by simpa using hx
     rw[this]
     exact h
  ·rename_i hk
   refine a9j r _ ?_
   rcases h with h|h
   ·rcases List.mem_cons.mp h with h|h
    ·cases h;simp at hk
    ·exact .inl h
   ·exact .inr h
theorem a3o {env : Env} {x : Str} : ∀ {names : List (Str × NameKind)},
    ((names.map λ(n,k)=>if (k == NameKind.free && env.scope.kind == .function && env.kindOf n == some .cell) then (n,NameKind.cell) else (n,k)).lookup x=some .cell ∨
     (names.map λ(n,k)=>if (k == NameKind.free && env.scope.kind == .function && env.kindOf n == some .cell) then (n,NameKind.cell) else (n,k)).lookup x=some .free)->names.lookup x=some .cell ∨ names.lookup x=some .free
  | [],h=>by rcases h with h|h<;>simp at h
  | (n,k) :: r,h=>by
    have ih:=@a3o env x r
    rw[List.map_cons] at h
    rw[List.lookup_cons]
    by_cases hk:(k == NameKind.free && env.scope.kind == .function && env.kindOf n == some .cell)=true
    · simp only[hk,if_true] at h
      cases hx:x == n with
      | true =>
        have : k = .free := by simp only [Bool.and_eq_true] at hk; simpa using hk.1.1
        exact .inr (by rw [this])
      | false =>
        simp only [List.lookup_cons, hx] at h
        exact ih h
    · simp only[hk,if_false,Γp] at h
      cases hx:x == n with
      | true=>simpa only[List.lookup_cons,hx] using h
      | false =>
        simp only [List.lookup_cons, hx] at h
        exact ih h
theorem a1h:∀ (names:List (Str×NameKind)) (b:Nat)(acc:List (Str×Addr)),cellsFrom b names acc=cellsFrom b names []++acc
 | [],_,_=>rfl
 | (n,k) :: r,b,acc=>by
  unfold cellsFrom
  split
  ·rw[a1h r _ ((n,b) :: acc),a1h r _ [(n,b)],List.append_assoc];rfl
  ·exact a1h r b acc
theorem a3s:∀ (names:List (Str×NameKind)) (b:Nat){x:Str}{c:Addr},(x,c)∈cellsFrom b names []->(x,NameKind.cell)∈names
 | [],_,_,_,h=>by simp[cellsFrom] at h
 | (n,k) :: r,b,x,c,h=>by
  unfold cellsFrom at h
  split at h
  ·rename_i hk
   rw[a1h] at h
   rcases List.mem_append.mp h with h|h
   ·exact Γh _ (a3s r _ h)
   ·simp at h
    have:k=.cell:=by simpa using hk
    rw[h.1,this];exact Γn
  ·exact Γh _ (a3s r _ h)
theorem a9a {x:Str}{c:Addr}:∀ {l l':List (Str×Addr)},(l++l').lookup x=some c->l.lookup x=some c ∨ (l.lookup x=none/\l'.lookup x=some c)
 | [],_,h=>.inr ⟨rfl,h⟩
 | (n,d) :: r,l',h=>by
  rw[List.cons_append,List.lookup_cons] at h
  rw[List.lookup_cons]
  cases hx:x == n with
  | true=>rw[hx] at h;exact .inl h
  | false=>rw[hx] at h;exact a9a h
theorem b8f {x:Str}:∀ {l l':List (Str×Addr)},((∃ c,l.lookup x=some c) ∨ ∃ c,l'.lookup x=some c)->∃ c,(l++l').lookup x=some c
 | [],_,h=>by
  rcases h with⟨c,h⟩|h
  ·cases h
  ·exact h
 | (n,d) :: r,l',h=>by
  rw[List.cons_append,List.lookup_cons]
  cases hx:x == n with
  | true=>exact⟨d,rfl⟩
  | false =>
   refine b8f ?_
   rcases h with⟨c,h⟩|h
   ·rw[List.lookup_cons,hx] at h;exact .inl ⟨c,h⟩
   ·exact .inr h
theorem b0g {M:Model}{A:Around}{E:Value->Shared->Prop}{s:Shared}{scope:Scope}{globals:Addr}{cl:List (Str×Addr)}{qual:Str}{env:Env}{Q:Env->Shared->Prop}
  (hQ:∀ h4:Heap,h4.Ns s.heap.objs.size (λ_=>none)->(∀ b o,s.heap.get? b=some o->h4.get? b=some o)->CellsOk h4 (s.heap.objs.size+1) (cellsFrom (s.heap.objs.size+1) scope.names []) ->
   Q (newEnv scope s.heap.objs.size globals (cellsFrom (s.heap.objs.size+1) scope.names cl) qual none .none (some env) builtinsNs) { s with heap:=h4,toks:=s.toks+([]:List (Str×Value)).length }) :
  wpAny M A (newFunctionEnv scope globals cl [] qual none .none (some env)) Q E s:=by
 simp only[newFunctionEnv,Option.isSome_some,if_true]
 refine Γa (wpAny_alloc ?_)
 refine Γa (wpAny_layCells _ (λname kind cells=>by cases hkc:kind == NameKind.cell<;>simp[hkc]) _ _ _ _ ?_)
 have ok:=cellsFrom_ok scope.names (s.heap.push { cls:=.type "dict",data:=.dict #[] }) (s.heap.objs.size+1) [] ⟨λ_ _ hm=>(nomatch hm),List.Pairwise.nil⟩ (by rw[Heap.size_push];exact Γi _)
 rw[Heap.size_push] at ok
 rw[show ({ s with heap:=s.heap.push { cls:=.type "dict",data:=.dict #[] } }:Shared).heap.objs.size=s.heap.objs.size+1 from Heap.size_push ..]
 simp only[List.forIn_nil]
 exact Γa (Γb (Γb (hQ _ ((Heap.Ns.new s.heap (.type "dict")).keeps (pushCells_keeps _ _)) (λb o e=>pushCells_keeps _ _ b o (Γc _ e)) ok)))
def d5l (x:Str):Str:=Γe "#"++x
def a8x (own:List Str)(x:Str):Str:=if own.contains x then d5l x else x
def cxC (X:Cx)(scope:Scope)(own:List Str)(fp:List Addr)(C:Addr)(s:Shared)(H:Hp):Cx :=
 { X with N:=X.N.map (a8x own)++own,s₀:=s,H₀:=H,env:=compEnvC scope (cellsFrom (C+1) scope.names (b1y X.env.cells scope.names [])) C X.env,outer:=X.stack,stack:=X.stack,ex:=fp,fn:=λx=>scope.names.lookup x == some .cell,pn:=[],xe:=λ_ _=>False }
structure CScope (X:Cx)(scope:Scope)(own:List Str):Prop where
 kind:scope.kind=.function
 nocell:∀ p∈scope.names,p.2=.cell->scope.names.lookup p.1=some .cell
 names:∀ p∈scope.names,p.2=.local->scope.names.lookup p.1=some .local
 free:∀ p∈scope.names,p.2=.free->X.env.kindOf p.1=some .cell ∨ X.env.kindOf p.1=some .free
 apart:∀ x∈X.N,own.contains x=false->scope.names.lookup x≠some .local/\scope.names.lookup x≠some .cell
 hid:∀ x∈X.N,own.contains x=true->scope.names.lookup (d5l x)=none
section
variable {X:Cx}
theorem a7u {names:List (Str×NameKind)}{x:Str}{k:NameKind}(h:names.lookup x=some k):(x,k)∈names:=PySem.mem_of_lookup h
theorem a4n {env:Env}{x:Str}:∀ {names:List (Str×NameKind)},
  (names.map λ(n,k)=>if (k == NameKind.free && env.scope.kind == .function && env.kindOf n == some .cell) then (n,NameKind.cell) else (n,k)).lookup x=some .local->names.lookup x=some .local
 | [],h=>by simp at h
 | (n,k) :: r,h=>by
  have ih:=@a4n env x r
  rw[List.map_cons] at h
  rw[List.lookup_cons]
  by_cases hk:(k == NameKind.free && env.scope.kind == .function && env.kindOf n == some .cell)=true
  ·simp only[hk,if_true] at h
   cases hx:x == n with
   | true=>simp[List.lookup_cons,hx] at h
   | false =>
    simp only[List.lookup_cons,hx] at h
    exact ih h
  ·simp only[hk,if_false,Γp] at h
   cases hx:x == n with
   | true=>simpa[List.lookup_cons,hx] using h
   | false =>
    simp only[List.lookup_cons,hx] at h
    exact ih h
theorem a9x {env:Env}{scope:Scope}{x:Str}(h:scope.names.lookup x=none):(relabel scope env).names.lookup x=none:=by
 unfold relabel
 simp only
 generalize scope.names=l at h
 induction l with
 | nil=>rfl
 | cons p r ih =>
  obtain⟨n,k⟩:=p
  rw[List.lookup_cons] at h
  cases e:(x == n) with
  | true=>rw[e] at h;cases h
  | false =>
   rw[e] at h
   rw[List.map_cons]
   split
   ·rw[List.lookup_cons,e];exact ih h
   ·rw[List.lookup_cons,e];exact ih h
theorem c3a {scope:Scope}{own:List Str}{fp:List Addr}{pins:List (Addr×Obj)}{σ:St}{H:Hp}{s:Shared}{h4:Heap}{t4:Nat}(I:Inv X pins σ H s)(SC:CScope X scope own)(hc:X.calm=true)
  (hf:∀ b∈fp,b6d X pins H b)(hfo:∀ b∈fp,∃ o,s.heap.get? b=some o)
  (hns:h4.Ns s.heap.objs.size (λ_=>none))(hk:∀ b o,s.heap.get? b=some o->h4.get? b=some o)(ok:CellsOk h4 (s.heap.objs.size+1) (cellsFrom (s.heap.objs.size+1) scope.names [])) :
  Inv (cxC X scope own fp s.heap.objs.size s H) [] (σ++Γj own.length none) H { s with heap:=h4,toks:=t4 }:=by
 have fr:∀ p∈scope.names,p.2=.free->∃ c,X.env.cells.lookup p.1=some c:=λp hp hq=>I.ok.has p.1 (SC.free p hp hq)
 have cl0:∀ {x:Str}{c:Addr},(b1y X.env.cells scope.names []).lookup x=some c->X.env.cells.lookup x=some c:=λh=>a4j scope.names [] fr (λy d hy=>by simp at hy) h
 have cl:∀ {x:Str}{c:Addr},(cellsFrom (s.heap.objs.size+1) scope.names (b1y X.env.cells scope.names [])).lookup x=some c->((x,c)∈cellsFrom (s.heap.objs.size+1) scope.names []/\s.heap.objs.size+1<=c) ∨ X.env.cells.lookup x=some c:=λh=>by
  rw[a1h] at h
  rcases a9a h with z|z
  ·exact .inl ⟨PySem.mem_of_lookup z,(ok.empty _ _ (PySem.mem_of_lookup z)).2⟩
  ·exact .inr (cl0 z.2)
 have hasC:∀ {x:Str},(scope.names.lookup x=some .cell ∨ scope.names.lookup x=some .free)->∃ c,(cellsFrom (s.heap.objs.size+1) scope.names (b1y X.env.cells scope.names [])).lookup x=some c:=λ{x} h=>by
  rw[a1h]
  refine b8f ?_
  rcases h with h|h
  ·exact .inl (Option.isSome_iff_exists.mp (PySem.W.cellsFrom_some _ _ _ (.inl h)))
  ·exact .inr (a9j scope.names [] (.inl (a7u h)))
 have clt:∀ {x:Str}{c:Addr},X.env.cells.lookup x=some c->c<s.heap.objs.size:=λh=>by obtain⟨v,q⟩:=I.cell _ _ h;exact q.lt
 refine⟨⟨I.ok.mod,SC.kind,I.ok.glob,I.ok.blt,Γi _,λx y c h1 h2=>?_,λx hx=>?_,λx c hf' h=>?_,λ_=>I.ok.hd hc,I.ok.frames,.inl rfl,λb hb=>?_,
   λb o e=>I.bs b o e,Nat.le_trans I.ok.bsz I.sz,λb o e hb=>?_,λb hb hz=>?_,I.stack,I.stkFree⟩,
  rfl,I.bare,Un.kept hk,⟨_,hns,λi x v e1 e2 e3=>?_⟩,λx c h=>?_,I.fresh,λx c h=>(cl h).elim (λz=>I.hok.fresh (by lia)) (I.freeC x c),λp hp=>absurd (show p∈([]:List (Addr×Obj)) from hp) (by simp),I.hok.kept hk,?_⟩
 ·rcases cl h1 with z1|z1<;>rcases cl h2 with z2|z2
  ·exact name_of_addr ok.apart z1.1 z2.1
  ·exact absurd (clt z2) (Nat.not_lt.mpr (Nat.le_of_succ_le z1.2))
  ·exact absurd (clt z1) (Nat.not_lt.mpr (Nat.le_of_succ_le z2.2))
  ·exact I.ok.inj x y c z1 z2
 ·have hx:(relabel scope X.env).names.lookup x=some .cell ∨ (relabel scope X.env).names.lookup x=some .free:=hx
  exact hasC (a3o hx)
 ·have hf':(scope.names.lookup x == some .cell)=true:=hf'
  have h:(cellsFrom (s.heap.objs.size+1) scope.names (b1y X.env.cells scope.names [])).lookup x=some c:=h
  obtain⟨c',hc'⟩:=Option.isSome_iff_exists.mp (PySem.W.cellsFrom_some scope.names (s.heap.objs.size+1) [] (.inl (by simpa using hf')))
  rw[a1h] at h
  rcases a9a h with z|z
  ·have:=(ok.empty _ _ (PySem.mem_of_lookup z)).2
   show s.heap.objs.size<=c
   lia
  ·rw[hc'] at z;cases z.1
 ·have hb:b∈fp:=hb
  obtain⟨o,ho⟩:=hfo b hb
  exact⟨Γo (Γl ho),λx c h=>(cl h).elim (λz e=>absurd (e ▸ Γl ho:c<s.heap.objs.size) (Nat.not_lt.mpr (Nat.le_of_succ_le z.2))) ((hf b hb).2.2.2.2.1 x c)⟩
 ·have hb:b∈fp:=hb
  have e:X.base.get? b=some o:=e
  rcases (hf b hb).2.2.2.1 with z|z
  ·exact I.ok.noex b o e z
  ·exact absurd (Nat.lt_of_lt_of_le (Γl e) (Nat.le_trans I.ok.bsz z)) (Nat.lt_irrefl _)
 ·have hb:b∈fp:=hb
  have hz:b∈frs X.stack:=hz
  rcases List.mem_cons.mp (I.stkSub b hz) with z|z
  ·exact (hf b hb).2.1 z
  ·exact (hf b hb).2.2.1 z
 ·have e1:(X.N.map (a8x own)++own)[i]?=some x:=e1
  have e3:Vis (relabel scope X.env) x:=e3
  have hi:i<σ.length:=by
   by_cases hi:i<σ.length
   ·exact hi
   ·rw[List.getElem?_append_right (by lia),List.getElem?_replicate] at e2
    split at e2<;>cases e2
  rw[List.getElem?_append_left hi] at e2
  rw[List.getElem?_append_left (by rw[List.length_map,<- I.len];exact hi),List.getElem?_map] at e1
  obtain⟨y,e1,ey⟩:=Option.map_eq_some_iff.mp e1
  have hny:own.contains y=false:=by
   cases hy:own.contains y with
   | false=>rfl
   | true =>
    exfalso
    have hh:=SC.hid y (List.mem_of_getElem? e1) hy
    have ex:x=d5l y:=by rw[<- ey];unfold a8x;rw[if_pos hy]
    rw[<- ex] at hh
    have e4:(relabel scope X.env).names.lookup x=none:=a9x hh
    rcases e3 with z|z|z<;>(rw[e4] at z;cases z)
  have ex:x=y:=by rw[<- ey];unfold a8x;rw[if_neg (by rw[hny];exact Γk)]
  rw[<- ex] at e1 hny
  have hnl:(relabel scope X.env).names.lookup x≠some .local:=λz=>(SC.apart x (List.mem_of_getElem? e1) hny).1 (a4n z)
  have hv:(relabel scope X.env).names.lookup x=some .cell ∨ (relabel scope X.env).names.lookup x=some .free:=by
   rcases e3 with z|z|z
   ·exact absurd z hnl
   ·exact .inl z
   ·exact .inr z
  have hfr:scope.names.lookup x=some .free:=(a3o hv).resolve_left (SC.apart x (List.mem_of_getElem? e1) hny).2
  have hm:=a7u hfr
  have hkx:=SC.free (x,.free) hm rfl
  obtain⟨m,hn,hl⟩:=I.loc
  have hkx':X.env.scope.names.lookup x=some .cell ∨ X.env.scope.names.lookup x=some .free:=hkx
  obtain⟨u,r,l⟩:=hl i x v e1 e2 (hkx'.elim (λz=>.inr (.inl z)) λz=>.inr (.inr z))
  refine⟨u,r,.inr ⟨hv,?_⟩⟩
  obtain⟨c,hcl⟩:=hasC (.inr hfr)
  refine⟨c,hcl,?_⟩
  rcases l with⟨z,_⟩|⟨z,c',hc',q⟩
  ·rcases hkx with y|y<;>(rw[z] at y;cases y)
  ·rcases cl hcl with y|y
   ·have:=SC.nocell _ (a3s _ _ y.1) rfl
    rw[hfr] at this;cases this
   ·rw[hc'] at y;cases y
    obtain⟨o,ho,hd⟩:=q
    exact⟨o,hk _ _ ho,hd⟩
 ·rcases cl h with z|z
  ·exact⟨_,(ok.empty _ _ z.1).1⟩
  obtain⟨v,o,ho,hd⟩:=I.cell x c z
  exact⟨v,o,hk _ _ ho,hd⟩
 ·show (σ++Γj own.length none).length=(X.N.map (a8x own)++own).length
  rw[List.length_append,List.length_append,List.length_map,List.length_replicate,I.len]
end
def b2d (ifs:List Expr)(env:Env):Sem Bool :=
 forIn ifs true λc r=>if r=true then do let ok <- isTrue c env (eval c env);pure (ForInStep.yield ok) else pure (ForInStep.yield r)
def PTs (X:Cx)(ifs:List Expr)(t:TT):Prop :=
 ∀ (pins:List (Addr×Obj))(s:Shared)(σ:St)(H:Hp)(Q:Bool->Hp->Prop),Inv X pins σ H s->t σ H Q->wpAny (model X.prog X.w) X.A (b2d ifs X.env) (TP X pins σ Q) X.xe s
theorem a6h {M:Model}{A:Around}{E:Value->Shared->Prop}{env:Env}{Q:Bool->Shared->Prop}{s:Shared}(h:Q false s):∀ ifs:List Expr,
  wpAny M A (forIn ifs false λc r=>if r=true then do let ok <- isTrue c env (eval c env);pure (ForInStep.yield ok) else pure (ForInStep.yield r)) Q E s
 | []=>Γb h
 | c :: r=>by
  rw[List.forIn_cons]
  simp only[Γp,if_false]
  exact Γa (Γb (a6h h r))
section
variable {X:Cx}
def d6x:TT:=λ_ H Q=>Q true H
theorem b7f:PTs X [] d6x:=λ_ _ _ H _ I h=>Γb ⟨H,I,h⟩
theorem c1u {c:Expr}{r:List Expr}{t u:TT}(h1:PT X c t)(h2:PTs X r u):PTs X (c :: r) (λσ H Q=>t σ H λb H1=>if b=true then u σ H1 Q else Q false H1):=by
 intro pins s σ H Q I h
 unfold b2d
 rw[List.forIn_cons]
 simp only[if_true]
 refine Γa (Γa (thn (h1 pins s σ H _ I h) λb s1 ⟨H1,I1,q1⟩=>Γb ?_))
 cases b with
 | true =>
  rw[if_pos rfl] at q1
  exact h2 pins s1 σ H1 Q I1 q1
 | false =>
  rw[if_neg Γk] at q1
  exact a6h ⟨H1,I1,q1⟩ r
end
section
variable {prog:Program}{w:World}{A:Around}{R:Result->Shared->Prop}{s:Shared}
def b6n (target iter:Expr)(ifs:List Expr)(it:Value)(env:Env)(fin:Sem Fin)(c:Code):Sem Fin:=do
 standAt iter.pos
 match <- pyNext it with
 | none=>pure (.done .next)
 | some v =>
  letOwnedTupleGo target it v
  assign target env v
  let mut ok:=true
  for c in ifs do
   if ok then ok <- isTrue c env (eval c env)
  if ok then fin else again c
def b9l (elt:Expr)(acc:Value)(env:Env)(c:Code):Sem Fin:=do
 (do let _ <- call (.builtin "list.append") [acc,<- eval elt env])
 again c
theorem b9d {ce:Expr}{dp:Nat}{target iter:Expr}{ifs:List Expr}{it acc:Value}{env:Env}{fin:Sem Fin}(ht:compTurn ce dp it acc env=b6n target iter ifs it env fin (.compLoop ce dp it acc env))(I:Nat->Shared->Prop)
  (turn:∀ n s,I n s->wpAny (model prog w) A (pyNext it) (λr s1=>match r with
   | none=>R (.ok .next) s1
   | some v=>wpAny (model prog w) A (letOwnedTupleGo target it v) (λ_ s2=>wpAny (model prog w) A (assign target env v) (λ_ s3=>wpAny (model prog w) A (b2d ifs env) (λok s4 =>
     if ok=true then wpAny (model prog w) A fin (λf s6=>f=.again (.compLoop ce dp it acc env)/\∃ m,m<n/\I m s6) (λ_ _=>False) s4
     else ∃ m,m<n/\I m s4) (λ_ _=>False) s3) (λ_ _=>False) s2) (λ_ _=>False) s1) (λ_ _=>False) s)
  (n:Nat)(h:I n s)(hA:A.under (.compLoop ce dp it acc env)=A:=by rfl)(hd:(model prog w).den (.compLoop ce dp it acc env)=(compTurn ce dp it acc env).onRaise (λx=>do noteFrame x env;theTreesLotGoes x):=by rfl):codeAny (model prog w) A (.compLoop ce dp it acc env) R s:=by
 refine codeAny_loop rfl I (λn s hI=>?_) n h
 rw[hA,hd]
 refine wpAny_noted ?_
 rw[ht]
 unfold b6n
 have no:∀ (e:Value)(s':Shared),(λ(_:Value)(_:Shared)=>False) e s'->notedBy (model prog w) A env (λe s'=>R (.error e) s') e s':=λ_ _ z=>z.elim
 refine Γa (wpAny_standAt (Γa (wpAny_mono (turn n s hI) (λr s1 h1=>?_) no)))
 cases r with
 | none=>exact Γb h1
 | some v =>
  refine Γa (wpAny_mono h1 (λ_ s2 h2=>Γa (wpAny_mono h2 (λ_ s3 h3=>Γa (wpAny_mono h3 (λok s4 h4=>?_) no)) no)) no)
  cases ok with
  | true =>
   rw[if_pos rfl] at h4
   simp only[if_true]
   exact wpAny_mono h4 (λf s6 ⟨e6,h6⟩=>by rw[e6];exact⟨rfl,h6⟩) no
  | false =>
   rw[if_neg Γk] at h4
   simp only[Γp,if_false]
   first
    | exact Γb ⟨rfl,h4⟩
    | exact Γa (Γb (Γb ⟨rfl,h4⟩))
end
def Wk (σ σ2:St):Prop:=σ2.length=σ.length/\∀ (j:Nat)(v:V),σ[j]?=some (some v)->σ2[j]?=some (some v)
structure CKind (X:Cx)(ce tg iter:Expr)(ifs:List Expr)(scope:Scope)(mk:Sem Value)(ob:Obj)(o0:Addr->HO)(fin:Value->Env->Code->Sem Fin):Prop where
 tn:∀ it acc env,compTurn ce 0 it (.ref acc) env=b6n tg iter ifs it env (fin (.ref acc) env (.compLoop ce 0 it (.ref acc) env)) (.compLoop ce 0 it (.ref acc) env)
 un:∀ (A:Around) it acc env,A.under (.compLoop ce 0 it (.ref acc) env)=A
 dn:∀ it acc env,(model X.prog X.w).den (.compLoop ce 0 it (.ref acc) env)=(compTurn ce 0 it (.ref acc) env).onRaise (λx=>do noteFrame x env;theTreesLotGoes x)
 us:∀ env use,evalThenUse ce env use=(do let _ <- comprehension ce scope env iter.pos mk false (eval iter env) (some use))
 st:∀ {A R s it acc env},codeAny (model X.prog X.w) A (.compLoop ce 0 it acc env) R s->wpAny (model X.prog X.w) A (pyIter it) (λit' s'=>codeAny (model X.prog X.w) A (.compLoop ce 0 it' acc env) R s') (notedBy (model X.prog X.w) A env λx s'=>R (.error x) s') s->codeAny (model X.prog X.w) A (.compStart ce 0 it acc env) R s
 nw:∀ {A s}{Q E:Value->Shared->Prop},Q (.ref s.heap.objs.size) { s with heap:=s.heap.push ob }->wpAny (model X.prog X.w) A mk Q E s
 ok:∀ {pins σ H s},Inv X pins σ H s->Inv X pins σ (upd H s.heap.objs.size (o0 s.heap.objs.size)) { s with heap:=s.heap.push ob,toks:=s.toks }
 ev:∀ env,eval ce env=comprehension ce scope env iter.pos mk false (eval iter env)
 cl:clausesOf ce=[⟨tg,iter,ifs,0⟩]
def PEm (Y:Cx)(fin:Value->Env->Code->Sem Fin)(em:Addr->St->Hp->(Hp->Prop)->Prop):Prop:=∀ pins s σ H acc c K,Inv Y pins σ H s->em acc σ H K->wpAny (model Y.prog Y.w) Y.A (fin (.ref acc) Y.env c) (λf s'=>f=.again c/\∃ H',Inv Y pins σ H' s'/\K H') Y.xe s
def a9r (wi:TI)(g:TG)(tt:TT)(em:Addr->St->Hp->(Hp->Prop)->Prop)(o0:Addr->HO) (own:Nat):TE:=λσ H Q=>wi σ H λJ H1=>∀ acc,H1 acc=none->∃ W:Nat->Nat->Hp->Prop,(∃ m,W 0 m (upd H1 acc (o0 acc)))/\∀ i m H,W i m H ->
 (J.stop i H/\Q (.ref acc) H) ∨ (J.go i H/\∀ x H',J.yld i H x H'->g x (σ++Γj own none) H' λσ2 H2=>Wk (σ++Γj own none) σ2/\tt σ2 H2 λb H3 =>
  if b=true then em acc σ2 H3 λH4=>∃ m',m'<m/\W (i+1) m' H4 else ∃ m',m'<m/\W (i+1) m' H3)
section
variable {X:Cx}{ce elt tg iter:Expr}{ifs:List Expr}{scope:Scope}{own:List Str}{pos:Pos}{wi:TI}{g:TG}{tt:TT}{te:TE}{mk:Sem Value}{ob:Obj}{o0:Addr->HO}{fin:Value->Env->Code->Sem Fin}{em:Addr->St->Hp->(Hp->Prop)->Prop}
theorem b1g {pins:List (Addr×Obj)}{σ:St}{H2:Hp}{s2:Shared}{Q:VK}{it:Addr}{fp:List Addr}{tn:Nat->Heap->Prop}{J:It}{RR:Value->Addr->Result->Shared->Prop}
  (hc:X.calm=true)(SC:CScope X scope own)(CK:CKind X ce tg iter ifs scope mk ob o0 fin)
  (hblock:∀ C s H,PG (cxC X scope own fp C s H) tg g/\PTs (cxC X scope own fp C s H) ifs tt/\PEm (cxC X scope own fp C s H) fin em)
  (I2:Inv X pins σ H2 s2)(T:Turn X.prog X.w X.K tg J fp it tn)(st2:tn 0 s2.heap)(f2:∀ b∈fp,b6d X pins H2 b)
  (h:∀ acc,H2 acc=none->∃ W:Nat->Nat->Hp->Prop,(∃ m,W 0 m (upd H2 acc (o0 acc)))/\∀ i m H,W i m H ->
   (J.stop i H/\Q (.ref acc) H) ∨ (J.go i H/\∀ x H',J.yld i H x H'->g x (σ++Γj own.length none) H' λσ2 H2=>Wk (σ++Γj own.length none) σ2/\tt σ2 H2 λb H3 =>
    if b=true then em acc σ2 H3 λH4=>∃ m',m'<m/\W (i+1) m' H4 else ∃ m',m'<m/\W (i+1) m' H3))
  (hRR:∀ acc C H' m s',Inv X pins σ H' s'->s'.heap.Ns C m->C≠X.env.locals->(∀ x c,X.env.cells.lookup x=some c->c≠C)->s2.heap.objs.size<=C->H' C=none->Q (.ref acc) H'->RR (.ref acc) C (.ok .next) s'){E:Value->Shared->Prop} :
  wpAny (model X.prog X.w) X.A mk (λacc s3=>wpAny (model X.prog X.w) X.A (newFunctionEnv scope X.env.globals (b1y X.env.cells scope.names []) [] X.env.qual none .none (some X.env)) (λcenv s4 =>
   codeAny (model X.prog X.w) X.A (.compStart ce 0 (.ref it) acc { cenv with scope:=relabel scope X.env }) (RR acc cenv.locals) s4) E s3) E s2:=by
 have hacc:=I2.fresh
 have I3:Inv X pins σ (upd H2 s2.heap.objs.size (o0 s2.heap.objs.size)) { s2 with heap:=s2.heap.push ob,toks:=s2.toks }:=CK.ok I2
 refine CK.nw ?_
 obtain⟨W,⟨m0,w0⟩,turn⟩:=h _ hacc
 generalize hs3:({ s2 with heap:=s2.heap.push ob,toks:=s2.toks }:Shared)=s3 at I3
 have keep23:∀ b o,s2.heap.get? b=some o->s3.heap.get? b=some o:=λb o e=>by rw[<- hs3];exact Γc _ e
 have hf3:∀ b∈fp,b6d X pins (upd H2 s2.heap.objs.size (o0 s2.heap.objs.size)) b:=λb hb=>by
  obtain⟨o,ho,_⟩:=T.obj _ _ st2 b hb
  exact⟨by rw[a0d (Γo (Γl ho))];exact (f2 b hb).1,(f2 b hb).2⟩
 have st3:tn 0 s3.heap:=T.keep _ _ _ st2 λb hb o e=>keep23 b o e
 refine b0g λh4 hns' keep34 ok34=>?_
 have I4:=c3a (t4:=s3.toks+([]:List (Str×Value)).length) I3 SC hc hf3 (λb hb=>by obtain⟨o,ho,_⟩:=T.obj _ _ st3 b hb;exact⟨o,ho⟩) hns' keep34 ok34
 have st4:tn 0 h4:=T.keep _ _ _ st3 λb hb o e=>keep34 b o e
 obtain⟨hg,ht,he⟩:=hblock s3.heap.objs.size s3 (upd H2 s2.heap.objs.size (o0 s2.heap.objs.size))
 have e5:(cxC X scope own fp s3.heap.objs.size s3 (upd H2 s2.heap.objs.size (o0 s2.heap.objs.size))).env=compEnvC scope (cellsFrom (s3.heap.objs.size+1) scope.names (b1y X.env.cells scope.names [])) s3.heap.objs.size X.env:=rfl
 generalize hY:cxC X scope own fp s3.heap.objs.size s3 (upd H2 s2.heap.objs.size (o0 s2.heap.objs.size))=Y at hg ht he I4 e5
 have fpY:∀ {H':Hp},(∀ b∈fp,H' b=none)->∀ b∈fp,b6d Y [] H' b:=λhn b hb=>by
  obtain⟨o,ho,_⟩:=T.obj _ _ st3 b hb
  refine⟨hn b hb,?_,?_,?_,?_,?_⟩
  ·rw[<- hY];exact Γo (Γl ho)
  ·have:=I4.ok.exfs b (by rw[<- hY];exact hb)
   exact this
  ·exact .inl (by rw[<- hY];exact hb)
  ·exact λx c h=>(I4.ok.exf b (by rw[<- hY];exact hb)).2 x c h
  ·intro p hp;rw[<- hY] at hp;exact absurd (show p∈([]:List (Addr×Obj)) from hp) (by simp)
 have hYp:Y.prog=X.prog/\Y.w=X.w/\Y.K=X.K/\Y.calm=true/\Y.A=X.A/\Y.xe=(λ_ _=>False)/\Y.s₀=s3/\Y.H₀=upd H2 s2.heap.objs.size (o0 s2.heap.objs.size)/\Y.outer=X.stack/\Y.ex=fp:=by rw[<- hY];exact⟨rfl,rfl,rfl,hc,rfl,rfl,rfl,rfl,rfl,rfl⟩
 obtain⟨y1,y2,y3,y4,y5,y6,y7,y8,y9,y10⟩:=hYp
 have loop:∀ s5:Shared,s5 = { s3 with heap:=h4,toks:=s3.toks+([]:List (Str×Value)).length } ->
   codeAny (model X.prog X.w) X.A (.compLoop ce 0 (.ref it) (.ref s2.heap.objs.size) Y.env) (RR (.ref s2.heap.objs.size) s3.heap.objs.size) s5:=by
  rintro s5 rfl
  refine b9d (hA:=CK.un ..) (hd:=CK.dn ..) (CK.tn _ _ _) (λn s'=>∃ i H',Inv Y [] (σ++Γj own.length none) H' s'/\tn i s'.heap/\(∀ b∈fp,H' b=none)/\W i n H') ?_ m0 ⟨0,_,I4,st4,λb hb=>(hf3 b hb).1,w0⟩
  rintro n s6 ⟨i,H6,I6,st6,fr6,w6⟩
  rcases turn i n H6 w6 with⟨stop,q⟩|⟨go,step⟩
  ·have d:=T.done Y y1 y2 y3 y4 i [] s6 _ H6 (λ_ _=>False) I6 (fpY fr6) st6 stop
   rw[y5] at d
   refine thn d λr s7 ⟨hr,I7⟩=>?_
   subst hr
   obtain⟨m,hn,_⟩:=I7.loc
   have hL:Y.env.locals=s3.heap.objs.size:=by rw[e5];rfl
   rw[hL] at hn
   have b7:=I7.base
   rw[y7,y8,y10] at b7
   have b7':Un (frs X.stack) fp (upd H2 s2.heap.objs.size (o0 s2.heap.objs.size)) H6 s3.heap s7.heap:=by
    have z:Y.fs=frs X.stack:=by show frs Y.outer=_;rw[y9]
    rw[z] at b7
    exact b7
   have hok7:=I7.hok
   rw[y1,y2] at hok7
   have os7:=I7.os
   rw[y7] at os7
   have I8:Inv X pins σ H6 s7:=I3.call' os7 b7' hok7 I7.bare λb hb=>⟨(hf3 b hb).2.2.2.1,(hf3 b hb).2.1,(hf3 b hb).2.2.2.2.1,(hf3 b hb).2.2.2.2.2⟩
   have hfree:=I7.free
   rw[hL] at hfree
   refine hRR _ _ H6 m s7 I8 hn (Nat.ne_of_gt I3.lt) (λx c h z=>?_) ?_ hfree q
   ·obtain⟨v,y⟩:=I3.cell x c h
    exact absurd y.lt (by rw[z];exact Nat.lt_irrefl _)
   ·rw[<- hs3,Heap.size_push];exact Nat.le_succ _
  ·have d:=T.item Y y1 y2 y3 y4 i [] s6 _ H6 (λ_ _=>False) I6 (fpY fr6) st6 go
   rw[y5] at d
   refine thn d λr s7 ⟨u,hr,h7⟩=>?_
   subst hr
   refine thn h7 λ_ s8 ⟨x,H8,I8,r8,y8',st8,fr8⟩=>?_
   have I8':=I8.pinned (fpY fr8) (T.obj _ _ st8)
   have pinK:∀ {σ':St}{H':Hp}{s':Shared},Inv Y ([]++b0b fp s8.heap) σ' H' s'->tn (i+1) s'.heap/\∀ b∈fp,H' b=none:=λ{σ' H' s'} I' =>
    ⟨T.keep _ _ _ st8 λb hb o e=>(I'.pin (b,o) (List.mem_append_right _ (List.mem_append_right _ (a3y hb e)))).1,λb hb=>by
     obtain⟨o,e,_⟩:=T.obj _ _ st8 b hb
     exact (I'.pin (b,o) (List.mem_append_right _ (List.mem_append_right _ (a3y hb e)))).2.1⟩
   have dg:=hg _ s8 _ H8 x u _ I8' r8 (step x H8 y8')
   rw[y1,y2,y5,y6] at dg
   refine thn dg λ_ s9 ⟨σ9,H9,I9,wk,q9⟩=>?_
   have dt:=ht _ s9 σ9 H9 _ I9 q9
   rw[y1,y2,y5,y6] at dt
   refine thn dt λok s10 ⟨H10,I10,q10⟩=>?_
   cases ok with
   | true =>
    rw[if_pos rfl] at q10 ⊢
    have de:=he _ s10 σ9 H10 s2.heap.objs.size (.compLoop ce 0 (.ref it) (.ref s2.heap.objs.size) Y.env) _ I10 q10
    rw[y1,y2,y5,y6] at de
    refine thn de λf s12 ⟨e12,H12,I12,m',hm,w12⟩=>⟨e12,?_⟩
    obtain⟨t12,f12⟩:=pinK I12
    exact⟨m',hm,i+1,_,(I12.unpinned).weak wk.1.symm wk.2,t12,f12,w12⟩
   | false =>
    rw[if_neg Γk] at q10 ⊢
    obtain⟨m',hm,w10⟩:=q10
    obtain⟨t10,f10⟩:=pinK I10
    exact⟨m',hm,i+1,_,(I10.unpinned).weak wk.1.symm wk.2,t10,f10,w10⟩
 rw[e5] at loop
 exact CK.st (loop _ rfl) (T.self _ 0 _ _ _ st4 (loop _ rfl))
theorem a8q (hc:X.calm=true)(SC:CScope X scope own)(CK:CKind X.nox ce tg iter ifs scope mk ob o0 fin)(hi:PI X.nox tg iter wi)
  (hblock:∀ fp C s H,PG (cxC X scope own fp C s H) tg g/\PTs (cxC X scope own fp C s H) ifs tt/\PEm (cxC X scope own fp C s H) fin em)
  (hs:∀ x,foldedSetIterable iter X.env x=pure x:=by intro _;rfl) :
  PE X.nox ce (a9r wi g tt em o0 own.length):=by
 intro pins s σ H Q I h
 have fr:∀ p∈scope.names,p.2=.free->∃ c,X.env.cells.lookup p.1=some c:=λp hp hq=>I.ok.has p.1 (SC.free p hp hq)
 rw[CK.ev]
 refine wpAny_comprehension_free (use:=none) CK.cl hs (a8c fr) SC.kind SC.names (thn (hi pins s σ H _ I h) λv s1 h1=>thn h1 λitv s2 h2=>?_)
 obtain⟨it,fp,tn,J,H2,e,I2,T,st2,f2,h2⟩:=h2
 subst e
 refine b1g (X:=X.nox) (own:=own) (RR:=λacc C=>compPost (model X.prog X.w) X.A (λ_ _=>False) none (EP X.nox pins σ Q) acc C) hc ⟨SC.kind,SC.nocell,SC.names,SC.free,SC.apart,SC.hid⟩ CK (λC s H=>hblock fp C s H) I2 T st2 f2 h2 ?_
 intro acc C H' m s' I' hn hL hcl hC hH q
 obtain⟨f0,f1,f2',f3,f4,f5⟩:=I2.fpOk hC hH
 refine⟨m,hn,λh' hsb=>⟨.ref acc,H',?_,rfl,q⟩⟩
 exact I'.turned (t':=s'.toks) (λb o hb e=>(hsb.2 b hb).trans e) f0 f1 f3 f4 f5
theorem a6l {i:Nat}{x:Str}{px:Pos}{spos:Pos}(hc:X.calm=true)(SC:CScope X scope own)(CK:CKind X.nox ce tg iter ifs scope mk ob o0 fin)(hN:X.N.Nodup)(hx:X.N[i]?=some x)(hl:X.env.scope.names.lookup x=some .local)(hi:PI X.nox tg iter wi)
  (hblock:∀ fp C s H,PG (cxC X scope own fp C s H) tg g/\PTs (cxC X scope own fp C s H) ifs tt/\PEm (cxC X scope own fp C s H) fin em)
  (hsw:swapsWith ce (some (.Name x px)) spos.line X.env=pure true)
  (hs:∀ x,foldedSetIterable iter X.env x=pure x:=by intro _;rfl) :
  PS X.nox (.Assign [.Name x px] ce spos) (c0z (a9r wi g tt em o0 own.length) (a5d i)):=by
 intro pins s σ H D I h
 have fr:∀ p∈scope.names,p.2=.free->∃ c,X.env.cells.lookup p.1=some c:=λp hp hq=>I.ok.has p.1 (SC.free p hp hq)
 show wpAny (model X.prog X.w) X.A (exec _ X.env) _ _ s
 rw[exec_Assign_Name_used _ _ _ _ hsw]
 refine Γa (wpAny_standAt (Γa ?_))
 rw[CK.us]
 refine Γa (wpAny_mono (wpAny_comprehension_free (use:=some (assign (.Name x px) X.env)) (Q:=λ_ s'=>SP X.nox pins D .next s') CK.cl hs (a8c fr) SC.kind SC.names
  (thn (hi pins s σ H _ I h) λv s1 h1=>thn h1 λitv s2 h2=>?_)) (λ_ s' hq=>Γb (Γb hq)) λ_ _ e=>e)
 obtain⟨it,fp,tn,J,H2,e,I2,T,st2,f2,h2⟩:=h2
 subst e
 refine b1g (X:=X.nox) (own:=own) (Q:=λv H1=>a5d i v σ H1 D.nx) (RR:=λacc C=>compPost (model X.prog X.w) X.A (λ_ _=>False) (some (assign (.Name x px) X.env)) (λ_ s'=>SP X.nox pins D .next s') acc C) hc ⟨SC.kind,SC.nocell,SC.names,SC.free,SC.apart,SC.hid⟩ CK (λC s H=>hblock fp C s H) I2 T st2 f2 h2 ?_
 intro acc C H' m s' I' hn hL hcl hC hH q
 obtain⟨f0,f1,f2',f3,f4,f5⟩:=I2.fpOk hC hH
 show wpAny (model X.prog X.w) X.A (assign (.Name x px) X.env (.ref acc)) _ _ s'
 refine wpAny_assign_Name (a9s (X:=X.nox) I' hN hx (.inl hl) (v:=.ref acc) rfl (λs'' I'' hch=>?_) (.inr hl))
 obtain⟨a,hsa,ha⟩:=hch
 have hCa:C≠a:=by
  rcases ha with z|z
  ·rw[z];exact hL
  ·exact λy=>hcl x a z y.symm
 refine⟨m,hn.sameBut hsa hCa,λh' hsb=>?_⟩
 exact⟨_,H',I''.turned (t':=s''.toks) (λb o hb e=>(hsb.2 b hb).trans e) f0 f1 f3 f4 f5,q⟩
def emL (te:TE):Addr->St->Hp->(Hp->Prop)->Prop:=λacc σ H K=>te σ H λv H4=>∃ ys,H4 acc=some (.lst ys)/\ys.length<sizeLine/\K (upd H4 acc (.lst (ys++[v])))
def c5u (wi:TI)(g:TG)(tt:TT)(te:TE) (own:Nat):TE:=a9r wi g tt (emL te) (λ_=>.lst []) own
theorem c0h:CKind X (.ListComp elt [⟨tg,iter,ifs,0⟩] scope pos) tg iter ifs scope (newList []) { cls:=.type "list",data:=.seq ([]:List Value).toArray } (λ_=>.lst []) (b9l elt) :=
 ⟨λ_ _ _=>rfl,λ_ _ _ _=>rfl,λ_ _ _=>rfl,λ_ _=>rfl,codeAny_compStart_list,λq=>wpAny_newObj_type q,λI=>I.lnew .nil (Nat.zero_le _),λ_=>by rw[eval_ListComp];rfl,rfl⟩
theorem b3s {Y:Cx}(he:PE Y elt te):PEm Y (b9l elt) (emL te):=by
 intro pins s σ H acc c K I q
 unfold b9l
 refine Γa (Γa (thn (he _ s σ H _ I q) λy s11 ⟨v11,H11,I11,r11,ys,hys,hz,k⟩=>Γa ?_))
 refine thn (b0h (X:=Y) _ s11 σ H11 (.ref acc) [v11] (.ref acc) [y] (λ_ H'=>H'=upd H11 acc (.lst (ys++[v11]))) I11 rfl (.cons r11 .nil) ⟨_,ys,v11,rfl,rfl,hys,hz,rfl⟩) λ_ s12 ⟨v12,H12,I12,r12,e12⟩=>?_
 subst e12
 exact Γb (Γb ⟨rfl,_,I12,k⟩)
theorem b7o (hc:X.calm=true)(SC:CScope X scope own)(hi:PI X.nox tg iter wi)
  (hblock:∀ fp C s H,PG (cxC X scope own fp C s H) tg g/\PTs (cxC X scope own fp C s H) ifs tt/\PE (cxC X scope own fp C s H) elt te)
  (hs:∀ x,foldedSetIterable iter X.env x=pure x:=by intro _;rfl) :
  PE X.nox (.ListComp elt [⟨tg,iter,ifs,0⟩] scope pos) (c5u wi g tt te own.length) :=
 a8q hc SC c0h hi (λfp C s H=>let ⟨a,b,c⟩:=hblock fp C s H;⟨a,b,b3s c⟩) hs
theorem b5g {i:Nat}{x:Str}{px:Pos}{spos:Pos}(hc:X.calm=true)(SC:CScope X scope own)(hN:X.N.Nodup)(hx:X.N[i]?=some x)(hl:X.env.scope.names.lookup x=some .local)(hi:PI X.nox tg iter wi)
  (hblock:∀ fp C s H,PG (cxC X scope own fp C s H) tg g/\PTs (cxC X scope own fp C s H) ifs tt/\PE (cxC X scope own fp C s H) elt te)
  (hsw:swapsWith (.ListComp elt [⟨tg,iter,ifs,0⟩] scope pos) (some (.Name x px)) spos.line X.env=pure true)
  (hs:∀ x,foldedSetIterable iter X.env x=pure x:=by intro _;rfl) :
  PS X.nox (.Assign [.Name x px] (.ListComp elt [⟨tg,iter,ifs,0⟩] scope pos) spos) (c0z (c5u wi g tt te own.length) (a5d i)) :=
 a6l hc SC c0h hN hx hl hi (λfp C s H=>let ⟨a,b,c⟩:=hblock fp C s H;⟨a,b,b3s c⟩) hsw hs
end
end L2
end
section
namespace L2
open PySem PySem.Spec PyProof.Rows
section
variable {X:Cx}{pins:List (Addr×Obj)}{σ:St}{H:Hp}{s:Shared}{h':Heap}
theorem Inv.turnedNew {t':Nat}{ch:List Addr}{p:Addr}{o:HO}(I:Inv X pins σ H s)(hp:s.heap.objs.size<=p)(k:∀ b ob,b ∉ ch->s.heap.get? b=some ob->h'.get? b=some ob)(hf:∀ b∈ch,b6d X pins H b)
  (new:ObjOk X.prog X.w (upd H p o) h' p o):Inv X pins σ (upd H p o) { s with heap:=h',toks:=t' }:=by
 have hn:H p=none:=I.hok.fresh hp
 have nit:∀ b u,H b=some u->b ∉ ch:=λb u e z=>by rw[(hf b z).1] at e;cases e
 have nep:∀ {b ob},s.heap.get? b=some ob->b≠p:=λe=>Γo (Nat.lt_of_lt_of_le (Γl e) hp)
 refine I.step (g':=s.gens) (d':=s.drawn) (ch:=ch) (λb hb=>⟨(hf b hb).2.2.2.1,(hf b hb).2.1,(hf b hb).2.2.2.2.1,(hf b hb).2.2.2.2.2⟩) (λb ob _ _ hc e _=>k b ob hc e) (λb ob _ _ hc e _=>⟨ob.slots,k b ob hc e⟩)
  (λb ob hc e n=>by rw[a0d (nep e)];exact n) (λb ob hc e=>⟨ob,k b ob hc e⟩) (λb xs e=>by rw[a0d (a1a e hn)];exact e) (λb u xs e=>by rw[a0d (a1a e hn)];exact e)
  (λb ps e=>⟨#[],by rw[a0d (a1a e hn),e];simp⟩) (λm hm=>?_) (λb u e=>?_) I.bare
 ·obtain⟨ob,es,ep,ho,r⟩:=hm
  exact⟨ob,es,ep,k _ ob (λz=>(hf _ z).2.1 rfl) ho,r⟩
 ·by_cases hb:b=p
  ·subst hb;rw[a0e] at e;cases e;exact new
  ·rw[a0d hb] at e
   refine (I.hok b u e).stay (λc v hc q=>k c v ?_ q) (λc q=>by rw[a0d (a1a q hn)];exact q) λc xs q=>by rw[a0d (a1a q hn)];exact q
   rcases hc with z|z
   ·rw[z];exact nit b u e
   ·exact nit c _ z
theorem Inv.turnedL {t':Nat}{ch:List Addr}(I:Inv X pins σ H s)(k:∀ b ob,b ∉ ch->s.heap.get? b=some ob->h'.get? b=some ob)(hf:∀ b∈ch,b6d X pins H b):Inv X pins σ H { s with heap:=h',toks:=t' }:=by
 have nit:∀ b u,H b=some u->b ∉ ch:=λb u e z=>by rw[(hf b z).1] at e;cases e
 refine I.step (g':=s.gens) (d':=s.drawn) (ch:=ch) (λb hb=>⟨(hf b hb).2.2.2.1,(hf b hb).2.1,(hf b hb).2.2.2.2.1,(hf b hb).2.2.2.2.2⟩) (λb ob _ _ hc e _=>k b ob hc e) (λb ob _ _ hc e _=>⟨ob.slots,k b ob hc e⟩)
  (λ_ _ _ _ n=>n) (λb ob hc e=>⟨ob,k b ob hc e⟩) (λ_ _ e=>e) (λ_ _ _ e=>e) (λb ps e=>⟨#[],by rw[e];simp⟩) (λm hm=>?_) (λb u e=>?_) I.bare
 ·obtain⟨ob,es,ep,ho,r⟩:=hm
  exact⟨ob,es,ep,k _ ob (λz=>(hf _ z).2.1 rfl) ho,r⟩
 ·refine (I.hok b u e).stay (λc v hc q=>k c v ?_ q) (λ_ q=>q) λ_ _ q=>q
  rcases hc with z|z
  ·rw[z];exact nit b u e
  ·exact nit c _ z
end
end L2
end
section
namespace L2
open PySem PySem.Spec PyProof.Rows
def SeqB (b:Bool)(h:Heap)(l:Addr)(xs:Array Value):Prop:=match b with|true=>h.IsList l xs|false=>h.IsTuple l xs
def IterB (b:Bool)(h:Heap)(it l:Addr) (i:Nat):Prop:=match b with|true=>h.IsListIter it l i|false=>h.IsTupleIter it l i
def a9c (b:Bool):String:=match b with|true=>"list_iterator" | false=>"tuple_iterator"
section
variable {b:Bool}{h h':Heap}{it l c:Addr}{i:Nat}{xs:Array Value}
theorem SeqB.move (x:SeqB b h l xs)(e:Heap.ExtBut c h h')(n:l≠c):SeqB b h' l xs:=by
 cases b
 ·exact Heap.IsTuple.extBut x e n
 ·exact Heap.IsList.extBut x e n
theorem SeqB.push {o:Obj}(x:SeqB b h l xs):SeqB b (h.push o) l xs:=by
 cases b
 ·exact Heap.IsTuple.push x o
 ·exact Heap.IsList.push x o
theorem SeqB.lt (x:SeqB b h l xs):l<h.objs.size:=by
 cases b<;>(obtain⟨_,e,_⟩:=x;exact Γl e)
theorem IterB.move (x:IterB b h it l i)(e:Heap.ExtBut c h h')(n:it≠c):IterB b h' it l i:=by
 cases b
 ·exact Heap.IsTupleIter.extBut x e n
 ·exact Heap.IsListIter.extBut x e n
theorem IterB.to (x:IterB b h it l i)(k:∀ o,h.get? it=some o->h'.get? it=some o):IterB b h' it l i:=by
 cases b<;>(obtain⟨o,e,r⟩:=x;exact⟨o,k o e,r⟩)
theorem IterB.obj (x:IterB b h it l i):∃ o,h.get? it=some o/\∀ v,o.data≠.cell v:=by
 cases b<;>(obtain⟨o,e,_,d⟩:=x;exact⟨o,e,λv z=>by rw[d] at z;cases z⟩)
theorem IterB.lt (x:IterB b h it l i):it<h.objs.size:=let ⟨_,e,_⟩:=x.obj;Γl e
end
section
variable {P:Program}{w:World}{A:Around}{E:Value->Shared->Prop}{s:Shared}{b:Bool}{it l:Addr}{i:Nat}{xs:Array Value}{Q:Value->Shared->Prop}
theorem b8o (x:SeqB b s.heap l xs)(q:Q (.ref s.heap.objs.size) { s with heap:=s.heap.push { cls:=.type (a9c b),data:=.fields #[.ref l,.int 0 0] } }):wpAny (model P w) A (pyIter (.ref l)) Q E s:=by
 cases b
 ·exact wpAny_pyIter_tuple x q
 ·exact wpAny_pyIter_list x q
theorem d9p {x:Value}(hi:s.heap.IsTupleIter it l i)(hl:s.heap.IsTuple l xs)(hx:xs[i]?=some x)(q:∀ h',h'.IsTupleIter it l (i+1)->Heap.SameBut it s.heap h'->Q x { s with heap:=h' }):wpAny (model P w) A (Builtin.SmallTypes.nextOf (.ref it)) Q E s:=by
 obtain⟨oi,ei,ci,di⟩:=id hi
 obtain⟨os,es,_,ns,ds⟩:=hl
 unfold Builtin.SmallTypes.nextOf
 refine Γa (wpAny_callSpecial?_slot (name:=Γe "__next__") hi.typeIs F.slot_tuple_iterator_next (wpAny_call_entry F.slot_tuple_iterator_next hi.typeIs F.entry_tuple_iterator_next ?_ (F.args_tuple_iterator_next_1 _)))
 show wpAny _ _ (field (.ref it) 0 >>= _) _ _ s;refine Γa (wpAny_field ei di (x:=.ref l) rfl ?_)
 show wpAny _ _ (if (Value.ref l == Value.none)=true then _ else _) _ _ s;rw[if_neg (show ¬ ((Value.ref l == Value.none)=true) from Γk)]
 show wpAny _ _ (field (.ref it) 1 >>= _) _ _ s;refine Γa (wpAny_field ei di (x:=.int i 0) rfl ?_)
 show wpAny _ _ (seqItems? (.ref l) >>= _) _ _ s;refine Γa (wpAny_seqItems es ds ?_)
 simp only[Int.toNat_natCast,hx]
 refine Γa (wpAny_setField ei di (by simp) (Γb ⟨x,rfl,Γb (q _ ⟨_,Heap.get?_update_self _ ei (Obj.isFreed_of_fields (Obj.data_mapFields di _)),(Obj.cls_mapFields ..).trans ci,?_⟩ (Heap.SameBut.update ..))⟩))
 rw[Obj.data_mapFields di];simp[rawInt]
theorem d7j (hh:A.handled=none)(hi:s.heap.IsTupleIter it l i)(hl:s.heap.IsTuple l xs)(hx:xs[i]?=none)
  (q:∀ h' e,Heap.ExtBut it s.heap h'->(∃ o,h'.get? e=some o/\o.cls=.type "StopIteration")->E (.ref e) { s with heap:=h' }):wpAny (model P w) A (Builtin.SmallTypes.nextOf (.ref it)) Q E s:=by
 obtain⟨oi,ei,ci,di⟩:=id hi
 obtain⟨os,es,_,ns,ds⟩:=hl
 unfold Builtin.SmallTypes.nextOf
 refine Γa (wpAny_callSpecial?_slot (name:=Γe "__next__") hi.typeIs F.slot_tuple_iterator_next (wpAny_call_entry F.slot_tuple_iterator_next hi.typeIs F.entry_tuple_iterator_next ?_ (F.args_tuple_iterator_next_1 _)))
 show wpAny _ _ (field (.ref it) 0 >>= _) _ _ s;refine Γa (wpAny_field ei di (x:=.ref l) rfl ?_)
 show wpAny _ _ (if (Value.ref l == Value.none)=true then _ else _) _ _ s;rw[if_neg (show ¬ ((Value.ref l == Value.none)=true) from Γk)]
 show wpAny _ _ (field (.ref it) 1 >>= _) _ _ s;refine Γa (wpAny_field ei di (x:=.int i 0) rfl ?_)
 show wpAny _ _ (seqItems? (.ref l) >>= _) _ _ s;refine Γa (wpAny_seqItems es ds ?_)
 simp only[Int.toNat_natCast,hx]
 refine Γa (wpAny_rule (Γa (wpAny_setField ei di (by simp) ?_)));show wpAny _ _ (newExc (.type "StopIteration") [] >>= _) _ _ _
 refine Γa ?_;simp only[newExc,newTuple]
 refine Γa (wpAny_newObj_type ?_ (by size_fits));refine Γa (m:=firstArgMember _ _) (wpAny_of_eq (a:=Value.none) (by first|rfl|(simp only[firstArgMember];rfl)) ?_)
 refine wpAny_newObj_type ?_ (by size_fits);simp only[raiseNew];refine Γa (wpAny_handled ?_)
 first|rw[show A.in1.handled=none from hh]|rw[hh]
 exact Γa (Γb (wpAny_throw (q _ _ (((Heap.SameBut.update ..).extBut.push _).push _) ⟨_,Γm _ rfl,rfl⟩)))
theorem c2i {x:Value}(hi:IterB b s.heap it l i)(hl:SeqB b s.heap l xs)(hx:xs[i]?=some x)(q:∀ h',IterB b h' it l (i+1)->Heap.SameBut it s.heap h'->Q x { s with heap:=h' }):wpAny (model P w) A (Builtin.SmallTypes.nextOf (.ref it)) Q E s:=by
 cases b
 ·exact d9p hi hl hx q
 ·exact wpAny_nextOf_list_item hi hl hx q
theorem c5x (hh:A.handled=none)(hi:IterB b s.heap it l i)(hl:SeqB b s.heap l xs)(hx:xs[i]?=none)
  (q:∀ h' e,Heap.ExtBut it s.heap h'->(∃ o,h'.get? e=some o/\o.cls=.type "StopIteration")->E (.ref e) { s with heap:=h' }):wpAny (model P w) A (Builtin.SmallTypes.nextOf (.ref it)) Q E s:=by
 cases b
 ·exact d7j hh hi hl hx q
 ·exact wpAny_nextOf_list_end hh hi hl hx q
end
section
variable {P:Program}{w:World}{A:Around}{E:Value->Shared->Prop}{s:Shared}{p q:Bool}{z TI TO i1 i2 l1 l2:Addr}{k1 k2:Nat}{xs ys:Array Value}{x y a b:Value}
theorem b6g {Q:Value->Shared->Prop}(D:ZipApart z TI TO i1 i2 l1 l2)(zz:IsZip s.heap z TI TO .none)(zi:IsPair s.heap TI (.ref i1) (.ref i2))(zo:IsPair s.heap TO a b)
  (t1:IterB p s.heap i1 l1 k1)(t2:IterB q s.heap i2 l2 k2)(m1:SeqB p s.heap l1 xs)(m2:SeqB q s.heap l2 ys)(ex:xs[k1]?=some x)(ey:ys[k2]?=some y)
  (K:∀ h',IsZip h' z TI TO (rawInt s.heap.objs.size)->IsPair h' TO x y->IterB p h' i1 l1 (k1+1)->IterB q h' i2 l2 (k2+1)->IsPair h' s.heap.objs.size x y ->
   (∀ c o,c≠z->c≠TO->c≠i1->c≠i2->s.heap.get? c=some o->h'.get? c=some o)->Q (.ref s.heap.objs.size) { s with heap:=h' }) :
  wpAny (model P w) A (Builtin.«zip.__next__» ⟨[.ref z],[]⟩) (λfin s'=>∃ v,fin=.done (.ret v)/\Q v s') E s:=by
 show wpAny _ _ (field (.ref z) 2 >>= _) _ _ _;refine Γa (wpAny_field zz rfl (x:=.bool false) rfl ?_)
 show wpAny _ _ (field (.ref z) 3 >>= _) _ _ _;refine Γa (wpAny_field zz rfl (x:=.ref TI) rfl (Γa (wpAny_seqItems zi rfl ?_)))
 show wpAny _ _ (Builtin.SmallTypes.ownedTupleIsFree (.ref z) >>= _) _ _ _;refine Γa ?_;unfold Builtin.SmallTypes.ownedTupleIsFree
 refine Γa (wpAny_field zz rfl (x:=.none) rfl (Γb ?_));simp only[if_true]
 refine Γa (wpAny_rule (Γa (wpAny_field zz rfl (x:=.ref TO) rfl (Γa (wpAny_setField_rec zz (by simp) λg1 z1 b1=>?_)))))
 replace z1:IsZip g1 z TI TO .ellipsis:=z1
 refine Γa ?_;simp only[List.zipIdx_cons,List.zipIdx_nil,List.forIn_cons,List.forIn_nil]
 refine Γa (Γa (wpAny_onRaise ?_));show wpAny _ _ (Builtin.SmallTypes.nextOf (.ref i1) >>= _) _ _ _
 refine Γa (c2i (t1.move b1.extBut D.i1z) (m1.move b1.extBut D.l1z) ex λg2 t12 b2=>Γb ?_)
 have o2:IsPair g2 TO a b:=b2.extBut _ _ D.TOi1 (b1.extBut _ _ D.TOz zo)
 refine Γa (wpAny_seqItems o2 rfl (Γa (wpAny_updateSeq_pair o2 λg3 o3 b3=>?_)))
 replace o3:IsPair g3 TO x b:=o3
 refine Γa (wpAny_letGo (Γb (Γa (Γa (wpAny_onRaise ?_)))));show wpAny _ _ (Builtin.SmallTypes.nextOf (.ref i2) >>= _) _ _ _
 refine Γa (c2i (((t2.move b1.extBut D.i2z).move b2.extBut D.i12.symm).move b3.extBut D.TOi2.symm) (((m2.move b1.extBut D.l2z).move b2.extBut D.l2i1).move b3.extBut D.l2TO) ey λg4 t24 b4=>Γb ?_)
 have o4:IsPair g4 TO x b:=b4.extBut _ _ D.TOi2 o3
 refine Γa (wpAny_seqItems o4 rfl (Γa (wpAny_updateSeq_pair o4 λg5 o5 b5=>?_)))
 replace o5:IsPair g5 TO x y:=o5
 refine Γa (wpAny_letGo (Γb (Γb (Γa (wpAny_seqItems o5 rfl (Γa (wpAny_newTuple ?_)))))))
 have sz:g5.objs.size=s.heap.objs.size:=by rw[b5.1,b4.1,b3.1,b2.1,b1.1]
 have z5:IsZip g5 z TI TO .ellipsis:=b5.extBut _ _ D.TOz.symm (b4.extBut _ _ D.i2z.symm (b3.extBut _ _ D.TOz.symm (b2.extBut _ _ D.i1z.symm z1)))
 have kk:∀ c o,c≠z->c≠TO->c≠i1->c≠i2->s.heap.get? c=some o->g5.get? c=some o:=λc o c1 c2 c3 c4 e=>b5.extBut _ _ c2 (b4.extBut _ _ c4 (b3.extBut _ _ c2 (b2.extBut _ _ c3 (b1.extBut _ _ c1 e))))
 have t15:IterB p g5 i1 l1 (k1+1):=((t12.move b3.extBut D.TOi1.symm).move b4.extBut D.i12).move b5.extBut D.TOi1.symm
 have t25:IterB q g5 i2 l2 (k2+1):=t24.move b5.extBut D.TOi2.symm
 have zlt:z<g5.objs.size:=Γl z5
 show wpAny _ _ (Builtin.SmallTypes.ownedTupleHandOut (.ref z) (.ref g5.objs.size) >>= _) _ _ _;refine Γa ?_;unfold Builtin.SmallTypes.ownedTupleHandOut
 have z6:IsZip (g5.push { cls:=.type "tuple",data:=.seq #[x,y] }) z TI TO .ellipsis:=Γc _ z5
 refine Γa (wpAny_setField_rec z6 (by simp) λg7 z7 b7=>?_);replace z7:IsZip g7 z TI TO (rawInt g5.objs.size):=z7
 refine wpAny_setField_rec z7 (by simp) λg8 z8 b8=>?_;replace z8:IsZip g8 z TI TO (rawInt g5.objs.size):=z8
 have up:∀ c o,c≠z->g5.get? c=some o->g8.get? c=some o:=λc o c1 e=>b8.extBut _ _ c1 (b7.extBut _ _ c1 (Γc _ e))
 have tt:IsPair g8 g5.objs.size x y:=b8.extBut _ _ (Nat.ne_of_gt zlt) (b7.extBut _ _ (Nat.ne_of_gt zlt) (Γm _ rfl))
 rw[sz] at z8 tt
 refine Γb ⟨_,rfl,?_⟩;show Q (.ref g5.objs.size) _;rw[sz]
 exact K g8 z8 (up _ _ D.TOz o5) (t15.to λo e=>up _ o D.i1z e) (t25.to λo e=>up _ o D.i2z e) tt λc o c1 c2 c3 c4 e=>up c o c1 (kk c o c1 c2 c3 c4 e)
theorem c1d {Q:Fin->Shared->Prop}(hh:A.handled=none)(D:ZipApart z TI TO i1 i2 l1 l2)(zz:IsZip s.heap z TI TO .none)(zi:IsPair s.heap TI (.ref i1) (.ref i2))(zo:IsPair s.heap TO a b)
  (t1:IterB p s.heap i1 l1 k1)(t2:IterB q s.heap i2 l2 k2)(m1:SeqB p s.heap l1 xs)(m2:SeqB q s.heap l2 ys)(en:xs[k1]?=none ∨ ys[k2]?=none)
  (K:∀ h' e,(∀ c o,c≠z->c≠TO->c≠i1->c≠i2->s.heap.get? c=some o->h'.get? c=some o)->(∃ o,h'.get? e=some o/\o.cls=.type "StopIteration")->E (.ref e) { s with heap:=h' }) :
  wpAny (model P w) A (Builtin.«zip.__next__» ⟨[.ref z],[]⟩) Q E s:=by
 show wpAny _ _ (field (.ref z) 2 >>= _) _ _ _;refine Γa (wpAny_field zz rfl (x:=.bool false) rfl ?_)
 show wpAny _ _ (field (.ref z) 3 >>= _) _ _ _;refine Γa (wpAny_field zz rfl (x:=.ref TI) rfl (Γa (wpAny_seqItems zi rfl ?_)))
 show wpAny _ _ (Builtin.SmallTypes.ownedTupleIsFree (.ref z) >>= _) _ _ _;refine Γa ?_;unfold Builtin.SmallTypes.ownedTupleIsFree
 refine Γa (wpAny_field zz rfl (x:=.none) rfl (Γb ?_));simp only[if_true]
 refine Γa (wpAny_rule (Γa (wpAny_field zz rfl (x:=.ref TO) rfl (Γa (wpAny_setField_rec zz (by simp) λg1 z1 b1=>?_)))))
 replace z1:IsZip g1 z TI TO .ellipsis:=z1
 refine Γa ?_;simp only[List.zipIdx_cons,List.zipIdx_nil,List.forIn_cons,List.forIn_nil]
 refine Γa (Γa (wpAny_onRaise ?_));show wpAny _ _ (Builtin.SmallTypes.nextOf (.ref i1) >>= _) _ _ _
 have fin:∀ {g:Heap}{e:Addr}{o:Obj},IsZip g z TI TO .ellipsis->g.get? e=some o->o.cls=.type "StopIteration"->e≠z:=λh1 h2 h3 x=>by subst x;rw[h1] at h2;cases h2;simp at h3
 cases hx:xs[k1]? with
 | none =>
  refine Γa (c5x hh (t1.move b1.extBut D.i1z) (m1.move b1.extBut D.l1z) hx λg2 e b2 he=>?_)
  obtain⟨oe,e1,e2⟩:=he
  have z2:IsZip g2 z TI TO .ellipsis:=b2 _ _ D.i1z.symm z1
  exact wpAny_setField_rec z2 (by simp) λg3 _ b3=>K g3 e (λc o c1 _ c3 _ x=>b3.extBut _ _ c1 (b2 _ _ c3 (b1.extBut _ _ c1 x))) ⟨oe,b3.extBut _ _ (fin z2 e1 e2) e1,e2⟩
 | some x =>
  have hy:ys[k2]?=none:=by rcases en with h|h;rw[hx] at h;cases h;exact h
  refine Γa (c2i (t1.move b1.extBut D.i1z) (m1.move b1.extBut D.l1z) hx λg2 t12 b2=>Γb ?_)
  have o2:IsPair g2 TO a b:=b2.extBut _ _ D.TOi1 (b1.extBut _ _ D.TOz zo)
  refine Γa (wpAny_seqItems o2 rfl (Γa (wpAny_updateSeq_pair o2 λg3 o3 b3=>Γa (wpAny_letGo (Γb (Γa (Γa (wpAny_onRaise ?_))))))))
  show wpAny _ _ (Builtin.SmallTypes.nextOf (.ref i2) >>= _) _ _ _
  refine Γa (c5x hh (((t2.move b1.extBut D.i2z).move b2.extBut D.i12.symm).move b3.extBut D.TOi2.symm) (((m2.move b1.extBut D.l2z).move b2.extBut D.l2i1).move b3.extBut D.l2TO) hy λg4 e b4 he=>?_)
  obtain⟨oe,e1,e2⟩:=he
  have z4:IsZip g4 z TI TO .ellipsis:=b4 _ _ D.i2z.symm (b3.extBut _ _ D.TOz.symm (b2.extBut _ _ D.i1z.symm z1))
  exact wpAny_setField_rec z4 (by simp) λg5 _ b5=>K g5 e (λc o c1 c2 c3 c4 x=>b5.extBut _ _ c1 (b4 _ _ c4 (b3.extBut _ _ c2 (b2.extBut _ _ c3 (b1.extBut _ _ c1 x))))) ⟨oe,b5.extBut _ _ (fin z4 e1 e2) e1,e2⟩
theorem b6f {Q:Option Value->Shared->Prop}(D:ZipApart z TI TO i1 i2 l1 l2)(zz:IsZip s.heap z TI TO .none)(zi:IsPair s.heap TI (.ref i1) (.ref i2))(zo:IsPair s.heap TO a b)
  (t1:IterB p s.heap i1 l1 k1)(t2:IterB q s.heap i2 l2 k2)(m1:SeqB p s.heap l1 xs)(m2:SeqB q s.heap l2 ys)(ex:xs[k1]?=some x)(ey:ys[k2]?=some y)
  (K:∀ h',IsZip h' z TI TO (rawInt s.heap.objs.size)->IsPair h' TO x y->IterB p h' i1 l1 (k1+1)->IterB q h' i2 l2 (k2+1)->IsPair h' s.heap.objs.size x y ->
   (∀ c o,c≠z->c≠TO->c≠i1->c≠i2->s.heap.get? c=some o->h'.get? c=some o)->Q (some (.ref s.heap.objs.size)) { s with heap:=h' }):wpAny (model P w) A (pyNext (.ref z)) Q E s:=by
 have ty:s.TypeIs (.ref z) "zip":=⟨_,zz,rfl⟩
 unfold pyNext
 exact Γa (wpAny_attempt (wpAny_callSpecial?_slot (name:=Γe "__next__") ty F.slot_zip_next (wpAny_call_entry F.slot_zip_next ty F.entry_zip_next (b6g D zz zi zo t1 t2 m1 m2 ex ey λh' a1 a2 a3 a4 a5 a6=>Γb (K h' a1 a2 a3 a4 a5 a6)) (F.args_zip_next_1 _))))
theorem b6e {Q:Option Value->Shared->Prop}(hh:A.handled=none)(D:ZipApart z TI TO i1 i2 l1 l2)(zz:IsZip s.heap z TI TO .none)(zi:IsPair s.heap TI (.ref i1) (.ref i2))(zo:IsPair s.heap TO a b)
  (t1:IterB p s.heap i1 l1 k1)(t2:IterB q s.heap i2 l2 k2)(m1:SeqB p s.heap l1 xs)(m2:SeqB q s.heap l2 ys)(en:xs[k1]?=none ∨ ys[k2]?=none)
  (K:∀ h',(∀ c o,c≠z->c≠TO->c≠i1->c≠i2->s.heap.get? c=some o->h'.get? c=some o)->Q none { s with heap:=h' }):wpAny (model P w) A (pyNext (.ref z)) Q E s:=by
 have ty:s.TypeIs (.ref z) "zip":=⟨_,zz,rfl⟩
 unfold pyNext
 refine Γa (wpAny_attempt (wpAny_callSpecial?_slot (name:=Γe "__next__") ty F.slot_zip_next (wpAny_call_entry F.slot_zip_next ty F.entry_zip_next (c1d hh D zz zi zo t1 t2 m1 m2 en λh' e hk he=>?_) (F.args_zip_next_1 _))))
 obtain⟨o,e1,e2⟩:=he
 exact Γa (wpAny_isInstance (T:="StopIteration") (b:=true) ⟨o,e1,e2⟩ isSubtype_stop (Γb (K _ hk)))
end
abbrev zb1 (p:Bool)(h:Heap)(l1:Addr):Heap:=h.push { cls:=.type (a9c p),data:=.fields #[.ref l1,.int 0 0] }
abbrev zb2 (p q:Bool)(h:Heap)(l1 l2:Addr):Heap:=(zb1 p h l1).push { cls:=.type (a9c q),data:=.fields #[.ref l2,.int 0 0] }
abbrev zb3 (p q:Bool)(h:Heap)(l1 l2:Addr):Heap:=(zb2 p q h l1 l2).push { cls:=.type "tuple",data:=.seq #[.ref h.objs.size,.ref (zb1 p h l1).objs.size] }
abbrev zb4 (p q:Bool)(h:Heap)(l1 l2:Addr):Heap:=(zb3 p q h l1 l2).push { cls:=.type "tuple",data:=.seq #[.none,.none] }
abbrev zb5 (p q:Bool)(h:Heap)(l1 l2:Addr):Heap:=(zb4 p q h l1 l2).push { cls:=.type "zip",data:=.fields #[.none,.bool false,.bool false,.ref (zb2 p q h l1 l2).objs.size,.ref (zb3 p q h l1 l2).objs.size] }
theorem b5i (p q:Bool)(l1 l2:Addr)(xs ys:Array Value) :
  Meets (Builtin.«zip.__new__» ⟨[.type "zip",.ref l1,.ref l2],[]⟩) (λ_ R s=>SeqB p s.heap l1 xs/\SeqB q s.heap l2 ys/\R (.ok (.ret (.ref (zb4 p q s.heap l1 l2).objs.size))) { s with heap:=zb5 p q s.heap l1 l2 }) :=
 .of_wp λprog w A R s h=>by
  obtain⟨hp,g,d,tk,os⟩:=s;obtain⟨m1,m2,h⟩:=h
  have hsub:=sub_zip
  have M1:SeqB p (Shared.heap ⟨hp,g,d,tk,os⟩) l1 xs:=m1
  have M2:SeqB q (Shared.heap ⟨hp.push { cls:=.type (a9c p),data:=.fields #[.ref l1,.int 0 0] },g,d,tk,os⟩) l2 ys:=SeqB.push m2
  wp_walk using b8o M1,b8o M2
  exact⟨_,rfl,h⟩
section
variable {P:Program}{w:World}{A:Around}{E:Value->Shared->Prop}{s:Shared}
theorem c0j {p q:Bool}{l1 l2:Addr}{xs ys:Array Value}{Q:Value->Shared->Prop}(m1:SeqB p s.heap l1 xs)(m2:SeqB q s.heap l2 ys)
  (K:∀ h',IsZip h' (s.heap.objs.size+4) (s.heap.objs.size+2) (s.heap.objs.size+3) .none->IsPair h' (s.heap.objs.size+2) (.ref s.heap.objs.size) (.ref (s.heap.objs.size+1)) ->
   IsPair h' (s.heap.objs.size+3) .none .none->IterB p h' s.heap.objs.size l1 0->IterB q h' (s.heap.objs.size+1) l2 0->(∀ c o,s.heap.get? c=some o->h'.get? c=some o)->Q (.ref (s.heap.objs.size+4)) { s with heap:=h' }) :
  wpAny (model P w) A (call (.type "zip") [.ref l1,.ref l2]) Q E s:=by
 refine callType_new F.called_zip (by decide) (F.typeCall_zip_2 _ _) (F.newCall_zip_2 _ _) (λobj=>F.args_object_init_3 obj _ _) F.entry_zip_new (b5i p q l1 l2 xs ys) ⟨m1,m2,?_⟩
 have z1:(zb1 p s.heap l1).objs.size=s.heap.objs.size+1:=Heap.size_push ..
 have z2:(zb2 p q s.heap l1 l2).objs.size=s.heap.objs.size+2:=by rw[Heap.size_push,z1]
 have z3:(zb3 p q s.heap l1 l2).objs.size=s.heap.objs.size+3:=by rw[Heap.size_push,z2]
 have z4:(zb4 p q s.heap l1 l2).objs.size=s.heap.objs.size+4:=by rw[Heap.size_push,z3]
 have f5:(zb5 p q s.heap l1 l2).get? (zb4 p q s.heap l1 l2).objs.size=some _:=Γm _ rfl
 have f4:(zb5 p q s.heap l1 l2).get? (zb3 p q s.heap l1 l2).objs.size=some _:=Γc _ (Γm _ rfl)
 have f3:(zb5 p q s.heap l1 l2).get? (zb2 p q s.heap l1 l2).objs.size=some _:=Γc _ (Γc _ (Γm _ rfl))
 have f2:(zb5 p q s.heap l1 l2).get? (zb1 p s.heap l1).objs.size=some _:=Γc _ (Γc _ (Γc _ (Γm _ rfl)))
 have f1:(zb5 p q s.heap l1 l2).get? s.heap.objs.size=some _:=Γc _ (Γc _ (Γc _ (Γc _ (Γm _ rfl))))
 show _/\_
 rw[z2,z3,z4] at f5;rw[z1,z2] at f3;rw[z3] at f4;rw[z1] at f2;rw[z4]
 refine⟨⟨_,f5,rfl⟩,K _ f5 f3 f4 ?_ ?_ λc o x=>Γc _ (Γc _ (Γc _ (Γc _ (Γc _ x))))⟩
 ·cases p<;>exact⟨_,f1,rfl,rfl⟩
 ·cases q<;>exact⟨_,f2,rfl,rfl⟩
end
end L2
end
section
namespace L2
open PySem PySem.Spec PyProof.Rows
open AutoSeq1 (wpAny_loadPart')
section
variable {P:Program}{w:World}{A:Around}{E:Value->Shared->Prop}{s:Shared}{p:Bool}{e it l:Addr}{i:Nat}{xs:Array Value}{x old:Value}
theorem b5r {Q:Value->Shared->Prop}(ee:IsEnum s.heap e it i old)(t1:IterB p s.heap it l i)(m1:SeqB p s.heap l xs)(ex:xs[i]?=some x)(ne:e≠it)
  (K:∀ h',IsEnumOut h' e it ((i:Int)+1) x s.heap.objs.size->IterB p h' it l (i+1)->h'.get? s.heap.objs.size=some { cls:=.type "tuple",data:=.seq #[.int i s.toks,x] } ->
   (∀ b o,b≠e->b≠it->s.heap.get? b=some o->h'.get? b=some o)->Q (.ref s.heap.objs.size) { s with heap:=h',toks:=s.toks+1 }) :
  wpAny (model P w) A (Builtin.«enumerate.__next__» ⟨[.ref e],[]⟩) (λfin s'=>∃ v,fin=.done (.ret v)/\Q v s') E s:=by
 obtain⟨hp,g,d,tk,os⟩:=s
 show wpAny _ _ (field (.ref e) 2 >>= _) _ _ _;refine Γa (wpAny_field ee rfl (x:=.ref it) rfl (Γa (c2i t1 m1 ex λg1 t11 b1=>?_)))
 replace b1:Heap.SameBut it hp g1:=b1
 have e1:IsEnum g1 e it i old:=(b1.2 e ne).trans ee
 show wpAny _ _ (field (.ref e) 3 >>= _) _ _ ⟨g1,g,d,tk,os⟩;refine Γa (wpAny_field e1 rfl (x:=rawInt i) rfl ?_)
 show wpAny _ _ (field (.ref e) 4 >>= _) _ _ ⟨g1,g,d,tk,os⟩;refine Γa (wpAny_field e1 rfl (x:=.none) rfl ?_)
 show wpAny _ _ (mkInt i >>= _) _ _ ⟨g1,g,d,tk,os⟩;refine Γa (wpAny_mkInt ?_)
 show wpAny _ _ (setField (.ref e) 3 (rawInt ((i:Int)+1)) >>= _) _ _ ⟨g1,g,d,tk+1,os⟩;refine Γa (wpAny_setField_rec e1 (by simp) λg2 e2 b2=>?_)
 replace b2:Heap.SameBut e g1 g2:=b2
 replace e2:IsEnum g2 e it ((i:Int)+1) old:=e2
 show wpAny _ _ (setField (.ref e) 4 .none >>= _) _ _ ⟨g2,g,d,tk+1,os⟩;refine Γa (wpAny_setField_rec e2 (by simp) λg3 e3 b3=>?_)
 replace b3:Heap.SameBut e g2 g3:=b3
 replace e3:IsEnum g3 e it ((i:Int)+1) old:=e3
 show wpAny _ _ (newTuple [.int i tk,x] >>= _) _ _ ⟨g3,g,d,tk+1,os⟩;refine Γa (wpAny_newTuple ?_)
 have e4:IsEnum (g3.push { cls:=.type "tuple",data:=.seq #[.int i tk,x] }) e it ((i:Int)+1) old:=Γc _ e3
 generalize hg4:g3.push { cls:=.type "tuple",data:=.seq #[.int i tk,x] } = g4 at e4
 have sz:g3.objs.size=hp.objs.size:=by rw[b3.1,b2.1,b1.1]
 have el:e<hp.objs.size:=Γl ee
 have t4:g4.get? hp.objs.size=some { cls:=.type "tuple",data:=.seq #[.int i tk,x] }:=by rw[<- hg4,<- sz];exact Γm _ rfl
 have k4:∀ b o,b≠e->b≠it->hp.get? b=some o->g4.get? b=some o:=λb o c1 c2 h=>by rw[<- hg4];exact Γc _ (b3.extBut b o c1 (b2.extBut b o c1 (b1.extBut b o c2 h)))
 have i4:IterB p g4 it l (i+1):=by
  rw[<- hg4];exact ((t11.move b2.extBut (Ne.symm ne)).move b3.extBut (Ne.symm ne)).to λo h=>Γc _ h
 show wpAny _ _ (Builtin.SmallTypes.ownedTupleIsFree (.ref e) >>= _) _ _ ⟨g4,g,d,tk+1,os⟩
 rw[sz]
 clear hg4 e3 b3 e2 b2 e1 b1 t11 sz g3 g2 g1
 refine Γa ?_;unfold Builtin.SmallTypes.ownedTupleIsFree
 refine Γa (wpAny_field e4 rfl (x:=.none) rfl (Γb ?_));simp only[if_true]
 refine Γa (wpAny_rule (Γa (wpAny_field e4 rfl (x:=old) rfl (Γa (wpAny_setField_rec e4 (by simp) λg5 e5 b5=>?_)))))
 replace b5:Heap.SameBut e g4 g5:=b5
 replace e5:IsEnum g5 e it ((i:Int)+1) x:=e5
 show wpAny _ _ (Builtin.SmallTypes.ownedTupleHandOut (.ref e) (.ref hp.objs.size) >>= _) _ _ ⟨g5,g,d,tk+1,os⟩;refine Γa ?_;unfold Builtin.SmallTypes.ownedTupleHandOut
 refine Γa (wpAny_setField_rec e5 (by simp) λg6 e6 b6=>?_)
 replace b6:Heap.SameBut e g5 g6:=b6
 replace e6:IsEnumOut g6 e it ((i:Int)+1) x hp.objs.size:=e6
 refine wpAny_setField_rec e6 (by simp) λg7 e7 b7=>?_
 replace b7:Heap.SameBut e g6 g7:=b7
 replace e7:IsEnumOut g7 e it ((i:Int)+1) x hp.objs.size:=e7
 refine Γa (wpAny_letGo (Γb ⟨_,rfl,K g7 e7 (((i4.move b5.extBut (Ne.symm ne)).move b6.extBut (Ne.symm ne)).move b7.extBut (Ne.symm ne)) ?_ λb o c1 c2 h=>b7.extBut b o c1 (b6.extBut b o c1 (b5.extBut b o c1 (k4 b o c1 c2 h)))⟩))
 exact b7.extBut _ _ (Nat.ne_of_gt el) (b6.extBut _ _ (Nat.ne_of_gt el) (b5.extBut _ _ (Nat.ne_of_gt el) t4))
theorem b5q {Q:Option Value->Shared->Prop}(ee:IsEnum s.heap e it i old)(t1:IterB p s.heap it l i)(m1:SeqB p s.heap l xs)(ex:xs[i]?=some x)(ne:e≠it)
  (K:∀ h',IsEnumOut h' e it ((i:Int)+1) x s.heap.objs.size->IterB p h' it l (i+1)->h'.get? s.heap.objs.size=some { cls:=.type "tuple",data:=.seq #[.int i s.toks,x] } ->
   (∀ b o,b≠e->b≠it->s.heap.get? b=some o->h'.get? b=some o)->Q (some (.ref s.heap.objs.size)) { s with heap:=h',toks:=s.toks+1 }):wpAny (model P w) A (pyNext (.ref e)) Q E s:=by
 have ty:s.TypeIs (.ref e) "enumerate":=⟨_,ee,rfl⟩
 unfold pyNext
 exact Γa (wpAny_attempt (wpAny_callSpecial?_slot (name:=Γe "__next__") ty F.slot_enumerate_next (wpAny_call_entry F.slot_enumerate_next ty F.entry_enumerate_next (b5r ee t1 m1 ex ne λh' a b c d=>Γb (K h' a b c d)) (F.args_enumerate_next_1 _))))
theorem b5p {Q:Option Value->Shared->Prop}(hh:A.handled=none)(ee:IsEnum s.heap e it i old)(t1:IterB p s.heap it l i)(m1:SeqB p s.heap l xs)(ex:xs[i]?=none)(K:∀ h',Heap.ExtBut it s.heap h'->Q none { s with heap:=h' }):wpAny (model P w) A (pyNext (.ref e)) Q E s:=by
 have ty:s.TypeIs (.ref e) "enumerate":=⟨_,ee,rfl⟩
 unfold pyNext
 refine Γa (wpAny_attempt (wpAny_callSpecial?_slot (name:=Γe "__next__") ty F.slot_enumerate_next (wpAny_call_entry F.slot_enumerate_next ty F.entry_enumerate_next ?_ (F.args_enumerate_next_1 _))))
 show wpAny _ _ (field (.ref e) 2 >>= _) _ _ _;refine Γa (wpAny_field ee rfl (x:=.ref it) rfl (Γa (c5x hh t1 m1 ex λh' v k hv=>?_)))
 obtain⟨o,e1,e2⟩:=hv
 exact Γa (wpAny_isInstance (T:="StopIteration") (b:=true) ⟨o,e1,e2⟩ isSubtype_stop (Γb (K _ k)))
end
theorem b2o (p:Bool)(l:Addr)(xs:Array Value) :
  Meets (Builtin.«enumerate.__new__» ⟨[.type "enumerate",.ref l],[]⟩) (λ_ R s=>SeqB p s.heap l xs /\
   R (.ok (.ret (.ref (zb1 p s.heap l).objs.size))) { s with heap:=(zb1 p s.heap l).push { cls:=.type "enumerate",data:=.fields #[.none,.bool false,.ref s.heap.objs.size,rawInt 0,.none,.none] } }) :=
 .of_wp λprog w A R s h=>by
  obtain⟨hp,g,d,tk,os⟩:=s;obtain⟨m1,h⟩:=h
  have hsub:=sub_enumerate
  have M1:SeqB p (Shared.heap ⟨hp,g,d,tk,os⟩) l xs:=m1
  have hob:∃ o,hp.get? l=some o:=by cases p<;>(obtain⟨o,e,_⟩:=m1;exact⟨o,e⟩)
  obtain⟨ob,hl⟩:=hob
  wp_walk using wpAny_loadPart' hl
  refine wpAny_stack_any λst=>Γb ?_
  split
  ·rename_i c _ _ _ _ _
   cases (c == Value.type "enumerate")
   ·wp_walk using wpAny_loadPart' hl,b8o M1
    exact⟨_,rfl,h⟩
   ·wp_walk using wpAny_loadPart' hl,b8o M1
    exact⟨_,rfl,h⟩
  ·wp_walk using wpAny_loadPart' hl,b8o M1
   exact⟨_,rfl,h⟩
section
variable {P:Program}{w:World}{A:Around}{E:Value->Shared->Prop}{s:Shared}
theorem b5x {p:Bool}{l:Addr}{xs:Array Value}{Q:Value->Shared->Prop}(m1:SeqB p s.heap l xs)
  (K:∀ h',IsEnum h' (s.heap.objs.size+1) s.heap.objs.size 0 .none->IterB p h' s.heap.objs.size l 0->(∀ b o,s.heap.get? b=some o->h'.get? b=some o)->Q (.ref (s.heap.objs.size+1)) { s with heap:=h' }) :
  wpAny (model P w) A (call (.type "enumerate") [.ref l]) Q E s:=by
 refine callType_new F.called_enumerate (by decide) (F.typeCall_enumerate_1 _) (F.newCall_enumerate_1 _) (λobj=>F.args_object_init_2 obj _) F.entry_enumerate_new (b2o p l xs) ⟨m1,?_⟩
 have z1:(zb1 p s.heap l).objs.size=s.heap.objs.size+1:=Heap.size_push ..
 show _/\_
 rw[z1]
 have f2:IsEnum ((zb1 p s.heap l).push { cls:=.type "enumerate",data:=.fields #[.none,.bool false,.ref s.heap.objs.size,rawInt 0,.none,.none] }) (s.heap.objs.size+1) s.heap.objs.size 0 .none:=by
  have:=Γm (zb1 p s.heap l) (o:={ cls:=.type "enumerate",data:=.fields #[.none,.bool false,.ref s.heap.objs.size,rawInt 0,.none,.none] }) rfl
  rw[z1] at this;exact this
 refine⟨⟨_,f2,rfl⟩,K _ f2 ?_ λb o x=>Γc _ (Γc _ x)⟩
 cases p<;>exact⟨_,Γc _ (Γm _ rfl),rfl,rfl⟩
end
def SqB (b:Bool)(K:Γd)(H:Hp)(a:Addr)(xs:List V):Prop:=match b with|true=>SqL K H a xs|false=>SqT K H a xs
section
variable {X:Cx}{pins:List (Addr×Obj)}{σ:St}{H:Hp}{s:Shared}{a:Addr}{xs ys:List V}{b:Bool}
theorem Inv.seqB (I:Inv X pins σ H s)(h:SqB b X.K H a xs):∃ its:List Value,Vals xs its/\SeqB b s.heap a its.toArray/\xs.length=its.length:=by
 cases b
 ·obtain⟨its,r,q,_⟩:=I.tuple h
  exact⟨its,r,q,r.length⟩
 ·obtain⟨its,r,q,_⟩:=I.list h
  exact⟨its,r,q.isList,r.length⟩
theorem Inv.seqB_inj (I:Inv X pins σ H s)(h:SqB b X.K H a xs)(h':SqB b X.K H a ys):xs=ys:=by
 cases b
 ·exact I.tuple_inj h h'
 ·exact I.list_inj h h'
end
def Iz2 (K:Γd) (p q:Bool) (a b:Addr):It :=
  ⟨λi H=>∃ xs ys x y,SqB p K H a xs/\SqB q K H b ys/\xs[i]?=some x/\ys[i]?=some y,
   λi H v H'=>∃ c,H c=none/\v=.ref c/\∀ xs ys x y,SqB p K H a xs->SqB q K H b ys->xs[i]?=some x->ys[i]?=some y->H'=upd H c (.tup [x,y]),
   λi H=>∃ xs ys,SqB p K H a xs/\SqB q K H b ys/\(xs.length<=i ∨ ys.length<=i)⟩
def Ien (K:Γd) (p:Bool) (a:Addr):It :=
  ⟨λi H=>∃ xs x,SqB p K H a xs/\xs[i]?=some x,
   λi H v H'=>∃ c,H c=none/\v=.ref c/\∀ xs x,SqB p K H a xs->xs[i]?=some x->H'=upd H c (.tup [.int i,x]),
   λi H=>∃ xs,SqB p K H a xs/\xs.length<=i⟩
theorem c5q {P:Program}{w:World}{K:Γd}{p q:Bool}{elts:List Expr}{k:Nat}{pos:Pos}{a b z TI TO i1 i2:Addr}(D:ZipApart z TI TO i1 i2 a b) :
  Turn P w K (.Tuple elts k pos) (Iz2 K p q a b) [z,TO,i1,i2,TI] z (λi h=>IsZip h z TI TO .none/\IsPair h TI (.ref i1) (.ref i2)/\(∃ c d,IsPair h TO c d)/\IterB p h i1 a i/\IterB q h i2 b i) where
 mem:=by simp
 obj:=λi h st c hc=>by
  obtain⟨zz,zi,⟨x,y,zo⟩,t1,t2⟩:=st
  simp only[List.mem_cons,List.not_mem_nil,or_false] at hc
  rcases hc with rfl|rfl|rfl|rfl|rfl
  ·exact⟨_,zz,λv z=>by cases z⟩
  ·exact⟨_,zo,λv z=>by cases z⟩
  ·exact t1.obj
  ·exact t2.obj
  ·exact⟨_,zi,λv z=>by cases z⟩
 keep:=λi h h' st kk=>by
  obtain⟨zz,zi,⟨x,y,zo⟩,t1,t2⟩:=st
  exact⟨kk z (by simp) _ zz,kk TI (by simp) _ zi,⟨x,y,kk TO (by simp) _ zo⟩,t1.to λo e=>kk i1 (by simp) o e,t2.to λo e=>kk i2 (by simp) o e⟩
 item:=by
  intro X hP hw hK hc i pins s σ H E I hf st hg
  subst hP hw hK
  obtain⟨xs,ys,x,y,q1,q2,hx,hy⟩:=hg
  obtain⟨zz,zi,⟨u0,v0,zo⟩,t1,t2⟩:=st
  obtain⟨its,rv,m1,_⟩:=I.seqB q1
  obtain⟨jts,rw',m2,_⟩:=I.seqB q2
  obtain⟨u,hu,ru⟩:=rv.get hx
  obtain⟨u',hu',ru'⟩:=rw'.get hy
  refine b6f D zz zi zo t1 t2 m1 m2 (x:=u) (y:=u') (by simpa using hu) (by simpa using hu') λh' a1 a2 a3 a4 a5 hk=>?_
  refine⟨_,rfl,wpAny_letOwnedTupleGo_zip a1 λh'' z'' hs''=>?_⟩
  have szn:z≠s.heap.objs.size:=Γo (Γl zz)
  have T'':IsPair h'' s.heap.objs.size u u':=hs''.extBut _ _ (Ne.symm szn) a5
  have I1:Inv X pins σ (upd H s.heap.objs.size (.tup [x,y])) { s with heap:=h'' }:=I.turnedNew (t':=s.toks) (ch:=[z,TO,i1,i2]) (Γi _)
   (λc ob hc e=>by simp only[List.mem_cons,List.not_mem_nil,or_false,not_or] at hc;exact hs''.extBut _ _ hc.1 (hk c ob hc.1 hc.2.1 hc.2.2.1 hc.2.2.2 e))
   (λc hc=>hf c (by simp only[List.mem_cons,List.not_mem_nil,or_false] at hc ⊢;rcases hc with z|z|z|z<;>simp[z])) ⟨by show 2<=sizeLine;decide,[u,u'],.cons ru (.cons ru' .nil),⟨_,T'',rfl,_,rfl⟩⟩
  refine⟨.ref s.heap.objs.size,_,I1,rfl,⟨_,I.fresh,rfl,λxs' ys' x' y' r1 r2 hx' hy'=>?_⟩,⟨z'',hs''.extBut _ _ D.TIz (hk _ _ D.TIz D.TITO D.TIi1 D.TIi2 zi),⟨_,_,hs''.extBut _ _ D.TOz a2⟩,a3.move hs''.extBut D.i1z,a4.move hs''.extBut D.i2z⟩,λc hc=>?_⟩
  ·have e1:=I.seqB_inj r1 q1
   have e2:=I.seqB_inj r2 q2
   subst e1 e2
   rw[hx] at hx';rw[hy] at hy';cases hx';cases hy';rfl
  ·have:c≠s.heap.objs.size:=by
    have hlt:c<s.heap.objs.size:=by
     simp only[List.mem_cons,List.not_mem_nil,or_false] at hc
     rcases hc with rfl|rfl|rfl|rfl|rfl
     ·exact Γl zz
     ·exact Γl zo
     ·exact t1.lt
     ·exact t2.lt
     ·exact Γl zi
    exact Γo hlt
   rw[a0d this];exact (hf c hc).1
 done:=by
  intro X hP hw hK hc i pins s σ H E I hf st hg
  subst hP hw hK
  obtain⟨xs,ys,q1,q2,hx⟩:=hg
  obtain⟨zz,zi,⟨u0,v0,zo⟩,t1,t2⟩:=st
  obtain⟨its,rv,m1,l1⟩:=I.seqB q1
  obtain⟨jts,rw',m2,l2⟩:=I.seqB q2
  refine b6e (I.ok.hd hc) D zz zi zo t1 t2 m1 m2 (hx.elim (λz=>.inl (by simp;lia)) λz=>.inr (by simp;lia)) λh' hk=>⟨rfl,?_⟩
  exact I.turnedL (t':=s.toks) (ch:=[z,TO,i1,i2]) (λc ob hc e=>by simp only[List.mem_cons,List.not_mem_nil,or_false,not_or] at hc;exact hk c ob hc.1 hc.2.1 hc.2.2.1 hc.2.2.2 e)
   (λc hc=>hf c (by simp only[List.mem_cons,List.not_mem_nil,or_false] at hc ⊢;rcases hc with z|z|z|z<;>simp[z]))
 self:=λ_ _ _ _ _ st h=>wpAny_pyIter_zip st.1 h
theorem c5r {P:Program}{w:World}{K:Γd}{p:Bool}{elts:List Expr}{k:Nat}{pos:Pos}{a e it:Addr}(ne:e≠it) :
  Turn P w K (.Tuple elts k pos) (Ien K p a) [e,it] e (λi h=>(∃ old,IsEnum h e it i old)/\IterB p h it a i) where
 mem:=by simp
 obj:=λi h st c hc=>by
  obtain⟨⟨old,ee⟩,t1⟩:=st
  simp only[List.mem_cons,List.not_mem_nil,or_false] at hc
  rcases hc with rfl|rfl
  ·exact⟨_,ee,λv z=>by cases z⟩
  ·exact t1.obj
 keep:=λi h h' st kk=>by
  obtain⟨⟨old,ee⟩,t1⟩:=st
  exact⟨⟨old,kk e (by simp) _ ee⟩,t1.to λo q=>kk it (by simp) o q⟩
 item:=by
  intro X hP hw hK hc i pins s σ H E I hf st hg
  subst hP hw hK
  obtain⟨xs,x,q1,hx⟩:=hg
  obtain⟨⟨old,ee⟩,t1⟩:=st
  obtain⟨its,rv,m1,_⟩:=I.seqB q1
  obtain⟨u,hu,ru⟩:=rv.get hx
  refine b5q ee t1 m1 (x:=u) (by simpa using hu) ne λh' a1 a2 a3 hk=>?_
  refine⟨_,rfl,wpAny_letOwnedTupleGo_enum a1 λh'' z'' hs''=>?_⟩
  have szn:e≠s.heap.objs.size:=Γo (Γl ee)
  have T'':=hs''.extBut _ _ (Ne.symm szn) a3
  have I1:Inv X pins σ (upd H s.heap.objs.size (.tup [.int i,x])) { s with heap:=h'',toks:=s.toks+1 }:=I.turnedNew (t':=s.toks+1) (ch:=[e,it]) (Γi _)
   (λc ob hc q=>by simp only[List.mem_cons,List.not_mem_nil,or_false,not_or] at hc;exact hs''.extBut _ _ hc.1 (hk c ob hc.1 hc.2 q))
   (λc hc=>hf c hc) ⟨by show 2<=sizeLine;decide,[.int i s.toks,u],.cons ⟨_,rfl⟩ (.cons ru .nil),⟨_,T'',rfl,_,rfl⟩⟩
  refine⟨.ref s.heap.objs.size,_,I1,rfl,⟨_,I.fresh,rfl,λxs' x' r1 hx'=>?_⟩,⟨⟨_,z''⟩,a2.move hs''.extBut (Ne.symm ne)⟩,λc hc=>?_⟩
  ·have e1:=I.seqB_inj r1 q1
   subst e1
   rw[hx] at hx';cases hx';rfl
  ·have:c≠s.heap.objs.size:=by
    have hlt:c<s.heap.objs.size:=by
     simp only[List.mem_cons,List.not_mem_nil,or_false] at hc
     rcases hc with rfl|rfl
     ·exact Γl ee
     ·exact t1.lt
    exact Γo hlt
   rw[a0d this];exact (hf c hc).1
 done:=by
  intro X hP hw hK hc i pins s σ H E I hf st hg
  subst hP hw hK
  obtain⟨xs,q1,hx⟩:=hg
  obtain⟨⟨old,ee⟩,t1⟩:=st
  obtain⟨its,rv,m1,l1⟩:=I.seqB q1
  refine b5p (I.ok.hd hc) ee t1 m1 (by simp;lia) λh' hk=>⟨rfl,?_⟩
  exact I.turnedL (t':=s.toks) (ch:=[it]) (λc ob hc q=>hk c ob (by simpa using hc) q) (λc hc=>hf c (by simp at hc;simp[hc]))
 self:=λ_ _ _ _ _ st h=>wpAny_pyIter_enum st.1.choose_spec h
section
variable {X:Cx}
def iZ2 (K:Γd)(ta:TA):TI:=λσ H R=>ta σ H λvs H1=>∃ p q a b,vs=[.ref a,.ref b]/\(∃ xs,SqB p K H1 a xs)/\(∃ ys,SqB q K H1 b ys)/\R (Iz2 K p q a b) H1
theorem d8u {elts:List Expr}{k:Nat}{tp:Pos}{e1 e2:Expr}{ta:TA}{p pos:Pos}(hg:Gl X "zip")(hm:X.mg "zip" = none)(ha:PA X [e1,e2] ta)
  (hs:starEach [e1,e2] X.env=[(false,eval e1 X.env),(false,eval e2 X.env)])(hs2:starEach [e2] X.env=[(false,eval e2 X.env)]):PI X (.Tuple elts k tp) (.Call (.Name "zip" p) [e1,e2] [] pos) (iZ2 X.K ta):=by
 intro pins s σ H R I h
 refine wpAny_Call_Name_kw (a7x I hg hm PyProof.Rows.boot_zip ?_ (by decide) (by decide))
 refine PyProof.Rows.callWith_type1 (thn (ha pos pins s σ H _ I h) λus s1 ⟨vs,H1,I1,r1,q1⟩=>?_) (by rw[hs,hs2]) (by rw[hs2];rfl)
 obtain⟨p,q,a,b,e,⟨xs,hq1⟩,⟨ys,hq2⟩,kk⟩:=q1
 subst e
 obtain⟨u1,u2,rfl,ra,rb⟩:=b6j r1
 cases ra;cases rb
 obtain⟨its,rv,m1,_⟩:=I1.seqB hq1
 obtain⟨jts,rw',m2,_⟩:=I1.seqB hq2
 refine c0j m1 m2 λh' zz zi zo t1 t2 hk=>wpAny_pyIter_zip (f0:=.none) zz ?_
 have I2:Inv X pins σ H1 { s1 with heap:=h' }:=I1.kept (t':=s1.toks) λc o e=>hk c o e
 refine⟨_,_,_,Iz2 X.K p q a b,H1,rfl,I2,c5q (zipApart_new m1.lt m2.lt),⟨zz,zi,⟨_,_,zo⟩,t1,t2⟩,λc hc=>?_,kk⟩
 have hge:s1.heap.objs.size<=c:=by
  simp only[List.mem_cons,List.not_mem_nil,or_false] at hc
  rcases hc with rfl|rfl|rfl|rfl|rfl<;>first|exact Γi _|exact Nat.le_add_right _ _
 exact I1.fpOk hge (I1.hok.fresh hge)
def iEn (K:Γd)(ta:TA):TI:=λσ H R=>ta σ H λvs H1=>∃ p a,vs=[.ref a]/\(∃ xs,SqB p K H1 a xs)/\R (Ien K p a) H1
theorem d8v {elts:List Expr}{k:Nat}{tp:Pos}{e1:Expr}{ta:TA}{p pos:Pos}(hg:Gl X "enumerate")(hm:X.mg "enumerate" = none)(ha:PA X [e1] ta)(hs:starEach [e1] X.env=[(false,eval e1 X.env)]) :
  PI X (.Tuple elts k tp) (.Call (.Name "enumerate" p) [e1] [] pos) (iEn X.K ta):=by
 intro pins s σ H R I h
 refine wpAny_Call_Name_kw (a7x I hg hm PyProof.Rows.boot_enumerate ?_ (by decide) (by decide))
 refine PyProof.Rows.callWith_type1 (thn (ha pos pins s σ H _ I h) λus s1 ⟨vs,H1,I1,r1,q1⟩=>?_) (by rw[hs];rfl) rfl
 obtain⟨p,a,e,⟨xs,hq1⟩,kk⟩:=q1
 subst e
 obtain⟨u1,rfl,ra⟩:=a3e r1
 cases ra
 obtain⟨its,rv,m1,_⟩:=I1.seqB hq1
 refine b5x m1 λh' ee t1 hk=>wpAny_pyIter_enum ee ?_
 have I2:Inv X pins σ H1 { s1 with heap:=h' }:=I1.kept (t':=s1.toks) λc o e=>hk c o e
 refine⟨_,_,_,Ien X.K p a,H1,rfl,I2,c5r (Nat.ne_of_gt (Nat.lt_succ_self _)),⟨⟨_,ee⟩,t1⟩,λc hc=>?_,kk⟩
 have hge:s1.heap.objs.size<=c:=by
  simp only[List.mem_cons,List.not_mem_nil,or_false] at hc
  rcases hc with rfl|rfl<;>first|exact Γi _|exact Nat.le_add_right _ _
 exact I1.fpOk hge (I1.hok.fresh hge)
end
end L2
end
section
namespace L2
open PySem PySem.Spec PyProof.Rows
def b2z (kx vx:Expr):Value->Env->Code->Sem Fin
 | .ref D,env,c=>do
  (do let kv <- eval kx env;let vv <- holding [kv] (eval vx env);standAt { kx.pos with endLine:=vx.pos.endLine,endCol:=vx.pos.endCol };holding [kv,vv] (dictSet D kv vv))
  again c
 | _,_,c=>again c
def emD (tk tv:TE):Addr->St->Hp->(Hp->Prop)->Prop:=λacc σ H K=>tk σ H λy H4=>tv σ H4 λv H5=>∃ kvs k b,H5 acc=some (.dT kvs)/\y=.ref b/\H5 b=some (.tup (k.map kV))/\kvs.length<sizeLine/\K (upd H5 acc (.dT (a4z kvs k v)))
def b6s (wi:TI)(g:TG)(tt:TT)(tk tv:TE) (own:Nat):TE:=a9r wi g tt (emD tk tv) (λ_=>.dT []) own
section
variable {X:Cx}{kx vx tg iter:Expr}{ifs:List Expr}{scope:Scope}{own:List Str}{pos:Pos}{wi:TI}{g:TG}{tt:TT}{tk tv:TE}
theorem c0i:CKind X (.DictComp kx vx [⟨tg,iter,ifs,0⟩] scope pos) tg iter ifs scope newDict { cls:=.type "dict",data:=.dict #[] } (λ_=>.dT []) (b2z kx vx) :=
 ⟨λ_ _ _=>rfl,λ_ _ _ _=>rfl,λ_ _ _=>rfl,λ_ _=>rfl,codeAny_compStart_dict,λq=>wpAny_newObj_type q,λ{_ _ _ s} I=>I.laid (a:=s.heap.objs.size) (o:=.dT []) (t':=s.toks) (λ_ _ q=>Γc _ q) (Γi _) (c3p s.heap I.big),λ_=>by rw[arm_eval_DictComp];rfl,rfl⟩
theorem b3t {Y:Cx}(hu:Y.A.units+1<cLine)(hk:PE Y kx tk)(hv:PE Y vx tv):PEm Y (b2z kx vx) (emD tk tv):=by
 intro pins s σ H acc c K I q
 unfold b2z
 refine Γa (Γa (thn (hk _ s σ H _ I q) λky s11 ⟨v11,H11,I11,r11,q11⟩=>Γa (Γg (thn (hv _ s11 σ H11 _ I11 q11) λy s12 ⟨v12,H12,I12,r12,kvs,k,b,hys,hyb,hkb,hz,kk⟩=>Γa (wpAny_standAt (Γg ?_))))))
 subst hyb
 cases (show ky=Value.ref b from r11)
 obtain⟨z,hd,xs,rel,dd⟩:=d3w I12.hok hys
 have hz':xs.length<=sizeLine:=by rw[<- Paired.length rel];exact z
 have hl:(a4z kvs k v12).length<=sizeLine:=by have:=a2v kvs k v12;lia
 have ko:=a6r I12.hok hkb
 refine wpAny_dictSet_heap (knd:=tupleKind (a0z Y.prog Y.w)) (hsz:=hz') (show Y.A.units<cLine by lia) ko dd λh' dd' hs=>?_
 obtain⟨q,es,ep,hq,h2',h3',h4',h5',h6'⟩:=dd'
 refine Γb ⟨rfl,_,?_,kk⟩
 refine b3b I12 (by rw[hys];exact True.intro) hs ⟨q,hq⟩ ⟨hl,hd,_,(rel.put k hkb r12).keeps λc ys ec=>?_,q,es,ep,hq,h2',h3',h4',h6'⟩
 rw[a0d (d2k ec hys (λz=>nomatch z))]
 exact ec
theorem b3v (hu:X.A.units+1<cLine)(hc:X.calm=true)(SC:CScope X scope own)(hi:PI X.nox tg iter wi)
  (hblock:∀ fp C s H,PG (cxC X scope own fp C s H) tg g/\PTs (cxC X scope own fp C s H) ifs tt/\PE (cxC X scope own fp C s H) kx tk/\PE (cxC X scope own fp C s H) vx tv)
  (hs:∀ x,foldedSetIterable iter X.env x=pure x:=by intro _;rfl) :
  PE X.nox (.DictComp kx vx [⟨tg,iter,ifs,0⟩] scope pos) (b6s wi g tt tk tv own.length) :=
 a8q hc SC c0i hi (λfp C s H=>let ⟨a,b,c,d⟩:=hblock fp C s H;⟨a,b,b3t hu c d⟩) hs
theorem b2f {i:Nat}{x:Str}{px:Pos}{spos:Pos}(hu:X.A.units+1<cLine)(hc:X.calm=true)(SC:CScope X scope own)(hN:X.N.Nodup)(hx:X.N[i]?=some x)(hl:X.env.scope.names.lookup x=some .local)(hi:PI X.nox tg iter wi)
  (hblock:∀ fp C s H,PG (cxC X scope own fp C s H) tg g/\PTs (cxC X scope own fp C s H) ifs tt/\PE (cxC X scope own fp C s H) kx tk/\PE (cxC X scope own fp C s H) vx tv)
  (hsw:swapsWith (.DictComp kx vx [⟨tg,iter,ifs,0⟩] scope pos) (some (.Name x px)) spos.line X.env=pure true)
  (hs:∀ x,foldedSetIterable iter X.env x=pure x:=by intro _;rfl) :
  PS X.nox (.Assign [.Name x px] (.DictComp kx vx [⟨tg,iter,ifs,0⟩] scope pos) spos) (c0z (b6s wi g tt tk tv own.length) (a5d i)) :=
 a6l hc SC c0i hN hx hl hi (λfp C s H=>let ⟨a,b,c,d⟩:=hblock fp C s H;⟨a,b,b3t hu c d⟩) hsw hs
end
end L2
end
section
namespace L2
open PySem PySem.Spec PyProof.Rows
section
variable {prog:Program}{w:World}{A:Around}{R:Result->Shared->Prop}{s:Shared}
end
section
variable {X:Cx}{elt tg iter tg2 iter2:Expr}{ifs ifs2:List Expr}{scope:Scope}{own:List Str}{pos:Pos}{wi wi2:TI}{g g2:TG}{tt tt2:TT}{te:TE}
end
end L2
end
section
namespace Kq
open PySem PySem.Spec PyProof.Rows L2
inductive D where
 | non|bl (b:Bool)|int (i:Int)|str (x:String)|tup (xs:List D)|lst (xs:List D)
mutual
noncomputable def D.eqv:D->D->Bool
 | .non,.non=>true
 | .bl a,.bl b=>a == b
 | .bl a,.int j=>(if a then 1 else 0) == j
 | .int i,.bl b=>i == (if b then 1 else 0)
 | .int a,.int b=>a == b
 | .str a,.str b=>a == b
 | .tup a,.tup b=>D.eqvs a b
 | .lst a,.lst b=>D.eqvs a b
 | _,_=>false
noncomputable def D.eqvs:List D->List D->Bool
 | [],[]=>true
 | a :: r,b :: q=>D.eqv a b && D.eqvs r q
 | _,_=>false
end
mutual
noncomputable def D.wt:D->Nat
 | .non=>0|.bl _=>0
 | .int i=>if -(2 ^ 40)<i/\i<2 ^ 40 then 41 else 151
 | .str x=>x.length
 | .tup xs=>D.wts xs
 | .lst xs=>D.wts xs
noncomputable def D.wts:List D->Nat
 | []=>0
 | a :: r=>D.wt a+1+D.wts r
end
mutual
noncomputable def D.fit:D->Bool
 | .int i=>decide (-(2 ^ 150)<i/\i<2 ^ 150)
 | .tup xs=>D.fits xs
 | .lst xs=>D.fits xs
 | _=>true
noncomputable def D.fits:List D->Bool
 | []=>true
 | a :: r=>D.fit a && D.fits r
end
inductive FV where
 | non|bl (b:Bool)|int (i:Int)|str (x:String)|tup (xs:List FV)|lst (xs:List FV)
 | scr (ns:List Int)
 | shn (d:D)
 | dct (ks:List (List Int))(vs:List FV)
 | dci (ks:List Int)(vs:List FV)
 | dcz (o:Obj)(ks:List (List Int))(vs:List FV)
 | dcn (z:Option Obj)(ks:List (List (Option Int)))(vs:List FV)
 | obj (C dx:Addr)(fs:List (Str×V))(gs:List (Addr×List V))
def big:Nat:=100000
inductive Mo where|imm|own|frz|ob|gst (i:Nat)(x:Str)
 deriving DecidableEq
def Mo.w:Mo->Bool|.imm=>false|.frz=>false|_=>true
def Mo.g:Mo->Bool|.gst _ _=>true|_=>false
theorem Mo.w_imm {m:Mo}(h:m.w=true):m≠.imm:=λz=>by rw[z] at h;cases h
theorem Mo.w_frz {m:Mo}(h:m.w=true):m≠.frz:=λz=>by rw[z] at h;cases h
theorem Mo.w_own {m:Mo}(h:m=.own):m.w=true:=by rw[h];rfl
abbrev Md:=List Mo
abbrev a0c:=List (Option FV)
def a0j:Md->Nat->Mo
 | [],_=>.imm
 | m :: _,0=>m
 | _ :: ms,n+1=>a0j ms n
def lk:a0c->Nat->Option FV
 | [],_=>none
 | x :: _,0=>x
 | _ :: L,n+1=>lk L n
theorem a2f:∀ (L:a0c) (i:Nat)(v:FV),lk L i=some v↔L[i]?=some (some v)
 | [],i,v=>by simp[lk]
 | x :: L,0,v=>by simp[lk]
 | x :: L,i+1,v=>by simpa[lk] using a2f L i v
def wp {α:Type}(r:Option α)(Q:α->Prop):Prop:=match r with
 | some x=>Q x
 | none=>False
theorem wpx {α:Type}{r:Option α}{Q:α->Prop}(h:wp r Q):∃ x,r=some x/\Q x:=by
 cases r with
 | none=>exact h.elim
 | some x=>exact⟨x,rfl,h⟩
mutual
noncomputable def dPy:D->PyData
 | .non=>.none
 | .bl b=>.bool b
 | .int i=>.int i
 | .str x=>.str (Γe x)
 | .tup xs=>.tuple (dPys xs)
 | .lst xs=>.list (dPys xs)
noncomputable def dPys:List D->List PyData
 | []=>[]
 | a :: r=>dPy a :: dPys r
end
def a2c (ks:List (List Int)):List (List (Int ⊕ Option Str)):=ks.map λk=>k.map Sum.inl
def a3k (ks:List Int):List (Int ⊕ Option Str):=ks.map Sum.inl
def oK:Option Int->Int ⊕ Option Str
 | some i=>.inl i
 | none=>.inr none
def a2m (ks:List (List (Option Int))):List (List (Int ⊕ Option Str)):=ks.map λk=>k.map oK
def hoN (u:HO):Option Obj->HO
 | none=>u
 | some o=>.frz o u
def ScrAt (K:Γd)(S:Hp)(a:Addr)(ns:List Int):Prop:=(∃ o,S a=some (.frz o (.lst (ns.map V.int)))) ∨ SqL K (λ_=>none) a (ns.map V.int)
mutual
noncomputable def RV (K:Γd)(S:Hp):FV->V->Prop
 | .non,v=>v=.non
 | .bl b,v=>v=.bl b
 | .int i,v=>v=.int i
 | .str x,v=>v=.str (Γe x)
 | .tup ps,v=>∃ a xs,v=.ref a/\S a=some (.tup xs)/\RVs K S ps xs
 | .lst ps,v=>∃ a xs,v=.ref a/\S a=some (.lst xs)/\RVs K S ps xs
 | .scr ns,v=>∃ a,v=.ref a/\ScrAt K S a ns
 | .shn d,v=>v=.str (dPy d).shown
 | .dct ks vs,v=>∃ a xs,v=.ref a/\ks.length=vs.length/\S a=some (.dT ((a2c ks).zip xs))/\RVs K S vs xs
 | .dci ks vs,v=>∃ a xs,v=.ref a/\ks.length=vs.length/\S a=some (.dK ((a3k ks).zip xs))/\RVs K S vs xs
 | .dcz o ks vs,v=>∃ a xs,v=.ref a/\ks.length=vs.length/\S a=some (.frz o (.dT ((a2c ks).zip xs)))/\RVs K S vs xs
 | .dcn z ks vs,v=>∃ a xs,v=.ref a/\ks.length=vs.length/\S a=some (hoN (.dT ((a2m ks).zip xs)) z)/\RVs K S vs xs
 | .obj C dx fs gs,v=>∃ a,v=.ref a/\S a=some (.big C dx fs gs)
noncomputable def RVs (K:Γd)(S:Hp):List FV->List V->Prop
 | [],vs=>vs=[]
 | p :: ps,vs=>∃ v r,vs=v :: r/\RV K S p v/\RVs K S ps r
end
mutual
theorem RV.mono {K:Γd}{S S':Hp}(x:Same S S'):∀ {p:FV}{v:V},RV K S p v->RV K S' p v
 | .non,v,h=>h
 | .bl b,v,h=>h
 | .int i,v,h=>h
 | .str _,v,h=>h
 | .shn _,v,h=>h
 | .tup ps,v,⟨a,xs,e,h1,h2⟩=>⟨a,xs,e,x _ _ h1,RVs.mono x h2⟩
 | .lst ps,v,⟨a,xs,e,h1,h2⟩=>⟨a,xs,e,x _ _ h1,RVs.mono x h2⟩
 | .dct ks vs,v,⟨a,xs,e,h0,h1,h2⟩=>⟨a,xs,e,h0,x _ _ h1,RVs.mono x h2⟩
 | .dci ks vs,v,⟨a,xs,e,h0,h1,h2⟩=>⟨a,xs,e,h0,x _ _ h1,RVs.mono x h2⟩
 | .dcz o ks vs,v,⟨a,xs,e,h0,h1,h2⟩=>⟨a,xs,e,h0,x _ _ h1,RVs.mono x h2⟩
 | .dcn z ks vs,v,⟨a,xs,e,h0,h1,h2⟩=>⟨a,xs,e,h0,x _ _ h1,RVs.mono x h2⟩
 | .obj _ _ _ _,v,⟨a,e,h⟩=>⟨a,e,x _ _ h⟩
 | .scr ns,v,⟨a,e,h⟩=>⟨a,e,h.elim (λ⟨o,h⟩=>.inl ⟨o,x _ _ h⟩) .inr⟩
theorem RVs.mono {K:Γd}{S S':Hp}(x:Same S S'):∀ {ps:List FV}{vs:List V},RVs K S ps vs->RVs K S' ps vs
 | [],vs,h=>h
 | p :: ps,vs,⟨v,r,e,h1,h2⟩=>⟨v,r,e,RV.mono x h1,RVs.mono x h2⟩
end
section
variable {K:Γd}{S H:Hp}
theorem RVs.length:∀ {ps:List FV}{vs:List V},RVs K S ps vs->ps.length=vs.length
 | [],vs,h=>by cases (show vs=[] from h);rfl
 | p :: ps,vs,h=>by
  obtain⟨v,r,e,_,h2⟩:=h
  subst e
  rw[List.length_cons,List.length_cons,RVs.length h2]
theorem RVs.get:∀ {ps:List FV}{vs:List V}{i:Nat}{p:FV},RVs K S ps vs->ps[i]?=some p->∃ v,vs[i]?=some v/\RV K S p v
 | [],vs,i,p,_,e=>by simp at e
 | q :: ps,vs,0,p,⟨v,r,e',h1,_⟩,e=>by
  subst e'
  simp at e;subst e
  exact⟨v,rfl,h1⟩
 | q :: ps,vs,i+1,p,⟨v,r,e',_,h2⟩,e=>by
  subst e'
  simpa using RVs.get (i:=i) (p:=p) h2 (by simpa using e)
theorem RVs.append:∀ {ps qs:List FV}{vs us:List V},RVs K S ps vs->RVs K S qs us->RVs K S (ps++qs) (vs++us)
 | [],qs,vs,us,h,g=>by cases (show vs=[] from h);exact g
 | p :: ps,qs,vs,us,⟨v,r,e,h1,h2⟩,g=>by
  subst e
  exact⟨v,r++us,rfl,h1,RVs.append h2 g⟩
theorem RVs.one {p:FV}{v:V}(h:RV K S p v):RVs K S [p] [v]:=⟨v,[],rfl,h,rfl⟩
theorem RVs.take:∀ {ps:List FV}{vs:List V} (n:Nat),RVs K S ps vs->RVs K S (ps.take n) (vs.take n)
 | [],vs,n,h=>by cases (show vs=[] from h);simp[RVs]
 | p :: ps,vs,0,h=>by simp[RVs]
 | p :: ps,vs,n+1,⟨v,r,e,h1,h2⟩=>by
  subst e
  exact⟨v,r.take n,rfl,h1,RVs.take n h2⟩
theorem RVs.drop:∀ {ps:List FV}{vs:List V} (n:Nat),RVs K S ps vs->RVs K S (ps.drop n) (vs.drop n)
 | [],vs,n,h=>by cases (show vs=[] from h);simp[RVs]
 | p :: ps,vs,0,h=>h
 | p :: ps,vs,n+1,⟨v,r,e,h1,h2⟩=>by
  subst e
  exact RVs.drop n h2
theorem RVs.set:∀ {ps:List FV}{vs:List V} (n:Nat){p:FV}{v:V},RVs K S ps vs->RV K S p v->RVs K S (ps.set n p) (vs.set n v)
 | [],vs,n,p,v,h,_=>by cases (show vs=[] from h);simp[RVs]
 | q :: ps,vs,0,p,v,⟨v',r,e,h1,h2⟩,g=>by
  subst e
  exact⟨v,r,rfl,g,h2⟩
 | q :: ps,vs,n+1,p,v,⟨v',r,e,h1,h2⟩,g=>by
  subst e
  exact⟨v',r.set n v,rfl,h1,RVs.set n h2 g⟩
theorem RVs.rep {ps:List FV}{vs:List V}(h:RVs K S ps vs):∀ k:Nat,RVs K S (Γj k ps).flatten (Γj k vs).flatten
 | 0=>rfl
 | k+1=>by
  rw[List.replicate_succ,List.replicate_succ,List.flatten_cons,List.flatten_cons]
  exact h.append (h.rep k)
theorem RVs.ns:∀ (ns:List Int),RVs K S (ns.map .int) (ns.map V.int)
 | []=>rfl
 | n :: ns=>⟨_,_,rfl,rfl,RVs.ns ns⟩
theorem RVs.one_of {p:FV}{us:List V}(h:RVs K S [p] us):∃ u,us=[u]/\RV K S p u:=by
 obtain⟨v,r,rfl,h1,h2⟩:=h
 cases (show r=[] from h2)
 exact⟨v,rfl,h1⟩
theorem RVs.two_of {p q:FV}{us:List V}(h:RVs K S [p,q] us):∃ u v,us=[u,v]/\RV K S p u/\RV K S q v:=by
 obtain⟨v,r,rfl,h1,h2⟩:=h
 obtain⟨u,rfl,h3⟩:=h2.one_of
 exact⟨v,u,rfl,h1,h3⟩
def d1q:FV->Option (List FV)
 | .lst ps=>some ps
 | .dct ks vs=>if ks.length=vs.length then some vs else none
 | .dci ks vs=>if ks.length=vs.length then some vs else none
 | .dcz _ ks vs=>if ks.length=vs.length then some vs else none
 | .dcn _ ks vs=>if ks.length=vs.length then some vs else none
 | .obj _ _ _ _=>some []
 | _=>none
def c7a:FV->List V->HO
 | .dct ks _,xs=>.dT ((a2c ks).zip xs)
 | .dci ks _,xs=>.dK ((a3k ks).zip xs)
 | .dcz o ks _,xs=>.frz o (.dT ((a2c ks).zip xs))
 | .dcn z ks _,xs=>hoN (.dT ((a2m ks).zip xs)) z
 | .obj C dx fs gs,_=>.big C dx fs gs
 | _,xs=>.lst xs
def a4f (K:Γd)(S H:Hp)(a:Addr)(v:FV):Prop:=S a=none/\∃ ps xs,d1q v=some ps/\H a=some (c7a v xs)/\RVs K S ps xs
def RH (K:Γd)(S H:Hp)(v:FV)(x:V):Prop:=RV K S v x ∨ ∃ a,x=.ref a/\a4f K S H a v
theorem RH.lst {ps:List FV}{x:V}(s:Same S H)(h:RH K S H (.lst ps) x):∃ a xs,x=.ref a/\H a=some (.lst xs)/\RVs K S ps xs:=by
 rcases h with⟨a,xs,e,h1,h2⟩|⟨a,e,_,qs,xs,e2,h1,h2⟩
 ·exact⟨a,xs,e,s _ _ h1,h2⟩
 ·cases e2;exact⟨a,xs,e,h1,h2⟩
theorem RH.val {v:FV}{x:V}(h:RH K S H v x)(n:d1q v=none):RV K S v x:=by
 rcases h with h|⟨a,_,_,ps,xs,e,_⟩
 ·exact h
 ·rw[n] at e;cases e
theorem RH.tup {ps:List FV}{x:V}(s:Same S H)(h:RH K S H (.tup ps) x):∃ a xs,x=.ref a/\H a=some (.tup xs)/\RVs K S ps xs:=by
 obtain⟨a,xs,e,h1,h2⟩:=h.val rfl
 exact⟨a,xs,e,s _ _ h1,h2⟩
theorem ScrAt.sq {a:Addr}{ns:List Int}(s:Same S H)(h:ScrAt K S a ns):SqL K H a (ns.map V.int):=by
 rcases h with⟨o,h⟩|h
 ·exact .inl (.inr ⟨o,s _ _ h⟩)
 ·rcases h with (h|⟨o,h⟩)|h
  ·cases h
  ·cases h
  ·exact .inr h
def a1z:FV->Option (List FV)
 | .lst xs=>some xs
 | .scr ns=>some (ns.map .int)
 | _=>none
def a4k:FV->Option (List FV)
 | .tup xs=>some xs
 | v=>a1z v
theorem RH.list {v:FV}{ps:List FV}{x:V}(s:Same S H)(h:RH K S H v x)(e:a1z v=some ps):∃ a xs,x=.ref a/\SqL K H a xs/\RVs K S ps xs:=by
 cases v with
 | lst qs =>
  cases e
  obtain⟨a,xs,rfl,h1,h2⟩:=h.lst s
  exact⟨a,xs,rfl,SqL.of h1,h2⟩
 | scr ns =>
  cases e
  obtain⟨a,rfl,g⟩:=h.val rfl
  exact⟨a,_,rfl,ScrAt.sq s g,RVs.ns ns⟩
 | _=>cases e
def isL:FV->Bool
 | .tup _=>false
 | _=>true
theorem RH.seq {v:FV}{ps:List FV}{x:V}(s:Same S H)(h:RH K S H v x)(e:a4k v=some ps):∃ a xs,x=.ref a/\SqB (isL v) K H a xs/\RVs K S ps xs:=by
 cases v with
 | tup qs =>
  cases e
  obtain⟨a,xs,rfl,h1,h2⟩:=h.tup s
  exact⟨a,xs,rfl,SqT.of h1,h2⟩
 | lst qs=>exact h.list s e
 | scr qs=>exact h.list s e
 | _=>cases e
end
def a7g:HO->Bool
 | .tup _=>true
 | _=>false
theorem a5a (v:FV)(xs:List V):a7g (c7a v xs)=false:=by
 cases v with
 | dcn z ks vs=>cases z<;>rfl
 | _=>rfl
structure Cn where
 H0:Hp
 S0:Hp
 P0:Option Addr
 fz:List (Nat×Addr)
 pr:List (Addr×HO)
 P1:List (Nat×Addr)
structure Iv (K:Γd)(c:Cn)(md:Md)(L:a0c)(σ:L2.St)(S H:Hp):Prop where
 len:L.length=σ.length
 imm:∀ i v,a0j md i=.imm->L[i]?=some (some v)->∃ x,σ[i]?=some (some x)/\RV K S v x
 own:∀ i v,a0j md i≠.imm->L[i]?=some (some v)->∃ a,σ[i]?=some (some (.ref a))/\a4f K S H a v/\(c.P0=some a ∨ c.H0 a=none ∨ ∃ j,(j,a)∈c.P1)
 dis:∀ i j v w a,a0j md i≠.imm->a0j md j≠.imm->L[i]?=some (some v)->L[j]?=some (some w)->σ[i]?=some (some (.ref a))->σ[j]?=some (some (.ref a))->i=j
 sub:Same S H
 frame:∀ a o,c.H0 a=some o->c.P0≠some a->(∀ j,(j,a) ∉ c.P1)->H a=some o
 s0:Same c.S0 S
 grow:∀ a o,S a=some o->c.S0 a=some o ∨ c.H0 a=none ∨ a7g o=true
 lent:∀ a,c.P0=some a->a0j md 0≠.imm/\σ[0]?=some (some (.ref a))/\∃ v,L[0]?=some (some v)
 fzs:∀ p∈c.fz,a0j md p.1=.frz/\σ[p.1]?=some (some (.ref p.2))/\∃ v,L[p.1]?=some (some v)
 fzm:∀ i v,a0j md i=.frz->L[i]?=some (some v)->∃ a,(i,a)∈c.fz
 fzp:∀ p∈c.fz,∃ o,(p.2,o)∈c.pr
 prs:∀ p∈c.pr,H p.1=some p.2/\S p.1=none/\∀ i v,(a0j md i).w=true->L[i]?=some (some v)->σ[i]?≠some (some (.ref p.1))
 ntp:∀ p∈c.pr,a7g p.2=false
 lnt1:∀ q∈c.P1,(a0j md q.1).g=true/\σ[q.1]?=some (some (.ref q.2))/\∃ v,L[q.1]?=some (some v)
 tie:∀ j i x C dx fs v,a0j md j=.gst i x->a0j md i=.ob->L[i]?=some (some (.obj C dx fs []))->L[j]?=some (some v)->∃ u,fs.lookup x=some u/\σ[j]?=some (some u)
section
variable {K:Γd}{c:Cn}{md:Md}{L:a0c}{σ:L2.St}{S H S' H':Hp}
theorem Iv.h0 (I:Iv K c md L σ S H){p:Addr}(h:H p=none):c.H0 p=none:=by
 cases e:c.H0 p with
 | none=>rfl
 | some o =>
  by_cases z:c.P0=some p
  ·obtain⟨m,e1,v,e2⟩:=I.lent p z
   obtain⟨a,e3,⟨_,_,_,_,e4,_⟩,_⟩:=I.own 0 v m e2
   rw[e1] at e3;cases e3
   rw[h] at e4;cases e4
  ·by_cases z1:∃ j,(j,p)∈c.P1
   ·obtain⟨j,hj⟩:=z1
    obtain⟨g,e1,v,e2⟩:=I.lnt1 _ hj
    obtain⟨a,e3,⟨_,_,_,_,e4,_⟩,_⟩:=I.own j v (λz=>by rw[z] at g;cases g) e2
    rw[e1] at e3;cases e3
    rw[h] at e4;cases e4
   ·rw[I.frame p o e z λj hj=>z1 ⟨j,hj⟩] at h;cases h
theorem Iv.sn (I:Iv K c md L σ S H){p:Addr}(h:H p=none):S p=none:=by
 cases e:S p with
 | none=>rfl
 | some o=>rw[I.sub p o e] at h;cases h
theorem Iv.go3 (I:Iv K c md L σ S H)(s:Same S S')(sub:Same S' H')(g:∀ a o,S' a=some o->S a=some o ∨ H a=none ∨ a7g o=true)(k:∀ a o,H a=some o->H' a=some o):Iv K c md L σ S' H' where
 len:=I.len
 imm:=λi v h e=>let ⟨x,e1,r⟩:=I.imm i v h e;⟨x,e1,r.mono s⟩
 own:=λi v h e=>by
  obtain⟨a,e1,⟨h1,ps,xs,e2,h2,h3⟩,h4⟩:=I.own i v h e
  refine⟨a,e1,⟨?_,ps,xs,e2,k _ _ h2,h3.mono s⟩,h4⟩
  cases q:S' a with
  | none=>rfl
  | some o =>
   rcases g a o q with z|z|z
   ·rw[h1] at z;cases z
   ·rw[h2] at z;cases z
   ·have:=sub a o q
    rw[k _ _ h2] at this
    rw[<- Option.some.inj this,a5a] at z;cases z
 dis:=I.dis
 sub:=sub
 frame:=λa o h n n1=>k _ _ (I.frame a o h n n1)
 s0:=I.s0.trans s
 grow:=λa o h=>(g a o h).elim (I.grow a o) λz=>z.elim (λz=>.inr (.inl (I.h0 z))) λz=>.inr (.inr z)
 lent:=I.lent
 fzs:=I.fzs
 fzm:=I.fzm
 fzp:=I.fzp
 prs:=λp hp=>by
  obtain⟨h1,h2,h3⟩:=I.prs p hp
  refine⟨k _ _ h1,?_,h3⟩
  cases q:S' p.1 with
  | none=>rfl
  | some o =>
   rcases g _ o q with z|z|z
   ·rw[h2] at z;cases z
   ·rw[h1] at z;cases z
   ·have:=sub _ o q
    rw[k _ _ h1] at this
    rw[<- Option.some.inj this,I.ntp p hp] at z;cases z
 ntp:=I.ntp
 lnt1:=I.lnt1
 tie:=I.tie
theorem Iv.go (I:Iv K c md L σ S H)(s:Same S S')(sub:Same S' H')(g:∀ a o,S' a=some o->S a=some o ∨ H a=none)(k:∀ a o,H a=some o->H' a=some o):Iv K c md L σ S' H':=I.go3 s sub (λa o e=>(g a o e).imp_right .inl) k
theorem a0r {p:Addr}{o:HO}(h:H p=none):Same H (upd H p o):=λa u e=>by rw[a0d (a1a e h)];exact e
theorem Iv.new (I:Iv K c md L σ S H){p:Addr}(h:H p=none)(o:HO):Iv K c md L σ (upd S p o) (upd H p o) :=
 I.go (a0r (I.sn h)) (λa u e=>by
  by_cases z:a=p
  ·subst z;rw[a0e] at e ⊢;exact e
  ·rw[a0d z] at e ⊢;exact I.sub a u e) (λa u e=>by
  by_cases z:a=p
  ·subst z;exact .inr h
  ·rw[a0d z] at e;exact .inl e) (a0r h)
theorem Iv.lay (I:Iv K c md L σ S H){p:Addr}(h:H p=none)(o:HO):Iv K c md L σ S (upd H p o) :=
 I.go (Same.refl S) (I.sub.trans (a0r h)) (λa u e=>.inl e) (a0r h)
theorem Iv.back4 (I:Iv K c md L σ S H){i:Nat}{v w:FV}{a:Addr}(m:(a0j md i).w=true)(e:L[i]?=some (some v))(e1:σ[i]?=some (some (.ref a)))(s:Same S S')(sub:Same S' H')(g:∀ a o,S' a=some o->S a=some o ∨ H a=none ∨ a7g o=true)
  (k:∀ b o,H b=some o->b≠a->H' b=some o)(new:a4f K S' H' a w)(ht:∀ j x C dx fs u,a0j md j=.gst i x->a0j md i=.ob->w=.obj C dx fs []->L[j]?=some (some u)->∃ u,fs.lookup x=some u/\σ[j]?=some (some u)):Iv K c md (L.set i (some w)) σ S' H':=by
 have mi:=Mo.w_imm m
 have hi:=(List.getElem?_eq_some_iff.mp e).1
 obtain⟨a',e1',⟨h1,qs,ys,_,h2,h3⟩,h4⟩:=I.own i v mi e
 rw[e1] at e1';cases e1'
 have look:∀ j u,(L.set i (some w))[j]?=some (some u)->(j=i/\u=w) ∨ (j≠i/\L[j]?=some (some u)):=λj u z=>by
  by_cases q:j=i
  ·subst q;rw[List.getElem?_set_self hi] at z;cases z;exact .inl ⟨rfl,rfl⟩
  ·rw[List.getElem?_set_ne (Ne.symm q)] at z;exact .inr ⟨q,z⟩
 have lookx:∀ j,(∃ u,L[j]?=some (some u))->∃ u,(L.set i (some w))[j]?=some (some u):=λj h=>by
  obtain⟨u,z⟩:=h
  by_cases q:j=i
  ·subst q;exact⟨_,List.getElem?_set_self hi⟩
  ·exact⟨u,by rw[List.getElem?_set_ne (Ne.symm q)];exact z⟩
 have old:∀ j u,(L.set i (some w))[j]?=some (some u)->∃ u,L[j]?=some (some u):=λj u z=>(look j u z).elim (λq=>⟨v,by rw[q.1];exact e⟩) λq=>⟨u,q.2⟩
 refine⟨by rw[List.length_set];exact I.len,λj u hm z=>?_,λj u hm z=>?_,λj k u u2 b m1 m2 z1 z2=>?_,sub,λb o z n n1=>?_,I.s0.trans s,λb o z=>(g b o z).elim (I.grow b o) λz=>z.elim (λz=>.inr (.inl (I.h0 z))) λz=>.inr (.inr z),λb z=>?_,λp hp=>?_,λj u hm z=>?_,I.fzp,λp hp=>?_,I.ntp,λq hq=>?_,λj i' x C dx fs u h1 h2 h3 h4=>?_⟩
 ·rcases look j u z with⟨q,_⟩|⟨_,z⟩
  ·rw[q] at hm;exact absurd hm mi
  ·obtain⟨x,f1,f2⟩:=I.imm j u hm z
   exact⟨x,f1,f2.mono s⟩
 ·rcases look j u z with⟨rfl,rfl⟩|⟨q,z⟩
  ·exact⟨a,e1,new,h4⟩
  ·obtain⟨b,f1,⟨g1,rs,zs,g2,g3,g4⟩,g5⟩:=I.own j u hm z
   have hb:b≠a:=λy=>by subst y;exact q (I.dis j i u v b hm mi z e f1 e1)
   refine⟨b,f1,⟨?_,rs,zs,g2,k b _ g3 hb,g4.mono s⟩,g5⟩
   cases q':S' b with
   | none=>rfl
   | some o =>
    rcases g b o q' with z|z|z
    ·rw[g1] at z;cases z
    ·rw[g3] at z;cases z
    ·have:=sub b o q'
     rw[k b _ g3 hb] at this
     rw[<- Option.some.inj this,a5a] at z;cases z
 ·obtain⟨w',z1⟩:=old j u z1
  obtain⟨u',z2⟩:=old k u2 z2
  exact I.dis j k w' u' b m1 m2 z1 z2
 ·refine k b o (I.frame b o z n n1) λy=>?_
  subst y
  rcases h4 with y|y|⟨j,y⟩
  ·exact n y
  ·rw[z] at y;cases y
  ·exact n1 j y
 ·obtain⟨g1,g2,g3⟩:=I.lent b z
  exact⟨g1,g2,lookx 0 g3⟩
 ·obtain⟨g1,g2,g4⟩:=I.fzs p hp
  exact⟨g1,g2,lookx _ g4⟩
 ·rcases look j u z with⟨q,_⟩|⟨_,z⟩
  ·rw[q] at hm;exact absurd hm (Mo.w_frz m)
  ·exact I.fzm j u hm z
 ·obtain⟨g1,g2,g3⟩:=I.prs p hp
  have kp:=k _ _ g1 λy=>g3 i v m e (by rw[y];exact e1)
  refine⟨kp,?_,λj u hm z=>let ⟨u',z'⟩:=old j u z;g3 j u' hm z'⟩
  cases q':S' p.1 with
  | none=>rfl
  | some o =>
   rcases g _ o q' with z|z|z
   ·rw[g2] at z;cases z
   ·rw[g1] at z;cases z
   ·have:=sub _ o q'
    rw[kp] at this
    rw[<- Option.some.inj this,I.ntp p hp] at z;cases z
 ·obtain⟨g1,g2,g3⟩:=I.lnt1 q hq
  exact⟨g1,g2,lookx _ g3⟩
 ·obtain⟨u',h4'⟩:=old j u h4
  rcases look i' _ h3 with⟨rfl,e9⟩|⟨_,h3⟩
  ·exact ht j x C dx fs u' h1 h2 e9.symm h4'
  ·exact I.tie j i' x C dx fs u' h1 h2 h3 h4'
theorem Iv.back3 (I:Iv K c md L σ S H){i:Nat}{v w:FV}{a:Addr}(m:a0j md i=.own)(e:L[i]?=some (some v))(e1:σ[i]?=some (some (.ref a)))(s:Same S S')(sub:Same S' H')(g:∀ a o,S' a=some o->S a=some o ∨ H a=none ∨ a7g o=true)
  (k:∀ b o,H b=some o->b≠a->H' b=some o)(new:a4f K S' H' a w):Iv K c md (L.set i (some w)) σ S' H':=I.back4 (Mo.w_own m) e e1 s sub g k new λ_ _ _ _ _ _ _ z=>by rw[m] at z;cases z
theorem Iv.back (I:Iv K c md L σ S H){i:Nat}{v w:FV}{a:Addr}(m:a0j md i=.own)(e:L[i]?=some (some v))(e1:σ[i]?=some (some (.ref a)))(s:Same S S')(sub:Same S' H')(g:∀ a o,S' a=some o->S a=some o ∨ H a=none)
  (k:∀ b o,H b=some o->b≠a->H' b=some o)(new:a4f K S' H' a w):Iv K c md (L.set i (some w)) σ S' H':=I.back3 m e e1 s sub (λa o e=>(g a o e).imp_right .inl) k new
theorem Iv.write (I:Iv K c md L σ S H){i:Nat}{v:FV}{a:Addr}{ps:List FV}{xs:List V}(m:a0j md i=.own)(e:L[i]?=some (some v))(e1:σ[i]?=some (some (.ref a)))(r:RVs K S ps xs) :
  Iv K c md (L.set i (some (.lst ps))) σ S (upd H a (.lst xs)):=by
 obtain⟨a',e1',⟨h1,_⟩,_⟩:=I.own i v (λz=>by rw[m] at z;cases z) e
 rw[e1] at e1';cases e1'
 exact I.back m e e1 (Same.refl S) (λb o z=>by rw[a0d λy=>by subst y;rw[h1] at z;cases z];exact I.sub b o z) (λb o z=>.inl z) (λb o z n=>by rw[a0d n];exact z) ⟨h1,ps,xs,rfl,a0e,r⟩
theorem Iv.set (I:Iv K c md L σ S H){i:Nat}{v:FV}{x:V}(ni:∀ a,c.P0=some a->i≠0)(nf:a0j md i≠.frz)(h:(a0j md i=.imm/\RV K S v x) ∨ (a0j md i=.own/\∃ a,x=.ref a/\a4f K S H a v/\c.H0 a=none/\(∀ p∈c.pr,p.1≠a)/\∀ j w,j≠i->a0j md j≠.imm->L[j]?=some (some w)->σ[j]?≠some (some (.ref a)))) :
  Iv K c md (L.set i (some v)) (σ.set i (some x)) S H:=by
 have look:∀ j w,(L.set i (some v))[j]?=some (some w)->(j=i/\w=v/\(σ.set i (some x))[j]?=some (some x)) ∨ (j≠i/\L[j]?=some (some w)/\(σ.set i (some x))[j]?=σ[j]?):=λj w z=>by
  by_cases q:j=i
  ·subst q
   have hj:j<L.length:=by have:=(List.getElem?_eq_some_iff.mp z).1;rwa [List.length_set] at this
   rw[List.getElem?_set_self hj] at z;cases z
   exact .inl ⟨rfl,rfl,by rw[List.getElem?_set_self (by rw[<- I.len];exact hj)]⟩
  ·rw[List.getElem?_set_ne (Ne.symm q)] at z
   exact .inr ⟨q,z,List.getElem?_set_ne (Ne.symm q)⟩
 have far:∀ j,j≠i->(L.set i (some v))[j]?=L[j]?/\(σ.set i (some x))[j]?=σ[j]?:=λj q=>⟨List.getElem?_set_ne (Ne.symm q),List.getElem?_set_ne (Ne.symm q)⟩
 refine⟨by rw[List.length_set,List.length_set];exact I.len,λj w hm z=>?_,λj w hm z=>?_,λj k w u b m1 m2 z1 z2 y1 y2=>?_,I.sub,I.frame,I.s0,I.grow,λb z=>?_,λp hp=>?_,λj w hm z=>?_,I.fzp,λp hp=>?_,I.ntp,λq hq=>?_,λj k y C dx fs u h1 h2 h3 h4=>?_⟩
 ·rcases look j w z with⟨rfl,rfl,y⟩|⟨q,z,y⟩
  ·rcases h with⟨_,r⟩|⟨hm',_⟩
   ·exact⟨x,y,r⟩
   ·rw[hm] at hm';cases hm'
  ·rw[y];exact I.imm j w hm z
 ·rcases look j w z with⟨rfl,rfl,y⟩|⟨q,z,y⟩
  ·rcases h with⟨hm',_⟩|⟨_,a,rfl,o,h0,_,_⟩
   ·exact absurd hm' hm
   ·exact⟨a,y,o,.inr (.inl h0)⟩
  ·rw[y];exact I.own j w hm z
 ·rcases look j w z1 with⟨p1,p2,p3⟩|⟨p1,p2,p3⟩
  ·rcases look k u z2 with⟨q1,q2,q3⟩|⟨q1,q2,q3⟩
   ·rw[p1,q1]
   ·rcases h with⟨hm',_⟩|⟨_,a,rfl,_,_,_,n⟩
    ·rw[p1] at m1;exact absurd hm' m1
    ·rw[p3] at y1;cases y1
     rw[q3] at y2
     exact absurd y2 (n k u q1 m2 q2)
  ·rw[p3] at y1
   rcases look k u z2 with⟨q1,q2,q3⟩|⟨q1,q2,q3⟩
   ·rcases h with⟨hm',_⟩|⟨_,a,rfl,_,_,_,n⟩
    ·rw[q1] at m2;exact absurd hm' m2
    ·rw[q3] at y2;cases y2
     exact absurd y1 (n j w p1 m1 p2)
   ·rw[q3] at y2
    exact I.dis j k w u b m1 m2 p2 q2 y1 y2
 ·obtain⟨g1,g2,g3⟩:=I.lent b z
  obtain⟨f1,f2⟩:=far 0 (Ne.symm (ni b z))
  rw[f1,f2];exact⟨g1,g2,g3⟩
 ·obtain⟨g1,g2,g4⟩:=I.fzs p hp
  obtain⟨f1,f2⟩:=far p.1 λy=>nf (by rw[<- y];exact g1)
  rw[f1,f2];exact⟨g1,g2,g4⟩
 ·rcases look j w z with⟨rfl,_,_⟩|⟨_,z,_⟩
  ·exact absurd hm nf
  ·exact I.fzm j w hm z
 ·obtain⟨g1,g2,g3⟩:=I.prs p hp
  refine⟨g1,g2,λj w hm z=>?_⟩
  rcases look j w z with⟨q1,q2,q3⟩|⟨q1,q2,q3⟩
  ·rcases h with⟨hm',_⟩|⟨_,a,rfl,_,_,n,_⟩
   ·rw[q1,hm'] at hm;cases hm
   ·rw[q3];exact λy=>n p hp (by cases y;rfl)
  ·rw[q3];exact g3 j w hm q2
 ·obtain⟨g1,g2,g3⟩:=I.lnt1 q hq
  obtain⟨f1,f2⟩:=far q.1 λy=>by
   rw[y] at g1
   rcases h with⟨hm',_⟩|⟨hm',_⟩<;>rw[hm'] at g1<;>cases g1
  rw[f1,f2];exact⟨g1,g2,g3⟩
 ·have n1:j≠i:=λy=>by
   rw[y] at h1
   rcases h with⟨hm',_⟩|⟨hm',_⟩<;>rw[hm'] at h1<;>cases h1
  have n2:k≠i:=λy=>by
   rw[y] at h2
   rcases h with⟨hm',_⟩|⟨hm',_⟩<;>rw[hm'] at h2<;>cases h2
  rw[(far j n1).1] at h4
  rw[(far k n2).1] at h3
  rw[(far j n1).2]
  exact I.tie j k y C dx fs u h1 h2 h3 h4
theorem Iv.tup (I:Iv K c md L σ S H){b:Addr}{xs:List V}(h:H b=some (.tup xs)):Iv K c md L σ (upd S b (.tup xs)) H/\Same S (upd S b (.tup xs)):=by
 have s:Same S (upd S b (.tup xs)):=λa o e=>by
  by_cases z:a=b
  ·subst z;rw[I.sub _ _ e] at h;rw[h,a0e]
  ·rw[a0d z];exact e
 refine⟨I.go3 s (λa o e=>?_) (λa o e=>?_) λa o e=>e,s⟩
 ·by_cases z:a=b
  ·subst z;rw[a0e] at e;rw[<- e];exact h
  ·rw[a0d z] at e;exact I.sub a o e
 ·by_cases z:a=b
  ·subst z;rw[a0e] at e;cases e;exact .inr (.inr rfl)
  ·rw[a0d z] at e;exact .inl e
end
end Kq
end
section
namespace Kq
def a8y {α β:Type}(f:α->Option β):List α->Option (List β)
 | []=>some []
 | x :: xs=>(f x).bind λy=>(a8y f xs).map (y :: ·)
def fD:Nat->FV->Option D
 | 0,_=>none
 | n+1,v=>match v with
  | .non=>some .non
  | .bl b=>some (.bl b)
  | .int i=>some (.int i)
  | .str x=>some (.str x)
  | .tup xs=>(a8y (fD n) xs).map .tup
  | .lst xs=>(a8y (fD n) xs).map .lst
  | .scr _=>none
  | .shn _=>none
  | .dct _ _=>none
  | .dci _ _=>none
  | .dcz _ _ _=>none
  | .obj _ _ _ _=>none|.dcn _ _ _=>none
def a0t:Nat:=40
def b6b:FV->Option Bool
 | .non=>some false
 | .bl b=>some b
 | .int i=>some (i != 0)
 | .str _=>none
 | .tup xs=>some (!xs.isEmpty)
 | .lst xs=>some (!xs.isEmpty)
 | .scr xs=>some (!xs.isEmpty)
 | .shn _=>none
 | .dct _ _=>none
 | .dci _ _=>none
 | .dcz _ _ _=>none
 | .obj _ _ _ _=>none|.dcn _ _ _=>none
def a3l:FV->Option Int|.int i=>some i|_=>none
def blF:FV->Option Bool|.bl b=>some b|_=>none
def a5t:FV->Option (List FV)|.tup xs=>some xs|_=>none
def a7b:FV->Option (List FV)|.lst xs=>some xs|_=>none
def a2o (i:Int):Bool:=decide (-(2 ^ 64)<i/\i<2 ^ 64)
def a2l (i:Int):Bool:=decide (-(2 ^ 62)<=i/\i<2 ^ 62)
def a8k (i:Int):Bool:=decide (-(2 ^ 40)<=i/\i<=2 ^ 40)
def eqD (a b:FV):Option Bool:=(fD a0t a).bind λx=>(fD a0t b).bind λy=>some (D.eqv x y)
def eqF (a b:FV):Option Bool:=match a,b with
 | .shn x,.shn y=>open Classical in if x=y then some true else none
 | a,b=>eqD a b
def inD:D->D->Option Bool
 | x,.lst xs=>some (xs.any λy=>D.eqv y x)
 | x,.tup xs=>some (xs.any λy=>D.eqv y x)
 | _,_=>none
def inF (a b:FV):Option Bool:=(fD a0t a).bind λx=>(fD a0t b).bind λy=>inD x y
def a0v:List FV->Option (List Int)
 | []=>some []
 | .int i :: r=>(a0v r).map (i :: ·)
 | _=>none
def a4w:List FV->Option (List Bool)
 | []=>some []
 | .bl b :: r=>(a4w r).map (b :: ·)
 | _=>none
def c9s:List FV->Option (List (List Int))
 | []=>some []
 | .tup xs :: r=>(a0v xs).bind λt=>(c9s r).map (t :: ·)
 | _=>none
def lexLt:List Int->List Int->Bool
 | [],[]=>false
 | [],_ :: _=>true
 | _ :: _,[]=>false
 | a :: r,b :: q=>if a=b then lexLt r q else decide (a<b)
def d2p:List Int->List Int->Bool
 | [],[]=>true
 | [],_ :: _=>true
 | _ :: _,[]=>false
 | a :: r,b :: q=>if a=b then d2p r q else decide (a<=b)
def a3c (f:Int->Int->Option FV)(v w:FV):Option FV:=(a3l v).bind λi=>(a3l w).bind λj=>f i j
def a6f (v w:FV):Option FV:=match v with
 | .tup xs=>(a5t w).bind λys=>if xs.length+ys.length<=big then some (.tup (xs++ys)) else none
 | .lst xs=>(a7b w).bind λys=>if xs.length+ys.length<=big then some (.lst (xs++ys)) else none
 | v=>a3c (λi j=>some (.int (i+j))) v w
def c9g:FV->FV->Option FV:=a3c λi j=>some (.int (i-j))
def c1b (v w:FV):Option FV:=match v with
 | .lst xs=>(a3l w).bind λk=>if -(2 ^ 63)<=k/\k<2 ^ 63/\xs.length*k.toNat<=big then some (.lst (Γj k.toNat xs).flatten) else none
 | v=>a3c (λi j=>if (a2o i || a2o j)=true then some (.int (i*j)) else none) v w
def b9h:FV->FV->Option FV:=a3c λi j=>if 0<j/\j<1073741824 then some (.int (i / j)) else none
def b8b:FV->FV->Option FV:=a3c λi j=>if 0<j then some (.int (i % j)) else none
def d1f:FV->FV->Option FV:=a3c λi j=>if 0<=j/\j<=1000/\a2o i=true then some (.int (i ^ j.toNat)) else none
def eqB (a b:FV):Option FV:=(eqF a b).map .bl
def neB (a b:FV):Option FV:=(eqF a b).map λr=>.bl (!r)
def inB (a b:FV):Option FV:=(inF a b).map .bl
def niB (a b:FV):Option FV:=(inF a b).map λr=>.bl (!r)
def ltB (v w:FV):Option FV:=match v with
 | .tup xs=>(a5t w).bind λys=>(a0v xs).bind λa=>(a0v ys).bind λb=>some (.bl (lexLt a b))
 | v=>a3c (λi j=>some (.bl (decide (i<j)))) v w
def leB (v w:FV):Option FV:=match v with
 | .tup xs=>(a5t w).bind λys=>(a0v xs).bind λa=>(a0v ys).bind λb=>some (.bl (d2p a b))
 | v=>a3c (λi j=>some (.bl (decide (i<=j)))) v w
def gtB:FV->FV->Option FV:=a3c λi j=>some (.bl (decide (j<i)))
def geB:FV->FV->Option FV:=a3c λi j=>some (.bl (decide (j<=i)))
def ixN (n:Nat) (i:Int):Option Nat:=if 0<=i then (if i<n then some i.toNat else none) else if -(n:Int)<=i then some (i+n).toNat else none
def atF (xs:List FV) (i:Int):Option FV:=(ixN xs.length i).bind λj=>xs[j]?
def ixF (v w:FV):Option FV:=(a3l w).bind λj=>(a4k v).bind λxs=>atF xs j
def min2F:FV->FV->Option FV:=a3c λi j=>some (.int (if j<i then j else i))
def c2l:FV->FV->Option FV:=a3c λi j=>some (.int (if j > i then j else i))
def a1k:FV->Option FV|.non=>some (.bl true)|_=>some (.bl false)
def a1d:FV->Option FV|.non=>some (.bl false)|_=>some (.bl true)
def b8s (c:Bool):FV->Option FV|.bl b=>some (.bl (b == c))|_=>some (.bl false)
def a5k (c:Bool):FV->Option FV|.bl b=>some (.bl (b != c))|_=>some (.bl true)
def d2e (v:FV):Option FV:=(blF v).map λb=>.bl (!b)
def d5h (v:FV):Option FV:=(a3l v).map λi=>.int (-i)
def turnF (v:FV):Option FV:=(a5t v).map λxs=>.tup xs.reverse
def a5y (v:FV):Option FV:=(a4k v).map λxs=>.int xs.length
def d4t (v:FV):Option FV:=(a3l v).map λi=>.int (if i<0 then -i else i)
def b3k:FV->Option FV|.int i=>some (.int i)|.bl b=>some (.int (if b then 1 else 0))|_=>none
def d0c (xs:List FV):Option Int:=(a0v xs).bind λns=>if ns.length<=big/\ns.all a8k=true then some ns.sum else none
def sumF (v:FV):Option FV:=(a1z v).bind λxs=>(d0c xs).map .int
def c0t (v:FV):Option FV:=(a1z v).bind λxs=>(a4w xs).map λbs=>.bl (bs.all id)
def d4r (v:FV):Option FV:=(a1z v).bind λxs=>(a4w xs).map λbs=>.bl (bs.any id)
def a2b (b:Int):List Int->Int
 | []=>b
 | x :: r=>a2b (if x<b then x else b) r
def c5b (b:List Int):List (List Int)->List Int
 | []=>b
 | x :: r=>c5b (if lexLt x b=true then x else b) r
def d5i (xs:List FV):Option FV:=(a0v xs).bind λns=>match ns with
 | n :: r=>some (.int (a2b n r))
 | []=>none
def minT (xs:List FV):Option FV:=(c9s xs).bind λns=>match ns with
 | n :: r=>some (.tup ((c5b n r).map .int))
 | []=>none
def c2k (v:FV):Option FV:=(a1z v).bind d5i
def minTF (v:FV):Option FV:=(a1z v).bind minT
def a5i (v:FV):Option FV:=(a4k v).map .tup
def a4h (v:FV):Option FV:=(a4k v).map .lst
def d7k (v:FV):Option FV:=(fD a0t v).bind λd=>if d.fit=true/\d.wt<=big then some (.shn d) else none
def c9h (v:FV):Option FV:=match v with
 | .non=>some (.str "None")
 | .bl b=>some (.str (if b then "True" else "False"))
 | .str x=>some (.str x)
 | .int i=>if -(2 ^ 150)<i/\i<2 ^ 150 then some (.str (toString i)) else none
 | .tup xs=>d7k (.tup xs)
 | .lst xs=>d7k (.lst xs)
 | .scr _=>none|.shn _=>none|.dct _ _=>none|.dci _ _=>none|.dcz _ _ _=>none|.obj _ _ _ _=>none|.dcn _ _ _=>none
inductive Ty where|int|bool|str|list|tuple
 deriving DecidableEq
def a5c:FV->Ty->Option Bool
 | .non,_=>some false
 | .bl _,t=>some (t == .int || t == .bool)
 | .int _,t=>some (t == .int)
 | .str _,t=>some (t == .str)
 | .tup _,t=>some (t == .tuple)
 | .lst _,t=>some (t == .list)
 | .scr _,_=>none
 | .shn _,t=>some (t == .str)
 | .dct _ _,_=>none
 | .dci _ _,_=>none
 | .dcz _ _ _,_=>none
 | .obj _ _ _ _,_=>none
 | .dcn _ _ _,_=>none
def a5u (t:Ty)(v:FV):Option FV:=(a5c v t).map .bl
def c2y (t u:Ty)(v:FV):Option FV:=(a5c v t).bind λa=>(a5c v u).map λb=>.bl (a || b)
def sIx (n d:Nat):Option Int->Nat
 | none=>d
 | some v=>if v<0 then (v+n).toNat else min v.toNat n
def a6e {α:Type}(xs:List α)(lo hi:Option Int):List α:=(xs.drop (sIx xs.length 0 lo)).take (sIx xs.length xs.length hi-sIx xs.length 0 lo)
def a9u (v:FV)(lo hi:Option Int):Option FV:=match v with
 | .tup xs=>some (.tup (a6e xs lo hi))
 | .lst xs=>some (.lst (a6e xs lo hi))
 | _=>none
abbrev EW:=a0c->(FV->a0c->Prop)->Prop
abbrev BW:=a0c->(Bool->a0c->Prop)->Prop
abbrev AW:=a0c->(List FV->a0c->Prop)->Prop
abbrev OW:=a0c->(Option Int->a0c->Prop)->Prop
def a0b (i:Nat):EW:=λL Q=>wp (lk L i) λx=>Q x L
def eC (v:FV):EW:=λL Q=>Q v L
def eUn (f:FV->Option FV)(a:EW):EW:=λL Q=>a L λx L1=>wp (f x) λz=>Q z L1
def eOp (f:FV->FV->Option FV)(a b:EW):EW:=λL Q=>a L λx L1=>b L1 λy L2=>wp (f x y) λz=>Q z L2
def a7j (f:FV->FV->Option FV) (i:Nat)(b:EW):EW:=λL Q=>wp (lk L i) λ_=>b L λy L1=>wp (lk L1 i) λx=>wp (f x y) λz=>Q z L1
def a8b (f g:FV->FV->Option FV)(a b c:EW):EW:=λL Q=>a L λx L1=>b L1 λy L2=>wp (f x y) λr=>wp (blF r) λr=>if r=true then c L2 λz L3=>wp (g y z) λq=>Q q L3 else Q (.bl false) L2
def b1c (a b:EW):EW:=λL Q=>a L λx L1=>wp (b6b x) λr=>if r=true then b L1 Q else Q x L1
def eOr (a b:EW):EW:=λL Q=>a L λx L1=>wp (b6b x) λr=>if r=true then Q x L1 else b L1 Q
def eIf (c:BW)(a b:EW):EW:=λL Q=>c L λr L1=>if r=true then a L1 Q else b L1 Q
def a0y (a:EW):BW:=λL Q=>a L λx L1=>wp (b6b x) λb=>Q b L1
def b6c (a b:BW):BW:=λL Q=>a L λr L1=>if r=true then b L1 Q else Q false L1
def bOr (a b:BW):BW:=λL Q=>a L λr L1=>if r=true then Q true L1 else b L1 Q
def a5p (a:BW):BW:=λL Q=>a L λr L1=>Q (!r) L1
def a1r:BW:=λL Q=>Q true L
def a0h:AW:=λL Q=>Q [] L
def a0a (a:EW)(r:AW):AW:=λL Q=>a L λx L1=>r L1 λxs L2=>Q (x :: xs) L2
def a3r (a:AW):EW:=λL Q=>a L λxs L1=>xs.length<=big/\Q (.tup xs) L1
def a5e (a:AW):EW:=λL Q=>a L λxs L1=>xs.length<=big/\Q (.lst xs) L1
def b7z:OW:=λL Q=>Q none L
def b2j (a:EW):OW:=λL Q=>a L λx L1=>wp (a3l x) λi=>Q (some i) L1
def eSl (a:EW)(l h:OW):EW:=λL Q=>a L λx L1=>l L1 λi L2=>h L2 λj L3=>wp (a9u x i j) λz=>Q z L3
def eSlN (k:Nat)(l h:OW):EW:=λL Q=>wp (lk L k) λ_=>l L λi L2=>h L2 λj L3=>wp (lk L3 k) λx=>wp (a9u x i j) λz=>Q z L3
abbrev CW:=Nat->List FV->(FV×FV->Prop)->Prop
def a0w (call:CW) (f:Nat)(a:AW):EW:=λL Q=>a L λxs L1=>call f xs λz=>Q z.1 L1
def a0s (call:CW) (f i:Nat)(a:AW):EW:=λL Q=>wp (lk L i) λ_=>a L λxs L1=>wp (lk L1 i) λx=>call f (x :: xs) λz=>Q z.1 (L1.set i (some z.2))
def c9o (v y:FV):Option FV:=(a7b v).bind λxs=>if xs.length<big then some (.lst (xs++[y])) else none
def nscF:FV->Option (List FV)|.tup xs=>some xs|.lst xs=>some xs|_=>none
def extF (v y:FV):Option FV:=(a7b v).bind λxs=>(nscF y).bind λys=>if xs.length+ys.length<=big then some (.lst (xs++ys)) else none
def b5s (f:FV->FV->Option FV) (i:Nat)(a:EW):EW:=λL Q=>wp (lk L i) λv=>wp (a7b v) λ_=>a L λy L1=>wp (lk L1 i) λx=>wp (f x y) λz=>Q .non (L1.set i (some z))
def upF (lo:Int):Nat->List FV
 | 0=>[]
 | n+1=>.int lo :: upF (lo+1) n
def a2q (xs ys:List FV):List FV:=xs.zipWith (λp q=>.tup [p,q]) ys
def a5l (a:EW):AW:=λL Q=>a L λx L1=>wp (a4k x) λxs=>Q xs L1
def b1w (a:EW):AW:=λL Q=>a L λx L1=>wp (a3l x) λj=>a2l j=true/\Q (upF 0 j.toNat) L1
def iRng2 (a b:EW):AW:=λL Q=>a L λx L1=>b L1 λy L2=>wp (a3l x) λi=>wp (a3l y) λj=>(a2l i && a2l j)=true/\Q (upF i (j-i).toNat) L2
def d5j (a b:EW):AW:=λL Q=>a L λx L1=>b L1 λy L2=>wp (a4k x) λxs=>wp (a4k y) λys=>Q (a2q xs ys) L2
def a7h (a:EW):AW:=λL Q=>a L λx L1=>wp (a4k x) λxs=>Q (a2q (upF 0 xs.length) xs) L1
inductive Tg where|nm (i:Nat)|tp (is:List Nat)|tn (i:Nat)(is:List Nat)
def d9c:List FV->Option (FV×FV)|[a,b]=>some (a,b)|_=>none
def a8o:a0c->List Nat->List FV->Option a0c
 | L,[],[]=>some L
 | L,i :: is,v :: vs=>a8o (L.set i (some v)) is vs
 | _,_,_=>none
def gW (tg:Tg)(v:FV)(L:a0c)(Q:a0c->Prop):Prop:=match tg with
 | .nm i=>Q (L.set i (some v))
 | .tp is=>wp (a5t v) λxs=>wp (a8o L is xs) Q
 | .tn i is=>wp (a5t v) λxs=>wp (d9c xs) λp=>wp (a5t p.2) λys=>wp (a8o (L.set i (some p.1)) is ys) Q
def a4u (n m:Nat)(tg:Tg)(t:BW)(e:EW):List FV->List FV->a0c->(List FV->a0c->Prop)->Prop
 | [],acc,L,Q=>Q acc L
 | x :: xs,acc,L,Q=>gW tg x (L++Γj m none) λL1=>t L1 λb L2=>if b=true then e L2 λv L3=>a4u n m tg t e xs (acc++[v]) (L3.take n) Q else a4u n m tg t e xs acc (L2.take n) Q
def a1q (n m:Nat)(it:AW)(tg:Tg)(t:BW)(e:EW):EW:=λL Q=>it L λxs L1=>L1.length=n/\xs.length<=big/\a4u n m tg t e xs [] L1 λys L2=>Q (.lst ys) L2
inductive FFl where|next|ret (v:FV)|brk|cont
abbrev SW:=a0c->(FFl->a0c->Prop)->Prop
def aft (k:a0c->Prop)(Q:FFl->a0c->Prop):FFl->a0c->Prop
 | .next,L=>k L
 | .ret v,L=>Q (.ret v) L
 | .brk,L=>Q .brk L
 | .cont,L=>Q .cont L
def a3i:SW:=λL Q=>Q .next L
def a0p (s r:SW):SW:=λL Q=>s L (aft (λL1=>r L1 Q) Q)
def a1t (e:EW)(tg:Tg):SW:=λL Q=>e L λx L1=>gW tg x L1 λL2=>Q .next L2
def d7l (v j x:FV):Option FV:=(a7b v).bind λxs=>(a3l j).bind λn=>(ixN xs.length n).map λp=>.lst (xs.set p x)
def c9j (k:Nat)(i e:EW):SW:=λL Q=>wp (lk L k) λ_=>e L λx L1=>i L1 λj L2=>wp (lk L2 k) λy=>wp (d7l y j x) λz=>Q .next (L2.set k (some z))
def d5b (f:FV->FV->Option FV) (i:Nat)(e:EW):SW:=λL Q=>wp (lk L i) λa=>e L λx L1=>wp (f a x) λz=>Q .next (L1.set i (some z))
def a1i (e:EW):SW:=λL Q=>e L λx L1=>Q (.ret x) L1
def sRetN:SW:=λL Q=>Q (.ret .non) L
def c9k (e:EW):SW:=λL Q=>e L λ_ L1=>Q .next L1
def sIf (c:BW)(a b:SW):SW:=λL Q=>c L λr L1=>if r=true then a L1 Q else b L1 Q
def sBrk:SW:=λL Q=>Q .brk L
def sCont:SW:=λL Q=>Q .cont L
def b2a (k:a0c->Prop)(Q:FFl->a0c->Prop):FFl->a0c->Prop
 | .next,L=>k L
 | .cont,L=>k L
 | .brk,L=>Q .next L
 | .ret v,L=>Q (.ret v) L
def c8g (tg:Tg)(b:SW):List FV->a0c->(FFl->a0c->Prop)->Prop
 | [],L,Q=>Q .next L
 | x :: xs,L,Q=>gW tg x L λL1=>b L1 (b2a (λL2=>c8g tg b xs L2 Q) Q)
def a7o (it:AW)(tg:Tg)(b:SW):SW:=λL Q=>it L λxs L1=>c8g tg b xs L1 Q
def c9f (c:BW)(b:SW):Nat->a0c->(FFl->a0c->Prop)->Prop
 | 0,_,_=>False
 | n+1,L,Q=>c L λr L1=>if r=true then b L1 (b2a (λL2=>c9f c b n L2 Q) Q) else Q .next L1
def c9i (c:BW)(b:SW):SW:=λL Q=>∃ n,c9f c b n L Q
structure FD where
 np:Nat
 ns:Nat
 body:CW->SW
 io:Bool
 fr:Bool
def c1c (io fr:Bool)(Q:FV×FV->Prop):FFl->a0c->Prop
 | .ret v,L=>match io with
  | true=>wp (lk L 0) λx=>Q (v,x)
  | false=>Q (v,.non)
 | .next,L=>match fr with
  | true=>False
  | false=>match io with
   | true=>wp (lk L 0) λx=>Q (.non,x)
   | false=>Q (.non,.non)
 | _,_=>False
def callW (tb:List FD):Nat->CW
 | 0,_,_,_=>False
 | d+1,f,args,Q=>match tb[f]? with
  | none=>False
  | some fd=>args.length=fd.np/\fd.body (callW tb d) (args.map some++Γj (fd.ns-fd.np) none) (c1c fd.io fd.fr Q)
end Kq
end
section
namespace Kq
open PySem PySem.Spec PyProof.Rows L2
theorem b0e {x y:String}(h:Γe x=Γe y):x=y:=by
 rw[Str.ofString_eq_toList,Str.ofString_eq_toList] at h
 have h2:x.toList.map Char.toNat=y.toList.map Char.toNat:=by
  injection h with h
  simpa using congrArg Array.toList h
 have inj:∀ (a b:List Char),a.map Char.toNat=b.map Char.toNat->a=b:=by
  intro a
  induction a with
  | nil=>intro b hb;cases b<;>simp_all
  | cons c a ih =>
   intro b hb
   cases b with
   | nil=>simp at hb
   | cons d b =>
    simp only[List.map_cons,List.cons.injEq] at hb
    rw[ih b hb.2,Char.toNat_inj.mp hb.1]
 exact String.toList_inj.mp (inj _ _ h2)
theorem d0e (a b:String):(Γe a == Γe b)=(a == b):=by
 rw[Bool.eq_iff_iff]
 simp only[beq_iff_eq]
 exact⟨b0e,λh=>by rw[h]⟩
theorem a3n (x:String):PyData.strOk (Γe x)=true:=by
 rw[Str.ofString_eq_toList]
 unfold PyData.strOk
 simp only[List.all_toArray,List.all_map,List.all_eq_true,Function.comp_apply,decide_eq_true_eq]
 intro c _
 have h:c.val.toNat<0xd800 ∨ (0xdfff<c.val.toNat/\c.val.toNat<0x110000):=c.valid
 show c.val.toNat<1114112
 lia
mutual
theorem a5v:∀ d:D,(dPy d).canLay0=true
 | .non=>rfl
 | .bl _=>rfl
 | .int _=>rfl
 | .str x=>by simp only[dPy,PyData.canLay0];exact a3n x
 | .tup xs=>by simp only[dPy,PyData.canLay0];exact d_lays xs
 | .lst xs=>by simp only[dPy,PyData.canLay0];exact d_lays xs
theorem d_lays:∀ xs:List D,PyData.canLayAll0 (dPys xs)=true
 | []=>rfl
 | x :: xs=>by simp only[dPys,PyData.canLayAll0,a5v x,d_lays xs,Bool.and_self]
end
mutual
theorem b9x:∀ a b:D,PyData.eqv (dPy a) (dPy b)=D.eqv a b
 | .non,b=>by cases b<;>simp only[dPy,PyData.eqv,D.eqv]
 | .bl _,b=>by cases b<;>simp only[dPy,PyData.eqv,D.eqv]
 | .int _,b=>by cases b<;>simp only[dPy,PyData.eqv,D.eqv]
 | .str x,b=>by cases b<;>simp only[dPy,PyData.eqv,D.eqv,d0e]
 | .tup xs,b=>by cases b<;>simp only[dPy,PyData.eqv,D.eqv,d_eqvs]
 | .lst xs,b=>by cases b<;>simp only[dPy,PyData.eqv,D.eqv,d_eqvs]
theorem d_eqvs:∀ a b:List D,PyData.eqvAll (dPys a) (dPys b)=D.eqvs a b
 | [],b=>by cases b<;>simp only[dPys,PyData.eqvAll,D.eqvs]
 | x :: xs,b=>by cases b<;>simp only[dPys,PyData.eqvAll,D.eqvs,b9x,d_eqvs]
end
theorem b9y (x:D):∀ xs:List D,((dPys xs).any λy=>PyData.eqv y (dPy x))=xs.any λy=>D.eqv y x
 | []=>rfl
 | y :: r=>by simp only[dPys,List.any_cons,b9x,b9y x r]
mutual
theorem b4s:∀ d:D,(dPy d).hasDict=false
 | .non=>rfl
 | .bl _=>rfl
 | .int _=>rfl
 | .str x=>rfl
 | .tup xs=>by simp only[dPy,PyData.hasDict];exact d_nodicts xs
 | .lst xs=>by simp only[dPy,PyData.hasDict];exact d_nodicts xs
theorem d_nodicts:∀ xs:List D,PyData.hasDictAll (dPys xs)=false
 | []=>rfl
 | x :: xs=>by simp only[dPys,PyData.hasDictAll,b4s x,d_nodicts xs,Bool.or_self]
end
theorem log2_lt {i:Int}{k:Nat}(hk:0<k)(h:-(2 ^ k:Int)<i/\i<2 ^ k):i.natAbs.log2<k:=by
 by_cases h0:i.natAbs=0
 ·rw[h0];simpa using hk
 ·rw[Nat.log2_lt h0]
  have e:((2 ^ k:Nat):Int)=(2:Int) ^ k:=by rw[Int.natCast_pow];rfl
  lia
mutual
theorem c8t:∀ d:D,d.fit=true->(dPy d).showable=true/\(dPy d).intsShort 160=true/\(dPy d).weight<=d.wt
 | .non,_=>⟨rfl,rfl,Γi _⟩
 | .bl _,_=>⟨rfl,rfl,Γi _⟩
 | .int i,h=>by
  have h:-(2 ^ 150:Int)<i/\i<2 ^ 150:=by simpa[D.fit] using h
  have l1:=log2_lt (k:=150) (by decide) h
  refine⟨?_,?_,?_⟩
  ·simp only[dPy,PyData.showable,decide_eq_true_eq];lia
  ·simp only[dPy,PyData.intsShort,decide_eq_true_eq]
   have e:=int_text_length_le (k:=150) (by decide) l1
   show (Γe (toString i)).length<=160
   rw[PySem.ofString_length];lia
  ·simp only[dPy,PyData.weight,D.wt]
   split
   ·lia
   ·split
    ·rename_i hs
     have l2:=log2_lt (k:=40) (by decide) hs
     lia
    ·lia
 | .str x,_=>by
  refine⟨rfl,rfl,?_⟩
  simp only[dPy,PyData.weight,D.wt]
  have:(Γe x).length=x.length:=PySem.ofString_length x
  exact Nat.le_of_eq this
 | .tup xs,h=>by
  obtain⟨h1,h2,h3⟩:=d_fits xs (by simpa only[D.fit] using h)
  exact⟨by simpa only[dPy,PyData.showable] using h1,by simpa only[dPy,PyData.intsShort] using h2,by simpa only[dPy,PyData.weight,D.wt] using h3⟩
 | .lst xs,h=>by
  obtain⟨h1,h2,h3⟩:=d_fits xs (by simpa only[D.fit] using h)
  exact⟨by simpa only[dPy,PyData.showable] using h1,by simpa only[dPy,PyData.intsShort] using h2,by simpa only[dPy,PyData.weight,D.wt] using h3⟩
theorem d_fits:∀ xs:List D,D.fits xs=true->PyData.showableAll (dPys xs)=true/\PyData.intsShortAll 160 (dPys xs)=true/\PyData.weightAll (dPys xs)<=D.wts xs
 | [],_=>⟨rfl,rfl,Γi _⟩
 | x :: xs,h=>by
  have h:x.fit=true/\D.fits xs=true:=by simpa only[D.fits,Bool.and_eq_true] using h
  obtain⟨a1,a2,a3⟩:=c8t x h.1
  obtain⟨b1,b2,b3⟩:=d_fits xs h.2
  refine⟨?_,?_,?_⟩
  ·simp only[dPys,PyData.showableAll,a1,b1,Bool.and_self]
  ·simp only[dPys,PyData.intsShortAll,a2,b2,Bool.and_self]
  ·simp only[dPys,PyData.weightAll,D.wts];lia
end
theorem c8s {d:D}(h:d.fit=true)(hw:d.wt<=big):(dPy d).shown.length<=sizeLine:=by
 obtain⟨_,h2,h3⟩:=c8t d h
 have:=PyData.shown_le 160 (by decide) (dPy d) (PyData.leavesShort_of_canLay0 160 _ (a5v d) h2)
 unfold big at hw
 have e:sizeLine=16777216:=rfl
 lia
theorem bnd {α β:Type}{o:Option α}{f:α->Option β}{z:β}(h:o.bind f=some z):∃ a,o=some a/\f a=some z:=Option.bind_eq_some_iff.mp h
theorem mpd {α β:Type}{o:Option α}{f:α->β}{z:β}(h:o.map f=some z):∃ a,o=some a/\f a=z:=Option.map_eq_some_iff.mp h
theorem itd {α:Type}{c:Prop} [Decidable c] {a b:α}(h:(if c then some a else none)=some b):c/\a=b:=by
 by_cases z:c
 ·rw[if_pos z] at h;exact⟨z,Option.some.inj h⟩
 ·rw[if_neg z] at h;cases h
theorem a6b:∀ {n:Nat}{p:FV}{d:D},fD n p=some d->(dPy d).depth<=n
 | 0,p,d,h=>by cases h
 | n+1,p,d,h=>by
  have ds:∀ {ps:List FV}{ds:List D},a8y (fD n) ps=some ds->PyData.depthAll (dPys ds)<=n:=by
   intro ps
   induction ps with
   | nil=>intro ds h;cases h;simp[dPys,PyData.depthAll]
   | cons q ps ih =>
    intro ds h
    obtain⟨y,e1,h⟩:=bnd h
    obtain⟨zs,e2,rfl⟩:=mpd h
    simp only[dPys,PyData.depthAll]
    exact Nat.max_le.mpr ⟨a6b e1,ih e2⟩
  cases p with
  | tup ps=>obtain⟨zs,e,rfl⟩:=mpd (show (a8y (fD n) ps).map D.tup=some d from h);simp only[dPy,PyData.depth];have:=ds e;lia
  | lst ps=>obtain⟨zs,e,rfl⟩:=mpd (show (a8y (fD n) ps).map D.lst=some d from h);simp only[dPy,PyData.depth];have:=ds e;lia
  | non=>cases h;simp[dPy,PyData.depth]
  | bl _=>cases h;simp[dPy,PyData.depth]
  | int _=>cases h;simp[dPy,PyData.depth]
  | str _=>cases h;simp[dPy,PyData.depth]
  | scr _=>cases h
  | shn _=>cases h
  | dct _ _=>cases h
  | dci _ _=>cases h
  | dcz _ _ _=>cases h
  | obj _ _ _ _=>cases h
  | dcn _ _ _=>cases h
section
variable {X:Cx}{pins:List (Addr×Obj)}{σ:L2.St}{S H:Hp}{s:Shared}
def e4h (X:Cx)(S:Hp)(s:Shared) (n:Nat):Prop:=∀ (p:FV)(v:V)(u:Value)(d:D),RV X.K S p v->RelV v u->fD n p=some d->∃ as,Reads s.heap u (dPy d) as
theorem a6k {n:Nat}(R:e4h X S s n):∀ {ps:List FV}{vs:List V}{us:List Value}{ds:List D},RVs X.K S ps vs->Vals vs us->a8y (fD n) ps=some ds->∃ as,ReadsAll s.heap us (dPys ds) as
 | [],vs,us,ds,r,q,h=>by
  cases (show vs=[] from r)
  cases q
  cases h
  exact⟨[],.nil⟩
 | p :: ps,vs,us,ds,r,rq,h=>by
  obtain⟨v1,vr,rfl,r1,r2⟩:=r
  cases rq with
  | cons q1 q2 =>
   obtain⟨y,e1,h⟩:=bnd h
   obtain⟨zs,e2,rfl⟩:=mpd h
   obtain⟨as,ra⟩:=R _ _ _ _ r1 q1 e1
   obtain⟨bs,rb⟩:=a6k R r2 q2 e2
   exact⟨as++bs,.cons ra rb⟩
theorem a9y {n:Nat}(I:Inv X pins σ H s)(R:e4h X S s n){a:Addr}{xs:List V}{ps:List FV}{d:D}(h1:H a=some (.lst xs))(h2:RVs X.K S ps xs)(h:(a8y (fD n) ps).map D.lst=some d):∃ as,Reads s.heap (.ref a) (dPy d) as:=by
 obtain⟨zs,e,rfl⟩:=mpd h
 obtain⟨its,rr,⟨o,k,e1,e2,e2',e3⟩,_⟩:=I.list (SqL.of h1)
 obtain⟨as,ra⟩:=a6k R h2 rr e
 exact⟨a :: as,.list e1 e2 e3 (by simpa using ra)⟩
theorem a8p (I:Inv X pins σ H s)(hs:Same S H):∀ n,e4h X S s n
 | 0,p,v,u,d,_,_,h=>by cases h
 | n+1,p,v,u,d,rp,rv,h=>by
  have R:=a8p I hs n
  cases p with
  | tup ps =>
   obtain⟨a,xs,rfl,h1,h2⟩:=rp
   cases (show u=Value.ref a from rv)
   obtain⟨zs,e,rfl⟩:=mpd (show (a8y (fD n) ps).map D.tup=some d from h)
   obtain⟨its,rr,⟨o,e1,e2,k,e3⟩,_⟩:=I.tuple (SqT.of (hs _ _ h1))
   obtain⟨as,ra⟩:=a6k R h2 rr e
   exact⟨as,.tuple e1 e2 e3 (by simpa using ra)⟩
  | lst ps =>
   obtain⟨a,xs,rfl,h1,h2⟩:=rp
   cases (show u=Value.ref a from rv)
   exact a9y I R (hs _ _ h1) h2 h
  | non=>cases h;cases (show v=_ from rp);cases (show u=_ from rv);exact⟨_,.none⟩
  | bl _=>cases h;cases (show v=_ from rp);cases (show u=_ from rv);exact⟨_,.bool _⟩
  | int _=>cases h;cases (show v=_ from rp);obtain⟨t,rfl⟩:=rv;exact⟨_,.int _ _⟩
  | str _=>cases h;cases (show v=_ from rp);obtain⟨t,rfl⟩:=rv;exact⟨_,.str _ _⟩
  | scr _=>cases h
  | shn _=>cases h
  | dct _ _=>cases h
  | dci _ _=>cases h
  | dcz _ _ _=>cases h
  | obj _ _ _ _=>cases h
  | dcn _ _ _=>cases h
theorem a4o (I:Inv X pins σ H s)(hs:Same S H){n:Nat}{p:FV}{v:V}{u:Value}{d:D}(rp:RH X.K S H p v)(rv:RelV v u)(h:fD n p=some d):∃ as,Reads s.heap u (dPy d) as:=by
 rcases rp with rp|⟨a,rfl,_,ps,xs,e,h1,h2⟩
 ·exact a8p I hs n p v u d rp rv h
 ·cases (show u=Value.ref a from rv)
  cases n with
  | zero=>cases h
  | succ n =>
   cases p with
   | lst qs=>cases e;exact a9y I (a8p I hs n) h1 h2 h
   | dct _ _=>cases h
   | dci _ _=>cases h
   | dcz _ _ _=>cases h
   | obj _ _ _ _=>cases h
   | dcn _ _ _=>cases h
   | _=>cases e
end
theorem a1n:big<=sizeLine:=by decide
theorem a1o {v:FV}{i:Int}(h:a3l v=some i):v=.int i:=by cases v<;>cases h;rfl
theorem d4l {v:FV}{i:Bool}(h:blF v=some i):v=.bl i:=by cases v<;>cases h;rfl
theorem a2a {v:FV}{i:List FV}(h:a5t v=some i):v=.tup i:=by cases v<;>cases h;rfl
theorem a4g {v:FV}{i:List FV}(h:a7b v=some i):v=.lst i:=by cases v<;>cases h;rfl
structure NewOr (K:Γd)(S H:Hp)(Q:VK)(z:FV):Prop where
 old:∀ x,(∀ ps,z≠.lst ps)->RV K S z x->Q x H
 tup:∀ ps xs p,z=.tup ps->RVs K S ps xs->H p=none->Q (.ref p) (upd H p (.tup xs))
 lst:∀ ps xs p,z=.lst ps->RVs K S ps xs->H p=none->Q (.ref p) (upd H p (.lst xs))
section
variable {X:Cx}{K:Γd}{S H:Hp}{Q:VK}
theorem NewOr.bl {b:Bool}(k:NewOr K S H Q (.bl b)):Q (.bl b) H:=k.old _ (λ_ z=>nomatch z) rfl
theorem NewOr.int {b:Int}(k:NewOr K S H Q (.int b)):Q (.int b) H:=k.old _ (λ_ z=>nomatch z) rfl
theorem NewOr.str {b:String}(k:NewOr K S H Q (.str b)):Q (.str (Γe b)) H:=k.old _ (λ_ z=>nomatch z) rfl
theorem RH.int {i:Int}{x:V}(h:RH K S H (.int i) x):x=.int i:=h.val rfl
theorem RH.bl {i:Bool}{x:V}(h:RH K S H (.bl i) x):x=.bl i:=h.val rfl
def Rq (K:Γd)(f:FV->FV->Option FV):R2:=λx y H Q=>∃ S v w z,Same S H/\RH K S H v x/\RH K S H w y/\f v w=some z/\NewOr K S H Q z
theorem a7d {g:Value->Value->Sem Value}{f:Int->Int->Option FV}{r:R2}(o:OpR X g r)(h:∀ i j z H Q,f i j=some z->(∀ x,(∀ S,RV X.K S z x)->Q x H)->r (.int i) (.int j) H Q)(n:∀ i j z,f i j=some z->∀ ps,z≠.lst ps):OpR X g (Rq X.K (a3c f)):=by
 intro pins s σ H x y u1 u2 Q I rx ry ⟨S,v,w,z,hs,hv,hw,e,k⟩
 obtain⟨i,e1,e⟩:=bnd e
 obtain⟨j,e2,e⟩:=bnd e
 cases a1o e1;cases a1o e2
 obtain rfl:=hv.int
 obtain rfl:=hw.int
 exact o pins s σ H _ _ u1 u2 Q I rx ry (h i j z H Q e λx hx=>k.old x (n i j z e) (hx S))
theorem d8j:OpR X (binaryOp .Sub) (Rq X.K c9g):=a7d d1s (λi j z H Q e k=>⟨i,j,rfl,rfl,k _ λS=>by cases e;rfl⟩) λi j z e ps=>by cases e;exact λz=>nomatch z
theorem d0s:OpR X (binaryOp .FloorDiv) (Rq X.K b9h):=a7d c7c (λi j z H Q e k=>⟨i,j,rfl,rfl,(itd e).1,k _ λS=>by cases (itd e).2;rfl⟩) λi j z e ps=>by cases (itd e).2;exact λz=>nomatch z
theorem d8n:OpR X (binaryOp .Mod) (Rq X.K b8b):=a7d d1w (λi j z H Q e k=>⟨i,j,rfl,rfl,(itd e).1,k _ λS=>by cases (itd e).2;rfl⟩) λi j z e ps=>by cases (itd e).2;exact λz=>nomatch z
theorem d8l:OpR X (binaryOp .Pow) (Rq X.K d1f):=a7d d1u (λi j z H Q e k=>⟨i,j,rfl,rfl,by
 obtain⟨h1,h2,h3⟩:=(itd e).1
 have:-(2 ^ 64)<i/\i<2 ^ 64:=by simpa[a2o] using h3
 exact⟨h1,by lia,by lia⟩,k _ λS=>by cases (itd e).2;rfl⟩) λi j z e ps=>by cases (itd e).2;exact λz=>nomatch z
theorem q_gt:OpR X (compareOp .Gt) (Rq X.K gtB):=a7d d9j (λi j z H Q e k=>⟨i,j,rfl,rfl,k _ λS=>by cases e;rfl⟩) λi j z e ps=>by cases e;exact λz=>nomatch z
theorem q_ge:OpR X (compareOp .GtE) (Rq X.K geB):=a7d d9k (λi j z H Q e k=>⟨i,j,rfl,rfl,k _ λS=>by cases e;rfl⟩) λi j z e ps=>by cases e;exact λz=>nomatch z
theorem d0v:OpR X (binaryOp .Add) (Rq X.K (a3c λi j=>some (.int (i+j)))):=a7d d1y (λi j z H Q e k=>⟨i,j,rfl,rfl,k _ λS=>by cases e;rfl⟩) λi j z e ps=>by cases e;exact λz=>nomatch z
theorem d0q:OpR X (binaryOp .Mult) (Rq X.K (a3c λi j=>if (a2o i || a2o j)=true then some (.int (i*j)) else none)):=a7d d1v (λi j z H Q e k=>⟨i,j,rfl,rfl,by
 have:=(itd e).1
 simp only[a2o,Bool.or_eq_true,decide_eq_true_eq] at this
 exact this,k _ λS=>by cases (itd e).2;rfl⟩) λi j z e ps=>by cases (itd e).2;exact λz=>nomatch z
theorem c6f:OpR X (compareOp .Lt) (Rq X.K (a3c λi j=>some (.bl (decide (i<j))))):=a7d d9h (λi j z H Q e k=>⟨i,j,rfl,rfl,k _ λS=>by cases e;rfl⟩) λi j z e ps=>by cases e;exact λz=>nomatch z
theorem d8o:OpR X (compareOp .LtE) (Rq X.K (a3c λi j=>some (.bl (decide (i<=j))))):=a7d d9i (λi j z H Q e k=>⟨i,j,rfl,rfl,k _ λS=>by cases e;rfl⟩) λi j z e ps=>by cases e;exact λz=>nomatch z
theorem d0u {xs ys:List FV}{x y:V}{z:FV}{pins:List (Addr×Obj)}{σ:L2.St}{s:Shared}{u1 u2:Value}(I:Inv X pins σ H s)(rx:RelV x u1)(ry:RelV y u2)(hs:Same S H)(hv:RH X.K S H (.tup xs) x)(hw:RH X.K S H (.tup ys) y)
  (e:(if xs.length+ys.length<=big then some (FV.tup (xs++ys)) else none)=some z)(k:NewOr X.K S H Q z):wpAny (model X.prog X.w) X.A (binaryOp .Add u1 u2) (EP X pins σ Q) X.xe s:=by
 obtain⟨hc,rfl⟩:=itd e
 have rv:=hv.val rfl
 have rw':=hw.val rfl
 obtain⟨a,as,rfl,ha,ra⟩:=hv.tup hs
 obtain⟨b,bs,rfl,hb,rb⟩:=hw.tup hs
 have l1:=ra.length
 have l2:=rb.length
 have hl:=a1n
 by_cases h0:as=[]
 ·subst h0
  have z2:xs=[]:=List.eq_nil_of_length_eq_zero (by simpa using l1)
  subst z2
  exact c2g pins s σ H _ _ u1 u2 Q I rx ry ⟨a,b,bs,rfl,rfl,SqT.of ha,SqT.of hb,k.old _ (λ_ z=>nomatch z) rw'⟩
 refine c7d pins s σ H _ _ u1 u2 Q I rx ry ⟨a,b,as,bs,rfl,rfl,SqT.of ha,SqT.of hb,h0,by lia,λz=>?_,λ_ p hp=>k.tup _ _ p rfl (ra.append rb) hp⟩
 subst z
 have z2:ys=[]:=List.eq_nil_of_length_eq_zero (by simpa using l2)
 subst z2
 exact k.old _ (λ_ z=>nomatch z) (by rw[List.append_nil];exact rv)
theorem d0w:OpR X (binaryOp .Add) (Rq X.K a6f):=by
 intro pins s σ H x y u1 u2 Q I rx ry ⟨S,v,w,z,hs,hv,hw,e,k⟩
 cases v with
 | tup xs =>
  obtain⟨ys,e1,e⟩:=bnd e
  cases a2a e1
  exact d0u I rx ry hs hv hw e k
 | lst xs =>
  obtain⟨ys,e1,e⟩:=bnd e
  cases a4g e1
  obtain⟨hc,rfl⟩:=itd e
  obtain⟨a,as,rfl,ha,ra⟩:=hv.lst hs
  obtain⟨b,bs,rfl,hb,rb⟩:=hw.lst hs
  have l1:=ra.length
  have l2:=rb.length
  have hl:=a1n
  exact d1x pins s σ H _ _ u1 u2 Q I rx ry ⟨a,b,as,bs,rfl,rfl,ha,hb,by lia,λp hp=>k.lst _ _ p rfl (ra.append rb) hp⟩
 | _=>exact d0v pins s σ H x y u1 u2 Q I rx ry ⟨S,_,w,z,hs,hv,hw,e,k⟩
theorem d8m:OpR X (binaryOp .Mult) (Rq X.K c1b):=by
 intro pins s σ H x y u1 u2 Q I rx ry ⟨S,v,w,z,hs,hv,hw,e,k⟩
 cases v with
 | lst xs =>
  obtain⟨j,e1,e⟩:=bnd e
  cases a1o e1
  obtain⟨hc,rfl⟩:=itd e
  obtain⟨a,as,rfl,ha,ra⟩:=hv.lst hs
  obtain rfl:=hw.int
  have l1:=ra.length
  have hl:=a1n
  exact d1t pins s σ H _ _ u1 u2 Q I rx ry ⟨a,j,as,rfl,rfl,ha,hc.1,hc.2.1,by rw[<- l1];lia,λp hp=>k.lst _ _ p rfl (ra.rep _) hp⟩
 | _=>exact d0q pins s σ H x y u1 u2 Q I rx ry ⟨S,_,w,z,hs,hv,hw,e,k⟩
theorem a2x:∀ {ps:List FV}{xs:List V}{ns:List Int},RVs K S ps xs->a0v ps=some ns->xs=ns.map V.int
 | [],xs,ns,r,e=>by cases (show xs=[] from r);cases e;rfl
 | p :: ps,xs,ns,r,e=>by
  obtain⟨v,q,rfl,h1,h2⟩:=r
  cases p with
  | int i =>
   obtain⟨ms,z,rfl⟩:=mpd (show (a0v ps).map (i :: ·)=some ns from e)
   rw[a2x h2 z,List.map_cons,show v=.int i from h1]
  | _=>cases e
theorem a5g:∀ {ps:List FV}{xs:List V}{ns:List Bool},RVs K S ps xs->a4w ps=some ns->xs=ns.map V.bl
 | [],xs,ns,r,e=>by cases (show xs=[] from r);cases e;rfl
 | p :: ps,xs,ns,r,e=>by
  obtain⟨v,q,rfl,h1,h2⟩:=r
  cases p with
  | bl i =>
   obtain⟨ms,z,rfl⟩:=mpd (show (a4w ps).map (i :: ·)=some ns from e)
   rw[a5g h2 z,List.map_cons,show v=.bl i from h1]
  | _=>cases e
theorem d3n {p q:FV}{b:Bool}(e:eqF p q=some b):(∃ d,p=.shn d/\q=.shn d/\b=true) ∨ ∃ x y,fD a0t p=some x/\fD a0t q=some y/\b=D.eqv x y:=by
 have gen:eqD p q=some b->∃ x y,fD a0t p=some x/\fD a0t q=some y/\b=D.eqv x y:=λe=>by
  obtain⟨x,e1,e⟩:=bnd e
  obtain⟨y,e2,e⟩:=bnd e
  cases e
  exact⟨x,y,e1,e2,rfl⟩
 unfold eqF at e
 split at e
 ·obtain⟨rfl,rfl⟩:=@itd _ _ (Classical.propDecidable _) _ _ e
  exact .inl ⟨_,rfl,rfl,rfl⟩
 ·exact .inr (gen e)
theorem d0t (hu:X.A.units+64<cLine)(neg:Bool):OpR X (compareOp (if neg then .NotEq else .Eq)) (Rq X.K λp q=>(eqF p q).map λr=>.bl (neg != r)):=by
 intro pins s σ H x y v u Q I rx ry ⟨S,p,q,z,hs,rp,rq,e,k⟩
 obtain⟨b,e',rfl⟩:=mpd (show (eqF p q).map (λr=>FV.bl (neg != r))=some z from e)
 have fin:=k.bl
 rcases d3n e' with⟨d,rfl,rfl,rfl⟩|⟨dx,dy,e1,e2,rfl⟩
 ·obtain rfl:x=.str (dPy d).shown:=rp.val rfl
  obtain rfl:y=.str (dPy d).shown:=rq.val rfl
  cases neg with
  | false=>exact d9l pins s σ H _ _ v u Q I rx ry ⟨rfl,by simpa using fin⟩
  | true=>exact d9g pins s σ H _ _ v u Q I rx ry ⟨rfl,by simpa using fin⟩
 ·obtain⟨as,ra⟩:=a4o I hs rp rx e1
  obtain⟨bs,rb⟩:=a4o I hs rq ry e2
  have hd:X.A.units+min (dPy dx).depth (dPy dy).depth<cLine:=by
   have h1:=a6b e1
   unfold a0t at h1
   lia
  cases neg with
  | false=>exact PySem.SeqAt.compareEq_reads ra rb (a5v dx) (a5v dy) hd ⟨.bl _,H,I,rfl,by rw[b9x];simpa using fin⟩
  | true=>exact PySem.SeqAt.compareNe_reads ra rb (a5v dx) (a5v dy) hd ⟨.bl _,H,I,rfl,by rw[b9x];simpa using fin⟩
theorem q_eq (hu:X.A.units+64<cLine):OpR X (compareOp .Eq) (Rq X.K eqB):=λpins s σ H x y v u Q I rx ry ⟨S,p,q,z,hs,rp,rq,e,k⟩=>d0t hu false pins s σ H x y v u Q I rx ry ⟨S,p,q,z,hs,rp,rq,by
 obtain⟨b,e1,rfl⟩:=mpd e
 show (eqF p q).map _=_
 rw[e1];cases b<;>rfl,k⟩
theorem q_ne (hu:X.A.units+64<cLine):OpR X (compareOp .NotEq) (Rq X.K neB):=λpins s σ H x y v u Q I rx ry ⟨S,p,q,z,hs,rp,rq,e,k⟩=>d0t hu true pins s σ H x y v u Q I rx ry ⟨S,p,q,z,hs,rp,rq,by
 obtain⟨b,e1,rfl⟩:=mpd e
 show (eqF p q).map _=_
 rw[e1];cases b<;>rfl,k⟩
theorem d0r (hu:X.A.units+64<cLine)(neg:Bool):OpR X (compareOp (if neg then .NotIn else .In)) (Rq X.K λp q=>(inF p q).map λr=>.bl (neg != r)):=by
 intro pins s σ H x y v u Q I rx ry ⟨S,p,q,z,hs,rp,rq,e,k⟩
 obtain⟨b,e',rfl⟩:=mpd (show (inF p q).map (λr=>FV.bl (neg != r))=some z from e)
 have fin:=k.bl
 obtain⟨dx,e1,e'⟩:=bnd e'
 obtain⟨dy,e2,e'⟩:=bnd e'
 obtain⟨as,ra⟩:=a4o I hs rp rx e1
 obtain⟨bs,rb⟩:=a4o I hs rq ry e2
 have hd:∀ ys,X.A.units+1+min (PyData.depthAll (dPys ys)) (dPy dx).depth<cLine:=λys=>by
  have h1:=a6b e1
  unfold a0t at h1
  lia
 cases dy with
 | lst ys =>
  cases e'
  simp only[dPy] at rb
  cases neg with
  | false=>exact PySem.SeqAt.in_list_reads rb ra (d_lays ys) (a5v dx) (hd ys) ⟨.bl _,H,I,rfl,by rw[b9y];simpa using fin⟩
  | true=>exact PySem.SeqAt.notIn_list_reads rb ra (d_lays ys) (a5v dx) (hd ys) ⟨.bl _,H,I,rfl,by rw[b9y];simpa using fin⟩
 | tup ys =>
  cases e'
  simp only[dPy] at rb
  cases neg with
  | false=>exact PySem.SeqAt.in_tuple_reads rb ra (d_lays ys) (a5v dx) (hd ys) ⟨.bl _,H,I,rfl,by rw[b9y];simpa using fin⟩
  | true=>exact PySem.SeqAt.notIn_tuple_reads rb ra (d_lays ys) (a5v dx) (hd ys) ⟨.bl _,H,I,rfl,by rw[b9y];simpa using fin⟩
 | _=>cases e'
theorem q_in (hu:X.A.units+64<cLine):OpR X (compareOp .In) (Rq X.K inB):=λpins s σ H x y v u Q I rx ry ⟨S,p,q,z,hs,rp,rq,e,k⟩=>d0r hu false pins s σ H x y v u Q I rx ry ⟨S,p,q,z,hs,rp,rq,by
 obtain⟨b,e1,rfl⟩:=mpd e
 show (inF p q).map _=_
 rw[e1];cases b<;>rfl,k⟩
theorem q_ni (hu:X.A.units+64<cLine):OpR X (compareOp .NotIn) (Rq X.K niB):=λpins s σ H x y v u Q I rx ry ⟨S,p,q,z,hs,rp,rq,e,k⟩=>d0r hu true pins s σ H x y v u Q I rx ry ⟨S,p,q,z,hs,rp,rq,by
 obtain⟨b,e1,rfl⟩:=mpd e
 show (inF p q).map _=_
 rw[e1];cases b<;>rfl,k⟩
theorem c9a {ps:List FV}{xs:List V}{i:Int}{p:FV}(r:RVs K S ps xs)(e:atF ps i=some p):∃ v,L2.atI xs i=some v/\RV K S p v:=by
 obtain⟨j,e1,e2⟩:=bnd e
 obtain⟨v,h1,h2⟩:=r.get e2
 refine⟨v,?_,h2⟩
 show (L2.ixN xs.length i).bind (λj=>xs[j]?)=some v
 rw[<- r.length,show L2.ixN ps.length i=some j from e1]
 exact h1
def Ri (K:Γd):R2:=λx y H Q=>∃ S v w z,Same S H/\RH K S H v x/\RH K S H w y/\ixF v w=some z/\∀ u,RV K S z u->Q u H
theorem q_ix:IxR X (Ri X.K):=by
 intro value slice pins s σ H x y v u Q I rx ry ⟨S,p,q,z,hs,rp,rq,e,k⟩ hsl
 obtain⟨j,e1,e3⟩:=bnd e
 obtain⟨ps,e2,e4⟩:=bnd e3
 cases a1o e1
 obtain rfl:=rq.int
 obtain⟨a,xs,rfl,hq,r⟩:=rp.seq hs e2
 obtain⟨w,h1,h2⟩:=c9a r e4
 cases hb:isL p with
 | true=>rw[hb] at hq;exact c7w value slice pins s σ H _ _ v u Q I rx ry ⟨a,xs,j,w,rfl,rfl,hq,h1,k w h2⟩ hsl
 | false=>rw[hb] at hq;exact d2x value slice pins s σ H _ _ v u Q I rx ry ⟨a,xs,j,w,rfl,rfl,hq,h1,k w h2⟩ hsl
theorem b3n (n d:Nat)(o:Option Int):Kq.sIx n d o=HT.sIx n d o:=by
 cases o with
 | none=>rfl
 | some v=>simp only[Kq.sIx,HT.sIx];try (split<;>split<;>lia)
theorem b3d {ps:List FV}{xs:List V}{lo hi:Option Int}(r:RVs K S ps xs):RVs K S (a6e ps lo hi) (c5i xs lo hi):=by
 unfold a6e c5i
 rw[b3n,b3n,r.length]
 exact (r.drop _).take _
def Rsl (K:Γd):V->Option Int->Option Int->Hp->VK->Prop:=λx lo hi H Q=>∃ S v z,Same S H/\RH K S H v x/\a9u v lo hi=some z/\NewOr K S H Q z
theorem q_sl:SlR X (Rsl X.K):=by
 intro pins s σ H x v vl vu lo hi sl Q I rx hsl pl pu ⟨S,p,z,hs,rp,e,k⟩
 cases p with
 | tup ps =>
  cases e
  have rv:=rp.val rfl
  obtain⟨a,xs,rfl,ha,ra⟩:=rp.tup hs
  by_cases hc:HT.sIx xs.length 0 lo=0/\HT.sIx xs.length xs.length hi=xs.length
  ·refine c1j pins s σ H _ v vl vu lo hi sl Q I rx hsl pl pu ⟨a,xs,rfl,SqT.of ha,hc.1,hc.2,k.old _ (λ_ z=>nomatch z) ?_⟩
   have e:a6e ps lo hi=ps:=by
    unfold a6e
    rw[b3n,b3n,ra.length,hc.1,hc.2,List.drop_zero,Nat.sub_zero,List.take_of_length_le (Nat.le_of_eq ra.length)]
   rw[e];exact rv
  ·exact d0h pins s σ H _ v vl vu lo hi sl Q I rx hsl pl pu ⟨a,xs,rfl,SqT.of ha,hc,λp hp=>k.tup _ _ p rfl (b3d ra) hp⟩
 | lst ps =>
  cases e
  obtain⟨a,xs,rfl,ha,ra⟩:=rp.lst hs
  exact b6y pins s σ H _ v vl vu lo hi sl Q I rx hsl pl pu ⟨a,xs,rfl,SqL.of ha,λp hp=>k.lst _ _ p rfl (b3d ra) hp⟩
 | _=>cases e
end
section
variable {X:Cx}{K:Γd}{S H:Hp}{Q:VK}
def Rc (K:Γd)(f:FV->Option FV):List V->Hp->VK->Prop:=λxs H Q=>∃ S v x z,xs=[x]/\Same S H/\RH K S H v x/\f v=some z/\NewOr K S H Q z
def Rc2 (K:Γd)(f:FV->FV->Option FV):List V->Hp->VK->Prop:=λxs H Q=>∃ S v w x y z,xs=[x,y]/\Same S H/\RH K S H v x/\RH K S H w y/\f v w=some z/\NewOr K S H Q z
theorem d0g {b:Bool}{a:Addr}{xs:List V}(h:SqB b K H a xs):SqL K H a xs ∨ SqT K H a xs:=by cases b;exact .inr h;exact .inl h
theorem e2z:a1l X (.builtin "len") (Rc X.K a5y):=by
 rintro pins s σ H xs us Q I r ⟨S,v,x,z,rfl,hs,rv,e,k⟩
 obtain⟨ps,e1,rfl⟩:=mpd e
 obtain⟨a,ys,rfl,hq,ry⟩:=rv.seq hs e1
 refine b1n pins s σ H _ us Q I r ⟨a,ys,rfl,d0g hq,?_⟩
 rw[<- ry.length]
 exact k.int
theorem e3d:a1l X (.builtin "abs") (Rc X.K d4t):=by
 rintro pins s σ H xs us Q I r ⟨S,v,x,z,rfl,hs,rv,e,k⟩
 obtain⟨i,e1,rfl⟩:=mpd e
 cases a1o e1
 obtain rfl:=rv.int
 exact c4a pins s σ H _ us Q I r ⟨i,rfl,k.int⟩
theorem e3a:a1l X (.type "int") (Rc X.K b3k):=by
 rintro pins s σ H xs us Q I r ⟨S,v,x,z,rfl,hs,rv,e,k⟩
 cases v with
 | int i =>
  cases e
  obtain rfl:=rv.int
  exact b1o pins s σ H _ us Q I r (.inl ⟨i,rfl,k.int⟩)
 | bl b =>
  cases e
  obtain rfl:=rv.bl
  exact b1o pins s σ H _ us Q I r (.inr ⟨b,rfl,k.int⟩)
 | _=>cases e
theorem c8x:a1l X (.type "tuple") (Rc X.K a5i):=by
 rintro pins s σ H xs us Q I r ⟨S,v,x,z,rfl,hs,rv,e,k⟩
 obtain⟨ps,e1,rfl⟩:=mpd e
 obtain⟨a,ys,rfl,hq,ry⟩:=rv.seq hs e1
 cases v with
 | tup qs=>cases e1;exact a3h pins s σ H _ us Q I r ⟨a,ys,rfl,.inr ⟨hq,k.old _ (λ_ z=>nomatch z) (rv.val rfl)⟩⟩
 | lst qs=>exact a3h pins s σ H _ us Q I r ⟨a,ys,rfl,.inl ⟨hq,λl hl=>k.tup _ _ l rfl ry hl⟩⟩
 | scr qs=>exact a3h pins s σ H _ us Q I r ⟨a,ys,rfl,.inl ⟨hq,λl hl=>k.tup _ _ l rfl ry hl⟩⟩
 | _=>cases e1
theorem c5j:a1l X (.type "list") (Rc X.K a4h):=by
 rintro pins s σ H xs us Q I r ⟨S,v,x,z,rfl,hs,rv,e,k⟩
 obtain⟨ps,e1,rfl⟩:=mpd e
 obtain⟨a,ys,rfl,hq,ry⟩:=rv.seq hs e1
 exact b1m pins s σ H _ us Q I r ⟨a,ys,rfl,d0g hq,λl hl=>k.lst _ _ l rfl ry hl⟩
theorem d4g (hc:X.calm=true):a1l X (.builtin "max") (Rc2 X.K c2l):=by
 rintro pins s σ H xs us Q I r ⟨S,v,w,x,y,z,rfl,hs,rv,rw',e,k⟩
 obtain⟨i,e1,e2⟩:=bnd e
 obtain⟨j,e3,e4⟩:=bnd e2
 cases a1o e1;cases a1o e3;cases e4
 obtain rfl:=rv.int
 obtain rfl:=rw'.int
 exact c0l hc pins s σ H _ us Q I r ⟨i,j,rfl,k.int⟩
theorem Vals.mapInt {ns:List Int}:∀ {us:List Value},Vals (ns.map V.int) us->∀ i:Nat,i<ns.length->∃ t,us[i]?=some (.int (ns.getD i 0) t):=λ{us} r i hi=>by
 obtain⟨u,e,t,rfl⟩:=r.get (i:=i) (x:=.int (ns.getD i 0)) (by simp[hi])
 exact⟨t,e⟩
theorem a2e (ns:List Int):∀ j,j<=ns.length->preSum (λi=>ns.getD i 0) j=(ns.take j).sum
 | 0,_=>by simp[preSum]
 | j+1,h=>by
  have hj:j<ns.length:=h
  show preSum _ j+ns.getD j 0=_
  rw[a2e ns j (by lia),List.take_succ_eq_append_getElem hj,List.sum_append]
  simp[List.getD,hj]
theorem b6t (B:Int)(hB:0<=B):∀ ns:List Int,(∀ n∈ns,-B<=n/\n<=B)->-(B*ns.length)<=ns.sum/\ns.sum<=B*ns.length
 | [],_=>by simp
 | n :: r,h=>by
  have ih:=b6t B hB r λm hm=>h m (Γh _ hm)
  have hn:=h n Γn
  rw[List.sum_cons,List.length_cons]
  have e:B*((r.length+1:Nat):Int)=B*(r.length:Int)+B:=by rw[Int.natCast_add,Int.mul_add];simp
  rw[e]
  lia
theorem b5v (hc:X.calm=true):a1l X (.builtin "sum") (λxs H Q=>∃ (a:Addr)(ns:List Int),xs=[.ref a]/\SqL X.K H a (ns.map V.int)/\ns.length<=big/\(∀ n∈ns,-(2 ^ 40)<=n/\n<=2 ^ 40)/\Q (.int ns.sum) H):=by
 intro pins s σ H xs us Q I r h
 obtain⟨a,ns,rfl,hq,hz,hb,q⟩:=h
 obtain⟨u,rfl,rx⟩:=a3e r
 cases rx
 obtain⟨its,r',pl,hz'⟩:=I.list hq
 have hlen:ns.length=its.length:=by have:=r'.length;simpa using this
 have alt:a<s.heap.objs.size:=by obtain⟨_,e,_⟩:=pl.isList;exact Γl e
 have hh:X.A.in1.handled=none:=I.ok.hd hc
 refine call_sum_walk (wpAny_pyIter_list pl.isList ?_)
 refine⟨s.heap.objs.size,_,_,_,_,_,λi=>ns.getD i 0,rfl,Walks.list hh s.heap.objs.size a (Γo alt) its.toArray,⟨⟨_,Γm _ rfl,rfl,rfl⟩,pl.isList.at λo e=>Γc _ e⟩,?_,?_,?_,?_⟩
 ·intro b hb'
  simp at hb'
  rcases hb' with rfl|rfl
  ·show _<(s.heap.push _).objs.size;rw[Heap.size_push];exact Nat.lt_succ_self _
  ·show _<(s.heap.push _).objs.size;rw[Heap.size_push];exact Nat.lt_succ_of_lt alt
 ·intro i v hv
  have hv:its.toArray[i]?=some v:=hv
  have hi:i<ns.length:=by rw[hlen];simpa using (Array.getElem?_eq_some_iff.mp hv).1
  obtain⟨t,e⟩:=Vals.mapInt r' i hi
  refine⟨t,?_⟩
  have e':its.toArray[i]?=some (.int (ns.getD i 0) t):=by simpa using e
  rw[hv] at e'
  exact Option.some.inj e'
 ·intro j hj
  have hj':j<ns.length:=by rw[hlen];simpa using hj
  have hm:ns.getD j 0∈ns:=by simp[List.getD,hj']
  refine⟨?_,?_⟩
  ·have:=hb _ hm
   show -(2 ^ 63)<=ns.getD j 0/\ns.getD j 0<2 ^ 63
   lia
  ·rw[a2e ns (j+1) hj']
   have b2:=b6t 1099511627776 (by decide) (ns.take (j+1)) λn hn=>by have:=hb n (List.mem_of_mem_take hn);lia
   have l2:(ns.take (j+1)).length<=100000:=by rw[List.length_take];unfold big at hz;lia
   unfold InLong;lia
 ·intro h' tk t' hk
  have e:preSum (λi=>ns.getD i 0) its.toArray.size=ns.sum:=by
   rw[List.size_toArray,<- hlen,a2e ns _ (Γi _),List.take_length]
  rw[e]
  refine⟨.int ns.sum,H,?_,⟨t',rfl⟩,q⟩
  exact I.kept (t':=tk) λb o e=>hk b o (by simp;exact Γo (Γl e)) (Γc _ e)
theorem b3j {prog:Program}{w:World}{A:Around}{its:List Value}{bs:List Bool}(r:Vals (bs.map V.bl) its):TruthOf prog w A (λi v=>its.toArray[i]?=some v) (λi=>bs.getD i false):=by
 intro i v s Q E hv hq
 have hlen:bs.length=its.length:=by have:=r.length;simpa using this
 have hi:i<bs.length:=by rw[hlen];simpa using (Array.getElem?_eq_some_iff.mp hv).1
 obtain⟨u,e,ru⟩:=r.get (i:=i) (x:=.bl (bs.getD i false)) (by simp[hi])
 have e':its.toArray[i]?=some u:=by simpa using e
 rw[hv] at e'
 cases e'
 cases ru
 exact Γb hq
theorem b7c (bs:List Bool):(List.range bs.length).all (λi=>bs.getD i false)=bs.all id:=by
 rw[Bool.eq_iff_iff]
 simp only[List.all_eq_true,List.mem_range,id]
 constructor
 ·intro h b hb
  obtain⟨i,hi,e⟩:=List.mem_iff_getElem.mp hb
  have:=h i hi
  simpa[List.getD,hi,e] using this
 ·intro h i hi
  have:=h bs[i] (List.getElem_mem hi)
  simpa[List.getD,hi] using this
theorem b7b (bs:List Bool):(List.range bs.length).any (λi=>bs.getD i false)=bs.any id:=by
 rw[Bool.eq_iff_iff]
 simp only[List.any_eq_true,List.mem_range,id]
 constructor
 ·rintro⟨i,hi,e⟩
  exact⟨bs[i],List.getElem_mem hi,by simpa[List.getD,hi] using e⟩
 ·rintro⟨b,hb,e⟩
  obtain⟨i,hi,e'⟩:=List.mem_iff_getElem.mp hb
  exact⟨i,hi,by simpa[List.getD,hi,e'] using e⟩
theorem b5z (hc:X.calm=true):a1l X (.builtin "all") (λxs H Q=>∃ (a:Addr)(bs:List Bool),xs=[.ref a]/\SqL X.K H a (bs.map V.bl)/\Q (.bl (bs.all id)) H):=by
 intro pins s σ H xs us Q I r h
 obtain⟨a,bs,rfl,hq,q⟩:=h
 obtain⟨u,rfl,rx⟩:=a3e r
 cases rx
 obtain⟨its,r',pl,hz'⟩:=I.list hq
 have hlen:bs.length=its.length:=by have:=r'.length;simpa using this
 have alt:a<s.heap.objs.size:=by obtain⟨_,e,_⟩:=pl.isList;exact Γl e
 have hh:X.A.in1.handled=none:=I.ok.hd hc
 refine call_all_walk (wpAny_pyIter_list pl.isList ?_)
 refine⟨s.heap.objs.size,_,_,_,_,_,λi=>bs.getD i false,rfl,Walks.list hh s.heap.objs.size a (Γo alt) its.toArray,⟨⟨_,Γm _ rfl,rfl,rfl⟩,pl.isList.at λo e=>Γc _ e⟩,b3j r',?_⟩
 intro h' tk hk
 rw[List.size_toArray,<- hlen,b7c]
 exact⟨.bl _,H,I.kept (t':=tk) λb o e=>hk b o (by simp;exact Γo (Γl e)) (Γc _ e),rfl,q⟩
theorem b5y (hc:X.calm=true):a1l X (.builtin "any") (λxs H Q=>∃ (a:Addr)(bs:List Bool),xs=[.ref a]/\SqL X.K H a (bs.map V.bl)/\Q (.bl (bs.any id)) H):=by
 intro pins s σ H xs us Q I r h
 obtain⟨a,bs,rfl,hq,q⟩:=h
 obtain⟨u,rfl,rx⟩:=a3e r
 cases rx
 obtain⟨its,r',pl,hz'⟩:=I.list hq
 have hlen:bs.length=its.length:=by have:=r'.length;simpa using this
 have alt:a<s.heap.objs.size:=by obtain⟨_,e,_⟩:=pl.isList;exact Γl e
 have hh:X.A.in1.handled=none:=I.ok.hd hc
 refine call_any_walk (wpAny_pyIter_list pl.isList ?_)
 refine⟨s.heap.objs.size,_,_,_,_,_,λi=>bs.getD i false,rfl,Walks.list hh s.heap.objs.size a (Γo alt) its.toArray,⟨⟨_,Γm _ rfl,rfl,rfl⟩,pl.isList.at λo e=>Γc _ e⟩,b3j r',?_⟩
 intro h' tk hk
 rw[List.size_toArray,<- hlen,b7b]
 exact⟨.bl _,H,I.kept (t':=tk) λb o e=>hk b o (by simp;exact Γo (Γl e)) (Γc _ e),rfl,q⟩
theorem d4e (hc:X.calm=true):a1l X (.builtin "sum") (Rc X.K sumF):=by
 rintro pins s σ H xs us Q I r ⟨S,v,x,z,rfl,hs,rv,e,k⟩
 obtain⟨ps,e1,e2⟩:=bnd e
 obtain⟨n,e3,rfl⟩:=mpd e2
 obtain⟨ns,e4,e5⟩:=bnd e3
 obtain⟨hb,rfl⟩:=itd e5
 obtain⟨a,ys,rfl,hq,ry⟩:=rv.list hs e1
 cases a2x ry e4
 refine b5v hc pins s σ H _ us Q I r ⟨a,ns,rfl,hq,hb.1,λn hn=>?_,k.int⟩
 have:=List.all_eq_true.mp hb.2 n hn
 simpa[a8k] using this
theorem e3c (hc:X.calm=true):a1l X (.builtin "all") (Rc X.K c0t):=by
 rintro pins s σ H xs us Q I r ⟨S,v,x,z,rfl,hs,rv,e,k⟩
 obtain⟨ps,e1,e2⟩:=bnd e
 obtain⟨bs,e3,rfl⟩:=mpd e2
 obtain⟨a,ys,rfl,hq,ry⟩:=rv.list hs e1
 cases a5g ry e3
 exact b5z hc pins s σ H _ us Q I r ⟨a,bs,rfl,hq,k.bl⟩
theorem e3b (hc:X.calm=true):a1l X (.builtin "any") (Rc X.K d4r):=by
 rintro pins s σ H xs us Q I r ⟨S,v,x,z,rfl,hs,rv,e,k⟩
 obtain⟨ps,e1,e2⟩:=bnd e
 obtain⟨bs,e3,rfl⟩:=mpd e2
 obtain⟨a,ys,rfl,hq,ry⟩:=rv.list hs e1
 cases a5g ry e3
 exact b5y hc pins s σ H _ us Q I r ⟨a,bs,rfl,hq,k.bl⟩
theorem a7v:∀ (xs:List Int) (b x:Int),a2b b (xs++[x])=if x<a2b b xs then x else a2b b xs
 | [],b,x=>rfl
 | y :: ys,b,x=>by
  show a2b (if y<b then y else b) (ys++[x])=_
  rw[a7v ys];rfl
theorem b0o (n:Int)(r:List Int):∀ k,k<=r.length->(n :: r)[argBest (λi j=>decide ((n :: r).getD i 0<(n :: r).getD j 0)) k]?=some (a2b n (r.take k))
 | 0,_=>by simp[argBest,a2b]
 | k+1,h=>by
  have ih:=b0o n r k (by lia)
  have hk:k<r.length:=h
  have e1:(n :: r).getD (argBest (λi j=>decide ((n :: r).getD i 0<(n :: r).getD j 0)) k) 0=a2b n (r.take k):=by rw[List.getD_eq_getElem?_getD,ih];rfl
  have e2:(n :: r).getD (k+1) 0=r[k]:=by simp[List.getD,hk]
  rw[List.take_succ_eq_append_getElem hk,a7v]
  simp only[argBest,e1,e2,decide_eq_true_eq]
  split
  ·simp[hk]
  ·exact ih
theorem d4f (hc:X.calm=true):a1l X (.builtin "min") (Rc X.K c2k):=by
 rintro pins s σ H xs us Q I r ⟨S,v,x,z,rfl,hs,rv,e,k⟩
 obtain⟨ps,e1,e2⟩:=bnd e
 obtain⟨ns,e3,e4⟩:=bnd e2
 obtain⟨a,ys,rfl,hq,ry⟩:=rv.list hs e1
 obtain⟨u,rfl,ru⟩:=a3e r
 cases (show u=Value.ref a from ru)
 obtain⟨its,r',pl,hz'⟩:=I.list hq
 have hh:X.A.in1.handled=none:=I.ok.hd hc
 have hlen:ys.length=its.length:=r'.length
 cases a2x ry e3
 cases ns with
 | nil=>cases e4
 | cons n r =>
  cases e4
  have hl2:its.length=r.length+1:=by rw[<- hlen];simp
  have it:∀ (i:Nat)(v:Value),its.toArray[i]?=some v->∃ t,v=Value.int ((n :: r).getD i 0) t:=λi v hv=>by
   have hv:its[i]?=some v:=by simpa using hv
   have hi:=(List.getElem?_eq_some_iff.mp hv).1
   obtain⟨t,e⟩:=Vals.mapInt r' i (by simp;lia)
   rw[hv] at e
   exact⟨t,Option.some.inj e⟩
  refine b5w (bt:=λi j=>decide ((n :: r).getD i 0<(n :: r).getD j 0)) hh pl.isList (by simp;lia) (λi j u v s1 Q1 E1 _ hi hj q1=>?_) λv h' tk hv hk=>?_
  ·obtain⟨t1,rfl⟩:=it i u hi
   obtain⟨t2,rfl⟩:=it j v hj
   exact PyProof.Rows.lt_int q1
  ·have hv:its[argBest (λi j=>decide ((n :: r).getD i 0<(n :: r).getD j 0)) (its.toArray.size-1)]?=some v:=by simpa using hv
   have hb:=b0o n r r.length (Γi _)
   rw[List.take_length] at hb
   have hsz:its.toArray.size-1=r.length:=by simp;lia
   rw[hsz] at hv
   generalize argBest (λi j=>decide ((n :: r).getD i 0<(n :: r).getD j 0)) r.length=z at hv hb
   obtain⟨t,rfl⟩:=it z v (by simpa using hv)
   rw[List.getD_eq_getElem?_getD,hb]
   exact⟨.int (a2b n r),H,I.kept (t':=tk) hk,⟨t,rfl⟩,k.int⟩
theorem b3l (hu:X.A.units+64<cLine)(hg:X.A.guards=some []){pins:List (Addr×Obj)}{s:Shared}{σ:L2.St}{v z:FV}{a:Addr}(I:Inv X pins σ H s)(hs:Same S H)(rv:RH X.K S H v (.ref a))(e:d7k v=some z)(k:NewOr X.K S H Q z):wpAny (model X.prog X.w) X.A (PySem.call (.type "str") [.ref a]) (EP X pins σ Q) X.xe s:=by
 obtain⟨d,e1,e2⟩:=bnd e
 obtain⟨hf,rfl⟩:=itd e2
 obtain⟨as,ra⟩:=a4o I hs rv (show RelV (.ref a) (.ref a) from rfl) e1
 have hdp:=a6b e1
 unfold a0t at hdp
 refine str_of_reads (h₀:=s.heap) ra (c8t d hf.1).1 (λz=>by rw[b4s] at z;cases z) hg (by lia) (λ_ _ h=>h) (λh' u' tk hk=>?_) (c8s hf.1 hf.2)
 exact⟨.str (dPy d).shown,H,I.kept (t':=tk) hk,⟨u',rfl⟩,k.old _ (λ_ z=>nomatch z) rfl⟩
theorem e2y (hu:X.A.units+64<cLine)(hg:X.A.guards=some []):a1l X (.type "str") (Rc X.K c9h):=by
 rintro pins s σ H xs us Q I r ⟨S,v,x,z,rfl,hs,rv,e,k⟩
 obtain⟨u,rfl,ru⟩:=a3e r
 cases v with
 | int i =>
  obtain⟨hc,rfl⟩:=itd e
  obtain rfl:=rv.int
  exact b1l pins s σ H _ _ Q I r ⟨i,rfl,by have:=log2_lt (k:=150) (by decide) hc;lia,k.str⟩
 | non =>
  cases e
  cases (show x=.non from rv.val rfl);cases (show u=_ from ru)
  exact PySem.P.str_of_none ⟨.str _,H,I.tok _,⟨_,rfl⟩,k.str⟩
 | bl b =>
  cases e
  obtain rfl:=rv.bl
  cases (show u=_ from ru)
  exact PySem.P.str_of_bool ⟨.str (Γe (if b then "True" else "False")),H,I.tok _,⟨_,by cases b<;>rfl⟩,k.str⟩
 | str x =>
  cases e
  cases (show _=V.str _ from rv.val rfl);obtain⟨t,rfl⟩:=ru
  exact PySem.P.str_of_str ⟨.str _,H,I,⟨_,rfl⟩,k.str⟩
 | tup xs =>
  obtain⟨a,ys,rfl,_⟩:=rv.tup hs
  cases (show u=_ from ru)
  exact b3l hu hg I hs rv e k
 | lst xs =>
  obtain⟨a,ys,rfl,_⟩:=rv.lst hs
  cases (show u=_ from ru)
  exact b3l hu hg I hs rv e k
 | _=>cases e
end
structure CC where
 N:List Str
 sc:List (Str×NameKind)
 fns:List Str
 md:Md
 top:Bool
 oc:List (Str×NameKind)
 ms:List (Str×Addr×Str)
 fl:List (Addr×Str)
def CC.vis (C:CC)(x:Str):Bool:=match C.sc.lookup x with
 | some .local=>true
 | some .cell=>true
 | some .free=>true
 | _=>false
def CC.gl (C:CC)(x:Str):Bool:=decide (C.sc.lookup x=some .globalImplicit)
def CC.loc (C:CC)(x:Str):Bool:=match C.sc.lookup x with
 | some .local=>true
 | some .cell=>C.top || C.oc.lookup x == some .cell
 | _=>false
def CC.nm (C:CC) (i:Nat)(x:Str):Bool:=decide (C.N[i]?=some x) && C.vis x && !(x == ("__debug__":Str)) && !(x == ("__classdict__":Str))
def bltNames:List String:=["len","abs","int","sum","all","any","min","max","tuple","list","isinstance","range","zip","bool","str","enumerate","reversed","sorted","dict","set"]
def e4j (P:Program)(w:World)(K:Γd)(mg:Str->Option Value)(base:Heap) (n:Nat)(s:Sp)(c:Str)(Ca:Addr)(m:Str):Prop:=∃ fa fd ps,mg c=some (.ref Ca)/\Cls K Ca/\(m=("__init__":Str)->Mk K Ca fa)/\(m≠("__init__":Str)->Meth K Ca m fa)/\Binds K fd ps []/\FnOk P w K mg base CX0 n fa fd ps s
structure Good (X:Cx)(C:CC) (n:Nat)(sp:Γd->Nat->Sp):Prop where
 N:X.N=C.N
 sc:X.env.scope.names=C.sc
 kind:X.env.scope.kind=.function
 nd:C.N.Nodup
 calm:X.calm=true
 fn:∀ x,(C.top || C.oc.lookup x == some .cell)=true->X.fn x=true
 room:RoomS n X.A
 fns:∀ (f:Nat)(x:Str),C.fns[f]?=some x->∃ fa fd ps,X.mg x=some (.ref fa)/\PySem.W.keepIn X.K (.ref fa)=true/\Binds X.K fd ps []/\FnOk X.prog X.w X.K X.mg X.base CX0 n fa fd ps (sp X.K f)
 blt:∀ b∈bltNames,X.mg (Γe b)=none
 mts:∀ (k:Nat)(c:Str)(Ca:Addr)(m:Str),C.ms[k]?=some (c,Ca,m)->e4j X.prog X.w X.K X.mg X.base n (sp X.K (C.fns.length+k)) c Ca m
 fls:∀ p∈C.fl,Cls X.K p.1/\b1u X.K p.1 p.2
theorem b2 {a b:Bool}(h:(a && b)=true):a=true/\b=true:=by simpa using h
theorem nb {a:Bool}(h:(!a)=true):a=false:=by simpa using h
theorem de {p:Prop} [Decidable p] (h:decide p=true):p:=by simpa using h
def lv (K:Γd)(md:Md)(e:EW):TE:=λσ H Q=>∃ c L S Q0,Iv K c md L σ S H/\e L Q0/\∀ v L',Q0 v L'->∀ x S' H',RV K S' v x->Iv K c md L' σ S' H'->Same S S'->Q x H'
def lr (K:Γd)(md:Md)(e:EW):TE:=λσ H Q=>∃ c L S Q0,Iv K c md L σ S H/\e L Q0/\∀ v L',Q0 v L'->∀ x S' H',RH K S' H' v x->Iv K c md L' σ S' H'->Same S S'->Q x H'
def a7k (c:Cn)(md:Md)(L:a0c)(σ:L2.St)(a:Addr):Prop:=c.H0 a=none/\(∀ p∈c.pr,p.1≠a)/\∀ j w,a0j md j≠.imm->L[j]?=some (some w)->σ[j]?≠some (some (.ref a))
def lf (K:Γd)(md:Md)(e:EW):TE:=λσ H Q=>∃ c L S Q0,Iv K c md L σ S H/\e L Q0/\∀ v L',Q0 v L'->∀ a S' H',a4f K S' H' a v->a7k c md L' σ a->Iv K c md L' σ S' H'->Same S S'->Q (.ref a) H'
def lb (K:Γd)(md:Md)(e:BW):TT:=λσ H Q=>∃ c L S Q0,Iv K c md L σ S H/\e L Q0/\∀ v L',Q0 v L'->∀ S' H',Iv K c md L' σ S' H'->Same S S'->Q v H'
def la (K:Γd)(md:Md)(e:AW):TA:=λσ H Q=>∃ c L S Q0,Iv K c md L σ S H/\e L Q0/\∀ v L',Q0 v L'->∀ x S' H',RVs K S' v x->Iv K c md L' σ S' H'->Same S S'->Q x H'
def lo (K:Γd)(md:Md)(e:OW):TO:=λσ H Q=>∃ c L S Q0,Iv K c md L σ S H/\e L Q0/\∀ v L',Q0 v L'->∀ S' H',Iv K c md L' σ S' H'->Same S S'->Q v H'
def FE (X:Cx)(C:CC)(x:Expr)(e:EW):Prop:=PE X.nox x (lv X.K C.md e)
def FR (X:Cx)(C:CC)(x:Expr)(e:EW):Prop:=PE X.nox x (lr X.K C.md e)
def FF (X:Cx)(C:CC)(x:Expr)(e:EW):Prop:=PE X.nox x (lf X.K C.md e)
def FB (X:Cx)(C:CC)(x:Expr)(e:BW):Prop:=PT X.nox x (lb X.K C.md e)
def FW (X:Cx)(C:CC)(x:Expr)(e:BW):Prop:=PW X.nox x (lb X.K C.md e)
def FA (X:Cx)(C:CC)(x:List Expr)(e:AW):Prop:=PA X.nox x (la X.K C.md e)
def FO (X:Cx)(C:CC)(x:Option Expr)(e:OW):Prop:=L2.PO X.nox x (lo X.K C.md e)
section
variable {X:Cx}
theorem PE.imp {e:Expr}{t u:TE}(h:PE X e t)(f:∀ σ H Q,u σ H Q->t σ H Q):PE X e u:=λpins s σ H Q I hu=>h pins s σ H Q I (f σ H Q hu)
theorem PT.imp {e:Expr}{t u:TT}(h:PT X e t)(f:∀ σ H Q,u σ H Q->t σ H Q):PT X e u:=λpins s σ H Q I hu=>h pins s σ H Q I (f σ H Q hu)
theorem PW.imp {e:Expr}{t u:TT}(h:PW X e t)(f:∀ σ H Q,u σ H Q->t σ H Q):PW X e u:=λw pins s σ H Q I hu=>h w pins s σ H Q I (f σ H Q hu)
theorem PA.imp {e:List Expr}{t u:TA}(h:PA X e t)(f:∀ σ H Q,u σ H Q->t σ H Q):PA X e u:=λp pins s σ H Q I hu=>h p pins s σ H Q I (f σ H Q hu)
theorem PO.imp {e:Option Expr}{t u:TO}(h:L2.PO X e t)(f:∀ σ H Q,u σ H Q->t σ H Q):L2.PO X e u:=λpins s σ H Q I hu=>h pins s σ H Q I (f σ H Q hu)
end
section
variable {X:Cx}{C:CC}{n:Nat}{sp:Γd->Nat->Sp}
theorem Good.vis (G:Good X C n sp){x:Str}(h:C.vis x=true):Vis X.env.scope x:=by
 unfold CC.vis at h
 unfold Vis
 rw[G.sc]
 split at h
 ·rename_i e;exact .inl e
 ·rename_i e;exact .inr (.inl e)
 ·rename_i e;exact .inr (.inr e)
 ·cases h
theorem Good.gl (G:Good X C n sp){x:Str}(h:C.gl x=true):Gl X x:=by
 show X.env.scope.names.lookup x=_
 rw[G.sc];exact de h
theorem Good.loc (G:Good X C n sp){x:Str}(h:C.loc x=true):L2.Loc X.env.scope x/\(X.fn x=true ∨ X.env.scope.names.lookup x=some .local):=by
 unfold CC.loc at h
 unfold L2.Loc
 rw[G.sc]
 split at h
 ·rename_i e;exact⟨.inl e,.inr e⟩
 ·rename_i e;exact⟨.inr e,.inl (G.fn x h)⟩
 ·cases h
variable {K:Γd}{c:Cn}{md:Md}{L:a0c}{σ:L2.St}{S H:Hp}
theorem Iv.rd (I:Iv K c md L σ S H){i:Nat}{v:FV}(e:lk L i=some v):∃ x,σ[i]?=some (some x)/\RH K S H v x:=by
 rw[a2f] at e
 by_cases m:a0j md i=.imm
 ·obtain⟨x,h1,h2⟩:=I.imm i v m e
  exact⟨x,h1,.inl h2⟩
 ·obtain⟨a,h1,h2,_⟩:=I.own i v m e
  exact⟨_,h1,.inr ⟨a,rfl,h2⟩⟩
theorem b2l {Q:VK}{z:FV}(I:Iv K c md L σ S H)(k:∀ x S' H',RV K S' z x->Iv K c md L σ S' H'->Same S S'->Q x H'):NewOr K S H Q z where
 old:=λx _ r=>k x S H r I (Same.refl S)
 tup:=λps xs p e r hp=>k _ _ _ (by rw[e];exact⟨p,xs,rfl,a0e,r.mono (a0r (I.sn hp))⟩) (I.new hp _) (a0r (I.sn hp))
 lst:=λps xs p e r hp=>k _ _ _ (by rw[e];exact⟨p,xs,rfl,a0e,r.mono (a0r (I.sn hp))⟩) (I.new hp _) (a0r (I.sn hp))
theorem Iv.fresh (I:Iv K c md L σ S H){p:Addr}(h:H p=none):a7k c md L σ p:=by
 refine⟨I.h0 h,λq hq z=>?_,λj w m e z=>?_⟩
 ·rw[<- z,(I.prs q hq).1] at h;cases h
 ·obtain⟨a,e1,⟨_,_,_,_,e2,_⟩,_⟩:=I.own j w m e
  rw[z] at e1;cases e1
  rw[h] at e2;cases e2
theorem c7g {Q:VK}{z:FV}(I:Iv K c md L σ S H)(hz:∃ ps,z=.lst ps)(k:∀ a S' H',a4f K S' H' a z->a7k c md L σ a->Iv K c md L σ S' H'->Same S S'->Q (.ref a) H'):NewOr K S H Q z where
 old:=λx n _=>let ⟨ps,e⟩:=hz;absurd e (n ps)
 tup:=λps xs p e r hp=>by obtain⟨qs,e2⟩:=hz;rw[e2] at e;cases e
 lst:=λps xs p e r hp=>by subst e;exact k p S _ ⟨I.sn hp,ps,xs,rfl,a0e,r⟩ (I.fresh hp) (I.lay hp _) (Same.refl S)
theorem fe_var (G:Good X C n sp){i:Nat}{x:Str}{pos:Pos}(h:C.nm i x=true)(m:a0j C.md i=.imm):FE X C (.Name x pos) (a0b i):=by
 have h:=b2 h;have h1:=b2 h.1;have h2:=b2 h1.1
 refine PE.imp (b7n (by show X.N[i]?=_;rw[G.N];exact de h2.1) (G.vis h2.2) (nb h1.2) (nb h.2)) λσ H Q ⟨c,L,S,Q0,I,h,k⟩=>?_
 obtain⟨v,e,q⟩:=wpx h
 obtain⟨x,e1,r⟩:=I.imm i v m ((a2f _ _ _).mp e)
 exact⟨x,e1,k v L q x S H r I (Same.refl S)⟩
theorem fr_var (G:Good X C n sp){i:Nat}{x:Str}{pos:Pos}(h:C.nm i x=true):FR X C (.Name x pos) (a0b i):=by
 have h:=b2 h;have h1:=b2 h.1;have h2:=b2 h1.1
 refine PE.imp (b7n (by show X.N[i]?=_;rw[G.N];exact de h2.1) (G.vis h2.2) (nb h1.2) (nb h.2)) λσ H Q ⟨c,L,S,Q0,I,h,k⟩=>?_
 obtain⟨v,e,q⟩:=wpx h
 obtain⟨x,e1,r⟩:=I.rd e
 exact⟨x,e1,k v L q x S H r I (Same.refl S)⟩
theorem fr_of {x:Expr}{e:EW}(h:FE X C x e):FR X C x e:=PE.imp h λσ H Q ⟨c,L,S,Q0,I,h,k⟩=>⟨c,L,S,Q0,I,h,λv L' q x S' H' r=>k v L' q x S' H' (.inl r)⟩
theorem d5z {x:Expr}{v:FV}{u:V}(h:PE X.nox x (tC u))(r:∀ S,RV X.K S v u):FE X C x (eC v):=PE.imp h λσ H Q ⟨c,L,S,Q0,I,h,k⟩=>k v L h u S H (r S) I (Same.refl S)
theorem fe_int {i j pos}:FE X C (.Constant (.int i) j pos) (eC (.int i)):=d5z d1p λ_=>rfl
theorem fe_bl {i j pos}:FE X C (.Constant (.bool i) j pos) (eC (.bl i)):=d5z d8y λ_=>rfl
theorem fe_non {j pos}:FE X C (.Constant .none j pos) (eC .non):=d5z d1n λ_=>rfl
theorem fe_str {i:String} {j pos}:FE X C (.Constant (.str (Γe i)) j pos) (eC (.str i)):=d5z d1i λ_=>rfl
section
variable {f:FV->FV->Option FV}{a b:Expr}{ea eb:EW}{pos:Pos}{i:Nat}{x:Str}
theorem a1w (G:Good X C n sp)(h:C.nm i x=true):PE X.nox (.Name x pos) (c9x i):=by
 have h:=b2 h;have h1:=b2 h.1;have h2:=b2 h1.1
 exact b7n (by show X.N[i]?=_;rw[G.N];exact de h2.1) (G.vis h2.2) (nb h1.2) (nb h.2)
theorem go2 {r:R2}{σ:L2.St}{H:Hp}{Q:VK}(hh:∃ (c:Cn)(L:a0c)(S:Hp)(Q0:FV->FV->a0c->Prop),Iv K c md L σ S H/\ea L (λx L1=>eb L1 λy L2=>Q0 x y L2)/\∀ v w L' S' H' x y,Q0 v w L'->RV K S' v x->RH K S' H' w y->Iv K c md L' σ S' H'->Same S S'->r x y H' Q):tOp r (lv K md ea) (lr K md eb) σ H Q:=by
 obtain⟨c,L,S,Q0,I,h,k⟩:=hh
 exact⟨c,L,S,_,I,h,λv L1 hv x S1 H1 r1 I1 s1=>⟨c,L1,S1,_,I1,hv,λw L2 hw y S2 H2 r2 I2 s2=>k v w L2 S2 H2 x y hw (r1.mono s2) r2 I2 (s1.trans s2)⟩⟩
theorem go2N {r:R2}{σ:L2.St}{H:Hp}{Q:VK}(hh:∃ (c:Cn)(L:a0c)(S:Hp)(Q0:FV->FV->a0c->Prop),Iv K c md L σ S H/\(wp (lk L i) λ_=>eb L λy L1=>wp (lk L1 i) λx=>Q0 x y L1)/\∀ v w L' S' H' x y,Q0 v w L'->RH K S' H' v x->RH K S' H' w y->Iv K c md L' σ S' H'->Same S S'->r x y H' Q):tOp r (c9x i) (lr K md eb) σ H Q:=by
 obtain⟨c,L,S,Q0,I,h,k⟩:=hh
 obtain⟨_,e,h⟩:=wpx h
 obtain⟨x,e1,_⟩:=I.rd e
 refine⟨x,e1,c,L,S,_,I,h,λw L2 hw y S2 H2 r2 I2 s2=>?_⟩
 obtain⟨v,e2,q⟩:=wpx hw
 obtain⟨x',e3,r1⟩:=I2.rd e2
 rw[e1] at e3;cases e3
 exact k v w L2 S2 H2 x y q r1 r2 I2 s2
theorem rq_v {Q0:FV->a0c->Prop}{Q:VK}{v w:FV}{x y:V}(I:Iv K c md L σ S H)(rv:RH K S H v x)(rw':RH K S H w y)(h:wp (f v w) λz=>Q0 z L)(k:∀ z,Q0 z L->∀ x S' H',RV K S' z x->Iv K c md L σ S' H'->Same S S'->Q x H'):Rq K f x y H Q:=by
 obtain⟨z,e,q⟩:=wpx h
 exact⟨S,v,w,z,I.sub,rv,rw',e,b2l I (k z q)⟩
theorem op_v (h:PE X.nox a (tOp (Rq X.K f) (lv X.K C.md ea) (lr X.K C.md eb))):FE X C a (eOp f ea eb):=PE.imp h λσ H Q ⟨c,L,S,Q0,I,h,k⟩ =>
 go2 ⟨c,L,S,λx y L2=>wp (f x y) λz=>Q0 z L2,I,h,λv w L' S' H' x y q r1 r2 I' s'=>rq_v I' (.inl r1) r2 q λz qz x S2 H2 r I2 s2=>k z L' qz x S2 H2 r I2 (s'.trans s2)⟩
variable {op:Operator}
theorem b5o (ho:OpR X.nox (binaryOp op) (Rq X.K f))(ha:FE X C a ea)(hb:FR X C b eb):FE X C (.BinOp a op b pos) (eOp f ea eb):=op_v (d1k ho ha hb)
theorem fe_add (ha:FE X C a ea)(hb:FR X C b eb):FE X C (.BinOp a .Add b pos) (eOp a6f ea eb):=b5o d0w ha hb
theorem fe_sub (ha:FE X C a ea)(hb:FR X C b eb):FE X C (.BinOp a .Sub b pos) (eOp c9g ea eb):=b5o d8j ha hb
theorem fe_mul (ha:FE X C a ea)(hb:FR X C b eb):FE X C (.BinOp a .Mult b pos) (eOp c1b ea eb):=b5o d8m ha hb
theorem e1c (ha:FE X C a ea)(hb:FR X C b eb):FE X C (.BinOp a .FloorDiv b pos) (eOp b9h ea eb):=b5o d0s ha hb
theorem fe_mod (ha:FE X C a ea)(hb:FR X C b eb):FE X C (.BinOp a .Mod b pos) (eOp b8b ea eb):=b5o d8n ha hb
theorem fe_pow (ha:FE X C a ea)(hb:FR X C b eb):FE X C (.BinOp a .Pow b pos) (eOp d1f ea eb):=b5o d8l ha hb
def a5b (f:FV->FV->Option FV)(v w:FV):Option FV:=(f v w).bind λz=>(a7b z).map λxs=>.lst xs
theorem d3i (ho:OpR X.nox (binaryOp op) (Rq X.K f))(G:Good X C n sp){p:Pos}(h:C.nm i x=true)(hb:FR X C b eb):FF X C (.BinOp (.Name x p) op b pos) (a7j (a5b f) i eb):=PE.imp (d1k ho (a1w G h) hb) λσ H Q ⟨c,L,S,Q0,I,h,k⟩ =>
 go2N ⟨c,L,S,λx y L2=>wp (a5b f x y) λz=>Q0 z L2,I,h,λv w L' S' H' x y q r1 r2 I' s'=>by
  obtain⟨z,e,q⟩:=wpx q
  obtain⟨z',e1,e2⟩:=bnd e
  obtain⟨xs,e3,rfl⟩:=mpd e2
  cases a4g e3
  exact⟨S',v,w,_,I'.sub,r1,r2,e1,c7g I' ⟨xs,rfl⟩ λa S2 H2 o fr I2 s2=>k _ L' q a S2 H2 o fr I2 (s'.trans s2)⟩⟩
theorem e0t (G:Good X C n sp){p:Pos}(h:C.nm i x=true)(hb:FR X C b eb):FF X C (.BinOp (.Name x p) .Add b pos) (a7j (a5b a6f) i eb):=d3i d0w G h hb
variable {cop:CmpOp}
theorem b4o (ho:OpR X.nox (compareOp cop) (Rq X.K f))(ha:FE X C a ea)(hb:FR X C b eb)(hm:behindInMarks cop b=false):FE X C (.Compare a [cop] [b] pos) (eOp f ea eb):=op_v (c6u ho ha hb hm)
def a5r (f:FV->FV->Option FV):Prop:=∀ v w z,f v w=some z->∃ b,z=.bl b
theorem c9t {Q0:Bool->a0c->Prop}{Q:Bool->Hp->Prop}{v w:FV}{x y:V}(tb:a5r f)(I:Iv K c md L σ S H)(rv:RH K S H v x)(rw':RH K S H w y)(h:wp (f v w) λz=>wp (b6b z) λb=>Q0 b L)(k:∀ z,Q0 z L->Q z H):Rq K f x y H (λx H'=>∃ k,x=.bl k/\Q k H'):=by
 obtain⟨z,e,q⟩:=wpx h
 obtain⟨b,rfl⟩:=tb v w z e
 exact⟨S,v,w,_,I.sub,rv,rw',e,⟨λx _ r=>⟨b,r,k b q⟩,λ_ _ _ e=>(nomatch e),λ_ _ _ e=>(nomatch e)⟩⟩
theorem a8a (tb:a5r f)(ho:OpR X.nox (compareOp cop) (Rq X.K f))(ha:FE X C a ea)(hb:FR X C b eb)(hm:behindInMarks cop b=false):FB X C (.Compare a [cop] [b] pos) (a0y (eOp f ea eb)):=PT.imp (c6j ho ha hb hm) λσ H Q ⟨c,L,S,Q0,I,h,k⟩ =>
 go2 ⟨c,L,S,λx y L2=>wp (f x y) λz=>wp (b6b z) λb=>Q0 b L2,I,h,λv w L' S' H' x y q r1 r2 I' s'=>c9t tb I' (.inl r1) r2 q λz qz=>k z L' qz S' H' I' s'⟩
end
end
def a0k:Expr->Bool|.Starred ..=>true|_=>false
def a2w:Expr->Bool|.Slice ..=>true|_=>false
def c4p:Expr->Bool
 | .UnaryOp .Not _ _=>false
 | .BoolOp ..=>false
 | .IfExp ..=>false
 | .Compare ..=>false
 | _=>true
section
variable {X:Cx}{C:CC}{n:Nat}{sp:Γd->Nat->Sp}{a b d x y z:Expr}{ea eb ec:EW}{pos:Pos}
theorem a0f {xs:List Expr}{env:Env}(h:a0k x=false):starEach (x :: xs) env=(false,eval x env) :: starEach xs env:=by
 cases x<;>first|rfl|(cases h;done)
theorem a5w (h:a2w y=false):c0x y:=by
 intro o i
 cases y<;>first|rfl|(cases h;done)
theorem b0a {env:Env}(h:c4p x=true):∀ whole,isTrue x env whole=(do let v <- whole;standAt x.pos;holding [v] (PySem.truthy v)):=by
 intro whole
 cases x<;>first|rfl|(cases h;done)|(rename_i op x pos;cases op<;>first|rfl|(cases h;done))
theorem fe_eq (G:Good X C n sp)(ha:FE X C a ea)(hb:FR X C b eb):FE X C (.Compare a [.Eq] [b] pos) (eOp eqB ea eb):=b4o (q_eq G.room.units) ha hb (a2s _ (by decide) (by decide))
theorem fe_ge (ha:FE X C a ea)(hb:FR X C b eb):FE X C (.Compare a [.GtE] [b] pos) (eOp geB ea eb):=b4o q_ge ha hb (a2s _ (by decide) (by decide))
theorem c4g {f:FV->FV->Option Bool}{g:Bool->FV}(h:∀ b,∃ c,g b=.bl c):a5r λv w=>(f v w).map g:=λv w z e=>by
 obtain⟨b,_,rfl⟩:=mpd e
 exact h b
theorem b6r {f:Int->Int->Bool}:a5r (a3c λi j=>some (.bl (f i j))):=λv w z e=>by
 obtain⟨i,_,e⟩:=bnd e
 obtain⟨j,_,e⟩:=bnd e
 cases e;exact⟨_,rfl⟩
theorem fb_eq (G:Good X C n sp)(ha:FE X C a ea)(hb:FR X C b eb):FB X C (.Compare a [.Eq] [b] pos) (a0y (eOp eqB ea eb)):=a8a (c4g λb=>⟨b,rfl⟩) (q_eq G.room.units) ha hb (a2s _ (by decide) (by decide))
theorem fb_ne (G:Good X C n sp)(ha:FE X C a ea)(hb:FR X C b eb):FB X C (.Compare a [.NotEq] [b] pos) (a0y (eOp neB ea eb)):=a8a (c4g λb=>⟨!b,rfl⟩) (q_ne G.room.units) ha hb (a2s _ (by decide) (by decide))
theorem fb_gt (ha:FE X C a ea)(hb:FR X C b eb):FB X C (.Compare a [.Gt] [b] pos) (a0y (eOp gtB ea eb)):=a8a b6r q_gt ha hb (a2s _ (by decide) (by decide))
variable {i:Nat}{nx:Str}{p:Pos}
section
variable {cop cop':CmpOp}{f g:FV->FV->Option FV}
theorem c3z (tf:a5r f){σ:L2.St}{S H:Hp}{Q:VK}{c:Cn}{L:a0c}{Q1:FV->a0c->Prop}(I:Iv X.K c C.md L σ S H)(h:a8b f g ea eb ec L Q1)
  (kf:∀ L' S' H',Q1 (.bl false) L'->Iv X.K c C.md L' σ S' H'->Same S S'->Q (.bl false) H')(kg:∀ w z L' S' H' y u,(wp (g w z) λq=>Q1 q L')->RV X.K S' w y->RH X.K S' H' z u->Iv X.K c C.md L' σ S' H'->Same S S'->Rq X.K g y u H' Q) :
  c4i (Rq X.K f) (Rq X.K g) (lv X.K C.md ea) (lv X.K C.md eb) (lr X.K C.md ec) σ H Q:=by
 refine⟨c,L,S,_,I,h,λv L1 hv x S1 H1 r1 I1 s1=>⟨c,L1,S1,_,I1,hv,λw L2 hw y S2 H2 r2 I2 s2=>?_⟩⟩
 obtain⟨r,e,q⟩:=wpx hw
 obtain⟨b,rfl⟩:=tf v w r e
 refine⟨S2,v,w,_,I2.sub,.inl (r1.mono s2),.inl r2,e,⟨λu _ ru=>⟨b,ru,?_⟩,λ_ _ _ e=>(nomatch e),λ_ _ _ e=>(nomatch e)⟩⟩
 have q:if b=true then ec L2 λz L3=>wp (g w z) λq=>Q1 q L3 else Q1 (.bl false) L2:=q
 cases b with
 | false=>rw[if_neg Γk] at q ⊢;exact kf L2 S2 H2 q I2 (s1.trans s2)
 | true =>
  rw[if_pos rfl] at q ⊢
  exact⟨c,L2,S2,_,I2,q,λz L3 hz u S3 H3 r3 I3 s3=>kg w z L3 S3 H3 y u hz (r2.mono s3) r3 I3 (s1.trans (s2.trans s3))⟩
theorem c3k (tf:a5r f)(ho:OpR X.nox (compareOp cop) (Rq X.K f))(ho':OpR X.nox (compareOp cop') (Rq X.K g))(ha:FE X C a ea)(hb:FE X C b eb)(hc:FR X C d ec)(hm:lastMarks [cop,cop'] [b,d]=false):FE X C (.Compare a [cop,cop'] [b,d] pos) (a8b f g ea eb ec) :=
 PE.imp (c2f ho ho' ha hb hc hm) λσ H Q ⟨c,L,S,Q0,I,h,k⟩=>c3z tf I h (λL' S' H' q I' s'=>k _ L' q _ S' H' rfl I' s') λw z L' S' H' y u q r1 r2 I' s'=>rq_v I' (.inl r1) r2 q λt qt x S4 H4 rt I4 s4=>k t L' qt x S4 H4 rt I4 (s'.trans s4)
end
end
section
variable {X:Cx}{C:CC}{n:Nat}{sp:Γd->Nat->Sp}{a b d x y z:Expr}{ea eb ec:EW}{ba bb:BW}{pos p:Pos}
variable {K:Γd}{c:Cn}{md:Md}{L:a0c}{σ:L2.St}{S H:Hp}
theorem b3y {v:FV}{x:V}(r1:RH K S H v x):a1k v=some (.bl (decide (x=V.non)))/\a1d v=some (.bl (!decide (x=V.non))):=by
 rcases r1 with r1|⟨a,rfl,_,ps,xs,e9,_⟩
 ·cases v<;>first|(cases (show x=_ from r1);simp[a1k,a1d];done)|(obtain⟨a,_,rfl,_⟩:=r1;simp[a1k,a1d];done)|(obtain⟨a,rfl,_⟩:=r1;simp[a1k,a1d];done)
 ·cases v<;>first|(cases e9;done)|simp[a1k,a1d]
theorem e3e {t:Bool}{v:FV}{x:V}(r1:RH K S H v x):b8s t v=some (.bl (decide (x=V.bl t)))/\a5k t v=some (.bl (!decide (x=V.bl t))):=by
 rcases r1 with r1|⟨a,rfl,_,ps,xs,e9,_⟩
 ·cases v<;>first|(cases (show x=_ from r1);simp[b8s,a5k];done)|(cases (show x=_ from r1);rename_i u;cases t<;>cases u<;>exact⟨rfl,rfl⟩)|(obtain⟨a,_,rfl,_⟩:=r1;simp[b8s,a5k];done)|(obtain⟨a,rfl,_⟩:=r1;simp[b8s,a5k];done)
 ·cases v<;>first|(cases e9;done)|simp[b8s,a5k]
theorem fe_isN {j pos'}(ha:FR X C a ea):FE X C (.Compare a [.Is] [.Constant .none j pos'] pos) (eUn a1k ea):=PE.imp (c4t (c4u ha)) λσ H Q ⟨c,L,S,Q0,I,h,k⟩ =>
 ⟨c,L,S,_,I,h,λv L1 hv x S1 H1 r1 I1 s1=>by
  obtain⟨z,e3,q⟩:=wpx hv
  rw[(b3y r1).1] at e3;cases e3
  exact k _ L1 q _ S1 H1 rfl I1 s1⟩
theorem fb_isN {j pos'}(ha:FR X C a ea):FB X C (.Compare a [.Is] [.Constant .none j pos'] pos) (a0y (eUn a1k ea)):=PT.imp (b7g (c4u ha)) λσ H Q ⟨c,L,S,Q0,I,h,k⟩ =>
 ⟨c,L,S,_,I,h,λv L1 hv x S1 H1 r1 I1 s1=>by
  obtain⟨z,e3,q⟩:=wpx hv
  rw[(b3y r1).1] at e3;cases e3
  exact⟨_,rfl,k _ L1 q S1 H1 I1 s1⟩⟩
theorem e0w {j pos'}(ha:FR X C a ea):FE X C (.Compare a [.IsNot] [.Constant .none j pos'] pos) (eUn a1d ea):=PE.imp (c4t (b7q ha)) λσ H Q ⟨c,L,S,Q0,I,h,k⟩ =>
 ⟨c,L,S,_,I,h,λv L1 hv x S1 H1 r1 I1 s1=>by
  obtain⟨z,e3,q⟩:=wpx hv
  rw[(b3y r1).2] at e3;cases e3
  exact k _ L1 q _ S1 H1 rfl I1 s1⟩
theorem e2c {j pos'}(ha:FR X C a ea):FB X C (.Compare a [.IsNot] [.Constant .none j pos'] pos) (a0y (eUn a1d ea)):=PT.imp (b7g (b7q ha)) λσ H Q ⟨c,L,S,Q0,I,h,k⟩ =>
 ⟨c,L,S,_,I,h,λv L1 hv x S1 H1 r1 I1 s1=>by
  obtain⟨z,e3,q⟩:=wpx hv
  rw[(b3y r1).2] at e3;cases e3
  exact⟨_,rfl,k _ L1 q S1 H1 I1 s1⟩⟩
theorem e2d {t:Bool} {j pos'}(ha:FR X C a ea):FB X C (.Compare a [.IsNot] [.Constant (.bool t) j pos'] pos) (a0y (eUn (a5k t) ea)):=PT.imp (b7g (c6x ha)) λσ H Q ⟨c,L,S,Q0,I,h,k⟩ =>
 ⟨c,L,S,_,I,h,λv L1 hv x S1 H1 r1 I1 s1=>by
  obtain⟨z,e3,q⟩:=wpx hv
  rw[(e3e r1).2] at e3;cases e3
  exact⟨_,rfl,k _ L1 q S1 H1 I1 s1⟩⟩
theorem fe_not (ha:FE X C a ea):FE X C (.UnaryOp .Not a pos) (eUn d2e ea):=PE.imp (d1m ha) λσ H Q ⟨c,L,S,Q0,I,h,k⟩ =>
 ⟨c,L,S,_,I,h,λv L1 hv x S1 H1 r1 I1 s1=>by
  obtain⟨z,e,q⟩:=wpx hv
  obtain⟨b,e1,rfl⟩:=mpd e
  cases d4l e1
  exact⟨b,r1,k _ L1 q _ S1 H1 rfl I1 s1⟩⟩
theorem fe_neg (ha:FE X C a ea):FE X C (.UnaryOp .USub a pos) (eUn d5h ea):=PE.imp (d8w c9q ha) λσ H Q ⟨c,L,S,Q0,I,h,k⟩ =>
 ⟨c,L,S,_,I,h,λv L1 hv x S1 H1 r1 I1 s1=>by
  obtain⟨z,e,q⟩:=wpx hv
  obtain⟨b,e1,rfl⟩:=mpd e
  cases a1o e1
  exact⟨b,r1,k _ L1 q _ S1 H1 rfl I1 s1⟩⟩
theorem b2c {v:FV}{u:V}{t:Bool}(s:Same S H)(r:RH K S H v u)(e:b6b v=some t):d4v K u H t:=by
 have em:∀ {ps:List FV}{xs:List V},RVs K S ps xs->(!ps.isEmpty) = !xs.isEmpty:=λ{ps xs} h=>by cases ps<;>cases xs<;>first|rfl|(have:=h.length;simp at this)
 cases v with
 | non=>cases (show u=V.non from r.val rfl);cases e;exact rfl
 | bl c=>cases r.bl;cases e;exact rfl
 | int c=>cases r.int;cases e;exact rfl
 | str c=>cases e
 | shn c=>cases e
 | dct _ _=>cases e
 | dci _ _=>cases e
 | dcz _ _ _=>cases e
 | obj _ _ _ _=>cases e
 | dcn _ _ _=>cases e
 | tup ps =>
  obtain⟨a,xs,rfl,h1,h2⟩:=r.tup s
  cases e
  exact .inr (.inl ⟨xs,SqT.of h1,em h2⟩)
 | lst l =>
  obtain⟨a,xs,rfl,h1,h2⟩:=r.lst s
  cases e
  exact .inl ⟨xs,SqL.of h1,em h2⟩
 | scr ns =>
  cases e
  obtain⟨a,xs,rfl,h1,h2⟩:=r.list s (show a1z (.scr ns)=_ from rfl)
  refine .inl ⟨_,h1,?_⟩
  rw[<- em h2];cases ns<;>rfl
theorem c6w {rest:List Expr}{ta tb:TE}(ha:PE X a ta)(hb:PE X (.BoolOp .And (b :: rest) pos) tb) :
  PE X (.BoolOp .And (a :: b :: rest) pos) (λσ H Q=>ta σ H λx H1=>∃ c,d4v X.K x H1 c/\(if c=true then tb σ H1 Q else Q x H1)):=by
 intro pins s σ H Q I h
 refine BoolOp_and (thn (ha pins s σ H _ I h) λv s1 ⟨x,H1,I1,r1,c,tv,q1⟩=>?_)
 refine thn (b6p pins s1 σ H1 x v (λc' H'=>c'=c/\H'=H1) I1 r1 ⟨c,tv,rfl,rfl⟩) λb s2 ⟨H2,I2,e1,e2⟩=>?_
 subst e1 e2
 cases b with
 | true=>exact hb pins s2 σ H2 Q I2 (by simpa using q1)
 | false=>exact⟨x,H2,I2,r1,by simpa using q1⟩
theorem d1j {rest:List Expr}{ta tb:TE}(ha:PE X a ta)(hb:PE X (.BoolOp .Or (b :: rest) pos) tb) :
  PE X (.BoolOp .Or (a :: b :: rest) pos) (λσ H Q=>ta σ H λx H1=>∃ c,d4v X.K x H1 c/\(if c=true then Q x H1 else tb σ H1 Q)):=by
 intro pins s σ H Q I h
 refine BoolOp_or (thn (ha pins s σ H _ I h) λv s1 ⟨x,H1,I1,r1,c,tv,q1⟩=>?_)
 refine thn (b6p pins s1 σ H1 x v (λc' H'=>c'=c/\H'=H1) I1 r1 ⟨c,tv,rfl,rfl⟩) λb s2 ⟨H2,I2,e1,e2⟩=>?_
 subst e1 e2
 cases b with
 | false=>exact hb pins s2 σ H2 Q I2 (by simpa using q1)
 | true=>exact⟨x,H2,I2,r1,by simpa using q1⟩
theorem fe_one {op:BoolOp}(ha:FE X C a ea):FE X C (.BoolOp op [a] pos) ea:=d1l ha
theorem fe_and {rest:List Expr}(ha:FE X C a ea)(hb:FE X C (.BoolOp .And (b :: rest) pos) eb):FE X C (.BoolOp .And (a :: b :: rest) pos) (b1c ea eb):=PE.imp (c6w ha hb) λσ H Q ⟨c,L,S,Q0,I,h,k⟩ =>
 ⟨c,L,S,_,I,h,λv L1 hv x S1 H1 r1 I1 s1=>by
  obtain⟨t,e,q⟩:=wpx hv
  refine⟨t,b2c I1.sub (.inl r1) e,?_⟩
  cases t with
  | true=>exact⟨c,L1,S1,Q0,I1,q,λv L' q x S' H' r I' s'=>k v L' q x S' H' r I' (s1.trans s')⟩
  | false=>exact k v L1 q x S1 H1 r1 I1 s1⟩
theorem fe_or {rest:List Expr}(ha:FE X C a ea)(hb:FE X C (.BoolOp .Or (b :: rest) pos) eb):FE X C (.BoolOp .Or (a :: b :: rest) pos) (eOr ea eb):=PE.imp (d1j ha hb) λσ H Q ⟨c,L,S,Q0,I,h,k⟩ =>
 ⟨c,L,S,_,I,h,λv L1 hv x S1 H1 r1 I1 s1=>by
  obtain⟨t,e,q⟩:=wpx hv
  refine⟨t,b2c I1.sub (.inl r1) e,?_⟩
  cases t with
  | false=>exact⟨c,L1,S1,Q0,I1,q,λv L' q x S' H' r I' s'=>k v L' q x S' H' r I' (s1.trans s')⟩
  | true=>exact k v L1 q x S1 H1 r1 I1 s1⟩
theorem fe_if (hc:FB X C d ba)(ha:FE X C a ea)(hb:FE X C b eb):FE X C (.IfExp d a b pos) (eIf ba ea eb):=PE.imp (c2c hc ha hb) λσ H Q ⟨c,L,S,Q0,I,h,k⟩ =>
 ⟨c,L,S,_,I,h,λt L1 hv S1 H1 I1 s1=>by
  cases t with
  | true=>exact⟨c,L1,S1,Q0,I1,hv,λv L' q x S' H' r I' s'=>k v L' q x S' H' r I' (s1.trans s')⟩
  | false=>exact⟨c,L1,S1,Q0,I1,hv,λv L' q x S' H' r I' s'=>k v L' q x S' H' r I' (s1.trans s')⟩⟩
theorem fb_val (hp:c4p a=true)(ha:FR X C a ea):FB X C a (a0y ea):=PT.imp (c1v ha (b0a hp)) λσ H Q ⟨c,L,S,Q0,I,h,k⟩ =>
 ⟨c,L,S,_,I,h,λv L1 hv x S1 H1 r1 I1 s1=>by
  obtain⟨t,e,q⟩:=wpx hv
  exact⟨t,b2c I1.sub r1 e,k t L1 q S1 H1 I1 s1⟩⟩
theorem fb_not (ha:FB X C a ba):FB X C (.UnaryOp .Not a pos) (a5p ba):=PT.imp (d1a ha) λσ H Q ⟨c,L,S,Q0,I,h,k⟩=>⟨c,L,S,_,I,h,λt L1 hv S1 H1 I1 s1=>k _ L1 hv S1 H1 I1 s1⟩
theorem d9z (ha:FB X C a ba):FW X C (.BoolOp .And [a] pos) ba:=c6g ha
theorem fw_or1 (ha:FB X C a ba):FW X C (.BoolOp .Or [a] pos) ba:=d0x ha
theorem fw_and {rest:List Expr}(ha:FB X C a ba)(hb:FW X C (.BoolOp .And (b :: rest) pos) bb):FW X C (.BoolOp .And (a :: b :: rest) pos) (b6c ba bb):=PW.imp (d0y ha hb) λσ H Q ⟨c,L,S,Q0,I,h,k⟩ =>
 ⟨c,L,S,_,I,h,λt L1 hv S1 H1 I1 s1=>by
  cases t with
  | true=>exact⟨c,L1,S1,Q0,I1,hv,λv L' q S' H' I' s'=>k v L' q S' H' I' (s1.trans s')⟩
  | false=>exact k _ L1 hv S1 H1 I1 s1⟩
theorem fw_or {rest:List Expr}(ha:FB X C a ba)(hb:FW X C (.BoolOp .Or (b :: rest) pos) bb):FW X C (.BoolOp .Or (a :: b :: rest) pos) (bOr ba bb):=PW.imp (d8q ha hb) λσ H Q ⟨c,L,S,Q0,I,h,k⟩ =>
 ⟨c,L,S,_,I,h,λt L1 hv S1 H1 I1 s1=>by
  cases t with
  | false=>exact⟨c,L1,S1,Q0,I1,hv,λv L' q S' H' I' s'=>k v L' q S' H' I' (s1.trans s')⟩
  | true=>exact k _ L1 hv S1 H1 I1 s1⟩
theorem fb_w (h:FW X C a ba):FB X C a ba:=PW.pt h
theorem fa_nil:FA X C [] a0h:=PA.imp a2n λσ H Q ⟨c,L,S,Q0,I,h,k⟩=>k [] L h [] S H rfl I (Same.refl S)
theorem e2f {xs:List Expr}{as:AW}(hs:a0k a=false)(ha:FE X C a ea)(hr:FA X C xs as):FA X C (a :: xs) (a0a ea as):=PA.imp (a0n ha hr (a0f hs)) λσ H Q ⟨c,L,S,Q0,I,h,k⟩ =>
 ⟨c,L,S,_,I,h,λv L1 hv x S1 H1 r1 I1 s1=>⟨c,L1,S1,_,I1,hv,λvs L2 hvs us S2 H2 r2 I2 s2=>k _ L2 hvs _ S2 H2 ⟨x,us,rfl,r1.mono s2,r2⟩ I2 (s1.trans s2)⟩⟩
theorem fe_tup {xs:List Expr}{as:AW}{m:Nat}(h:FA X C xs as):FE X C (.Tuple xs m pos) (a3r as):=PE.imp (c4r h) λσ H Q ⟨c,L,S,Q0,I,h,k⟩ =>
 ⟨c,L,S,_,I,h,λvs L1 hv us S1 H1 r1 I1 s1=>⟨by have:=a1n;rw[<- r1.length];exact Nat.le_trans hv.1 this,λp hp=>(b2l I1 λx S' H' r I' s'=>k _ L1 hv.2 x S' H' r I' (s1.trans s')).tup _ _ p rfl r1 hp⟩⟩
theorem fe_lst {xs:List Expr}{as:AW}(h:FA X C xs as):FE X C (.List xs pos) (a5e as):=PE.imp (c4s h) λσ H Q ⟨c,L,S,Q0,I,h,k⟩ =>
 ⟨c,L,S,_,I,h,λvs L1 hv us S1 H1 r1 I1 s1=>⟨by have:=a1n;rw[<- r1.length];exact Nat.le_trans hv.1 this,λp hp=>(b2l I1 λx S' H' r I' s'=>k _ L1 hv.2 x S' H' r I' (s1.trans s')).lst _ _ p rfl r1 hp⟩⟩
theorem ff_lst {xs:List Expr}{as:AW}(h:FA X C xs as):FF X C (.List xs pos) (a5e as):=PE.imp (c4s h) λσ H Q ⟨c,L,S,Q0,I,h,k⟩ =>
 ⟨c,L,S,_,I,h,λvs L1 hv us S1 H1 r1 I1 s1=>⟨by have:=a1n;rw[<- r1.length];exact Nat.le_trans hv.1 this,λp hp=>(c7g I1 ⟨vs,rfl⟩ λa S' H' o fr I' s'=>k _ L1 hv.2 a S' H' o fr I' (s1.trans s')).lst _ _ p rfl r1 hp⟩⟩
theorem fe_ix (hs:a2w b=false)(ha:FE X C a ea)(hb:FR X C b eb):FE X C (.Subscript a b pos) (eOp ixF ea eb):=PE.imp (d1o q_ix ha hb (a5w hs)) λσ H Q ⟨c,L,S,Q0,I,h,k⟩ =>
 go2 ⟨c,L,S,λx y L2=>wp (ixF x y) λz=>Q0 z L2,I,h,λv w L' S' H' x y q r1 r2 I' s'=>by
  obtain⟨z,e,q⟩:=wpx q
  exact⟨S',v,w,z,I'.sub,.inl r1,r2,e,λu r=>k z L' q u S' H' r I' s'⟩⟩
theorem fe_ixN (G:Good X C n sp){i:Nat}{nx:Str}(hs:a2w b=false)(h:C.nm i nx=true)(hb:FR X C b eb):FE X C (.Subscript (.Name nx p) b pos) (a7j ixF i eb):=PE.imp (d1o q_ix (a1w G h) hb (a5w hs)) λσ H Q ⟨c,L,S,Q0,I,h,k⟩ =>
 go2N ⟨c,L,S,λx y L2=>wp (ixF x y) λz=>Q0 z L2,I,h,λv w L' S' H' x y q r1 r2 I' s'=>by
  obtain⟨z,e,q⟩:=wpx q
  exact⟨S',v,w,z,I'.sub,r1,r2,e,λu r=>k z L' q u S' H' r I' s'⟩⟩
theorem e0l:FO X C none b7z:=PO.imp c6q λσ H Q ⟨c,L,S,Q0,I,h,k⟩=>k none L h S H I (Same.refl S)
theorem e0k (h:FE X C a ea):FO X C (some a) (b2j ea):=PO.imp (c6p h) λσ H Q ⟨c,L,S,Q0,I,h,k⟩ =>
 ⟨c,L,S,_,I,h,λv L1 hv x S1 H1 r1 I1 s1=>by
  obtain⟨i,e,q⟩:=wpx hv
  cases a1o e
  exact⟨i,r1,k _ L1 q S1 H1 I1 s1⟩⟩
variable {xl xh:Option Expr}{wl wh:OW}{p2:Pos}
theorem fe_sl (ha:FE X C a ea)(hl:FO X C xl wl)(hh:FO X C xh wh):FE X C (.Subscript a (.Slice xl xh none p2) pos) (eSl ea wl wh):=PE.imp (b3u q_sl ha hl hh) λσ H Q ⟨c,L,S,Q0,I,h,k⟩ =>
 ⟨c,L,S,_,I,h,λv L1 hv x S1 H1 r1 I1 s1=>⟨c,L1,S1,_,I1,hv,λo1 L2 h1 S2 H2 I2 s2=>⟨c,L2,S2,_,I2,h1,λo2 L3 h2 S3 H3 I3 s3=>by
  obtain⟨z,e,q⟩:=wpx h2
  exact⟨S3,v,z,I3.sub,.inl (r1.mono (s2.trans s3)),e,b2l I3 λx S' H' r I' s'=>k z L3 q x S' H' r I' (s1.trans (s2.trans (s3.trans s')))⟩⟩⟩⟩
end
section
variable {X:Cx}{C:CC}{n:Nat}{sp:Γd->Nat->Sp}{a b d x y z:Expr}{ea eb ec:EW}{ba bb:BW}{pos p:Pos}
variable {K:Γd}{c:Cn}{md:Md}{L:a0c}{σ:L2.St}{S H:Hp}{i:Nat}{nx:Str}
variable {xl xh:Option Expr}{wl wh:OW}{p2:Pos}
def sliceL (k:Nat)(l h:OW):EW:=λL Q=>eSlN k l h L λz L'=>isL z=true/\(∃ ps,z=.lst ps)/\Q z L'
theorem d4b {f:FV->Option FV}{Q:VK}(hh:lv K md (eUn f ea) σ H Q):tCB (Rc K f) (c1e (lr K md ea) tNil) σ H Q:=by
 obtain⟨c,L,S,Q0,I,h,k⟩:=hh
 refine⟨c,L,S,_,I,h,λv L1 hv x S1 H1 r1 I1 s1=>?_⟩
 obtain⟨z,e,q⟩:=wpx hv
 exact⟨S1,v,x,z,rfl,I1.sub,r1,e,b2l I1 λx S' H' r I' s'=>k z L1 q x S' H' r I' (s1.trans s')⟩
theorem b0z {id nm:String}{f:FV->Option FV}(hc:a1l X.nox (.builtin id) (Rc X.K f))(G:Good X C n sp)(hb:nm∈bltNames)(hv:bootBuiltins (Γe nm)=some (.builtin id))(h1:Γe nm≠"__name__")(h2:(Γe nm == ("__debug__":Str))=false)(hg:C.gl (Γe nm)=true)(hs:a0k a=false)(ha:FR X C a ea) :
  FE X C (.Call (.Name (Γe nm) p) [a] [] pos) (eUn f ea):=PE.imp (a3x hc (G.gl hg) (G.blt nm hb) hv (a0n ha a2n (a0f hs)) h1 h2 (a0f hs) rfl) λσ H Q h=>d4b h
theorem c3l {T nm:String}{f:FV->Option FV}(hc:a1l X.nox (.type T) (Rc X.K f))(G:Good X C n sp)(hb:nm∈bltNames)(hv:bootBuiltins (Γe nm)=some (.type T))(h1:Γe nm≠"__name__")(h2:(Γe nm == ("__debug__":Str))=false)(hg:C.gl (Γe nm)=true)(hs:a0k a=false)(ha:FR X C a ea) :
  FE X C (.Call (.Name (Γe nm) p) [a] [] pos) (eUn f ea):=PE.imp (a6n hc (G.gl hg) (G.blt nm hb) hv (a0n ha a2n (a0f hs)) h1 h2 (a0f hs) rfl) λσ H Q h=>d4b h
theorem fe_len (G:Good X C n sp)(hg:C.gl (Γe "len")=true)(hs:a0k a=false)(ha:FR X C a ea):FE X C (.Call (.Name (Γe "len") p) [a] [] pos) (eUn a5y ea):=b0z e2z G (by decide) (by nofun) (by nofun) (by nofun) hg hs ha
theorem fe_abs (G:Good X C n sp)(hg:C.gl (Γe "abs")=true)(hs:a0k a=false)(ha:FR X C a ea):FE X C (.Call (.Name (Γe "abs") p) [a] [] pos) (eUn d4t ea):=b0z e3d G (by decide) (by nofun) (by nofun) (by nofun) hg hs ha
theorem fe_all (G:Good X C n sp)(hg:C.gl (Γe "all")=true)(hs:a0k a=false)(ha:FR X C a ea):FE X C (.Call (.Name (Γe "all") p) [a] [] pos) (eUn c0t ea):=b0z (e3c G.calm) G (by decide) (by nofun) (by nofun) (by nofun) hg hs ha
theorem fe_any (G:Good X C n sp)(hg:C.gl (Γe "any")=true)(hs:a0k a=false)(ha:FR X C a ea):FE X C (.Call (.Name (Γe "any") p) [a] [] pos) (eUn d4r ea):=b0z (e3b G.calm) G (by decide) (by nofun) (by nofun) (by nofun) hg hs ha
theorem e0x (G:Good X C n sp)(hg:C.gl (Γe "min")=true)(hs:a0k a=false)(ha:FR X C a ea):FE X C (.Call (.Name (Γe "min") p) [a] [] pos) (eUn c2k ea):=b0z (d4f G.calm) G (by decide) (by nofun) (by nofun) (by nofun) hg hs ha
theorem d5u (G:Good X C n sp)(hg:C.gl (Γe "int")=true)(hs:a0k a=false)(ha:FR X C a ea):FE X C (.Call (.Name (Γe "int") p) [a] [] pos) (eUn b3k ea):=c3l e3a G (by decide) (by nofun) (by nofun) (by nofun) hg hs ha
theorem d5s (G:Good X C n sp)(hg:C.gl (Γe "tuple")=true)(hs:a0k a=false)(ha:FR X C a ea):FE X C (.Call (.Name (Γe "tuple") p) [a] [] pos) (eUn a5i ea):=c3l c8x G (by decide) (by nofun) (by nofun) (by nofun) hg hs ha
theorem e0z (G:Good X C n sp)(hg:C.gl (Γe "list")=true)(hs:a0k a=false)(ha:FR X C a ea):FE X C (.Call (.Name (Γe "list") p) [a] [] pos) (eUn a4h ea):=c3l c5j G (by decide) (by nofun) (by nofun) (by nofun) hg hs ha
theorem d5t (G:Good X C n sp)(hg:C.gl (Γe "str")=true)(hs:a0k a=false)(ha:FR X C a ea):FE X C (.Call (.Name (Γe "str") p) [a] [] pos) (eUn c9h ea):=c3l (e2y G.room.units G.room.gd) G (by decide) (by nofun) (by nofun) (by nofun) hg hs ha
theorem e0r (G:Good X C n sp)(hg:C.gl (Γe "list")=true)(hs:a0k a=false)(ha:FR X C a ea):FF X C (.Call (.Name (Γe "list") p) [a] [] pos) (eUn a4h ea) :=
 PE.imp (a6n c5j (G.gl hg) (G.blt "list" (by decide)) (by nofun) (a0n ha a2n (a0f hs)) (by nofun) (by nofun) (a0f hs) rfl) λσ H Q ⟨c,L,S,Q0,I,h,k⟩ =>
 ⟨c,L,S,_,I,h,λv L1 hv x S1 H1 r1 I1 s1=>by
  obtain⟨z,e,q⟩:=wpx hv
  obtain⟨ps,e1,rfl⟩:=mpd e
  exact⟨S1,v,x,_,rfl,I1.sub,r1,e,c7g I1 ⟨ps,rfl⟩ λa S' H' o fr I' s'=>k _ L1 q a S' H' o fr I' (s1.trans s')⟩⟩
theorem e1h {id nm:String}{f:FV->FV->Option FV}(hc:a1l X.nox (.builtin id) (Rc2 X.K f))(G:Good X C n sp)(hb:nm∈bltNames)(hv:bootBuiltins (Γe nm)=some (.builtin id))(h1:Γe nm≠"__name__")(h2:(Γe nm == ("__debug__":Str))=false)(hg:C.gl (Γe nm)=true)(hs:a0k a=false)(hs2:a0k b=false)(ha:FE X C a ea)(hb':FR X C b eb) :
  FE X C (.Call (.Name (Γe nm) p) [a,b] [] pos) (eOp f ea eb):=PE.imp (a3x hc (G.gl hg) (G.blt nm hb) hv (a0n ha (a0n hb' a2n (a0f hs2)) (a0f hs)) h1 h2 (a0f hs) (by rw[a0f hs2];rfl)) λσ H Q ⟨c,L,S,Q0,I,h,k⟩ =>
 ⟨c,L,S,_,I,h,λv L1 hv x S1 H1 r1 I1 s1=>⟨c,L1,S1,_,I1,hv,λw L2 hw y S2 H2 r2 I2 s2=>by
  obtain⟨z,e,q⟩:=wpx hw
  exact⟨S2,v,w,x,y,z,rfl,I2.sub,.inl (r1.mono s2),r2,e,b2l I2 λx S' H' r I' s'=>k z L2 q x S' H' r I' (s1.trans (s2.trans s'))⟩⟩⟩
theorem e0y (G:Good X C n sp)(hg:C.gl (Γe "max")=true)(hs:a0k a=false)(hs2:a0k b=false)(ha:FE X C a ea)(hb':FR X C b eb):FE X C (.Call (.Name (Γe "max") p) [a,b] [] pos) (eOp c2l ea eb):=e1h (d4g G.calm) G (by decide) (by nofun) (by nofun) (by nofun) hg hs hs2 ha hb'
def a3b:Ty->String|.int=>"int" | .bool=>"bool" | .str=>"str" | .list=>"list" | .tuple=>"tuple"
theorem a8g {v:FV}{u:V}{t:Ty}{r:Bool}(s:Same S H)(rv:RH K S H v u)(e:a5c v t=some r):∃ T,TyOf K H u (.type T)/\PySem.W.kitOne K (.type T) (.type (a3b t))=some r:=by
 cases v with
 | non=>cases (show u=V.non from rv.val rfl);exact⟨_,.non,by cases e;cases t<;>rfl⟩
 | bl c=>cases rv.bl;exact⟨_,.bl _,by cases e;cases t<;>rfl⟩
 | int c=>cases rv.int;exact⟨_,.int _,by cases e;cases t<;>rfl⟩
 | str c=>cases (show u=V.str _ from rv.val rfl);exact⟨_,.str _,by cases e;cases t<;>rfl⟩
 | tup ps =>
  obtain⟨a,xs,rfl,h1,h2⟩:=rv.tup s
  exact⟨_,.tup h1,by cases e;cases t<;>rfl⟩
 | lst l =>
  obtain⟨a,xs,rfl,h1,h2⟩:=rv.lst s
  exact⟨_,.lst h1,by cases e;cases t<;>rfl⟩
 | scr ns=>cases e
 | dct _ _=>cases e
 | dci _ _=>cases e
 | dcz _ _ _=>cases e
 | obj _ _ _ _=>cases e
 | dcn _ _ _=>cases e
 | shn d=>cases (show u=V.str _ from rv.val rfl);exact⟨_,.str _,by cases e;cases t<;>rfl⟩
theorem fe_isi {t:Ty}{tn:Str}(G:Good X C n sp)(hg:C.gl (Γe "isinstance")=true)(ht:tn=Γe (a3b t))(hg2:C.gl tn=true)(hs:a0k a=false)(ha:FR X C a ea) :
  FE X C (.Call (.Name (Γe "isinstance") p) [a,.Name tn p2] [] pos) (eUn (a5u t) ea):=by
 subst ht
 have cc:a1l X.nox (.builtin "isinstance") (λxs H Q=>∃ v c b T,xs=[v,.ty c]/\TyOf X.K H v (.type T)/\PySem.W.kitOne X.K (.type T) (.type c)=some b/\Q (.bl b) H):=by
  rintro pins s σ H xs us Q I r ⟨v,c,b,T,rfl,h1,h2,q⟩
  obtain⟨u,u',rfl,ru,ru'⟩:=b6j r
  obtain rfl:u'=.type c:=ru'
  exact b8r I ru h1 h2 λtk=>⟨.bl b,H,I.tok _,rfl,q⟩
 have tt:PE X.nox (.Name (Γe (a3b t)) p2) (tC (.ty (a3b t))):=by
  cases t<;>exact b7p (G.gl hg2) (G.blt _ (by decide)) (by nofun) rfl (by nofun) (by nofun)
 refine PE.imp (a3x cc (G.gl hg) (G.blt "isinstance" (by decide)) (by nofun) (a0n ha (a0n tt a2n rfl) (a0f hs)) (by nofun) (by nofun) (a0f hs) rfl) λσ H Q ⟨c,L,S,Q0,I,h,k⟩ =>
  ⟨c,L,S,_,I,h,λv L1 hv x S1 H1 r1 I1 s1=>?_⟩
 obtain⟨z,e,q⟩:=wpx hv
 obtain⟨r,e1,rfl⟩:=mpd e
 obtain⟨T,t1,t2⟩:=a8g I1.sub r1 e1
 exact⟨x,_,_,T,rfl,t1,t2,k _ L1 q _ S1 H1 rfl I1 s1⟩
def bmOk (apos cpos:Pos):Bool:=apos.endLine == cpos.line
theorem fe_app (G:Good X C n sp){apos cpos:Pos}(h:C.nm i nx=true)(m:a0j C.md i=.own)(hl:bmOk apos cpos=true)(hs:a0k a=false)(ha:FE X C a ea):FE X C (.Call (.Attribute (.Name nx p) (Γe "append") apos) [a] [] cpos) (b5s c9o i ea):=by
 refine PE.imp (d8x PySem.F.plainAttrs_list PySem.F.slot_list_append PySem.F.type_list_append b0h (a1w G h) (a0n ha a2n (a0f hs)) rfl (by rw[a0f hs];rfl) hl (a0f hs) rfl) λσ H Q ⟨c,L,S,Q0,I,h,k⟩=>?_
 obtain⟨v,e,h⟩:=wpx h
 obtain⟨v9,e9,h⟩:=wpx h
 cases a4g e9
 have e':=(a2f _ _ _).mp e
 have mi:a0j C.md i≠.imm:=λz=>by rw[m] at z;cases z
 obtain⟨l,e1,⟨_,ps,xs,e8,h1,_⟩,_⟩:=I.own i _ mi e'
 refine⟨_,e1,.inl ⟨rfl,xs,SqL.of h1⟩,c,L,S,_,I,h,λw L1 hw y S1 H1 r1 I1 s1=>?_⟩
 obtain⟨v1,e2,hw⟩:=wpx hw
 obtain⟨z,e3,q⟩:=wpx hw
 have e2':=(a2f _ _ _).mp e2
 obtain⟨qs,e4,e5⟩:=bnd e3
 cases a4g e4
 obtain⟨hb,rfl⟩:=itd e5
 obtain⟨l',f1,⟨f2,rs,zs,f3,f4,f5⟩,_⟩:=I1.own i _ mi e2'
 rw[e1] at f1;cases f1
 cases f3
 have:=a1n
 exact⟨l,zs,y,rfl,rfl,f4,by rw[<- f5.length];lia,k _ _ q .non S1 _ rfl (I1.write m e2' e1 (f5.append (RVs.one r1))) s1⟩
end
def ArgsOk (K:Γd)(S H:Hp)(args:List FV)(vs:List V):Bool->Prop
 | false=>RVs K S args vs
 | true=>∃ v r a us,args=v :: r/\vs=.ref a :: us/\a4f K S H a v/\RVs K S r us
def c9d (K:Γd)(S' H' H:Hp)(v:FV)(x:V):Bool->Prop
 | false=>RV K S' v x
 | true=>∃ a,x=.ref a/\a4f K S' H' a v/\H a=none
def b4f (vs:List V):Bool->Option Addr
 | false=>none
 | true=>match vs with
  | .ref a :: _=>some a
  | _=>none
structure Kept (K:Γd)(S H S' H':Hp)(P:Option Addr)(w:FV):Prop where
 same:Same S S'
 sub:Same S' H'
 grow:∀ a o,S' a=some o->S a=some o ∨ H a=none ∨ a7g o=true
 keep:∀ a o,H a=some o->P≠some a->H' a=some o
 back:∀ a,P=some a->a4f K S' H' a w
def spQ (K:Γd)(call:CW)(io fr:Bool) (f:Nat):Sp:=λvs H Q E=>∃ S args Q0,Same S H/\ArgsOk K S H args vs io/\call f args Q0/\∀ z,Q0 z->∀ x S' H',Kept K S H S' H' (b4f vs io) z.2->c9d K S' H' H z.1 x fr->Q x H'
section
variable {X:Cx}{C:CC}{n:Nat}{sp:Γd->Nat->Sp}{a b d x y z:Expr}{ea eb ec:EW}{pos p:Pos}{call:CW}
variable {K:Γd}{c:Cn}{md:Md}{L:a0c}{σ:L2.St}{S H S' H':Hp}{i f:Nat}{nx:Str}{xs:List Expr}{as:AW}
def a2u (xs:List Expr):Bool:=xs.all λx=>!a0k x
theorem b3m:∀ {xs:List Expr}{env:Env},a2u xs=true->(backTo pos (starEach xs env)).any (·.1)=false
 | [],_,_=>rfl
 | x :: xs,env,h=>by
  have h:=b2 (show (!a0k x && a2u xs)=true from h)
  rw[a0f (nb h.1)]
  show (false || (backTo pos (starEach xs env)).any (·.1))=false
  rw[b3m h.2];rfl
theorem Kept.iv (I:Iv K c md L σ S H){w:FV}(k:Kept K S H S' H' none w):Iv K c md L σ S' H':=I.go3 k.same k.sub k.grow λa o e=>k.keep a o e (by simp)
theorem a6y (G:Good X C n sp){t:TA}(hf:C.fns[f]?=some nx)(hg:C.gl nx=true)(hd:(nx == ("__debug__":Str))=false)(hs:a2u (a :: xs)=true)(ha:PA X.nox (a :: xs) t):PE X.nox (.Call (.Name nx p) (a :: xs) [] pos) (λσ H Q=>t σ H λvs H1=>sp X.K f vs H1 Q E0):=by
 obtain⟨fa,fd,ps,h1,h2,h3,h4⟩:=G.fns f nx hf
 have h:=b2 (show (!a0k a && a2u xs)=true from hs)
 refine PE.imp (c6v (X:=X.nox) h4 G.room.toRoom (G.gl hg) h1 h2 h3 .nil d8z ha hd (a0f (nb h.1)) (b3m h.2)) λσ H Q q=>?_
 show t σ H λvs H1=>sp X.K f (vs++[]) H1 Q E0
 have e:(λvs H1=>sp X.K f (vs++[]) H1 Q E0)=λvs H1=>sp X.K f vs H1 Q E0:=by funext vs H1;rw[List.append_nil]
 rw[e];exact q
theorem e1g (G:Good X C n sp)(e:sp X.K f=spQ X.K call false false f)(hf:C.fns[f]?=some nx)(hg:C.gl nx=true)(hd:(nx == ("__debug__":Str))=false)(hs:a2u (a :: xs)=true)(ha:FA X C (a :: xs) as):FE X C (.Call (.Name nx p) (a :: xs) [] pos) (a0w call f as) :=
 PE.imp (a6y G hf hg hd hs ha) λσ H Q ⟨c,L,S,Q0,I,h,k⟩=>⟨c,L,S,_,I,h,λvs L1 hv us S1 H1 r1 I1 s1=>by
  rw[e]
  exact⟨S1,vs,_,I1.sub,r1,hv,λz q x S' H' kp r=>k _ L1 q x S' H' r (kp.iv I1) (s1.trans kp.same)⟩⟩
theorem e0s (G:Good X C n sp)(e:sp X.K f=spQ X.K call false true f)(hf:C.fns[f]?=some nx)(hg:C.gl nx=true)(hd:(nx == ("__debug__":Str))=false)(hs:a2u (a :: xs)=true)(ha:FA X C (a :: xs) as):FF X C (.Call (.Name nx p) (a :: xs) [] pos) (a0w call f as) :=
 PE.imp (a6y G hf hg hd hs ha) λσ H Q ⟨c,L,S,Q0,I,h,k⟩=>⟨c,L,S,_,I,h,λvs L1 hv us S1 H1 r1 I1 s1=>by
  rw[e]
  refine⟨S1,vs,_,I1.sub,r1,hv,λz q x S' H' kp r=>?_⟩
  obtain⟨a,rfl,o,hn⟩:=r
  exact k _ L1 q a S' H' o (I1.fresh hn) (kp.iv I1) (s1.trans kp.same)⟩
theorem b8a {v:FV}{q:Addr}(I:Iv K c md L σ S H)(o:a4f K S H q v)(fr:a7k c md L σ q):∃ u,H q=some u/\Iv K c md L σ (upd S q u) H/\RV K (upd S q u) v (.ref q):=by
 obtain⟨h1,ps,us,e0,h2,h3⟩:=o
 have s:=a0r (o:=c7a v us) h1
 refine⟨_,h2,⟨I.len,λi v h e=>let ⟨x,e1,r⟩:=I.imm i v h e;⟨x,e1,r.mono s⟩,λi v h e=>?_,I.dis,λa u e=>?_,I.frame,I.s0.trans s,λa u e=>?_,I.lent,I.fzs,I.fzm,I.fzp,λp hp=>let ⟨g1,g2,g3⟩:=I.prs p hp;⟨g1,by rw[a0d (fr.2.1 p hp)];exact g2,g3⟩,I.ntp,I.lnt1,I.tie⟩,?_⟩
 ·obtain⟨b,e1,⟨g1,rs,zs,g2,g3,g4⟩,g5⟩:=I.own i v h e
  have hb:b≠q:=λz=>by subst z;exact fr.2.2 i v h e e1
  exact⟨b,e1,⟨by rw[a0d hb];exact g1,rs,zs,g2,g3,g4.mono s⟩,g5⟩
 ·by_cases z:a=q
  ·subst z;rw[a0e] at e;cases e;exact h2
  ·rw[a0d z] at e;exact I.sub a u e
 ·by_cases z:a=q
  ·subst z;exact .inr (.inl fr.1)
  ·rw[a0d z] at e;exact I.grow a u e
 ·cases v with
  | lst qs=>cases e0;exact⟨q,us,rfl,a0e,h3.mono s⟩
  | dct ks vs=>obtain⟨hl,rfl⟩:=itd e0;exact⟨q,us,rfl,hl,a0e,h3.mono s⟩
  | dci ks vs=>obtain⟨hl,rfl⟩:=itd e0;exact⟨q,us,rfl,hl,a0e,h3.mono s⟩
  | dcz o ks vs=>obtain⟨hl,rfl⟩:=itd e0;exact⟨q,us,rfl,hl,a0e,h3.mono s⟩
  | obj C dx fs gs=>cases e0;exact⟨q,rfl,a0e⟩
  | dcn z ks vs=>obtain⟨hl,rfl⟩:=itd e0;exact⟨q,us,rfl,hl,a0e,h3.mono s⟩
  | _=>cases e0
theorem a2k (h:FF X C a ea):FE X C a ea:=PE.imp h λσ H Q ⟨c,L,S,Q0,I,h,k⟩=>⟨c,L,S,Q0,I,h,λv L' q a S' H' o fr I' s'=>by
 obtain⟨u,hu,I2,r⟩:=b8a I' o fr
 exact k v L' q _ _ H' r I2 (s'.trans (a0r o.1))⟩
theorem b7u (G:Good X C n sp){t:TA}(h:C.nm i nx=true)(hr:PA X.nox xs t):PA X.nox (.Name nx p :: xs) (c1e (c9x i) t):=a0n (a1w G h) hr rfl
theorem b4w {Q:VK}{fr:Bool}{Q1:FV->a0c->Prop}(I:Iv K c md L σ S H)(m:a0j md i=.own)(h:a0s call f i as L Q1)
  (k:∀ v L' x H1 S' H',Q1 v L'->c9d K S' H' H1 v x fr->Iv K c md L' σ S' H'->Same S S'->(∀ a,H1 a=none->a7k c md L' σ a)->Q x H'):c1e (c9x i) (la K md as) σ H λvs H1=>spQ K call true fr f vs H1 Q E0:=by
 obtain⟨v0,e,h⟩:=wpx h
 have mi:a0j md i≠.imm:=λz=>by rw[m] at z;cases z
 obtain⟨l,e1,_⟩:=I.own i v0 mi ((a2f _ _ _).mp e)
 refine⟨_,e1,c,L,S,_,I,h,λvs L1 hv us S1 H1 r1 I1 s1=>?_⟩
 obtain⟨v1,e2,q⟩:=wpx hv
 have e2:=(a2f _ _ _).mp e2
 obtain⟨l',f1,o,_⟩:=I1.own i v1 mi e2
 rw[e1] at f1;cases f1
 refine⟨S1,v1 :: vs,_,I1.sub,⟨v1,vs,l,us,rfl,rfl,o,r1⟩,q,λz q x S' H' kp r=>?_⟩
 have I2:=I1.back3 m e2 e1 kp.same kp.sub kp.grow (λb o e n=>kp.keep b o e λz=>n (by cases z;rfl)) (kp.back l rfl)
 refine k _ _ x H1 S' H' q r I2 (s1.trans kp.same) λa ha=>⟨I1.h0 ha,(I1.fresh ha).2.1,λj w mj ej z=>?_⟩
 obtain⟨_,_,g2⟩:=I1.fresh ha
 by_cases hj:j=i
 ·subst hj;exact g2 j v1 mj e2 z
 ·rw[List.getElem?_set_ne (Ne.symm hj)] at ej;exact g2 j w mj ej z
theorem d5x (G:Good X C n sp){np:Str}{pp:Pos}(e:sp X.K f=spQ X.K call true false f)(hf:C.fns[f]?=some np)(hg:C.gl np=true)(hd:(np == ("__debug__":Str))=false)(h:C.nm i nx=true)(m:a0j C.md i=.own)(hs:a2u xs=true)(ha:FA X C xs as):FE X C (.Call (.Name np pp) (.Name nx p :: xs) [] pos) (a0s call f i as) :=
 PE.imp (a6y G hf hg hd (show (true && a2u xs)=true by rw[hs];rfl) (b7u G h ha)) λσ H Q ⟨c,L,S,Q0,I,h,k⟩=>by
  rw[e]
  exact b4w I m h λv L' x H1 S' H' q r I' s' _=>k v L' q x S' H' r I' s'
theorem d5r (G:Good X C n sp){np:Str}{pp:Pos}(e:sp X.K f=spQ X.K call true true f)(hf:C.fns[f]?=some np)(hg:C.gl np=true)(hd:(np == ("__debug__":Str))=false)(h:C.nm i nx=true)(m:a0j C.md i=.own)(hs:a2u xs=true)(ha:FA X C xs as):FF X C (.Call (.Name np pp) (.Name nx p :: xs) [] pos) (a0s call f i as) :=
 PE.imp (a6y G hf hg hd (show (true && a2u xs)=true by rw[hs];rfl) (b7u G h ha)) λσ H Q ⟨c,L,S,Q0,I,h,k⟩=>by
  rw[e]
  refine b4w I m h λv L' x H1 S' H' q r I' s' fr=>?_
  obtain⟨a,rfl,o,hn⟩:=r
  exact k v L' q a S' H' o (fr a hn) I' s'
end
section
variable {K:Γd}{c:Cn}{md:Md}{L:a0c}{σ:L2.St}{S H:Hp}{i:Nat}{v:FV}{x:V}{a:Addr}
theorem Iv.setI (I:Iv K c md L σ S H)(m:a0j md i=.imm)(r:RV K S v x):Iv K c md (L.set i (some v)) (σ.set i (some x)) S H :=
 I.set (λa h z=>by subst z;exact (I.lent a h).1 m) (λz=>by rw[m] at z;cases z) (.inl ⟨m,r⟩)
theorem Iv.prot (I:Iv K c md L σ S H){o:HO}(h:H a=some o)(hs:S a=none)(ho:∀ i v,(a0j md i).w=true->L[i]?=some (some v)->σ[i]?≠some (some (.ref a)))(nt:a7g o=false:=by first|rfl|exact a5a _ _):Iv K { c with pr:=(a,o) :: c.pr } md L σ S H :=
 ⟨I.len,I.imm,I.own,I.dis,I.sub,I.frame,I.s0,I.grow,I.lent,I.fzs,I.fzm,λp hp=>let ⟨xs,h⟩:=I.fzp p hp;⟨xs,Γh _ h⟩,λp hp=>(List.mem_cons.mp hp).elim (λe=>e ▸ ⟨h,hs,ho⟩) (I.prs p),λp hp=>(List.mem_cons.mp hp).elim (λe=>e ▸ nt) (I.ntp p),I.lnt1,I.tie⟩
theorem b4b:∀ {md:Md}{i j:Nat}{m:Mo},i<md.length->a0j (md.set i m) j=if j=i then m else a0j md j
 | [],i,j,m,h=>absurd h (Nat.not_lt_zero _)
 | a :: md,0,0,m,h=>rfl
 | a :: md,0,j+1,m,h=>by simp[a0j]
 | a :: md,i+1,0,m,h=>by simp[a0j]
 | a :: md,i+1,j+1,m,h=>by
  have:=b4b (md:=md) (i:=i) (j:=j) (m:=m) (by simpa using h)
  simpa[a0j] using this
theorem c4z:∀ {md:Md}{i:Nat},a0j md i=.own->i<md.length
 | [],i,h=>by simp[a0j] at h
 | a :: md,0,h=>by simp
 | a :: md,i+1,h=>by simpa using c4z (md:=md) (i:=i) h
theorem Iv.frz (I:Iv K c md L σ S H){ob:HO}(m:a0j md i=.own)(e:L[i]?=some (some v))(e1:σ[i]?=some (some (.ref a)))(h:H a=some ob) :
  Iv K { c with fz:=(i,a) :: c.fz,pr:=(a,ob) :: c.pr } (md.set i .frz) L σ S H/\∀ L σ S H,Iv K { c with fz:=(i,a) :: c.fz,pr:=(a,ob) :: c.pr } (md.set i .frz) L σ S H->Iv K c md L σ S H:=by
 have hl:=c4z m
 have mi:a0j md i≠.imm:=λz=>by rw[m] at z;cases z
 have M:∀ j,a0j (md.set i .frz) j=if j=i then .frz else a0j md j:=λj=>b4b hl
 have im:∀ {j},a0j (md.set i .frz) j=.imm↔a0j md j=.imm:=λ{j}=>by
  rw[M]
  by_cases q:j=i
  ·subst q;rw[if_pos rfl,m];simp
  ·rw[if_neg q]
 have gm:∀ {j},(a0j md j).g=true->a0j (md.set i .frz) j=a0j md j:=λ{j} h=>by
  rw[M,if_neg λq=>by rw[q,m] at h;cases h]
 have gm':∀ {j k x},a0j (md.set i .frz) j=.gst k x->a0j md j=.gst k x:=λ{j k x} h=>by
  rw[M] at h
  split at h
  ·cases h
  ·exact h
 have om:∀ {j},a0j (md.set i .frz) j=.ob->a0j md j=.ob:=λ{j} h=>by
  rw[M] at h
  split at h
  ·cases h
  ·exact h
 have nfz:∀ p∈c.fz,p.1≠i:=λp hp z=>by have:=(I.fzs p hp).1;rw[z,m] at this;cases this
 have npr:∀ p∈c.pr,p.1≠a:=λp hp z=>(I.prs p hp).2.2 i v (Mo.w_own m) e (by rw[z];exact e1)
 obtain⟨a',f1,o,_⟩:=I.own i v mi e
 rw[e1] at f1;cases f1
 have nt:a7g ob=false:=by
  obtain⟨_,_,_,_,h5,_⟩:=o
  rw[h] at h5;rw[Option.some.inj h5,a5a]
 constructor
 ·refine⟨I.len,λj w h=>I.imm j w (im.mp h),λj w h=>I.own j w (λz=>h (im.mpr z)),λj k w u b h1 h2=>I.dis j k w u b (λz=>h1 (im.mpr z)) (λz=>h2 (im.mpr z)),I.sub,I.frame,I.s0,I.grow,λb hb=>let ⟨g1,g2⟩:=I.lent b hb;⟨λz=>g1 (im.mp z),g2⟩,λp hp=>?_,λj w hm hj=>?_,λp hp=>?_,λp hp=>?_,λp hp=>(List.mem_cons.mp hp).elim (λz=>by rw[z];exact nt) (I.ntp p),λq hq=>let ⟨g1,g2⟩:=I.lnt1 q hq;⟨by rw[gm g1];exact g1,g2⟩,λj k x C dx fs w h1 h2=>I.tie j k x C dx fs w (gm' h1) (om h2)⟩
  ·rcases List.mem_cons.mp hp with rfl|hp
   ·exact⟨by rw[M,if_pos rfl],e1,v,e⟩
   ·obtain⟨g1,g2⟩:=I.fzs p hp
    exact⟨by rw[M,if_neg (nfz p hp)];exact g1,g2⟩
  ·by_cases q:j=i
   ·subst q;exact⟨a,Γn⟩
   ·rw[M,if_neg q] at hm
    obtain⟨b,g1⟩:=I.fzm j w hm hj
    exact⟨b,Γh _ g1⟩
  ·rcases List.mem_cons.mp hp with rfl|hp
   ·exact⟨_,Γn⟩
   ·obtain⟨ys,g⟩:=I.fzp p hp
    exact⟨ys,Γh _ g⟩
  ·have own':∀ {j},(a0j (md.set i .frz) j).w=true->j≠i/\(a0j md j).w=true:=λ{j} z=>by
    by_cases q:j=i
    ·subst q;rw[M,if_pos rfl] at z;cases z
    ·rw[M,if_neg q] at z;exact⟨q,z⟩
   rcases List.mem_cons.mp hp with rfl|hp
   ·exact⟨h,o.1,λj w hm hj hz=>(own' hm).1 (I.dis j i w v a (Mo.w_imm (own' hm).2) mi hj e hz e1)⟩
   ·obtain⟨g1,g2,g3⟩:=I.prs p hp
    exact⟨g1,g2,λj w hm=>g3 j w (own' hm).2⟩
 ·intro L σ S H J
  obtain⟨_,j1,_⟩:=J.fzs (i,a) Γn
  refine⟨J.len,λj w h=>J.imm j w (im.mpr h),λj w h=>J.own j w (λz=>h (im.mp z)),λj k w u b h1 h2=>J.dis j k w u b (λz=>h1 (im.mp z)) (λz=>h2 (im.mp z)),J.sub,J.frame,J.s0,J.grow,λb hb=>let ⟨g1,g2⟩:=J.lent b hb;⟨λz=>g1 (im.mpr z),g2⟩,λp hp=>?_,λj w hm hj=>?_,I.fzp,λp hp=>?_,I.ntp,λq hq=>?_,λj k x C dx fs w h1 h2=>?_⟩
  ·obtain⟨g1,g2⟩:=J.fzs p (Γh _ hp)
   rw[M,if_neg (nfz p hp)] at g1
   exact⟨g1,g2⟩
  ·have q:j≠i:=λz=>by rw[z,m] at hm;cases hm
   obtain⟨b,g1⟩:=J.fzm j w (by rw[M,if_neg q];exact hm) hj
   rcases List.mem_cons.mp g1 with z|g1
   ·exact absurd (Prod.mk.inj z).1 q
   ·exact⟨b,g1⟩
  ·obtain⟨g1,g2,g3⟩:=J.prs p (Γh _ hp)
   refine⟨g1,g2,λj w hm hj=>?_⟩
   by_cases q:j=i
   ·subst q;rw[j1];exact λz=>npr p hp (by cases z;rfl)
   ·exact g3 j w (by rw[M,if_neg q];exact hm) hj
  ·obtain⟨g1,g2⟩:=J.lnt1 q hq
   refine⟨?_,g2⟩
   rw[M] at g1
   split at g1
   ·cases g1
   ·exact g1
  ·have n1:j≠i:=λz=>by rw[z,m] at h1;cases h1
   have n2:k≠i:=λz=>by rw[z,m] at h2;cases h2
   exact J.tie j k x C dx fs w (by rw[M,if_neg n1];exact h1) (by rw[M,if_neg n2];exact h2)
end
def ItR (K:Γd)(c:Cn)(md:Md)(J:It)(xs:List FV)(S1:Hp):Prop :=
 ∀ (i:Nat)(L:a0c)(σ:L2.St)(S H:Hp),Iv K c md L σ S H->Same S1 S->(xs[i]?=none->J.stop i H)/\∀ p,xs[i]?=some p->J.go i H/\∀ v H',J.yld i H v H'->∃ S',Same S S'/\(∀ c md L σ,Iv K c md L σ S H->Iv K c md L σ S' H')/\RV K S' p v
def li (K:Γd)(md md':Md)(it:AW):TI:=λσ H R=>∃ c L S Q0,Iv K c md L σ S H/\it L Q0/\∀ xs L',Q0 xs L'->∀ J c' S' H',Iv K c' md' L' σ S' H'->(∀ L σ S H,Iv K c' md' L σ S H->Iv K c md L σ S H)->c'.H0=c.H0->ItR K c' md' J xs S'->Same S S'->R J H'
def FI (X:Cx)(C:CC)(md':Md)(tg iter:Expr)(it:AW):Prop:=PI X.nox tg iter (li X.K C.md md' it)
section
variable {X:Cx}{C:CC}{n:Nat}{sp:Γd->Nat->Sp}{a b d x y z tg:Expr}{ea eb ec:EW}{pos p:Pos}
variable {K:Γd}{c:Cn}{md:Md}{L:a0c}{σ:L2.St}{S H:Hp}{i:Nat}{nx:Str}
theorem PI.imp {X:Cx}{tg it:Expr}{t u:TI}(h:PI X tg it t)(f:∀ σ H R,u σ H R->t σ H R):PI X tg it u:=λpins s σ H R I hu=>h pins s σ H R I (f σ H R hu)
def Its (K:Γd):Bool->Addr->It
 | true,a=>Itl K a
 | false,a=>Itt K a
theorem c4q {X:Cx}{tg it:Expr}{te:TE}(h:PE X it te):PI X tg it (λσ H R=>te σ H λv H1=>∃ b a xs,v=.ref a/\SqB b X.K H1 a xs/\R (Its X.K b a) H1):=by
 intro pins s σ H R I hh
 refine thn (h pins s σ H _ I hh) λv s1 ⟨x,H1,I1,r1,b,a,xs,e,hq,q⟩=>?_
 subst e
 cases r1
 cases b with
 | true =>
  obtain⟨its,rv,p,hz⟩:=I1.list hq
  refine wpAny_pyIter_list p.isList ?_
  refine⟨s1.heap.objs.size,[s1.heap.objs.size],_,_,H1,rfl,I1.kept (t':=s1.toks) λb o e=>Γc _ e,b6l a _,⟨_,Γm _ rfl,rfl,rfl⟩,λb hb=>?_,q⟩
  have e:b=s1.heap.objs.size:=by simpa using hb
  subst e
  exact I1.fpOk (Γi _) (I1.hok.fresh (Γi _))
 | false =>
  obtain⟨its,rv,p,hz⟩:=I1.tuple hq
  refine wpAny_pyIter_tuple p ?_
  refine⟨s1.heap.objs.size,[s1.heap.objs.size],_,_,H1,rfl,I1.kept (t':=s1.toks) λb o e=>Γc _ e,b5a a _,⟨_,Γm _ rfl,rfl,rfl⟩,λb hb=>?_,q⟩
  have e:b=s1.heap.objs.size:=by simpa using hb
  subst e
  exact I1.fpOk (Γi _) (I1.hok.fresh (Γi _))
theorem c5e {t:Bool}{q:Addr}{ps:List FV}{S1:Hp}(h:∀ L σ S H,Iv K c md L σ S H->Same S1 S->∃ vs,SqB t K H q vs/\RVs K S ps vs):ItR K c md (Its K t q) ps S1:=by
 intro i L σ S H I s
 obtain⟨vs,h1,h2⟩:=h L σ S H I s
 cases t with
 | true =>
  refine⟨λe=>⟨vs,h1,by rw[<- h2.length];exact List.getElem?_eq_none_iff.mp e⟩,λp ep=>?_⟩
  obtain⟨v,e1,r1⟩:=h2.get ep
  refine⟨⟨vs,v,h1,e1⟩,λw H' ⟨eh,y⟩=>?_⟩
  have:=y vs h1
  rw[e1] at this;cases this
  subst eh
  exact⟨S,Same.refl S,λ_ _ _ _ I=>I,r1⟩
 | false =>
  refine⟨λe=>⟨vs,h1,by rw[<- h2.length];exact List.getElem?_eq_none_iff.mp e⟩,λp ep=>?_⟩
  obtain⟨v,e1,r1⟩:=h2.get ep
  refine⟨⟨vs,v,h1,e1⟩,λw H' ⟨eh,y⟩=>?_⟩
  have:=y vs h1
  rw[e1] at this;cases this
  subst eh
  exact⟨S,Same.refl S,λ_ _ _ _ I=>I,r1⟩
theorem RV.stays {v:FV}{ps:List FV}{u:V}{S1:Hp}(r:RV K S1 v u)(e:a4k v=some ps):∃ q,u=.ref q/\∀ S H,Same S1 S->Same S H->∃ vs,SqB (isL v) K H q vs/\RVs K S ps vs:=by
 cases v with
 | tup qs=>cases e;obtain⟨q,vs,rfl,h1,h2⟩:=r;exact⟨q,rfl,λS H s s'=>⟨vs,SqT.of (s' _ _ (s _ _ h1)),h2.mono s⟩⟩
 | lst qs=>cases e;obtain⟨q,vs,rfl,h1,h2⟩:=r;exact⟨q,rfl,λS H s s'=>⟨vs,SqL.of (s' _ _ (s _ _ h1)),h2.mono s⟩⟩
 | scr ns=>cases e;obtain⟨q,rfl,h⟩:=r;exact⟨q,rfl,λS H s s'=>⟨_,h.sq (s.trans s'),RVs.ns ns⟩⟩
 | _=>cases e
theorem fi_seq (ha:FE X C a ea):FI X C C.md tg a (a5l ea):=PI.imp (c4q ha) λσ H R ⟨c,L,S,Q0,I,h,k⟩ =>
 ⟨c,L,S,_,I,h,λv L1 hv x S1 H1 r1 I1 s1=>by
  obtain⟨ps,e,q⟩:=wpx hv
  obtain⟨l,rfl,st⟩:=r1.stays e
  obtain⟨vs,h1,h2⟩:=st S1 H1 (Same.refl _) I1.sub
  exact⟨isL v,l,vs,rfl,h1,k ps L1 q _ c S1 H1 I1 (λ_ _ _ _ I=>I) rfl (c5e λL σ S H I s=>st S H s I.sub) s1⟩⟩
theorem c6z {v:FV}{qs ps:List FV}(e2:d1q v=some qs)(e0:a4k v=some ps):v=.lst ps/\qs=ps:=by
 cases v<;>first|(cases e2;cases e0;exact⟨rfl,rfl⟩)|(cases e0;done)|(cases e2;done)
theorem fi_own (G:Good X C n sp)(h:C.nm i nx=true)(m:a0j C.md i=.own):FI X C (C.md.set i .frz) tg (.Name nx p) (a5l (a0b i)):=PI.imp (c4q (a1w G h)) λσ H R ⟨c,L,S,Q0,I,h,k⟩=>by
 obtain⟨v,e,h⟩:=wpx h
 obtain⟨ps,e0,q⟩:=wpx h
 have e:=(a2f _ _ _).mp e
 obtain⟨l,e1,⟨o1,qs,vs,e2,o2,o3⟩,o4⟩:=I.own i v (λz=>by rw[m] at z;cases z) e
 obtain⟨e3,e4⟩:=c6z e2 e0
 subst e3 e4
 obtain⟨I',un⟩:=I.frz m e e1 o2
 exact⟨_,e1,true,l,vs,rfl,SqL.of o2,k _ L q _ _ S H I' un rfl (c5e (t:=true) λL σ S' H I s=>⟨vs,SqL.of (I.prs (l,.lst vs) Γn).1,o3.mono s⟩) (Same.refl S)⟩
theorem b1z:∀ (n:Nat) (lo:Int) (i:Nat),(upF lo n)[i]?=if i<n then some (.int (lo+i)) else none
 | 0,lo,i=>by simp[upF]
 | n+1,lo,0=>by simp[upF]
 | n+1,lo,i+1=>by
  show (upF (lo+1) n)[i]?=_
  rw[b1z n (lo+1) i]
  have e:lo+1+(i:Int)=lo+((i+1:Nat):Int):=by lia
  rw[e]
  simp
theorem d3a {lo:Int}{m:Nat}{S1:Hp}:ItR K c md (Itr lo m) (upF lo m) S1:=by
 intro i L σ S H I s
 rw[b1z]
 by_cases h:i<m
 ·rw[if_pos h]
  refine⟨λe=>(nomatch e),λp e=>?_⟩
  cases e
  exact⟨h,λv H' ⟨e1,e2⟩=>⟨S,Same.refl S,by rw[e1];exact λ_ _ _ _ I=>I,e2⟩⟩
 ·rw[if_neg h]
  exact⟨λ_=>show m<=i by lia,λp e=>(nomatch e)⟩
theorem fi_rng (G:Good X C n sp)(hg:C.gl (Γe "range")=true)(hs:a0k a=false)(ha:FE X C a ea):FI X C C.md tg (.Call (.Name (Γe "range") p) [a] [] pos) (b1w ea):=PI.imp (b7m (G.gl hg) (G.blt "range" (by decide)) (a0n ha a2n (a0f hs)) (a0f hs)) λσ H R ⟨c,L,S,Q0,I,h,k⟩ =>
 ⟨c,L,S,_,I,h,λv L1 hv x S1 H1 r1 I1 s1=>by
  obtain⟨j,e,hb,q⟩:=wpx hv
  cases a1o e
  have hb:=de hb
  exact⟨j,by rw[show x=.int j from r1],hb.1,hb.2,k _ L1 q _ c S1 H1 I1 (λ_ _ _ _ I=>I) rfl d3a s1⟩⟩
theorem b4a {P Q:FV}{u w:V}{pp:Addr}(I:Iv K c md L σ S H)(hp:H pp=none)(r1:RV K S P u)(r2:RV K S Q w):∃ S',Same S S'/\(∀ c md L σ,Iv K c md L σ S H->Iv K c md L σ S' (upd H pp (.tup [u,w])))/\RV K S' (.tup [P,Q]) (.ref pp) :=
 ⟨upd S pp (.tup [u,w]),a0r (I.sn hp),λ_ _ _ _ I=>I.new hp _,pp,[u,w],rfl,a0e,u,[w],rfl,r1.mono (a0r (I.sn hp)),w,[],rfl,r2.mono (a0r (I.sn hp)),rfl⟩
theorem d2z {t t':Bool}{q q':Addr}{ps qs:List FV}{S1:Hp}(h:∀ L σ S H,Iv K c md L σ S H->Same S1 S->∃ vs,SqB t K H q vs/\RVs K S ps vs)(h':∀ L σ S H,Iv K c md L σ S H->Same S1 S->∃ vs,SqB t' K H q' vs/\RVs K S qs vs):ItR K c md (Iz2 K t t' q q') (a2q ps qs) S1:=by
 intro i L σ S H I s
 obtain⟨vs,h1,h2⟩:=h L σ S H I s
 obtain⟨ws,g1,g2⟩:=h' L σ S H I s
 unfold a2q
 rw[List.getElem?_zipWith]
 refine⟨λz=>⟨vs,ws,h1,g1,?_⟩,λy ey=>?_⟩
 ·rw[<- h2.length,<- g2.length]
  cases c1:ps[i]? with
  | none=>exact .inl (List.getElem?_eq_none_iff.mp c1)
  | some _ =>
   cases c2:qs[i]? with
   | none=>exact .inr (List.getElem?_eq_none_iff.mp c2)
   | some _=>rw[c1,c2] at z;cases z
 ·cases c1:ps[i]? with
  | none=>rw[c1] at ey;cases ey
  | some p1 =>
   cases c2:qs[i]? with
   | none=>rw[c1,c2] at ey;cases ey
   | some q1 =>
    rw[c1,c2] at ey
    cases ey
    obtain⟨v,f1,f2⟩:=h2.get c1
    obtain⟨w,f3,f4⟩:=g2.get c2
    refine⟨⟨vs,ws,v,w,h1,g1,f1,f3⟩,λz H' ⟨pp,hp,ez,yy⟩=>?_⟩
    have:=yy vs ws v w h1 g1 f1 f3
    subst this ez
    exact b4a I hp f2 f4
theorem c7y {t:Bool}{q:Addr}{ps:List FV}{S1:Hp}(h:∀ L σ S H,Iv K c md L σ S H->Same S1 S->∃ vs,SqB t K H q vs/\RVs K S ps vs):ItR K c md (Ien K t q) (a2q (upF 0 ps.length) ps) S1:=by
 intro i L σ S H I s
 obtain⟨vs,h1,h2⟩:=h L σ S H I s
 unfold a2q
 rw[List.getElem?_zipWith,b1z]
 refine⟨λz=>⟨vs,h1,?_⟩,λy ey=>?_⟩
 ·rw[<- h2.length]
  by_cases hi:i<ps.length
  ·rw[if_pos hi,List.getElem?_eq_getElem hi] at z;cases z
  ·lia
 ·by_cases hi:i<ps.length
  ·rw[if_pos hi,List.getElem?_eq_getElem hi] at ey
   cases ey
   obtain⟨v,f1,f2⟩:=h2.get (List.getElem?_eq_getElem hi)
   refine⟨⟨vs,v,h1,f1⟩,λz H' ⟨pp,hp,ez,yy⟩=>?_⟩
   have:=yy vs v h1 f1
   subst this ez
   exact b4a I hp (show RV K S (.int (0+i)) (.int i) by show V.int i=V.int (0+i);rw[Int.zero_add]) f2
  ·rw[if_neg hi] at ey;cases ey
variable {elts:List Expr}{kk:Nat}{tp:Pos}
theorem fi_zip (G:Good X C n sp)(hg:C.gl (Γe "zip")=true)(hs:a0k a=false)(hs2:a0k b=false)(ha:FE X C a ea)(hb:FE X C b eb):FI X C C.md (.Tuple elts kk tp) (.Call (.Name (Γe "zip") p) [a,b] [] pos) (d5j ea eb) :=
 PI.imp (d8u (G.gl hg) (G.blt "zip" (by decide)) (a0n ha (a0n hb a2n (a0f hs2)) (a0f hs)) (by rw[a0f hs,a0f hs2];rfl) (a0f hs2)) λσ H R ⟨c,L,S,Q0,I,h,k⟩ =>
 ⟨c,L,S,_,I,h,λv L1 hv x S1 H1 r1 I1 s1=>⟨c,L1,S1,_,I1,hv,λw L2 hw y S2 H2 r2 I2 s2=>by
  obtain⟨ps,e,hw⟩:=wpx hw
  obtain⟨qs,e',q⟩:=wpx hw
  obtain⟨l,rfl,st⟩:=(r1.mono s2).stays e
  obtain⟨l',rfl,st'⟩:=r2.stays e'
  obtain⟨vs,h1,_⟩:=st S2 H2 (Same.refl _) I2.sub
  obtain⟨ws,h2,_⟩:=st' S2 H2 (Same.refl _) I2.sub
  exact⟨_,_,l,l',rfl,⟨vs,h1⟩,⟨ws,h2⟩,k _ L2 q _ c S2 H2 I2 (λ_ _ _ _ I=>I) rfl (d2z (λL σ S H I s=>st S H s I.sub) λL σ S H I s=>st' S H s I.sub) (s1.trans s2)⟩⟩⟩
theorem e0n (G:Good X C n sp)(hg:C.gl (Γe "enumerate")=true)(hs:a0k a=false)(ha:FE X C a ea):FI X C C.md (.Tuple elts kk tp) (.Call (.Name (Γe "enumerate") p) [a] [] pos) (a7h ea) :=
 PI.imp (d8v (G.gl hg) (G.blt "enumerate" (by decide)) (a0n ha a2n (a0f hs)) (a0f hs)) λσ H R ⟨c,L,S,Q0,I,h,k⟩ =>
 ⟨c,L,S,_,I,h,λv L1 hv x S1 H1 r1 I1 s1=>by
  obtain⟨ps,e,q⟩:=wpx hv
  obtain⟨l,rfl,st⟩:=r1.stays e
  obtain⟨vs,h1,_⟩:=st S1 H1 (Same.refl _) I1.sub
  exact⟨_,l,rfl,⟨vs,h1⟩,k _ L1 q _ c S1 H1 I1 (λ_ _ _ _ I=>I) rfl (c7y λL σ S H I s=>st S H s I.sub) s1⟩⟩
end
def gTs:List Nat->TGs
 | []=>d9y
 | i :: is=>c3g (a5d i) (gTs is)
def gT (K:Γd):Tg->TG
 | .nm i=>a5d i
 | .tp is=>d5m K is.length (gTs is)
 | .tn i is=>d5m K 2 (c3g (a5d i) (c3g (d5m K is.length (gTs is)) d9y))
def a3m (md:Md):Tg->Bool
 | .nm i=>decide (a0j md i=.imm)
 | .tp is=>is.all λi=>decide (a0j md i=.imm)
 | .tn i is=>decide (a0j md i=.imm) && is.all λi=>decide (a0j md i=.imm)
def a7c (n:Nat):Tg->Bool
 | .nm i=>decide (n<=i)
 | .tp is=>is.all λi=>decide (n<=i)
 | .tn i is=>decide (n<=i) && is.all λi=>decide (n<=i)
def FG (X:Cx)(t:Expr)(tg:Tg):Prop:=PG X.nox t (gT X.K tg)
section
variable {K:Γd}{c:Cn}{md:Md}{L:a0c}{σ:L2.St}{S H:Hp}
theorem a8n:∀ {is:List Nat}{ps:List FV}{vs:List V}{L L':a0c}{σ:L2.St},(is.all λi=>decide (a0j md i=.imm))=true->Iv K c md L σ S H->RVs K S ps vs->a8o L is ps=some L' ->
  ∃ σ',(∀ Q:L2.St->Hp->Prop,Q σ' H->gTs is vs σ H Q)/\Iv K c md L' σ' S H/\σ'.length=σ.length/\is.length=vs.length/\∀ n,(is.all λi=>decide (n<=i))=true->∀ j,j<n->σ'[j]?=σ[j]?
 | [],[],vs,L,L',σ,_,I,r,e=>by cases (show vs=[] from r);cases e;exact⟨σ,λQ q=>⟨rfl,q⟩,I,rfl,rfl,λ_ _ _ _=>rfl⟩
 | i :: is,p :: ps,vs,L,L',σ,hm,I,r,e=>by
  obtain⟨v,q,rfl,h1,h2⟩:=r
  have hm:=b2 (show (decide (a0j md i=.imm) && is.all λi=>decide (a0j md i=.imm))=true from hm)
  obtain⟨σ',g,I',l1,l2,far⟩:=a8n (is:=is) (ps:=ps) (vs:=q) hm.2 (I.setI (de hm.1) h1) h2 e
  refine⟨σ',λQ q'=>⟨v,q,rfl,g Q q'⟩,I',by rw[l1,List.length_set],by rw[List.length_cons,List.length_cons,l2],λn hn j hj=>?_⟩
  have hn:=b2 (show (decide (n<=i) && is.all λi=>decide (n<=i))=true from hn)
  have:=de hn.1
  rw[far n hn.2 j hj,List.getElem?_set_ne (by lia)]
 | [],p :: ps,_,_,_,_,_,_,_,e=>by cases e
 | i :: is,[],_,_,_,_,_,_,_,e=>by cases e
theorem b9e {tg:Tg}{v:FV}{x:V}{Q:a0c->Prop}(hm:a3m md tg=true)(I:Iv K c md L σ S H)(r:RV K S v x)(h:gW tg v L Q) :
  ∃ σ' L',(∀ Q':L2.St->Hp->Prop,Q' σ' H->gT K tg x σ H Q')/\Q L'/\Iv K c md L' σ' S H/\σ'.length=σ.length/\∀ n,a7c n tg=true->∀ j,j<n->σ'[j]?=σ[j]?:=by
 cases tg with
 | nm i =>
  refine⟨σ.set i (some x),L.set i (some v),λQ q=>q,h,I.setI (de hm) r,List.length_set ..,λn hn j hj=>?_⟩
  have:n<=i:=de hn
  exact List.getElem?_set_ne (by lia)
 | tp is =>
  obtain⟨ps,e,h⟩:=wpx h
  obtain⟨L',e1,q⟩:=wpx h
  cases a2a e
  obtain⟨a,vs,rfl,h1,h2⟩:=r
  obtain⟨σ',g,I',l1,l2,far⟩:=a8n hm I h2 e1
  exact⟨σ',L',λQ q=>⟨a,vs,rfl,SqT.of (I.sub _ _ h1),l2.symm,g Q q⟩,q,I',l1,far⟩
 | tn i is =>
  have hm:=b2 hm
  obtain⟨ps,e,h⟩:=wpx h
  obtain⟨p,e1,h⟩:=wpx h
  obtain⟨qs,e2,h⟩:=wpx h
  obtain⟨L',e3,q⟩:=wpx h
  cases a2a e
  obtain⟨p1,p2⟩:=p
  obtain rfl:ps=[p1,p2]:=by
   rcases ps with _|⟨a,_|⟨b,_|⟨c,r⟩⟩⟩<;>first|(cases e1;done)|(cases e1;rfl)
  obtain⟨a,vs,rfl,h1,h2⟩:=r
  obtain⟨u,w,rfl,r1,r2⟩:=h2.two_of
  cases a2a e2
  obtain⟨b,ws,rfl,h3,h4⟩:=r2
  obtain⟨σ',g,I',l1,l2,far⟩:=a8n hm.2 (I.setI (de hm.1) r1) h4 e3
  refine⟨σ',L',λQ q=>⟨a,_,rfl,SqT.of (I.sub _ _ h1),rfl,_,_,rfl,_,_,rfl,b,ws,rfl,SqT.of (I.sub _ _ h3),l2.symm,g _ ⟨rfl,q⟩⟩,q,I',by rw[l1,List.length_set],λn hn j hj=>?_⟩
  have hn:=b2 hn
  have:=de hn.1
  rw[far n hn.2 j hj,List.getElem?_set_ne (by lia)]
theorem Iv.regrow {a:Addr}{o o':HO}(I:Iv K { c with pr:=(a,o) :: c.pr } md L σ S H)(h0:c.H0 a=none)(hp:∀ p∈c.pr,p.1≠a)(hz:∀ p∈c.fz,∃ o,(p.2,o)∈c.pr)(nt:a7g o'=false:=by first|rfl|exact a5a _ _):Iv K { c with pr:=(a,o') :: c.pr } md L σ S (upd H a o'):=by
 obtain⟨_,sa,na⟩:=I.prs (a,o) Γn
 have oa:∀ j w b,a0j md j≠.imm->L[j]?=some (some w)->σ[j]?=some (some (.ref b))->b≠a:=λj w b hm hj hs z=>by
  subst z
  by_cases m:(a0j md j).w=true
  ·exact na j w m hj hs
  ·have m:a0j md j=.frz:=by cases q:a0j md j with|imm=>exact absurd q hm|frz=>rfl|_=>rw[q] at m;exact absurd rfl m
   obtain⟨b',g1⟩:=I.fzm j w m hj
   obtain⟨_,g2,_⟩:=I.fzs _ g1
   rw[hs] at g2;cases g2
   obtain⟨xs,g3⟩:=hz _ g1
   exact hp _ g3 rfl
 refine⟨I.len,I.imm,λj w hm hj=>?_,I.dis,λb u e=>?_,λb u e n n1=>?_,I.s0,I.grow,I.lent,I.fzs,I.fzm,λp hpz=>let ⟨xs,g⟩:=hz p hpz;⟨xs,Γh _ g⟩,λp hpr=>?_,λp hpr=>(List.mem_cons.mp hpr).elim (λz=>by rw[z];exact nt) λz=>I.ntp p (Γh _ z),I.lnt1,I.tie⟩
 ·obtain⟨b,e1,⟨g1,ps,xs,g2,g3,g4⟩,g5⟩:=I.own j w hm hj
  exact⟨b,e1,⟨g1,ps,xs,g2,by rw[a0d (oa j w b hm hj e1)];exact g3,g4⟩,g5⟩
 ·rw[a0d λz=>by subst z;rw[sa] at e;cases e];exact I.sub b u e
 ·rw[a0d λz=>by subst z;rw[h0] at e;cases e];exact I.frame b u e n n1
 ·rcases List.mem_cons.mp hpr with rfl|hpr
  ·exact⟨a0e,sa,na⟩
  ·obtain⟨g1,g2,g3⟩:=I.prs p (Γh _ hpr)
   exact⟨by rw[a0d (hp p hpr)];exact g1,g2,g3⟩
theorem Iv.unprot {a:Addr}{o:HO}(I:Iv K { c with pr:=(a,o) :: c.pr } md L σ S H)(hz:∀ p∈c.fz,∃ o,(p.2,o)∈c.pr):Iv K c md L σ S H :=
 ⟨I.len,I.imm,I.own,I.dis,I.sub,I.frame,I.s0,I.grow,I.lent,I.fzs,I.fzm,hz,λp hp=>I.prs p (Γh _ hp),λp hp=>I.ntp p (Γh _ hp),I.lnt1,I.tie⟩
theorem c5a:∀ {md:Md}{i:Nat},md.length<=i->a0j md i=.imm
 | [],i,_=>rfl
 | a :: md,0,h=>absurd h (by simp)
 | a :: md,i+1,h=>c5a (md:=md) (i:=i) (by simpa using h)
theorem Iv.more (I:Iv K c md L σ S H) (m:Nat):Iv K c md (L++Γj m none) (σ++Γj m none) S H:=by
 have look:∀ j w,(L++Γj m none)[j]?=some (some w)->L[j]?=some (some w)/\(σ++Γj m none)[j]?=σ[j]?:=λj w z=>by
  by_cases h:j<L.length
  ·rw[List.getElem?_append_left h] at z
   exact⟨z,List.getElem?_append_left (by rw[<- I.len];exact h)⟩
  ·rw[List.getElem?_append_right (by lia),List.getElem?_replicate] at z
   split at z<;>cases z
 have up:∀ j w,L[j]?=some (some w)->(L++Γj m none)[j]?=some (some w)/\(σ++Γj m none)[j]?=σ[j]?:=λj w z=>by
  have h:=(List.getElem?_eq_some_iff.mp z).1
  exact⟨by rw[List.getElem?_append_left h];exact z,List.getElem?_append_left (by rw[<- I.len];exact h)⟩
 refine⟨by simp[I.len],λj w hm z=>?_,λj w hm z=>?_,λj k w u b m1 m2 z1 z2 y1 y2=>?_,I.sub,I.frame,I.s0,I.grow,λb hb=>?_,λp hp=>?_,λj w hm z=>I.fzm j w hm (look j w z).1,I.fzp,λp hp=>?_,I.ntp,λq hq=>?_,λj k x C dx fs w h1 h2 h3 h4=>?_⟩
 ·obtain⟨z,y⟩:=look j w z;rw[y];exact I.imm j w hm z
 ·obtain⟨z,y⟩:=look j w z;rw[y];exact I.own j w hm z
 ·obtain⟨z1,q1⟩:=look j w z1
  obtain⟨z2,q2⟩:=look k u z2
  rw[q1] at y1;rw[q2] at y2
  exact I.dis j k w u b m1 m2 z1 z2 y1 y2
 ·obtain⟨g1,g2,w,g3⟩:=I.lent b hb
  obtain⟨f1,f2⟩:=up 0 w g3
  exact⟨g1,by rw[f2];exact g2,w,f1⟩
 ·obtain⟨g1,g2,w,g3⟩:=I.fzs p hp
  obtain⟨f1,f2⟩:=up p.1 w g3
  exact⟨g1,by rw[f2];exact g2,w,f1⟩
 ·obtain⟨g1,g2,g3⟩:=I.prs p hp
  refine⟨g1,g2,λj w hm z=>?_⟩
  obtain⟨z,y⟩:=look j w z
  rw[y];exact g3 j w hm z
 ·obtain⟨g1,g2,w,g3⟩:=I.lnt1 q hq
  obtain⟨f1,f2⟩:=up q.1 w g3
  exact⟨g1,by rw[f2];exact g2,w,f1⟩
 ·obtain⟨z4,y4⟩:=look j w h4
  rw[y4]
  exact I.tie j k x C dx fs w h1 h2 (look k _ h3).1 z4
theorem Iv.take {n:Nat}{σ2:L2.St}(I:Iv K c md L σ2 S H)(hmd:md.length<=n)(hs:σ.length=n)(hl:n<=σ2.length)(e:∀ j,j<n->σ2[j]?=σ[j]?):Iv K c md (L.take n) σ S H:=by
 have look:∀ j w,(L.take n)[j]?=some (some w)->L[j]?=some (some w)/\σ[j]?=σ2[j]?:=λj w z=>by
  have h:=(List.getElem?_eq_some_iff.mp z).1
  rw[List.length_take] at h
  rw[List.getElem?_take_of_lt (by lia)] at z
  exact⟨z,(e j (by lia)).symm⟩
 have up:∀ j w,a0j md j≠.imm->L[j]?=some (some w)->(L.take n)[j]?=some (some w)/\σ[j]?=σ2[j]?:=λj w hm z=>by
  have h:j<n:=by
   by_cases h:j<n
   ·exact h
   ·exact absurd (c5a (by lia)) hm
  exact⟨by rw[List.getElem?_take_of_lt h];exact z,(e j h).symm⟩
 refine⟨by rw[List.length_take,I.len,hs];lia,λj w hm z=>?_,λj w hm z=>?_,λj k w u b m1 m2 z1 z2 y1 y2=>?_,I.sub,I.frame,I.s0,I.grow,λb hb=>?_,λp hp=>?_,λj w hm z=>I.fzm j w hm (look j w z).1,I.fzp,λp hp=>?_,I.ntp,λq hq=>?_,λj k x C dx fs w h1 h2 h3 h4=>?_⟩
 ·obtain⟨z,y⟩:=look j w z;rw[y];exact I.imm j w hm z
 ·obtain⟨z,y⟩:=look j w z;rw[y];exact I.own j w hm z
 ·obtain⟨z1,q1⟩:=look j w z1
  obtain⟨z2,q2⟩:=look k u z2
  rw[q1] at y1;rw[q2] at y2
  exact I.dis j k w u b m1 m2 z1 z2 y1 y2
 ·obtain⟨g1,g2,w,g3⟩:=I.lent b hb
  obtain⟨f1,f2⟩:=up 0 w g1 g3
  exact⟨g1,by rw[f2];exact g2,w,f1⟩
 ·obtain⟨g1,g2,w,g3⟩:=I.fzs p hp
  obtain⟨f1,f2⟩:=up p.1 w (λz=>by rw[g1] at z;cases z) g3
  exact⟨g1,by rw[f2];exact g2,w,f1⟩
 ·obtain⟨g1,g2,g3⟩:=I.prs p hp
  refine⟨g1,g2,λj w hm z=>?_⟩
  obtain⟨z,y⟩:=look j w z
  rw[y];exact g3 j w hm z
 ·obtain⟨g1,g2,w,g3⟩:=I.lnt1 q hq
  obtain⟨f1,f2⟩:=up q.1 w (λz=>by rw[z] at g1;cases g1) g3
  exact⟨g1,by rw[f2];exact g2,w,f1⟩
 ·obtain⟨z4,y4⟩:=look j w h4
  rw[y4]
  exact I.tie j k x C dx fs w h1 h2 (look k _ h3).1 z4
theorem a4t {α β:Type}{J:It}{xs:List FV}{n m:Nat}{tg:Tg}{t:BW}{QH:Hp->Prop}{fr:β->Cn}{P:α->β->Hp->Prop}{N:α->Nat}{Cm:List FV->α->a0c->Prop}{em:α->a0c->(α->a0c->Prop)->Prop}{eh:L2.St->Hp->(Hp->Prop)->Prop}{a0:α}{b0:β}
  (I:Iv K (fr b0) md L σ S H)(hJ:ItR K c md J xs S)(hL:L.length=n)(hmd:md.length<=n)(ht:a3m md tg=true)(hg:a7c n tg=true)(p0:P a0 b0 S)(n0:N a0=0)(h:Cm xs a0 L)
  (hU:∀ a b L σ S H,Iv K (fr b) md L σ S H->P a b S->Iv K c md L σ S H)(hP:∀ a b S S',P a b S->Same S S'->P a b S')
  (hC:∀ x xs a L,Cm (x :: xs) a L->gW tg x (L++Γj m none) λL1=>t L1 λb L2=>if b=true then em a L2 (λa' L4=>Cm xs a' (L4.take n)) else Cm xs a (L2.take n))
  (hE:∀ a b L3 σ2 S3 H3 K' Z,N a<xs.length->Iv K (fr b) md L3 σ2 S3 H3->P a b S3->em a L3 K'->(∀ a' b' L4 S4 H4,K' a' L4->Iv K (fr b') md L4 σ2 S4 H4->P a' b' S4->Same S3 S4->N a'<=N a+1->Z H4)->eh σ2 H3 Z)
  (k:∀ a b L' S' H',Cm [] a L'->Iv K (fr b) md L' σ S' H'->P a b S'->Same S S'->QH H') :
  ∃ W:Nat->Nat->Hp->Prop,(∃ m,W 0 m H)/\∀ i j H,W i j H ->
   (J.stop i H/\QH H) ∨ (J.go i H/\∀ x H',J.yld i H x H'->gT K tg x (σ++Γj m none) H' λσ2 H2=>Wk (σ++Γj m none) σ2/\lb K md t σ2 H2 λb H3 =>
    if b=true then eh σ2 H3 λH4=>∃ m',m'<j/\W (i+1) m' H4 else ∃ m',m'<j/\W (i+1) m' H3):=by
 have hl:σ.length=n:=by rw[<- I.len];exact hL
 refine⟨λi j H1=>∃ L S1 a b,j=(xs.drop i).length/\Iv K (fr b) md L σ S1 H1/\P a b S1/\Same S S1/\L.length=n/\N a<=i/\Cm (xs.drop i) a L,⟨_,L,S,a0,b0,rfl,I,p0,Same.refl S,hL,Nat.le_of_eq n0,by rw[List.drop_zero];exact h⟩,?_⟩
 rintro i j H1 ⟨L,S1,a,b,rfl,I,r,s,hL,hps,hc⟩
 obtain⟨j1,j2⟩:=hJ i L σ S1 H1 (hU _ _ _ _ _ _ I r) s
 cases hd:xs.drop i with
 | nil =>
  left
  rw[hd] at hc
  exact⟨j1 (List.getElem?_eq_none_iff.mpr (List.drop_eq_nil_iff.mp hd)),k a b L S1 H1 hc I r s⟩
 | cons p rest =>
  right
  rw[hd] at hc
  have hi:xs[i]?=some p:=by
   have:=congrArg (·[0]?) hd
   simpa using this
  have hd':xs.drop (i+1)=rest:=by
   have:=congrArg List.tail hd
   simpa[List.tail_drop] using this
  have hix:i<xs.length:=(List.getElem?_eq_some_iff.mp hi).1
  obtain⟨go,yl⟩:=j2 p hi
  refine⟨go,λx H2 y=>?_⟩
  obtain⟨S2,s2,tr,rx⟩:=yl x H2 y
  have I2:=(tr _ _ _ _ I).more m
  obtain⟨σ2,L2,gq,q2,I2,len2,far⟩:=b9e ht I2 rx (hC _ _ _ _ hc)
  have l2:n<=σ2.length:=by rw[len2,List.length_append,hl];lia
  have far':∀ q,q<n->σ2[q]?=σ[q]?:=λq hq=>by rw[far n hg q hq,List.getElem?_append_left (by rw[hl];exact hq)]
  refine gq _ ⟨⟨len2,λq v hv=>?_⟩,?_⟩
  ·have hq:q<n:=by
    by_cases h:q<σ.length
    ·rw[<- hl];exact h
    ·rw[List.getElem?_append_right (by lia),List.getElem?_replicate] at hv
     split at hv<;>cases hv
   rw[far n hg q hq];exact hv
  ·refine⟨_,L2,S2,_,I2,q2,λb1 L3 hb3 S3 H3 I3 s3=>?_⟩
   have ln:∀ {c':Cn}{L4:a0c}{S4 H4:Hp},Iv K c' md L4 σ2 S4 H4->(L4.take n).length=n:=λI4=>by rw[List.length_take,I4.len];lia
   show ite _ _ _
   cases b1 with
   | false =>
    rw[if_neg Γk] at hb3 ⊢
    exact⟨rest.length,by simp,L3.take n,S3,a,b,by rw[hd'],I3.take hmd hl l2 far',hP _ _ _ _ r (s2.trans s3),s.trans (s2.trans s3),ln I3,by lia,by rw[hd'];exact hb3⟩
   | true =>
    rw[if_pos rfl] at hb3 ⊢
    exact hE a b L3 σ2 S3 H3 _ _ (by lia) I3 (hP _ _ _ _ r (s2.trans s3)) hb3 λa' b' L4 S4 H4 hv I4 r4 s4 n4=>⟨rest.length,by simp,L4.take n,S4,a',b',by rw[hd'],I4.take hmd hl l2 far',r4,s.trans (s2.trans (s3.trans s4)),ln I4,by lia,by rw[hd'];exact hv⟩
theorem Iv.newPr {acc:Addr}{o:HO}(I:Iv K { c with pr:=(acc,o) :: c.pr } md L σ S H)(h0:c.H0 acc=none)(hp:∀ p∈c.pr,p.1≠acc)(hz:∀ p∈c.fz,∃ o,(p.2,o)∈c.pr):H acc=some o/\S acc=none/\a7k c md L σ acc:=by
 obtain⟨g1,g2,g3⟩:=I.prs (acc,o) Γn
 refine⟨g1,g2,h0,hp,λq w hm hq hs=>?_⟩
 by_cases mo:(a0j md q).w=true
 ·exact g3 q w mo hq hs
 ·have mo:a0j md q=.frz:=by cases z:a0j md q with|imm=>exact absurd z hm|frz=>rfl|_=>rw[z] at mo;exact absurd rfl mo
  obtain⟨b,f1⟩:=I.fzm q w mo hq
  obtain⟨_,f2,_⟩:=I.fzs _ f1
  rw[hs] at f2;cases f2
  obtain⟨ys,f3⟩:=hz _ f1
  exact hp _ f3 rfl
theorem c3x {J:It}{xs:List FV}{n m:Nat}{tg:Tg}{t:BW}{e:EW}{Q:VK}{Q1:List FV->a0c->Prop}(I:Iv K c md L σ S H)(hJ:ItR K c md J xs S)(hL:L.length=n)(hmd:md.length<=n)(ht:a3m md tg=true)(hg:a7c n tg=true)(hb:xs.length<=big)(h:a4u n m tg t e xs [] L Q1)
  (k:∀ acc ps L' S' H',H acc=none->Q1 ps L'->a4f K S' H' acc (.lst ps)->a7k c md L' σ acc->Iv K c md L' σ S' H'->Same S S'->Q (.ref acc) H') :
  ∀ acc,H acc=none->∃ W:Nat->Nat->Hp->Prop,(∃ m,W 0 m (upd H acc (.lst [])))/\∀ i j H,W i j H ->
   (J.stop i H/\Q (.ref acc) H) ∨ (J.go i H/\∀ x H',J.yld i H x H'->gT K tg x (σ++Γj m none) H' λσ2 H2=>Wk (σ++Γj m none) σ2/\lb K md t σ2 H2 λb H3 =>
    if b=true then emL (lv K md e) acc σ2 H3 λH4=>∃ m',m'<j/\W (i+1) m' H4 else ∃ m',m'<j/\W (i+1) m' H3):=by
 intro acc hacc
 have h0:=I.h0 hacc
 have hp:∀ p∈c.pr,p.1≠acc:=(I.fresh hacc).2.1
 have hz:=I.fzp
 have hbl:=a1n
 refine a4t (fr:=λus=>{ c with pr:=(acc,.lst us) :: c.pr }) (P:=λps us S=>RVs K S ps us) (N:=List.length) (Cm:=λxs ps L=>a4u n m tg t e xs ps L Q1) (em:=λps L3 K'=>e L3 λv L4=>K' (ps++[v]) L4) (a0:=[]) (b0:=[]) ((I.lay hacc _).prot a0e (I.sn hacc) λj w hm hj=>(I.fresh hacc).2.2 j w (Mo.w_imm hm) hj) hJ hL hmd ht hg rfl rfl h (λ_ _ _ _ _ _ I _=>I.unprot hz) (λ_ _ _ _ r s=>r.mono s) (λ_ _ _ _ h=>h) (λps us L3 σ2 S3 H3 K' Z hn I3 r hv kz=>?_) λps us L' S' H' q I' r s'=>?_
 ·refine⟨_,L3,S3,_,I3,hv,λv L4 hv u S4 H4 r4 I4 s4=>?_⟩
  have lr:=r.length
  exact⟨us,(I4.prs (acc,.lst us) Γn).1,by lia,kz _ (us++[u]) L4 S4 _ hv (I4.regrow h0 hp hz) ((r.mono s4).append (RVs.one r4)) s4 (by simp)⟩
 ·obtain⟨g1,g2,f⟩:=I'.newPr h0 hp hz
  exact k acc ps L' S' H' hacc q ⟨g2,ps,us,rfl,g1,r⟩ f (I'.unprot hz) s'
end
def b5m:Expr->Bool
 | .Set ..=>true
 | _=>false
theorem b0v {x:Expr}{env:Env}(h:b5m x=false):∀ v,foldedSetIterable x env v=pure v:=by
 intro v
 cases x<;>first|rfl|(cases h;done)
def CC.tn (C:CC) (i:Nat)(x:Str):Bool:=decide (C.N[i]?=some x) && C.loc x
def d8f (outer:List (Str×NameKind))(names:List (Str×NameKind)):List (Str×NameKind) :=
 names.map λ(n,k)=>if (k == NameKind.free && outer.lookup n == some .cell) then (n,NameKind.cell) else (n,k)
def CC.sub (C:CC)(scope:Scope)(own:List Str)(md:Md):CC:=⟨C.N.map (a8x own)++own,d8f C.sc scope.names,C.fns,md,false,scope.names,C.ms,C.fl⟩
def CC.scOk (C:CC)(scope:Scope)(own:List Str):Bool :=
 decide (scope.kind=.function) && scope.names.all (λp=>decide (p.2=.cell->scope.names.lookup p.1=some .cell)) && scope.names.all (λp=>decide (p.2=.local->scope.names.lookup p.1=some .local)) &&
 scope.names.all (λp=>decide (p.2=.free->(C.sc.lookup p.1=some .cell ∨ C.sc.lookup p.1=some .free))) && C.N.all (λx=>if own.contains x then decide (scope.names.lookup (d5l x)=none) else decide (scope.names.lookup x≠some .local/\scope.names.lookup x≠some .cell)) && decide ((C.N.map (a8x own)++own).Nodup)
def d2n:Md->Md->Bool
 | [],_=>true
 | a :: md,[]=>decide (a=.imm) && d2n md []
 | a :: md,b :: md'=>(decide (a=.imm) || !decide (b=.imm)) && d2n md md'
theorem a6q:∀ {md md':Md},d2n md md'=true->∀ j,a0j md j≠.imm->a0j md' j≠.imm
 | [],_,_,j,h=>absurd rfl h
 | a :: md,[],h,0,h0=>absurd (de (b2 h).1) h0
 | a :: md,[],h,j+1,h0=>a6q (md:=md) (md':=[]) (b2 h).2 j h0
 | a :: md,b :: md',h,0,h0=>λz=>by
  have h:=(b2 h).1
  have h0:a≠.imm:=h0
  have z:b=.imm:=z
  simp[h0,z] at h
 | a :: md,b :: md',h,j+1,h0=>a6q (md:=md) (md':=md') (b2 h).2 j h0
def FGs (X:Cx)(es:List Expr)(is:List Nat):Prop:=PGs X.nox es (gTs is)/\(assignEach es X.env).length=is.length/\(assignEach es X.env).findIdx? (·.1)=none
def FTs (X:Cx)(C:CC)(xs:List Expr)(t:BW):Prop:=PTs X.nox xs (lb X.K C.md t)
section
variable {X:Cx}{C:CC}{n:Nat}{sp:Γd->Nat->Sp}{a b x:Expr}{xs:List Expr}{pos p:Pos}{i k:Nat}{nx:Str}{is:List Nat}{t u:BW}
theorem Good.ix (G:Good X C n sp){y:Str}(h:decide (C.N[i]?=some y)=true):X.N[i]?=some y:=by rw[G.N];exact de h
theorem Good.nd' (G:Good X C n sp):X.N.Nodup:=by rw[G.N];exact G.nd
theorem e0p (G:Good X C n sp)(h:C.tn i nx=true):FG X (.Name nx p) (.nm i):=by
 have h:=b2 h
 obtain⟨l1,l2⟩:=G.loc h.2
 exact c6t (X:=X.nox) G.nd' (G.ix h.1) l1 l2
theorem e0o:FGs X [] []:=⟨c6s,rfl,rfl⟩
theorem d5p (G:Good X C n sp)(h:C.tn i nx=true)(r:FGs X xs is):FGs X (.Name nx p :: xs) (i :: is):=by
 obtain⟨h1,h2,h3⟩:=r
 refine⟨c2a (e0p G h) h1 rfl,?_,?_⟩
 ·show (assignEach xs X.env).length+1=is.length+1
  rw[h2]
 ·show ((false,assign (.Name nx p) X.env) :: assignEach xs X.env).findIdx? (·.1)=none
  rw[List.findIdx?_cons]
  simp[h3]
theorem d3h (G:Good X C n sp)(r:FGs X xs is):FG X (.Tuple xs k p) (.tp is):=d1g (X:=X.nox) G.calm r.1 r.2.1 r.2.2
theorem PTs.imp {e:List Expr}{t u:TT}(h:PTs X e t)(f:∀ σ H Q,u σ H Q->t σ H Q):PTs X e u:=λpins s σ H Q I hu=>h pins s σ H Q I (f σ H Q hu)
theorem e0b:FTs X C [] a1r:=PTs.imp b7f λσ H Q ⟨c,L,S,Q0,I,h,k⟩=>k true L h S H I (Same.refl S)
theorem e0a (h1:FB X C a t):FTs X C [a] t:=PTs.imp (c1u h1 (b7f (X:=X.nox))) λσ H Q ⟨c,L,S,Q0,I,h,k⟩ =>
 ⟨c,L,S,_,I,h,λr L1 q S1 H1 I1 s1=>by
  cases r with
  | true=>rw[if_pos rfl];exact k true L1 q S1 H1 I1 s1
  | false=>rw[if_neg Γk];exact k false L1 q S1 H1 I1 s1⟩
theorem Good.sub (G:Good X C n sp){scope:Scope}{own:List Str}(h:C.scOk scope own=true)(md:Md):CScope X scope own/\∀ fp D s H,Good (cxC X scope own fp D s H) (C.sub scope own md) n sp:=by
 simp only[CC.scOk,Bool.and_eq_true,decide_eq_true_eq,List.all_eq_true] at h
 obtain⟨⟨⟨⟨⟨h1,h2⟩,h3⟩,h4⟩,h5⟩,h6⟩:=h
 refine⟨⟨h1,λp hp=>by simpa using h2 p hp,λp hp=>by simpa using h3 p hp,λp hp hk=>?_,λx hx hw=>?_,λx hx hw=>?_⟩,λfp D s H=>⟨?_,?_,h1,h6,G.calm,(λx z=>z),G.room,G.fns,G.blt,G.mts,G.fls⟩⟩
 ·have:=h4 p hp
  show X.env.scope.names.lookup p.1=_ ∨ X.env.scope.names.lookup p.1=_
  rw[G.sc];exact this hk
 ·have:=h5 x (by rw[<- G.N];exact hx)
  rw[if_neg (by rw[hw];exact Γk)] at this
  exact de this
 ·have:=h5 x (by rw[<- G.N];exact hx)
  rw[if_pos hw] at this
  exact de this
 ·show X.N.map (a8x own)++own=C.N.map (a8x own)++own
  rw[G.N]
 ·show (relabel scope X.env).names=d8f C.sc scope.names
  unfold relabel d8f
  simp only
  refine List.map_congr_left λp hp=>?_
  obtain⟨nm,kd⟩:=p
  show (if (kd == NameKind.free && X.env.scope.kind == .function && X.env.scope.names.lookup nm == some .cell)=true then (nm,NameKind.cell) else (nm,kd))=_
  rw[G.kind,G.sc]
  simp
variable {scope:Scope}{own:List Str}{elt tgx iter:Expr}{ifs:List Expr}{it:AW}{tg:Tg}{e:EW}{nn m:Nat}{md':Md}
structure CompOk (X:Cx)(C:CC) (n:Nat)(sp:Γd->Nat->Sp)(scope:Scope)(own:List Str)(elt tgx iter:Expr)(ifs:List Expr) (nn m:Nat)(md':Md)(it:AW)(tg:Tg)(t:BW)(e:EW):Prop where
 st:(C.scOk scope own && decide (C.N.length=nn) && decide (own.length=m) && decide (md'.length<=nn) && d2n C.md md' && a3m md' tg && a7c nn tg && !b5m iter)=true
 it:FI X C md' tgx iter it
 tg:∀ X',Good X' (C.sub scope own md') n sp->FG X' tgx tg
 ts:∀ X',Good X' (C.sub scope own md') n sp->FTs X' (C.sub scope own md') ifs t
 el:∀ X',Good X' (C.sub scope own md') n sp->FE X' (C.sub scope own md') elt e
theorem CompOk.run (G:Good X C n sp)(h:CompOk X C n sp scope own elt tgx iter ifs nn m md' it tg t e){σ:L2.St}{H:Hp}{Q:VK}(hq:lf X.K C.md (a1q nn m it tg t e) σ H Q):c5u (li X.K C.md md' it) (gT X.K tg) (lb X.K md' t) (lv X.K md' e) own.length σ H Q:=by
 have h0:=b2 h.st;have h1:=b2 h0.1;have h2:=b2 h1.1;have h3:=b2 h2.1;have h4:=b2 h3.1;have h5:=b2 h4.1;have h6:=b2 h5.1
 obtain⟨c,L,S,Q0,I,hh,k⟩:=hq
 refine⟨c,L,S,_,I,hh,λxs L1 hx J c' S1 H1 I1 un e0 hJ s1=>?_⟩
 obtain⟨hl,hb,hc⟩:=hx
 rw[de h5.2]
 refine c3x I1 hJ hl (de h4.2) h2.2 h1.2 hb hc λacc ps L' S' H' hn q o fr I' s'=>k _ L' q acc S' H' o ⟨by rw[<- e0];exact fr.1,((un _ _ _ _ I1).fresh hn).2.1,λj w hm=>fr.2.2 j w (a6q h3.2 j hm)⟩ (un _ _ _ _ I') (s1.trans s')
theorem CompOk.blk (G:Good X C n sp)(h:CompOk X C n sp scope own elt tgx iter ifs nn m md' it tg t e):CScope X scope own/\(∀ fp D s H,PG (cxC X scope own fp D s H) tgx (gT X.K tg)/\PTs (cxC X scope own fp D s H) ifs (lb X.K md' t)/\PE (cxC X scope own fp D s H) elt (lv X.K md' e))/\∀ v,foldedSetIterable iter X.env v=pure v:=by
 have h0:=b2 h.st;have h1:=b2 h0.1;have h2:=b2 h1.1;have h3:=b2 h2.1;have h4:=b2 h3.1;have h5:=b2 h4.1;have h6:=b2 h5.1
 obtain⟨s1,s2⟩:=G.sub h6.1 md'
 exact⟨s1,λfp D s H=>⟨h.tg _ (s2 fp D s H),h.ts _ (s2 fp D s H),h.el _ (s2 fp D s H)⟩,b0v (nb h0.2)⟩
theorem a0o (G:Good X C n sp)(h:CompOk X C n sp scope own elt tgx iter ifs nn m md' it tg t e):FF X C (.ListComp elt [⟨tgx,iter,ifs,0⟩] scope pos) (a1q nn m it tg t e):=by
 obtain⟨s1,s2,s3⟩:=h.blk G
 exact PE.imp (b7o G.calm s1 h.it s2 s3) λσ H Q q=>h.run G q
end
def e4g (K:Γd)(c:Cn)(S H:Hp)(v:FV)(x:V):Bool->Prop
 | false=>RV K S v x
 | true=>∃ a,x=.ref a/\a4f K S H a v/\c.H0 a=none
def EndQ (K:Γd)(c:Cn)(fr:Bool)(D:Ends)(σ:L2.St)(S H:Hp):FFl->Prop
 | .next=>D.nx σ H
 | .brk=>D.bk σ H
 | .cont=>D.ct σ H
 | .ret v=>∀ x,e4g K c S H v x fr->D.rt x H
def ls (K:Γd)(md:Md)(fr:Bool)(s:SW):TS:=λD σ H=>∃ c L S Q0,Iv K c md L σ S H/\s L Q0/\∀ fl L',Q0 fl L'->∀ σ' S' H',Iv K c md L' σ' S' H'->Same S S'->EndQ K c fr D σ' S' H' fl
def FS (X:Cx)(C:CC)(fr:Bool)(x:Stmt)(s:SW):Prop:=PS X.nox x (ls X.K C.md fr s)
def FSs (X:Cx)(C:CC)(fr:Bool)(x:List Stmt)(s:SW):Prop:=PSs X.nox x (ls X.K C.md fr s)
def CC.wmd (C:CC)(md:Md):CC:=⟨C.N,C.sc,C.fns,md,C.top,C.oc,C.ms,C.fl⟩
section
variable {X:Cx}{C:CC}{n:Nat}{sp:Γd->Nat->Sp}{fr:Bool}{a b x y:Expr}{e ea eb:EW}{pos p px py:Pos}{i j k:Nat}{nx ny:Str}{is:List Nat}{st:Stmt}{sts:List Stmt}{s r:SW}
variable {K:Γd}{c:Cn}{md:Md}{L:a0c}{σ:L2.St}{S H:Hp}
theorem Good.wmd (G:Good X C n sp)(md:Md):Good X (C.wmd md) n sp:=⟨G.N,G.sc,G.kind,G.nd,G.calm,G.fn,G.room,G.fns,G.blt,G.mts,G.fls⟩
theorem PS.imp {e:Stmt}{t u:TS}(h:PS X e t)(f:∀ D σ H,u D σ H->t D σ H):PS X e u:=λpins s σ H D I hu=>h pins s σ H D I (f D σ H hu)
theorem PSs.imp {e:List Stmt}{t u:TS}(h:PSs X e t)(f:∀ D σ H,u D σ H->t D σ H):PSs X e u:=λpins s σ H D I hu=>h pins s σ H D I (f D σ H hu)
theorem fs_nil:FSs X C fr [] a3i:=PSs.imp c6l λD σ H ⟨c,L,S,Q0,I,h,k⟩=>k .next L h σ S H I (Same.refl S)
theorem a4s (h:FS X C fr st s):FSs X C fr [st] s:=c6k h
theorem a0i (h:FS X C fr st s)(h2:FSs X C fr sts r):FSs X C fr (st :: sts) (a0p s r):=PSs.imp (c1w h h2) λD σ H ⟨c,L,S,Q0,I,h,k⟩ =>
 ⟨c,L,S,_,I,h,λfl L1 q σ1 S1 H1 I1 s1=>by
  cases fl with
  | next=>exact⟨c,L1,S1,_,I1,q,λfl L2 q σ2 S2 H2 I2 s2=>k fl L2 q σ2 S2 H2 I2 (s1.trans s2)⟩
  | brk=>exact k _ L1 q σ1 S1 H1 I1 s1
  | cont=>exact k _ L1 q σ1 S1 H1 I1 s1
  | ret v=>exact k _ L1 q σ1 S1 H1 I1 s1⟩
def a6s:Expr->Bool
 | .ListComp ..=>true
 | .SetComp ..=>true
 | .DictComp ..=>true
 | _=>false
theorem a3v {e:Expr}{t:Option Expr}{n:Nat}{env:Env}(h:a6s e=false):swapsWith e t n env=pure false:=by
 cases e<;>first|rfl|(cases h;done)
theorem e0g (hc:a6s a=false)(h:FE X C a e):FS X C fr (.Expr a pos) (c9k e):=PS.imp (c6n h (a3v hc)) λD σ H ⟨c,L,S,Q0,I,h,k⟩ =>
 ⟨c,L,S,_,I,h,λv L1 q x S1 H1 r I1 s1=>k .next L1 q σ S1 H1 I1 s1⟩
theorem fs_ret (h:FE X C a e):FS X C false (.Return (some a) pos) (a1i e):=PS.imp (b7h h) λD σ H ⟨c,L,S,Q0,I,h,k⟩ =>
 ⟨c,L,S,_,I,h,λv L1 q x S1 H1 r I1 s1=>k (.ret v) L1 q σ S1 H1 I1 s1 x r⟩
theorem e0f (h:FF X C a e):FS X C true (.Return (some a) pos) (a1i e):=PS.imp (b7h h) λD σ H ⟨c,L,S,Q0,I,h,k⟩ =>
 ⟨c,L,S,_,I,h,λv L1 q l S1 H1 o fr I1 s1=>k (.ret v) L1 q σ S1 H1 I1 s1 _ ⟨l,rfl,o,fr.1⟩⟩
theorem Iv.mine (I:Iv K c md L σ S H){v:FV}{a:Addr}(hi:i≠0)(m:a0j md i≠.imm)(e:L[i]?=some (some v))(e1:σ[i]?=some (some (.ref a)))(ng:(a0j md i).g=false:=by first|rfl|(simp only[*];rfl)):c.H0 a=none:=by
 obtain⟨b,e2,_,h⟩:=I.own i v m e
 rw[e1] at e2;cases e2
 rcases h with h|h|⟨j,h⟩
 ·obtain⟨g1,g2,w,g3⟩:=I.lent a h
  exact absurd (I.dis i 0 v w a m g1 e g3 e1 g2) hi
 ·exact h
 ·obtain⟨g1,g2,w,g3⟩:=I.lnt1 _ h
  have:=I.dis i j v w a m (λz=>by rw[z] at g1;cases g1) e g3 e1 g2
  subst this
  rw[ng] at g1;cases g1
theorem e0e (G:Good X C n sp)(h:C.nm i nx=true)(m:(decide (a0j C.md i=.own) && decide (i≠0))=true):FS X C true (.Return (some (.Name nx p)) pos) (a1i (a0b i)):=PS.imp (b7h (a1w G h)) λD σ H ⟨c,L,S,Q0,I,h,k⟩=>by
 have m:=b2 m
 have mi:a0j C.md i≠.imm:=λz=>by rw[de m.1] at z;cases z
 obtain⟨v,e,q⟩:=wpx h
 have e:=(a2f _ _ _).mp e
 obtain⟨l,e1,o,_⟩:=I.own i v mi e
 exact⟨_,e1,k (.ret v) L q σ S H I (Same.refl S) _ ⟨l,rfl,o,I.mine (de m.2) mi e e1 (by rw[de m.1];rfl)⟩⟩
theorem fs_if {t:BW}{xa xb:List Stmt}(h:FB X C a t)(ha:FSs X C fr xa s)(hb:FSs X C fr xb r):FS X C fr (.If a xa xb pos) (sIf t s r):=PS.imp (d8s h ha hb) λD σ H ⟨c,L,S,Q0,I,h,k⟩ =>
 ⟨c,L,S,_,I,h,λv L1 q S1 H1 I1 s1=>by
  cases v with
  | true=>rw[if_pos rfl] at q ⊢;exact⟨c,L1,S1,_,I1,q,λfl L2 q σ2 S2 H2 I2 s2=>k fl L2 q σ2 S2 H2 I2 (s1.trans s2)⟩
  | false=>rw[if_neg Γk] at q ⊢;exact⟨c,L1,S1,_,I1,q,λfl L2 q σ2 S2 H2 I2 s2=>k fl L2 q σ2 S2 H2 I2 (s1.trans s2)⟩⟩
theorem b3f {tg:Tg}{te:TE}(ht:a3m C.md tg=true)(hte:∀ σ H Q,lv X.K C.md e σ H Q->te σ H Q)(h:PS X.nox st (c0z te (gT X.K tg))):FS X C fr st (a1t e tg):=PS.imp h λD σ H ⟨c,L,S,Q0,I,h,k⟩=>hte _ _ _
 ⟨c,L,S,_,I,h,λv L1 q x S1 H1 r I1 s1=>by
  obtain⟨σ',L',g,q,I2,_⟩:=b9e ht I1 r q
  exact g _ (k .next L' q σ' S1 H1 I2 s1)⟩
theorem c9b {te:TE}(m:a0j C.md i=.imm)(hte:∀ σ H Q,lf X.K C.md e σ H Q->te σ H Q)(h:PS X.nox st (c0z te (a5d i))):FS X C fr st (a1t e (.nm i)):=PS.imp h λD σ H ⟨c,L,S,Q0,I,h,k⟩=>hte _ _ _
 ⟨c,L,S,_,I,h,λv L1 q l S1 H1 o f I1 s1=>by
  obtain⟨u,hu,I2,r⟩:=b8a I1 o f
  exact k .next _ q _ _ H1 (I2.setI m r) (s1.trans (a0r o.1))⟩
theorem b3g {te:TE}(m:(decide (a0j C.md i=.own) && decide (i≠0))=true)(hte:∀ σ H Q,lf X.K C.md e σ H Q->te σ H Q)(h:PS X.nox st (c0z te (a5d i))):FS X C fr st (a1t e (.nm i)):=PS.imp h λD σ H ⟨c,L,S,Q0,I,h,k⟩=>hte _ _ _
 ⟨c,L,S,_,I,h,λv L1 q l S1 H1 o f I1 s1=>by
  have m:=b2 m
  exact k .next _ q _ _ H1 (I1.set (λ_ _=>de m.2) (λz=>by rw[de m.1] at z;cases z) (.inr ⟨de m.1,l,rfl,o,f.1,f.2.1,λj w _ hm hj=>f.2.2 j w hm hj⟩)) s1⟩
theorem c1y (G:Good X C n sp){te:TE}(ht:C.tn i nx=true)(hs:swapsWith a (some (.Name nx px)) pos.line X.env=pure false)(h:PE X.nox a te):PS X.nox (.Assign [.Name nx px] a pos) (c0z te (a5d i)):=by
 have ht:=b2 ht
 obtain⟨l1,l2⟩:=G.loc ht.2
 exact d1b (X:=X.nox) G.nd' (G.ix ht.1) l1 h hs l2
theorem fs_set (G:Good X C n sp)(ht:C.tn i nx=true)(m:a0j C.md i=.imm)(hc:a6s a=false)(h:FE X C a e):FS X C fr (.Assign [.Name nx px] a pos) (a1t e (.nm i)) :=
 b3f (tg:=.nm i) (by simpa[a3m] using m) (λ_ _ _ z=>z) (c1y G ht (a3v hc) h)
theorem e0d (G:Good X C n sp)(ht:C.tn i nx=true)(m:(decide (a0j C.md i=.own) && decide (i≠0))=true)(hc:a6s a=false)(h:FF X C a e):FS X C fr (.Assign [.Name nx px] a pos) (a1t e (.nm i)) :=
 b3g m (λ_ _ _ z=>z) (c1y G ht (a3v hc) h)
def swC (C:CC)(x:Str)(px:Pos)(scope:Scope)(p:Pos):Bool:=decide (C.sc.lookup x=some .local) && (px.line == p.line) && !(scope.names.any λ(n,k)=>n == x && (k == .local || k == .cell))
theorem c5v {elt:Expr}{gs:List Comprehension}{scope:Scope}{p px:Pos}{x:Str}{n:Nat}{env:Env}(hk:env.scope.kind=.function) :
  swapsWith (.ListComp elt gs scope p) (some (.Name x px)) n env=pure (decide (env.scope.names.lookup x=some .local) && (px.line == p.line) && !(scope.names.any λ(n,k)=>n == x && (k == .local || k == .cell))):=by
 have hb:env.blockKind=.function:=by unfold Env.blockKind;rw[hk];rfl
 have:(env.kindOf x == some .local)=decide (env.scope.names.lookup x=some .local):=by
  rw[Bool.eq_iff_iff];simp[Env.kindOf]
 unfold swapsWith
 simp only[hb,this]
 rfl
variable {scope:Scope}{own:List Str}{elt tgx iter:Expr}{ifs:List Expr}{it:AW}{tg:Tg}{t:BW}{nn m:Nat}{md':Md}
theorem c3w (G:Good X C n sp)(ht:C.tn i nx=true)(h:CompOk X C n sp scope own elt tgx iter ifs nn m md' it tg t e):∃ te:TE,(∀ σ H Q,lf X.K C.md (a1q nn m it tg t e) σ H Q->te σ H Q)/\PS X.nox (.Assign [.Name nx px] (.ListComp elt [⟨tgx,iter,ifs,0⟩] scope p) pos) (c0z te (a5d i)):=by
 have hsw:swapsWith (.ListComp elt [⟨tgx,iter,ifs,0⟩] scope p) (some (.Name nx px)) pos.line X.env=pure (swC C nx px scope p):=by rw[c5v G.kind,G.sc];rfl
 obtain⟨s1,s2,s3⟩:=h.blk G
 cases hb:swC C nx px scope p with
 | false =>
  rw[hb] at hsw
  exact⟨_,λσ H Q q=>h.run G q,c1y G ht hsw (b7o G.calm s1 h.it s2 s3)⟩
 | true =>
  rw[hb] at hsw
  have hlo:X.env.scope.names.lookup nx=some .local:=by
   rw[G.sc]
   have hb:=b2 hb
   exact de (b2 hb.1).1
  exact⟨_,λσ H Q q=>h.run G q,b5g G.calm s1 G.nd' (G.ix (b2 ht).1) hlo h.it s2 hsw s3⟩
theorem b9f (G:Good X C n sp)(ht:C.tn i nx=true)(hm:a0j C.md i=.imm)(h:CompOk X C n sp scope own elt tgx iter ifs nn m md' it tg t e):FS X C fr (.Assign [.Name nx px] (.ListComp elt [⟨tgx,iter,ifs,0⟩] scope p) pos) (a1t (a1q nn m it tg t e) (.nm i)) :=
 let ⟨te,h1,h2⟩:=c3w G ht h
 c9b hm h1 h2
def tupX:Expr->Bool
 | .Tuple ..=>true
 | _=>false
def b5d:Expr->Bool
 | .Starred ..=>true
 | _=>false
theorem fs_tup (G:Good X C n sp){ts:List Expr}(hm:a3m C.md (.tp is)=true)(hn:tupX a=false)(hg:FGs X ts is)(h:FE X C a e):FS X C fr (.Assign [.Tuple ts k p] a pos) (a1t e (.tp is)) :=
 b3f (tg:=.tp is) hm (λ_ _ _ z=>z) (b7j (X:=X.nox) h (d3h G hg) (by cases a<;>rfl) (by cases a<;>first|rfl|(cases hn;done)) rfl)
def b0f (sc:List (Str×NameKind))(t:Expr):Bool:=match t with
 | .Name x _=>!(decide (sc.lookup x=some .local))
 | _=>true
theorem d7h {ts vs:List Expr}{k k2:Nat}{tp tp2:Pos}{env:Env}(h:4<=ts.length ∨ ∃ t∈ts,b0f env.scope.names t=true):swappedStores [.Tuple ts k tp] (.Tuple vs k2 tp2) env=pure none:=by
 unfold swappedStores
 simp only
 split
 ·rfl
 ·rename_i h1
  split
  ·rfl
  ·have hlen:ts.length=2 ∨ ts.length=3:=by
    simp only[Bool.or_eq_true,Bool.not_eq_true',bne_iff_ne,ne_eq,not_or,Bool.not_eq_false] at h1
    simpa using h1.1.1
   obtain⟨t,ht,hn⟩:∃ t∈ts,b0f env.scope.names t=true:=by
    rcases h with h|h
    ·lia
    ·exact h
   have lt:∀ (l:List Expr)(f:Expr->Option Str),t∈l->f t=none->(l.filterMap f).length<l.length:=by
    intro l f
    induction l with
    | nil=>intro h;cases h
    | cons a r ih =>
     intro hm hf
     have le:=List.length_filterMap_le f r
     rcases List.mem_cons.mp hm with rfl|hm
     ·rw[List.filterMap_cons,hf,List.length_cons];show (List.filterMap f r).length<_;lia
     ·rw[List.filterMap_cons]
      have:=ih hm hf
      split<;>simp only[List.length_cons]<;>lia
   have:=lt ts (fun
    | .Name id pos=>if env.kindOf id == some .local && pos.line == (ts.head?.map (·.pos.line)).getD 0 then some id else none
    | _=>none) ht (by
     cases t with
     | Name x p =>
      have hx:¬ env.scope.names.lookup x=some .local:=by simpa[b0f] using hn
      have hk:(env.kindOf x == some NameKind.local)=false:=by
       cases hq:(env.kindOf x == some NameKind.local) with
       | false=>rfl
       | true=>exact absurd (show env.kindOf x=some .local by simpa using hq) hx
      simp only[hk,Bool.false_and,Γp,if_false]
     | _=>rfl)
   rw[if_pos]
   simp only[Bool.or_eq_true,bne_iff_ne,ne_eq]
   left
   exact Γo this
theorem e0c (G:Good X C n sp){ts vs:List Expr}{k2:Nat}{p2:Pos}(hm:a3m C.md (.tp is)=true)(hn:(decide (4<=ts.length) || ts.any λt=>b0f C.sc t)=true)(hg:FGs X ts is)(h:FE X C (.Tuple vs k2 p2) e):FS X C fr (.Assign [.Tuple ts k p] (.Tuple vs k2 p2) pos) (a1t e (.tp is)) :=
 b3f (tg:=.tp is) hm (λ_ _ _ z=>z) (b7j (X:=X.nox) h (d3h G hg) rfl (d7h (by
  show 4<=ts.length ∨ ∃ t∈ts,b0f X.env.scope.names t=true
  rw[G.sc]
  simpa using hn)) rfl)
theorem sw2 {x y:Str}{px py pt pt2:Pos}{kt k2:Nat}{a b:Expr}{env:Env}(hk:env.scope.kind=.function)(hx:env.scope.names.lookup x=some .local)(hy:env.scope.names.lookup y=some .local)(hxy:x≠y)(hl:(py.line == px.line)=true)
  (sa:b5d a=false)(sb:b5d b=false)(hf:(foldedForSure 8 a && foldedForSure 8 b)=false)(hc:(constantsAlone 8 a && constantsAlone 8 b)=false) :
  swappedStores [.Tuple [.Name x px,.Name y py] kt pt] (.Tuple [a,b] k2 pt2) env=pure (some [x,y]):=by
 have hb:env.blockKind=.function:=by unfold Env.blockKind;rw[hk];rfl
 have kx:env.kindOf x=some .local:=hx
 have ky:env.kindOf y=some .local:=hy
 unfold swappedStores
 have hyx:¬ y=x:=λz=>hxy z.symm
 have hs:([a,b].any fun|.Starred ..=>true|_=>false)=false:=by
  show (b5d a || (b5d b || false))=false
  rw[sa,sb];rfl
 have hf':[a,b].all (foldedForSure 8)=false:=by simpa using hf
 have hc':[a,b].all (constantsAlone 8)=false:=by simpa using hc
 have hlx:((some (Expr.Name x px)).map (·.pos.line)).getD 0=px.line:=rfl
 simp only[List.length_cons,List.length_nil,hb,hs,hf',hc',List.head?_cons,hlx,List.filterMap_cons,List.filterMap_nil,kx,ky,hl,beq_self_eq_true,Bool.and_self,if_true]
 simp[List.eraseDups_cons,hyx,bne,hxy]
 intro h
 exfalso
 rcases h with h|h
 ·cases a<;>first|(cases h;done)|(cases sa;done)
 ·cases b<;>first|(cases h;done)|(cases sb;done)
def d9a (C:CC) (i j:Nat)(x y:Str)(px py:Pos)(a b:Expr):Bool:=decide (C.N[i]?=some x) && decide (C.N[j]?=some y) && decide (i≠j) && decide (x≠y) && decide (C.sc.lookup x=some .local) && decide (C.sc.lookup y=some .local) && (py.line == px.line) && !b5d a && !b5d b && !(foldedForSure 8 a && foldedForSure 8 b) && !(constantsAlone 8 a && constantsAlone 8 b)
theorem fs_par (G:Good X C n sp){kt k2:Nat}{pt p2:Pos}(hm:a3m C.md (.tp [i,j])=true)(h:d9a C i j nx ny px py a b=true)(ha:FE X C a ea)(hb:FE X C b eb):FS X C fr (.Assign [.Tuple [.Name nx px,.Name ny py] kt pt] (.Tuple [a,b] k2 p2) pos) (a1t (a3r (a0a ea (a0a eb a0h))) (.tp [i,j])):=by
 have g0:=b2 h;have g1:=b2 g0.1;have g2:=b2 g1.1;have g3:=b2 g2.1;have g4:=b2 g3.1;have g5:=b2 g4.1;have g6:=b2 g5.1;have g7:=b2 g6.1;have g8:=b2 g7.1;have g9:=b2 g8.1
 have lx:X.env.scope.names.lookup nx=some .local:=by rw[G.sc];exact de g6.2
 have ly:X.env.scope.names.lookup ny=some .local:=by rw[G.sc];exact de g5.2
 have sa:a0k a=false:=by cases a<;>first|rfl|(exact nb g3.2)
 have sb:a0k b=false:=by cases b<;>first|rfl|(exact nb g2.2)
 refine PS.imp (d1c (X:=X.nox) G.calm G.nd' (G.ix g9.1) (G.ix g9.2) (de g8.2) lx ly (a0n ha (a0n hb a2n (a0f sb)) (a0f sa)) (sw2 (env:=X.env) G.kind lx ly (de g7.2) g4.2 (nb g3.2) (nb g2.2) (nb g1.2) (nb g0.2))) λD σ H ⟨c,L,S,Q0,I,h,k⟩=>?_
 have hm:=b2 (show (decide (a0j C.md i=.imm) && (decide (a0j C.md j=.imm) && true))=true from hm)
 refine⟨c,L,S,_,I,h,λv L1 q x S1 H1 r1 I1 s1=>⟨c,L1,S1,_,I1,q,λw L2 q y S2 H2 r2 I2 s2=>⟨x,y,rfl,?_⟩⟩⟩
 exact k .next _ q.2 _ S2 H2 ((I2.setI (de hm.1) (r1.mono s2)).setI (de (b2 hm.2).1) r2) (s1.trans s2)
theorem c1k {xo xi : Expr} {p : Pos} {env : Env} (h : a2w xi = false) : ∀ v, assign (.Subscript xo xi p) env v = (do
      let ov <- holding [v] (eval xo env)
      let iv <- holding [v,ov] (eval xi env)
      standAt p
      holding [v,ov,iv] (setItem ov iv v)
      release [v,ov,iv] []):=by
  intro v
  cases xi<;>first|rfl|(cases h;done)
theorem fs_ix (G:Good X C n sp)(hn:C.nm i nx=true)(m:a0j C.md i=.own)(hc:(!a6s a && !a2w b)=true)(ha:FE X C a ea)(hb:FE X C b eb):FS X C fr (.Assign [.Subscript (.Name nx px) b p] a pos) (c9j i eb ea):=by
 have hc:=b2 hc
 refine PS.imp (b7j (X:=X.nox) ha (d1h (a1w (pos:=px) G hn) hb c1l (c1k (nb hc.2))) (by simp only[swapsWithSole];exact a3v (nb hc.1)) rfl rfl) λD σ H ⟨c,L,S,Q0,I,h,k⟩=>?_
 have mi:a0j C.md i≠.imm:=λz=>by rw[m] at z;cases z
 obtain⟨v0,e,h⟩:=wpx h
 obtain⟨l,e1,_⟩:=I.own i v0 mi ((a2f _ _ _).mp e)
 refine⟨c,L,S,_,I,h,λv L1 q x S1 H1 r1 I1 s1=>⟨_,e1,c,L1,S1,_,I1,q,λw L2 q y S2 H2 r2 I2 s2=>?_⟩⟩
 obtain⟨v1,e2,q2⟩:=wpx q
 obtain⟨z,e3,q3⟩:=wpx q2
 have e2:=(a2f _ _ _).mp e2
 obtain⟨l',f1,⟨o1,ps,us,e9,o2,o3⟩,_⟩:=I2.own i v1 mi e2
 rw[e1] at f1;cases f1
 obtain⟨xs,g1,e3⟩:=bnd e3
 obtain⟨nn,g2,e3⟩:=bnd e3
 obtain⟨pp,g3,rfl⟩:=mpd e3
 cases a4g g1
 cases e9
 obtain rfl:w=.int nn:=by cases w<;>cases g2;rfl
 obtain rfl:y=.int nn:=r2
 refine⟨l,us,nn,pp,rfl,rfl,o2,by rw[<- o3.length];exact g3,?_⟩
 exact k .next _ q3 σ S2 _ (I2.write m e2 e1 (o3.set pp (r1.mono s2))) (s1.trans s2)
def d4q (f:Int->Int->Int):FV->FV->Option FV
 | .int a,.int b=>some (.int (f a b))
 | _,_=>none
theorem c8z {f:Int->Int->Int}{v w z:FV}(h:d4q f v w=some z):∃ a b,v=.int a/\w=.int b/\z=.int (f a b):=by
 obtain⟨a,rfl⟩:∃ a,v=.int a:=by cases v<;>first|exact⟨_,rfl⟩|cases h
 cases w<;>first|(cases h;exact⟨_,_,rfl,rfl,rfl⟩)|cases h
theorem d4o {f:Int->Int->Int}(m:a0j C.md i=.imm)(h:PS X.nox st (tAug i (lv X.K C.md e) (ipI f))):FS X C fr st (d5b (d4q f) i e):=PS.imp h λD σ H ⟨c,L,S,Q0,I,h,k⟩=>by
 obtain⟨v,e0,h⟩:=wpx h
 obtain⟨x,e1,r⟩:=I.imm i v m ((a2f _ _ _).mp e0)
 refine⟨x,e1,c,L,S,_,I,h,λw L1 q y S1 H1 r1 I1 s1=>?_⟩
 obtain⟨z,e2,q⟩:=wpx q
 obtain⟨a,b,rfl,rfl,rfl⟩:=c8z e2
 exact⟨a,b,r,r1,k .next _ q _ S1 H1 (I1.setI (v:=.int _) m rfl) s1⟩
theorem fs_add (G:Good X C n sp)(ht:C.tn i nx=true)(m:a0j C.md i=.imm)(h:FE X C a e):FS X C fr (.AugAssign (.Name nx px) .Add a pos) (d5b (d4q λi j=>i+j) i e):=by
 have ht:=b2 ht
 obtain⟨l1,l2⟩:=G.loc ht.2
 exact d4o m (c4m (X:=X.nox) G.nd' (G.ix ht.1) l1 h d3d l2)
theorem c8f {J:It}{xs:List FV}{D:Ends}{Q0:FFl->a0c->Prop}(I:Iv K c md L σ S H)(hJ:ItR K c md J xs S)(ht:a3m md tg=true)(h:c8g tg s xs L Q0)
  (k:∀ fl L',Q0 fl L'->∀ σ' S' H',Iv K c md L' σ' S' H'->Same S S'->EndQ K c fr D σ' S' H' fl) :
  ∃ W:Nat->Nat->L2.St->Hp->Prop,(∃ m,W 0 m σ H)/\∀ i m σ H,W i m σ H ->
   (J.stop i H/\D.nx σ H) ∨ (J.go i H/\∃ N:L2.St->Hp->Prop,(∀ σ' H',N σ' H'->∃ m',m'<m/\W (i+1) m' σ' H')/\∀ x H',J.yld i H x H'->gT K tg x σ H' λσ2 H2=>ls K md fr s { D with nx:=N,ct:=N,bk:=D.nx } σ2 H2):=by
 let W:Nat->Nat->L2.St->Hp->Prop:=λi j σ1 H1=>∃ L S1,j=(xs.drop i).length/\Iv K c md L σ1 S1 H1/\Same S S1/\c8g tg s (xs.drop i) L Q0
 refine⟨W,⟨_,L,S,rfl,I,Same.refl S,by rw[List.drop_zero];exact h⟩,?_⟩
 rintro i m σ1 H1 ⟨L,S1,rfl,I,s1,h⟩
 obtain⟨j1,j2⟩:=hJ i L σ1 S1 H1 I s1
 cases hd:xs.drop i with
 | nil =>
  rw[hd] at h
  exact .inl ⟨j1 (List.getElem?_eq_none_iff.mpr (List.drop_eq_nil_iff.mp hd)),k .next L h σ1 S1 H1 I s1⟩
 | cons p rest =>
  right
  rw[hd] at h
  have hi:xs[i]?=some p:=by
   have:=congrArg (·[0]?) hd
   simpa using this
  have hd':xs.drop (i+1)=rest:=by
   have:=congrArg List.tail hd
   simpa[List.tail_drop] using this
  obtain⟨go,yl⟩:=j2 p hi
  refine⟨go,λσ' H'=>∃ m',m'<rest.length+1/\W (i+1) m' σ' H',λσ' H' h=>h,λx H2 y=>?_⟩
  obtain⟨S2,s2,tr,rx⟩:=yl x H2 y
  have I2:=tr _ _ _ _ I
  obtain⟨σ2,L2,g,q,I3,_⟩:=b9e ht I2 rx h
  refine g _ ⟨c,L2,S2,_,I3,q,λfl L3 q σ3 S3 H3 I4 s3=>?_⟩
  have ss:=s1.trans (s2.trans s3)
  cases fl with
  | next=>exact⟨_,Nat.lt_succ_self _,L3,S3,by rw[hd'],I4,ss,by rw[hd'];exact q⟩
  | cont=>exact⟨_,Nat.lt_succ_self _,L3,S3,by rw[hd'],I4,ss,by rw[hd'];exact q⟩
  | brk=>exact k .next L3 q σ3 S3 H3 I4 ss
  | ret v=>exact k (.ret v) L3 q σ3 S3 H3 I4 ss
theorem a2d (G:Good X C n sp){body:List Stmt}(hc:(a3m md' tg && !b5m iter)=true)(hi:FI X C md' tgx iter it)(hg:FG X tgx tg)(hb:Good X (C.wmd md') n sp->FSs X (C.wmd md') fr body s):FS X C fr (.For tgx iter body [] pos) (a7o it tg s):=by
 have hc:=b2 hc
 refine PS.imp (d1d (X:=X.nox) PassesOwn.never G.calm hi hg (hb (G.wmd md')) (b0v (nb hc.2))) λD σ H ⟨c,L,S,Q0,I,h,k⟩=>?_
 refine⟨c,L,S,_,I,h,λxs L1 q J c' S1 H1 I1 un e0 hJ s1=>?_⟩
 refine c8f I1 hJ hc.1 q λfl L2 q σ2 S2 H2 I2 s2=>?_
 have:=k fl L2 q σ2 S2 H2 (un _ _ _ _ I2) (s1.trans s2)
 cases fl with
 | next=>exact this
 | brk=>exact this
 | cont=>exact this
 | ret v =>
  intro x r
  refine this x ?_
  cases fr with
  | false=>exact r
  | true =>
   obtain⟨a,r1,r2,r3⟩:=r
   exact⟨a,r1,r2,by rw[<- e0];exact r3⟩
theorem fs_whl {body:List Stmt}(hc:FB X C a t)(hb:FSs X C fr body s):FS X C fr (.While a body [] pos) (c9i t s):=by
 refine PS.imp (c1x (X:=X.nox) PassesOwn.never hc hb) λD σ H ⟨c,L,S,Q0,I,⟨m,h⟩,k⟩=>?_
 refine⟨λm σ1 H1=>∃ L S1,Iv X.K c C.md L σ1 S1 H1/\Same S S1/\c9f t s m L Q0,⟨m,L,S,I,Same.refl S,h⟩,?_⟩
 rintro m σ1 H1 ⟨L,S1,I1,s1,h⟩
 cases m with
 | zero=>exact h.elim
 | succ m =>
  refine⟨c,L,S1,_,I1,h,λv L1 q S2 H2 I2 s2=>?_⟩
  cases v with
  | false =>
   rw[if_neg Γk] at q ⊢
   exact k .next L1 q σ1 S2 H2 I2 (s1.trans s2)
  | true =>
   rw[if_pos rfl] at q ⊢
   refine⟨λσ' H'=>∃ m',m'<m+1/\∃ L S1,Iv X.K c C.md L σ' S1 H'/\Same S S1/\c9f t s m' L Q0,λσ' H' h=>h,c,L1,S2,_,I2,q,λfl L3 q σ3 S3 H3 I4 s3=>?_⟩
   have ss:=s1.trans (s2.trans s3)
   cases fl with
   | next=>exact⟨m,Nat.lt_succ_self _,L3,S3,I4,ss,q⟩
   | cont=>exact⟨m,Nat.lt_succ_self _,L3,S3,I4,ss,q⟩
   | brk=>exact k .next L3 q σ3 S3 H3 I4 ss
   | ret v=>exact k (.ret v) L3 q σ3 S3 H3 I4 ss
end
structure Df where
 name:String
 st:Stmt
 ps:List Str
 N:List Str
 md:Md
structure Fns where
 f:List Str
 ms:List (Str×Addr×Str)
 fl:List (Addr×Str)
def Df.cc (d:Df)(fns:Fns):CC:=⟨d.N,(a0u d.st).names,fns.f,d.md,true,[],fns.ms,fns.fl⟩
def d9b (io:Bool)(md:Md) (np:Nat):Bool:=(List.range np).all λi=>decide (a0j md i=if (io && decide (i=0))=true then .own else .imm)
def Df.ok (d:Df) (np ns:Nat)(io:Bool):Bool :=
 decide ((a0u d.st).kind=.function) && !(a0u d.st).isCoroutine && !(a0u d.st).isGenerator && decide (d.N.Nodup) && decide (d.N.take d.ps.length=d.ps) && d.ps.all (λx=>decide ((a0u d.st).names.lookup x=some .local ∨ (a0u d.st).names.lookup x=some .cell)) &&
 (a0u d.st).names.all (λp=>decide (p.2≠.free)) && decide (np=d.ps.length) && decide (ns=d.N.length) && d9b io d.md np
def spT (K:Γd)(tb:List FD)(call:CW) (f:Nat):Sp:=match tb[f]? with
 | some fd=>spQ K call fd.io fd.fr f
 | none=>λ_ _ _ _=>False
def spK (tb:List FD)(call:CW)(K:Γd):Nat->Sp:=spT K tb call
theorem Df.sc {d:Df}{np ns:Nat}{io:Bool}(h:d.ok np ns io=true):FnScope d.N d.ps (a0u d.st)/\np=d.ps.length/\ns=d.N.length/\∀ i,i<np->a0j d.md i=if (io && decide (i=0))=true then .own else .imm:=by
 have h0:=b2 h;have h1:=b2 h0.1;have h2:=b2 h1.1;have h3:=b2 h2.1;have h4:=b2 h3.1;have h5:=b2 h4.1;have h6:=b2 h5.1;have h7:=b2 h6.1;have h8:=b2 h7.1
 exact⟨⟨de h8.1,nb h8.2,nb h7.2,de h6.2,de h5.2,λx hx=>de (List.all_eq_true.mp h4.2 x hx),λy hy=>de (List.all_eq_true.mp h3.2 y hy)⟩,de h2.2,de h1.2,λi hi=>de (List.all_eq_true.mp h0.2 i (List.mem_range.mpr hi))⟩
section
variable {P:Program}{w:World}{K:Γd}{mg:Str->Option Value}{base:Heap}{tb:List FD}{fns:Fns}
theorem ArgsOk.len {S H:Hp}{args:List FV}{vs:List V}{io:Bool}(h:ArgsOk K S H args vs io):args.length=vs.length:=by
 cases io with
 | false=>exact RVs.length h
 | true =>
  obtain⟨v,r,a,us,rfl,rfl,_,h⟩:=h
  rw[List.length_cons,List.length_cons,h.length]
theorem c2v {S H:Hp}{args:List FV}{vs:List V}{io:Bool}{md:Md}{N:List Str}{np ns:Nat}(h:ArgsOk K S H args vs io)(hs:Same S H)(hn:args.length=np)(hN:ns=N.length)(hm:∀ i,i<np->a0j md i=if (io && decide (i=0))=true then .own else .imm) :
  Iv K ⟨H,S,b4f vs io,[],[],[]⟩ md (args.map some++Γj (ns-np) none) (L2.start N vs) S H:=by
 have hl:=h.len
 have look:∀ i v,(args.map some++Γj (ns-np) none)[i]?=some (some v)->args[i]?=some v/\i<np:=λi v e=>by
  by_cases hi:i<args.length
  ·rw[List.getElem?_append_left (by rw[List.length_map];exact hi),List.getElem?_map] at e
   cases ea:args[i]? with
   | none=>rw[ea] at e;cases e
   | some q=>rw[ea] at e;cases e;exact⟨rfl,by lia⟩
  ·rw[List.getElem?_append_right (by rw[List.length_map];lia),List.getElem?_replicate] at e
   split at e<;>cases e
 have st:∀ i,i<np->(L2.start N vs)[i]?=vs[i]?.map some:=λi hi=>by
  unfold L2.start
  rw[List.getElem?_append_left (by rw[List.length_map];lia),List.getElem?_map]
 have own:∀ i v,a0j md i≠.imm->(args.map some++Γj (ns-np) none)[i]?=some (some v)->i=0/\io=true/\a0j md 0=.own:=λi v hm' e=>by
  obtain⟨_,hi⟩:=look i v e
  have:=hm i hi
  cases io with
  | false=>exact absurd (by simpa using this) hm'
  | true =>
   by_cases h0:i=0
   ·subst h0;exact⟨rfl,rfl,by simpa using this⟩
   ·exact absurd (by simpa[h0] using this) hm'
 have lent:∀ a,b4f vs io=some a->io=true/\0<np/\a0j md 0=.own/\vs[0]?=some (.ref a)/\∃ v,args[0]?=some v/\a4f K S H a v:=λa e=>by
  cases io with
  | false=>cases e
  | true =>
   obtain⟨v,r,a',us,rfl,rfl,o,_⟩:=h
   cases e
   have hp:0<np:=by rw[<- hn];exact Nat.succ_pos _
   exact⟨rfl,hp,by simpa using hm 0 hp,rfl,v,rfl,o⟩
 refine⟨?_,λi v hm' e=>?_,λi v hm' e=>?_,λi j v w a m1 m2 e1 e2 _ _=>?_,hs,λa o e _ _=>e,Same.refl S,λa o e=>.inl e,λa e=>?_,λp hp=>absurd hp List.not_mem_nil,λi v hf e=>?_,λp hp=>absurd hp List.not_mem_nil,λp hp=>absurd hp List.not_mem_nil,λp hp=>absurd hp List.not_mem_nil,λq hq=>absurd hq List.not_mem_nil,λj i x C dx fs v h1 h2 h3 h4=>?_⟩
 ·unfold L2.start
  rw[List.length_append,List.length_append,List.length_map,List.length_map,List.length_replicate,List.length_replicate,hN]
  lia
 ·obtain⟨ea,hi⟩:=look i v e
  rw[st i hi]
  cases io with
  | false =>
   obtain⟨x,e1,r⟩:=RVs.get (show RVs K S args vs from h) ea
   exact⟨x,by rw[e1];rfl,r⟩
  | true =>
   obtain⟨v0,r,a',us,rfl,rfl,o,hr⟩:=h
   cases i with
   | zero=>rw[show a0j md 0=.own by simpa using hm 0 hi] at hm';cases hm'
   | succ i =>
    obtain⟨x,e1,r1⟩:=RVs.get hr (by simpa using ea)
    exact⟨x,by simp[e1],r1⟩
 ·obtain⟨rfl,rfl,m0⟩:=own i v hm' e
  obtain⟨ea,hi⟩:=look 0 v e
  obtain⟨v0,r,a',us,rfl,rfl,o,hr⟩:=h
  cases ea
  exact⟨a',by rw[st 0 hi];rfl,o,.inl rfl⟩
 ·rw[(own i v m1 e1).1,(own j w m2 e2).1]
 ·obtain⟨rfl,hp,m0,e1,v,ea,_⟩:=lent a e
  refine⟨λz=>(nomatch (m0.symm.trans z)),by rw[st 0 hp,e1];rfl,v,?_⟩
  rw[List.getElem?_append_left (by rw[List.length_map];lia),List.getElem?_map,ea];rfl
 ·have:=own i v (λz=>by rw[z] at hf;cases hf) e
  rw[this.1,this.2.2] at hf;cases hf
 ·have:=own j v (λz=>by rw[z] at h1;cases h1) h4
  rw[this.1,this.2.2] at h1;cases h1
theorem b2x {d f:Nat}{fa:Addr}{fdd:FuncData}{df:Df}{fd:FD}{nm qu:Str}(F:Fun K nm qu df.st fa fdd)(hf:tb[f]?=some fd)(hok:df.ok fd.np fd.ns fd.io=true)
  (hb:∀ X call n,Good X (df.cc fns) n (spK tb call)->FSs X (df.cc fns) fd.fr (a2g df.st) (fd.body call))
  (fnsOk:∀ (f:Nat)(x:Str),fns.f[f]?=some x->∃ fa fd ps,mg x=some (.ref fa)/\PySem.W.keepIn K (.ref fa)=true/\Binds K fd ps []/\FnOk P w K mg base CX0 d fa fd ps (spT K tb (callW tb d) f))
  (blt:∀ b∈bltNames,mg (Γe b)=none)(mtsOk:∀ (k:Nat)(c:Str)(Ca:Addr)(m:Str),fns.ms[k]?=some (c,Ca,m)->e4j P w K mg base d (spT K tb (callW tb d) (fns.f.length+k)) c Ca m)(fl:∀ p∈fns.fl,Cls K p.1/\b1u K p.1 p.2):FnOk P w K mg base CX0 (d+1) fa fdd df.ps (spT K tb (callW tb (d+1)) f):=by
 obtain⟨S,hnp,hns,hmd⟩:=Df.sc hok
 have e0:spT K tb (callW tb (d+1)) f=spQ K (callW tb (d+1)) fd.io fd.fr f:=by unfold spT;rw[hf]
 have run:∀ {args:List FV}{Q:FV×FV->Prop},callW tb (d+1) f args Q->args.length=fd.np/\fd.body (callW tb d) (args.map some++Γj (fd.ns-fd.np) none) (c1c fd.io fd.fr Q):=λ{args Q} h=>by
  have h:(match tb[f]? with
   | none=>False
   | some fd=>args.length=fd.np/\fd.body (callW tb d) (args.map some++Γj (fd.ns-fd.np) none) (c1c fd.io fd.fr Q)):=h
  rw[hf] at h;exact h
 rw[e0]
 refine F.ok S (λvs H Q E h=>?_) (λcdv A outer s H vs Q E hr h=>?_)
 ·obtain⟨S0,args,Q0,_,ao,hc,_⟩:=h
  rw[<- ao.len,(run hc).1,hnp]
 ·obtain⟨S0,args,Q0,hs,ao,hc,k⟩:=h
  obtain⟨hl,hc⟩:=run hc
  have G:Good (c8u CX0 P w K mg base df.N qu (a0u df.st) fa cdv A outer s H E) (df.cc fns) d (spK tb (callW tb d)) :=
   ⟨rfl,rfl,S.kind,S.nd,rfl,λ_ _=>rfl,hr,fnsOk,blt,mtsOk,fl⟩
  refine⟨_,hb _ _ _ G,_,_,S0,_,c2v ao hs hl hns hmd,hc,λfl L' q σ' S' H' I s'=>?_⟩
  have kp:∀ w,(fd.io=true->lk L' 0=some w)->Kept K S0 H S' H' (b4f vs fd.io) w:=λw hw=>⟨s',I.sub,I.grow,λa o e n=>I.frame a o e n (λ_=>List.not_mem_nil),λa e=>by
   have hio:fd.io=true:=by
    cases z:fd.io with
    | true=>rfl
    | false=>rw[z] at e;cases e
   obtain⟨m0,e1,v,e2⟩:=I.lent a e
   obtain⟨b,e3,o,_⟩:=I.own 0 v m0 e2
   rw[e1] at e3;cases e3
   have:=(a2f _ _ _).mp (hw hio)
   rw[e2] at this;cases this
   exact o⟩
  have fin:∀ v x,c1c fd.io fd.fr Q0 (.ret v) L'->c9d K S' H' H v x fd.fr->Q x H':=λv x q r=>by
   cases hio:fd.io with
   | true =>
    rw[hio] at q
    obtain⟨w,e1,q⟩:=wpx q
    exact k _ q x S' H' (kp w λ_=>e1) r
   | false =>
    rw[hio] at q
    exact k (v,.non) q x S' H' (kp .non λz=>by rw[hio] at z;cases z) r
  cases fl with
  | next =>
   cases hfr:fd.fr with
   | true=>rw[hfr] at q;exact q.elim
   | false=>rw[hfr] at q;exact fin .non .non (by rw[hfr];exact q) (by rw[hfr];exact rfl)
  | ret v =>
   intro x r
   refine fin v x q ?_
   cases hfr:fd.fr with
   | true=>rw[hfr] at r;exact r
   | false=>rw[hfr] at r;exact r
  | brk=>exact q.elim
  | cont=>exact q.elim
theorem c0s (blt:∀ b∈bltNames,mg (Γe b)=none)(fl:∀ p∈fns.fl,Cls K p.1/\b1u K p.1 p.2)
  (D:∀ (f:Nat)(x:Str),fns.f[f]?=some x->∃ df fd fa fdd,tb[f]?=some fd/\Df.ok df fd.np fd.ns fd.io=true/\(∀ X call n,Good X (df.cc fns) n (spK tb call)->FSs X (df.cc fns) fd.fr (a2g df.st) (fd.body call))/\Fun K (Γe df.name) (Γe df.name) df.st fa fdd/\mg x=some (.ref fa)/\Binds K fdd df.ps [])
  (DM:∀ (k:Nat)(c:Str)(Ca:Addr)(m:Str),fns.ms[k]?=some (c,Ca,m)->∃ df fd fa fdd nm qu,tb[fns.f.length+k]?=some fd/\Df.ok df fd.np fd.ns fd.io=true/\(∀ X call n,Good X (df.cc fns) n (spK tb call)->FSs X (df.cc fns) fd.fr (a2g df.st) (fd.body call))/\Fun K nm qu df.st fa fdd/\mg c=some (.ref Ca)/\Cls K Ca/\(m=("__init__":Str)->Mk K Ca fa)/\(m≠("__init__":Str)->Meth K Ca m fa)/\Binds K fdd df.ps []) :
  ∀ d:Nat,(∀ (f:Nat)(x:Str),fns.f[f]?=some x->∃ fa fd ps,mg x=some (.ref fa)/\PySem.W.keepIn K (.ref fa)=true/\Binds K fd ps []/\FnOk P w K mg base CX0 d fa fd ps (spT K tb (callW tb d) f))/\∀ (k:Nat)(c:Str)(Ca:Addr)(m:Str),fns.ms[k]?=some (c,Ca,m)->e4j P w K mg base d (spT K tb (callW tb d) (fns.f.length+k)) c Ca m
 | 0=>by
  have no:∀ {f fd} vs H Q E,tb[f]?=some fd->¬ spT K tb (callW tb 0) f vs H Q E:=λvs H Q E h1 z=>by
   unfold spT at z
   rw[h1] at z
   obtain⟨_,_,_,_,_,k,_⟩:=z
   exact k
  refine⟨λf x h=>?_,λk c Ca m h=>?_⟩
  ·obtain⟨df,fd,fa,fdd,h1,h2,h6,h3,h4,h5⟩:=D f x h
   exact⟨fa,fdd,df.ps,h4,h3.kp,h5,λvs H Q E z=>absurd z (no vs H Q E h1),λA outer s H args us vs Q E _ _ _ _ z=>absurd z (no vs H Q E h1)⟩
  ·obtain⟨df,fd,fa,fdd,nm,qu,h1,h2,h6,h3,h4,h5,h7,h8,h9⟩:=DM k c Ca m h
   exact⟨fa,fdd,df.ps,h4,h5,h7,h8,h9,λvs H Q E z=>absurd z (no vs H Q E h1),λA outer s H args us vs Q E _ _ _ _ z=>absurd z (no vs H Q E h1)⟩
 | d+1=>by
  obtain⟨r1,r2⟩:=c0s blt fl D DM d
  refine⟨λf x h=>?_,λk c Ca m h=>?_⟩
  ·obtain⟨df,fd,fa,fdd,h1,h2,h6,h3,h4,h5⟩:=D f x h
   exact⟨fa,fdd,df.ps,h4,h3.kp,h5,b2x h3 h1 h2 h6 r1 blt r2 fl⟩
  ·obtain⟨df,fd,fa,fdd,nm,qu,h1,h2,h6,h3,h4,h5,h7,h8,h9⟩:=DM k c Ca m h
   exact⟨fa,fdd,df.ps,h4,h5,h7,h8,h9,b2x h3 h1 h2 h6 r1 blt r2 fl⟩
theorem law_sp {d f:Nat}{H:Hp}{a:Addr}{ns:List Int}{fd:FD}(hf:tb[f]?=some fd)(hio:fd.io=false)(hfr:fd.fr=false)(hO:d6u H)(hS:SqL K H a (ns.map V.int))(h:callW tb d f [.scr ns] λz=>z.1=.bl true) :
  spT K tb (callW tb d) f [.ref a] H (λv _=>v=.bl true) λ_ _ _=>False:=by
 have e0:spT K tb (callW tb d) f=spQ K (callW tb d) false false f:=by unfold spT;rw[hf];show spQ K (callW tb d) fd.io fd.fr f=_;rw[hio,hfr]
 rw[e0]
 refine⟨H,[.scr ns],_,Same.refl H,RVs.one ⟨a,rfl,?_⟩,h,λz e x S' H' _ r=>?_⟩
 ·rcases hS with (h|⟨o,h⟩)|h
  ·rcases hO a with z|⟨o,xs,z⟩
   ·rw[z] at h;cases h
   ·rw[z] at h;cases h
  ·exact .inl ⟨o,h⟩
  ·exact .inr (.inr h)
 ·have r:RV K S' z.1 x:=r
  rw[e] at r;exact r
end
def EachI {α:Type}(P:Nat->α->Prop):Nat->List α->Prop
 | _,[]=>True
 | i,x :: xs=>P i x/\EachI P (i+1) xs
theorem EachI.get {α:Type}{P:Nat->α->Prop}:∀ {xs:List α}{k:Nat},EachI P k xs->∀ (f:Nat)(x:α),xs[f]?=some x->P (k+f) x
 | _ :: _,_,h,0,x,e=>(Option.some.inj e) ▸ h.1
 | _ :: xs,k,h,f+1,x,e=>by
  have:=EachI.get h.2 f x e
  rw[Nat.add_assoc,Nat.add_comm 1 f] at this
  exact this
theorem us1 {P:List Value->Prop}{us:List Value}(h:us.length=1)(H:∀ a,P [a]):P us:=match us,h with|[_],_=>H _
theorem us2 {P:List Value->Prop}{us:List Value}(h:us.length=2)(H:∀ a b,P [a,b]):P us:=match us,h with|[_,_],_=>H _ _
theorem us3 {P:List Value->Prop}{us:List Value}(h:us.length=3)(H:∀ a b c,P [a,b,c]):P us:=match us,h with|[_,_,_],_=>H _ _ _
end Kq
end
section
namespace Kq
open PySem PySem.Spec PySem.Calls PyProof.Rows L2 PySem.W
theorem a8z:∀ {K:Frag}{a:Addr}{o:Obj},K.lookup a=some o->(a,o)∈K
 | [],a,o,h=>by simp at h
 | (b,u) :: K,a,o,h=>by
  rw[List.lookup_cons] at h
  split at h
  ·rename_i e;cases h;rw[beq_iff_eq.mp e];exact Γn
  ·exact Γh _ (a8z h)
theorem b8e {K:Frag}{a:Addr}{o:Obj}(h:(a,o)∈K):∃ u,K.lookup a=some u:=by
 induction K with
 | nil=>exact absurd h List.not_mem_nil
 | cons p K ih =>
  obtain⟨b,u⟩:=p
  rw[List.lookup_cons]
  split
  ·exact⟨_,rfl⟩
  ·rename_i e
   rcases List.mem_cons.mp h with z|z
   ·rw[(Prod.mk.inj z).1,beq_self_eq_true] at e;cases e
   ·exact ih z
def AllIn (K:Frag)(h:Heap):Prop:=∀ p∈K,h.get? p.1=some p.2
theorem AllIn.to {K:Frag}{h:Heap}(x:AllIn K h):K.In h:=λa o e=>x _ (a8z e)
theorem AllIn.look {K:Frag}{h:Heap}(x:AllIn K h){a:Addr}{o:Obj}(m:(a,o)∈K):K.lookup a=some o:=by
 obtain⟨u,e⟩:=b8e m
 have h1:=x _ (a8z e)
 rw[show h.get? a=some o from x _ m] at h1
 cases h1;exact e
def CIn (K:Frag)(cd:Value)(q:Str):Prop:=∃ c oc vs t,cd=.ref c/\(c,oc)∈K/\oc.data=.fields vs/\vs[1]?=some (.str q t)
def DIn (K:Frag)(mg:Str->Option Value)(d:DefRec):Prop:=∃ fa o pm cd doc,mg d.name=some (.ref fa)/\(fa,o)∈K/\o.data=.func (docDef d.name d.params d.body d.scope pm cd doc)/\CIn K cd d.name
theorem DIn.more {K K':Frag}{mg:Str->Option Value}{d:DefRec}(s:∀ p∈K,p∈K')(x:DIn K mg d):DIn K' mg d:=by
 obtain⟨fa,o,pm,cd,doc,h1,h2,h3,c,oc,vs,t,h4,h5,h6⟩:=x
 exact⟨fa,o,pm,cd,doc,h1,s _ h2,h3,c,oc,vs,t,h4,s _ h5,h6⟩
theorem b9s {q:Program}{loose:List Str}{mean:ExcName->Option Value}{mg mb:Str->Option Value}{h:Heap}(T:Top q loose mean mg mb h):∀ ds:List DefRec,(∀ d∈ds,d∈recsOf q)->∃ K:Frag,AllIn K h/\∀ d∈ds,DIn K mg d
 | [],_=>⟨[],λ_ m=>absurd m List.not_mem_nil,λ_ m=>absurd m List.not_mem_nil⟩
 | d :: ds,hm=>by
  obtain⟨K,h1,h2⟩:=b9s T ds λe m=>hm e (Γh _ m)
  obtain⟨a,o,pm,cd,doc,g1,g2,g3,c,oc,vs,t,g4,g5,g6⟩:=T.fn d (hm d Γn)
  refine⟨(a,o) :: (c,oc) :: K,λp m=>?_,λe m=>?_⟩
  ·rcases List.mem_cons.mp m with z|z
   ·cases z;exact g2
   ·rcases List.mem_cons.mp z with z|z
    ·cases z;exact g5
    ·exact h1 p z
  ·rcases List.mem_cons.mp m with z|z
   ·cases z
    exact⟨a,o,pm,cd,doc,g1,Γn,g3,c,oc,vs,t,g4,Γh _ Γn,g6⟩
   ·exact (h2 e z).more λp m=>Γh _ (Γh _ m)
theorem DIn.fn {K:Frag}{h:Heap}(A:AllIn K h){mg:Str->Option Value}{x:Str}{st:Stmt}{pos:Pos}(D:DIn K mg ⟨x,a5f st,a2g st,a0u st,pos⟩):∃ fa fd,mg x=some (.ref fa)/\Fun K x x st fa fd:=by
 obtain⟨fa,o,pm,cd,doc,h1,h2,h3,c,oc,vs,t,rfl,h5,h6,h7⟩:=D
 have l:=A.look h2
 have lc:=A.look h5
 obtain⟨k1,k2,k3,k4⟩:=o
 obtain⟨j1,j2,j3,j4⟩:=oc
 cases h3;cases h6
 refine⟨fa,_,h1,d3g (kV:=.none) (doc:=doc) (pm:=pm) (an:=none) (cdv:=.ref c) (ct:=.none) l ?_ ?_⟩
 ·show (match K.lookup c with|some ⟨_,_,.fields vs,_⟩=>_|_=>_)=true
  rw[lc]
  obtain⟨l⟩:=vs
  match l,h7 with
  | [],h7=>simp at h7
  | [a],h7=>simp at h7
  | a :: b :: r,h7 =>
   simp at h7;subst h7
   exact beq_self_eq_true _
 ·show (match K.lookup fa with|some ⟨_,_,.func _,_⟩=>true|some ⟨_,_,.cls _,_⟩=>_|_=>false)=true
  rw[l]
def d3z:Stmt->Pos
 | .FunctionDef _ _ _ _ _ _ _ _ _ p=>p
 | _=>⟨0,0,0,0⟩
def d9t:Stmt->Bool
 | .FunctionDef ..=>true
 | _=>false
def c9p (p:Program):Program:={ p with main:={ p.main with body:=p.main.body.filter d9t } }
def freeIn (q:Program)(loose:List Str)(x:Str):Bool:=!startupNames.contains x && !loose.contains x && !((recsOf q).map (·.name)).contains x && !((litsOf q).map (·.1)).contains x && !((clssOf q loose).map (·.name)).contains x
theorem c8e {q:Program}{loose:List Str}{mean:ExcName->Option Value}{mg mb:Str->Option Value}{h:Heap}(T:Top q loose mean mg mb h){x:Str}(e:freeIn q loose x=true):mg x=none:=by
 unfold freeIn at e
 simp only[Bool.and_eq_true,Bool.not_eq_true',List.contains_eq_mem,decide_eq_false_iff_not] at e
 exact T.free x e.1.1.1.1 e.1.1.1.2 e.1.1.2 e.1.2 e.2
theorem walk2 {l:OpenLaw}{n k:Nat}{q:Program}{XP:(Str->Option Value)->Heap->Prop}{YP:World->Heap->Prop}{d:DefRec}{ds:List DefRec}{x:Str}{sp:Frag->Sp}
  (hn:l.most=some n)(hn2:n<=sizeLine)(hdf:d.params.defaults=[])(hr:Room k callerA)(hds:ds=recsOf q)(hfree:(bltNames.all λb=>freeIn q (looseW q []) (Γe b))=true)
  (F:∀ (w:World)(K:Frag)(mg:Str->Option Value)(fa:Addr)(h:Heap),AllIn K h->(∀ d∈ds,DIn K mg d)->(∀ b∈bltNames,mg (Γe b)=none)->mg d.name=some (.ref fa) ->
   ∃ fd:FuncData,(∀ (s:Shared)(u:Value),BindsTo s fd ⟨[u],[]⟩ [(x,u)])/\∀ base:Heap,FnOk l.prog w K mg base CX0 k fa fd [x] (sp K))
  (hsp:∀ (K:Frag)(H:Hp)(a:Addr)(ns:List Int),ns.length<=n->d6u H->SqL K H a (ns.map V.int)->sp K [.ref a] H (λv _=>v=.bl true) λ_ _ _=>False) :
  WalkO q [] XP YP l.row.toRowW d [] (λf vs=>PySem.call f vs):=by
 refine Att.attach_call hn hdf λw s₀ s₁ mg mb fa o pm cd doc a vs ns G Y ho hd hcd hmg hobj hints hlen hg=>?_
 obtain⟨K,hK,hD⟩:=b9s G.T ds λd m=>hds ▸ m
 obtain⟨fd,hb,hF⟩:=F w K mg fa _ hK hD (λb hb=>c8e G.T (List.all_eq_true.mp hfree b hb)) hmg
 exact c2u hK.to G.T.g G.T.b G.T.builtins G.T.nolimit hg hobj hints (Nat.le_trans hlen hn2) hr (λbase _ _=>hF base) hb (λH hO hS=>hsp K H a ns hlen hO hS) λH e s' z=>z
theorem row_holds {l:OpenLaw}{q:Program}{d:DefRec}{N:Nat}(said:l.wellSaid=true)(left:LeftO l.prog q [] (λs=>xlAt q [] s && recOk (RowW.records l.row.toRowW) s) (λ_=>()) (λ_=>()) N)
  (hdef:defOf q l.name=some (d,[]))(hp:l.prog.theDef l.name=some (d.params,d.body,d.scope))(hk:kwWritten? d.params.kwonlyargs d.params.kw_defaults=some [])(hwr:(!l.writes || l.row.records.isEmpty)=true)
  (ok:(chainsOk q && opensWell l.prog && (frees l.row.toRowW && l.row.within.isEmpty))=true)(hb:l.prog.bare)(hw:l.row.toRowW.promised)
  (call:WalkO q [] (XL q []) (λ_ _=>True) l.row.toRowW d [] λf vs=>PySem.call f vs):l.Holds :=
 holds_law said λk1=>holds_open (r:=l.row) left (λ_ _ _=>trivial) (λ_ _ _ _ _=>trivial) (λs e=>xl_of s (Bool.and_eq_true_iff.mp e).1) XL.keeps hdef hp hk (λs e=>recFacts_of (Bool.and_eq_true_iff.mp e).2) hwr k1 ok hb hw call
end Kq
end
set_option maxHeartbeats 1000000
section
namespace Kq
@[scoped simp ↓] theorem a0q {α:Type}(x:α)(Q:α->Prop):wp (some x) Q=Q x:=propext Iff.rfl
@[scoped simp ↓] theorem d6v {α:Type}(Q:α->Prop):wp (none:Option α) Q=False:=propext Iff.rfl
theorem a1v {α β:Type}(r:Option α)(f:α->Option β)(Q:β->Prop):wp (r.bind f) Q↔wp r (λx=>wp (f x) Q):=by cases r<;>rfl
@[scoped simp ↓] theorem a1p {α β:Type}(r:Option α)(f:α->β)(Q:β->Prop):wp (r.map f) Q↔wp r (λx=>Q (f x)):=by cases r<;>rfl
@[scoped simp ↓] theorem a5h {α:Type}(c:Prop) [Decidable c] (a:α)(Q:α->Prop):wp (if c then some a else none) Q↔c/\Q a:=by
 by_cases h:c<;>simp[h]
@[scoped simp ↓] theorem e2l (i:Nat)(L:a0c)(Q:FV->a0c->Prop):a0b i L Q=(wp (lk L i) λx=>Q x L):=propext Iff.rfl
@[scoped simp ↓] theorem eC_eq (v:FV)(L:a0c)(Q:FV->a0c->Prop):eC v L Q=(Q v L):=propext Iff.rfl
@[scoped simp ↓] theorem eUn_eq (f:FV->Option FV)(a:EW)(L:a0c)(Q:FV->a0c->Prop):eUn f a L Q=(a L λx L1=>wp (f x) λz=>Q z L1):=propext Iff.rfl
@[scoped simp ↓] theorem eOp_eq (f:FV->FV->Option FV)(a b:EW)(L:a0c)(Q:FV->a0c->Prop):eOp f a b L Q=(a L λx L1=>b L1 λy L2=>wp (f x y) λz=>Q z L2):=propext Iff.rfl
@[scoped simp ↓] theorem e2r (f:FV->FV->Option FV) (i:Nat)(b:EW)(L:a0c)(Q:FV->a0c->Prop):a7j f i b L Q=(wp (lk L i) λ_=>b L λy L1=>wp (lk L1 i) λx=>wp (f x y) λz=>Q z L1):=propext Iff.rfl
@[scoped simp ↓] theorem d3r (f g:FV->FV->Option FV)(a b c:EW)(L:a0c)(Q:FV->a0c->Prop):a8b f g a b c L Q=(a L λx L1=>b L1 λy L2=>wp (f x y) λr=>wp (blF r) λr=>if r=true then c L2 λz L3=>wp (g y z) λq=>Q q L3 else Q (.bl false) L2):=propext Iff.rfl
@[scoped simp ↓] theorem e2u (a b:EW)(L:a0c)(Q:FV->a0c->Prop):b1c a b L Q=(a L λx L1=>wp (b6b x) λr=>if r=true then b L1 Q else Q x L1):=propext Iff.rfl
@[scoped simp ↓] theorem eOr_eq (a b:EW)(L:a0c)(Q:FV->a0c->Prop):eOr a b L Q=(a L λx L1=>wp (b6b x) λr=>if r=true then Q x L1 else b L1 Q):=propext Iff.rfl
@[scoped simp ↓] theorem eIf_eq (c:BW)(a b:EW)(L:a0c)(Q:FV->a0c->Prop):eIf c a b L Q=(c L λr L1=>if r=true then a L1 Q else b L1 Q):=propext Iff.rfl
@[scoped simp ↓] theorem e3y (a:EW)(L:a0c)(Q:Bool->a0c->Prop):a0y a L Q=(a L λx L1=>wp (b6b x) λb=>Q b L1):=propext Iff.rfl
@[scoped simp ↓] theorem e4a (a b:BW)(L:a0c)(Q:Bool->a0c->Prop):b6c a b L Q=(a L λr L1=>if r=true then b L1 Q else Q false L1):=propext Iff.rfl
@[scoped simp ↓] theorem bOr_eq (a b:BW)(L:a0c)(Q:Bool->a0c->Prop):bOr a b L Q=(a L λr L1=>if r=true then Q true L1 else b L1 Q):=propext Iff.rfl
@[scoped simp ↓] theorem e3z (a:BW)(L:a0c)(Q:Bool->a0c->Prop):a5p a L Q=(a L λr L1=>Q (!r) L1):=propext Iff.rfl
@[scoped simp ↓] theorem d6s (L:a0c)(Q:Bool->a0c->Prop):a1r  L Q=(Q true L):=propext Iff.rfl
@[scoped simp ↓] theorem e4d (L:a0c)(Q:List FV->a0c->Prop):a0h  L Q=(Q [] L):=propext Iff.rfl
@[scoped simp ↓] theorem d6t (a:EW)(r:AW)(L:a0c)(Q:List FV->a0c->Prop):a0a a r L Q=(a L λx L1=>r L1 λxs L2=>Q (x :: xs) L2):=propext Iff.rfl
@[scoped simp ↓] theorem e2m (a:AW)(L:a0c)(Q:FV->a0c->Prop):a3r a L Q=(a L λxs L1=>xs.length<=big/\Q (.tup xs) L1):=propext Iff.rfl
@[scoped simp ↓] theorem e2t (a:AW)(L:a0c)(Q:FV->a0c->Prop):a5e a L Q=(a L λxs L1=>xs.length<=big/\Q (.lst xs) L1):=propext Iff.rfl
@[scoped simp ↓] theorem d5f (L:a0c)(Q:Option Int->a0c->Prop):b7z  L Q=(Q none L):=propext Iff.rfl
@[scoped simp ↓] theorem d5e (a:EW)(L:a0c)(Q:Option Int->a0c->Prop):b2j a L Q=(a L λx L1=>wp (a3l x) λi=>Q (some i) L1):=propext Iff.rfl
@[scoped simp ↓] theorem eSl_eq (a:EW)(l h:OW)(L:a0c)(Q:FV->a0c->Prop):eSl a l h L Q=(a L λx L1=>l L1 λi L2=>h L2 λj L3=>wp (a9u x i j) λz=>Q z L3):=propext Iff.rfl
@[scoped simp ↓] theorem d6j (call:CW) (f:Nat)(a:AW)(L:a0c)(Q:FV->a0c->Prop):a0w call f a L Q=(a L λxs L1=>call f xs λz=>Q z.1 L1):=propext Iff.rfl
@[scoped simp ↓] theorem d3s (call:CW) (f i:Nat)(a:AW)(L:a0c)(Q:FV->a0c->Prop):a0s call f i a L Q=(wp (lk L i) λ_=>a L λxs L1=>wp (lk L1 i) λx=>call f (x :: xs) λz=>Q z.1 (L1.set i (some z.2))):=propext Iff.rfl
@[scoped simp ↓] theorem d6h (f:FV->FV->Option FV) (i:Nat)(a:EW)(L:a0c)(Q:FV->a0c->Prop):b5s f i a L Q=(wp (lk L i) λv=>wp (a7b v) λ_=>a L λy L1=>wp (lk L1 i) λx=>wp (f x y) λz=>Q .non (L1.set i (some z))):=propext Iff.rfl
@[scoped simp ↓] theorem d9v (a:EW)(L:a0c)(Q:List FV->a0c->Prop):a5l a L Q=(a L λx L1=>wp (a4k x) λxs=>Q xs L1):=propext Iff.rfl
@[scoped simp ↓] theorem d9w (a:EW)(L:a0c)(Q:List FV->a0c->Prop):b1w a L Q=(a L λx L1=>wp (a3l x) λj=>a2l j=true/\Q (upF 0 j.toNat) L1):=propext Iff.rfl
@[scoped simp ↓] theorem d9u (a b:EW)(L:a0c)(Q:List FV->a0c->Prop):d5j a b L Q=(a L λx L1=>b L1 λy L2=>wp (a4k x) λxs=>wp (a4k y) λys=>Q (a2q xs ys) L2):=propext Iff.rfl
@[scoped simp ↓] theorem d5k (a:EW)(L:a0c)(Q:List FV->a0c->Prop):a7h a L Q=(a L λx L1=>wp (a4k x) λxs=>Q (a2q (upF 0 xs.length) xs) L1):=propext Iff.rfl
@[scoped simp ↓] theorem d6i (n m:Nat)(it:AW)(tg:Tg)(t:BW)(e:EW)(L:a0c)(Q:FV->a0c->Prop):a1q n m it tg t e L Q=(it L λxs L1=>L1.length=n/\xs.length<=big/\a4u n m tg t e xs [] L1 λys L2=>Q (.lst ys) L2):=propext Iff.rfl
@[scoped simp ↓] theorem d7w (L:a0c)(Q:FFl->a0c->Prop):a3i  L Q=(Q .next L):=propext Iff.rfl
@[scoped simp ↓] theorem d7q (s r:SW)(L:a0c)(Q:FFl->a0c->Prop):a0p s r L Q=(s L (aft (λL1=>r L1 Q) Q)):=propext Iff.rfl
@[scoped simp ↓] theorem d8d (e:EW)(tg:Tg)(L:a0c)(Q:FFl->a0c->Prop):a1t e tg L Q=(e L λx L1=>gW tg x L1 λL2=>Q .next L2):=propext Iff.rfl
@[scoped simp ↓] theorem d7p (k:Nat)(i e:EW)(L:a0c)(Q:FFl->a0c->Prop):c9j k i e L Q=(wp (lk L k) λ_=>e L λx L1=>i L1 λj L2=>wp (lk L2 k) λy=>wp (d7l y j x) λz=>Q .next (L2.set k (some z))):=propext Iff.rfl
@[scoped simp ↓] theorem d8c (f:FV->FV->Option FV) (i:Nat)(e:EW)(L:a0c)(Q:FFl->a0c->Prop):d5b f i e L Q=(wp (lk L i) λa=>e L λx L1=>wp (f a x) λz=>Q .next (L1.set i (some z))):=propext Iff.rfl
@[scoped simp ↓] theorem d7r (e:EW)(L:a0c)(Q:FFl->a0c->Prop):a1i e L Q=(e L λx L1=>Q (.ret x) L1):=propext Iff.rfl
@[scoped simp ↓] theorem d7z (e:EW)(L:a0c)(Q:FFl->a0c->Prop):c9k e L Q=(e L λ_ L1=>Q .next L1):=propext Iff.rfl
@[scoped simp ↓] theorem sIf_eq (c:BW)(a b:SW)(L:a0c)(Q:FFl->a0c->Prop):sIf c a b L Q=(c L λr L1=>if r=true then a L1 Q else b L1 Q):=propext Iff.rfl
@[scoped simp ↓] theorem d7y (it:AW)(tg:Tg)(b:SW)(L:a0c)(Q:FFl->a0c->Prop):a7o it tg b L Q=(it L λxs L1=>c8g tg b xs L1 Q):=propext Iff.rfl
@[scoped simp ↓] theorem d7m (c:BW)(b:SW)(L:a0c)(Q:FFl->a0c->Prop):c9i c b L Q=(∃ n,c9f c b n L Q):=propext Iff.rfl
@[scoped simp ↓] theorem lk_z (x:Option FV)(L:a0c)(Q:FV->Prop):wp (lk (x :: L) 0) Q=wp x Q:=propext Iff.rfl
@[scoped simp ↓] theorem gw_nm (i:Nat)(v:FV)(L:a0c)(Q:a0c->Prop):gW (.nm i) v L Q=Q (L.set i (some v)):=propext Iff.rfl
@[scoped simp ↓] theorem gw_tp (is:List Nat)(v:FV)(L:a0c)(Q:a0c->Prop):gW (.tp is) v L Q=wp (a5t v) λxs=>wp (a8o L is xs) Q:=propext Iff.rfl
@[scoped simp ↓] theorem sa_n (L:a0c)(Q:a0c->Prop):wp (a8o L [] []) Q=Q L:=propext Iff.rfl
@[scoped simp ↓] theorem sa_c (L:a0c) (i:Nat)(is:List Nat)(v:FV)(vs:List FV)(Q:a0c->Prop):wp (a8o L (i :: is) (v :: vs)) Q=wp (a8o (L.set i (some v)) is vs) Q:=propext Iff.rfl
section
variable (L:a0c)(k:a0c->Prop)(Q:FFl->a0c->Prop)
@[scoped simp ↓] theorem e4b:aft k Q .next L=k L:=propext Iff.rfl
@[scoped simp ↓] theorem af_ret (v:FV):aft k Q (.ret v) L=Q (.ret v) L:=propext Iff.rfl
@[scoped simp ↓] theorem tq_n:b2a k Q .next L=k L:=propext Iff.rfl
@[scoped simp ↓] theorem tq_r (v:FV):b2a k Q (.ret v) L=Q (.ret v) L:=propext Iff.rfl
end
@[scoped simp ↓] theorem en_rt (fr:Bool)(Q:FV×FV->Prop)(v:FV)(L:a0c):c1c true fr Q (.ret v) L=wp (lk L 0) λx=>Q (v,x):=propext Iff.rfl
@[scoped simp ↓] theorem en_rf (fr:Bool)(Q:FV×FV->Prop)(v:FV)(L:a0c):c1c false fr Q (.ret v) L=Q (v,.non):=propext Iff.rfl
section
variable (Q:FV->Prop)(B:Bool->Prop) (i j:Int)
@[scoped simp ↓] theorem tr_b (b:Bool):wp (b6b (.bl b)) B=B b:=propext Iff.rfl
@[scoped simp ↓] theorem tr_t (xs:List FV):wp (b6b (.tup xs)) B=B (!xs.isEmpty):=propext Iff.rfl
@[scoped simp ↓] theorem tr_l (xs:List FV):wp (b6b (.lst xs)) B=B (!xs.isEmpty):=propext Iff.rfl
@[scoped simp ↓] theorem in_i (Q:Int->Prop):wp (a3l (.int i)) Q=Q i:=propext Iff.rfl
@[scoped simp ↓] theorem bl_b (b:Bool):wp (blF (.bl b)) B=B b:=propext Iff.rfl
@[scoped simp ↓] theorem tp_t (xs:List FV)(Q:List FV->Prop):wp (a5t (.tup xs)) Q=Q xs:=propext Iff.rfl
@[scoped simp ↓] theorem ls_l (xs:List FV)(Q:List FV->Prop):wp (a7b (.lst xs)) Q=Q xs:=propext Iff.rfl
@[scoped simp ↓] theorem sq_t (xs:List FV)(Q:List FV->Prop):wp (a4k (.tup xs)) Q=Q xs:=propext Iff.rfl
@[scoped simp ↓] theorem sq_l (xs:List FV)(Q:List FV->Prop):wp (a4k (.lst xs)) Q=Q xs:=propext Iff.rfl
@[scoped simp ↓] theorem li_l (xs:List FV)(Q:List FV->Prop):wp (a1z (.lst xs)) Q=Q xs:=propext Iff.rfl
@[scoped simp ↓] theorem b_add:wp (a6f (.int i) (.int j)) Q=Q (.int (i+j)):=propext Iff.rfl
@[scoped simp ↓] theorem b_sub:wp (c9g (.int i) (.int j)) Q=Q (.int (i-j)):=propext Iff.rfl
@[scoped simp ↓] theorem b_mul:wp (c1b (.int i) (.int j)) Q↔(a2o i || a2o j)=true/\Q (.int (i*j)):=a5h _ _ _
@[scoped simp ↓] theorem b_fdiv:wp (b9h (.int i) (.int j)) Q↔(0<j/\j<1073741824)/\Q (.int (i / j)):=a5h _ _ _
@[scoped simp ↓] theorem b_mod:wp (b8b (.int i) (.int j)) Q↔0<j/\Q (.int (i % j)):=a5h _ _ _
@[scoped simp ↓] theorem b_pow:wp (d1f (.int i) (.int j)) Q↔(0<=j/\j<=1000/\a2o i=true)/\Q (.int (i ^ j.toNat)):=a5h _ _ _
@[scoped simp ↓] theorem b_addl (xs ys:List FV):wp (a6f (.lst xs) (.lst ys)) Q↔xs.length+ys.length<=big/\Q (.lst (xs++ys)):=a5h _ _ _
@[scoped simp ↓] theorem d9q {f:FV->FV->Option FV}(v w:FV):wp (a5b f v w) Q↔wp (f v w) λz=>wp (a7b z) λxs=>Q (.lst xs):=by unfold a5b;rw[a1v];simp only[a1p]
@[scoped simp ↓] theorem k_eq (a b:FV):wp (eqB a b) Q↔wp (eqF a b) λr=>Q (.bl r):=a1p _ _ _
@[scoped simp ↓] theorem k_ne (a b:FV):wp (neB a b) Q↔wp (eqF a b) λr=>Q (.bl (!r)):=a1p _ _ _
@[scoped simp ↓] theorem k_gt:wp (gtB (.int i) (.int j)) Q=Q (.bl (decide (j<i))):=propext Iff.rfl
@[scoped simp ↓] theorem k_ge:wp (geB (.int i) (.int j)) Q=Q (.bl (decide (j<=i))):=propext Iff.rfl
@[scoped simp ↓] theorem e_ii:wp (eqF (.int i) (.int j)) B=B (i == j):=propext Iff.rfl
@[scoped simp ↓] theorem e_ss (a b:String):wp (eqF (.str a) (.str b)) B=B (a == b):=propext Iff.rfl
@[scoped simp ↓] theorem e_bb (a b:Bool):wp (eqF (.bl a) (.bl b)) B=B (a == b):=propext Iff.rfl
@[scoped simp ↓] theorem e_nn:wp (eqF .non .non) B=B true:=propext Iff.rfl
@[scoped simp ↓] theorem e_sh (d:D):wp (eqF (.shn d) (.shn d)) B=B true:=by simp[eqF]
@[scoped simp ↓] theorem ix_eq (v:FV):wp (ixF v (.int i)) Q↔wp (a4k v) λxs=>wp (atF xs i) Q:=by
 show wp ((a4k v).bind _) Q↔_;rw[a1v]
@[scoped simp ↓] theorem f_max:wp (c2l (.int i) (.int j)) Q=Q (.int (if j > i then j else i)):=propext Iff.rfl
@[scoped simp ↓] theorem f_not (b:Bool):wp (d2e (.bl b)) Q=Q (.bl (!b)):=propext Iff.rfl
@[scoped simp ↓] theorem f_neg:wp (d5h (.int i)) Q=Q (.int (-i)):=propext Iff.rfl
@[scoped simp ↓] theorem f_len (v:FV):wp (a5y v) Q↔wp (a4k v) λxs=>Q (.int xs.length):=a1p _ _ _
@[scoped simp ↓] theorem f_abs:wp (d4t (.int i)) Q=Q (.int (if i<0 then -i else i)):=propext Iff.rfl
@[scoped simp ↓] theorem f_intb (b:Bool):wp (b3k (.bl b)) Q=Q (.int (if b then 1 else 0)):=propext Iff.rfl
@[scoped simp ↓] theorem f_all (v:FV):wp (c0t v) Q↔wp (a1z v) λxs=>wp (a4w xs) λbs=>Q (.bl (bs.all id)):=by
 show wp ((a1z v).bind _) Q↔_;rw[a1v];simp only[a1p]
@[scoped simp ↓] theorem f_any (v:FV):wp (d4r v) Q↔wp (a1z v) λxs=>wp (a4w xs) λbs=>Q (.bl (bs.any id)):=by
 show wp ((a1z v).bind _) Q↔_;rw[a1v];simp only[a1p]
@[scoped simp ↓] theorem f_minI (v:FV):wp (c2k v) Q↔wp (a1z v) λxs=>wp (d5i xs) Q:=a1v _ _ _
@[scoped simp ↓] theorem e2g (v:FV):wp (a5i v) Q↔wp (a4k v) λxs=>Q (.tup xs):=a1p _ _ _
@[scoped simp ↓] theorem f_list (v:FV):wp (a4h v) Q↔wp (a4k v) λxs=>Q (.lst xs):=a1p _ _ _
@[scoped simp ↓] theorem f_isi (t:Ty)(v:FV):wp (a5u t v) Q↔wp (a5c v t) λb=>Q (.bl b):=a1p _ _ _
@[scoped simp ↓] theorem y_non (t:Ty):wp (a5c .non t) B=B false:=propext Iff.rfl
@[scoped simp ↓] theorem y_bl (b:Bool)(t:Ty):wp (a5c (.bl b) t) B=B (t == .int || t == .bool):=propext Iff.rfl
@[scoped simp ↓] theorem y_int (t:Ty):wp (a5c (.int i) t) B=B (t == .int):=propext Iff.rfl
@[scoped simp ↓] theorem y_str (b:String)(t:Ty):wp (a5c (.str b) t) B=B (t == .str):=propext Iff.rfl
@[scoped simp ↓] theorem y_tup (b:List FV)(t:Ty):wp (a5c (.tup b) t) B=B (t == .tuple):=propext Iff.rfl
@[scoped simp ↓] theorem y_lst (b:List FV)(t:Ty):wp (a5c (.lst b) t) B=B (t == .list):=propext Iff.rfl
@[scoped simp ↓] theorem iN_n:wp (a1k .non) Q=Q (.bl true):=propext Iff.rfl
@[scoped simp ↓] theorem iN_b (b:Bool):wp (a1k (.bl b)) Q=Q (.bl false):=propext Iff.rfl
@[scoped simp ↓] theorem iN_i:wp (a1k (.int i)) Q=Q (.bl false):=propext Iff.rfl
@[scoped simp ↓] theorem iN_t (xs:List FV):wp (a1k (.tup xs)) Q=Q (.bl false):=propext Iff.rfl
@[scoped simp ↓] theorem iN_l (xs:List FV):wp (a1k (.lst xs)) Q=Q (.bl false):=propext Iff.rfl
@[scoped simp ↓] theorem nN_n:wp (a1d .non) Q=Q (.bl false):=propext Iff.rfl
@[scoped simp ↓] theorem nN_b (b:Bool):wp (a1d (.bl b)) Q=Q (.bl true):=propext Iff.rfl
@[scoped simp ↓] theorem nN_i:wp (a1d (.int i)) Q=Q (.bl true):=propext Iff.rfl
@[scoped simp ↓] theorem nN_t (xs:List FV):wp (a1d (.tup xs)) Q=Q (.bl true):=propext Iff.rfl
@[scoped simp ↓] theorem nN_l (xs:List FV):wp (a1d (.lst xs)) Q=Q (.bl true):=propext Iff.rfl
@[scoped simp ↓] theorem nB_b (b c:Bool):wp (a5k c (.bl b)) Q=Q (.bl (b != c)):=propext Iff.rfl
@[scoped simp ↓] theorem m_app (xs:List FV)(v:FV):wp (c9o (.lst xs) v) Q↔xs.length<big/\Q (.lst (xs++[v])):=a5h _ _ _
@[scoped simp ↓] theorem s_t (xs:List FV)(lo hi:Option Int):wp (a9u (.tup xs) lo hi) Q=Q (.tup (a6e xs lo hi)):=propext Iff.rfl
@[scoped simp ↓] theorem st_l (xs:List FV)(v:FV):wp (d7l (.lst xs) (.int j) v) Q↔wp (ixN xs.length j) λp=>Q (.lst (xs.set p v)):=a1p _ _ _
@[scoped simp ↓] theorem au_f (f:Int->Int->Int):wp (d4q f (.int i) (.int j)) Q=Q (.int (f i j)):=propext Iff.rfl
end
theorem a4x {xs:List FV}{i:Int}{n:Nat}{v:FV}{Q:FV->Prop}(h:i=n)(hv:xs[n]?=some v):wp (atF xs i) Q↔Q v:=by
 subst h
 have:=(List.getElem?_eq_some_iff.mp hv).1
 simp only[atF,ixN,Int.natCast_nonneg,if_true,Int.ofNat_lt,this,Option.bind_some,Int.toNat_natCast,hv,a0q]
@[scoped simp ↓] theorem at_0 (x:FV)(r:List FV)(Q:FV->Prop):wp (atF (x :: r) 0) Q↔Q x:=a4x (n:=0) rfl rfl
@[scoped simp ↓] theorem at_1 (x y:FV)(r:List FV)(Q:FV->Prop):wp (atF (x :: y :: r) 1) Q↔Q y:=a4x (n:=1) rfl rfl
@[scoped simp ↓] theorem at_2 (x y z:FV)(r:List FV)(Q:FV->Prop):wp (atF (x :: y :: z :: r) 2) Q↔Q z:=a4x (n:=2) rfl rfl
theorem d2y {n:Nat}{i:Int}{j:Nat}{Q:Nat->Prop}(h:i=j)(hj:j<n):wp (ixN n i) Q↔Q j:=by
 subst h;simp[ixN,hj]
theorem a5q {xs:List FV}{u:Int}{Q:FV->Prop}(h0:0<=u)(h1:u<xs.length)(h:∀ x∈xs,Q x):wp (atF xs u) Q:=by
 have hu:u.toNat<xs.length:=by lia
 rw[a4x (show u=u.toNat by lia) (List.getElem?_eq_getElem hu)]
 exact h _ (List.getElem_mem hu)
theorem a1e {α:Type}(p:α->Bool):∀ xs:List α,a4w (xs.map λx=>.bl (p x))=some (xs.map p)
 | []=>rfl
 | x :: r=>by simp only[List.map_cons,a4w,a1e p r,Option.map_some]
theorem a4a:∀ ns:List Int,a0v (ns.map .int)=some ns
 | []=>rfl
 | x :: r=>by simp only[List.map_cons,a0v,a4a r,Option.map_some]
@[scoped simp] theorem ty_01:(Ty.int == Ty.bool)=false:=by decide
@[scoped simp] theorem ty_02:(Ty.int == Ty.str)=false:=by decide
@[scoped simp] theorem ty_03:(Ty.int == Ty.list)=false:=by decide
@[scoped simp] theorem ty_04:(Ty.int == Ty.tuple)=false:=by decide
@[scoped simp] theorem ty_10:(Ty.bool == Ty.int)=false:=by decide
@[scoped simp] theorem ty_12:(Ty.bool == Ty.str)=false:=by decide
@[scoped simp] theorem ty_13:(Ty.bool == Ty.list)=false:=by decide
@[scoped simp] theorem ty_14:(Ty.bool == Ty.tuple)=false:=by decide
@[scoped simp] theorem ty_20:(Ty.str == Ty.int)=false:=by decide
@[scoped simp] theorem ty_21:(Ty.str == Ty.bool)=false:=by decide
@[scoped simp] theorem ty_30:(Ty.list == Ty.int)=false:=by decide
@[scoped simp] theorem ty_31:(Ty.list == Ty.bool)=false:=by decide
@[scoped simp] theorem ty_32:(Ty.list == Ty.str)=false:=by decide
@[scoped simp] theorem ty_34:(Ty.list == Ty.tuple)=false:=by decide
@[scoped simp] theorem ty_40:(Ty.tuple == Ty.int)=false:=by decide
@[scoped simp] theorem ty_41:(Ty.tuple == Ty.bool)=false:=by decide
@[scoped simp] theorem ty_42:(Ty.tuple == Ty.str)=false:=by decide
@[scoped simp] theorem ty_43:(Ty.tuple == Ty.list)=false:=by decide
theorem a0g {tb:List FD}{d f:Nat}{args:List FV}{fd:FD}{Q:FV×FV->Prop}(h:tb[f]?=some fd)(hl:args.length=fd.np)
  (H:fd.body (callW tb d) (args.map some++Γj (fd.ns-fd.np) none) (c1c fd.io fd.fr Q)):callW tb (d+1) f args Q:=by
 show (match tb[f]? with
  | none=>False
  | some fd=>args.length=fd.np/\fd.body (callW tb d) (args.map some++Γj (fd.ns-fd.np) none) (c1c fd.io fd.fr Q))
 rw[h];exact⟨hl,H⟩
theorem a4v {tb:List FD}{d f:Nat}{args:List FV}{fd:FD}{Q:FV×FV->Prop}(h:tb[f]?=some fd)(hl:args.length=fd.np) :
  callW tb (d+1) f args Q↔fd.body (callW tb d) (args.map some++Γj (fd.ns-fd.np) none) (c1c fd.io fd.fr Q):=by
 show (match tb[f]? with
  | none=>False
  | some fd=>args.length=fd.np/\fd.body (callW tb d) (args.map some++Γj (fd.ns-fd.np) none) (c1c fd.io fd.fr Q))↔_
 rw[h];exact⟨λz=>z.2,λz=>⟨hl,z⟩⟩
theorem a2j {α:Type}{tg:Tg}{b:SW}{f:α->FV}{I:List α->a0c->Prop}{Q:FFl->a0c->Prop}(all:List α) :
  ∀ (rest done:List α)(L:a0c),all=done++rest->I done L ->
  (∀ d x r L (K:a0c->Prop),all=d++x :: r->I d L->(∀ L',I (d++[x]) L'->K L')->gW tg (f x) L λL1=>b L1 (b2a K Q)) ->
  (∀ L,I all L->Q .next L)->c8g tg b (rest.map f) L Q
 | [],done,L,e,h,_,E=>by
  rw[List.append_nil] at e
  exact E L (e ▸ h)
 | x :: rest,done,L,e,h,B,E=>B done x rest L _ e h λL' h'=>a2j all rest (done++[x]) L' (by simp[e]) h' B E
theorem a2i {tg:Tg}{b:SW}{I:Nat->a0c->Prop}{Q:FFl->a0c->Prop}:∀ (n i:Nat)(L:a0c),I i L ->
  (∀ j L (K:a0c->Prop),i<=j->j<i+n->I j L->(∀ L',I (j+1) L'->K L')->gW tg (.int (j:Int)) L λL1=>b L1 (b2a K Q)) ->
  (∀ L,I (i+n) L->Q .next L)->c8g tg b (upF (i:Int) n) L Q
 | 0,i,L,h,_,E=>E L h
 | n+1,i,L,h,B,E=>B i L _ (Γi _) (by lia) h λL' h'=>by
  have:=a2i n (i+1) L' h' (λj L K hj hj'=>B j L K (by lia) (by lia)) (λL h=>E L (by rw[show i+(n+1)=i+1+n by lia];exact h))
  simpa using this
theorem a8e {c:BW}{b:SW}{I:Nat->a0c->Prop}{Q:FFl->a0c->Prop}(B:∀ m L (K:a0c->Prop),I m L->(∀ m' L',m'<m->I m' L'->K L')->c L λt L1=>if t=true then b L1 (b2a K Q) else Q .next L1){m:Nat}{L:a0c}(h:I m L):c9i c b L Q:=by
 have go:∀ n m L,m<n->I m L->c9f c b n L Q:=by
  intro n
  induction n with
  | zero=>intro m L hm;lia
  | succ n ih=>intro m L hm h;exact B m L _ h λm' L' h1 h2=>ih m' L' (by lia) h2
 exact⟨m+1,go _ m L (Nat.lt_succ_self _) h⟩
theorem a6x {α:Type}{tg:Tg}{n m:Nat}{t:BW}{e:EW}{f:α->FV}{I:List α->List FV->a0c->Prop}{Q:List FV->a0c->Prop}(all:List α) :
  ∀ (rest done:List α)(acc:List FV)(L:a0c),all=done++rest->I done acc L ->
  (∀ d x r acc L (K:List FV->a0c->Prop),all=d++x :: r->I d acc L->(∀ acc' L',I (d++[x]) acc' L'->K acc' L')->gW tg (f x) (L++Γj m none) λL1=>t L1 λb L2=>if b=true then e L2 λv L3=>K (acc++[v]) (L3.take n) else K acc (L2.take n)) ->
  (∀ ys L,I all ys L->Q ys L)->a4u n m tg t e (rest.map f) acc L Q
 | [],done,acc,L,e,h,_,E=>by
  rw[List.append_nil] at e
  exact E acc L (e ▸ h)
 | x :: rest,done,acc,L,e,h,B,E=>B done x rest acc L (λacc' L'=>a4u _ _ _ _ _ (rest.map f) acc' L' Q) e h λacc' L' h'=>a6x all rest (done++[x]) acc' L' (by simp[e]) h' B E
theorem a0m {α:Type}{tg:Tg}{n m:Nat}{e:EW}{f:α->FV}{g:α->FV}{Q:List FV->a0c->Prop}{L:a0c}:∀ (xs:List α)(acc:List FV),
  (∀ x∈xs,∀ K:FV->a0c->Prop,K (g x) L->gW tg (f x) (L++Γj m none) λL1=>e L1 λv L3=>K v (L3.take n))->Q (acc++xs.map g) L->a4u n m tg a1r e (xs.map f) acc L Q
 | [],acc,_,E=>by
  show Q acc L
  simpa using E
 | x :: xs,acc,B,E=>B x Γn (λv L'=>a4u n m tg a1r e (xs.map f) (acc++[v]) L' Q) (a0m xs (acc++[g x]) (λy hy=>B y (Γh _ hy)) (by simpa using E))
theorem a1c {α:Type}{tg:Tg}{n m:Nat}{t:BW}{e:EW}{f:α->FV}{g:α->FV}{p:α->Bool}{Q:List FV->a0c->Prop}{L:a0c}:∀ (xs:List α)(acc:List FV),
  (∀ x∈xs,∀ (K:FV->a0c->Prop)(N:a0c->Prop),(p x=true->K (g x) L)->(p x=false->N L)->gW tg (f x) (L++Γj m none) λL1=>t L1 λb L2=>if b=true then e L2 λv L3=>K v (L3.take n) else N (L2.take n))->Q (acc++(xs.filter p).map g) L->a4u n m tg t e (xs.map f) acc L Q
 | [],acc,_,E=>by
  show Q acc L
  simpa using E
 | x :: xs,acc,B,E=>B x Γn (λv L'=>a4u n m tg t e (xs.map f) (acc++[v]) L' Q) (λL'=>a4u n m tg t e (xs.map f) acc L' Q)
   (λhp=>a1c xs (acc++[g x]) (λy hy=>B y (Γh _ hy)) (by rw[List.filter_cons_of_pos hp] at E;simpa using E))
   (λhp=>a1c xs acc (λy hy=>B y (Γh _ hy)) (by rw[List.filter_cons_of_neg (by simp[hp])] at E;exact E))
theorem c4f:∀ n lo:Nat,upF (lo:Int) n=(List.range' lo n).map λi:Nat=>FV.int i
 | 0,lo=>rfl
 | n+1,lo=>by simp only[upF,List.range'_succ,List.map_cons];rw[<- c4f n (lo+1)];simp
theorem a1s (n:Nat):upF 0 n=(List.range n).map λi:Nat=>FV.int i:=by
 have:=c4f n 0
 rw[List.range_eq_range'];exact_mod_cast this
theorem a3z {c A B:Prop} [Decidable c] (h1:c->A)(h2:¬ c->B):if c then A else B:=by
 by_cases h:c
 ·rw[if_pos h];exact h1 h
 ·rw[if_neg h];exact h2 h
end Kq
end
set_option maxHeartbeats 4000000
section
namespace Kq
open PySem PySem.Spec PyProof.Rows L2
section
variable {X:Cx}{C:CC}{n:Nat}{sp:Γd->Nat->Sp}{a:Expr}{ea:EW}{p p2 p3 p4 pos:Pos}
theorem d4j:a1l X (.builtin "isinstance") (λxs H Q=>∃ v d c c' b b' T,xs=[v,.ref d]/\H d=some (.tup [.ty c,.ty c'])/\TyOf X.K H v (.type T)/\PySem.W.kitOne X.K (.type T) (.type c)=some b/\PySem.W.kitOne X.K (.type T) (.type c')=some b'/\Q (.bl (b || b')) H):=by
 intro pins s σ H xs us Q I r hh
 obtain⟨v,d,c,c',b,b',T,rfl,hd,h1,h2,h3,q⟩:=hh
 obtain⟨u,u',rfl,ru,ru'⟩:=b6j r
 obtain rfl:u'=.ref d:=ru'
 obtain⟨_,its,rv,o,ho,hcl,nn,hdt⟩:=(show ObjOk X.prog X.w H s.heap d (.tup [.ty c,.ty c']) from I.hok d _ hd)
 obtain⟨w1,w2,rfl,rw1,rw2⟩:=b6j rv
 obtain rfl:w1=.type c:=rw1
 obtain rfl:w2=.type c':=rw2
 have fin:∀ tk,EP X pins σ Q (.bool (b || b')) { s with toks:=tk }:=λtk=>⟨.bl (b || b'),H,I.tok _,rfl,q⟩
 have hany:PySem.W.kitAny X.K (.type T) [.type c,.type c']=some (b || b'):=by
  show (match PySem.W.kitOne X.K (.type T) (.type c) with|some true=>some true|some false=>PySem.W.kitAny X.K (.type T) [.type c']|none=>none)=_
  rw[h2]
  cases b with
  | true=>rfl
  | false =>
   show (match PySem.W.kitOne X.K (.type T) (.type c') with|some true=>some true|some false=>PySem.W.kitAny X.K (.type T) []|none=>none)=_
   rw[h3];cases b'<;>rfl
 obtain⟨oc,od,odt,osl⟩:=o
 simp only at hcl hdt
 subst hcl hdt
 cases h1 with
 | non=>cases (show u=Value.none from ru);exact PySem.W.kia_tup PySem.W.kitx_none I.kIn True.intro ho hany (λz=>nomatch z) fin
 | bl y=>cases (show u=Value.bool y from ru);exact PySem.W.kia_tup PySem.W.kitx_bool I.kIn True.intro ho hany (λz=>nomatch z) fin
 | int i=>obtain⟨t,rfl⟩:=(show ∃ t,u=Value.int i t from ru);exact PySem.W.kia_tup PySem.W.kitx_int I.kIn True.intro ho hany (λz=>nomatch z) fin
 | str y=>obtain⟨t,rfl⟩:=(show ∃ t,u=Value.str y t from ru);exact PySem.W.kia_tup PySem.W.kitx_str I.kIn True.intro ho hany (λz=>nomatch z) fin
 | flt y=>obtain⟨t,rfl⟩:=(show ∃ t,u=Value.float y t from ru);exact PySem.W.kia_tup PySem.W.kitx_float I.kIn True.intro ho hany (λz=>nomatch z) fin
 | @lst a xs ea =>
  cases (show u=Value.ref a from ru)
  obtain⟨_,_,n,_,h1⟩:=(show ObjOk X.prog X.w H s.heap a (.lst xs) from I.hok a _ ea)
  exact PySem.W.kia_tup PySem.W.kitx_list I.kIn ⟨_,h1,rfl⟩ ho hany (λz=>nomatch z) fin
 | @frz a ob xs ea =>
  cases (show u=Value.ref a from ru)
  obtain⟨_,_,_,n,_,h1⟩:=(show ObjOk X.prog X.w H s.heap a (.frz ob (.lst xs)) from I.hok a _ ea)
  exact PySem.W.kia_tup PySem.W.kitx_list I.kIn ⟨_,h1,rfl⟩ ho hany (λz=>nomatch z) fin
 | @tup a xs ea =>
  cases (show u=Value.ref a from ru)
  obtain⟨_,_,_,o,h1,h2,_⟩:=(show ObjOk X.prog X.w H s.heap a (.tup xs) from I.hok a _ ea)
  exact PySem.W.kia_tup PySem.W.kitx_tuple I.kIn ⟨o,h1,h2⟩ ho hany (λz=>nomatch z) fin
 | @dK a kvs ea =>
  cases (show u=Value.ref a from ru)
  obtain⟨_,_,vs,_,o,es,ep,h1,h2,_⟩:=(show ObjOk X.prog X.w H s.heap a (.dK kvs) from I.hok a _ ea)
  exact PySem.W.kia_tup PySem.W.kitx_dict I.kIn ⟨o,h1,h2.1⟩ ho hany (λz=>nomatch z) fin
 | @dT a kvs ea =>
  cases (show u=Value.ref a from ru)
  obtain⟨_,_,xs,_,o,es,ep,h1,h2,_⟩:=(show ObjOk X.prog X.w H s.heap a (.dT kvs) from I.hok a _ ea)
  exact PySem.W.kia_tup PySem.W.kitx_dict I.kIn ⟨o,h1,h2.1⟩ ho hany (λz=>nomatch z) fin
theorem e1b {t t':Ty}{tn tn':Str}{m:Nat}(G:Good X C n sp)(hg:C.gl (Γe "isinstance")=true)(ht:tn=Γe (a3b t))(ht':tn'=Γe (a3b t'))(hg2:(C.gl tn && C.gl tn')=true)(hs:a0k a=false)(ha:FR X C a ea) :
  FE X C (.Call (.Name (Γe "isinstance") p) [a,.Tuple [.Name tn p2,.Name tn' p3] m p4] [] pos) (eUn (c2y t t') ea):=by
 subst ht ht'
 have hg2:=b2 hg2
 have tt:∀ (t:Ty)(p2:Pos),C.gl (Γe (a3b t))=true->PE X.nox (.Name (Γe (a3b t)) p2) (tC (.ty (a3b t))):=λt p2 hg=>by
  cases t<;>exact b7p (G.gl hg) (G.blt _ (by decide)) (by nofun) rfl (by nofun) (by nofun)
 have tup:=c4r (x1:=m) (pos:=p4) (a0n (tt t p2 hg2.1) (a0n (tt t' p3 hg2.2) a2n rfl) rfl)
 refine PE.imp (a3x d4j (G.gl hg) (G.blt "isinstance" (by decide)) (by nofun) (a0n ha (a0n tup a2n rfl) (a0f hs)) (by nofun) (by nofun) (a0f hs) rfl) λσ H Q ⟨c,L,S,Q0,I,h,k⟩ =>
  ⟨c,L,S,_,I,h,λv L1 hv x S1 H1 r1 I1 s1=>?_⟩
 refine⟨by show 2<=sizeLine;decide,λd hd=>?_⟩
 obtain⟨z,e,q⟩:=wpx hv
 obtain⟨r,e1,e2⟩:=bnd e
 obtain⟨r',e3,rfl⟩:=mpd e2
 have I2:=I1.lay hd (.tup [.ty (a3b t),.ty (a3b t')])
 have rr:RH X.K S1 (upd H1 d (.tup [.ty (a3b t),.ty (a3b t')])) v x:=by
  rcases r1 with r1|⟨b,rfl,o1,ps,us,e4,o2,o3⟩
  ·exact .inl r1
  ·exact .inr ⟨b,rfl,o1,ps,us,e4,by rw[a0d (a1a o2 hd)];exact o2,o3⟩
 obtain⟨T,t1,t2⟩:=a8g I2.sub rr e1
 obtain⟨T',t3,t4⟩:=a8g I2.sub rr e3
 have hT:T=T':=by cases t1<;>cases t3<;>first|rfl|(simp_all)
 subst hT
 exact⟨x,d,_,_,_,_,T,rfl,a0e,t1,t2,t4,k _ L1 q _ S1 _ rfl I2 s1⟩
end
@[scoped simp ↓] theorem f_isi2 (t u:Ty)(v:FV)(Q:FV->Prop):wp (c2y t u v) Q↔wp (a5c v t) λa=>wp (a5c v u) λb=>Q (.bl (a || b)):=by
 unfold c2y;rw[a1v];simp only[a1p]
section
variable {X:Cx}{C:CC}{n:Nat}{sp:Γd->Nat->Sp}{fr:Bool}{a b:Expr}{ea eb:EW}{pos px py pt p2:Pos}{i j kt k2:Nat}{nx ny:Str}
end
section
variable {X:Cx}{tg:Expr}
end
def c8o (hi:Int):Nat->List FV
 | 0=>[]
 | n+1=>.int hi :: c8o (hi-1) n
def iDown (a b:EW):AW:=λL Q=>a L λx L1=>b L1 λy L2=>wp (a3l x) λi=>wp (a3l y) λj=>(a2l i && a2l j)=true/\Q (c8o i (i-j).toNat) L2
section
variable {X:Cx}{C:CC}{n:Nat}{sp:Γd->Nat->Sp}{a b tg:Expr}{ea eb:EW}{p p3 p4 pos:Pos}{kk:Nat}
variable {K:Γd}{c:Cn}{md:Md}
end
end Kq
end
section
namespace PySem
open PySem.Spec
section
variable {prog:Program}{w:World}{A:Around}{E:Value->Shared->Prop}{s:Shared}
end
end PySem
end
section
namespace Kq
open PySem PySem.Spec PyProof.Rows L2
section
variable {X:Cx}{tg:Expr}
end
def iRevr (a:EW):AW:=λL Q=>a L λx L1=>wp (a3l x) λj=>a2l j=true/\Q (c8o ((j.toNat:Int)-1) j.toNat) L1
section
variable {P:Program}{w:World}{A:Around}{R:Result->Shared->Prop}{it S N:Addr}{fp wr:List Addr}{n:Nat}{V:Nat->Value->Prop}{St:Nat->Heap->Prop}{bt:Nat->Nat->Bool}{h0:Heap}{kw:List (Str×Value)}
end
section
variable {P:Program}{w:World}{A:Around}{E:Value->Shared->Prop}{s:Shared}
end
section
variable {P:Program}{w:World}{A:Around}{E:Value->Shared->Prop}{s:Shared}
end
def c7j (b:Int):List Int->Int
 | []=>b
 | x :: r=>c7j (if b<x then x else b) r
def mostD (d:Int):List Int->Int
 | []=>d
 | n :: r=>c7j n r
section
variable {X:Cx}
variable {x:Str}{p pos kp:Pos}{e v:Expr}{t:TA}{tv:TE}{id:String}{kn:Str}{r:V->V->Hp->VK->Prop}
end
section
variable {X:Cx}{C:CC}{n:Nat}{sp:Γd->Nat->Sp}{a b:Expr}{ea eb:EW}{pos p kp:Pos}
end
section
variable (Q:FV->Prop)
end
section
variable {P:Program}{w:World}{A:Around}{E:Value->Shared->Prop}
end
section
variable {X:Cx}{pos:Pos}
end
def sUnp (e:EW)(is:List Nat):SW:=λL Q=>e L λx L1=>wp (a7b x) λxs=>wp (a8o L1 is xs) λL2=>Q .next L2
section
variable {X:Cx}{C:CC}{n:Nat}{sp:Γd->Nat->Sp}{fr:Bool}{a:Expr}{e:EW}{pos p:Pos}{is:List Nat}{k:Nat}
end
section
variable {prog:Program}{w:World}{A:Around}{E:Value->Shared->Prop}{s:Shared}
end
section
variable {X:Cx}{S H:Hp}{Q:VK}
def tmulF (v w:FV):Option FV:=(a5t v).bind λxs=>(a3l w).bind λk=>if -(2 ^ 63)<=k/\k<2 ^ 63/\xs.length*k.toNat<=big then some (.tup (Γj k.toNat xs).flatten) else none
end
section
variable {X:Cx}{C:CC}{a b:Expr}{ea eb:EW}{pos:Pos}
end
end Kq
end
section
namespace PySem
section
variable {prog:Program}{w:World}{A:Around}{E:Value->Shared->Prop}{s:Shared}
end
end PySem
end
section
namespace Kq
open PySem PySem.Spec PyProof.Rows L2
section
variable {X:Cx}
variable {a b:Expr}{ta:TA}{p p2 pos pos2:Pos}{T:Str}{Tn:String}{ho:List V->HO}
end
def rngF (c:List FV->FV)(v:FV):Option FV:=(a3l v).bind λj=>if a2l j=true/\j.toNat<=big then some (c (upF 0 j.toNat)) else none
def rng2F (c:List FV->FV)(v w:FV):Option FV:=(a3l v).bind λi=>(a3l w).bind λj=>if (a2l i && a2l j)=true/\(j-i).toNat<=big then some (c (upF i (j-i).toNat)) else none
section
variable {X:Cx}{C:CC}{n:Nat}{sp:Γd->Nat->Sp}{a b:Expr}{ea eb:EW}{pos p p2 pos2:Pos}
end
end Kq
end
section
namespace PySem
def e4k (A:Around)(s:Shared)(x y:Value)(b:Bool):Prop :=
 ∀ (prog:Program)(w:World)(E:Value->Shared->Prop)(Q:Value->Shared->Prop),Q (.bool b) s->wpAny (model prog w) A (richCompare .Lt x y) Q E s
inductive LexAt (A:Around)(s:Shared):List Value->List Value->Bool->Prop
 | nn:LexAt A s [] [] false
 | nc {y ys}:LexAt A s [] (y :: ys) true
 | cn {x xs}:LexAt A s (x :: xs) [] false
 | eq {x y xs ys r}:SeqAt.EqAt A s x y true->LexAt A s xs ys r->LexAt A s (x :: xs) (y :: ys) r
 | ne {x y xs ys r}:SeqAt.EqAt A s x y false->e4k A s x y r->LexAt A s (x :: xs) (y :: ys) r
section
open PySem.SeqAt
open PySem.AutoSeq1 (wpAny_loadPart')
open PySem.MeetsSeq PySem.MeetsSeq2 PySem.MeetsSeq3
theorem a9q (l b:Addr)(items items2:Array Value) (n n2:Nat)(dd dd2:Option Addr)(sl sl2:Array (Option Value)) :
  Meets (Builtin.«tuple.__lt__» ⟨[.ref l,.ref b],[]⟩)
   (λA R s=>s.heap.get? l=some { cls:=.type "tuple",dict:=dd,data:=.seq items n,slots:=sl }/\s.heap.get? b=some { cls:=.type "tuple",dict:=dd2,data:=.seq items2 n2,slots:=sl2 } /\
    ∃ r,LexAt A.in1 s items.toList items2.toList r/\R (.ok (.ret (.bool r))) s) :=
 .of_wp λprog w A R s h=>by
  obtain⟨hp,g,d,tk,os⟩:=s;obtain⟨hl,hb,r,hlex,h⟩:=h
  have f2:=AutoSeq1.sub_tuple_tuple
  wp_walk using wpAny_loadPart' hl,wpAny_loadPart' hb,wpAny_forIn_list _ (λrest b s'=>b.1=none/\s'=⟨hp,g,d,tk,os⟩/\∃ (vs ws:List Value),rest=vs.zip ws /\
   LexAt A.in1 ⟨hp,g,d,tk,os⟩ vs ws r/\vs.length+items2.size=ws.length+items.size) _
  case turn =>
   rintro⟨y,x⟩ rest b s' ⟨hb',rfl,vs,ws,hz,hlx,hlen⟩
   cases hlx with
   | nn=>cases hz
   | nc=>cases hz
   | cn=>rw[List.zip_nil_right] at hz;cases hz
   | eq he hr =>
    rw[List.zip_cons_cons] at hz
    injection hz with hyx hrest
    injection hyx with hy hx
    subst hy hx
    simp only[List.length_cons] at hlen
    refine Γa (he prog w _ _ ?_)
    wp_walk
    exact⟨rfl,rfl,_,_,hrest,hr,by lia⟩
   | ne he hr =>
    rw[List.zip_cons_cons] at hz
    injection hz with hyx hrest
    injection hyx with hy hx
    subst hy hx
    refine Γa (he prog w _ _ ?_)
    have hri:=hr prog w
    wp_walk using hri
    exact⟨_,rfl,by simpa using h⟩
  case fin =>
   rintro⟨b1,b2⟩ s' ⟨hb',rfl,vs,ws,hz,hlx,hlen⟩
   simp only at hb'
   subst hb'
   have hv:r=decide (items.size<items2.size):=by
    cases hlx with
    | nn=>simp only[List.length_nil] at hlen;exact (decide_eq_false (by lia)).symm
    | nc=>simp only[List.length_nil,List.length_cons] at hlen;exact (decide_eq_true (by lia)).symm
    | cn=>simp only[List.length_nil,List.length_cons] at hlen;exact (decide_eq_false (by lia)).symm
    | eq=>rw[List.zip_cons_cons] at hz;cases hz
    | ne=>rw[List.zip_cons_cons] at hz;cases hz
   rw[hv] at h
   wp_walk
   exact⟨_,rfl,by simpa[Builtin.Tuple.tupleCompareSizes] using h⟩
  case h =>
   exact⟨rfl,rfl,items.toList,items2.toList,rfl,hlex,by simp;lia⟩
end
theorem c2m {A:Around}{s:Shared}{l b:Addr}{o o2:Obj}{items items2:Array Value}{n n2:Nat}{r:Bool}(h1:s.heap.get? l=some o)(h2:o.cls=.type "tuple")(h3:o.data=.seq items n)(g1:s.heap.get? b=some o2)(g2:o2.cls=.type "tuple")(g3:o2.data=.seq items2 n2)
  (hlex:LexAt A.in1 s items.toList items2.toList r)(hu:A.units<cLine):e4k A s (.ref l) (.ref b) r:=by
 intro prog w E Q h
 obtain⟨cls,dd,data,sl⟩:=o
 obtain⟨cls2,dd2,data2,sl2⟩:=o2
 simp only at h2 h3 g2 g3
 subst h2 h3 g2 g3
 exact richCompare_meets_room (op:=.Lt) ⟨_,h1,rfl⟩ ⟨_,g1,rfl⟩ PySem.F.slot_tuple_lt PySem.F.entry_tuple_lt (PySem.F.args_tuple_lt_2 _ _) (a9q l b items items2 n n2 dd dd2 sl sl2)
  ⟨h1,g1,r,hlex,show Value.bool r≠Value.notImplemented/\Q (.bool r) s from ⟨(λx=>nomatch x),h⟩⟩ hu
end PySem
namespace Kq
open PySem PySem.Spec PyProof.Rows L2
def d7i (a b:String):Bool:=decide ((Γe a).cps.toList<(Γe b).cps.toList)
mutual
noncomputable def ltD:D->D->Option Bool
 | .int a,.int b=>some (decide (a<b))
 | .str a,.str b=>some (d7i a b)
 | .tup a,.tup b=>ltDs a b
 | _,_=>none
noncomputable def ltDs:List D->List D->Option Bool
 | [],[]=>some false
 | [],_ :: _=>some true
 | _ :: _,[]=>some false
 | a :: r,b :: q=>if D.eqv a b=true then ltDs r q else ltD a b
end
mutual
theorem d2o:∀ (x y:D)(A:Around)(s:Shared)(v u:Value)(as bs:List Addr)(r:Bool),Reads s.heap v (dPy x) as->Reads s.heap u (dPy y) bs->ltD x y=some r->A.units+(dPy x).depth<cLine->e4k A s v u r
 | .int a,y,A,s,v,u,as,bs,r,h1,h2,e,hu=>by
  cases y with
  | int b =>
   cases e
   simp only[dPy] at h1 h2
   cases h1;cases h2
   exact λprog w E Q h=>PyProof.Rows.lt_int h
  | _=>cases e
 | .str a,y,A,s,v,u,as,bs,r,h1,h2,e,hu=>by
  cases y with
  | str b =>
   cases e
   simp only[dPy] at h1 h2
   cases h1;cases h2
   exact λprog w E Q h=>PySem.P.lt_str h
  | _=>cases e
 | .tup xs,y,A,s,v,u,as,bs,r,h1,h2,e,hu=>by
  cases y with
  | tup ys =>
   simp only[dPy] at h1 h2
   simp only[dPy,PyData.depth] at hu
   cases h1 with
   | tuple a1 a2 a3 a4 =>
    cases h2 with
    | tuple b1 b2 b3 b4 =>
     exact c2m a1 a2 a3 b1 b2 b3 (lexAt_D xs ys A.in1 s _ _ _ _ r a4 b4 e (by show A.units+1+_<_;lia)) (by lia)
  | _=>cases e
 | .non,y,A,s,v,u,as,bs,r,h1,h2,e,hu=>by cases y<;>cases e
 | .bl _,y,A,s,v,u,as,bs,r,h1,h2,e,hu=>by cases y<;>cases e
 | .lst _,y,A,s,v,u,as,bs,r,h1,h2,e,hu=>by cases y<;>cases e
theorem lexAt_D:∀ (xs ys:List D)(A:Around)(s:Shared)(vs us:List Value)(as bs:List Addr)(r:Bool),ReadsAll s.heap vs (dPys xs) as->ReadsAll s.heap us (dPys ys) bs->ltDs xs ys=some r->A.units+PyData.depthAll (dPys xs)<cLine->LexAt A s vs us r
 | [],[],A,s,vs,us,as,bs,r,h1,h2,e,hu=>by cases h1;cases h2;cases e;exact .nn
 | [],y :: ys,A,s,vs,us,as,bs,r,h1,h2,e,hu=>by cases h1;cases h2;cases e;exact .nc
 | x :: xs,[],A,s,vs,us,as,bs,r,h1,h2,e,hu=>by cases h1;cases h2;cases e;exact .cn
 | x :: xs,y :: ys,A,s,vs,us,as,bs,r,h1,h2,e,hu=>by
  simp only[dPys] at h1 h2
  simp only[dPys,PyData.depthAll] at hu
  cases h1 with
  | cons a1 a2 =>
   cases h2 with
   | cons b1 b2 =>
    have he:=PySem.SeqAt.eqAt_reads _ _ A s _ _ _ _ a1 b1 (a5v x) (a5v y) (by lia)
    rw[b9x] at he
    simp only[ltDs] at e
    split at e
    ·rename_i hq
     rw[hq] at he
     exact .eq he (lexAt_D xs ys A s _ _ _ _ r a2 b2 e (by lia))
    ·rename_i hq
     have hq:D.eqv x y=false:=by simpa using hq
     rw[hq] at he
     exact .ne he (d2o x y A s _ _ _ _ r a1 b1 e (by lia))
end
end Kq
end
section
namespace Kq
open PySem PySem.Spec PyProof.Rows L2
def btD (ds:List D) (i j:Nat):Bool:=(ltD (ds.getD i .non) (ds.getD j .non)).getD false
open Classical in
def minDF (v:FV):Option FV:=(a1z v).bind λxs=>(a8y (fD a0t) xs).bind λds =>
 if 0<ds.length/\(∀ x∈ds,∀ y∈ds,(ltD x y).isSome=true)/\∀ ps,xs[argBest (btD ds) (ds.length-1)]?≠some (.lst ps) then xs[argBest (btD ds) (ds.length-1)]? else none
section
variable {X:Cx}
end
section
variable {X:Cx}{C:CC}{n:Nat}{sp:Γd->Nat->Sp}{a:Expr}{ea:EW}{pos p:Pos}
end
def a1x {κ α:Type} [DecidableEq κ] (ks:List κ)(vs:List α)(k:κ)(v:α):List κ×List α :=
 if k∈ks then (ks,List.zipWith (λk' v'=>if k'=k then v else v') ks vs) else (ks++[k],vs++[v])
def a3a {κ α:Type} [DecidableEq κ]:List κ->List α->κ->Option α
 | k' :: ks,v :: vs,k=>if k'=k then some v else a3a ks vs k
 | _,_,_=>none
theorem b8v {a b:List Int}(h:a.map (Sum.inl:Int->Int ⊕ Option Str)=b.map Sum.inl):a=b:=by
 induction a generalizing b with
 | nil=>cases b with|nil=>rfl|cons=>cases h
 | cons x r ih=>cases b with
  | nil=>cases h
  | cons y q =>
   simp only[List.map_cons,List.cons.injEq,Sum.inl.injEq] at h
   rw[h.1,ih h.2]
theorem a6u:∀ (ks:List (List Int))(us:List V)(k:List Int),a9n ((a2c ks).zip us) (k.map Sum.inl)=a3a ks us k
 | [],us,k=>by cases us<;>rfl
 | k' :: ks,[],k=>rfl
 | k' :: ks,u :: us,k=>by
  show a9n ((k'.map Sum.inl,u) :: (a2c ks).zip us) (k.map Sum.inl)=if k'=k then some u else a3a ks us k
  by_cases e:k'=k
  ·subst e;rw[a3t rfl,if_pos rfl]
  ·rw[a3u λz=>e (b8v z),if_neg e];exact a6u ks us k
theorem a2h {κ α:Type} [DecidableEq κ]:∀ {ks:List κ}{vs:List α}(k:κ),ks.length=vs.length->((a3a ks vs k).isSome=true↔k∈ks)
 | [],vs,k,h=>by simp[a3a]
 | k' :: ks,[],k,h=>by simp at h
 | k' :: ks,v :: vs,k,h=>by
  simp only[a3a]
  by_cases e:k'=k
  ·simp[e]
  ·simp only[e,if_false,List.mem_cons,Ne.symm e,false_or]
   rw[a2h k (by simpa using h)]
theorem b2e (ks:List (List Int))(us:List V)(k:List Int)(u:V)(hl:ks.length=us.length):a4z ((a2c ks).zip us) (k.map Sum.inl) u=(a2c (a1x ks us k u).1).zip (a1x ks us k u).2:=by
 have hany:(((a2c ks).zip us).any λkv=>decide (kv.1=k.map Sum.inl))=true↔k∈ks:=by
  rw[a4l,a6u,a2h k hl]
 unfold a4z a1x
 by_cases e:k∈ks
 ·rw[if_pos (hany.mpr e),if_pos e]
  clear e hany
  induction ks generalizing us with
  | nil=>cases us<;>rfl
  | cons k' ks ih=>cases us with
   | nil=>rfl
   | cons u' us =>
    have:=ih us (by simpa using hl)
    show (if k'.map Sum.inl=k.map Sum.inl then (k'.map Sum.inl,u) else (k'.map Sum.inl,u')) :: ((a2c ks).zip us).map _=(k'.map Sum.inl,if k'=k then u else u') :: (a2c ks).zip _
    rw[this]
    congr 1
    by_cases e:k'=k
    ·subst e;simp
    ·rw[if_neg λz=>e (b8v z),if_neg e]
 ·rw[if_neg λz=>e (hany.mp z),if_neg e]
  show _=(a2c (ks++[k])).zip (us++[u])
  have:a2c (ks++[k])=a2c ks++[k.map Sum.inl]:=by simp[a2c]
  rw[this,List.zip_append (by simpa[a2c] using hl)];rfl
theorem a3f {κ α:Type} [DecidableEq κ] (ks:List κ)(vs:List α)(k:κ)(v:α)(h:ks.length=vs.length):(a1x ks vs k v).1.length=(a1x ks vs k v).2.length/\(a1x ks vs k v).1.length<=ks.length+1:=by
 unfold a1x
 split
 ·simp[h]
 ·simp[h]
section
variable {K:Γd}{S H:Hp}
theorem b7e {κ:Type} [DecidableEq κ] {k:κ}{v:FV}{u:V}(r2:RV K S v u):∀ {ks:List κ}{vs:List FV}{us:List V},RVs K S vs us->RVs K S (List.zipWith (λk' v'=>if k'=k then v else v') ks vs) (List.zipWith (λk' v'=>if k'=k then u else v') ks us)
 | [],vs,us,_=>rfl
 | k' :: ks,[],us,r=>by cases (show us=[] from r);rfl
 | k' :: ks,p :: vs,us,⟨x,q,e,h1,h2⟩=>by
  subst e
  refine⟨_,_,rfl,?_,b7e r2 h2⟩
  by_cases e:k'=k
  ·simp only[e,if_true];exact r2
  ·simp only[e,if_false];exact h1
theorem a3w {κ:Type} [DecidableEq κ] {ks:List κ}{vs:List FV}{us:List V}{k:κ}{v:FV}{u:V}(r:RVs K S vs us)(r2:RV K S v u):(a1x ks vs k v).1=(a1x ks us k u).1/\RVs K S (a1x ks vs k v).2 (a1x ks us k u).2:=by
 unfold a1x
 split
 ·exact⟨rfl,b7e r2 r⟩
 ·exact⟨rfl,r.append (RVs.one r2)⟩
theorem a6a {κ:Type} [DecidableEq κ]:∀ {ks:List κ}{vs:List FV}{us:List V}{k:κ}{v:FV},RVs K S vs us->a3a ks vs k=some v->∃ u,a3a ks us k=some u/\RV K S v u
 | [],vs,us,k,v,r,e=>by simp[a3a] at e
 | k' :: ks,[],us,k,v,r,e=>by simp[a3a] at e
 | k' :: ks,p :: vs,us,k,v,⟨x,q,e',h1,h2⟩,e=>by
  subst e'
  simp only[a3a] at e ⊢
  by_cases e0:k'=k
  ·rw[if_pos e0] at e ⊢;cases e;exact⟨x,rfl,h1⟩
  ·rw[if_neg e0] at e ⊢;exact a6a h2 e
theorem a7y {ps:List FV}{k:List Int}{x:V}(r:RV K S (.tup ps) x)(e:a0v ps=some k):∃ b,x=.ref b/\S b=some (.tup ((k.map (Sum.inl:Int->Int ⊕ Option Str)).map kV)):=by
 obtain⟨b,xs,rfl,h1,h2⟩:=r
 refine⟨b,rfl,?_⟩
 rw[h1,a2x h2 e,List.map_map];rfl
variable {c:Cn}{md:Md}{L:a0c}{σ:L2.St}
theorem c7h {q:Addr}{ks:List (List Int)}{vs:List FV}{us:List V}(I:Iv K c md L σ S H)(h1:S q=none)(h2:H q=some (.dT ((a2c ks).zip us)))(hl:ks.length=vs.length)(h3:RVs K S vs us)(fr:a7k c md L σ q):∃ u,H q=some u/\Iv K c md L σ (upd S q u) H/\RV K (upd S q u) (.dct ks vs) (.ref q):=by
 have s:=a0r (o:=.dT ((a2c ks).zip us)) h1
 refine⟨_,h2,⟨I.len,λi v h e=>let ⟨x,e1,r⟩:=I.imm i v h e;⟨x,e1,r.mono s⟩,λi v h e=>?_,I.dis,λa u e=>?_,I.frame,I.s0.trans s,λa u e=>?_,I.lent,I.fzs,I.fzm,I.fzp,λp hp=>let ⟨g1,g2,g3⟩:=I.prs p hp;⟨g1,by rw[a0d (fr.2.1 p hp)];exact g2,g3⟩,I.ntp,I.lnt1,I.tie⟩,q,us,rfl,hl,a0e,h3.mono s⟩
 ·obtain⟨b,e1,⟨g1,rs,zs,g2,g3,g4⟩,g5⟩:=I.own i v h e
  have hb:b≠q:=λz=>by subst z;exact fr.2.2 i v h e e1
  exact⟨b,e1,⟨by rw[a0d hb];exact g1,rs,zs,g2,g3,g4.mono s⟩,g5⟩
 ·by_cases z:a=q
  ·subst z;rw[a0e] at e;cases e;exact h2
  ·rw[a0d z] at e;exact I.sub a u e
 ·by_cases z:a=q
  ·subst z;exact .inr (.inl fr.1)
  ·rw[a0d z] at e;exact I.grow a u e
end
def a5o (n m:Nat)(tg:Tg)(t:BW)(ek ev:EW):List FV->List (List Int)->List FV->a0c->(List (List Int)->List FV->a0c->Prop)->Prop
 | [],ks,vs,L,Q=>Q ks vs L
 | x :: xs,ks,vs,L,Q=>gW tg x (L++Γj m none) λL1=>t L1 λb L2=>if b=true then ek L2 λkx L3=>wp (a5t kx) λps=>wp (a0v ps) λk=>ev L3 λv L4=>a5o n m tg t ek ev xs (a1x ks vs k v).1 (a1x ks vs k v).2 (L4.take n) Q else a5o n m tg t ek ev xs ks vs (L2.take n) Q
def b9n (n m:Nat)(it:AW)(tg:Tg)(t:BW)(ek ev:EW):EW:=λL Q=>it L λxs L1=>L1.length=n/\xs.length<=big/\a5o n m tg t ek ev xs [] [] L1 λks vs L2=>Q (.dct ks vs) L2
section
variable {K:Γd}{c:Cn}{md:Md}{L:a0c}{σ:L2.St}{S H:Hp}
theorem c0e {J:It}{xs:List FV}{n m:Nat}{tg:Tg}{t:BW}{ek ev:EW}{Q:VK}{Q1:List (List Int)->List FV->a0c->Prop}(I:Iv K c md L σ S H)(hJ:ItR K c md J xs S)(hL:L.length=n)(hmd:md.length<=n)(ht:a3m md tg=true)(hg:a7c n tg=true)(hb:xs.length<=big)(h:a5o n m tg t ek ev xs [] [] L Q1)
  (k:∀ acc ks vs us L' S' H',H acc=none->Q1 ks vs L'->S' acc=none->H' acc=some (.dT ((a2c ks).zip us))->ks.length=vs.length->RVs K S' vs us->a7k c md L' σ acc->Iv K c md L' σ S' H'->Same S S'->Q (.ref acc) H') :
  ∀ acc,H acc=none->∃ W:Nat->Nat->Hp->Prop,(∃ m,W 0 m (upd H acc (.dT [])))/\∀ i j H,W i j H ->
   (J.stop i H/\Q (.ref acc) H) ∨ (J.go i H/\∀ x H',J.yld i H x H'->gT K tg x (σ++Γj m none) H' λσ2 H2=>Wk (σ++Γj m none) σ2/\lb K md t σ2 H2 λb H3 =>
    if b=true then emD (lv K md ek) (lv K md ev) acc σ2 H3 λH4=>∃ m',m'<j/\W (i+1) m' H4 else ∃ m',m'<j/\W (i+1) m' H3):=by
 intro acc hacc
 have h0:=I.h0 hacc
 have hp:∀ p∈c.pr,p.1≠acc:=(I.fresh hacc).2.1
 have hz:=I.fzp
 have hbl:=a1n
 refine a4t (α:=List (List Int)×List FV) (β:=List (List Int)×List V) (fr:=λb=>{ c with pr:=(acc,.dT ((a2c b.1).zip b.2)) :: c.pr }) (P:=λa b S=>a.1=b.1/\a.1.length=a.2.length/\RVs K S a.2 b.2) (N:=λa=>a.1.length) (Cm:=λxs a L=>a5o n m tg t ek ev xs a.1 a.2 L Q1) (em:=λa L3 K'=>ek L3 λkx L4=>wp (a5t kx) λps=>wp (a0v ps) λk=>ev L4 λv L5=>K' (a1x a.1 a.2 k v) L5) (a0:=([],[])) (b0:=([],[])) ((I.lay hacc _).prot a0e (I.sn hacc) λj w hm hj=>(I.fresh hacc).2.2 j w (Mo.w_imm hm) hj) hJ hL hmd ht hg ⟨rfl,rfl,rfl⟩ rfl h (λ_ _ _ _ _ _ I _=>I.unprot hz) (λ_ _ _ _ ⟨e,l,r⟩ s=>⟨e,l,r.mono s⟩) (λ_ _ _ _ h=>h) (λ⟨ks,vs⟩ ⟨ks',us⟩ L3 σ2 S3 H3 K' Z hn I3 ⟨e,hkl,r⟩ hv kz=>?_) λ⟨ks,vs⟩ ⟨ks',us⟩ L' S' H' q I' ⟨e,hkl,r⟩ s'=>?_
 ·cases (show ks=ks' from e)
  dsimp only at hn hkl r
  refine⟨_,L3,S3,_,I3,hv,λkx L4 hk u S4 H4 r4 I4 s4=>?_⟩
  obtain⟨ps,e1,hk1⟩:=wpx hk
  obtain⟨kk,e2,hk2⟩:=wpx hk1
  cases a2a e1
  obtain⟨b,rfl,hb4⟩:=a7y r4 e2
  refine⟨_,L4,S4,_,I4,hk2,λv L5 hv u S5 H5 r5 I5 s5=>?_⟩
  have lr:=r.length
  obtain⟨pe,pr⟩:=a3w (ks:=ks) (k:=kk) (r.mono (s4.trans s5)) r5
  obtain⟨pl1,pl2⟩:=a3f ks vs kk v hkl
  refine⟨_,kk.map Sum.inl,b,(I5.prs (acc,_) Γn).1,rfl,I5.sub _ _ (s5 _ _ hb4),by rw[List.length_zip,show (a2c ks).length=ks.length by simp[a2c]];lia,?_⟩
  rw[b2e ks us kk u (by lia)]
  exact kz _ (a1x ks us kk u) L5 S5 _ hv (I5.regrow h0 hp hz) ⟨pe,pl1,pr⟩ (s4.trans s5) pl2
 ·cases (show ks=ks' from e)
  obtain⟨g1,g2,f⟩:=I'.newPr h0 hp hz
  exact k acc ks vs us L' S' H' hacc q g2 g1 hkl r f (I'.unprot hz) s'
end
section
variable {X:Cx}{C:CC}{n:Nat}{sp:Γd->Nat->Sp}{pos:Pos}{scope:Scope}{own:List Str}{kx vx tgx iter:Expr}{ifs:List Expr}{it:AW}{tg:Tg}{t:BW}{ek ev:EW}{nn m:Nat}{md':Md}
theorem c3j (G:Good X C n sp)(h:CompOk X C n sp scope own kx tgx iter ifs nn m md' it tg t ek)(hv:∀ X',Good X' (C.sub scope own md') n sp->FE X' (C.sub scope own md') vx ev):FE X C (.DictComp kx vx [⟨tgx,iter,ifs,0⟩] scope pos) (b9n nn m it tg t ek ev):=by
 have h0:=b2 h.st;have h1:=b2 h0.1;have h2:=b2 h1.1;have h3:=b2 h2.1;have h4:=b2 h3.1;have h5:=b2 h4.1;have h6:=b2 h5.1
 obtain⟨s1,s2⟩:=G.sub h6.1 md'
 have hu:X.A.units+1<cLine:=by have:=G.room.units;lia
 have blk:∀ fp D s H,PG (cxC X scope own fp D s H) tgx (gT X.K tg)/\PTs (cxC X scope own fp D s H) ifs (lb X.K md' t)/\PE (cxC X scope own fp D s H) kx (lv X.K md' ek)/\PE (cxC X scope own fp D s H) vx (lv X.K md' ev):=λfp D s H=>⟨h.tg _ (s2 fp D s H),h.ts _ (s2 fp D s H),h.el _ (s2 fp D s H),hv _ (s2 fp D s H)⟩
 refine PE.imp (b3v (X:=X) hu G.calm s1 h.it blk (b0v (nb h0.2))) λσ H Q ⟨c,L,S,Q0,I,hh,k⟩=>?_
 refine⟨c,L,S,_,I,hh,λxs L1 hx J c' S1 H1 I1 un e0 hJ s1=>?_⟩
 obtain⟨hl,hb,hc⟩:=hx
 rw[de h5.2]
 refine c0e I1 hJ hl (de h4.2) h2.2 h1.2 hb hc λacc ks vs us L' S' H' hn q g1 g2 g3 g4 fr I' s'=>?_
 obtain⟨u,hu,I2,r⟩:=c7h (un _ _ _ _ I') g1 g2 g3 g4 ⟨by rw[<- e0];exact fr.1,((un _ _ _ _ I1).fresh hn).2.1,λj w hm=>fr.2.2 j w (a6q h3.2 j hm)⟩
 exact k _ L' q _ _ H' r I2 ((s1.trans s').trans (a0r g1))
end
def b2w (a b:FV):Option FV:=match b with
 | .dct ks _=>(a5t a).bind λps=>(a0v ps).bind λk=>some (.bl (decide (k∈ks)))
 | .dci ks _=>(a3l a).bind λk=>some (.bl (decide (k∈ks)))
 | b=>inB a b
def b2k (a b:FV):Option FV:=match b with
 | .dct ks _=>(a5t a).bind λps=>(a0v ps).bind λk=>some (.bl (!decide (k∈ks)))
 | .dci ks _=>(a3l a).bind λk=>some (.bl (!decide (k∈ks)))
 | b=>niB a b
def c3u (v w:FV):Option FV:=match v with
 | .dct ks vs=>(a5t w).bind λps=>(a0v ps).bind λk=>a3a ks vs k
 | _=>none
section
variable {X:Cx}
theorem RH.dct {K:Γd}{S H:Hp}{ks:List (List Int)}{vs:List FV}{y:V}(hs:Same S H)(rq:RH K S H (.dct ks vs) y):∃ a us,y=.ref a/\ks.length=vs.length/\H a=some (.dT ((a2c ks).zip us))/\RVs K S vs us:=by
 rcases rq with⟨a,us,e,hl,h1,h2⟩|⟨a,e,_,ps,us,e9,h1,h2⟩
 ·exact⟨a,us,e,hl,hs _ _ h1,h2⟩
 ·obtain⟨hl,rfl⟩:=itd e9
  exact⟨a,us,e,hl,h1,h2⟩
theorem a9i {S H:Hp}{ks:List (List Int)}{vs:List FV}{ps:List FV}{k:List Int}{x y:V}(hs:Same S H)(rp:RH X.K S H (.tup ps) x)(rq:RH X.K S H (.dct ks vs) y)(e:a0v ps=some k):∃ a us,y=.ref a/\ks.length=us.length/\RVs X.K S vs us/\L2.DGet H a x (a3a ks us k):=by
 obtain⟨a,us,rfl,hl,h1,h2⟩:=rq.dct hs
 obtain⟨b,rfl,hb⟩:=a7y (rp.val rfl) e
 refine⟨a,us,rfl,by rw[hl,h2.length],h2,?_⟩
 rw[<- a6u]
 exact .t h1 (hs _ _ hb)
theorem a5z:∀ (ks:List Int)(us:List V) (k:Int),a9n ((a3k ks).zip us) (Sum.inl k)=a3a ks us k
 | [],us,k=>by cases us<;>rfl
 | k' :: ks,[],k=>rfl
 | k' :: ks,u :: us,k=>by
  show a9n ((Sum.inl k',u) :: (a3k ks).zip us) (Sum.inl k)=if k'=k then some u else a3a ks us k
  by_cases e:k'=k
  ·subst e;rw[a3t rfl,if_pos rfl]
  ·rw[a3u λz=>e (Sum.inl.inj z),if_neg e];exact a5z ks us k
theorem RH.dci {K:Γd}{S H:Hp}{ks:List Int}{vs:List FV}{y:V}(hs:Same S H)(rq:RH K S H (.dci ks vs) y):∃ a us,y=.ref a/\ks.length=vs.length/\H a=some (.dK ((a3k ks).zip us))/\RVs K S vs us:=by
 rcases rq with⟨a,us,e,hl,h1,h2⟩|⟨a,e,_,ps,us,e9,h1,h2⟩
 ·exact⟨a,us,e,hl,hs _ _ h1,h2⟩
 ·obtain⟨hl,rfl⟩:=itd e9
  exact⟨a,us,e,hl,h1,h2⟩
theorem b1d {S H:Hp}{ks:List Int}{vs:List FV}{k:Int}{y:V}(hs:Same S H)(rq:RH X.K S H (.dci ks vs) y):∃ a us,y=.ref a/\ks.length=us.length/\RVs X.K S vs us/\L2.DGet H a (.int k) (a3a ks us k):=by
 obtain⟨a,us,rfl,hl,h1,h2⟩:=rq.dci hs
 refine⟨a,us,rfl,by rw[hl,h2.length],h2,?_⟩
 rw[<- a5z]
 exact .k (k:=Sum.inl k) h1
theorem d8p (hu:X.A.units+64<cLine):OpR X (compareOp .In) (Rq X.K b2w):=by
 intro pins s σ H x y v u Q I rx ry ⟨S,p,q,z,hs,rp,rq,e,k⟩
 cases q with
 | dct ks vs =>
  obtain⟨ps,e1,e2⟩:=bnd e
  obtain⟨kk,e3,e4⟩:=bnd e2
  cases a2a e1
  cases e4
  obtain⟨a,us,rfl,hl,h2,g⟩:=a9i hs rp rq e3
  cases (show u=Value.ref a from ry)
  refine d_in (by lia) I g rx λs' I'=>⟨.bl _,H,I',rfl,?_⟩
  have:(a3a ks us kk).isSome=decide (kk∈ks):=by rw[Bool.eq_iff_iff,a2h kk hl];simp
  rw[this]
  exact k.bl
 | dci ks vs =>
  obtain⟨kk,e1,e4⟩:=bnd e
  cases a1o e1
  cases e4
  cases rp.int
  obtain⟨a,us,rfl,hl,h2,g⟩:=b1d (k:=kk) hs rq
  cases (show u=Value.ref a from ry)
  refine d_in (by lia) I g rx λs' I'=>⟨.bl _,H,I',rfl,?_⟩
  have:(a3a ks us kk).isSome=decide (kk∈ks):=by rw[Bool.eq_iff_iff,a2h kk hl];simp
  rw[this]
  exact k.bl
 | _=>exact q_in hu pins s σ H x y v u Q I rx ry ⟨S,p,_,z,hs,rp,rq,e,k⟩
theorem d0p (hu:X.A.units+64<cLine):OpR X (compareOp .NotIn) (Rq X.K b2k):=by
 intro pins s σ H x y v u Q I rx ry ⟨S,p,q,z,hs,rp,rq,e,k⟩
 cases q with
 | dct ks vs =>
  obtain⟨ps,e1,e2⟩:=bnd e
  obtain⟨kk,e3,e4⟩:=bnd e2
  cases a2a e1
  cases e4
  obtain⟨a,us,rfl,hl,h2,g⟩:=a9i hs rp rq e3
  cases (show u=Value.ref a from ry)
  refine b9w (by lia) I g rx λs' I'=>⟨.bl _,H,I',rfl,?_⟩
  have:(a3a ks us kk).isSome=decide (kk∈ks):=by rw[Bool.eq_iff_iff,a2h kk hl];simp
  rw[this]
  exact k.bl
 | dci ks vs =>
  obtain⟨kk,e1,e4⟩:=bnd e
  cases a1o e1
  cases e4
  cases rp.int
  obtain⟨a,us,rfl,hl,h2,g⟩:=b1d (k:=kk) hs rq
  cases (show u=Value.ref a from ry)
  refine b9w (by lia) I g rx λs' I'=>⟨.bl _,H,I',rfl,?_⟩
  have:(a3a ks us kk).isSome=decide (kk∈ks):=by rw[Bool.eq_iff_iff,a2h kk hl];simp
  rw[this]
  exact k.bl
 | _=>exact q_ni hu pins s σ H x y v u Q I rx ry ⟨S,p,_,z,hs,rp,rq,e,k⟩
end
theorem c9v:a5r b2w:=by
 intro v w z e
 cases w with
 | dct ks vs =>
  obtain⟨ps,_,e⟩:=bnd e
  obtain⟨k,_,e⟩:=bnd e
  cases e;exact⟨_,rfl⟩
 | dci ks vs =>
  obtain⟨k,_,e⟩:=bnd e
  cases e;exact⟨_,rfl⟩
 | _ =>
  obtain⟨b,_,rfl⟩:=mpd (show (inF v _).map FV.bl=some z from e)
  exact⟨_,rfl⟩
theorem c9u:a5r b2k:=by
 intro v w z e
 cases w with
 | dct ks vs =>
  obtain⟨ps,_,e⟩:=bnd e
  obtain⟨k,_,e⟩:=bnd e
  cases e;exact⟨_,rfl⟩
 | dci ks vs =>
  obtain⟨k,_,e⟩:=bnd e
  cases e;exact⟨_,rfl⟩
 | _ =>
  obtain⟨b,_,rfl⟩:=mpd (show (inF v _).map (λr=>FV.bl (!r))=some z from e)
  exact⟨_,rfl⟩
section
variable {X:Cx}{C:CC}{n:Nat}{sp:Γd->Nat->Sp}{a b:Expr}{ea eb:EW}{pos p:Pos}
theorem fe_ni2 (G:Good X C n sp)(ha:FE X C a ea)(hb:FR X C b eb)(hm:behindInMarks .NotIn b=false):FE X C (.Compare a [.NotIn] [b] pos) (eOp b2k ea eb):=b4o (d0p G.room.units) ha hb hm
theorem fb_in2 (G:Good X C n sp)(ha:FE X C a ea)(hb:FR X C b eb)(hm:behindInMarks .In b=false):FB X C (.Compare a [.In] [b] pos) (a0y (eOp b2w ea eb)):=a8a c9v (d8p G.room.units) ha hb hm
theorem fb_ni2 (G:Good X C n sp)(ha:FE X C a ea)(hb:FR X C b eb)(hm:behindInMarks .NotIn b=false):FB X C (.Compare a [.NotIn] [b] pos) (a0y (eOp b2k ea eb)):=a8a c9u (d0p G.room.units) ha hb hm
variable {es:List Expr}{k:Nat}{p2:Pos}
theorem e1f (G:Good X C n sp)(ha:FE X C a ea)(hb:FE X C (.Tuple es k p2) eb):FE X C (.Subscript a (.Tuple es k p2) pos) (eOp c3u ea eb) :=
 PE.imp (b2h (X:=X.nox) (by have:=G.room.units;show X.A.units+1<cLine;lia) ha hb λ_ _=>rfl) λσ H Q ⟨c,L,S,Q0,I,h,k⟩ =>
 ⟨c,L,S,_,I,h,λv L1 hv x S1 H1 r1 I1 s1=>⟨c,L1,S1,_,I1,hv,λw L2 hw y S2 H2 r2 I2 s2=>by
  obtain⟨z,e,q⟩:=wpx hw
  cases v with
  | dct ks vs =>
   obtain⟨ps,e1,e2⟩:=bnd e
   obtain⟨kk,e3,e4⟩:=bnd e2
   cases a2a e1
   obtain⟨a,us,rfl,hl,h2,g⟩:=a9i (X:=X) I2.sub (.inl r2) (.inl (r1.mono s2)) e3
   obtain⟨u,e5,r5⟩:=a6a h2 e4
   rw[e5] at g
   exact⟨a,u,rfl,g,k z L2 q u S2 H2 r5 I2 (s1.trans s2)⟩
  | _=>cases e⟩⟩
end
section
variable (Q:FV->Prop)
@[scoped simp ↓] theorem k_in2d (ps:List FV)(ks:List (List Int))(vs:List FV):wp (b2w (.tup ps) (.dct ks vs)) Q↔wp (a0v ps) λk=>Q (.bl (decide (k∈ks))):=by
 show wp ((a0v ps).bind _) Q↔_;rw[a1v];rfl
@[scoped simp ↓] theorem k_in2i (k:Int)(ks:List Int)(vs:List FV):wp (b2w (.int k) (.dci ks vs)) Q=Q (.bl (decide (k∈ks))):=propext Iff.rfl
@[scoped simp ↓] theorem k_ni2i (k:Int)(ks:List Int)(vs:List FV):wp (b2k (.int k) (.dci ks vs)) Q=Q (.bl (!decide (k∈ks))):=propext Iff.rfl
@[scoped simp ↓] theorem k_in2t (a:FV)(xs:List FV):wp (b2w a (.tup xs)) Q↔wp (inF a (.tup xs)) λr=>Q (.bl r):=a1p _ _ _
@[scoped simp ↓] theorem k_in2l (a:FV)(xs:List FV):wp (b2w a (.lst xs)) Q↔wp (inF a (.lst xs)) λr=>Q (.bl r):=a1p _ _ _
@[scoped simp ↓] theorem k_ni2d (ps:List FV)(ks:List (List Int))(vs:List FV):wp (b2k (.tup ps) (.dct ks vs)) Q↔wp (a0v ps) λk=>Q (.bl (!decide (k∈ks))):=by
 show wp ((a0v ps).bind _) Q↔_;rw[a1v];rfl
@[scoped simp ↓] theorem k_ni2t (a:FV)(xs:List FV):wp (b2k a (.tup xs)) Q↔wp (inF a (.tup xs)) λr=>Q (.bl (!r)):=a1p _ _ _
@[scoped simp ↓] theorem k_ni2l (a:FV)(xs:List FV):wp (b2k a (.lst xs)) Q↔wp (inF a (.lst xs)) λr=>Q (.bl (!r)):=a1p _ _ _
@[scoped simp ↓] theorem k_dget (ps:List FV)(ks:List (List Int))(vs:List FV):wp (c3u (.dct ks vs) (.tup ps)) Q↔wp (a0v ps) λk=>wp (a3a ks vs k) Q:=by
 show wp ((a0v ps).bind _) Q↔_;rw[a1v]
@[scoped simp ↓] theorem ints_n (Q:List Int->Prop):wp (a0v []) Q=Q []:=propext Iff.rfl
@[scoped simp ↓] theorem ints_c (i:Int)(r:List FV)(Q:List Int->Prop):wp (a0v (.int i :: r)) Q↔wp (a0v r) λns=>Q (i :: ns):=by
 show wp ((a0v r).map (i :: ·)) Q↔_;rw[a1p]
end
@[scoped simp ↓] theorem d3q (n m:Nat)(it:AW)(tg:Tg)(t:BW)(ek ev:EW)(L:a0c)(Q:FV->a0c->Prop):b9n n m it tg t ek ev L Q=(it L λxs L1=>L1.length=n/\xs.length<=big/\a5o n m tg t ek ev xs [] [] L1 λks vs L2=>Q (.dct ks vs) L2):=propext Iff.rfl
theorem b1k {α:Type}{tg:Tg}{n m:Nat}{ek ev:EW}{f:α->FV}{g:α->List Int}{h:α->FV}{Q:List (List Int)->List FV->a0c->Prop}{L:a0c}:∀ (xs:List α)(ks:List (List Int))(vs:List FV),
  (∀ x∈xs,g x ∉ ks)->(xs.map g).Nodup ->
  (∀ x∈xs,∀ K:List Int->FV->a0c->Prop,K (g x) (h x) L->gW tg (f x) (L++Γj m none) λL1=>ek L1 λkx L3=>wp (a5t kx) λps=>wp (a0v ps) λk=>ev L3 λv L4=>K k v (L4.take n))->Q (ks++xs.map g) (vs++xs.map h) L->a5o n m tg a1r ek ev (xs.map f) ks vs L Q
 | [],ks,vs,_,_,_,E=>by
  show Q ks vs L
  simpa using E
 | x :: xs,ks,vs,hn,hd,B,E=>by
  refine B x Γn (λk v L'=>a5o n m tg a1r ek ev (xs.map f) (a1x ks vs k v).1 (a1x ks vs k v).2 L' Q) ?_
  have hk:=hn x Γn
  simp only[List.map_cons,List.nodup_cons] at hd
  have e:a1x ks vs (g x) (h x)=(ks++[g x],vs++[h x]):=by simp[a1x,hk]
  rw[e]
  refine b1k xs _ _ (λy hy hm=>?_) hd.2 (λy hy=>B y (Γh _ hy)) (by simpa using E)
  rcases List.mem_append.mp hm with hm|hm
  ·exact hn y (Γh _ hy) hm
  ·simp at hm
   exact hd.1 (by rw[<- hm];exact List.mem_map_of_mem hy)
end Kq
end
section
namespace PySem
section
variable {prog:Program}{w:World}{A:Around}{E:Value->Shared->Prop}{s:Shared}
end
end PySem
namespace Kq
open PySem PySem.Spec PyProof.Rows L2
section
variable {P:Program}{w:World}{A:Around}{E:Value->Shared->Prop}{s:Shared}
end
def maxIF (v:FV):Option FV:=(a1z v).bind λxs=>(a0v xs).bind λns=>match ns with
 | n :: r=>some (.int (c7j n r))
 | []=>none
section
variable {X:Cx}
end
section
variable {X:Cx}{C:CC}{n:Nat}{sp:Γd->Nat->Sp}{a:Expr}{ea:EW}{pos p:Pos}
end
end Kq
end
section
namespace PySem
section
variable {prog:Program}{w:World}{A:Around}{E:Value->Shared->Prop}{s:Shared}
end
end PySem
namespace Kq
open PySem PySem.Spec PyProof.Rows L2
section
variable {X:Cx}{a:Expr}{ta:TA}{p p2 pos pos2:Pos}
end
def revTF (v:FV):Option FV:=(a1z v).map λxs=>.tup xs.reverse
end Kq
end
section
namespace Kq
open PySem PySem.Spec PyProof.Rows L2
section
variable {P:Program}{w:World}{A:Around}{E:Value->Shared->Prop}{s:Shared}
end
def c1h (v:FV):Option FV:=(a4k v).bind λxs=>(d0c xs).map .int
section
variable {X:Cx}
theorem b5u (hc:X.calm=true):a1l X (.builtin "sum") (λxs H Q=>∃ (a:Addr)(ns:List Int),xs=[.ref a]/\SqT X.K H a (ns.map V.int)/\ns.length<=big/\(∀ n∈ns,-(2 ^ 40)<=n/\n<=2 ^ 40)/\Q (.int ns.sum) H):=by
 intro pins s σ H xs us Q I r h
 obtain⟨a,ns,rfl,hq,hz,hb,q⟩:=h
 obtain⟨u,rfl,rx⟩:=a3e r
 cases rx
 obtain⟨its,r',pl,hz'⟩:=I.tuple hq
 have hlen:ns.length=its.length:=by have:=r'.length;simpa using this
 have pt:s.heap.IsTuple a its.toArray:=pl
 have alt:a<s.heap.objs.size:=by obtain⟨_,e,_⟩:=pt;exact Γl e
 have hh:X.A.in1.handled=none:=I.ok.hd hc
 refine call_sum_walk (wpAny_pyIter_tuple pt ?_)
 refine⟨s.heap.objs.size,_,_,_,_,_,λi=>ns.getD i 0,rfl,Walks.tuple hh s.heap.objs.size a (Γo alt) its.toArray,⟨⟨_,Γm _ rfl,rfl,rfl⟩,pt.at λo e=>Γc _ e⟩,?_,?_,?_,?_⟩
 ·intro b hb'
  simp at hb'
  rcases hb' with rfl|rfl
  ·show _<(s.heap.push _).objs.size;rw[Heap.size_push];exact Nat.lt_succ_self _
  ·show _<(s.heap.push _).objs.size;rw[Heap.size_push];exact Nat.lt_succ_of_lt alt
 ·intro i v hv
  have hv:its.toArray[i]?=some v:=hv
  have hi:i<ns.length:=by rw[hlen];simpa using (Array.getElem?_eq_some_iff.mp hv).1
  obtain⟨t,e⟩:=Vals.mapInt r' i hi
  refine⟨t,?_⟩
  have e':its.toArray[i]?=some (.int (ns.getD i 0) t):=by simpa using e
  rw[hv] at e'
  exact Option.some.inj e'
 ·intro j hj
  have hj':j<ns.length:=by rw[hlen];simpa using hj
  have hm:ns.getD j 0∈ns:=by simp[List.getD,hj']
  refine⟨?_,?_⟩
  ·have:=hb _ hm
   show -(2 ^ 63)<=ns.getD j 0/\ns.getD j 0<2 ^ 63
   lia
  ·rw[a2e ns (j+1) hj']
   have b2:=b6t 1099511627776 (by decide) (ns.take (j+1)) λn hn=>by have:=hb n (List.mem_of_mem_take hn);lia
   have l2:(ns.take (j+1)).length<=100000:=by rw[List.length_take];unfold big at hz;lia
   unfold InLong;lia
 ·intro h' tk t' hk
  have e:preSum (λi=>ns.getD i 0) its.toArray.size=ns.sum:=by
   rw[List.size_toArray,<- hlen,a2e ns _ (Γi _),List.take_length]
  rw[e]
  refine⟨.int ns.sum,H,?_,⟨t',rfl⟩,q⟩
  exact I.kept (t':=tk) λb o e=>hk b o (by simp;exact Γo (Γl e)) (Γc _ e)
theorem d4d (hc:X.calm=true):a1l X (.builtin "sum") (Rc X.K c1h):=by
 rintro pins s σ H xs us Q I r ⟨S,v,x,z,rfl,hs,rv,e,k⟩
 cases v with
 | tup ps =>
  obtain⟨n,e3,rfl⟩:=mpd e
  obtain⟨ns,e4,e5⟩:=bnd e3
  obtain⟨hb,rfl⟩:=itd e5
  obtain⟨a,ys,rfl,hq,ry⟩:=rv.tup hs
  cases a2x ry e4
  refine b5u hc pins s σ H _ us Q I r ⟨a,ns,rfl,SqT.of hq,hb.1,λn hn=>?_,k.int⟩
  have:=List.all_eq_true.mp hb.2 n hn
  simpa[a8k] using this
 | lst ps=>exact d4e hc pins s σ H _ us Q I r ⟨S,.lst ps,x,z,rfl,hs,rv,e,k⟩
 | scr ps=>exact d4e hc pins s σ H _ us Q I r ⟨S,.scr ps,x,z,rfl,hs,rv,e,k⟩
 | _=>cases e
end
section
variable {X:Cx}{C:CC}{n:Nat}{sp:Γd->Nat->Sp}{a:Expr}{ea:EW}{pos p:Pos}
theorem e0v (G:Good X C n sp)(hg:C.gl (Γe "sum")=true)(hs:a0k a=false)(ha:FR X C a ea):FE X C (.Call (.Name (Γe "sum") p) [a] [] pos) (eUn c1h ea):=b0z (d4d G.calm) G (by decide) (by nofun) (by nofun) (by nofun) hg hs ha
end
@[scoped simp ↓] theorem f_sum2 (v:FV)(Q:FV->Prop):wp (c1h v) Q↔wp (a4k v) λxs=>wp (d0c xs) λn=>Q (.int n):=by
 show wp ((a4k v).bind _) Q↔_
 simp only[a1v,a1p]
def insL {α:Type}(xs:List α) (k:Nat)(y:α):List α:=xs.take k++y :: xs.drop k
def insF (v:FV)(ys:List FV):Option FV:=match ys with
 | [i,y]=>(a7b v).bind λxs=>(a3l i).bind λk=>if 0<=k/\k<4611686018427387904/\xs.length<big then some (.lst (insL xs k.toNat y)) else none
 | _=>none
def eMethA (f:FV->List FV->Option FV) (i:Nat)(as:AW):EW:=λL Q=>wp (lk L i) λv=>wp (a7b v) λ_=>as L λys L1=>wp (lk L1 i) λx=>wp (f x ys) λz=>Q .non (L1.set i (some z))
section
variable {X:Cx}
end
section
variable {K:Γd}{S:Hp}
end
section
variable {X:Cx}{C:CC}{n:Nat}{sp:Γd->Nat->Sp}{a b:Expr}{as:AW}{nx:Str}{p:Pos}{i:Nat}
end
end Kq
end
section
namespace PySem
open Sem (wp)
theorem a7e:typeLookup (.type "list") (Γe "keys")=pure none:=by rw[typeLookup_type,builtinLookup_eq_fast];kernel_rfl
theorem a4r {prog:Program}{w:World}{A:Around}{E:Value->Shared->Prop}{s:Shared}{a:Addr}{o:Obj}{xs:Array Value}{k:Nat}{name:Str}{Q:Option Value->Shared->Prop}
  (hx:s.heap.get? a=some o)(hc:o.cls=.type "list")(hdat:o.data=.seq xs k)(hd:o.dict=none)(hmiss:typeLookup (.type "list") name=pure none)(hname:(["__module__","__name__","__qualname__","__doc__","__annotations__"]:List Str).contains name=false)(hA:A.handled=none)
  (h:∀ h' tk e,Heap.NewExcOf s.heap h' e "AttributeError"->Q none { s with heap:=h',toks:=tk })(hsz:name.length+100<=sizeLine:=by size_fits) :
  wpAny (model prog w) A (getAttr? (.ref a) name) Q E s:=by
 obtain⟨c,dct,dat,sl⟩:=o
 simp only at hc hdat hd
 subst hc hdat hd
 obtain⟨hp,g,d,tk,os⟩:=s
 have hT:∀ tk',(⟨hp,g,d,tk',os⟩:Shared).TypeIs (.ref a) "list":=λ_=>⟨_,hx,rfl⟩
 have f1:=sub_AttributeError
 have f3:=F.slot_list_getattribute.lookup
 have f4:=F.slot_list_getattribute.bind (.ref a)
 have f5:=am_list_getattr_none
 unfold getAttr? getAttrBy? getAttrBy
 repeat (any_goals (first|assumption|exact hT _|((with_reducible show wpAny _ _ (call (Value.builtin "list.__getattribute__") _ _) _ _ _);refine call_meets F.slot_list_getattribute (hT _) am_entry_list_getattribute (F.args_list_getattribute_2 _ _) (meets_getattribute_miss_list a xs k sl name _ hmiss hname hsz) ⟨hx,hA,λh' tk' e hx'=>?_⟩)|wp_step))
 obtain⟨t',u',he⟩:=hx'.there
 show wpAny _ _ (getattributeRaised _ _ _ _ _ _ _) _ _ _
 unfold getattributeRaised
 repeat (any_goals (first|assumption|wp_step))
 exact h _ _ _ hx'.of
end PySem
namespace Kq
open PySem PySem.Spec PyProof.Rows L2
theorem F.entry_dict_update_loop:entryFor table "dict.update.loop" = some Builtin.«dict.update.loop»:=entryFor_of_tree (by kernel_rfl)
theorem F.plain_dict_update_loop:plainId "dict.update.loop" = true:=by nofun
abbrev b1t (H:Hp):List V->List (List Key×V)->Prop:=Paired λy p=>∃ b kb:Addr,y=.ref b/\H b=some (.tup [.ref kb,p.2])/\H kb=some (.tup (p.1.map kV))
def a9m (P:Program)(w:World)(h:Heap)(D:Addr)(xs:List (List Key×Addr×Value)):Prop :=
 ∃ o es ep,h.get? D=some o/\o.ExactDict/\o.data=.dict es ep/\es.toList=xs.map (entryOfKey (tupleKind (a0z P w)))/\(xs.map (·.1)).Nodup
section
variable {P:Program}{w:World}{A:Around}{R:Result->Shared->Prop}{H:Hp}{h0:Heap}{it l D:Addr}{items:Array Value}
theorem b8i (ok:HOk P w H h0){h:Heap}(kp:L2.Kept h0 h h0.objs.size){a:Addr}{ks:List Key}(e:H a=some (.tup (ks.map kV))):(tupleKind (a0z P w)).is h ks a:=by
 obtain⟨o,its,n,h1,h2⟩:=a6r ok e
 exact⟨o,its,n,kp a o (Γl h1) h1,h2⟩
theorem c1r (ok:HOk P w H h0){h:Heap}(kp:L2.Kept h0 h h0.objs.size){kvs:List (List Key×V)}{xs:List (List Key×Addr×Value)}(r:KT H kvs xs)(d:a9m P w h D xs):h.DictOfH (tupleKind (a0z P w)) D xs:=by
 obtain⟨o,es,ep,h1,h2,h3,h4,h5⟩:=d
 refine⟨o,es,ep,h1,h2,h3,h4,λx hx=>?_,h5⟩
 have all:∀ {l:List (List Key×V)}{m:List (List Key×Addr×Value)},KT H l m->∀ x∈m,(tupleKind (a0z P w)).is h x.1 x.2.1:=by
  intro l m q
  induction q with
  | nil=>intro x hx;exact nomatch hx
  | @cons p q ps qs hq t ih =>
   intro x hx
   rcases List.mem_cons.mp hx with e|hx
   ·subst e
    exact b8i ok kp (by rw[<- hq.1];exact hq.2.1)
   ·exact ih x hx
 exact all r x hx
theorem c8n (ok:HOk P w H h0)(hu:A.in1.units<cLine)(hh:A.in1.handled=none)(hl:h0.IsList l items)(hit:h0.objs.size<=it)(hD:h0.objs.size<=D)(hne:D≠it) :
  ∀ (rest:List (List Key×V))(ys:List V)(us:List Value) (i:Nat)(s:Shared)(kvs:List (List Key×V))(xs:List (List Key×Addr×Value)),items.toList.drop i=us->i<=items.size->Vals ys us->b1t H ys rest->s.heap.IsListIter it l i->L2.Kept h0 s.heap h0.objs.size->KT H kvs xs->a9m P w s.heap D xs->kvs.length+rest.length<=sizeLine ->
  (∀ h' tk xs',KT H (rest.foldl (λk p=>a4z k p.1 p.2) kvs) xs'->a9m P w h' D xs'->L2.Kept h0 h' h0.objs.size->R (.ok (.ret .none)) { s with heap:=h',toks:=tk }) ->
  codeAny (model P w) A (.builtin "dict.update.loop" ⟨[.ref D,.ref it,.int (i:Int) 0,.none],[]⟩) R s:=by
 have ll:l<h0.objs.size:=by obtain⟨_,e,_⟩:=hl;exact Γl e
 have W:=Walks.list (prog:=P) (w:=w) (A:=A.in1) hh it l (Γo (Nat.lt_of_lt_of_le ll hit)) items
 have lst:∀ {h:Heap},L2.Kept h0 h h0.objs.size->h.IsList l items:=λ{h} kp=>hl.at λo e=>kp l o ll e
 intro rest
 induction rest with
 | nil =>
  intro ys us i s kvs xs hd hi hv hp hst kp hk hr hz hR
  cases hp
  cases hv
  have en:i=items.size:=by
   have:=congrArg List.length hd
   simp at this
   lia
  refine codeAny_builtin F.entry_dict_update_loop ?_;rw[PySem.Around.under_plainId F.plain_dict_update_loop _]
  show wpAny _ A.in1 (pyNext (.ref it) >>= _) _ _ s
  refine Γa (W.done s _ _ (by rw[<- en];exact⟨hst,lst kp⟩) λg tk kk=>?_)
  show wpAny _ A.in1 (Builtin.Dict.addKeywords D [] >>= _) _ _ _
  refine Γa (Γb (Γb ?_))
  have low:∀ {b:Addr},b<h0.objs.size->b ∉ [it]:=λ{b} hb=>by simp;exact Γo (Nat.lt_of_lt_of_le hb hit)
  obtain⟨o,es,ep,h1,h2⟩:=hr
  exact hR g tk xs hk ⟨o,es,ep,kk D o (by simp;exact hne) h1,h2⟩ λb o hb e=>kk b o (low hb) (kp b o hb e)
 | cons p rest ih =>
  intro ys us i s kvs xs hd hi hv hp hst kp hk hr hz hR
  cases hp with
  | @cons y _ ys' _ hpq hp' =>
  obtain⟨b,kb,rfl,hb,hkb⟩:=hpq
  cases hv with
  | @cons _ u _ us' ru hv' =>
  cases (show u=Value.ref b from ru)
  have hi':items[i]?=some (.ref b):=by
   have:=congrArg (λl:List Value=>l[0]?) hd
   simpa using this
  have lt:i<items.size:=(Array.getElem?_eq_some_iff.mp hi').1
  have hd':items.toList.drop (i+1)=us':=by
   have:=congrArg List.tail hd
   simpa using this
  obtain⟨_,its,rt,o,e1,e2,n,e3⟩:=(show ObjOk P w H h0 b (.tup [.ref kb,p.2]) from ok b _ hb)
  cases rt with
  | @cons _ u1 _ t1 r1 rt =>
  cases (show u1=Value.ref kb from r1)
  cases rt with
  | @cons _ u2 _ t2 r2 rt =>
  cases rt
  have low:∀ {b:Addr},b<h0.objs.size->b ∉ [it]:=λ{b} hb=>by simp;exact Γo (Nat.lt_of_lt_of_le hb hit)
  refine codeAny_builtin F.entry_dict_update_loop ?_;rw[PySem.Around.under_plainId F.plain_dict_update_loop _]
  show wpAny _ A.in1 (pyNext (.ref it) >>= _) _ _ s
  refine Γa (W.item i s _ _ lt ⟨hst,lst kp⟩ λv g tk vP st1 kk=>?_)
  have vP:items[i]?=some v:=vP
  rw[hi'] at vP
  cases vP
  have kp1:L2.Kept h0 g h0.objs.size:=λb o hb e=>kk b o (low hb) (kp b o hb e)
  have hr1:a9m P w g D xs:=by
   obtain⟨o,es,ep,h1,h2⟩:=hr
   exact⟨o,es,ep,kk D o (by simp;exact hne) h1,h2⟩
  have eb:g.get? b=some o:=kp1 b o (Γl e1) e1
  show wpAny _ A.in1 (holding [Value.ref b] _ >>= _) _ _ _
  refine Γa (Γg (Γa (wpAny_tryCatch ?_)))
  unfold Builtin.Dict.pairItems
  refine Γa (wpAny_typeOf (show Shared.TypeIs _ (.ref b) "tuple" from ⟨o,eb,e2⟩) ?_)
  rw[if_pos (by decide)]
  refine Γa (wpAny_seqItems eb e3 (Γb ?_))
  show wpAny _ A.in1 (holding [Value.ref kb,u2] (dictSet D (.ref kb) u2)) _ _ _
  have hz1:xs.length<=sizeLine:=by
   have:=Paired.length hk
   simp only[List.length_cons] at hz
   lia
  refine Γg (wpAny_dictSet_heap (knd:=tupleKind (a0z P w)) (hsz:=hz1) hu (b8i ok kp1 hkb) (c1r ok kp1 hk hr1) λh' dd' hs=>?_)
  obtain⟨q,es,ep,hq,h2',h3',h4',h5',h6'⟩:=dd'
  have kp2:L2.Kept h0 h' h0.objs.size:=λb o hb e=>(hs.2 b (λz=>absurd hb (by rw[z];exact Nat.not_lt.mpr hD))).trans (kp1 b o hb e)
  have hit':h'.IsListIter it l (i+1):=by
   obtain⟨o,x1,x2⟩:=st1.1
   exact⟨o,(hs.2 it (Ne.symm hne)).trans x1,x2⟩
  have en:(i:Int)+1=((i+1:Nat):Int):=by lia
  show wpAny _ A.in1 (again (.builtin "dict.update.loop" ⟨[.ref D,.ref it,rawInt ((i:Int)+1),.none],[]⟩)) _ _ _
  rw[en]
  refine Γb ⟨plainId_quiet F.plain_dict_update_loop _,ih ys' us' (i+1) _ (a4z kvs p.1 p.2) _ hd' lt hv' hp' hit' kp2 (hk.put p.1 hkb r2) ⟨q,es,ep,hq,h2',h3',h4',h6'⟩ ?_ λh'' tk' xs' x1 x2 x3=>hR h'' tk' xs' x1 x2 x3⟩
  have:=a2v kvs p.1 p.2
  simp only[List.length_cons] at hz
  lia
end
section
variable {X:Cx}{pins:List (Addr×Obj)}{σ:L2.St}{H:Hp}{s:Shared}{A:Around}{E:Value->Shared->Prop}
theorem a6z {l:Addr}{ys:List V}{ps:List (List Key×V)}{Q:Value->Shared->Prop}(hu:A.in1.in1.units<cLine)(hh:A.in1.in1.handled=none)(I:Inv X pins σ H s)(hl:SqL X.K H l ys)(hp:b1t H ys ps)
  (h:∀ p s',H p=none->Inv X pins σ (upd H p (.dT (ps.foldl (λk q=>a4z k q.1 q.2) []))) s'->Q (.ref p) s'):wpAny (model X.prog X.w) A (call (.type "dict") [.ref l]) Q E s:=by
 obtain⟨its,rv,pl,hz⟩:=I.list hl
 have hll:=pl.isList
 have lp:ys.length=ps.length:=Paired.length hp
 have ll:l<s.heap.objs.size:=by obtain⟨_,e,_⟩:=hll;exact Γl e
 refine callType_codes (Q₁:=λobj s₁=>obj=.ref s.heap.objs.size/\s₁ = { s with heap:=s.heap.push { cls:=.type "dict",data:=.dict #[] } }) PySem.F.kt_called_dict (PySem.F.kt_typeCall_dict_1 _) PySem.F.entry_dict_init (kt_code_dict_new _ ⟨rfl,rfl⟩) ?_
 rintro obj s₁ ⟨rfl,rfl⟩
 have nD:(s.heap.push { cls:=.type "dict",data:=.dict #[] }).get? s.heap.objs.size=some { cls:=.type "dict",data:=.dict #[] }:=Γm _ rfl
 have hT:Shared.TypeIs { s with heap:=s.heap.push { cls:=.type "dict",data:=.dict #[] } } (.ref s.heap.objs.size) "dict":=⟨_,nD,rfl⟩
 refine⟨hT,PySem.F.args_dict_init_2 _ _,?_⟩
 unfold Builtin.«dict.__init__»
 refine Γa ?_
 unfold Builtin.Dict.selfAndRest
 refine Γa (wpAny_notOrdered_dict hT ?_)
 show wpAny _ _ (pure (s.heap.objs.size,[Value.ref l])) _ _ _
 refine Γb ?_
 show wpAny _ _ (Builtin.Dict.updateFrom "dict.__init__" s.heap.objs.size (.ref l) [] .none) _ _ _
 unfold Builtin.Dict.updateFrom
 have hl1:(s.heap.push { cls:=.type "dict",data:=.dict #[] }).IsList l its.toArray:=hll.push _
 refine Γa (wpAny_typeOf hl1.typeIs ?_)
 rw[if_pos (by decide)]
 obtain⟨o,n,f1,f2,f3,f4⟩:=pl
 refine Γa (a4r (Γc _ f1) f2 f4 f3 a7e (by nofun) hh (λh' tk e hx=>?_) (by nofun))
 rw[if_pos (show (none:Option Value).isNone=true from rfl)]
 refine Γa (wpAny_rule (Γa (wpAny_pyIter_list (hl1.at λo e=>hx.keeps _ _ e) (Γb ⟨plainId_quiet F.plain_dict_update_loop _,?_⟩))))
 have kp:∀ b o,s.heap.get? b=some o->(h'.push { cls:=.type "list_iterator",data:=.fields #[.ref l,.int 0 0] }).get? b=some o:=λb o e=>Γc _ (hx.keeps _ _ (Γc _ e))
 have d1:=hx.keeps _ _ nD
 have lD:s.heap.objs.size<h'.objs.size:=Γl d1
 refine c8n (P:=X.prog) (w:=X.w) (A:=A.in1) (h0:=s.heap) (H:=H) I.hok hu hh hll (Nat.le_of_lt lD) (Γi _) (Γo lD) ps ys its 0 _ [] [] (by simp) (Nat.zero_le _) rv hp ⟨_,Γm _ rfl,rfl,rfl⟩ (λb o _ e=>kp b o e) .nil
  ⟨_,#[],0,Γc _ d1,⟨rfl,rfl,rfl⟩,rfl,rfl,List.nodup_nil⟩ (by simp;lia) λh'' tk' xs' x1 x2 x3=>⟨rfl,h _ _ (I.hok.fresh (Γi _)) ?_⟩
 obtain⟨q,es,ep,hq,h2',h3',h4',h6'⟩:=x2
 refine I.laid (a:=s.heap.objs.size) (t':=tk') (λb u e=>x3 b u (Γl e) e) (Γi _) ⟨?_,beq_eq_false_iff_ne.mpr (Ne.symm (Γo I.big)),xs',x1.keeps λc ys ec=>?_,q,es,ep,hq,h2',h3',h4',h6'⟩
 ·have:∀ (ps kvs:List (List Key×V)),(ps.foldl (λk q=>a4z k q.1 q.2) kvs).length<=kvs.length+ps.length:=by
   intro ps
   induction ps with
   | nil=>intro kvs;exact Γi _
   | cons p r ih =>
    intro kvs
    have a:=ih (a4z kvs p.1 p.2)
    have b:=a2v kvs p.1 p.2
    simp only[List.foldl_cons,List.length_cons]
    lia
  have:=this ps []
  simp only[List.length_nil] at this
  lia
 ·have:c≠s.heap.objs.size:=λz=>by rw[z,I.hok.fresh (Γi _)] at ec;cases ec
  rw[a0d this];exact ec
end
end Kq
end
section
namespace Kq
open PySem PySem.Spec PyProof.Rows L2
def b7s:FV->Option (List Int×FV)
 | .tup [.tup ks,v]=>(a0v ks).map λk=>(k,v)
 | _=>none
def a7t:List FV->Option (List (List Int×FV))
 | []=>some []
 | x :: r=>(b7s x).bind λp=>(a7t r).map λq=>p :: q
def a1y {α:Type}:List (List Int×α)->List (List Int)->List α->List (List Int)×List α
 | [],ks,vs=>(ks,vs)
 | p :: r,ks,vs=>a1y r (a1x ks vs p.1 p.2).1 (a1x ks vs p.1 p.2).2
def c8p (v:FV):Option FV:=(a1z v).bind λxs=>(a7t xs).bind λps=>some (.dct (a1y ps [] []).1 (a1y ps [] []).2)
section
variable {K:Γd}{S:Hp}
theorem b7r {x:FV}{p:List Int×FV}(e:b7s x=some p):∃ ks,x=.tup [.tup ks,p.2]/\a0v ks=some p.1:=by
 unfold b7s at e
 split at e
 ·obtain⟨k,e1,rfl⟩:=mpd e
  exact⟨_,rfl,e1⟩
 ·cases e
theorem b0c:∀ {xs:List FV}{ys:List V}{ps:List (List Int×FV)},RVs K S xs ys->a7t xs=some ps->∃ qs:List (List Int×V),b1t S ys (qs.map λq=>(q.1.map Sum.inl,q.2))/\qs.map (·.1)=ps.map (·.1)/\RVs K S (ps.map (·.2)) (qs.map (·.2))
 | [],ys,ps,r,e=>by
  cases (show ys=[] from r)
  cases e
  exact⟨[],.nil,rfl,rfl⟩
 | x :: xs,ys,ps,⟨v,r,e0,h1,h2⟩,e=>by
  subst e0
  obtain⟨p,e1,e2⟩:=bnd e
  obtain⟨q,e3,rfl⟩:=mpd e2
  obtain⟨ks,rfl,e4⟩:=b7r e1
  obtain⟨qs,g1,g2,g3⟩:=b0c h2 e3
  obtain⟨b,zs,rfl,hb,hz⟩:=h1
  obtain⟨u1,u2,rfl,r1,r2⟩:=hz.two_of
  obtain⟨kb,rfl,hk⟩:=a7y r1 e4
  exact⟨(p.1,u2) :: qs,.cons ⟨b,kb,rfl,hb,hk⟩ g1,by simp[g2],⟨u2,_,rfl,r2,g3⟩⟩
theorem a7s {α:Type}:∀ (ps:List (List Int×α))(ks:List (List Int))(vs:List α),ks.length=vs.length->(a1y ps ks vs).1.length=(a1y ps ks vs).2.length
 | [],ks,vs,h=>h
 | p :: r,ks,vs,h=>a7s r _ _ (a3f ks vs p.1 p.2 h).1
theorem a7p:∀ (qs:List (List Int×V))(ks:List (List Int))(us:List V),ks.length=us.length->(qs.map λq=>((q.1.map Sum.inl:List Key),q.2)).foldl (λk q=>a4z k q.1 q.2) ((a2c ks).zip us)=(a2c (a1y qs ks us).1).zip (a1y qs ks us).2
 | [],ks,us,h=>rfl
 | q :: r,ks,us,h=>by
  rw[List.map_cons,List.foldl_cons,b2e ks us q.1 q.2 h]
  exact a7p r _ _ (a3f ks us q.1 q.2 h).1
theorem a7q:∀ {ps:List (List Int×FV)}{qs:List (List Int×V)}{ks:List (List Int)}{vs:List FV}{us:List V},qs.map (·.1)=ps.map (·.1)->RVs K S (ps.map (·.2)) (qs.map (·.2))->RVs K S vs us->(a1y ps ks vs).1=(a1y qs ks us).1/\RVs K S (a1y ps ks vs).2 (a1y qs ks us).2
 | [],[],ks,vs,us,_,_,r=>⟨rfl,r⟩
 | [],q :: qs,ks,vs,us,e,_,_=>by cases e
 | p :: ps,[],ks,vs,us,e,_,_=>by cases e
 | p :: ps,q :: qs,ks,vs,us,e,⟨v,r',e0,h1,h2⟩,r=>by
  simp only[List.map_cons,List.cons.injEq] at e e0
  obtain⟨e1,e2⟩:=e
  obtain⟨e3,e4⟩:=e0
  subst e3
  rw[<- e4] at h2
  obtain⟨g1,g2⟩:=a3w (ks:=ks) (k:=p.1) r h1
  have:=a7q (ks:=(a1x ks vs p.1 p.2).1) e2 h2 g2
  show (a1y ps (a1x ks vs p.1 p.2).1 (a1x ks vs p.1 p.2).2).1=(a1y qs (a1x ks us q.1 q.2).1 (a1x ks us q.1 q.2).2).1/\RVs K S (a1y ps (a1x ks vs p.1 p.2).1 (a1x ks vs p.1 p.2).2).2 (a1y qs (a1x ks us q.1 q.2).1 (a1x ks us q.1 q.2).2).2
  rw[e1,<- g1]
  exact this
end
section
variable {X:Cx}
def d8h (X:Cx):List V->Hp->VK->Prop:=λxs H Q=>∃ (a:Addr)(ys:List V)(ps:List (List Key×V)),xs=[.ref a]/\SqL X.K H a ys/\b1t H ys ps/\∀ p,H p=none->Q (.ref p) (upd H p (.dT (ps.foldl (λk q=>a4z k q.1 q.2) [])))
theorem d4k (hc:X.calm=true)(hu:X.A.units+64<cLine):a1l X (.type "dict") (d8h X):=by
 rintro pins s σ H xs us Q I r ⟨a,ys,ps,rfl,hl,hp,k⟩
 obtain⟨u,rfl,ru⟩:=a3e r
 cases (show u=Value.ref a from ru)
 have h1:X.A.in1.handled=none:=I.ok.hd hc
 refine a6z ?_ ?_ I hl hp λp s' hp' I'=>⟨.ref p,_,I',rfl,k p hp'⟩
 ·show X.A.units+1+1<cLine
  lia
 ·exact h1
end
section
variable {X:Cx}{C:CC}{n:Nat}{sp:Γd->Nat->Sp}{a b:Expr}{ea eb:EW}{pos p:Pos}
theorem e1d (G:Good X C n sp)(hg:C.gl (Γe "dict")=true)(hs:a0k a=false)(ha:FR X C a ea):FE X C (.Call (.Name (Γe "dict") p) [a] [] pos) (eUn c8p ea) :=
 PE.imp (a6n (d4k G.calm G.room.units) (G.gl hg) (G.blt "dict" (by decide)) (by nofun) (a0n ha a2n (a0f hs)) (by nofun) (by nofun) (a0f hs) rfl) λσ H Q ⟨c,L,S,Q0,I,h,k⟩ =>
 ⟨c,L,S,_,I,h,λv L1 hv x S1 H1 r1 I1 s1=>by
  obtain⟨z,e,q⟩:=wpx hv
  obtain⟨xs,e1,e2⟩:=bnd e
  obtain⟨ps,e3,e4⟩:=bnd e2
  cases e4
  obtain⟨a,ys,rfl,hq,ry⟩:=r1.list I1.sub e1
  obtain⟨qs,g1,g2,g3⟩:=b0c ry e3
  have hp:b1t H1 ys (qs.map λq=>(q.1.map Sum.inl,q.2)):=Paired.mapP g1 λ_ _ ⟨b,kb,f1,f2,f3⟩=>⟨b,kb,f1,I1.sub _ _ f2,I1.sub _ _ f3⟩
  refine⟨a,ys,_,rfl,hq,hp,λp hp0=>?_⟩
  have ev:=a7p qs [] [] rfl
  obtain⟨h1,h2⟩:=a7q (ks:=[]) (vs:=[]) (us:=[]) g2 g3 (show RVs X.K S1 [] [] from rfl)
  rw[show (a2c []).zip ([]:List V)=[] from rfl] at ev
  rw[ev]
  refine k _ L1 q _ _ _ ?_ (I1.new hp0 _) (s1.trans (a0r (I1.sn hp0)))
  exact⟨p,_,rfl,a7s ps [] [] rfl,by rw[h1];exact a0e,h2.mono (a0r (I1.sn hp0))⟩⟩
end
@[scoped simp ↓] theorem f_dict (v:FV)(Q:FV->Prop):wp (c8p v) Q↔wp (a1z v) λxs=>wp (a7t xs) λps=>Q (.dct (a1y ps [] []).1 (a1y ps [] []).2):=by
 show wp ((a1z v).bind _) Q↔_
 simp only[a1v];rfl
def iZipN (i:Nat)(eb:EW):AW:=λL Q=>wp (lk L i) λ_=>eb L λy L1=>wp (lk L1 i) λx=>wp (a4k x) λxs=>wp (a4k y) λys=>Q (a2q xs ys) L1
section
variable {X:Cx}{C:CC}{n:Nat}{sp:Γd->Nat->Sp}{b:Expr}{eb:EW}{pos p p2 tp:Pos}{i kk:Nat}{nx:Str}{elts:List Expr}
end
end Kq
end
section
namespace L2
open PySem PySem.Spec PyProof.Rows
section
variable {P:Program}{w:World}{A:Around}{E:Value->Shared->Prop}{s:Shared}{z TI TO:Addr}{f m:Value}
end
section
variable {P:Program}{w:World}{A:Around}{E:Value->Shared->Prop}{s:Shared}{p q:Bool}{z TI TO i1 i2 l1 l2:Addr}{k1 k2:Nat}{xs ys:Array Value}{x y a b f m:Value}
end
section
variable {X:Cx}
end
end L2
end
section
namespace Kq
open PySem PySem.Spec PyProof.Rows L2
section
variable {X:Cx}{C:CC}{n:Nat}{sp:Γd->Nat->Sp}{a b:Expr}{ea eb:EW}{pos p tp:Pos}{nt:Str}
end
def a8v (o:HO):Prop:=∀ xs,o≠.tup xs
theorem b7t {v:FV}{xs:List V}:a8v (c7a v xs):=λys z=>by
 have:=a5a v xs
 rw[show c7a v xs=.tup ys from z] at this
 cases this
mutual
noncomputable def noL:FV->Bool
 | .lst _=>false
 | .scr _=>false
 | .tup xs=>noLs xs
 | .dct _ _=>false
 | .dci _ _=>false
 | .dcz _ _ _=>false
 | .obj _ _ _ _=>false|.dcn _ _ _=>false
 | _=>true
noncomputable def noLs:List FV->Bool
 | []=>true
 | x :: r=>noL x && noLs r
end
def d4u (i:Nat)(r:AW):AW:=λL Q=>wp (lk L i) λ_=>r L λxs L1=>wp (lk L1 i) λx=>Q (x :: xs) L1
def b1b (call:CW) (f:Nat)(a:AW):EW:=λL Q=>a L λxs L1=>call f xs λz=>noL z.1=true/\Q z.1 L1
def eCallM (call:CW) (f:Nat)(a:AW):EW:=λL Q=>a L λxs L1=>call f xs λz=>wp (a7b z.1) λps=>noLs ps=true/\Q z.1 L1
def RHs (K:Γd)(S H:Hp)(os:List Addr):List FV->List V->Prop
 | [],vs=>vs=[]
 | p :: ps,vs=>∃ v r,vs=v :: r/\(RV K S p v ∨ ∃ a,v=.ref a/\a∈os/\a4f K S H a p)/\RHs K S H os ps r
def lah (K:Γd)(md:Md)(e:AW):TA:=λσ H Q=>∃ c L S Q0,Iv K c md L σ S H/\e L Q0/\∀ v L',Q0 v L'->∀ x S' H' os,RHs K S' H' os v x->(∀ a∈os,S' a=none/\∃ o,H' a=some o/\a8v o)->Iv K c md L' σ S' H'->Same S S'->Q x H'
def FAh (X:Cx)(C:CC)(x:List Expr)(e:AW):Prop:=PA X.nox x (lah X.K C.md e)
section
variable {K:Γd}{S H S' H':Hp}{os os':List Addr}
theorem RHs.more:∀ {ps:List FV}{vs:List V},RHs K S H os ps vs->(∀ a∈os,a∈os')->RHs K S H os' ps vs
 | [],vs,h,_=>h
 | p :: ps,vs,⟨v,r,e,h1,h2⟩,k=>⟨v,r,e,h1.imp_right λ⟨a,e,m,o⟩=>⟨a,e,k a m,o⟩,RHs.more h2 k⟩
def a5s (S H:Hp)(os:List Addr):Hp:=λa=>if a∈os then H a else S a
theorem a4y (h:∀ a∈os,S a=none/\∃ o,H a=some o/\a8v o):Same S (a5s S H os):=λa o e=>by
 unfold a5s
 by_cases m:a∈os
 ·rw[(h a m).1] at e;cases e
 ·rw[if_neg m];exact e
theorem b6i (s:Same S H):Same (a5s S H os) H:=λa o e=>by
 unfold a5s at e
 by_cases m:a∈os
 ·rw[if_pos m] at e;exact e
 ·rw[if_neg m] at e;exact s a o e
theorem RHs.vals (h:∀ a∈os,S a=none/\∃ o,H a=some o/\a8v o):∀ {ps:List FV}{vs:List V},RHs K S H os ps vs->RVs K (a5s S H os) ps vs
 | [],vs,e=>e
 | p :: ps,vs,⟨v,r,e,h1,h2⟩=>by
  refine⟨v,r,e,?_,RHs.vals h h2⟩
  rcases h1 with h1|⟨a,rfl,m,o1,qs,xs,e9,o2,o3⟩
  ·exact h1.mono (a4y h)
  ·have o4:a5s S H os a=some (c7a p xs):=by unfold a5s;rw[if_pos m];exact o2
   have o5:=o3.mono (a4y h)
   cases p with
   | lst ps=>cases e9;exact⟨a,xs,rfl,o4,o5⟩
   | dct ks ws=>obtain⟨hl,rfl⟩:=itd e9;exact⟨a,xs,rfl,hl,o4,o5⟩
   | dci ks ws=>obtain⟨hl,rfl⟩:=itd e9;exact⟨a,xs,rfl,hl,o4,o5⟩
   | dcz o ks ws=>obtain⟨hl,rfl⟩:=itd e9;exact⟨a,xs,rfl,hl,o4,o5⟩
   | obj C dx fs gs=>cases e9;exact⟨a,rfl,o4⟩
   | dcn z ks ws=>obtain⟨hl,rfl⟩:=itd e9;exact⟨a,xs,rfl,hl,o4,o5⟩
   | _=>cases e9
def a9b (S:Hp)(os:List Addr):Hp:=λa=>if a∈os then none else S a
mutual
theorem RV.less {K:Γd}{S:Hp}{os:List Addr}(h:∀ a∈os,∃ o,S a=some o/\a8v o):∀ {p:FV}{v:V},noL p=true->RV K S p v->RV K (a9b S os) p v
 | .non,v,_,e=>e
 | .bl b,v,_,e=>e
 | .int i,v,_,e=>e
 | .str _,v,_,e=>e
 | .shn _,v,_,e=>e
 | .tup ps,v,n,⟨a,xs,e,h1,h2⟩=>⟨a,xs,e,by
   unfold a9b
   rw[if_neg λm=>by obtain⟨zs,z,n⟩:=h a m;rw[z] at h1;cases h1;exact n _ rfl];exact h1,RVs.less h (by simpa[noL] using n) h2⟩
 | .dct ks vs,v,n,_=>by simp[noL] at n
 | .dci ks vs,v,n,_=>by simp[noL] at n
 | .dcz _ ks vs,v,n,_=>by simp[noL] at n
 | .obj _ _ _ _,v,n,_=>by simp[noL] at n
 | .dcn _ _ _,v,n,_=>by simp[noL] at n
 | .lst ps,v,n,_=>by simp[noL] at n
 | .scr ps,v,n,_=>by simp[noL] at n
theorem RVs.less {K:Γd}{S:Hp}{os:List Addr}(h:∀ a∈os,∃ o,S a=some o/\a8v o):∀ {ps:List FV}{vs:List V},noLs ps=true->RVs K S ps vs->RVs K (a9b S os) ps vs
 | [],vs,_,e=>e
 | p :: ps,vs,n,⟨v,r,e,h1,h2⟩=>by
  have n:noL p=true/\noLs ps=true:=by simpa[noLs] using n
  exact⟨v,r,e,RV.less h n.1 h1,RVs.less h n.2 h2⟩
end
variable {c:Cn}{md:Md}{L:a0c}{σ:L2.St}
theorem c7n (I:Iv K c md L σ S H)(h:∀ a∈os,S a=none/\∃ o,H a=some o/\a8v o){w:FV}(k:Kept K (a5s S H os) H S' H' none w):Iv K c md L σ (a9b S' os) H'/\Same S (a9b S' os):=by
 have s:Same S (a9b S' os):=λa o e=>by
  unfold a9b
  by_cases m:a∈os
  ·rw[(h a m).1] at e;cases e
  ·rw[if_neg m];exact k.same a o (a4y h a o e)
 refine⟨I.go3 s (λa o e=>?_) (λa o e=>?_) λa o e=>k.keep a o e (by simp),s⟩
 ·unfold a9b at e
  by_cases m:a∈os
  ·rw[if_pos m] at e;cases e
  ·rw[if_neg m] at e;exact k.sub a o e
 ·unfold a9b at e
  by_cases m:a∈os
  ·rw[if_pos m] at e;cases e
  ·rw[if_neg m] at e
   rcases k.grow a o e with e2|e2
   ·unfold a5s at e2
    rw[if_neg m] at e2
    exact .inl e2
   ·exact .inr e2
theorem c7o (h:∀ a∈os,S a=none/\∃ o,H a=some o/\a8v o){w:FV}(k:Kept K (a5s S H os) H S' H' none w):∀ a∈os,∃ o,S' a=some o/\a8v o:=λa m=>by
 obtain⟨o,e,n⟩:=(h a m).2
 exact⟨o,k.same a _ (by unfold a5s;rw[if_pos m];exact e),n⟩
end
section
variable {X:Cx}{C:CC}{n:Nat}{sp:Γd->Nat->Sp}{a:Expr}{ea:EW}{pos p:Pos}{call:CW}{f i:Nat}{nx:Str}{xs:List Expr}{as:AW}
theorem fah_of (h:FA X C xs as):FAh X C xs as:=PA.imp h λσ H Q ⟨c,L,S,Q0,I,h,k⟩=>⟨c,L,S,Q0,I,h,λv L' q x S' H' r I' s=>by
 have:∀ {ps:List FV}{vs:List V},RVs X.K S' ps vs->RHs X.K S' H' [] ps vs:=by
  intro ps
  induction ps with
  | nil=>intro vs h;exact h
  | cons p ps ih=>intro vs ⟨v,r,e,h1,h2⟩;exact⟨v,r,e,.inl h1,ih h2⟩
 exact k v L' q x S' H' [] (this r) (λa h=>by simp at h) I' s⟩
theorem d6e (hs:a0k a=false)(ha:FE X C a ea)(hr:FAh X C xs as):FAh X C (a :: xs) (a0a ea as):=PA.imp (a0n ha hr (a0f hs)) λσ H Q ⟨c,L,S,Q0,I,h,k⟩ =>
 ⟨c,L,S,_,I,h,λv L1 hv x S1 H1 r1 I1 s1=>⟨c,L1,S1,_,I1,hv,λvs L2 hvs us S2 H2 os r2 ho I2 s2=>k _ L2 hvs _ S2 H2 os ⟨x,us,rfl,.inl (r1.mono s2),r2⟩ ho I2 (s1.trans s2)⟩⟩
theorem e2e (G:Good X C n sp)(h:C.nm i nx=true)(m:a0j C.md i≠.imm)(hr:FAh X C xs as):FAh X C (.Name nx p :: xs) (d4u i as):=PA.imp (a0n (a1w G h) hr (a0f rfl)) λσ H Q ⟨c,L,S,Q0,I,h,k⟩=>by
 obtain⟨v,e,h⟩:=wpx h
 have e:=(a2f _ _ _).mp e
 obtain⟨l,e1,_,_⟩:=I.own i v m e
 refine⟨_,e1,c,L,S,_,I,h,λvs L2 hvs us S2 H2 os r2 ho I2 s2=>?_⟩
 obtain⟨v2,e2,q⟩:=wpx hvs
 have e2:=(a2f _ _ _).mp e2
 obtain⟨l2,f1,o,_⟩:=I2.own i v2 m e2
 rw[e1] at f1;cases f1
 refine k _ L2 q _ S2 H2 (l :: os) ⟨.ref l,us,rfl,.inr ⟨l,rfl,Γn,o⟩,r2.more λa h=>Γh _ h⟩ (λa ha=>?_) I2 s2
 rcases List.mem_cons.mp ha with rfl|ha
 ·obtain⟨o1,qs,zs,_,o2,_⟩:=o
  exact⟨o1,_,o2,b7t⟩
 ·exact ho a ha
theorem d5y (G:Good X C n sp)(e:sp X.K f=spQ X.K call false false f)(hf:C.fns[f]?=some nx)(hg:C.gl nx=true)(hd:(nx == ("__debug__":Str))=false)(hs:a2u (a :: xs)=true)(ha:FAh X C (a :: xs) as):FE X C (.Call (.Name nx p) (a :: xs) [] pos) (b1b call f as) :=
 PE.imp (a6y G hf hg hd hs ha) λσ H Q ⟨c,L,S,Q0,I,h,k⟩=>⟨c,L,S,_,I,h,λvs L1 hv us S1 H1 os r1 ho I1 s1=>by
  rw[e]
  refine⟨a5s S1 H1 os,vs,_,b6i I1.sub,r1.vals ho,hv,λz q x S' H' kp r=>?_⟩
  obtain⟨I2,s2⟩:=c7n I1 ho kp
  exact k _ L1 q.2 x _ H' (RV.less (c7o ho kp) q.1 r) I2 (s1.trans s2)⟩
end
@[scoped simp ↓] theorem e4c (i:Nat)(r:AW)(L:a0c)(Q:List FV->a0c->Prop):d4u i r L Q=(wp (lk L i) λ_=>r L λxs L1=>wp (lk L1 i) λx=>Q (x :: xs) L1):=propext Iff.rfl
@[scoped simp ↓] theorem d3t (call:CW) (f:Nat)(a:AW)(L:a0c)(Q:FV->a0c->Prop):b1b call f a L Q=(a L λxs L1=>call f xs λz=>noL z.1=true/\Q z.1 L1):=propext Iff.rfl
@[scoped simp] theorem d9o (b:Int):noL (.int b)=true:=by simp[noL]
@[scoped simp] theorem d9n:noL .non=true:=by simp[noL]
@[scoped simp] theorem d9m (xs:List FV):noL (.tup xs)=noLs xs:=by simp[noL]
@[scoped simp] theorem d5g:noLs []=true:=by simp[noLs]
@[scoped simp] theorem d2f (x:FV)(r:List FV):noLs (x :: r)=(noL x && noLs r):=by simp[noLs]
theorem a8w {α:Type}(f:α->FV)(h:∀ x,noL (f x)=true):∀ xs:List α,noLs (xs.map f)=true
 | []=>by simp
 | x :: r=>by simp[h x,a8w f h r]
def revF (v:FV):Option FV:=(a7b v).map λxs=>.lst xs.reverse
def eMeth0 (f:FV->Option FV) (i:Nat):EW:=λL Q=>wp (lk L i) λx=>wp (f x) λz=>Q .non (L.set i (some z))
section
variable {X:Cx}{C:CC}{n:Nat}{sp:Γd->Nat->Sp}{pos p:Pos}{call:CW}{f i:Nat}{nx:Str}
end
end Kq
end
section
namespace Kq
open PySem PySem.Spec PyProof.Rows L2 PySem.W
section
variable {n:Nat}
end
section
variable {prog:Program}{w:World}{A:Around}{E:Value->Shared->Prop}{s:Shared}{vs:List Value}
end
end Kq
end
section
namespace Kq
open PySem PySem.Spec PyProof.Rows L2
def b6o:List FV->Bool
 | []=>true
 | .tup ps :: r=>(match a0v ps with|some (_ :: _)=>true|_=>false) && b6o r
 | _=>false
def e2n (a:EW):EW:=λL Q=>a L λv L1=>wp (a1z v) λxs=>b6o xs=true/\xs.length<64/\∀ ys:List FV,ys.Perm xs->Q (.lst ys) L1
section
variable {K:Γd}{S:Hp}
end
section
variable {X:Cx}
end
section
variable {X:Cx}{C:CC}{n:Nat}{sp:Γd->Nat->Sp}{a:Expr}{ea:EW}{pos p:Pos}
end
theorem c1t (ks:List Int)(us:List V) (k:Int)(u:V)(hl:ks.length=us.length):a4z ((a3k ks).zip us) (Sum.inl k) u=(a3k (a1x ks us k u).1).zip (a1x ks us k u).2:=by
 have hany:(((a3k ks).zip us).any λkv=>decide (kv.1=Sum.inl k))=true↔k∈ks:=by
  rw[a4l,a5z,a2h k hl]
 unfold a4z a1x
 by_cases e:k∈ks
 ·rw[if_pos (hany.mpr e),if_pos e]
  clear e hany
  induction ks generalizing us with
  | nil=>cases us<;>rfl
  | cons k' ks ih=>cases us with
   | nil=>rfl
   | cons u' us =>
    have:=ih us (by simpa using hl)
    show (if (Sum.inl k':Int ⊕ Option Str)=Sum.inl k then (Sum.inl k',u) else (Sum.inl k',u')) :: ((a3k ks).zip us).map _=(Sum.inl k',if k'=k then u else u') :: (a3k ks).zip _
    rw[this]
    congr 1
    by_cases e:k'=k
    ·subst e;simp
    ·rw[if_neg λz=>e (Sum.inl.inj z),if_neg e]
 ·rw[if_neg λz=>e (hany.mp z),if_neg e]
  show _=(a3k (ks++[k])).zip (us++[u])
  have:a3k (ks++[k])=a3k ks++[Sum.inl k]:=by simp[a3k]
  rw[this,List.zip_append (by simpa[a3k] using hl)];rfl
theorem b9c {κ α β:Type} [DecidableEq κ] {ks:List κ}{vs:List α}{us:List β}{k:κ}(h1:ks.length=vs.length)(h2:ks.length=us.length)(h:a3a ks vs k=none):a3a ks us k=none:=by
 have a:=a2h (α:=α) k h1
 have b:=a2h (α:=β) k h2
 cases e:a3a ks us k with
 | none=>rfl
 | some u =>
  rw[e] at b
  have:=a.mpr (b.mp rfl)
  rw[h] at this;cases this
def e2w (v w:FV):Option (Option FV):=match v with
 | .dct ks vs=>(a5t w).bind λps=>(a0v ps).bind λk=>some (a3a ks vs k)
 | .dci ks vs=>(a3l w).bind λk=>some (a3a ks vs k)
 | .dcz _ ks vs=>(a5t w).bind λps=>(a0v ps).bind λk=>some (a3a ks vs k)
 | _=>none
def dgF (v w:FV):Option FV:=(e2w v w).bind id
def dget1F (v w:FV):Option FV:=(e2w v w).map λo=>o.getD .non
def isDF:FV->Option Unit
 | .dct _ _=>some ()
 | .dci _ _=>some ()
 | _=>none
def c3r (v j x:FV):Option FV:=match v with
 | .dct ks vs=>(a5t j).bind λps=>(a0v ps).bind λk=>if ks.length<big then some (.dct (a1x ks vs k x).1 (a1x ks vs k x).2) else none
 | .dci ks vs=>(a3l j).bind λk=>if ks.length<big then some (.dci (a1x ks vs k x).1 (a1x ks vs k x).2) else none
 | _=>none
def RO (K:Γd)(S:Hp):Option FV->Option V->Prop
 | none,o=>o=none
 | some p,o=>∃ u,o=some u/\RV K S p u
section
variable {X:Cx}{K:Γd}{S H:Hp}
theorem b7a {κ:Type} [DecidableEq κ] {ks:List κ}{vs:List FV}{us:List V}{k:κ}(h1:ks.length=vs.length)(r:RVs K S vs us):RO K S (a3a ks vs k) (a3a ks us k):=by
 cases e:a3a ks vs k with
 | none=>exact b9c h1 (by rw[h1,r.length]) e
 | some p=>exact a6a r e
theorem RH.dcz {o:Obj}{ks:List (List Int)}{vs:List FV}{x:V}(hs:Same S H)(r:RH K S H (.dcz o ks vs) x):∃ a us,x=.ref a/\ks.length=vs.length/\H a=some (.frz o (.dT ((a2c ks).zip us)))/\RVs K S vs us:=by
 rcases r with⟨a,xs,e,h0,h1,h2⟩|⟨a,e,_,qs,xs,e2,h1,h2⟩
 ·exact⟨a,xs,e,h0,hs _ _ h1,h2⟩
 ·obtain⟨hl,rfl⟩:=itd e2
  exact⟨a,xs,e,hl,h1,h2⟩
theorem c8q {v w:FV}{x y:V}{o:Option FV}(hs:Same S H)(rv:RH K S H v x)(rw':RH K S H w y)(e:e2w v w=some o):∃ a o',x=.ref a/\L2.DGet H a y o'/\RO K S o o':=by
 cases v with
 | dct ks vs =>
  obtain⟨ps,e1,e2⟩:=bnd e
  obtain⟨k,e3,e4⟩:=bnd e2
  cases a2a e1
  cases e4
  obtain⟨a,us,rfl,hl,h1,h2⟩:=rv.dct hs
  obtain⟨b,rfl,hb⟩:=a7y (rw'.val rfl) e3
  refine⟨a,a3a ks us k,rfl,?_,b7a hl h2⟩
  rw[<- a6u]
  exact .t h1 (hs _ _ hb)
 | dci ks vs =>
  obtain⟨k,e3,e4⟩:=bnd e
  cases a1o e3
  cases e4
  cases rw'.int
  obtain⟨a,us,rfl,hl,h1,h2⟩:=rv.dci hs
  refine⟨a,a3a ks us k,rfl,?_,b7a hl h2⟩
  rw[<- a5z]
  exact .k (k:=Sum.inl k) h1
 | dcz o ks vs =>
  obtain⟨ps,e1,e2⟩:=bnd e
  obtain⟨k,e3,e4⟩:=bnd e2
  cases a2a e1
  cases e4
  obtain⟨a,us,rfl,hl,h1,h2⟩:=rv.dcz hs
  obtain⟨b,rfl,hb⟩:=a7y (rw'.val rfl) e3
  refine⟨a,a3a ks us k,rfl,?_,b7a hl h2⟩
  rw[<- a6u]
  exact .inr ⟨_,_,b,.inr ⟨o,h1⟩,rfl,hs _ _ hb,rfl⟩
 | _=>cases e
end
def c6b (k:Nat)(i e:EW):SW:=λL Q=>wp (lk L k) λ_=>e L λx L1=>i L1 λj L2=>wp (lk L2 k) λy=>wp (c3r y j x) λz=>Q .next (L2.set k (some z))
section
variable {K:Γd}{c:Cn}{md:Md}{L:a0c}{σ:L2.St}{S H:Hp}
theorem Iv.writeV (I:Iv K c md L σ S H){i:Nat}{v w:FV}{a:Addr}{ps:List FV}{xs:List V}(m:a0j md i=.own)(e:L[i]?=some (some v))(e1:σ[i]?=some (some (.ref a)))(hw:d1q w=some ps)(r:RVs K S ps xs) :
  Iv K c md (L.set i (some w)) σ S (upd H a (c7a w xs)):=by
 obtain⟨a',e1',⟨h1,_⟩,_⟩:=I.own i v (λz=>by rw[m] at z;cases z) e
 rw[e1] at e1';cases e1'
 exact I.back m e e1 (Same.refl S) (λb o z=>by rw[a0d λy=>by subst y;rw[h1] at z;cases z];exact I.sub b o z) (λb o z=>.inl z) (λb o z n=>by rw[a0d n];exact z) ⟨h1,ps,xs,hw,a0e,r⟩
theorem c3q {i:Nat}{v j x z:FV}{a:Addr}{y u:V}(I:Iv K c md L σ S H)(m:a0j md i=.own)(e:L[i]?=some (some v))(e1:σ[i]?=some (some (.ref a)))(rj:RV K S j y)(rx:RV K S x u)(h:c3r v j x=some z):∃ H',L2.DPut H a y u H'/\Iv K c md (L.set i (some z)) σ S H':=by
 obtain⟨a',f1,⟨o1,ps,us,e9,o2,o3⟩,_⟩:=I.own i v (λz=>by rw[m] at z;cases z) e
 rw[e1] at f1;cases f1
 have hbl:=a1n
 cases v with
 | dct ks vs =>
  obtain⟨qs,g1,h⟩:=bnd h
  obtain⟨k,g2,h⟩:=bnd h
  obtain⟨hb,rfl⟩:=itd h
  obtain⟨hl,rfl⟩:=itd e9
  cases a2a g1
  obtain⟨b,rfl,hkb⟩:=a7y rj g2
  have hu:ks.length=us.length:=by rw[hl,o3.length]
  obtain⟨p1,p2⟩:=a3w (ks:=ks) (k:=k) o3 rx
  refine⟨_,.t o2 (I.sub _ _ hkb) (by simp[a2c];lia),?_⟩
  rw[b2e ks us k u hu,<- p1]
  exact I.writeV (w:=.dct _ _) m e e1 (if_pos (a3f ks _ k x hl).1) p2
 | dci ks vs =>
  obtain⟨k,g2,h⟩:=bnd h
  obtain⟨hb,rfl⟩:=itd h
  obtain⟨hl,rfl⟩:=itd e9
  cases a1o g2
  cases (show y=V.int k from rj)
  have hu:ks.length=us.length:=by rw[hl,o3.length]
  obtain⟨p1,p2⟩:=a3w (ks:=ks) (k:=k) o3 rx
  refine⟨_,.k (k:=Sum.inl k) o2 (by simp[a3k];lia),?_⟩
  rw[c1t ks us k u hu,<- p1]
  exact I.writeV (w:=.dci _ _) m e e1 (if_pos (a3f ks _ k x hl).1) p2
 | _=>cases h
end
section
variable {X:Cx}{C:CC}{n:Nat}{sp:Γd->Nat->Sp}{fr:Bool}{a b:Expr}{ea eb:EW}{pos p px:Pos}{i:Nat}{nx:Str}
theorem d5q:FF X C (.Dict [] [] pos) (eC (.dci [] [])):=PE.imp c2d λσ H Q ⟨c,L,S,Q0,I,h,k⟩=>λp hp=>k _ L h p S _ ⟨I.sn hp,[],[],rfl,a0e,rfl⟩ (I.fresh hp) (I.lay hp _) (Same.refl S)
theorem fe_dgN (G:Good X C n sp)(hs:a2w b=false)(h:C.nm i nx=true)(hb:FR X C b eb):FE X C (.Subscript (.Name nx p) b pos) (a7j dgF i eb):=PE.imp (b2h (X:=X.nox) (by have:=G.room.units;show X.A.units+1<cLine;lia) (a1w G h) hb (a5w hs)) λσ H Q ⟨c,L,S,Q0,I,h,k⟩=>by
 obtain⟨v0,e,h⟩:=wpx h
 obtain⟨x,e1,_⟩:=I.rd e
 refine⟨x,e1,c,L,S,_,I,h,λw L2 hw y S2 H2 r2 I2 s2=>?_⟩
 obtain⟨v,e2,q⟩:=wpx hw
 obtain⟨x',e3,r1⟩:=I2.rd e2
 rw[e1] at e3;cases e3
 obtain⟨z,e4,q⟩:=wpx q
 obtain⟨o,e5,e6⟩:=bnd e4
 obtain⟨a,o',rfl,g,ro⟩:=c8q I2.sub r1 r2 e5
 cases (show o=some z from e6)
 obtain⟨u,rfl,r5⟩:=ro
 exact⟨a,u,rfl,g,k z L2 q u S2 H2 r5 I2 s2⟩
theorem e0h (G:Good X C n sp)(hn:C.nm i nx=true)(m:a0j C.md i=.own)(hc:(!a6s a && !a2w b)=true)(ha:FE X C a ea)(hb:FE X C b eb):FS X C fr (.Assign [.Subscript (.Name nx px) b p] a pos) (c6b i eb ea):=by
 have hc:=b2 hc
 refine PS.imp (b7i (X:=X.nox) (by have:=G.room.units;show X.A.units+1<cLine;lia) (a1w (pos:=px) G hn) hb ha (a3v (nb hc.1))) λD σ H ⟨c,L,S,Q0,I,h,k⟩=>?_
 have mi:a0j C.md i≠.imm:=λz=>by rw[m] at z;cases z
 obtain⟨v0,e,h⟩:=wpx h
 obtain⟨l,e1,_⟩:=I.own i v0 mi ((a2f _ _ _).mp e)
 refine⟨c,L,S,_,I,h,λv L1 q x S1 H1 r1 I1 s1=>⟨_,e1,c,L1,S1,_,I1,q,λw L2 q y S2 H2 r2 I2 s2=>?_⟩⟩
 obtain⟨v1,e2,q2⟩:=wpx q
 obtain⟨z,e3,q3⟩:=wpx q2
 have e2:=(a2f _ _ _).mp e2
 obtain⟨H3,g,I3⟩:=c3q I2 m e2 e1 r2 (r1.mono s2) e3
 exact⟨l,H3,rfl,g,k .next _ q3 σ S2 _ I3 (s1.trans s2)⟩
end
section
variable (Q:FV->Prop) (i:Nat)(L:a0c)
@[scoped simp ↓] theorem d4y (k:Nat)(i e:EW)(Q:FFl->a0c->Prop):c6b k i e L Q=(wp (lk L k) λ_=>e L λx L1=>i L1 λj L2=>wp (lk L2 k) λy=>wp (c3r y j x) λz=>Q .next (L2.set k (some z))):=propext Iff.rfl
@[scoped simp ↓] theorem k_dgi (ks:List Int)(vs:List FV) (k:Int):wp (dgF (.dci ks vs) (.int k)) Q=wp (a3a ks vs k) Q:=propext Iff.rfl
@[scoped simp ↓] theorem d9s (ks:List Int)(vs:List FV) (k:Int)(x:FV):wp (c3r (.dci ks vs) (.int k) x) Q↔ks.length<big/\Q (.dci (a1x ks vs k x).1 (a1x ks vs k x).2):=a5h _ _ _
end
section
variable {P:Program}{w:World}{A:Around}{E:Value->Shared->Prop}{s:Shared}
end
section
variable {X:Cx}
theorem d3e:∀ {ns:List Int}{us:List Value},Vals (ns.map V.int) us->IntsAre us ns
 | [],us,h=>by cases h;exact .nil
 | n :: ns,us,h=>by
  cases h with
  | cons r h=>obtain⟨t,rfl⟩:=r;exact .cons n t (d3e h)
theorem d1z:∀ {us:List Value}{ns:List Int},IntsAre us ns->Vals (ns.map V.int) us
 | _,_,.nil=>.nil
 | _,_,.cons n t h=>.cons ⟨t,rfl⟩ (d1z h)
theorem c8y:a1l X (.builtin "sorted") (λxs H Q=>∃ (a:Addr)(ns:List Int),xs=[.ref a]/\SqL X.K H a (ns.map V.int)/\ns.length<64/\∀ p (ms:List Int),H p=none->ms.Perm ns->ms.Pairwise (·<=·)->Q (.ref p) (upd H p (.lst (ms.map V.int)))):=by
 rintro pins s σ H xs us Q I r ⟨a,ns,rfl,hl,h64,k⟩
 obtain⟨u,rfl,ru⟩:=a3e r
 cases (show u=Value.ref a from ru)
 obtain⟨its,rv,pl,hz⟩:=I.list hl
 have ll:ns.length=its.length:=by have:=rv.length;simpa using this
 refine sorted_ints pl.isList (d3e rv) (by lia) λout ns' hI hp hs=>?_
 obtain⟨e,he⟩:=sortedAll_at s.heap its out
 refine⟨.ref (s.heap.objs.size+1),_,I.laid (a:=s.heap.objs.size+1) (o:=.lst (ns'.map V.int)) (t':=s.toks) (λb o q=>sortedAll_old q) (Nat.le_succ _) ⟨?_,out.toList,e,d1z hI,he⟩,rfl,k _ ns' (I.hok.fresh (Nat.le_succ _)) hp hs⟩
 rw[List.length_map,hp.length_eq,sizeLine_eq];lia
end
def b9m (a:EW):EW:=λL Q=>a L λv L1=>wp (a1z v) λxs=>wp (a0v xs) λns=>ns.length<64/\∀ ms:List Int,ms.Perm ns->ms.Pairwise (·<=·)->Q (.lst (ms.map .int)) L1
section
variable {X:Cx}{C:CC}{n:Nat}{sp:Γd->Nat->Sp}{a:Expr}{ea:EW}{pos p:Pos}
theorem d5v (G:Good X C n sp)(hg:C.gl (Γe "sorted")=true)(hs:a0k a=false)(ha:FR X C a ea):FE X C (.Call (.Name (Γe "sorted") p) [a] [] pos) (b9m ea) :=
 PE.imp (a3x c8y (G.gl hg) (G.blt "sorted" (by decide)) (by nofun) (a0n ha a2n (a0f hs)) (by nofun) (by nofun) (a0f hs) rfl) λσ H Q ⟨c,L,S,Q0,I,h,k⟩ =>
 ⟨c,L,S,_,I,h,λv L1 hv x S1 H1 r1 I1 s1=>by
  obtain⟨xs,e1,hv⟩:=wpx hv
  obtain⟨ns,e2,t2,q⟩:=wpx hv
  obtain⟨a,ys,rfl,hq,ry⟩:=r1.list I1.sub e1
  cases a2x ry e2
  refine⟨a,ns,rfl,hq,t2,λp ms hp hm hs=>?_⟩
  exact k _ L1 (q ms hm hs) _ _ _ ⟨p,_,rfl,a0e,RVs.ns ms⟩ (I1.new hp _) (s1.trans (a0r (I1.sn hp)))⟩
end
@[scoped simp ↓] theorem d3o (a:EW)(L:a0c)(Q:FV->a0c->Prop):b9m a L Q=(a L λv L1=>wp (a1z v) λxs=>wp (a0v xs) λns=>ns.length<64/\∀ ms:List Int,ms.Perm ns->ms.Pairwise (·<=·)->Q (.lst (ms.map .int)) L1):=propext Iff.rfl
def a8i (v:FV):Option FV:=(a1z v).bind λxs=>(a0v xs).map λns=>.int ns.sum
section
variable {X:Cx}
theorem c0k (hc:X.calm=true):a1l X (.builtin "sum") (λxs H Q=>∃ (a:Addr)(ns:List Int),xs=[.ref a]/\SqL X.K H a (ns.map V.int)/\Q (.int ns.sum) H):=by
 intro pins s σ H xs us Q I r h
 obtain⟨a,ns,rfl,hq,q⟩:=h
 obtain⟨u,rfl,rx⟩:=a3e r
 cases rx
 obtain⟨its,r',pl,hz'⟩:=I.list hq
 have hlen:ns.length=its.length:=by have:=r'.length;simpa using this
 have alt:a<s.heap.objs.size:=by obtain⟨_,e,_⟩:=pl.isList;exact Γl e
 have hh:X.A.in1.handled=none:=I.ok.hd hc
 refine call_sum_walkG (wpAny_pyIter_list pl.isList ?_)
 refine⟨s.heap.objs.size,_,_,_,_,_,λi=>ns.getD i 0,rfl,Walks.list hh s.heap.objs.size a (Γo alt) its.toArray,⟨⟨_,Γm _ rfl,rfl,rfl⟩,pl.isList.at λo e=>Γc _ e⟩,?_,?_,?_⟩
 ·intro b hb'
  simp at hb'
  rcases hb' with rfl|rfl
  ·show _<(s.heap.push _).objs.size;rw[Heap.size_push];exact Nat.lt_succ_self _
  ·show _<(s.heap.push _).objs.size;rw[Heap.size_push];exact Nat.lt_succ_of_lt alt
 ·intro i v hv
  have hv:its.toArray[i]?=some v:=hv
  have hi:i<ns.length:=by rw[hlen];simpa using (Array.getElem?_eq_some_iff.mp hv).1
  obtain⟨t,e⟩:=Vals.mapInt r' i hi
  refine⟨t,?_⟩
  have e':its.toArray[i]?=some (.int (ns.getD i 0) t):=by simpa using e
  rw[hv] at e'
  exact Option.some.inj e'
 ·intro h' tk t' hk
  have e:preSum (λi=>ns.getD i 0) its.toArray.size=ns.sum:=by
   rw[List.size_toArray,<- hlen,a2e ns _ (Γi _),List.take_length]
  rw[e]
  refine⟨.int ns.sum,H,?_,⟨t',rfl⟩,q⟩
  exact I.kept (t':=tk) λb o e=>hk b o (by simp;exact Γo (Γl e)) (Γc _ e)
theorem d4c (hc:X.calm=true):a1l X (.builtin "sum") (Rc X.K a8i):=by
 rintro pins s σ H xs us Q I r ⟨S,v,x,z,rfl,hs,rv,e,k⟩
 obtain⟨ps,e1,e2⟩:=bnd e
 obtain⟨ns,e3,rfl⟩:=mpd e2
 obtain⟨a,ys,rfl,hq,ry⟩:=rv.list hs e1
 cases a2x ry e3
 exact c0k hc pins s σ H _ us Q I r ⟨a,ns,rfl,hq,k.int⟩
end
section
variable {X:Cx}{C:CC}{n:Nat}{sp:Γd->Nat->Sp}{a:Expr}{ea:EW}{pos p:Pos}
theorem e0u (G:Good X C n sp)(hg:C.gl (Γe "sum")=true)(hs:a0k a=false)(ha:FR X C a ea):FE X C (.Call (.Name (Γe "sum") p) [a] [] pos) (eUn a8i ea):=b0z (d4c G.calm) G (by decide) (by nofun) (by nofun) (by nofun) hg hs ha
end
@[scoped simp ↓] theorem f_sumG (v:FV)(Q:FV->Prop):wp (a8i v) Q↔wp (a1z v) λxs=>wp (a0v xs) λns=>Q (.int ns.sum):=by
 show wp ((a1z v).bind _) Q↔_;rw[a1v];simp only[a1p]
end Kq
end
section
namespace L2
open PySem PySem.Spec PyProof.Rows
section
variable {X:Cx}{pins:List (Addr×Obj)}{σ:St}{A:Around}{R:Result->Shared->Prop}
end
end L2
end
section
namespace L2
open PySem PySem.Spec PyProof.Rows
section
variable {X:Cx}{pins:List (Addr×Obj)}{σ:St}
variable {e1 e2:Expr}{ta:TA}{pp p2 pos pos2:Pos}
end
end L2
end
section
namespace Kq
open PySem PySem.Spec PyProof.Rows L2
section
variable {X:Cx}{C:CC}{n:Nat}{sp:Γd->Nat->Sp}{a b:Expr}{ea eb:EW}{p p2 pos pos2:Pos}
end
def inW (tg:Tg)(t:BW)(e:EW):List FV->List FV->a0c->(List FV->a0c->Prop)->Prop
 | [],acc,L,Q=>Q acc L
 | y :: r,acc,L,Q=>gW tg y L λL1=>t L1 λb L2=>if b=true then e L2 λv L3=>inW tg t e r (acc++[v]) L3 Q else inW tg t e r acc L2 Q
def c0f (n m:Nat)(tg:Tg)(t:BW)(it2:AW)(tg2:Tg)(t2:BW)(e:EW):List FV->List FV->a0c->(List FV->a0c->Prop)->Prop
 | [],acc,L,Q=>Q acc L
 | x :: xs,acc,L,Q=>gW tg x (L++Γj m none) λL1=>t L1 λb L2=>if b=true then it2 L2 λys L3=>acc.length+ys.length<=big/\inW tg2 t2 e ys acc L3 λacc' L4=>c0f n m tg t it2 tg2 t2 e xs acc' (L4.take n) Q else c0f n m tg t it2 tg2 t2 e xs acc (L2.take n) Q
def eComp2 (n m:Nat)(it:AW)(tg:Tg)(t:BW)(it2:AW)(tg2:Tg)(t2:BW)(e:EW):EW:=λL Q=>it L λxs L1=>L1.length=n/\c0f n m tg t it2 tg2 t2 e xs [] L1 λys L2=>Q (.lst ys) L2
def liv (K:Γd)(md:Md)(it:AW):TI:=λσ H R=>∃ c L S Q0,Iv K c md L σ S H/\it L Q0/\∀ xs L',Q0 xs L'->∀ J S' H',Iv K c md L' σ S' H'->(∀ c md,ItR K c md J xs S')->Same S S'->R J H'
def FIv (X:Cx)(C:CC)(tg iter:Expr)(it:AW):Prop:=PI X.nox tg iter (liv X.K C.md it)
section
variable {X:Cx}{C:CC}{n:Nat}{sp:Γd->Nat->Sp}{a b tg:Expr}{ea eb:EW}{pos p:Pos}
end
section
variable {K:Γd}{c:Cn}{md:Md}{L:a0c}{σ:L2.St}{S H:Hp}
end
section
variable {X:Cx}{C:CC}{n:Nat}{sp:Γd->Nat->Sp}{pos p px:Pos}{i:Nat}{nx:Str}{fr:Bool}
variable {scope:Scope}{own:List Str}{elt tgx iter tgx2 iter2:Expr}{ifs ifs2:List Expr}{it it2:AW}{tg tg2:Tg}{t t2:BW}{e:EW}{nn m:Nat}{md':Md}
structure CompOk2 (X:Cx)(C:CC) (n:Nat)(sp:Γd->Nat->Sp)(scope:Scope)(own:List Str)(elt tgx iter:Expr)(ifs:List Expr)(tgx2 iter2:Expr)(ifs2:List Expr) (nn m:Nat)(md':Md)(it:AW)(tg:Tg)(t:BW)(it2:AW)(tg2:Tg)(t2:BW)(e:EW):Prop where
 st:(C.scOk scope own && decide (C.N.length=nn) && decide (own.length=m) && decide (md'.length<=nn) && d2n C.md md' && a3m md' tg && a7c nn tg && !b5m iter)=true
 st2:(a3m md' tg2 && a7c nn tg2 && !b5m iter2)=true
 it:FI X C md' tgx iter it
 tg:∀ X',Good X' (C.sub scope own md') n sp->FG X' tgx tg
 ts:∀ X',Good X' (C.sub scope own md') n sp->FTs X' (C.sub scope own md') ifs t
 it2:∀ X',Good X' (C.sub scope own md') n sp->FIv X' (C.sub scope own md') tgx2 iter2 it2
 tg2:∀ X',Good X' (C.sub scope own md') n sp->FG X' tgx2 tg2
 ts2:∀ X',Good X' (C.sub scope own md') n sp->FTs X' (C.sub scope own md') ifs2 t2
 el:∀ X',Good X' (C.sub scope own md') n sp->FE X' (C.sub scope own md') elt e
end
def ePop (i:Nat):EW:=λL Q=>wp (lk L i) λv=>wp (a7b v) λxs=>wp (xs[xs.length-1]?) λy=>Q y (L.set i (some (.lst xs.dropLast)))
def popI (xs:List FV) (k:Int):Option FV:=if 0<=k/\k<4611686018427387904 then xs[k.toNat]? else none
def ePopAt (i:Nat)(a:EW):EW:=λL Q=>wp (lk L i) λv=>wp (a7b v) λ_=>a L λw L1=>wp (a3l w) λk=>wp (lk L1 i) λx=>wp (a7b x) λxs=>wp (popI xs k) λy=>Q y (L1.set i (some (.lst (xs.eraseIdx k.toNat))))
section
variable {K:Γd}{S:Hp}
end
section
variable {X:Cx}{C:CC}{n:Nat}{sp:Γd->Nat->Sp}{a:Expr}{ea:EW}{pos p:Pos}{i:Nat}{nx:Str}
end
end Kq
end
section
namespace L2
open PySem PySem.Spec PyProof.Rows
section
variable {X:Cx}{a e k:Expr}{ta te tk:TE}{pos p2:Pos}
end
end L2
namespace Kq
open PySem PySem.Spec PyProof.Rows L2
def turnLF (v:FV):Option FV:=(a7b v).map λxs=>.lst xs.reverse
section
variable {X:Cx}{C:CC}{a:Expr}{ea:EW}{pos:Pos}
end
end Kq
end
section
namespace L2
open PySem PySem.Spec PyProof.Rows
section
variable {X:Cx}{pos:Pos}
end
end L2
namespace Kq
open PySem PySem.Spec PyProof.Rows L2
section
variable {X:Cx}{C:CC}{n:Nat}{sp:Γd->Nat->Sp}{a b d:Expr}{ea eb ed:EW}{pos px py pz:Pos}{i j l:Nat}{nx ny nz:Str}{fr:Bool}
end
end Kq
end
section
namespace Kq
open PySem PySem.Spec PyProof.Rows L2
def eMv (j:Nat):EW:=λL Q=>wp (lk L j) λv=>Q v (L.set j none)
@[scoped simp ↓] theorem eMv_eq (j:Nat)(L:a0c)(Q:FV->a0c->Prop):eMv j L Q=wp (lk L j) λv=>Q v (L.set j none):=propext Iff.rfl
def eCallT (call:CW) (f:Nat)(ea:EW)(as:AW):EW:=λL Q=>ea L λv L1=>as L1 λvs L2=>call f (v :: vs) λz=>Q z.1 L2
section
variable {X:Cx}{C:CC}{n:Nat}{sp:Γd->Nat->Sp}{a b:Expr}{ea eb:EW}{pos p:Pos}{call:CW}
variable {K:Γd}{c:Cn}{md:Md}{L:a0c}{σ:L2.St}{S H S' H':Hp}{i j f:Nat}{nx:Str}{xs:List Expr}{as:AW}
theorem a2p {L:a0c}{j i:Nat}{v:FV}(z:(L.set j none)[i]?=some (some v)):i≠j/\L[i]?=some (some v):=by
 by_cases q:i=j
 ·subst q
  have hj:i<L.length:=by have:=(List.getElem?_eq_some_iff.mp z).1;rwa [List.length_set] at this
  rw[List.getElem?_set_self hj] at z;cases z
 ·rw[List.getElem?_set_ne (Ne.symm q)] at z;exact⟨q,z⟩
theorem Iv.drop (I:Iv K c md L σ S H)(hm:a0j md j=.own)(hj:j≠0):Iv K c md (L.set j none) σ S H where
 len:=by rw[List.length_set];exact I.len
 imm:=λi v h e=>I.imm i v h (a2p e).2
 own:=λi v h e=>I.own i v h (a2p e).2
 dis:=λi k v w a h1 h2 e1 e2=>I.dis i k v w a h1 h2 (a2p e1).2 (a2p e2).2
 sub:=I.sub
 frame:=I.frame
 s0:=I.s0
 grow:=I.grow
 lent:=λa h=>by
  obtain⟨g1,g2,g3⟩:=I.lent a h
  rw[List.getElem?_set_ne hj];exact⟨g1,g2,g3⟩
 fzs:=λp hp=>by
  obtain⟨g1,g2,g3⟩:=I.fzs p hp
  have:p.1≠j:=λz=>by rw[z,hm] at g1;cases g1
  rw[List.getElem?_set_ne (Ne.symm this)];exact⟨g1,g2,g3⟩
 fzm:=λi v h e=>I.fzm i v h (a2p e).2
 fzp:=I.fzp
 prs:=λp hp=>let ⟨g1,g2,g3⟩:=I.prs p hp;⟨g1,g2,λi v h e=>g3 i v h (a2p e).2⟩
 ntp:=I.ntp
 lnt1:=λq hq=>by
  obtain⟨g1,g2,g3⟩:=I.lnt1 q hq
  have:q.1≠j:=λz=>by rw[z,hm] at g1;cases g1
  rw[List.getElem?_set_ne (Ne.symm this)];exact⟨g1,g2,g3⟩
 tie:=λy k x C dx fs w h1 h2 h3 h4=>I.tie y k x C dx fs w h1 h2 (a2p h3).2 (a2p h4).2
theorem e0q (G:Good X C n sp)(h:C.nm j nx=true)(m:a0j C.md j=.own)(hj:j≠0):FF X C (.Name nx p) (eMv j) :=
 PE.imp (a1w G h) λσ H Q ⟨c,L,S,Q0,I,h,k⟩=>by
  obtain⟨v,e,h⟩:=wpx h
  have e:=(a2f _ _ _).mp e
  have mi:a0j C.md j≠.imm:=λz=>by rw[m] at z;cases z
  obtain⟨l,e1,o,h0⟩:=I.own j v mi e
  refine⟨_,e1,k v _ h l S H o ⟨?_,λp hp z=>?_,λy w my ey z=>?_⟩ (I.drop m hj) (Same.refl S)⟩
  ·exact I.mine hj mi e e1 (by rw[m];rfl)
  ·obtain⟨_,_,g3⟩:=I.prs p hp
   exact g3 j v (Mo.w_own m) e (by rw[z];exact e1)
  ·obtain⟨q,ey⟩:=a2p ey
   exact q (I.dis y j w v l my mi ey e z e1)
end
def sFrz (j:Nat)(r:SW):SW:=λL Q=>wp (lk L j) λ_=>r L λfl L'=>Q fl (L'.set j none)
section
variable {X:Cx}{C:CC}{n:Nat}{sp:Γd->Nat->Sp}{fr:Bool}{sts:List Stmt}{r:SW}
variable {K:Γd}{c:Cn}{md md':Md}{L:a0c}{σ:L2.St}{S H:Hp}{j:Nat}
end
end Kq
end
set_option maxHeartbeats 1000000
set_option maxHeartbeats 4000000
section
namespace Kq
open PySem PySem.Spec PyProof.Rows L2 PySem.W
structure Cmp (prog:Program)(w:World)(A:Around)(E:Value->Shared->Prop)(s:Shared)(kd:SortKind)(Ok:Keyed->Prop)(lt:Keyed->Keyed->Bool):Prop where
 run:∀ x y,Ok x->Ok y->∀ (st:SortSt)(Q:Option Bool->SortSt->Prop),kindOf st=kd->Q (some (lt x y)) st->wpS (model prog w) A E s (lt' x y) Q st
 refl:∀ x,lt x x=false
 trans:∀ x y z,lt y x=false->lt z y=false->lt z x=false
 asym:∀ x y,lt x y=true->lt y x=false
section
variable {prog:Program}{w:World}{A:Around}{E:Value->Shared->Prop}{s:Shared}{kd:SortKind}{Ok:Keyed->Prop}{lt:Keyed->Keyed->Bool}
end
section
variable {prog:Program}{w:World}{A:Around}{E:Value->Shared->Prop}{s:Shared}{kd:SortKind}{Ok:Keyed->Prop}{lt:Keyed->Keyed->Bool}
end
section
variable {prog:Program}{w:World}{A:Around}{E:Value->Shared->Prop}{s:Shared}{kd:SortKind}{Ok:Keyed->Prop}{lt:Keyed->Keyed->Bool}
end
abbrev Asc {α:Type}(lt:α->α->Bool)(l:List α):Prop:=l.Pairwise λx y=>lt y x=false
structure MI {α:Type}(lt:α->α->Bool)(X Y O:List α) (i j:Nat):Prop where
 perm:O.Perm (X.take i++Y.take j)
 srt:Asc lt O
 bef:∀ x∈O,∀ y∈X.drop i++Y.drop j,lt y x=false
section
variable {α:Type}{lt:α->α->Bool}{X Y O:List α}{i j k:Nat}
end
section
variable {lt:Keyed->Keyed->Bool}{x y o:Array Keyed}{i j k:Nat}
end
section
variable {prog:Program}{w:World}{A:Around}{E:Value->Shared->Prop}{s:Shared}{kd:SortKind}{Ok:Keyed->Prop}{lt:Keyed->Keyed->Bool}
end
section
variable {lt:Keyed->Keyed->Bool}{x y o:Array Keyed}{i j t:Nat}
end
section
variable {prog:Program}{w:World}{A:Around}{E:Value->Shared->Prop}{s:Shared}{kd:SortKind}{Ok:Keyed->Prop}{lt:Keyed->Keyed->Bool}
end
section
variable {prog:Program}{w:World}{A:Around}{E:Value->Shared->Prop}{s:Shared}{kd:SortKind}{Ok:Keyed->Prop}{lt:Keyed->Keyed->Bool}
end
section
variable {lt:Keyed->Keyed->Bool}{a b:Array Keyed}
end
section
variable {prog:Program}{w:World}{A:Around}{E:Value->Shared->Prop}{s:Shared}{kd:SortKind}{Ok:Keyed->Prop}{lt:Keyed->Keyed->Bool}
end
section
variable {prog:Program}{w:World}{A:Around}{E:Value->Shared->Prop}{s:Shared}{vs:List Value}{kd:SortKind}{kf:Value->List Int}
end
def numsOf (h:Heap):Value->List Int
 | .ref a=>match h.get? a with
  | some o=>match o.data with
   | .seq us _=>us.toList.map numOf
   | _=>[]
  | none=>[]
 | _=>[]
section
variable {prog:Program}{w:World}{A:Around}{E:Value->Shared->Prop}{s:Shared}{vs:List Value}
end
def fkey:FV->List Int
 | .tup ps=>(a0v ps).getD []
 | _=>[]
def eSortB (m:Nat)(a:EW):EW:=λL Q=>a L λv L1=>wp (a4k v) λxs=>b6o xs=true/\xs.length<=m/\∀ ys:List FV,ys.Perm xs->(ys.Pairwise λx y=>lexLt (fkey y) (fkey x)=false)->Q (.lst ys) L1
section
variable {K:Γd}{S:Hp}
end
section
variable {X:Cx}
end
section
variable {X:Cx}{C:CC}{n:Nat}{sp:Γd->Nat->Sp}{a:Expr}{ea:EW}{pos p:Pos}
end
def EntAt (h:Heap)(d:Addr)(es:Array DictEntry) (ep:Nat):Prop:=∃ o,h.get? d=some o/\o.ExactDict/\o.data=.dict es ep
section
variable {prog:Program}{w:World}{A:Around}{E:Value->Shared->Prop}{s:Shared}{it d:Addr}{i n ep:Nat}{es:Array DictEntry}
theorem EntAt.ty (x:EntAt s.heap d es ep):s.TypeIs (.ref d) "dict":=by
 obtain⟨o,ho,hc,_⟩:=x
 exact⟨o,ho,hc.1⟩
theorem c2w {Q:Value->Shared->Prop}(hd:(d == sysModules)=false)(hm:EntAt s.heap d es ep)
  (q:Q (.ref s.heap.objs.size) { s with heap:=s.heap.push { cls:=.type "dict_keyiterator",data:=.fields #[.ref d,.int 0 0,.int es.size 0,.int ep 0] } }):wpAny (model prog w) A (pyIter (.ref d)) Q E s:=by
 have hT:=hm.ty
 obtain⟨o,ho,hc,hdat⟩:=hm
 refine wpAny_pyIter_slot hT F.slot_dict_iter (wpAny_call_entry F.slot_dict_iter hT F.entry_dict_iter ?_ (F.args_dict_iter_1 _));unfold Builtin.«dict.__iter__»;refine Γa ?_;unfold Builtin.Dict.dictSlotNone
 refine Γa (wpAny_notOrdered_dict hT ?_);show wpAny _ _ (pure (Value.ref d)) _ _ s;refine Γb ?_;show wpAny _ _ (Builtin.Dict.showsAll d >>= _) _ _ s;unfold Builtin.Dict.showsAll
 rw[if_neg (by rw[hd];exact Γk)];refine Γa (Γb (Γa (wpAny_dictEntries ho hdat (Γa (wpAny_dictEpoch ho hdat ?_)))))
 refine Γa (wpAny_newObj_type (Γb ⟨_,rfl,"dict_keyiterator",_,⟨_,Γm _ rfl,rfl⟩,F.slot_dict_keyiterator_next.lookup,?_⟩));simpa[rawInt] using q
theorem c2h {Q:Option Value->Shared->Prop}(hit:s.heap.IsKeyIter it d i es.size ep)(hm:EntAt s.heap d es ep)(hi:i<es.size)
  (q:∀ h',h'.IsKeyIter it d (i+1) es.size ep->Heap.SameBut it s.heap h'->Q (some es[i].key) { s with heap:=h' }):wpAny (model prog w) A (pyNext (.ref it)) Q E s:=by
 have hT:=hit.typeIs
 obtain⟨o,ho,hc,hd⟩:=id hit
 obtain⟨od,hod,_,hdd⟩:=hm
 have hown:Builtin.Dict_items.ownsTuple "dict_keyiterator" = false:=by decide
 unfold pyNext;refine Γa (wpAny_attempt (wpAny_callSpecial?_slot (name:=Γe "__next__") hT F.slot_dict_keyiterator_next (wpAny_call_entry F.slot_dict_keyiterator_next hT F.entry_dict_keyiterator_next ?_ (F.args_dict_keyiterator_next_1 _))))
 refine Γa (Γb (Γa (Γa ?_)));first|refine Γa (wpAny_typeNameOfWhole_keyiter hT (Γb ?_))|refine Γa (wpAny_typeNameOf_keyiter hT (Γb ?_))
 refine Γa (wpAny_fieldsOf ho hd ?_);simp only[hown,Γp,if_false];show wpAny _ _ (if (Value.ref d == Value.none)=true then _ else _) _ _ s;rw[if_neg (show ¬ ((Value.ref d == Value.none)=true) from Γk)]
 refine Γa (Γb (Γa (wpAny_dictEntries hod hdd ?_)));rw[if_neg (by simp)]
 refine Γa (Γb (Γa (wpAny_dictEpoch hod hdd ?_)));rw[if_neg (by simp)];refine Γb ?_
 simp only[show ¬ ((i:Int)<0) from by lia,if_false,Int.toNat_natCast,Array.getElem?_eq_getElem hi];refine Γa ?_
 first|refine Γa (wpAny_typeNameOfWhole_keyiter hT (Γb (Γa (wpAny_isOneOf_keyiter hT ?_))))|refine Γa (wpAny_typeNameOf_keyiter hT (Γb (Γa (wpAny_isOneOf_keyiter hT ?_))))
 show wpAny _ _ (setField (.ref it) 1 (rawInt ((i:Int)+1)) >>= _) _ _ s;refine Γa (wpAny_setField ho hd (by simp) ?_)
 have hit':(s.heap.update it (Obj.mapFields (·.setIfInBounds 1 (rawInt ((i:Int)+1))))).IsKeyIter it d (i+1) es.size ep:=⟨_,Heap.get?_update_self _ ho (Obj.isFreed_of_fields (Obj.data_mapFields hd _)),(Obj.cls_mapFields ..).trans hc,by rw[Obj.data_mapFields hd];simp[rawInt]⟩
 refine Γa (Γg (Γa (wpAny_isOneOf_keyiter (s:={ s with heap:=s.heap.update it (Obj.mapFields (·.setIfInBounds 1 (rawInt ((i:Int)+1)))) }) hit'.typeIs ?_)));show wpAny _ _ (pure es[i].key) _ _ _
 exact Γb (Γb ⟨_,rfl,Γb (q _ hit' (Heap.SameBut.update ..))⟩)
theorem c8k {Q:Option Value->Shared->Prop}(hh:A.handled=none)(hit:s.heap.IsKeyIter it d i es.size ep)(hm:EntAt s.heap d es ep)(hi:es.size<=i)
  (q:∀ h',Heap.ExtBut it s.heap h'->Q none { s with heap:=h' }):wpAny (model prog w) A (pyNext (.ref it)) Q E s:=by
 have hT:=hit.typeIs
 obtain⟨o,ho,hc,hd⟩:=id hit
 obtain⟨od,hod,_,hdd⟩:=hm
 have hown:Builtin.Dict_items.ownsTuple "dict_keyiterator" = false:=by decide
 unfold pyNext;refine Γa (wpAny_attempt (wpAny_callSpecial?_slot (name:=Γe "__next__") hT F.slot_dict_keyiterator_next (wpAny_call_entry F.slot_dict_keyiterator_next hT F.entry_dict_keyiterator_next ?_ (F.args_dict_keyiterator_next_1 _))))
 refine Γa (Γb (Γa (Γa ?_)));first|refine Γa (wpAny_typeNameOfWhole_keyiter hT (Γb ?_))|refine Γa (wpAny_typeNameOf_keyiter hT (Γb ?_))
 refine Γa (wpAny_fieldsOf ho hd ?_);simp only[hown,Γp,if_false];show wpAny _ _ (if (Value.ref d == Value.none)=true then _ else _) _ _ s;rw[if_neg (show ¬ ((Value.ref d == Value.none)=true) from Γk)]
 refine Γa (Γb (Γa (wpAny_dictEntries hod hdd ?_)));rw[if_neg (by simp)]
 refine Γa (Γb (Γa (wpAny_dictEpoch hod hdd ?_)));rw[if_neg (by simp)];refine Γb ?_
 simp only[show ¬ ((i:Int)<0) from by lia,if_false,Int.toNat_natCast,Array.getElem?_eq_none hi];refine Γa ?_
 first|refine Γa (wpAny_typeNameOfWhole_keyiter hT (Γb ?_))|refine Γa (wpAny_typeNameOf_keyiter hT (Γb ?_))
 show wpAny _ _ (setField (.ref it) 0 .none >>= _) _ _ s;refine Γa (wpAny_setField ho hd (by simp) ?_);show wpAny _ _ (newExc (.type "StopIteration") [] >>= _) _ _ _;refine Γa ?_;simp only[newExc,newTuple]
 refine Γa (wpAny_newObj_type ?_ (by size_fits));refine Γa (m:=firstArgMember _ _) (wpAny_of_eq (a:=Value.none) (by first|rfl|(simp only[firstArgMember];rfl)) ?_);refine wpAny_newObj_type ?_ (by size_fits);simp only[raiseNew]
 refine Γa (wpAny_handled ?_);rw[show A.in1.handled=none from hh];refine Γa (Γb (wpAny_throw ?_))
 refine Γa (wpAny_isInstance (T:="StopIteration") (b:=true) ⟨_,Γm _ rfl,rfl⟩ isSubtype_stop ?_);exact Γb (q _ (((Heap.SameBut.update ..).extBut.push _).push _))
end
section
variable {X:Cx}{pins:List (Addr×Obj)}{σ:L2.St}{H:Hp}{s:Shared}{a:Addr}
theorem b4j {kvs:List (List (Int ⊕ Option Str)×V)}{o:Obj}(I:Inv X pins σ H s)(h:H a=some (.dT kvs))(ho:s.heap.get? a=some o):Inv X pins σ (upd H a (.frz o (.dT kvs))) s:=by
 have ne:∀ {b:Addr}{u:HO},H b=some u->u≠.dT kvs->b≠a:=λe n z=>by subst z;rw[h] at e;exact n (Option.some.inj e).symm
 have ow:∀ b c,H b=some (.own c)->upd H a (.frz o (.dT kvs)) b=some (.own c):=λb c e=>by rw[a0d (ne e (λz=>nomatch z))];exact e
 have tu:∀ b xs,H b=some (.tup xs)->upd H a (.frz o (.dT kvs)) b=some (.tup xs):=λb xs e=>by rw[a0d (ne e (λz=>nomatch z))];exact e
 refine I.un (t':=s.toks) (h':=s.heap) ⟨λb o' e _ _ _=>e,λb o' e _ _ _=>⟨o'.slots,e⟩,λb o' e n _=>?_,λb o' e _=>⟨o',e⟩,tu,λb o' u e=>?_,λb ps e=>?_⟩ λb u e=>?_
 ·rw[a0d (λz=>by subst z;rw[h] at n;cases n)];exact n
 ·rw[a0d (ne e (λz=>nomatch z))];exact e
 ·exact⟨#[],by rw[a0d (ne e (λz=>nomatch z)),Array.append_empty];exact e⟩
 ·by_cases z:b=a
  ·subst z
   rw[a0e] at e;cases e
   exact⟨ho,(I.hok b _ h).stay (λ_ _ _ q=>q) (λc e=>ow c b e) tu⟩
  ·rw[a0d z] at e
   exact (I.hok b u e).stay (λ_ _ _ q=>q) (λc e=>ow c b e) tu
end
def Itk (a:Addr)(o:Obj)(kvs:List (List (Int ⊕ Option Str)×V)):It :=
 ⟨λi H=>H a=some (.frz o (.dT kvs))/\i<kvs.length,λi H v H'=>H'=H/\∃ b p,v=.ref b/\kvs[i]?=some p/\H b=some (.tup (p.1.map kV)),λi H=>H a=some (.frz o (.dT kvs))/\kvs.length<=i⟩
theorem b1a {P:Program}{w:World}{H:Hp}{h:Heap}{a:Addr}{kvs:List (List (Int ⊕ Option Str)×V)}(x:ObjOk P w H h a (.dT kvs)):∃ o es ep,h.get? a=some o/\o.data=.dict es ep/\EntAt h a es ep/\es.size=kvs.length/\(a == sysModules)=false/\∀ (i:Nat)(hi:i<es.size) p,kvs[i]?=some p->∃ b,es[i].key=.ref b/\H b=some (.tup (p.1.map kV)):=by
 obtain⟨_,y,xs,r,o,es,ep,h1,h2,h3,h4,_⟩:=x
 have hl:kvs.length=xs.length:=r.length
 have hs:es.size=xs.length:=by rw[<- Array.length_toList,h4,List.length_map]
 refine⟨o,es,ep,h1,h3,⟨o,h1,h2,h3⟩,by lia,y,λi hi p hp=>?_⟩
 have hx:i<xs.length:=by lia
 have key:∀ {l:List (List (Int ⊕ Option Str)×V)}{m:List (List (Int ⊕ Option Str)×Addr×Value)},Paired (λ(p:List (Int ⊕ Option Str)×V)(q:List (Int ⊕ Option Str)×Addr×Value)=>p.1=q.1/\H q.2.1=some (.tup (p.1.map kV))/\RelV p.2 q.2.2) l m->∀ (i:Nat) p q,l[i]?=some p->m[i]?=some q->H q.2.1=some (.tup (p.1.map kV)):=by
  intro l m z
  induction z with
  | nil=>intro i p q h;simp at h
  | @cons p0 q0 ps qs hq t ih =>
   intro i p q e1 e2
   cases i with
   | zero=>simp at e1 e2;subst e1;subst e2;exact hq.2.1
   | succ i=>simp at e1 e2;exact ih i p q e1 e2
 refine⟨xs[i].2.1,?_,key r i p xs[i] hp (by simp[hx])⟩
 have e:es.toList[i]'(by simpa using hi)=entryOfKey (tupleKind (a0z P w)) xs[i]:=by simp only[h4,List.getElem_map]
 rw[<- Array.getElem_toList (h:=hi),e];rfl
theorem b6m {P:Program}{w:World}{K:Γd}{tg:Expr}{o:Obj}{kvs:List (List (Int ⊕ Option Str)×V)}{es:Array DictEntry}{ep:Nat}(a it:Addr)(hd:o.data=.dict es ep)(hz:es.size=kvs.length):Turn P w K tg (Itk a o kvs) [it] it (λi h=>h.IsKeyIter it a i es.size ep) where
 mem:=by simp
 obj:=λi h st b hb=>by
  have e:b=it:=by simpa using hb
  subst e
  obtain⟨o,e,c,d⟩:=st
  exact⟨o,e,λv z=>by rw[d] at z;cases z⟩
 keep:=λi h h' st k=>st.at λo e=>k it (by simp) o e
 item:=by
  intro X hP hw hK hc i pins s σ H E I hf st hg
  subst hP hw hK
  obtain⟨e0,hi⟩:=hg
  obtain⟨q1,q2⟩:=(show ObjOk X.prog X.w H s.heap a (.frz o (.dT kvs)) from I.hok a _ e0)
  obtain⟨o',es',ep',f1,f2,f3,f4,f5,f6⟩:=b1a q2
  rw[q1] at f1;cases f1
  rw[hd] at f2;cases f2
  obtain⟨f0,g1,g2,g3,g4,g5⟩:=hf it (by simp)
  have hi':i<es.size:=by lia
  obtain⟨b,k1,k2⟩:=f6 i hi' kvs[i] (by simp[hi])
  refine c2h st f3 hi' λh' st' sb=>?_
  have I1:Inv X pins σ H { s with heap:=h' }:=I.turned (t':=s.toks) (λb o hb e=>(sb.2 b hb).trans e) f0 g1 g3 g4 g5
  obtain⟨o2,e,c,d⟩:=id st'
  rw[k1]
  exact⟨_,rfl,c3f (s:={ s with heap:=h' }) e c d (by decide) ⟨.ref b,H,I1,rfl,⟨rfl,b,kvs[i],rfl,by simp[hi],k2⟩,st',λb hb=>(hf b hb).1⟩⟩
 done:=by
  intro X hP hw hK hc i pins s σ H E I hf st hg
  subst hP hw hK
  obtain⟨e0,hi⟩:=hg
  obtain⟨q1,q2⟩:=(show ObjOk X.prog X.w H s.heap a (.frz o (.dT kvs)) from I.hok a _ e0)
  obtain⟨o',es',ep',f1,f2,f3,f4,f5,f6⟩:=b1a q2
  rw[q1] at f1;cases f1
  rw[hd] at f2;cases f2
  obtain⟨f0,g1,g2,g3,g4,g5⟩:=hf it (by simp)
  exact c8k (I.ok.hd hc) st f3 (by lia) λh' eb=>⟨rfl,I.turned (t':=s.toks) (λb o hb e=>eb b o hb e) f0 g1 g3 g4 g5⟩
 self:=λ_ _ _ _ _ st h=>wpAny_pyIter_keyiter st h
theorem c6r {X:Cx}{tg it:Expr}{te:TE}(h:PE X it te):PI X tg it (λσ H R=>te σ H λv H1=>∃ a kvs,v=.ref a/\((H1 a=some (.dT kvs)/\∀ o,R (Itk a o kvs) (upd H1 a (.frz o (.dT kvs)))) ∨ ∃ o,H1 a=some (.frz o (.dT kvs))/\R (Itk a o kvs) H1)):=by
 intro pins s σ H R I hh
 refine thn (h pins s σ H _ I hh) λv s1 ⟨x,H1,I1,r1,a,kvs,e,q⟩=>?_
 subst e
 cases r1
 have one:∀ (o:Obj)(H2:Hp),Inv X pins σ H2 s1->H2 a=some (.frz o (.dT kvs))->R (Itk a o kvs) H2->wpAny (model X.prog X.w) X.A (pyIter (.ref a)) (PIE X pins σ tg R) X.xe s1:=by
  intro o H2 I2 e2 q
  obtain⟨q1,q2⟩:=(show ObjOk X.prog X.w H2 s1.heap a (.frz o (.dT kvs)) from I2.hok a _ e2)
  obtain⟨o',es,ep,f1,f2,f3,f4,f5,f6⟩:=b1a q2
  rw[q1] at f1;cases f1
  refine c2w f5 f3 ?_
  refine⟨s1.heap.objs.size,[s1.heap.objs.size],_,_,H2,rfl,I2.kept (t':=s1.toks) λb o e=>Γc _ e,b6m a _ f2 f4,⟨_,Γm _ rfl,rfl,rfl⟩,λb hb=>?_,q⟩
  have e:b=s1.heap.objs.size:=by simpa using hb
  subst e
  exact I2.fpOk (Γi _) (I2.hok.fresh (Γi _))
 rcases q with⟨e1,q⟩|⟨o,e1,q⟩
 ·obtain⟨o,es,ep,f1,f2,_⟩:=b1a (show ObjOk X.prog X.w H1 s1.heap a (.dT kvs) from I1.hok a _ e1)
  exact one o _ (b4j I1 e1 f1) a0e (q o)
 ·exact one o H1 I1 e1 q
def keyF (k:List Int):FV:=.tup (k.map .int)
section
variable {X:Cx}{C:CC}{n:Nat}{sp:Γd->Nat->Sp}{tg:Expr}{p:Pos}{i:Nat}{nx:Str}
variable {K:Γd}{c:Cn}{md:Md}
end
section
variable {prog:Program}{w:World}{A:Around}{E:Value->Shared->Prop}{s:Shared}{d:Addr}{es:Array DictEntry}{ep:Nat}
end
section
variable {X:Cx}
end
def d3x:FV->Option (List (List Int))
 | .dct ks _=>some ks
 | .dcz _ ks _=>some ks
 | _=>none
def eSortE (m j:Nat):EW:=λL Q=>wp (lk L j) λv=>wp (d3x v) λks=>ks.length<=m/\(∀ k∈ks,k≠[])/\∀ ys:List (List Int),ys.Perm ks->(ys.Pairwise λx y=>lexLt y x=false)->Q (.lst (ys.map keyF)) L
section
variable {X:Cx}{C:CC}{n:Nat}{sp:Γd->Nat->Sp}{pos p p':Pos}{i:Nat}{nx:Str}
end
def a9l (xs:Array Nat):Prop:=∀ i j (hi:i<xs.size)(hj:j<xs.size),i<j->xs[i]<xs[j]
def d4w (xs:Array Nat) (j r:Nat):Prop:=r<=xs.size/\(∀ k (h:k<xs.size),k<r->xs[k]<j)/\∀ k (h:k<xs.size),r<=k->j<=xs[k]
theorem a9k {xs:Array Nat}{j:Nat}(rs:a9l xs):∀ (f lo hi:Nat),hi<=xs.size->lo<=hi->hi-lo<=f->(∀ k (h:k<xs.size),k<lo->xs[k]<j)->(∀ k (h:k<xs.size),hi<=k->j<=xs[k])->d4w xs j (SetTable.below.go xs j f lo hi)
 | 0,lo,hi,h1,h2,h3,a,b=>by
  have e:lo=hi:=by lia
  subst e
  exact⟨h1,a,b⟩
 | f+1,lo,hi,h1,h2,h3,a,b=>by
  unfold SetTable.below.go
  by_cases h:lo<hi
  ·rw[if_pos h]
   have hm:(lo+hi) / 2<xs.size:=by lia
   dsimp only
   rw[Array.getD_eq_getD_getElem?,Array.getElem?_eq_getElem hm,Option.getD_some]
   by_cases q:xs[(lo+hi) / 2]<j
   ·rw[if_pos q]
    refine a9k rs f _ _ h1 (by lia) (by lia) (λk hk hl=>?_) b
    by_cases e:k=(lo+hi) / 2
    ·subst e;exact q
    ·exact Nat.lt_trans (rs k _ hk hm (by lia)) q
   ·rw[if_neg q]
    refine a9k rs f _ _ (by lia) (by lia) (by lia) a λk hk hl=>?_
    by_cases e:k=(lo+hi) / 2
    ·subst e;lia
    ·have:=rs _ k hm hk (by lia);lia
  ·rw[if_neg h]
   have e:lo=hi:=by lia
   subst e
   exact⟨h1,a,b⟩
theorem a2y {xs:Array Nat}(rs:a9l xs) (j:Nat):d4w xs j (SetTable.below xs j):=by
 unfold SetTable.below
 exact a9k rs _ _ _ (Γi _) (Nat.zero_le _) (by lia) (λk _ h=>absurd h (Nat.not_lt_zero _)) λk h1 h2=>absurd h1 (by lia)
theorem a1m {α:Type}(xs:Array α) (p:Nat)(x:α)(hp:p<=xs.size):(SetTable.insertAt xs p x).toList=xs.toList.take p++x :: xs.toList.drop p:=by
 unfold SetTable.insertAt
 simp
 exact List.take_of_length_le (by simp)
theorem rise_list {xs:Array Nat}:a9l xs↔xs.toList.Pairwise (· < ·):=by
 rw[List.pairwise_iff_getElem]
 constructor
 ·intro h i j hi hj l
  simpa using h i j (by simpa using hi) (by simpa using hj) l
 ·intro h i j hi hj l
  have:=h i j (by simpa using hi) (by simpa using hj) l
  rwa [Array.getElem_toList,Array.getElem_toList] at this
theorem b2v {xs:Array Nat}{j:Nat}(rs:a9l xs)(ne:xs[SetTable.below xs j]?≠some j):a9l (SetTable.insertAt xs (SetTable.below xs j) j):=by
 obtain⟨h1,h2,h3⟩:=a2y rs j
 rw[rise_list,a1m _ _ _ h1,List.pairwise_append]
 have rl:=rise_list.mp rs
 refine⟨rl.sublist (List.take_sublist _ _),List.pairwise_cons.mpr ⟨λy hy=>?_,rl.sublist (List.drop_sublist _ _)⟩,λx hx y hy=>?_⟩
 ·obtain⟨i,hi,e⟩:=List.mem_iff_getElem.mp hy
  simp at hi e
  have hb:SetTable.below xs j+i<xs.size:=by lia
  have g:=h3 _ hb (by lia)
  rw[e] at g
  rcases Nat.lt_or_ge j y with l|l
  ·exact l
  ·have e2:y=j:=by lia
   exfalso
   by_cases z:i=0
   ·subst z
    apply ne
    rw[Array.getElem?_eq_getElem (by lia)]
    simp at e
    rw[e,e2]
   ·have hb0:SetTable.below xs j<xs.size:=by lia
    have g0:=h3 _ hb0 (Γi _)
    have g1:=rs _ _ hb0 hb (by lia)
    rw[e] at g1;lia
 ·obtain⟨i,hi,e⟩:=List.mem_iff_getElem.mp hx
  simp at hi e
  have gx:=h2 i (by lia) (by lia)
  rw[e] at gx
  rcases List.mem_cons.mp hy with rfl|hy
  ·exact gx
  ·obtain⟨k,hk,e'⟩:=List.mem_iff_getElem.mp hy
   simp at hk e'
   have g:=h3 _ (show SetTable.below xs j+k<xs.size by lia) (by lia)
   rw[e'] at g;lia
def e4e (t:SetTable)(l:Bool):Prop:=t.led=l/\t.dummies = #[]/\(t.plain=true->a9l t.place)
theorem b4k (j:Nat):SetTable.has #[] j=false:=by
 unfold SetTable.has
 rfl
def e4i (l:List (Int×Value)):Prop:=∀ e∈l,∃ k tk,e=(hashInt k,Value.int k tk)
def d3m (l:List (Int×Value)):List Int:=l.map λe=>numOf e.2
structure SetData (w:World)(o:Obj)(ns:List Int)(es:Array (Int×Value)) (ep:Nat)(t:SetTable):Prop where
 ex:o.ExactSet
 dat:o.data=.set es ep t
 num:e4i es.toList
 perm:(d3m es.toList).Perm ns
 a2o:ns.length<scanBound
 fits:t.fits es.size=true
 tab:e4e t (!w.params.followText "set-order")
section
variable {prog:Program}{w:World}{A:Around}{E:Value->Shared->Prop}{s:Shared}{a:Addr}
end
section
variable {prog:Program}{w:World}{A:Around}{E:Value->Shared->Prop}{s:Shared}{a:Addr}
end
section
variable {prog:Program}{w:World}{A:Around}{E:Value->Shared->Prop}{s:Shared}{a:Addr}
inductive Goes (w:World)(h:Heap)(a:Addr)(es:Array (Int×Value)) (ep:Nat)(t:SetTable):List Value->Nat->Value->Prop
 | text {i:Nat}{sl:Nat}:w.params.followText "set-order" = true->Goes w h a es ep t ((pickOrder (w.params.setOrder a ep) es).toList.map (·.2)) i (.int sl 0)
 | table {i:Nat}:w.params.followText "set-order" = false->(!t.plain && decide (es.size > 1))=false->Goes w h a es ep t (es.toList.map (·.2)) i (.int ((if i=0 then 0 else t.place.getD (i-1) 0+1:Nat):Int) 0)
 | drawn {i:Nat}{p:Addr}{od:List Nat}:w.params.followText "set-order" = false->h.IsTuple p (od.map λ(n:Nat)=>rawInt n).toArray->od.Perm (List.range es.size)->Goes w h a es ep t (od.map λn=>(es.getD n (0,.none)).2) i (.ref p)
end
section
variable {prog:Program}{w:World}{A:Around}{E:Value->Shared->Prop}{s:Shared}{a:Addr}{ns:List Int}{o:Obj}{es:Array (Int×Value)}{ep:Nat}{t:SetTable}
end
section
variable {prog:Program}{w:World}{A:Around}{R:Result->Shared->Prop}{E:Value->Shared->Prop}{s:Shared}{I:Addr}{fp wr:List Addr}{G:Array GenState->Array GenState->Prop}{n:Nat}{P:Nat->Value->Prop}{St:Nat->Shared->Prop}
end
abbrev freshSet (w:World):Obj:={ cls:=.type "set",dict:=none,data:=.set #[] 0 (.fresh 0 0 (!w.params.followText "set-order")) }
section
variable {prog:Program}{w:World}{A:Around}{E:Value->Shared->Prop}{s:Shared}
structure NumSrc (prog:Program)(w:World)(s:Shared)(l:Addr)(T:String)(ks:List Int):Prop where
 ty:s.TypeIs (.ref l) T
 su:isSubtype (.type T) (.type "set")=pure false
 sf:isSubtype (.type T) (.type "frozenset")=pure false
 nd:(Value.type T == Value.type "dict")=false
 it:∀ h:Heap,(∀ b o,s.heap.get? b=some o->h.get? b=some o)->∃ (oI:Obj)(P:Nat->Value->Prop)(St:Nat->Heap->Prop),(∀ (A':Around)(E':Value->Shared->Prop)(Q:Value->Shared->Prop),Q (.ref h.objs.size) { s with heap:=h.push oI }->wpAny (model prog w) A' (pyIter (.ref l)) Q E' { s with heap:=h })/\(∀ A':Around,A'.handled=none->Walks prog w A' h.objs.size [h.objs.size,l] [h.objs.size] ks.length P St)/\St 0 (h.push oI)/\∀ i v,P i v->∃ t,v=.int (ks.getD i 0) t
end
section
variable {X:Cx}
end
section
variable {X:Cx}{C:CC}{n:Nat}{sp:Γd->Nat->Sp}{a:Expr}{ea:EW}{pos pos' p p':Pos}
end
end Kq
end
section
namespace L2
open PySem PySem.Spec PyProof.Rows
def b2y (elt:Expr)(acc:Value)(env:Env)(c:Code):Sem Fin:=do
 (do let v <- eval elt env;standAt elt.pos;let _ <- call (.builtin "set.add") [acc,v])
 again c
theorem c2j {prog:Program}{w:World}{A:Around}{E:Value->Shared->Prop}{s:Shared}{Q:Value->Shared->Prop}(q:Q (.ref s.heap.objs.size) { s with heap:=s.heap.push (Kq.freshSet w) }):wpAny (model prog w) A (newSet (.type "set")) Q E s :=
 Γa (Γa (wpAny_askSetting (Γb (Γa (wpAny_alloc (Γb q))))))
section
variable {prog:Program}{w:World}{A:Around}{R:Result->Shared->Prop}{s:Shared}
end
section
variable {X:Cx}{elt tg iter tg2 iter2:Expr}{ifs ifs2:List Expr}{scope:Scope}{own:List Str}{pos:Pos}{wi wi2:TI}{g g2:TG}{tt tt2:TT}{te:TE}
end
end L2
end
section
namespace Kq
open PySem PySem.Spec PyProof.Rows L2
def inS (tg:Tg)(t:BW)(e:EW):List FV->List Int->a0c->(List Int->a0c->Prop)->Prop
 | [],acc,L,Q=>Q acc L
 | y :: r,acc,L,Q=>gW tg y L λL1=>t L1 λb L2=>if b=true then e L2 λv L3=>wp (a3l v) λk=>inS tg t e r (acc++[k]) L3 Q else inS tg t e r acc L2 Q
def b4t (n m:Nat)(tg:Tg)(t:BW)(it2:AW)(tg2:Tg)(t2:BW)(e:EW):List FV->List Int->a0c->(List Int->a0c->Prop)->Prop
 | [],acc,L,Q=>Q acc L
 | x :: xs,acc,L,Q=>gW tg x (L++Γj m none) λL1=>t L1 λb L2=>if b=true then it2 L2 λys L3=>acc.length+ys.length<=4000/\inS tg2 t2 e ys acc L3 λacc' L4=>b4t n m tg t it2 tg2 t2 e xs acc' (L4.take n) Q else b4t n m tg t it2 tg2 t2 e xs acc (L2.take n) Q
def e2p (n m:Nat)(it:AW)(tg:Tg)(t:BW)(it2:AW)(tg2:Tg)(t2:BW)(e:EW):EW:=λL Q=>it L λxs L1=>L1.length=n/\b4t n m tg t it2 tg2 t2 e xs [] L1 λns L2=>ns.length<=4000/\∀ ms:List Int,(∀ x,x∈ms↔x∈ns)->ms.Pairwise (· < ·)->Q (.lst (ms.map .int)) L2
section
variable {X:Cx}{C:CC}{n:Nat}{sp:Γd->Nat->Sp}{a b tg:Expr}{ea eb:EW}{pos p:Pos}
end
section
variable {K:Γd}{c:Cn}{md:Md}{L:a0c}{σ:L2.St}{S H:Hp}
end
section
variable {X:Cx}{C:CC}{n:Nat}{sp:Γd->Nat->Sp}{pos pos' p:Pos}
variable {scope:Scope}{own:List Str}{elt tgx iter tgx2 iter2:Expr}{ifs ifs2:List Expr}{it it2:AW}{tg tg2:Tg}{t t2:BW}{e:EW}{nn m:Nat}{md':Md}
end
def dsF:FV->Option (List D):=λv=>(fD a0t v).bind λd=>match d with|.lst ys=>some ys|_=>none
def idxD (x:D):List D->Option Nat
 | []=>none
 | y :: r=>if D.eqv y x=true then some 0 else (idxD x r).map (· + 1)
def indexF (v w:FV):Option FV:=(dsF v).bind λys=>(fD a0t w).bind λx=>(idxD x ys).bind λj=>if j<big then some (.int (j:Int)) else none
def countF (v w:FV):Option FV:=(dsF v).bind λys=>(fD a0t w).bind λx=>some (.int ((ys.countP λy=>D.eqv y x:Nat):Int))
def eMRN (f:FV->FV->Option FV) (i:Nat)(b:EW):EW:=λL Q=>wp (lk L i) λv=>wp (a7b v) λ_=>b L λy L1=>wp (lk L1 i) λx=>wp (f x y) λz=>Q z L1
section
variable {X:Cx}{pins:List (Addr×Obj)}{s:Shared}{σ:L2.St}{H S:Hp}
end
section
variable {X:Cx}{C:CC}{n:Nat}{sp:Γd->Nat->Sp}{a b:Expr}{ea eb:EW}{p:Pos}{i:Nat}{nx:Str}
end
def e2o (n m:Nat)(it:AW)(tg:Tg)(t:BW)(it2:AW)(tg2:Tg)(t2:BW)(e:EW):EW:=λL Q=>it L λxs L1=>L1.length=n/\b4t n m tg t it2 tg2 t2 e xs [] L1 λns L2=>ns.length<=63/\∀ ms:List Int,(∀ x,x∈ms↔x∈ns)->ms.Pairwise (· < ·)->Q (.lst (ms.map .int)) L2
section
variable {X:Cx}{C:CC}{n:Nat}{sp:Γd->Nat->Sp}{pos pos' p:Pos}
variable {scope:Scope}{own:List Str}{elt tgx iter tgx2 iter2:Expr}{ifs ifs2:List Expr}{it it2:AW}{tg tg2:Tg}{t t2:BW}{e:EW}{nn m:Nat}{md':Md}
end
def a2r:List FV->Option (List (Option Int))
 | []=>some []
 | .int i :: r=>(a2r r).map (some i :: ·)
 | .non :: r=>(a2r r).map (none :: ·)
 | _=>none
def oV:Option Int->V
 | some i=>.int i
 | none=>.non
theorem d2b (x:Option Int):kV (oK x)=oV x:=by cases x<;>rfl
theorem d2c {a b:Option Int}(h:oK a=oK b):a=b:=by
 cases a<;>cases b<;>first|rfl|cases h
 rfl
theorem c4x {a b:List (Option Int)}(h:a.map oK=b.map oK):a=b:=by
 induction a generalizing b with
 | nil=>cases b with|nil=>rfl|cons=>cases h
 | cons x r ih=>cases b with
  | nil=>cases h
  | cons y q =>
   simp only[List.map_cons,List.cons.injEq] at h
   rw[d2c h.1,ih h.2]
theorem b7v {K:Γd}{S:Hp}{ps:List FV}:∀ {xs:List V}{k:List (Option Int)},RVs K S ps xs->a2r ps=some k->xs=k.map oV:=by
 induction ps with
 | nil=>intro xs k r e;cases e;exact r
 | cons p ps ih =>
  intro xs k r e
  obtain⟨v,q,rfl,h1,h2⟩:=r
  cases p with
  | int i =>
   obtain⟨k',e1,rfl⟩:=mpd (show (a2r ps).map (some i :: ·)=some k from e)
   cases (show v=.int i from h1)
   rw[ih h2 e1];rfl
  | non =>
   obtain⟨k',e1,rfl⟩:=mpd (show (a2r ps).map (none :: ·)=some k from e)
   cases (show v=.non from h1)
   rw[ih h2 e1];rfl
  | _=>exact absurd (show (none:Option (List (Option Int)))=some k from e) (by simp)
theorem a9e:∀ (ks:List (List (Option Int)))(us:List V)(k:List (Option Int)),a9n ((a2m ks).zip us) (k.map oK)=a3a ks us k
 | [],us,k=>by cases us<;>rfl
 | k' :: ks,[],k=>rfl
 | k' :: ks,u :: us,k=>by
  show a9n ((k'.map oK,u) :: (a2m ks).zip us) (k.map oK)=if k'=k then some u else a3a ks us k
  by_cases e:k'=k
  ·subst e;rw[a3t rfl,if_pos rfl]
  ·rw[a3u λz=>e (c4x z),if_neg e];exact a9e ks us k
theorem b3p (ks:List (List (Option Int)))(us:List V)(k:List (Option Int))(u:V)(hl:ks.length=us.length):a4z ((a2m ks).zip us) (k.map oK) u=(a2m (a1x ks us k u).1).zip (a1x ks us k u).2:=by
 have hany:(((a2m ks).zip us).any λkv=>decide (kv.1=k.map oK))=true↔k∈ks:=by
  rw[a4l,a9e,a2h k hl]
 unfold a4z a1x
 by_cases e:k∈ks
 ·rw[if_pos (hany.mpr e),if_pos e]
  clear e hany
  induction ks generalizing us with
  | nil=>cases us<;>rfl
  | cons k' ks ih=>cases us with
   | nil=>rfl
   | cons u' us =>
    have:=ih us (by simpa using hl)
    show (if k'.map oK=k.map oK then (k'.map oK,u) else (k'.map oK,u')) :: ((a2m ks).zip us).map _=(k'.map oK,if k'=k then u else u') :: (a2m ks).zip _
    rw[this]
    congr 1
    by_cases e:k'=k
    ·subst e;simp
    ·rw[if_neg λz=>e (c4x z),if_neg e]
 ·rw[if_neg λz=>e (hany.mp z),if_neg e]
  show _=(a2m (ks++[k])).zip (us++[u])
  have:a2m (ks++[k])=a2m ks++[k.map oK]:=by simp[a2m]
  rw[this,List.zip_append (by simpa[a2m] using hl)];rfl
theorem b2s {K:Γd}{S:Hp}{ps:List FV}{k:List (Option Int)}{x:V}(r:RV K S (.tup ps) x)(e:a2r ps=some k):∃ b,x=.ref b/\S b=some (.tup ((k.map oK).map kV)):=by
 obtain⟨b,xs,rfl,h1,h2⟩:=r
 refine⟨b,rfl,?_⟩
 rw[h1,b7v h2 e,List.map_map]
 congr 2
 exact List.map_congr_left λx _=>(d2b x).symm
def a5n (n m:Nat)(tg:Tg)(t:BW)(ek ev:EW):List FV->List (List (Option Int))->List FV->a0c->(List (List (Option Int))->List FV->a0c->Prop)->Prop
 | [],ks,vs,L,Q=>Q ks vs L
 | x :: xs,ks,vs,L,Q=>gW tg x (L++Γj m none) λL1=>t L1 λb L2=>if b=true then ek L2 λkx L3=>wp (a5t kx) λps=>wp (a2r ps) λk=>ev L3 λv L4=>a5n n m tg t ek ev xs (a1x ks vs k v).1 (a1x ks vs k v).2 (L4.take n) Q else a5n n m tg t ek ev xs ks vs (L2.take n) Q
def b4q (n m:Nat)(it:AW)(tg:Tg)(t:BW)(ek ev:EW):EW:=λL Q=>it L λxs L1=>L1.length=n/\xs.length<=big/\a5n n m tg t ek ev xs [] [] L1 λks vs L2=>Q (.dcn none ks vs) L2
section
variable {K:Γd}{c:Cn}{md:Md}{L:a0c}{σ:L2.St}{S H:Hp}
theorem c0d {J:It}{xs:List FV}{n m:Nat}{tg:Tg}{t:BW}{ek ev:EW}{Q:VK}{Q1:List (List (Option Int))->List FV->a0c->Prop}(I:Iv K c md L σ S H)(hJ:ItR K c md J xs S)(hL:L.length=n)(hmd:md.length<=n)(ht:a3m md tg=true)(hg:a7c n tg=true)(hb:xs.length<=big)(h:a5n n m tg t ek ev xs [] [] L Q1)
  (k:∀ acc ks vs us L' S' H',H acc=none->Q1 ks vs L'->S' acc=none->H' acc=some (.dT ((a2m ks).zip us))->ks.length=vs.length->RVs K S' vs us->a7k c md L' σ acc->Iv K c md L' σ S' H'->Same S S'->Q (.ref acc) H') :
  ∀ acc,H acc=none->∃ W:Nat->Nat->Hp->Prop,(∃ m,W 0 m (upd H acc (.dT [])))/\∀ i j H,W i j H ->
   (J.stop i H/\Q (.ref acc) H) ∨ (J.go i H/\∀ x H',J.yld i H x H'->gT K tg x (σ++Γj m none) H' λσ2 H2=>Wk (σ++Γj m none) σ2/\lb K md t σ2 H2 λb H3 =>
    if b=true then emD (lv K md ek) (lv K md ev) acc σ2 H3 λH4=>∃ m',m'<j/\W (i+1) m' H4 else ∃ m',m'<j/\W (i+1) m' H3):=by
 intro acc hacc
 have h0:=I.h0 hacc
 have hp:∀ p∈c.pr,p.1≠acc:=(I.fresh hacc).2.1
 have hz:=I.fzp
 have hbl:=a1n
 refine a4t (α:=List (List (Option Int))×List FV) (β:=List (List (Option Int))×List V) (fr:=λb=>{ c with pr:=(acc,.dT ((a2m b.1).zip b.2)) :: c.pr }) (P:=λa b S=>a.1=b.1/\a.1.length=a.2.length/\RVs K S a.2 b.2) (N:=λa=>a.1.length) (Cm:=λxs a L=>a5n n m tg t ek ev xs a.1 a.2 L Q1) (em:=λa L3 K'=>ek L3 λkx L4=>wp (a5t kx) λps=>wp (a2r ps) λk=>ev L4 λv L5=>K' (a1x a.1 a.2 k v) L5) (a0:=([],[])) (b0:=([],[])) ((I.lay hacc _).prot a0e (I.sn hacc) λj w hm hj=>(I.fresh hacc).2.2 j w (Mo.w_imm hm) hj) hJ hL hmd ht hg ⟨rfl,rfl,rfl⟩ rfl h (λ_ _ _ _ _ _ I _=>I.unprot hz) (λ_ _ _ _ ⟨e,l,r⟩ s=>⟨e,l,r.mono s⟩) (λ_ _ _ _ h=>h) (λ⟨ks,vs⟩ ⟨ks',us⟩ L3 σ2 S3 H3 K' Z hn I3 ⟨e,hkl,r⟩ hv kz=>?_) λ⟨ks,vs⟩ ⟨ks',us⟩ L' S' H' q I' ⟨e,hkl,r⟩ s'=>?_
 ·cases (show ks=ks' from e)
  dsimp only at hn hkl r
  refine⟨_,L3,S3,_,I3,hv,λkx L4 hk u S4 H4 r4 I4 s4=>?_⟩
  obtain⟨ps,e1,hk1⟩:=wpx hk
  obtain⟨kk,e2,hk2⟩:=wpx hk1
  cases a2a e1
  obtain⟨b,rfl,hb4⟩:=b2s r4 e2
  refine⟨_,L4,S4,_,I4,hk2,λv L5 hv u S5 H5 r5 I5 s5=>?_⟩
  have lr:=r.length
  obtain⟨pe,pr⟩:=a3w (ks:=ks) (k:=kk) (r.mono (s4.trans s5)) r5
  obtain⟨pl1,pl2⟩:=a3f ks vs kk v hkl
  refine⟨_,kk.map oK,b,(I5.prs (acc,_) Γn).1,rfl,I5.sub _ _ (s5 _ _ hb4),by rw[List.length_zip,show (a2m ks).length=ks.length by simp[a2m]];lia,?_⟩
  rw[b3p ks us kk u (by lia)]
  exact kz _ (a1x ks us kk u) L5 S5 _ hv (I5.regrow h0 hp hz) ⟨pe,pl1,pr⟩ (s4.trans s5) pl2
 ·cases (show ks=ks' from e)
  obtain⟨g1,g2,f⟩:=I'.newPr h0 hp hz
  exact k acc ks vs us L' S' H' hacc q g2 g1 hkl r f (I'.unprot hz) s'
end
section
variable {X:Cx}{C:CC}{n:Nat}{sp:Γd->Nat->Sp}{pos:Pos}{scope:Scope}{own:List Str}{kx vx tgx iter:Expr}{ifs:List Expr}{it:AW}{tg:Tg}{t:BW}{ek ev:EW}{nn m:Nat}{md':Md}
end
def c8r (v w:FV):Option FV:=match v with
 | .dcn _ ks vs=>(a5t w).bind λps=>(a2r ps).bind λk=>a3a ks vs k
 | _=>none
def c9m (v j x:FV):Option FV:=match v with
 | .dcn none ks vs=>(a5t j).bind λps=>(a2r ps).bind λk=>if ks.length<big then some (.dcn none (a1x ks vs k x).1 (a1x ks vs k x).2) else none
 | _=>none
def c6a (k:Nat)(i e:EW):SW:=λL Q=>wp (lk L k) λ_=>e L λx L1=>i L1 λj L2=>wp (lk L2 k) λy=>wp (c9m y j x) λz=>Q .next (L2.set k (some z))
def c1n (f:Int->Int->Int) (k:Nat)(i e:EW):SW:=λL Q=>wp (lk L k) λ_=>i L λj L1=>wp (lk L1 k) λv=>wp (c8r v j) λx0=>wp (a3l x0) λa=>e L1 λx L2=>wp (a3l x) λb=>wp (lk L2 k) λw=>wp (c9m w j (.int (f a b))) λz=>Q .next (L2.set k (some z))
section
variable {K:Γd}{S H:Hp}{c:Cn}{md:Md}{L:a0c}{σ:L2.St}
theorem RH.dcn {z:Option Obj}{ks:List (List (Option Int))}{vs:List FV}{x:V}(hs:Same S H)(r:RH K S H (.dcn z ks vs) x):∃ a us,x=.ref a/\ks.length=vs.length/\H a=some (hoN (.dT ((a2m ks).zip us)) z)/\RVs K S vs us:=by
 rcases r with⟨a,xs,e,h0,h1,h2⟩|⟨a,e,_,qs,xs,e2,h1,h2⟩
 ·exact⟨a,xs,e,h0,hs _ _ h1,h2⟩
 ·obtain⟨hl,rfl⟩:=itd e2
  exact⟨a,xs,e,hl,h1,h2⟩
theorem d0o {H:Hp}{a:Addr}{u:HO}{z:Option Obj}(h:H a=some (hoN u z)):Rd H a u:=by
 cases z with
 | none=>exact .inl h
 | some o=>exact .inr ⟨o,h⟩
theorem b9r {v w z:FV}{x y:V}(hs:Same S H)(rv:RH K S H v x)(rw':RH K S H w y)(e:c8r v w=some z):∃ a u,x=.ref a/\L2.DGet H a y (some u)/\RV K S z u:=by
 cases v with
 | dcn o ks vs =>
  obtain⟨ps,e1,e2⟩:=bnd e
  obtain⟨k,e3,e4⟩:=bnd e2
  cases a2a e1
  obtain⟨a,us,rfl,hl,h1,h2⟩:=rv.dcn hs
  obtain⟨b,rfl,hb⟩:=b2s (rw'.val rfl) e3
  obtain⟨u,g1,g2⟩:=a6a h2 e4
  refine⟨a,u,rfl,?_,g2⟩
  rw[<- g1,<- a9e]
  exact .inr ⟨_,_,b,d0o h1,rfl,hs _ _ hb,rfl⟩
 | _=>cases e
theorem b9q {i:Nat}{v j x z:FV}{a:Addr}{y u:V}(I:Iv K c md L σ S H)(m:a0j md i=.own)(e:L[i]?=some (some v))(e1:σ[i]?=some (some (.ref a)))(rj:RV K S j y)(rx:RV K S x u)(h:c9m v j x=some z):∃ H',L2.DPut H a y u H'/\Iv K c md (L.set i (some z)) σ S H':=by
 obtain⟨a',f1,⟨o1,ps,us,e9,o2,o3⟩,_⟩:=I.own i v (λz=>by rw[m] at z;cases z) e
 rw[e1] at f1;cases f1
 have hbl:=a1n
 cases v with
 | dcn o ks vs =>
  cases o with
  | some o=>cases h
  | none =>
   obtain⟨qs,g1,h⟩:=bnd h
   obtain⟨k,g2,h⟩:=bnd h
   obtain⟨hb,rfl⟩:=itd h
   obtain⟨hl,rfl⟩:=itd e9
   cases a2a g1
   obtain⟨b,rfl,hkb⟩:=b2s rj g2
   have hu:ks.length=us.length:=by rw[hl,o3.length]
   obtain⟨p1,p2⟩:=a3w (ks:=ks) (k:=k) o3 rx
   refine⟨_,.t o2 (I.sub _ _ hkb) (by simp[a2m];lia),?_⟩
   rw[b3p ks us k u hu,<- p1]
   exact I.writeV (w:=.dcn none _ _) m e e1 (if_pos (a3f ks _ k x hl).1) p2
 | _=>cases h
end
section
variable {X:Cx}{C:CC}{n:Nat}{sp:Γd->Nat->Sp}{fr:Bool}{a b:Expr}{ea eb:EW}{pos p px:Pos}{i:Nat}{nx:Str}
theorem e1e (G:Good X C n sp)(hs:a2w b=false)(h:C.nm i nx=true)(hb:FR X C b eb):FE X C (.Subscript (.Name nx p) b pos) (a7j c8r i eb):=PE.imp (b2h (X:=X.nox) (by have:=G.room.units;show X.A.units+1<cLine;lia) (a1w G h) hb (a5w hs)) λσ H Q ⟨c,L,S,Q0,I,h,k⟩=>by
 obtain⟨v0,e,h⟩:=wpx h
 obtain⟨x,e1,_⟩:=I.rd e
 refine⟨x,e1,c,L,S,_,I,h,λw L2 hw y S2 H2 r2 I2 s2=>?_⟩
 obtain⟨v,e2,q⟩:=wpx hw
 obtain⟨x',e3,r1⟩:=I2.rd e2
 rw[e1] at e3;cases e3
 obtain⟨z,e4,q⟩:=wpx q
 obtain⟨a,u,rfl,g,r5⟩:=b9r I2.sub r1 r2 e4
 exact⟨a,u,rfl,g,k z L2 q u S2 H2 r5 I2 s2⟩
theorem d5n (G:Good X C n sp)(hn:C.nm i nx=true)(m:a0j C.md i=.own)(hc:(!a6s a && !a2w b)=true)(ha:FE X C a ea)(hb:FE X C b eb):FS X C fr (.Assign [.Subscript (.Name nx px) b p] a pos) (c6a i eb ea):=by
 have hc:=b2 hc
 refine PS.imp (b7i (X:=X.nox) (by have:=G.room.units;show X.A.units+1<cLine;lia) (a1w (pos:=px) G hn) hb ha (a3v (nb hc.1))) λD σ H ⟨c,L,S,Q0,I,h,k⟩=>?_
 have mi:a0j C.md i≠.imm:=λz=>by rw[m] at z;cases z
 obtain⟨v0,e,h⟩:=wpx h
 obtain⟨l,e1,_⟩:=I.own i v0 mi ((a2f _ _ _).mp e)
 refine⟨c,L,S,_,I,h,λv L1 q x S1 H1 r1 I1 s1=>⟨_,e1,c,L1,S1,_,I1,q,λw L2 q y S2 H2 r2 I2 s2=>?_⟩⟩
 obtain⟨v1,e2,q2⟩:=wpx q
 obtain⟨z,e3,q3⟩:=wpx q2
 have e2:=(a2f _ _ _).mp e2
 obtain⟨H3,g,I3⟩:=b9q I2 m e2 e1 r2 (r1.mono s2) e3
 exact⟨l,H3,rfl,g,k .next _ q3 σ S2 _ I3 (s1.trans s2)⟩
theorem d4p {op:Operator}{f:Int->Int->Int}(hop:InOp X.nox op (ipI f))(G:Good X C n sp)(hn:C.nm i nx=true)(m:a0j C.md i=.own)(hs:a2w b=false)(hb:FE X C b eb)(ha:FE X C a ea):FS X C fr (.AugAssign (.Subscript (.Name nx px) b p) op a pos) (c1n f i eb ea):=by
 refine PS.imp (c6o (X:=X.nox) (by have:=G.room.units;show X.A.units+1<cLine;lia) (a1w (pos:=px) G hn) hb ha hop (by cases b<;>first|(intros;rfl)|cases hs)) λD σ H ⟨c,L,S,Q0,I,h,k⟩=>?_
 have mi:a0j C.md i≠.imm:=λz=>by rw[m] at z;cases z
 obtain⟨v0,e,h⟩:=wpx h
 obtain⟨l,e1,_⟩:=I.own i v0 mi ((a2f _ _ _).mp e)
 refine⟨_,e1,c,L,S,_,I,h,λj L1 q y S1 H1 r1 I1 s1=>?_⟩
 obtain⟨v1,e2,q⟩:=wpx q
 obtain⟨x0,e3,q⟩:=wpx q
 obtain⟨a0,e4,q⟩:=wpx q
 obtain⟨x',f1,rv⟩:=I1.rd e2
 rw[e1] at f1;cases f1
 obtain⟨a',u,ea',g,r3⟩:=b9r I1.sub rv (.inl r1) e3
 cases ea'
 refine⟨_,u,rfl,g,c,L1,S1,_,I1,q,λx L2 q y2 S2 H2 r2 I2 s2=>?_⟩
 obtain⟨b0,e5,q5⟩:=wpx q
 obtain⟨w,e6,q6⟩:=wpx q5
 obtain⟨z,e7,q7⟩:=wpx q6
 clear q
 cases a1o e4
 cases a1o e5
 cases (show u=V.int a0 from r3)
 cases (show y2=V.int b0 from r2)
 refine⟨a0,b0,rfl,rfl,?_⟩
 obtain⟨H3,g3,I3⟩:=b9q I2 m ((a2f _ _ _).mp e6) e1 (r1.mono s2) (x:=.int (f a0 b0)) (u:=V.int (f a0 b0)) rfl e7
 exact⟨H3,g3,k .next _ q7 σ S2 _ I3 (s1.trans s2)⟩
theorem e0i (G:Good X C n sp)(hn:C.nm i nx=true)(m:a0j C.md i=.own)(hs:a2w b=false)(hb:FE X C b eb)(ha:FE X C a ea):FS X C fr (.AugAssign (.Subscript (.Name nx px) b p) .Sub a pos) (c1n (λi j=>i-j) i eb ea):=d4p d3c G hn m hs hb ha
end
section
variable {X:Cx}{pins pins0:List (Addr×Obj)}{σ σ0:L2.St}{H H0:Hp}{s s0:Shared}{a:Addr}
theorem c2z {kvs kvs0:List (List (Int ⊕ Option Str)×V)}{o:Obj}(I0:Inv X pins0 σ0 H0 s0)(h0:H0 a=some (.dT kvs0))(I:Inv X pins σ H s)(h:H a=some (.frz o (.dT kvs))):Inv X pins σ (upd H a (.dT kvs)) s:=by
 have ne:∀ {b:Addr}{u:HO},H b=some u->u≠.frz o (.dT kvs)->b≠a:=λe n z=>by subst z;rw[h] at e;exact n (Option.some.inj e).symm
 have none':∀ {b:Addr},H b=none->upd H a (.dT kvs) b=none:=λ{b} e=>by rw[a0d (λz=>by subst z;rw[h] at e;cases e)];exact e
 have ow:∀ b c,H b=some (.own c)->upd H a (.dT kvs) b=some (.own c):=λb c e=>by rw[a0d (ne e (λz=>nomatch z))];exact e
 have tu:∀ b xs,H b=some (.tup xs)->upd H a (.dT kvs) b=some (.tup xs):=λb xs e=>by rw[a0d (ne e (λz=>nomatch z))];exact e
 refine⟨I.ok,I.os,I.bare,⟨I.base.keep,I.base.slot,λb o e n hx=>none' (I.base.free b o e n hx),I.base.there,λb xs e=>tu b xs (I.base.tups b xs e),λb o' u e=>?_,λb ps e=>?_⟩,I.loc,I.cell,none' I.free,λx c e=>none' (I.freeC x c e),λp hp=>?_,λb u e=>?_,I.len⟩
 ·have g:=I.base.frzs b o' u e
  rw[a0d λz=>by subst z;rw[I0.base.frzs b o' u e] at h0;cases h0];exact g
 ·obtain⟨more,g⟩:=I.base.tbls b ps e
  exact⟨more,by rw[a0d (ne g (λz=>nomatch z))];exact g⟩
 ·obtain⟨g1,g2,g3⟩:=I.pin p hp
  exact⟨g1,none' g2,g3⟩
 ·by_cases z:b=a
  ·subst z
   rw[a0e] at e;cases e
   obtain⟨_,q⟩:=(show ObjOk X.prog X.w H s.heap b (.frz o (.dT kvs)) from I.hok b _ h)
   exact q.stay (λ_ _ _ q=>q) (λc e=>ow c b e) tu
  ·rw[a0d z] at e
   exact (I.hok b u e).stay (λ_ _ _ q=>q) (λc e=>ow c b e) tu
theorem c6m {st:Stmt}{t:TS}(hs:PS X st t):PS X st (λD σ H=>∃ a kvs,H a=some (.dT kvs)/\∀ o,t ⟨λσ' H2=>∃ kvs2,H2 a=some (.frz o (.dT kvs2))/\D.nx σ' (upd H2 a (.dT kvs2)),λ_ _=>False,λ_ _=>False,λ_ _=>False⟩ σ (upd H a (.frz o (.dT kvs)))):=by
 intro pins s σ H D I ⟨a,kvs,h,hh⟩
 obtain⟨o,es,ep,f1,f2,_⟩:=b1a (show ObjOk X.prog X.w H s.heap a (.dT kvs) from I.hok a _ h)
 refine wpAny_mono (hs pins s σ _ _ (b4j I h f1) (hh o)) (λfl s1 q=>?_) λ_ _ z=>z
 cases fl with
 | next =>
  obtain⟨σ',H2,I2,kvs2,h2,q⟩:=q
  exact⟨σ',_,c2z I h I2 h2,q⟩
 | brk=>obtain⟨_,_,_,z⟩:=q;exact z.elim
 | cont=>obtain⟨_,_,_,z⟩:=q;exact z.elim
 | ret u=>obtain⟨_,_,_,_,_,z⟩:=q;exact z.elim
end
def d7o (j:Nat)(s:SW):SW:=λL Q=>wp (lk L j) λv=>match v with
 | .dcn none ks vs=>∀ o,s (L.set j (some (.dcn (some o) ks vs))) λfl L1=>match fl with
  | .next=>wp (lk L1 j) λw=>match w with
   | .dcn (some _) ks' vs'=>Q .next (L1.set j (some (.dcn none ks' vs')))
   | _=>False
  | _=>False
 | _=>False
def oF:Option Int->FV
 | some i=>.int i
 | none=>.non
def d2v (k:List (Option Int)):FV:=.tup (k.map oF)
def b8y (j:Nat):AW:=λL Q=>wp (lk L j) λv=>match v with
 | .dcn (some _) ks _=>Q (ks.map d2v) L
 | _=>False
section
variable {X:Cx}{C:CC}{n:Nat}{sp:Γd->Nat->Sp}{tg:Expr}{p:Pos}{i j:Nat}{nx:Str}{fr:Bool}{st:Stmt}{s:SW}
variable {K:Γd}{c:Cn}{md:Md}{S:Hp}
theorem RVs.os:∀ (k:List (Option Int)),RVs K S (k.map oF) (k.map oV)
 | []=>rfl
 | some i :: k=>⟨_,_,rfl,rfl,RVs.os k⟩
 | none :: k=>⟨_,_,rfl,rfl,RVs.os k⟩
theorem c2x {a:Addr}{o:Obj}{ks:List (List (Option Int))}{us:List V}{S1:Hp}(hl:ks.length=us.length)(hp:(a,HO.frz o (.dT ((a2m ks).zip us)))∈c.pr):ItR K c md (Itk a o ((a2m ks).zip us)) (ks.map d2v) S1:=by
 intro i L σ S H I s
 have ha:=(I.prs _ hp).1
 have hz:((a2m ks).zip us).length=ks.length:=by rw[List.length_zip];simp[a2m];lia
 refine⟨λe=>⟨ha,?_⟩,λp ep=>?_⟩
 ·have:=List.getElem?_eq_none_iff.mp e
  rw[List.length_map] at this;lia
 ·rw[List.getElem?_map] at ep
  obtain⟨k,ek,rfl⟩:=Option.map_eq_some_iff.mp ep
  have hi:=(List.getElem?_eq_some_iff.mp ek).1
  refine⟨⟨ha,by lia⟩,λv H' ⟨eh,b,q,ev,eq,hb⟩=>?_⟩
  subst eh;subst ev
  have hq:q.1=k.map oK:=by
   obtain⟨q1,q2⟩:=q
   have:=(List.getElem?_zip_eq_some.mp eq).1
   rw[a2m,List.getElem?_map,ek] at this
   simpa using this.symm
  rw[hq,List.map_map] at hb
  have hb:H' b=some (.tup (k.map oV)):=by rw[hb];congr 2;exact List.map_congr_left λx _=>d2b x
  exact⟨_,(I.tup hb).2,λc md L σ J=>(J.tup hb).1,b,_,rfl,a0e,RVs.os k⟩
theorem d5o (G:Good X C n sp)(h:C.nm i nx=true)(m:a0j C.md i=.frz):FI X C C.md tg (.Name nx p) (b8y i):=PI.imp (c6r (a1w G h)) λσ H R ⟨c,L,S,Q0,I,h,k⟩=>by
 obtain⟨v,e,h⟩:=wpx h
 have e:=(a2f _ _ _).mp e
 obtain⟨l,e1,⟨o1,qs,us,e2,o2,o3⟩,o4⟩:=I.own i v (λz=>by rw[m] at z;cases z) e
 obtain⟨b,g1⟩:=I.fzm i _ m e
 obtain⟨ys,g2⟩:=I.fzp _ g1
 obtain⟨_,g3,_⟩:=I.fzs _ g1
 rw[e1] at g3;cases g3
 have g4:=(I.prs _ g2).1
 rw[o2] at g4;cases g4
 cases v with
 | dcn o ks vs =>
  cases o with
  | none=>exact h.elim
  | some o =>
   obtain⟨hl,rfl⟩:=itd e2
   have hlu:=o3.length
   exact⟨_,e1,_,_,rfl,.inr ⟨o,o2,k _ _ h _ _ S _ I (λ_ _ _ _ J=>J) rfl (c2x (by lia) g2) (Same.refl S)⟩⟩
 | _=>exact h.elim
theorem fs_thw (G:Good X C n sp)(m:a0j C.md j=.own)(hr:Good X (C.wmd (C.md.set j .frz)) n sp->FS X (C.wmd (C.md.set j .frz)) fr st s):FS X C fr st (d7o j s):=PS.imp (c6m (hr (G.wmd _))) λD σ H ⟨c,L,S,Q0,I,hh,k⟩=>by
 obtain⟨v,e,hh⟩:=wpx hh
 have e:=(a2f _ _ _).mp e
 have mi:a0j C.md j≠.imm:=λz=>by rw[m] at z;cases z
 obtain⟨l,e1,⟨o1,qs,us,e2,o2,o3⟩,o4⟩:=I.own j v mi e
 cases v with
 | dcn z ks vs =>
  cases z with
  | some o=>exact hh.elim
  | none =>
   obtain⟨hl,rfl⟩:=itd e2
   refine⟨l,_,o2,λo=>?_⟩
   have I1:=I.writeV (w:=.dcn (some o) ks vs) m e e1 (if_pos hl) o3
   have hi:=(List.getElem?_eq_some_iff.mp e).1
   obtain⟨I2,un⟩:=I1.frz m (List.getElem?_set_self hi) e1 a0e
   refine⟨_,_,S,_,I2,hh o,λfl L1 q σ1 S1 H1 J s1=>?_⟩
   cases fl with
   | next =>
    obtain⟨w,e5,q⟩:=wpx q
    have e5:=(a2f _ _ _).mp e5
    have J0:=un _ _ _ _ J
    obtain⟨_,g1,_⟩:=J.fzs (j,l) Γn
    have g2:=(J.prs (l,_) Γn).1
    obtain⟨l',f1,⟨p1,qs',us',p2,p3,p4⟩,_⟩:=J0.own j w mi e5
    rw[g1] at f1;cases f1
    cases w with
    | dcn z ks' vs' =>
     cases z with
     | none=>exact q.elim
     | some o' =>
      rw[g2] at p3
      obtain⟨hl',rfl⟩:=itd p2
      refine⟨_,g2,?_⟩
      have e6:=Option.some.inj p3
      injection e6 with e7 e8
      rw[e8]
      exact k .next _ q σ1 S1 _ (J0.writeV (w:=.dcn none ks' vs') m e5 g1 (if_pos hl') p4) s1
    | _=>exact q.elim
   | _=>exact q.elim
 | _=>exact hh.elim
end
theorem b8x {M:Model}{A:Around}{E:Value->Shared->Prop}{s:Shared}{a b:Value}{T id:String}{Q:Value->Shared->Prop}(ha:s.TypeIs a T)(hb:s.TypeIs b T)
  (hyes:typeLookup (.type T) (dunderI "add")=pure (some (.builtin id)))(hq:isSeqSlot (some (.builtin id))=true)(hfill:fillsNumberSlot (.type T) "add" = pure false)
  (hc:wpAny M A (call (.builtin id) [a,b]) Q E s):wpAny M A (inplaceOp .Add a b) Q E s:=by
 unfold inplaceOp
 refine Γg ?_
 have hfi:fillsInplaceSlot (.type T) "add" (Operator.Add == .Add)=pure false:=by
  unfold fillsInplaceSlot
  show (typeLookup (.type T) (dunderI "add") >>= λfi=>pure (fi.isSome && !isSeqSlot fi))=pure false
  rw[hyes]
  show (pure ((some (Value.builtin id)).isSome && !isSeqSlot (some (.builtin id))):Sem Bool)=_
  rw[hq];rfl
 have hsi:seqSlot? (.type T) (dunderI "add")=pure (some (.builtin id)):=by
  unfold seqSlot?
  rw[hyes]
  show (if (!isSeqSlot (some (Value.builtin id)))=true then _ else _)=_
  rw[hq];rfl
 refine Γa (wpAny_typeOf ha (Γa (wpAny_of_eq hfi ?_)))
 show wpAny M A (if false=true then _ else _) Q E s
 rw[if_neg Γk]
 refine Γa (wpAny_binaryOp1_none (nm:="add") ha hb hfill ?_)
 refine Γa (wpAny_of_eq hsi ?_)
 exact Γa (wpAny_rule hc)
def ipL:TIp:=λx y H Q=>∃ l b xs zs,x=.ref l/\y=.ref b/\H l=some (.lst xs)/\H b=some (.lst zs)/\xs.length+zs.length<=sizeLine/\Q (.ref l) (upd H l (.lst (xs++zs)))
section
variable {X:Cx}
theorem c7z:PIp X .Add ipL:=by
 intro pins s σ H x y v u Q I rx ry h
 obtain⟨l,b,xs,zs,rfl,rfl,hH,hB,hz,q⟩:=h
 cases rx
 cases ry
 obtain⟨z,its,n,r,hl,e⟩:=I.lstM hH
 obtain⟨z2,its2,n2,r2,hl2,e2⟩:=I.lstM hB
 have hsz:its.toArray.size+its2.toArray.size<=sizeLine:=by rw[List.size_toArray,List.size_toArray];lia
 have hlong:¬ (!its.toArray.isEmpty && Builtin.List.listTooLong (its.toArray.size+its2.toArray.size))=true:=by
  rw[b3x hsz,Bool.and_false]
  exact Γk
 refine b8x (T:="list") (id:="list.__iadd__") ⟨_,e,rfl⟩ ⟨_,e2,rfl⟩ F.slot_list_iadd.lookup (by nofun) noFill_list_add ?_
 refine call_meets F.slot_list_iadd ⟨_,e,rfl⟩ F.entry_list_iadd (F.args_list_iadd_2 _ _)
  (AutoSeq1.list___iadd___list_list_0 l its.toArray n b its2.toArray n2 hlong (by rw[List.size_toArray];lia) (by lia)) ⟨e,e2,?_⟩
 refine⟨.ref l,_,I.lset (its':=its++its2) hH e (by simp) (r.append r2) ?_,rfl,q⟩
 rw[List.length_append]
 lia
end
def c8i (x y:FV):Option FV:=(a7b x).bind λxs=>(a7b y).bind λys=>if xs.length+ys.length<=big then some (.lst (xs++ys)) else none
def c1o (i:Nat)(e:EW):SW:=λL Q=>wp (lk L i) λ_=>e L λy L1=>wp (lk L1 i) λx=>wp (c8i x y) λz=>Q .next (L1.set i (some z))
section
variable {X:Cx}{C:CC}{n:Nat}{sp:Γd->Nat->Sp}{fr:Bool}{a:Expr}{e:EW}{pos px:Pos}{i:Nat}{nx:Str}
theorem e0j (G:Good X C n sp)(ht:C.tn i nx=true)(m:a0j C.md i=.own)(h:FE X C a e):FS X C fr (.AugAssign (.Name nx px) .Add a pos) (c1o i e):=by
 have ht:=b2 ht
 obtain⟨l1,l2⟩:=G.loc ht.2
 refine PS.imp (c4m (X:=X.nox) G.nd' (G.ix ht.1) l1 h c7z l2) λD σ H ⟨c,L,S,Q0,I,h,k⟩=>?_
 have mi:a0j C.md i≠.imm:=λz=>by rw[m] at z;cases z
 obtain⟨v0,e0,h⟩:=wpx h
 obtain⟨l,e1,_⟩:=I.own i v0 mi ((a2f _ _ _).mp e0)
 refine⟨_,e1,c,L,S,_,I,h,λy L1 q u S1 H1 r1 I1 s1=>?_⟩
 obtain⟨x,e2,q2⟩:=wpx q
 obtain⟨z,e3,q3⟩:=wpx q2
 obtain⟨xs,e4,e5⟩:=bnd e3
 obtain⟨ys,e6,e7⟩:=bnd e5
 obtain⟨hb,rfl⟩:=itd e7
 cases a4g e4
 cases a4g e6
 have e2:=(a2f _ _ _).mp e2
 obtain⟨l',f1,⟨g1,ps,us,g2,g3,g4⟩,_⟩:=I1.own i _ mi e2
 rw[e1] at f1;cases f1
 cases g2
 obtain⟨b,ws,rfl,h1,h2⟩:=r1
 have hbl:=a1n
 have p1:=g4.length
 have p2:=h2.length
 refine⟨l,b,us,ws,rfl,rfl,g3,I1.sub _ _ h1,by lia,?_⟩
 have es:σ.set i (some (V.ref l))=σ:=by
  apply List.ext_getElem?
  intro j
  by_cases hj:j=i
  ·subst hj
   rw[List.getElem?_set_self (List.getElem?_eq_some_iff.mp e1).1,e1]
  ·rw[List.getElem?_set_ne (Ne.symm hj)]
 show D.nx (σ.set i (some (V.ref l))) _
 rw[es]
 exact k .next _ q3 σ S1 _ (I1.write m e2 e1 (g4.append h2)) s1
end
section
variable {X:Cx}{C:CC}{n:Nat}{sp:Γd->Nat->Sp}{fr:Bool}{a b:Expr}{ea eb:EW}{pos px py pt p2:Pos}{i j kt k2:Nat}{nx ny:Str}
end
section
variable (Q:FV->Prop)(L:a0c)
@[scoped simp ↓] theorem k_dgn (z:Option Obj)(ks:List (List (Option Int)))(vs ps:List FV):wp (c8r (.dcn z ks vs) (.tup ps)) Q↔wp (a2r ps) λk=>wp (a3a ks vs k) Q:=by
 show wp ((a2r ps).bind _) Q↔_;rw[a1v]
@[scoped simp ↓] theorem k_dpn (ks:List (List (Option Int)))(vs ps:List FV)(x:FV):wp (c9m (.dcn none ks vs) (.tup ps) x) Q↔wp (a2r ps) λk=>ks.length<big/\Q (.dcn none (a1x ks vs k x).1 (a1x ks vs k x).2):=by
 show wp ((a2r ps).bind _) Q↔_
 rw[a1v]
 cases a2r ps with
 | none=>exact Iff.rfl
 | some k =>
  show wp (if _ then _ else _) Q↔_
  split
  ·rename_i h;exact⟨λq=>⟨h,q⟩,λq=>q.2⟩
  ·rename_i h;exact⟨λq=>q.elim,λq=>absurd q.1 h⟩
@[scoped simp ↓] theorem opts_n (Q:List (Option Int)->Prop):wp (a2r []) Q=Q []:=propext Iff.rfl
@[scoped simp ↓] theorem opts_i (i:Int)(r:List FV)(Q:List (Option Int)->Prop):wp (a2r (.int i :: r)) Q↔wp (a2r r) λns=>Q (some i :: ns):=by
 show wp ((a2r r).map _) Q↔_;rw[a1p]
@[scoped simp ↓] theorem opts_o (r:List FV)(Q:List (Option Int)->Prop):wp (a2r (.non :: r)) Q↔wp (a2r r) λns=>Q (none :: ns):=by
 show wp ((a2r r).map _) Q↔_;rw[a1p]
@[scoped simp ↓] theorem d4x (k:Nat)(i e:EW)(Q:FFl->a0c->Prop):c6a k i e L Q=(wp (lk L k) λ_=>e L λx L1=>i L1 λj L2=>wp (lk L2 k) λy=>wp (c9m y j x) λz=>Q .next (L2.set k (some z))):=propext Iff.rfl
@[scoped simp ↓] theorem d4z (f:Int->Int->Int) (k:Nat)(i e:EW)(Q:FFl->a0c->Prop):c1n f k i e L Q=(wp (lk L k) λ_=>i L λj L1=>wp (lk L1 k) λv=>wp (c8r v j) λx0=>wp (a3l x0) λa=>e L1 λx L2=>wp (a3l x) λb=>wp (lk L2 k) λw=>wp (c9m w j (.int (f a b))) λz=>Q .next (L2.set k (some z))):=propext Iff.rfl
@[scoped simp ↓] theorem d5a (i:Nat)(e:EW)(Q:FFl->a0c->Prop):c1o i e L Q=(wp (lk L i) λ_=>e L λy L1=>wp (lk L1 i) λx=>wp (c8i x y) λz=>Q .next (L1.set i (some z))):=propext Iff.rfl
@[scoped simp ↓] theorem k_extL (xs ys:List FV):wp (c8i (.lst xs) (.lst ys)) Q↔xs.length+ys.length<=big/\Q (.lst (xs++ys)):=by
 show wp (if _ then _ else _) Q↔_
 split
 ·rename_i h;exact⟨λq=>⟨h,q⟩,λq=>q.2⟩
 ·rename_i h;exact⟨λq=>q.elim,λq=>absurd q.1 h⟩
@[scoped simp ↓] theorem d7n (j:Nat)(s:SW)(Q:FFl->a0c->Prop):d7o j s L Q=(wp (lk L j) λv=>match v with
 | .dcn none ks vs=>∀ o,s (L.set j (some (.dcn (some o) ks vs))) λfl L1=>match fl with
  | .next=>wp (lk L1 j) λw=>match w with
   | .dcn (some _) ks' vs'=>Q .next (L1.set j (some (.dcn none ks' vs')))
   | _=>False
  | _=>False
 | _=>False):=propext Iff.rfl
@[scoped simp ↓] theorem d3f (j:Nat)(Q:List FV->a0c->Prop):b8y j L Q=(wp (lk L j) λv=>match v with
 | .dcn (some _) ks _=>Q (ks.map d2v) L
 | _=>False):=propext Iff.rfl
@[scoped simp ↓] theorem d3p (n m:Nat)(it:AW)(tg:Tg)(t:BW)(ek ev:EW)(Q:FV->a0c->Prop):b4q n m it tg t ek ev L Q=(it L λxs L1=>L1.length=n/\xs.length<=big/\a5n n m tg t ek ev xs [] [] L1 λks vs L2=>Q (.dcn none ks vs) L2):=propext Iff.rfl
end
theorem b1j {α:Type}{tg:Tg}{n m:Nat}{ek ev:EW}{f:α->FV}{g:α->List (Option Int)}{h:α->FV}{Q:List (List (Option Int))->List FV->a0c->Prop}{L:a0c}:∀ (xs:List α)(ks:List (List (Option Int)))(vs:List FV),
  (∀ x∈xs,g x ∉ ks)->(xs.map g).Nodup ->
  (∀ x∈xs,∀ K:List (Option Int)->FV->a0c->Prop,K (g x) (h x) L->gW tg (f x) (L++Γj m none) λL1=>ek L1 λkx L3=>wp (a5t kx) λps=>wp (a2r ps) λk=>ev L3 λv L4=>K k v (L4.take n))->Q (ks++xs.map g) (vs++xs.map h) L->a5n n m tg a1r ek ev (xs.map f) ks vs L Q
 | [],ks,vs,_,_,_,E=>by
  show Q ks vs L
  simpa using E
 | x :: xs,ks,vs,hn,hd,B,E=>by
  refine B x Γn (λk v L'=>a5n n m tg a1r ek ev (xs.map f) (a1x ks vs k v).1 (a1x ks vs k v).2 L' Q) ?_
  have hk:=hn x Γn
  simp only[List.map_cons,List.nodup_cons] at hd
  have e:a1x ks vs (g x) (h x)=(ks++[g x],vs++[h x]):=by simp[a1x,hk]
  rw[e]
  refine b1j xs _ _ (λy hy hm=>?_) hd.2 (λy hy=>B y (Γh _ hy)) (by simpa using E)
  rcases List.mem_append.mp hm with hm|hm
  ·exact hn y (Γh _ hy) hm
  ·simp at hm
   exact hd.1 (by rw[<- hm];exact List.mem_map_of_mem hy)
section
variable {X:Cx}{C:CC}{n:Nat}{sp:Γd->Nat->Sp}{fr:Bool}{pos p px:Pos}{scope:Scope}{own:List Str}{kx vx tgx iter:Expr}{ifs:List Expr}{it:AW}{tg:Tg}{t:BW}{ek ev:EW}{nn m:Nat}{md':Md}{i:Nat}{nx:Str}
theorem c1f {gs:List Comprehension}{x:Str}{n:Nat}{env:Env}(hk:env.scope.kind=.function) :
  swapsWith (.DictComp kx vx gs scope p) (some (.Name x px)) n env=pure (decide (env.scope.names.lookup x=some .local) && (px.line == p.line) && !(scope.names.any λ(n,k)=>n == x && (k == .local || k == .cell))):=by
 have hb:env.blockKind=.function:=by unfold Env.blockKind;rw[hk];rfl
 have:(env.kindOf x == some .local)=decide (env.scope.names.lookup x=some .local):=by
  rw[Bool.eq_iff_iff];simp[Env.kindOf]
 unfold swapsWith
 simp only[hb,this]
 rfl
theorem b1i (h:CompOk X C n sp scope own kx tgx iter ifs nn m md' it tg t ek){σ:L2.St}{H:Hp}{Q:VK}:lf X.K C.md (b4q nn m it tg t ek ev) σ H Q->b6s (li X.K C.md md' it) (gT X.K tg) (lb X.K md' t) (lv X.K md' ek) (lv X.K md' ev) own.length σ H Q:=by
 have h0:=b2 h.st;have h1:=b2 h0.1;have h2:=b2 h1.1;have h3:=b2 h2.1;have h4:=b2 h3.1;have h5:=b2 h4.1;have h6:=b2 h5.1
 rintro⟨c,L,S,Q0,I,hh,k⟩
 refine⟨c,L,S,_,I,hh,λxs L1 hx J c' S1 H1 I1 un e0 hJ s1=>?_⟩
 obtain⟨hl,hb,hc⟩:=hx
 rw[de h5.2]
 refine c0d I1 hJ hl (de h4.2) h2.2 h1.2 hb hc λacc ks vs us L' S' H' hn q g1 g2 g3 g4 fr I' s'=>?_
 exact k _ L' q acc S' H' ⟨g1,vs,us,if_pos g3,g2,g4⟩ ⟨by rw[<- e0];exact fr.1,((un _ _ _ _ I1).fresh hn).2.1,λj w hm=>fr.2.2 j w (a6q h3.2 j hm)⟩ (un _ _ _ _ I') (s1.trans s')
theorem c3h (G:Good X C n sp)(ht:C.tn i nx=true)(hm:(decide (a0j C.md i=.own) && decide (i≠0))=true)(h:CompOk X C n sp scope own kx tgx iter ifs nn m md' it tg t ek)(hv:∀ X',Good X' (C.sub scope own md') n sp->FE X' (C.sub scope own md') vx ev):FS X C fr (.Assign [.Name nx px] (.DictComp kx vx [⟨tgx,iter,ifs,0⟩] scope p) pos) (a1t (b4q nn m it tg t ek ev) (.nm i)):=by
 have h0:=b2 h.st;have h1:=b2 h0.1;have h2:=b2 h1.1;have h3:=b2 h2.1;have h4:=b2 h3.1;have h5:=b2 h4.1;have h6:=b2 h5.1
 obtain⟨s1,s2⟩:=G.sub h6.1 md'
 have hu:X.A.units+1<cLine:=by have:=G.room.units;lia
 have blk:∀ fp D s H,PG (cxC X scope own fp D s H) tgx (gT X.K tg)/\PTs (cxC X scope own fp D s H) ifs (lb X.K md' t)/\PE (cxC X scope own fp D s H) kx (lv X.K md' ek)/\PE (cxC X scope own fp D s H) vx (lv X.K md' ev):=λfp D s H=>⟨h.tg _ (s2 fp D s H),h.ts _ (s2 fp D s H),h.el _ (s2 fp D s H),hv _ (s2 fp D s H)⟩
 have hsw:swapsWith (.DictComp kx vx [⟨tgx,iter,ifs,0⟩] scope p) (some (.Name nx px)) pos.line X.env=pure (swC C nx px scope p):=by rw[c1f G.kind,G.sc];rfl
 cases hb:swC C nx px scope p with
 | false =>
  rw[hb] at hsw
  exact b3g hm (λσ H Q=>b1i h) (c1y G ht hsw (b3v (X:=X) hu G.calm s1 h.it blk (b0v (nb h0.2))))
 | true =>
  rw[hb] at hsw
  have hlo:X.env.scope.names.lookup nx=some .local:=by
   rw[G.sc]
   have hb:=b2 hb
   exact de (b2 hb.1).1
  exact b3g hm (λσ H Q=>b1i h) (b2f hu G.calm s1 G.nd' (G.ix (b2 ht).1) hlo h.it blk hsw (b0v (nb h0.2)))
end
def c2q (v:FV):Option FV:=match v with
 | .dci ks _=>some (.int ks.length)
 | _=>none
section
variable {X:Cx}{C:CC}{n:Nat}{sp:Γd->Nat->Sp}{a:Expr}{ea:EW}{pos p:Pos}
theorem d4i:a1l X (.builtin "len") (Rc X.K c2q):=by
 rintro pins s σ H xs us Q I r ⟨S,v,x,z,rfl,hs,rv,e,k⟩
 cases v with
 | dci ks vs =>
  cases e
  obtain⟨a,us',rfl,hl,h1,h2⟩:=rv.dci hs
  have:=h2.length
  obtain⟨u,rfl,ru⟩:=a3e r
  cases ru
  have e:((a3k ks).zip us').length=ks.length:=by rw[List.length_zip];simp[a3k];lia
  exact e2x I (.inl h1) λt s' I'=>⟨.int _,H,I',⟨t,rfl⟩,by rw[e];exact k.old _ (λ_ z=>nomatch z) rfl⟩
 | _=>cases e
theorem e1a (G:Good X C n sp)(hg:C.gl (Γe "len")=true)(hs:a0k a=false)(ha:FR X C a ea):FE X C (.Call (.Name (Γe "len") p) [a] [] pos) (eUn c2q ea):=b0z d4i G (by decide) (by nofun) (by nofun) (by nofun) hg hs ha
end
@[scoped simp ↓] theorem k_lenD (ks:List Int)(vs:List FV)(Q:FV->Prop):wp (c2q (.dci ks vs)) Q=Q (.int ks.length):=propext Iff.rfl
def a8m (v:FV)(lo hi:Option Int):Option FV:=(a1z v).map λxs=>.lst (a6e xs lo hi)
def d6g (a:EW)(l h:OW):EW:=λL Q=>a L λx L1=>l L1 λi L2=>h L2 λj L3=>wp (a8m x i j) λz=>Q z L3
def RslL (K:Γd):V->Option Int->Option Int->Hp->VK->Prop:=λx lo hi H Q=>∃ S v z,Same S H/\RH K S H v x/\a8m v lo hi=some z/\NewOr K S H Q z
section
variable {X:Cx}{C:CC}{n:Nat}{sp:Γd->Nat->Sp}{a:Expr}{ea:EW}{pos:Pos}
theorem d8k:SlR X (RslL X.K):=by
 intro pins s σ H x v vl vu lo hi sl Q I rx hsl pl pu ⟨S,p,z,hs,rp,e,k⟩
 obtain⟨ps,e1,rfl⟩:=Option.map_eq_some_iff.mp e
 obtain⟨a,xs,rfl,ha,ra⟩:=rp.list hs e1
 exact b6y pins s σ H _ v vl vu lo hi sl Q I rx hsl pl pu ⟨a,xs,rfl,ha,λp hp=>k.lst _ _ p rfl (b3d ra) hp⟩
variable {xl xh:Option Expr}{wl wh:OW}{p2:Pos}
theorem fe_slL (ha:FE X C a ea)(hl:FO X C xl wl)(hh:FO X C xh wh):FE X C (.Subscript a (.Slice xl xh none p2) pos) (d6g ea wl wh):=PE.imp (b3u d8k ha hl hh) λσ H Q ⟨c,L,S,Q0,I,h,k⟩ =>
 ⟨c,L,S,_,I,h,λv L1 hv x S1 H1 r1 I1 s1=>⟨c,L1,S1,_,I1,hv,λo1 L2 h1 S2 H2 I2 s2=>⟨c,L2,S2,_,I2,h1,λo2 L3 h2 S3 H3 I3 s3=>by
  obtain⟨z,e,q⟩:=wpx h2
  exact⟨S3,v,z,I3.sub,.inl (r1.mono (s2.trans s3)),e,b2l I3 λx S' H' r I' s'=>k z L3 q x S' H' r I' (s1.trans (s2.trans (s3.trans s')))⟩⟩⟩⟩
end
@[scoped simp ↓] theorem e2q (a:EW)(l h:OW)(L:a0c)(Q:FV->a0c->Prop):d6g a l h L Q=(a L λx L1=>l L1 λi L2=>h L2 λj L3=>wp (a8m x i j) λz=>Q z L3):=propext Iff.rfl
@[scoped simp ↓] theorem k_slL (v:FV)(lo hi:Option Int)(Q:FV->Prop):wp (a8m v lo hi) Q↔wp (a1z v) λxs=>Q (.lst (a6e xs lo hi)):=a1p _ _ _
mutual
noncomputable def fla:FV->Bool
 | .non=>true
 | .bl _=>true
 | .int _=>true
 | .str _=>true
 | .shn _=>true
 | .scr _=>true
 | .tup xs=>flas xs
 | .lst _=>false
 | .dct _ _=>false
 | .dci _ _=>false
 | .dcz _ _ _=>false
 | .dcn _ _ _=>false
 | .obj _ _ _ _=>false
noncomputable def flas:List FV->Bool
 | []=>true
 | x :: xs=>fla x && flas xs
end
def d9d (v:FV):Bool:=match d1q v with
 | some ps=>flas ps
 | none=>false
def d5d:Md->a0c->Bool
 | _,[]=>true
 | ms,none :: L=>d5d ms.tail L
 | ms,some v :: L=>(if a0j ms 0=.imm then fla v else d9d v) && d5d ms.tail L
def nl (S:Hp):Hp:=λa=>match S a with
 | some (.lst _)=>none
 | o=>o
section
variable {K:Γd}{S S' H:Hp}
theorem d2i {a:Addr}{o:HO}(h:S a=some o)(n:∀ xs,o≠.lst xs):nl S a=some o:=by
 unfold nl
 split
 ·rename_i xs z;rw[h] at z;exact absurd (Option.some.inj z) (n xs)
 ·exact h
mutual
theorem RV.nl:∀ {p:FV}{v:V},fla p=true->RV K S p v->RV K (nl S) p v
 | .non,v,_,h=>h
 | .bl b,v,_,h=>h
 | .int i,v,_,h=>h
 | .str _,v,_,h=>h
 | .shn _,v,_,h=>h
 | .tup ps,v,n,⟨a,xs,e,h1,h2⟩=>⟨a,xs,e,d2i h1 (λ_ z=>nomatch z),RVs.nl n h2⟩
 | .lst ps,v,n,h=>by cases n
 | .dct ks vs,v,n,h=>by cases n
 | .dci ks vs,v,n,h=>by cases n
 | .dcz o ks vs,v,n,h=>by cases n
 | .dcn z ks vs,v,n,h=>by cases n
 | .obj _ _ _ _,v,n,h=>by cases n
 | .scr ns,v,_,⟨a,e,h⟩=>⟨a,e,h.elim (λ⟨o,h⟩=>.inl ⟨o,d2i h (λ_ z=>nomatch z)⟩) .inr⟩
theorem RVs.nl:∀ {ps:List FV}{vs:List V},flas ps=true->RVs K S ps vs->RVs K (nl S) ps vs
 | [],vs,_,h=>h
 | p :: ps,vs,n,⟨v,r,e,h1,h2⟩=>⟨v,r,e,RV.nl (b2 n).1 h1,RVs.nl (b2 n).2 h2⟩
end
variable {c:Cn}{md:Md}{L:a0c}{σ:L2.St}{j:Nat}
end
def sScope (md:Md)(r:SW):SW:=λL Q=>d5d md L=true/\r L λfl L'=>d5d md L'=true/\(match fl with|.ret v=>fla v=true|_=>True)/\Q fl L'
section
variable {X:Cx}{C:CC}{n:Nat}{sp:Γd->Nat->Sp}{fr:Bool}{st:Stmt}{sts:List Stmt}{s r:SW}{o:Expr}{e:EW}{pos p:Pos}{j:Nat}
open Classical in
end
mutual
noncomputable def D.ns:D->Bool
 | .non=>true
 | .bl _=>true
 | .int _=>true
 | .str _=>false
 | .tup xs=>D.nss xs
 | .lst xs=>D.nss xs
noncomputable def D.nss:List D->Bool
 | []=>true
 | x :: xs=>D.ns x && D.nss xs
end
theorem a5j {a b:Str}(ha:PyData.strOk a=true)(hb:PyData.strOk b=true):PyData.strOk (a++b)=true:=by
 show Array.all (a.cps++b.cps) _=true
 rw[Array.all_append]
 exact Bool.and_eq_true_iff.mpr ⟨ha,hb⟩
theorem b7w {s:Str}(hs:PyData.strOk s=true):∀ {ts:List Str},(∀ t∈ts,PyData.strOk t=true)->PyData.strOk (Str.join s ts)=true
 | [],_=>a3n ""
 | [a],h=>h a (by simp)
 | a :: b :: r,h=>by
  simp only[Str.join]
  exact a5j (a5j (h a (by simp)) hs) (b7w hs λt ht=>h t (by simp[List.mem_cons.mp ht]))
theorem b7x:∀ {ts:List Str}{k:Nat}{acc:Str},PyData.strOk acc=true->(∀ t∈ts,PyData.strOk t=true)->PyData.strOk (textFrom k acc ts)=true
 | [],k,acc,ha,_=>ha
 | t :: r,k,acc,ha,h=>by
  unfold textFrom
  refine b7x ?_ λx hx=>h x (by simp[hx])
  split
  ·exact a5j (a5j ha (a3n _)) (h t (by simp))
  ·exact a5j ha (h t (by simp))
mutual
theorem d0i:∀ d:D,d.ns=true->PyData.strOk (dPy d).shown=true
 | .non,_=>by simp only[dPy,PyData.shown];exact a3n _
 | .bl b,_=>by simp only[dPy,PyData.shown];split<;>exact a3n _
 | .int i,_=>by simp only[dPy,PyData.shown];exact a3n _
 | .str _,h=>by cases h
 | .tup xs,h=>by
  simp only[dPy,PyData.shown,tupleText]
  exact a5j (a5j (a3n _) (b7w (a3n _) (shn_oks xs h))) (a3n _)
 | .lst xs,h=>by
  simp only[dPy,PyData.shown,listText]
  exact a5j (b7x (a3n _) (shn_oks xs h)) (a3n _)
theorem shn_oks:∀ ds:List D,D.nss ds=true->∀ t∈PyData.shownAll (dPys ds),PyData.strOk t=true
 | [],_,t,ht=>by simp[dPys,PyData.shownAll] at ht
 | d :: ds,h,t,ht=>by
  simp only[dPys,PyData.shownAll] at ht
  have h:=b2 h
  rcases List.mem_cons.mp ht with rfl|ht
  ·exact d0i d h.1
  ·exact shn_oks ds h.2 t ht
end
open Classical in
def nePF (a b:FV):Option FV:=if ∃ i d,a=.tup [.int i,.shn d]/\b=a/\d.ns=true then some (.bl false) else none
section
variable {X:Cx}
variable {C:CC}{n:Nat}{sp:Γd->Nat->Sp}{a b:Expr}{ea eb:EW}{pos:Pos}
end
end Kq
end
section
namespace Kq
@[scoped simp ↓ high] theorem lk_1 (a0:Option FV)(v:FV)(L:a0c)(Q:FV->Prop):wp (lk (a0 :: some v :: L) 1) Q=Q v:=propext Iff.rfl
@[scoped simp ↓ high] theorem lk_2 (a0 a1:Option FV)(v:FV)(L:a0c)(Q:FV->Prop):wp (lk (a0 :: a1 :: some v :: L) 2) Q=Q v:=propext Iff.rfl
@[scoped simp ↓ high] theorem lk_3 (a0 a1 a2:Option FV)(v:FV)(L:a0c)(Q:FV->Prop):wp (lk (a0 :: a1 :: a2 :: some v :: L) 3) Q=Q v:=propext Iff.rfl
@[scoped simp ↓ high] theorem lk_4 (a0 a1 a2 a3:Option FV)(v:FV)(L:a0c)(Q:FV->Prop):wp (lk (a0 :: a1 :: a2 :: a3 :: some v :: L) 4) Q=Q v:=propext Iff.rfl
@[scoped simp ↓ high] theorem lk_5 (a0 a1 a2 a3 a4:Option FV)(v:FV)(L:a0c)(Q:FV->Prop):wp (lk (a0 :: a1 :: a2 :: a3 :: a4 :: some v :: L) 5) Q=Q v:=propext Iff.rfl
@[scoped simp ↓ high] theorem lk_6 (a0 a1 a2 a3 a4 a5:Option FV)(v:FV)(L:a0c)(Q:FV->Prop):wp (lk (a0 :: a1 :: a2 :: a3 :: a4 :: a5 :: some v :: L) 6) Q=Q v:=propext Iff.rfl
@[scoped simp ↓ high] theorem lk_7 (a0 a1 a2 a3 a4 a5 a6:Option FV)(v:FV)(L:a0c)(Q:FV->Prop):wp (lk (a0 :: a1 :: a2 :: a3 :: a4 :: a5 :: a6 :: some v :: L) 7) Q=Q v:=propext Iff.rfl
@[scoped simp ↓ high] theorem lk_8 (a0 a1 a2 a3 a4 a5 a6 a7:Option FV)(v:FV)(L:a0c)(Q:FV->Prop):wp (lk (a0 :: a1 :: a2 :: a3 :: a4 :: a5 :: a6 :: a7 :: some v :: L) 8) Q=Q v:=propext Iff.rfl
@[scoped simp ↓ high] theorem lk_9 (a0 a1 a2 a3 a4 a5 a6 a7 a8:Option FV)(v:FV)(L:a0c)(Q:FV->Prop):wp (lk (a0 :: a1 :: a2 :: a3 :: a4 :: a5 :: a6 :: a7 :: a8 :: some v :: L) 9) Q=Q v:=propext Iff.rfl
@[scoped simp ↓ high] theorem lk_10 (a0 a1 a2 a3 a4 a5 a6 a7 a8 a9:Option FV)(v:FV)(L:a0c)(Q:FV->Prop):wp (lk (a0 :: a1 :: a2 :: a3 :: a4 :: a5 :: a6 :: a7 :: a8 :: a9 :: some v :: L) 10) Q=Q v:=propext Iff.rfl
@[scoped simp ↓ high] theorem lk_12 (a0 a1 a2 a3 a4 a5 a6 a7 a8 a9 a10 a11:Option FV)(v:FV)(L:a0c)(Q:FV->Prop):wp (lk (a0 :: a1 :: a2 :: a3 :: a4 :: a5 :: a6 :: a7 :: a8 :: a9 :: a10 :: a11 :: some v :: L) 12) Q=Q v:=propext Iff.rfl
@[scoped simp ↓ high] theorem lk_13 (a0 a1 a2 a3 a4 a5 a6 a7 a8 a9 a10 a11 a12:Option FV)(v:FV)(L:a0c)(Q:FV->Prop):wp (lk (a0 :: a1 :: a2 :: a3 :: a4 :: a5 :: a6 :: a7 :: a8 :: a9 :: a10 :: a11 :: a12 :: some v :: L) 13) Q=Q v:=propext Iff.rfl
@[scoped simp ↓ high] theorem lk_14 (a0 a1 a2 a3 a4 a5 a6 a7 a8 a9 a10 a11 a12 a13:Option FV)(v:FV)(L:a0c)(Q:FV->Prop):wp (lk (a0 :: a1 :: a2 :: a3 :: a4 :: a5 :: a6 :: a7 :: a8 :: a9 :: a10 :: a11 :: a12 :: a13 :: some v :: L) 14) Q=Q v:=propext Iff.rfl
end Kq
end
section
namespace Kq
open PySem PySem.Spec PySem.Calls PyProof.Rows L2 PySem.W
structure CSp where
 c:Str
 a:Addr
 fl:List Str
 ms:List (Str×Addr)
def fnB (K:Frag)(f:Addr):Bool:=match K.lookup f with
 | some ⟨_,_,.func fd,_⟩=>codeIn K fd.code fd.qualname
 | _=>false
structure CF (K:Frag)(mg:Str->Option Value)(c:CSp):Prop where
 mg:mg c.c=some (.ref c.a)
 cl:Cls K c.a
 fl:∀ f∈c.fl,b1u K c.a f
 ms:∀ m∈c.ms,findIn K (.ref c.a) m.1=some (some (.ref m.2))/\isFn K (.ref m.2)=true/\keepIn K (.ref m.2)=true/\fnB K m.2=true
 mks:makesIn K c.a=true
 kp:keepIn K (.ref c.a)=true
structure Vw where
 f:Addr
 m:Str
 q:Str
 st:Stmt
end Kq
end
section
namespace Kq
open PySem PySem.Spec PyProof.Rows L2
structure Big (H:Hp)(a C dx:Addr)(fs:List (Str×V))(gs:List (Addr×List V)):Prop where
 at_:H a=some (.big C dx fs gs)
 dxo:H dx=some (.own a)
 gso:∀ g∈gs,H g.1=some (.own a)
 nd:(a :: dx :: gs.map (·.1)).Nodup
section
variable {X:Cx}{pins:List (Addr×Obj)}{σ:L2.St}{H:Hp}{s:Shared}{a C dx:Addr}{fs:List (Str×V)}{gs:List (Addr×List V)}
def putG (gs:List (Addr×List V))(l:Addr)(ys:List V):List (Addr×List V):=gs.map λg=>if g.1=l then (l,ys) else g
end
section
variable {X:Cx}{pins:List (Addr×Obj)}{σ:L2.St}{H:Hp}{s:Shared}{a Ca dx:Addr}{fs:List (Str×V)}{gs:List (Addr×List V)}
variable {i:Nat}{nx:Str}{p pos:Pos}{f:Str}
variable {CX:CXT}{k:Nat}{g:Addr}{fd:FuncData}{ps:List Str}{sp:Sp}{m:Str}{apos:Pos}{e:Expr}{es:List Expr}{t:TA}{E:XK}
variable {x:Str}
end
def vF:V->Option FV
 | .int i=>some (.int i)
 | .non=>some .non
 | _=>none
def vI:FV->Option V
 | .int i=>some (.int i)
 | .non=>some .non
 | _=>none
def fldF (Ca:Addr)(f:Str):FV->Option FV
 | .obj C _ fs _=>if C=Ca then (fs.lookup f).bind vF else none
 | _=>none
def lsA (fs:List (Str×V))(gs:List (Addr×List V))(f:Str):Option (Addr×List V):=match fs.lookup f with
 | some (.ref l)=>(gs.lookup l).map λys=>(l,ys)
 | _=>none
def lsF (Ca:Addr)(f:Str):FV->Option (List FV)
 | .obj C _ fs gs=>if C=Ca then (lsA fs gs f).bind λp=>a8y vF p.2 else none
 | _=>none
def appO (Ca:Addr)(f:Str)(u:V):FV->Option FV
 | .obj C dx fs gs=>if C=Ca then (lsA fs gs f).bind λp=>if p.2.length<big then some (.obj C dx fs (putG gs p.1 (p.2++[u]))) else none else none
 | _=>none
def setO (Ca:Addr)(f:Str) (k:Int)(u:V):FV->Option FV
 | .obj C dx fs gs=>if C=Ca then (lsA fs gs f).bind λp=>(ixN p.2.length k).map λj=>.obj C dx fs (putG gs p.1 (p.2.set j u)) else none
 | _=>none
def putO (Ca:Addr)(f:Str)(u:V):FV->Option FV
 | .obj C dx fs gs=>if C=Ca/\fs.length<1000 then some (.obj C dx (d8r f u fs) gs) else none
 | _=>none
def eFld (i:Nat)(Ca:Addr)(f:Str):EW:=λL Q=>wp (lk L i) λo=>wp (fldF Ca f o) λz=>Q z L
def eObjL (i:Nat)(Ca:Addr)(f:Str)(F:FV->Option FV):EW:=λL Q=>wp (lk L i) λo=>wp (lsF Ca f o) λxs=>wp (F (.lst xs)) λz=>(∀ ps,z≠.lst ps)/\Q z L
def e2s (i:Nat)(Ca:Addr)(f:Str)(e:EW):EW:=λL Q=>wp (lk L i) λo=>wp (lsF Ca f o) λ_=>e L λv L1=>wp (vI v) λu=>wp (lk L1 i) λo1=>o1=o/\wp (appO Ca f u o1) λo2=>Q .non (L1.set i (some o2))
def d7s (i:Nat)(Ca:Addr)(f:Str)(ek ev:EW):SW:=λL Q=>wp (lk L i) λo=>ev L λv L1=>wp (vI v) λu=>wp (lk L1 i) λo1=>o1=o/\wp (lsF Ca f o1) λ_=>ek L1 λw L2=>wp (a3l w) λk=>wp (lk L2 i) λo2=>o2=o/\wp (setO Ca f k u o2) λo3=>Q .next (L2.set i (some o3))
def d7u (i:Nat)(Ca:Addr)(f:Str)(e:EW):SW:=λL Q=>e L λv L1=>wp (vI v) λu=>wp (lk L1 i) λo=>wp (putO Ca f u o) λo1=>Q .next (L1.set i (some o1))
def d7v (i:Nat)(Ca:Addr)(f:Str)(g:Int->Int->Int)(e:EW):SW:=λL Q=>wp (lk L i) λo=>wp (fldF Ca f o) λz=>e L λw L1=>wp (lk L1 i) λo1=>o1=o/\wp (a3l z) λa=>wp (a3l w) λb=>wp (putO Ca f (.int (g a b)) o1) λo2=>Q .next (L1.set i (some o2))
def newO (Ca:Addr)(f:Str)(Q:FV->Prop):FV->Prop
 | .obj C dx fs gs=>C=Ca/\fs.length<1000/\∀ p,(∀ g∈gs,g.1≠p)->Q (.obj C dx (d8r f (.ref p) fs) ((p,[]) :: gs))
 | _=>False
def d7t (i:Nat)(Ca:Addr)(f:Str):SW:=λL Q=>wp (lk L i) λo=>newO Ca f (λo1=>Q .next (L.set i (some o1))) o
def isO (Ca:Addr)(m:Str):FV->Prop
 | .obj C _ fs _=>C=Ca/\fs.lookup m=none
 | _=>False
def eMethO (call:CW) (f i:Nat)(Ca:Addr)(m:Str)(as:AW):EW:=λL Q=>wp (lk L i) λo=>isO Ca m o/\a0s call f i as L Q
def eMake (call:CW) (f:Nat)(Ca:Addr)(as:AW):EW:=λL Q=>as L λxs L1=>∀ dx,call f (.obj Ca dx [] [] :: xs) λz=>z.1=.non/\Q z.2 L1
section
end
theorem RV.vF {K:Γd}{S:Hp}{v:V}{z:FV}(h:Kq.vF v=some z):RV K S z v:=by
 cases v<;>cases h<;>rfl
theorem RV.vI {K:Γd}{S:Hp}{z:FV}{u x:V}(h:Kq.vI z=some u)(r:RV K S z x):x=u:=by
 cases z<;>cases h
 ·exact r
 ·exact r
section
variable {X:Cx}{C:CC}{n:Nat}{sp:Γd->Nat->Sp}{fr:Bool}{a b:Expr}{e ea eb:EW}{pos p px p2 apos:Pos}{i f:Nat}{nx fl:Str}{Ca:Addr}
variable {K:Γd}{c:Cn}{md:Md}{L:a0c}{σ:L2.St}{S H:Hp}
end
section
variable {X:Cx}{C:CC}{n:Nat}{sp:Γd->Nat->Sp}{fr:Bool}{a b:Expr}{e ea eb:EW}{pos p px p2 apos cpos:Pos}{i k:Nat}{nx fl:Str}{Ca:Addr}{xs:List Expr}{as:AW}{call:CW}{m cn:Str}
variable {K:Γd}{c:Cn}{md:Md}{L:a0c}{σ:L2.St}{S H:Hp}
end
section
variable {X:Cx}{C:CC}{n:Nat}{sp:Γd->Nat->Sp}{pos p apos:Pos}{i f:Nat}{nx:Str}{Ca:Addr}{a:Expr}{xs:List Expr}{as:AW}{call:CW}{m cn:Str}
end
def sNev:SW:=λ_ _=>False
def bFldL (i:Nat)(Ca:Addr)(f:Str):BW:=λL Q=>wp (lk L i) λo=>wp (lsF Ca f o) λxs=>Q (!xs.isEmpty) L
@[scoped simp ↓] theorem d7x (L:a0c)(Q:FFl->a0c->Prop):sNev L Q=False:=rfl
section
variable {X:Cx}{C:CC}{n:Nat}{sp:Γd->Nat->Sp}{fr:Bool}{i:Nat}{nx fl:Str}{p pos:Pos}{Ca:Addr}{a:Expr}{ta:TE}
end
abbrev NG:=Addr×List V×List FV
def refs (gs:List NG):List V:=gs.map λg=>V.ref g.1
def prG (gs:List NG):List (Addr×HO):=gs.map λg=>(g.1,HO.lst g.2.1)
def cN (c:Cn)(acc:Addr)(gs:List NG):Cn:={ c with pr:=(acc,.lst (refs gs)) :: (prG gs++c.pr) }
section
variable {K:Γd}{c:Cn}{md:Md}{L:a0c}{σ:L2.St}{S H:Hp}{j:Nat}{acc:Addr}{gs:List NG}
structure NI (K:Γd)(c:Cn)(md:Md)(acc:Addr)(gs:List NG)(L:a0c)(σ:L2.St)(S H:Hp):Prop where
 I:Iv K (cN c acc gs) md L σ S H
 r:∀ g∈gs,RVs K S g.2.2 g.2.1
 nd:(acc :: gs.map (·.1)).Nodup
 h0:∀ b∈acc :: gs.map (·.1),c.H0 b=none/\∀ p∈c.pr,p.1≠b
 hz:∀ p∈c.fz,∃ o,(p.2,o)∈c.pr
end
def eIsL (e:EW):EW:=λL Q=>e L λv L1=>∃ ps,v=.lst ps/\Q v L1
def c7l:List FV->List (List FV)
 | []=>[]
 | .lst ps :: r=>ps :: c7l r
 | _ :: r=>[] :: c7l r
def d2j (tg:Tg)(ix a:EW):List FV->List (List FV)->a0c->(List (List FV)->a0c->Prop)->Prop
 | [],pss,L,Q=>Q pss L
 | z :: zs,pss,L,Q=>gW tg z L λL1=>ix L1 λi L2=>∃ (k:Nat)(ps:List FV),i=.int k/\pss[k]?=some ps/\ps.length<big/\a L2 λv L3=>d2j tg ix a zs (pss.set k (ps++[v])) L3 Q
def sNest (j n m:Nat)(it:AW)(tg:Tg)(t:BW)(e:EW)(it2:AW)(tg2:Tg)(ix a:EW):SW:=λL Q=>it L λxs L1=>L1.length=n/\xs.length<=big/\a4u n m tg t (eIsL e) xs [] L1 λys L2 =>
 it2 (L2.set j none) λzs L3=>d2j tg2 ix a zs (c7l ys) L3 λpss L4=>Q .next (L4.set j (some (.lst (pss.map .lst))))
section
variable {K:Γd}{c:Cn}{md:Md}{L:a0c}{σ:L2.St}{S H:Hp}{j:Nat}{acc:Addr}{gs:List NG}
end
section
variable {X:Cx}{C:CC}{n:Nat}{sp:Γd->Nat->Sp}{fr:Bool}{scope:Scope}{own:List Str}{elt tgx iter:Expr}{ifs:List Expr}{nn m:Nat}{it it2:AW}{tg tg2:Tg}{t:BW}{e ix a:EW}{i j:Nat}{nx:Str}{p px pos:Pos}
structure CompOkG (X:Cx)(C:CC) (n:Nat)(sp:Γd->Nat->Sp)(scope:Scope)(own:List Str)(elt tgx iter:Expr)(ifs:List Expr) (nn m:Nat)(it:AW)(tg:Tg)(t:BW)(e:EW):Prop where
 st:(C.scOk scope own && decide (C.N.length=nn) && decide (own.length=m) && decide (C.md.length<=nn) && a3m C.md tg && a7c nn tg && !b5m iter)=true
 it:FIv X C tgx iter it
 tg:∀ X',Good X' (C.sub scope own C.md) n sp->FG X' tgx tg
 ts:∀ X',Good X' (C.sub scope own C.md) n sp->FTs X' (C.sub scope own C.md) ifs t
 el:∀ X',Good X' (C.sub scope own C.md) n sp->FF X' (C.sub scope own C.md) elt e
end
end Kq
end
section
namespace Kq
open PySem PySem.Spec PyProof.Rows L2 PySem.W
def itN (m:Nat):Nat->Nat->Nat
 | 0,i=>i
 | k+1,i=>itN m k ((i*5+1) % m)
theorem a9d (m:Nat):∀ a b i,itN m (a+b) i=itN m b (itN m a i)
 | 0,b,i=>by rw[Nat.zero_add];rfl
 | a+1,b,i=>by rw[show a+1+b=(a+b)+1 by lia];exact a9d m a b _
def d9f (m:Nat):Nat->Nat->List Nat
 | 0,_=>[]
 | k+1,i=>i :: d9f m k ((i*5+1) % m)
theorem a8r {m j:Nat}:∀ k i,j∈d9f m k i->∃ n,n<k/\itN m n i=j
 | 0,i,h=>absurd h List.not_mem_nil
 | k+1,i,h=>by
  rcases List.mem_cons.mp h with z|z
  ·exact⟨0,by lia,z.symm⟩
  ·obtain⟨n,h1,h2⟩:=a8r k _ z
   exact⟨n+1,by lia,h2⟩
def d9e (m:Nat):Bool:=(List.range m).all (λj=>(d9f m m 0).contains j) && itN m m 0 == 0
def Mk4 (mask:Nat):Prop:=mask=7 ∨ mask=31 ∨ mask=127 ∨ mask=511
theorem d1r {mask:Nat}(h:Mk4 mask):d9e (mask+1)=true:=by
 rcases h with rfl|rfl|rfl|rfl<;>nofun
theorem c7b {mask:Nat}(h:Mk4 mask){i j:Nat}(hi:i<mask+1)(hj:j<mask+1):∃ k,k<mask+1/\itN (mask+1) k i=j:=by
 obtain⟨h1,h2⟩:=b2 (d1r h)
 have h2:itN (mask+1) (mask+1) 0=0:=by simpa using h2
 obtain⟨a,ha,ea⟩:=a8r _ _ (by simpa using List.all_eq_true.mp h1 i (List.mem_range.mpr hi))
 obtain⟨b,hb,eb⟩:=a8r _ _ (by simpa using List.all_eq_true.mp h1 j (List.mem_range.mpr hj))
 by_cases z:a<=b
 ·refine⟨b-a,by lia,?_⟩
  rw[<- ea,<- a9d,show a+(b-a)=b by lia];exact eb
 ·refine⟨mask+1-a+b,by lia,?_⟩
  rw[<- ea,<- a9d,show a+(mask+1-a+b)=(mask+1)+b by lia,a9d,h2];exact eb
def a4e (mask:Nat):Nat->Nat×Nat->Nat×Nat
 | 0,x=>x
 | k+1,x=>a4e mask k (SetTable.leap mask x.1 x.2)
theorem b0r (mask:Nat):∀ a b x,a4e mask (a+b) x=a4e mask b (a4e mask a x)
 | 0,b,x=>by rw[Nat.zero_add];rfl
 | a+1,b,x=>by rw[show a+1+b=(a+b)+1 by lia];exact b0r mask a b _
theorem b0p (mask:Nat):∀ k x,(a4e mask k x).2=x.2 / 32 ^ k
 | 0,x=>by simp[a4e]
 | k+1,x=>by
  rw[a4e,b0p mask k]
  show x.2 / 32 / 32 ^ k=_
  rw[Nat.div_div_eq_div_mul,<- Nat.pow_succ']
theorem b0q (mask:Nat):∀ k x,x.1<mask+1->(a4e mask k x).1<mask+1
 | 0,x,h=>h
 | k+1,x,h=>b0q mask k _ (Nat.mod_lt _ (Nat.succ_pos _))
theorem a7w (mask:Nat):∀ k i,a4e mask k (i,0)=(itN (mask+1) k i,0)
 | 0,i=>rfl
 | k+1,i=>by
  rw[a4e,itN,show SetTable.leap mask i 0=((i*5+1) % (mask+1),0) by simp[SetTable.leap]]
  exact a7w mask k _
theorem b8h {mask:Nat}(h:Mk4 mask){i p e:Nat}(hi:i<mask+1)(hp:p<2 ^ 64)(he:e<mask+1):∃ k,k<=mask+13/\(a4e mask k (i,p)).1=e:=by
 have h1:(a4e mask 13 (i,p)).2=0:=by
  rw[b0p]
  exact Nat.div_eq_of_lt (Nat.lt_of_lt_of_le hp (by decide))
 have h2:=b0q mask 13 (i,p) hi
 obtain⟨k,hk,ek⟩:=c7b h h2 he
 refine⟨13+k,by lia,?_⟩
 rw[b0r,show a4e mask 13 (i,p)=((a4e mask 13 (i,p)).1,0) by rw[<- h1],a7w]
 exact ek
theorem c0m (h:Int):SetTable.bits h<2 ^ 64:=by
 unfold SetTable.bits
 have:=Int.emod_lt_of_pos h (show (0:Int)<2 ^ 64 by decide)
 have:=Int.emod_nonneg h (show (2 ^ 64:Int)≠0 by decide)
 lia
def a2z (t:SetTable):Nat->SetTable.Probe->SetTable.Probe
 | 0,p=>p
 | k+1,p=>a2z t k (t.advance p)
theorem a4d (t:SetTable):∀ a b p,a2z t (a+b) p=a2z t b (a2z t a p)
 | 0,b,p=>by rw[Nat.zero_add];rfl
 | a+1,b,p=>by rw[show a+1+b=(a+b)+1 by lia];exact a4d t a b _
def prb (t:SetTable)(x:Nat×Nat) (d:Option Nat):SetTable.Probe:={ j:=x.1,more:=SetTable.runEnd t.mask x.1-x.1,i:=x.1,perturb:=x.2,dummy:=d }
theorem b3i (t:SetTable):∀ (r:Nat)(p:SetTable.Probe),p.more=r->a2z t (r+1) p=prb t (SetTable.leap t.mask p.i p.perturb) p.dummy
 | 0,p,h=>by
  show t.advance p=_
  unfold SetTable.advance
  rw[if_neg (by lia)]
  rfl
 | r+1,p,h=>by
  show a2z t (r+1) (t.advance p)=_
  have e:t.advance p = { p with j:=p.j+1,more:=p.more-1 }:=by
   unfold SetTable.advance
   rw[if_pos (by lia)]
  rw[e]
  exact b3i t r _ (by show p.more-1=r;lia)
theorem d0k (mask i:Nat):SetTable.runEnd mask i-i<=9:=by
 unfold SetTable.runEnd
 split<;>lia
theorem c5l (t:SetTable):∀ (k:Nat)(x:Nat×Nat) (d:Option Nat),∃ n,n<=10*k/\a2z t n (prb t x d)=prb t (a4e t.mask k x) d
 | 0,x,d=>⟨0,by lia,rfl⟩
 | k+1,x,d=>by
  have h1:=b3i t _ (prb t x d) rfl
  have h2:=d0k t.mask x.1
  obtain⟨n,h3,h4⟩:=c5l t k (SetTable.leap t.mask x.1 x.2) d
  refine⟨(prb t x d).more+1+n,?_,?_⟩
  ·show SetTable.runEnd t.mask x.1-x.1+1+n<=_
   lia
  ·rw[a4d,h1]
   exact h4
theorem a7a (t:SetTable):∀ n p,(a2z t n p).dummy=p.dummy
 | 0,p=>rfl
 | n+1,p=>by
  rw[a2z,a7a t n]
  unfold SetTable.advance
  split<;>rfl
theorem c0u {t:SetTable}(hm:Mk4 t.mask) (h:Int){e:Nat}(he:e<t.mask+1):∃ n,n<=10*(t.mask+13)/\(a2z t n (t.probeStart h)).j=e:=by
 obtain⟨k,hk,ek⟩:=b8h hm (i:=SetTable.bits h % (t.mask+1)) (Nat.mod_lt _ (Nat.succ_pos _)) (c0m h) he
 obtain⟨n,hn,en⟩:=c5l t k (SetTable.bits h % (t.mask+1),SetTable.bits h) none
 refine⟨n,by lia,?_⟩
 have:t.probeStart h=prb t (SetTable.bits h % (t.mask+1),SetTable.bits h) none:=rfl
 rw[this,en]
 exact ek
theorem a7m {t:SetTable}(hd:t.dummies = #[]) (j:Nat):t.slot j≠.dummy:=λq=>by
 unfold SetTable.slot at q
 rw[hd,b4k] at q
 dsimp only at q
 by_cases z:(t.place[SetTable.below t.place j]? == some j)=true
 ·rw[if_pos z] at q;exact nomatch q
 ·rw[if_neg z,if_neg (by simp)] at q;exact nomatch q
def pth (t:SetTable) (h:Int) (n:Nat):Nat:=(a2z t n (t.probeStart h)).j
theorem b4y {t t':SetTable}(e:t.mask=t'.mask):∀ n p,a2z t n p=a2z t' n p
 | 0,p=>rfl
 | n+1,p=>by
  rw[a2z,a2z,show t.advance p=t'.advance p by unfold SetTable.advance;rw[e]]
  exact b4y e n _
theorem b3q {t t':SetTable}(e:t.mask=t'.mask) (h:Int) (n:Nat):pth t h n=pth t' h n:=by
 unfold pth
 rw[b4y e,show t.probeStart h=t'.probeStart h by unfold SetTable.probeStart;rw[e]]
def Pth (t:SetTable)(occ:Nat->Prop) (h:Int) (j:Nat):Prop:=∃ n,pth t h n=j/\∀ n',n'<n->occ (pth t h n')
theorem Pth.mono {t t':SetTable}{occ occ':Nat->Prop}{h:Int}{j:Nat}(x:Pth t occ h j)(e:t.mask=t'.mask)(k:∀ x,occ x->occ' x):Pth t' occ' h j:=by
 obtain⟨n,h1,h2⟩:=x
 exact⟨n,by rw[<- b3q e];exact h1,λn' hn=>by rw[<- b3q e];exact k _ (h2 n' hn)⟩
theorem a6m {t:SetTable}(hd:t.dummies = #[]){f:Nat->Int}{h:Int}:∀ (n fuel:Nat)(p:SetTable.Probe),n<fuel->p.dummy=none->t.slot (a2z t n p).j=.empty ->
  (∃ k,SetTable.probe.go t f h fuel p=some (.empty (a2z t k p).j none)/\t.slot (a2z t k p).j=.empty/\∀ k',k'<k->∃ i,t.slot (a2z t k' p).j=.live i/\f i≠h) ∨ ∃ i k,SetTable.probe.go t f h fuel p=some (.candidate (a2z t k p).j i (a2z t (k+1) p))/\t.slot (a2z t k p).j=.live i/\k<n/\∀ k',k'<k->∃ i,t.slot (a2z t k' p).j=.live i/\f i≠h
 | n,0,p,hf,_,_=>absurd hf (Nat.not_lt_zero _)
 | n,fuel+1,p,hf,hp,he=>by
  unfold SetTable.probe.go
  have ad:(t.advance p).dummy=none:=(a7a t 1 p).trans hp
  cases q:t.slot p.j with
  | empty=>exact .inl ⟨0,by rw[hp];rfl,q,λk' h=>absurd h (Nat.not_lt_zero _)⟩
  | dummy=>exact absurd q (a7m hd _)
  | live i =>
   cases n with
   | zero=>rw[show (a2z t 0 p).j=p.j from rfl,q] at he;cases he
   | succ n =>
    dsimp only
    split
    ·exact .inr ⟨i,0,rfl,q,by lia,λk' h=>absurd h (Nat.not_lt_zero _)⟩
    ·rename_i ne
     have back:∀ {k:Nat},(∀ k',k'<k->∃ i,t.slot (a2z t k' (t.advance p)).j=.live i/\f i≠h)->∀ k',k'<k+1->∃ i,t.slot (a2z t k' p).j=.live i/\f i≠h:=λe k' hk=>by
      cases k' with
      | zero=>exact⟨i,q,λz=>ne (by rw[z];simp)⟩
      | succ k'=>exact e k' (by lia)
     rcases a6m (f:=f) (h:=h) hd n fuel (t.advance p) (by lia) ad he with⟨k,e1,e2,e3⟩|⟨i',k,e1,e2,e3,e4⟩
     ·exact .inl ⟨k+1,e1,e2,back e3⟩
     ·exact .inr ⟨i',k+1,e1,e2,by lia,back e4⟩
structure Owns (mask:Nat)(ow:Array (Option Nat)) (k:Nat):Prop where
 sz:ow.size=mask+1
 lt:∀ j i:Nat,ow[j]?=some (some i)->i<k
 on:∀ i,i<k->∃ j:Nat,ow[j]?=some (some i)
 inj:∀ j j' i:Nat,ow[j]?=some (some i)->ow[j']?=some (some i)->j=j'
theorem Owns.free {mask:Nat}{ow:Array (Option Nat)}{k:Nat}(h:Owns mask ow k)(hk:k<mask+1):∃ e:Nat,e<mask+1/\ow[e]?=some none:=by
 refine Classical.byContradiction λz=>?_
 have full:∀ j:Nat,j<mask+1->∃ i,ow[j]?=some (some i):=λj hj=>by
  cases e:ow[j]? with
  | none=>rw[Array.getElem?_eq_none_iff,h.sz] at e;lia
  | some o =>
   cases o with
   | none=>exact absurd ⟨j,hj,e⟩ z
   | some i=>exact⟨i,rfl⟩
 have nd:((List.range (mask+1)).map λj=>((ow[j]?).getD none).getD 0).Nodup:=by
  refine List.pairwise_map.mpr (List.nodup_range.imp_of_mem λ{a b} ha hb ne e=>ne ?_)
  obtain⟨i,ei⟩:=full a (List.mem_range.mp ha)
  obtain⟨i',ei'⟩:=full b (List.mem_range.mp hb)
  rw[ei,ei'] at e
  have e:i=i':=e
  subst e
  exact h.inj a b i ei ei'
 have:=nd.length_le_of_subset (l₂:=List.range k) λx hx=>by
  obtain⟨j,hj,e⟩:=List.mem_map.mp hx
  obtain⟨i,ei⟩:=full j (List.mem_range.mp hj)
  rw[ei] at e
  have e:i=x:=e
  subst e
  exact List.mem_range.mpr (h.lt j i ei)
 simp at this
 lia
theorem Owns.put {mask:Nat}{ow:Array (Option Nat)}{k j:Nat}(h:Owns mask ow k)(hj:ow[j]?=some none):Owns mask (ow.setIfInBounds j (some k)) (k+1):=by
 have jl:j<ow.size:=(Array.getElem?_eq_some_iff.mp hj).1
 have look:∀ x:Nat,(ow.setIfInBounds j (some k))[x]?=if j=x then some (some k) else ow[x]?:=λx=>by
  rw[Array.getElem?_setIfInBounds]
  by_cases z:j=x
  ·rw[if_pos z,if_pos z,if_pos jl]
  ·rw[if_neg z,if_neg z]
 refine⟨by rw[Array.size_setIfInBounds];exact h.sz,λx i e=>?_,λi hi=>?_,λx y i e1 e2=>?_⟩
 ·rw[look] at e
  split at e
  ·cases e;lia
  ·have:=h.lt x i e;lia
 ·by_cases z:i=k
  ·exact⟨j,by rw[look,if_pos rfl,z]⟩
  ·obtain⟨x,ex⟩:=h.on i (by lia)
   refine⟨x,?_⟩
   rw[look,if_neg λq=>by rw[<- q,hj] at ex;cases ex]
   exact ex
 ·rw[look] at e1 e2
  split at e1
  ·split at e2
   ·rename_i a b;exact a.symm.trans b
   ·cases e1;have:=h.lt y k e2;lia
  ·split at e2
   ·cases e2;have:=h.lt x k e1;lia
   ·exact h.inj x y i e1 e2
theorem c5m (t:SetTable):∀ n p,n<=p.more->(a2z t n p).j=p.j+n
 | 0,p,_=>rfl
 | n+1,p,h=>by
  have e:t.advance p = { p with j:=p.j+1,more:=p.more-1 }:=by
   unfold SetTable.advance
   rw[if_pos (by lia)]
  rw[a2z,e,c5m t n _ (by show n<=p.more-1;lia)]
  show p.j+1+n=_
  lia
def Occ (ow:Array (Option Nat)) (x:Nat):Prop:=∃ i,ow[x]?=some (some i)
theorem b0y {t:SetTable}{ow:Array (Option Nat)}{e:Nat}(hs:ow.size=t.mask+1)(he:ow[e]?=some none):∀ (fuel i p:Nat),i<t.mask+1->(∃ k,k<fuel/\(a4e t.mask k (i,p)).1=e)->∃ j,SetTable.layClean.free t.mask ow fuel i p=some j/\ow[j]?=some none/\∃ n,(a2z t n (prb t (i,p) none)).j=j/\∀ n',n'<n->Occ ow (a2z t n' (prb t (i,p) none)).j
 | 0,i,p,_,⟨k,hk,_⟩=>absurd hk (Nat.not_lt_zero _)
 | fuel+1,i,p,hi,⟨k,hk,ek⟩=>by
  unfold SetTable.layClean.free
  have re:SetTable.runEnd t.mask i<=t.mask/\i<=SetTable.runEnd t.mask i:=by unfold SetTable.runEnd;split<;>lia
  have occ:∀ x,x<=SetTable.runEnd t.mask i-i->¬ (ow.getD (i+x) (some 0)).isNone=true->Occ ow (i+x):=λx hx h=>by
   rw[Array.getD_eq_getD_getElem?,Array.getElem?_eq_getElem (show i+x<ow.size by lia)] at h
   cases g:ow[i+x]'(by lia) with
   | none=>rw[g] at h;exact absurd rfl h
   | some y=>exact⟨y,by rw[Array.getElem?_eq_getElem (by lia),g]⟩
  have ai:∀ x,x<=SetTable.runEnd t.mask i-i->(a2z t x (prb t (i,p) none)).j=i+x:=λx hx=>c5m t x _ hx
  cases q:(List.range (SetTable.runEnd t.mask i+1-i)).find? λk=>(ow.getD (i+k) (some 0)).isNone with
  | some x =>
   have hx:x<SetTable.runEnd t.mask i+1-i:=List.mem_range.mp (List.mem_of_find?_eq_some q)
   refine⟨i+x,rfl,?_,x,ai x (by lia),λn' hn=>?_⟩
   ·have:=List.find?_some q
    rw[Array.getD_eq_getD_getElem?] at this
    cases g:ow[i+x]? with
    | none=>rw[g] at this;cases this
    | some o =>
     rw[g] at this
     cases o with
     | none=>rfl
     | some y=>cases this
   ·rw[ai n' (by lia)]
    refine occ n' (by lia) λz=>?_
    obtain⟨as,bs,e1,e2⟩:=(List.find?_eq_some_iff_append.mp q).2
    have hl:as.length=x:=by
     have h1:=congrArg (·[as.length]?) e1
     have hl2:=congrArg List.length e1
     simp at hl2
     rw[List.getElem?_range (by lia)] at h1
     simpa using h1
    have:n'∈as:=by
     have h1:=congrArg (·[n']?) e1
     rw[List.getElem?_range (by lia),List.getElem?_append_left (by lia)] at h1
     exact List.mem_of_getElem? h1.symm
    have:=e2 n' this
    rw[z] at this
    cases this
  | none =>
   have h0:=List.find?_eq_none.mp q
   cases k with
   | zero =>
    exfalso
    have ek:i=e:=ek
    have h0:=h0 0 (List.mem_range.mpr (by lia))
    rw[Nat.add_zero,Array.getD_eq_getD_getElem?,ek,he] at h0
    exact h0 rfl
   | succ k =>
    obtain⟨j,f1,f2,n,f3,f4⟩:=b0y hs he fuel _ _ (show (SetTable.leap t.mask i p).1<t.mask+1 from Nat.mod_lt _ (Nat.succ_pos _)) ⟨k,by lia,ek⟩
    have ar:=b3i t _ (prb t (i,p) none) rfl
    refine⟨j,f1,f2,(prb t (i,p) none).more+1+n,by rw[a4d,ar];exact f3,λn' hn=>?_⟩
    have hm:(prb t (i,p) none).more=SetTable.runEnd t.mask i-i:=rfl
    by_cases z:n'<=SetTable.runEnd t.mask i-i
    ·rw[ai n' z]
     exact occ n' z (h0 n' (List.mem_range.mpr (by lia)))
    ·have:=f4 (n'-((prb t (i,p) none).more+1)) (by lia)
     rw[show n'=(prb t (i,p) none).more+1+(n'-((prb t (i,p) none).more+1)) by lia,a4d,ar]
     exact this
def Owp (t:SetTable)(ow:Array (Option Nat))(hs:List Int):Prop:=∀ j i:Nat,ow[j]?=some (some i)->∃ h,hs[i]?=some h/\Pth t (Occ ow) h j
theorem b0x {t:SetTable}(hm:Mk4 t.mask):∀ (hs ds:List Int)(ow:Array (Option Nat)),Owns t.mask ow ds.length->Owp t ow ds->ds.length+hs.length<=t.mask ->
  ∃ ow',hs.foldl (λ(acc:Option (Array (Option Nat)×Nat)) h=>do
   let (owner,k) <- acc
   let j <- SetTable.layClean.free t.mask owner (SetTable.turns t.mask) (SetTable.bits h % (t.mask+1)) (SetTable.bits h)
   pure (owner.setIfInBounds j (some k),k+1)) (some (ow,ds.length))=some (ow',ds.length+hs.length)/\Owns t.mask ow' (ds.length+hs.length)/\Owp t ow' (ds++hs)
 | [],ds,ow,h,o,_=>⟨ow,rfl,h,by rw[List.append_nil];exact o⟩
 | x :: hs,ds,ow,h,o,hl=>by
  rw[List.length_cons] at hl
  obtain⟨e,he,ee⟩:=h.free (by lia)
  obtain⟨n,hn,en⟩:=b8h hm (i:=SetTable.bits x % (t.mask+1)) (Nat.mod_lt _ (Nat.succ_pos _)) (c0m x) he
  obtain⟨j,ej,ij,pn,p1,p2⟩:=b0y (t:=t) h.sz ee (SetTable.turns t.mask) (SetTable.bits x % (t.mask+1)) (SetTable.bits x) (Nat.mod_lt _ (Nat.succ_pos _)) ⟨n,by unfold SetTable.turns;lia,en⟩
  have jl:j<ow.size:=(Array.getElem?_eq_some_iff.mp ij).1
  have look:∀ y:Nat,(ow.setIfInBounds j (some ds.length))[y]?=if j=y then some (some ds.length) else ow[y]?:=λy=>by
   rw[Array.getElem?_setIfInBounds]
   by_cases z:j=y
   ·rw[if_pos z,if_pos z,if_pos jl]
   ·rw[if_neg z,if_neg z]
  have up:∀ y,Occ ow y->Occ (ow.setIfInBounds j (some ds.length)) y:=λy ⟨i,ei⟩=>by
   refine⟨i,?_⟩
   rw[look,if_neg λz=>by rw[<- z,ij] at ei;cases ei]
   exact ei
  have ps:t.probeStart x=prb t (SetTable.bits x % (t.mask+1),SetTable.bits x) none:=rfl
  have o1:Owp t (ow.setIfInBounds j (some ds.length)) (ds++[x]):=λy i ey=>by
   rw[look] at ey
   split at ey
   ·rename_i z
    cases ey
    refine⟨x,by simp,pn,?_,λn' hn'=>up _ ?_⟩
    ·rw[pth,ps,p1,z]
    ·rw[pth,ps];exact p2 n' hn'
   ·obtain⟨h',e1,e2⟩:=o y i ey
    exact⟨h',by rw[List.getElem?_append_left (List.getElem?_eq_some_iff.mp e1).1];exact e1,e2.mono rfl up⟩
  obtain⟨ow',h1,h2,h3⟩:=b0x hm hs (ds++[x]) _ (by rw[List.length_append];exact h.put ij) o1 (by rw[List.length_append,List.length_singleton];lia)
  rw[List.length_append,List.length_singleton] at h1 h2
  refine⟨ow',?_,by rw[List.length_cons,show ds.length+(hs.length+1)=ds.length+1+hs.length by lia];exact h2,by rw[List.append_assoc] at h3;exact h3⟩
  rw[List.foldl_cons,List.length_cons,show ds.length+(hs.length+1)=ds.length+1+hs.length by lia,<- h1]
  congr 1
  show (SetTable.layClean.free t.mask ow (SetTable.turns t.mask) (SetTable.bits x % (t.mask+1)) (SetTable.bits x)).bind (λj=>some (ow.setIfInBounds j (some ds.length),ds.length+1))=_
  rw[ej];rfl
theorem c2s {t:SetTable}(hm:Mk4 t.mask)(hs:Array Int)(hl:hs.size<=t.mask):∃ ow,SetTable.layClean t.mask hs=some ow/\Owns t.mask ow hs.size/\Owp t ow hs.toList:=by
 have no:∀ j i:Nat,(Array.replicate (t.mask+1) (none:Option Nat))[j]?≠some (some i):=λj i e=>by
  rw[Array.getElem?_replicate] at e
  split at e<;>simp at e
 have h0:Owns t.mask (Array.replicate (t.mask+1) none) 0:=⟨by simp,λj i e=>absurd e (no j i),λi hi=>absurd hi (Nat.not_lt_zero _),λj j' i e=>absurd e (no j i)⟩
 obtain⟨ow,h1,h2,h3⟩:=b0x hm hs.toList [] _ h0 (λj i e=>absurd e (no j i)) (by simpa using hl)
 refine⟨ow,?_,by simpa using h2,by simpa using h3⟩
 unfold SetTable.layClean
 rw[<- Array.foldl_toList]
 have h1:=h1
 simp only[List.length_nil] at h1
 rw[h1]
 rfl
theorem a5x {mask:Nat}{ow:Array (Option Nat)}{k:Nat}(h:Owns mask ow k):((((List.range (mask+1)).filterMap λj=>(ow.getD j none).map (j,·)).map (·.2)).length=k)/\(∀ i∈(((List.range (mask+1)).filterMap λj=>(ow.getD j none).map (j,·)).map (·.2)),i<k)/\∀ i,i<k->i∈(((List.range (mask+1)).filterMap λj=>(ow.getD j none).map (j,·)).map (·.2)):=by
 have gd:∀ (j i:Nat),ow.getD j none=some i↔ow[j]?=some (some i):=λj i=>by
  rw[Array.getD_eq_getD_getElem?]
  cases ow[j]? with
  | none=>simp
  | some o=>simp
 have lt:∀ i∈(((List.range (mask+1)).filterMap λj=>(ow.getD j none).map (j,·)).map (·.2)),i<k:=λi hi=>by
  obtain⟨p,hp,rfl⟩:=List.mem_map.mp hi
  obtain⟨j,_,e⟩:=List.mem_filterMap.mp hp
  obtain⟨x,ex,rfl⟩:=Option.map_eq_some_iff.mp e
  exact h.lt j x ((gd j x).mp ex)
 have on:∀ i,i<k->i∈(((List.range (mask+1)).filterMap λj=>(ow.getD j none).map (j,·)).map (·.2)):=λx hx=>by
  obtain⟨j,ej⟩:=h.on x hx
  refine List.mem_map.mpr ⟨(j,x),List.mem_filterMap.mpr ⟨j,List.mem_range.mpr ?_,?_⟩,rfl⟩
  ·rw[<- h.sz];exact (Array.getElem?_eq_some_iff.mp ej).1
  ·rw[(gd j x).mpr ej];rfl
 refine⟨Nat.le_antisymm ?_ ?_,lt,on⟩
 ·have nd:(((List.range (mask+1)).filterMap λj=>(ow.getD j none).map (j,·)).map (·.2)).Nodup:=by
   refine List.pairwise_map.mpr (List.pairwise_filterMap.mpr (List.nodup_range.imp λ{a b} ne x hx y hy e=>ne ?_))
   obtain⟨u,eu,rfl⟩:=Option.map_eq_some_iff.mp hx
   obtain⟨v,ev,rfl⟩:=Option.map_eq_some_iff.mp hy
   have e:u=v:=e
   subst e
   exact h.inj a b u ((gd a u).mp eu) ((gd b u).mp ev)
  have:=nd.length_le_of_subset (l₂:=List.range k) λx hx=>List.mem_range.mpr (lt x hx)
  simpa using this
 ·have:=(List.nodup_range (n:=k)).length_le_of_subset (l₂:=((List.range (mask+1)).filterMap λj=>(ow.getD j none).map (j,·)).map (·.2)) λx hx=>on x (List.mem_range.mp hx)
  simpa using this
theorem c7t {t0:SetTable}(hm:Mk4 t0.mask) (f mv:Nat)(l pl:Bool)(hs:Array Int)(hl:hs.size<=t0.mask):∃ t od,SetTable.laid t0.mask f mv l pl hs=some (t,od)/\t.mask=t0.mask/\t.led=l/\t.plain=pl/\t.dummies = #[]/\a9l t.place/\t.place.size=hs.size/\od.size=hs.size/\(∀ i∈od.toList,i<hs.size)/\(∀ i,i<hs.size->i∈od.toList)/\∀ p∈t.place.toList.zip od.toList,∃ h,hs.toList[p.2]?=some h/\Pth t (λx=>x∈t.place.toList) h p.1:=by
 obtain⟨ow,h1,h2,h3⟩:=c2s hm hs hl
 refine⟨{ mask:=t0.mask,place:=(((List.range (t0.mask+1)).filterMap λj=>(ow.getD j none).map (j,·)).map (·.1)).toArray,dummies:=#[],finger:=f,led:=l,moves:=mv,plain:=pl },_,by unfold SetTable.laid;rw[h1];rfl,rfl,rfl,rfl,rfl,?_,?_,?_,?_,(a5x h2).2.2,λp hp=>?_⟩
 ·rw[rise_list]
  show (List.map Prod.fst (List.filterMap (λj=>(ow.getD j none).map (j,·)) (List.range _))).Pairwise (· < ·)
  rw[List.pairwise_map,List.pairwise_filterMap]
  refine List.pairwise_lt_range.imp λ{a b} hab x hx y hy=>?_
  obtain⟨_,_,rfl⟩:=Option.map_eq_some_iff.mp hx
  obtain⟨_,_,rfl⟩:=Option.map_eq_some_iff.mp hy
  exact hab
 ·have:=(a5x h2).1
  rw[List.length_map] at this
  show (List.map Prod.fst (List.filterMap (λj=>(ow.getD j none).map (j,·)) (List.range _))).toArray.size=_
  rw[List.size_toArray,List.length_map];exact this
 ·have:=(a5x h2).1
  show (List.map Prod.snd (List.filterMap (λj=>(ow.getD j none).map (j,·)) (List.range _))).toArray.size=_
  rw[List.size_toArray];exact this
 ·exact (a5x h2).2.1
 ·have gd:∀ (j i:Nat),ow.getD j none=some i↔ow[j]?=some (some i):=λj i=>by
   rw[Array.getD_eq_getD_getElem?]
   cases ow[j]? with
   | none=>simp
   | some o=>simp
  have hp:p∈(List.map Prod.fst (List.filterMap (λj=>(ow.getD j none).map (j,·)) (List.range (t0.mask+1)))).zip (List.map Prod.snd (List.filterMap (λj=>(ow.getD j none).map (j,·)) (List.range (t0.mask+1)))):=hp
  rw[List.zip_map',List.mem_map] at hp
  obtain⟨q,hq,rfl⟩:=hp
  obtain⟨j,_,e⟩:=List.mem_filterMap.mp hq
  obtain⟨x,ex,rfl⟩:=Option.map_eq_some_iff.mp e
  obtain⟨h,g1,g2⟩:=h3 j x ((gd j x).mp ex)
  refine⟨h,g1,g2.mono rfl λy ⟨i,ey⟩=>?_⟩
  show y∈List.map Prod.fst (List.filterMap (λj=>(ow.getD j none).map (j,·)) (List.range (t0.mask+1)))
  refine List.mem_map.mpr ⟨(y,i),List.mem_filterMap.mpr ⟨y,List.mem_range.mpr ?_,by rw[(gd y i).mpr ey];rfl⟩,rfl⟩
  rw[<- h2.sz];exact (Array.getElem?_eq_some_iff.mp ey).1
section
variable {prog:Program}{w:World}{A:Around}{E:Value->Shared->Prop}{s:Shared}
abbrev IsT (prog:Program)(w:World)(h:Heap)(k:List Int)(b:Addr):Prop:=IsTupleKey (intKind prog w) h k b
theorem b2u {k:Int}{v:Value}(h:(intKind prog w).is k v=true):∃ t,v=.int k t:=by
 cases v with
 | int i t =>
  have:i=k:=(intKind prog w).inj (.int i t) _ _ (intKind_is _ _ _ _) h
  exact⟨t,by rw[this]⟩
 | _=>exact absurd h (by simp[intKind,Value.isInt])
theorem items_int {ks:List Int}{vs:List Value}(h:ItemsAre (intKind prog w) ks vs):∀ v∈vs,∃ k t,v=.int k t:=by
 induction h with
 | nil=>intro v hv;simp at hv
 | cons h1 _ ih =>
  intro v hv
  rcases List.mem_cons.mp hv with rfl|hv
  ·obtain⟨t,e⟩:=b2u h1;exact⟨_,t,e⟩
  ·exact ih v hv
theorem b3e {k:List Int}{b:Addr}{Q:Bool->Shared->Prop}(hk:IsT prog w s.heap k b)(h:Q true s):wpAny (model prog w) A (hashByValue 8 (.ref b)) Q E s:=by
 have hT:=hk.typeIs
 obtain⟨o,items,n,ho,_,hd,hi⟩:=hk
 unfold hashByValue
 refine Γa (wpAny_specialOf hT F.slot_tuple_hash.lookup ?_)
 dsimp only
 refine Γa (wpAny_seqItems ho hd ?_)
 refine Γa ?_
 show wpAny _ _ (forIn items _ _) _ _ s
 rw[<- Array.forIn_toList]
 refine wpAny_forIn_list _ (λrest r s'=>r.1=none/\s'=s/\∀ v∈rest,∃ k t,v=.int k t) _ ?_ ?_ _ _ ⟨rfl,rfl,items_int hi⟩
 ·rintro v rest r s' ⟨hr,rfl,hall⟩
  obtain⟨k,t,rfl⟩:=hall v Γn
  rw[show hashByValue 7 (.int k t)=pure true from rfl]
  refine Γa (Γb ?_)
  simp only[Bool.not_true,Γp,if_false]
  exact Γb ⟨rfl,rfl,λu hu'=>hall u (Γh _ hu')⟩
 ·rintro⟨r1,r2⟩ s' ⟨hr,rfl,_⟩
  simp only at hr
  subst hr
  exact Γb h
theorem a6p {k:List Int}{b:Addr}{Q:Bool->Shared->Prop}(hk:IsT prog w s.heap k b)(h:Q false s):wpAny (model prog w) A (ofAClassStatement 8 (.ref b)) Q E s:=by
 have hT:=hk.typeIs
 obtain⟨o,items,n,ho,_,hd,hi⟩:=hk
 unfold ofAClassStatement
 refine Γa (wpAny_typeOf hT ?_)
 dsimp only
 refine Γa (Γb ?_)
 simp only[Bool.not_true,Γp,if_false]
 refine Γa (wpAny_seqItems ho hd ?_)
 dsimp only
 refine Γa ?_
 show wpAny _ _ (forIn items _ _) _ _ s
 rw[<- Array.forIn_toList]
 refine wpAny_forIn_list _ (λrest r s'=>r.1=none/\s'=s/\∀ v∈rest,∃ k t,v=.int k t) _ ?_ ?_ _ _ ⟨rfl,rfl,items_int hi⟩
 ·rintro v rest r s' ⟨hr,rfl,hall⟩
  obtain⟨k,t,rfl⟩:=hall v Γn
  rw[show ofAClassStatement 7 (.int k t)=pure false from rfl]
  refine Γa (Γb ?_)
  simp only[Γp,if_false]
  exact Γb ⟨rfl,rfl,λu hu'=>hall u (Γh _ hu')⟩
 ·rintro⟨r1,r2⟩ s' ⟨hr,rfl,_⟩
  simp only at hr
  subst hr
  exact Γb h
theorem c1m {k:List Int}{b:Addr}{ys:List Value}{Q:Bool->Shared->Prop}(hk:IsT prog w s.heap k b)(hy:∀ y∈ys,∃ k b,y=.ref b/\IsT prog w s.heap k b)(h:Q false s):wpAny (model prog w) A (searchCouldBeSeen (.ref b) ys) Q E s:=by
 unfold searchCouldBeSeen
 refine Γa ?_
 refine wpAny_forIn_list _ (λrest r s'=>r.1=none/\s'=s/\∀ y∈rest,∃ k b,y=.ref b/\IsT prog w s.heap k b) _ ?_ ?_ _ _ ⟨rfl,rfl,hy⟩
 ·rintro v rest r s' ⟨hr,rfl,hall⟩
  obtain⟨k2,b2,rfl,h2⟩:=hall v Γn
  dsimp only
  split
  ·exact Γb ⟨rfl,rfl,λu hu'=>hall u (Γh _ hu')⟩
  ·refine Γa (wpAny_eqIsQuiet_tuple hk ?_)
   simp only[Bool.not_true,Γp,if_false]
   refine Γa (wpAny_eqIsQuiet_tuple h2 ?_)
   simp only[Bool.not_true,Γp,if_false]
   refine Γa (a6p hk ?_)
   simp only[Γp,if_false]
   refine Γa (a6p h2 ?_)
   simp only[Γp,if_false]
   exact Γb ⟨rfl,rfl,λu hu'=>hall u (Γh _ hu')⟩
 ·rintro⟨r1,r2⟩ s' ⟨hr,rfl,_⟩
  simp only at hr
  subst hr
  exact Γb h
end
structure TabT (t:SetTable) (n:Nat):Prop where
 m4:Mk4 t.mask
 dm:t.dummies = #[]
 rs:a9l t.place
 sz:t.place.size=n
 lo:n*5<t.mask*3
theorem TabT.fits {t:SetTable}{n:Nat}(T:TabT t n):t.fits n=true:=by
 have:=T.lo
 have:=T.sz
 simp only[SetTable.fits,SetTable.fill,T.dm,T.sz,Bool.and_eq_true,beq_iff_eq,decide_eq_true_eq]
 exact⟨trivial,by simp;lia⟩
theorem a6j {t:SetTable}{j i:Nat}(h:t.slot j=.live i):t.place[i]?=some j:=by
 unfold SetTable.slot at h
 dsimp only at h
 split at h
 ·rename_i z;cases h;exact beq_iff_eq.mp z
 ·split at h<;>cases h
theorem TabT.empty {t:SetTable}{n:Nat}(T:TabT t n):∃ e,e<t.mask+1/\t.slot e=.empty:=by
 refine Classical.byContradiction λz=>?_
 have:=(List.nodup_range (n:=t.mask+1)).length_le_of_subset (l₂:=t.place.toList) λx hx=>by
  cases q:t.slot x with
  | empty=>exact absurd ⟨x,List.mem_range.mp hx,q⟩ z
  | dummy=>exact absurd q (a7m T.dm x)
  | live i=>exact Array.mem_toList_iff.mpr (Array.mem_of_getElem? (a6j q))
 have h1:=T.lo
 have h2:=T.sz
 simp at this
 lia
section
variable {prog:Program}{w:World}{A:Around}{E:Value->Shared->Prop}{s:Shared}
def Psd (prog:Program)(w:World)(h0:Heap)(t:SetTable)(es:Array (Int×Value)) (h:Int)(k:List Int) (n:Nat):Prop:=∃ (i:Nat)(e:Int×Value),t.slot (pth t h n)=.live i/\es[i]?=some e/\(e.1=h->∃ k' b',e.2=.ref b'/\IsT prog w h0 k' b'/\k'≠k)
theorem a9w {a b:Addr}{k:List Int}{h:Int}{o:Obj}{es:Array (Int×Value)}{ep:Nat}{t:SetTable}{Q:SetFound->Shared->Prop}(hk:IsT prog w s.heap k b)(ho:s.heap.get? a=some o)(hd:o.data=.set es ep t)(T:TabT t es.size)
  (hes:∀ e∈es.toList,∃ k' b',e.2=.ref b'/\IsT prog w s.heap k' b')(hu:A.units<cLine)(qf:(∃ e∈es.toList,∃ b',e.2=.ref b'/\IsT prog w s.heap k b')->Q (.there none) s)(q:∀ n,t.slot (pth t h n)=.empty->(∀ n',n'<n->Psd prog w s.heap t es h k n')->Q (.free (pth t h n) false) s) :
  ∀ (fuel r m:Nat)(st:Option SetTable.Probe),st.getD (t.probeStart h)=a2z t m (t.probeStart h)->(∀ n',n'<m->Psd prog w s.heap t es h k n')->t.slot (pth t h (m+r))=.empty->r<=10*(t.mask+13)->r<fuel->wpAny (model prog w) A (setSearchFrom a (.ref b) h true fuel st) Q E s
 | 0,r,m,st,_,_,_,_,hf=>absurd hf (Nat.not_lt_zero _)
 | fuel+1,r,m,st,hp,hm,he,hr,hf=>by
  unfold setSearchFrom
  refine Γa (wpAny_setState_of ho hd T.fits ?_)
  dsimp only
  have gw:t.gaveWay=false:=by
   rcases T.m4 with z|z|z|z<;>simp[SetTable.gaveWay,z]
  rw[gw,hp]
  simp only[Γp,if_false]
  have tn:r<10*SetTable.turns t.mask:=by unfold SetTable.turns;lia
  have ad:∀ x,(a2z t x (a2z t m (t.probeStart h))).j=pth t h (m+x):=λx=>by rw[pth,a4d]
  have live:∀ {j i:Nat},t.slot j=.live i->i<es.size:=λe=>by
   rw[<- T.sz];exact (Array.getElem?_eq_some_iff.mp (a6j e)).1
  have psd:∀ {x:Nat},(∀ k',k'<x->∃ i,t.slot (a2z t k' (a2z t m (t.probeStart h))).j=.live i/\PySem.W.hashAt es i≠h)->∀ n',n'<m+x->Psd prog w s.heap t es h k n':=λ{x} e n' hn=>by
   by_cases z:n'<m
   ·exact hm n' z
   ·obtain⟨i,e1,e2⟩:=e (n'-m) (by lia)
    rw[ad,show m+(n'-m)=n' by lia] at e1
    refine⟨i,es[i]'(live e1),e1,Array.getElem?_eq_getElem _,λz=>absurd ?_ e2⟩
    rw[<- z]
    simp[PySem.W.hashAt,live e1]
  rcases a6m (f:=_) (h:=h) T.dm r (10*SetTable.turns t.mask) (a2z t m (t.probeStart h)) tn (a7a t m _) (by rw[ad];exact he) with⟨x,e1,e2,e3⟩|⟨i,n,e1,e2,e3,e4⟩
  ·unfold SetTable.probe
   rw[e1]
   rw[ad] at e2 ⊢
   exact Γb (q (m+x) e2 (psd e3))
  ·unfold SetTable.probe
   rw[e1]
   dsimp only
   have hi:=live e2
   have mi:es[i]∈es.toList:=Array.mem_toList_iff.mpr (Array.getElem_mem hi)
   obtain⟨k',b',ey,hy⟩:=hes _ mi
   have gi:es[i]?=some (es[i].1,Value.ref b'):=by rw[Array.getElem?_eq_getElem hi,<- ey]
   have rcc:k'≠k->wpAny (model prog w) A (setSearchFrom a (.ref b) h true fuel (some (a2z t (n+1) (a2z t m (t.probeStart h))))) Q E s:=λnk=>by
    refine a9w hk ho hd T hes hu qf q fuel (r-(n+1)) (m+(n+1)) (some (a2z t (n+1) (a2z t m (t.probeStart h)))) ?_ (λn' hn=>?_) ?_ (by lia) (by lia)
    ·show a2z t (n+1) _=_
     rw[<- a4d]
    ·by_cases z:n'<m+n
     ·exact psd e4 n' z
     ·rw[ad] at e2
      exact⟨i,es[i],by rw[show n'=m+n by lia];exact e2,Array.getElem?_eq_getElem hi,λ_=>⟨k',b',ey,hy,nk⟩⟩
    ·rw[show m+(n+1)+(r-(n+1))=m+r by lia];exact he
   have sm:t.sameMemory t.moves t.mask=some true:=by unfold SetTable.sameMemory;rw[if_pos (by simp)]
   have main:wpAny (model prog w) A (do
     let equal <- holding [.ref b'] (eqBool (.ref b') (.ref b))
     let (es',_,t') <- setState a
     if true && equal then return .there none
     let some sme:=t'.sameMemory t.moves t.mask|unsupported "set.changed-during-lookup:is-the-new-block-at-the-old-address"
     let still <- match (if sme then t'.slot (a2z t n (a2z t m (t.probeStart h))).j else .empty) with
      | .live i'=>match es'[i']? with
       | some (_,y')=>do pure (if <- isSame y' (.ref b') then some i' else none)
       | none=>pure none
      | _=>pure none
     match still with
     | none=>rule "set.search.anew";setSearchFrom a (.ref b) h true fuel none
     | some i'=>if equal then return .there (some i') else setSearchFrom a (.ref b) h true fuel (some (a2z t (n+1) (a2z t m (t.probeStart h))))) Q E s:=by
    refine Γa (Γg (wpAny_eqBool_tuple hu hy hk ?_))
    refine Γa (wpAny_setState_of ho hd T.fits ?_)
    by_cases nk:k'=k
    ·subst nk
     rw[decide_eq_true rfl]
     simp only[Bool.and_self,if_true]
     exact Γb (qf ⟨_,mi,b',ey,hy⟩)
    ·rw[decide_eq_false nk]
     simp only[Bool.and_false,Γp,if_false]
     rw[sm]
     simp only[if_true,e2]
     rw[gi]
     dsimp only
     refine Γa (show wpAny _ _ (isSame (.ref b') (.ref b')) _ E s from ?_)
     unfold isSame
     simp only[beq_self_eq_true,if_true]
     exact Γb (Γa (Γb (rcc nk)))
   cases hl:t.led with
   | false =>
    simp only[Bool.not_false,if_true]
    refine Γa (c1m hk (λy hy=>?_) ?_)
    ·obtain⟨e,he',rfl⟩:=List.mem_map.mp hy
     have:=Array.mem_toList_iff.mp he'
     exact hes e (Array.mem_toList_iff.mpr (Array.mem_filter.mp this).1)
    ·simp only[Γp,if_false]
     rw[gi]
     exact main
   | true =>
    simp only[Bool.not_true,Γp,if_false]
    rw[gi]
    exact main
theorem b5f {a b:Addr}{k:List Int}{h:Int}{o:Obj}{es:Array (Int×Value)}{ep:Nat}{t:SetTable}{Q:SetFound->Shared->Prop}(hk:IsT prog w s.heap k b)(ho:s.heap.get? a=some o)(hd:o.data=.set es ep t)(T:TabT t es.size)
  (hes:∀ e∈es.toList,∃ k' b',e.2=.ref b'/\IsT prog w s.heap k' b')(hu:A.units<cLine)(qf:(∃ e∈es.toList,∃ b',e.2=.ref b'/\IsT prog w s.heap k b')->Q (.there none) s)(q:∀ n,t.slot (pth t h n)=.empty->(∀ n',n'<n->Psd prog w s.heap t es h k n')->Q (.free (pth t h n) false) s):wpAny (model prog w) A (setSearch a (.ref b) h true) Q E s:=by
 obtain⟨e,he,ee⟩:=T.empty
 obtain⟨n,hn,en⟩:=c0u T.m4 h he
 have:t.mask<=511:=by rcases T.m4 with z|z|z|z<;>lia
 exact a9w hk ho hd T hes hu qf q 100000 n 0 none rfl (λn' h=>absurd h (Nat.not_lt_zero _)) (by rw[Nat.zero_add,pth,en];exact ee) hn (by lia)
end
theorem c8d {mask n:Nat}(h:Mk4 mask)(lo:n*5<mask*3)(tf:mask*3<=(n+1)*5)(hb:n+1<=300):Mk4 (SetTable.sizeAbove (SetTable.grown (n+1))-1)/\(n+1)*5<(SetTable.sizeAbove (SetTable.grown (n+1))-1)*3/\SetTable.sizeAbove (SetTable.grown (n+1))<=512:=by
 rcases h with rfl|rfl|rfl|rfl
 ·obtain rfl:n=4:=by lia
  refine⟨.inr (.inl (by decide)),by decide,by decide⟩
 ·obtain rfl:n=18:=by lia
  refine⟨.inr (.inr (.inl (by decide))),by decide,by decide⟩
 ·obtain rfl:n=76:=by lia
  refine⟨.inr (.inr (.inr (by decide))),by decide,by decide⟩
 ·lia
def hT (k:List Int):Int:=reduceHash (Builtin.Tuple.tupleHashOf (k.map hashInt))
structure SetD (o:Obj)(es:Array (Int×Value)) (ep:Nat)(t:SetTable)(gs:List (Addr×List Int)):Prop where
 ex:o.ExactSet
 dat:o.data=.set es ep t
 sz:es.size=gs.length
 tup:∀ e∈es.toList,∃ g∈gs,e=(hT g.2,.ref g.1)
 all:∀ g∈gs,(hT g.2,.ref g.1)∈es.toList
 tab:TabT t es.size
 rch:∀ p∈t.place.toList.zip es.toList,Pth t (·∈t.place.toList) p.2.1 p.1
def SetT (h:Heap)(a:Addr)(gs:List (Addr×List Int)):Prop:=gs.length<=300/\∃ o es ep t,h.get? a=some o/\SetD o es ep t gs
theorem SetT.keep {h h':Heap}{a:Addr}{gs:List (Addr×List Int)}(x:SetT h a gs)(k:∀ o,h.get? a=some o->h'.get? a=some o):SetT h' a gs:=let ⟨h1,o,es,ep,t,h2,h3⟩:=x;⟨h1,o,es,ep,t,k o h2,h3⟩
theorem b6x {t:SetTable}{n i j:Nat}(T:TabT t n)(h:t.place[i]?=some j):t.slot j=.live i:=by
 obtain⟨h1,h2,h3⟩:=a2y T.rs j
 obtain⟨hi,ei⟩:=Array.getElem?_eq_some_iff.mp h
 have e:SetTable.below t.place j=i:=by
  refine Nat.le_antisymm (Nat.not_lt.mp λz=>?_) (Nat.not_lt.mp λz=>?_)
  ·have:=h2 i hi z;lia
  ·have hr:SetTable.below t.place j<t.place.size:=by lia
   have g1:=h3 _ hr (Γi _)
   have g2:=T.rs _ i hr hi z
   lia
 unfold SetTable.slot
 dsimp only
 rw[e,if_pos (by rw[h];simp)]
theorem d2a {t:SetTable}{n j:Nat}(T:TabT t n)(h:j∈t.place.toList):t.slot j≠.empty:=by
 obtain⟨i,hi⟩:=List.mem_iff_getElem?.mp h
 rw[b6x T (by simpa using hi)]
 exact λz=>nomatch z
theorem c5p {α β:Type}{a:List α}{b:List β}{p:Nat}{x:α}{y:β}(hl:a.length=b.length){q:α×β}(h:q∈(a.take p++x :: a.drop p).zip (b.take p++y :: b.drop p)):q=(x,y) ∨ q∈a.zip b:=by
 rw[List.zip_append (by simp[hl]),List.zip_cons_cons] at h
 rcases List.mem_append.mp h with z|z
 ·rw[List.zip_eq_zipWith,<- List.take_zipWith,<- List.zip_eq_zipWith] at z
  exact .inr (List.mem_of_mem_take z)
 ·rcases List.mem_cons.mp z with z|z
  ·exact .inl z
  ·rw[List.zip_eq_zipWith,<- List.drop_zipWith,<- List.zip_eq_zipWith] at z
   exact .inr (List.mem_of_mem_drop z)
section
variable {prog:Program}{w:World}{A:Around}{E:Value->Shared->Prop}{s:Shared}
theorem b7d {h:Heap}{a:Addr}{o:Obj}(ho:h.get? a=some o)(es:Array (Int×Value))(t:SetTable)(ex:o.ExactSet){es0:Array (Int×Value)}{ep0:Nat}{t0:SetTable}(hd:o.data=.set es0 ep0 t0):∃ o' ep',(h.update a (Obj.putSet es t)).get? a=some o'/\o'.ExactSet/\o'.data=.set es ep' t:=by
 refine⟨_,ep0+1,Heap.get?_update_self (Obj.putSet es t) ho (by rw[putSet_of es t hd];rfl),?_,?_⟩
 ·rw[putSet_of es t hd];exact ex
 ·rw[putSet_of es t hd]
theorem c6h {t:SetTable}{n j:Nat}(T:TabT t n)(ej:t.slot j=.empty):(t.put j).1.mask=t.mask/\(t.put j).1.dummies = #[]/\a9l (t.put j).1.place/\(t.put j).1.place.size=n+1:=by
 refine⟨rfl,?_,?_,?_⟩
 ·show (if SetTable.has t.dummies j then _ else t.dummies) = #[]
  rw[T.dm,b4k];rfl
 ·refine b2v T.rs λz=>?_
  unfold SetTable.slot at ej
  rw[if_pos (by rw[z];simp)] at ej
  cases ej
 ·show (SetTable.insertAt t.place _ j).size=_
  rw[<- Array.length_toList,a1m _ _ _ (a2y T.rs j).1]
  have:=(a2y T.rs j).1
  have:=T.sz
  simp
  lia
theorem c8b {es:Array (Int×Value)}{p:Nat}{x e:Int×Value}(hp:p<=es.size)(h:e∈(SetTable.insertAt es p x).toList):e=x ∨ e∈es.toList:=by
 rw[a1m _ _ _ hp] at h
 rcases List.mem_append.mp h with z|z
 ·exact .inr (List.mem_of_mem_take z)
 ·rcases List.mem_cons.mp z with z|z
  ·exact .inl z
  ·exact .inr (List.mem_of_mem_drop z)
theorem c3c {es:Array (Int×Value)}{p:Nat}{x:Int×Value}(hp:p<=es.size):(SetTable.insertAt es p x).size=es.size+1:=by
 rw[<- Array.length_toList,a1m _ _ _ hp]
 simp
 lia
theorem d8e {es:Array (Int×Value)}{od:Array Nat}(h1:od.size=es.size)(h2:∀ i∈od.toList,i<es.size):(od.filterMap (es[·]?)).size=es.size/\(∀ e∈(od.filterMap (es[·]?)).toList,e∈es.toList)/\(od.filterMap (es[·]?)).toList=od.toList.map λi=>es.getD i (0,.none):=by
 have e0:(od.filterMap (es[·]?)).toList=od.toList.filterMap (es[·]?):=Array.toList_filterMap
 have e1:od.toList.filterMap (es[·]?)=od.toList.map λi=>es.getD i (0,.none):=by
  clear h1 e0
  generalize od.toList=l at h2
  induction l with
  | nil=>rfl
  | cons x r ih =>
   have hx:=h2 x Γn
   rw[List.filterMap_cons,Array.getElem?_eq_getElem hx,List.map_cons,ih λi hi=>h2 i (Γh _ hi)]
   simp[Array.getD,hx]
 refine⟨?_,λe he=>?_,e0.trans e1⟩
 ·rw[<- h1,<- Array.length_toList,e0,e1,List.length_map,Array.length_toList]
 ·rw[e0] at he
  obtain⟨i,_,e1⟩:=List.mem_filterMap.mp he
  exact Array.mem_toList_iff.mpr (Array.mem_of_getElem? e1)
theorem b8p {k k':List Int}{vs:List Value}(h:ItemsAre (intKind prog w) k vs)(h':ItemsAre (intKind prog w) k' vs):k=k':=by
 induction h generalizing k' with
 | nil=>cases h';rfl
 | cons a _ ih =>
  cases h' with
  | cons a' r' =>
   rw[ih r']
   obtain⟨t,e⟩:=b2u a
   obtain⟨t',e'⟩:=b2u a'
   rw[e] at e'
   cases e'
   rfl
theorem b8q {h:Heap}{k k':List Int}{b:Addr}(x:IsT prog w h k b)(y:IsT prog w h k' b):k=k':=by
 obtain⟨o,its,n,e1,_,e2,e3⟩:=x
 obtain⟨o',its',n',f1,_,f2,f3⟩:=y
 rw[e1] at f1;cases f1
 rw[e2] at f2;cases f2
 exact b8p e3 f3
theorem add_tup {a b:Addr}{k:List Int}{gs:List (Addr×List Int)}{Q:Bool->Shared->Prop}(hS:SetT s.heap a gs)(hk:IsT prog w s.heap k b)(hg:∀ g∈gs,IsT prog w s.heap g.2 g.1)(hr:gs.length+1<=300)(hu:A.units<cLine)
  (q1:(∀ g∈gs,g.2≠k)->∀ h',Heap.SameBut a s.heap h'->SetT h' a (gs++[(b,k)])->Q true { s with heap:=h' })(q0:(∃ g∈gs,g.2=k)->Q false s):wpAny (model prog w) A (setAddHashed a (.ref b) (hT k)) Q E s:=by
 obtain⟨hl,o,es,ep,t,ho,d⟩:=hS
 unfold setAddHashed setAddHashedIn
 refine Γg (Γa (wpAny_setState_of ho d.dat d.tab.fits ?_))
 dsimp only
 rw[show byScan (.ref b) es=false from rfl]
 simp only[Γp,if_false]
 refine Γa (b5f hk ho d.dat d.tab (λe he=>?_) hu (λ⟨e,he,b',e1,e2⟩=>?_) λn ej hp=>?_)
 ·obtain⟨g,h1,rfl⟩:=d.tup e he
  exact⟨_,_,rfl,hg g h1⟩
 ·obtain⟨g,h1,rfl⟩:=d.tup e he
  cases e1
  exact Γb (q0 ⟨g,h1,b8q (hg g h1) e2⟩)
 have occ:∀ n',n'<n->pth t (hT k) n'∈t.place.toList:=λn' hn=>by
  obtain⟨i,e,e1,_⟩:=hp n' hn
  exact List.mem_of_getElem? (by simpa using a6j e1)
 have nk:∀ g∈gs,g.2≠k:=λg hgm z=>by
  obtain⟨i0,hi0⟩:=List.mem_iff_getElem?.mp (d.all g hgm)
  have hi0':i0<es.size:=by have:=(List.getElem?_eq_some_iff.mp hi0).1;simpa using this
  obtain⟨j0,hj0⟩:∃ j0,t.place[i0]?=some j0:=⟨_,Array.getElem?_eq_getElem (by rw[d.tab.sz];exact hi0')⟩
  have sl:=b6x d.tab hj0
  obtain⟨n0,p1,p2⟩:=d.rch (j0,(hT g.2,.ref g.1)) (List.mem_iff_getElem?.mpr ⟨i0,by rw[List.getElem?_zip_eq_some];exact⟨by simpa using hj0,hi0⟩⟩)
  have p1:pth t (hT k) n0=j0:=by rw[<- z];exact p1
  rcases Nat.lt_trichotomy n n0 with y|y|y
  ·exact d2a d.tab (by rw[<- z];exact p2 n y) ej
  ·rw[y,p1,sl] at ej;cases ej
  ·obtain⟨i,e,e1,e2,e3⟩:=hp n0 y
   rw[p1,sl] at e1
   cases e1
   have e2:es.toList[i0]?=some e:=by simpa using e2
   rw[hi0] at e2
   cases e2
   obtain⟨k',b',f1,f2,f3⟩:=e3 (by rw[z])
   cases f1
   exact f3 ((b8q f2 (hg g hgm)).trans z)
 have q:=q1 nk
 generalize ejd:pth t (hT k) n=j at ej
 dsimp only
 refine Γa (wpAny_setState_of ho d.dat d.tab.fits ?_)
 dsimp only
 obtain⟨p1,p2,p3,p4⟩:=c6h d.tab ej
 have pl:(t.put j).2<=es.size:=by rw[<- d.tab.sz];exact (a2y d.tab.rs j).1
 have sz1:=c3c (x:=(hT k,Value.ref b)) pl
 have T0:=d.tab.lo
 have m4:=d.tab.m4
 have dsz:=d.sz
 have lst1:(SetTable.insertAt es (t.put j).2 (hT k,Value.ref b)).toList=es.toList.take (t.put j).2++(hT k,Value.ref b) :: es.toList.drop (t.put j).2:=a1m _ _ _ pl
 have lst2:(t.put j).1.place.toList=t.place.toList.take (t.put j).2++j :: t.place.toList.drop (t.put j).2:=a1m _ _ _ (by rw[d.tab.sz];exact pl)
 have up:∀ x,x∈t.place.toList->x∈(t.put j).1.place.toList:=λx hx=>by
  rw[lst2]
  rw[<- List.take_append_drop (t.put j).2 t.place.toList] at hx
  rcases List.mem_append.mp hx with z|z
  ·exact List.mem_append_left _ z
  ·exact List.mem_append_right _ (Γh _ z)
 have rch1:∀ p∈(t.put j).1.place.toList.zip (SetTable.insertAt es (t.put j).2 (hT k,Value.ref b)).toList,Pth (t.put j).1 (·∈(t.put j).1.place.toList) p.2.1 p.1:=λp hp=>by
  rw[lst1,lst2] at hp
  rcases c5p (by simp[d.tab.sz]) hp with rfl|z
  ·exact Pth.mono (t:=t) (occ:=(·∈t.place.toList)) ⟨n,ejd,occ⟩ p1.symm up
  ·exact (d.rch p z).mono p1.symm up
 have all1:∀ g∈gs++[(b,k)],(hT g.2,Value.ref g.1)∈(SetTable.insertAt es (t.put j).2 (hT k,Value.ref b)).toList:=λg hgm=>by
  rw[lst1]
  rcases List.mem_append.mp hgm with z|z
  ·have:=d.all g z
   rw[<- List.take_append_drop (t.put j).2 es.toList] at this
   rcases List.mem_append.mp this with y|y
   ·exact List.mem_append_left _ y
   ·exact List.mem_append_right _ (Γh _ y)
  ·rw[List.mem_singleton.mp z];simp
 generalize hes1:SetTable.insertAt es (t.put j).2 (hT k,Value.ref b)=es1 at sz1 rch1 all1 ⊢
 have tup1:∀ e∈es1.toList,∃ g∈gs++[(b,k)],e=(hT g.2,.ref g.1):=λe he=>by
  rw[<- hes1] at he
  rcases c8b pl he with rfl|he
  ·exact⟨(b,k),by simp,rfl⟩
  ·obtain⟨g,h1,h2⟩:=d.tup e he
   exact⟨g,by simp[h1],h2⟩
 generalize (t.put j).1=t1 at p1 p2 p3 p4 rch1 ⊢
 have main:wpAny (model prog w) A (do
   storeSet a es1 t1
   if (!false && t1.tooFull)=true then do
    setRelay a (SetTable.grown (es.size+1))
    pure true
   else pure true) Q E s:=by
  refine Γa (wpAny_storeSet_of ho d.dat ?_ (by rw[sz1];exact Nat.le_trans (show es.size+1<=300 by lia) (by decide)))
  have sb:=Heap.SameBut.update s.heap a (Obj.putSet es1 t1)
  obtain⟨o1,ep1,ho1,ex1,hd1⟩:=b7d ho es1 t1 d.ex d.dat
  by_cases tf:t1.tooFull=true
  ·rw[tf]
   simp only[Bool.not_false,Bool.and_self,if_true]
   have tf':t.mask*3<=(es.size+1)*5:=by
    unfold SetTable.tooFull SetTable.fill at tf
    rw[p2,p4,p1] at tf
    simpa using tf
   obtain⟨g1,g2,g3⟩:=c8d m4 T0 tf' (by lia)
   have f1:t1.fits es1.size=true:=by
    simp only[SetTable.fits,SetTable.fill,p2,p4,sz1,p1,Bool.and_eq_true,beq_iff_eq,decide_eq_true_eq]
    exact⟨trivial,by simp;lia⟩
   unfold setRelay
   refine Γa (Γa (wpAny_setState_of ho1 hd1 f1 ?_))
   dsimp only
   rw[if_neg (Nat.not_lt.mpr (Nat.le_trans g3 (by decide)))]
   obtain⟨t2,od,l1,l2,l3,l4,l5,l6,l7,l8,l9,l10,l11⟩:=c7t (t0:={ t1 with mask:=SetTable.sizeAbove (SetTable.grown (es.size+1))-1 }) g1 t1.finger (t1.movedTo (SetTable.sizeAbove (SetTable.grown (es.size+1))-1)) t1.led t1.plain (es1.map (·.1)) (by rw[Array.size_map,sz1];show es.size+1<=SetTable.sizeAbove (SetTable.grown (es.size+1))-1;lia)
   have l2:t2.mask=SetTable.sizeAbove (SetTable.grown (es.size+1))-1:=l2
   have rl:t1.relaid (es1.map (·.1)) (SetTable.grown (es.size+1))=some (t2,od):=l1
   rw[rl]
   have ms:(es1.map (·.1)).size=es1.size:=Array.size_map ..
   obtain⟨r1,r2,r3⟩:=d8e (es:=es1) (by rw[l8,ms]) (λi hi=>by have:=l9 i hi;rwa [ms] at this)
   refine Γa ?_
   show wpAny _ _ (if ((od.filterMap (es1[·]?)).size != es1.size)=true then _ else pure (od.filterMap (es1[·]?),t2)) _ _ _
   rw[if_neg (by rw[r1];simp)]
   refine Γb ?_
   dsimp only
   refine wpAny_storeSet_of ho1 hd1 ?_ (by rw[r1,sz1];exact Nat.le_trans (show es.size+1<=300 by lia) (by decide))
   obtain⟨o2,ep2,ho2,ex2,hd2⟩:=b7d ho1 (od.filterMap (es1[·]?)) t2 ex1 hd1
   have sb2:=sb.trans (Heap.SameBut.update _ a (Obj.putSet (od.filterMap (es1[·]?)) t2))
   refine Γb (q _ sb2 ⟨by simp;lia,o2,_,ep2,t2,ho2,ex2,hd2,by rw[r1,sz1,dsz];simp,λe he=>tup1 e (r2 e he),λg hgm=>?_,⟨by rw[l2];exact g1,l5,l6,by rw[l7,ms,r1],?_⟩,λp hp=>?_⟩)
   ·obtain⟨i,hi⟩:=List.mem_iff_getElem?.mp (all1 g hgm)
    have hi':i<es1.size:=by have:=(List.getElem?_eq_some_iff.mp hi).1;simpa using this
    rw[r3]
    refine List.mem_map.mpr ⟨i,l10 i (by rw[ms];exact hi'),?_⟩
    have:es1[i]?=some (hT g.2,Value.ref g.1):=by simpa using hi
    rw[Array.getD_eq_getD_getElem?,this];rfl
   ·rw[r1,sz1,l2];exact g2
   ·rw[r3,<- List.map_id t2.place.toList,List.zip_map,List.mem_map] at hp
    obtain⟨q,hq,rfl⟩:=hp
    obtain⟨h,f2,f3⟩:=l11 q hq
    rw[Array.toList_map,List.getElem?_map] at f2
    obtain⟨e,f4,rfl⟩:=Option.map_eq_some_iff.mp f2
    have:es1[q.2]?=some e:=by simpa using f4
    show Pth t2 _ (es1.getD q.2 (0,.none)).1 q.1
    rw[Array.getD_eq_getD_getElem?,this]
    exact f3
  ·rw[Bool.not_eq_true] at tf
   rw[tf]
   simp only[Bool.not_false,Bool.and_false,Γp,if_false]
   refine Γb (q _ sb ⟨by simp;lia,o1,es1,ep1,t1,ho1,ex1,hd1,by rw[sz1,dsz];simp,tup1,all1,⟨by rw[p1];exact m4,p2,p3,by rw[p4,sz1],?_⟩,rch1⟩)
   unfold SetTable.tooFull SetTable.fill at tf
   rw[p2,p4,p1] at tf
   rw[sz1,p1]
   simpa using tf
 split
 ·refine Γa (b3e hk ?_)
  simp only[if_true]
  exact main
 ·refine Γa (Γb ?_)
  simp only[if_true]
  exact main
end
end Kq
end
section
namespace Kq
open PySem PySem.Spec PyProof.Rows L2 PySem.W
theorem SetT.none {w:World}{h:Heap}{a:Addr}(e:h.get? a=some (freshSet w)):SetT h a []:=⟨by simp,_,#[],0,_,e,⟨rfl,rfl,rfl⟩,rfl,rfl,λe he=>absurd he (by simp),λg hg=>absurd hg List.not_mem_nil,⟨.inl rfl,rfl,λi j hi=>absurd hi (Nat.not_lt_zero _),rfl,(show 0*5<7*3 by decide)⟩,λp hp=>absurd hp (by simp)⟩
def SetR (a:Addr)(gs:List (Addr×List Int)):HO:=.ext λh=>SetT h a gs
theorem b4i {prog:Program}{w:World}:∀ {k:List Int}{its:List Value},L2.Vals (k.map V.int) its->ItemsAre (intKind prog w) k its
 | [],its,h=>by cases h;exact .nil
 | i :: k,its,h=>by
  cases h with
  | cons h1 h2 =>
   obtain⟨t,rfl⟩:=h1
   exact .cons (intKind_is _ _ _ _) (b4i h2)
theorem tup_isT {prog:Program}{w:World}{H:Hp}{h:Heap}{b:Addr}{k:List Int}(x:ObjOk prog w H h b (.tup (k.map V.int))):IsT prog w h k b:=by
 obtain⟨_,its,hv,o,ho,hc,n,hd⟩:=x
 exact⟨o,its.toArray,n,ho,hc,hd,b4i hv⟩
end Kq
namespace L2
open PySem PySem.Spec PyProof.Rows
theorem c0v {Y:Cx}{pins:List (Addr×Obj)}{σ:St}{H:Hp}{s:Shared}{acc b:Addr}{gs:List (Addr×List Int)}{k:List Int}{Q:Value->Shared->Prop}{E:Value->Shared->Prop}(I:Inv Y pins σ H s)(hy:H acc=some (Kq.SetR acc gs))(hb:H b=some (.tup (k.map V.int)))(hd:∀ g∈gs,H g.1=some (.tup (List.map V.int g.2)))(hz:gs.length+1<=300)(hu:Y.A.units+1<cLine)
  (q:∀ s',Inv Y pins σ (if k∈gs.map (·.2) then H else upd H acc (Kq.SetR acc (gs++[(b,k)]))) s'->Q .none s'):wpAny (model Y.prog Y.w) Y.A (call (.builtin "set.add") [.ref acc,.ref b]) Q E s:=by
 have hS:Kq.SetT s.heap acc gs:=(show ObjOk Y.prog Y.w H s.heap acc (Kq.SetR acc gs) from I.hok acc _ hy).1
 have hk:Kq.IsT Y.prog Y.w s.heap k b:=Kq.tup_isT (I.hok b _ hb)
 have hT:s.TypeIs (.ref acc) "set":=by obtain⟨_,o,_,_,_,ho,d⟩:=hS;exact⟨o,ho,d.ex.1⟩
 refine wpAny_call_entry F.slot_set_add hT F.entry_set_add ?_ (F.args_set_add_2 _ _)
 unfold Builtin.«set.add» Builtin.Frozenset.oneOther
 simp only[List.isEmpty_nil,bind_assoc]
 unfold Builtin.Frozenset.addrOf setAdd
 refine Γa (Γb (Γa (Γb (Γa (Γg (Γa (wpAny_pyHash_tuple (knd:=intKind Y.prog Y.w) hu hk ?_)))))))
 refine Kq.add_tup (s:={ s with toks:=s.toks+(k.length+1) }) hS hk (λg hg=>Kq.tup_isT (I.hok g.1 _ (hd g hg))) hz hu (λnk h' sb x=>?_) λ⟨g,hg,e⟩=>?_
 ·rw[if_neg λz=>by obtain⟨g,hg,e⟩:=List.mem_map.mp z;exact nk g hg e] at q
  refine Γb ⟨_,rfl,q _ (I.write (x:=acc) (e:=acc) (t':=s.toks+(k.length+1)) (by rw[hy];exact True.intro) (.inl rfl) (λb o hb e=>(sb.2 b hb).trans e) ?_ ⟨x,?_,λh1 h2 y kk=>y.keep kk⟩)⟩
  all_goals
   obtain⟨_,o,_,_,_,ho,_⟩:=x
   exact⟨o,ho⟩
 ·rw[if_pos (List.mem_map.mpr ⟨g,hg,e⟩)] at q
  exact Γb ⟨_,rfl,q _ (I.kept (t':=s.toks+(k.length+1)) λ_ _ e=>e)⟩
section
variable {prog:Program}{w:World}{A:Around}{R:Result->Shared->Prop}{s:Shared}
theorem b5c {elt:Expr}{target iter:Expr}{ifs:List Expr}{scope:Scope}{pos:Pos}{it acc:Value}{env:Env}
  (h0:codeAny (model prog w) A (.compLoop (.SetComp elt [⟨target,iter,ifs,0⟩] scope pos) 0 it acc env) R s)
  (h:wpAny (model prog w) A (pyIter it) (λit' s'=>codeAny (model prog w) A (.compLoop (.SetComp elt [⟨target,iter,ifs,0⟩] scope pos) 0 it' acc env) R s')
   (notedBy (model prog w) A env λx s'=>R (.error x) s') s) :
  codeAny (model prog w) A (.compStart (.SetComp elt [⟨target,iter,ifs,0⟩] scope pos) 0 it acc env) R s:=by
 refine codeAny_of_tree ?_
 show wpAny _ _ ((compStart (.SetComp elt [⟨target,iter,ifs,0⟩] scope pos) 0 it acc env).onRaise (λx=>do noteFrame x env;standAt theWindowsPlace)) _ _ s
 refine wpAny_notedAt ?_
 unfold compStart
 show wpAny _ _ (ask >>= _) _ _ s
 refine Γa (wpAny_askSetting (wpAny_ite ?_))
 split
 ·first
   | exact Γa (Γb (Γb (And.intro rfl h0)))
   | exact Γb (And.intro rfl h0)
 ·first
   | exact Γa (wpAny_rule (Γa (wpAny_standAt (Γa (wpAny_mono h (λit' s' h'=>Γb (And.intro rfl h')) λ_ _ x=>x)))))
   | (refine Γa (wpAny_rule ?_);show wpAny _ _ (standAt iter.pos >>= _) _ _ s;exact Γa (wpAny_standAt (Γa (wpAny_mono h (λit' s' h'=>Γb (And.intro rfl h')) λ_ _ x=>x))))
end
def emT (te:TE):Addr->St->Hp->(Hp->Prop)->Prop:=λacc σ H K=>te σ H λv H4=>∃ gs b k,v=.ref b/\H4 acc=some (Kq.SetR acc gs)/\H4 b=some (.tup (List.map V.int k))/\(∀ g∈gs,H4 g.1=some (.tup (List.map V.int g.2)))/\gs.length+1<=300/\K (if k∈gs.map (·.2) then H4 else upd H4 acc (Kq.SetR acc (gs++[(b,k)])))
def c4h (wi:TI)(g:TG)(tt:TT)(te:TE) (own:Nat):TE:=a9r wi g tt (emT te) (λa=>Kq.SetR a []) own
section
variable {X:Cx}{elt tg iter:Expr}{ifs:List Expr}{scope:Scope}{own:List Str}{pos:Pos}{wi:TI}{g:TG}{tt:TT}{te:TE}
theorem c8w:CKind X (.SetComp elt [⟨tg,iter,ifs,0⟩] scope pos) tg iter ifs scope (newSet (.type "set")) (Kq.freshSet X.w) (λa=>Kq.SetR a []) (b2y elt) :=
 ⟨λ_ _ _=>rfl,λ_ _ _ _=>rfl,λ_ _ _=>rfl,λ_ _=>rfl,b5c,λq=>c2j q,λ{_ _ _ s} I=>I.laid (a:=s.heap.objs.size) (o:=Kq.SetR s.heap.objs.size []) (t':=s.toks) (λ_ _ q=>Γc _ q) (Γi _) ⟨Kq.SetT.none (Γm _ rfl),⟨_,Γm _ rfl⟩,λh1 h2 y kk=>y.keep kk⟩,λ_=>by rw[arm_eval_SetComp];rfl,rfl⟩
theorem c2b {Y:Cx}(hu:Y.A.units+1<cLine)(he:PE Y elt te):PEm Y (b2y elt) (emT te):=by
 intro pins s σ H acc c K I q
 unfold b2y
 refine Γa (Γa (thn (he _ s σ H _ I q) λy s11 ⟨v11,H11,I11,r11,bs,b,k,ev,hys,hb,hd,hz,kk⟩=>Γa (wpAny_standAt (Γa ?_))))
 subst ev
 cases r11
 exact c0v I11 hys hb hd hz hu λs12 I12=>Γb (Γb ⟨rfl,_,I12,kk⟩)
theorem c2e (hu:X.A.units+1<cLine)(hc:X.calm=true)(SC:CScope X scope own)(hi:PI X.nox tg iter wi)
  (hblock:∀ fp C s H,PG (cxC X scope own fp C s H) tg g/\PTs (cxC X scope own fp C s H) ifs tt/\PE (cxC X scope own fp C s H) elt te)
  (hs:∀ x,foldedSetIterable iter X.env x=pure x:=by intro _;rfl) :
  PE X.nox (.SetComp elt [⟨tg,iter,ifs,0⟩] scope pos) (c4h wi g tt te own.length) :=
 a8q hc SC c8w hi (λfp C s H=>let ⟨a,b,c⟩:=hblock fp C s H;⟨a,b,c2b hu c⟩) hs
end
end L2
end
section
namespace Kq
open PySem PySem.Spec PyProof.Rows L2
def adT (acc:List (List Int))(k:List Int):List (List Int):=if k∈acc then acc else acc++[k]
def a5m (n m:Nat)(tg:Tg)(t:BW)(e:EW):List FV->List (List Int)->a0c->(List (List Int)->a0c->Prop)->Prop
 | [],acc,L,Q=>Q acc L
 | x :: xs,acc,L,Q=>gW tg x (L++Γj m none) λL1=>t L1 λb L2=>if b=true then e L2 λv L3=>∃ k:List Int,v=.tup (k.map .int)/\acc.length<300/\a5m n m tg t e xs (adT acc k) (L3.take n) Q else a5m n m tg t e xs acc (L2.take n) Q
def a9h (n m:Nat)(it:AW)(tg:Tg)(t:BW)(e:EW):EW:=λL Q=>it L λxs L1=>L1.length=n/\a5m n m tg t e xs [] L1 λks L2=>Q (.int ks.length) L2
@[scoped simp ↓] theorem c9l (n m:Nat)(it:AW)(tg:Tg)(t:BW)(e:EW)(L:a0c)(Q:FV->a0c->Prop):a9h n m it tg t e L Q=(it L λxs L1=>L1.length=n/\a5m n m tg t e xs [] L1 λks L2=>Q (.int ks.length) L2):=propext Iff.rfl
theorem c9c (acc:List (List Int))(k:List Int):(adT acc k).length<=acc.length+1:=by
 unfold adT;split<;>simp
theorem b1h {α:Type}{tg:Tg}{n m:Nat}{e:EW}{f:α->FV}{g:α->List Int}{Q:List (List Int)->a0c->Prop}{L:a0c}:∀ (xs:List α)(acc:List (List Int)),acc.length+xs.length<=300 ->
  (∀ x∈xs,∀ K:FV->a0c->Prop,K (.tup ((g x).map .int)) L->gW tg (f x) (L++Γj m none) λL1=>e L1 λv L3=>K v (L3.take n))->Q ((xs.map g).foldl adT acc) L->a5m n m tg a1r e (xs.map f) acc L Q
 | [],acc,_,_,E=>E
 | x :: xs,acc,hl,B,E=>B x Γn (λv L'=>∃ k:List Int,v=.tup (k.map .int)/\acc.length<300/\a5m n m tg a1r e (xs.map f) (adT acc k) L' Q) ⟨g x,rfl,by simp at hl;lia,b1h xs (adT acc (g x)) (by have:=c9c acc (g x);simp at hl;lia) (λy hy=>B y (Γh _ hy)) E⟩
theorem c0w:∀ (ks acc:List (List Int)),(acc++ks).Nodup->ks.foldl adT acc=acc++ks
 | [],acc,_=>by simp
 | k :: ks,acc,nd=>by
  rw[List.foldl_cons,show adT acc k=acc++[k] from if_neg λz=>(List.nodup_append.mp nd).2.2 _ z _ Γn rfl,c0w ks (acc++[k]) (by simpa using nd)]
  simp
section
variable {K:Γd}{c:Cn}{md:Md}{L:a0c}{σ:L2.St}{S H:Hp}
theorem b3o:∀ {k:List Int}{xs:List V},RVs K S (k.map .int) xs->xs=k.map V.int
 | [],xs,h=>h
 | i :: k,xs,⟨v,r,e,h1,h2⟩=>by
  rw[e,b3o h2,List.map_cons,show v=V.int i from h1]
theorem c0c {J:It}{xs:List FV}{n m:Nat}{tg:Tg}{t:BW}{e:EW}{Q:VK}{Q1:List (List Int)->a0c->Prop}(I:Iv K c md L σ S H)(hJ:ItR K c md J xs S)(hL:L.length=n)(hmd:md.length<=n)(ht:a3m md tg=true)(hg:a7c n tg=true)(h:a5m n m tg t e xs [] L Q1)
  (k:∀ acc (gs:List (Addr×List Int)) ks L' S' H',Q1 ks L'->H' acc=some (SetR acc gs)->gs.length=ks.length->Iv K c md L' σ S' H'->Same S S'->Q (.ref acc) H') :
  ∀ acc,H acc=none->∃ W:Nat->Nat->Hp->Prop,(∃ m,W 0 m (upd H acc (SetR acc [])))/\∀ i j H,W i j H ->
   (J.stop i H/\Q (.ref acc) H) ∨ (J.go i H/\∀ x H',J.yld i H x H'->gT K tg x (σ++Γj m none) H' λσ2 H2=>Wk (σ++Γj m none) σ2/\lb K md t σ2 H2 λb H3 =>
    if b=true then emT (lv K md e) acc σ2 H3 λH4=>∃ m',m'<j/\W (i+1) m' H4 else ∃ m',m'<j/\W (i+1) m' H3):=by
 intro acc hacc
 have h0:=I.h0 hacc
 have hp:∀ p∈c.pr,p.1≠acc:=(I.fresh hacc).2.1
 have hz:=I.fzp
 refine a4t (α:=List (List Int)) (β:=List (Addr×List Int)) (fr:=λgs=>{ c with pr:=(acc,SetR acc gs) :: c.pr }) (P:=λks gs S=>ks=gs.map (·.2)/\∀ g∈gs,S g.1=some (.tup (g.2.map V.int))) (N:=λ_=>0) (Cm:=λxs ks L=>a5m n m tg t e xs ks L Q1) (em:=λks L3 K'=>e L3 λv L4=>∃ k:List Int,v=.tup (k.map .int)/\ks.length<300/\K' (adT ks k) L4) (a0:=[]) (b0:=[]) ((I.lay hacc _).prot a0e (I.sn hacc) (λj w hm hj=>(I.fresh hacc).2.2 j w (Mo.w_imm hm) hj) rfl) hJ hL hmd ht hg ⟨rfl,λg hg=>absurd hg List.not_mem_nil⟩ rfl h (λ_ _ _ _ _ _ I _=>I.unprot hz) (λ_ _ _ _ ⟨e,r⟩ s=>⟨e,λg hg=>s _ _ (r g hg)⟩) (λ_ _ _ _ h=>h) (λks gs L3 σ2 S3 H3 K' Z hn I3 ⟨eg,r⟩ hv kz=>?_) λks gs L' S' H' q I' ⟨eg,r⟩ s'=>?_
 ·refine⟨_,L3,S3,_,I3,hv,λv L4 hv u S4 H4 r4 I4 s4=>?_⟩
  obtain⟨kk,rfl,hb,hv⟩:=hv
  obtain⟨b,ys,rfl,sb,ry⟩:=r4
  cases b3o ry
  subst eg
  refine⟨gs,b,kk,rfl,(I4.prs (acc,SetR acc gs) Γn).1,I4.sub _ _ sb,λg hg=>I4.sub _ _ (s4 _ _ (r g hg)),by simp at hb ⊢;lia,?_⟩
  by_cases z:kk∈gs.map (·.2)
  ·rw[if_pos z]
   rw[show adT (gs.map (·.2)) kk=gs.map (·.2) from if_pos z] at hv
   exact kz _ gs L4 S4 _ hv I4 ⟨rfl,λg hg=>s4 _ _ (r g hg)⟩ s4 (Nat.zero_le _)
  ·rw[if_neg z]
   rw[show adT (gs.map (·.2)) kk=gs.map (·.2)++[kk] from if_neg z] at hv
   refine kz _ (gs++[(b,kk)]) L4 S4 _ hv (I4.regrow h0 hp hz rfl) ⟨by simp,λg hg=>?_⟩ s4 (Nat.zero_le _)
   rcases List.mem_append.mp hg with y|y
   ·exact s4 _ _ (r g y)
   ·rw[List.mem_singleton.mp y];exact sb
 ·exact k acc gs _ L' S' H' q (I'.prs (acc,SetR acc gs) Γn).1 (by rw[eg];simp) (I'.unprot hz) s'
end
section
variable {X:Cx}{C:CC}{n:Nat}{sp:Γd->Nat->Sp}{scope:Scope}{own:List Str}{elt tgx iter:Expr}{ifs:List Expr}{nn m:Nat}{md':Md}{it:AW}{tg:Tg}{t:BW}{e:EW}{pos p p2:Pos}
def c6d:List V->Hp->VK->Prop:=λxs H Q=>∃ (a:Addr)(bs:List (Addr×List Int)),xs=[.ref a]/\H a=some (SetR a bs)/\Q (.int bs.length) H
theorem d4h:a1l X (.builtin "len") c6d:=by
 rintro pins s σ H xs us Q I r ⟨a,bs,rfl,ha,k⟩
 obtain⟨u,rfl,ru⟩:=a3e r
 cases (show u=Value.ref a from ru)
 obtain⟨⟨hb,o,es,ep,t,ho,d⟩,_,_⟩:=(show ObjOk X.prog X.w H s.heap a (SetR a bs) from I.hok a _ ha)
 have hf:(es.size:Int)<2 ^ 63:=by rw[d.sz];lia
 refine call_len_set ho d.ex d.dat d.tab.fits hf ?_
 rw[d.sz]
 exact⟨.int bs.length,H,I.tok _,⟨_,rfl⟩,k⟩
theorem b5e (h:CompOk X C n sp scope own elt tgx iter ifs nn m md' it tg t e){σ:L2.St}{H:Hp}{Q:VK}:lv X.K C.md (a9h nn m it tg t e) σ H Q->c4h (li X.K C.md md' it) (gT X.K tg) (lb X.K md' t) (lv X.K md' e) own.length σ H λv H1=>c6d [v] H1 Q:=by
 have h0:=b2 h.st;have h1:=b2 h0.1;have h2:=b2 h1.1;have h3:=b2 h2.1;have h4:=b2 h3.1;have h5:=b2 h4.1;have h6:=b2 h5.1
 rintro⟨c,L,S,Q0,I,hh,k⟩
 refine⟨c,L,S,_,I,hh,λxs L1 hx J c' S1 H1 I1 un e0 hJ s1=>?_⟩
 obtain⟨hl,hc⟩:=hx
 rw[de h5.2]
 refine c0c (Q:=λv H1=>c6d [v] H1 Q) I1 hJ hl (de h4.2) h2.2 h1.2 hc λacc bs ks L' S' H' q ha hb I' s'=>?_
 exact⟨acc,bs,rfl,ha,by rw[hb];exact k _ L' q (.int ks.length) S' H' rfl (un _ _ _ _ I') (s1.trans s')⟩
theorem b9g (G:Good X C n sp)(hg:C.gl (Γe "len")=true)(h:CompOk X C n sp scope own elt tgx iter ifs nn m md' it tg t e):FE X C (.Call (.Name (Γe "len") p) [.SetComp elt [⟨tgx,iter,ifs,0⟩] scope p2] [] pos) (a9h nn m it tg t e):=by
 have h0:=b2 h.st;have h1:=b2 h0.1;have h2:=b2 h1.1;have h3:=b2 h2.1;have h4:=b2 h3.1;have h5:=b2 h4.1;have h6:=b2 h5.1
 have hu:X.A.units+1<cLine:=by have:=G.room.units;lia
 obtain⟨s1,s2,s3⟩:=h.blk G
 exact PE.imp (a3x d4h (G.gl hg) (G.blt "len" (by decide)) (by nofun) (a0n (c2e hu G.calm s1 h.it s2 s3) a2n (a0f rfl)) (by nofun) (by nofun) (a0f rfl) rfl) λσ H Q q=>b5e h q
end
def ltN:FV->FV->Option FV:=a3c λi j=>some (.bl (decide (i<j)))
def leN:FV->FV->Option FV:=a3c λi j=>some (.bl (decide (i<=j)))
section
variable {X:Cx}{C:CC}{n:Nat}{sp:Γd->Nat->Sp}{a b d:Expr}{ea eb ec:EW}{pos:Pos}
theorem fe_lti (ha:FE X C a ea)(hb:FR X C b eb):FE X C (.Compare a [.Lt] [b] pos) (eOp ltN ea eb):=b4o c6f ha hb (a2s _ (by decide) (by decide))
theorem fb_lti (ha:FE X C a ea)(hb:FR X C b eb):FB X C (.Compare a [.Lt] [b] pos) (a0y (eOp ltN ea eb)):=a8a b6r c6f ha hb (a2s _ (by decide) (by decide))
theorem d5w (ha:FE X C a ea)(hb:FE X C b eb)(hc:FR X C d ec)(hm:lastMarks [.LtE,.Lt] [b,d]=false):FE X C (.Compare a [.LtE,.Lt] [b,d] pos) (a8b leN ltN ea eb ec):=c3k b6r d8o c6f ha hb hc hm
end
@[scoped simp ↓] theorem k_lti (i j:Int)(Q:FV->Prop):wp (ltN (.int i) (.int j)) Q=Q (.bl (decide (i<j))):=propext Iff.rfl
@[scoped simp ↓] theorem k_lei (i j:Int)(Q:FV->Prop):wp (leN (.int i) (.int j)) Q=Q (.bl (decide (i<=j))):=propext Iff.rfl
end Kq
end
set_option maxRecDepth 10000
set_option maxHeartbeats 1000000
section
namespace Kq
def bd0 (call:CW):SW:=a1i (b1c (eUn (a5u .int) (a0b 0)) (eUn d2e (eUn (a5u .bool) (a0b 0))))
def bd1 (call:CW):SW:=a1i (b1c (eUn (a5u .tuple) (a0b 0)) (eOp eqB (eUn a5y (a0b 0)) (a0b 1)))
def bd2 (call:CW):SW:=a1i (b1c (a0w call 0 (a0a (a0b 0) a0h)) (eOp geB (a0b 0) (eC (.int 1))))
def bd3 (call:CW):SW:=a1i (b1c (a0w call 0 (a0a (a0b 0) a0h)) (a8b leN ltN (eC (.int 0)) (a0b 0) (a0b 1)))
def bd4 (call:CW):SW:=a0p (a1t (eUn a5y (eOp ixF (a0b 0) (eC (.int 0)))) (.nm 2)) (a0p (sIf (a5p (a0y (a0w call 1 (a0a (a0b 1) (a0a (a0b 2) a0h))))) (a1i (eC (.bl false))) a3i) (a0p (a1t (a0w call 6 (a0a (a0b 0) a0h)) (.nm 3)) (a0p (a7o (a7h (a0b 1)) (.tp [4,5]) (sIf (b6c (a0y (eUn a1d (a0b 5))) (a5p (b6c (a0y (a0w call 0 (a0a (a0b 5) a0h))) (a0y (eOp b2w (a3r (a0a (a0b 5) (a0a (a0b 4) a0h))) (a0b 3)))))) (a1i (eC (.bl false))) a3i)) (a1i (eUn c0t (a1q 6 1 (b1w (a0b 2)) (.nm 6) a1r (a0w call 5 (a0a (a0b 1) (a0a (a0b 6) a0h)))))))))
def bd5 (call:CW):SW:=a0p (a1t (eOp ixF (a0b 0) (a0b 1)) (.nm 2)) (a0p (a7o (b1w (eUn a5y (a0b 0))) (.nm 3) (a0p (sIf (a0y (eUn a1k (a0b 2))) (a1i (eC (.bl true))) a3i) (a1t (eOp ixF (a0b 0) (a0b 2)) (.nm 2)))) (a1i (eC (.bl false))))
def bd6 (call:CW):SW:=a1i (b9n 1 3 (a5l (eOp ixF (a0b 0) (eC (.int 1)))) (.tp [1,2,3]) a1r (a3r (a0a (a0b 1) (a0a (a0b 2) a0h))) (a0b 3))
def bd7 (call:CW):SW:=a0p (a1t (a0w call 6 (a0a (a0b 0) a0h)) (.nm 2)) (a1i (a1q 3 2 (a7h (a0b 1)) (.tp [3,4]) a1r (eIf (a0y (eUn a1k (a0b 4))) (eOp ixF (eOp ixF (a0b 0) (eC (.int 0))) (a0b 3)) (eOp c3u (a0b 2) (a3r (a0a (a0b 4) (a0a (a0b 3) a0h)))))))
def bd8 (call:CW):SW:=a1i (eUn c1h (a0w call 7 (a0a (a0b 0) (a0a (a0b 1) a0h))))
def bd9 (call:CW):SW:=a0p (sIf (a5p (a0y (a0w call 1 (a0a (a0b 1) (a0a (eC (.int 3)) a0h))))) (a1i (eC (.bl false))) a3i) (a0p (a1t (a0b 1) (.tp [2,3,4])) (a0p (sIf (bOr (a5p (a0y (a0w call 0 (a0a (a0b 2) a0h)))) (bOr (a5p (a0y (a0w call 4 (a0a (a0b 0) (a0a (a0b 3) a0h))))) (a5p (a0y (a0w call 10 (a0a (a0b 0) (a0a (a0b 4) a0h))))))) (a1i (eC (.bl false))) a3i) (a1i (b1c (eOp eqB (a0w call 8 (a0a (a0b 0) (a0a (a0b 3) a0h))) (a0b 2)) (eOp eqB (eUn a8i (a1q 5 2 (a5l (a0b 4)) (.tp [5,6]) a1r (a0b 6))) (a0b 2))))))
def d6r (call:CW):SW:=a0p (sIf (bOr (a5p (a0y (eUn (a5u .list) (a0b 1)))) (a5p (a0y (eUn c0t (a1q 2 1 (a5l (a0b 1)) (.nm 2) a1r (a0w call 11 (a0a (a0b 2) (a0a (eUn a5y (eOp ixF (a0b 0) (eC (.int 0)))) a0h)))))))) (a1i (eC (.bl false))) a3i) (a0p (sIf (a0y (eOp ltN (a9h 2 2 (a5l (a0b 1)) (.tp [2,3]) a1r (a0b 2)) (eUn a5y (a0b 1)))) (a1i (eC (.bl false))) a3i) (a1i (b1c (a0w call 13 (a0a (a0b 0) (a0a (a0b 1) a0h))) (a0w call 14 (a0a (a0b 0) (a0a (a0b 1) a0h))))))
def e3x (call:CW):SW:=a0p (sIf (a5p (a0y (a0w call 1 (a0a (a0b 0) (a0a (eC (.int 2)) a0h))))) (a1i (eC (.bl false))) a3i) (a0p (a1t (a0b 0) (.tp [2,3])) (a1i (b1c (a0w call 2 (a0a (a0b 3) a0h)) (a0w call 12 (a0a (a0b 2) (a0a (a0b 1) a0h))))))
def d4n (call:CW):SW:=a0p (sIf (bOr (a5p (a0y (eUn (a5u .tuple) (a0b 0)))) (a5p (a0y (a0b 0)))) (a1i (eC (.bl false))) a3i) (a0p (sIf (a5p (a0y (eUn c0t (a1q 2 1 (a5l (a0b 0)) (.nm 2) a1r (a0w call 3 (a0a (a0b 2) (a0a (a0b 1) a0h))))))) (a1i (eC (.bl false))) a3i) (a1i (eUn c0t (a1q 2 2 (d5j (a0b 0) (eSl (a0b 0) (b2j (eC (.int 1))) b7z)) (.tp [2,3]) a1r (eOp ltN (a0b 2) (a0b 3))))))
def e3w (call:CW):SW:=a0p (a7o (a7h (eOp ixF (a0b 0) (eC (.int 0)))) (.tp [2,3]) (sIf (a0y (eOp ltN (a0b 3) (eUn a8i (a1q 4 2 (a5l (a0b 1)) (.tp [4,5]) (a0y (eOp b2w (a0b 2) (a0b 4))) (a0b 5))))) (a1i (eC (.bl false))) a3i)) (a1i (eC (.bl true)))
def e3v (call:CW):SW:=a0p (a7o (a5l (eOp ixF (a0b 0) (eC (.int 1)))) (.tp [2,3,4]) (sIf (a0y (eOp ltN (a0b 4) (eUn a8i (a1q 5 2 (a5l (a0b 1)) (.tp [5,6]) (b6c (a0y (eOp b2w (a0b 3) (a0b 5))) (a0y (eOp b2k (a0b 2) (a0b 5)))) (a0b 6))))) (a1i (eC (.bl false))) a3i)) (a1i (eC (.bl true)))
def e3u (call:CW):SW:=a0p (a1t (eUn a5y (eOp ixF (a0b 0) (eC (.int 0)))) (.nm 1)) (a0p (a1t (a0w call 16 (a0a (a0b 0) a0h)) (.nm 2)) (a0p (a1t (a5e a0h) (.nm 3)) (a0p (a1t (a5e a0h) (.nm 4)) (a0p (a1t (b1b call 17 (a0a (a0b 1) (d4u 3 a0h))) (.nm 5)) (a0p (c9i (a0y (a0b 5)) (a0p (d7o 2 (a1t (a1q 9 2 (b8y 2) (.tp [9,10]) (b6c (a0y (eOp b2w (a0b 10) (a0b 5))) (a0y (eOp b2k (a0b 9) (a0b 5)))) (a3r (a0a (a0b 9) (a0a (a0b 10) a0h)))) (.nm 6))) (a0p (a1t (eUn c2k (a1q 9 1 (a5l (a0b 6)) (.nm 9) a1r (a7j c8r 2 (a0b 9)))) (.nm 7)) (a0p (c9k (b5s c9o 4 (a3r (a0a (a0b 5) (a0a (a0b 7) a0h))))) (a0p (a7o (a5l (a0b 6)) (.nm 8) (c1n (λi j=>i-j) 2 (a0b 8) (a0b 7))) (a0p (c1o 3 (a1q 9 1 (a5l (a0b 6)) (.nm 9) (a0y (eOp eqB (a7j c8r 2 (a0b 9)) (eC (.int 0)))) (a0b 9))) (a1t (b1b call 17 (a0a (a0b 1) (d4u 3 a0h))) (.nm 5)))))))) (a1i (a3r (a0a (eUn a8i (a1q 9 1 (a5l (a0b 4)) (.nm 9) a1r (eOp ixF (a0b 9) (eC (.int 1))))) (a0a (b1b call 19 (a0a (a0b 1) (d4u 3 a0h))) (a0a (eMv 4) a0h))))))))))
def e3t (call:CW):SW:=a0p (a1t (b4q 5 2 (a7h (eOp ixF (a0b 0) (eC (.int 0)))) (.tp [5,6]) a1r (a3r (a0a (eC .non) (a0a (a0b 5) a0h))) (a0b 6)) (.nm 1)) (a0p (a7o (a5l (eOp ixF (a0b 0) (eC (.int 1)))) (.tp [2,3,4]) (c6a 1 (a3r (a0a (a0b 2) (a0a (a0b 3) a0h))) (a0b 4))) (a1i (a0b 1)))
def e3s (call:CW):SW:=a0p (a1t (a5e a0h) (.nm 2)) (a0p (a7o (b1w (a0b 0)) (.nm 3) (a0p (a1t (a0w call 18 (a0a (a0b 1) (a0a (a0b 3) a0h))) (.nm 4)) (sIf (b6c (a0y (eOp b2k (eC .non) (a0b 4))) (bOr (a5p (a0y (a0b 2))) (a0y (eOp ltN (eUn a5y (a0b 4)) (eUn a5y (a0b 2)))))) (a1t (a0b 4) (.nm 2)) a3i))) (a1i (eUn a5i (b9m (a0b 2)))))
def e3r (call:CW):SW:=a0p (a1t (a5e (a0a (a0b 1) a0h)) (.nm 2)) (a0p (a1t (eC (.int 0)) (.nm 3)) (a0p (c9i (a0y (eOp ltN (a0b 3) (eUn a5y (a0b 2)))) (a0p (c1o 2 (a1q 4 2 (a5l (a0b 0)) (.tp [4,5]) (b6c (a0y (eOp eqB (a0b 5) (a7j ixF 2 (a0b 3)))) (a0y (eOp b2k (a0b 4) (a0b 2)))) (a0b 4))) (d5b (d4q λi j=>i+j) 3 (eC (.int 1))))) (a1i (a0b 2))))
def e3q (call:CW):SW:=a0p (a1t (eC (.dci [] [])) (.nm 2)) (a0p (c9i (a0y (eOp ltN (eUn c2q (a0b 2)) (a0b 0))) (a0p (a1t (eOp ixF (a1q 5 1 (a5l (a0b 1)) (.nm 5) (b6c (a0y (eOp b2k (eOp ixF (a0b 5) (eC (.int 1))) (a0b 2))) (bOr (a0y (eUn a1k (eOp ixF (a0b 5) (eC (.int 0))))) (a0y (eOp b2w (eOp ixF (a0b 5) (eC (.int 0))) (a0b 2))))) (a0b 5)) (eC (.int 0))) (.tp [3,4])) (c6b 2 (a0b 4) (a0b 3)))) (a1i (eUn a5i (a1q 5 1 (b1w (a0b 0)) (.nm 5) a1r (a7j dgF 2 (a0b 5))))))
def e3p (call:CW):SW:=a0p (a1t (eOp b8b (eOp c1b (eOp a6f (eOp a6f (eOp b8b (a0b 0) (eC (.int 2147483629))) (eOp c1b (eOp c1b (a0b 1) (a0b 1)) (eC (.int 7919)))) (eC (.int 11))) (eC (.int 48271))) (eC (.int 2147483647))) (.nm 2)) (a1i (eOp b8b (eOp c1b (a0b 2) (a0b 2)) (eC (.int 1999999973))))
def e3o (call:CW):SW:=a0p (a1t (eIf (a0y (eOp ltN (a0b 1) (eUn a5y (a0b 0)))) (a7j ixF 0 (a0b 1)) (eC (.int 0))) (.nm 2)) (a1i (a5e (a0a (eOp c1b (eUn d4t (a0b 2)) (eUn b3k (eOp geB (eUn d4t (a0b 2)) (eOp d1f (eC (.int 10)) (eC (.int 18)))))) (a0a (eOp a6f (a0b 2) (eOp c1b (eC (.int 1000003)) (a0b 1))) (a0a (eC (.int 0)) a0h)))))
def d6q (call:CW):SW:=a0p (c9j 0 (eC (.int 2)) (eOp a6f (a7j ixF 0 (eC (.int 2))) (eC (.int 1)))) (a0p (sIf (a0y (eOp gtB (a7j ixF 0 (eC (.int 0))) (eC (.int 0)))) (a0p (a1t (eOp b8b (a7j ixF 0 (eC (.int 0))) (a0b 1)) (.nm 2)) (a0p (c9j 0 (eC (.int 0)) (eOp b9h (a7j ixF 0 (eC (.int 0))) (a0b 1))) (a1i (a0b 2)))) a3i) (a1i (eOp b8b (eOp b9h (a0w call 20 (a0a (a0w call 20 (a0a (a7j ixF 0 (eC (.int 1))) (a0a (a7j ixF 0 (eC (.int 2))) a0h))) (a0a (eOp a6f (a7j ixF 0 (eC (.int 2))) (eC (.int 64))) a0h))) (eC (.int 64))) (a0b 1))))
def e3n (call:CW):SW:=a0p (a1t (eUn a4h (d6g (a0b 0) b7z (b2j (a0b 1)))) (.nm 2)) (a0p (a7o (a7h (d6g (a0b 0) (b2j (a0b 1)) (b2j (eC (.int 63))))) (.tp [3,4]) (c9j 2 (eOp b8b (a0b 3) (a0b 1)) (eOp a6f (a7j ixF 2 (eOp b8b (a0b 3) (a0b 1))) (eOp c1b (a0b 4) (eOp a6f (a0b 3) (eC (.int 2))))))) (a1i (a0b 2)))
def e3m (call:CW):SW:=a0p (a1t (a0s call 22 0 (a0a (eC (.int 4)) a0h)) (.nm 2)) (a0p (sIf (b6c (a0y (eOp eqB (a0b 2) (eC (.int 3)))) (a0y (eOp eqB (a0b 1) (eC (.int 0))))) (a1i (eOp a6f (eC (.int 1)) (a0s call 22 0 (a0a (eOp c9g (eOp d1f (eC (.int 10)) (eC (.int 9))) (eC (.int 20))) a0h)))) a3i) (a1i (eOp a6f (eC (.int 1)) (a0s call 22 0 (a0a (eOp ixF (a5e (a0a (eC (.int 9)) (a0a (eC (.int 9)) (a0a (eC (.int 40)) (a0a (eC (.int 3)) a0h))))) (a0b 2)) a0h)))))
def e3l (call:CW):SW:=a0p (sIf (a0y (eOp eqB (a0s call 22 0 (a0a (eC (.int 8)) a0h)) (eC (.int 0)))) (a1i (eOp a6f (eC (.int 7)) (a0s call 22 0 (a0a (eOp c9g (a0b 1) (eC (.int 6))) a0h)))) a3i) (a1i (eOp ixF (a5e (a0a (eC (.int 0)) (a0a (eC (.int 1)) (a0a (eC (.int 2)) (a0a (eC (.int 3)) (a0a (eC (.int 4)) (a0a (eC (.int 5)) (a0a (eC (.int 6)) (a0a (eC (.int 4)) (a0a (eC (.int 5)) (a0a (eC (.int 3)) a0h))))))))))) (a0s call 22 0 (a0a (eC (.int 10)) a0h))))
def e3k (call:CW):SW:=a0p (a1t (a3r (a0a (a0s call 22 0 (a0a (eC (.int 4)) a0h)) (a0a (eOp a6f (eC (.int 1)) (a0s call 22 0 (a0a (eC (.int 4)) a0h))) a0h))) (.tp [2,3])) (a0p (a1t (eUn a5i (a1q 8 1 (b1w (a0b 1)) (.nm 8) a1r (eOp a6f (a0s call 24 0 (a0a (a0b 2) a0h)) (eOp ixF (a5e (a0a (eC (.int 0)) (a0a (eC (.int 12)) a0h))) (a0s call 22 0 (a0a (eC (.int 2)) a0h)))))) (.nm 4)) (a0p (a1t (a5e a0h) (.nm 5)) (a0p (a7o (b1w (a0b 1)) (.nm 6) (a7o (b1w (a0b 1)) (.nm 7) (sIf (b6c (a0y (eOp neB (a0b 6) (a0b 7))) (a0y (eOp eqB (a0s call 22 0 (a0a (a0b 3) a0h)) (eC (.int 0))))) (c9k (b5s c9o 5 (a3r (a0a (a0b 6) (a0a (a0b 7) (a0a (a0s call 24 0 (a0a (a0b 2) a0h)) a0h)))))) a3i))) (a1i (a3r (a0a (a0b 4) (a0a (eUn a5i (a0b 5)) a0h)))))))
def c9n (call:CW):SW:=a0p (sIf (a0y (eUn (c2y .list .tuple) (a0b 1))) (a0p (sIf (bOr (a0y (eOp neB (eUn (a5u .list) (a0b 0)) (eUn (a5u .list) (a0b 1)))) (a0y (eOp neB (eUn (a5u .tuple) (a0b 0)) (eUn (a5u .tuple) (a0b 1))))) (a1i (eC (.bl false))) a3i) (a1i (b1c (eOp eqB (eUn a5y (a0b 0)) (eUn a5y (a0b 1))) (eUn c0t (a1q 2 2 (d5j (a0b 0) (a0b 1)) (.tp [2,3]) a1r (a0w call 27 (a0a (a0b 2) (a0a (a0b 3) a0h)))))))) a3i) (a0p (sIf (bOr (a0y (eUn a1k (a0b 1))) (a0y (eUn (a5u .str) (a0b 1)))) (a1i (b1c (eOp eqB (a0b 0) (a0b 1)) (eOp eqB (eUn (a5u .str) (a0b 0)) (eUn (a5u .str) (a0b 1))))) a3i) (a0p (sIf (a0y (eUn (a5u .bool) (a0b 1))) (a1i (b1c (eUn (a5u .bool) (a0b 0)) (eOp eqB (a0b 0) (a0b 1)))) a3i) (a1i (b1c (eUn (a5u .int) (a0b 0)) (b1c (eUn d2e (eUn (a5u .bool) (a0b 0))) (eOp eqB (a0b 0) (a0b 1)))))))
def d4m (call:CW):SW:=a1i (eUn c0t (a1q 1 1 (a5l (a0b 0)) (.nm 1) a1r (b1c (eUn (a5u .int) (a0b 1)) (eUn d2e (eUn (a5u .bool) (a0b 1))))))
def d6p (call:CW):SW:=a0p (a1t (a5e (a0a (eC .non) (a0a (eC (.bl true)) (a0a (eC (.bl false)) (a0a (eC (.int 0)) (a0a (eC (.int 1)) (a0a (eUn d5h (eC (.int 1))) (a0a (eC (.int 2)) (a0a (eC (.int 7)) (a0a (eC (.str "")) (a0a (eC (.str "keep")) (a0a (eC (.str "put")) (a0a (a3r a0h) (a0a (a5e a0h) (a0a (a3r (a0a (eC (.int 0)) a0h)) (a0a (a5e (a0a (eC (.int 0)) a0h)) (a0a (a3r (a0a (eC (.int 0)) (a0a (eC (.int 1)) a0h))) (a0a (a3r (a0a (eC .non) a0h)) (a0a (a3r (a0a (eC (.str "keep")) (a0a (eC (.int 0)) (a0a (eC (.int 1)) a0h)))) a0h))))))))))))))))))) (.nm 2)) (a0p (sIf (bOr (a0y (eOp eqB (a0b 1) (eC (.int 0)))) (a0y (eOp eqB (a0s call 22 0 (a0a (eC (.int 3)) a0h)) (eC (.int 0))))) (a1i (eOp ixF (a0b 2) (a0s call 22 0 (a0a (eC (.int 18)) a0h)))) a3i) (a0p (a1t (a1q 4 1 (b1w (a0s call 22 0 (a0a (eC (.int 4)) a0h))) (.nm 4) a1r (a0s call 29 0 (a0a (eOp c9g (a0b 1) (eC (.int 1))) a0h))) (.nm 3)) (a1i (eOp ixF (a5e (a0a (a0b 3) (a0a (eUn a5i (a0b 3)) a0h))) (a0s call 22 0 (a0a (eC (.int 2)) a0h))))))
def e3j (call:CW):SW:=a0p (a1t (eOp ixF (a5e (a0a (a3r (a0a (eC (.int 0)) (a0a (eC (.int 1)) a0h))) (a0a (eC (.int 0)) (a0a (eC .non) a0h)))) (a0s call 22 0 (a0a (eC (.int 3)) a0h))) (.nm 1)) (a0p (a7o (b1w (a0s call 22 0 (a0a (eC (.int 19)) a0h))) (.nm 2) (a1t (eOp ixF (a5e (a0a (a5e (a0a (a0b 1) a0h)) (a0a (a3r (a0a (a0b 1) a0h)) a0h))) (eOp b8b (a0b 2) (eC (.int 2)))) (.nm 1))) (a1i (a0b 1)))
def d6o (call:CW):SW:=a1i (eUn c8p (a1q 1 3 (a5l (eOp ixF (a0b 0) (eC (.int 1)))) (.tp [1,2,3]) a1r (a3r (a0a (a3r (a0a (a0b 1) (a0a (a0b 2) a0h))) (a0a (a0b 3) a0h)))))
def e3i (call:CW):SW:=a0p (a1t (a0w call 31 (a0a (a0b 0) a0h)) (.nm 2)) (a0p (a1t (eC (.int 0)) (.nm 3)) (a0p (a7o (a7h (a0b 1)) (.tp [4,5]) (a1t (eOp a6f (a0b 3) (eIf (a0y (eUn a1k (a0b 5))) (eOp ixF (eOp ixF (a0b 0) (eC (.int 0))) (a0b 4)) (eOp c3u (a0b 2) (a3r (a0a (a0b 5) (a0a (a0b 4) a0h)))))) (.nm 3))) (a1i (a0b 3))))
def e3h (call:CW):SW:=a0p (a1t (a0w call 31 (a0a (a0b 0) a0h)) (.nm 2)) (a0p (sIf (a0y (eUn d4r (a1q 6 2 (a7h (a0b 1)) (.tp [6,7]) a1r (b1c (eUn a1d (a0b 7)) (eOp b2k (a3r (a0a (a0b 7) (a0a (a0b 6) a0h))) (a0b 2)))))) (a1i (eC (.bl false))) a3i) (a0p (a7o (b1w (eUn a5y (a0b 1))) (.nm 3) (a0p (a1t (a0b 3) (.nm 4)) (a0p (a7o (b1w (eUn a5y (a0b 1))) (.nm 5) (sIf (a0y (eUn a1d (a0b 4))) (a1t (eOp ixF (a0b 1) (a0b 4)) (.nm 4)) a3i)) (sIf (a0y (eUn a1d (a0b 4))) (a1i (eC (.bl false))) a3i)))) (a1i (eC (.bl true)))))
def d6n (call:CW):SW:=a1i (eUn a8i (a1q 3 2 (a5l (a0b 0)) (.tp [3,4]) (b6c (a0y (eOp b2w (a0b 2) (a0b 3))) (a0y (eOp b2k (a0b 1) (a0b 3)))) (a0b 4)))
def d6m (call:CW):SW:=a0p (sIf (a5p (a0y (eUn (a5u .list) (a0b 1)))) (a1i (eC (.bl false))) a3i) (a0p (a1t (a5e a0h) (.nm 2)) (a0p (a7o (a5l (a0b 1)) (.nm 3) (a0p (sIf (bOr (a5p (a0y (eUn (a5u .tuple) (a0b 3)))) (bOr (a0y (eOp neB (eUn a5y (a0b 3)) (eC (.int 2)))) (bOr (a5p (a0y (eUn (a5u .tuple) (eOp ixF (a0b 3) (eC (.int 0)))))) (a0y (eOp eqB (eOp ixF (a0b 3) (eC (.int 0))) (a3r a0h)))))) (a1i (eC (.bl false))) a3i) (a0p (a1t (a0b 3) (.tp [4,5])) (a0p (sIf (bOr (a5p (a0y (a0w call 28 (a0a (eOp a6f (eUn a4h (a0b 4)) (a5e (a0a (a0b 5) a0h))) a0h)))) (bOr (a0y (eOp ltN (a0b 5) (eC (.int 1)))) (a0y (eOp b2w (a0b 4) (a0b 2))))) (a1i (eC (.bl false))) a3i) (a0p (sIf (a0y (eOp neB (eUn a4h (a0b 4)) (a1q 6 1 (b1w (eUn a5y (eOp ixF (a0b 0) (eC (.int 0))))) (.nm 6) (a0y (eOp b2w (a0b 6) (a0b 4))) (a0b 6)))) (a1i (eC (.bl false))) a3i) (c9k (b5s c9o 2 (a0b 4)))))))) (a0p (sIf (a0y (eUn d4r (a1q 6 2 (a7h (eOp ixF (a0b 0) (eC (.int 0)))) (.tp [6,7]) a1r (eOp ltN (a0b 7) (a0w call 34 (a0a (a0b 1) (a0a (eUn d5h (eC (.int 1))) (a0a (a0b 6) a0h)))))))) (a1i (eC (.bl false))) a3i) (a1i (eUn c0t (a1q 6 3 (a5l (eOp ixF (a0b 0) (eC (.int 1)))) (.tp [6,7,8]) a1r (eOp geB (a0b 8) (a0w call 34 (a0a (a0b 1) (a0a (a0b 6) (a0a (a0b 7) a0h)))))))))))
def d6l (call:CW):SW:=a0p (sIf (bOr (a5p (a0y (eUn (a5u .tuple) (a0b 1)))) (a0y (eOp neB (eUn a5y (a0b 1)) (eUn a5y (eOp ixF (a0b 0) (eC (.int 0))))))) (a1i (eC (.bl false))) a3i) (a0p (sIf (a5p (a0y (eUn c0t (a1q 2 1 (a5l (a0b 1)) (.nm 2) a1r (eOr (eUn a1k (a0b 2)) (b1c (a0w call 28 (a0a (a5e (a0a (a0b 2) a0h)) a0h)) (a8b leN ltN (eC (.int 0)) (a0b 2) (eUn a5y (a0b 1))))))))) (a1i (eC (.bl false))) a3i) (a1i (a0w call 33 (a0a (a0b 0) (a0a (a0b 1) a0h)))))
def c5k (call:CW):SW:=a0p (sIf (bOr (a5p (a0y (eUn (a5u .tuple) (a0b 1)))) (bOr (a0y (eOp neB (eUn a5y (a0b 1)) (eC (.int 3)))) (a5p (a0y (a0w call 28 (a0a (eSl (a0b 1) b7z (b2j (eC (.int 1)))) a0h)))))) (a1i (eC (.bl false))) a3i) (a0p (a1t (a0b 1) (.tp [2,3,4])) (a0p (sIf (bOr (a5p (a0y (a0w call 36 (a0a (a0b 0) (a0a (a0b 3) a0h))))) (bOr (a0y (eOp neB (a0w call 32 (a0a (a0b 0) (a0a (a0b 3) a0h))) (a0b 2))) (a5p (a0y (a0w call 35 (a0a (a0b 0) (a0a (a0b 4) a0h))))))) (a1i (eC (.bl false))) a3i) (a1i (eOp eqB (eUn a8i (a1q 5 2 (a5l (a0b 4)) (.tp [5,6]) a1r (a0b 6))) (a0b 2)))))
def e3g (call:CW):SW:=a0p (a1t (a0w call 23 (a0a (a0b 0) (a0a (eC (.int 5)) a0h))) (.nm 1)) (a0p (a7o (b1w (eOp c2l (eC (.int 2)) (eUn a5y (a0b 1)))) (.nm 2) (a0p (a1t (a0s call 21 1 (a0a (a0b 2) a0h)) (.nm 3)) (a0p (c9j 3 (eC (.int 1)) (eOp a6f (a7j ixF 3 (eC (.int 1))) (eC (.int 500)))) (a0p (a1t (a0s call 25 3 (a0a (eC (.int 12)) a0h)) (.nm 4)) (a0p (a1t (a3r (a0a (a0s call 26 3 (a0a (a0b 4) a0h)) (a0a (a0s call 26 3 (a0a (a0b 4) a0h)) a0h))) (.tp [5,6])) (a0p (a1t (a0w call 15 (a0a (a0b 5) a0h)) (.tp [7,8,9])) (a0p (sIf (a0y (eUn (a5k true) (a0w call 9 (a0a (a0b 5) (a0a (a3r (a0a (a0b 7) (a0a (a0b 8) (a0a (a0b 9) a0h)))) a0h))))) (a1i (eC (.bl false))) a3i) (a0p (a1t (a5e (a0a (a0w call 15 (a0a (a0b 6) a0h)) (a0a (a3r a0h) (a0a (eC .non) (a0a (eC (.int 0)) (a0a (a3r (a0a (a0b 7) a0h)) (a0a (a3r (a0a (a0b 7) (a0a (a0b 8) a0h))) (a0a (a5e (a0a (a0b 7) (a0a (a0b 8) (a0a (a0b 9) a0h)))) a0h)))))))) (.nm 10)) (a0p (a7o (b1w (eC (.int 6))) (.nm 11) (a0p (a1t (eOp ixF (a5e (a0a (a0s call 29 3 (a0a (eC (.int 4)) a0h)) (a0a (a0s call 30 3 a0h) a0h))) (a0s call 22 3 (a0a (eC (.int 2)) a0h))) (.nm 12)) (a0p (a1t (a7j (a5b a6f) 10 (a5e (a0a (a0b 12) (a0a (a3r (a0a (a0b 12) (a0a (a0b 8) (a0a (a0b 9) a0h)))) (a0a (a3r (a0a (a0b 7) (a0a (a0b 12) (a0a (a0b 9) a0h)))) (a0a (a3r (a0a (a0b 7) (a0a (a0b 8) (a0a (a0b 12) a0h)))) a0h)))))) (.nm 10)) (c9k (b5s c9o 10 (a3r (a0a (a0b 7) (a0a (a0b 8) (a0a (eOp a6f (a0b 9) (a5e (a0a (a0s call 29 3 (a0a (eC (.int 4)) a0h)) a0h))) a0h))))))))) (a7o (a5l (a0b 10)) (.nm 13) (a0p (a1t (eUn c9h (a0b 13)) (.nm 14)) (sIf (bOr (a5p (a0y (a0w call 27 (a0a (a0w call 9 (a0a (a0b 5) (a0a (a0b 13) a0h))) (a0a (a0w call 37 (a0a (a0b 5) (a0a (a0b 13) a0h))) a0h))))) (a0y (eOp neB (eUn c9h (a0b 13)) (a0b 14)))) (a1i (eC (.bl false))) a3i)))))))))))) (a1i (eC (.bl true))))
def fd0:FD:=⟨1,1,bd0,false,false⟩
def fd1:FD:=⟨2,2,bd1,false,false⟩
def fd2:FD:=⟨1,1,bd2,false,false⟩
def fd3:FD:=⟨2,2,bd3,false,false⟩
def fd4:FD:=⟨2,6,bd4,false,false⟩
def fd5:FD:=⟨2,4,bd5,false,false⟩
def fd6:FD:=⟨1,1,bd6,false,false⟩
def fd7:FD:=⟨2,3,bd7,false,false⟩
def fd8:FD:=⟨2,2,bd8,false,false⟩
def fd9:FD:=⟨2,5,bd9,false,false⟩
def d6d:FD:=⟨2,2,d6r,false,false⟩
def e2b:FD:=⟨2,4,e3x,false,false⟩
def d3l:FD:=⟨2,2,d4n,false,false⟩
def e2a:FD:=⟨2,4,e3w,false,false⟩
def e1z:FD:=⟨2,5,e3v,false,false⟩
def e1y:FD:=⟨1,9,e3u,false,false⟩
def e1x:FD:=⟨1,5,e3t,false,true⟩
def e1w:FD:=⟨2,5,e3s,false,false⟩
def e1v:FD:=⟨2,4,e3r,false,true⟩
def e1u:FD:=⟨2,5,e3q,false,false⟩
def e1t:FD:=⟨2,3,e3p,false,false⟩
def e1s:FD:=⟨2,3,e3o,true,true⟩
def d6c:FD:=⟨2,3,d6q,true,false⟩
def e1r:FD:=⟨2,5,e3n,false,true⟩
def e1q:FD:=⟨2,3,e3m,true,false⟩
def e1p:FD:=⟨2,2,e3l,true,false⟩
def e1o:FD:=⟨2,8,e3k,true,false⟩
def c8h:FD:=⟨2,2,c9n,false,false⟩
def d3k:FD:=⟨1,1,d4m,false,false⟩
def d3j:FD:=⟨2,4,d6p,true,false⟩
def e1n:FD:=⟨1,3,e3j,true,false⟩
def e1m:FD:=⟨1,1,d6o,false,false⟩
def e1l:FD:=⟨2,6,e3i,false,false⟩
def e1k:FD:=⟨2,6,e3h,false,false⟩
def e1j:FD:=⟨3,3,d6n,false,false⟩
def d6b:FD:=⟨2,6,d6m,false,false⟩
def d6a:FD:=⟨2,2,d6l,false,false⟩
def c5f:FD:=⟨2,5,c5k,false,false⟩
def e1i:FD:=⟨1,15,e3g,false,false⟩
def tb:List FD:=[fd0,fd1,fd2,fd3,fd4,fd5,fd6,fd7,fd8,fd9,d6d,e2b,d3l,e2a,e1z,e1y,e1x,e1w,e1v,e1u,e1t,e1s,d6c,e1r,e1q,e1p,e1o,c8h,d3k,d3j,e1n,e1m,e1l,e1k,e1j,d6b,d6a,c5f,e1i]
def mixV (a k:Int):Int:=((a % 2147483629+k*k*7919+11)*48271 % 2147483647)*((a % 2147483629+k*k*7919+11)*48271 % 2147483647) % 1999999973
theorem b6w (x:Int):a2o (x % 2147483647)=true:=by
 have:=Int.emod_nonneg x (show (2147483647:Int)≠0 by decide)
 have:=Int.emod_lt_of_pos x (show (0:Int)<2147483647 by decide)
 simp only[a2o,decide_eq_true_eq];lia
theorem a8j {i:Int}(h:0<=i)(h':i<2 ^ 60):a2o i=true:=by
 simp only[a2o,decide_eq_true_eq];lia
theorem a0l {i:Int}(h:0<=i)(h':i<2 ^ 60):a2l i=true:=by
 simp only[a2l,decide_eq_true_eq];lia
theorem d2m (d:Nat) (a k:Int)(hk:a2o k=true)(Q:FV×FV->Prop):callW tb (d+1) 20 [.int a,.int k] Q↔Q (.int (mixV a k),.non):=by
 have h2:a2o 48271=true:=by decide
 have h3:a2o 7919=true:=by decide
 rw[a4v (fd:=e1t) rfl rfl]
 simp[e1t,e3p,h2,h3,hk,b6w,mixV]
def Lf (n:Int)(v:FV):Prop:=∃ a b c,v=.lst [.int a,.int b,.int c]/\0<=c/\c<=n
theorem Lf.mono {n m:Int}{v:FV}(h:Lf n v)(k:n<=m):Lf m v:=by
 obtain⟨a,b,c,h,h1,h2⟩:=h
 exact⟨a,b,c,h,h1,by lia⟩
theorem a1j (d:Nat){many n:Int}{v:FV}{Q:FV×FV->Prop}(hs:Lf n v)(hn:n<1000000)(h1:0<many)(h2:many<1073741824)
  (q:∀ u v',0<=u->u<many->Lf (n+1) v'->Q (.int u,v')):callW tb (d+2) 22 [v,.int many] Q:=by
 obtain⟨a,b,c,rfl,h3,h4⟩:=hs
 refine a0g (fd:=d6c) rfl rfl ?_
 have s1:a2o (c+1)=true:=a8j (by lia) (by lia)
 have s2:a2o (c+1+64)=true:=a8j (by lia) (by lia)
 by_cases ha:0<a
 ·simp[d6c,d6q,ixN,ha,h1,h2]
  exact q _ _ (Int.emod_nonneg _ (by lia)) (Int.emod_lt_of_pos _ h1) ⟨_,_,_,rfl,by lia,by lia⟩
 ·simp[d6c,d6q,ixN,ha,h1,h2,d2m,s1,s2]
  exact q _ _ (Int.emod_nonneg _ (by lia)) (Int.emod_lt_of_pos _ h1) ⟨_,_,_,rfl,by lia,by lia⟩
mutual
noncomputable def dF:D->FV
 | .non=>.non
 | .bl b=>.bl b
 | .int i=>.int i
 | .str x=>.str x
 | .tup xs=>.tup (dFs xs)
 | .lst xs=>.lst (dFs xs)
noncomputable def dFs:List D->List FV
 | []=>[]
 | x :: r=>dF x :: dFs r
end
theorem a1b:∀ xs:List D,dFs xs=xs.map dF
 | []=>rfl
 | x :: r=>by rw[dFs,a1b r];rfl
mutual
noncomputable def dep:D->Nat
 | .tup xs=>deps xs+1
 | .lst xs=>deps xs+1
 | .non=>0|.bl _=>0|.int _=>0|.str _=>0
noncomputable def deps:List D->Nat
 | []=>0
 | x :: r=>max (dep x) (deps r)
end
mutual
theorem c3m:∀ (x:D) (n:Nat),dep x<n->fD n (dF x)=some x
 | .non,0,h=>by lia
 | .non,n+1,h=>rfl
 | .bl _,0,h=>by lia
 | .bl _,n+1,h=>rfl
 | .int _,0,h=>by lia
 | .int _,n+1,h=>rfl
 | .str _,0,h=>by lia
 | .str _,n+1,h=>rfl
 | .tup xs,0,h=>by lia
 | .tup xs,n+1,h=>by simp only[dF,fD];rw[fDs_dF xs n (by simp only[dep] at h;lia)];rfl
 | .lst xs,0,h=>by lia
 | .lst xs,n+1,h=>by simp only[dF,fD];rw[fDs_dF xs n (by simp only[dep] at h;lia)];rfl
theorem fDs_dF:∀ (xs:List D) (n:Nat),deps xs<n->a8y (fD n) (dFs xs)=some xs
 | [],n,h=>rfl
 | x :: r,n,h=>by
  simp only[deps] at h
  simp only[dFs,a8y,c3m x n (by lia),fDs_dF r n (by lia),Option.bind_some,Option.map_some]
end
def Vl (k p:Nat)(x:FV):Prop:=∃ d,x=dF d/\dep d<=p/\d.fit=true/\d.wt<=k
theorem Vl.mono {k k' p p':Nat}{x:FV}(h:Vl k p x)(hk:k<=k')(hp:p<=p'):Vl k' p' x:=by
 obtain⟨d,e,h1,h2,h3⟩:=h
 exact⟨d,e,by lia,h2,by lia⟩
theorem Vl.all {k p:Nat}:∀ {xs:List FV},(∀ x∈xs,Vl k p x)->∃ ds:List D,xs=dFs ds/\deps ds<=p/\D.fits ds=true/\D.wts ds<=ds.length*(k+1)/\ds.length=xs.length
 | [],_=>⟨[],rfl,Nat.zero_le _,rfl,by simp[D.wts],rfl⟩
 | x :: r,h=>by
  obtain⟨d,e,h1,h2,h3⟩:=h x (Γn ..)
  obtain⟨ds,e',h1',h2',h3',h4'⟩:=Vl.all (xs:=r) λy hy=>h y (Γh _ hy)
  refine⟨d :: ds,by rw[e,e'];rfl,by simp only[deps];lia,by simp only[D.fits,h2,h2',Bool.and_self],?_,by simp[h4']⟩
  simp only[D.wts,List.length_cons,Nat.add_mul,Nat.one_mul];lia
theorem Vl.tup {k p m:Nat}{xs:List FV}(h:∀ x∈xs,Vl k p x)(hl:xs.length<=m):Vl (m*(k+1)) (p+1) (.tup xs):=by
 obtain⟨ds,e,h1,h2,h3,h4⟩:=Vl.all h
 refine⟨.tup ds,by rw[e];rfl,by simp only[dep];lia,by simp only[D.fit,h2],?_⟩
 simp only[D.wt]
 exact Nat.le_trans h3 (Nat.mul_le_mul_right _ (by lia))
theorem Vl.lst {k p m:Nat}{xs:List FV}(h:∀ x∈xs,Vl k p x)(hl:xs.length<=m):Vl (m*(k+1)) (p+1) (.lst xs):=by
 obtain⟨ds,e,h1,h2,h3,h4⟩:=Vl.all h
 refine⟨.lst ds,by rw[e];rfl,by simp only[dep];lia,by simp only[D.fit,h2],?_⟩
 simp only[D.wt]
 exact Nat.le_trans h3 (Nat.mul_le_mul_right _ (by lia))
theorem Vl.of {k p:Nat}(ds:List D)(h:(ds.all λd=>decide (dep d<=p/\d.fit=true/\d.wt<=k))=true):∀ x∈ds.map dF,Vl k p x:=by
 intro x hx
 obtain⟨d,hd,rfl⟩:=List.mem_map.mp hx
 rw[List.all_eq_true] at h
 have:=h d hd
 simp only[decide_eq_true_eq] at this
 exact⟨d,rfl,this⟩
theorem d0d {k p:Nat}{x:FV}(h:Vl k p x)(hk:k<=big)(hp:p<40):∃ y,c9h x=some y/\∀ R:Bool->Prop,wp (eqF y y) R=R true:=by
 obtain⟨d,rfl,h1,h2,h3⟩:=h
 have big':∀ e:D,dep e<40->e.fit=true->e.wt<=big->(fD a0t (dF e)).bind (λd=>if d.fit=true/\d.wt<=big then some (FV.shn d) else none)=some (.shn e):=λe h1 h2 h3=>by
  rw[c3m e a0t h1]
  show (if e.fit=true/\e.wt<=big then some (FV.shn e) else none)=_
  rw[if_pos ⟨h2,h3⟩]
 cases d with
 | non=>exact⟨_,rfl,λR=>by simp⟩
 | bl b=>exact⟨_,rfl,λR=>by simp⟩
 | str x=>exact⟨_,rfl,λR=>by simp⟩
 | int i =>
  simp only[D.fit,decide_eq_true_eq] at h2
  exact⟨_,(show (if -(2 ^ 150)<i/\i<2 ^ 150 then some (FV.str (toString i)) else none)=some (.str (toString i)) by rw[if_pos h2]),λR=>by simp⟩
 | tup xs=>exact⟨_,big' (.tup xs) (by lia) h2 (by lia),λR=>by simp⟩
 | lst xs=>exact⟨_,big' (.lst xs) (by lia) h2 (by lia),λR=>by simp⟩
theorem e2h {a b:D}(ha:dep a<40)(hb:dep b<40):eqF (dF a) (dF b)=some (D.eqv a b):=by
 have go:(fD a0t (dF a)).bind (λx=>(fD a0t (dF b)).bind λy=>some (D.eqv x y))=some (D.eqv a b):=by
  rw[c3m a a0t ha,c3m b a0t hb];rfl
 unfold eqF
 split
 ·rename_i x y e1 e2;cases a<;>cases e1
 ·exact go
theorem c3v {α:Type}(xs:List α) (n:Nat):a6e xs (some (n:Int)) none=xs.drop n:=by
 have h:sIx xs.length 0 (some (n:Int))=min n xs.length:=by simp only[sIx];rw[if_neg (by lia)];simp
 unfold a6e
 rw[h]
 show (xs.drop (min n xs.length)).take (xs.length-min n xs.length)=_
 by_cases hn:n<=xs.length
 ·rw[Nat.min_eq_left hn,List.take_of_length_le (by simp)]
 ·rw[Nat.min_eq_right (by lia),List.drop_of_length_le (Γi _),List.drop_of_length_le (by lia)];simp
theorem a3d:∀ xs:List D,xs.length<=D.wts xs
 | []=>Γi _
 | x :: r=>by have:=a3d r;simp only[D.wts,List.length_cons];lia
theorem a6d {x:D}:∀ {xs:List D},x∈xs->dep x<=deps xs
 | [],h=>by cases h
 | y :: r,h=>by
  simp only[deps]
  rcases List.mem_cons.mp h with rfl|h
  ·lia
  ·have:=a6d h;lia
theorem a6g {x:D}:∀ {xs:List D},x∈xs->x.wt<=D.wts xs
 | [],h=>by cases h
 | y :: r,h=>by
  simp only[D.wts]
  rcases List.mem_cons.mp h with rfl|h
  ·lia
  ·have:=a6g h;lia
theorem a4p {α β:Type}(f:α->FV)(g:β->FV):∀ (xs:List α)(ys:List β),a2q (xs.map f) (ys.map g)=(xs.zip ys).map λp=>.tup [f p.1,g p.2]
 | [],ys=>rfl
 | x :: xs,[]=>rfl
 | x :: xs,y :: ys=>by
  show FV.tup [f x,g y] :: a2q (xs.map f) (ys.map g)=_
  rw[a4p f g xs ys];rfl
abbrev Chg:=Nat×Nat×Int
def a9o (c:Chg):FV:=.tup [.int c.1,.int c.2.1,.int c.2.2]
structure Gst (ws:List Int)(cs:List Chg):Prop where
 w:∀ x∈ws,1<=x
 c:∀ x∈cs,x.1<ws.length/\x.2.1<ws.length/\x.1≠x.2.1/\1<=x.2.2
 s:∀ x∈cs.zip (cs.drop 1),lexLt [(x.1.1:Int),x.1.2.1] [(x.2.1:Int),x.2.2.1]=true
def a3j (ws:List Int)(cs:List Chg):FV:=.tup [.tup (ws.map .int),.tup (cs.map a9o)]
def keyH (c:Chg):List Int:=[c.1,c.2.1]
def a1g:Option Nat->FV|none=>.non|some a=>.int a
def isI:D->Bool|.int _=>true|_=>false
def b4z:D->Int|.int i=>i|_=>0
theorem b2t:∀ {ds:List D},ds.all isI=true->ds=(ds.map b4z).map .int
 | [],_=>rfl
 | x :: r,h=>by
  rw[List.all_cons,Bool.and_eq_true] at h
  cases x with
  | int i=>rw[List.map_cons,List.map_cons,<- b2t h.2];rfl
  | _=>exact absurd h.1 Γk
theorem b3c (ns:List Int):(ns.map D.int).map dF=ns.map .int:=by rw[List.map_map];rfl
theorem b4x (ds:List D):(ds.map isI).all id=ds.all isI:=by rw[List.all_map];rfl
theorem c2o (d:Nat)(ds:List D)(hl:ds.length<=1000){Q:FV×FV->Prop}(q:Q (.bl (ds.all isI),.non)):callW tb (d+1) 28 [.tup (ds.map dF)] Q:=by
 refine a0g (fd:=d3k) rfl rfl ?_
 simp[d3k,d4m,big]
 refine⟨by lia,?_⟩
 refine a0m (f:=dF) (g:=λx=>.bl (isI x)) ds [] (λx hx K k=>?_) ?_
 ·cases x<;>simpa[dF,isI] using k
 ·rw[List.nil_append]
  simp only[a1e,a0q,b4x]
  exact q
theorem b4c (d:Nat){n g:Int}{v:FV}{Q:FV×FV->Prop}(hs:Lf n v)(h0:0<=n)(hn:n<100000)(q:∀ s v',1<=s->s<1000000000->Lf (n+2) v'->Q (.int s,v')):callW tb (d+3) 24 [v,.int g] Q:=by
 refine a0g (fd:=e1q) rfl rfl ?_
 simp[e1q,e3m,big]
 refine a1j d hs (by lia) (by decide) (by decide) λu v1 u0 u1 l1=>?_
 simp
 have fin:wp (atF [FV.int 9,FV.int 9,FV.int 40,FV.int 3] u) λz=>callW tb (d+2) 22 [v1,z] λz=>wp (a6f (FV.int 1) z.fst) λz_1=>Q (z_1,z.snd):=by
  refine a5q u0 u1 ?_
  intro f hf
  obtain⟨k,rfl,k0,k1⟩:∃ k:Int,f=.int k/\0<k/\k<=40:=by
   simp at hf
   rcases hf with rfl|rfl|rfl|rfl<;>exact⟨_,rfl,by decide,by decide⟩
  refine a1j d l1 (by lia) k0 (by lia) λw v2 w0 w1 l2=>?_
  simp
  exact q _ _ (by lia) (by lia) (l2.mono (by lia))
 refine a3z (λh=>?_) (λh=>fin)
 refine a3z (λh=>?_) (λh=>fin)
 refine⟨by decide,a1j d l1 (by lia) (by decide) (by decide) λw v2 w0 w1 l2=>?_⟩
 simp
 exact q _ _ (by lia) (by lia) (l2.mono (by lia))
theorem c2p (d:Nat){n:Int}{v:FV}{Q:FV×FV->Prop}(hs:Lf n v)(h0:0<=n)(hn:n<100000)(q:∀ (m:Nat) v',m<=12->Lf (n+2) v'->Q (.int m,v')):callW tb (d+3) 25 [v,.int 12] Q:=by
 refine a0g (fd:=e1p) rfl rfl ?_
 simp[e1p,e3l,big]
 refine a1j d hs (by lia) (by decide) (by decide) λu v1 u0 u1 l1=>?_
 simp
 refine a3z (λh=>?_) (λh=>?_)
 ·refine a1j d l1 (by lia) (by decide) (by decide) λw v2 w0 w1 l2=>?_
  simp
  have:=q (7+w).toNat v2 (by lia) (l2.mono (by lia))
  rwa [Int.toNat_of_nonneg (by lia)] at this
 ·refine a1j d l1 (by lia) (by decide) (by decide) λw v2 w0 w1 l2=>?_
  simp
  refine a5q w0 w1 ?_
  intro f hf
  obtain⟨k,rfl,hk⟩:∃ k:Nat,f=.int k/\k<=6:=by
   simp at hf
   rcases hf with rfl|rfl|rfl|rfl|rfl|rfl|rfl|rfl|rfl|rfl
   ·exact⟨0,rfl,by decide⟩
   ·exact⟨1,rfl,by decide⟩
   ·exact⟨2,rfl,by decide⟩
   ·exact⟨3,rfl,by decide⟩
   ·exact⟨4,rfl,by decide⟩
   ·exact⟨5,rfl,by decide⟩
   ·exact⟨6,rfl,by decide⟩
   ·exact⟨4,rfl,by decide⟩
   ·exact⟨5,rfl,by decide⟩
   ·exact⟨3,rfl,by decide⟩
  exact q k v2 (by lia) (l2.mono (by lia))
structure GsB (B:Int)(ws:List Int)(cs:List Chg):Prop where
 n:ws.length<=12
 w:∀ x∈ws,1<=x/\x<B
 c:∀ x∈cs,x.1<ws.length/\x.2.1<ws.length/\x.1≠x.2.1/\1<=x.2.2/\x.2.2<B
 l:cs.length<=144
 d:(cs.map λc=>(c.1,c.2.1)).Nodup
abbrev Gs:=GsB 2000000000
theorem GsB.mono {B C:Int}{ws:List Int}{cs:List Chg}(h:GsB B ws cs)(hb:B<=C):GsB C ws cs :=
 ⟨h.n,λx hx=>⟨(h.w x hx).1,by have:=(h.w x hx).2;lia⟩,λx hx=>let ⟨a,b,c,d,e⟩:=h.c x hx;⟨a,b,c,d,by lia⟩,h.l,h.d⟩
def prs (n:Nat):Nat->List (Nat×Nat)
 | 0=>[]
 | a+1=>prs n a++(List.range n).map λb=>(a,b)
theorem c4n {n:Nat}:∀ {a:Nat}{p:Nat×Nat},p∈prs n a->p.1<a
 | 0,p,h=>by simp[prs] at h
 | a+1,p,h=>by
  rcases List.mem_append.mp h with h|h
  ·have:=c4n h;lia
  ·obtain⟨b,hb,rfl⟩:=List.mem_map.mp h;exact Nat.lt_succ_self _
theorem b2g (n:Nat):∀ a:Nat,(prs n a).length=a*n
 | 0=>by simp[prs]
 | a+1=>by simp[prs,b2g n a,Nat.add_mul]
theorem a9z (n:Nat):∀ a:Nat,(prs n a).Nodup
 | 0=>by simp[prs]
 | a+1=>by
  rw[prs,List.nodup_append]
  refine⟨a9z n a,?_,?_⟩
  ·rw[List.nodup_iff_pairwise_ne,List.pairwise_map]
   exact List.nodup_range.imp λh z=>h (by simpa using z)
  ·intro p hp q hq e
   obtain⟨b,hb,rfl⟩:=List.mem_map.mp hq
   have:=c4n hp
   rw[e] at this
   exact Nat.lt_irrefl _ this
theorem b0j (d:Nat){n:Int}{v:FV}{m:Nat}{Q:FV×FV->Prop}(hs:Lf n v)(h0:0<=n)(hn:n<10000)(hm:m<=12)(q:∀ (ws:List Int)(cs:List Chg) v',GsB 1000000100 ws cs->ws.length=m->Lf (n+700) v'->Q (a3j ws cs,v')):callW tb (d+4) 26 [v,.int m] Q:=by
 refine a0g (fd:=e1o) rfl rfl ?_
 simp[e1o,e3k,big]
 refine a1j (d+1) hs (by lia) (by decide) (by decide) λg v1 g0 g1 l1=>?_
 simp
 refine a1j (d+1) l1 (by lia) (by decide) (by decide) λo v2 o0 o1 l2=>?_
 simp
 refine⟨a0l (by lia) (by lia),?_⟩
 rw[a1s]
 refine⟨by simp;lia,?_⟩
 refine a6x (f:=λi:Nat=>FV.int i) (I:=λds acc L=>∃ v',∃ xs:List Int,L=[some v',some (.int m),some (.int g),some (.int (1+o)),none,none,none,none]/\acc=xs.map .int/\xs.length=ds.length/\(∀ x∈xs,1<=x/\x<1000000100)/\Lf (n+2+3*ds.length) v') (List.range m) (List.range m) [] [] _ rfl ⟨v2,[],rfl,rfl,rfl,by simp,l2.mono (by simp;lia)⟩ ?_ ?_
 ·rintro ds x r acc L K e ⟨v',xs,rfl,rfl,hl,hx,lf⟩ k
  have hd:ds.length<12:=by have:=congrArg List.length e;simp at this;lia
  simp
  refine b4c d lf (by lia) (by lia) λs v4 s0 s1 l4=>?_
  simp[big]
  refine a1j (d+1) l4 (by lia) (by decide) (by decide) λb v5 b0 b1 l5=>?_
  simp
  refine a5q b0 b1 ?_
  intro f hf
  obtain⟨k',rfl,k0,k1⟩:∃ k:Int,f=.int k/\0<=k/\k<=12:=by
   simp at hf
   rcases hf with rfl|rfl<;>exact⟨_,rfl,by decide,by decide⟩
  simp
  refine k _ _ ⟨v5,xs++[s+k'],rfl,by simp,by simp[hl],?_,l5.mono (by simp;lia)⟩
  intro y hy
  rcases List.mem_append.mp hy with hy|hy
  ·exact hx y hy
  ·simp at hy;subst hy;lia
 ·rintro ys L ⟨v',ws,rfl,rfl,hl,hx,lf⟩
  simp only[List.length_range] at hl lf
  simp
  refine⟨a0l (by lia) (by lia),?_⟩
  refine a2i (I:=λa L=>∃ v' x y,∃ cs:List Chg,L=[some v',some (.int m),some (.int g),some (.int (1+o)),some (.tup (ws.map .int)),some (.lst (cs.map a9o)),x,y]/\(∀ c∈cs,c.1<m/\c.2.1<m/\c.1≠c.2.1/\1<=c.2.2/\c.2.2<1000000100)/\(cs.map λc=>(c.1,c.2.1)).Sublist (prs m a)/\Lf (n+38+40*a) v') m 0 _ ⟨v',_,_,[],rfl,by simp,by simp[prs],lf.mono (by lia)⟩ ?_ ?_
  ·rintro a L K-ha ⟨v',x,y,cs,rfl,hc,hsb,lf⟩ k
   simp
   refine⟨a0l (by lia) (by lia),?_⟩
   refine a2i (I:=λb L=>∃ v' y,∃ cs:List Chg,L=[some v',some (.int m),some (.int g),some (.int (1+o)),some (.tup (ws.map .int)),some (.lst (cs.map a9o)),some (.int a),y]/\(∀ c∈cs,c.1<m/\c.2.1<m/\c.1≠c.2.1/\1<=c.2.2/\c.2.2<1000000100)/\(cs.map λc=>(c.1,c.2.1)).Sublist (prs m a++(List.range b).map λb=>(a,b))/\Lf (n+38+40*a+3*b) v') m 0 _ ⟨v',_,cs,rfl,hc,by simpa using hsb,lf.mono (by lia)⟩ ?_ ?_
   ·rintro b L K2-hb ⟨v',y,cs,rfl,hc,hsb,lf⟩ k2
    have hcl:cs.length<=1000:=by
     have:=hsb.length_le
     simp[b2g] at this
     have:a*m<=12*12:=Nat.mul_le_mul (by lia) hm
     lia
    have hsb':(cs.map λc=>(c.1,c.2.1)).Sublist (prs m a++(List.range (b+1)).map λb=>(a,b)):=by
     rw[List.range_succ,List.map_append,<- List.append_assoc]
     exact hsb.trans (List.sublist_append_left _ _)
    have no:∀ v',Lf (n+38+40*a+3*b+3) v'->K2 [some v',some (.int m),some (.int g),some (.int (1+o)),some (.tup (ws.map .int)),some (.lst (cs.map a9o)),some (.int a),some (.int b)]:=λv' l=>k2 _ ⟨v',_,cs,rfl,hc,hsb',l.mono (by lia)⟩
    simp
    refine a3z (λh=>?_) (λh=>?_)
    ·exact no v' (lf.mono (by lia))
    ·refine a1j (d+1) lf (by lia) (by lia) (by lia) λu v4 u0 u1 l4=>?_
     simp
     refine a3z (λh2=>?_) (λh2=>no v4 (l4.mono (by lia)))
     refine b4c d l4 (by lia) (by lia) λs v5 s0 s1 l5=>?_
     simp[big]
     refine⟨by lia,k2 _ ⟨v5,some (.int b),cs++[(a,b,s)],by simp[a9o],?_,?_,l5.mono (by lia)⟩⟩
     ·intro c hc'
      rcases List.mem_append.mp hc' with hc'|hc'
      ·exact hc c hc'
      ·simp at hc';subst hc'
       exact ⟨by show a < m; lia,by show b < m; lia,by show a≠b; lia,s0,by show s < _; lia⟩
     ·rw[List.range_succ,List.map_append,List.map_append,<- List.append_assoc]
      exact hsb.append (List.Sublist.refl _)
   ·rintro L ⟨v',y,cs,rfl,hc,hsb,lf⟩
    rw[Nat.zero_add] at hsb lf
    exact k _ ⟨v',_,_,cs,rfl,hc,hsb,lf.mono (by lia)⟩
  ·rintro L ⟨v',x,y,cs,rfl,hc,hsb,lf⟩
   rw[Nat.zero_add] at hsb lf
   have hcl:=hsb.length_le
   simp[b2g] at hcl
   have:m*m<=12*12:=Nat.mul_le_mul hm hm
   have:=q ws cs v' ⟨by lia,hx,by rw[hl];exact hc,by lia,(a9z m m).sublist hsb⟩ hl (lf.mono (by lia))
   simpa[a3j] using this
theorem b0n:∀ (xs:List Int) (b:Int),a2b b xs∈b :: xs
 | [],b=>by simp[a2b]
 | x :: r,b=>by
  have:=b0n r (if x<b then x else b)
  show a2b (if x<b then x else b) r∈_
  split at this<;>rename_i h
  ·rw[if_pos h];exact Γh _ this
  ·rw[if_neg h]
   rcases List.mem_cons.mp this with e|e
   ·rw[e];simp
   ·exact Γh _ (Γh _ e)
theorem b0m:∀ (xs:List Int) (b:Int),a2b b xs<=b/\∀ x∈xs,a2b b xs<=x
 | [],b=>⟨Int.le_refl _,by simp⟩
 | x :: r,b=>by
  have:=b0m r (if x<b then x else b)
  show a2b (if x<b then x else b) r<=b/\∀ y∈x :: r,a2b (if x<b then x else b) r<=y
  refine⟨by have:=this.1;split at this<;>lia,λy hy=>?_⟩
  rcases List.mem_cons.mp hy with rfl|hy
  ·have:=this.1;split at this<;>lia
  ·exact this.2 y hy
theorem c7k {xs:List Int}{x:Int}{r:List Int}(h:xs=x :: r)(Q:FV->Prop):wp (d5i (xs.map .int)) Q↔Q (.int (a2b x r)):=by
 subst h
 simp only[d5i,a4a,Option.bind_some];rfl
abbrev Ent:=Option Nat×Nat
inductive Anc (fr:List Ent) (m:Nat):Option Nat->Prop
 | refl:Anc fr m (some m)
 | step {on:Option Nat}{t:Nat}:Anc fr m (some t)->(on,t)∈fr->Anc fr m on
def ent (S:List Nat)(e:Ent):Bool:=decide (e.2∈S) && (match e.1 with
 | none=>true
 | some a=>!decide (a∈S))
theorem ent_iff {S:List Nat}{on:Option Nat}{t:Nat}:ent S (on,t)=true↔t∈S/\∀ a,on=some a->a ∉ S:=by
 cases on with
 | none=>simp[ent]
 | some a=>simp[ent]
structure Prc where
 S:List Nat
 p:Int
 t:Nat
def due (ps:List Prc)(e:Ent):Int:=((ps.filter λq=>ent q.S e).map (·.p)).sum
structure Lrm (n:Nat)(E:List Ent)(sz:Ent->Int)(fr:List Ent)(ps:List Prc):Prop where
 sub:∀ e∈fr,e∈E
 nd:fr.Nodup
 low:∀ e∈E,due ps e<=sz e
 free:∀ e∈E,e∈fr↔due ps e=sz e
 pos:∀ q∈ps,0<q.p
 ne:∀ q∈ps,q.S≠[]
 up:∀ q∈ps,q.S.Pairwise (· < ·)
 lt:∀ q∈ps,∀ m∈q.S,m<n
 tl:∀ q∈ps,q.t<=fr.length
 shut:∀ q∈ps,∀ e∈fr.take q.t,ent q.S e=false
 cut:∀ q∈ps,∀ A:Nat->Prop,(∃ a∈q.S,A a)->(∃ b∈q.S,¬ A b)->∃ a b,(some a,b)∈fr.take q.t/\a∈q.S/\b∈q.S/\A a/\¬ A b
 hit:∀ q∈ps,∃ e∈fr,ent q.S e=true
 dst:(ps.map (·.S)).Nodup
structure Src (n:Nat)(fr:List Ent)(S:List Nat):Prop where
 ne:S≠[]
 up:S.Pairwise (· < ·)
 lt:∀ m∈S,m<n
 all:∀ m∈S,∀ x,Anc fr m x↔∃ a∈S,x=some a
theorem Src.shut {n:Nat}{fr:List Ent}{S:List Nat}(h:Src n fr S){e:Ent}(he:e∈fr):ent S e=false:=by
 obtain⟨on,t⟩:=e
 cases z:ent S (on,t) with
 | false=>rfl
 | true =>
  obtain⟨ht,hn⟩:=ent_iff.mp z
  obtain⟨a,ha,e⟩:=(h.all t ht on).mp (.step .refl he)
  exact absurd ha (hn a e)
theorem c0r {fr:List Ent}{m:Nat}{A:Nat->Prop}(hm:¬ A m):∀ {x:Option Nat},Anc fr m x->∀ a,x=some a->A a->∃ a b,(some a,b)∈fr/\Anc fr m (some a)/\Anc fr m (some b)/\A a/\¬ A b:=by
 intro x h
 induction h with
 | refl=>intro a e ha;cases e;exact absurd ha hm
 | @step on t h1 h2 ih =>
  intro a e ha
  subst e
  by_cases ht:A t
  ·exact ih t rfl ht
  ·exact⟨a,t,h2,.step h1 h2,h1,ha,ht⟩
theorem Src.cut {n:Nat}{fr:List Ent}{S:List Nat}(h:Src n fr S)(A:Nat->Prop)(h1:∃ a∈S,A a)(h2:∃ b∈S,¬ A b):∃ a b,(some a,b)∈fr/\a∈S/\b∈S/\A a/\¬ A b:=by
 obtain⟨a,ha,pa⟩:=h1
 obtain⟨b,hb,pb⟩:=h2
 obtain⟨c,d,g1,g2,g3,g4,g5⟩:=c0r pb ((h.all b hb (some a)).mpr ⟨a,ha,rfl⟩) a rfl pa
 obtain⟨c',hc,e1⟩:=(h.all b hb _).mp g2
 obtain⟨d',hd,e2⟩:=(h.all b hb _).mp g3
 cases e1;cases e2
 exact⟨c,d,g1,hc,hd,g4,g5⟩
theorem a6c (ps:List Prc)(S:List Nat) (p:Int) (t:Nat)(e:Ent):due (ps++[⟨S,p,t⟩]) e=due ps e+if ent S e=true then p else 0:=by
 unfold due
 rw[List.filter_append,List.map_append,List.sum_append]
 by_cases h:ent S e=true<;>simp[h]
theorem Lrm.start {n:Nat}{E:List Ent}{sz:Ent->Int}(h:∀ e∈E,0<sz e):Lrm n E sz [] [] where
 sub:=by simp
 nd:=List.nodup_nil
 low:=λe he=>by have:=h e he;simp[due];lia
 free:=λe he=>by have:=h e he;simp[due];lia
 pos:=by simp
 ne:=by simp
 up:=by simp
 lt:=by simp
 tl:=by simp
 shut:=by simp
 cut:=by simp
 hit:=by simp
 dst:=by simp
theorem Lrm.step {n:Nat}{E:List Ent}{sz:Ent->Int}{fr:List Ent}{ps:List Prc}{S:List Nat}{p:Int}(h:Lrm n E sz fr ps)(hS:Src n fr S)(hE:E.Nodup)
  (h1:∀ e∈E,ent S e=true->p<=sz e-due ps e)(h2:∃ e∈E,ent S e=true/\sz e-due ps e=p) :
  0<p/\Lrm n E sz (fr++E.filter λe=>ent S e && decide (sz e-due ps e=p)) (ps++[⟨S,p,fr.length⟩]):=by
 have nf:∀ e∈E,ent S e=true->e ∉ fr:=λe _ he z=>by rw[hS.shut z] at he;cases he
 have hp:0<p:=by
  obtain⟨e,he,g1,g2⟩:=h2
  have:=h.low e he
  have n1:due ps e≠sz e:=λz=>nf e he g1 ((h.free e he).mpr z)
  lia
 refine⟨hp,?_⟩
 have tk:∀ t,t<=fr.length->∀ l:List Ent,(fr++l).take t=fr.take t:=λt ht l=>by rw[List.take_append_of_le_length ht]
 refine⟨λe he=>?_,?_,λe he=>?_,λe he=>?_,λq hq=>?_,λq hq=>?_,λq hq=>?_,λq hq=>?_,λq hq=>?_,λq hq e he=>?_,λq hq=>?_,λq hq=>?_,?_⟩
 ·rcases List.mem_append.mp he with he|he
  ·exact h.sub e he
  ·exact (List.mem_filter.mp he).1
 ·refine List.nodup_append.mpr ⟨h.nd,hE.filter _,λa ha b hb e=>?_⟩
  subst e
  obtain⟨g1,g2⟩:=List.mem_filter.mp hb
  simp only[Bool.and_eq_true] at g2
  exact nf a g1 g2.1 ha
 ·rw[a6c]
  have:=h.low e he
  split
  ·rename_i g
   have:=h1 e he g
   lia
  ·lia
 ·rw[a6c]
  constructor
  ·intro z
   rcases List.mem_append.mp z with z|z
   ·rw[if_neg (by rw[hS.shut z];exact Γk)]
    have:=(h.free e he).mp z
    lia
   ·obtain⟨_,g⟩:=List.mem_filter.mp z
    simp only[Bool.and_eq_true,decide_eq_true_eq] at g
    rw[if_pos g.1]
    lia
  ·intro z
   by_cases g:ent S e=true
   ·rw[if_pos g] at z
    refine List.mem_append_right _ (List.mem_filter.mpr ⟨he,?_⟩)
    simp only[Bool.and_eq_true,decide_eq_true_eq]
    exact⟨g,by lia⟩
   ·rw[if_neg g] at z
    exact List.mem_append_left _ ((h.free e he).mpr (by lia))
 all_goals first|skip
 ·rcases List.mem_append.mp hq with hq|hq
  ·exact h.pos q hq
  ·simp at hq;subst hq;exact hp
 ·rcases List.mem_append.mp hq with hq|hq
  ·exact h.ne q hq
  ·simp at hq;subst hq;exact hS.ne
 ·rcases List.mem_append.mp hq with hq|hq
  ·exact h.up q hq
  ·simp at hq;subst hq;exact hS.up
 ·rcases List.mem_append.mp hq with hq|hq
  ·exact h.lt q hq
  ·simp at hq;subst hq;exact hS.lt
 ·rcases List.mem_append.mp hq with hq|hq
  ·have:=h.tl q hq
   simp;lia
  ·simp at hq;subst hq;simp
 ·rcases List.mem_append.mp hq with hq|hq
  ·rw[tk _ (h.tl q hq)] at he
   exact h.shut q hq e he
  ·simp at hq;subst hq
   rw[show (⟨S,p,fr.length⟩:Prc).t=fr.length from rfl,tk _ (Γi _),List.take_length] at he
   exact hS.shut he
 ·rcases List.mem_append.mp hq with hq|hq
  ·rw[tk _ (h.tl q hq)]
   exact h.cut q hq
  ·simp at hq;subst hq
   dsimp only
   rw[tk _ (Γi _),List.take_length]
   exact hS.cut
 ·rcases List.mem_append.mp hq with hq|hq
  ·obtain⟨e,g1,g2⟩:=h.hit q hq
   exact⟨e,List.mem_append_left _ g1,g2⟩
  ·simp at hq;subst hq
   obtain⟨e,he,g1,g2⟩:=h2
   refine⟨e,List.mem_append_right _ (List.mem_filter.mpr ⟨he,?_⟩),g1⟩
   simp only[Bool.and_eq_true,decide_eq_true_eq]
   exact⟨g1,g2⟩
 ·rw[List.map_append]
  refine List.nodup_append.mpr ⟨h.dst,by simp,λa ha b hb e=>?_⟩
  simp at hb
  subst hb e
  obtain⟨q,hq,e⟩:=List.mem_map.mp ha
  obtain⟨e',g1,g2⟩:=h.hit q hq
  rw[e,hS.shut g1] at g2;cases g2
def may (D:List Nat)(e:Ent):Bool:=!decide (e.2∈D) && (match e.1 with
 | none=>true
 | some a=>decide (a∈D))
structure Lay (fr:List Ent)(us:List Ent):Prop where
 sub:∀ e∈us,e∈fr
 nd:(us.map (·.2)).Nodup
 on:∀ l e r,us=l++e :: r->∀ a,e.1=some a->a∈l.map (·.2)
def a8h (D:List Nat)(S:List Nat):Bool:=S.any λm=>decide (m∈D)
structure Cnt (fr:List Ent)(ps:List Prc)(us:List Ent):Prop extends Lay fr us where
 one:∀ q∈ps,us.countP (ent q.S)=if a8h (us.map (·.2)) q.S=true then 1 else 0
theorem touch_iff {D S:List Nat}:a8h D S=true↔∃ m∈S,m∈D:=by simp[a8h]
theorem Cnt.step {n:Nat}{E:List Ent}{sz:Ent->Int}{fr:List Ent}{ps:List Prc}{us:List Ent}(h:Lrm n E sz fr ps)(c:Cnt fr ps us){e:Ent}(he:fr.find? (may (us.map (·.2)))=some e):Cnt fr ps (us++[e]):=by
 obtain⟨on,m⟩:=e
 have hm:=List.find?_some he
 have hin:=List.mem_of_find?_eq_some he
 have m1:m ∉ us.map (·.2):=by
  simp only[may,Bool.and_eq_true,Bool.not_eq_true',decide_eq_false_iff_not] at hm
  exact hm.1
 have m2:∀ a,on=some a->a∈us.map (·.2):=λa z=>by
  subst z
  simp only[may,Bool.and_eq_true,decide_eq_true_eq] at hm
  exact hm.2
 refine⟨⟨λe' he'=>?_,?_,λl e' r z a ea=>?_⟩,λq hq=>?_⟩
 ·rcases List.mem_append.mp he' with z|z
  ·exact c.sub e' z
  ·simp at z;subst z;exact hin
 ·rw[List.map_append]
  refine List.nodup_append.mpr ⟨c.nd,by simp,λa ha b hb z=>?_⟩
  simp at hb;subst hb z
  exact m1 ha
 ·rcases List.append_eq_append_iff.mp z with⟨x,h1,h2⟩|⟨x,h1,h2⟩
  ·cases x with
   | nil =>
    simp at h1 h2
    obtain⟨h2,_⟩:=h2
    subst h2 h1
    exact m2 a ea
   | cons y x =>
    have:=congrArg List.length h2
    simp at this
  ·cases x with
   | nil =>
    simp at h1 h2
    obtain⟨h2,_⟩:=h2
    subst h2 h1
    exact m2 a ea
   | cons y x =>
    simp at h2
    obtain⟨rfl,h2⟩:=h2
    exact c.on l e' x h1 a ea
 ·have old:=c.one q hq
  rw[List.countP_append,List.map_append]
  have tch:a8h (us.map (·.2)++[(on,m)].map (·.2)) q.S=(a8h (us.map (·.2)) q.S || decide (m∈q.S)):=by
   rw[Bool.eq_iff_iff]
   simp only[touch_iff,Bool.or_eq_true,decide_eq_true_eq,List.mem_append,List.map_cons,List.map_nil,List.mem_singleton]
   constructor
   ·rintro⟨x,h1,h2|rfl⟩
    ·exact .inl ⟨x,h1,h2⟩
    ·exact .inr h1
   ·rintro (⟨x,h1,h2⟩|h1)
    ·exact⟨x,h1,.inl h2⟩
    ·exact⟨m,h1,.inr rfl⟩
  rw[tch]
  by_cases hmS:m∈q.S
  ·by_cases ht:a8h (us.map (·.2)) q.S=true
   ·rw[if_pos ht] at old
    have:ent q.S (on,m)=false:=by
     cases z:ent q.S (on,m) with
     | false=>rfl
     | true =>
      obtain⟨a,b,g1,g2,g3,g4,g5⟩:=h.cut q hq (λx=>x∈us.map (·.2)) (touch_iff.mp ht) ⟨m,hmS,m1⟩
      have hb:may (us.map (·.2)) (some a,b)=true:=by
       simp only [may,Bool.and_eq_true,Bool.not_eq_true',decide_eq_false_iff_not,decide_eq_true_eq]
       exact ⟨g5,g4⟩
      have hf:(fr.take q.t).find? (may (us.map (·.2)))=some (on,m):=by
       rw [<- List.take_append_drop q.t fr,List.find?_append] at he
       cases z2:(fr.take q.t).find? (may (us.map (·.2))) with
       | none=>exact absurd hb (List.find?_eq_none.mp z2 _ g1)
       | some e2=>rw [z2] at he; simpa using he
      have:=h.shut q hq _ (List.mem_of_find?_eq_some hf)
      rw[this] at z;cases z
    simp[ht,old,this]
   ·have ht':a8h (us.map (·.2)) q.S=false:=by simpa using ht
    rw[if_neg ht] at old
    have:ent q.S (on,m)=true:=ent_iff.mpr ⟨hmS,λa ea z=>ht (touch_iff.mpr ⟨a,z,m2 a ea⟩)⟩
    simp[ht',old,this,hmS]
  ·have:ent q.S (on,m)=false:=by simp[ent,hmS]
   simp[old,this,hmS]
theorem b4r (ps:List Prc)(e:Ent):due ps e=(ps.map λq=>if ent q.S e=true then q.p else 0).sum:=by
 unfold due
 induction ps with
 | nil=>rfl
 | cons q r ih =>
  by_cases h:ent q.S e=true
  ·simp[List.filter_cons,h,<- ih]
  ·simp[List.filter_cons,h,<- ih]
theorem b6u {α:Type}(f g:α->Int):∀ l:List α,(l.map λx=>f x+g x).sum=(l.map f).sum+(l.map g).sum
 | []=>rfl
 | x :: r=>by simp only[List.map_cons,List.sum_cons,b6u f g r];lia
theorem b9o (ps:List Prc):∀ us:List Ent,(us.map (due ps)).sum=(ps.map λq=>q.p*(us.countP (ent q.S):Int)).sum
 | []=>by
  have:(ps.map λq=>q.p*(([]:List Ent).countP (ent q.S):Int))=ps.map λ_=>(0:Int):=List.map_congr_left λq _=>by simp
  rw[this]
  induction ps with
  | nil=>rfl
  | cons q r ih=>simpa using ih (by simp)
 | e :: us=>by
  rw[List.map_cons,List.sum_cons,b9o ps us,b4r,<- b6u]
  congr 1
  apply List.map_congr_left
  intro q _
  rw[List.countP_cons]
  by_cases h:ent q.S e=true
  ·simp[h,Int.mul_add];lia
  ·simp[h]
theorem Cnt.room {n:Nat}{E:List Ent}{sz:Ent->Int}{fr:List Ent}{ps:List Prc}{us:List Ent}(h:Lrm n E sz fr ps)(c:Cnt fr ps us)(ha:∀ m,m<n->m∈us.map (·.2)):(us.map sz).sum=(ps.map (·.p)).sum:=by
 have e1:us.map sz=us.map (due ps):=List.map_congr_left λe he=>((h.free e (h.sub e (c.sub e he))).mp (c.sub e he)).symm
 rw[e1,b9o]
 congr 1
 apply List.map_congr_left
 intro q hq
 have:a8h (us.map (·.2)) q.S=true:=by
  cases z:q.S with
  | nil=>exact absurd z (h.ne q hq)
  | cons m r=>exact touch_iff.mpr ⟨m,by simp,ha m (h.lt q hq m (by rw[z];simp))⟩
 rw[c.one q hq,if_pos this]
 simp
theorem c2t {fr:List Ent}{D:List Nat}{m:Nat}(hm:m ∉ D)(h:Anc fr m none):∃ e,fr.find? (may D)=some e:=by
 have go:∀ {x:Option Nat},Anc fr m x->(x=none ∨ ∃ a,x=some a/\a∈D)->∃ e∈fr,may D e=true:=by
  intro x hx
  induction hx with
  | refl =>
   rintro (z|⟨a,z,ha⟩)
   ·cases z
   ·cases z;exact absurd ha hm
  | @step on t h1 h2 ih =>
   intro z
   by_cases ht:t∈D
   ·exact ih (.inr ⟨t,rfl,ht⟩)
   ·refine⟨_,h2,?_⟩
    rcases z with rfl|⟨a,rfl,ha⟩<;>simp[*,may]
 obtain⟨e,h1,h2⟩:=go h (.inl rfl)
 cases z:fr.find? (may D) with
 | none=>exact absurd h2 (List.find?_eq_none.mp z e h1)
 | some e=>exact⟨e,rfl⟩
def ens (ls:List (Option Nat)):List Ent:=(List.range ls.length).map λm=>(ls.getD m none,m)
structure Rk (ls:List (Option Nat))(r:Nat->Nat):Prop where
 lt:∀ m,m<ls.length->r m<ls.length
 on:∀ m a,m<ls.length->ls.getD m none=some a->a<ls.length/\r a<r m
theorem mem_ens {ls:List (Option Nat)}{e:Ent}:e∈ens ls↔e.2<ls.length/\ls.getD e.2 none=e.1:=by
 unfold ens
 rw[List.mem_map]
 constructor
 ·rintro⟨m,hm,rfl⟩;exact⟨List.mem_range.mp hm,rfl⟩
 ·rintro⟨h1,h2⟩;exact⟨e.2,List.mem_range.mpr h1,by rw[h2]⟩
inductive Und (ls:List (Option Nat)) (m:Nat):Nat->Prop
 | refl:Und ls m m
 | step {o a:Nat}:ls.getD o none=some a->Und ls m a->Und ls m o
theorem c1g {l l':List Int}(h:l.Perm l'):l.sum=l'.sum:=by
 induction h with
 | nil=>rfl
 | cons x _ ih=>simp only[List.sum_cons,ih]
 | swap x y l=>simp only[List.sum_cons];lia
 | trans _ _ h1 h2=>exact h1.trans h2
theorem b9k (ls:List (Option Nat)):(ens ls).Nodup:=by
 unfold ens
 rw[List.Nodup,List.pairwise_map]
 exact List.nodup_range.imp λh e=>h (congrArg Prod.snd e)
theorem Cnt.lay {n:Nat}{fr:List Ent}{ps:List Prc}{us:List Ent}{ls:List (Option Nat)}(c:Cnt fr ps us)(hb:∀ e∈fr,e.2<n/\∀ a,e.1=some a->a<n)(hl:ls.length=n)(hat:∀ m,m<n->∃ e∈us,e.2=m/\ls[m]?=some e.1):(∃ r,Rk ls r)/\(ens ls).Perm us:=by
 have lt:∀ x∈us.map (·.2),x<n:=λx hx=>by
  obtain⟨e,he,rfl⟩:=List.mem_map.mp hx
  exact (hb e (c.sub e he)).1
 have inj:∀ {e f:Ent},e∈us->f∈us->e.2=f.2->e=f:=by
  have nd:=c.nd
  rw[List.Nodup,List.pairwise_map] at nd
  intro e f he hf z
  refine Classical.byContradiction λw=>?_
  obtain⟨l,r,rfl⟩:=List.append_of_mem he
  rw[List.pairwise_append] at nd
  rcases List.mem_append.mp hf with g|g
  ·exact nd.2.2 f g e (by simp) z.symm
  ·rcases List.mem_cons.mp g with g|g
   ·exact w g.symm
   ·exact (List.pairwise_cons.mp nd.2.1).1 f g z
 have at':∀ e,e∈us->ls.getD e.2 none=e.1:=λe he=>by
  obtain⟨f,hf,e1,e2⟩:=hat e.2 ((hb e (c.sub e he)).1)
  have:=inj hf he e1
  subst this
  rw[List.getD_eq_getElem?_getD,e2];rfl
 have mem:∀ e,e∈ens ls↔e∈us:=λe=>by
  rw[mem_ens]
  constructor
  ·rintro⟨h1,h2⟩
   obtain⟨f,hf,e1,e2⟩:=hat e.2 (by lia)
   have h3:=at' f hf
   rw[e1,h2] at h3
   have:e=f:=Prod.ext h3 e1.symm
   rw[this];exact hf
  ·intro he
   exact⟨by rw[hl];exact (hb e (c.sub e he)).1,at' e he⟩
 have ndu:us.Nodup:=by
  have:=c.nd
  rw[List.Nodup,List.pairwise_map] at this
  exact this.imp λh e=>h (congrArg Prod.snd e)
 refine⟨⟨λm=>(us.map (·.2)).idxOf m,λm hm=>?_,λm a hm e=>?_⟩,(List.perm_ext_iff_of_nodup (b9k ls) ndu).mpr mem⟩
 ·obtain⟨f,hf,e1,_⟩:=hat m (by lia)
  have h1:(us.map (·.2)).idxOf m<(us.map (·.2)).length:=List.idxOf_lt_length_of_mem (List.mem_map.mpr ⟨f,hf,e1⟩)
  have h2:=c.nd.length_le_of_subset (l₂:=List.range n) λx hx=>List.mem_range.mpr (lt x hx)
  rw[List.length_range] at h2
  rw[hl];lia
 ·have hu:((some a,m):Ent)∈us:=(mem _).mp (mem_ens.mpr ⟨hm,e⟩)
  refine⟨by rw[hl];exact (hb _ (c.sub _ hu)).2 a rfl,?_⟩
  obtain⟨l,r,el⟩:=List.append_of_mem hu
  have ha:=c.on l _ r el a rfl
  have nd:=c.nd
  rw[el,List.map_append] at nd ⊢
  have hm':m ∉ l.map (·.2):=λz=>(List.nodup_append.mp nd).2.2 _ z m (by simp) rfl
  rw[List.idxOf_append,if_pos ha,List.idxOf_append,if_neg hm']
  have:=List.idxOf_lt_length_of_mem ha
  lia
def Found (fr:List Ent) (m:Nat)(fs:List (Option Nat)):Prop:=fs.Nodup/\∀ x,x∈fs↔Anc fr m x
theorem Anc.trans {fr:List Ent}{m t:Nat}(h:Anc fr m (some t)):∀ {x:Option Nat},Anc fr t x->Anc fr m x:=by
 intro x hx
 induction hx with
 | refl=>exact h
 | step _ h2 ih=>exact .step ih h2
theorem d0f {n:Nat}{fr:List Ent}{F:Nat->List (Option Nat)}(hF:∀ m,m<n->Found fr m (F m))(hfr:∀ a t,(some a,t)∈fr->a<n){m:Nat}(hm:m<n)(h0:none ∉ F m)(hmin:∀ k,k<n->none ∉ F k->(F m).length<=(F k).length)
  {S:List Nat}(hup:S.Pairwise (· < ·))(hS:∀ a,a∈S↔some a∈F m):Src n fr S:=by
 have lt:∀ {x:Option Nat},Anc fr m x->∀ a,x=some a->a<n:=by
  intro x hx
  induction hx with
  | refl=>intro a e;cases e;exact hm
  | step _ h2 _=>intro a e;subst e;exact hfr _ _ h2
 refine⟨λz=>?_,hup,λa ha=>lt (((hF m hm).2 _).mp ((hS a).mp ha)) a rfl,λb hb x=>?_⟩
 ·have:=(hS m).mpr (((hF m hm).2 _).mpr .refl)
  rw[z] at this;cases this
 ·have ab:=((hF m hm).2 _).mp ((hS b).mp hb)
  have hbn:=lt ab b rfl
  have sub:∀ y,y∈F b->y∈F m:=λy hy=>((hF m hm).2 _).mpr (ab.trans (((hF b hbn).2 _).mp hy))
  have hlen:=hmin b hbn λz=>h0 (sub _ z)
  have sup:∀ y,y∈F m->y∈F b:=by
   have nd:=(hF b hbn).1
   intro y hy
   refine Classical.byContradiction λz=>?_
   have nd2:(y :: F b).Nodup:=List.nodup_cons.mpr ⟨z,nd⟩
   have:=nd2.length_le_of_subset (l₂:=F m) λw hw=>(List.mem_cons.mp hw).elim (λe=>e ▸ hy) (sub w)
   simp at this
   lia
  constructor
  ·intro hx
   have hx':=sub x (((hF b hbn).2 _).mpr hx)
   cases x with
   | none=>exact absurd hx' h0
   | some a=>exact⟨a,(hS a).mpr hx',rfl⟩
  ·rintro⟨a,ha,rfl⟩
   exact ((hF b hbn).2 _).mp (sup _ ((hS a).mp ha))
theorem a4q {α:Type}{f:α->FV}{g:α->D}{h:FV->Option D}(hf:∀ x,h (f x)=some (g x)):∀ xs:List α,a8y h (xs.map f)=some (xs.map g)
 | []=>rfl
 | x :: r=>by
  show ((h (f x)).bind λy=>(a8y h (r.map f)).map (y :: ·))=_
  rw[hf,a4q hf r];rfl
structure Cod {α:Type} [DecidableEq α] (f:α->FV)(g:α->D):Prop where
 d:∀ k x,fD (k+3) (f x)=some (g x)
 e:∀ x y,D.eqv (g x) (g y)=decide (x=y)
section
variable {α:Type} [DecidableEq α] {f:α->FV}{g:α->D}
theorem Cod.any (h:Cod f g)(x:α)(xs:List α):((xs.map g).any λy=>D.eqv y (g x))=decide (x∈xs):=by
 rw[List.any_map,Bool.eq_iff_iff]
 simp only[List.any_eq_true,Function.comp,h.e,decide_eq_true_eq]
 exact⟨λ⟨y,h1,h2⟩=>h2 ▸ h1,λh1=>⟨x,h1,rfl⟩⟩
theorem Cod.inL (h:Cod f g)(x:α)(xs:List α) [i:Decidable (x∈xs)] (R:Bool->Prop):wp (inF (f x) (.lst (xs.map f))) R↔R (decide (x∈xs)):=by
 have e:inF (f x) (.lst (xs.map f))=some (decide (x∈xs)):=by
  show ((fD (37+3) (f x)).bind λx=>((a8y (fD (36+3)) (xs.map f)).map D.lst).bind λy=>inD x y)=_
  rw[h.d,a4q (h.d 36)]
  exact congrArg some ((h.any x xs).trans (decide_eq_decide.mpr Iff.rfl))
 rw[e];exact Iff.rfl
theorem Cod.inT (h:Cod f g)(x:α)(xs:List α) [i:Decidable (x∈xs)] (R:Bool->Prop):wp (inF (f x) (.tup (xs.map f))) R↔R (decide (x∈xs)):=by
 have e:inF (f x) (.tup (xs.map f))=some (decide (x∈xs)):=by
  show ((fD (37+3) (f x)).bind λx=>((a8y (fD (36+3)) (xs.map f)).map D.tup).bind λy=>inD x y)=_
  rw[h.d,a4q (h.d 36)]
  exact congrArg some ((h.any x xs).trans (decide_eq_decide.mpr Iff.rfl))
 rw[e];exact Iff.rfl
theorem c8j {a b:FV}{x:D}(h:fD a0t a=some x):eqF a b=eqD a b:=by
 cases a with
 | shn y=>cases h
 | _=>rfl
theorem Cod.eq (h:Cod f g)(x y:α) [i:Decidable (x=y)] (R:Bool->Prop):wp (eqF (f x) (f y)) R↔R (decide (x=y)):=by
 have e:eqF (f x) (f y)=some (decide (x=y)):=by
  rw[c8j (h.d 37 x)]
  show ((fD (37+3) (f x)).bind λx=>(fD (37+3) (f y)).bind λy=>some (D.eqv x y))=_
  rw[h.d,h.d]
  exact congrArg some ((h.e x y).trans (decide_eq_decide.mpr Iff.rfl))
 rw[e];exact Iff.rfl
end
def a4i (e:Ent):FV:=.tup [a1g e.1,.int e.2]
def Rng (n:Nat)(fr:List Ent):Prop:=∀ e∈fr,e.2<n/\∀ a,e.1=some a->a<n
def inR (n:Nat) (x:Option Nat):Prop:=∀ a,x=some a->a<n
theorem b2p {n:Nat}{fs:List (Option Nat)}(nd:fs.Nodup)(h:∀ x∈fs,inR n x):fs.length<=n+1:=by
 have:=nd.length_le_of_subset (l₂:=none :: (List.range n).map some) λx hx=>by
  cases x with
  | none=>simp
  | some a=>simp[h _ hx a rfl]
 simpa using this
theorem b3h {n:Nat}{fr:List Ent}(hb:Rng n fr){m:Nat}(hm:m<n){x:Option Nat}(h:Anc fr m x):inR n x:=by
 cases h with
 | refl=>intro a e;cases e;exact hm
 | step _ h2=>exact (hb _ h2).2
structure Ldg (fr:List Ent) (m:Nat)(fs:List (Option Nat)) (at':Nat):Prop where
 nd:fs.Nodup
 me:some m∈fs
 anc:∀ x∈fs,Anc fr m x
 le:at'<=fs.length
 cl:∀ t,some t∈fs.take at'->∀ on,(on,t)∈fr->on∈fs
theorem Ldg.done {fr:List Ent}{m:Nat}{fs:List (Option Nat)}(h:Ldg fr m fs fs.length):Found fr m fs:=by
 refine⟨h.nd,λx=>⟨h.anc x,λhx=>?_⟩⟩
 induction hx with
 | refl=>exact h.me
 | step _ h2 ih=>exact h.cl _ (by rw[List.take_length];exact ih) _ h2
def c5n (fr:List Ent)(fs:List (Option Nat)) (x:Option Nat):List (Option Nat):=(fr.filter λe=>decide (some e.2=x) && !decide (e.1∈fs)).map (·.1)
theorem Ldg.step {fr:List Ent}(nd:fr.Nodup){m:Nat}{fs:List (Option Nat)}{k:Nat}(h:Ldg fr m fs k){x:Option Nat}(hx:fs[k]?=some x):Ldg fr m (fs++c5n fr fs x) (k+1):=by
 obtain⟨hk,ex⟩:=List.getElem?_eq_some_iff.mp hx
 have mem:∀ on,on∈c5n fr fs x↔(∃ t,x=some t/\(on,t)∈fr)/\on ∉ fs:=by
  intro on
  unfold c5n
  simp only[List.mem_map,List.mem_filter,Bool.and_eq_true,decide_eq_true_eq,Bool.not_eq_true',decide_eq_false_iff_not]
  constructor
  ·rintro⟨⟨o,t⟩,⟨h1,h2,h3⟩,rfl⟩;exact⟨⟨t,h2.symm,h1⟩,h3⟩
  ·rintro⟨⟨t,h1,h2⟩,h3⟩;exact⟨(on,t),⟨h2,h1.symm,h3⟩,rfl⟩
 refine⟨?_,by simp[h.me],λy hy=>?_,by simp;lia,λt ht on ho=>?_⟩
 ·refine List.nodup_append.mpr ⟨h.nd,?_,λa ha b hb e=>((mem b).mp hb).2 (e ▸ ha)⟩
  unfold c5n
  rw[List.Nodup,List.pairwise_map]
  refine (nd.filter _).imp_of_mem λ{a b} ha hb hne e=>hne ?_
  have h1:=(List.mem_filter.mp ha).2
  have h2:=(List.mem_filter.mp hb).2
  simp only[Bool.and_eq_true,decide_eq_true_eq] at h1 h2
  have:=h1.1.trans h2.1.symm
  exact Prod.ext e (by simpa using this)
 ·rcases List.mem_append.mp hy with hy|hy
  ·exact h.anc y hy
  ·obtain⟨⟨t,e,h2⟩,_⟩:=(mem y).mp hy
   exact .step (h.anc _ (by rw[<- e,<- ex];exact List.getElem_mem hk)) h2
 ·rw[List.take_append_of_le_length (by lia),<- List.take_append_getElem hk] at ht
  by_cases hf:on∈fs
  ·exact List.mem_append_left _ hf
  ·rcases List.mem_append.mp ht with ht|ht
   ·exact List.mem_append_left _ (h.cl t ht on ho)
   ·rw[ex] at ht
    simp at ht
    exact List.mem_append_right _ ((mem on).mpr ⟨⟨t,ht.symm,ho⟩,hf⟩)
def dLo:Option Nat->D|none=>.non|some a=>.int a
theorem codL:Cod a1g dLo:=⟨λk x=>by cases x<;>rfl,λx y=>by
 cases x<;>cases y<;>simp[dLo,D.eqv]
 rw[Bool.eq_iff_iff];simp;lia⟩
theorem c7q (d n:Nat){fr:List Ent}(nd:fr.Nodup)(hl:fr.length<=1000)(hb:Rng n fr)(hn:n<=60){m:Nat}(hm:m<n){Q:FV×FV->Prop}(q:∀ fs,Found fr m fs->Q (.lst (fs.map a1g),.non)):callW tb (d+1) 18 [.lst (fr.map a4i),.int m] Q:=by
 refine a0g (fd:=e1v) rfl rfl ?_
 simp[e1v,e3r]
 refine⟨by decide,?_⟩
 refine a8e (I:=λk L=>∃ fs at',k=n+1-at'/\Ldg fr m fs at'/\L=[some (.lst (fr.map a4i)),some (.int m),some (.lst (fs.map a1g)),some (.int (at':Nat))]) (λk L K h hK=>?_) (m:=n+1) ⟨[some m],0,rfl,⟨by simp,by simp,by simp;exact .refl,by simp,by simp⟩,rfl⟩
 obtain⟨fs,at',rfl,h,rfl⟩:=h
 have hle:=b2p h.nd λx hx=>b3h hb hm (h.anc x hx)
 simp
 refine a3z (λhk=>?_) λhk=>?_
 ·obtain⟨x,hx⟩:∃ x,fs[at']?=some x:=⟨_,List.getElem?_eq_getElem hk⟩
  have h2:=h.step nd hx
  have hle2:=b2p h2.nd λx hx=>b3h hb hm (h2.anc x hx)
  refine⟨by simp only[big];lia,?_⟩
  refine a1c (f:=a4i) (g:=λe=>a1g e.1) (p:=λe=>decide (some e.2=x) && !decide (e.1∈fs)) fr [] (λe he K N k1 k2=>?_) ?_
  ·simp[a4i]
   rw[a4x rfl (v:=a1g x) (by rw[List.getElem?_map,hx];rfl),show FV.int (e.2:Int)=a1g (some e.2) from rfl,codL.eq]
   refine a3z (λg1=>?_) λg1=>?_
   ·rw[codL.inL]
    refine a3z (λg2=>?_) λg2=>?_
    ·exact k2 (by simp[of_decide_eq_true g2])
    ·exact k1 (by rw[g1];simp[of_decide_eq_false (Bool.eq_false_iff.mpr g2)])
   ·exact k2 (by have g1:=Bool.eq_false_iff.mpr g1;rw[g1];rfl)
  ·simp
   have el:(c5n fr fs x).length=(List.filter (λe=>decide (some e.snd=x) && !decide (e.fst∈fs)) fr).length:=by simp[c5n]
   refine⟨by rw[<- el];simp only[List.length_append] at hle2;simp only[big];lia,?_⟩
   refine hK _ _ ?_ ⟨fs++c5n fr fs x,at'+1,rfl,h2,by simp[c5n,Function.comp_def]⟩
   lia
 ·have:at'=fs.length:=by have:=h.le;lia
  subst this
  exact q fs h.done
structure Few (fr:List Ent) (j:Nat)(fs:List (Option Nat))(F:Nat->List (Option Nat)):Prop where
 f:∀ k,k<j->Found fr k (F k)
 c:(fs=[]/\∀ k,k<j->none∈F k) ∨ ∃ m,m<j/\fs=F m/\none ∉ F m/\∀ k,k<j->none ∉ F k->(F m).length<=(F k).length
theorem Found.ne {fr:List Ent}{m:Nat}{fs:List (Option Nat)}(h:Found fr m fs):fs≠[]:=λz=>by
 have:=(h.2 (some m)).mpr .refl
 rw[z] at this;cases this
theorem Few.step {fr:List Ent}{j:Nat}{fs gs:List (Option Nat)}{F:Nat->List (Option Nat)}(h:Few fr j fs F)(hg:Found fr j gs):Few fr (j+1) (if none ∉ gs/\(fs=[] ∨ gs.length<fs.length) then gs else fs) λk=>if k=j then gs else F k:=by
 refine⟨λk hk=>?_,?_⟩
 ·by_cases e:k=j
  ·subst e;simp only[if_pos];exact hg
  ·rw[if_neg e];exact h.f k (by lia)
 ·have gj:∀ k,k<j->(if k=j then gs else F k)=F k:=λk hk=>if_neg (by lia)
  by_cases h0:none ∉ gs
  ·rcases h.c with⟨e,hz⟩|⟨m,hm,e,hn,hl⟩
   ·rw[if_pos ⟨h0,.inl e⟩]
    refine .inr ⟨j,by lia,by simp,by simpa using h0,λk hk hkn=>?_⟩
    by_cases ek:k=j
    ·subst ek;exact Γi _
    ·exact absurd (hz k (by lia)) (by rw[gj k (by lia)] at hkn;exact hkn)
   ·have hne:fs≠[]:=e ▸ (h.f m hm).ne
    by_cases hlt:gs.length<fs.length
    ·rw[if_pos ⟨h0,.inr hlt⟩]
     refine .inr ⟨j,by lia,by simp,by simpa using h0,λk hk hkn=>?_⟩
     by_cases ek:k=j
     ·subst ek;exact Γi _
     ·rw[gj k (by lia)] at hkn ⊢
      have:=hl k (by lia) hkn
      rw[if_pos rfl]
      rw[e] at hlt;lia
    ·rw[if_neg (by rintro⟨_,z|z⟩;exact hne z;exact hlt z)]
     refine .inr ⟨m,by lia,by rw[gj m hm];exact e,by rw[gj m hm];exact hn,λk hk hkn=>?_⟩
     rw[gj m hm]
     by_cases ek:k=j
     ·rw[if_pos ek,<- e];lia
     ·rw[gj k (by lia)] at hkn ⊢
      exact hl k (by lia) hkn
  ·rw[if_neg λz=>h0 z.1]
   have hin:none∈gs:=Classical.byContradiction h0
   rcases h.c with⟨e,hz⟩|⟨m,hm,e,hn,hl⟩
   ·refine .inl ⟨e,λk hk=>?_⟩
    by_cases ek:k=j
    ·rw[if_pos ek];exact hin
    ·rw[if_neg ek];exact hz k (by lia)
   ·refine .inr ⟨m,by lia,by rw[gj m hm];exact e,by rw[gj m hm];exact hn,λk hk hkn=>?_⟩
    rw[gj m hm]
    by_cases ek:k=j
    ·rw[if_pos ek] at hkn;exact absurd hin hkn
    ·rw[gj k (by lia)] at hkn ⊢
     exact hl k (by lia) hkn
theorem b3w:∀ {fs:List (Option Nat)},none ∉ fs->∃ S:List Nat,fs=S.map some
 | [],_=>⟨[],rfl⟩
 | none :: r,h=>absurd (by simp) h
 | some a :: r,h=>let ⟨S,e⟩:=b3w (fs:=r) λz=>h (by simp[z]);⟨a :: S,by rw[e];rfl⟩
theorem c3b (S:List Nat):a0v (S.map λi:Nat=>FV.int i)=some (S.map λi:Nat=>(i:Int))
:=by
 induction S with
 | nil=>rfl
 | cons a r ih=>show (a0v (r.map λi:Nat=>FV.int i)).map ((a:Int) :: ·)=_;rw[ih];rfl
theorem c1i {S:List Nat}{ms:List Int}(nd:S.Nodup)(hp:ms.Perm (S.map λi:Nat=>(i:Int)))(hs:ms.Pairwise (·<=·)):∃ T:List Nat,ms=T.map (λi:Nat=>(i:Int))/\T.Pairwise (· < ·)/\∀ a,a∈T↔a∈S:=by
 refine⟨ms.map Int.toNat,?_,?_,λa=>?_⟩
 ·rw[List.map_map]
  conv=>lhs;rw[<- List.map_id ms]
  refine List.map_congr_left λx hx=>?_
  obtain⟨i,_,e⟩:=List.mem_map.mp (hp.mem_iff.mp hx)
  simp only[id,Function.comp];lia
 ·rw[List.pairwise_map]
  have n2:ms.Nodup:=hp.nodup_iff.mpr (by rw[List.Nodup,List.pairwise_map];exact nd.imp λh e=>h (by lia))
  refine (hs.and n2).imp_of_mem λ{a b} ha hb h=>?_
  obtain⟨i,_,e⟩:=List.mem_map.mp (hp.mem_iff.mp ha)
  obtain⟨j,_,e2⟩:=List.mem_map.mp (hp.mem_iff.mp hb)
  have h1:=h.1
  have h2:a≠b:=h.2
  lia
 ·rw[List.mem_map]
  constructor
  ·rintro⟨x,hx,rfl⟩
   obtain⟨i,hi,e⟩:=List.mem_map.mp (hp.mem_iff.mp hx)
   rw[<- e];simpa using hi
  ·intro h
   exact⟨(a:Int),hp.mem_iff.mpr (List.mem_map.mpr ⟨a,h,rfl⟩),by simp⟩
theorem c7f (d n:Nat){fr:List Ent}(nd:fr.Nodup)(hl:fr.length<=1000)(hb:Rng n fr)(hn:n<=60){Q:FV×FV->Prop}(q0:(∀ m,m<n->Anc fr m none)->Q (.tup [],.non))(q1:∀ S,Src n fr S->Q (.tup (S.map λi:Nat=>.int i),.non)):callW tb (d+2) 17 [.int n,.lst (fr.map a4i)] Q:=by
 refine a0g (fd:=e1w) rfl rfl ?_
 simp[e1w,e3s]
 refine⟨a0l (by lia) (by lia),?_⟩
 refine a2i (I:=λj L=>∃ fs F x y,Few fr j fs F/\L=[some (FV.int n),some (FV.lst (fr.map a4i)),some (.lst (fs.map a1g)),x,y]) n 0 _ ⟨[],λ_=>[],none,none,⟨λk hk=>by lia,.inl ⟨rfl,λk hk=>by lia⟩⟩,rfl⟩ (λj L K _ hj hI hK=>?_) λL hI=>?_
 ·obtain⟨fs,F,x,y,hF,rfl⟩:=hI
  simp
  refine c7q d n nd hl hb hn (by lia) λgs hg=>?_
  simp
  rw[show FV.non=a1g none from rfl,codL.inL]
  have hs:=hF.step hg
  have A:K [some (FV.int n),some (FV.lst (fr.map a4i)),some (.lst ((if none ∉ gs/\(fs=[] ∨ gs.length<fs.length) then gs else fs).map a1g)),some (FV.int j),some (.lst (gs.map a1g))]:=hK _ ⟨_,_,_,_,hs,rfl⟩
  refine a3z (λg=>?_) λg=>?_
  ·rw[if_neg λz=>z.1 (of_decide_eq_true g)] at A;exact A
  ·have g:none ∉ gs:=of_decide_eq_false (Bool.eq_false_iff.mpr g)
   refine a3z (λg2=>?_) λg2=>?_
   ·rw[if_pos ⟨g,.inl g2⟩] at A;exact A
   ·refine a3z (λg3=>?_) λg3=>?_
    ·rw[if_pos ⟨g,.inr g3⟩] at A;exact A
    ·rw[if_neg (by rintro⟨_,z|z⟩;exact g2 z;exact g3 z)] at A;exact A
 ·obtain⟨fs,F,x,y,hF,rfl⟩:=hI
  simp only[Nat.zero_add] at hF
  have hS:∃ S:List Nat,fs=S.map some:=by
   rcases hF.c with⟨e,_⟩|⟨m,_,e,h0,_⟩
   ·exact⟨[],e⟩
   ·exact b3w (e ▸ h0)
  obtain⟨S,rfl⟩:=hS
  have ndS:S.Nodup:=by
   rcases hF.c with⟨e,_⟩|⟨m,hm,e,h0,_⟩
   ·rw[List.map_eq_nil_iff.mp e];exact List.nodup_nil
   ·have:=(hF.f m hm).1
    rw[<- e,List.Nodup,List.pairwise_map] at this
    exact this.imp λh z=>h (congrArg some z)
  have hlen:S.length<=n+1:=by
   have:=b2p (n:=n) (fs:=S.map some) (by rw[List.Nodup,List.pairwise_map];exact ndS.imp λh z=>h (Option.some.inj z)) λx hx=>by
    rcases hF.c with⟨e,_⟩|⟨m,hm,e,h0,_⟩
    ·rw[e] at hx;cases hx
    ·exact b3h hb hm (((hF.f m hm).2 x).mp (e ▸ hx))
   simpa using this
  simp
  rw[show List.map (a1g ∘ some) S=S.map λi:Nat=>FV.int i from rfl,c3b,a0q]
  refine⟨by simp;lia,λms hp hs=>?_⟩
  obtain⟨T,rfl,hup,hmem⟩:=c1i ndS hp hs
  rw[List.map_map]
  rcases hF.c with⟨e,hz⟩|⟨m,hm,e,h0,hmin⟩
  ·have hT:T=[]:=by
    cases T with
    | nil=>rfl
    | cons a r =>
     have:=(hmem a).mp (by simp)
     rw[List.map_eq_nil_iff.mp e] at this;cases this
   rw[hT]
   exact q0 λk hk=>((hF.f k hk).2 none).mp (hz k hk)
  ·exact q1 T (d0f hF.f (λa t h=>(hb _ h).2 a rfl) hm h0 hmin hup λa=>by rw[hmem a,<- e];simp)
def kE (e:Ent):List (Option Int):=[e.1.map λa:Nat=>(a:Int),some (e.2:Int)]
theorem b4g {a b:Ent}(h:kE a=kE b):a=b:=by
 obtain⟨a1,a2⟩:=a
 obtain⟨b1,b2⟩:=b
 simp only[kE,List.cons.injEq,Option.some.injEq,and_true] at h
 obtain⟨h1,h2⟩:=h
 have:a2=b2:=by lia
 subst this
 cases a1<;>cases b1<;>simp at h1<;>first|rfl|(have:=h1;congr 2;lia)
def dn (z:Option PySem.Obj)(E:List Ent)(f:Ent->Int):FV:=.dcn z (E.map kE) (E.map λe=>.int (f e))
theorem a8s (e:Ent)(Q:List (Option Int)->Prop):wp (a2r [a1g e.1,.int e.2]) Q↔Q (kE e):=by
 obtain⟨a,b⟩:=e
 cases a<;>simp[a1g,kE]
theorem c7v (e:Ent):d2v (kE e)=a4i e:=by
 obtain⟨a,b⟩:=e
 cases a<;>rfl
theorem b4m {f:Ent->Int}{e:Ent}:∀ {E:List Ent},e∈E->a3a (E.map kE) (E.map λe=>FV.int (f e)) (kE e)=some (.int (f e))
 | x :: r,h=>by
  show (if kE x=kE e then some (FV.int (f x)) else a3a (r.map kE) (r.map λe=>FV.int (f e)) (kE e))=_
  by_cases z:x=e
  ·subst z;rw[if_pos rfl]
  ·rw[if_neg λh=>z (b4g h)]
   exact b4m ((List.mem_cons.mp h).resolve_left λy=>z y.symm)
open Classical in
theorem d0z {f:Ent->Int}{e:Ent}{v:Int}{E:List Ent}(h:e∈E):a1x (E.map kE) (E.map λe=>FV.int (f e)) (kE e) (.int v)=(E.map kE,E.map λx=>FV.int (if x=e then v else f x)):=by
 unfold a1x
 rw[if_pos (List.mem_map_of_mem h)]
 congr 1
 clear h
 induction E with
 | nil=>rfl
 | cons x r ih =>
  simp only[List.map_cons,List.zipWith_cons_cons,ih]
  by_cases z:x=e
  ·subst z;simp
  ·rw[if_neg λh=>z (b4g h),if_neg z]
theorem c6i {f:Ent->Int}{e:Ent}{E:List Ent}(h:e ∉ E):a1x (E.map kE) (E.map λe=>FV.int (f e)) (kE e) (.int (f e))=((E++[e]).map kE,(E++[e]).map λx=>FV.int (f x)):=by
 unfold a1x
 rw[if_neg λz=>by obtain⟨y,h1,h2⟩:=List.mem_map.mp z;exact h (b4g h2 ▸ h1)]
 simp
def a7i (n:Nat)(cs:List Chg):List Ent:=(List.range n).map (λm=>(none,m))++cs.map λc=>(some c.1,c.2.1)
theorem c3o (d:Nat){ws:List Int}{cs:List Chg}{sz:Ent->Int}(hn:ws.length<=60)(hc:cs.length<=500)(nd:(a7i ws.length cs).Nodup)(h1:∀ m (h:m<ws.length),sz (none,m)=ws[m])(h2:∀ c∈cs,sz (some c.1,c.2.1)=c.2.2){Q:FV×FV->Prop}(q:Q (dn none (a7i ws.length cs) sz,.non)):callW tb (d+1) 16 [a3j ws cs] Q:=by
 refine a0g (fd:=e1x) rfl rfl ?_
 simp[e1x,e3t,a3j]
 have ep:a2q (upF 0 ws.length) (ws.map .int)=(List.range ws.length).map λm:Nat=>FV.tup [.int (m:Int),.int (sz (none,m))]:=by
  rw[a1s]
  apply List.ext_getElem
  ·simp[a2q]
  ·intro i g1 g2
   simp[a2q] at g2 ⊢
   exact (h1 i g2).symm
 rw[ep]
 refine⟨by simp[big];lia,?_⟩
 have n1:((List.range ws.length).map λm=>((none,m):Ent)).Nodup:=(List.nodup_append.mp nd).1
 refine b1j (f:=λm:Nat=>FV.tup [.int (m:Int),.int (sz (none,m))]) (g:=λm=>kE (none,m)) (h:=λm=>FV.int (sz (none,m))) (List.range ws.length) [] [] (by simp) ?_ (λm hm K k=>?_) ?_
 ·rw[List.Nodup,List.pairwise_map] at n1 ⊢
  exact n1.imp λh z=>h (b4g z)
 ·simp
  exact⟨by decide,k⟩
 ·simp
  refine a2j (f:=a9o) (I:=λdone L=>∃ x y z,L=[some (FV.tup [FV.tup (ws.map .int),FV.tup (cs.map a9o)]),some (dn none (a7i ws.length done) sz),x,y,z]) cs cs [] _ rfl ⟨none,none,none,by simp[a7i,dn,Function.comp_def]⟩ (λdd c r L K e hI hK=>?_) λL hI=>?_
  ·obtain⟨x,y,z,rfl⟩:=hI
   have hin:c∈cs:=by rw[e];simp
   have hne:((some c.1,c.2.1):Ent) ∉ a7i ws.length dd:=by
    rw[e,a7i,List.map_append,List.map_cons,<- List.append_assoc] at nd
    exact λz=>(List.nodup_append.mp nd).2.2 _ z _ (by simp) rfl
   have hl:(a7i ws.length dd).length<big:=by
    have:dd.length<=cs.length:=by rw[e];simp
    simp[a7i,big];lia
   have hp:=c6i (f:=sz) hne
   rw[h2 c hin] at hp
   simp[a9o,dn]
   refine⟨by decide,by simpa using hl,?_⟩
   rw[show [some ((c.1:Nat):Int),some ((c.2.1:Nat):Int)]=kE (some c.1,c.2.1) from rfl,hp]
   exact hK _ ⟨some (FV.int c.1),some (FV.int c.2.1),some (FV.int c.2.2),by simp[a7i,dn]⟩
  ·obtain⟨x,y,z,rfl⟩:=hI
   simp
   exact q
def d2q (us:List Ent):FV:=.dci (us.map λe=>(e.2:Int)) (us.map λe=>a1g e.1)
theorem b4l {e:Ent}:∀ {us:List Ent},(us.map (·.2)).Nodup->e∈us->a3a (us.map λe=>(e.2:Int)) (us.map λe=>a1g e.1) (e.2:Int)=some (a1g e.1)
 | x :: r,nd,h=>by
  show (if (x.2:Int)=e.2 then some (a1g x.1) else a3a (r.map λe=>(e.2:Int)) (r.map λe=>a1g e.1) (e.2:Int))=_
  simp only[List.map_cons,List.nodup_cons] at nd
  rcases List.mem_cons.mp h with rfl|h
  ·rw[if_pos rfl]
  ·rw[if_neg λz=>nd.1 (List.mem_map.mpr ⟨e,h,by lia⟩)]
   exact b4l nd.2 h
theorem b2q {n:Nat}{D:List Nat}(nd:D.Nodup)(h:∀ x∈D,x<n):D.length<=n:=by
 have:=nd.length_le_of_subset (l₂:=List.range n) λx hx=>List.mem_range.mpr (h x hx)
 simpa using this
theorem c4b {n:Nat}{D:List Nat}(nd:D.Nodup)(h:∀ x∈D,x<n)(hl:n<=D.length){m:Nat}(hm:m<n):m∈D:=by
 refine Classical.byContradiction λz=>?_
 have:=b2q (n:=n) (D:=m :: D) (List.nodup_cons.mpr ⟨z,nd⟩) λx hx=>(List.mem_cons.mp hx).elim (λe=>e ▸ hm) (h x)
 simp at this;lia
theorem c7s (d n:Nat){E:List Ent}{sz:Ent->Int}{fr:List Ent}{ps:List Prc}(H:Lrm n E sz fr ps)(hl:fr.length<=1000)(hb:Rng n fr)(hn:n<=60)(ha:∀ m,m<n->Anc fr m none){Q:FV×FV->Prop}(q:∀ us,Cnt fr ps us->(∀ m,m<n->m∈us.map (·.2))->(∀ ls:List (Option Nat),ls.length=n->(∀ m,m<n->∃ e∈us,e.2=m/\ls[m]?=some e.1)->Q (.tup (ls.map a1g),.non))):callW tb (d+1) 19 [.int n,.lst (fr.map a4i)] Q:=by
 refine a0g (fd:=e1u) rfl rfl ?_
 simp[e1u,e3q]
 refine a8e (I:=λk L=>∃ us x y,k=n-us.length/\Cnt fr ps us/\L=[some (.int n),some (.lst (fr.map a4i)),some (d2q us),x,y]) (λk L K h hK=>?_) (m:=n) ⟨[],none,none,rfl,⟨⟨by simp,by simp,by simp⟩,λq hq=>by simp[a8h]⟩,rfl⟩
 obtain⟨us,x,y,rfl,h,rfl⟩:=h
 have lt:∀ x∈us.map (·.2),x<n:=λx hx=>by
  obtain⟨e,he,rfl⟩:=List.mem_map.mp hx
  exact (hb e (h.sub e he)).1
 have hle:=b2q h.nd lt
 simp[d2q]
 refine a3z (λhk=>?_) λhk=>?_
 ·obtain⟨m,hm,hmD⟩:∃ m,m<n/\m ∉ us.map (·.2):=by
   refine Classical.byContradiction λz=>?_
   have:∀ m∈List.range n,m∈us.map (·.2):=λm hm=>Classical.byContradiction λw=>z ⟨m,List.mem_range.mp hm,w⟩
   have:=List.nodup_range.length_le_of_subset this
   simp at this;lia
  obtain⟨e,he⟩:=c2t hmD (ha m hm)
  have hstep:=h.step H he
  have m1:e.2 ∉ us.map (·.2):=by
   have:=List.find?_some he
   simp only[may,Bool.and_eq_true,Bool.not_eq_true',decide_eq_false_iff_not] at this
   exact this.1
  have memI:∀ a:Nat,(a:Int)∈us.map (λe=>(e.2:Int))↔a∈us.map (·.2):=λa=>by
   simp only[List.mem_map]
   exact⟨λ⟨e,h1,h2⟩=>⟨e,h1,by lia⟩,λ⟨e,h1,h2⟩=>⟨e,h1,by lia⟩⟩
  refine⟨by simp only[big];lia,?_⟩
  refine a1c (f:=a4i) (g:=a4i) (p:=may (us.map (·.2))) fr [] (λc hc K N k1 k2=>?_) ?_
  ·obtain⟨on,t⟩:=c
   cases on with
   | none =>
    show gW _ (FV.tup [.non,.int (t:Int)]) _ _
    simp
    refine a3z (λg=>k1 ?_) λg=>k2 ?_
    ·simp only[Bool.not_eq_true',decide_eq_false_iff_not,memI] at g
     simp only[may,g];simp
    ·simp only[Bool.not_eq_true',decide_eq_false_iff_not,memI,Classical.not_not] at g
     simp only[may,g];simp
   | some a =>
    show gW _ (FV.tup [.int (a:Int),.int (t:Int)]) _ _
    simp
    refine a3z (λg=>a3z (λg'=>k1 ?_) λg'=>k2 ?_) λg=>k2 ?_
    ·simp only[Bool.not_eq_true',decide_eq_false_iff_not,memI] at g
     simp only[decide_eq_true_eq,memI] at g'
     simp only[may,g,g'];simp
    ·simp only[decide_eq_true_eq,memI] at g'
     simp only[may,g'];simp
    ·simp only[Bool.not_eq_true',decide_eq_false_iff_not,memI,Classical.not_not] at g
     simp only[may,g];simp
  ·obtain⟨r,er⟩:∃ r,fr.filter (may (us.map (·.2)))=e :: r:=by
    have:=List.head?_filter (p:=may (us.map (·.2))) (l:=fr)
    rw[he] at this
    cases z:fr.filter (may (us.map (·.2))) with
    | nil=>rw[z] at this;cases this
    | cons x r=>rw[z] at this;cases this;exact⟨r,rfl⟩
   rw[er]
   simp[a4i]
   have hp:a1x (us.map λe=>(e.2:Int)) (us.map λe=>a1g e.1) (e.2:Int) (a1g e.1)=((us++[e]).map (λe=>(e.2:Int)),(us++[e]).map λe=>a1g e.1):=by
    unfold a1x
    rw[if_neg λz=>m1 ((memI e.2).mp z)]
    simp
   rw[hp]
   refine⟨by simp only[big];lia,hK _ _ ?_ ⟨us++[e],some (a1g e.1),some (.int e.2),rfl,hstep,rfl⟩⟩
   simp;lia
 ·have hall:∀ m,m<n->m∈us.map (·.2):=λm hm=>c4b h.nd lt (by simp;lia) hm
  refine⟨a0l (by lia) (by lia),by simp[a1s,big];lia,?_⟩
  rw[a1s]
  have at':∀ m,m<n->∃ e∈us,e.2=m/\(us.find? λe=>decide (e.2=m))=some e:=λm hm=>by
   obtain⟨e,he,em⟩:=List.mem_map.mp (hall m hm)
   cases z:us.find? λe=>decide (e.2=m) with
   | none=>exact absurd (decide_eq_true em) (List.find?_eq_none.mp z e he)
   | some e'=>exact⟨e',List.mem_of_find?_eq_some z,by simpa using List.find?_some z,rfl⟩
  refine a0m (f:=λm:Nat=>FV.int (m:Int)) (g:=λm=>a1g (((us.find? λe=>decide (e.2=m)).map (·.1)).getD none)) (List.range n) [] (λm hm K k=>?_) ?_
  ·obtain⟨e,he,em,ef⟩:=at' m (List.mem_range.mp hm)
   rw[ef] at k
   simp
   rw[<- em,b4l h.nd he,a0q]
   exact k
  ·have:=q us h hall ((List.range n).map λm=>((us.find? λe=>decide (e.2=m)).map (·.1)).getD none) (by simp) λm hm=>by
    obtain⟨e,he,em,ef⟩:=at' m hm
    exact⟨e,he,em,by simp[hm,ef]⟩
   simpa[Function.comp_def] using this
theorem codI:Cod FV.int D.int:=⟨λk x=>rfl,λx y=>by rw[Bool.eq_iff_iff];simp[D.eqv]⟩
def b4p (q:Prc):FV:=.tup [.tup (q.S.map λi:Nat=>.int i),.int q.p]
theorem b8w {S:List Nat}{x:Option Nat}{R:Bool->Prop}:wp (inF (a1g x) (.tup (S.map λi:Nat=>FV.int i))) R↔R (decide (x∈S.map some)):=by
 have:=codL.inT x (S.map some) R
 rw[List.map_map] at this
 exact this
theorem a9g (S:List Nat)(e:Ent):ent S e=(decide (some e.2∈S.map some) && !decide (e.1∈S.map some)):=by
 obtain⟨on,t⟩:=e
 cases on<;>simp[ent]
def Nxt (n:Nat)(fr:List Ent)(S:List Nat):Prop:=(S=[]/\∀ m,m<n->Anc fr m none) ∨ Src n fr S
structure Est (n:Nat)(E:List Ent)(sz:Ent->Int):Prop where
 nd:E.Nodup
 rg:Rng n E
 who:∀ m,m<n->(none,m)∈E
 pos:∀ e∈E,0<sz e
 bd:∀ e∈E,sz e<=100000000000
 le:E.length<=560
theorem d3v {ps:List Prc}(h:∀ q∈ps,0<q.p)(e:Ent):0<=due ps e:=by
 rw[b4r]
 induction ps with
 | nil=>simp
 | cons q r ih =>
  have:=ih λx hx=>h x (by simp[hx])
  have:=h q (by simp)
  simp only[List.map_cons,List.sum_cons]
  split<;>lia
theorem c3s {z:Option PySem.Obj}{E:List Ent}{f g:Ent->Int}(h:∀ e∈E,f e=g e):dn z E f=dn z E g:=by
 unfold dn
 congr 1
 exact List.map_congr_left λe he=>by rw[h e he]
theorem c5g {e:Ent}{q:Prc}(he:ent q.S e=true):∀ {ps:List Prc},(∀ q∈ps,0<q.p)->q∈ps->q.p<=due ps e
 | r :: ps,h,hq=>by
  have e0:due (r :: ps) e=(if ent r.S e=true then r.p else 0)+due ps e:=by rw[b4r,b4r];rfl
  have h1:=d3v (λx hx=>h x (by simp[hx]):∀ x∈ps,0<x.p) e
  have h2:=h r (by simp)
  rw[e0]
  rcases List.mem_cons.mp hq with rfl|hq
  ·rw[if_pos he];lia
  ·have:=c5g he (λx hx=>h x (by simp[hx])) hq
   split<;>lia
theorem d2h (S:List Nat):noL (.tup (S.map λi:Nat=>.int i))=true:=by
 have:=a8w (f:=λi:Nat=>FV.int i) (λi=>by simp) S
 simp only[noL,this]
theorem d2g (S:List (Option Nat)):noL (.tup (S.map a1g))=true:=by
 have:=a8w (f:=a1g) (λi=>by cases i<;>simp[a1g,noL]) S
 simp only[noL,this]
theorem c4y (d n:Nat){fr:List Ent}(nd:fr.Nodup)(hl:fr.length<=1000)(hb:Rng n fr)(hn:n<=60){Q:FV×FV->Prop}(q:∀ S,Nxt n fr S->Q (.tup (S.map λi:Nat=>.int i),.non)):callW tb (d+2) 17 [.int n,.lst (fr.map a4i)] Q:=c7f d n nd hl hb hn (λh=>q [] (.inl ⟨rfl,h⟩)) λS h=>q S (.inr h)
theorem c6c (d:Nat){ws:List Int}{cs:List Chg}{sz:Ent->Int}(hn:ws.length<=60)(hc:cs.length<=500)(h1:∀ m (h:m<ws.length),sz (none,m)=ws[m])(h2:∀ c∈cs,sz (some c.1,c.2.1)=c.2.2)(G:Est ws.length (a7i ws.length cs) sz){Q:FV×FV->Prop}
  (q:∀ (fr:List Ent)(ps:List Prc)(us:List Ent)(ls:List (Option Nat)),Lrm ws.length (a7i ws.length cs) sz fr ps->Cnt fr ps us->(∀ m,m<ws.length->m∈us.map (·.2))->ls.length=ws.length->(∀ m,m<ws.length->∃ e∈us,e.2=m/\ls[m]?=some e.1)->ps.length<=(a7i ws.length cs).length->Q (.tup [.int (ps.map (·.p)).sum,.tup (ls.map a1g),.lst (ps.map b4p)],.non)):callW tb (d+3) 15 [a3j ws cs] Q:=by
 refine a0g (fd:=e1y) rfl rfl ?_
 simp[e1y,e3u]
 rw[show ∀ Q:List FV->Prop,wp (a4k (a3j ws cs)) Q↔Q [.tup (ws.map .int),.tup (cs.map a9o)] from λ_=>Iff.rfl]
 simp
 refine c3o (d+1) hn hc G.nd h1 h2 ?_
 generalize eE:a7i ws.length cs=E at G q
 generalize en:ws.length=n at hn G q
 have gle:=G.le
 simp
 refine c4y d n (fr:=[]) (by simp) (by simp) (λe he=>nomatch he) hn λS0 hS0=>?_
 simp
 refine⟨d2h S0,?_⟩
 refine a8e (I:=λk L=>∃ fr ps S x y z,k=E.length-fr.length/\Lrm n E sz fr ps/\Nxt n fr S/\ps.length<=fr.length/\L=[some (a3j ws cs),some (.int n),some (dn none E λe=>sz e-due ps e),some (.lst (fr.map a4i)),some (.lst (ps.map b4p)),some (.tup (S.map λi:Nat=>.int i)),x,y,z]) (λk L K h hK=>?_) (m:=E.length) ⟨[],[],S0,none,none,none,rfl,.start G.pos,hS0,by simp,by simp[due]⟩
 obtain⟨fr,ps,S,x,y,z,rfl,h,hS,hpf,rfl⟩:=h
 have hfl:fr.length<=E.length:=h.nd.length_le_of_subset h.sub
 simp
 refine a3z (λhz=>?_) λhz=>?_
 ·have ha:∀ m,m<n->Anc fr m none:=by
   rcases hS with⟨_,h⟩|h
   ·exact h
   ·exact absurd hz h.ne
  refine⟨by simp only[big];lia,?_⟩
  refine a0m (f:=b4p) (g:=λq=>.int q.p) ps [] (λq hq K k=>?_) ?_
  ·simp[b4p]
   exact k
  ·rw[List.nil_append,show (ps.map λq=>FV.int q.p)=(ps.map (·.p)).map .int by rw[List.map_map];rfl]
   rw[a4a,a0q]
   simp
   refine c7s (d+1) n h (by lia) (λe he=>G.rg e (h.sub e he)) hn ha λus c hall ls hls hat=>?_
   exact⟨d2g ls,by decide,q fr ps us ls h c hall hls hat (by lia)⟩
 ·have hS:Src n fr S:=hS.resolve_left λz=>hz z.1
  obtain⟨m0,hm0⟩:∃ m,m∈S:=List.exists_mem_of_ne_nil S hz
  rw[show (dn none E λe=>sz e-due ps e)=.dcn none (E.map kE) (E.map λe=>.int (sz e-due ps e)) from rfl]
  dsimp only
  intro o
  refine⟨by simp[big];lia,?_⟩
  rw[List.map_map,show (d2v ∘ kE)=a4i from funext c7v]
  refine a1c (f:=a4i) (g:=a4i) (p:=ent S) E [] (λe he K N k1 k2=>?_) ?_
  ·simp[a4i]
   rw[show FV.int (e.2:Int)=a1g (some e.2) from rfl,b8w]
   refine a3z (λg1=>?_) λg1=>?_
   ·rw[b8w]
    refine a3z (λg2=>k2 ?_) λg2=>⟨by decide,k1 ?_⟩
    ·rw[a9g,g1,g2];rfl
    ·rw[a9g,g1,Bool.eq_false_iff.mpr g2];rfl
   ·exact k2 (by rw[a9g,Bool.eq_false_iff.mpr g1];rfl)
  ·have hEs:∀ e,e∈E.filter (ent S)↔e∈E/\ent S e=true:=λe=>List.mem_filter
   have ndEs:(E.filter (ent S)).Nodup:=G.nd.filter _
   have lEs:(E.filter (ent S)).length<=E.length:=List.length_filter_le _ _
   have neEs:(none,m0)∈E.filter (ent S):=(hEs _).mpr ⟨G.who m0 (hS.lt m0 hm0),ent_iff.mpr ⟨hm0,λa e=>nomatch e⟩⟩
   have fEs:∀ p,(E.filter λe=>ent S e && decide (sz e-due ps e=p))=(E.filter (ent S)).filter λe=>decide (sz e-due ps e=p):=λp=>by
    rw[List.filter_filter]
    congr 1
    funext e
    exact Bool.and_comm _ _
   have hst:=λp h1 h2=>h.step (p:=p) hS G.nd h1 h2
   simp only[fEs] at hst
   simp
   generalize E.filter (ent S)=Es at hEs ndEs lEs neEs hst ⊢
   refine⟨by simp only[big];lia,?_⟩
   refine a0m (f:=a4i) (g:=λe=>.int (sz e-due ps e)) Es [] (λe he K k=>?_) ?_
   ·simp[a4i]
    rw[a8s,b4m ((hEs e).mp he).1,a0q]
    exact k
   ·obtain⟨e0,r0,e1⟩:∃ e0 r0,Es=e0 :: r0:=by
     cases Es with
     | nil=>cases neEs
     | cons a b=>exact⟨a,b,rfl⟩
    rw[List.nil_append,show (Es.map λe=>FV.int (sz e-due ps e))=(Es.map λe=>sz e-due ps e).map .int by rw[List.map_map];rfl,c7k (x:=sz e0-due ps e0) (r:=r0.map λe=>sz e-due ps e) (by rw[e1];rfl)]
    have hin:=b0n (r0.map λe=>sz e-due ps e) (sz e0-due ps e0)
    have hle:=b0m (r0.map λe=>sz e-due ps e) (sz e0-due ps e0)
    generalize a2b (sz e0-due ps e0) (r0.map λe=>sz e-due ps e)=p at hin hle ⊢
    have hle':∀ e∈Es,p<=sz e-due ps e:=λe he=>by
     rw[e1] at he
     rcases List.mem_cons.mp he with rfl|he
     ·exact hle.1
     ·exact hle.2 _ (List.mem_map.mpr ⟨e,he,rfl⟩)
    have hin':∃ e∈Es,sz e-due ps e=p:=by
     rcases List.mem_cons.mp hin with z|z
     ·exact⟨e0,by rw[e1];simp,z.symm⟩
     ·obtain⟨e,g1,g2⟩:=List.mem_map.mp z
      exact⟨e,by rw[e1];simp[g1],g2⟩
    obtain⟨hp,h'⟩:=hst p (λe he g=>hle' e ((hEs e).mpr ⟨he,g⟩)) (by
     obtain⟨e,g1,g2⟩:=hin'
     exact⟨e,((hEs e).mp g1).1,((hEs e).mp g1).2,g2⟩)
    simp
    refine⟨by decide,by simp only[big];lia,?_⟩
    have dl:(E.map kE).length<big:=by simp[big];lia
    refine a2j (f:=a4i) (I:=λdone L=>∃ z,L=[some (a3j ws cs),some (FV.int n),some (dn none E λe=>sz e-due ps e-if e∈done then p else 0),some (FV.lst (fr.map a4i)),some (FV.lst ((ps++[(⟨S,p,fr.length⟩:Prc)]).map b4p)),some (FV.tup (S.map λi:Nat=>FV.int i)),some (FV.lst (Es.map a4i)),some (FV.int p),z]) Es Es [] _ rfl ⟨z,by simp[dn,b4p]⟩ (λdd e r L K e2 hI hK=>?_) λL hI=>?_
    ·obtain⟨z,rfl⟩:=hI
     have heE:e∈E:=((hEs e).mp (by rw[e2];simp)).1
     have hed:e ∉ dd:=by
      rw[e2] at ndEs
      exact λz=>(List.nodup_append.mp ndEs).2.2 _ z _ (by simp) rfl
     simp[a4i,dn]
     rw[a8s,b4m heE,a0q]
     simp
     rw[a8s,d0z heE]
     refine⟨by simpa using dl,hK _ ⟨some (a4i e),?_⟩⟩
     simp[dn,a4i]
     intro a b _
     by_cases g:(a,b)=e
     ·subst g
      rw[if_pos rfl,if_neg hed,if_pos (.inr rfl)];lia
     ·rw[if_neg g]
      congr 1
      by_cases g2:(a,b)∈dd
      ·rw[if_pos g2,if_pos (.inl g2)]
      ·rw[if_neg g2,if_neg λz=>z.elim g2 g]
    ·obtain⟨z,rfl⟩:=hI
     have ed:(dn none E λe=>sz e-due ps e-if e∈Es then p else 0)=dn none E λe=>sz e-due (ps++[⟨S,p,fr.length⟩]) e:=c3s λe he=>by
      rw[a6c]
      by_cases g:ent S e=true
      ·rw[if_pos ((hEs e).mpr ⟨he,g⟩),if_pos g];lia
      ·rw[if_neg λz=>g ((hEs e).mp z).2,if_neg g];lia
     rw[ed]
     simp
     refine⟨by simp only[big];lia,?_⟩
     refine a1c (f:=a4i) (g:=a4i) (p:=λe=>decide (sz e-due ps e=p)) Es [] (λe he K N k1 k2=>?_) ?_
     ·simp[a4i,dn]
      rw[a8s,b4m ((hEs e).mp he).1,a0q,a6c,if_pos ((hEs e).mp he).2]
      rw[codI.eq]
      refine a3z (λg=>k1 ?_) λg=>k2 ?_
      ·have g:=of_decide_eq_true g
       exact decide_eq_true (by lia)
      ·have g:=of_decide_eq_false (Bool.eq_false_iff.mpr g)
       exact decide_eq_false (by lia)
     ·have hfp:1<=(Es.filter λe=>decide (sz e-due ps e=p)).length:=by
       obtain ⟨e,g1,g2⟩:=hin'
       exact List.length_pos_of_mem (List.mem_filter.mpr ⟨g1,decide_eq_true g2⟩)
      have hl2:=h'.nd.length_le_of_subset h'.sub
      simp
      simp only[List.length_append] at hl2
      refine⟨by simp only[big];lia,?_⟩
      rw[<- List.map_append]
      refine c4y d n h'.nd (by simp only[List.length_append];lia) (λe he=>G.rg e (h'.sub e he)) hn λS' hS'=>⟨d2h S',hK _ _ ?_ ⟨_,_,S',some (FV.lst (Es.map a4i)),some (FV.int p),z,rfl,h',hS',?_,by simp⟩⟩
      ·simp only[List.length_append];lia
      ·simp only[List.length_append,List.length_cons,List.length_nil];lia
structure Sto (ws:List Int)(cs:List Chg)(sz:Ent->Int):Prop where
 n:ws.length<=12
 l:cs.length<=144
 w:∀ m (h:m<ws.length),sz (none,m)=ws[m]
 c:∀ c∈cs,sz (some c.1,c.2.1)=c.2.2
 r:∀ c∈cs,c.1<ws.length/\c.2.1<ws.length/\c.1≠c.2.1
 k:(cs.map λc=>(c.1,c.2.1)).Nodup
 p:∀ e∈a7i ws.length cs,0<sz e/\sz e<=2000000000
theorem Sto.nd {ws:List Int}{cs:List Chg}{sz:Ent->Int}(h:Sto ws cs sz):(a7i ws.length cs).Nodup:=by
 have hk:=h.k
 unfold a7i
 refine List.nodup_append.mpr ⟨?_,?_,λa ha b hb e=>?_⟩
 ·rw[List.Nodup,List.pairwise_map]
  exact List.nodup_range.imp λh e=>h (congrArg Prod.snd e)
 ·rw[List.Nodup,List.pairwise_map] at hk ⊢
  exact hk.imp λh e=>h (by
   have h1:=congrArg Prod.fst e
   have h2:=congrArg Prod.snd e
   exact Prod.ext (Option.some.inj h1) h2)
 ·obtain⟨m,_,rfl⟩:=List.mem_map.mp ha
  obtain⟨c,_,rfl⟩:=List.mem_map.mp hb
  cases e
theorem Sto.est {ws:List Int}{cs:List Chg}{sz:Ent->Int}(h:Sto ws cs sz):Est ws.length (a7i ws.length cs) sz:=by
 refine⟨h.nd,λe he=>?_,λm hm=>?_,λe he=>(h.p e he).1,λe he=>by have:=(h.p e he).2;lia,?_⟩
 ·rcases List.mem_append.mp he with he|he
  ·obtain⟨m,hm,rfl⟩:=List.mem_map.mp he
   exact⟨List.mem_range.mp hm,λa z=>nomatch z⟩
  ·obtain⟨c,hc,rfl⟩:=List.mem_map.mp he
   have:=h.r c hc
   exact⟨this.2.1,λa z=>by cases z;exact this.1⟩
 ·exact List.mem_append_left _ (List.mem_map.mpr ⟨m,List.mem_range.mpr hm,rfl⟩)
 ·have:=h.n
  have:=h.l
  simp[a7i];lia
structure Told (ws:List Int)(cs:List Chg)(sz:Ent->Int)(ps:List Prc)(ls:List (Option Nat)):Prop where
 len:ls.length=ws.length
 rk:∃ r,Rk ls r
 ent:∀ e∈ens ls,e∈a7i ws.length cs
 sum:((ens ls).map sz).sum=(ps.map (·.p)).sum
 low:∀ e∈a7i ws.length cs,due ps e<=sz e
 pos:∀ q∈ps,0<q.p
 bd:∀ q∈ps,q.p<=2000000000
 ne:∀ q∈ps,q.S≠[]
 up:∀ q∈ps,q.S.Pairwise (· < ·)
 lt:∀ q∈ps,∀ m∈q.S,m<ws.length
 dst:(ps.map (·.S)).Nodup
 pl:ps.length<=156
theorem b6q (d:Nat){ws:List Int}{cs:List Chg}{sz:Ent->Int}(h:Sto ws cs sz){Q:FV×FV->Prop}(q:∀ ps ls,Told ws cs sz ps ls->Q (.tup [.int (ps.map (·.p)).sum,.tup (ls.map a1g),.lst (ps.map b4p)],.non)):callW tb (d+3) 15 [a3j ws cs] Q:=by
 have G:=h.est
 refine c6c d (by have:=h.n;lia) (by have:=h.l;lia) h.w h.c G λfr ps us ls H c hall hls hat hp=>q ps ls ?_
 have rg:Rng ws.length fr:=λe he=>G.rg e (H.sub e he)
 obtain⟨hr,hperm⟩:=c.lay rg hls hat
 refine⟨hls,hr,λe he=>H.sub e (c.sub e (hperm.mem_iff.mp he)),?_,H.low,H.pos,λq hq=>?_,H.ne,H.up,H.lt,H.dst,by have:=h.n;have:=h.l;simp[a7i] at hp;lia⟩
 ·rw[c1g (hperm.map sz)]
  exact c.room H hall
 ·obtain⟨e,g1,g2⟩:=H.hit q hq
  have:=c5g g2 H.pos hq
  have:=(H.free e (H.sub e g1)).mp g1
  have:=(h.p e (H.sub e g1)).2
  lia
def szF (ws:List Int)(cs:List Chg)(e:Ent):Int:=match e.1 with
 | none=>ws.getD e.2 0
 | some a=>((cs.find? λc=>decide (c.1=a/\c.2.1=e.2)).map λc=>c.2.2).getD 0
theorem d7g {ws:List Int}{cs:List Chg}(hk:(cs.map λc=>(c.1,c.2.1)).Nodup){c:Chg}(hc:c∈cs):szF ws cs (some c.1,c.2.1)=c.2.2:=by
 show ((cs.find? λx=>decide (x.1=c.1/\x.2.1=c.2.1)).map λc=>c.2.2).getD 0=c.2.2
 induction cs with
 | nil=>cases hc
 | cons x r ih =>
  simp only[List.map_cons,List.nodup_cons] at hk
  by_cases z:x.1=c.1/\x.2.1=c.2.1
  ·rw[List.find?_cons_of_pos (by simpa using z)]
   rcases List.mem_cons.mp hc with rfl|hc
   ·rfl
   ·exact absurd (List.mem_map.mpr ⟨c,hc,by rw[z.1,z.2]⟩) hk.1
  ·rw[List.find?_cons_of_neg (by simpa using z)]
   rcases List.mem_cons.mp hc with rfl|hc
   ·exact absurd ⟨rfl,rfl⟩ z
   ·exact ih hk.2 hc
def okc (cs:List Chg) (m:Nat):FV->Bool
 | .non=>true
 | .int i=>decide ([i,(m:Int)]∈cs.map keyH)
 | _=>false
def stp (ls:List (Option Nat)):Option Nat->Option Nat
 | none=>none
 | some a=>ls.getD a none
def itr (ls:List (Option Nat)) (o:Option Nat):Nat->Option Nat
 | 0=>o
 | k+1=>stp ls (itr ls o k)
theorem b4h {ls:List (Option Nat)} {o:Option Nat} {k:Nat} (h:itr ls o k=none):∀ j,k<=j->itr ls o j=none
  | 0, hj => by have : k = 0 := by lia
                subst this; exact h
  | j+1,hj=>by
    by_cases e:k=j+1
    · subst e;exact h
    · rw[itr,b4h h j (by lia)];rfl
def b9b (ls:List (Option Nat)):Bool:=(List.range ls.length).all λm=>(itr ls (some m) ls.length).isNone
def toO:FV->Option Nat
 | .int i=>some i.toNat
 | _=>none
def a3p (cs:List Chg)(xs:List FV):Bool:=((List.range xs.length).zip xs).all λp=>okc cs p.1 p.2
def b1v (n:Nat)(cs:List Chg):FV->Bool
 | .tup xs=>decide (xs.length=n) && (a3p cs xs && b9b (xs.map toO))
 | _=>false
def Rst (cs:List Chg)(ls:List (Option Nat)):Prop:=∀ m a:Nat,ls[m]?=some (some a)->[(a:Int),(m:Int)]∈cs.map keyH
theorem b2i {cs:List Chg}{m:Nat}{x:FV}(h:okc cs m x=true):x=a1g (toO x)/\∀ a,toO x=some a->[(a:Int),(m:Int)]∈cs.map keyH:=by
 cases x with
 | non=>exact⟨rfl,λa e=>nomatch e⟩
 | int i =>
  have h:[i,(m:Int)]∈cs.map keyH:=of_decide_eq_true h
  obtain⟨c,hc,e⟩:=List.mem_map.mp h
  have e1:(c.1:Int)=i:=by simpa[keyH] using congrArg (λl=>l.head?) e
  have e2:((i.toNat:Nat):Int)=i:=by lia
  refine⟨by show FV.int i=.int ((i.toNat:Nat):Int);rw[e2],λa ea=>?_⟩
  cases ea
  rw[e2];exact h
 | _=>cases h
theorem a8u {cs:List Chg}{xs:List FV}(h:a3p cs xs=true){m:Nat}(hm:m<xs.length):okc cs m xs[m]=true:=by
 have:=List.all_eq_true.mp h (m,xs[m]) (by
  rw[List.mem_iff_getElem?]
  exact⟨m,by simp[List.getElem?_zip_eq_some,hm]⟩)
 exact this
theorem a8t {cs:List Chg}{xs:List FV}(h:a3p cs xs=true):xs=(xs.map toO).map a1g/\Rst cs (xs.map toO):=by
 refine⟨?_,λm a e=>?_⟩
 ·apply List.ext_getElem
  ·simp
  ·intro i h1 h2
   simp only[List.getElem_map]
   exact (b2i (a8u h h1)).1
 ·rw[List.getElem?_map] at e
  obtain⟨x,e1,e2⟩:=Option.map_eq_some_iff.mp e
  obtain⟨hm,rfl⟩:=List.getElem?_eq_some_iff.mp e1
  exact (b2i (a8u h hm)).2 a e2
theorem d0m {cs:List Chg}{ls:List (Option Nat)}(h:Rst cs ls):a3p cs (ls.map a1g)=true:=by
 unfold a3p
 rw[List.all_eq_true]
 intro p hp
 obtain⟨j,hj⟩:=List.mem_iff_getElem?.mp hp
 obtain⟨h1,h2⟩:=List.getElem?_zip_eq_some.mp hj
 have hi:p.1=j:=by have:=(List.getElem?_eq_some_iff.mp h1).2;simpa using this.symm
 rw[List.getElem?_map] at h2
 obtain⟨o,e1,e2⟩:=Option.map_eq_some_iff.mp h2
 rw[<- e2,hi]
 cases o with
 | none=>rfl
 | some a=>exact decide_eq_true (h j a e1)
theorem c5s (o:Option Nat):toO (a1g o)=o:=by cases o<;>rfl
theorem b8c (ls:List (Option Nat)):(ls.map a1g).map toO=ls:=by
 rw[List.map_map]
 conv=>rhs;rw[<- List.map_id ls]
 apply List.map_congr_left
 intro o _;exact c5s o
theorem Gs.keys {ws:List Int}{cs:List Chg}(h:Gs ws cs):(cs.map keyH).Nodup:=by
 have:cs.map keyH=(cs.map λc=>(c.1,c.2.1)).map λp:Nat×Nat=>[(p.1:Int),(p.2:Int)]:=by
  rw[List.map_map];rfl
 rw[this,List.nodup_iff_pairwise_ne,List.pairwise_map]
 exact h.d.imp λhh z=>hh (by
  simp only[List.cons.injEq] at z
  exact Prod.ext (by lia) (by lia))
theorem Gs.rst {ws:List Int}{cs:List Chg}(h:Gs ws cs){ls:List (Option Nat)}(hr:Rst cs ls){m a:Nat}(e:ls[m]?=some (some a)):a<ws.length:=by
 obtain⟨c,hc,e⟩:=List.mem_map.mp (hr m a e)
 have:=(h.c c hc).1
 simp[keyH] at e
 lia
theorem a9v (d:Nat){ws:List Int}{cs:List Chg}(h:Gs ws cs){Q:FV×FV->Prop}(q:Q (.dct (cs.map keyH) (cs.map λc=>.int c.2.2),.non)):callW tb (d+1) 6 [a3j ws cs] Q:=by
 have hc:=h.l
 refine a0g (fd:=fd6) rfl rfl ?_
 simp[fd6,bd6,a3j,big]
 refine⟨by lia,?_⟩
 refine b1k (f:=a9o) (g:=keyH) (h:=λc=>.int c.2.2) cs [] [] (by simp) (by simpa using h.keys) (λx hx K k=>?_) (by simpa using q)
 simp[a9o,big]
 exact k
theorem a1u (ws:List Int)(cs:List Chg)(Q:List FV->Prop):wp (a4k (a3j ws cs)) Q↔Q [.tup (ws.map .int),.tup (cs.map a9o)]:=Iff.rfl
theorem c0o {ls:List (Option Nat)}{i:Nat}(hi:i<ls.length)(Q:FV->Prop):wp (atF (ls.map a1g) (i:Int)) Q↔Q (a1g (ls.getD i none)) :=
 a4x rfl (by rw[List.getElem?_map,List.getElem?_eq_getElem hi];simp[List.getD,hi])
theorem b8n {ws:List Int}{cs:List Chg}(h:Gs ws cs){ls:List (Option Nat)}(hr:Rst cs ls)(hl:ls.length=ws.length){m:Nat}(hm:m<ls.length):∀ k a,itr ls (some m) k=some a->a<ls.length
 | 0,a,e=>by cases e;exact hm
 | k+1,a,e=>by
  rw[itr] at e
  cases e1:itr ls (some m) k with
  | none=>rw[e1] at e;cases e
  | some b =>
   rw[e1] at e
   have hb:=b8n h hr hl hm k b e1
   have e:ls.getD b none=some a:=e
   rw[List.getD,List.getElem?_eq_getElem hb] at e
   have:=h.rst hr (m:=b) (a:=a) (by rw[List.getElem?_eq_getElem hb];exact congrArg some e)
   lia
theorem c3y (d:Nat){ws:List Int}{cs:List Chg}(h:Gs ws cs){ls:List (Option Nat)}(hr:Rst cs ls)(hl:ls.length=ws.length){m:Nat}(hm:m<ls.length){Q:FV×FV->Prop}(q:Q (.bl (itr ls (some m) ls.length).isNone,.non)):callW tb (d+1) 5 [.tup (ls.map a1g),.int m] Q:=by
 have hn:=h.n
 refine a0g (fd:=fd5) rfl rfl ?_
 simp[fd5,bd5]
 rw[c0o hm]
 refine⟨a0l (by lia) (by lia),?_⟩
 refine a2i (I:=λj L=>∃ a,L=[some (.tup (ls.map a1g)),some (.int m),some (a1g (itr ls (some m) (j+1))),a]/\(itr ls (some m) j).isSome=true) ls.length 0 _ ⟨_,rfl,rfl⟩ ?_ ?_
 ·rintro j L K-hj ⟨a,rfl,hs⟩ k
  cases e:itr ls (some m) (j+1) with
  | none =>
   have:=b4h e ls.length (by lia)
   rw[this] at q
   simpa[a1g] using q
  | some p =>
   have hp:=b8n h hr hl hm _ p e
   simp[a1g]
   rw[c0o hp]
   refine k _ ⟨some (.int j),?_,by rw[e];rfl⟩
   rw[itr,e];rfl
 ·rintro L ⟨a,rfl,hs⟩
  rw[Nat.zero_add] at hs
  rw[Option.isNone_eq_false_iff.mpr hs] at q
  simpa using q
theorem a3g (d:Nat)(x:D)(Q:FV×FV->Prop):callW tb (d+1) 0 [dF x] Q↔Q (.bl (match x with|.int _=>true|_=>false),.non):=by
 rw[a4v (fd:=fd0) rfl rfl]
 cases x<;>simp[fd0,bd0,dF]
theorem b2b (d:Nat)(x:D) (n:Nat)(Q:FV×FV->Prop):callW tb (d+1) 1 [dF x,.int n] Q↔Q (.bl (match x with|.tup xs=>decide (xs.length=n)|_=>false),.non):=by
 rw[a4v (fd:=fd1) rfl rfl]
 have e:∀ a b:Nat,((a:Int) == (b:Int))=decide (a=b):=λa b=>by
  rw[Bool.eq_iff_iff,beq_iff_eq,decide_eq_true_eq];lia
 cases x<;>simp[fd1,bd1,dF,a1b,e]
theorem d2d {cs:List Chg}{xs:List FV}{ds r:List (Nat×FV)}{p:Nat×FV}(e:(List.range xs.length).zip xs=ds++p :: r)(h:okc cs p.1 p.2=false):a3p cs xs=false:=by
 rw[a3p,e,List.all_eq_false]
 exact⟨p,by simp,by rw[h];exact Γk⟩
theorem c4d (ds:List D):a2q (upF 0 (ds.map dF).length) (ds.map dF)=((List.range ds.length).zip ds).map λp:Nat×D=>FV.tup [.int p.1,dF p.2]:=by
 rw[a1s,a4p,List.length_map]
theorem a8d (ds:List D):(List.range (ds.map dF).length).zip (ds.map dF)=((List.range ds.length).zip ds).map λp=>(p.1,dF p.2):=by
 rw[List.length_map]
 apply List.ext_getElem
 ·simp
 ·intro i h1 h2;simp
theorem d3b (d:Nat){ws:List Int}{cs:List Chg}(h:Gs ws cs)(x:D){Q:FV×FV->Prop}(q:Q (.bl (b1v ws.length cs (dF x)),.non)):callW tb (d+2) 4 [a3j ws cs,dF x] Q:=by
 have hn:=h.n
 refine a0g (fd:=fd4) rfl rfl ?_
 simp[fd4,bd4,a1u]
 rw[b2b]
 cases x with
 | tup ds =>
  simp
  by_cases hl:ds.length=ws.length
  ·simp[hl]
   refine a9v d h ?_
   simp[dF,a1b]
   rw[<- List.length_map (f:=dF),c4d]
   have qq:∀ b,b=b1v ws.length cs (dF (.tup ds))->Q (.bl b,.non):=λb e=>by rw[e];exact q
   simp only[dF,a1b,b1v,List.length_map,hl,decide_true,Bool.true_and] at qq
   refine a2j (f:=λp:Nat×D=>FV.tup [.int p.1,dF p.2]) (I:=λe L=>(∀ p∈e,okc cs p.1 (dF p.2)=true)/\∃ a b,L=[some (a3j ws cs),some (.tup (ds.map dF)),some (.int ws.length),some (.dct (cs.map keyH) (cs.map λc=>.int c.2.2)),a,b]) ((List.range ds.length).zip ds) ((List.range ds.length).zip ds) [] _ rfl ⟨by simp,_,_,rfl⟩ ?_ ?_
   ·rintro e ⟨m,x⟩ r L K ez ⟨he,a,b,rfl⟩ k
    have no:okc cs m (dF x)=false->Q (.bl false,.non):=λhf=>by
     refine qq _ ?_
     rw[d2d (cs:=cs) (xs:=ds.map dF) (ds:=e.map λp=>(p.1,dF p.2)) (r:=r.map λp=>(p.1,dF p.2)) (p:=(m,dF x)) (by rw[a8d,ez];simp) hf];rfl
    have yes:okc cs m (dF x)=true->K [some (a3j ws cs),some (.tup (ds.map dF)),some (.int ws.length),some (.dct (cs.map keyH) (cs.map λc=>.int c.2.2)),some (.int m),some (dF x)]:=λht=>k _ ⟨λp hp=>by
     rcases List.mem_append.mp hp with hp|hp
     ·exact he p hp
     ·simp at hp;rw[hp];exact ht,_,_,rfl⟩
    cases x with
    | non=>simp[dF] at yes ⊢;exact yes rfl
    | int i =>
     by_cases hk:[i,(m:Int)]∈cs.map keyH
     ·have y:=yes (decide_eq_true hk)
      have nb:=a3g d (.int i)
      simp only[dF] at y nb ⊢
      simp[nb,big,hk]
      exact y
     ·have y:=no (decide_eq_false hk)
      have nb:=a3g d (.int i)
      simp only[dF] at nb ⊢
      simp[nb,big,hk]
      exact y
    | bl b =>
     have y:=no rfl
     have nb:=a3g d (.bl b)
     simp only[dF] at nb ⊢
     simp[nb]
     exact y
    | str b =>
     have y:=no rfl
     have nb:=a3g d (.str b)
     simp only[dF] at nb ⊢
     simp[nb]
     exact y
    | tup b =>
     have y:=no rfl
     have nb:=a3g d (.tup b)
     simp only[dF] at nb ⊢
     simp[nb]
     exact y
    | lst b =>
     have y:=no rfl
     have nb:=a3g d (.lst b)
     simp only[dF] at nb ⊢
     simp[nb]
     exact y
   ·rintro L ⟨he,a,b,rfl⟩
    have ok:a3p cs (ds.map dF)=true:=by
     rw[a3p,a8d,List.all_eq_true]
     intro p hp
     obtain⟨q,hq,rfl⟩:=List.mem_map.mp hp
     exact he q hq
    obtain⟨e1,hr⟩:=a8t ok
    rw[ok,Bool.true_and] at qq
    generalize (ds.map dF).map toO=ls at e1 hr qq
    have hll:ls.length=ws.length:=by rw[<- hl,<- List.length_map (f:=dF) (as:=ds),e1,List.length_map]
    rw[e1]
    simp
    refine⟨a0l (by lia) (by lia),?_⟩
    rw[a1s]
    refine⟨by simp[big];lia,?_⟩
    refine a0m (f:=λi:Nat=>FV.int i) (g:=λm=>.bl (itr ls (some m) ls.length).isNone) (List.range ws.length) [] (λi hi K k=>?_) ?_
    ·have hi:=List.mem_range.mp hi
     simp
     exact c3y d h hr hll (by lia) k
    rw[List.nil_append]
    simp[a1e]
    exact qq _ (by rw[b9b,hll])
  ·simp[hl]
   have:b1v ws.length cs (dF (.tup ds))=false:=by simp[dF,a1b,b1v,hl]
   rw[this] at q;exact q
 | _=>simp;exact q
theorem a7r {α:Type}:∀ (ps:List (List Int×α))(ks:List (List Int))(vs:List α),(ks++ps.map (·.1)).Nodup->a1y ps ks vs=(ks++ps.map (·.1),vs++ps.map (·.2))
 | [],ks,vs,_=>by simp[a1y]
 | p :: r,ks,vs,h=>by
  have hp:p.1 ∉ ks:=λz=>by
   rw[List.nodup_append] at h
   exact h.2.2 p.1 z p.1 (by simp) rfl
  have e:a1x ks vs p.1 p.2=(ks++[p.1],vs++[p.2]):=by rw[a1x,if_neg hp]
  rw[a1y,e,a7r r _ _ (by simpa using h)]
  simp
theorem b0d:∀ cs:List Chg,a7t (cs.map λc=>FV.tup [.tup [.int c.1,.int c.2.1],.int c.2.2])=some (cs.map λc=>(keyH c,FV.int c.2.2))
 | []=>rfl
 | c :: r=>by
  rw[List.map_cons,a7t,b0d r];rfl
theorem b0k (d:Nat){ws:List Int}{cs:List Chg}(h:Gs ws cs){Q:FV×FV->Prop}(q:Q (.dct (cs.map keyH) (cs.map λc=>.int c.2.2),.non)):callW tb (d+1) 31 [a3j ws cs] Q:=by
 have hc:=h.l
 refine a0g (fd:=e1m) rfl rfl ?_
 simp[e1m,d6o,a1u]
 refine⟨by simp[big];lia,?_⟩
 refine a0m (f:=a9o) (g:=λc=>FV.tup [.tup [.int c.1,.int c.2.1],.int c.2.2]) cs [] (λx hx K k=>?_) ?_
 ·simp[a9o,big]
  exact k
 ·rw[List.nil_append,b0d,a0q,a7r _ [] [] (by simpa[List.map_map,Function.comp_def] using h.keys)]
  simpa[List.map_map,Function.comp_def] using q
theorem c7m (d:Nat){ws:List Int}{cs:List Chg}(h:Gs ws cs)(ds:List D)(hl:ds.length=ws.length)(hk:∀ x∈ds,x=.non ∨ ∃ i,x=.int i){Q:FV×FV->Prop}(q:Q (.bl (a3p cs (ds.map dF) && b9b ((ds.map dF).map toO)),.non)):callW tb (d+2) 33 [a3j ws cs,.tup (ds.map dF)] Q:=by
 have hn:=h.n
 refine a0g (fd:=e1k) rfl rfl ?_
 simp[e1k,e3h]
 refine b0k d h ?_
 simp
 rw[<- List.length_map (f:=dF),c4d]
 refine⟨by simp[big];lia,?_⟩
 refine a0m (f:=λp:Nat×D=>FV.tup [.int p.1,dF p.2]) (g:=λp=>.bl (!okc cs p.1 (dF p.2))) ((List.range ds.length).zip ds) [] (λp hp K k=>?_) ?_
 ·obtain⟨m,x⟩:=p
  rcases hk x (List.of_mem_zip hp).2 with rfl|⟨i,rfl⟩
  ·simpa[dF,okc] using k
  ·simpa[dF,okc,big] using k
 rw[List.nil_append]
 simp[a1e]
 have e0:a3p cs (ds.map dF)=((List.range ds.length).zip ds).all λp=>okc cs p.1 (dF p.2):=by
  rw[a3p,a8d,List.all_map];rfl
 by_cases ok:a3p cs (ds.map dF)=true
 ·rw[if_neg (by
   intro hm
   obtain⟨p,hp,hf⟩:=List.mem_map.mp hm
   rw[e0,List.all_eq_true] at ok
   have:=ok p hp
   rw[this] at hf;cases hf)]
  obtain⟨e1,hr⟩:=a8t ok
  rw[ok,Bool.true_and] at q
  generalize (ds.map dF).map toO=ls at e1 hr q
  have hll:ls.length=ws.length:=by rw[<- hl,<- List.length_map (f:=dF) (as:=ds),e1,List.length_map]
  have hdl:ds.length=ls.length:=by lia
  rw[e1,hdl]
  refine⟨a0l (by lia) (by lia),?_⟩
  refine a2i (I:=λj L=>(∀ m,m<j->(itr ls (some m) ls.length).isNone=true)/\∃ a b c,L=[some (a3j ws cs),some (.tup (ls.map a1g)),some (.dct (cs.map keyH) (cs.map λc=>.int c.2.2)),a,b,c]) ls.length 0 _ ⟨by lia,_,_,_,rfl⟩ ?_ ?_
  ·rintro m L K-hm ⟨hd,a,b,c,rfl⟩ k
   simp
   refine⟨a0l (by lia) (by lia),?_⟩
   refine a2i (I:=λj L=>∃ c,L=[some (a3j ws cs),some (.tup (ls.map a1g)),some (.dct (cs.map keyH) (cs.map λc=>.int c.2.2)),some (.int m),some (a1g (itr ls (some m) j)),c]) ls.length 0 _ ⟨_,rfl⟩ ?_ ?_
   ·rintro j L K2-hj ⟨c,rfl⟩ k2
    cases e:itr ls (some m) j with
    | none =>
     simp[a1g]
     exact k2 _ ⟨_,by rw[itr,e];rfl⟩
    | some p =>
     have hp:=b8n h hr hll (by lia) _ p e
     simp[a1g]
     rw[c0o hp]
     exact k2 _ ⟨_,by rw[itr,e];rfl⟩
   ·rintro L ⟨c,rfl⟩
    rw[Nat.zero_add]
    cases e:itr ls (some m) ls.length with
    | none =>
     simp[a1g]
     refine k _ ⟨λm' hm'=>?_,_,_,_,rfl⟩
     by_cases z:m'=m
     ·subst z;rw[e];rfl
     ·exact hd m' (by lia)
    | some p =>
     have:b9b ls=false:=by
      rw[b9b,List.all_eq_false]
      exact⟨m,List.mem_range.mpr (by lia),by rw[e];exact Γk⟩
     rw[this] at q
     simp[a1g]
     exact q
  ·rintro L ⟨hd,a,b,c,rfl⟩
   have:b9b ls=true:=by
    rw[b9b,List.all_eq_true]
    intro m hm
    exact hd m (by have:=List.mem_range.mp hm;lia)
   rw[this] at q
   simpa using q
 ·rw[if_pos (by
   rw[e0,<- Bool.not_eq_false,Classical.not_not] at ok
   obtain⟨p,hp,hf⟩:=List.all_eq_false.mp ok
   exact List.mem_map.mpr ⟨p,hp,by simpa using hf⟩)]
  rw[Bool.eq_false_iff.mpr ok,Bool.false_and] at q
  exact q
def szc (cs:List Chg) (a m:Nat):Int:=((cs.find? λc=>decide (c.1=a/\c.2.1=m)).map λc=>c.2.2).getD 0
theorem b0u (a m:Nat):∀ cs:List Chg,a3a (cs.map keyH) (cs.map λc=>FV.int c.2.2) [(a:Int),(m:Int)]=(cs.find? λc=>decide (c.1=a/\c.2.1=m)).map λc=>FV.int c.2.2
 | []=>rfl
 | c :: r=>by
  show (if keyH c=[(a:Int),(m:Int)] then some (FV.int c.2.2) else a3a (r.map keyH) (r.map λc=>FV.int c.2.2) [(a:Int),(m:Int)])=_
  by_cases e:c.1=a/\c.2.1=m
  ·rw[if_pos (by simp[keyH,e.1,e.2]),List.find?_cons_of_pos (by simpa using e)];rfl
  ·rw[if_neg (by simp only[keyH,List.cons.injEq];intro z;exact e ⟨by lia,by lia⟩),List.find?_cons_of_neg (by simpa using e)]
   exact b0u a m r
theorem b4n {cs:List Chg}{a m:Nat}(h:[(a:Int),(m:Int)]∈cs.map keyH):a3a (cs.map keyH) (cs.map λc=>FV.int c.2.2) [(a:Int),(m:Int)]=some (.int (szc cs a m)):=by
 rw[b0u]
 cases e:cs.find? λc=>decide (c.1=a/\c.2.1=m) with
 | none =>
  obtain⟨c,hc,e2⟩:=List.mem_map.mp h
  have:=List.find?_eq_none.mp e c hc
  simp only[keyH,List.cons.injEq] at e2
  exact absurd (decide_eq_true (show c.1=a/\c.2.1=m from ⟨by lia,by lia⟩)) this
 | some c=>rw[szc,e];rfl
theorem c9z {ws:List Int}{cs:List Chg}(h:Gs ws cs) (a m:Nat):0<=szc cs a m/\szc cs a m<2000000000:=by
 unfold szc
 cases e:cs.find? λc=>decide (c.1=a/\c.2.1=m) with
 | none=>simp
 | some c =>
  have:=h.c c (List.mem_of_find?_eq_some e)
  show 0<=c.2.2/\c.2.2<_
  lia
def kpL (ws:List Int)(cs:List Chg)(ls:List (Option Nat)) (m:Nat):Int:=match ls.getD m none with
 | none=>ws.getD m 0
 | some a=>szc cs a m
theorem d2s {ws:List Int}{cs:List Chg}(h:Gs ws cs)(ls:List (Option Nat)) (m:Nat):0<=kpL ws cs ls m/\kpL ws cs ls m<2000000000:=by
 unfold kpL
 cases ls.getD m none with
 | none =>
  show 0<=ws.getD m 0/\_
  rw[List.getD]
  cases e:ws[m]? with
  | none=>simp
  | some x =>
   have:=h.w x (List.mem_of_getElem? e)
   show 0<=x/\x<_
   lia
 | some a=>exact c9z h a m
theorem d0b {xs:List Int}(hl:xs.length<=1000)(h:∀ x∈xs,0<=x/\x<2000000000){Q:Int->Prop}(q:Q xs.sum):wp (d0c (xs.map .int)) Q:=by
 simp only[d0c,a1v,a4a,a0q]
 rw[a5h]
 refine⟨⟨by simp only[big];lia,?_⟩,q⟩
 rw[List.all_eq_true]
 intro x hx
 have:=h x hx
 simp only[a8k,decide_eq_true_eq];lia
theorem c0n {xs:List Int}{i:Nat}(h:i<xs.length)(Q:FV->Prop):wp (atF (xs.map .int) (i:Int)) Q↔Q (.int (xs.getD i 0)) :=
 a4x rfl (by rw[List.getElem?_map,List.getElem?_eq_getElem h];simp[List.getD,h])
theorem c4c (ls:List (Option Nat)):a2q (upF 0 (ls.map a1g).length) (ls.map a1g)=(List.range ls.length).map λm:Nat=>FV.tup [.int (m:Int),a1g (ls.getD m none)]:=by
 rw[a1s,a4p,List.length_map]
 apply List.ext_getElem
 ·simp
 ·intro i h1 h2
  have:i<ls.length:=by simpa using h2
  simp[List.getD,this]
theorem c4k {cs:List Chg}{ls:List (Option Nat)}(hr:Rst cs ls){m a:Nat}(hm:m<ls.length)(e:ls.getD m none=some a):[(a:Int),(m:Int)]∈cs.map keyH:=by
 rw[List.getD,List.getElem?_eq_getElem hm] at e
 exact hr m a (by rw[List.getElem?_eq_getElem hm];exact congrArg some e)
theorem c7u (d:Nat){ws:List Int}{cs:List Chg}(h:Gs ws cs){ls:List (Option Nat)}(hr:Rst cs ls)(hl:ls.length=ws.length){Q:FV×FV->Prop}(q:Q (.lst (((List.range ls.length).map (kpL ws cs ls)).map .int),.non)):callW tb (d+2) 7 [a3j ws cs,.tup (ls.map a1g)] Q:=by
 have hn:=h.n
 refine a0g (fd:=fd7) rfl rfl ?_
 simp[fd7,bd7]
 refine a9v d h ?_
 simp[a1u]
 rw[<- List.length_map (f:=a1g),c4c]
 refine⟨by simp[big];lia,?_⟩
 refine a0m (f:=λm:Nat=>FV.tup [.int (m:Int),a1g (ls.getD m none)]) (g:=λm=>.int (kpL ws cs ls m)) (List.range ls.length) [] (λm hm K k=>?_) ?_
 ·have hm:=List.mem_range.mp hm
  unfold kpL at k
  cases e:ls.getD m none with
  | none =>
   rw[e] at k
   simp[a1g,a1u]
   rw[c0n (by lia)]
   exact k
  | some a =>
   rw[e] at k
   simp[a1g,big]
   rw[b4n (c4k hr hm e)]
   exact k
 ·simpa[List.map_map,Function.comp_def] using q
theorem c1p (d:Nat){ws:List Int}{cs:List Chg}(h:Gs ws cs){ls:List (Option Nat)}(hr:Rst cs ls)(hl:ls.length=ws.length){Q:FV×FV->Prop}(q:Q (.int ((List.range ls.length).map (kpL ws cs ls)).sum,.non)):callW tb (d+3) 8 [a3j ws cs,.tup (ls.map a1g)] Q:=by
 have hn:=h.n
 refine a0g (fd:=fd8) rfl rfl ?_
 simp[fd8,bd8]
 refine c7u d h hr hl ?_
 simp only[sq_l]
 refine d0b (by simp;lia) ?_ q
 intro x hx
 obtain⟨m,hm,rfl⟩:=List.mem_map.mp hx
 exact d2s h ls m
theorem b8d (d:Nat){ws:List Int}{cs:List Chg}(h:Gs ws cs){ls:List (Option Nat)}(hr:Rst cs ls)(hl:ls.length=ws.length){Q:FV×FV->Prop}(q:Q (.int ((List.range ls.length).map (kpL ws cs ls)).sum,.non)):callW tb (d+2) 32 [a3j ws cs,.tup (ls.map a1g)] Q:=by
 have hn:=h.n
 refine a0g (fd:=e1l) rfl rfl ?_
 simp[e1l,e3i]
 refine b0k d h ?_
 simp
 rw[<- List.length_map (f:=a1g),c4c]
 refine a2j (f:=λm:Nat=>FV.tup [.int (m:Int),a1g (ls.getD m none)]) (I:=λe L=>∃ a b,L=[some (a3j ws cs),some (.tup (ls.map a1g)),some (.dct (cs.map keyH) (cs.map λc=>.int c.2.2)),some (.int (e.map (kpL ws cs ls)).sum),a,b]) (List.range ls.length) (List.range ls.length) [] _ rfl ⟨_,_,rfl⟩ ?_ ?_
 ·rintro e m r L K ez ⟨a,b,eL⟩ k
  subst eL
  have hm:m<ls.length:=List.mem_range.mp (by rw[ez];simp)
  have kk:∀ v,v=kpL ws cs ls m->K [some (a3j ws cs),some (.tup (ls.map a1g)),some (.dct (cs.map keyH) (cs.map λc=>.int c.2.2)),some (.int ((e.map (kpL ws cs ls)).sum+v)),some (.int m),some (a1g (ls.getD m none))]:=λv ev=>by
   subst ev
   exact k _ ⟨_,_,by simp;exact⟨rfl,rfl⟩⟩
  unfold kpL at kk
  cases eo:ls.getD m none with
  | none =>
   rw[eo] at kk
   simp[a1g,a1u]
   rw[c0n (by lia)]
   simp
   exact kk _ rfl
  | some a =>
   rw[eo] at kk
   simp[a1g,big]
   rw[b4n (c4k hr hm eo)]
   simp
   exact kk _ rfl
 ·rintro L ⟨a,b,eL⟩
  subst eL
  simpa using q
def rsB:List Int->Bool
 | []=>true
 | a :: r=>(match r with|[]=>true|b :: _=>decide (a<b)) && rsB r
def b0t (n:Nat):D->Bool|.int i=>decide (0<=i) && decide (i<n)|_=>false
def mkB (n:Nat):D->Bool
 | .tup ds=>!ds.isEmpty && (ds.all (b0t n) && rsB (ds.map b4z))
 | _=>false
def szB:D->Bool|.int i=>decide (1<=i)|_=>false
def prL (n:Nat):List D->Bool
 | [m,p]=>szB p && mkB n m
 | _=>false
def prB (n:Nat):D->Bool
 | .tup ds=>prL n ds
 | _=>false
abbrev Pq:=List Int×Int
def dPq (q:Pq):D:=.tup [.tup (q.1.map .int),.int q.2]
def a2t (q:Pq):FV:=.tup [.tup (q.1.map .int),.int q.2]
def c8l (S:List Int):FV:=.tup (S.map .int)
structure Gq (n:Nat)(q:Pq):Prop where
 ne:q.1≠[]
 r:∀ i∈q.1,0<=i/\i<n
 u:rsB q.1=true
 p:1<=q.2
def unL:List D->Pq
 | [.tup ms,.int p]=>(ms.map b4z,p)
 | _=>([],0)
def unD:D->Pq
 | .tup ds=>unL ds
 | _=>([],0)
theorem a8f (S:List Int):(S.map D.int).map b4z=S:=by
 rw[List.map_map];exact (List.map_congr_left λx _=>rfl).trans (List.map_id S)
theorem b6k (q:Pq):unD (dPq q)=q:=by
 show ((q.1.map D.int).map b4z,q.2)=q
 rw[a8f]
theorem b9z (q:Pq):dF (dPq q)=a2t q:=by
 simp only[dPq,a2t,dF,dFs,a1b,b3c]
theorem b8u {n:Nat}{ds:List D}(h:ds.all (b0t n)=true):ds=(ds.map b4z).map .int/\∀ i∈ds.map b4z,0<=i/\i<n:=by
 have h':=List.all_eq_true.mp h
 refine⟨b2t (List.all_eq_true.mpr λx hx=>?_),λi hi=>?_⟩
 ·have:=h' x hx
  cases x with
  | int i=>rfl
  | _=>cases this
 ·obtain⟨x,hx,rfl⟩:=List.mem_map.mp hi
  have:=h' x hx
  cases x with
  | int i=>have:=this;simp[b0t] at this;exact this
  | _=>cases this
theorem b3r {n:Nat}{x:D}(h:prB n x=true):∃ q,x=dPq q/\Gq n q:=by
 cases x with
 | tup ds =>
  rcases ds with _|⟨m,_|⟨p,_|⟨c,r⟩⟩⟩
  ·cases h
  ·cases h
  ·have h:(szB p && mkB n m)=true:=h
   obtain⟨h1,h2⟩:=Bool.and_eq_true_iff.mp h
   cases p with
   | int i =>
    cases m with
    | tup ms =>
     obtain⟨h3,h4⟩:=Bool.and_eq_true_iff.mp (show (!ms.isEmpty && (ms.all (b0t n) && rsB (ms.map b4z)))=true from h2)
     obtain⟨h5,h6⟩:=Bool.and_eq_true_iff.mp h4
     obtain⟨e,r⟩:=b8u h5
     refine⟨(ms.map b4z,i),by rw[dPq,<- e],λz=>?_,r,h6,of_decide_eq_true h1⟩
     have:ms=[]:=by simpa using z
     rw[this] at h3;cases h3
    | _=>cases h2
   | _=>cases h1
  ·cases h
 | _=>cases h
theorem c4o {n:Nat}{q:Pq}(h:Gq n q):prB n (dPq q)=true:=by
 show (decide (1<=q.2) && (!(q.1.map D.int).isEmpty && ((q.1.map D.int).all (b0t n) && rsB ((q.1.map D.int).map b4z))))=true
 rw[a8f,h.u,decide_eq_true h.p]
 have h1:(q.1.map D.int).isEmpty=false:=by
  cases e:q.1 with
  | nil=>exact absurd e h.ne
  | cons a r=>rfl
 have h2:(q.1.map D.int).all (b0t n)=true:=List.all_eq_true.mpr λx hx=>by
  obtain⟨i,hi,rfl⟩:=List.mem_map.mp hx
  have:=h.r i hi
  simp[b0t,this.1,this.2]
 rw[h1,h2];rfl
theorem b7k {n:Nat}:∀ {ds:List D},ds.all (prB n)=true->∃ qs:List Pq,ds=qs.map dPq/\∀ q∈qs,Gq n q
 | [],_=>⟨[],rfl,λq hq=>absurd hq List.not_mem_nil⟩
 | x :: r,h=>by
  rw[List.all_cons,Bool.and_eq_true] at h
  obtain⟨q,e,g⟩:=b3r h.1
  obtain⟨qs,e2,g2⟩:=b7k h.2
  exact⟨q :: qs,by rw[e,e2];rfl,λp hp=>(List.mem_cons.mp hp).elim (λz=>z ▸ g) (g2 p)⟩
theorem a7l (qs:List Pq):(qs.map dPq).map unD=qs:=by
 rw[List.map_map];exact (List.map_congr_left λq _=>b6k q).trans (List.map_id qs)
def b1x (qs:List Pq)(p:List Int->Bool):Int:=((qs.filter λq=>p q.1).map (·.2)).sum
def a3q (b m:Int)(S:List Int):Bool:=decide (m∈S) && !decide (b∈S)
def wOk (ws:List Int)(qs:List Pq):Bool:=(List.range ws.length).all λm=>decide (b1x qs (λS=>decide ((m:Int)∈S))<=ws.getD m 0)
def cOk (cs:List Chg)(qs:List Pq):Bool:=cs.all λc=>decide (b1x qs (a3q c.1 c.2.1)<=c.2.2)
def c4w (ws:List Int)(cs:List Chg)(qs:List Pq):Bool:=decide (qs.map (·.1)).Nodup && (wOk ws qs && cOk cs qs)
def c1a (ws:List Int)(cs:List Chg):D->Bool
 | .lst ds=>ds.all (prB ws.length) && c4w ws cs (ds.map unD)
 | _=>false
theorem a9f:∀ S T:List Int,D.eqvs (S.map D.int) (T.map D.int)=decide (S=T)
 | [],[]=>by simp[D.eqvs]
 | [],b :: T=>by simp[D.eqvs]
 | a :: S,[]=>by simp[D.eqvs]
 | a :: S,b :: T=>by
  simp only[List.map_cons,D.eqvs,D.eqv,a9f S T]
  rw[Bool.eq_iff_iff]
  simp
theorem codZ:Cod c8l (λS=>.tup (S.map .int)):=⟨λk S=>by
 show (a8y (fD (k+2)) (S.map FV.int)).map D.tup=_
 rw[a4q (g:=D.int) λx=>rfl];rfl,λS T=>by
 show D.eqvs (S.map D.int) (T.map D.int)=_
 exact a9f S T⟩
theorem a4b {i:Int}{S:List Int}{R:Bool->Prop}:wp (inF (.int i) (.tup (S.map .int))) R↔R (decide (i∈S)):=codI.inT i S R
theorem d0a (d:Nat)(x:D)(Q:FV×FV->Prop):callW tb (d+2) 2 [dF x] Q↔Q (.bl (szB x),.non):=by
 rw[a4v (fd:=fd2) rfl rfl]
 have nb:=a3g d x
 cases x with
 | int i=>simp only[dF] at nb ⊢;simp[fd2,bd2,nb,szB]
 | non=>simp only[dF] at nb ⊢;simp[fd2,bd2,nb,szB]
 | bl b=>simp only[dF] at nb ⊢;simp[fd2,bd2,nb,szB]
 | str b=>simp only[dF] at nb ⊢;simp[fd2,bd2,nb,szB]
 | tup b=>simp only[dF] at nb ⊢;simp[fd2,bd2,nb,szB]
 | lst b=>simp only[dF] at nb ⊢;simp[fd2,bd2,nb,szB]
theorem d2l (d:Nat)(x:D) (n:Nat)(Q:FV×FV->Prop):callW tb (d+2) 3 [dF x,.int n] Q↔Q (.bl (b0t n x),.non):=by
 rw[a4v (fd:=fd3) rfl rfl]
 have nb:=a3g d x
 cases x with
 | int i =>
  simp only[dF] at nb ⊢
  simp[fd3,bd3,nb,b0t]
  by_cases z:0<=i
  ·simp[z]
  ·simp[z]
 | non=>simp only[dF] at nb ⊢;simp[fd3,bd3,nb,b0t]
 | bl b=>simp only[dF] at nb ⊢;simp[fd3,bd3,nb,b0t]
 | str b=>simp only[dF] at nb ⊢;simp[fd3,bd3,nb,b0t]
 | tup b=>simp only[dF] at nb ⊢;simp[fd3,bd3,nb,b0t]
 | lst b=>simp only[dF] at nb ⊢;simp[fd3,bd3,nb,b0t]
theorem c4l:∀ S:List Int,((S.zip (S.drop 1)).map λp=>decide (p.1<p.2)).all id=rsB S
 | []=>rfl
 | [a]=>rfl
 | a :: b :: r=>by
  have:=c4l (b :: r)
  simp only[List.drop_succ_cons,List.drop_zero] at this
  simp only[List.drop_succ_cons,List.drop_zero,List.zip_cons_cons,List.map_cons,List.all_cons]
  rw[rsB,this];rfl
theorem d4s (d:Nat)(x:D) (n:Nat)(hw:x.wt<=big){Q:FV×FV->Prop}(q:Q (.bl (mkB n x),.non)):callW tb (d+3) 12 [dF x,.int n] Q:=by
 refine a0g (fd:=d3l) rfl rfl ?_
 cases x with
 | tup ds =>
  have hl:ds.length<=big:=Nat.le_trans (a3d ds) hw
  simp only[dF,a1b]
  by_cases e0:ds=[]
  ·subst e0
   simp[d3l,d4n]
   exact q
  ·simp[d3l,d4n,e0]
   refine⟨hl,?_⟩
   refine a0m (f:=dF) (g:=λx=>.bl (b0t n x)) ds [] (λx hx K k=>?_) ?_
   ·simp
    rw[d2l]
    simpa using k
   ·rw[List.nil_append,a1e,a0q]
    have em:ds.isEmpty=false:=by cases ds with|nil=>exact absurd rfl e0|cons=>rfl
    have q2:Q (.bl (!ds.isEmpty && (ds.all (b0t n) && rsB (ds.map b4z))),.non):=q
    clear q
    rw[em] at q2
    by_cases ha:ds.all (b0t n)=true
    ·rw[ha] at q2
     rw[if_neg (λz=>by
      obtain⟨x,hx,e⟩:=List.mem_map.mp z
      rw[List.all_eq_true.mp ha x hx] at e;cases e)]
     obtain⟨e,_⟩:=b8u ha
     generalize ds.map b4z=ks at e q2
     subst e
     have c1:∀ xs:List FV,a6e xs (some 1) none=xs.drop 1:=λxs=>by simpa using c3v xs 1
     rw[b3c]
     simp
     rw[c1,<- List.map_drop,a4p]
     refine⟨by simp at hl ⊢;lia,?_⟩
     refine a0m (g:=λp=>.bl (decide (p.1<p.2))) (ks.zip (ks.drop 1)) [] (λp hp K k=>?_) ?_
     ·simp
      exact k
     ·rw[List.nil_append,a1e,a0q,c4l]
      simpa using q2
    ·rw[if_pos (by
      obtain⟨x,hx,e⟩:=List.all_eq_false.mp (Bool.eq_false_iff.mpr ha)
      exact List.mem_map.mpr ⟨x,hx,Bool.eq_false_iff.mpr e⟩)]
     rw[Bool.eq_false_iff.mpr ha] at q2
     exact q2
 | _=>simp[d3l,d4n,dF];exact q
theorem d1e (d:Nat)(x:D) (n:Nat)(hw:x.wt<=big){Q:FV×FV->Prop}(q:Q (.bl (prB n x),.non)):callW tb (d+4) 11 [dF x,.int n] Q:=by
 refine a0g (fd:=e2b) rfl rfl ?_
 simp[e2b,e3x]
 have tx:=λQ=>b2b (d+2) x 2 Q
 rw[show ((2:Nat):Int)=2 from rfl] at tx
 rw[tx]
 cases x with
 | tup ds =>
  rcases ds with _|⟨m,_|⟨p,_|⟨c,r⟩⟩⟩
  ·simp;exact q
  ·simp;exact q
  ·simp[dF,dFs]
   rw[d0a]
   have q:Q (.bl (szB p && mkB n m),.non):=q
   cases hs:szB p with
   | false=>rw[hs] at q;simpa using q
   | true =>
    rw[hs] at q
    simp
    exact d4s d m n (by simp only[D.wt,D.wts] at hw;lia) (by simpa using q)
  ·simp;exact q
 | _=>simp;exact q
theorem a6i (qs:List Pq)(p:List Int->Bool):a0v ((qs.filter λq=>p q.1).map λq=>FV.int q.2)=some ((qs.filter λq=>p q.1).map (·.2)):=by
 rw[show ((qs.filter λq=>p q.1).map λq=>FV.int q.2)=((qs.filter λq=>p q.1).map (·.2)).map .int by rw[List.map_map];rfl,a4a]
theorem d2r (d:Nat){ws:List Int}{cs:List Chg}{qs:List Pq}(hl:qs.length<=big){Q:FV×FV->Prop}(q:Q (.bl (wOk ws qs),.non)):callW tb (d+1) 13 [a3j ws cs,.lst (qs.map a2t)] Q:=by
 refine a0g (fd:=e2a) rfl rfl ?_
 simp[e2a,e3w,a1u]
 have ep:a2q (upF 0 ws.length) (ws.map .int)=(List.range ws.length).map λm:Nat=>FV.tup [.int (m:Int),.int (ws.getD m 0)]:=by
  rw[a1s]
  apply List.ext_getElem
  ·simp[a2q]
  ·intro i g1 g2
   simp[a2q] at g2 ⊢
   simp[g2]
 rw[ep]
 refine a2j (f:=λm:Nat=>FV.tup [.int (m:Int),.int (ws.getD m 0)]) (I:=λds L=>(∀ m∈ds,b1x qs (λS=>decide ((m:Int)∈S))<=ws.getD m 0)/\∃ a b,L=[some (a3j ws cs),some (.lst (qs.map a2t)),a,b]) (List.range ws.length) (List.range ws.length) [] _ rfl ⟨λm hm=>absurd hm List.not_mem_nil,_,_,rfl⟩ (λdd m r L K e hI hK=>?_) λL hI=>?_
 ·obtain⟨hd,x,y,rfl⟩:=hI
  simp
  refine⟨hl,?_⟩
  refine a1c (f:=a2t) (g:=λq=>.int q.2) (p:=λq=>decide ((m:Int)∈q.1)) qs [] (λc hc K N k1 k2=>?_) ?_
  ·simp[a2t]
   rw[a4b]
   exact a3z (λg=>k1 g) λg=>k2 (Bool.eq_false_iff.mpr g)
  ·rw[List.nil_append]
   rw[a6i qs λS=>decide ((m:Int)∈S),a0q]
   refine a3z (λg=>?_) λg=>?_
   ·have:wOk ws qs=false:=by
     rw[wOk,List.all_eq_false]
     refine⟨m,by rw[e];simp,λz=>?_⟩
     have:=of_decide_eq_true z
     rw[b1x] at this
     simp at this
     lia
    rw[this] at q
    exact q
   ·refine hK _ ⟨λk hk=>?_,_,_,rfl⟩
    rcases List.mem_append.mp hk with z|z
    ·exact hd k z
    ·rw[List.mem_singleton.mp z,b1x];simp;lia
 ·obtain⟨hd,x,y,rfl⟩:=hI
  have:wOk ws qs=true:=List.all_eq_true.mpr λm hm=>decide_eq_true (hd m hm)
  rw[this] at q
  simpa using q
theorem d2w (d:Nat){ws:List Int}{cs:List Chg}{qs:List Pq}(hl:qs.length<=big){Q:FV×FV->Prop}(q:Q (.bl (cOk cs qs),.non)):callW tb (d+1) 14 [a3j ws cs,.lst (qs.map a2t)] Q:=by
 refine a0g (fd:=e1z) rfl rfl ?_
 simp[e1z,e3v,a1u]
 refine a2j (f:=a9o) (I:=λds L=>(∀ c∈ds,b1x qs (a3q c.1 c.2.1)<=c.2.2)/\∃ a b c,L=[some (a3j ws cs),some (.lst (qs.map a2t)),a,b,c]) cs cs [] _ rfl ⟨λm hm=>absurd hm List.not_mem_nil,_,_,_,rfl⟩ (λdd c r L K e hI hK=>?_) λL hI=>?_
 ·obtain⟨hd,x,y,z,rfl⟩:=hI
  simp[a9o]
  refine⟨hl,?_⟩
  refine a1c (f:=a2t) (g:=λq=>.int q.2) (p:=λq=>a3q c.1 c.2.1 q.1) qs [] (λq hq K N k1 k2=>?_) ?_
  ·simp[a2t]
   rw[a4b]
   refine a3z (λg1=>?_) λg1=>?_
   ·rw[a4b]
    refine a3z (λg2=>k2 ?_) λg2=>k1 ?_
    ·rw[a3q,g1,g2];rfl
    ·rw[a3q,g1,Bool.eq_false_iff.mpr g2];rfl
   ·exact k2 (by rw[a3q,Bool.eq_false_iff.mpr g1];rfl)
  ·rw[List.nil_append]
   rw[a6i qs (a3q c.1 c.2.1),a0q]
   refine a3z (λg=>?_) λg=>?_
   ·have:cOk cs qs=false:=by
     rw[cOk,List.all_eq_false]
     refine⟨c,by rw[e];simp,λz=>?_⟩
     have:=of_decide_eq_true z
     rw[b1x] at this
     lia
    rw[this] at q
    exact q
   ·refine hK _ ⟨λk hk=>?_,_,_,_,rfl⟩
    rcases List.mem_append.mp hk with w|w
    ·exact hd k w
    ·rw[List.mem_singleton.mp w,b1x];lia
 ·obtain⟨hd,x,y,z,rfl⟩:=hI
  have:cOk cs qs=true:=List.all_eq_true.mpr λm hm=>decide_eq_true (hd m hm)
  rw[this] at q
  simpa using q
theorem a6v:∀ (ks acc:List (List Int)),acc.Nodup->(ks.foldl adT acc).Nodup/\(ks.foldl adT acc).length<=acc.length+ks.length/\(¬ (acc++ks).Nodup->(ks.foldl adT acc).length<acc.length+ks.length)
 | [],acc,h=>⟨h,by simp,λz=>absurd (by simpa using h) z⟩
 | k :: ks,acc,h=>by
  rw[List.foldl_cons]
  by_cases z:k∈acc
  ·rw[show adT acc k=acc from if_pos z]
   obtain⟨h1,h2,h3⟩:=a6v ks acc h
   exact⟨h1,by simp;lia,λ_=>by simp;lia⟩
  ·rw[show adT acc k=acc++[k] from if_neg z]
   obtain⟨h1,h2,h3⟩:=a6v ks (acc++[k]) (List.nodup_append.mpr ⟨h,by simp,λa ha b hb e=>by rw[List.mem_singleton.mp hb] at e;exact z (e ▸ ha)⟩)
   simp at h2 h3
   exact⟨h1,by simp;lia,λw=>by have:=h3 w;simp;lia⟩
theorem c6y (d:Nat) {ws:List Int} {cs:List Chg} (x:D) (hw:x.wt<=big) (h3:∀ ds,x=.lst ds->ds.all (prB ws.length)=true->ds.length<=300) {Q:FV×FV->Prop} (q:Q (.bl (c1a ws cs x),.non)):callW tb (d+5) 10 [a3j ws cs,dF x] Q:=by
  refine a0g (fd:=d6d) rfl rfl ?_
  cases x with
  | lst ds =>
    have hl:ds.length<=big:=Nat.le_trans (a3d ds) hw
    simp[d6d,d6r,dF,a1b]
    refine⟨hl,?_⟩
    refine a0m (f:=dF) (g:=λx=>.bl (prB ws.length x)) ds [] (λx hx K k=>?_) ?_
    · simp[a1u]
      refine d1e d x ws.length ?_ (by simpa using k)
      have:=a6g hx
      simp only[D.wt] at hw
      lia
    · rw[List.nil_append,a1e,a0q]
      have q:Q (.bl (ds.all (prB ws.length) && c4w ws cs (ds.map unD)),.non):=q
      by_cases ha:ds.all (prB ws.length)=true
      · have h3:=h3 ds rfl ha
        rw [ha] at q
        rw [if_neg (fun z => by
            obtain ⟨x, hx, e⟩ := List.mem_map.mp z
            rw [List.all_eq_true.mp ha x hx] at e; cases e)]
        obtain ⟨qs, rfl, hq⟩ := b7k ha
        rw [a7l] at q
        rw [List.map_map, show (dF ∘ dPq) = a2t from funext b9z]
        rw [List.length_map] at h3 hl
        simp
        refine b1h (f := a2t) (g := fun q : Pq => q.1) qs [] (by simpa using h3) (fun c hc K k => ?_) ?_
        · simp [a2t]
          exact k
        · obtain ⟨f1, f2, f4⟩ := a6v (qs.map (·.1)) [] List.nodup_nil
          simp at f2 f4
          simp
          by_cases nd : (qs.map (·.1)).Nodup
          · rw [c0w _ _ (by simpa using nd)]
            simp
            refine d2r (d + 3) hl ?_
            have q : Q (.bl (decide (qs.map (·.1)).Nodup && (wOk ws qs && cOk cs qs)), .non) := q
            rw [decide_eq_true nd] at q
            simp
            cases hwo : wOk ws qs with
            | false => rw [hwo] at q; simpa using q
            | true => rw [hwo] at q; simp; exact d2w (d + 3) hl (by simpa using q)
          · rw [if_pos (f4 nd)]
            have q : Q (.bl (decide (qs.map (·.1)).Nodup && (wOk ws qs && cOk cs qs)), .non) := q
            rw [decide_eq_false nd] at q
            exact q
      · rw [if_pos (by
            obtain ⟨x, hx, e⟩ := List.all_eq_false.mp (Bool.eq_false_iff.mpr ha)
            exact List.mem_map.mpr ⟨x, hx, Bool.eq_false_iff.mpr e⟩)]
        rw [Bool.eq_false_iff.mpr ha] at q
        exact q
  | _=>simp[d6d,d6r,dF];exact q
def d6f (S:List Int):FV:=.lst (S.map .int)
theorem codY:Cod d6f (λS=>.lst (S.map .int)):=⟨λk S=>by
 show (a8y (fD (k+2)) (S.map FV.int)).map D.lst=_
 rw[a4q (g:=D.int) λx=>rfl];rfl,λS T=>by
 show D.eqvs (S.map D.int) (T.map D.int)=_
 exact a9f S T⟩
theorem b4e (d:Nat){qs:List Pq} (b m:Int)(hl:qs.length<=big){Q:FV×FV->Prop}(q:Q (.int (b1x qs (a3q b m)),.non)):callW tb (d+1) 34 [.lst (qs.map a2t),.int b,.int m] Q:=by
 refine a0g (fd:=e1j) rfl rfl ?_
 simp[e1j,d6n]
 refine⟨hl,?_⟩
 refine a1c (f:=a2t) (g:=λq=>.int q.2) (p:=λq=>a3q b m q.1) qs [] (λq hq K N k1 k2=>?_) ?_
 ·simp[a2t]
  rw[a4b]
  refine a3z (λg1=>?_) λg1=>?_
  ·rw[a4b]
   refine a3z (λg2=>k2 ?_) λg2=>k1 ?_
   ·rw[a3q,g1,g2];rfl
   ·rw[a3q,g1,Bool.eq_false_iff.mpr g2];rfl
  ·exact k2 (by rw[a3q,Bool.eq_false_iff.mpr g1];rfl)
 ·rw[List.nil_append,a6i qs (a3q b m),a0q]
  exact q
theorem rs_pw:∀ {S:List Int},rsB S=true↔S.Pairwise (· < ·)
 | []=>by simp[rsB]
 | [a]=>by simp[rsB]
 | a :: b :: r=>by
  have ih:=rs_pw (S:=b :: r)
  rw[rsB,Bool.and_eq_true,ih]
  simp only[decide_eq_true_eq]
  refine⟨λ⟨h1,h2⟩=>List.pairwise_cons.mpr ⟨λx hx=>?_,h2⟩,λh=>?_⟩
  ·rcases List.mem_cons.mp hx with rfl|hx
   ·exact h1
   ·have:=List.rel_of_pairwise_cons h2 hx;lia
  ·exact⟨List.rel_of_pairwise_cons h Γn,(List.pairwise_cons.mp h).2⟩
theorem flt_iff {n:Nat}{ks:List Int}:ks=((List.range n).filter λm:Nat=>decide ((m:Int)∈ks)).map (λm:Nat=>(m:Int))↔(∀ i∈ks,0<=i/\i<n)/\rsB ks=true:=by
 constructor
 ·intro h
  refine⟨λi hi=>?_,?_⟩
  ·rw[h] at hi
   obtain⟨m,hm,rfl⟩:=List.mem_map.mp hi
   have:=List.mem_range.mp (List.mem_filter.mp hm).1
   lia
  ·rw[rs_pw,h,List.pairwise_map]
   exact (List.pairwise_lt_range.filter _).imp λh=>by lia
 ·rintro⟨h1,h2⟩
  have h2:=rs_pw.mp h2
  refine List.Perm.eq_of_pairwise (le:=(· < ·)) (λa b _ _ h1 h2=>by lia) h2 (List.pairwise_map.mpr ((List.pairwise_lt_range.filter _).imp λh=>by lia)) ?_
  refine (List.perm_ext_iff_of_nodup (h2.imp λh=>by lia) (List.pairwise_map.mpr ((List.nodup_range.filter _).imp λh=>by lia))).mpr λa=>?_
  rw[List.mem_map]
  refine⟨λha=>?_,λ⟨m,hm,e⟩=>?_⟩
  ·have:=h1 a ha
   refine⟨a.toNat,List.mem_filter.mpr ⟨List.mem_range.mpr (by lia),?_⟩,by lia⟩
   rw[show ((a.toNat:Nat):Int)=a by lia]
   exact decide_eq_true ha
  ·rw[<- e];exact of_decide_eq_true (List.mem_filter.mp hm).2
theorem c8a {n:Nat}{qs:List Pq}(h:∀ q∈qs,Gq n q) (m:Int):b1x qs (a3q (-1) m)=b1x qs λS=>decide (m∈S):=by
 unfold b1x
 rw[List.filter_congr λq hq=>?_]
 have:(-1:Int) ∉ q.1:=λz=>by have:=(h q hq).r _ z;lia
 rw[a3q,decide_eq_false this];simp
theorem b4d (d:Nat)(ds:List D)(hl:ds.length<=big){Q:FV×FV->Prop}(q:Q (.bl (ds.all isI),.non)):callW tb (d+1) 28 [.lst (ds.map dF)] Q:=by
 refine a0g (fd:=d3k) rfl rfl ?_
 simp[d3k,d4m]
 refine⟨hl,?_⟩
 refine a0m (f:=dF) (g:=λx=>.bl (isI x)) ds [] (λx hx K k=>?_) ?_
 ·cases x<;>simpa[dF,isI] using k
 ·rw[List.nil_append]
  simp only[a1e,a0q,b4x]
  exact q
theorem c2n (d:Nat){ws:List Int}{cs:List Chg}(hn:ws.length<=12)(hc:cs.length<=144)(x:D)(hw:x.wt<big)(hd:dep x<38){Q:FV×FV->Prop}(q:Q (.bl (c1a ws cs x),.non)):callW tb (d+2) 35 [a3j ws cs,dF x] Q:=by
 refine a0g (fd:=d6b) rfl rfl ?_
 cases x with
 | lst ds =>
  have hl:ds.length<=big:=Nat.le_trans (a3d ds) (Nat.le_of_lt hw)
  have q:Q (.bl (ds.all (prB ws.length) && c4w ws cs (ds.map unD)),.non):=q
  have no:∀ y∈ds,prB ws.length y=false->Q (.bl false,.non):=λy hy h=>by
   rw[List.all_eq_false.mpr ⟨y,hy,by rw[h];exact Γk⟩] at q
   exact q
  simp[d6b,d6m,dF,a1b]
  refine a2j (f:=dF) (I:=λdone L=>∃ qs:List Pq,done=qs.map dPq/\(∀ q∈qs,Gq ws.length q)/\(qs.map (·.1)).Nodup/\∃ a b c,L=[some (a3j ws cs),some (.lst (ds.map dF)),some (.lst ((qs.map (·.1)).map c8l)),a,b,c]) ds ds [] _ rfl ⟨[],rfl,λq hq=>absurd hq List.not_mem_nil,List.nodup_nil,_,_,_,rfl⟩ (λdd y r L K e hI hK=>?_) λL hI=>?_
  ·obtain⟨qs,rfl,hG,nd,a,b,c,rfl⟩:=hI
   have hy:y∈ds:=by rw[e];simp
   have hyw:y.wt<big:=by have:=a6g hy;simp only[D.wt] at hw;lia
   have hyd:dep y<37:=by have:=a6d hy;simp only[dep] at hd;lia
   have hql:qs.length<=big:=by have:=congrArg List.length e;simp at this;lia
   have no:=no y hy
   cases y with
   | tup es =>
    rcases es with _|⟨m,_|⟨p,_|⟨c',r'⟩⟩⟩
    ·simp[dF,dFs];exact no rfl
    ·simp[dF,dFs];exact no rfl
    ·cases m with
     | tup ms =>
      have hem:=e2h (a:=.tup ms) (b:=.tup []) (by simp only[dep,deps] at hyd ⊢;lia) (by simp[dep,deps])
      simp only[dF,dFs,a1b] at hem
      simp[dF,dFs,a1b]
      rw[hem,a0q]
      by_cases hne:ms=[]
      ·subst hne;simp[D.eqv,D.eqvs];exact no (by simp[prB,prL,mkB])
      ·have hml:ms.length+1<=big:=by
        have:=a3d ms
        simp only [D.wt,D.wts] at hyw this
        lia
       rw [show D.eqv (.tup ms) (.tup [])=false by cases ms with | nil=>exact absurd rfl hne | cons=>rfl]
       simp
       refine ⟨by decide,hml,?_⟩
       rw [show (ms.map dF++[dF p])=(ms++[p]).map dF by simp]
       refine b4d d (ms++[p]) (by simpa using hml) ?_
       by_cases ha:(ms++[p]).all isI=true
       ·rw [ha]
        rw [List.all_append,Bool.and_eq_true] at ha
        obtain ⟨ha1,ha2⟩:=ha
        have e1:=b2t ha1
        generalize ms.map b4z=ks at e1
        subst e1
        obtain ⟨i,rfl⟩:∃ i,p=.int i:=by
         cases p with
         | int i=>exact ⟨i,rfl⟩
         | _=>cases ha2
        have hkn:ks≠[]:=fun z=>hne (by rw [z]; rfl)
        rw [b3c]
        simp [dF]
        refine a3z (fun h1=>?_) fun h1=>?_
        ·refine no ?_
         show (decide (1<=i) && _)=false
         rw [decide_eq_false (by lia)]; rfl
        ·rw [show FV.tup (ks.map FV.int)=c8l ks from rfl,show (List.map (c8l ∘ fun x:Pq=>x.1) qs)=(qs.map (·.1)).map c8l by rw [List.map_map],codZ.inL]
         refine a3z (fun h2=>?_) fun h2=>?_
         ·have h2:=of_decide_eq_true h2
          by_cases hp:prB ws.length (.tup [.tup (ks.map .int),.int i])=true
          ·have:¬ ((ds.map unD).map (·.1)).Nodup:=fun z=>by
            rw [e,List.map_append,List.map_append,a7l,List.map_cons,List.map_cons] at z
            have u1:(unD (.tup [.tup (ks.map .int),.int i])).1=ks:=a8f ks
            rw [u1] at z
            exact (List.nodup_append.mp z).2.2 _ h2 _ Γn rfl
           rw [c4w,decide_eq_false this] at q
           simpa using q
          ·exact no (Bool.eq_false_iff.mpr hp)
         ·have h2:ks ∉ qs.map (·.1):=fun z=>h2 (decide_eq_true z)
          simp [c8l,a1u]
          refine ⟨a0l (by lia) (by lia),?_⟩
          rw [a1s]
          refine ⟨by simp [big]; lia,?_⟩
          refine a1c (f:=fun m:Nat=>FV.int m) (g:=fun m:Nat=>.int m) (p:=fun m:Nat=>decide ((m:Int)∈ks)) (List.range ws.length) [] (fun m hm K N k1 k2=>?_) ?_
          ·simp
           rw [a4b]
           exact a3z (fun g=>k1 g) fun g=>k2 (Bool.eq_false_iff.mpr g)
          ·rw [List.nil_append,show FV.lst (((List.range ws.length).filter fun m:Nat=>decide ((m:Int)∈ks)).map fun m:Nat=>FV.int m)=d6f (((List.range ws.length).filter fun m:Nat=>decide ((m:Int)∈ks)).map fun m:Nat=>(m:Int)) by rw [d6f,List.map_map]; rfl,show FV.lst (ks.map FV.int)=d6f ks from rfl,codY.eq]
           by_cases h3:ks=((List.range ws.length).filter fun m:Nat=>decide ((m:Int)∈ks)).map (fun m:Nat=>(m:Int))
           ·rw [decide_eq_true h3]
            obtain ⟨r1,r2⟩:=flt_iff.mp h3
            simp
            refine ⟨by have:=congrArg List.length e; simp at this; lia,hK _ ⟨qs++[(ks,i)],by simp [dPq],fun q hq=>?_,?_,some (.tup [.tup (ks.map .int),.int i]),some (.tup (ks.map .int)),some (.int i),by simp [c8l]⟩⟩
            ·rcases List.mem_append.mp hq with z | z
             ·exact hG q z
             ·rw [List.mem_singleton.mp z]; exact ⟨hkn,r1,r2,by show 1<=i; lia⟩
            ·rw [List.map_append]
             exact List.nodup_append.mpr ⟨nd,by simp,fun a ha b hb e=>by rw [List.mem_singleton.mp hb] at e; exact h2 (by rw [<- show a=ks from e]; exact ha)⟩
           ·rw [decide_eq_false h3]
            simp
            refine no (Bool.eq_false_iff.mpr fun z=>h3 ?_)
            obtain ⟨q0,e0,g0⟩:=b3r z
            have:unD (.tup [.tup (ks.map .int),.int i])=q0:=by rw [e0,b6k]
            have u1:(unD (.tup [.tup (ks.map .int),.int i])).1=ks:=a8f ks
            rw [this] at u1
            rw [<- u1]
            exact flt_iff.mpr ⟨g0.r,g0.u⟩
       ·rw [Bool.eq_false_iff.mpr ha]
        simp
        refine no (Bool.eq_false_iff.mpr fun z=>ha ?_)
        obtain ⟨q0,e0,g0⟩:=b3r z
        rw [dPq] at e0
        injection e0 with e0
        injection e0 with e1 e2
        injection e2 with e2 _
        injection e1 with e1
        rw [e1,e2]
        simp [isI]
     | _=>simp[dF,dFs];exact no (by simp[prB,prL,mkB])
    ·simp[dF,dFs];exact no rfl
   | _=>simp[dF];exact no rfl
  ·obtain⟨qs,rfl,hG,nd,a,b,c,rfl⟩:=hI
   rw[a7l,List.all_eq_true.mpr λy hy=>by obtain⟨q0,h0,rfl⟩:=List.mem_map.mp hy;exact c4o (hG q0 h0)] at q
   rw[c4w,decide_eq_true nd] at q
   rw[List.length_map] at hl
   rw[List.map_map,show (dF ∘ dPq)=a2t from funext b9z]
   simp[a1u]
   have ep:a2q (upF 0 ws.length) (ws.map .int)=(List.range ws.length).map λm:Nat=>FV.tup [.int (m:Int),.int (ws.getD m 0)]:=by
    rw[a1s]
    apply List.ext_getElem
    ·simp[a2q]
    ·intro i g1 g2
     simp[a2q] at g2 ⊢
     simp[g2]
   rw[ep]
   refine⟨by simp[big];lia,?_⟩
   refine a0m (f:=λm:Nat=>FV.tup [.int (m:Int),.int (ws.getD m 0)]) (g:=λm:Nat=>.bl (decide (ws.getD m 0<b1x qs λS=>decide ((m:Int)∈S)))) (List.range ws.length) [] (λm hm K k=>?_) ?_
   ·simp
    refine b4e d (-1) m hl ?_
    rw[c8a hG]
    simp
    simpa using k
   ·rw[List.nil_append,a1e,a0q]
    by_cases hwo:wOk ws qs=true
    ·rw[hwo] at q
     rw[if_neg (λz=>by
      obtain⟨m,hm,e⟩:=List.mem_map.mp z
      have h1:=of_decide_eq_true (List.all_eq_true.mp hwo m hm)
      have h2:=of_decide_eq_true e
      lia)]
     simp[a1u]
     refine⟨by simp[big];lia,?_⟩
     refine a0m (f:=a9o) (g:=λc=>.bl (decide (b1x qs (a3q c.1 c.2.1)<=c.2.2))) cs [] (λc hc K k=>?_) ?_
     ·simp[a9o]
      refine b4e d c.1 c.2.1 hl ?_
      simpa using k
     ·rw[List.nil_append,a1e,a0q]
      rw[cOk] at q
      simpa using q
    ·rw[if_pos (by
      obtain⟨m,hm,e⟩:=List.all_eq_false.mp (Bool.eq_false_iff.mpr hwo)
      refine List.mem_map.mpr ⟨m,hm,decide_eq_true ?_⟩
      exact Int.not_le.mp λz=>e (decide_eq_true z))]
     rw[Bool.eq_false_iff.mpr hwo] at q
     simpa using q
 | _=>simp[d6b,d6m,dF];exact q
def lsD:D->List (Option Nat)|.tup xs=>(xs.map dF).map toO|_=>[]
def qsD:D->List Pq|.lst ds=>ds.map unD|_=>[]
def rmD (ws:List Int)(cs:List Chg)(l:D):Int:=((List.range (lsD l).length).map (kpL ws cs (lsD l))).sum
def smD (p:D):Int:=((qsD p).map (·.2)).sum
def shN (ws:List Int)(cs:List Chg)(l p:D):D->Bool
 | .int i=>b1v ws.length cs (dF l) && (c1a ws cs p && (decide (rmD ws cs l=i) && decide (smD p=i)))
 | _=>false
def shL (ws:List Int)(cs:List Chg):List D->Bool
 | [n,l,p]=>shN ws cs l p n
 | _=>false
def shB (ws:List Int)(cs:List Chg):D->Bool
 | .tup ds=>shL ws cs ds
 | _=>false
theorem c5c {n:Nat}{cs:List Chg}{l:D}(h:b1v n cs (dF l)=true):dF l=.tup ((lsD l).map a1g)/\Rst cs (lsD l)/\(lsD l).length=n:=by
 cases l with
 | tup xs =>
  simp only[dF,a1b,b1v,Bool.and_eq_true,decide_eq_true_eq] at h
  obtain⟨h1,h2,h3⟩:=h
  obtain⟨e,r⟩:=a8t h2
  exact⟨by simp only[dF,a1b,lsD];exact congrArg FV.tup e,r,by simpa[lsD] using h1⟩
 | _=>cases h
theorem c4v {ws:List Int}{cs:List Chg}{p:D}(h:c1a ws cs p=true):dF p=.lst ((qsD p).map a2t):=by
 cases p with
 | lst ds =>
  obtain⟨h1,_⟩:=Bool.and_eq_true_iff.mp (show (ds.all (prB ws.length) && c4w ws cs (ds.map unD))=true from h)
  obtain⟨qs,rfl,_⟩:=b7k h1
  show FV.lst (dFs (qs.map dPq))=FV.lst (((qs.map dPq).map unD).map a2t)
  rw[a1b,a7l,List.map_map,show (dF ∘ dPq)=a2t from funext b9z]
 | _=>cases h
structure Bnd (n:Nat)(x:D):Prop where
 w:x.wt<big
 d:dep x<38
 p:∀ a b ds,x=.tup [a,b,.lst ds]->ds.all (prB n)=true->ds.length<=300
theorem sumQ (qs:List Pq):a0v (qs.map λq=>FV.int q.2)=some (qs.map (·.2)):=by
 rw[show (qs.map λq=>FV.int q.2)=(qs.map (·.2)).map .int by rw[List.map_map];rfl,a4a]
theorem c4j (d:Nat){ws:List Int}{cs:List Chg}(h:Gs ws cs)(x:D)(hx:Bnd ws.length x){Q:FV×FV->Prop}(q:Q (.bl (shB ws cs x),.non)):callW tb (d+6) 9 [a3j ws cs,dF x] Q:=by
 refine a0g (fd:=fd9) rfl rfl ?_
 simp[fd9,bd9]
 have tx:=λQ=>b2b (d+4) x 3 Q
 rw[show ((3:Nat):Int)=3 from rfl] at tx
 rw[tx]
 cases x with
 | tup ds =>
  rcases ds with _|⟨n,_|⟨l,_|⟨p,_|⟨c,r⟩⟩⟩⟩
  ·simp;exact q
  ·simp;exact q
  ·simp;exact q
  ·simp[dF,dFs]
   have q:Q (.bl (shN ws cs l p n),.non):=q
   have hw:=hx.w
   simp only[D.wt,D.wts] at hw
   rw[a3g]
   cases n with
   | int i =>
    simp
    refine d3b (d+3) h l ?_
    have q:Q (.bl (b1v ws.length cs (dF l) && (c1a ws cs p && (decide (rmD ws cs l=i) && decide (smD p=i)))),.non):=q
    cases hl:b1v ws.length cs (dF l) with
    | false=>rw[hl] at q;simpa using q
    | true =>
     rw[hl] at q
     simp
     refine c6y d p (by lia) (λds e hp=>hx.p _ _ ds (by rw[e]) hp) ?_
     cases hp:c1a ws cs p with
     | false=>rw[hp] at q;simpa using q
     | true =>
      rw[hp] at q
      obtain⟨e1,hr,hll⟩:=c5c hl
      have e2:=c4v hp
      rw[e1,e2]
      simp
      refine c1p (d+2) h hr hll ?_
      have hql:(qsD p).length<=big:=by
       cases p with
       | lst es=>have:=a3d es; simp only [qsD,List.length_map,D.wt] at hw ⊢; lia
       | _=>simp [qsD,big]
      simp[dF]
      rw[show ((List.range (lsD l).length).map (kpL ws cs (lsD l))).sum=rmD ws cs l from rfl]
      by_cases e3:rmD ws cs l=i
      ·rw[decide_eq_true e3] at q
       rw [if_pos e3]
       refine ⟨hql,?_⟩
       refine a0m (f:=a2t) (g:=fun q=>.int q.2) (qsD p) [] (fun q hq K k=>?_) ?_
       ·simp [a2t]
        exact k
       ·rw [List.nil_append,sumQ,a0q]
        rw [show ((qsD p).map (·.2)).sum=smD p from rfl]
        simp at q ⊢
        rw [show (smD p == i)=decide (smD p=i) by rw [Bool.eq_iff_iff]; simp]
        exact q
      ·rw[decide_eq_false e3] at q
       rw [if_neg e3]
       rw [show (rmD ws cs l == i)=false by simpa using e3]
       exact q
   | _=>simp;exact q
  ·simp;exact q
 | _=>simp;exact q
theorem c1q (d:Nat){ws:List Int}{cs:List Chg}(h:Gs ws cs)(l:D){Q:FV×FV->Prop}(q:Q (.bl (b1v ws.length cs (dF l)),.non)):callW tb (d+3) 36 [a3j ws cs,dF l] Q:=by
 have hn:=h.n
 refine a0g (fd:=d6a) rfl rfl ?_
 cases l with
 | tup ds =>
  simp only[dF,a1b] at q ⊢
  simp[d6a,d6l,a1u]
  refine a3z (λhl=>?_) λhl=>?_
  ·have hl:ds.length=ws.length:=by lia
   refine⟨by simp[big];lia,?_⟩
   refine a0m (f:=dF) (g:=λx=>.bl (match x with|.non=>true|.int i=>decide (0<=i) && decide (i<ds.length)|_=>false)) ds [] (λx hx K k=>?_) ?_
   ·have lb:=λQ q=>b4d (d+1) [x] (by simp[big]) (Q:=Q) q
    simp only[List.map_cons,List.map_nil] at lb
    cases x with
    | non=>simpa[dF] using k
    | int i =>
     simp only[dF] at lb ⊢
     simp[big]
     refine lb _ ?_
     simp[isI]
     by_cases z:0<=i
     ·simp[z];simpa[z] using k
     ·simp[z];simpa[z] using k
    | bl b=>simp only[dF] at lb ⊢;simp[big];refine lb _ ?_;simpa[isI] using k
    | str b=>simp only[dF] at lb ⊢;simp[big];refine lb _ ?_;simpa[isI] using k
    | tup b=>simp only[dF] at lb ⊢;simp[big];refine lb _ ?_;simpa[isI] using k
    | lst b=>simp only[dF] at lb ⊢;simp[big];refine lb _ ?_;simpa[isI] using k
   ·rw[List.nil_append,a1e (λx:D=>match x with|.non=>true|.int i=>decide (0<=i) && decide (i<ds.length)|_=>false),a0q]
    have q:Q (.bl (decide ((ds.map dF).length=ws.length) && (a3p cs (ds.map dF) && b9b ((ds.map dF).map toO))),.non):=q
    rw[decide_eq_true (by simpa using hl)] at q
    refine a3z (λz=>?_) λz=>?_
    ·obtain⟨x,hx,e⟩:=List.mem_map.mp z
     have:a3p cs (ds.map dF)=false:=by
      obtain⟨j,hj,ej⟩:=List.mem_iff_getElem.mp hx
      refine Bool.eq_false_iff.mpr λok=>?_
      have o:=a8u ok (m:=j) (by simpa using hj)
      rw[List.getElem_map,ej] at o
      obtain⟨_,o2⟩:=b2i o
      cases x with
      | non=>cases e
      | int i =>
       have o1:[i,(j:Int)]∈cs.map keyH:=of_decide_eq_true o
       obtain ⟨c,hc,ec⟩:=List.mem_map.mp o1
       have:=h.c c hc
       simp [keyH] at ec
       simp at e
       lia
      | _=>cases o
     rw[this] at q
     exact q
    ·refine c7m d h ds hl (λx hx=>?_) (by simpa using q)
     cases x with
     | non=>exact .inl rfl
     | int i=>exact .inr ⟨i,rfl⟩
     | _=>exact absurd (List.mem_map.mpr ⟨_,hx,rfl⟩) z
  ·have:decide ((ds.map dF).length=ws.length)=false:=decide_eq_false (by simp;lia)
   have q:Q (.bl (decide ((ds.map dF).length=ws.length) && (a3p cs (ds.map dF) && b9b ((ds.map dF).map toO))),.non):=q
   rw[this] at q
   exact q
 | _=>simp[d6a,d6l,dF];exact q
theorem c8m (d:Nat){ws:List Int}{cs:List Chg}(h:Gs ws cs)(x:D)(hx:Bnd ws.length x){Q:FV×FV->Prop}(q:Q (.bl (shB ws cs x),.non)):callW tb (d+4) 37 [a3j ws cs,dF x] Q:=by
 refine a0g (fd:=c5f) rfl rfl ?_
 cases x with
 | tup ds =>
  rcases ds with _|⟨n,_|⟨l,_|⟨p,_|⟨c,r⟩⟩⟩⟩
  ·simp[c5f,c5k,dF,dFs];exact q
  ·simp[c5f,c5k,dF,dFs];exact q
  ·simp[c5f,c5k,dF,dFs];exact q
  ·simp[c5f,c5k,dF,dFs]
   have q:Q (.bl (shN ws cs l p n),.non):=q
   have hw:=hx.w
   have hdd:=hx.d
   simp only[D.wt,D.wts] at hw
   simp only[dep,deps] at hdd
   rw[show a6e [dF n,dF l,dF p] none (some 1)=[n].map dF from rfl]
   refine c2o (d+2) [n] (by simp) ?_
   cases n with
   | int i =>
    simp[isI]
    refine c1q d h l ?_
    have q:Q (.bl (b1v ws.length cs (dF l) && (c1a ws cs p && (decide (rmD ws cs l=i) && decide (smD p=i)))),.non):=q
    cases hl:b1v ws.length cs (dF l) with
    | false=>rw[hl] at q;simpa using q
    | true =>
     rw[hl] at q
     obtain⟨e1,hr,hll⟩:=c5c hl
     rw[e1]
     simp
     refine b8d (d+1) h hr hll ?_
     rw[show ((List.range (lsD l).length).map (kpL ws cs (lsD l))).sum=rmD ws cs l from rfl]
     simp[dF]
     refine a3z (λe3=>?_) λe3=>?_
     ·rw[decide_eq_true e3] at q
      refine c2n (d+1) h.n h.l p (by lia) (by lia) ?_
      cases hp:c1a ws cs p with
      | false=>rw[hp] at q;simpa using q
      | true =>
       rw [hp] at q
       have e2:=c4v hp
       have hql:(qsD p).length<=big:=by
        cases p with
        | lst es=>have:=a3d es; simp only [qsD,List.length_map,D.wt] at hw ⊢; lia
        | _=>simp [qsD,big]
       rw [e2]
       simp
       refine ⟨hql,?_⟩
       refine a0m (f:=a2t) (g:=fun q=>.int q.2) (qsD p) [] (fun q hq K k=>?_) ?_
       ·simp [a2t]
        exact k
       ·rw [List.nil_append,sumQ,a0q]
        rw [show ((qsD p).map (·.2)).sum=smD p from rfl]
        simp at q ⊢
        rw [show (smD p == i)=decide (smD p=i) by rw [Bool.eq_iff_iff]; simp]
        exact q
     ·rw[decide_eq_false e3] at q
      simpa using q
   | _=>simp[isI];exact q
  ·simp[c5f,c5k,dF,dFs]
   exact a3z (λz=>absurd z (by lia)) λ_=>q
 | _=>simp[c5f,c5k,dF];exact q
def d6k:Option Nat->Int|none=>-1|some a=>a
theorem b9i (S:List Nat)(e:Ent):ent S e=(decide ((e.2:Int)∈S.map λj:Nat=>(j:Int)) && !decide (d6k e.1∈S.map λj:Nat=>(j:Int))):=by
 obtain⟨on,t⟩:=e
 have h:∀ a:Nat,((a:Int)∈S.map λj:Nat=>(j:Int))↔a∈S:=λa=>by
  rw[List.mem_map]
  exact⟨λ⟨x,h1,h2⟩=>by rwa [<- show x=a by lia],λh=>⟨a,h,rfl⟩⟩
 cases on with
 | none =>
  have:(-1:Int) ∉ S.map λj:Nat=>(j:Int):=λz=>by
   obtain⟨x,_,h2⟩:=List.mem_map.mp z
   lia
  simp[ent,d6k,h,this]
 | some a=>simp[ent,d6k,h]
theorem c5d {ls:List (Option Nat)}{r:Nat->Nat}(h:Rk ls r){m:Nat}(hm:m<ls.length):∀ k,(∀ a,itr ls (some m) k=some a->a<ls.length/\r a+k<=r m)
 | 0=>λa e=>by cases e;exact⟨hm,Γi _⟩
 | k+1=>λa e=>by
  rw[itr] at e
  cases g:itr ls (some m) k with
  | none=>rw[g] at e;cases e
  | some b =>
   rw[g] at e
   obtain⟨h1,h2⟩:=c5d h hm k b g
   have:=h.on b a h1 e
   lia
theorem c7x {ls:List (Option Nat)}{r:Nat->Nat}(h:Rk ls r){m:Nat}(hm:m<ls.length):itr ls (some m) ls.length=none:=by
 cases g:itr ls (some m) ls.length with
 | none=>rfl
 | some a =>
  have h1:=(c5d h hm _ a g).2
  have h2:=h.lt m hm
  lia
theorem b9j (ls:List (Option Nat))(sz:Ent->Int):((ens ls).map sz)=(List.range ls.length).map λm=>sz (ls.getD m none,m):=by
 unfold ens;rw[List.map_map];rfl
theorem GsB.sto {ws:List Int}{cs:List Chg}(h:GsB 1000000100 ws cs):Sto ws cs (szF ws cs):=by
 have hw:∀ m (g:m<ws.length),szF ws cs (none,m)=ws[m]:=λm g=>by
  show ws.getD m 0=_
  simp[g]
 have hc:=λc hc=>d7g (ws:=ws) h.d (c:=c) hc
 refine⟨h.n,h.l,hw,hc,λc g=>?_,h.d,λe he=>?_⟩
 ·have:=h.c c g;exact⟨this.1,this.2.1,this.2.2.1⟩
 ·rcases List.mem_append.mp he with he|he
  ·obtain⟨m,hm,rfl⟩:=List.mem_map.mp he
   have hm:=List.mem_range.mp hm
   rw[hw m hm]
   have:=h.w _ (List.getElem_mem hm)
   lia
  ·obtain⟨c,g,rfl⟩:=List.mem_map.mp he
   rw[hc c g]
   have:=h.c c g
   lia
theorem Told.sm {ws:List Int}{cs:List Chg}{sz:Ent->Int}{ps:List Prc}{ls:List (Option Nat)}(t:Told ws cs sz ps ls):0<=(ps.map (·.p)).sum/\(ps.map (·.p)).sum<=2000000000*ps.length:=by
 have h1:=t.pos
 have h2:=t.bd
 clear t
 induction ps with
 | nil=>simp
 | cons q r ih =>
  have:=ih (λx hx=>h1 x (by simp[hx])) λx hx=>h2 x (by simp[hx])
  have:=h1 q (by simp)
  have:=h2 q (by simp)
  simp only[List.map_cons,List.sum_cons,List.length_cons]
  lia
def encT (ps:List Prc)(ls:List (Option Nat)):FV:=.tup [.int (ps.map (·.p)).sum,.tup (ls.map a1g),.lst (ps.map b4p)]
def dPc (q:Prc):D:=.tup [.tup (q.S.map λi:Nat=>.int i),.int q.p]
def dT (ps:List Prc)(ls:List (Option Nat)):D:=.tup [.int (ps.map (·.p)).sum,.tup (ls.map dLo),.lst (ps.map dPc)]
theorem a4c {α:Type}{f:α->D}{g:α->FV}(h:∀ x,dF (f x)=g x)(l:List α):dFs (l.map f)=l.map g:=by
 rw[a1b,List.map_map]
 exact List.map_congr_left λx _=>h x
theorem dF_T (ps:List Prc)(ls:List (Option Nat)):dF (dT ps ls)=encT ps ls:=by
 have h1:dFs (ls.map dLo)=ls.map a1g:=a4c (λx=>by cases x<;>rfl) ls
 have h3:∀ S:List Nat,dFs (S.map λi:Nat=>D.int i)=S.map λi:Nat=>FV.int i:=λS=>a4c (λx=>rfl) S
 have h2:dFs (ps.map dPc)=ps.map b4p:=a4c (λq=>by simp only[dPc,b4p,dF,dFs,h3]) ps
 simp only[dT,encT,dF,dFs,h1,h2]
theorem c2r (d:Nat)(ns:List Int) (k:Nat){Q:FV×FV->Prop}(q:∀ v,Lf 0 v->Q (v,.lst (ns.map .int))):callW tb (d+1) 21 [.lst (ns.map .int),.int k] Q:=by
 refine a0g (fd:=e1s) rfl rfl ?_
 have h1:a2o 1000003=true:=by decide
 have h2:a2o 0=true:=by decide
 have h4:a2o 10=true:=by decide
 have h5:∀ r:Bool,a2o (if r=true then 1 else 0)=true:=by intro r;cases r<;>decide
 simp[e1s,e3o]
 split
 ·rename_i hk
  rw[a4x rfl (show (ns.map FV.int)[k]?=some (.int ns[k]) by simp[hk])]
  simp[h1,h4,h5,big]
  exact⟨.inr (by by_cases hh:1000000000000000000<=(if ns[k]<0 then -ns[k] else ns[k])<;>simp only[hh,if_true,if_false]<;>decide),q _ ⟨_,_,_,rfl,by lia,by lia⟩⟩
 ·simp[h1,h2,h4,big]
  exact q _ ⟨_,_,_,rfl,by lia,by lia⟩
theorem c0b {α β:Type}(f:α->β)(xs:List α)(lo hi:Option Int):a6e (xs.map f) lo hi=(a6e xs lo hi).map f:=by simp[a6e,List.map_drop,List.map_take]
theorem c8v {α:Type}(xs:List α) (i t:Nat):a6e xs (some (i:Int)) (some ((i:Int)+(t:Int)))=(xs.drop i).take t:=by
 have h1:sIx xs.length 0 (some (i:Int))=min i xs.length:=by simp only[sIx];rw[if_neg (by lia)];simp
 have h2:sIx xs.length xs.length (some ((i:Int)+(t:Int)))=min (i+t) xs.length:=by simp only[sIx];rw[if_neg (by lia)];congr 1
 unfold a6e
 rw[h1,h2]
 by_cases hi:i<=xs.length
 ·rw[Nat.min_eq_left hi,List.take_eq_take_iff,List.length_drop];lia
 ·rw[Nat.min_eq_right (show xs.length<=i by lia),List.drop_of_length_le (Γi _),List.drop_of_length_le (by lia)];simp
theorem c0a {α:Type}(xs:List α){i j:Nat}(h:i<=j):a6e xs (some (i:Int)) (some (j:Int))=(xs.drop i).take (j-i):=by
 obtain⟨t,rfl⟩:∃ t,j=i+t:=⟨j-i,by lia⟩
 rw[Nat.add_sub_cancel_left,<- c8v];simp
theorem c3i (d:Nat)(ns:List Int){Q:FV×FV->Prop}(q:∀ ms:List Int,ms.length<=5->Q (.lst (ms.map .int),.non)):callW tb (d+1) 23 [.scr ns,.int 5] Q:=by
 refine a0g (fd:=e1r) rfl rfl ?_
 simp[e1r,e3n]
 rw[show ∀ Q:List FV->Prop,wp (a1z (.scr ns)) Q↔Q (ns.map .int) from λ_=>Iff.rfl,show ∀ Q:List FV->Prop,wp (a1z (.scr ns)) Q↔Q (ns.map .int) from λ_=>Iff.rfl]
 have c6:a6e ns none (some 5)=ns.take 5:=(show a6e ns none (some 5)=a6e ns (some (0:Nat)) (some (5:Nat)) by simp[a6e,sIx]).trans (c0a ns (i:=0) (j:=5) (by lia))
 rw[c0b,c0b,show a6e ns (some 5) (some 63)=(ns.drop 5).take 58 from c0a ns (i:=5) (j:=63) (by lia),c6,List.length_map]
 rw[show a2q (upF 0 ((ns.drop 5).take 58).length) (((ns.drop 5).take 58).map FV.int)=((List.range ((ns.drop 5).take 58).length).zip ((ns.drop 5).take 58)).map λp:Nat×Int=>FV.tup [.int p.1,.int p.2] by rw[a1s,a4p]]
 refine a2j (f:=λp:Nat×Int=>FV.tup [.int p.1,.int p.2]) (I:=λ_ L=>∃ (ms:List Int)(x y:Option FV),ms.length=(ns.take 5).length/\L=[some (.scr ns),some (.int 5),some (.lst (ms.map .int)),x,y]) _ _ [] _ rfl ⟨ns.take 5,_,_,rfl,rfl⟩ (λdd c r L K e hI hK=>?_) λL hI=>?_
 ·obtain⟨ms,x,y,hl,rfl⟩:=hI
  have hc:c∈(List.range ((ns.drop 5).take 58).length).zip ((ns.drop 5).take 58):=by rw[List.nil_append] at e;rw[e];simp
  have h1:c.1<((ns.drop 5).take 58).length:=List.mem_range.mp (List.of_mem_zip hc).1
  have h2:c.1<58/\5<ns.length:=by simp at h1;lia
  have h6:ms.length=5:=by rw[hl];simp;lia
  obtain⟨j,hj,ej⟩:∃ j:Nat,j<5/\(c.1:Int) % 5=j:=⟨c.1 % 5,by lia,by lia⟩
  simp
  rw[ej,a4x rfl (v:=.int (ms.getD j 0)) (by rw[List.getElem?_map,List.getElem?_eq_getElem (by lia)];simp[show j<ms.length by lia])]
  refine⟨.inr (a8j (by lia) (by lia)),?_⟩
  simp
  rw[d2y rfl (by lia),<- List.map_set]
  exact hK _ ⟨_,_,_,by rw[List.length_set];exact hl,rfl⟩
 ·obtain⟨ms,x,y,hl,rfl⟩:=hI
  simp
  exact q ms (by rw[hl];simp;lia)
mutual
theorem c3n:∀ x:D,D.eqv x x=true
 | .non=>rfl
 | .bl b=>by simp[D.eqv]
 | .int i=>by simp[D.eqv]
 | .str s=>by simp[D.eqv]
 | .tup xs=>by rw[D.eqv];exact eqvs_refl xs
 | .lst xs=>by rw[D.eqv];exact eqvs_refl xs
theorem eqvs_refl:∀ xs:List D,D.eqvs xs xs=true
 | []=>rfl
 | x :: r=>by rw[D.eqvs,c3n x,eqvs_refl r];rfl
end
theorem a6o:∀ xs:List FV,a2q xs xs=xs.map λx=>.tup [x,x]
 | []=>rfl
 | x :: r=>by rw[List.map_cons,<- a6o r];rfl
theorem c5z:∀ (p d:Nat){x:D}{Q:FV×FV->Prop},dep x<=p->p<39->x.wt<=big->Q (.bl true,.non)->callW tb (d+p+1) 27 [dF x,dF x] Q:=by
 intro p
 induction p with
 | zero =>
  intro d x Q hx hp hw q
  refine a0g (fd:=c8h) rfl rfl ?_
  cases x with
  | tup xs=>simp[dep] at hx
  | lst xs=>simp[dep] at hx
  | _=>simp[c8h,c9n,dF];exact q
 | succ p ih =>
  intro d x Q hx hp hw q
  refine a0g (fd:=c8h) rfl rfl ?_
  cases x with
  | tup xs =>
   simp only[dep] at hx
   simp only[D.wt] at hw
   have hl:=a3d xs
   simp[c8h,c9n,dF]
   rw[a6o,a1b,List.map_map]
   refine⟨by simp;lia,?_⟩
   refine a0m (g:=λ_=>.bl true) xs [] (λx hx' K k=>?_) ?_
   ·have:=a6d hx'
    have:=a6g hx'
    simp
    exact ih d (by lia) (by lia) (by lia) (by simpa using k)
   ·rw[List.nil_append,show (xs.map λ_=>FV.bl true)=xs.map λx=>FV.bl ((λ_=>true) x) from rfl,a1e]
    simp
    rw[show (xs.all λ_=>true)=true by simp];exact q
  | lst xs =>
   simp only[dep] at hx
   simp only[D.wt] at hw
   have hl:=a3d xs
   simp[c8h,c9n,dF]
   rw[a6o,a1b,List.map_map]
   refine⟨by simp;lia,?_⟩
   refine a0m (g:=λ_=>.bl true) xs [] (λx hx' K k=>?_) ?_
   ·have:=a6d hx'
    have:=a6g hx'
    simp
    exact ih d (by lia) (by lia) (by lia) (by simpa using k)
   ·rw[List.nil_append,show (xs.map λ_=>FV.bl true)=xs.map λx=>FV.bl ((λ_=>true) x) from rfl,a1e]
    simp
    rw[show (xs.all λ_=>true)=true by simp];exact q
  | _=>simp[c8h,c9n,dF];exact q
def Na:Nat->Int|0=>2|k+1=>4+3*Na k
def Wa:Nat->Nat|0=>100|k+1=>3*(Wa k+1)+100
theorem c5o:∀ k,2<=Na k
 | 0=>by simp[Na]
 | k+1=>by have:=c5o k;simp only[Na];lia
def someD:List D:=[.non,.bl true,.bl false,.int 0,.int 1,.int (-1),.int 2,.int 7,.str "",.str "keep",.str "put",.tup [],.lst [],.tup [.int 0],.lst [.int 0],.tup [.int 0,.int 1],.tup [.non],.tup [.str "keep",.int 0,.int 1]]
theorem c5y:∀ x∈someD.map dF,Vl 100 1 x:=Vl.of someD (by nofun)
theorem b6v {v':FV}{j:Int}{Q:FV×FV->Prop}(h0:0<=j)(h1:j<18)(q:∀ x,Vl 100 1 x->Q (x,v')) :
  wp (atF [FV.non,FV.bl true,FV.bl false,FV.int 0,FV.int 1,FV.int (-1),FV.int 2,FV.int 7,FV.str "",FV.str "keep",FV.str "put",FV.tup [],FV.lst [],FV.tup [FV.int 0],FV.lst [FV.int 0],FV.tup [FV.int 0,FV.int 1],FV.tup [FV.non],FV.tup [FV.str "keep",FV.int 0,FV.int 1]] j) λv=>Q (v,v') :=
 a5q (xs:=someD.map dF) h0 h1 λx hx=>q x (c5y x hx)
theorem c0q (d:Nat):∀ (lv:Nat){n:Int}{v:FV}{Q:FV×FV->Prop},Lf n v->0<=n->n+Na lv<10000->(∀ x v',Vl (Wa lv) (lv+2) x->Lf (n+Na lv) v'->Q (x,v'))->callW tb (d+lv+3) 29 [v,.int lv] Q
 | 0,n,v,Q,hs,h0,hn,q=>by
  refine a0g (fd:=d3j) rfl rfl ?_
  simp[d3j,d6p,big]
  simp only[Na] at hn
  refine a1j d hs (by lia) (by decide) (by decide) λu v1 u0 u1 l1=>?_
  simp only[in_i]
  exact b6v u0 u1 λx hx=>q x v1 (hx.mono (by decide) (by lia)) (l1.mono (by simp only[Na];lia))
 | lv+1,n,v,Q,hs,h0,hn,q=>by
  refine a0g (fd:=d3j) rfl rfl ?_
  have hz:¬ ((lv:Int)+1=0):=by lia
  simp[d3j,d6p,big,hz]
  have hp:=c5o lv
  simp only[Na] at hn
  refine a1j (d+lv+1) hs (by lia) (by decide) (by decide) λu v1 u0 u1 l1=>?_
  simp
  refine a3z (λhu=>?_) (λhu=>?_)
  ·refine a1j (d+lv+1) l1 (by lia) (by decide) (by decide) λu v2 u0 u1 l2=>?_
   simp only[in_i]
   exact b6v u0 u1 λx hx=>q x v2 (hx.mono (by simp only[Wa];lia) (by lia)) (l2.mono (by simp only[Na];lia))
  ·refine a1j (d+lv+1) l1 (by lia) (by decide) (by decide) λu v2 u0 u1 l2=>?_
   simp
   refine⟨a0l u0 (by lia),?_⟩
   rw[a1s]
   refine⟨by simp;lia,?_⟩
   refine a6x (f:=λi:Nat=>FV.int i) (I:=λds acc L=>∃ v',L=[some v',some (.int ((lv:Int)+1)),some (.lst (someD.map dF)),none]/\Lf (n+2+Na lv*ds.length) v'/\acc.length=ds.length/\∀ x∈acc,Vl (Wa lv) (lv+2) x) (List.range u.toNat) (List.range u.toNat) [] [] _ rfl ⟨v2,rfl,by simpa[Int.add_assoc] using l2,rfl,by simp⟩ ?_ ?_
   ·rintro ds x r acc L K e ⟨v',rfl,l3,hl,hv⟩ k
    have hd:ds.length<=3:=by have:=congrArg List.length e;simp at this;lia
    have hd':Na lv*ds.length+Na lv<=3*Na lv:=by
     have:ds.length+1<=3:=by have:=congrArg List.length e;simp at this;lia
     have:Na lv*(ds.length+1:Nat)<=Na lv*(3:Nat):=Int.mul_le_mul_of_nonneg_left (by exact_mod_cast this) (by lia)
     push_cast at this;rw[Int.mul_add] at this;lia
    have hd0:0<=Na lv*ds.length:=Int.mul_nonneg (by lia) (by lia)
    simp
    refine c0q d lv l3 (by lia) (by lia) λy v4 hy l4=>?_
    simp
    refine k _ _ ⟨v4,rfl,l4.mono (by simp[Int.mul_add];lia),by simp[hl],?_⟩
    intro z hz
    simp at hz
    rcases hz with hz|hz
    ·exact hv z hz
    ·rw[hz];exact hy
   ·rintro ys L ⟨v',rfl,l3,hl,hv⟩
    simp at hl hv
    rw[List.length_range] at l3
    have hu3:(u.toNat:Int)<=3:=by lia
    have hm:Na lv*(u.toNat:Int)<=Na lv*3:=Int.mul_le_mul_of_nonneg_left hu3 (by lia)
    have hm0:0<=Na lv*(u.toNat:Int):=Int.mul_nonneg (by lia) (by lia)
    simp
    refine a1j (d+lv+1) l3 (by lia) (by decide) (by decide) λw v5 w0 w1 l5=>?_
    simp
    refine a5q w0 w1 ?_
    have hq:∀ x,Vl (Wa (lv+1)) (lv+1+2) x->Q (x,v5):=λx hx=>q x v5 hx (l5.mono (by simp only[Na];lia))
    intro x hx
    simp at hx
    rcases hx with rfl|rfl
    ·exact hq _ ((Vl.lst hv (show ys.length<=3 by lia)).mono (by simp only[Wa];lia) (by lia))
    ·exact hq _ ((Vl.tup hv (show ys.length<=3 by lia)).mono (by simp only[Wa];lia) (by lia))
theorem c7i (d:Nat){n:Int}{v:FV}{Q:FV×FV->Prop}(hs:Lf n v)(h0:0<=n)(hn:n<10000)(q:∀ x v',Vl 200 25 x->Lf (n+2) v'->Q (x,v')):callW tb (d+3) 30 [v] Q:=by
 refine a0g (fd:=e1n) rfl rfl ?_
 simp[e1n,e3j,big]
 refine a1j d hs (by lia) (by decide) (by decide) λu v1 u0 u1 l1=>?_
 simp
 refine a5q u0 u1 ?_
 intro x hx
 have hx:Vl 100 1 x:=by
  refine Vl.of [.tup [.int 0,.int 1],.int 0,.non] (by nofun) x ?_
  simpa[dF,dFs] using hx
 refine a1j d l1 (by lia) (by decide) (by decide) λw v2 w0 w1 l2=>?_
 simp
 refine⟨a0l w0 (by lia),?_⟩
 refine a2i (I:=λj L=>∃ x y,L=[some v2,some x,y]/\Vl (100+2*j) (1+j) x) w.toNat 0 _ ⟨_,_,rfl,hx⟩ ?_ ?_
 ·rintro j L K-hj ⟨x,y,rfl,hx⟩ k
  simp[big]
  refine a5q (Int.emod_nonneg _ (by lia)) (by have:=Int.emod_lt_of_pos (j:Int) (show (0:Int)<2 by lia);simpa using this) ?_
  intro z hz
  simp at hz
  rcases hz with rfl|rfl
  ·exact k _ ⟨_,_,rfl,(Vl.lst (k:=100+2*j) (p:=1+j) (m:=1) (xs:=[x]) (by simpa using hx) (by simp)).mono (by lia) (by lia)⟩
  ·exact k _ ⟨_,_,rfl,(Vl.tup (k:=100+2*j) (p:=1+j) (m:=1) (xs:=[x]) (by simpa using hx) (by simp)).mono (by lia) (by lia)⟩
 ·rintro L ⟨x,y,rfl,hx⟩
  simp
  exact q _ _ (hx.mono (by lia) (by lia)) (l2.mono (by lia))
theorem e2i (S:List Nat) (m:Nat):ent S (none,m)=decide ((m:Int)∈S.map λj:Nat=>(j:Int)):=by
 have:(-1:Int) ∉ S.map λj:Nat=>(j:Int):=λz=>by
  obtain⟨x,_,h2⟩:=List.mem_map.mp z
  lia
 rw[b9i]
 simp[d6k,this]
theorem e2j (S:List Nat) (a b:Nat):ent S (some a,b)=a3q a b (S.map λj:Nat=>(j:Int)):=b9i S (some a,b)
def zP (q:Prc):Pq:=(q.S.map λi:Nat=>(i:Int),q.p)
theorem d4a (q:Prc):dPc q=dPq (zP q):=by
 simp[dPc,dPq,zP,Function.comp_def]
theorem d3u (ps:List Prc)(e:Ent)(p:List Int->Bool)(h:∀ S:List Nat,ent S e=p (S.map λi:Nat=>(i:Int))):b1x (ps.map zP) p=due ps e:=by
 unfold b1x due
 rw[List.filter_map,List.map_map]
 congr 1
 rw[show (λq:Pq=>p q.1) ∘ zP=λq:Prc=>ent q.S e from funext λq=>(h q.S).symm]
 rfl
theorem d6w {S:List Nat}(h:S.Pairwise (· < ·)):rsB (S.map λi:Nat=>(i:Int))=true:=by
 rw[rs_pw,List.pairwise_map]
 exact h.imp λh=>by lia
theorem Told.gq {ws:List Int}{cs:List Chg}{sz:Ent->Int}{ps:List Prc}{ls:List (Option Nat)}(t:Told ws cs sz ps ls){q:Prc}(hq:q∈ps):Gq ws.length (zP q):=by
 refine⟨λz=>t.ne q hq (by simpa[zP] using z),λi hi=>?_,d6w (t.up q hq),t.pos q hq⟩
 obtain⟨m,hm,rfl⟩:=List.mem_map.mp hi
 have:=t.lt q hq m hm
 lia
theorem Told.pap {ws:List Int}{cs:List Chg}{ps:List Prc}{ls:List (Option Nat)}(h:Sto ws cs (szF ws cs))(t:Told ws cs (szF ws cs) ps ls):c1a ws cs (.lst (ps.map dPc))=true:=by
 have e:ps.map dPc=(ps.map zP).map dPq:=by rw[List.map_map];exact List.map_congr_left λq _=>d4a q
 show ((ps.map dPc).all (prB ws.length) && c4w ws cs ((ps.map dPc).map unD))=true
 rw[e,a7l,List.all_eq_true.mpr λy hy=>?_]
 ·rw[c4w,decide_eq_true ?_,show wOk ws (ps.map zP)=true from List.all_eq_true.mpr λm hm=>decide_eq_true ?_,show cOk cs (ps.map zP)=true from List.all_eq_true.mpr λc hc=>decide_eq_true ?_]
  ·rfl
  ·rw[d3u ps (some c.1,c.2.1) _ λS=>e2j S c.1 c.2.1]
   have:=t.low (some c.1,c.2.1) (List.mem_append_right _ (List.mem_map.mpr ⟨c,hc,rfl⟩))
   rwa [h.c c hc] at this
  ·rw[d3u ps (none,m) _ λS=>e2i S m]
   exact t.low (none,m) (List.mem_append_left _ (List.mem_map.mpr ⟨m,hm,rfl⟩))
  ·have:=t.dst
   rw[List.Nodup,List.pairwise_map] at this
   rw[List.map_map,List.Nodup,List.pairwise_map]
   refine this.imp λh e=>h ?_
   have:=congrArg (List.map Int.toNat) (show (_:List Int)=_ from e)
   simpa[zP,Function.comp_def] using this
 ·obtain⟨q,hq,rfl⟩:=List.mem_map.mp hy
  obtain⟨r,hr,rfl⟩:=List.mem_map.mp hq
  exact c4o (t.gq hr)
theorem d9r (ws:List Int)(cs:List Chg)(ls:List (Option Nat)) (m:Nat):kpL ws cs ls m=szF ws cs (ls.getD m none,m):=by
 unfold kpL szF
 cases ls.getD m none<;>rfl
theorem Told.sh {ws:List Int}{cs:List Chg}{ps:List Prc}{ls:List (Option Nat)}(h:Sto ws cs (szF ws cs))(t:Told ws cs (szF ws cs) ps ls):shB ws cs (dT ps ls)=true:=by
 obtain⟨r,hr⟩:=t.rk
 have e1:(ls.map dLo).map dF=ls.map a1g:=by rw[List.map_map];exact List.map_congr_left λx _=>by cases x<;>rfl
 have hls:lsD (.tup (ls.map dLo))=ls:=by show ((ls.map dLo).map dF).map toO=ls;rw[e1,b8c]
 have hrs:Rst cs ls:=λm a e=>by
  have hm:=(List.getElem?_eq_some_iff.mp e).1
  rcases List.mem_append.mp (t.ent (some a,m) (mem_ens.mpr ⟨hm,by rw[List.getD_eq_getElem?_getD,e];rfl⟩)) with z|z
  ·obtain⟨x,_,z⟩:=List.mem_map.mp z;cases z
  ·obtain⟨c,hc,z⟩:=List.mem_map.mp z
   cases z;exact List.mem_map.mpr ⟨c,hc,rfl⟩
 have hl:b1v ws.length cs (dF (.tup (ls.map dLo)))=true:=by
  show b1v ws.length cs (.tup (dFs (ls.map dLo)))=true
  rw[a1b,e1]
  show (decide ((ls.map a1g).length=ws.length) && (a3p cs (ls.map a1g) && b9b ((ls.map a1g).map toO)))=true
  rw[d0m hrs,b8c,decide_eq_true (by simpa using t.len),show b9b ls=true from List.all_eq_true.mpr λm hm=>by rw[c7x hr (List.mem_range.mp hm)];rfl]
  rfl
 have e2:(ps.map dPc).map unD=ps.map zP:=by
  rw[show ps.map dPc=(ps.map zP).map dPq by rw[List.map_map];exact List.map_congr_left λq _=>d4a q,a7l]
 show (b1v ws.length cs (dF (.tup (ls.map dLo))) && (c1a ws cs (.lst (ps.map dPc)) && (decide (rmD ws cs (.tup (ls.map dLo))=(ps.map (·.p)).sum) && decide (smD (.lst (ps.map dPc))=(ps.map (·.p)).sum))))=true
 rw[hl,t.pap h,decide_eq_true ?_,decide_eq_true ?_]
 ·rfl
 ·show (((ps.map dPc).map unD).map (·.2)).sum=_
  rw[e2,List.map_map];rfl
 ·rw[rmD,hls,<- t.sum,b9j]
  exact congrArg List.sum (List.map_congr_left λm _=>d9r ws cs ls m)
structure Th (n:Nat)(x:D):Prop extends Bnd n x where
 f:x.fit=true
theorem Th.str {n:Nat}{x:D}(h:Th n x):∃ y,c9h (dF x)=some y/\∀ R:Bool->Prop,wp (eqF y y) R=R true :=
 d0d ⟨x,rfl,Nat.le_of_lt h.d,h.f,Nat.le_of_lt h.w⟩ (Γi _) (by decide)
def Lst3 (n:Nat)(c:D):Prop:=∀ ds,c=.lst ds->ds.all (prB n)=true->ds.length<=300
theorem Th.three {n:Nat}{a b c:D}(f1:a.fit=true)(f2:b.fit=true)(f3:c.fit=true)(d1:dep a<=30)(d2:dep b<=30)(d3:dep c<=30)(w:a.wt+b.wt+c.wt<=99000)(l:Lst3 n c):Th n (.tup [a,b,c]) :=
 ⟨⟨by simp only[D.wt,D.wts,big];lia,by simp only[dep,deps];lia,λ_ _ ds e=>by
  injection e with e
  injection e with _ e
  injection e with _ e
  injection e with e _
  exact l ds e⟩,by simp only[D.fit,D.fits,f1,f2,f3,Bool.and_self]⟩
theorem d8t {n:Nat}{x:D}(h:prB n x=true):43<=x.wt:=by
 obtain⟨q,rfl,g⟩:=b3r h
 cases e:q.1 with
 | nil=>exact absurd e g.ne
 | cons a r =>
  have:41<=(D.int q.2).wt:=by simp only[D.wt];split<;>lia
  simp only[dPq,D.wt,D.wts] at this ⊢
  lia
theorem b6h {n:Nat}:∀ {ds:List D},ds.all (prB n)=true->ds.length*44<=D.wts ds
 | [],_=>by simp
 | x :: r,h=>by
  rw[List.all_cons,Bool.and_eq_true] at h
  have:=d8t h.1
  have:=b6h h.2
  simp only[D.wts,List.length_cons]
  lia
theorem Lst3.of {n:Nat}{c:D}(h:c.wt<=12300):Lst3 n c:=λds e hp=>by
 subst e
 have:=b6h hp
 simp only[D.wt] at h
 lia
theorem Th.odd {n:Nat}{x:D}(f:x.fit=true)(d:dep x<=25)(w:x.wt<=12300):Th n x :=
 ⟨⟨by simp only[big];lia,by lia,λa b ds e hp=>by
  subst e
  have:=b6h hp
  simp only[D.wt,D.wts] at w
  lia⟩,f⟩
theorem c4e {n:Nat}(hn:n<=12):∀ (ps:List Prc),(∀ q∈ps,q.S.Pairwise (· < ·)/\(∀ m∈q.S,m<n)/\0<q.p/\q.p<=2000000000)->D.wts (ps.map dPc)<=ps.length*548/\D.fits (ps.map dPc)=true/\deps (ps.map dPc)<=2
 | [],_=>by simp[D.wts,D.fits,deps]
 | q :: r,h=>by
  obtain⟨h1,h2,h3⟩:=c4e hn r λx hx=>h x (Γh _ hx)
  obtain⟨u,l,p0,p1⟩:=h q Γn
  have hS:q.S.length<=12:=by have:=b2q (n:=n) (u.imp λh=>Γo h) l;lia
  have ns:∀ S:List Nat,(∀ m∈S,m<12)->D.wts (S.map λi:Nat=>D.int i)=S.length*42/\D.fits (S.map λi:Nat=>D.int i)=true/\deps (S.map λi:Nat=>D.int i)=0:=λS=>by
   induction S with
   | nil=>intro _;simp[D.wts,D.fits,deps]
   | cons a s ih =>
    intro hs
    obtain⟨g1,g2,g3⟩:=ih λm hm=>hs m (Γh _ hm)
    have ha:=hs a Γn
    have:D.fit (.int (a:Int))=true:=by simp only[D.fit,decide_eq_true_eq];lia
    simp only[List.map_cons,D.wts,D.fits,deps,g1,g2,g3,this,dep,D.wt,List.length_cons]
    rw[if_pos (by lia)]
    refine⟨by lia,rfl,by lia⟩
  obtain⟨g1,g2,g3⟩:=ns q.S λm hm=>by have:=l m hm;lia
  have:D.fit (.int q.p)=true:=by simp only[D.fit,decide_eq_true_eq];lia
  simp only[List.map_cons,dPc,D.wts,D.wt,D.fits,D.fit,deps,dep,g1,g2,g3,List.length_cons,h2] at this ⊢
  rw[if_pos (by lia)]
  refine⟨by lia,by rw[this];rfl,by lia⟩
theorem ls_D {n:Nat}:∀ (ls:List (Option Nat)),(∀ a,some a∈ls->a<12)->D.wts (ls.map dLo)<=ls.length*42/\D.fits (ls.map dLo)=true/\deps (ls.map dLo)=0
 | [],_=>by simp[D.wts,D.fits,deps]
 | o :: r,h=>by
  obtain⟨h1,h2,h3⟩:=ls_D (n:=n) r λa ha=>h a (Γh _ ha)
  cases o with
  | none =>
   simp only[List.map_cons,dLo,D.wts,D.fits,deps,dep,D.wt,D.fit,h2,h3,List.length_cons]
   exact⟨by lia,rfl,by lia⟩
  | some a =>
   have ha:=h a Γn
   have:D.fit (.int (a:Int))=true:=by simp only[D.fit,decide_eq_true_eq];lia
   simp only[List.map_cons,dLo,D.wts,D.fits,deps,dep,D.wt,h2,h3,List.length_cons,this]
   rw[if_pos (by lia)]
   exact⟨by lia,rfl,by lia⟩
structure Parts3 (n:Nat) (N:Int)(l p:D):Prop where
 n1:(D.int N).fit=true
 n2:(D.int N).wt<=41
 l1:l.fit=true
 l2:l.wt<=504
 l3:dep l<=1
 p1:p.fit=true
 p2:p.wt<=85488
 p3:dep p<=3
 p4:Lst3 n p
theorem Told.parts {ws:List Int}{cs:List Chg}{sz:Ent->Int}{ps:List Prc}{ls:List (Option Nat)}(hn:ws.length<=12)(t:Told ws cs sz ps ls):Parts3 ws.length (ps.map (·.p)).sum (.tup (ls.map dLo)) (.lst (ps.map dPc)):=by
 obtain⟨s0,s1⟩:=t.sm
 have hp:=t.pl
 obtain⟨r,hr⟩:=t.rk
 have hll:=t.len
 obtain⟨a1,a2,a3⟩:=ls_D (n:=0) ls λa ha=>by
  obtain⟨m,hm,e⟩:=List.mem_iff_getElem.mp ha
  have:=(hr.on m a hm (by simp[List.getD_eq_getElem?_getD,hm,e])).1
  lia
 obtain⟨b1,b2,b3⟩:=c4e hn ps λq hq=>⟨t.up q hq,t.lt q hq,t.pos q hq,t.bd q hq⟩
 refine⟨?_,?_,a2,?_,?_,b2,?_,?_,λds e _=>?_⟩
 ·simp only[D.fit,decide_eq_true_eq];lia
 ·simp only[D.wt];rw[if_pos (by lia)];lia
 ·simp only[D.wt];lia
 ·simp only[dep];lia
 ·simp only[D.wt];lia
 ·simp only[dep];lia
 ·injection e with e
  rw[<- e,List.length_map];lia
theorem law_val (ns:List Int):callW tb 14 38 [.scr ns] λz=>z.1=.bl true:=by
 refine a0g (fd:=e1i) rfl rfl ?_
 simp[e1i,e3g]
 refine c3i 12 ns λms hm=>?_
 simp
 have e0:∃ k:Nat,(if (2:Int)<(ms.length:Int) then (ms.length:Int) else 2)=k/\k<=6:=by
  by_cases z:(2:Int)<(ms.length:Int)
  ·exact⟨ms.length,by rw[if_pos z],by lia⟩
  ·exact⟨2,by rw[if_neg z];rfl,by lia⟩
 obtain⟨k0,ek,hk0⟩:=e0
 rw[ek,Int.toNat_natCast]
 refine⟨a0l (by lia) (by lia),?_⟩
 refine a2i (I:=λ_ L=>∃ a b c d e f g h i j k l m,L=[some (FV.scr ns),some (FV.lst (ms.map FV.int)),a,b,c,d,e,f,g,h,i,j,k,l,m]) k0 0 _ ⟨_,_,_,_,_,_,_,_,_,_,_,_,_,rfl⟩ (λk L K _ hk hI hK=>?_) λL hI=>?_
 ·obtain⟨x2,x3,x4,x5,x6,x7,x8,x9,x10,x11,x12,x13,x14,rfl⟩:=hI
  simp
  refine c2r 12 ms k λv hv=>?_
  obtain⟨a1,a2,a3,rfl,c1,c2⟩:=hv
  simp[ixN]
  refine c2p 10 (n:=0) ⟨_,_,_,rfl,c1,c2⟩ (by decide) (by decide) λn v hn hv=>?_
  simp
  refine b0j 9 (m:=n) hv (by lia) (by lia) (by lia) λws cs v hG hl hv=>?_
  simp
  refine b0j 9 (m:=n) hv (by lia) (by lia) (by lia) λws2 cs2 v hG2 hl2 hv=>?_
  have hS:=hG.sto
  have hg:Gs ws cs:=hG.mono (by lia)
  simp
  refine⟨by decide,?_⟩
  refine b6q 10 hS λps ls t=>?_
  have hP:=t.parts (by lia)
  have ht:=t.sh hS
  have eT:=dF_T ps ls
  simp[big]
  rw[show FV.tup [FV.int (ps.map (·.p)).sum,FV.tup (ls.map a1g),FV.lst (ps.map b4p)]=dF (dT ps ls) from eT.symm]
  refine c4j 7 hg (dT ps ls) (Th.three hP.n1 hP.l1 hP.p1 (by simp[dep]) (by have:=hP.l3;lia) (by have:=hP.p3;lia) (by have:=hP.n2;have:=hP.l2;have:=hP.p2;lia) hP.p4).toBnd ?_
  rw[ht]
  simp
  refine b6q 10 hG2.sto λps2 ls2 t2=>?_
  have hP2:=t2.parts (by lia)
  have eT2:=dF_T ps2 ls2
  have e1:∀ (ls:List (Option Nat)),FV.tup (ls.map a1g)=dF (.tup (ls.map dLo)):=λls=>by
   show _=FV.tup (dFs (ls.map dLo))
   rw[a4c (g:=a1g) (λx=>by cases x<;>rfl) ls]
  have e2:∀ (ps:List Prc),FV.lst (ps.map b4p)=dF (.lst (ps.map dPc)):=λps=>by
   show _=FV.lst (dFs (ps.map dPc))
   rw[a4c (g:=b4p) (λq=>?_) ps]
   show FV.tup [.tup (dFs (q.S.map λi:Nat=>D.int i)),.int q.p]=_
   rw[a4c (g:=λi:Nat=>FV.int i) λx=>rfl];rfl
  have T2:Th ws.length (dT ps2 ls2):=by
   have:=Th.three (n:=ws2.length) hP2.n1 hP2.l1 hP2.p1 (by simp[dep]) (by have:=hP2.l3;lia) (by have:=hP2.p3;lia) (by have:=hP2.n2;have:=hP2.l2;have:=hP2.p2;lia) hP2.p4
   rw[hl2,<- hl] at this
   exact this
  rw[show FV.tup [FV.int (ps2.map (·.p)).sum,FV.tup (ls2.map a1g),FV.lst (ps2.map b4p)]=dF (dT ps2 ls2) from eT2.symm,e1 ls,e2 ps]
  generalize dT ps2 ls2=d2 at T2
  clear ht eT eT2 hP2 t2 e1 e2
  generalize (ps.map (·.p)).sum=N at hP
  generalize D.tup (ls.map dLo)=lD at hP
  generalize hpD:D.lst (ps.map dPc)=pD at hP
  have hpl:=t.pl
  have w1:=hP.n2;have w2:=hP.l2;have w3:=hP.p2;have w4:=hP.l3;have w5:=hP.p3
  refine⟨a0l (by decide) (by decide),?_⟩
  refine a2i (I:=λj L=>∃ v' a b,∃ xs:List D,L=[some (FV.scr ns),some (FV.lst (ms.map FV.int)),some (.int k),some v',some (.int n),some (a3j ws cs),some (a3j ws2 cs2),some (.int N),some (dF lD),some (dF pD),some (.lst (xs.map dF)),a,b,x13,x14]/\(∀ x∈xs,Th ws.length x)/\xs.length<=7+5*j/\Lf (1410+650*j) v') 6 0 _ ⟨v,x11,x12,[d2,.tup [],.non,.int 0,.tup [.int N],.tup [.int N,lD],.lst [.int N,lD,pD]],by simp[dF,dFs],λx hx=>?_,by simp,hv.mono (by lia)⟩ (λj L K2 _ hj hI hK2=>?_) λL hI=>?_
  ·have nf:D.fits []=true:=rfl
   simp at hx
   rcases hx with rfl|rfl|rfl|rfl|rfl|rfl|rfl
   ·exact T2
   ·exact Th.odd rfl (by decide) (by simp[D.wt,D.wts])
   ·exact Th.odd rfl (by decide) (by simp[D.wt])
   ·exact Th.odd rfl (by decide) (by simp[D.wt])
   ·exact Th.odd (by simp only[D.fit,D.fits] at hP ⊢;have:=hP.n1;simp only[D.fit] at this;rw[this];rfl) (by simp[dep,deps]) (by simp only[D.wt,D.wts] at w1 ⊢;lia)
   ·exact Th.odd (by have a1:=hP.n1;have a2:=hP.l1;simp only[D.fit,D.fits] at a1 ⊢;rw[a1,a2];rfl) (by simp only[dep,deps];lia) (by simp only[D.wt,D.wts] at w1 ⊢;lia)
   ·refine⟨⟨by simp only[D.wt,D.wts,big] at w1 ⊢;lia,by simp only[dep,deps];lia,λ_ _ _ e=>nomatch e⟩,?_⟩
    have a1:=hP.n1;have a2:=hP.l1;have a3:=hP.p1
    simp only[D.fit,D.fits] at a1 ⊢
    rw[a1,a2,a3];rfl
  ·obtain⟨v',a,b,xs,rfl,hx,hxl,hv⟩:=hI
   simp
   have an:=λ(v:FV) (n:Int)(hv:Lf n v)(h0:0<=n)(h1:n<9000)(Q:FV×FV->Prop) q=>c0q 6 4 (Q:=Q) hv h0 (by simp only[Na];lia) q
   refine an v' _ hv (by lia) (by lia) _ λy1 v1 hy1 hv1=>?_
   simp
   refine c7i 10 hv1 (by simp only[Na];lia) (by simp only[Na];lia) λy2 v2 hy2 hv2=>?_
   simp[big]
   refine a1j 11 hv2 (by simp only[Na];lia) (by decide) (by decide) λu v3 u0 u1 hv3=>?_
   simp
   refine a5q u0 u1 ?_
   intro o ho
   obtain⟨od,rfl,o1,o2,o3⟩:Vl 12300 25 o:=by
    simp at ho
    rcases ho with rfl|rfl
    ·exact hy1.mono (by simp[Wa]) (by decide)
    ·exact hy2.mono (by decide) (by decide)
   refine⟨by lia,?_⟩
   refine an v3 _ hv3 (by simp only[Na];lia) (by simp only[Na];lia) _ λy4 v4 hy4 hv4=>?_
   obtain⟨ad,rfl,q1,q2,q3⟩:=hy4.mono (k':=12220) (p':=6) (by simp[Wa]) (by decide)
   have epD:dF pD=.lst ((ps.map dPc).map dF):=by rw[<- hpD];show FV.lst (dFs _)=_;rw[a1b]
   have e5:wp (a6f (dF pD) (FV.lst [dF ad]))=λQ=>Q (dF (.lst (ps.map dPc++[ad]))):=by
    funext Q
    rw[epD]
    simp[dF,a1b,big]
    intro _;lia
   dsimp only
   rw[e5]
   have p1:=hP.p1
   rw[<- hpD] at p1 w3 w5
   simp only[D.fit] at p1
   simp only[D.wt] at w3
   simp only[dep] at w5
   have wa:∀ (ds:List D)(x:D),D.wts (ds++[x])=D.wts ds+x.wt+1:=λds x=>by
    induction ds with
    | nil=>simp[D.wts]
    | cons y r ih=>simp only[List.cons_append,D.wts,ih];lia
   have fa:∀ (ds:List D)(x:D),D.fits (ds++[x])=(D.fits ds && x.fit):=λds x=>by
    induction ds with
    | nil=>simp[D.fits]
    | cons y r ih=>simp only[List.cons_append,D.fits,ih,Bool.and_assoc]
   have da:∀ (ds:List D)(x:D),deps (ds++[x])=max (deps ds) (dep x):=λds x=>by
    induction ds with
    | nil=>simp[deps]
    | cons y r ih=>simp only[List.cons_append,deps,ih];lia
   have t5:Th ws.length (.tup [.int N,lD,.lst (ps.map dPc++[ad])]):=by
    refine Th.three hP.n1 hP.l1 ?_ (by simp[dep]) (by lia) ?_ ?_ λds e _=>?_
    ·simp only[D.fit];rw[fa,p1,q2];rfl
    ·simp only[dep];rw[da];lia
    ·simp only[D.wt] at w1 ⊢;rw[wa];lia
    ·injection e with e
     rw[<- e];simp;lia
   rw[<- hpD] at hP
   refine⟨by lia,hK2 _ ⟨v4,some (.int j),some (dF od),xs++[od,.tup [od,lD,.lst (ps.map dPc)],.tup [.int N,od,.lst (ps.map dPc)],.tup [.int N,lD,od],.tup [.int N,lD,.lst (ps.map dPc++[ad])]],by rw[<- hpD];simp[dF,dFs],λx hxm=>?_,by simp;lia,hv4.mono (by simp only[Na];lia)⟩⟩
   rcases List.mem_append.mp hxm with z|z
   ·exact hx x z
   ·simp at z
    have p2:=hP.p2
    have p3:=hP.p3
    rcases z with rfl|rfl|rfl|rfl|rfl
    ·exact Th.odd o2 o1 o3
    ·exact Th.three o2 hP.l1 hP.p1 (by lia) (by lia) (by lia) (by lia) hP.p4
    ·exact Th.three hP.n1 o2 hP.p1 (by simp[dep]) (by lia) (by lia) (by lia) hP.p4
    ·exact Th.three hP.n1 hP.l1 o2 (by simp[dep]) (by lia) (by lia) (by lia) (Lst3.of o3)
    ·exact t5
  ·obtain⟨v',a,b,xs,rfl,hx,hxl,hv⟩:=hI
   simp
   refine a2j (f:=dF) (I:=λ_ L=>∃ p q,L=[some (FV.scr ns),some (FV.lst (ms.map FV.int)),some (.int k),some v',some (.int n),some (a3j ws cs),some (a3j ws2 cs2),some (.int N),some (dF lD),some (dF pD),some (.lst (xs.map dF)),a,b,p,q]) xs xs [] _ rfl ⟨_,_,rfl⟩ (λds x r L K2 e hI hK2=>?_) λL hI=>?_
   ·obtain⟨p,q,rfl⟩:=hI
    have tx:=hx x (by rw[e];simp)
    obtain⟨y,hy,hq⟩:=tx.str
    simp
    rw[hy,a0q]
    refine c4j 7 hg x tx.toBnd ?_
    simp
    refine c8m 9 hg x tx.toBnd ?_
    refine c5z 0 12 (x:=.bl (shB ws cs x)) (by simp[dep]) (by decide) (by simp[D.wt,big]) ?_
    simp
    rw[hq]
    exact⟨rfl,hK2 _ ⟨_,_,rfl⟩⟩
   ·obtain⟨p,q,rfl⟩:=hI
    exact hK _ ⟨_,_,_,_,_,_,_,_,_,_,_,_,_,rfl⟩
 ·obtain⟨x2,x3,x4,x5,x6,x7,x8,x9,x10,x11,x12,x13,x14,rfl⟩:=hI
  simp
end Kq
end
set_option maxRecDepth 100000
set_option maxHeartbeats 4000000
section
namespace Kq
open PySem PySem.Spec PyProof.Rows L2 PySem.W
def top (i:Nat):Stmt:=PySem.Challenge.pw_keepwhole_k19_least_room_of_anything.main.body.getD i (.Pass ⟨0,0,0,0⟩)
def d0:Df:=⟨"is_number",top 1,["thing"],["thing"],[]⟩
def d1:Df:=⟨"is_tuple_of",top 2,["thing","many"],["thing","many"],[]⟩
def d2:Df:=⟨"is_size",top 4,["thing"],["thing"],[]⟩
def d3:Df:=⟨"is_make",top 5,["thing","makes"],["thing","makes"],[]⟩
def d4:Df:=⟨"is_laying",top 6,["stock","thing"],["stock","thing","makes","sizes","make","on"],[]⟩
def d5:Df:=⟨"comes_from_whole",top 7,["laying","make"],["laying","make","on","step"],[]⟩
def d6:Df:=⟨"change_sizes",top 8,["stock"],["stock"],[]⟩
def d7:Df:=⟨"kept_sizes",top 9,["stock","laying"],["stock","laying","sizes"],[]⟩
def d8:Df:=⟨"room",top 10,["stock","laying"],["stock","laying"],[]⟩
def d9:Df:=⟨"shows_least_room",top 12,["stock","thing"],["stock","thing","number","laying","paper"],[]⟩
def d10:Df:=⟨"is_paper",top 13,["stock","thing"],["stock","thing"],[]⟩
def d11:Df:=⟨"is_priced",top 14,["thing","many"],["thing","many","makes","price"],[]⟩
def d12:Df:=⟨"are_makes",top 15,["thing","many"],["thing","many"],[]⟩
def d13:Df:=⟨"keeps_to_wholes",top 16,["stock","paper"],["stock","paper","make","size"],[]⟩
def d14:Df:=⟨"keeps_to_changes",top 17,["stock","paper"],["stock","paper","a","b","size"],[]⟩
def d15:Df:=⟨"least_room",top 19,["stock"],["stock","many","left","free","paper","makes","entering","price","entry"],[.imm,.imm,.own,.own,.own]⟩
def d16:Df:=⟨"entry_sizes",top 20,["stock"],["stock","sizes","a","b","size"],[.imm,.own]⟩
def d17:Df:=⟨"next_makes",top 21,["many","free"],["many","free","fewest","make","found"],[]⟩
def d18:Df:=⟨"leading_to",top 22,["free","make"],["free","make","found","at"],[.imm,.imm,.own]⟩
def d19:Df:=⟨"laid_by",top 23,["many","free"],["many","free","laid","on","make"],[.imm,.imm,.own]⟩
def d20:Df:=⟨"_law_mix",top 25,["_law_cell","_law_k"],["_law_cell","_law_k","_law_m"],[]⟩
def d21:Df:=⟨"_law_left",top 26,["_law_script","_law_k"],["_law_script","_law_k","_law_cell"],[.own]⟩
def d22:Df:=⟨"_law_pick",top 27,["_law_left_here","_law_many_here"],["_law_left_here","_law_many_here","_law_digit"],[.own]⟩
def d23:Df:=⟨"_law_folded",top 28,["_law_script","_law_many_here"],["_law_script","_law_many_here","_law_cells","_law_k","_law_cell"],[.imm,.imm,.own]⟩
def d24:Df:=⟨"_law_size",top 29,["_law_left_here","_law_great"],["_law_left_here","_law_great","_law_way_drawn"],[.own]⟩
def d25:Df:=⟨"_law_many",top 30,["_law_left_here","_law_most"],["_law_left_here","_law_most"],[.own]⟩
def d26:Df:=⟨"_law_stock",top 31,["_law_left_here","_law_many_here"],["_law_left_here","_law_many_here","_law_great","_law_often","_law_wholes","_law_changes","_law_a","_law_b"],[.own,.imm,.imm,.imm,.imm,.own]⟩
def d27:Df:=⟨"_law_same",top 32,["_law_found","_law_due_here"],["_law_found","_law_due_here"],[]⟩
def d28:Df:=⟨"_law_numbers",top 33,["_law_some"],["_law_some"],[]⟩
def d29:Df:=⟨"_law_any",top 34,["_law_left_here","_law_levels"],["_law_left_here","_law_levels","_law_some","_law_parts"],[.own]⟩
def d30:Df:=⟨"_law_nested",top 35,["_law_left_here"],["_law_left_here","_law_thing","_law_turn"],[.own]⟩
def d31:Df:=⟨"_law_sizes",top 36,["_law_stock_here"],["_law_stock_here"],[]⟩
def d32:Df:=⟨"_law_room",top 37,["_law_stock_here","_law_laying"],["_law_stock_here","_law_laying","_law_sizes_here","_law_total","_law_make","_law_on"],[]⟩
def d33:Df:=⟨"_law_is_laying",top 38,["_law_stock_here","_law_laying"],["_law_stock_here","_law_laying","_law_sizes_here","_law_make","_law_here","_law_turn"],[]⟩
def d34:Df:=⟨"_law_into",top 39,["_law_paper","_law_begin","_law_make"],["_law_paper","_law_begin","_law_make"],[]⟩
def d35:Df:=⟨"_law_is_paper",top 40,["_law_stock_here","_law_paper"],["_law_stock_here","_law_paper","_law_met","_law_pair","_law_makes","_law_price"],[.imm,.imm,.own]⟩
def d36:Df:=⟨"_law_are_rests",top 41,["_law_stock_here","_law_laid"],["_law_stock_here","_law_laid"],[]⟩
def d37:Df:=⟨"_law_due",top 42,["_law_stock_here","_law_thing"],["_law_stock_here","_law_thing","_law_number","_law_laid","_law_paper"],[]⟩
def d38:Df:=⟨"law",top 43,["_law_script"],["_law_script","_law_cells","_law_k","_law_left_here","_law_many_here","_law_stock_here","_law_other","_law_number","_law_laid","_law_paper","_law_things","_law_turn","_law_odd","_law_thing","_law_written"],[.imm,.own,.imm,.own,.imm,.imm,.imm,.imm,.imm,.imm,.own]⟩
def fns:Fns:=⟨[Γe "is_number",Γe "is_tuple_of",Γe "is_size",Γe "is_make",Γe "is_laying",Γe "comes_from_whole",Γe "change_sizes",Γe "kept_sizes",Γe "room",Γe "shows_least_room",Γe "is_paper",Γe "is_priced",Γe "are_makes",Γe "keeps_to_wholes",Γe "keeps_to_changes",Γe "least_room",Γe "entry_sizes",Γe "next_makes",Γe "leading_to",Γe "laid_by",Γe "_law_mix",Γe "_law_left",Γe "_law_pick",Γe "_law_folded",Γe "_law_size",Γe "_law_many",Γe "_law_stock",Γe "_law_same",Γe "_law_numbers",Γe "_law_any",Γe "_law_nested",Γe "_law_sizes",Γe "_law_room",Γe "_law_is_laying",Γe "_law_into",Γe "_law_is_paper",Γe "_law_are_rests",Γe "_law_due",Γe "law"],[],[]⟩
abbrev DB (d:Df)(fr:Bool)(b:CW->SW):Prop:=∀ (X:Cx)(call:CW) (n:Nat),Good X (d.cc fns) n (spK tb call)->FSs X (d.cc fns) fr (a2g d.st) (b call)
local macro_rules | `(tactic| ac_rfl)=>do
 let g:=Lean.mkIdent `G
 let mut ts:Array (Lean.TSyntax ``Lean.Parser.Tactic.tacticSeq):=#[]
 for r in ("§fe_var 12210;e2f 03110;fe_int 00010;fa_nil 00010;fr_var 11110;a0i 02010;a4s 01010;d5p 12110;fs_ret 01010;e1g 16510;fs_nil 00010;fs_if 03010;fe_ix 03110;fe_bl 00010;e0o 00010;fe_tup 01010;fs_set 14310;CompOk.mk 05110;d5x 18710;e0p 11110;fb_not 01010;fe_isi 15410;d3h 11010;e0b 00010;fe_len 13210;fw_or 02010;fe_lst 01010;fe_add 02010;fe_one 01010;fe_and 02010;fw_or1 01010;e0d 14310;fe_ixN 13210;d9z 01010;fw_and 02010;fe_eq 12010;fb_eq 12010;fb_ne 12010;fb_in2 13010;fe_all 13210;fb_lti 02010;e0a 01010;fe_mod 02010;ff_lst 01010;fe_mul 02010;e0u 13210;fb_ni2 13010;fe_non 00010;fb_isN 01010;e0k 01010;d5s 13210;fe_app 15410;e0g 02110;fs_ix 15310;fe_str 00010;fe_not 01010;fe_ge 02010;e2c 01010;fe_if 03010;e0l 00010;e0s 16510;e2e 13210;d6e 03110;d5y 16510;fs_whl 02010;e0e 12210;fe_sub 02010;d5w 04010;e1f 12010;fe_sl 03010;fe_lti 02010;e1e 13210;e0j 13210;fe_pow 02010;fe_abs 13210;e1c 02010;fe_slL 03010;fe_neg 01010;fe_any 13210;e0z 13210;d5t 13210;e0v 13210;fs_thw 12110;e0x 13210;e0i 15310;e0q 13310;d5n 15310;d5v 13210;fs_add 13210;d5q 00010;e1a 13210;e0h 15310;fe_dgN 13210;d5u 13210;fb_gt 02010;e0r 13210;e0c 14210;e1b 16510;e1d 13210;fe_ni2 13010;e0w 01010;fe_isN 01010;fe_or 02010;e0y 15310;d5r 18710;fs_par 14210;e2d 01010;e0t 12110;fs_tup 14210;fah_of 01010;e0f 01010;fr_of 01010;fb_val 02110;fb_w 01010;e0q 13311;e0s 16511;fi_seq 01000;fi_rng 13200;e0n 13200;fi_zip 15300;fi_own 12200;d5o 12200;fe_int 00000;fe_str 00000;fe_bl 00000;fe_non 00000".drop 1).toString.splitOn ";" do
  let [n,c]:=r.splitOn " " | continue
  let [a,k,s,w,e]:=c.toList.map λx=>x.toNat-48|continue
  let f:=Lean.mkIdent n.toName
  let mut as:Array Lean.Term:=if a=1 then #[g] else #[]
  for _ in [0:k] do as:=as.push (<- `(?_))
  let mut t <- if as.isEmpty then `(tactic| exact $f) else `(tactic| refine $f $as*)
  if w=1 then t <- `(tactic| with_reducible $t:tactic)
  if e=1 then t <- `(tactic| ((with_reducible refine a2k ?_); $t:tactic))
  for _ in [0:s] do t <- `(tactic| (($t:tactic); first | decide +kernel | rfl))
  ts:=ts.push (<- `(Lean.Parser.Tactic.tacticSeq| $t:tactic))
 ts:=ts.push (<- `(Lean.Parser.Tactic.tacticSeq| first | decide +kernel))
 `(tactic| repeat' first $[| $ts]*)
local macro_rules | `(tactic| ac_nf)=>do
 let g:=Lean.mkIdent `G
 `(tactic| (intro _ $g:ident; ac_rfl))
local macro_rules | `(tactic| eq_refl)=>do
 let g:=Lean.mkIdent `G
 `(tactic| (intro $g:ident; ac_rfl))
local macro_rules | `(tactic| exists $e)=>`(tactic| (refine $e; ac_rfl))
local macro_rules | `(tactic| exists $e,$g:ident)=>`(tactic| (intro X call n $g:ident; refine $e; ac_rfl))
theorem db0:DB d0 false bd0:=by
 delta bd0
 exists a4s ?_,G
theorem db1:DB d1 false bd1:=by
 delta bd1
 exists a4s ?_,G
theorem db2:DB d2 false bd2:=by
 delta bd2
 exists a4s ?_,G
theorem db3:DB d3 false bd3:=by
 delta bd3
 exists a4s ?_,G
theorem db4:DB d4 false bd4:=by
 exists a0i ?_ ?_,G
 exists a2d G (md':=[]) ?_ ?_ ?_ ?_
 eq_refl
 exists a2k (a0o G (own:=["make"]) (md':=[]) ?_)
 ac_nf
 ac_nf
 ac_nf
theorem db5:DB d5 false bd5:=by
 exists a0i ?_ ?_,G
 exists a2d G (md':=[]) ?_ ?_ ?_ ?_
 eq_refl
theorem db6:DB d6 false bd6:=by
 delta bd6
 exists a4s ?_,G
 exists c3j G (own:=["a","b","size"]) (md':=[]) ?_ ?_
 ac_nf
 ac_nf
 ac_nf
 ac_nf
theorem db7:DB d7 false bd7:=by
 exists a0i ?_ ?_,G
 exists a2k (a0o G (own:=["make","on"]) (md':=[]) ?_)
 ac_nf
 ac_nf
 ac_nf
theorem db8:DB d8 false bd8:=by
 delta bd8
 exists a4s ?_,G
theorem db9:DB d9 false bd9:=by
 exists a0i ?_ ?_,G
 exists a2k (a0o G (own:=["makes","price"]) (md':=[]) ?_)
 ac_nf
 ac_nf
 ac_nf
theorem db10:DB d10 false d6r:=by
 exists a0i ?_ ?_,G
 exists a2k (a0o G (own:=["pair"]) (md':=[]) ?_)
 ac_nf
 ac_nf
 ac_nf
 exists b9g G (own:=["makes","price"]) (md':=[]) ?_ ?_
 ac_nf
 ac_nf
 ac_nf
theorem db11:DB d11 false e3x:=by
 exists a0i ?_ ?_,G
theorem db12:DB d12 false d4n:=by
 exists a0i ?_ ?_,G
 exists a2k (a0o G (own:=["make"]) (md':=[]) ?_)
 ac_nf
 ac_nf
 ac_nf
 exists a2k (a0o G (own:=["ahead","behind"]) (md':=[]) ?_)
 ac_nf
 ac_nf
 ac_nf
theorem db13:DB d13 false e3w:=by
 exists a0i ?_ ?_,G
 exists a2d G (md':=[]) ?_ ?_ ?_ ?_
 eq_refl
 exists a2k (a0o G (own:=["makes","price"]) (md':=[]) ?_)
 ac_nf
 ac_nf
 ac_nf
theorem db14:DB d14 false e3v:=by
 exists a0i ?_ ?_,G
 exists a2d G (md':=[]) ?_ ?_ ?_ ?_
 eq_refl
 exists a2k (a0o G (own:=["makes","price"]) (md':=[]) ?_)
 ac_nf
 ac_nf
 ac_nf
theorem db15:DB d15 false e3u:=by
 exists a0i ?_ ?_,G
 eq_refl
 exists b9f G (own:=["on","make"]) (md':=[.imm,.imm,.frz,.own,.own]) ?_ ?_ ?_
 ac_nf
 ac_nf
 ac_nf
 exists a2k (a0o G (own:=["entry"]) (md':=[.imm,.imm,.own,.own,.own]) ?_)
 ac_nf
 ac_nf
 ac_nf
 exists a2d G (md':=[.imm,.imm,.own,.own,.own]) ?_ ?_ ?_ ?_
 eq_refl
 exists a2k (a0o G (own:=["entry"]) (md':=[.imm,.imm,.own,.own,.own]) ?_)
 ac_nf
 ac_nf
 ac_nf
 exists a2k (a0o G (own:=["pair"]) (md':=[.imm,.imm,.own,.own,.frz]) ?_)
 ac_nf
 ac_nf
 ac_nf
theorem db16:DB d16 true e3t:=by
 exists a0i ?_ ?_,G
 exists c3h G (own:=["make","size"]) (md':=[.imm,.own]) ?_ ?_ ?_ ?_
 ac_nf
 ac_nf
 ac_nf
 ac_nf
 exists a2d G (md':=[.imm,.own]) ?_ ?_ ?_ ?_
 eq_refl
theorem db17:DB d17 false e3s:=by
 exists a0i ?_ ?_,G
 exists a2d G (md':=[]) ?_ ?_ ?_ ?_
 eq_refl
theorem db18:DB d18 true e3r:=by
 exists a0i ?_ ?_,G
 exists a2k (a0o G (own:=["on","to"]) (md':=[.imm,.imm,.own]) ?_)
 ac_nf
 ac_nf
 ac_nf
theorem db19:DB d19 false e3q:=by
 exists a0i ?_ ?_,G
 exists a2k (a0o G (own:=["entry"]) (md':=[.imm,.imm,.own]) ?_)
 ac_nf
 ac_nf
 ac_nf
 exists a2k (a0o G (own:=["make"]) (md':=[.imm,.imm,.own]) ?_)
 ac_nf
 ac_nf
 ac_nf
theorem db20:DB d20 false e3p:=by
 exists a0i ?_ ?_,G
theorem db21:DB d21 true e3o:=by
 exists a0i ?_ ?_,G
theorem db22:DB d22 false d6q:=by
 exists a0i ?_ ?_,G
theorem db23:DB d23 true e3n:=by
 exists a0i ?_ ?_,G
 exists a2d G (md':=[.imm,.imm,.own]) ?_ ?_ ?_ ?_
 eq_refl
theorem db24:DB d24 false e3m:=by
 exists a0i ?_ ?_,G
theorem db25:DB d25 false e3l:=by
 exists a0i ?_ ?_,G
theorem db26:DB d26 false e3k:=by
 exists a0i ?_ ?_,G
 exists a2k (a0o G (own:=["_law_k"]) (md':=[.own,.imm,.imm,.imm,.imm,.own]) ?_)
 ac_nf
 ac_nf
 ac_nf
 exists a2d G (md':=[.own,.imm,.imm,.imm,.imm,.own]) ?_ ?_ ?_ ?_
 eq_refl
 exists a2d G (md':=[.own,.imm,.imm,.imm,.imm,.own]) ?_ ?_ ?_ ?_
 eq_refl
theorem db27:DB d27 false c9n:=by
 exists a0i ?_ ?_,G
 exists a2k (a0o G (own:=["_law_one","_law_other"]) (md':=[]) ?_)
 ac_nf
 ac_nf
 ac_nf
theorem db28:DB d28 false d4m:=by
 delta d4m
 exists a4s ?_,G
 exists a2k (a0o G (own:=["_law_one"]) (md':=[]) ?_)
 ac_nf
 ac_nf
 ac_nf
theorem db29:DB d29 false d6p:=by
 exists a0i ?_ ?_,G
 exists b9f G (own:=["_law_k"]) (md':=[.own]) ?_ ?_ ?_
 ac_nf
 ac_nf
 ac_nf
theorem db30:DB d30 false e3j:=by
 exists a0i ?_ ?_,G
 exists a2d G (md':=[.own]) ?_ ?_ ?_ ?_
 eq_refl
theorem db31:DB d31 false d6o:=by
 delta d6o
 exists a4s ?_,G
 exists a2k (a0o G (own:=["_law_a","_law_b","_law_size_here"]) (md':=[]) ?_)
 ac_nf
 ac_nf
 ac_nf
theorem db32:DB d32 false e3i:=by
 exists a0i ?_ ?_,G
 exists a2d G (md':=[]) ?_ ?_ ?_ ?_
 eq_refl
theorem db33:DB d33 false e3h:=by
 exists a0i ?_ ?_,G
 exists a2k (a0o G (own:=["_law_make","_law_on"]) (md':=[]) ?_)
 ac_nf
 ac_nf
 ac_nf
 exists a2d G (md':=[]) ?_ ?_ ?_ ?_
 eq_refl
 exists a2d G (md':=[]) ?_ ?_ ?_ ?_
 eq_refl
theorem db34:DB d34 false d6n:=by
 delta d6n
 exists a4s ?_,G
 exists a2k (a0o G (own:=["_law_makes","_law_price"]) (md':=[]) ?_)
 ac_nf
 ac_nf
 ac_nf
theorem db35:DB d35 false d6m:=by
 exists a0i ?_ ?_,G
 exists a2d G (md':=[.imm,.imm,.own]) ?_ ?_ ?_ ?_
 eq_refl
 exists a2k (a0o G (own:=["_law_make"]) (md':=[.imm,.imm,.own]) ?_)
 ac_nf
 ac_nf
 ac_nf
 exists a2k (a0o G (own:=["_law_make","_law_size_here"]) (md':=[.imm,.imm,.own]) ?_)
 ac_nf
 ac_nf
 ac_nf
 exists a2k (a0o G (own:=["_law_a","_law_b","_law_size_here"]) (md':=[.imm,.imm,.own]) ?_)
 ac_nf
 ac_nf
 ac_nf
theorem db36:DB d36 false d6l:=by
 exists a0i ?_ ?_,G
 exists a2k (a0o G (own:=["_law_on"]) (md':=[]) ?_)
 ac_nf
 ac_nf
 ac_nf
theorem db37:DB d37 false c5k:=by
 exists a0i ?_ ?_,G
 exists a2k (a0o G (own:=["_law_makes","_law_price"]) (md':=[]) ?_)
 ac_nf
 ac_nf
 ac_nf
theorem db38:DB d38 false e3g:=by
 exists a0i ?_ ?_,G
 exists a2d G (md':=[.imm,.own,.imm,.own,.imm,.imm,.imm,.imm,.imm,.imm,.own]) ?_ ?_ ?_ ?_
 eq_refl
 exists a2d G (md':=[.imm,.own,.imm,.own,.imm,.imm,.imm,.imm,.imm,.imm,.own]) ?_ ?_ ?_ ?_
 eq_refl
 exists a2d G (md':=[.imm,.own,.imm,.own,.imm,.imm,.imm,.imm,.imm,.imm,.frz]) ?_ ?_ ?_ ?_
 eq_refl
def rc (d:Df):DefRec:=⟨Γe d.name,a5f d.st,a2g d.st,a0u d.st,d3z d.st⟩
def recs:List DefRec:=[rc d0,rc d1,rc d2,rc d3,rc d4,rc d5,rc d6,rc d7,rc d8,rc d9,rc d10,rc d11,rc d12,rc d13,rc d14,rc d15,rc d16,rc d17,rc d18,rc d19,rc d20,rc d21,rc d22,rc d23,rc d24,rc d25,rc d26,rc d27,rc d28,rc d29,rc d30,rc d31,rc d32,rc d33,rc d34,rc d35,rc d36,rc d37,rc d38]
def view:Program:=c9p PySem.Challenge.pw_keepwhole_k19_least_room_of_anything
theorem recs_eq:recs=recsOf view:=by kernel_rfl!
def PD (K:Frag)(mg:Str->Option Value) (i:Nat)(x:Str):Prop:=∃ df fd fa fdd,tb[i]?=some fd/\Df.ok df fd.np fd.ns fd.io=true/\(∀ X call n,Good X (df.cc fns) n (spK tb call)->FSs X (df.cc fns) fd.fr (a2g df.st) (fd.body call))/\Fun K (Γe df.name) (Γe df.name) df.st fa fdd/\mg x=some (.ref fa)/\Binds K fdd df.ps []
local macro_rules | `(tactic| exists $d,$b,$j,$u)=>`(tactic| (refine And.intro (have ⟨fa,fd,m,F⟩:=DIn.fn (by assumption) ((by assumption:∀ d∈recs,DIn _ _ d) (rc $d) (List.mem_of_getElem? (i:=$j) rfl)); ⟨$d,_,fa,fd,rfl,by decide +kernel,$b,F,m,F.binds fun _ _ _ _ _ _ us hl=>$u (P:=fun us=>bindArgs _ ⟨us,[]⟩=pure (List.zip _ us)) hl (by intros; first | kernel_rfl! | rfl)⟩) ?_))
theorem e2k {K:Frag}{h:Heap}{mg:Str->Option Value}(A:AllIn K h)(D:∀ d∈recs,DIn K mg d):EachI (PD K mg) 0 fns.f:=by
 exists d0,db0,0,us1
 exists d1,db1,1,us2
 exists d2,db2,2,us1
 exists d3,db3,3,us2
 exists d4,db4,4,us2
 exists d5,db5,5,us2
 exists d6,db6,6,us1
 exists d7,db7,7,us2
 exists d8,db8,8,us2
 exists d9,db9,9,us2
 exists d10,db10,10,us2
 exists d11,db11,11,us2
 exists d12,db12,12,us2
 exists d13,db13,13,us2
 exists d14,db14,14,us2
 exists d15,db15,15,us1
 exists d16,db16,16,us1
 exists d17,db17,17,us2
 exists d18,db18,18,us2
 exists d19,db19,19,us2
 exists d20,db20,20,us2
 exists d21,db21,21,us2
 exists d22,db22,22,us2
 exists d23,db23,23,us2
 exists d24,db24,24,us2
 exists d25,db25,25,us2
 exists d26,db26,26,us2
 exists d27,db27,27,us2
 exists d28,db28,28,us1
 exists d29,db29,29,us2
 exists d30,db30,30,us1
 exists d31,db31,31,us1
 exists d32,db32,32,us2
 exists d33,db33,33,us2
 exists d34,db34,34,us3
 exists d35,db35,35,us2
 exists d36,db36,36,us2
 exists d37,db37,37,us2
 exists d38,db38,38,us1
 trivial
theorem law_fn (w:World)(K:Frag)(mg:Str->Option Value)(fa:Addr)(h:Heap)(A:AllIn K h)(D:∀ d∈recs,DIn K mg d)(blt:∀ b∈bltNames,mg (Γe b)=none)(hm:mg (Γe "law")=some (.ref fa)) :
  ∃ fd:FuncData,(∀ (s:Shared)(u:Value),BindsTo s fd ⟨[u],[]⟩ [(Γe "_law_script",u)])/\∀ base:Heap,FnOk PySem.Challenge.pw_keepwhole_k19_least_room_of_anything w K mg base CX0 14 fa fd [Γe "_law_script"] (spT K tb (callW tb 14) 38):=by
 obtain⟨fa2,fd,m,F⟩:=DIn.fn A (D (rc d38) (List.mem_of_getElem? (i:=38) rfl))
 have e:=hm.symm.trans m
 cases e
 have E:∀ (f:Nat)(x:Str),fns.f[f]?=some x->PD K mg f x:=λf x hx=>by
  have:=EachI.get (e2k A D) f x hx
  rwa [Nat.zero_add] at this
 have EM:∀ (k:Nat)(c:Str)(Ca:Addr)(m:Str),fns.ms[k]?=some (c,Ca,m)->∃ df fd fa fdd nm qu,tb[fns.f.length+k]?=some fd/\Df.ok df fd.np fd.ns fd.io=true/\(∀ X call n,Good X (df.cc fns) n (spK tb call)->FSs X (df.cc fns) fd.fr (a2g df.st) (fd.body call))/\Fun K nm qu df.st fa fdd/\mg c=some (.ref Ca)/\Cls K Ca/\(m=("__init__":Str)->Mk K Ca fa)/\(m≠("__init__":Str)->Meth K Ca m fa)/\Binds K fdd df.ps []:=λk c Ca m hx=>by cases hx
 have FL:∀ p∈fns.fl,Cls K p.1/\b1u K p.1 p.2:=λp hp=>by cases hp
 refine⟨fd,?_,λbase=>?_⟩
 ·obtain⟨oc,od,kV,doc,pm,an,cdv,ct,osl,rfl,lk,hcd⟩:=F.ex
  exact λs v=>.of_eq rfl
 ·obtain⟨R1,R2⟩:=c0s (P:=PySem.Challenge.pw_keepwhole_k19_least_room_of_anything) (w:=w) (base:=base) blt FL E EM 13
  exact b2x (df:=d38) F rfl (by nofun) db38 R1 blt R2 FL
end Kq
end
set_option maxHeartbeats 0
section
open PySem PySem.W PyProof.Rows
theorem Kq.said : PySem.Challenge.rw_keepwhole_k19_least_room_of_anything.wellSaid = true := by nofun
theorem Kq.left : LeftO PySem.Challenge.rw_keepwhole_k19_least_room_of_anything.prog Kq.view [] (fun s => xlAt Kq.view [] s && recOk (RowW.records PySem.Challenge.rw_keepwhole_k19_least_room_of_anything.row.toRowW) s) (fun _ => ()) (fun _ => ()) 3000 := by
  intro w
  kernel_rfl!
theorem Kq.freeAll : (Kq.bltNames.all fun b => Kq.freeIn Kq.view (looseW Kq.view []) (Str.ofString b)) = true := by nofun
theorem Kq.hdef : defOf Kq.view PySem.Challenge.rw_keepwhole_k19_least_room_of_anything.name = some (Kq.rc Kq.d38, []) := by kernel_rfl!
theorem Kq.hp : PySem.Challenge.rw_keepwhole_k19_least_room_of_anything.prog.theDef PySem.Challenge.rw_keepwhole_k19_least_room_of_anything.name = some ((Kq.rc Kq.d38).params, (Kq.rc Kq.d38).body, (Kq.rc Kq.d38).scope) := by kernel_rfl!
theorem Kq.okq : (chainsOk Kq.view && opensWell PySem.Challenge.rw_keepwhole_k19_least_room_of_anything.prog && (frees PySem.Challenge.rw_keepwhole_k19_least_room_of_anything.row.toRowW && PySem.Challenge.rw_keepwhole_k19_least_room_of_anything.row.within.isEmpty)) = true := by nofun
theorem Kq.prom : PySem.Challenge.rw_keepwhole_k19_least_room_of_anything.row.toRowW.promised := ⟨[.list []], by nofun, by nofun⟩
theorem PySem.Challenge.cw_keepwhole_k19_least_room_of_anything_holds : PySem.Challenge.rw_keepwhole_k19_least_room_of_anything.Holds :=
  Kq.row_holds Kq.said Kq.left Kq.hdef Kq.hp rfl rfl Kq.okq ⟨rfl, rfl, rfl, rfl, rfl, by nofun⟩ Kq.prom (Kq.walk2 (n := 63) (k := 14) (ds := Kq.recs) (x := Str.ofString "_law_script") (sp := fun K => Kq.spT K Kq.tb (Kq.callW Kq.tb 14) 38) rfl (by decide) rfl ⟨rfl, by decide, by decide, rfl⟩ Kq.recs_eq Kq.freeAll Kq.law_fn fun _ _ a ns hl hO hS => Kq.law_sp rfl rfl rfl hO hS (Kq.law_val ns))
end
