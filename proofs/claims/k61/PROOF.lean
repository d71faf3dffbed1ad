import PyProof.Rows.All
import Wide.All
import OpenK.AllK
import Wide.FinOn
import Lean
import PyProof.EqAt
import PyProof.EqKinds
import PyProof.TupleCall
import PyProof.DictCompW
import PyProof.Rows.Range3
import KE.KRevIter
import PyProof.AutoRange
import PyProof.FactsAll.range_2
import PyProof.Rows.CallKwBuiltin
import PyProof.ListRange
import PyProof.TupleOfGen
import PyProof.P3Eq
import PyProof.Rows.RowHeap
import PyProof.CollectIter
import PyProof.WalksMore
import PyProof.AutoSeq1
import KE.KListMore
import PyProof.AttrMissHeap
import KE.KDictOf
import KE.KSortTup
import PyProof.Rows.SortWalk
import PyProof.SumWalkG
import PyProof.DictWalks
import KE.KDictSum
import PyProof.SetKind
import PyProof.SetRoads
import PyProof.Rows.SetFrom
import PyProof.TupleKey
import PySem.Challenge.RW_keepwhole_k61_whole_least_room_carried
open PySem renaming wpAny_bind->Γa
open PySem renaming wpAny_pure->Γb
open PySem.Heap renaming get?_push_of_some->Γc
open PySem.W renaming Frag->Γd
open PySem.Str renaming ofString->Γe
open PySem.Heap renaming get?_update_other->Γf
open PySem renaming wpAny_holding->Γg
open List renaming mem_cons_of_mem->Γh
open Nat renaming le_refl->Γi
open List renaming replicate->Γj
open Bool renaming false_ne_true->Γk
open PySem.Heap renaming lt_size->Γl
open PySem.Heap renaming get?_push_size->Γm
open List renaming mem_cons_self->Γn
open Nat renaming ne_of_lt->Γo
open Bool renaming false_eq_true->Γp
local macro_rules | `(command| $m:declModifiers def $i:declId $s:optDeclSig $v:declVal) => if m.raw.getArgs.all (·.getNumArgs == 0) then `(command| noncomputable def $i:declId $s:optDeclSig $v:declVal) else Lean.Macro.throwUnsupported
local macro_rules | `(command| $m:declModifiers abbrev $i:declId $s:optDeclSig $v:declVal) => if m.raw.getArgs.all (·.getNumArgs == 0) then `(command| noncomputable abbrev $i:declId $s:optDeclSig $v:declVal) else Lean.Macro.throwUnsupported
local macro_rules | `(tactic| nofun) => `(tactic| decide +kernel)
set_option Elab.async false
set_option linter.all false
set_option maxRecDepth 100000
section
namespace L2
open PySem PySem.Spec PyProof.Rows
abbrev Key:=Sum Int (Option Str)
def b5c:Key->Value->Bool
 | .inl k,v=>Value.isInt k v
 | .inr (some x),v=>Value.isStrOf x v
 | .inr none,v=>match v with
  | .none=>true
  | _=>false
def keyH (w:World):Key->Int
 | .inl k=>hashInt k
 | .inr (some x)=>hashStr w x
 | .inr none=>4238894112
theorem b9c {prog:Program}{w:World}{A:Around}{E:Value->Shared->Prop}{s:Shared}{Q:Int->Shared->Prop}(h:Q 4238894112 { s with toks:=s.toks+1 }):wpAny (model prog w) A (pyHash .none) Q E s:=by
 have hT:s.TypeIs .none "NoneType":=rfl
 show wpAny _ _ (pyHashByItsType .none) Q E s
 unfold pyHashByItsType
 have hv:[Value.none].any Value.onHeap=false:=rfl
 refine Γa ?_
 rw[cRoomFor,if_neg (by rw[hv];exact Γk)];refine Γb ?_
 refine Γa (wpAny_specialOf hT PySem.F.slot_NoneType_hash.lookup ?_)
 show wpAny _ _ (if (some (Value.builtin "NoneType.__hash__") == some Value.none)=true then _ else _) Q E s
 rw[if_neg (by decide)]
 refine Γa (wpAny_specialOf hT PySem.F.slot_NoneType_hash.lookup ?_)
 show wpAny _ _ (callSpecialIfBoundUnlessNone? .none "__hash__" _ >>= _) Q E s
 refine Γa (wpAny_callSpecialIfBoundUnlessNone?_slot hT PySem.F.slot_NoneType_hash
  (wpAny_call_entry PySem.F.slot_NoneType_hash hT PySem.F.entry_NoneType_hash
   (show wpAny _ _ (do ret (<- mkInt 4238894112)) _ _ s from wpAny_ret_mkInt ?_) (PySem.F.args_NoneType_hash_1 _)))
 show wpAny _ _ (if (decide (-(2:Int) ^ 63<=4238894112) && decide ((4238894112:Int)<2 ^ 63))=true then _ else _) Q E _
 rw[if_pos (by decide)]
 exact Γb h
theorem a1c:∀ {k:Key}{v:Value},b5c k v=true->(∃ i t,k=Sum.inl i/\v=Value.int i t) ∨ (∃ x t,k=Sum.inr (some x)/\v=Value.str x t) ∨ (k=Sum.inr none/\v=Value.none)
 | .inl i,v,h=>by
  obtain⟨t,e⟩:=Value.isInt_shape (k:=i) (v:=v) h
  exact .inl ⟨i,t,rfl,e⟩
 | .inr (some x),v,h=>by
  obtain⟨t,e⟩:=Value.isStrOf_shape (x:=x) (v:=v) h
  exact .inr (.inl ⟨x,t,rfl,e⟩)
 | .inr none,v,h=>by
  cases v with
  | none=>exact .inr (.inr ⟨rfl,rfl⟩)
  | _=>cases h
theorem b8j (i:Int)(t:Tok):b5c (.inl i) (.int i t)=true:=by simp[b5c,Value.isInt]
theorem b8i (x:Str)(t:Tok):b5c (.inr (some x)) (.str x t)=true:=by simp[b5c,Value.isStrOf]
theorem d2i (a b:Int):decide ((Sum.inl a:Key)=Sum.inl b)=(a == b):=by
 by_cases e:a=b
 ·subst e;simp
 ·have h:¬ (Sum.inl a:Key)=Sum.inl b:=λq=>e (Sum.inl.inj q)
  rw[decide_eq_false h]
  exact (beq_eq_false_iff_ne.mpr e).symm
theorem d2h (a b:Str):decide ((Sum.inr (some a):Key)=Sum.inr (some b))=decide (a=b):=by
 by_cases e:a=b
 ·subst e;simp
 ·have h:¬ (Sum.inr (some a):Key)=Sum.inr (some b):=λq=>e (Option.some.inj (Sum.inr.inj q))
  rw[decide_eq_false h,decide_eq_false e]
def a0v (prog:Program)(w:World):PySem.KeyKind prog w Key where
 is:=b5c
 hash:=keyH w
 inj:=λv a b ha hb=>by
  rcases a1c ha with⟨i,t,rfl,rfl⟩|⟨x,t,rfl,rfl⟩|⟨rfl,rfl⟩<;>rcases a1c hb with⟨j,u,rfl,e⟩|⟨y,u,rfl,e⟩|⟨rfl,e⟩<;>first|rfl|(injection e with e1 _;rw[e1])|cases e
 byValue:=λk v h=>by
  rcases a1c h with⟨i,t,rfl,rfl⟩|⟨x,t,rfl,rfl⟩|⟨rfl,rfl⟩<;>rfl
 pyHash:=λhv h=>by
  rcases a1c hv with⟨i,t,rfl,rfl⟩|⟨x,t,rfl,rfl⟩|⟨rfl,rfl⟩
  ·exact wpAny_pyHash_int h
  ·exact wpAny_pyHash_str h
  ·exact b9c h
 eqBool:=λhu hv h=>by
  rcases a1c hu with⟨i,t,rfl,rfl⟩|⟨x,t,rfl,rfl⟩|⟨rfl,rfl⟩
  ·rcases a1c hv with⟨j,u,rfl,rfl⟩|⟨y,u,rfl,rfl⟩|⟨rfl,rfl⟩
   ·rw[d2i] at h;exact wpAny_eqBool_int h
   ·rw[decide_eq_false (show ¬ (Sum.inl i:Key)=Sum.inr (some y) from λq=>nomatch q)] at h;exact SeqAt.EqAt.int_str i t y u _ _ _ _ h
   ·rw[decide_eq_false (show ¬ (Sum.inl i:Key)=Sum.inr none from λq=>nomatch q)] at h;exact SeqAt.EqAt.int_none i t _ _ _ _ h
  ·rcases a1c hv with⟨j,u,rfl,rfl⟩|⟨y,u,rfl,rfl⟩|⟨rfl,rfl⟩
   ·rw[decide_eq_false (show ¬ (Sum.inr (some x):Key)=Sum.inl j from λq=>nomatch q)] at h;exact SeqAt.EqAt.str_int x t j u _ _ _ _ h
   ·rw[d2h] at h;exact wpAny_eqBool_str h
   ·rw[decide_eq_false (show ¬ (Sum.inr (some x):Key)=Sum.inr none from λq=>nomatch q)] at h;exact SeqAt.EqAt.str_none x t _ _ _ _ h
  ·rcases a1c hv with⟨j,u,rfl,rfl⟩|⟨y,u,rfl,rfl⟩|⟨rfl,rfl⟩
   ·rw[decide_eq_false (show ¬ (Sum.inr none:Key)=Sum.inl j from λq=>nomatch q)] at h;exact SeqAt.EqAt.none_int j u _ _ _ _ h
   ·rw[decide_eq_false (show ¬ (Sum.inr none:Key)=Sum.inr (some y) from λq=>nomatch q)] at h;exact SeqAt.EqAt.none_str y u _ _ _ _ h
   ·rw[decide_eq_true rfl] at h;exact SeqAt.EqAt.same .none _ _ _ _ h
 «strs»:=λk x t v h=>by
  rcases a1c h with⟨i,u,rfl,e⟩|⟨y,u,rfl,e⟩|⟨rfl,e⟩
  ·exact nomatch e
  ·injection e with e1 _
   subst e1
   cases v<;>rfl
  ·exact nomatch e
theorem b2f (prog:Program)(w:World) (i:Int)(t:Tok):(a0v prog w).is (.inl i) (.int i t)=true:=b8j i t
theorem b0j (prog:Program)(w:World):(a0v prog w).is (.inr none) .none=true:=rfl
theorem b2e (prog:Program)(w:World)(x:Str)(t:Tok):(a0v prog w).is (.inr (some x)) (.str x t)=true:=b8i x t
end L2
namespace L2
open PySem PySem.Spec PyProof.Rows
inductive V where
 | non|bl (b:Bool)|int (i:Int)|str (x:Str)|byt (b:Array UInt8)|flt (b:UInt64)|ref (a:Addr)|ty (n:String)
 deriving DecidableEq
def RelV:V->Value->Prop
 | .non,u=>u=Value.none
 | .bl b,u=>u=Value.bool b
 | .int i,u=>∃ t,u=Value.int i t
 | .str x,u=>∃ t,u=Value.str x t
 | .byt b,u=>∃ t,u=Value.bytes b t
 | .flt b,u=>∃ t,u=Value.float b t
 | .ref a,u=>u=Value.ref a
 | .ty n,u=>u=Value.type n
abbrev Vals:List V->List Value->Prop:=Paired RelV
theorem Vals.length {xs:List V}{us:List Value}(r:Vals xs us):xs.length=us.length:=Paired.length r
theorem Vals.get:∀ {xs:List V}{us:List Value}{i:Nat}{x:V},Vals xs us->xs[i]?=some x->∃ u,us[i]?=some u/\RelV x u
 | _,_,_,_,.nil,e=>by simp at e
 | _,_,0,_,.cons r _,e=>by simp at e;subst e;exact⟨_,rfl,r⟩
 | _,_,i+1,x,.cons _ t,e=>by
  obtain⟨u,h1,h2⟩:=Vals.get (i:=i) (x:=x) t (by simpa using e)
  exact⟨u,by simpa using h1,h2⟩
theorem Vals.set {x:V}{u:Value}(r:RelV x u):∀ {xs:List V}{us:List Value} (i:Nat),Vals xs us->Vals (xs.set i x) (us.set i u)
 | _,_,_,.nil=>.nil
 | _,_,0,.cons _ t=>.cons r t
 | _,_,i+1,.cons q t=>.cons q (Vals.set r i t)
theorem Vals.append:∀ {xs ys:List V}{us ws:List Value},Vals xs us->Vals ys ws->Vals (xs++ys) (us++ws)
 | _,_,_,_,.nil,s=>s
 | _,_,_,_,.cons r t,s=>.cons r (Vals.append t s)
theorem Vals.take:∀ {xs:List V}{us:List Value} (n:Nat),Vals xs us->Vals (xs.take n) (us.take n)
 | _,_,0,_=>.nil
 | _,_,_+1,.nil=>.nil
 | _,_,n+1,.cons r t=>.cons r (Vals.take n t)
theorem Vals.drop:∀ {xs:List V}{us:List Value} (n:Nat),Vals xs us->Vals (xs.drop n) (us.drop n)
 | _,_,0,r=>r
 | _,_,_+1,.nil=>.nil
 | _,_,n+1,.cons _ t=>Vals.drop n t
def RelO:Option V->Option Value->Prop
 | some v,some u=>RelV v u
 | none,none=>True
 | _,_=>False
def KV {κ:Type}:List (κ×V)->List (κ×Value)->Prop:=Paired λ(p:κ×V)(q:κ×Value)=>p.1=q.1/\RelV p.2 q.2
def kV:Key->V
 | .inl i=>.int i
 | .inr (some x)=>.str x
 | .inr none=>.non
inductive HO where
 | lst (xs:List V)
 | tup (xs:List V)
 | dK (kvs:List (Key×V))|dT (kvs:List (List Key×V))
 | set (S:Int->Bool) (n:Nat)
 | ins (C dx:Addr)(fs:List (Str×V))
 | big (C dx:Addr)(fs:List (Str×V))(gs:List (Addr×List V))
 | own (x:Addr)
 | xd (fs:List (Str×V))
 | met (f x:Addr)
 | rng (lo hi:Int)
 | frz (o:Obj)(u:HO)
 | tbl (ps:Array Value)
 | ext (φ:Heap->Prop)
abbrev Hp:=Addr->Option HO
def upd (H:Hp)(a:Addr)(o:HO):Hp:=λb=>if b=a then some o else H b
theorem a0d {H:Hp}{a:Addr}{o:HO}:upd H a o a=some o:=by unfold upd;rw[if_pos rfl]
theorem a0e {H:Hp}{a b:Addr}{o:HO}(h:b≠a):upd H a o b=H b:=by unfold upd;rw[if_neg h]
theorem d1x {H:Hp}{a b:Addr}{o u:HO}(h:H a=some o)(h':H b=some u)(d:o≠u):a≠b:=by
 intro e;subst e;rw[h] at h';exact d (Option.some.inj h')
theorem a0z {H:Hp}{a b:Addr}{o:HO}(h:H a=some o)(h':H b=none):a≠b:=by
 intro e;subst e;rw[h] at h';cases h'
section
variable (P:Program)(w:World)
def ObjOk (H:Hp)(h:Heap)(a:Addr):HO->Prop
 | .lst xs=>xs.length<=sizeLine/\∃ (its:List Value) (n:Nat),Vals xs its/\h.get? a=some { cls:=.type "list",data:=.seq its.toArray n }
 | .tup xs=>xs.length<=sizeLine/\∃ its:List Value,Vals xs its/\IsTup h a its.toArray
 | .dK kvs=>kvs.length<=sizeLine/\(a == sysModules)=false/\∃ vs,KV kvs vs/\h.DictOf (a0v P w) a vs
 | .dT kvs=>kvs.length<=sizeLine/\(a == sysModules)=false/\∃ xs:List (List Key×Addr×Value),
   Paired (λ(p:List Key×V)(q:List Key×Addr×Value)=>p.1=q.1/\H q.2.1=some (.tup (p.1.map kV))/\RelV p.2 q.2.2) kvs xs /\
   ∃ o es ep,h.get? a=some o/\o.ExactDict/\o.data=.dict es ep/\es.toList=xs.map (entryOfKey (tupleKind (a0v P w)))/\(xs.map (·.1)).Nodup
 | .set S n=>h.SetOf (intKind P w) a S n
 | .ins C dx fs=>H dx=some (.own a)/\fs.length<=1000/\dx≠a/\h.get? a=some (PySem.W.instObj C dx) /\
   ∃ mA,h.Ns1 dx mA/\(∀ f,RelO (fs.lookup f) (mA f))/\PySem.Within mA (fs.map (·.1))
 | .big C dx fs gs=>H dx=some (.own a)/\(∀ g∈gs,H g.1=some (.own a))/\(a :: dx :: gs.map (·.1)).Nodup/\fs.length<=1000/\h.get? a=some (PySem.W.instObj C dx) /\
   (∃ mA,h.Ns1 dx mA/\(∀ f,RelO (fs.lookup f) (mA f))/\PySem.Within mA (fs.map (·.1))) /\
   ∀ g∈gs,g.2.length<=sizeLine/\∃ (its:List Value) (n:Nat),Vals g.2 its/\h.get? g.1=some { cls:=.type "list",data:=.seq its.toArray n }
 | .own _=>∃ o,h.get? a=some o
 | .xd fs=>∃ mA,h.Ns1 a mA/\∀ f,RelO (fs.lookup f) (mA f)
 | .rng lo hi=>∃ t u v,h.get? a=some { cls:=.type "range",data:=.fields #[.int lo t,.int hi u,.int 1 v] }
 | .frz o u=>h.get? a=some o/\ObjOk H h a u
 | .tbl ps=>h.get? a=some { cls:=.none,data:=.fields ps }
 | .met f x=>h.get? a=some (PySem.W.methodObj (.ref f) (.ref x))
 | .ext φ=>φ h/\(∃ o,h.get? a=some o)/\∀ h1 h2:Heap,φ h1->(∀ o,h1.get? a=some o->h2.get? a=some o)->φ h2
def HOk (H:Hp)(h:Heap):Prop:=∀ a o,H a=some o->ObjOk P w H h a o
end
section
variable {P:Program}{w:World}{H H':Hp}{h h':Heap}{a:Addr}{o:HO}
theorem ObjOk.lt (x:ObjOk P w H h a o):a<h.objs.size:=by
 cases o with
 | lst xs=>obtain⟨_,_,_,_,e⟩:=x;exact Γl e
 | tup xs=>obtain⟨_,_,_,p⟩:=x;exact p.lt
 | dK kvs=>obtain⟨_,_,_,_,o,_,_,e,_⟩:=x;exact Γl e
 | dT kvs=>obtain⟨_,_,_,_,o,_,_,e,_⟩:=x;exact Γl e
 | set S n=>obtain⟨o,_,_,_,e,_⟩:=x;exact Γl e
 | ins C dx fs=>obtain⟨_,_,_,e,_⟩:=x;exact Γl e
 | big C dx fs gs=>obtain⟨_,_,_,_,e,_⟩:=x;exact Γl e
 | own y=>obtain⟨_,e⟩:=x;exact Γl e
 | xd fs=>obtain⟨_,⟨_,_,_,e,_⟩,_⟩:=x;exact Γl e
 | rng lo hi=>obtain⟨_,_,_,e⟩:=x;exact Γl e
 | frz ob u=>obtain⟨e,_⟩:=x;exact Γl e
 | tbl ps=>exact Γl (show h.get? a=some _ from x)
 | met f y=>exact Γl (show h.get? a=some _ from x)
 | ext φ=>obtain⟨_,⟨_,e⟩,_⟩:=x;exact Γl e
theorem Paired.mapP {α β:Type}{F G:α->β->Prop}:∀ {l₁:List α}{l₂:List β},Paired F l₁ l₂->(∀ a b,F a b->G a b)->Paired G l₁ l₂
 | _,_,.nil,_=>.nil
 | _,_,.cons r t,f=>.cons (f _ _ r) (Paired.mapP t f)
theorem ObjOk.stay (x:ObjOk P w H h a o)(k:∀ b u,(b=a ∨ H b=some (.own a))->h.get? b=some u->h'.get? b=some u)
  (ho:∀ b,H b=some (.own a)->H' b=some (.own a))(ht:∀ b xs,H b=some (.tup xs)->H' b=some (.tup xs)):ObjOk P w H' h' a o:=by
 induction o with
 | lst xs=>obtain⟨z,its,n,r,e⟩:=x;exact⟨z,its,n,r,k _ _ (.inl rfl) e⟩
 | tup xs=>obtain⟨z,its,r,ob,e,c⟩:=x;exact⟨z,its,r,ob,k _ _ (.inl rfl) e,c⟩
 | dK kvs=>obtain⟨z,y,vs,r,ob,es,ep,e,c⟩:=x;exact⟨z,y,vs,r,ob,es,ep,k _ _ (.inl rfl) e,c⟩
 | dT kvs =>
  obtain⟨z,y,xs,r,ob,es,ep,e,c⟩:=x
  exact⟨z,y,xs,Paired.mapP r λp q z=>⟨z.1,ht _ _ z.2.1,z.2.2⟩,ob,es,ep,k _ _ (.inl rfl) e,c⟩
 | set S n=>obtain⟨ob,es,ep,t,e,c⟩:=x;exact⟨ob,es,ep,t,k _ _ (.inl rfl) e,c⟩
 | ins C dx fs =>
  obtain⟨d,z,ne,e,mA,⟨od,es,ep,e2,c⟩,r⟩:=x
  exact⟨ho _ d,z,ne,k _ _ (.inl rfl) e,mA,⟨od,es,ep,k _ _ (.inr d) e2,c⟩,r⟩
 | big C dx fs gs =>
  obtain⟨d,gg,nd,z,e,⟨mA,⟨od,es,ep,e2,c⟩,r⟩,ls⟩:=x
  exact⟨ho _ d,λg m=>ho _ (gg g m),nd,z,k _ _ (.inl rfl) e,⟨mA,⟨od,es,ep,k _ _ (.inr d) e2,c⟩,r⟩,λg m=>let ⟨l1,its,n,l2,l3⟩:=ls g m;⟨l1,its,n,l2,k _ _ (.inr (gg g m)) l3⟩⟩
 | own y=>obtain⟨ob,e⟩:=x;exact⟨ob,k _ _ (.inl rfl) e⟩
 | xd fs=>obtain⟨mA,⟨od,es,ep,e,c⟩,r⟩:=x;exact⟨mA,⟨od,es,ep,k _ _ (.inl rfl) e,c⟩,r⟩
 | rng lo hi=>obtain⟨t,u,v,e⟩:=x;exact⟨t,u,v,k _ _ (.inl rfl) e⟩
 | frz ob u ih=>obtain⟨e,q⟩:=x;exact⟨k _ _ (.inl rfl) e,ih q⟩
 | tbl ps =>
  have e:h.get? a=some { cls:=.none,data:=.fields ps }:=x
  show h'.get? a=some { cls:=.none,data:=.fields ps }
  exact k a _ (.inl rfl) e
 | met f y =>
  have e:h.get? a=some (PySem.W.methodObj (.ref f) (.ref y)):=x
  show h'.get? a=some (PySem.W.methodObj (.ref f) (.ref y))
  exact k a _ (.inl rfl) e
 | ext φ=>obtain⟨p,⟨o,e⟩,st⟩:=x;exact⟨st _ _ p λo q=>k _ _ (.inl rfl) q,⟨o,k _ _ (.inl rfl) e⟩,st⟩
theorem HOk.lt (x:HOk P w H h)(e:H a=some o):a<h.objs.size:=(x a o e).lt
theorem HOk.fresh (x:HOk P w H h)(e:h.objs.size<=a):H a=none:=by
 cases q:H a with
 | none=>rfl
 | some u=>exact absurd (Nat.lt_of_lt_of_le (x.lt q) e) (Nat.lt_irrefl _)
theorem HOk.kept (x:HOk P w H h)(k:∀ b u,h.get? b=some u->h'.get? b=some u):HOk P w H h':=λa o e =>
 (x a o e).stay (λb u _ q=>k b u q) (λ_ q=>q) λ_ _ q=>q
theorem HOk.laid (x:HOk P w H h)(k:∀ b u,h.get? b=some u->h'.get? b=some u)(hp:h.objs.size<=a)(new:ObjOk P w (upd H a o) h' a o):HOk P w (upd H a o) h':=λb u e=>by
 have hn:=x.fresh hp
 by_cases hb:b=a
 ·subst hb;rw[a0d] at e;cases e;exact new
 ·rw[a0e hb] at e
  exact (x b u e).stay (λc v _ q=>k c v q) (λc q=>by rw[a0e (a0z q hn)];exact q) λc xs q=>by rw[a0e (a0z q hn)];exact q
end
def Rd (H:Hp)(a:Addr)(u:HO):Prop:=H a=some u ∨ ∃ o,H a=some (.frz o u)
theorem Rd.ok {P:Program}{w:World}{H:Hp}{h:Heap}{a:Addr}{u:HO}(r:Rd H a u)(x:HOk P w H h):ObjOk P w H h a u:=by
 rcases r with r|⟨o,r⟩
 ·exact x a u r
 ·obtain⟨_,q⟩:=x a _ r
  exact q
def Mut:Option HO->Prop
 | some (.lst _)=>True
 | some (.dK _)=>True
 | some (.dT _)=>True
 | some (.set _ _)=>True
 | some (.ins _ _ _)=>True
 | some (.ext _)=>True
 | _=>False
section
variable {P:Program}{w:World}{H:Hp}{h h':Heap}{x e:Addr}{o':HO}
theorem HOk.write (ok:HOk P w H h)(mu:Mut (H x))(he:e=x ∨ H e=some (.own x))(k:∀ b u,b≠e->h.get? b=some u->h'.get? b=some u)(heo:∃ u,h'.get? e=some u)
  (new:ObjOk P w (upd H x o') h' x o'):HOk P w (upd H x o') h':=λb u q=>by
 have nown:∀ c y,H c=some (.own y)->c≠x:=λc y r z=>by subst z;rw[r] at mu;exact mu
 have ntup:∀ c xs,H c=some (.tup xs)->c≠x:=λc xs r z=>by subst z;rw[r] at mu;exact mu
 by_cases hb:b=x
 ·subst hb;rw[a0d] at q;cases q;exact new
 ·rw[a0e hb] at q
  by_cases hbe:b=e
  ·have q':H b=some (.own x):=by
    rcases he with z|z
    ·exact absurd (hbe.trans z) hb
    ·rw[hbe];exact z
   rw[q] at q';cases q'
   obtain⟨v,hv⟩:=heo
   exact⟨v,by rw[hbe];exact hv⟩
  ·refine (ok b u q).stay (λc v hc r=>k c v ?_ r) (λc r=>by rw[a0e (nown c b r)];exact r) λc xs r=>by rw[a0e (ntup c xs r)];exact r
   rcases hc with rfl|hc
   ·exact hbe
   ·rintro rfl
    rcases he with z|z
    ·exact nown c b hc z
    ·rw[hc] at z;cases z;exact hb rfl
end
structure Un (fs ex:List Addr)(H H':Hp)(h h':Heap):Prop where
 keep:∀ b o,h.get? b=some o->H b=none->b ∉ fs->b ∉ ex->h'.get? b=some o
 slot:∀ b o,h.get? b=some o->H b=none->b∈fs->b ∉ ex->∃ sl,h'.get? b=some { o with slots:=sl }
 free:∀ b o,h.get? b=some o->H b=none->b ∉ ex->H' b=none
 there:∀ b o,h.get? b=some o->b ∉ ex->∃ o',h'.get? b=some o'
 tups:∀ b xs,H b=some (.tup xs)->H' b=some (.tup xs)
 frzs:∀ b o u,H b=some (.frz o u)->H' b=some (.frz o u)
 tbls:∀ b ps,H b=some (.tbl ps)->∃ more,H' b=some (.tbl (ps++more))
section
variable {fs fs' ex ex':List Addr}{H H1 H2:Hp}{h h1 h2 h':Heap}{a x e:Addr}{o:HO}
theorem Un.any (u:Un fs ex H H1 h h1){b:Addr}{ob:Obj}(q:h.get? b=some ob)(n:H b=none)(hx:b ∉ ex):∃ sl,h1.get? b=some { ob with slots:=sl }:=by
 by_cases hb:b∈fs
 ·exact u.slot b ob q n hb hx
 ·exact⟨ob.slots,u.keep b ob q n hb hx⟩
theorem Un.kept (k:∀ b u,h.get? b=some u->h'.get? b=some u):Un fs ex H H h h' :=
 ⟨λb ob q _ _ _=>k b ob q,λb ob q _ _ _=>⟨ob.slots,k b ob q⟩,λ_ _ _ n _=>n,λb ob q _=>⟨ob,k b ob q⟩,λ_ _ q=>q,λ_ _ _ q=>q,λ_ ps q=>⟨#[],by rw[q];simp⟩⟩
theorem Un.refl:Un fs ex H H h h:=Un.kept λ_ _ q=>q
theorem Un.laid (k:∀ b u,h.get? b=some u->h'.get? b=some u)(hp:h.objs.size<=a)(hn:H a=none):Un fs ex H (upd H a o) h h' where
 keep:=λb u q _ _ _=>k b u q
 slot:=λb u q _ _ _=>⟨u.slots,k b u q⟩
 free:=λb u q n _=>by rw[a0e (Γo (Nat.lt_of_lt_of_le (Γl q) hp))];exact n
 there:=λb u q _=>⟨u,k b u q⟩
 tups:=λb xs q=>by rw[a0e (a0z q hn)];exact q
 frzs:=λb u xs q=>by rw[a0e (a0z q hn)];exact q
 tbls:=λb ps q=>⟨#[],by rw[a0e (a0z q hn),q];simp⟩
theorem Un.write (mu:Mut (H x))(he:e=x ∨ H e=some (.own x))(k:∀ b u,b≠e->h.get? b=some u->h'.get? b=some u)(heo:∃ u,h'.get? e=some u):Un fs ex H (upd H x o) h h':=by
 have hx:∀ b,H b=none->b≠x:=λb n z=>by subst z;rw[n] at mu;exact mu
 have hb:∀ b,H b=none->b≠e:=λb n z=>by
  subst z
  rcases he with r|r
  ·exact hx b n r
  ·rw[n] at r;cases r
 have hm:∀ b u,H b=some u->¬ Mut (some u)->b≠x:=λb u q nm z=>by subst z;rw[q] at mu;exact nm mu
 refine⟨λb u q n _ _=>k b u (hb b n) q,λb u q n _ _=>⟨u.slots,k b u (hb b n) q⟩,λb u q n _=>by rw[a0e (hx b n)];exact n,λb u q _=>?_,
  λb xs q=>by rw[a0e (hm b _ q λz=>z)];exact q,λb u xs q=>by rw[a0e (hm b _ q λz=>z)];exact q,λb ps q=>⟨#[],by rw[a0e (hm b _ q λz=>z),q];simp⟩⟩
 by_cases hbe:b=e
 ·subst hbe;exact heo
 ·exact⟨u,k b u hbe q⟩
end
def trk (h:Heap)(H:Hp):List Addr:=(List.range h.objs.size).filter λa=>(H a).isSome
def c3l (h:Heap)(H:Hp):Heap:=PySem.W.hideAll h (trk h H)
theorem b9b (h:Heap)(H:Hp):(c3l h H).objs.size=h.objs.size:=PySem.W.hideAll_size _ _
theorem c3k {h:Heap}{H:Hp}{b:Addr}{o:Obj}(e:h.get? b=some o)(n:H b=none):(c3l h H).get? b=some o :=
 PySem.W.hideAll_get _ e λhm=>by
  have q:(H b).isSome=true:=(List.mem_filter.mp hm).2
  rw[n] at q;simp at q
theorem c7d {h:Heap}{H:Hp}{b:Addr}{o:Obj}(e:(c3l h H).get? b=some o):h.get? b=some o/\H b=none:=by
 have e':h.get? b=some o:=PySem.W.of_hideAll (trk h H) e
 refine⟨e',?_⟩
 cases q:H b with
 | none=>rfl
 | some x =>
  have hm:b∈trk h H:=List.mem_filter.mpr ⟨List.mem_range.mpr (Γl e'),by simp[q]⟩
  have z:(c3l h H).get? b=none:=PySem.W.hideAll_none (trk h H) hm
  rw[z] at e;cases e
end L2
namespace L2
open PySem PySem.Spec PyProof.Rows
structure Mod (K:Γd)(mg:Str->Option Value)(base:Heap):Prop where
 kin:K.In base
 glob:base.Ns mainGlobals mg
 blt:∃ mb,base.Ns builtinsNs mb/\∀ x:Str,x≠"__name__"->mb x=bootBuiltins x
 nolimit:base.NoLimit
structure Cx where
 prog:Program
 w:World
 K:Γd
 mg:Str->Option Value
 base:Heap
 A:Around
 N:List Str
 s₀:Shared
 H₀:Hp
 env:Env
 outer:List Env
 stack:List Env
 ex:List Addr
 fn:Str->Bool
 calm:Bool
 pn:List (Addr×Obj)
 xe:Value->Shared->Prop
def frs (l:List Env):List Addr:=l.filterMap (·.frame)
abbrev Cx.fs (X:Cx):List Addr:=frs X.outer
def Vis (sc:Scope)(x:Str):Prop:=sc.names.lookup x=some .local ∨ sc.names.lookup x=some .cell ∨ sc.names.lookup x=some .free
def Loc (sc:Scope)(x:Str):Prop:=sc.names.lookup x=some .local ∨ sc.names.lookup x=some .cell
def Look (env:Env)(h:Heap)(m:Str->Option Value)(x:Str)(u:Value):Prop :=
 (env.kindOf x=some .local/\m x=some u) ∨ ((env.kindOf x=some .cell ∨ env.kindOf x=some .free)/\∃ c,env.cells.lookup x=some c/\h.IsCell c (some u))
structure Cx.Ok (X:Cx):Prop where
 mod:Mod X.K X.mg X.base
 kind:X.env.scope.kind=.function
 glob:X.env.globals=mainGlobals
 blt:X.env.builtins=builtinsNs
 above:X.s₀.heap.objs.size<=X.env.locals
 inj:∀ x y c,X.env.cells.lookup x=some c->X.env.cells.lookup y=some c->x=y
 has:∀ x,(X.env.kindOf x=some .cell ∨ X.env.kindOf x=some .free)->∃ c,X.env.cells.lookup x=some c
 cab:∀ x c,X.fn x=true->X.env.cells.lookup x=some c->X.s₀.heap.objs.size<=c
 hd:X.calm=true->X.A.handled=none
 frames:X.A.frames=some X.stack
 stk:X.stack=X.outer ∨ (X.stack=X.env :: X.outer/\X.env.frame=some X.env.locals)
 exf:∀ b∈X.ex,b≠X.env.locals/\∀ x c,X.env.cells.lookup x=some c->c≠b
 bs:∀ b o,X.base.get? b=some o->X.s₀.heap.get? b=some o/\X.H₀ b=none
 bsz:X.base.objs.size<=X.s₀.heap.objs.size
 noex:∀ b o,X.base.get? b=some o->b ∉ X.ex
 exfs:∀ b∈X.ex,b ∉ X.fs
 funs:X.s₀.heap.FunFrames X.base X.outer
 frf:∀ b∈X.fs,X.H₀ b=none
structure Inv (X:Cx)(pins:List (Addr×Obj))(σ:List (Option V))(H:Hp)(s:Shared):Prop where
 ok:X.Ok
 os:s.os=X.s₀.os
 bare:AllBare s.gens
 base:Un X.fs X.ex X.H₀ H X.s₀.heap s.heap
 loc:∃ m,s.heap.Ns X.env.locals m/\∀ (i:Nat)(x:Str)(v:V),X.N[i]?=some x->σ[i]?=some (some v)->Vis X.env.scope x->∃ u,RelV v u/\Look X.env s.heap m x u
 cell:∀ x c,X.env.cells.lookup x=some c->∃ v,s.heap.IsCell c v
 free:H X.env.locals=none
 freeC:∀ x c,X.env.cells.lookup x=some c->H c=none
 pin:∀ p∈X.pn++pins,s.heap.get? p.1=some p.2/\H p.1=none/\p.1≠X.env.locals/\p.1 ∉ X.fs/\∀ v,p.2.data≠.cell v
 hok:HOk X.prog X.w H s.heap
 len:σ.length=X.N.length
section
variable {X:Cx}{pins:List (Addr×Obj)}{σ:List (Option V)}{H H':Hp}{s:Shared}{h':Heap}
theorem Cx.Ok.nofr (ok:X.Ok){b:Addr}{o:Obj}(e:X.base.get? b=some o):b ∉ X.fs:=λhb=>by
 have:=(ok.funs.mem hb).1
 rw[e] at this;cases this
theorem Inv.bs (I:Inv X pins σ H s):∀ b o,X.base.get? b=some o->s.heap.get? b=some o/\H b=none:=λb o e =>
 ⟨I.base.keep b o (I.ok.bs b o e).1 (I.ok.bs b o e).2 (I.ok.nofr e) (I.ok.noex b o e),I.base.free b o (I.ok.bs b o e).1 (I.ok.bs b o e).2 (I.ok.noex b o e)⟩
theorem Inv.bk (I:Inv X pins σ H s):∀ b o,X.base.get? b=some o->s.heap.get? b=some o:=λb o e=>(I.bs b o e).1
theorem Inv.mod (I:Inv X pins σ H s):Mod X.K X.mg X.base:=I.ok.mod
theorem Inv.kIn (I:Inv X pins σ H s):X.K.In s.heap:=I.ok.mod.kin.keeps I.bk
theorem Inv.lt (I:Inv X pins σ H s):X.env.locals<s.heap.objs.size:=let ⟨_,hn,_⟩:=I.loc;hn.lt
theorem Inv.sz (I:Inv X pins σ H s):X.s₀.heap.objs.size<=s.heap.objs.size:=Nat.le_trans I.ok.above (Nat.le_of_lt I.lt)
theorem Inv.nofs (I:Inv X pins σ H s){a:Addr}(h:s.heap.objs.size<=a):a ∉ X.fs:=λhb=>by
 obtain⟨_,o,ho,_⟩:=I.ok.funs.mem hb
 exact absurd (Nat.lt_of_lt_of_le (Γl ho) (Nat.le_trans I.sz h)) (Nat.lt_irrefl _)
theorem Inv.cne (I:Inv X pins σ H s):∀ x c,X.env.cells.lookup x=some c->c≠X.env.locals:=λx c e z=>by
 obtain⟨v,o,ho,hd⟩:=I.cell x c e
 obtain⟨m,⟨o',es,ep,ho',hd',_⟩,_⟩:=I.loc
 rw[z,ho'] at ho;cases ho;rw[hd'] at hd;cases hd
theorem Inv.funs (I:Inv X pins σ H s):s.heap.FunFrames X.base X.outer:=by
 have all:∀ (l:List Env),(∀ b∈frs l,b∈X.fs)->X.s₀.heap.FunFrames X.base l->s.heap.FunFrames X.base l:=by
  intro l
  induction l with
  | nil=>intro _ _;trivial
  | cons env r ih =>
   intro hs hl
   obtain⟨hk,⟨L,o,hf,hn,ho,hd⟩,hr⟩:=hl
   have hL:L∈X.fs:=hs L (by unfold frs;rw[List.filterMap_cons,hf];exact Γn)
   obtain⟨sl,e⟩:=I.base.slot L o ho (I.ok.frf L hL) hL λz=>I.ok.exfs L z hL
   exact⟨hk,⟨L,_,hf,hn,e,hd⟩,ih (λb hb=>hs b (by unfold frs;rw[List.filterMap_cons,hf];exact Γh _ hb)) hr⟩
 exact all X.outer (λ_ hb=>hb) I.ok.funs
theorem Inv.stack (I:Inv X pins σ H s):s.heap.FunFrames X.base X.stack:=by
 rcases I.ok.stk with e|⟨e,hf⟩
 ·rw[e];exact I.funs
 ·rw[e]
  obtain⟨m,hn,_⟩:=I.loc
  refine .cons (by rw[I.ok.kind];decide) hf hn ?_ I.funs
  exact Heap.get?_none_of_le (Nat.le_trans I.ok.bsz I.ok.above)
theorem Inv.stkSub (I:Inv X pins σ H s):∀ b∈frs X.stack,b∈X.env.locals :: X.fs:=λb hb=>by
 rcases I.ok.stk with e|⟨e,hf⟩
 ·rw[e] at hb;exact Γh _ hb
 ·rw[e] at hb
  unfold frs at hb
  rw[List.filterMap_cons,hf] at hb
  exact hb
theorem Inv.stkFree (I:Inv X pins σ H s):∀ b∈frs X.stack,H b=none:=λb hb=>by
 rcases List.mem_cons.mp (I.stkSub b hb) with e|hb
 ·rw[e];exact I.free
 ·obtain⟨_,o,ho,_⟩:=I.ok.funs.mem hb
  exact I.base.free b o ho (I.ok.frf b hb) λz=>I.ok.exfs b z hb
theorem Inv.step {g':Array GenState}{t':Nat}{d':Drawn}{ch:List Addr}(I:Inv X pins σ H s)
  (hch:∀ b∈ch,(b∈X.ex ∨ X.s₀.heap.objs.size<=b)/\b≠X.env.locals/\(∀ x c,X.env.cells.lookup x=some c->c≠b)/\∀ p∈X.pn++pins,p.1≠b)
  (keep:∀ b o,b≠X.env.locals->b ∉ X.fs->b ∉ ch->s.heap.get? b=some o->H b=none->h'.get? b=some o)
  (slot:∀ b o,b≠X.env.locals->b∈X.fs->b ∉ ch->s.heap.get? b=some o->H b=none->∃ sl,h'.get? b=some { o with slots:=sl })(free:∀ b o,b ∉ ch->s.heap.get? b=some o->H b=none->H' b=none)
  (there:∀ b o,b ∉ ch->s.heap.get? b=some o->∃ o',h'.get? b=some o')
  (tups:∀ b xs,H b=some (.tup xs)->H' b=some (.tup xs))(frzs:∀ b o u,H b=some (.frz o u)->H' b=some (.frz o u))(tbls:∀ b ps,H b=some (.tbl ps)->∃ more,H' b=some (.tbl (ps++more)))
  (ns:∀ m,s.heap.Ns X.env.locals m->h'.Ns X.env.locals m)(hok:HOk X.prog X.w H' h')(hg:AllBare g') :
  Inv X pins σ H' { s with heap:=h',gens:=g',drawn:=d',toks:=t' }:=by
 have neL:∀ b o,X.s₀.heap.get? b=some o->b≠X.env.locals:=λb o e=>Γo (Nat.lt_of_lt_of_le (Γl e) I.ok.above)
 have neC:∀ b o,X.s₀.heap.get? b=some o->b ∉ X.ex->b ∉ ch:=λb o e hx hb=>by
  rcases (hch b hb).1 with z|z
  ·exact hx z
  ·exact absurd (Nat.lt_of_lt_of_le (Γl e) z) (Nat.lt_irrefl _)
 have cellK:∀ x c,X.env.cells.lookup x=some c->∀ v,s.heap.IsCell c v->h'.IsCell c v:=λx c e v ⟨o,ho,hd⟩=>by
  have nch:c ∉ ch:=λz=>(hch c z).2.2.1 x c e rfl
  by_cases hc:c∈X.fs
  ·obtain⟨sl,q⟩:=slot c o (I.cne x c e) hc nch ho (I.freeC x c e)
   exact⟨_,q,hd⟩
  ·exact⟨o,keep c o (I.cne x c e) hc nch ho (I.freeC x c e),hd⟩
 refine⟨I.ok,I.os,hg,⟨λb o e n hb hx=>?_,λb o e n hb hx=>?_,λb o e n hx=>?_,λb o e hx=>?_,λb xs e=>tups b xs (I.base.tups b xs e),λb o xs e=>frzs b o xs (I.base.frzs b o xs e),λb ps e=>?_⟩,?_,λx c e=>?_,?_,λx c e=>?_,λp hp=>?_,hok,I.len⟩
 ·exact keep b o (neL b o e) hb (neC b o e hx) (I.base.keep b o e n hb hx) (I.base.free b o e n hx)
 ·obtain⟨sl,e1⟩:=I.base.slot b o e n hb hx
  obtain⟨sl',e2⟩:=slot b _ (neL b o e) hb (neC b o e hx) e1 (I.base.free b o e n hx)
  exact⟨sl',e2⟩
 ·obtain⟨o',e1⟩:=I.base.there b o e hx
  exact free b o' (neC b o e hx) e1 (I.base.free b o e n hx)
 ·obtain⟨o',e1⟩:=I.base.there b o e hx
  exact there b o' (neC b o e hx) e1
 ·obtain⟨m1,e1⟩:=I.base.tbls b ps e
  obtain⟨m2,e2⟩:=tbls b _ e1
  exact⟨m1++m2,by rw[e2,Array.append_assoc]⟩
 ·obtain⟨m,hn,hl⟩:=I.loc
  refine⟨m,ns m hn,λi x v e1 e2 e3=>?_⟩
  obtain⟨u,r,l⟩:=hl i x v e1 e2 e3
  refine⟨u,r,?_⟩
  rcases l with l|⟨k,c,e,z⟩
  ·exact .inl l
  ·exact .inr ⟨k,c,e,cellK x c e _ z⟩
 ·obtain⟨v,z⟩:=I.cell x c e
  exact⟨v,cellK x c e v z⟩
 ·obtain⟨m,⟨o,_,_,ho,_⟩,_⟩:=I.loc
  exact free _ o (λz=>(hch _ z).2.1 rfl) ho I.free
 ·obtain⟨v,o,ho,hd⟩:=I.cell x c e
  exact free c o (λz=>(hch c z).2.2.1 x c e rfl) ho (I.freeC x c e)
 ·obtain⟨e,n,ne,nf,d⟩:=I.pin p hp
  have nch:p.1 ∉ ch:=λz=>(hch p.1 z).2.2.2 p hp rfl
  exact⟨keep p.1 p.2 ne nf nch e n,free p.1 p.2 nch e n,ne,nf,d⟩
theorem Inv.un {t':Nat}(I:Inv X pins σ H s)(u:Un X.fs [] H H' s.heap h')(hok:HOk X.prog X.w H' h'):Inv X pins σ H' { s with heap:=h',toks:=t' }:=by
 obtain⟨m,⟨o,es,ep,ho,r⟩,_⟩:=id I.loc
 obtain⟨sl,hL⟩:=u.any ho I.free (by simp)
 exact I.step (g':=s.gens) (d':=s.drawn) (ch:=[]) (λ_ z=>nomatch z) (λb o _ hb _ e n=>u.keep b o e n hb (by simp)) (λb o _ hb _ e n=>u.slot b o e n hb (by simp)) (λb o _ e n=>u.free b o e n (by simp)) (λb o _ e=>u.there b o e (by simp)) u.tups u.frzs u.tbls (λm' hm=>by
  obtain⟨o',es',ep',ho',r'⟩:=hm
  rw[ho] at ho';cases ho'
  exact⟨_,es',ep',hL,r'⟩) hok I.bare
theorem Inv.call {g':Array GenState}{t':Nat}{d':Drawn}{ch:List Addr}(I:Inv X pins σ H s)(u:Un (frs X.stack) ch H H' s.heap h')(hok:HOk X.prog X.w H' h')(hg:AllBare g')
  (hch:∀ b∈ch,(b∈X.ex ∨ X.s₀.heap.objs.size<=b)/\b≠X.env.locals/\(∀ x c,X.env.cells.lookup x=some c->c≠b)/\∀ p∈X.pn++pins,p.1≠b) :
  Inv X pins σ H' { s with heap:=h',gens:=g',drawn:=d',toks:=t' }:=by
 obtain⟨m,⟨o,es,ep,ho,r⟩,_⟩:=id I.loc
 obtain⟨sl,hL⟩:=u.any ho I.free λz=>(hch _ z).2.1 rfl
 exact I.step (ch:=ch) hch (λb o hL hb hc e n=>u.keep b o e n (λz=>(List.mem_cons.mp (I.stkSub b z)).elim hL hb) hc) (λb o _ _ hc e n=>u.any e n hc) (λb o hc e n=>u.free b o e n hc) (λb o hc e=>u.there b o e hc) u.tups u.frzs u.tbls (λm' hm=>by
  obtain⟨o',es',ep',ho',r'⟩:=hm
  rw[ho] at ho';cases ho'
  exact⟨_,es',ep',hL,r'⟩) hok hg
theorem Inv.turned {t':Nat}{it:Addr}(I:Inv X pins σ H s)(k:∀ b o,b≠it->s.heap.get? b=some o->h'.get? b=some o)(hn:H it=none)(hL:it≠X.env.locals)
  (h1:it∈X.ex ∨ X.s₀.heap.objs.size<=it)(h2:∀ x c,X.env.cells.lookup x=some c->c≠it)(h3:∀ p∈X.pn++pins,p.1≠it):Inv X pins σ H { s with heap:=h',toks:=t' }:=by
 have nit:∀ b u,H b=some u->b≠it:=λb u e z=>by rw[z,hn] at e;cases e
 refine I.step (g':=s.gens) (d':=s.drawn) (ch:=[it]) (λb hb=>?_) (λb o _ _ hc e _=>k b o (λz=>hc (by simp[z])) e) (λb o _ _ hc e _=>⟨o.slots,k b o (λz=>hc (by simp[z])) e⟩) (λ_ _ _ _ n=>n)
  (λb o hc e=>⟨o,k b o (λz=>hc (by simp[z])) e⟩) (λ_ _ e=>e) (λ_ _ _ e=>e) (λb ps e=>⟨#[],by rw[e];simp⟩) (λm hm=>?_) (λb u e=>?_) I.bare
 ·have e:b=it:=by simpa using hb
  subst e
  exact⟨h1,hL,h2,h3⟩
 ·obtain⟨o,es,ep,ho,r⟩:=hm
  exact⟨o,es,ep,k _ o (Ne.symm hL) ho,r⟩
 ·refine (I.hok b u e).stay (λc v hc q=>k c v ?_ q) (λ_ q=>q) λ_ _ q=>q
  rcases hc with z|z
  ·rw[z];exact nit b u e
  ·exact nit c _ z
theorem Inv.tok (I:Inv X pins σ H s) (t:Nat):Inv X pins σ H { s with toks:=t }:=I.un (h':=s.heap) (t':=t) Un.refl I.hok
theorem Inv.kept {t':Nat}(I:Inv X pins σ H s)(k:∀ b u,s.heap.get? b=some u->h'.get? b=some u):Inv X pins σ H { s with heap:=h',toks:=t' }:=I.un (Un.kept k) (I.hok.kept k)
theorem Inv.laid {a:Addr}{o:HO}{t':Nat}(I:Inv X pins σ H s)(k:∀ b u,s.heap.get? b=some u->h'.get? b=some u)(hp:s.heap.objs.size<=a)(new:ObjOk X.prog X.w (upd H a o) h' a o) :
  Inv X pins σ (upd H a o) { s with heap:=h',toks:=t' }:=I.un (Un.laid k hp (I.hok.fresh hp)) (I.hok.laid k hp new)
theorem Inv.write {x e:Addr}{o:HO}{t':Nat}(I:Inv X pins σ H s)(mu:Mut (H x))(he:e=x ∨ H e=some (.own x))(k:∀ b u,b≠e->s.heap.get? b=some u->h'.get? b=some u)(heo:∃ u,h'.get? e=some u)
  (new:ObjOk X.prog X.w (upd H x o) h' x o):Inv X pins σ (upd H x o) { s with heap:=h',toks:=t' }:=I.un (Un.write mu he k heo) (I.hok.write mu he k heo new)
theorem Inv.weak {σ':List (Option V)}(I:Inv X pins σ H s)(hl:σ'.length=σ.length)(w:∀ (i:Nat) v,σ'[i]?=some (some v)->σ[i]?=some (some v)):Inv X pins σ' H s :=
 ⟨I.ok,I.os,I.bare,I.base,let ⟨m,hn,hl'⟩:=I.loc;⟨m,hn,λi x v e1 e2 e3=>hl' i x v e1 (w i v e2) e3⟩,I.cell,I.free,I.freeC,I.pin,I.hok,hl.trans I.len⟩
theorem Inv.pins_of {pins':List (Addr×Obj)}(I:Inv X pins σ H s)(h:∀ p∈pins',s.heap.get? p.1=some p.2/\H p.1=none/\p.1≠X.env.locals/\p.1 ∉ X.fs/\∀ v,p.2.data≠.cell v):Inv X pins' σ H s :=
 ⟨I.ok,I.os,I.bare,I.base,I.loc,I.cell,I.free,I.freeC,λp hp=>(List.mem_append.mp hp).elim (λz=>I.pin p (List.mem_append_left _ z)) (h p),I.hok,I.len⟩
theorem b3p {N:List Str}(hN:N.Nodup){i j:Nat}{x:Str}(a:N[i]?=some x)(b:N[j]?=some x):i=j:=by
 obtain⟨h1,e1⟩:=List.getElem?_eq_some_iff.mp a
 obtain⟨h2,e2⟩:=List.getElem?_eq_some_iff.mp b
 exact (List.getElem_inj hN).mp (e1.trans e2.symm)
theorem a9t {M:Model}{A:Around}{E:Value->Shared->Prop}{i:Nat}{x:Str}{v:V}{u:Value}{Q:Unit->Shared->Prop}(I:Inv X pins σ H s)(hN:X.N.Nodup)(hi:X.N[i]?=some x)(hx:Loc X.env.scope x)(r:RelV v u)
  (h:∀ s',Inv X pins (σ.set i (some v)) H s'->(∃ a,Heap.SameBut a s.heap s'.heap/\(a=X.env.locals ∨ X.env.cells.lookup x=some a))->Q () s')(hf:X.fn x=true ∨ X.env.scope.names.lookup x=some .local:=by first|exact .inl rfl|exact .inr rfl|assumption):wpAny M A (storeName X.env x u) Q E s:=by
 obtain⟨m,hn,hl⟩:=id I.loc
 have hcls:(X.env.scope.kind == .class || (X.env.scope.kind == .module && X.env.locals != X.env.globals))=false:=by rw[I.ok.kind];rfl
 have hiσ:i<σ.length:=by rw[I.len];exact (List.getElem?_eq_some_iff.mp hi).1
 have cne:=I.cne
 have tracked:∀ {a:Addr}{h':Heap},(∃ o,s.heap.get? a=some o/\H a=none)->Heap.SameBut a s.heap h'->HOk X.prog X.w H h':=λ{a h'} ha hs b ob e=>by
  obtain⟨_,_,hfree⟩:=ha
  refine (I.hok b ob e).stay (λc w' hc q=>(hs.2 c ?_).trans q) (λ_ q=>q) λ_ _ q=>q
  rintro rfl
  rcases hc with rfl|hc
  ·rw[hfree] at e;cases e
  ·rw[hfree] at hc;cases hc
 rcases hx with hk|hk
 ·refine wpAny_storeName_local hk hn (λh' hn' hs=>?_) hcls
  obtain⟨oL,_,_,hoL,_⟩:=id hn
  refine h _ ⟨I.ok,I.os,I.bare,⟨λb o e n hb hx=>?_,λb o e n hb hx=>?_,I.base.free,λb o e hx=>?_,I.base.tups,I.base.frzs,I.base.tbls⟩,⟨_,hn',λj y v' e1 e2 e3=>?_⟩,λy c e=>?_,I.free,I.freeC,λp hp=>?_,tracked ⟨oL,hoL,I.free⟩ hs,by simpa using I.len⟩ ⟨_,hs,.inl rfl⟩
  ·exact (hs.2 b (Γo (Nat.lt_of_lt_of_le (Γl e) I.ok.above))).trans (I.base.keep b o e n hb hx)
  ·obtain⟨sl,e1⟩:=I.base.slot b o e n hb hx
   exact⟨sl,(hs.2 b (Γo (Nat.lt_of_lt_of_le (Γl e) I.ok.above))).trans e1⟩
  ·obtain⟨o',e1⟩:=I.base.there b o e hx
   exact⟨o',(hs.2 b (Γo (Nat.lt_of_lt_of_le (Γl e) I.ok.above))).trans e1⟩
  ·by_cases hj:j=i
   ·subst hj
    rw[hi] at e1;cases e1
    rw[List.getElem?_set_self hiσ] at e2
    cases e2
    exact⟨u,r,.inl ⟨hk,by simp⟩⟩
   ·rw[List.getElem?_set_ne (Ne.symm hj)] at e2
    obtain⟨u',r',q⟩:=hl j y v' e1 e2 e3
    refine⟨u',r',?_⟩
    rcases q with⟨k,e⟩|⟨k,c,e,z⟩
    ·refine .inl ⟨k,?_⟩
     have:y≠x:=λe=>hj (b3p hN e1 (e ▸ hi))
     simp[this,e]
    ·exact .inr ⟨k,c,e,z.sameBut hs (cne y c e)⟩
  ·obtain⟨w',z⟩:=I.cell y c e
   exact⟨w',z.sameBut hs (cne y c e)⟩
  ·obtain⟨e,n,ne,nf,d⟩:=I.pin p hp
   exact⟨(hs.2 p.1 ne).trans e,n,ne,nf,d⟩
 ·have hfn:X.fn x=true:=by
   rcases hf with z|z
   ·exact z
   ·rw[z] at hk;cases hk
  obtain⟨c,hc⟩:=I.ok.has x (.inl hk)
  obtain⟨w',z⟩:=I.cell x c hc
  refine wpAny_storeName_cell I.ok.kind hk hc z (λh' hc' hs=>?_)
  obtain⟨oc,hoc,hocd⟩:=id z
  refine h { s with heap:=h' } ⟨I.ok,I.os,I.bare,⟨λb o e n hb hx=>?_,λb o e n hb hx=>?_,I.base.free,λb o e hx=>?_,I.base.tups,I.base.frzs,I.base.tbls⟩,⟨m,hn.sameBut hs (Ne.symm (cne x c hc)),λj y v' e1 e2 e3=>?_⟩,λy c' e=>?_,I.free,I.freeC,λp hp=>?_,tracked ⟨oc,hoc,I.freeC x c hc⟩ hs,by simpa using I.len⟩ ⟨c,hs,.inr hc⟩
  ·exact (hs.2 b (Γo (Nat.lt_of_lt_of_le (Γl e) (I.ok.cab x c hfn hc)))).trans (I.base.keep b o e n hb hx)
  ·obtain⟨sl,e1⟩:=I.base.slot b o e n hb hx
   exact⟨sl,(hs.2 b (Γo (Nat.lt_of_lt_of_le (Γl e) (I.ok.cab x c hfn hc)))).trans e1⟩
  ·obtain⟨o',e1⟩:=I.base.there b o e hx
   exact⟨o',(hs.2 b (Γo (Nat.lt_of_lt_of_le (Γl e) (I.ok.cab x c hfn hc)))).trans e1⟩
  ·by_cases hj:j=i
   ·subst hj
    rw[hi] at e1;cases e1
    rw[List.getElem?_set_self hiσ] at e2
    cases e2
    exact⟨u,r,.inr ⟨.inl hk,c,hc,hc'⟩⟩
   ·rw[List.getElem?_set_ne (Ne.symm hj)] at e2
    obtain⟨u',r',q⟩:=hl j y v' e1 e2 e3
    refine⟨u',r',?_⟩
    rcases q with q|⟨k,c',e,z'⟩
    ·exact .inl q
    ·refine .inr ⟨k,c',e,z'.sameBut hs ?_⟩
     rintro rfl
     exact hj (b3p hN e1 (I.ok.inj _ _ _ e hc ▸ hi))
  ·by_cases hcc:c'=c
   ·subst hcc;exact⟨_,hc'⟩
   ·obtain⟨w2,z2⟩:=I.cell y c' e
    exact⟨w2,z2.sameBut hs hcc⟩
  ·obtain⟨e,n,ne,nf,d⟩:=I.pin p hp
   refine⟨(hs.2 p.1 ?_).trans e,n,ne,nf,d⟩
   intro q
   rw[q,hoc] at e
   have q':oc=p.2:=Option.some.inj e
   exact d w' (by rw[<- q'];exact hocd)
theorem a7v {M:Model}{A:Around}{E:Value->Shared->Prop}{i:Nat}{x:Str}{v:V}{u:Value}{Q:Unit->Shared->Prop}(I:Inv X pins σ H s)(hN:X.N.Nodup)(hi:X.N[i]?=some x)(hx:Loc X.env.scope x)(r:RelV v u)
  (h:∀ s',Inv X pins (σ.set i (some v)) H s'->Q () s')(hf:X.fn x=true ∨ X.env.scope.names.lookup x=some .local:=by first|exact .inl rfl|exact .inr rfl|assumption):wpAny M A (storeName X.env x u) Q E s :=
 a9t I hN hi hx r (λs' I' _=>h s' I') hf
theorem Inv.call' {s':Shared}{ch:List Addr}(I:Inv X pins σ H s)(ho:s'.os=s.os)(u:Un (frs X.stack) ch H H' s.heap s'.heap)(hok:HOk X.prog X.w H' s'.heap)(hg:AllBare s'.gens)
  (hch:∀ b∈ch,(b∈X.ex ∨ X.s₀.heap.objs.size<=b)/\b≠X.env.locals/\(∀ x c,X.env.cells.lookup x=some c->c≠b)/\∀ p∈X.pn++pins,p.1≠b):Inv X pins σ H' s':=by
 obtain⟨h',g',d',t',o'⟩:=s'
 have e:o'=s.os:=ho
 subst e
 exact I.call (g':=g') (t':=t') (d':=d') u hok hg hch
end
abbrev XK:=Value->Option Addr->Hp->Prop
abbrev St:=List (Option V)
abbrev VK:=V->Hp->Prop
abbrev TE:=St->Hp->VK->Prop
abbrev TT:=St->Hp->(Bool->Hp->Prop)->Prop
abbrev TA:=St->Hp->(List V->Hp->Prop)->Prop
structure Ends where
 nx:St->Hp->Prop
 rt:VK
 bk:St->Hp->Prop:=λ_ _=>False
 ct:St->Hp->Prop:=λ_ _=>False
abbrev TS:=Ends->St->Hp->Prop
def EP (X:Cx)(pins:List (Addr×Obj))(σ:St)(Q:VK)(u:Value)(s':Shared):Prop:=∃ v H',Inv X pins σ H' s'/\RelV v u/\Q v H'
def TP (X:Cx)(pins:List (Addr×Obj))(σ:St)(Q:Bool->Hp->Prop)(b:Bool)(s':Shared):Prop:=∃ H',Inv X pins σ H' s'/\Q b H'
def AP (X:Cx)(pins:List (Addr×Obj))(σ:St)(Q:List V->Hp->Prop)(us:List Value)(s':Shared):Prop:=∃ vs H',Inv X pins σ H' s'/\Vals vs us/\Q vs H'
def SP (X:Cx)(pins:List (Addr×Obj))(D:Ends)(f:Flow)(s':Shared):Prop :=
 match f with
 | .next=>∃ σ' H',Inv X pins σ' H' s'/\D.nx σ' H'
 | .brk=>∃ σ' H',Inv X pins σ' H' s'/\D.bk σ' H'
 | .cont=>∃ σ' H',Inv X pins σ' H' s'/\D.ct σ' H'
 | .ret u=>∃ v σ' H',Inv X pins σ' H' s'/\RelV v u/\D.rt v H'
def PE (X:Cx)(e:Expr)(t:TE):Prop :=
 ∀ (pins:List (Addr×Obj))(s:Shared)(σ:St)(H:Hp)(Q:VK),Inv X pins σ H s->t σ H Q->wpAny (model X.prog X.w) X.A (eval e X.env) (EP X pins σ Q) X.xe s
def PT (X:Cx)(e:Expr)(t:TT):Prop :=
 ∀ (pins:List (Addr×Obj))(s:Shared)(σ:St)(H:Hp)(Q:Bool->Hp->Prop),Inv X pins σ H s->t σ H Q->wpAny (model X.prog X.w) X.A (isTrue e X.env (eval e X.env)) (TP X pins σ Q) X.xe s
def PW (X:Cx)(e:Expr)(t:TT):Prop :=
 ∀ (whole:Sem Value)(pins:List (Addr×Obj))(s:Shared)(σ:St)(H:Hp)(Q:Bool->Hp->Prop),Inv X pins σ H s->t σ H Q->wpAny (model X.prog X.w) X.A (isTrue e X.env whole) (TP X pins σ Q) X.xe s
theorem PW.pt {X:Cx}{e:Expr}{t:TT}(h:PW X e t):PT X e t:=h _
def PA (X:Cx)(es:List Expr)(t:TA):Prop :=
 ∀ (pos:Pos)(pins:List (Addr×Obj))(s:Shared)(σ:St)(H:Hp)(Q:List V->Hp->Prop),Inv X pins σ H s->t σ H Q->wpAny (model X.prog X.w) X.A (spliced (backTo pos (starEach es X.env))) (AP X pins σ Q) X.xe s
def PS (X:Cx)(st:Stmt)(t:TS):Prop :=
 ∀ (pins:List (Addr×Obj))(s:Shared)(σ:St)(H:Hp)(D:Ends),Inv X pins σ H s->t D σ H->wpAny (model X.prog X.w) X.A (exec st X.env) (SP X pins D) X.xe s
def PSs (X:Cx)(st:List Stmt)(t:TS):Prop :=
 ∀ (pins:List (Addr×Obj))(s:Shared)(σ:St)(H:Hp)(D:Ends),Inv X pins σ H s->t D σ H->wpAny (model X.prog X.w) X.A (execs st X.env) (SP X pins D) X.xe s
theorem thn {α:Type}{t:Sem α}{Q Q':α->Shared->Prop}{M:Model}{A:Around}{E:Value->Shared->Prop}{s:Shared}(h:wpAny M A t Q E s)(hQ:∀ a s,Q a s->Q' a s):wpAny M A t Q' E s:=wpAny_mono h hQ λ_ _ x=>x
end L2
namespace L2
open PySem PySem.Spec PyProof.Rows
section
variable {X:Cx}
def c9v (i:Nat):TE:=λσ H Q=>∃ v,σ[i]?=some (some v)/\Q v H
def tC (v:V):TE:=λ_ H Q=>Q v H
theorem b7l {i:Nat}{x:Str}{pos:Pos}(hN:X.N[i]?=some x)(hv:Vis X.env.scope x)(hd:(x == ("__debug__":Str))=false:=by decide)(hcd:(x == ("__classdict__":Str))=false:=by decide):PE X (.Name x pos) (c9v i):=by
 intro pins s σ H Q I h
 obtain⟨v,e,h⟩:=h
 obtain⟨m,hn,hl⟩:=I.loc
 obtain⟨u,r,l⟩:=hl i x v hN e hv
 have fin:EP X pins σ Q u s:=⟨v,H,I,r,h⟩
 rcases l with⟨hk,hm⟩|⟨hk,c,hc,hcell⟩
 ·exact wpAny_Name (wpAny_loadName_local I.ok.kind hk hn hm fin) hd
 ·rcases hk with hk|hk
  ·exact wpAny_Name (wpAny_loadName_cell I.ok.kind hk hc hcell fin) hd
  ·exact wpAny_Name (wpAny_loadName_free I.ok.kind hk hc hcell fin hcd) hd
theorem d1c {i j pos}:PE X (.Constant (.int i) j pos) (tC (.int i)):=λ_ _ _ H _ I h=>wpAny_Constant_int ⟨.int i,H,I.tok _,⟨_,rfl⟩,h⟩
theorem d7w {b j pos}:PE X (.Constant (.bool b) j pos) (tC (.bl b)):=λ_ _ _ H _ I h=>Constant_bool ⟨.bl b,H,I,rfl,h⟩
theorem d1b {j pos}:PE X (.Constant .none j pos) (tC .non):=λ_ _ _ H _ I h=>Constant_none ⟨.non,H,I,rfl,h⟩
def Gl (X:Cx)(x:Str):Prop:=X.env.kindOf x=some .globalImplicit
theorem c7p {E:Value->Shared->Prop}{pins:List (Addr×Obj)}{s:Shared}{σ:St}{H:Hp}{x:Str}{u:Value}{pos:Pos}{Q:Value->Shared->Prop}(I:Inv X pins σ H s)(hg:Gl X x)(hm:X.mg x=some u)(h:Q u s)
  (hd:(x == ("__debug__":Str))=false:=by decide):wpAny (model X.prog X.w) X.A (eval (.Name x pos) X.env) Q E s :=
 Calls.Name_function_global I.ok.kind hg (Calls.loadGlobal_global (by rw[I.ok.glob];exact I.mod.glob.keeps I.bk) hm h) hd
theorem a7l {E:Value->Shared->Prop}{pins:List (Addr×Obj)}{s:Shared}{σ:St}{H:Hp}{x:Str}{u:Value}{pos:Pos}{Q:Value->Shared->Prop}(I:Inv X pins σ H s)(hg:Gl X x)(hm:X.mg x=none)(hv:bootBuiltins x=some u)(h:Q u s)
  (hn:x≠"__name__":=by decide)(hd:(x == ("__debug__":Str))=false:=by decide):wpAny (model X.prog X.w) X.A (eval (.Name x pos) X.env) Q E s:=by
 obtain⟨mb,h1,h2⟩:=I.mod.blt
 exact Calls.Name_function_global I.ok.kind hg (Calls.loadGlobal_builtin (by rw[I.ok.glob];exact I.mod.glob.keeps I.bk) hm (by rw[I.ok.blt];exact h1.keeps I.bk) ((h2 x hn).trans hv) h) hd
theorem c6u {x:Str}{v:V}{u:Value}{pos:Pos}(hg:Gl X x)(hm:X.mg x=none)(hv:bootBuiltins x=some u)(r:RelV v u)(hn:x≠"__name__":=by decide)(hd:(x == ("__debug__":Str))=false:=by decide):PE X (.Name x pos) (tC v) :=
 λ_ _ _ H _ I h=>a7l I hg hm hv ⟨v,H,I,r,h⟩ hn hd
variable {a b:Expr}{ta tb:TE}{pos:Pos}
def PC (X:Cx)(op:CmpOp)(a b:Expr)(t:TE):Prop :=
 ∀ (pins:List (Addr×Obj))(s:Shared)(σ:St)(H:Hp)(Q:VK),Inv X pins σ H s->t σ H Q ->
  wpAny (model X.prog X.w) X.A (eval a X.env) (λv s₁=>wpAny (model X.prog X.w) X.A (eval b X.env) (λu s₂=>wpAny (model X.prog X.w) X.A (compareOp op v u) (EP X pins σ Q) X.xe s₂) X.xe s₁) X.xe s
theorem a2n (b:Expr){op:CmpOp}(h:op≠.In)(h2:op≠.NotIn):behindInMarks op b=false:=by
 have e1:(op == CmpOp.In)=false:=by cases op<;>first|rfl|exact absurd rfl h
 have e2:(op == CmpOp.NotIn)=false:=by cases op<;>first|rfl|exact absurd rfl h2
 cases b<;>simp[behindInMarks,e1,e2]
def tIsN (ta:TE):TE:=λσ H Q=>ta σ H λx H1=>Q (.bl (decide (x=.non))) H1
def d6b (ta:TE):TE:=λσ H Q=>ta σ H λx H1=>Q (.bl (!decide (x=.non))) H1
theorem RelV.none_iff {x:V}{v:Value}(r:RelV x v):(v == Value.none)=decide (x=.non):=by
 cases x with
 | non=>cases r;rfl
 | bl _=>cases r;rfl
 | int _=>obtain⟨t,rfl⟩:=r;rfl
 | str _=>obtain⟨t,rfl⟩:=r;rfl
 | byt _=>obtain⟨t,rfl⟩:=r;rfl
 | flt _=>obtain⟨t,rfl⟩:=r;rfl
 | ref _=>cases r;rfl
 | ty _=>cases r;rfl
theorem d1e {j pos'}(ha:PE X a ta):PC X .Is a (.Constant .none j pos') (tIsN ta):=by
 intro pins s σ H Q I h
 refine thn (ha pins s σ H _ I h) λv s1 ⟨x,H1,I1,r1,q1⟩=>?_
 exact Constant_none (is_none_gen ⟨.bl _,H1,I1,by rw[r1.none_iff];rfl,q1⟩)
theorem b7m {j pos'}(ha:PE X a ta):PC X .IsNot a (.Constant .none j pos') (d6b ta):=by
 intro pins s σ H Q I h
 refine thn (ha pins s σ H _ I h) λv s1 ⟨x,H1,I1,r1,q1⟩=>?_
 exact Constant_none (isnot_none_gen ⟨.bl _,H1,I1,by rw[r1.none_iff];rfl,q1⟩)
def tB (t:TE):TT:=λσ H Q=>t σ H λx H1=>∃ c,x=.bl c/\Q c H1
theorem d1d {op:CmpOp}{t:TE}(h:PC X op a b t)(h1:behindInMarks op b=false:=by first|exact a2n _ (by decide) (by decide)|rfl):PE X (.Compare a [op] [b] pos) t:=λpins s σ H Q I hw=>wpAny_Compare1 (h pins s σ H Q I hw) h1
theorem b6z {op:CmpOp}{t:TE}(h:PC X op a b t)(h1:behindInMarks op b=false:=by first|exact a2n _ (by decide) (by decide)|rfl):PT X (.Compare a [op] [b] pos) (tB t):=by
 intro pins s σ H Q I hw
 refine wpAny_isTrue_Compare1 (thn (h pins s σ H _ I hw) λv s1 h1=>thn h1 λu s2 h2=>thn h2 λc s3 ⟨x,H1,I1,r1,q1⟩=>?_) h1
 obtain⟨d,rfl,q⟩:=q1
 cases r1
 exact wpAny_truthy_bool ⟨H1,I1,q⟩
variable {tA tB':TT}{rest:List Expr}
def tAnd (t u:TT):TT:=λσ H Q=>t σ H λc H1=>if c=true then u σ H1 Q else Q false H1
def tOr (t u:TT):TT:=λσ H Q=>t σ H λc H1=>if c=true then Q true H1 else u σ H1 Q
def tNot (t:TT):TT:=λσ H Q=>t σ H λc H1=>Q (!c) H1
theorem c6d (ha:PT X a tA):PW X (.BoolOp .And [a] pos) tA:=by
 intro wh pins s σ H Q I h
 refine isTrue_and (thn (ha pins s σ H Q I h) λc s1 e=>?_)
 cases c with
 | true=>exact isTrue_and_nil e
 | false=>exact e
theorem d0r (ha:PT X a tA):PW X (.BoolOp .Or [a] pos) tA:=by
 intro wh pins s σ H Q I h
 refine isTrue_or (thn (ha pins s σ H Q I h) λc s1 e=>?_)
 cases c with
 | false=>exact isTrue_or_nil e
 | true=>exact e
theorem d0s (ha:PT X a tA)(hb:PW X (.BoolOp .And (b :: rest) pos) tB'):PW X (.BoolOp .And (a :: b :: rest) pos) (tAnd tA tB'):=by
 intro wh pins s σ H Q I h
 refine isTrue_and (thn (ha pins s σ H _ I h) λc s1 ⟨H1,I1,q1⟩=>?_)
 cases c with
 | true=>exact hb wh pins s1 σ H1 Q I1 q1
 | false=>exact⟨H1,I1,q1⟩
theorem d7q (ha:PT X a tA)(hb:PW X (.BoolOp .Or (b :: rest) pos) tB'):PW X (.BoolOp .Or (a :: b :: rest) pos) (tOr tA tB'):=by
 intro wh pins s σ H Q I h
 refine isTrue_or (thn (ha pins s σ H _ I h) λc s1 ⟨H1,I1,q1⟩=>?_)
 cases c with
 | true=>exact⟨H1,I1,q1⟩
 | false=>exact hb wh pins s1 σ H1 Q I1 q1
theorem d0u (ha:PT X a tA):PT X (.UnaryOp .Not a pos) (tNot tA):=by
 intro pins s σ H Q I h
 exact isTrue_not (ha pins s σ H (λc H1=>Q (!c) H1) I h)
def d6a (ta:TE):TE:=λσ H Q=>ta σ H λx H1=>∃ c,x=.bl c/\Q (.bl (!c)) H1
theorem d0z {op}{t:TE}(h:PE X a t):PE X (.BoolOp op [a] pos) t:=λpins s σ H Q I hw=>BoolOp_one (h pins s σ H Q I hw)
theorem d1a (ha:PE X a ta):PE X (.UnaryOp .Not a pos) (d6a ta):=by
 intro pins s σ H Q I h
 refine UnaryOp_ (thn (ha pins s σ H _ I h) λv s1 ⟨x,H1,I1,r1,q1⟩=>?_)
 obtain⟨c,rfl,q1⟩:=q1
 cases r1
 exact not_of (wpAny_truthy_bool ⟨.bl (!c),H1,I1,rfl,q1⟩)
def tIf (t:TT)(ta tb:TE):TE:=λσ H Q=>t σ H λc H1=>if c=true then ta σ H1 Q else tb σ H1 Q
theorem c2l {c:Expr}(hc:PT X c tA)(ha:PE X a ta)(hb:PE X b tb):PE X (.IfExp c a b pos) (tIf tA ta tb):=by
 intro pins s σ H Q I h
 refine wpAny_IfExp (thn (hc pins s σ H _ I h) λd s1 ⟨H1,I1,q1⟩=>?_)
 cases d with
 | true=>exact ha pins s1 σ H1 Q I1 q1
 | false=>exact hb pins s1 σ H1 Q I1 q1
end
end L2
namespace L2
open PySem PySem.Spec PyProof.Rows
def SqL (K:Γd)(H:Hp)(a:Addr)(xs:List V):Prop :=
 Rd H a (.lst xs) ∨
  ∃ (o:Obj)(its:Array Value) (n:Nat),K.lookup a=some o/\o.cls=.type "list"/\o.dict=none/\o.data=.seq its n/\its.size<=sizeLine/\Vals xs its.toList
def SqT (K:Γd)(H:Hp)(a:Addr)(xs:List V):Prop :=
 Rd H a (.tup xs) ∨
  ∃ (o:Obj)(its:Array Value) (n:Nat),K.lookup a=some o/\o.cls=.type "tuple"/\o.data=.seq its n/\its.size<=sizeLine/\Vals xs its.toList
def absV:Value->Option V
 | .none=>some .non
 | .bool b=>some (.bl b)
 | .int i _=>some (.int i)
 | .str x _=>some (.str x)
 | .bytes b _=>some (.byt b)
 | .float b _=>some (.flt b)
 | .ref a=>some (.ref a)
 | .type n=>some (.ty n)
 | _=>none
theorem RelV.abs {x:V}{u:Value}(r:RelV x u):absV u=some x:=by
 cases x with
 | non=>cases r;rfl
 | bl _=>cases r;rfl
 | int _=>obtain⟨t,rfl⟩:=r;rfl
 | str _=>obtain⟨t,rfl⟩:=r;rfl
 | byt _=>obtain⟨t,rfl⟩:=r;rfl
 | flt _=>obtain⟨t,rfl⟩:=r;rfl
 | ref _=>cases r;rfl
 | ty _=>cases r;rfl
theorem RelV.inj {x y:V}{u:Value}(r:RelV x u)(q:RelV y u):x=y:=Option.some.inj (r.abs.symm.trans q.abs)
theorem Vals.inj:∀ {xs ys:List V}{us:List Value},Vals xs us->Vals ys us->xs=ys
 | _,_,_,.nil,.nil=>rfl
 | _,_,_,.cons r t,.cons r' t'=>by rw[r.inj r',Vals.inj t t']
section
variable {X:Cx}{pins:List (Addr×Obj)}{σ:St}{H:Hp}{s:Shared}{a:Addr}{xs ys:List V}
theorem SqL.of {K:Γd}(h:H a=some (.lst xs)):SqL K H a xs:=.inl (.inl h)
theorem SqT.of {K:Γd}(h:H a=some (.tup xs)):SqT K H a xs:=.inl (.inl h)
theorem Inv.list (I:Inv X pins σ H s)(h:SqL X.K H a xs):∃ its:List Value,Vals xs its/\PlainL s.heap a its.toArray/\xs.length<=sizeLine:=by
 rcases h with h|⟨o,its,n,hk,hc,hd,hs,hz,r⟩
 ·obtain⟨z,its,n,r,e⟩:=h.ok I.hok
  exact⟨its,r,⟨_,n,e,rfl,rfl,rfl⟩,z⟩
 ·refine⟨its.toList,r,⟨o,n,I.kIn a o hk,hc,hd,by simpa using hs⟩,?_⟩
  have e:=r.length
  simp only[Array.length_toList] at e
  lia
theorem Inv.tuple (I:Inv X pins σ H s)(h:SqT X.K H a xs):∃ its:List Value,Vals xs its/\IsTup s.heap a its.toArray/\xs.length<=sizeLine:=by
 rcases h with h|⟨o,its,n,hk,hc,hs,hz,r⟩
 ·obtain⟨z,its,r,p⟩:=h.ok I.hok
  exact⟨its,r,p,z⟩
 ·refine⟨its.toList,r,⟨o,I.kIn a o hk,hc,n,by simpa using hs⟩,?_⟩
  have e:=r.length
  simp only[Array.length_toList] at e
  lia
theorem Inv.list_inj (I:Inv X pins σ H s)(h:SqL X.K H a xs)(h':SqL X.K H a ys):xs=ys:=by
 obtain⟨its,r,⟨o,n,e,_,_,d⟩,_⟩:=I.list h
 obtain⟨its',r',⟨o',n',e',_,_,d'⟩,_⟩:=I.list h'
 rw[e] at e';cases e'
 rw[d] at d'
 injection d' with d1 _
 have:its=its':=by simpa using congrArg Array.toList d1
 subst this
 exact r.inj r'
theorem Inv.tuple_inj (I:Inv X pins σ H s)(h:SqT X.K H a xs)(h':SqT X.K H a ys):xs=ys:=by
 obtain⟨its,r,⟨o,e,_,n,d⟩,_⟩:=I.tuple h
 obtain⟨its',r',⟨o',e',_,n',d'⟩,_⟩:=I.tuple h'
 rw[e] at e';cases e'
 rw[d] at d'
 injection d' with d1 _
 have:its=its':=by simpa using congrArg Array.toList d1
 subst this
 exact r.inj r'
end
abbrev Cx.wish (X:Cx)(E:Value->Shared->Prop):Cx:={ X with xe:=E }
abbrev Cx.nox (X:Cx):Cx:=X.wish λ_ _=>False
theorem Cx.Ok.wish {X:Cx}(ok:X.Ok)(E:Value->Shared->Prop):(X.wish E).Ok :=
 ⟨ok.mod,ok.kind,ok.glob,ok.blt,ok.above,ok.inj,ok.has,ok.cab,ok.hd,ok.frames,ok.stk,ok.exf,ok.bs,ok.bsz,ok.noex,ok.exfs,ok.funs,ok.frf⟩
theorem Cx.Ok.unwish {X:Cx}{E:Value->Shared->Prop}(ok:(X.wish E).Ok):X.Ok :=
 ⟨ok.mod,ok.kind,ok.glob,ok.blt,ok.above,ok.inj,ok.has,ok.cab,ok.hd,ok.frames,ok.stk,ok.exf,ok.bs,ok.bsz,ok.noex,ok.exfs,ok.funs,ok.frf⟩
section
variable {X:Cx}{pins:List (Addr×Obj)}{σ:St}{H:Hp}{s:Shared}{E:Value->Shared->Prop}
theorem Inv.wish (I:Inv X pins σ H s)(E:Value->Shared->Prop):Inv (X.wish E) pins σ H s:=⟨I.ok.wish E,I.os,I.bare,I.base,I.loc,I.cell,I.free,I.freeC,I.pin,I.hok,I.len⟩
theorem Inv.unwish (I:Inv (X.wish E) pins σ H s):Inv X pins σ H s:=⟨I.ok.unwish,I.os,I.bare,I.base,I.loc,I.cell,I.free,I.freeC,I.pin,I.hok,I.len⟩
theorem SP.unwish {D:Ends}{f:Flow}{s':Shared}(h:SP (X.wish E) pins D f s'):SP X pins D f s':=by
 cases f with
 | next=>obtain⟨σ',H',I,q⟩:=h;exact⟨σ',H',I.unwish,q⟩
 | brk=>obtain⟨σ',H',I,q⟩:=h;exact⟨σ',H',I.unwish,q⟩
 | cont=>obtain⟨σ',H',I,q⟩:=h;exact⟨σ',H',I.unwish,q⟩
 | ret u=>obtain⟨v,σ',H',I,r,q⟩:=h;exact⟨v,σ',H',I.unwish,r,q⟩
theorem PSs.nox {st:List Stmt}{t:TS}(h:PSs X.nox st t):PSs X st t:=λpins s σ H D I hw =>
 wpAny_mono (h pins s σ H D (I.wish _) hw) (λ_ _ q=>q.unwish) λ_ _ z=>False.elim z
end
section
variable {X:Cx}{st:Stmt}{rest:List Stmt}{t u:TS}{e:Expr}{te:TE}{pos:Pos}
def d6c:TS:=λD σ H=>D.nx σ H
def tSeq (t u:TS):TS:=λD σ H=>t { D with nx:=u D } σ H
theorem c6h:PSs X [] d6c:=λ_ _ σ H _ I h=>wpAny_execs_nil ⟨σ,H,I,h⟩
theorem a8d (h1:PS X st t)(h2:PSs X rest u):PSs X (st :: rest) (tSeq t u):=by
 intro pins s σ H D I h
 refine wpAny_execs_cons (thn (h1 pins s σ H { D with nx:=u D } I h) λf s1 q=>?_)
 cases f with
 | next =>
  obtain⟨σ',H',I',q⟩:=q
  exact h2 pins s1 σ' H' D I' q
 | ret v=>exact q
 | brk=>exact q
 | cont=>exact q
theorem b7a (h1:PS X st t):PSs X [st] t:=by
 intro pins s σ H D I h
 refine wpAny_execs_cons (thn (h1 pins s σ H D I h) λf s1 q=>?_)
 cases f with
 | next=>exact wpAny_execs_nil q
 | ret v=>exact q
 | brk=>exact q
 | cont=>exact q
theorem Inv.quiet {pins:List (Addr×Obj)}{σ:St}{H:Hp}{s:Shared}(I:Inv X pins σ H s):interactive X.env=false:=by simp[interactive,I.ok.kind]
def d6d (te:TE):TS:=λD σ H=>te σ H λ_ H1=>D.nx σ H1
theorem b7d (he:PE X e te)(hs:swapsWith e none pos.line X.env=pure false:=by rfl):PS X (.Expr e pos) (d6d te):=by
 intro pins s σ H D I h
 exact wpAny_Expr_any (thn (he pins s σ H _ I h) λv s1 ⟨x,H1,I1,r1,q1⟩=>⟨σ,H1,I1,q1⟩) I.quiet hs
def tRet (te:TE):TS:=λD σ H=>te σ H D.rt
theorem b7b (he:PE X e te):PS X (.Return (some e) pos) (tRet te):=by
 intro pins s σ H D I h
 exact wpAny_Return_some (thn (he pins s σ H _ I h) λv s1 ⟨x,H1,I1,r1,q1⟩=>⟨x,σ,H1,I1,r1,q1⟩)
def tIfS (c:TT)(t u:TS):TS:=λD σ H=>c σ H λb H1=>if b=true then t D σ H1 else u D σ H1
theorem d7s {c:Expr}{a b:List Stmt}{tc:TT}(hc:PT X c tc)(ha:PSs X a t)(hb:PSs X b u):PS X (.If c a b pos) (tIfS tc t u):=by
 intro pins s σ H D I h
 refine wpAny_If (thn (hc pins s σ H _ I h) λd s1 ⟨H1,I1,q1⟩=>?_)
 cases d with
 | true=>exact ha pins s1 σ H1 D I1 q1
 | false=>exact hb pins s1 σ H1 D I1 q1
end
abbrev TG:=V->St->Hp->(St->Hp->Prop)->Prop
abbrev TGs:=List V->St->Hp->(St->Hp->Prop)->Prop
def PG (X:Cx)(target:Expr)(t:TG):Prop :=
 ∀ (pins:List (Addr×Obj))(s:Shared)(σ:St)(H:Hp)(v:V)(u:Value)(Q:St->Hp->Prop),Inv X pins σ H s->RelV v u->t v σ H Q ->
  wpAny (model X.prog X.w) X.A (assign target X.env u) (λ_ s'=>∃ σ' H',Inv X pins σ' H' s'/\Q σ' H') X.xe s
def PGs (X:Cx)(ts:List Expr)(t:TGs):Prop :=
 ∀ (pins:List (Addr×Obj))(s:Shared)(σ:St)(H:Hp)(vs:List V)(us:List Value)(Q:St->Hp->Prop),Inv X pins σ H s->Vals vs us->t vs σ H Q ->
  wpAny (model X.prog X.w) X.A (assignInOrder ((assignEach ts X.env).map (·.2)) us) (λ_ s'=>∃ σ' H',Inv X pins σ' H' s'/\Q σ' H') X.xe s
abbrev e3f:=V->V->V->Hp->(Hp->Prop)->Prop
def PSet (X:Cx)(t:e3f):Prop :=
 ∀ (pins:List (Addr×Obj))(s:Shared)(σ:St)(H:Hp)(o i v:V)(ov iv u:Value)(Q:Hp->Prop),Inv X pins σ H s->RelV o ov->RelV i iv->RelV v u->t o i v H Q ->
  wpAny (model X.prog X.w) X.A (setItem ov iv u) (λ_ s'=>∃ H',Inv X pins σ H' s'/\Q H') X.xe s
abbrev TIp:=V->V->Hp->VK->Prop
def PIp (X:Cx)(op:Operator)(t:TIp):Prop :=
 ∀ (pins:List (Addr×Obj))(s:Shared)(σ:St)(H:Hp)(x y:V)(v u:Value)(Q:VK),Inv X pins σ H s->RelV x v->RelV y u->t x y H Q ->
  wpAny (model X.prog X.w) X.A (inplaceOp op v u) (EP X pins σ Q) X.xe s
section
variable {X:Cx}{pos:Pos}
def a4n (i:Nat):TG:=λv σ H Q=>Q (σ.set i (some v)) H
theorem c6p {i:Nat}{x:Str}(hN:X.N.Nodup)(hi:X.N[i]?=some x)(hx:Loc X.env.scope x)(hf:X.fn x=true ∨ X.env.scope.names.lookup x=some .local:=by first|exact .inl rfl|exact .inr rfl|assumption):PG X (.Name x pos) (a4n i):=by
 intro pins s σ H v u Q I r h
 exact wpAny_assign_Name (a7v I hN hi hx r (λs' I'=>⟨_,H,I',h⟩) hf)
def d8x:TGs:=λvs σ H Q=>vs=[]/\Q σ H
def c3n (t:TG)(u:TGs):TGs:=λvs σ H Q=>∃ v r,vs=v :: r/\t v σ H λσ' H'=>u r σ' H' Q
theorem c6o:PGs X [] d8x:=by
 intro pins s σ H vs us Q I r h
 obtain⟨e,h⟩:=h
 subst e
 cases r
 exact assignInOrder_nil ⟨σ,H,I,h⟩
theorem c2j {e:Expr}{es:List Expr}{t:TG}{u:TGs}(h1:PG X e t)(h2:PGs X es u)
  (hs:(assignEach (e :: es) X.env).map (·.2)=assign e X.env :: (assignEach es X.env).map (·.2):=by rfl):PGs X (e :: es) (c3n t u):=by
 intro pins s σ H vs us Q I r h
 obtain⟨v,vr,e1,h⟩:=h
 subst e1
 cases r with
 | cons r rr =>
  rw[hs]
  refine assignInOrder_cons (thn (h1 pins s σ H _ _ _ I r h) λ_ s1 ⟨σ1,H1,I1,q1⟩=>?_)
  exact h2 pins s1 σ1 H1 _ _ Q I1 rr q1
def d4t (K:Γd) (n:Nat)(t:TGs):TG:=λv σ H Q=>∃ a xs,v=.ref a/\SqT K H a xs/\xs.length=n/\t xs σ H Q
theorem d0w {es:List Expr}{k:Nat}{t:TGs}{n:Nat}(hc:X.calm=true)(h:PGs X es t)
  (hn:(assignEach es X.env).length=n:=by rfl)(hst:(assignEach es X.env).findIdx? (·.1)=none:=by rfl):PG X (.Tuple es k pos) (d4t X.K n t):=by
 intro pins s σ H v u Q I r hw
 obtain⟨a,xs,e1,hq,hl,hw⟩:=hw
 subst e1
 cases r
 obtain⟨its,rv,ht,hz⟩:=I.tuple hq
 refine assign_Tuple_tuple (I.ok.hd hc) ht (by simp[hn,<- hl,rv.length]) hst λh' hx=>?_
 have I1:Inv X pins σ H { s with heap:=h' }:=I.kept (t':=s.toks) λb o e=>hx b o (Γo (Γl e)) e
 exact h pins _ σ H xs _ Q I1 (by simpa using rv) hw
def gSub (to ti:TE)(t:e3f):TG:=λv σ H Q=>to σ H λo H1=>ti σ H1 λi H2=>t o i v H2 λH3=>Q σ H3
theorem d0x {o i:Expr}{to ti:TE}{t:e3f}(ho:PE X o to)(hi:PE X i ti)(hs:PSet X t)
  (ha:∀ v,assign (.Subscript o i pos) X.env v=(do
   let ov <- holding [v] (eval o X.env)
   let iv <- holding [v,ov] (eval i X.env)
   standAt pos
   holding [v,ov,iv] (setItem ov iv v)
   release [v,ov,iv] []):=by intro _;rfl):PG X (.Subscript o i pos) (gSub to ti t):=by
 intro pins s σ H v u Q I r h
 rw[ha]
 refine Γa (Γg (thn (ho pins s σ H _ I h) λov s1 ⟨x,H1,I1,r1,q1⟩=>?_))
 refine Γa (Γg (thn (hi pins s1 σ H1 _ I1 q1) λiv s2 ⟨y,H2,I2,r2,q2⟩=>?_))
 refine Γa (wpAny_standAt (Γa (Γg (thn (hs pins s2 σ H2 x y v ov iv u _ I2 r1 r2 r q2) λ_ s3 ⟨H3,I3,q3⟩=>?_))))
 exact wpAny_release ⟨σ,H3,I3,q3⟩
def b6h (te:TE)(g:TG):TS:=λD σ H=>te σ H λx H1=>g x σ H1 D.nx
theorem b7f {tg e:Expr}{te:TE}{g:TG}(he:PE X e te)(hg:PG X tg g)(hs:swapsWithSole [tg] e pos.line X.env=pure false:=by rfl)(hw:swappedStores [tg] e X.env=pure none:=by rfl)
  (h1:(assignEach [tg] X.env).map (·.2)=[assign tg X.env]:=by rfl):PS X (.Assign [tg] e pos) (b6h te g):=by
 intro pins s σ H D I h
 refine wpAny_Assign_stores (thn (he pins s σ H _ I h) λv s1 ⟨x,H1,I1,r1,q1⟩=>?_) hs hw
 rw[h1]
 exact thn (hg pins s1 σ H1 x v _ I1 r1 q1) λ_ s2 q=>q
theorem d0v {i:Nat}{x:Str}{e:Expr}{te:TE}{pos':Pos}(hN:X.N.Nodup)(hi:X.N[i]?=some x)(hx:Loc X.env.scope x)(he:PE X e te)(hs:swapsWith e (some (.Name x pos')) pos.line X.env=pure false:=by rfl)(hf:X.fn x=true ∨ X.env.scope.names.lookup x=some .local:=by first|exact .inl rfl|exact .inr rfl|assumption) :
  PS X (.Assign [.Name x pos'] e pos) (b6h te (a4n i)):=by
 intro pins s σ H D I h
 refine wpAny_Assign_Name (thn (he pins s σ H _ I h) λv s1 ⟨y,H1,I1,r1,q1⟩=>?_) hs
 exact a7v I1 hN hi hx r1 (λs2 I2=>⟨_,H1,I2,q1⟩) hf
def tAug (i:Nat)(te:TE)(ti:TIp):TS:=λD σ H=>∃ x,σ[i]?=some (some x)/\te σ H λy H1=>ti x y H1 λz H2=>D.nx (σ.set i (some z)) H2
theorem c4n {i:Nat}{x:Str}{e:Expr}{te:TE}{op:Operator}{ti:TIp}{pos':Pos}(hN:X.N.Nodup)(hi:X.N[i]?=some x)(hx:Loc X.env.scope x)(he:PE X e te)(ho:PIp X op ti)(hf:X.fn x=true ∨ X.env.scope.names.lookup x=some .local:=by first|exact .inl rfl|exact .inr rfl|assumption) :
  PS X (.AugAssign (.Name x pos') op e pos) (tAug i te ti):=by
 intro pins s σ H D I h
 obtain⟨v,e1,h⟩:=h
 obtain⟨m,hn,hl⟩:=I.loc
 have vis:Vis X.env.scope x:=by rcases hx with k|k;exact .inl k;exact .inr (.inl k)
 obtain⟨u,r,l⟩:=hl i x v hi e1 vis
 refine wpAny_AugAssign_Name ?_
 have go:wpAny (model X.prog X.w) X.A (eval e X.env) (λw s₂=>wpAny (model X.prog X.w) X.A (inplaceOp op u w) (λr s₃=>wpAny (model X.prog X.w) X.A (storeName X.env x r) (λ_=>SP X pins D .next) X.xe s₃) X.xe s₂) X.xe s:=by
  refine thn (he pins s σ H _ I h) λw s1 ⟨y,H1,I1,r1,q1⟩=>?_
  refine thn (ho pins s1 σ H1 v y u w _ I1 r r1 q1) λz s2 ⟨zv,H2,I2,r2,q2⟩=>?_
  exact a7v I2 hN hi hx r2 (λs3 I3=>⟨_,H2,I3,q2⟩) hf
 rcases l with⟨hk,hm⟩|⟨hk,c,hc,hcell⟩
 ·exact wpAny_loadName_local I.ok.kind hk hn hm go
 ·rcases hk with hk|hk
  ·exact wpAny_loadName_cell I.ok.kind hk hc hcell go
  ·rcases hx with k|k
   ·have:X.env.scope.names.lookup x=some .free:=hk
    rw[k] at this;cases this
   ·have:X.env.scope.names.lookup x=some .free:=hk
    rw[k] at this;cases this
def ipI (f:Int->Int->Int):TIp:=λx y H Q=>∃ i j,x=.int i/\y=.int j/\Q (.int (f i j)) H
theorem d2q:PIp X .Add (ipI λi j=>i+j):=by
 intro pins s σ H x y v u Q I r1 r2 h
 obtain⟨i,j,e1,e2,q⟩:=h
 subst e1;subst e2
 obtain⟨t,rfl⟩:=r1
 obtain⟨t',rfl⟩:=r2
 exact iadd_int ⟨.int _,H,I.tok _,⟨_,rfl⟩,q⟩
theorem d2p:PIp X .Sub (ipI λi j=>i-j):=by
 intro pins s σ H x y v u Q I r1 r2 h
 obtain⟨i,j,e1,e2,q⟩:=h
 subst e1;subst e2
 obtain⟨t,rfl⟩:=r1
 obtain⟨t',rfl⟩:=r2
 exact isub_int ⟨.int _,H,I.tok _,⟨_,rfl⟩,q⟩
end
section
variable {X:Cx}{pos:Pos}
def c9u (c:TT)(tb:TS):TS:=λD σ H=>∃ W:Nat->St->Hp->Prop,(∃ m,W m σ H)/\∀ m σ H,W m σ H ->
 c σ H λb H1=>if b=true then ∃ N:St->Hp->Prop,(∀ σ' H',N σ' H'->∃ m',m'<m/\W m' σ' H')/\tb { D with nx:=N,ct:=N,bk:=D.nx } σ H1 else D.nx σ H1
theorem c2f {c:Expr}{body:List Stmt}{tc:TT}{tb:TS}(hp:PassesOwn (model X.prog X.w) X.A X.env X.xe)(hc:PT X c tc)(hb:PSs X body tb):PS X (.While c body [] pos) (c9u tc tb):=by
 intro pins s σ H D I h
 obtain⟨W,⟨m0,w0⟩,turn⟩:=h
 refine wpAny_While (codeAny_whileLoop (λn s'=>∃ σ' H',Inv X pins σ' H' s'/\W n σ' H') ?_ m0 ⟨σ,H,I,w0⟩)
 rintro n s1 ⟨σ1,H1,I1,w1⟩
 refine wpAny_passesOwn hp (thn (hc pins s1 σ1 H1 _ I1 (turn n σ1 H1 w1)) λb s2 ⟨H2,I2,q2⟩=>?_)
 cases b with
 | true =>
  obtain⟨N,hN,q2⟩:=q2
  rw[if_pos rfl]
  refine wpAny_passesOwn hp (thn (hb pins s2 σ1 H2 _ I2 q2) λf s3 q3=>?_)
  cases f with
  | next =>
   obtain⟨σ3,H3,I3,n3⟩:=q3
   obtain⟨m',hm,w3⟩:=hN σ3 H3 n3
   exact⟨m',hm,σ3,H3,I3,w3⟩
  | cont =>
   obtain⟨σ3,H3,I3,n3⟩:=q3
   obtain⟨m',hm,w3⟩:=hN σ3 H3 n3
   exact⟨m',hm,σ3,H3,I3,w3⟩
  | brk=>exact q3
  | ret v=>exact q3
 | false =>
  rw[if_neg Γk]
  exact wpAny_execs_nil ⟨σ1,H2,I2,q2⟩
end
structure It where
 go:Nat->Hp->Prop
 yld:Nat->Hp->V->Hp->Prop
 stop:Nat->Hp->Prop
def b5s (X:Cx)(pins:List (Addr×Obj))(H:Hp)(b:Addr):Prop :=
 H b=none/\b≠X.env.locals/\b ∉ X.fs/\(b∈X.ex ∨ X.s₀.heap.objs.size<=b)/\(∀ x c,X.env.cells.lookup x=some c->c≠b)/\∀ p∈X.pn++pins,p.1≠b
theorem Inv.fpOk {X:Cx}{pins:List (Addr×Obj)}{σ:St}{H H':Hp}{s:Shared}{b:Addr}(I:Inv X pins σ H s)(hb:s.heap.objs.size<=b)(hn:H' b=none):b5s X pins H' b:=by
 refine⟨hn,Nat.ne_of_gt (Nat.lt_of_lt_of_le I.lt hb),I.nofs hb,.inr (Nat.le_trans I.sz hb),λx c e z=>?_,λp hp z=>?_⟩
 ·obtain⟨v,q⟩:=I.cell x c e
  exact absurd (Nat.lt_of_lt_of_le q.lt (by rw[z];exact hb)) (Nat.lt_irrefl _)
 ·exact absurd (Nat.lt_of_lt_of_le (Γl (I.pin p hp).1) (by rw[z];exact hb)) (Nat.lt_irrefl _)
structure Turn (P:Program)(w:World)(K:Γd)(tg:Expr)(J:It)(fp:List Addr)(it:Addr)(tn:Nat->Heap->Prop):Prop where
 mem:it∈fp
 obj:∀ i h,tn i h->∀ b∈fp,∃ o,h.get? b=some o/\∀ v,o.data≠.cell v
 keep:∀ i h h',tn i h->(∀ b∈fp,∀ o,h.get? b=some o->h'.get? b=some o)->tn i h'
 item:∀ (X:Cx),X.prog=P->X.w=w->X.K=K->X.calm=true->∀ (i:Nat)(pins:List (Addr×Obj))(s:Shared)(σ:St)(H:Hp)(E:Value->Shared->Prop),Inv X pins σ H s->(∀ b∈fp,b5s X pins H b)->tn i s.heap->J.go i H ->
  wpAny (model P w) X.A (pyNext (.ref it)) (λr s1=>∃ u,r=some u /\
   wpAny (model P w) X.A (letOwnedTupleGo tg (.ref it) u) (λ_ s2=>∃ x H',Inv X pins σ H' s2/\RelV x u/\J.yld i H x H'/\tn (i+1) s2.heap/\∀ b∈fp,H' b=none) E s1) E s
 done:∀ (X:Cx),X.prog=P->X.w=w->X.K=K->X.calm=true->∀ (i:Nat)(pins:List (Addr×Obj))(s:Shared)(σ:St)(H:Hp)(E:Value->Shared->Prop),Inv X pins σ H s->(∀ b∈fp,b5s X pins H b)->tn i s.heap->J.stop i H ->
  wpAny (model P w) X.A (pyNext (.ref it)) (λr s1=>r=none/\Inv X pins σ H s1) E s
 self:∀ (A:Around) (i:Nat)(s:Shared)(Q:Value->Shared->Prop)(E:Value->Shared->Prop),tn i s.heap->Q (.ref it) s->wpAny (model P w) A (pyIter (.ref it)) Q E s
abbrev TI:=St->Hp->(It->Hp->Prop)->Prop
def PIE (X:Cx)(pins:List (Addr×Obj))(σ:St)(tg:Expr)(R:It->Hp->Prop)(itv:Value)(s2:Shared):Prop :=
 ∃ (it:Addr)(fp:List Addr)(tn:Nat->Heap->Prop)(J:It)(H':Hp),itv=.ref it/\Inv X pins σ H' s2/\Turn X.prog X.w X.K tg J fp it tn/\tn 0 s2.heap/\(∀ b∈fp,b5s X pins H' b)/\R J H'
def PI (X:Cx)(tg iter:Expr)(wi:TI):Prop :=
 ∀ (pins:List (Addr×Obj))(s:Shared)(σ:St)(H:Hp)(R:It->Hp->Prop),Inv X pins σ H s->wi σ H R ->
  wpAny (model X.prog X.w) X.A (eval iter X.env) (λv s1=>wpAny (model X.prog X.w) X.A (pyIter v) (PIE X pins σ tg R) X.xe s1) X.xe s
theorem c3m {M : Model} {A : Around} {E : Value -> Shared -> Prop} {s : Shared} {tg : Expr} {it : Addr} {u : Value} {o : Obj} {n : String} {vs : Array Value} {Q : Unit -> Shared -> Prop} (ho : s.heap.get? it = some o) (hc : o.cls = .type n) (hd : o.data = .fields vs)
    (hn:["enumerate","zip","dict_itemiterator","dict_reverseitemiterator","odict_iterator","itertools.zip_longest","itertools.pairwise"].contains n=false) (hQ:Q () s):wpAny M A (letOwnedTupleGo tg (.ref it) u) Q E s:=by
  unfold letOwnedTupleGo
  cases tg<;>first
    | exact Γb hQ
    | (cases u <;> first
        | exact Γb hQ
        | (refine Γa (wpAny_load ho ?_)
           rw [hc, hd]
           show wpAny M A (if (["enumerate", "zip", "dict_itemiterator", "dict_reverseitemiterator", "odict_iterator", "itertools.zip_longest", "itertools.pairwise"].contains n && vs[0]? == some (rawInt _)) = true then _ else _) Q E s
           rw [if_neg (by intro h; rw [hn, Bool.false_and] at h; cases h)]
           exact Γb hQ))
def Itl (K:Γd)(a:Addr):It :=
 ⟨λi H=>∃ xs x,SqL K H a xs/\xs[i]?=some x,λi H x H'=>H'=H/\∀ xs,SqL K H a xs->xs[i]?=some x,λi H=>∃ xs,SqL K H a xs/\xs.length<=i⟩
def Itt (K:Γd)(a:Addr):It :=
 ⟨λi H=>∃ xs x,SqT K H a xs/\xs[i]?=some x,λi H x H'=>H'=H/\∀ xs,SqT K H a xs->xs[i]?=some x,λi H=>∃ xs,SqT K H a xs/\xs.length<=i⟩
def Itr (lo:Int) (n:Nat):It:=⟨λi _=>i<n,λi H x H'=>H'=H/\x=.int (lo+i),λi _=>n<=i⟩
theorem b5y {P:Program}{w:World}{K:Γd}{tg:Expr}(a it:Addr):Turn P w K tg (Itl K a) [it] it (λi h=>h.IsListIter it a i) where
 mem:=by simp
 obj:=λi h st b hb=>by
  have e:b=it:=by simpa using hb
  subst e
  obtain⟨o,e,c,d⟩:=st
  exact⟨o,e,λv z=>by rw[d] at z;cases z⟩
 keep:=λi h h' st k=>st.at λo e=>k it (by simp) o e
 item:=by
  intro X hP hw hK hc i pins s σ H E I hf st hg
  subst hP hw hK
  obtain⟨xs,x,hq,hx⟩:=hg
  obtain⟨its,rv,p,hz⟩:=I.list hq
  obtain⟨u,hu,ru⟩:=rv.get hx
  obtain⟨f0,f1,f2,f3,f4,f5⟩:=hf it (by simp)
  refine wpAny_pyNext_list_item st p.isList (x:=u) (by simpa using hu) λh' st' sb=>?_
  have I1:Inv X pins σ H { s with heap:=h' }:=I.turned (t':=s.toks) (λb o hb e=>(sb.2 b hb).trans e) f0 f1 f3 f4 f5
  obtain⟨o,e,c,d⟩:=id st'
  exact⟨u,rfl,c3m (s:={ s with heap:=h' }) e c d (by decide) ⟨x,H,I1,ru,⟨rfl,λys hy=>by rw[I.list_inj hy hq];exact hx⟩,st',λb hb=>(hf b hb).1⟩⟩
 done:=by
  intro X hP hw hK hc i pins s σ H E I hf st hg
  subst hP hw hK
  obtain⟨xs,hq,hx⟩:=hg
  obtain⟨its,rv,p,hz⟩:=I.list hq
  obtain⟨f0,f1,f2,f3,f4,f5⟩:=hf it (by simp)
  have hl:=rv.length
  exact wpAny_pyNext_list_end (I.ok.hd hc) st p.isList (by simp;lia) λh' eb=>⟨rfl,I.turned (t':=s.toks) (λb o hb e=>eb b o hb e) f0 f1 f3 f4 f5⟩
 self:=λ_ _ _ _ _ st h=>wpAny_pyIter_listiter st h
theorem b4p {P:Program}{w:World}{K:Γd}{tg:Expr}(a it:Addr):Turn P w K tg (Itt K a) [it] it (λi h=>h.IsTupleIter it a i) where
 mem:=by simp
 obj:=λi h st b hb=>by
  have e:b=it:=by simpa using hb
  subst e
  obtain⟨o,e,c,d⟩:=st
  exact⟨o,e,λv z=>by rw[d] at z;cases z⟩
 keep:=λi h h' st k=>st.at λo e=>k it (by simp) o e
 item:=by
  intro X hP hw hK hc i pins s σ H E I hf st hg
  subst hP hw hK
  obtain⟨xs,x,hq,hx⟩:=hg
  obtain⟨its,rv,p,hz⟩:=I.tuple hq
  obtain⟨u,hu,ru⟩:=rv.get hx
  obtain⟨f0,f1,f2,f3,f4,f5⟩:=hf it (by simp)
  refine wpAny_pyNext_tuple_item st (show s.heap.IsTuple a its.toArray from p) (x:=u) (by simpa using hu) λh' st' sb=>?_
  have I1:Inv X pins σ H { s with heap:=h' }:=I.turned (t':=s.toks) (λb o hb e=>(sb.2 b hb).trans e) f0 f1 f3 f4 f5
  obtain⟨o,e,c,d⟩:=id st'
  exact⟨u,rfl,c3m (s:={ s with heap:=h' }) e c d (by decide) ⟨x,H,I1,ru,⟨rfl,λys hy=>by rw[I.tuple_inj hy hq];exact hx⟩,st',λb hb=>(hf b hb).1⟩⟩
 done:=by
  intro X hP hw hK hc i pins s σ H E I hf st hg
  subst hP hw hK
  obtain⟨xs,hq,hx⟩:=hg
  obtain⟨its,rv,p,hz⟩:=I.tuple hq
  obtain⟨f0,f1,f2,f3,f4,f5⟩:=hf it (by simp)
  have hl:=rv.length
  exact wpAny_pyNext_tuple_end (I.ok.hd hc) st (show s.heap.IsTuple a its.toArray from p) (by simp;lia) λh' eb=>⟨rfl,I.turned (t':=s.toks) (λb o hb e=>eb b o hb e) f0 f1 f3 f4 f5⟩
 self:=λ_ _ _ _ _ st h=>wpAny_pyIter_tupleiter st h
theorem b4q {P:Program}{w:World}{K:Γd}{tg:Expr}(it:Addr) (lo:Int) (n:Nat):Turn P w K tg (Itr lo n) [it] it (λi h=>IsRangeIter h it (lo+(i:Nat)*1) ((n:Int)-(i:Nat)) 1) where
 mem:=by simp
 obj:=λi h st b hb=>by
  have e:b=it:=by simpa using hb
  subst e
  exact⟨_,st,λv z=>by
   have z':Data.fields _=Data.cell v:=z
   cases z'⟩
 keep:=λi h h' st k=>k it (by simp) _ st
 item:=by
  intro X hP hw hK hc i pins s σ H E I hf st hg
  subst hP hw hK
  obtain⟨f0,f1,f2,f3,f4,f5⟩:=hf it (by simp)
  have W:=Walks.range (prog:=X.prog) (w:=X.w) (I.ok.hd hc) it lo 1 n
  refine W.item i s _ _ hg st λv h' tk hv st' kk=>?_
  obtain⟨t,rfl⟩:=hv
  have I1:Inv X pins σ H { s with heap:=h',toks:=tk }:=I.turned (λb o hb e=>kk b o (by simpa using hb) e) f0 f1 f3 f4 f5
  refine⟨_,rfl,c3m (s:={ s with heap:=h',toks:=tk }) (n:="range_iterator") st' rfl rfl (by decide) ⟨.int (lo+i),H,I1,⟨t,?_⟩,⟨rfl,rfl⟩,st',λb hb=>(hf b hb).1⟩⟩
  rw[Int.mul_one]
 done:=by
  intro X hP hw hK hc i pins s σ H E I hf st hg
  subst hP hw hK
  obtain⟨f0,f1,f2,f3,f4,f5⟩:=hf it (by simp)
  exact wpAny_pyNext_range_end (I.ok.hd hc) st (by have:n<=i:=hg;lia) λh' eb=>⟨rfl,I.turned (t':=s.toks) (λb o hb e=>eb b o hb e) f0 f1 f3 f4 f5⟩
 self:=λ_ _ _ _ _ st h=>wpAny_pyIter_rangeiter st h
end L2
namespace L2
open PySem PySem.Spec PyProof.Rows
section
variable {X:Cx}{tg:Expr}
theorem c2b {pins:List (Addr×Obj)}{σ:St}{H:Hp}{s:Shared}{R:It->Hp->Prop}{E:Value->Shared->Prop}{lo hi:Int}{t u v:Tok}{tk:Nat}(I:Inv X pins σ H s)(h1:-(2 ^ 62)<=lo)(h2:lo<2 ^ 62)(h3:-(2 ^ 62)<=hi)(h4:hi<2 ^ 62)
  (q:R (Itr lo (hi-lo).toNat) H):wpAny (model X.prog X.w) X.A (pyIter (.ref s.heap.objs.size)) (PIE X pins σ tg R) E { s with heap:=s.heap.push { cls:=.type "range",data:=.fields #[.int lo t,.int hi u,.int 1 v] },toks:=tk }:=by
 refine wpAny_pyIter_range (IsRange.new ..) (small_one h1 h2 h3 h4) ?_
 have I1:Inv X pins σ H { s with heap:=s.heap.push { cls:=.type "range",data:=.fields #[.int lo t,.int hi u,.int 1 v] },toks:=tk }:=I.kept λb o e=>Γc _ e
 refine⟨(s.heap.push { cls:=.type "range",data:=.fields #[.int lo t,.int hi u,.int 1 v] }).objs.size,[(s.heap.push { cls:=.type "range",data:=.fields #[.int lo t,.int hi u,.int 1 v] }).objs.size],_,_,H,rfl,
  I1.kept (t':=tk) λb o e=>Γc _ e,b4q _ lo (hi-lo).toNat,?_,λb hb=>?_,q⟩
 ·have e1:lo+((0:Nat):Int)*1=lo:=by simp
  have e2:(((hi-lo).toNat:Nat):Int)-((0:Nat):Int)=Builtin.Range.rangeSize lo hi 1:=by rw[rangeSize_one];split<;>lia
  show IsRangeIter _ _ (lo+((0:Nat):Int)*1) ((((hi-lo).toNat:Nat):Int)-((0:Nat):Int)) 1
  rw[e1,e2]
  exact Γm _ rfl
 ·have e:b=(s.heap.push { cls:=.type "range",data:=.fields #[.int lo t,.int hi u,.int 1 v] }).objs.size:=by simpa using hb
  subst e
  exact I1.fpOk (Γi _) (I1.hok.fresh (Γi _))
def d8w (ta:TA):TI:=λσ H R=>ta σ H λvs H1=>∃ j:Int,vs=[.int j]/\-(2 ^ 62)<=j/\j<2 ^ 62/\R (Itr 0 j.toNat) H1
theorem b7k {a:Expr}{ta:TA}{p pos:Pos}(hg:Gl X "range")(hm:X.mg "range" = none)(ha:PA X [a] ta)(hs:starEach [a] X.env=[(false,eval a X.env)]:=by rfl):PI X tg (.Call (.Name "range" p) [a] [] pos) (d8w ta):=by
 intro pins s σ H R I h
 refine Call_ (a7l I hg hm boot_range (PyProof.Rows.callWith_type1 (thn (ha pos pins s σ H _ I h) λus s1 ⟨vs,H1,I1,r1,q1⟩=>?_) hs rfl))
 obtain⟨j,e,q1,q2,q⟩:=q1
 subst e
 cases r1 with
 | cons r rr =>
  cases rr
  obtain⟨t,rfl⟩:=r
  exact call_range_1 (c2b I1 (by lia) (by lia) q1 q2 (by simpa using q))
def tFor (wi:TI)(g:TG)(tb:TS):TS:=λD σ H=>wi σ H λJ H1=>∃ W:Nat->Nat->St->Hp->Prop,(∃ m,W 0 m σ H1)/\∀ i m σ H,W i m σ H ->
 (J.stop i H/\D.nx σ H) ∨ (J.go i H/\∃ N:St->Hp->Prop,(∀ σ' H',N σ' H'->∃ m',m'<m/\W (i+1) m' σ' H')/\∀ x H',J.yld i H x H'->g x σ H' λσ2 H2=>tb { D with nx:=N,ct:=N,bk:=D.nx } σ2 H2)
def b0b (fp:List Addr)(h:Heap):List (Addr×Obj):=fp.filterMap λb=>(h.get? b).map λo=>(b,o)
theorem a3x {fp:List Addr}{h:Heap}{b:Addr}{o:Obj}(hb:b∈fp)(e:h.get? b=some o):(b,o)∈b0b fp h:=List.mem_filterMap.mpr ⟨b,hb,by rw[e];rfl⟩
theorem b7u {fp:List Addr}{h:Heap}{p:Addr×Obj}(hp:p∈b0b fp h):p.1∈fp/\h.get? p.1=some p.2:=by
 obtain⟨b,hb,e⟩:=List.mem_filterMap.mp hp
 cases q:h.get? b with
 | none=>rw[q] at e;cases e
 | some o =>
  rw[q] at e
  have e':(b,o)=p:=Option.some.inj e
  subst e'
  exact⟨hb,q⟩
theorem Inv.pinned {pins:List (Addr×Obj)}{σ:St}{H:Hp}{s:Shared}{fp:List Addr}(I:Inv X pins σ H s)(hf:∀ b∈fp,b5s X pins H b)(ho:∀ b∈fp,∃ o,s.heap.get? b=some o/\∀ v,o.data≠.cell v):Inv X (pins++b0b fp s.heap) σ H s :=
 I.pins_of λp hp=>(List.mem_append.mp hp).elim (λz=>I.pin p (List.mem_append_right _ z)) λz=>by
  obtain⟨hb,e⟩:=b7u z
  obtain⟨f0,f1,f2,_⟩:=hf p.1 hb
  obtain⟨o,e',d⟩:=ho p.1 hb
  rw[e] at e';cases e'
  exact⟨e,f0,f1,f2,d⟩
theorem Inv.unpinned {pins pl:List (Addr×Obj)}{σ:St}{H:Hp}{s:Shared}(I:Inv X (pins++pl) σ H s):Inv X pins σ H s:=I.pins_of λp hp=>I.pin p (List.mem_append_right _ (List.mem_append_left _ hp))
theorem c4m {iter:Expr}{body:List Stmt}{wi:TI}{g:TG}{tb:TS}{pos:Pos}(hp:PassesOwn (model X.prog X.w) X.A X.env X.xe)(hc:X.calm=true)(hi:PI X tg iter wi)(hg:PG X tg g)(hb:PSs X body tb)
  (hs:∀ x,foldedSetIterable iter X.env x=pure x:=by intro _;rfl):PS X (.For tg iter body [] pos) (tFor wi g tb):=by
 intro pins s σ H D I h
 refine wpAny_For (thn (hi pins s σ H _ I h) λv s1 h1=>thn h1 λitv s2 h2=>?_) hs
 obtain⟨it,fp,tn,J,H2,e,I2,T,st2,f2,W,⟨m0,w0⟩,turn⟩:=h2
 subst e
 -- what stays true of the iterator's objects through the loop
 have stat:∀ {H':Hp},(∀ b∈fp,H' b=none)->∀ b∈fp,b5s X pins H' b:=λhn b hb=>⟨hn b hb,(f2 b hb).2⟩
 refine codeAny_forLoop_any (λn s'=>∃ i σ' H',Inv X pins σ' H' s'/\tn i s'.heap/\(∀ b∈fp,H' b=none)/\W i n σ' H') ?_ m0 ⟨0,σ,H2,I2,st2,λb hb=>(f2 b hb).1,w0⟩
 rintro n s3 ⟨i,σ3,H3,I3,st3,fr3,w3⟩
 rcases turn i n σ3 H3 w3 with⟨stop,qn⟩|⟨go,N,hN,step⟩
 ·refine wpAny_passesOwn hp (thn (T.done X rfl rfl rfl hc i pins s3 σ3 H3 X.xe I3 (stat fr3) st3 stop) λr s4 ⟨hr,I4⟩=>?_)
  subst hr
  exact wpAny_execs_nil ⟨σ3,H3,I4,qn⟩
 ·refine wpAny_passesOwn hp (thn (T.item X rfl rfl rfl hc i pins s3 σ3 H3 X.xe I3 (stat fr3) st3 go) λr s4 ⟨u,hr,h4⟩=>?_)
  subst hr
  refine wpAny_passesOwn hp (thn h4 λ_ s5 ⟨x,H5,I5,r5,y5,st5,fr5⟩=>?_)
  have I5':=I5.pinned (stat fr5) (T.obj _ _ st5)
  refine wpAny_passesOwn hp (thn (hg _ s5 σ3 H5 x u _ I5' r5 (step x H5 y5)) λ_ s6 ⟨σ6,H6,I6,q6⟩=>?_)
  refine wpAny_passesOwn hp (thn (hb _ s6 σ6 H6 _ I6 q6) λf s7 q7=>?_)
  have again:∀ {σ7:St}{H7:Hp},Inv X (pins++b0b fp s5.heap) σ7 H7 s7->N σ7 H7->∃ m,m<n/\∃ i σ' H',Inv X pins σ' H' s7/\tn i s7.heap/\(∀ b∈fp,H' b=none)/\W i m σ' H':=λ{σ7 H7} I7 n7=>by
   obtain⟨m',hm,w7⟩:=hN σ7 H7 n7
   refine⟨m',hm,i+1,σ7,H7,I7.unpinned,T.keep _ _ _ st5 λb hb o e=>(I7.pin (b,o) (List.mem_append_right _ (List.mem_append_right _ (a3x hb e)))).1,λb hb=>?_,w7⟩
   obtain⟨o,e,d⟩:=T.obj _ _ st5 b hb
   exact (I7.pin (b,o) (List.mem_append_right _ (List.mem_append_right _ (a3x hb e)))).2.1
  cases f with
  | next=>obtain⟨σ7,H7,I7,n7⟩:=q7;exact again I7 n7
  | cont=>obtain⟨σ7,H7,I7,n7⟩:=q7;exact again I7 n7
  | brk=>obtain⟨σ7,H7,I7,q7⟩:=q7;exact⟨σ7,H7,I7.unpinned,q7⟩
  | ret v=>obtain⟨x7,σ7,H7,I7,r7,q7⟩:=q7;exact⟨x7,σ7,H7,I7.unpinned,r7,q7⟩
end
end L2
namespace L2
open PySem PySem.Spec PyProof.Rows
abbrev R2:=V->V->Hp->VK->Prop
def OpR (X:Cx)(f:Value->Value->Sem Value)(r:R2):Prop :=
 ∀ (pins:List (Addr×Obj))(s:Shared)(σ:St)(H:Hp)(x y:V)(v u:Value)(Q:VK),Inv X pins σ H s->RelV x v->RelV y u->r x y H Q ->
  wpAny (model X.prog X.w) X.A (f v u) (EP X pins σ Q) X.xe s
def a1j (X:Cx)(f:Value)(r:List V->Hp->VK->Prop):Prop :=
 ∀ (pins:List (Addr×Obj))(s:Shared)(σ:St)(H:Hp)(xs:List V)(us:List Value)(Q:VK),Inv X pins σ H s->Vals xs us->r xs H Q ->
  wpAny (model X.prog X.w) X.A (call f us) (EP X pins σ Q) X.xe s
def TruR (X:Cx)(r:V->Hp->(Bool->Hp->Prop)->Prop):Prop :=
 ∀ (pins:List (Addr×Obj))(s:Shared)(σ:St)(H:Hp)(x:V)(v:Value)(Q:Bool->Hp->Prop),Inv X pins σ H s->RelV x v->r x H Q ->
  wpAny (model X.prog X.w) X.A (truthy v) (TP X pins σ Q) X.xe s
def tOp (r:R2)(ta tb:TE):TE:=λσ H Q=>ta σ H λx H1=>tb σ H1 λy H2=>r x y H2 Q
def rI (C:Int->Int->Prop)(g:Int->Int->V):R2:=λx y H Q=>∃ i j,x=.int i/\y=.int j/\C i j/\Q (g i j) H
def rI0 (g:Int->Int->V):R2:=λx y H Q=>∃ i j,x=.int i/\y=.int j/\Q (g i j) H
section
variable {X:Cx}{a b c:Expr}{ta tb tc:TE}{pos:Pos}
theorem e2e (ha:PE X a ta)(hb:PE X b tb){pins:List (Addr×Obj)}{s:Shared}{σ:St}{H:Hp}{R:V->V->Hp->Prop}(I:Inv X pins σ H s)
  (h:ta σ H λx H1=>tb σ H1 λy H2=>R x y H2){Q:Value->Shared->Prop}{f:Value->Value->Sem Value}
  (hf:∀ v u s2 x y H2,Inv X pins σ H2 s2->RelV x v->RelV y u->R x y H2->wpAny (model X.prog X.w) X.A (f v u) Q X.xe s2) :
  wpAny (model X.prog X.w) X.A (eval a X.env) (λv s₁=>wpAny (model X.prog X.w) X.A (eval b X.env) (λu s₂=>wpAny (model X.prog X.w) X.A (f v u) Q X.xe s₂) X.xe s₁) X.xe s:=by
 refine thn (ha pins s σ H _ I h) λv s1 ⟨x,H1,I1,r1,q1⟩=>?_
 refine thn (hb pins s1 σ H1 _ I1 q1) λu s2 ⟨y,H2,I2,r2,q2⟩=>?_
 exact hf v u s2 x y H2 I2 r1 r2 q2
theorem d7v {op:Operator}{r:R2}(ho:OpR X (binaryOp op) r)(ha:PE X a ta)(hb:PE X b tb):PE X (.BinOp a op b pos) (tOp r ta tb):=by
 intro pins s σ H Q I h
 exact wpAny_BinOp (e2e ha hb I h λv u s2 x y H2 I2 rx ry q=>ho pins s2 σ H2 x y v u Q I2 rx ry q)
theorem opI {f:Value->Value->Sem Value}{C:Int->Int->Prop}{g:Int->Int->Int}
  (rule:∀ (i j:Int)(t u:Tok)(s:Shared)(Q:Value->Shared->Prop)(E:Value->Shared->Prop),C i j->Q (.int (g i j) s.toks) { s with toks:=s.toks+1 }->wpAny (model X.prog X.w) X.A (f (.int i t) (.int j u)) Q E s) :
  OpR X f (rI C λi j=>.int (g i j)):=by
 intro pins s σ H x y v u Q I rx ry h
 obtain⟨i,j,rfl,rfl,hc,q⟩:=h
 obtain⟨t,rfl⟩:=rx
 obtain⟨t',rfl⟩:=ry
 exact rule i j t t' s _ _ hc ⟨.int (g i j),H,I.tok _,⟨_,rfl⟩,q⟩
theorem opI0 {f:Value->Value->Sem Value}{g:Int->Int->Int}
  (rule:∀ (i j:Int)(t u:Tok)(s:Shared)(Q:Value->Shared->Prop)(E:Value->Shared->Prop),Q (.int (g i j) s.toks) { s with toks:=s.toks+1 }->wpAny (model X.prog X.w) X.A (f (.int i t) (.int j u)) Q E s) :
  OpR X f (rI0 λi j=>.int (g i j)):=by
 intro pins s σ H x y v u Q I rx ry h
 obtain⟨i,j,rfl,rfl,q⟩:=h
 obtain⟨t,rfl⟩:=rx
 obtain⟨t',rfl⟩:=ry
 exact rule i j t t' s _ _ ⟨.int (g i j),H,I.tok _,⟨_,rfl⟩,q⟩
theorem d4l {f:Value->Value->Sem Value}{g:Int->Int->Bool}
  (rule:∀ (i j:Int)(t u:Tok)(s:Shared)(Q:Value->Shared->Prop)(E:Value->Shared->Prop),Q (.bool (g i j)) s->wpAny (model X.prog X.w) X.A (f (.int i t) (.int j u)) Q E s) :
  OpR X f (rI0 λi j=>.bl (g i j)):=by
 intro pins s σ H x y v u Q I rx ry h
 obtain⟨i,j,rfl,rfl,q⟩:=h
 obtain⟨t,rfl⟩:=rx
 obtain⟨t',rfl⟩:=ry
 exact rule i j t t' s _ _ ⟨.bl (g i j),H,I,rfl,q⟩
def CDiv (i j:Int):Prop:=0<j/\j<1073741824
def CPow (i j:Int):Prop:=0<=j/\j<=1000000/\i.natAbs<2 ^ 64
def CMul (i j:Int):Prop:=(-(2 ^ 64)<i/\i<2 ^ 64) ∨ (-(2 ^ 64)<j/\j<2 ^ 64)
theorem CMul.ok {i j:Int}(h:CMul i j):IntMulOk i j:=by
 rcases h with⟨h1,h2⟩|⟨h1,h2⟩
 ·exact .of_left (intBits_le_64 h1 h2)
 ·exact .of_right (intBits_le_64 h1 h2)
theorem d1o:OpR X (binaryOp .Add) (rI0 λi j=>.int (i+j)):=opI0 λ_ _ _ _ _ _ _ q=>add_int q
theorem d1i:OpR X (binaryOp .Sub) (rI0 λi j=>.int (i-j)):=opI0 λ_ _ _ _ _ _ _ q=>sub_int q
theorem d1l:OpR X (binaryOp .Mult) (rI CMul λi j=>.int (i*j)):=opI λ_ _ _ _ _ _ _ hc q=>mul_int q hc.ok
theorem c7b:OpR X (binaryOp .FloorDiv) (rI CDiv λi j=>.int (i / j)):=opI λi j _ _ _ _ _ hc q=>by
 have h1:(0:Int)<j:=hc.1
 have h2:j<1073741824:=hc.2
 exact floordiv_int (by lia) (by rw[Int.fdiv_eq_ediv_of_nonneg i (by lia)];exact q) (.inl (PyProof.noPylong_small (by lia)))
theorem d1m:OpR X (binaryOp .Mod) (rI (λ_ j=>0<j) λi j=>.int (i % j)):=opI λi j _ _ _ _ _ hc q=>by
 have h1:(0:Int)<j:=hc
 exact mod_int' (by lia) (by rw[Int.fmod_eq_emod_of_nonneg i (by lia)];exact q)
theorem d1k:OpR X (binaryOp .Pow) (rI CPow λi j=>.int (i ^ j.toNat)):=opI λ_ _ _ _ _ _ _ hc q=>pow_int_small hc.1 hc.2.1 hc.2.2 q
end
def scal:V->V->Bool
 | .non,.non=>true|.non,.int _=>true|.int _,.non=>true|.non,.bl _=>true|.bl _,.non=>true|.non,.str _=>true|.str _,.non=>true
 | .int _,.int _=>true|.bl _,.bl _=>true|.str _,.str _=>true|.byt _,.byt _=>true
 | .int _,.str _=>true|.str _,.int _=>true|.bl _,.str _=>true|.str _,.bl _=>true
 | _,_=>false
def rEq:R2:=λx y H Q=>scal x y=true/\Q (.bl (decide (x=y))) H
def rNe:R2:=λx y H Q=>scal x y=true/\Q (.bl (!decide (x=y))) H
theorem b9w {i j:Int}:decide (V.int i=V.int j)=(i == j):=by
 rw[Bool.eq_iff_iff]
 simp
theorem c5b {i j:Bool}:decide (V.bl i=V.bl j)=(i == j):=by
 rw[Bool.eq_iff_iff]
 simp
theorem b9v {i j:Str}:decide (V.str i=V.str j)=(i == j):=by
 rw[Bool.eq_iff_iff]
 simp
theorem b9x {i j:Array UInt8}:decide (V.byt i=V.byt j)=(i.toList == j.toList):=by
 rw[Bool.eq_iff_iff]
 cases i
 cases j
 simp
section
variable {X:Cx}{a b c:Expr}{ta tb tc:TE}{pos:Pos}
theorem a0t {pins:List (Addr×Obj)}{σ:St}{H:Hp}{s:Shared}{Q:VK}{k k':Bool}(I:Inv X pins σ H s)(q:Q (.bl k) H)(e:k=k'):EP X pins σ Q (.bool k') s:=by
 subst e
 exact⟨.bl k,H,I,rfl,q⟩
theorem d8i:OpR X (compareOp .Eq) rEq:=by
 intro pins s σ H x y v u Q I rx ry h
 obtain⟨hs,q⟩:=h
 cases x with
 | non =>
  cases rx
  cases y with
  | non=>cases ry;exact PySem.EqNone.eq_none_none (a0t I q (by simp))
  | bl j=>cases ry;exact PySem.EqNone.eq_none_bool (a0t I q (by simp))
  | int j=>obtain⟨t',rfl⟩:=ry;exact PySem.EqNone.eq_none_int (a0t I q (by simp))
  | str j=>obtain⟨t',rfl⟩:=ry;exact PySem.EqNone.eq_none_str (a0t I q (by simp))
  | _=>exact absurd (show false=true from hs) Γk
 | bl i =>
  cases rx
  cases y with
  | non=>cases ry;exact PySem.EqNone.eq_bool_none (a0t I q (by simp))
  | bl j=>cases ry;exact eq_bool (a0t I q c5b)
  | str j=>obtain⟨t',rfl⟩:=ry;exact PySem.EqMixed.eq_bool_str (a0t I q (by simp))
  | _=>exact absurd (show false=true from hs) Γk
 | int i =>
  obtain⟨t,rfl⟩:=rx
  cases y with
  | non=>cases ry;exact PySem.EqNone.eq_int_none (a0t I q (by simp))
  | int j=>obtain⟨t',rfl⟩:=ry;exact eq_int (a0t I q b9w)
  | str j=>obtain⟨t',rfl⟩:=ry;exact PySem.EqMixed.eq_int_str (a0t I q (by simp))
  | _=>exact absurd (show false=true from hs) Γk
 | str i =>
  obtain⟨t,rfl⟩:=rx
  cases y with
  | non=>cases ry;exact PySem.EqNone.eq_str_none (a0t I q (by simp))
  | bl j=>cases ry;exact PySem.EqMixed.eq_str_bool (a0t I q (by simp))
  | int j=>obtain⟨t',rfl⟩:=ry;exact PySem.EqMixed.eq_str_int (a0t I q (by simp))
  | str j=>obtain⟨t',rfl⟩:=ry;exact eq_str (a0t I q b9v)
  | _=>exact absurd (show false=true from hs) Γk
 | byt i =>
  obtain⟨t,rfl⟩:=rx
  cases y with
  | byt j=>obtain⟨t',rfl⟩:=ry;exact PySem.W.eq_bytes (a0t I q b9x)
  | _=>exact absurd (show false=true from hs) Γk
 | _=>cases y<;>exact absurd (show false=true from hs) Γk
theorem d8d:OpR X (compareOp .NotEq) rNe:=by
 intro pins s σ H x y v u Q I rx ry h
 obtain⟨hs,q⟩:=h
 cases x with
 | non =>
  cases rx
  cases y with
  | non=>cases ry;exact PySem.EqNone.ne_none_none (a0t I q (by simp))
  | bl j=>cases ry;exact PySem.EqNone.ne_none_bool (a0t I q (by simp))
  | int j=>obtain⟨t',rfl⟩:=ry;exact PySem.EqNone.ne_none_int (a0t I q (by simp))
  | str j=>obtain⟨t',rfl⟩:=ry;exact PySem.EqNone.ne_none_str (a0t I q (by simp))
  | _=>exact absurd (show false=true from hs) Γk
 | bl i =>
  cases rx
  cases y with
  | non=>cases ry;exact PySem.EqNone.ne_bool_none (a0t I q (by simp))
  | bl j=>cases ry;exact ne_bool (a0t I q (congrArg not c5b))
  | str j=>obtain⟨t',rfl⟩:=ry;exact PySem.EqMixed.ne_bool_str (a0t I q (by simp))
  | _=>exact absurd (show false=true from hs) Γk
 | int i =>
  obtain⟨t,rfl⟩:=rx
  cases y with
  | non=>cases ry;exact PySem.EqNone.ne_int_none (a0t I q (by simp))
  | int j=>obtain⟨t',rfl⟩:=ry;exact ne_int (a0t I q (congrArg not b9w))
  | str j=>obtain⟨t',rfl⟩:=ry;exact PySem.EqMixed.ne_int_str (a0t I q (by simp))
  | _=>exact absurd (show false=true from hs) Γk
 | str i =>
  obtain⟨t,rfl⟩:=rx
  cases y with
  | non=>cases ry;exact PySem.EqNone.ne_str_none (a0t I q (by simp))
  | bl j=>cases ry;exact PySem.EqMixed.ne_str_bool (a0t I q (by simp))
  | int j=>obtain⟨t',rfl⟩:=ry;exact PySem.EqMixed.ne_str_int (a0t I q (by simp))
  | str j=>obtain⟨t',rfl⟩:=ry;exact ne_str (a0t I q (congrArg not b9v))
  | _=>exact absurd (show false=true from hs) Γk
 | byt i =>
  obtain⟨t,rfl⟩:=rx
  cases y with
  | byt j=>obtain⟨t',rfl⟩:=ry;exact PySem.W.ne_bytes (a0t I q (congrArg not b9x))
  | _=>exact absurd (show false=true from hs) Γk
 | _=>cases y<;>exact absurd (show false=true from hs) Γk
theorem d8e:OpR X (compareOp .Lt) (rI0 λi j=>.bl (decide (i<j))):=d4l λ_ _ _ _ _ _ _ q=>lt_int q
theorem d8f:OpR X (compareOp .LtE) (rI0 λi j=>.bl (decide (i<=j))):=d4l λ_ _ _ _ _ _ _ q=>le_int q
theorem d8g:OpR X (compareOp .Gt) (rI0 λi j=>.bl (decide (j<i))):=d4l λ_ _ _ _ _ _ _ q=>gt_int q
theorem d8h:OpR X (compareOp .GtE) (rI0 λi j=>.bl (decide (j<=i))):=d4l λ_ _ _ _ _ _ _ q=>ge_int q
theorem c6r {op:CmpOp}{r:R2}(ho:OpR X (compareOp op) r)(ha:PE X a ta)(hb:PE X b tb)(hm:behindInMarks op b=false):PE X (.Compare a [op] [b] pos) (tOp r ta tb):=by
 intro pins s σ H Q I h
 exact wpAny_Compare1 (e2e ha hb I h λv u s2 x y H2 I2 rx ry q=>ho pins s2 σ H2 x y v u Q I2 rx ry q) hm
def d5y (t:TE):TT:=λσ H Q=>t σ H λx H'=>∃ k,x=.bl k/\Q k H'
theorem c6g {op:CmpOp}{r:R2}(ho:OpR X (compareOp op) r)(ha:PE X a ta)(hb:PE X b tb)(hm:behindInMarks op b=false):PT X (.Compare a [op] [b] pos) (d5y (tOp r ta tb)):=by
 intro pins s σ H Q I h
 refine wpAny_isTrue_Compare1 (thn (ha pins s σ H _ I h) λv s1 ⟨x,H1,I1,r1,q1⟩=>thn (hb pins s1 σ H1 _ I1 q1) λu s2 ⟨y,H2,I2,r2,q2⟩ =>
  thn (ho pins s2 σ H2 x y v u _ I2 r1 r2 q2) λc s3 ⟨z,H3,I3,r3,k,e,q3⟩=>?_) hm
 subst e
 cases r3
 exact wpAny_truthy_bool ⟨H3,I3,q3⟩
def c4l (r r':R2)(ta tb tc:TE):TE:=λσ H Q=>ta σ H λx H1=>tb σ H1 λy H2=>r x y H2 λz H3=>∃ k,z=.bl k /\
 (if k=true then tc σ H3 λw' H4=>r' y w' H4 Q else Q (.bl false) H3)
theorem c2o {op op':CmpOp}{r r':R2}(ho:OpR X (compareOp op) r)(ho':OpR X (compareOp op') r')(ha:PE X a ta)(hb:PE X b tb)(hc:PE X c tc)
  (hm:lastMarks [op,op'] [b,c]=false:=by with_unfolding_all rfl):PE X (.Compare a [op,op'] [b,c] pos) (c4l r r' ta tb tc):=by
 intro pins s σ H Q I h
 refine Compare_chain (thn (ha pins s σ H _ I h) λv s1 ⟨x,H1,I1,r1,q1⟩=>chain_link (thn (hb pins s1 σ H1 _ I1 q1) λu s2 ⟨y,H2,I2,r2,q2⟩ =>
  thn (ho pins s2 σ H2 x y v u _ I2 r1 r2 q2) λd s3 ⟨z,H3,I3,r3,k,e,q3⟩=>?_)) hm
 subst e
 cases r3
 refine wpAny_truthy_bool ?_
 cases k with
 | false=>exact ite_ff ⟨.bl false,H3,I3,rfl,q3⟩
 | true=>exact ite_tt (chain_last (thn (hc pins s3 σ H3 _ I3 q3) λw' s4 ⟨z',H4,I4,r4,q4⟩=>ho' pins s4 σ H4 y z' u w' Q I4 r2 r4 q4))
def d5u (K:Γd)(x:V)(H:Hp)(k:Bool):Prop :=
 match x with
 | .non=>k=false
 | .bl b=>k=b
 | .int i=>k=(i != 0)
 | .str y=>y.length<=sizeLine/\k=((y.length:Int) != 0)
 | .byt y=>y.size<=sizeLine/\k=((y.size:Int) != 0)
 | .ref p=>(∃ xs,SqL K H p xs/\k = !xs.isEmpty) ∨ (∃ xs,SqT K H p xs/\k = !xs.isEmpty) ∨ ∃ kvs,H p=some (.dK kvs)/\k = !kvs.isEmpty
 | _=>False
theorem b5d {κ:Type}{kvs:List (κ×V)}{vs:List (κ×Value)}(r:KV kvs vs):(!vs.isEmpty) = !kvs.isEmpty:=by
 cases r<;>rfl
theorem a7n {xs:List V}{its:List Value}(r:Vals xs its):(!its.toArray.isEmpty) = !xs.isEmpty:=by
 cases r<;>simp
theorem b0k:(sizeLine:Nat)<2 ^ 63:=by rw[sizeLine_eq];decide
theorem c4i:TruR X (λx H Q=>∃ k,d5u X.K x H k/\Q k H):=by
 intro pins s σ H x v Q I rx h
 obtain⟨k,e,q⟩:=h
 have hl:=b0k
 have hs:sizeLine=16777216:=sizeLine_eq
 cases x with
 | non =>
  cases rx
  have e':k=false:=e
  subst e'
  exact truthy_none ⟨H,I,q⟩
 | bl b =>
  cases rx
  have e':k=b:=e
  subst e'
  exact wpAny_truthy_bool ⟨H,I,q⟩
 | int i =>
  obtain⟨t,rfl⟩:=rx
  have e':k=(i != 0):=e
  subst e'
  exact PySem.P.truthy_int ⟨H,I,q⟩
 | str y =>
  obtain⟨t,rfl⟩:=rx
  obtain⟨hy,e'⟩:y.length<=sizeLine/\k=((y.length:Int) != 0):=e
  subst e'
  exact PySem.P.truthy_str (by lia) ⟨H,I.tok _,q⟩
 | byt y =>
  obtain⟨t,rfl⟩:=rx
  obtain⟨hy,e'⟩:y.size<=sizeLine/\k=((y.size:Int) != 0):=e
  subst e'
  exact PySem.W.truthy_bytes (by lia) ⟨H,I.tok _,q⟩
 | ref p =>
  cases rx
  have e':(∃ xs,SqL X.K H p xs/\k = !xs.isEmpty) ∨ (∃ xs,SqT X.K H p xs/\k = !xs.isEmpty) ∨ ∃ kvs,H p=some (.dK kvs)/\k = !kvs.isEmpty:=e
  rcases e' with⟨xs,hx,e'⟩|⟨xs,hx,e'⟩|⟨kvs,hx,e'⟩
  ·subst e'
   obtain⟨its,r,pl,hz⟩:=I.list hx
   have hlen:=r.length
   exact wpAny_truthy_list pl.isList (by simp only[List.size_toArray];lia) ⟨H,I.tok _,by rw[a7n r];exact q⟩
  ·subst e'
   obtain⟨its,r,pl,hz⟩:=I.tuple hx
   have hlen:=r.length
   exact truthy_tuple pl (by simp only[List.size_toArray];lia) ⟨H,I.tok _,by rw[a7n r];exact q⟩
  ·subst e'
   obtain⟨hz,hS,vs,r,m⟩:kvs.length<=sizeLine/\(p == sysModules)=false/\∃ vs,KV kvs vs/\s.heap.DictOf (a0v X.prog X.w) p vs:=I.hok p _ hx
   have hlen:kvs.length=vs.length:=Paired.length r
   exact wpAny_truthy_dict hS m (by lia) ⟨H,I.tok _,by rw[b5d r];exact q⟩
 | _=>exact (show False from e).elim
theorem c2e (ha:PE X a ta)(he:∀ whole,isTrue a X.env whole=(do let v <- whole;standAt a.pos;holding [v] (truthy v))) :
  PT X a (λσ H Q=>ta σ H λx H'=>∃ k,d5u X.K x H' k/\Q k H'):=by
 intro pins s σ H Q I h
 exact isTrue_plain (thn (ha pins s σ H _ I h) λv s1 ⟨x,H1,I1,r1,q1⟩=>c4i pins s1 σ H1 x v Q I1 r1 q1) (he _)
theorem a3l {x:V}{us:List Value}(r:Vals [x] us):∃ u,us=[u]/\RelV x u:=by
 cases r with
 | cons r1 r2=>cases r2;exact⟨_,rfl,r1⟩
theorem c1g {x y:V}{us:List Value}(r:Vals [x,y] us):∃ u w',us=[u,w']/\RelV x u/\RelV y w':=by
 cases r with
 | cons r1 r2 =>
  cases r2 with
  | cons r3 r4=>cases r4;exact⟨_,_,rfl,r1,r3⟩
theorem c4d:a1j X (.builtin "abs") (λxs H Q=>∃ i,xs=[.int i]/\Q (.int (if i<0 then -i else i)) H):=by
 intro pins s σ H xs us Q I r h
 obtain⟨i,rfl,q⟩:=h
 obtain⟨u,rfl,t,rfl⟩:=a3l r
 exact call_abs_int λu tk=>⟨.int (if i<0 then -i else i),H,I.tok _,⟨_,rfl⟩,q⟩
theorem c0q (hc:X.calm=true):a1j X (.builtin "max") (λxs H Q=>∃ i j,xs=[.int i,.int j]/\Q (.int (if j > i then j else i)) H):=by
 intro pins s σ H xs us Q I r h
 obtain⟨i,j,rfl,q⟩:=h
 obtain⟨u,w',rfl,⟨t,rfl⟩,⟨t',rfl⟩⟩:=c1g r
 refine max_two_ints (I.ok.hd hc) λh' tk k=>⟨_,H,I.kept k,?_,q⟩
 by_cases hj:j > i
 ·rw[if_pos hj,if_pos hj];exact⟨_,rfl⟩
 ·rw[if_neg hj,if_neg hj];exact⟨_,rfl⟩
theorem c0p (hc:X.calm=true):a1j X (.builtin "min") (λxs H Q=>∃ i j,xs=[.int i,.int j]/\Q (.int (if j<i then j else i)) H):=by
 intro pins s σ H xs us Q I r h
 obtain⟨i,j,rfl,q⟩:=h
 obtain⟨u,w',rfl,⟨t,rfl⟩,⟨t',rfl⟩⟩:=c1g r
 refine min_two_ints (I.ok.hd hc) λh' tk k=>⟨_,H,I.kept k,?_,q⟩
 by_cases hj:j<i
 ·rw[if_pos hj,if_pos hj];exact⟨_,rfl⟩
 ·rw[if_neg hj,if_neg hj];exact⟨_,rfl⟩
theorem b1j:a1j X (.type "int") (λxs H Q=>(∃ i,xs=[.int i]/\Q (.int i) H) ∨ ∃ k,xs=[.bl k]/\Q (.int (if k then 1 else 0)) H):=by
 intro pins s σ H xs us Q I r h
 rcases h with⟨i,rfl,q⟩|⟨k,rfl,q⟩
 ·obtain⟨u,rfl,t,rfl⟩:=a3l r
  exact call_int_int ⟨.int i,H,I,⟨_,rfl⟩,q⟩
 ·obtain⟨u,rfl,r1⟩:=a3l r
  cases r1
  exact call_int_bool ⟨.int (if k then 1 else 0),H,I.tok _,⟨_,rfl⟩,q⟩
end
end L2
namespace L2
open PySem PySem.Spec PyProof.Rows
structure ObjM (h:Heap)(x dx C:Addr)(mA:Str->Option Value):Prop where
 obj:h.get? x=some (PySem.W.instObj C dx)
 ns:h.Ns1 dx mA
 ne:dx≠x
theorem b8e {h:Heap}{dx:Addr}{mA:Str->Option Value}(n:h.Ns1 dx mA):∃ od,h.get? dx=some od/\∀ name,PySem.W.lookIn name od=some (mA name):=by
 obtain⟨o,es,ep,ho,hd,hk,_,hm⟩:=n
 refine⟨o,ho,λname=>?_⟩
 have e:=hm name
 unfold nsFind findBy at e
 rw[<- Array.find?_toList] at e
 unfold PySem.W.lookIn
 rw[hd]
 dsimp only
 split
 ·rename_i y q
  rw[q] at e
  exact congrArg some e
 ·rename_i q
  rw[q] at e
  have a:es.toList.any (·.refKey)=false:=by
   rw[List.any_eq_false]
   intro y hy
   obtain⟨z,t,hkey⟩:=hk y (Array.mem_toList_iff.mp hy)
   simp[DictEntry.refKey,hkey]
  have a':¬ es.toList.any (·.refKey)=true:=by rw[a];exact Γk
  rw[if_neg a']
  exact congrArg some e
theorem ObjM.look {h:Heap}{x dx C:Addr}{mA:Str->Option Value}(I:ObjM h x dx C mA):∃ od,PySem.W.InstAt h x (PySem.W.instObj C dx) C (some od)/\∀ name,PySem.W.lookIn name od=some (mA name) :=
 let ⟨od,ho,hl⟩:=b8e I.ns
 ⟨od,⟨I.obj,rfl,rfl,ho⟩,hl⟩
section
variable {prog:Program}{w:World}{A:Around}{E:Value->Shared->Prop}{s:Shared}{K:Γd}{x dx C f:Addr}{mA:Str->Option Value}{name:Str}{v:Value}
end
def d7r (f:Str)(v:V):List (Str×V)->List (Str×V)
 | []=>[(f,v)]
 | (g,x) :: r=>if g=f then (g,v) :: r else (g,x) :: d7r f v r
theorem RelO.some_of {v:V}{o:Option Value}(r:RelO (some v) o):∃ u,o=some u/\RelV v u:=by
 cases o with
 | none=>exact (show False from r).elim
 | some u=>exact⟨u,rfl,r⟩
section
variable {P:Program}{w:World}{H H':Hp}{h h':Heap}{a C dx:Addr}{fs fs':List (Str×V)}
theorem c7y (hok:HOk P w H h)(e:H a=some (.ins C dx fs)):∃ mA,ObjM h a dx C mA/\(∀ f,RelO (fs.lookup f) (mA f))/\PySem.Within mA (fs.map (·.1))/\fs.length<=1000/\H dx=some (.own a):=by
 obtain⟨d,z,ne,ob,mA,n,r,q⟩:=(show ObjOk P w H h a (.ins C dx fs) from hok a _ e)
 exact⟨mA,⟨ob,n,ne⟩,r,q,z,d⟩
end
structure Cls (K:Γd)(C:Addr):Prop where
 pg:PySem.W.plainGet K C Str.empty=true
 hd:PySem.W.hasDictIn K C=true
 po:PySem.W.plainOver K C=true
 sa:PySem.W.findIn K (.ref C) "__setattr__" = some (some (.builtin "object.__setattr__"))
theorem Cls.get {K:Γd}{C:Addr}(c:Cls K C)(f:Str):PySem.W.plainGet K C f=true:=c.pg
def b1p (K:Γd)(C:Addr)(f:Str):Prop:=PySem.W.findIn K (.ref C) f=some none
structure Con (K:Γd)(C:Addr)(f:Str)(v:V)(u:Value):Prop where
 at_:PySem.W.findIn K (.ref C) f=some (some u)
 rel:RelV v u
 get:PySem.W.specialIn K u "__get__" = some none
 cp:PySem.W.copiedNames.contains f=false
structure Meth (K:Γd)(C:Addr)(m:Str)(f:Addr):Prop where
 at_:PySem.W.findIn K (.ref C) m=some (some (.ref f))
 fn:PySem.W.isFn K (.ref f)=true
 kp:PySem.W.keepIn K (.ref f)=true
section
variable {X:Cx}{pins:List (Addr×Obj)}{σ:St}{H:Hp}{s:Shared}{a C dx:Addr}{fs:List (Str×V)}{f:Str}{v:V}{A:Around}{E:Value->Shared->Prop}
end
def InOp (X:Cx)(op:Operator)(rd:V->V->Hp->VK->Prop):Prop :=
 ∀ (pins:List (Addr×Obj))(s:Shared)(σ:St)(H:Hp)(x y:V)(u v:Value)(Q:VK),Inv X pins σ H s->RelV x u->RelV y v->rd x y H Q->wpAny (model X.prog X.w) X.A (inplaceOp op u v) (EP X pins σ Q) X.xe s
section
variable {X:Cx}{o e value:Expr}{f:Str}{pos pos' tpos:Pos}{ta tv:TE}
end
section
variable {X:Cx}{pins:List (Addr×Obj)}{σ:St}{H:Hp}{s:Shared}{A:Around}{E:Value->Shared->Prop}{Q:Value->Shared->Prop}{c:Value}{b:Bool}
inductive TyOf (K:Γd)(H:Hp):V->Value->Prop where
 | non:TyOf K H .non (.type "NoneType")
 | bl (x:Bool):TyOf K H (.bl x) (.type "bool")
 | int (i:Int):TyOf K H (.int i) (.type "int")
 | str (x:Str):TyOf K H (.str x) (.type "str")
 | flt (x:UInt64):TyOf K H (.flt x) (.type "float")
 | lst {a:Addr}{xs:List V}(e:H a=some (.lst xs)):TyOf K H (.ref a) (.type "list")
 | frz {a:Addr}{o:Obj}{xs:List V}(e:H a=some (.frz o (.lst xs))):TyOf K H (.ref a) (.type "list")
 | tup {a:Addr}{xs:List V}(e:H a=some (.tup xs)):TyOf K H (.ref a) (.type "tuple")
 | dK {a:Addr}{kvs:List (Key×V)}(e:H a=some (.dK kvs)):TyOf K H (.ref a) (.type "dict")
 | dT {a:Addr}{kvs:List (List Key×V)}(e:H a=some (.dT kvs)):TyOf K H (.ref a) (.type "dict")
 | ins {a C dx:Addr}{fs:List (Str×V)}(e:H a=some (.ins C dx fs))(cl:Cls K C)(ha:PySem.W.findIn K (.ref C) "__class__" = some (some (.builtin "object.__class__")))
   (hn:PySem.W.specialIn K (.builtin "object.__class__") "__get__" = some (some (.builtin "getset_descriptor.__get__")))(htk:PySem.W.takesIn K (.builtin "object.__class__")=some true)
   (hm:PySem.W.mroIn K C (.type "object")=some true):TyOf K H (.ref a) (.ref C)
theorem b8s {x:V}{u t:Value}(I:Inv X pins σ H s)(rx:RelV x u)(ty:TyOf X.K H x t)(e:PySem.W.kitOne X.K t c=some b)(h:∀ tk,Q (.bool b) { s with toks:=tk }) :
  wpAny (model X.prog X.w) A (call (.builtin "isinstance") [u,c]) Q E s:=by
 cases ty with
 | non=>cases (show u=Value.none from rx);exact PySem.W.kia_one PySem.W.kitx_none I.kIn True.intro e (λz=>nomatch z) h
 | bl y=>cases (show u=Value.bool y from rx);exact PySem.W.kia_one PySem.W.kitx_bool I.kIn True.intro e (λz=>nomatch z) h
 | int i=>obtain⟨t,q⟩:=(show ∃ t,u=Value.int i t from rx);cases q;exact PySem.W.kia_one PySem.W.kitx_int I.kIn True.intro e (λz=>nomatch z) h
 | str y=>obtain⟨t,q⟩:=(show ∃ t,u=Value.str y t from rx);cases q;exact PySem.W.kia_one PySem.W.kitx_str I.kIn True.intro e (λz=>nomatch z) h
 | flt y=>obtain⟨t,q⟩:=(show ∃ t,u=Value.float y t from rx);cases q;exact PySem.W.kia_one PySem.W.kitx_float I.kIn True.intro e (λz=>nomatch z) h
 | @lst a xs ea =>
  cases (show u=Value.ref a from rx)
  obtain⟨_,_,n,_,h1⟩:=(show ObjOk X.prog X.w H s.heap a (.lst xs) from I.hok a _ ea)
  exact PySem.W.kia_one PySem.W.kitx_list I.kIn ⟨_,h1,rfl⟩ e (λz=>nomatch z) h
 | @frz a ob xs ea =>
  cases (show u=Value.ref a from rx)
  obtain⟨_,_,_,n,_,h1⟩:=(show ObjOk X.prog X.w H s.heap a (.frz ob (.lst xs)) from I.hok a _ ea)
  exact PySem.W.kia_one PySem.W.kitx_list I.kIn ⟨_,h1,rfl⟩ e (λz=>nomatch z) h
 | @tup a xs ea =>
  cases (show u=Value.ref a from rx)
  obtain⟨_,_,_,p⟩:=(show ObjOk X.prog X.w H s.heap a (.tup xs) from I.hok a _ ea)
  obtain⟨o,h1,h2,_⟩:=p
  exact PySem.W.kia_one PySem.W.kitx_tuple I.kIn ⟨o,h1,h2⟩ e (λz=>nomatch z) h
 | @dK a kvs ea =>
  cases (show u=Value.ref a from rx)
  obtain⟨_,_,vs,_,p⟩:=(show ObjOk X.prog X.w H s.heap a (.dK kvs) from I.hok a _ ea)
  obtain⟨o,es,ep,h1,h2,_⟩:=p
  exact PySem.W.kia_one PySem.W.kitx_dict I.kIn ⟨o,h1,h2.1⟩ e (λz=>nomatch z) h
 | @dT a kvs ea =>
  cases (show u=Value.ref a from rx)
  obtain⟨_,_,xs,_,o,es,ep,h1,h2,_⟩:=(show ObjOk X.prog X.w H s.heap a (.dT kvs) from I.hok a _ ea)
  exact PySem.W.kia_one PySem.W.kitx_dict I.kIn ⟨o,h1,h2.1⟩ e (λz=>nomatch z) h
 | @ins a C dx fs ea cl ha hn htk hm =>
  cases (show u=Value.ref a from rx)
  obtain⟨mA,O,_⟩:=c7y I.hok ea
  obtain⟨od,J,_⟩:=O.look
  exact PySem.W.kia_one (PySem.W.kitx_own (cl.get _) cl.hd ha hn htk hm) I.kIn J e (λz=>nomatch z) h
end
end L2
namespace L2
open PySem PySem.Spec PyProof.Rows
structure Room (k:Nat)(A:Around):Prop where
 hd:A.handled=none
 dp:A.depth+3*k+5<recursionLimit
 un:A.units+16*k+200<cLine
 gd:A.guards=some []
theorem Room.deeper {k:Nat}{A:Around}(r:Room (k+1) A)(env:Env):Room k (A.deeper env) :=
 ⟨r.hd,by have:=r.dp;show A.depth+1+3*k+5<_;lia,by have:=r.un;show A.units+3+16*k+200<_;lia,r.gd⟩
structure RoomS (k:Nat)(A:Around):Prop extends Room k A where
 dp2:A.depth+3*k+7<recursionLimit
 un2:A.units+16*k+210<cLine
theorem Room.deeperS {k:Nat}{A:Around}(r:Room (k+1) A)(env:Env):RoomS k (A.deeper env) :=
 ⟨r.deeper env,by have:=r.dp;show A.depth+1+3*k+7<_;lia,by have:=r.un;show A.units+3+16*k+210<_;lia⟩
theorem Room.depth {k:Nat}{A:Around}(r:Room k A):A.depth<recursionLimit:=by have:=r.dp;lia
theorem Room.units {k:Nat}{A:Around}(r:Room k A):A.units+64<cLine:=by have:=r.un;lia
def tNil:TA:=λ_ H Q=>Q [] H
def c1n (ta:TE)(tr:TA):TA:=λσ H Q=>ta σ H λx H1=>tr σ H1 λxs H2=>Q (x :: xs) H2
section
variable {X:Cx}{e:Expr}{es:List Expr}{te:TE}{t:TA}{pos:Pos}
theorem a2j:PA X [] tNil:=λ_ _ _ _ H Q I h=>Calls.spliced_nil ⟨[],H,I,.nil,h⟩
theorem a0u (ha:PE X e te)(hr:PA X es t)(hs:starEach (e :: es) X.env=(false,eval e X.env) :: starEach es X.env:=by rfl):PA X (e :: es) (c1n te t):=by
 intro pos pins s σ H Q I h
 rw[hs]
 show wpAny _ _ (spliced ((false,eval e X.env) :: backTo pos (starEach es X.env))) _ _ s
 refine Calls.spliced_cons (thn (ha pins s σ H _ I h) λu s1 ⟨x,H1,I1,r1,q1⟩=>?_)
 exact thn (hr pos pins s1 σ H1 _ I1 q1) λus s2 ⟨xs,H2,I2,r2,q2⟩=>⟨x :: xs,H2,I2,.cons r1 r2,q2⟩
def tTup (t:TA):TE:=λσ H Q=>t σ H λxs H1=>xs.length<=sizeLine/\∀ p,H1 p=none->Q (.ref p) (upd H1 p (.tup xs))
def tLst (t:TA):TE:=λσ H Q=>t σ H λxs H1=>xs.length<=sizeLine/\∀ p,H1 p=none->Q (.ref p) (upd H1 p (.lst xs))
theorem d0y {x1}(h:PA X es t):PE X (.Tuple es x1 pos) (tTup t):=by
 intro pins s σ H Q I hq
 refine wpAny_Tuple_spliced (thn (h pos pins s σ H _ I hq) λus s1 ⟨xs,H1,I1,r,z,q⟩=>⟨by rw[<- r.length];exact z,?_⟩)
 have hf:H1 s1.heap.objs.size=none:=I1.hok.fresh (Γi _)
 refine⟨.ref s1.heap.objs.size,upd H1 s1.heap.objs.size (.tup xs),I1.laid (t':=s1.toks) (λb u e=>Γc _ e) (Γi _) ?_,rfl,q _ hf⟩
 exact⟨z,us,r,⟨_,Γm _ rfl,rfl,_,rfl⟩⟩
theorem c4r (h:PA X es t):PE X (.List es pos) (tLst t):=by
 intro pins s σ H Q I hq
 refine wpAny_List_spliced (thn (h pos pins s σ H _ I hq) λus s1 ⟨xs,H1,I1,r,z,q⟩=>⟨by rw[<- r.length];exact z,?_⟩)
 have hf:H1 s1.heap.objs.size=none:=I1.hok.fresh (Γi _)
 refine⟨.ref s1.heap.objs.size,upd H1 s1.heap.objs.size (.lst xs),I1.laid (t':=s1.toks) (λb u e=>Γc _ e) (Γi _) ?_,rfl,q _ hf⟩
 exact⟨z,us,0,r,Γm _ rfl⟩
end
abbrev Sp:=List V->Hp->VK->XK->Prop
abbrev CXT:=List Env->Hp->Shared->XK->Value->Shared->Prop
structure Env0 (P:Program)(w:World)(K:Γd)(mg:Str->Option Value)(base:Heap)(A:Around)(outer:List Env)(s:Shared)(H:Hp):Prop where
 frames:A.frames=some outer
 mod:Mod K mg base
 bs:∀ b o,base.get? b=some o->s.heap.get? b=some o/\H b=none
 bsz:base.objs.size<=s.heap.objs.size
 funs:s.heap.FunFrames base outer
 frf:∀ b∈frs outer,H b=none
 hok:HOk P w H s.heap
 bare:AllBare s.gens
def CE (outer:List Env)(P:Program)(w:World)(H:Hp)(s:Shared)(Q:VK)(u:Value)(s':Shared):Prop :=
 ∃ v H',s'.os=s.os/\AllBare s'.gens/\Un (frs outer) [] H H' s.heap s'.heap/\HOk P w H' s'.heap/\RelV v u/\Q v H'
def CR (CX:CXT)(outer:List Env)(P:Program)(w:World)(H:Hp)(s:Shared)(Q:VK)(E:XK)(r:Result)(s':Shared):Prop :=
 match r with
 | .ok (.ret u)=>CE outer P w H s Q u s'
 | .ok _=>False
 | .error e=>CX outer H s E e s'
structure FnOk (P:Program)(w:World)(K:Γd)(mg:Str->Option Value)(base:Heap)(CX:CXT) (k:Nat)(f:Addr)(fd:FuncData)(ps:List Str)(sp:Sp):Prop where
 len:∀ vs H Q E,sp vs H Q E->vs.length=ps.length
 run:∀ (A:Around)(outer:List Env)(s:Shared)(H:Hp)(args:Args)(us:List Value)(vs:List V)(Q:VK)(E:XK),Room k A->Env0 P w K mg base A outer s H->BindsTo s fd args (ps.zip us)->Vals vs us->sp vs H Q E ->
  codeAny (model P w) A (.call (.ref f) args) (CR CX outer P w H s Q E) s
section
variable {X:Cx}{pins:List (Addr×Obj)}{σ:St}{H:Hp}{s s':Shared}
theorem Inv.env0 (I:Inv X pins σ H s):Env0 X.prog X.w X.K X.mg X.base X.A X.stack s H :=
 ⟨I.ok.frames,I.ok.mod,I.bs,Nat.le_trans I.ok.bsz I.sz,I.stack,I.stkFree,I.hok,I.bare⟩
theorem Inv.after {Q:VK}{u:Value}(I:Inv X pins σ H s)(h:CE X.stack X.prog X.w H s Q u s'):EP X pins σ Q u s':=by
 obtain⟨v,H',os,bare,un,hok,r,q⟩:=h
 obtain⟨hh,g,d,t,os'⟩:=s'
 obtain rfl:os'=s.os:=os
 exact⟨v,H',I.call (h':=hh) (g':=g) (d':=d) (t':=t) (ch:=[]) un hok bare (λb z=>absurd z (by simp)),r,q⟩
end
def d6f (sp:Sp)(dvs:List V)(E:XK)(t:TA):TE:=λσ H Q=>t σ H λvs H1=>sp (vs++dvs) H1 Q E
def Binds (K:Γd)(fd:FuncData)(ps:List Str)(ds:List Value):Prop :=
 ∀ (s:Shared)(us:List Value),K.In s.heap->(us++ds).length=ps.length->BindsTo s fd ⟨us,[]⟩ (ps.zip (us++ds))
theorem Binds.all {K:Γd}{fd:FuncData}{ps:List Str}(h:∀ us:List Value,us.length=ps.length->bindArgs fd ⟨us,[]⟩=pure (ps.zip us)):Binds K fd ps []:=λs us _ hl=>by
 rw[List.append_nil] at hl ⊢
 exact .of_eq (h us hl)
def c1b (CX:CXT)(X:Cx)(E:XK):Prop:=∀ (pins:List (Addr×Obj))(σ:St)(H:Hp)(s:Shared)(e:Value)(s':Shared),Inv X pins σ H s->CX X.stack H s E e s'->X.xe e s'
section
variable {X:Cx}{CX:CXT}{k:Nat}{f C:Addr}{fd:FuncData}{ps:List Str}{sp:Sp}{dvs:List V}{ds:List Value}{E:XK}{x m:Str}{p pos apos:Pos}{e o:Expr}{es:List Expr}{ta:TE}{t:TA}
theorem d0f {pins:List (Addr×Obj)}{σ:St}{H:Hp}{s:Shared}{Q:VK}{us:List Value}{vs:List V}(F:FnOk X.prog X.w X.K X.mg X.base CX k f fd ps sp)(hr:Room k X.A)(hb:Binds X.K fd ps ds)(hd:Vals dvs ds)(hx:c1b CX X E)
  (I:Inv X pins σ H s)(r:Vals vs us)(h:sp (vs++dvs) H Q E):wpAny (model X.prog X.w) X.A (call (.ref f) us) (EP X pins σ Q) X.xe s:=by
 have r2:Vals (vs++dvs) (us++ds):=r.append hd
 have hl:(us++ds).length=ps.length:=by rw[<- r2.length];exact F.len _ _ _ _ h
 refine wpAny_call (codeAny_mono (F.run X.A X.stack s H ⟨us,[]⟩ (us++ds) (vs++dvs) Q E hr I.env0 (hb s us I.kIn hl) r2 h) λr s' hq=>?_)
 cases r with
 | error e=>exact hx pins σ H s e s' I hq
 | ok fl =>
  cases fl with
  | ret u=>exact I.after hq
  | next=>exact False.elim hq
  | brk=>exact False.elim hq
  | cont=>exact False.elim hq
theorem c6s (F:FnOk X.prog X.w X.K X.mg X.base CX k f fd ps sp)(hr:Room k X.A)(hg:Gl X x)(hm:X.mg x=some (.ref f))(hk:PySem.W.keepIn X.K (.ref f)=true)(hb:Binds X.K fd ps ds)(hd:Vals dvs ds)(hx:c1b CX X E)
  (ha:PA X (e :: es) t)(hdb:(x == ("__debug__":Str))=false:=by decide)(he:starEach (e :: es) X.env=(false,eval e X.env) :: starEach es X.env:=by rfl)(hpl:(backTo pos (starEach es X.env)).any (·.1)=false:=by rfl) :
  PE X (.Call (.Name x p) (e :: es) [] pos) (d6f sp dvs E t):=by
 intro pins s σ H Q I h
 refine wpAny_Call_Name_kw (c7p I hg hm ?_ hdb)
 refine PySem.W.callWith_K (h₀:=X.base) I.ok.mod.kin hk (thn (ha pos pins s σ H _ I h) λus s1 ⟨vs,H1,I1,r,q⟩=>⟨I1.kIn,?_⟩) he hpl
 exact d0f F hr hb hd hx I1 r q
structure Mk (K:Γd)(C f:Addr):Prop where
 makes:PySem.W.makesIn K C=true
 init:PySem.W.findIn K (.ref C) "__init__" = some (some (.ref f))
 fn:PySem.W.isFn K (.ref f)=true
 kp:PySem.W.keepIn K (.ref C)=true
end
section
variable {X:Cx}{CX:CXT}{k:Nat}{f C:Addr}{fd:FuncData}{ps ks:List Str}{sp:Sp}{E:XK}{x m:Str}{p pos apos kpos:Pos}{e o:Expr}{es:List Expr}{kws:List Keyword}{te ta:TE}{t tk:TA}{nm:Option Str}
structure KBinds (K:Γd)(fd:FuncData)(ps ks:List Str)(g:List Value->List Value->List Value)(gV:List V->List V->List V):Prop where
 to:∀ (s:Shared)(us ws:List Value),K.In s.heap->(g us ws).length=ps.length->BindsTo s fd ⟨us,ks.zip ws⟩ (ps.zip (g us ws))
 rel:∀ {vs:List V}{us:List Value}{zs:List V}{ws:List Value},Vals vs us->Vals zs ws->Vals (gV vs zs) (g us ws)
variable {g:List Value->List Value->List Value}{gV:List V->List V->List V}
end
structure FnScope (N P:List Str)(sc:Scope):Prop where
 kind:sc.kind=.function
 co:sc.isCoroutine=false
 gen:sc.isGenerator=false
 nd:N.Nodup
 pre:N.take P.length=P
 par:∀ x∈P,sc.names.lookup x=some .local ∨ sc.names.lookup x=some .cell
 nofree:∀ y∈sc.names,y.2≠.free
theorem b1k {kindOf:Str->Option NameKind}{x:Str}:∀ {binds:List (Str×Value)}{m:Str->Option Value},(∀ v,(x,v) ∉ binds)->bindL kindOf binds m x=m x
 | [],_,_=>rfl
 | (n,v) :: r,m,h=>by
  unfold bindL
  rw[b1k λw hw=>h w (Γh _ hw)]
  split
  ·have:x≠n:=by rintro rfl;exact h v Γn
   simp[this]
  ·rfl
theorem b1m {kindOf:Str->Option NameKind}{x:Str}:∀ {binds:List (Str×Value)}{m:Str->Option Value},(∀ v,(x,v) ∉ binds)->bindC kindOf binds m x=m x
 | [],_,_=>rfl
 | (n,v) :: r,m,h=>by
  unfold bindC
  rw[b1m λw hw=>h w (Γh _ hw)]
  split
  ·rfl
  ·have:x≠n:=by rintro rfl;exact h v Γn
   simp[this]
theorem b1l {kindOf:Str->Option NameKind}{x:Str}{v:Value}:∀ {P:List Str}{vs:List Value}{i:Nat}{m:Str->Option Value},P.Nodup->P[i]?=some x->vs[i]?=some v->kindOf x=some .local ->
  bindL kindOf (P.zip vs) m x=some v
 | [],_,_,_,_,h,_,_=>by simp at h
 | _ :: _,[],_,_,_,_,h,_=>by simp at h
 | p :: P,w :: vs,0,m,nd,h1,h2,hk=>by
  simp at h1 h2;subst h1;subst h2
  show bindL kindOf ((p,w) :: P.zip vs) m p=_
  unfold bindL
  rw[b1k λv hv=>(List.nodup_cons.mp nd).1 (List.of_mem_zip hv).1,if_pos hk]
  simp
 | p :: P,w :: vs,i+1,m,nd,h1,h2,hk=>by
  show bindL kindOf ((p,w) :: P.zip vs) m x=_
  unfold bindL
  exact b1l (i:=i) (List.nodup_cons.mp nd).2 (by simpa using h1) (by simpa using h2) hk
theorem b1n {kindOf:Str->Option NameKind}{x:Str}{v:Value}:∀ {P:List Str}{vs:List Value}{i:Nat}{m:Str->Option Value},P.Nodup->P[i]?=some x->vs[i]?=some v->kindOf x≠some .local ->
  bindC kindOf (P.zip vs) m x=some v
 | [],_,_,_,_,h,_,_=>by simp at h
 | _ :: _,[],_,_,_,_,h,_=>by simp at h
 | p :: P,w :: vs,0,m,nd,h1,h2,hk=>by
  simp at h1 h2;subst h1;subst h2
  show bindC kindOf ((p,w) :: P.zip vs) m p=_
  unfold bindC
  rw[b1m λv hv=>(List.nodup_cons.mp nd).1 (List.of_mem_zip hv).1,if_neg hk]
  simp
 | p :: P,w :: vs,i+1,m,nd,h1,h2,hk=>by
  show bindC kindOf ((p,w) :: P.zip vs) m x=_
  unfold bindC
  exact b1n (i:=i) (List.nodup_cons.mp nd).2 (by simpa using h1) (by simpa using h2) hk
def start (N:List Str)(vs:List V):St:=vs.map some++Γj (N.length-vs.length) none
def c8u (CX:CXT)(P:Program)(w:World)(K:Γd)(mg:Str->Option Value)(base:Heap)(N:List Str)(qual:Str)(scope:Scope)(f:Addr)(cd:Value)(A:Around)(outer:List Env)(s:Shared)(H:Hp)(E:XK):Cx where
 prog:=P
 w:=w
 K:=K
 mg:=mg
 base:=base
 A:=A.deeper (envOfC qual scope s.heap.objs.size f cd)
 N:=N
 s₀:=s
 H₀:=H
 env:=envOfC qual scope s.heap.objs.size f cd
 outer:=outer
 stack:=envOfC qual scope s.heap.objs.size f cd :: outer
 ex:=[]
 calm:=true
 fn:=λ_=>true
 pn:=[]
 xe:=λe s'=>wpAny (model P w) (A.deeper (envOfC qual scope s.heap.objs.size f cd)) (leaving (envOfC qual scope s.heap.objs.size f cd) e) (λ_ s''=>CX outer H s E e s'') (λe' s''=>CX outer H s E e' s'') s'
theorem b4n {sc:Scope}{n:Nat}{x:Str}(h:sc.names.lookup x=some .cell):∃ c,(cellsFrom n sc.names []).lookup x=some c:=by
 have q:=PySem.W.cellsFrom_some sc.names n [] (.inl h)
 exact Option.isSome_iff_exists.mp q
theorem b8u {CX:CXT}{P:Program}{w:World}{K:Γd}{mg:Str->Option Value}{base:Heap}{N ps:List Str}{qual:Str}{scope:Scope}{f:Addr}{cd:Value}{A:Around}{outer:List Env}{s s1:Shared}{H:Hp}{E:XK}{us:List Value}{vs:List V}
  (S:FnScope N ps scope)(hd:A.handled=none)(e0:Env0 P w K mg base A outer s H)(hl:vs.length=ps.length)(r:Vals vs us)
  (x:InCallC s s.heap.objs.size (bindL (envOfC qual scope s.heap.objs.size f cd).kindOf (ps.zip us) λ_=>none) (cellsFrom (s.heap.objs.size+1) scope.names []) (bindC (envOfC qual scope s.heap.objs.size f cd).kindOf (ps.zip us) λ_=>none) s1) :
  Inv (c8u CX P w K mg base N qual scope f cd A outer s H E) [] (start N vs) H s1:=by
 have hpl:ps.length<=N.length:=by have:=congrArg List.length S.pre;rw[List.length_take] at this;lia
 obtain⟨h1,tk,rfl,hk⟩:=x.done
 have noA:∀ b:Addr,b ∉ (c8u CX P w K mg base N qual scope f cd A outer s H E).ex:=λb z=>absurd (show b∈([]:List Addr) from z) (by simp)
 refine⟨⟨e0.mod,S.kind,rfl,rfl,Γi _,λy z c h1 h2=>?_,λy hy=>?_,λy c _ h=>?_,λ_=>hd,Around.frames_deeper e0.frames,.inr ⟨rfl,rfl⟩,λb z=>absurd z (noA b),e0.bs,e0.bsz,λb _ _=>noA b,λb z=>absurd z (noA b),e0.funs,e0.frf⟩,
  rfl,e0.bare,Un.kept hk,⟨_,x.toInCall.ns,λi y v h1 h2 h3=>?_⟩,λy c h=>⟨_,x.cell y c h⟩,e0.hok.fresh (Γi _),λy c h=>?_,λp hp=>absurd (show p∈([]:List (Addr×Obj)) from hp) (by simp),e0.hok.kept hk,?_⟩
 ·exact name_of_addr x.apart (PySem.mem_of_lookup h1) (PySem.mem_of_lookup h2)
 ·have hy:scope.names.lookup y=some .cell ∨ scope.names.lookup y=some .free:=hy
  rcases hy with hy|hy
  ·exact b4n hy
  ·exact absurd rfl (S.nofree _ (PySem.mem_of_lookup hy))
 ·exact Nat.le_of_lt (x.above y c (PySem.mem_of_lookup h))
 ·have hi:i<vs.length:=by
   unfold start at h2
   by_cases hi:i<vs.length
   ·exact hi
   ·rw[List.getElem?_append_right (by simpa using hi)] at h2
    rw[List.getElem?_replicate] at h2
    split at h2<;>cases h2
  have ha:vs[i]?=some v:=by
   unfold start at h2
   rw[List.getElem?_append_left (by simpa using hi),List.getElem?_map] at h2
   cases e:vs[i]? with
   | none=>rw[e] at h2;cases h2
   | some a=>rw[e] at h2;cases h2;rfl
  obtain⟨u,hu,rv⟩:=r.get ha
  have hp:ps[i]?=some y:=by
   rw[<- S.pre,List.getElem?_take_of_lt (by lia)];exact h1
  have ndP:ps.Nodup:=by rw[<- S.pre];exact S.nd.sublist (List.take_sublist _ _)
  refine⟨u,rv,?_⟩
  rcases S.par y (List.mem_of_getElem? hp) with k|k
  ·exact .inl ⟨k,b1l ndP hp hu k⟩
  ·obtain⟨c,e⟩:=b4n (n:=s.heap.objs.size+1) k
   refine .inr ⟨.inl k,c,e,?_⟩
   have q:=x.cell y c e
   rw[b1n ndP hp hu (by show scope.names.lookup y≠_;rw[k];decide)] at q
   exact q
 ·exact e0.hok.fresh (Nat.le_of_lt (x.above y c (PySem.mem_of_lookup h)))
 ·unfold start
  show _=N.length
  rw[List.length_append,List.length_map,List.length_replicate]
  lia
theorem d9l {CX:CXT}{P:Program}{w:World}{K:Γd}{mg:Str->Option Value}{base:Heap}{k:Nat}{f:Addr}{name qual:Str}{params:Arguments}{body:List Stmt}{scope:Scope}{dV kV doc pm cdv ct oc:Value}{an od:Option Addr}
  {osl:Array (Option Value)}{N ps:List Str}{sp:Sp}(lk:K.lookup f=some ⟨oc,od,.func (PySem.W.fnOf name qual params body scope dV kV doc pm an cdv ct),osl⟩)(hcd:PySem.W.codeIn K cdv qual=true)(S:FnScope N ps scope)
  (len:∀ vs H Q E,sp vs H Q E->vs.length=ps.length)
  (hbody:∀ (A:Around)(outer:List Env)(s:Shared)(H:Hp)(vs:List V)(Q:VK)(E:XK),RoomS k (A.deeper (envOfC qual scope s.heap.objs.size f cdv))->sp vs H Q E ->
   ∃ t,PSs (c8u CX P w K mg base N qual scope f cdv A outer s H E) body t/\t { nx:=λ_ H'=>Q .non H',rt:=Q } (start N vs) H) :
  FnOk P w K mg base CX (k+1) f (PySem.W.fnOf name qual params body scope dV kV doc pm an cdv ct) ps sp:=by
 refine⟨len,λA outer s H args us vs Q E hr e0 hb r hsp=>?_⟩
 have hl:=len _ _ _ _ hsp
 have KX:K.In s.heap:=e0.mod.kin.keeps λb o e=>(e0.bs b o e).1
 have lim:s.heap.NoLimit:=e0.mod.nolimit.keeps λb o e=>(e0.bs b o e).1
 have hkind:∀ y∈ps.zip us,scope.names.lookup y.1=some .local ∨ (scope.names.lookup y.1=some .cell/\((cellsFrom (s.heap.objs.size+1) scope.names []).lookup y.1).isSome=true):=λ⟨n,v⟩ hy=>by
  rcases S.par n (List.of_mem_zip hy).1 with q|q
  ·exact .inl q
  ·exact .inr ⟨q,PySem.W.cellsFrom_some _ _ _ (.inl q)⟩
 refine codeAny_call_function hr.depth (KX _ _ lk) rfl S.co S.gen rfl (PySem.W.codeRec_of KX hcd) (hb _ _ _ _ ?_)
 refine wpAny_newFunctionEnv_cells S.kind hkind λenv he s1 x=>?_
 subst he
 refine⟨lim.keeps x.toInCall.keep,codeAny_func ?_⟩
 obtain⟨t,ht,hq⟩:=hbody A outer s H vs Q E (hr.deeperS _) hsp
 have I:Inv (c8u CX P w K mg base N qual scope f cdv A outer s H E) [] (start N vs) H s1:=b8u S hr.hd e0 hl r x
 refine wpAny_mono (ht [] s1 (start N vs) H _ I hq) (λfl s' hs=>?_) λe s' hs=>hs
 have fin:∀ {σ':St}{H':Hp}{v:V}{u:Value},Inv (c8u CX P w K mg base N qual scope f cdv A outer s H E) [] σ' H' s'->RelV v u->Q v H'->CE outer P w H s Q u s' :=
  λ{σ' H' v u} J rv q=>⟨v,H',J.os,J.bare,J.base,J.hok,rv,q⟩
 cases fl with
 | ret u =>
  obtain⟨v,σ',H',J,rv,q⟩:=hs
  exact fin J rv q
 | next =>
  obtain⟨σ',H',J,q⟩:=hs
  exact fin (v:=V.non) (u:=Value.none) J rfl q
 | brk =>
  obtain⟨_,_,_,q⟩:=hs
  exact False.elim q
 | cont =>
  obtain⟨_,_,_,q⟩:=hs
  exact False.elim q
end L2
namespace L2
open PySem PySem.Spec PyProof.Rows
section
variable {X:Cx}{x:Str}{p pos:Pos}{e:Expr}{es:List Expr}{t:TA}{id T:String}{r:List V->Hp->VK->Prop}
def tCB (r:List V->Hp->VK->Prop)(t:TA):TE:=λσ H Q=>t σ H λvs H1=>r vs H1 Q
theorem a3w (hc:a1j X (.builtin id) r)(hg:Gl X x)(hm:X.mg x=none)(hv:bootBuiltins x=some (.builtin id))(ha:PA X (e :: es) t)(hn:x≠"__name__":=by decide)(hdb:(x == ("__debug__":Str))=false:=by decide)
  (he:starEach (e :: es) X.env=(false,eval e X.env) :: starEach es X.env:=by rfl)(hpl:(backTo pos (starEach es X.env)).any (·.1)=false:=by rfl):PE X (.Call (.Name x p) (e :: es) [] pos) (tCB r t):=by
 intro pins s σ H Q I h
 refine wpAny_Call_Name_kw (a7l I hg hm hv ?_ hn hdb)
 exact PyProof.Rows.callWith_builtin1 (thn (ha pos pins s σ H _ I h) λus s1 ⟨vs,H1,I1,r1,q1⟩=>hc pins s1 σ H1 vs us Q I1 r1 q1) he hpl
theorem a5w (hc:a1j X (.type T) r)(hg:Gl X x)(hm:X.mg x=none)(hv:bootBuiltins x=some (.type T))(ha:PA X (e :: es) t)(hn:x≠"__name__":=by decide)(hdb:(x == ("__debug__":Str))=false:=by decide)
  (he:starEach (e :: es) X.env=(false,eval e X.env) :: starEach es X.env:=by rfl)(hpl:(backTo pos (starEach es X.env)).any (·.1)=false:=by rfl):PE X (.Call (.Name x p) (e :: es) [] pos) (tCB r t):=by
 intro pins s σ H Q I h
 refine wpAny_Call_Name_kw (a7l I hg hm hv ?_ hn hdb)
 exact PyProof.Rows.callWith_type1 (thn (ha pos pins s σ H _ I h) λus s1 ⟨vs,H1,I1,r1,q1⟩=>hc pins s1 σ H1 vs us Q I1 r1 q1) he hpl
end
end L2
namespace HT
open PySem PyProof.Rows
def lexLt:List Int->List Int->Bool
 | [],[]=>false
 | [],_ :: _=>true
 | _ :: _,[]=>false
 | x :: xs,y :: ys=>if x=y then lexLt xs ys else decide (x<y)
section
open PySem.SeqAt
open PySem.AutoSeq1 (wpAny_loadPart')
open PySem.MeetsSeq PySem.MeetsSeq2 PySem.MeetsSeq3
end
section
variable {prog:Program}{w:World}{A:Around}{E:Value->Shared->Prop}{s:Shared}
theorem cat_tup {t b:Addr}{vs ws:List Value}{Q:Value->Shared->Prop}(ht:IsTup s.heap t vs.toArray)(hb:IsTup s.heap b ws.toArray)(hv:vs≠[])
  (h1:ws=[]->Q (.ref t) s)(h2:ws≠[]->Q (.ref s.heap.objs.size) { s with heap:=s.heap.push { cls:=.type "tuple",data:=.seq (vs++ws).toArray } })
  (hsz:vs.length+ws.length<=sizeLine):wpAny (model prog w) A (binaryOp .Add (.ref t) (.ref b)) Q E s:=by
 obtain⟨⟨cls,dd,data,sl⟩,ho,hc,n,hd⟩:=id ht
 obtain⟨⟨cls2,dd2,data2,sl2⟩,ho2,hc2,n2,hd2⟩:=id hb
 simp only at hc hd hc2 hd2
 subst hc hd hc2 hd2
 have e:vs.toArray++ws.toArray=(vs++ws).toArray:=by simp
 by_cases hw:ws=[]
 ·exact concat_meets ⟨_,ho,rfl⟩ ⟨_,ho2,rfl⟩ noFill_tuple_add seq_tuple_add PySem.F.slot_tuple_add PySem.F.entry_tuple_add (PySem.F.args_tuple_add_2 _ _)
   (tuple_addW1 t b vs.toArray ws.toArray n n2 dd dd2 sl sl2 (by simpa using hv) (by simp[hw])) ⟨ho,ho2,h1 hw⟩
 ·refine concat_meets ⟨_,ho,rfl⟩ ⟨_,ho2,rfl⟩ noFill_tuple_add seq_tuple_add PySem.F.slot_tuple_add PySem.F.entry_tuple_add (PySem.F.args_tuple_add_2 _ _)
   (tuple_addW2 t b vs.toArray ws.toArray n n2 dd dd2 sl sl2 (by simpa using hv) (by simpa using hw) (by rw[List.size_toArray,List.size_toArray];exact hsz)) ⟨ho,ho2,?_⟩
  rw[e]
  exact h2 hw
def sIx (n d:Nat):Option Int->Nat
 | none=>d
 | some v=>if v<0 then (v+(n:Int)).toNat else min v.toNat n
theorem d0d (n d:Nat)(hd:d<=n)(o:Option Int):sIx n d o<=n:=by
 cases o with
 | none=>exact hd
 | some v =>
  show (if v<0 then (v+(n:Int)).toNat else min v.toNat n)<=n
  by_cases hv:v<0
  ·rw[if_pos hv];lia
  ·rw[if_neg hv];exact Nat.min_le_right _ _
theorem c0k (v:Int) (n d:Nat):(if v<0 then max (v+(n:Int)) 0 else min v (n:Int))=((sIx n d (some v):Nat):Int):=by
 show (if v<0 then max (v+(n:Int)) 0 else min v (n:Int))=(((if v<0 then (v+(n:Int)).toNat else min v.toNat n):Nat):Int)
 by_cases hv:v<0
 ·simp only[if_pos hv];lia
 ·simp only[if_neg hv];lia
theorem b5q (lo hi:Option Int) (n:Nat):Builtin.Slice.sliceAdjust lo hi 1 (n:Int)=(((sIx n 0 lo:Nat):Int),((sIx n n hi:Nat):Int)):=by
 have h1:¬ ((1:Int)<0):=by lia
 unfold Builtin.Slice.sliceAdjust
 simp only[h1,if_false]
 refine Prod.ext ?_ ?_
 ·cases lo with
  | none=>rfl
  | some v=>exact c0k v n 0
 ·cases hi with
  | none=>rfl
  | some v=>exact c0k v n n
theorem b4v (i j:Nat):Builtin.Slice.slicePlaces (i:Int) (j:Int) 1=j-i:=by
 unfold Builtin.Slice.slicePlaces
 have h1:(1:Int) > 0:=by lia
 simp only[h1,if_true,Int.ediv_one]
 split<;>lia
theorem a6y {v:Value}{o:Option Int}{Q:Option Int->Shared->Prop}(p:IsPart v o)(h:Q o s):wpAny (model prog w) A (Builtin.Slice.slicePartIndex v) Q E s:=by
 cases p with
 | none=>exact slicePart_none h
 | int i t=>exact slicePart_int h
theorem sliceApplied_gen {sl:Addr}{vl vu:Value}{lo hi:Option Int}{n:Nat}{Q:Int×Int×Nat->Shared->Prop}(hs:s.heap.IsSliceOf sl vl vu .none)(pl:IsPart vl lo)(pu:IsPart vu hi)
  (h:Q (((sIx n 0 lo:Nat):Int),1,sIx n n hi-sIx n 0 lo) s):wpAny (model prog w) A (Builtin.Slice.sliceApplied (.ref sl) (pure (n:Int))) Q E s:=by
 obtain⟨os,hos,hcs,hds⟩:=id hs
 unfold Builtin.Slice.sliceApplied Builtin.Slice.sliceFields
 refine Γa (Γa (wpAny_field hos hds (x:=vl) rfl (Γa (wpAny_field hos hds (x:=vu) rfl (Γa (wpAny_field hos hds (x:=.none) rfl (Γb ?_)))))))
 refine Γa (slicePart_none ?_)
 show wpAny _ _ (if ((1:Int) == 0)=true then _ else _) _ _ s
 rw[if_neg (by decide)]
 refine Γa (a6y pl (Γa (a6y pu (Γa (Γb ?_)))))
 show wpAny _ _ (match Builtin.Slice.sliceAdjust lo hi 1 (n:Int) with|(lo,hi)=>pure (lo,(1:Int),Builtin.Slice.slicePlaces lo hi 1)) _ _ s
 rw[b5q lo hi n]
 show wpAny _ _ (pure (((sIx n 0 lo:Nat):Int),(1:Int),Builtin.Slice.slicePlaces ((sIx n 0 lo:Nat):Int) ((sIx n n hi:Nat):Int) 1)) _ _ s
 rw[b4v]
 exact Γb h
theorem c2i (xs:Array Value) (i k:Nat):((List.range k).filterMap λ(m:Nat)=>xs[((i:Int)+(m:Int)*1).toNat]?).toArray=((xs.toList.drop i).take k).toArray:=by
 have e:(λ(m:Nat)=>xs[((i:Int)+(m:Int)*1).toNat]?)=λm=>xs[i+m]?:=by
  funext m
  have:((i:Int)+(m:Int)*1).toNat=i+m:=by lia
  rw[this]
 rw[e]
 have:=pick_run xs i k
 rw[List.filterMap_map] at this
 have e2:((λx=>xs[x]?) ∘ λx=>i+x)=λm=>xs[i+m]?:=rfl
 rw[e2] at this
 rw[this]
theorem getItem_tuple_cut {t sl:Addr}{items:Array Value}{vl vu:Value}{lo hi:Option Int}{Q:Value->Shared->Prop}(ht:IsTup s.heap t items)(hs:s.heap.IsSliceOf sl vl vu .none)(pl:IsPart vl lo)(pu:IsPart vu hi)
  (hw:¬ (sIx items.size 0 lo=0/\sIx items.size items.size hi=items.size))
  (h:Q (.ref s.heap.objs.size) { s with heap:=s.heap.push { cls:=.type "tuple",data:=.seq ((items.toList.drop (sIx items.size 0 lo)).take (sIx items.size items.size hi-sIx items.size 0 lo)).toArray } })
  (hsz:items.size<=sizeLine):wpAny (model prog w) A (getItem (.ref t) (.ref sl)) Q E s:=by
 have htake:sizeOk (.seq ((items.toList.drop (sIx items.size 0 lo)).take (sIx items.size items.size hi-sIx items.size 0 lo)).toArray):=by
  show ((items.toList.drop (sIx items.size 0 lo)).take (sIx items.size items.size hi-sIx items.size 0 lo)).toArray.size<=sizeLine
  rw[List.size_toArray,List.length_take,List.length_drop,Array.length_toList]
  lia
 have hj:sIx items.size items.size hi<=items.size:=d0d _ _ (Γi _) hi
 obtain⟨os,hos,hcs,hds⟩:=id hs
 have hTs:s.TypeIs (.ref sl) "slice":=⟨os,hos,hcs⟩
 unfold getItem
 try with_reducible refine Γg ?_
 first|refine Γa (Γb ?_)|skip
 refine Γa (wpAny_sequenceKey ht.typeIs (by decide) ?_)
 refine Γa (wpAny_callSpecial?_slot (name:=Γe "__getitem__") ht.typeIs PyProof.Rows.slot_tuple_getitem
  (wpAny_call_entry PyProof.Rows.slot_tuple_getitem ht.typeIs entry_tuple_getitem ?_ (args_tuple_getitem _ _)))
 show wpAny _ _ (Builtin.Tuple.tupleItemsOf (.ref t) >>= _) _ _ s
 refine Γa (tupleItemsOf_ ht ?_)
 refine Γa (wpAny_typeOf hTs ?_)
 rw[if_pos (by decide)]
 refine Γa (sliceApplied_gen hs pl pu ?_)
 have hno:¬ ((((sIx items.size 0 lo:Nat):Int) == 0 && (1:Int) == 1 && (sIx items.size items.size hi-sIx items.size 0 lo) == items.size)=true):=by
  intro q
  rw[Bool.and_eq_true,Bool.and_eq_true] at q
  have q1:((sIx items.size 0 lo:Nat):Int)=0:=eq_of_beq q.1.1
  have q2:sIx items.size items.size hi-sIx items.size 0 lo=items.size:=eq_of_beq q.2
  exact hw ⟨by lia,by lia⟩
 show wpAny _ _ (if (((sIx items.size 0 lo:Nat):Int) == 0 && (1:Int) == 1 && (sIx items.size items.size hi-sIx items.size 0 lo) == items.size)=true then _ else _) _ _ s
 rw[if_neg hno,c2i]
 first
  | exact Γa (m:=Builtin.Tuple.tupleExact _) (wpAny_newObj_type (Γb ⟨_,rfl,Γb h⟩) htake)
  | exact Γa (m:=Builtin.Tuple.tupleExact _) (wpAny_newObj_type (Γa (Γb (Γb ⟨_,rfl,Γb h⟩))) htake)
  | exact Γa (Γa (m:=Builtin.Tuple.tupleExact _) (wpAny_newObj_type (Γb (Γb ⟨_,rfl,Γb h⟩)) htake))
  | exact Γa (Γa (m:=Builtin.Tuple.tupleExact _) (wpAny_newObj_type (Γb ⟨_,rfl,Γb h⟩) htake))
end
end HT
namespace L2
open PySem PySem.Spec PyProof.Rows
abbrev TO:=St->Hp->(Option Int->Hp->Prop)->Prop
def PO (X:Cx)(e:Option Expr)(t:TO):Prop :=
 ∀ (pins:List (Addr×Obj))(s:Shared)(σ:St)(H:Hp)(Q:Option Int->Hp->Prop),Inv X pins σ H s->t σ H Q ->
  wpAny (model X.prog X.w) X.A (evalPart e X.env) (λu s'=>∃ o H',Inv X pins σ H' s'/\IsPart u o/\Q o H') X.xe s
def c5p:TO:=λ_ H Q=>Q none H
def d5z (t:TE):TO:=λσ H Q=>t σ H λx H1=>∃ i,x=.int i/\Q (some i) H1
section
variable {X:Cx}{e:Expr}{te:TE}{lo hi:Option Expr}{tl th:TO}{pos p2:Pos}
theorem c6l:PO X none c5p:=by
 intro pins s σ H Q I h
 rw[evalPart_none]
 exact Γb ⟨none,H,I,.none,h⟩
theorem c6k (h:PE X e te):PO X (some e) (d5z te):=by
 intro pins s σ H Q I hw
 rw[evalPart_some]
 refine thn (h pins s σ H _ I hw) λu s1 ⟨x,H1,I1,r1,q1⟩=>?_
 obtain⟨i,rfl,q⟩:=q1
 obtain⟨t,rfl⟩:=r1
 exact⟨some i,H1,I1,.int i t,q⟩
def SlR (X:Cx)(r:V->Option Int->Option Int->Hp->VK->Prop):Prop :=
 ∀ (pins:List (Addr×Obj))(s:Shared)(σ:St)(H:Hp)(x:V)(v vl vu:Value)(lo hi:Option Int)(sl:Addr)(Q:VK),Inv X pins σ H s->RelV x v->s.heap.IsSliceOf sl vl vu .none->IsPart vl lo->IsPart vu hi->r x lo hi H Q ->
  ∃ T id,typeLookup (.type T) "__getitem__" = pure (some (.builtin id))/\s.TypeIs v T/\wpAny (model X.prog X.w) X.A (getItem v (.ref sl)) (EP X pins σ Q) X.xe s
def tSl (r:V->Option Int->Option Int->Hp->VK->Prop)(te:TE)(tl th:TO):TE:=λσ H Q=>te σ H λx H1=>tl σ H1 λl H2=>th σ H2 λu H3=>r x l u H3 Q
theorem b3m {r:V->Option Int->Option Int->Hp->VK->Prop}(hr:SlR X r)(he:PE X e te)(hl:PO X lo tl)(hu:PO X hi th):PE X (.Subscript e (.Slice lo hi none p2) pos) (tSl r te tl th):=by
 intro pins s σ H Q I h
 refine Subscript_ (thn (he pins s σ H _ I h) λv s1 ⟨x,H1,I1,r1,q1⟩=>?_)
 refine wpAny_Slice (thn (hl pins s1 σ H1 _ I1 q1) λvl s2 ⟨l,H2,I2,pl,q2⟩=>thn (hu pins s2 σ H2 _ I2 q2) λvu s3 ⟨u,H3,I3,pu,q3⟩=>?_)
 rw[evalPart_none]
 refine Γb ?_
 have I4:Inv X pins σ H3 { s3 with heap:=s3.heap.push { cls:=.type "slice",data:=.fields #[vl,vu,.none] } }:=I3.kept (t':=s3.toks) λb ob q=>Γc _ q
 obtain⟨T,id,hT,ht,hg⟩:=hr pins { s3 with heap:=s3.heap.push { cls:=.type "slice",data:=.fields #[vl,vu,.none] } } σ H3 x v vl vu l u s3.heap.objs.size Q I4 r1 (Heap.IsSliceOf.new ..) pl pu q3
 show wpAny (model X.prog X.w) X.A (subscriptTail e (.Slice lo hi none p2) v (.ref s3.heap.objs.size)) (EP X pins σ Q) X.xe { s3 with heap:=s3.heap.push { cls:=.type "slice",data:=.fields #[vl,vu,.none] } }
 exact tail_any (ops:=[.ref s3.heap.objs.size,v]) ht hT hg (by with_unfolding_all rfl)
def c5d (xs:List V)(lo hi:Option Int):List V:=(xs.drop (HT.sIx xs.length 0 lo)).take (HT.sIx xs.length xs.length hi-HT.sIx xs.length 0 lo)
theorem a6l (xs:List V)(lo hi:Option Int):(c5d xs lo hi).length<=xs.length:=by
 unfold c5d
 rw[List.length_take,List.length_drop]
 lia
def rSlT (K:Γd):V->Option Int->Option Int->Hp->VK->Prop:=λx lo hi H Q=>∃ a xs,x=.ref a/\SqT K H a xs /\
 ¬ (HT.sIx xs.length 0 lo=0/\HT.sIx xs.length xs.length hi=xs.length)/\∀ p,H p=none->Q (.ref p) (upd H p (.tup (c5d xs lo hi)))
theorem d0b:SlR X (rSlT X.K):=by
 intro pins s σ H x v vl vu lo hi sl Q I rx hs pl pu h
 obtain⟨a,xs,rfl,hx,hw,q⟩:=h
 cases rx
 obtain⟨its,r,ht,hz⟩:=I.tuple hx
 have hlen:its.toArray.size=xs.length:=by rw[List.size_toArray];exact r.length.symm
 refine⟨"tuple",_,PyProof.Rows.slot_tuple_getitem.lookup,ht.typeIs,?_⟩
 refine HT.getItem_tuple_cut ht hs pl pu (by rw[hlen];exact hw) ?_ (by rw[hlen];exact hz)
 rw[hlen]
 refine⟨.ref s.heap.objs.size,_,I.laid (t':=s.toks) (o:=.tup (c5d xs lo hi)) (λb ob q=>Γc _ q) (Γi _) ?_,rfl,q _ (I.hok.fresh (Γi _))⟩
 exact⟨Nat.le_trans (a6l xs lo hi) hz,_,(r.drop (HT.sIx xs.length 0 lo)).take (HT.sIx xs.length xs.length hi-HT.sIx xs.length 0 lo),IsTup.new _ _⟩
def d7h (K:Γd):R2:=λx y H Q=>∃ a b xs ys,x=.ref a/\y=.ref b/\SqT K H a xs/\SqT K H b ys/\xs≠[]/\xs.length+ys.length<=sizeLine /\
 (ys=[]->Q (.ref a) H)/\(ys≠[]->∀ p,H p=none->Q (.ref p) (upd H p (.tup (xs++ys))))
theorem Vals.nil_iff {xs:List V}{us:List Value}(r:Vals xs us):us=[]↔xs=[]:=by
 cases r with
 | nil=>simp
 | cons _ _=>simp
theorem c7c:OpR X (binaryOp .Add) (d7h X.K):=by
 intro pins s σ H x y v u Q I rx ry h
 obtain⟨a,b,xs,ys,rfl,rfl,ha,hb,hx,hz,q1,q2⟩:=h
 cases rx
 cases ry
 obtain⟨its,r1,p1,_⟩:=I.tuple ha
 obtain⟨its2,r2,p2,_⟩:=I.tuple hb
 refine HT.cat_tup p1 p2 (λz=>hx (r1.nil_iff.mp z)) (λz=>⟨.ref a,H,I,rfl,q1 (r2.nil_iff.mp z)⟩) (λz=>?_) (by rw[<- r1.length,<- r2.length];exact hz)
 refine⟨.ref s.heap.objs.size,_,I.laid (t':=s.toks) (o:=.tup (xs++ys)) (λb ob q=>Γc _ q) (Γi _) ?_,rfl,q2 (λw=>z (r2.nil_iff.mpr w)) _ (I.hok.fresh (Γi _))⟩
 exact⟨by rw[List.length_append];exact hz,_,r1.append r2,IsTup.new _ _⟩
end
end L2
namespace L2
open PySem PySem.Spec PyProof.Rows
def ixN (n:Nat) (i:Int):Option Nat:=if 0<=i then (if i<n then some i.toNat else none) else if -(n:Int)<=i then some (i+n).toNat else none
def atI {α:Type}(xs:List α) (i:Int):Option α:=(ixN xs.length i).bind λj=>xs[j]?
theorem b8m {n:Nat}{i:Int}{j:Nat}(h:ixN n i=some j):seqIndex? i n=some j/\j<n/\-(n:Int)<=i/\i<n:=by
 unfold ixN at h
 by_cases h0:0<=i
 ·rw[if_pos h0] at h
  by_cases h1:i<n
  ·rw[if_pos h1] at h
   have e:i.toNat=j:=Option.some.inj h
   exact⟨by rw[seqIndex_of h0 h1,e],by lia,by lia,h1⟩
  ·rw[if_neg h1] at h;cases h
 ·rw[if_neg h0] at h
  by_cases h1:-(n:Int)<=i
  ·rw[if_pos h1] at h
   have e:(i+n).toNat=j:=Option.some.inj h
   exact⟨by rw[seqIndex_neg (by lia) h1,e],by lia,h1,by lia⟩
  ·rw[if_neg h1] at h;cases h
theorem c0u {α:Type}{xs:List α}{i:Int}{v:α}(h:atI xs i=some v):∃ j,seqIndex? i xs.length=some j/\xs[j]?=some v/\j<xs.length/\-(xs.length:Int)<=i/\i<xs.length:=by
 unfold atI at h
 cases e:ixN xs.length i with
 | none=>rw[e] at h;cases h
 | some j =>
  rw[e] at h
  obtain⟨h1,h2,h3,h4⟩:=b8m e
  exact⟨j,h1,h,h2,h3,h4⟩
theorem c9b {α:Type}{xs:List α}{j:Nat}{v:α}(h:xs[j]?=some v):atI xs (j:Int)=some v:=by
 have hj:j<xs.length:=(List.getElem?_eq_some_iff.mp h).1
 have e:ixN xs.length (j:Int)=some j:=by
  unfold ixN
  rw[if_pos (by lia),if_pos (by lia)];simp
 unfold atI;rw[e];exact h
def c1a (b:Expr):Prop:=∀ o i,subscripted b false o i=operate [o,i] (getItem o i)
def IxR (X:Cx)(r:R2):Prop :=
 ∀ (value slice:Expr)(pins:List (Addr×Obj))(s:Shared)(σ:St)(H:Hp)(x y:V)(v u:Value)(Q:VK),Inv X pins σ H s->RelV x v->RelV y u->r x y H Q ->
  subscripted slice false v u=operate [v,u] (getItem v u)->wpAny (model X.prog X.w) X.A (subscriptTail value slice v u) (EP X pins σ Q) X.xe s
def MtR (X:Cx)(id:String)(r:V->List V->Hp->VK->Prop):Prop :=
 ∀ (pins:List (Addr×Obj))(s:Shared)(σ:St)(H:Hp)(x:V)(xs:List V)(v:Value)(us:List Value)(Q:VK),Inv X pins σ H s->RelV x v->Vals xs us->r x xs H Q ->
  wpAny (model X.prog X.w) X.A (call (.builtin id) (v :: us)) (EP X pins σ Q) X.xe s
section
variable {X:Cx}{a b:Expr}{ta tb:TE}{pos:Pos}
theorem c6q {r:R2}(hr:IxR X r)(ha:PE X a ta)(hb:PE X b tb)(hs:c1a b):PE X (.Subscript a b pos) (tOp r ta tb):=by
 intro pins s σ H Q I h
 exact Subscript_ (e2e ha hb I h λv u s2 x y H2 I2 rx ry q=>hr a b pins s2 σ H2 x y v u Q I2 rx ry q (hs _ _))
def rIxL (K:Γd):R2:=λx y H Q=>∃ p xs i v,x=.ref p/\y=.int i/\SqL K H p xs/\atI xs i=some v/\Q v H
def rIxT (K:Γd):R2:=λx y H Q=>∃ p xs i v,x=.ref p/\y=.int i/\SqT K H p xs/\atI xs i=some v/\Q v H
theorem b8l:IxR X (rIxL X.K):=by
 intro value slice pins s σ H x y v u Q I rx ry h hs
 obtain⟨p,xs,i,z,rfl,rfl,hq,he,q⟩:=h
 cases rx
 obtain⟨t,rfl⟩:=ry
 obtain⟨its,r,pl,hz⟩:=I.list hq
 obtain⟨j,h1,h2,h3,h4,h5⟩:=c0u he
 obtain⟨w,ew,rw'⟩:=r.get h2
 have hl:=r.length
 have hn:=b0k
 have fin:EP X pins σ Q w s:=⟨z,H,I,rw',q⟩
 by_cases h0:0<=i
 ·have hj:i.toNat=j:=by
   rw[seqIndex_of h0 h5] at h1
   exact Option.some.inj h1
  exact item_listR pl.isList h0 (by lia) (by rw[hj];simpa using ew) fin hs
 ·have hj:(i+(its.toArray.size:Int)).toNat=j:=by
   rw[seqIndex_neg (by lia) h4] at h1
   rw[List.size_toArray,<- hl]
   exact Option.some.inj h1
  exact subscriptTail_builtinR (x:=w) pl.isList.typeIs slot_list_getitem.lookup
   (wpAny_getItem_list_neg (Q:=λr s'=>r=w/\EP X pins σ Q r s') pl.isList (by lia) (by rw[List.size_toArray]<;>lia) (by lia) (by rw[hj];simpa using ew) ⟨rfl,fin⟩) hs
theorem d2l:IxR X (rIxT X.K):=by
 intro value slice pins s σ H x y v u Q I rx ry h hs
 obtain⟨p,xs,i,z,rfl,rfl,hq,he,q⟩:=h
 cases rx
 obtain⟨t,rfl⟩:=ry
 obtain⟨its,r,pl,hz⟩:=I.tuple hq
 obtain⟨j,h1,h2,h3,h4,h5⟩:=c0u he
 obtain⟨w,ew,rw'⟩:=r.get h2
 have hl:=r.length
 have hn:=b0k
 have fin:EP X pins σ Q w s:=⟨z,H,I,rw',q⟩
 exact subscriptTail_builtinR (x:=w) pl.typeIs slot_tuple_getitem.lookup
  (getItem_tuple (j:=j) (Q:=λr s'=>r=w/\EP X pins σ Q r s') pl (by lia) (by lia) (by rw[List.size_toArray,<- hl];exact h1) (by simpa using ew) ⟨rfl,fin⟩) hs
theorem b5a (its:List Value) (n j:Nat)(u:Value):Obj.mapSeq (·.setIfInBounds j u) { cls:=.type "list",data:=.seq its.toArray n } = { cls:=.type "list",data:=.seq (its.set j u).toArray n }:=by
 simp[Obj.mapSeq]
theorem Inv.lst {pins:List (Addr×Obj)}{σ:St}{H:Hp}{s:Shared}{p:Addr}{xs:List V}(I:Inv X pins σ H s)(h:H p=some (.lst xs)) :
  ∃ (its:List Value) (n:Nat),Vals xs its/\s.heap.get? p=some { cls:=.type "list",data:=.seq its.toArray n }/\xs.length<=sizeLine:=by
 obtain⟨z,its,n,r,e⟩:=I.hok p _ h
 exact⟨its,n,r,e,z⟩
theorem Inv.lstUpd {pins:List (Addr×Obj)}{σ:St}{H:Hp}{s:Shared}{p:Addr}{xs ys:List V}{its its':List Value}{n n':Nat}{f:Obj->Obj}(I:Inv X pins σ H s)(h:H p=some (.lst xs))
  (ho:s.heap.get? p=some { cls:=.type "list",data:=.seq its.toArray n })(hf:f { cls:=.type "list",data:=.seq its.toArray n } = { cls:=.type "list",data:=.seq its'.toArray n' })(r:Vals ys its')(hz:ys.length<=sizeLine) (t:Nat) :
  Inv X pins σ (upd H p (.lst ys)) { s with heap:=s.heap.update p f,toks:=t }:=by
 have e:(s.heap.update p f).get? p=some { cls:=.type "list",data:=.seq its'.toArray n' }:=by
  rw[Heap.get?_update_self f ho (by rw[hf]<;>rfl),hf]
 refine I.write (x:=p) (e:=p) (by rw[h];trivial) (.inl rfl) (λb u hb q=>(Γf _ _ (Ne.symm hb)).trans q) ⟨_,e⟩ ?_
 exact⟨hz,its',n',r,e⟩
def d7f:V->V->V->Hp->(Hp->Prop)->Prop:=λo i v H Q=>∃ p xs k j,o=.ref p/\i=.int k/\H p=some (.lst xs)/\ixN xs.length k=some j/\Q (upd H p (.lst (xs.set j v)))
theorem c1v:PSet X d7f:=by
 intro pins s σ H o i v ov iv u Q I ro ri rv h
 obtain⟨p,xs,k,j,rfl,rfl,hp,hj,q⟩:=h
 cases ro
 obtain⟨t,rfl⟩:=ri
 obtain⟨its,n,r,ho,hz⟩:=I.lst hp
 obtain⟨h1,h2,h3,h4⟩:=b8m hj
 have hl:=r.length
 have hn:=b0k
 have I':Inv X pins σ (upd H p (.lst (xs.set j v))) { s with heap:=s.heap.update p (Obj.mapSeq (·.setIfInBounds j u)) } :=
  I.lstUpd hp ho (b5a its n j u) (r.set rv j) (by rw[List.length_set];exact hz) s.toks
 by_cases h0:0<=k
 ·have hk:k.toNat=j:=by
   rw[seqIndex_of h0 h4] at h1
   exact Option.some.inj h1
  exact PySem.W.ki_setAt ho h0 (by lia) (by rw[List.size_toArray,<- hl];exact h4) (by rw[hk];exact⟨_,I',q⟩)
 ·have hk:(k+(its.toArray.size:Int)).toNat=j:=by
   rw[seqIndex_neg (by lia) h3] at h1
   rw[List.size_toArray,<- hl]
   exact Option.some.inj h1
  exact PySem.W.ki_setBack ho (by lia) (by rw[List.size_toArray,<- hl];exact h3) (by lia) (by rw[hk];exact⟨_,I',q⟩)
theorem a9v (lo hi:Option Int) (n:Nat):(sliceBounds lo hi none n).1=((HT.sIx n 0 lo:Nat):Int)/\(sliceBounds lo hi none n).2.1=((HT.sIx n n hi:Nat):Int)/\(sliceBounds lo hi none n).2.2=1:=by
 refine⟨?_,?_,rfl⟩
 ·cases lo with
  | none=>simp[sliceBounds,HT.sIx]
  | some i =>
   simp only[sliceBounds,HT.sIx,Option.getD_none,show (1:Int) > 0 by decide,if_true]
   by_cases h:i<0
   ·simp only[h,if_true]<;>lia
   ·simp only[h,if_false]<;>lia
 ·cases hi with
  | none=>simp[sliceBounds,HT.sIx]
  | some i =>
   simp only[sliceBounds,HT.sIx,Option.getD_none,show (1:Int) > 0 by decide,if_true]
   by_cases h:i<0
   ·simp only[h,if_true]<;>lia
   ·simp only[h,if_false]<;>lia
theorem a7x (its:List Value)(lo hi:Option Int):slicePick its.toArray lo hi none=((its.drop (HT.sIx its.length 0 lo)).take (HT.sIx its.length its.length hi-HT.sIx its.length 0 lo)).toArray:=by
 obtain⟨h1,h2,h3⟩:=a9v lo hi its.toArray.size
 unfold slicePick
 rw[h1,h2,h3]
 simp only[sliceRange_one,pick_run,List.size_toArray]<;>rfl
def rSlL (K:Γd):V->Option Int->Option Int->Hp->VK->Prop:=λx lo hi H Q=>∃ a xs,x=.ref a/\SqL K H a xs/\∀ p,H p=none->Q (.ref p) (upd H p (.lst (c5d xs lo hi)))
theorem b6p:SlR X (rSlL X.K):=by
 intro pins s σ H x v vl vu lo hi sl Q I rx hs pl pu h
 obtain⟨a,xs,rfl,hx,q⟩:=h
 cases rx
 obtain⟨its,r,ht,hz⟩:=I.list hx
 have hlen:=r.length
 refine⟨"list",_,slot_list_getitem.lookup,ht.isList.typeIs,?_⟩
 refine wpAny_getItem_list_slice ht.isList hs pl pu .none (by simp) ?_ (by rw[List.size_toArray]<;>lia)
 rw[a7x,<- hlen]
 refine⟨.ref s.heap.objs.size,_,I.laid (t':=s.toks) (o:=.lst (c5d xs lo hi)) (λb ob q=>Γc _ q) (Γi _) ?_,rfl,q _ (I.hok.fresh (Γi _))⟩
 exact⟨Nat.le_trans (a6l xs lo hi) hz,_,0,(r.drop (HT.sIx xs.length 0 lo)).take (HT.sIx xs.length xs.length hi-HT.sIx xs.length 0 lo),Γm _ rfl⟩
theorem b1i:a1j X (.builtin "len") (λxs H Q=>∃ p ys,xs=[.ref p]/\(SqL X.K H p ys ∨ SqT X.K H p ys)/\Q (.int ys.length) H):=by
 intro pins s σ H xs us Q I r h
 obtain⟨p,ys,rfl,hq,q⟩:=h
 obtain⟨u,rfl,rx⟩:=a3l r
 cases rx
 have hn:=b0k
 rcases hq with hq|hq
 ·obtain⟨its,r',pl,hz⟩:=I.list hq
  have hlen:=r'.length
  exact Calls.call_len_list pl.isList (by simp only[List.size_toArray]<;>lia) ⟨.int ys.length,H,I.tok _,⟨s.toks+1,by rw[List.size_toArray,hlen]⟩,q⟩
 ·obtain⟨its,r',pl,hz⟩:=I.tuple hq
  have hlen:=r'.length
  exact len_tuple pl (by simp only[List.size_toArray]<;>lia) ⟨.int ys.length,H,I.tok _,⟨s.toks+1,by rw[List.size_toArray,hlen]⟩,q⟩
theorem b1h:a1j X (.type "list") (λxs H Q=>∃ p ys,xs=[.ref p]/\(SqL X.K H p ys ∨ SqT X.K H p ys)/\∀ l,H l=none->Q (.ref l) (upd H l (.lst ys))):=by
 intro pins s σ H xs us Q I r h
 obtain⟨p,ys,rfl,hq,q⟩:=h
 obtain⟨u,rfl,rx⟩:=a3l r
 cases rx
 have fin:∀ (its:List Value),Vals ys its->ys.length<=sizeLine->∀ (h':Heap) (c':Nat),(∀ b o',s.heap.get? b=some o'->h'.get? b=some o') ->
   h'.get? s.heap.objs.size=some { cls:=.type "list",dict:=none,data:=.seq its.toArray c',slots:=#[] }->EP X pins σ Q (.ref s.heap.objs.size) { s with heap:=h' }:=λits r' hz h' c' kp e =>
  ⟨.ref s.heap.objs.size,_,I.laid (t':=s.toks) kp (Γi _) (show ObjOk X.prog X.w _ h' _ (.lst ys) from ⟨hz,its,c',r',e⟩),rfl,q _ (I.hok.fresh (Γi _))⟩
 rcases hq with hq|hq
 ·obtain⟨its,r',pl,hz⟩:=I.list hq
  have hlen:=r'.length
  obtain⟨o,ho,hc,n,hd⟩:=pl.isList
  exact call_list_seq p (.inl rfl) ho hc hd (λh' c' kp e=>fin its r' hz h' c' kp e) (by simp only[List.size_toArray]<;>lia)
 ·obtain⟨its,r',pl,hz⟩:=I.tuple hq
  have hlen:=r'.length
  obtain⟨o,ho,hc,n,hd⟩:=pl
  exact call_list_seq p (.inr rfl) ho hc hd (λh' c' kp e=>fin its r' hz h' c' kp e) (by simp only[List.size_toArray]<;>lia)
theorem a3d:a1j X (.type "tuple") (λxs H Q=>∃ p ys,xs=[.ref p]/\((SqL X.K H p ys/\∀ l,H l=none->Q (.ref l) (upd H l (.tup ys))) ∨ (SqT X.K H p ys/\Q (.ref p) H))):=by
 intro pins s σ H xs us Q I r h
 obtain⟨p,ys,rfl,h⟩:=h
 obtain⟨u,rfl,rx⟩:=a3l r
 cases rx
 rcases h with⟨hq,q⟩|⟨hq,q⟩
 ·obtain⟨its,r',pl,hz⟩:=I.list hq
  have hlen:=r'.length
  refine call_tuple_list pl.isList (λh' kp=>?_) (by simp only[List.size_toArray]<;>lia)
  have I1:Inv X pins σ H { s with heap:=h' }:=I.kept (t':=s.toks) kp
  have I2:Inv X pins σ (upd H h'.objs.size (.tup ys)) { s with heap:=h'.push { cls:=.type "tuple",data:=.seq its.toArray } } :=
   I1.laid (t':=s.toks) (λb o e=>Γc _ e) (Γi _) (show ObjOk X.prog X.w _ _ _ (.tup ys) from ⟨hz,its,r',IsTup.new _ _⟩)
  exact⟨.ref h'.objs.size,_,I2,rfl,q _ (I1.hok.fresh (Γi _))⟩
 ·obtain⟨its,r',pl,hz⟩:=I.tuple hq
  exact call_tuple_same pl ⟨.ref p,H,I,rfl,q⟩
def tyV (K:Γd)(T:String)(x:V)(H:Hp):Prop:=match x with
 | .str _=>T = "str"
 | .int _=>T = "int"
 | .ref p=>(T = "list"/\∃ xs,SqL K H p xs) ∨ (T = "tuple"/\∃ o,K.lookup p=some o/\o.cls=.type "tuple"/\o.dict=none) ∨
   (T = "dict"/\((∃ kvs,H p=some (.dK kvs)) ∨ ∃ kvs,H p=some (.dT kvs))) ∨ (T = "set"/\∃ S n,H p=some (.set S n))
 | _=>False
theorem c9o {pins:List (Addr×Obj)}{σ:St}{H:Hp}{s:Shared}{T:String}{x:V}{v:Value}(I:Inv X pins σ H s)(r:RelV x v)(ty:tyV X.K T x H) :
  s.TypeIs v T/\∀ a,v=.ref a->∃ ob,s.heap.get? a=some ob/\ob.dict=none:=by
 cases x with
 | str z =>
  obtain⟨t,rfl⟩:=r
  cases (show T = "str" from ty)
  exact⟨typeIs_str s z t,λ_ e=>nomatch e⟩
 | int i =>
  obtain⟨t,rfl⟩:=r
  cases (show T = "int" from ty)
  exact⟨typeIs_int s i t,λ_ e=>nomatch e⟩
 | ref p =>
  cases r
  rcases ty with⟨rfl,xs,hq⟩|⟨rfl,o,hk,hc,hd⟩|⟨rfl,hk⟩|⟨rfl,S,n,hk⟩
  ·obtain⟨its,_,pl,_⟩:=I.list hq
   refine⟨pl.isList.typeIs,λa e=>?_⟩
   cases e
   obtain⟨o,n,e,c,hd,_⟩:=pl
   exact⟨o,e,hd⟩
  ·refine⟨⟨o,I.kIn p o hk,hc⟩,λa e=>?_⟩
   cases e
   exact⟨o,I.kIn _ o hk,hd⟩
  ·have z:∃ o,s.heap.get? p=some o/\o.ExactDict:=by
    rcases hk with⟨kvs,hk⟩|⟨kvs,hk⟩
    ·obtain⟨_,_,_,_,o,_,_,e,ex,_⟩:=I.hok p _ hk
     exact⟨o,e,ex⟩
    ·obtain⟨_,_,_,_,o,_,_,e,ex,_⟩:=I.hok p _ hk
     exact⟨o,e,ex⟩
   obtain⟨o,e,ex⟩:=z
   refine⟨⟨o,e,ex.1⟩,λa e2=>?_⟩
   cases e2
   exact⟨o,e,ex.2.1⟩
  ·obtain⟨o,_,_,_,e,ex,_⟩:=I.hok p _ hk
   refine⟨⟨o,e,ex.1⟩,λa e2=>?_⟩
   cases e2
   exact⟨o,e,ex.2.1⟩
 | _=>exact False.elim ty
def tBM (K:Γd)(T:String)(r:V->List V->Hp->VK->Prop)(to:TE)(t:TA):TE:=λσ H Q=>to σ H λx H1=>tyV K T x H1/\t σ H1 λxs H2=>r x xs H2 Q
variable {o e:Expr}{es:List Expr}{to:TE}{t:TA}{name:Str}{apos cpos:Pos}{T id:String}{r:V->List V->Hp->VK->Prop}
theorem c6t (pa:PlainAttrs T)(slot:Slot T name id)(hty:typeOf (.builtin id)=pure (.type "method_descriptor"))(hm:MtR X id r)(ho:PE X o to)(ha:PA X (e :: es) t)
  (hbase:attributeBase o name X.env (eval o X.env)=eval o X.env:=by rfl)
  (hfew:((backTo cpos (starEach (e :: es) X.env)).all (λx=>!x.1) && (backToKw cpos (keywordEach [] X.env)).all (λx=>x.1.isSome)
   && decide ((e :: es).length+([]:List Keyword).length+(if ([]:List Keyword).isEmpty then 0 else 1)<30))=true:=by rfl)
  (hline:(apos.endLine == cpos.line)=true:=by rfl)(hs:starEach (e :: es) X.env=(false,eval e X.env) :: starEach es X.env:=by rfl)(hplain:(backTo cpos (starEach es X.env)).any (·.1)=false:=by rfl) :
  PE X (.Call (.Attribute o name apos) (e :: es) [] cpos) (tBM X.K T r to t):=by
 intro pins s σ H Q I h
 refine wpAny_Call_method_late hbase hfew hline rfl (thn (ho pins s σ H _ I h) λv s1 ⟨x,H1,I1,r1,ty,q1⟩=>?_)
 obtain⟨h1,h2⟩:=c9o I1 r1 ty
 refine⟨T,id,pa,slot,hty,h1,h2,?_⟩
 have hA:=ha cpos pins s1 σ H1 _ I1 q1
 rw[hs] at hA ⊢
 refine Calls.callWith_builtin (by show (false || (backTo cpos (starEach es X.env)).any (·.1))=false;rw[hplain]<;>rfl) (Calls.evalArgs_plain ?_)
 exact thn hA λus s2 ⟨vs,H2,I2,r2,q2⟩=>hm pins s2 σ H2 x vs v us Q I2 r1 r2 q2
end
end L2
namespace L2
open PySem PySem.Spec PyProof.Rows
def MtM (X:Cx)(id:String)(r:V->List V->Hp->VK->Prop):Prop :=
 ∀ (pins:List (Addr×Obj))(s:Shared)(σ:St)(H:Hp)(x:V)(xs:List V)(v:Value)(us:List Value)(Q:VK),Inv X pins σ H s->RelV x v->Vals xs us->r x xs H Q ->
  wpAny (model X.prog X.w) X.A (call (.builtin id) (v :: us)) (EP X pins σ Q) X.xe s
theorem Vals.one:∀ {x:V}{us:List Value},Vals [x] us->∃ u,us=[u]/\RelV x u
 | _,_,.cons r .nil=>⟨_,rfl,r⟩
theorem Vals.rep {xs:List V}{us:List Value}(h:Vals xs us):∀ k:Nat,Vals (Γj k xs).flatten (Γj k us).flatten
 | 0=>.nil
 | k+1=>by
  rw[List.replicate_succ,List.replicate_succ,List.flatten_cons,List.flatten_cons]
  exact Vals.append h (Vals.rep h k)
theorem b0r (its:List Value):∀ (k:Nat)(acc:List Value),
  List.foldl (λx1 x2=>x1++x2) acc.toArray (Γj k its.toArray)=(acc++(Γj k its).flatten).toArray
 | 0,acc=>by simp
 | k+1,acc=>by
  have e:acc.toArray++its.toArray=(acc++its).toArray:=by simp
  have e2:(acc++its)++(Γj k its).flatten=acc++(Γj (k+1) its).flatten:=by
   rw[List.replicate_succ,List.flatten_cons,List.append_assoc]
  rw[<- e2,<- b0r its k (acc++its),<- e,List.replicate_succ,List.foldl_cons]
section
variable {X:Cx}{pins:List (Addr×Obj)}{σ:St}{H:Hp}{s:Shared}{l b:Addr}{xs ys zs:List V}
theorem Inv.lset {its its':List Value}{n:Nat}{f:Array Value->Array Value}{t':Nat}(I:Inv X pins σ H s)(hH:H l=some (.lst xs))
  (e:s.heap.get? l=some { cls:=.type "list",data:=.seq its.toArray n })(hf:f its.toArray=its'.toArray)(hv:Vals ys its')(hz:ys.length<=sizeLine) :
  Inv X pins σ (upd H l (.lst ys)) { s with heap:=s.heap.update l (Obj.mapSeq f),toks:=t' }:=by
 have q:=PySem.IsL.update e f
 rw[hf] at q
 refine I.write (x:=l) (e:=l) (by rw[hH];exact trivial) (.inl rfl) (λb' u hb hu=>(Γf s.heap (Obj.mapSeq f) (Ne.symm hb)).trans hu) ⟨_,q⟩ ?_
 exact⟨hz,its',_,hv,q⟩
theorem Inv.lnew {its:List Value}{t':Nat}(I:Inv X pins σ H s)(hv:Vals ys its)(hz:ys.length<=sizeLine) :
  Inv X pins σ (upd H s.heap.objs.size (.lst ys)) { s with heap:=s.heap.push { cls:=.type "list",data:=.seq its.toArray },toks:=t' } :=
 I.laid (λ_ _ q=>Γc _ q) (Γi _) ⟨hz,its,0,hv,Γm _ rfl⟩
theorem Inv.fresh (I:Inv X pins σ H s):H s.heap.objs.size=none:=I.hok.fresh (Γi _)
theorem Inv.lstM (I:Inv X pins σ H s)(hH:H l=some (.lst xs)):xs.length<=sizeLine/\∃ (its:List Value) (n:Nat),Vals xs its/\xs.length=its.length/\s.heap.get? l=some { cls:=.type "list",data:=.seq its.toArray n }:=by
 obtain⟨z,its,n,r,e⟩:=I.hok l _ hH
 exact⟨z,its,n,r,r.length,e⟩
theorem a5o {n:Nat}(h:n<=sizeLine):Builtin.List.listTooLong n=false:=by
 unfold Builtin.List.listTooLong
 exact decide_eq_false (by lia)
end
section
variable {X:Cx}
def c6b:V->List V->Hp->VK->Prop:=λx vs H Q=>∃ l xs y,x=.ref l/\vs=[y]/\H l=some (.lst xs)/\xs.length<sizeLine/\Q .non (upd H l (.lst (xs++[y])))
theorem a5y:MtM X "list.append" c6b:=by
 intro pins s σ H x vs v us Q I rx rv h
 obtain⟨l,xs,y,rfl,rfl,hH,hz,q⟩:=h
 cases rx
 obtain⟨u,rfl,ru⟩:=rv.one
 obtain⟨z,its,n,r,hl,e⟩:=I.lstM hH
 refine call_meets F.slot_list_append ⟨_,e,rfl⟩ F.entry_list_append (F.args_list_append_2 _ _) (PySem.list_append l its.toArray n u (by rw[List.size_toArray];lia)) ⟨e,?_⟩
 refine⟨.non,_,I.lset (its':=its++[u]) hH e (by simp) (r.append (.cons ru .nil)) ?_,rfl,q⟩
 rw[List.length_append,List.length_singleton]
 lia
def b6v:V->List V->Hp->VK->Prop:=λx vs H Q=>∃ l b xs zs,x=.ref l/\vs=[.ref b]/\H l=some (.lst xs)/\H b=some (.lst zs)/\xs.length+zs.length<=sizeLine/\Q .non (upd H l (.lst (xs++zs)))
theorem b7y:MtM X "list.extend" b6v:=by
 intro pins s σ H x vs v us Q I rx rv h
 obtain⟨l,b,xs,zs,rfl,rfl,hH,hB,hz,q⟩:=h
 cases rx
 obtain⟨u,rfl,ru⟩:=rv.one
 cases ru
 obtain⟨z,its,n,r,hl,e⟩:=I.lstM hH
 obtain⟨z2,its2,n2,r2,hl2,e2⟩:=I.lstM hB
 have hsz:its.toArray.size+its2.toArray.size<=sizeLine:=by rw[List.size_toArray,List.size_toArray];lia
 have hlong:¬ (!its.toArray.isEmpty && Builtin.List.listTooLong (its.toArray.size+its2.toArray.size))=true:=by
  rw[a5o hsz,Bool.and_false]
  exact Γk
 refine call_meets F.slot_list_extend ⟨_,e,rfl⟩ F.entry_list_extend (F.args_list_extend_2 _ _)
  (AutoSeq1.list_extend_list_list_0 l its.toArray n b its2.toArray n2 hlong (by rw[List.size_toArray];lia) (by lia)) ⟨e,e2,?_⟩
 refine⟨.non,_,I.lset (its':=its++its2) hH e (by simp) (r.append r2) ?_,rfl,q⟩
 rw[List.length_append]
 lia
def rCat:R2:=λx y H Q=>∃ l b xs zs,x=.ref l/\y=.ref b/\H l=some (.lst xs)/\H b=some (.lst zs)/\xs.length+zs.length<=sizeLine/\∀ p,H p=none->Q (.ref p) (upd H p (.lst (xs++zs)))
theorem d1n:OpR X (binaryOp .Add) rCat:=by
 intro pins s σ H x y v u Q I rx ry h
 obtain⟨l,b,xs,zs,rfl,rfl,hH,hB,hz,q⟩:=h
 cases rx
 cases ry
 obtain⟨z,its,n,r,hl,e⟩:=I.lstM hH
 obtain⟨z2,its2,n2,r2,hl2,e2⟩:=I.lstM hB
 refine PySem.P.add_list e e2 ?_ (by rw[List.size_toArray,List.size_toArray];lia)
 have ea:its.toArray++its2.toArray=(its++its2).toArray:=by simp
 rw[ea]
 exact⟨.ref _,_,I.lnew (t':=s.toks) (r.append r2) (by rw[List.length_append];lia),rfl,q _ I.fresh⟩
def rRep:R2:=λx y H Q=>∃ l k xs,x=.ref l/\y=.int k/\H l=some (.lst xs)/\-(2 ^ 63)<=k/\k<2 ^ 63/\xs.length*k.toNat<=sizeLine /\
 ∀ p,H p=none->Q (.ref p) (upd H p (.lst (Γj k.toNat xs).flatten))
theorem c7n {α:Type}(xs:List α) (k:Nat):(Γj k xs).flatten.length=k*xs.length:=by
 induction k with
 | zero=>simp
 | succ k ih=>rw[List.replicate_succ,List.flatten_cons,List.length_append,ih,Nat.succ_mul,Nat.add_comm]
theorem d1j:OpR X (binaryOp .Mult) rRep:=by
 intro pins s σ H x y v u Q I rx ry h
 obtain⟨l,k,xs,rfl,rfl,hH,h1,h2,hz,q⟩:=h
 cases rx
 obtain⟨t,rfl⟩:=ry
 obtain⟨z,its,n,r,hl,e⟩:=I.lstM hH
 have hlen:its.toArray.size*k.toNat<=sizeLine:=by rw[List.size_toArray,<- hl];exact hz
 have hcap:¬ its.toArray.size*k.toNat > (2 ^ 63-1) / 8:=by
  have:(sizeLine:Nat)<=(2 ^ 63-1) / 8:=by decide
  lia
 have hfit:¬ (!Builtin.List.listFitsIndex k)=true:=by
  rw[fitsIndex_both h1 h2]
  exact Γk
 have hlong:¬ Builtin.List.listTooLong (its.toArray.size*k.toNat)=true:=by
  rw[a5o hlen]
  exact Γk
 have hnew:List.foldl (λx1 x2=>x1++x2) #[] (Γj (if its.toArray.isEmpty=true then 0 else k.toNat) its.toArray)=(Γj k.toNat its).flatten.toArray:=by
  have f0:∀ m:Nat,List.foldl (λx1 x2=>x1++x2) #[] (Γj m its.toArray)=(Γj m its).flatten.toArray:=λm=>by
   have:=b0r its m []
   rw[List.nil_append] at this
   exact this
  rw[f0]
  cases its with
  | nil=>simp
  | cons a r'=>rw[if_neg (by simp)]
 refine wpAny_binaryOp_repeat_ref (T:="list") (U:="int") (by decide) ⟨_,e,rfl⟩ (λs'=>typeIs_int s' k t) noFill_list_mul F.fills_int_mul F.slot_int_rmul repeat_list F.slot_int_index.lookup
  (call_meets F.slot_int_rmul (typeIs_int s k t) F.entry_int_rmul (F.args_int_rmul_2 _ _) (int___rmul___int_list k t l its.toArray n)
   ⟨e,rfl,⟨_,e,rfl⟩,call_meets F.slot_list_mul ⟨_,e,rfl⟩ F.entry_list_mul (F.args_list_mul_2 _ _) (AutoListH.list___mul___list_int_3 l its.toArray n k t hfit hcap hlong) ⟨e,?_⟩⟩)
 rw[hnew]
 exact⟨.ref _,_,I.lnew (t':=s.toks) (r.rep k.toNat) (by rw[c7n,Nat.mul_comm];exact hz),rfl,q _ I.fresh⟩
end
section
variable {prog:Program}{w:World}{A:Around}{E:Value->Shared->Prop}{s:Shared}
set_option maxRecDepth 100000 in
end
section
variable {X:Cx}
end
end L2
namespace Att
open PySem PySem.W PySem.Calls PyProof.Rows
theorem a6g {P:Params}{h:Heap}:∀ (ns:List Int)(vs:List Value),WellAll P h vs (ns.map WData.int)->IntsAre vs ns:=by
 intro ns
 induction ns with
 | nil =>
  intro vs w
  rw[List.map_nil] at w
  cases w
  exact .nil
 | cons n ns ih =>
  intro vs w
  rw[List.map_cons] at w
  cases w with
  | cons a b =>
   cases a
   exact .cons _ _ (ih _ b)
theorem b6r {l:OpenLaw}{n:Nat}(hn:l.most=some n){P:Params}{h:Heap}{args:List WData}{vals:List Value}
  (hpre:l.row.toRowW.claim.pre args=true)(hwl:WellAll P h vals args) :
  ∃ a vs ns,vals=[Value.ref a]/\args=[WData.list (ns.map WData.int)]/\h.get? a=some { cls:=.type "list",data:=.seq vs.toArray }/\IntsAre vs ns/\ns.length<=n:=by
 have hsh:WShape.hasAll [] args [.list .int]=true:=(pre_splitW hpre).1
 have hc:l.pre.holds [] { args:=args } = true:=(pre_splitW hpre).2
 obtain⟨d,r,rfl,h1,h2⟩:=hasAllW_cons hsh
 obtain rfl:=hasAllW_nil h2
 obtain⟨xs,rfl,h3⟩:=hasW_list h1
 obtain⟨ns,rfl⟩:=items_int h3
 have hlen:ns.length<=n:=by
  unfold OpenLaw.pre at hc
  have h4:(WTm.not (.lt (.lit (.int (n:Int))) (.len (.arg 0)))).holds [] { args:=[.list (ns.map .int)] } = true:=by
   have h4:=(holds_andW hc).1
   rw[hn] at h4
   exact h4
  have h5:=condW_of h4 (w_not (w_lt w_lit (w_len_list (w_arg rfl))))
  rw[List.length_map] at h5
  refine Nat.le_of_not_lt λq=>?_
  have q':(n:Int)<((ns.length:Nat):Int):=by lia
  first
   | (rw[decide_eq_true q'] at h5;exact absurd h5 (by decide))
   | (simp at h5;lia)
 cases hwl with
 | cons w1 w2 =>
  cases w2
  cases w1 with
  | list ho hall=>exact⟨_,_,ns,rfl,rfl,ho,a6g ns _ hall,hlen⟩
theorem b7i (l:OpenLaw)(args:List WData):l.row.toRowW.claim.post args (.bool true) args=true :=
 postW_of (r:=l.row.toRowW) (X:=(true == true))
  (show WShape.has [] (.bool true) .bool=true by first|rfl|decide|simp[WShape.has,WShape.arms,WShape.armsAll])
  (show (WTm.eq .res (.lit (.bool true))).value [] { args:=args,res:=some (.bool true),after:=args } = some (.bool (true == true)) from w_eq_bool (w_res rfl) w_lit) rfl
theorem attach_call {l:OpenLaw}{n:Nat}{q:Program}{loose:List Str}{XP:(Str->Option Value)->Heap->Prop}{YP:World->Heap->Prop}{d:DefRec}
  (hn:l.most=some n)(hdf:d.params.defaults=[])
  (call:∀ (w:World)(s₀ s₁:Shared)(mg mb:Str->Option Value)(fa:Addr)(o:Obj)(pm cd doc:Value)(a:Addr)(vs:List Value)(ns:List Int),
   Ground q loose [] XP w s₀ mg mb s₁.heap->YP w s₁.heap ->
   s₁.heap.get? fa=some o->o.data=.func (docDef d.name d.params d.body d.scope pm cd doc)->s₁.heap.CodeRec cd d.name->mg d.name=some (.ref fa) ->
   s₁.heap.get? a=some { cls:=.type "list",data:=.seq vs.toArray }->IntsAre vs ns->ns.length<=n->s₁.gens = #[] ->
   codeAny (model l.prog w) callerA (.call (.ref fa) ⟨[.ref a],[]⟩) (λr s'=>r=.ok (.ret (.bool true))/\OldK s₁.heap s'.heap/\s'.os=s₁.os/\AllBare s'.gens) s₁) :
  WalkO q loose XP YP l.row.toRowW d [] (λf vs=>PySem.call f vs):=by
 intro w s₀ s₁ mg mb G Y fa o pm cd doc dV kV ho hd hcd hD hmg hg args vals as hpre hlay hrd hwl hlo
 obtain rfl:dV=.none:=Dflts.none hD hdf
 obtain rfl:kV=.none:=Dflts.noKw hD
 obtain⟨a,vs,ns,rfl,rfl,hobj,hints,hlen⟩:=b6r hn hpre hwl
 refine enter_call (codeAny_mono (call w s₀ s₁ mg mb fa o pm cd doc a vs ns G Y ho (fd_plain hd) hcd hmg hobj hints hlen hg) λr s' hq=>?_)
 obtain⟨rfl,h2,h3,h4⟩:=hq
 exact⟨.inl ⟨.bool true,.bool true,[],rfl,λ_=>rfl,.bool true,b7i l _,λ_=>⟨List.Pairwise.nil,λ_ hm=>(nomatch hm)⟩⟩,h2,h3,h4⟩
section
variable {prog:Program}{w:World}{A:Around}{E:Value->Shared->Prop}{s:Shared}{K:Frag}
end
end Att
namespace L2
open PySem PySem.Spec PyProof.Rows
theorem a9o:∀ {vs:List Value}{ns:List Int},IntsAre vs ns->Vals (ns.map V.int) vs
 | _,_,.nil=>.nil
 | _,_,.cons n t h=>.cons ⟨t,rfl⟩ (a9o h)
def d5v (H:Hp):Prop:=∀ b,H b=none ∨ ∃ o xs,H b=some (.frz o (.lst xs))
theorem c3c {P:Program}{w:World}{K:Γd}{mg mb:Str->Option Value}{CX:CXT}{k:Nat}{fa a:Addr}{fd:FuncData}{x:Str}{sp:Sp}{s₁:Shared}{vs:List Value}{ns:List Int}
  (KX:K.In s₁.heap)(hns:s₁.heap.Ns mainGlobals mg)(hb:s₁.heap.Ns builtinsNs mb)(hbb:∀ x:Str,x≠"__name__"->mb x=bootBuiltins x)(hlim:s₁.heap.NoLimit)(hg:s₁.gens = #[])
  (ha:s₁.heap.get? a=some { cls:=.type "list",data:=.seq vs.toArray })(hi:IntsAre vs ns)(hl:ns.length<=sizeLine)(hr:Room k callerA)
  (F:∀ base:Heap,K.In base->base.Ns mainGlobals mg->FnOk P w K mg base CX k fa fd [x] sp)(hbind:∀ (s:Shared)(u:Value),BindsTo s fd ⟨[u],[]⟩ [(x,u)])
  (hsp:∀ H:Hp,d5v H->SqL K H a (ns.map V.int)->sp [.ref a] H (λv _=>v=.bl true) λ_ _ _=>False)
  (hCX:∀ H e s',CX [] H s₁ (λ_ _ _=>False) e s'->False) :
  codeAny (model P w) callerA (.call (.ref fa) ⟨[.ref a],[]⟩) (λr s'=>r=.ok (.ret (.bool true))/\OldK s₁.heap s'.heap/\s'.os=s₁.os/\AllBare s'.gens) s₁:=by
 have rv:=a9o hi
 have lenV:=hi.length
 -- from an abstract heap in which nothing but the script may be tracked
 have core:∀ H:Hp,d5v H->SqL K H a (ns.map V.int)->HOk P w H s₁.heap->(∀ b,H b≠none->b=a)->(H a≠none->K.lookup a=none) ->
   codeAny (model P w) callerA (.call (.ref fa) ⟨[.ref a],[]⟩) (λr s'=>r=.ok (.ret (.bool true))/\OldK s₁.heap s'.heap/\s'.os=s₁.os/\AllBare s'.gens) s₁:=by
  intro H hO hS hok hA hK
  have base_of:∀ {b:Addr}{o:Obj},s₁.heap.get? b=some o->H b=none->(c3l s₁.heap H).get? b=some o:=λe n=>c3k e n
  have noA:∀ {b:Addr}{o:Obj}{es:Array DictEntry}{ep:Nat},s₁.heap.get? b=some o->o.data=.dict es ep->H b=none:=λ{b o es ep} e d=>by
   cases q:H b with
   | none=>rfl
   | some u =>
    have e':b=a:=hA b (by rw[q];simp)
    subst e'
    rw[ha] at e;cases e
    have d':Data.seq vs.toArray _=Data.dict es ep:=d
    cases d'
  have nsK:∀ {b:Addr}{m:Str->Option Value},s₁.heap.Ns b m->(c3l s₁.heap H).Ns b m:=λ{b m} ⟨o,es,ep,e,d,r⟩=>⟨o,es,ep,base_of e (noA e d),d,r⟩
  have hKb:K.In (c3l s₁.heap H):=λb o e=>base_of (KX b o e) (by
   cases q:H b with
   | none=>rfl
   | some u =>
    have e':b=a:=hA b (by rw[q];simp)
    subst e'
    rw[hK (by rw[q];simp)] at e;cases e)
  have hM:Mod K mg (c3l s₁.heap H):=⟨hKb,nsK hns,⟨mb,nsK hb,hbb⟩,let ⟨mc,h1,h2⟩:=hlim;⟨mc,nsK h1,h2⟩⟩
  have e0:Env0 P w K mg (c3l s₁.heap H) callerA [] s₁ H:=⟨rfl,hM,λb o e=>c7d e,Nat.le_of_eq (b9b _ _),trivial,λb hb=>absurd (show b∈([]:List Addr) from hb) (by simp),hok,.of_eq hg⟩
  refine codeAny_mono ((F _ hKb (nsK hns)).run callerA [] s₁ H ⟨[.ref a],[]⟩ [.ref a] [.ref a] _ _ hr e0 (hbind s₁ (.ref a)) (.cons rfl .nil) (hsp H hO hS)) λr s' h=>?_
  cases r with
  | error e=>exact (hCX H e s' h).elim
  | ok fl =>
   cases fl with
   | next=>exact False.elim h
   | brk=>exact False.elim h
   | cont=>exact False.elim h
   | ret u =>
    obtain⟨v,H',os,bare,un,hok',r',q⟩:=h
    have q':v=.bl true:=q
    subst q'
    obtain rfl:u=Value.bool true:=r'
    refine⟨rfl,OldK.of_keep λb o e=>?_,os,bare⟩
    cases q:H b with
    | none=>exact un.keep b o e q (by intro z;exact absurd (show b∈([]:List Addr) from z) (by simp)) (by simp)
    | some u =>
     rcases hO b with z|⟨ob,xs,z⟩
     ·rw[q] at z;cases z
     ·have z2:=un.frzs b ob _ z
      obtain⟨e1,_⟩:=hok b _ z
      obtain⟨e2,_⟩:=hok' b _ z2
      rw[e] at e1;cases e1
      exact e2
 cases hk:K.lookup a with
 | some o =>
  -- the script is one of the module's own objects
  have e:=KX a o hk
  rw[ha] at e
  cases e
  refine core (λ_=>none) (λ_=>.inl rfl) (.inr ⟨_,vs.toArray,_,hk,rfl,rfl,rfl,by rw[List.size_toArray,lenV];exact hl,by simpa using rv⟩) (λb u z=>by have z':(none:Option HO)=some u:=z;cases z') (λb z=>absurd rfl z) λz=>absurd rfl z
 | none =>
  refine core (λb=>if b=a then some (.frz { cls:=.type "list",data:=.seq vs.toArray } (.lst (ns.map V.int))) else none) (λb=>?_) (.inl (.inr ⟨{ cls:=.type "list",data:=.seq vs.toArray },if_pos rfl⟩)) (λb u z=>?_) (λb z=>?_) λ_=>hk
  ·by_cases hb:b=a
   ·exact .inr ⟨_,_,if_pos hb⟩
   ·exact .inl (if_neg hb)
  ·by_cases hb:b=a
   ·have z':=(if_pos hb).symm.trans z
    cases z'
    subst hb
    exact⟨ha,by rw[List.length_map];exact hl,vs,_,rv,ha⟩
   ·have z':=(if_neg hb).symm.trans z
    cases z'
  ·by_cases hb:b=a
   ·exact hb
   ·exact absurd (if_neg hb) z
end L2
namespace L2
open PySem PySem.Spec PyProof.Rows
end L2
namespace L2
open PySem PySem.Spec PyProof.Rows
def a4z (s:Stmt):Arguments:=match s with
 | .FunctionDef _ a _ _ _ _ _ _ _ _=>a
 | _=>{ posonlyargs:=[],args:=[],vararg:=none,kwonlyargs:=[],kw_defaults:=[],kwarg:=none,defaults:=[] }
def a2c (s:Stmt):List Stmt:=match s with
 | .FunctionDef _ _ b _ _ _ _ _ _ _=>b
 | _=>[]
def a0s (s:Stmt):Scope:=match s with
 | .FunctionDef _ _ _ _ _ _ sc _ _ _=>sc
 | _=>{ kind:=.function,names:=[],isGenerator:=false,isCoroutine:=false }
abbrev CX0:CXT:=λ_ _ _ _ _ _=>False
abbrev E0:XK:=λ_ _ _=>False
theorem d7x {X:Cx}:c1b CX0 X E0:=λ_ _ _ _ _ _ _ h=>h.elim
structure Fun (K:Γd)(x qual:Str)(st:Stmt)(f:Addr)(fd:FuncData):Prop where
 ex:∃ (oc:Value)(od:Option Addr)(kV doc pm:Value)(an:Option Addr)(cdv ct:Value)(osl:Array (Option Value)),
  fd=PySem.W.fnOf x qual (a4z st) (a2c st) (a0s st) .none kV doc pm an cdv ct/\K.lookup f=some ⟨oc,od,.func fd,osl⟩/\PySem.W.codeIn K cdv qual=true
 kp:PySem.W.keepIn K (.ref f)=true
section
variable {P:Program}{w:World}{K:Γd}{mg:Str->Option Value}{base:Heap}
theorem Fun.ok {x qual:Str}{st:Stmt}{f:Addr}{fd:FuncData}{N ps:List Str}{k:Nat}{sp:Sp}(F:Fun K x qual st f fd)(S:FnScope N ps (a0s st))(len:∀ vs H Q E,sp vs H Q E->vs.length=ps.length)
  (hbody:∀ (cdv:Value)(A:Around)(outer:List Env)(s:Shared)(H:Hp)(vs:List V)(Q:VK)(E:XK),RoomS k (A.deeper (envOfC qual (a0s st) s.heap.objs.size f cdv))->sp vs H Q E ->
   ∃ t,PSs (c8u CX0 P w K mg base N qual (a0s st) f cdv A outer s H E).nox (a2c st) t/\t { nx:=λ_ H'=>Q .non H',rt:=Q } (start N vs) H):FnOk P w K mg base CX0 (k+1) f fd ps sp:=by
 obtain⟨oc,od,kV,doc,pm,an,cdv,ct,osl,rfl,lk,hcd⟩:=F.ex
 refine d9l lk hcd S len λA outer s H vs Q E hr hsp=>?_
 obtain⟨t,h,q⟩:=hbody cdv A outer s H vs Q E hr hsp
 exact⟨t,h.nox,q⟩
theorem Fun.binds {x qual:Str}{st:Stmt}{f:Addr}{fd:FuncData}{ps:List Str}(F:Fun K x qual st f fd)
  (h:∀ (kV doc pm:Value)(an:Option Addr)(cdv ct:Value)(us:List Value),us.length=ps.length->bindArgs (PySem.W.fnOf x qual (a4z st) (a2c st) (a0s st) .none kV doc pm an cdv ct) ⟨us,[]⟩=pure (ps.zip us)):Binds K fd ps []:=by
 obtain⟨oc,od,kV,doc,pm,an,cdv,ct,osl,rfl,lk,hcd⟩:=F.ex
 exact .all (h kV doc pm an cdv ct)
theorem d2u {x qual:Str}{st:Stmt}{f:Addr}{oc:Value}{od an:Option Addr}{osl:Array (Option Value)}{kV doc pm cdv ct:Value}(l:K.lookup f=some ⟨oc,od,.func (PySem.W.fnOf x qual (a4z st) (a2c st) (a0s st) .none kV doc pm an cdv ct),osl⟩)
  (c:PySem.W.codeIn K cdv qual=true)(k:PySem.W.keepIn K (.ref f)=true):Fun K x qual st f (PySem.W.fnOf x qual (a4z st) (a2c st) (a0s st) .none kV doc pm an cdv ct):=⟨⟨oc,od,kV,doc,pm,an,cdv,ct,osl,rfl,l,c⟩,k⟩
end
section
variable {X:Cx}
end
def Same (H H':Hp):Prop:=∀ b o,H b=some o->H' b=some o
theorem Same.refl (H:Hp):Same H H:=λ_ _ h=>h
theorem Same.trans {H H1 H2:Hp}(a:Same H H1)(b:Same H1 H2):Same H H2:=λc o h=>b c o (a c o h)
end L2
end
section
namespace L2
open PySem PySem.Spec PyProof.Rows
section
variable {κ:Type} [DecidableEq κ]
def a9l (kvs:List (κ×V))(k:κ):Option V:=(kvs.find? λkv=>decide (kv.1=k)).map (·.2)
def a4w (kvs:List (κ×V))(k:κ)(v:V):List (κ×V) :=
 if (kvs.any λkv=>decide (kv.1=k))=true then kvs.map (λkv=>if kv.1=k then (kv.1,v) else kv) else kvs++[(k,v)]
theorem a3t {p:κ×V}{r:List (κ×V)}{k:κ}(e:p.1=k):a9l (p :: r) k=some p.2:=by simp[a9l,List.find?_cons,e]
theorem a3u {p:κ×V}{r:List (κ×V)}{k:κ}(e:¬ p.1=k):a9l (p :: r) k=a9l r k:=by simp[a9l,List.find?_cons,e]
theorem a4g (k:κ):∀ kvs:List (κ×V),(kvs.any λkv=>decide (kv.1=k))=(a9l kvs k).isSome
 | []=>rfl
 | p :: r=>by
  rw[List.any_cons]
  by_cases e:p.1=k
  ·simp only[a3t e,decide_eq_true e,Bool.true_or,Option.isSome_some]
  ·rw[a3u e,decide_eq_false e,Bool.false_or];exact a4g k r
theorem a2r (kvs:List (κ×V))(k:κ)(v:V):(a4w kvs k v).length<=kvs.length+1:=by
 unfold a4w
 split
 ·rw[List.length_map];lia
 ·rw[List.length_append,List.length_cons,List.length_nil];lia
theorem RelO.isSome_eq {o:Option V}{u:Option Value}(r:RelO o u):o.isSome=u.isSome:=by
 cases o with
 | none=>cases u with
  | none=>rfl
  | some _=>exact (show False from r).elim
 | some _=>cases u with
  | none=>exact (show False from r).elim
  | some _=>rfl
theorem KV.val {kvs:List (κ×V)}{vs:List (κ×Value)}(r:KV kvs vs)(k:κ):RelO (a9l kvs k) (valueAt vs k):=by
 unfold KV at r
 induction r with
 | nil=>exact True.intro
 | @cons p q ps qs h t ih =>
  obtain⟨h1,h2⟩:=h
  by_cases e:p.1=k
  ·have e':q.1=k:=h1.symm.trans e
   have b:valueAt (q :: qs) k=some q.2:=by simp[valueAt,List.find?_cons,e']
   rw[a3t e,b];exact h2
  ·have e':¬ q.1=k:=λz=>e (h1.trans z)
   have b:valueAt (q :: qs) k=valueAt qs k:=by simp[valueAt,List.find?_cons,e']
   rw[a3u e,b];exact ih
theorem KV.any {kvs:List (κ×V)}{vs:List (κ×Value)}(r:KV kvs vs)(k:κ):(kvs.any λkv=>decide (kv.1=k))=vs.any λkv=>decide (kv.1=k):=by
 unfold KV at r
 induction r with
 | nil=>rfl
 | cons h t ih=>rw[List.any_cons,List.any_cons,ih,h.1]
theorem KV.repl {kvs:List (κ×V)}{vs:List (κ×Value)}(r:KV kvs vs)(k:κ){y:V}{u:Value}(ry:RelV y u) :
  KV (kvs.map λkv=>if kv.1=k then (kv.1,y) else kv) (vs.map λkv=>if kv.1=k then (kv.1,u) else kv):=by
 unfold KV at r ⊢
 induction r with
 | nil=>exact .nil
 | @cons p q ps qs h t ih =>
  rw[List.map_cons,List.map_cons]
  refine .cons ?_ ih
  obtain⟨h1,h2⟩:=h
  by_cases e:p.1=k
  ·rw[if_pos e,if_pos (h1.symm.trans e)];exact⟨h1,ry⟩
  ·rw[if_neg e,if_neg (λz=>e (h1.trans z))];exact⟨h1,h2⟩
theorem KV.put {kvs:List (κ×V)}{vs:List (κ×Value)}(r:KV kvs vs)(k:κ){y:V}{u:Value}(ry:RelV y u):KV (a4w kvs k y) (stored vs k u):=by
 unfold a4w stored
 rw[r.any k]
 by_cases e:(vs.any λkv=>decide (kv.1=k))=true
 ·rw[if_pos e,if_pos e];exact r.repl k ry
 ·rw[if_neg e,if_neg e];exact Paired.snoc r ⟨rfl,ry⟩
theorem KV.length {kvs:List (κ×V)}{vs:List (κ×Value)}(r:KV kvs vs):kvs.length=vs.length:=Paired.length r
end
theorem b8k {P:Program}{w:World}{k:Key}{u:Value}(r:RelV (kV k) u):(a0v P w).is k u=true:=by
 rcases k with i|x|x
 ·obtain⟨t,e⟩:=(show ∃ t,u=Value.int i t from r);subst e;exact b2f P w i t
 ·cases (show u=Value.none from r);exact b0j P w
 ·obtain⟨t,e⟩:=(show ∃ t,u=Value.str x t from r);subst e;exact b2e P w x t
theorem b0p {P:Program}{w:World}:∀ {ks:List Key}{us:List Value},Vals (ks.map kV) us->ItemsAre (a0v P w) ks us
 | [],_,r=>by rw[List.map_nil] at r;cases r;exact .nil
 | k :: ks,_,r=>by
  rw[List.map_cons] at r
  cases r with
  | cons h t=>exact .cons (b8k h) (b0p t)
abbrev KT (H:Hp):List (List Key×V)->List (List Key×Addr×Value)->Prop:=Paired λp q=>p.1=q.1/\H q.2.1=some (.tup (p.1.map kV))/\RelV p.2 q.2.2
theorem KT.val {H:Hp}{kvs:List (List Key×V)}{xs:List (List Key×Addr×Value)}(r:KT H kvs xs)(k:List Key):RelO (a9l kvs k) ((atKey xs k).map (·.2)):=by
 induction r with
 | nil=>exact True.intro
 | @cons p q ps qs h t ih =>
  obtain⟨h1,_,h2⟩:=h
  by_cases e:p.1=k
  ·have e':q.1=k:=h1.symm.trans e
   have b:atKey (q :: qs) k=some q.2:=by simp[atKey,List.find?_cons,e']
   rw[a3t e,b];exact h2
  ·have e':¬ q.1=k:=λz=>e (h1.trans z)
   have b:atKey (q :: qs) k=atKey qs k:=by simp[atKey,List.find?_cons,e']
   rw[a3u e,b];exact ih
theorem KT.repl {H:Hp}{kvs:List (List Key×V)}{xs:List (List Key×Addr×Value)}(r:KT H kvs xs)(k:List Key){y:V}{u:Value}(ry:RelV y u) :
  KT H (kvs.map λkv=>if kv.1=k then (kv.1,y) else kv) (xs.map (putAt k u)):=by
 induction r with
 | nil=>exact .nil
 | @cons p q ps qs h t ih =>
  rw[List.map_cons,List.map_cons]
  refine .cons ?_ ih
  obtain⟨h1,h2,h3⟩:=h
  unfold putAt
  by_cases e:p.1=k
  ·rw[if_pos e,if_pos (h1.symm.trans e)];exact⟨h1,h2,ry⟩
  ·rw[if_neg e,if_neg (λz=>e (h1.trans z))];exact⟨h1,h2,h3⟩
theorem KT.put {H:Hp}{kvs:List (List Key×V)}{xs:List (List Key×Addr×Value)}(r:KT H kvs xs)(k:List Key){b:Addr}{y:V}{u:Value}(hb:H b=some (.tup (k.map kV)))(ry:RelV y u) :
  KT H (a4w kvs k y) (storedH xs k b u):=by
 have e:(kvs.any λkv=>decide (kv.1=k))=(atKey xs k).isSome:=by
  rw[a4g,(r.val k).isSome_eq,Option.isSome_map]
 unfold a4w storedH
 rw[e]
 by_cases q:(atKey xs k).isSome=true
 ·rw[if_pos q,if_pos q];exact r.repl k ry
 ·rw[if_neg q,if_neg q];exact Paired.snoc r ⟨rfl,hb,ry⟩
theorem KT.keeps {H H':Hp}{kvs:List (List Key×V)}{xs:List (List Key×Addr×Value)}(r:KT H kvs xs)(ht:∀ b ys,H b=some (.tup ys)->H' b=some (.tup ys)):KT H' kvs xs :=
 Paired.mapP r λ_ _ z=>⟨z.1,ht _ _ z.2.1,z.2.2⟩
section
variable {P:Program}{w:World}{H:Hp}{h:Heap}{a:Addr}
theorem d0h {u:HO}(ok:HOk P w H h)(e:Rd H a u):ObjOk P w H h a u:=e.ok ok
theorem b5i {kvs:List (Key×V)}(ok:HOk P w H h)(e:Rd H a (.dK kvs)):kvs.length<=sizeLine/\(a == sysModules)=false/\∃ vs,KV kvs vs/\h.DictOf (a0v P w) a vs :=
 show ObjOk P w H h a (.dK kvs) from d0h ok e
theorem e1u {kvs:List (Key×V)}(ok:HOk P w H h)(e:H a=some (.dK kvs)):kvs.length<=sizeLine/\(a == sysModules)=false/\∃ vs,KV kvs vs/\h.DictOf (a0v P w) a vs:=b5i ok (.inl e)
theorem a6d {ks:List Key}(ok:HOk P w H h)(e:H a=some (.tup (ks.map kV))):(tupleKind (a0v P w)).is h ks a:=by
 obtain⟨_,its,r,o,h1,h2,n,h3⟩:=(show ObjOk P w H h a (.tup (ks.map kV)) from ok a _ e)
 exact⟨o,its.toArray,n,h1,h2,h3,by simpa using b0p r⟩
theorem b9r {kvs:List (List Key×V)}(ok:HOk P w H h)(e:Rd H a (.dT kvs)):kvs.length<=sizeLine/\(a == sysModules)=false /\
  ∃ xs,KT H kvs xs/\h.DictOfH (tupleKind (a0v P w)) a xs:=by
 obtain⟨z,y,xs,r,o,es,ep,h1,h2,h3,h4,h5⟩:=(show ObjOk P w H h a (.dT kvs) from d0h ok e)
 refine⟨z,y,xs,r,o,es,ep,h1,h2,h3,h4,λx hx=>?_,h5⟩
 have all:∀ {l:List (List Key×V)}{m:List (List Key×Addr×Value)},KT H l m->∀ x∈m,(tupleKind (a0v P w)).is h x.1 x.2.1:=by
  intro l m q
  induction q with
  | nil=>intro x hx;exact nomatch hx
  | @cons p q ps qs hq t ih =>
   intro x hx
   rcases List.mem_cons.mp hx with e|hx
   ·subst e
    exact a6d ok (by rw[<- hq.1];exact hq.2.1)
   ·exact ih x hx
 exact all r x hx
theorem d3j {kvs:List (List Key×V)}(ok:HOk P w H h)(e:H a=some (.dT kvs)):kvs.length<=sizeLine/\(a == sysModules)=false /\
  ∃ xs,KT H kvs xs/\h.DictOfH (tupleKind (a0v P w)) a xs:=b9r ok (.inl e)
end
def DGet (H:Hp)(a:Addr)(y:V)(r:Option V):Prop :=
 (∃ kvs k,Rd H a (.dK kvs)/\y=kV k/\r=a9l kvs k) ∨ ∃ kvs k b,Rd H a (.dT kvs)/\y=.ref b/\H b=some (.tup (k.map kV))/\r=a9l kvs k
def DPut (H:Hp)(a:Addr)(y v:V)(H':Hp):Prop :=
 (∃ kvs k,H a=some (.dK kvs)/\y=kV k/\kvs.length<sizeLine/\H'=upd H a (.dK (a4w kvs k v))) ∨
 ∃ kvs k b,H a=some (.dT kvs)/\y=.ref b/\H b=some (.tup (k.map kV))/\kvs.length<sizeLine/\H'=upd H a (.dT (a4w kvs k v))
theorem DGet.k {H:Hp}{a:Addr}{kvs:List (Key×V)}{k:Key}(e:H a=some (.dK kvs)):DGet H a (kV k) (a9l kvs k):=.inl ⟨kvs,k,.inl e,rfl,rfl⟩
theorem DGet.t {H:Hp}{a b:Addr}{kvs:List (List Key×V)}{k:List Key}(e:H a=some (.dT kvs))(eb:H b=some (.tup (k.map kV))):DGet H a (.ref b) (a9l kvs k):=.inr ⟨kvs,k,b,.inl e,rfl,eb,rfl⟩
theorem DPut.k {H:Hp}{a:Addr}{kvs:List (Key×V)}{k:Key}{v:V}(e:H a=some (.dK kvs))(hl:kvs.length<sizeLine):DPut H a (kV k) v (upd H a (.dK (a4w kvs k v))):=.inl ⟨kvs,k,e,rfl,hl,rfl⟩
theorem DPut.t {H:Hp}{a b:Addr}{kvs:List (List Key×V)}{k:List Key}{v:V}(e:H a=some (.dT kvs))(eb:H b=some (.tup (k.map kV)))(hl:kvs.length<sizeLine) :
  DPut H a (.ref b) v (upd H a (.dT (a4w kvs k v))):=.inr ⟨kvs,k,b,e,rfl,eb,hl,rfl⟩
section
variable {X:Cx}{pins:List (Addr×Obj)}{σ:St}{H:Hp}{s:Shared}{a:Addr}{y v:V}{u r:Value}{o:Option V}{A:Around}{E:Value->Shared->Prop}
theorem Inv.big (I:Inv X pins σ H s):sysModules<s.heap.objs.size:=by
 have h:mainGlobals<s.heap.objs.size:=(I.mod.glob.keeps I.bk).lt
 exact Nat.lt_trans (by decide) h
theorem b1a {Q:Value->Shared->Prop}(hu:A.units+1<cLine)(I:Inv X pins σ H s)(g:DGet H a y (some v))(ry:RelV y u)(h:∀ w' s',Inv X pins σ H s'->RelV v w'->Q w' s') :
  wpAny (model X.prog X.w) A (getItem (.ref a) u) Q E s:=by
 rcases g with⟨kvs,k,e,ey,l⟩|⟨kvs,k,b,e,ey,eb,l⟩
 ·subst ey
  obtain⟨z,hd,vs,rel,dd⟩:=b5i I.hok e
  obtain⟨w',hw,rw'⟩:=RelO.some_of (v:=v) (o:=valueAt vs k) (by rw[l];exact rel.val k)
  exact wpAny_getItem_of (b8k ry) dd.mapOf hw (h w' _ (I.tok _) rw')
 ·subst ey
  cases (show u=Value.ref b from ry)
  obtain⟨z,hd,xs,rel,dd⟩:=b9r I.hok e
  obtain⟨w',hw,rw'⟩:=RelO.some_of (v:=v) (o:=(atKey xs k).map (·.2)) (by rw[l];exact rel.val k)
  obtain⟨p,hp,hp2⟩:=Option.map_eq_some_iff.mp hw
  refine wpAny_getItem_heap (tupleKind_room_in1 hu) (a6d I.hok eb) dd hp ?_
  rw[hp2]
  exact h w' _ (I.tok _) rw'
theorem d_in {Q:Value->Shared->Prop}(hu:A.units+1<cLine)(I:Inv X pins σ H s)(g:DGet H a y o)(ry:RelV y u)(h:∀ s',Inv X pins σ H s'->Q (.bool o.isSome) s') :
  wpAny (model X.prog X.w) A (compareOp .In u (.ref a)) Q E s:=by
 rcases g with⟨kvs,k,e,ey,l⟩|⟨kvs,k,b,e,ey,eb,l⟩
 ·subst ey
  obtain⟨z,hd,vs,rel,dd⟩:=b5i I.hok e
  refine wpAny_in_of (b8k ry) hd dd.mapOf ?_
  rw[<- (rel.val k).isSome_eq,<- l]
  exact h _ (I.tok _)
 ·subst ey
  cases (show u=Value.ref b from ry)
  obtain⟨z,hd,xs,rel,dd⟩:=b9r I.hok e
  refine wpAny_in_heap (tupleKind_room_in1 hu) (a6d I.hok eb) hd dd ?_
  have q:=(rel.val k).isSome_eq
  rw[Option.isSome_map] at q
  rw[<- q,<- l]
  exact h _ (I.tok _)
theorem b9z {Q:Value->Shared->Prop}(hu:A.units+1<cLine)(I:Inv X pins σ H s)(g:DGet H a y o)(ry:RelV y u)(h:∀ s',Inv X pins σ H s'->Q (.bool (!o.isSome)) s') :
  wpAny (model X.prog X.w) A (compareOp .NotIn u (.ref a)) Q E s:=by
 rcases g with⟨kvs,k,e,ey,l⟩|⟨kvs,k,b,e,ey,eb,l⟩
 ·subst ey
  obtain⟨z,hd,vs,rel,dd⟩:=b5i I.hok e
  refine wpAny_notIn_of (b8k ry) hd dd.mapOf ?_
  rw[<- (rel.val k).isSome_eq,<- l]
  exact h _ (I.tok _)
 ·subst ey
  cases (show u=Value.ref b from ry)
  obtain⟨z,hd,xs,rel,dd⟩:=b9r I.hok e
  refine wpAny_notIn_heap (tupleKind_room_in1 hu) (a6d I.hok eb) hd dd ?_
  have q:=(rel.val k).isSome_eq
  rw[Option.isSome_map] at q
  rw[<- q,<- l]
  exact h _ (I.tok _)
theorem b2v {h':Heap}{t':Nat}{ob:HO}(I:Inv X pins σ H s)(mu:Mut (H a))(hs:Heap.SameBut a s.heap h')(he:∃ q,h'.get? a=some q)(new:ObjOk X.prog X.w (upd H a ob) h' a ob) :
  Inv X pins σ (upd H a ob) { s with heap:=h',toks:=t' } :=
 I.write (x:=a) (e:=a) mu (.inl rfl) (λb q hb z=>(hs.2 b hb).trans z) he new
theorem d3l {P:Program}{w:World}{H':Hp}{h':Heap}{kvs:List (Key×V)}{vs:List (Key×Value)}(z:kvs.length<=sizeLine)(hd:(a == sysModules)=false)(rel:KV kvs vs)(dd:h'.DictOf (a0v P w) a vs) :
  ObjOk P w H' h' a (.dK kvs):=⟨z,hd,vs,rel,dd⟩
theorem b0z {H':Hp}{Q:Unit->Shared->Prop}(hu:A.units+1<cLine)(I:Inv X pins σ H s)(g:DPut H a y v H')(ry:RelV y u)(rv:RelV v r)(h:∀ s',Inv X pins σ H' s'->Q () s') :
  wpAny (model X.prog X.w) A (setItem (.ref a) u r) Q E s:=by
 rcases g with⟨kvs,k,e,ey,l,eH⟩|⟨kvs,k,b,e,ey,eb,l,eH⟩
 ·subst ey eH
  obtain⟨z,hd,vs,rel,dd⟩:=e1u I.hok e
  have hz:vs.length<=sizeLine:=by rw[<- rel.length];exact z
  have hl:(a4w kvs k v).length<=sizeLine:=by have:=a2r kvs k v;lia
  refine wpAny_setItem_pairs (hsz:=hz) (b8k ry) dd λh' dd' hs=>h _ ?_
  have he:∃ q,h'.get? a=some q:=let ⟨q,_,_,hq,_⟩:=dd';⟨q,hq⟩
  exact b2v I (by rw[e];exact True.intro) hs he (d3l hl hd (rel.put k rv) dd')
 ·subst ey eH
  cases (show u=Value.ref b from ry)
  obtain⟨z,hd,xs,rel,dd⟩:=d3j I.hok e
  have hz:xs.length<=sizeLine:=by rw[<- Paired.length rel];exact z
  have hl:(a4w kvs k v).length<=sizeLine:=by have:=a2r kvs k v;lia
  refine wpAny_setItem_heap (hsz:=hz) (tupleKind_room_in1 hu) (a6d I.hok eb) dd λh' dd' hs=>h _ ?_
  obtain⟨q,es,ep,hq,h2,h3,h4,_,h5⟩:=dd'
  refine b2v I (by rw[e];exact True.intro) hs ⟨q,hq⟩ ⟨hl,hd,_,(rel.put k eb rv).keeps λc ys ec=>?_,q,es,ep,hq,h2,h3,h4,h5⟩
  rw[a0e (d1x ec e (λz=>nomatch z))]
  exact ec
end
section
variable {X:Cx}{pins:List (Addr×Obj)}{σ:St}{H:Hp}{s:Shared}{a:Addr}{kvs:List (Key×V)}{k:Key}{u:Value}{A:Around}{E:Value->Shared->Prop}
theorem e1w {Q:Value->Shared->Prop}(I:Inv X pins σ H s)(e:Rd H a (.dK kvs))(h:∀ t s',Inv X pins σ H s'->Q (.int kvs.length t) s'):wpAny (model X.prog X.w) A (call (.builtin "len") [.ref a]) Q E s:=by
 obtain⟨z,hd,vs,rel,dd⟩:=b5i I.hok e
 refine call_len_dict hd dd (by rw[<- rel.length];rw[sizeLine_eq] at z;lia) ?_
 rw[<- rel.length]
 exact h _ _ (I.tok _)
end
def NoSl (i:Expr):Prop:=∀ ov iv,subscripted i false ov iv=operate [ov,iv] (getItem ov iv)
theorem c5s {prog:Program}{w:World}{A:Around}{E:Value->Shared->Prop}{s:Shared}{env:Env}{value slice:Expr}{pos:Pos}{T id:String}{Q:Value->Shared->Prop}
  (hl:typeLookup (.type T) "__getitem__" = pure (some (.builtin id)))(hs:NoSl slice)
  (h:wpAny (model prog w) A (eval value env) (λo s₁=>wpAny (model prog w) A (eval slice env) (λi s₂=>s₂.TypeIs o T/\wpAny (model prog w) A (getItem o i) Q E s₂) E s₁) E s) :
  wpAny (model prog w) A (eval (.Subscript value slice pos) env) Q E s:=by
 refine Subscript_ (wpAny_mono h (λo s₁ h₁=>wpAny_mono h₁ (λi s₂ h₂=>?_) λ_ _ x=>x) λ_ _ x=>x)
 obtain⟨hT,h₂⟩:=h₂
 unfold subscriptTail
 refine Γa ?_
 rw[getitemInPython_of_ne hT.not_modules]
 refine Γa (wpAny_specialOf hT hl ?_)
 have fin:wpAny (model prog w) A (subscripted slice false o i) (λr s₃=>wpAny (model prog w) A (letTemporaryGo value o r >>= λ_=>pure r) Q E s₃) E s₂:=by
  rw[hs o i]
  exact wpAny_operating (wpAny_mono h₂ (λr s₃ h₃=>Γa (wpAny_letTemporaryGo (Γb h₃))) λ_ _ x=>x)
 first
  | exact Γb (Γa fin)
  | exact Γa (Γb (Γa fin))
  | exact Γa fin
theorem b2u {X:Cx}{pins:List (Addr×Obj)}{σ:St}{H:Hp}{s:Shared}{a:Addr}{y:V}{o:Option V}(I:Inv X pins σ H s)(g:DGet H a y o):s.TypeIs (.ref a) "dict":=by
 rcases g with⟨kvs,k,e,_,_⟩|⟨kvs,k,b,e,_,_,_⟩
 ·obtain⟨_,_,vs,_,dd⟩:=b5i I.hok e
  exact dd.typeIs
 ·obtain⟨_,_,xs,_,dd⟩:=b9r I.hok e
  exact dd.typeIs
def d6e (td ty:TE):TE:=λσ H Q=>td σ H λx H1=>ty σ H1 λy H2=>∃ a v,x=.ref a/\DGet H2 a y (some v)/\Q v H2
def d6z (td ty tv:TE):TS:=λD σ H=>tv σ H λv H1=>td σ H1 λx H2=>ty σ H2 λy H3=>∃ a H4,x=.ref a/\DPut H3 a y v H4/\D.nx σ H4
def d7a (td ty tv:TE)(rd:V->V->Hp->VK->Prop):TS:=λD σ H=>td σ H λx H1=>ty σ H1 λy H2=>∃ a v,x=.ref a/\DGet H2 a y (some v) /\
 tv σ H2 λy2 H3=>rd v y2 H3 λz H4=>∃ H5,DPut H4 a y z H5/\D.nx σ H5
section
variable {X:Cx}{o i e value:Expr}{pos pos' tpos:Pos}{td ty tv:TE}
theorem b1z (hu:X.A.units+1<cLine)(ho:PE X o td)(hi:PE X i ty)(hs:NoSl i):PE X (.Subscript o i pos) (d6e td ty):=by
 intro pins s σ H Q I h
 refine c5s PySem.F.slot_dict_getitem.lookup hs (thn (ho pins s σ H _ I h) λu s1 ⟨x,H1,I1,rx,q1⟩=>thn (hi pins s1 σ H1 _ I1 q1) λiv s2 ⟨y,H2,I2,ry,a,v,ex,g,q2⟩=>?_)
 subst ex
 obtain rfl:u=Value.ref a:=rx
 exact⟨b2u I2 g,b1a hu I2 g ry λw' s3 I3 rw'=>⟨v,H2,I3,rw',q2⟩⟩
theorem b7e (hu:X.A.units+1<cLine)(ho:PE X o td)(hi:PE X i ty)(hv:PE X value tv)(hs:swapsWith value (some (.Subscript o i pos')) pos.line X.env=pure false) :
  PS X (.Assign [.Subscript o i pos'] value pos) (d6z td ty tv):=by
 intro pins s σ H D I h
 refine wpAny_Assign_Subscript (thn (hv pins s σ H _ I h) λr s1 ⟨v,H1,I1,rv,q1⟩=>thn (ho pins s1 σ H1 _ I1 q1) λu s2 ⟨x,H2,I2,rx,q2⟩=>thn (hi pins s2 σ H2 _ I2 q2) λiv s3 ⟨y,H3,I3,ry,a,H4,ex,g,q3⟩=>?_) hs
 subst ex
 obtain rfl:u=Value.ref a:=rx
 exact b0z hu I3 g ry rv λs4 I4=>⟨σ,H4,I4,q3⟩
theorem c6j {op:Operator}{rd:V->V->Hp->VK->Prop}(hu:X.A.units+1<cLine)(ho:PE X o td)(hi:PE X i ty)(hv:PE X value tv)(hop:InOp X op rd)
  (ha:∀ ov iv new,augStore i ov iv new=(do holding [new,ov,iv] (setItem ov iv new);release [new,ov,iv] [];pure .next)):PS X (.AugAssign (.Subscript o i tpos) op value pos) (d7a td ty tv rd):=by
 intro pins s σ H D I h
 refine wpAny_AugAssign_SubscriptAny (thn (ho pins s σ H _ I h) λu s1 ⟨x,H1,I1,rx,q1⟩=>thn (hi pins s1 σ H1 _ I1 q1) λiv s2 ⟨y,H2,I2,ry,a,v,ex,g,q2⟩=>?_) ha
 subst ex
 obtain rfl:u=Value.ref a:=rx
 refine b1a hu I2 g ry λw' s3 I3 rw'=>thn (hv pins s3 σ H2 _ I3 q2) λw2 s4 ⟨y2,H3,I4,ry2,q3⟩=>thn (hop pins s4 σ H3 v y2 w' w2 _ I4 rw' ry2 q3) λw3 s5 ⟨z,H4,I5,rz,H5,g5,q4⟩=>?_
 exact b0z hu I5 g5 ry rz λs6 I6=>⟨σ,H5,I6,q4⟩
end
theorem c3y {P:Program}{w:World}{H:Hp}(h:Heap)(hb:sysModules<h.objs.size):ObjOk P w H (h.push { cls:=.type "dict",data:=.dict #[] }) h.objs.size (.dK []) :=
 ⟨Nat.zero_le _,beq_eq_false_iff_ne.mpr (Ne.symm (Γo hb)),[],.nil,Heap.DictOf.new h⟩
theorem c3u {P:Program}{w:World}{H:Hp}(h:Heap)(hb:sysModules<h.objs.size):ObjOk P w H (h.push { cls:=.type "dict",data:=.dict #[] }) h.objs.size (.dT []) :=
 ⟨Nat.zero_le _,beq_eq_false_iff_ne.mpr (Ne.symm (Γo hb)),[],.nil,_,#[],0,Γm _ rfl,⟨rfl,rfl,rfl⟩,rfl,rfl,List.nodup_nil⟩
def c9w:TE:=λ_ H Q=>∀ p,H p=none->Q (.ref p) (upd H p (.dK []))
section
variable {X:Cx}{pos:Pos}
theorem c2m:PE X (.Dict [] [] pos) c9w:=λpins s σ H Q I h =>
 wpAny_Dict_empty ⟨.ref s.heap.objs.size,_,I.laid (a:=s.heap.objs.size) (o:=.dK []) (t':=s.toks) (λ_ _ q=>Γc _ q) (Γi _) (c3y s.heap I.big),rfl,h _ (I.hok.fresh (Γi _))⟩
end
structure M1 (X:Cx)(o:Expr)(m:Str)(apos:Pos)(e:Expr)(cpos:Pos):Prop where
 base:attributeBase o m X.env (eval o X.env)=eval o X.env
 few:((backTo cpos (starEach [e] X.env)).all (λx=>!x.1) && (backToKw cpos (keywordEach [] X.env)).all (λx=>x.1.isSome)
  && decide (([e]:List Expr).length+([]:List Keyword).length+(if ([]:List Keyword).isEmpty then 0 else 1)<30))=true
 line:(apos.endLine == cpos.line)=true
 trees:backTo cpos (starEach [e] X.env)=[(false,eval e X.env)]
structure M2 (X:Cx)(o:Expr)(m:Str)(apos:Pos)(e f:Expr)(cpos:Pos):Prop where
 base:attributeBase o m X.env (eval o X.env)=eval o X.env
 few:((backTo cpos (starEach [e,f] X.env)).all (λx=>!x.1) && (backToKw cpos (keywordEach [] X.env)).all (λx=>x.1.isSome)
  && decide (([e,f]:List Expr).length+([]:List Keyword).length+(if ([]:List Keyword).isEmpty then 0 else 1)<30))=true
 line:(apos.endLine == cpos.line)=true
 trees:backTo cpos (starEach [e,f] X.env)=[(false,eval e X.env),(false,eval f X.env)]
section
variable {X:Cx}{pins:List (Addr×Obj)}{σ:St}{H:Hp}{s:Shared}{a:Addr}{y d:V}{u r:Value}{o:Option V}{A:Around}{E:Value->Shared->Prop}
end
section
variable {X:Cx}{o e f:Expr}{apos cpos:Pos}{td ty tx:TE}
end
section
variable {X:Cx}{pins:List (Addr×Obj)}{σ:St}{H:Hp}{s:Shared}{a:Addr}{kvs:List (Key×V)}{A:Around}{E:Value->Shared->Prop}
end
section
variable {X:Cx}{pins:List (Addr×Obj)}{σ:St}{H:Hp}{s:Shared}{a:Addr}{y:V}{u:Value}{A:Around}{E:Value->Shared->Prop}
end
end L2
namespace L2
open PySem PySem.Spec PyProof.Rows
section
variable {κ:Type} [DecidableEq κ]
end
end L2
end
section
namespace HT
open PySem PyProof.Rows
section
open PySem.SeqAt
open PySem.AutoSeq1 (wpAny_loadPart')
open PySem.MeetsSeq PySem.MeetsSeq2 PySem.MeetsSeq3
end
section
variable {prog:Program}{w:World}{A:Around}{E:Value->Shared->Prop}{s:Shared}
end
end HT
namespace L2
open PySem PySem.Spec PyProof.Rows
section
variable {X:Cx}
end
end L2
end
set_option maxHeartbeats 4000000
section
namespace L2
open PySem PySem.Spec PyProof.Rows
open AutoSeq1 (wpAny_loadPart')
theorem b4z (l b:Addr)(xs ys:Array Value) (n n2:Nat)(dd:Option Addr)(sl:Array (Option Value))(h0:¬(!xs.isEmpty && Builtin.List.listTooLong (xs.size+ys.size))=true)(h1:xs.size<=sizeLine)(h2:xs.size+ys.size<=sizeLine+1) :
  Meets (Builtin.«list.extend» ⟨[.ref l,.ref b],[]⟩) (λ_ R s=>s.heap.get? l=some { cls:=.type "list",dict:=none,data:=.seq xs n,slots:=#[] }/\s.heap.get? b=some { cls:=.type "tuple",dict:=dd,data:=.seq ys n2,slots:=sl }/\R (.ok (.ret Value.none)) { s with heap:=s.heap.update l (Obj.mapSeq λx=>x++ys),toks:=s.toks }) :=
 .of_wp λprog w A R s h=>by
  obtain⟨hp,g,d,tk,os⟩:=s;obtain⟨hl,hb,h⟩:=h
  have f2:=AutoSeq1.sub_tuple_tuple;have f3:=AutoSeq1.sub_list_list;have f4:=AutoSeq1.sub_tuple_list;have f5:=AutoSeq1.sub_list_tuple
  have hz':(xs++ys).size<=sizeLine+1:=by rw[Array.size_append];exact h2
  wp_walk using (wpAny_updateSeq hl rfl (hz:=h1) (_hz':=hz')),wpAny_loadPart' hl,wpAny_loadPart' hb
  exact⟨_,rfl,h⟩
section
variable {X:Cx}
def d0j (K:Γd):V->List V->Hp->VK->Prop:=λx vs H Q=>∃ l b xs zs,x=.ref l/\vs=[.ref b]/\H l=some (.lst xs)/\SqT K H b zs/\xs.length+zs.length<=sizeLine/\Q .non (upd H l (.lst (xs++zs)))
theorem c7g:MtM X "list.extend" (d0j X.K):=by
 intro pins s σ H x vs v us Q I rx rv h
 obtain⟨l,b,xs,zs,rfl,rfl,hH,hB,hz,q⟩:=h
 cases rx
 obtain⟨u,rfl,ru⟩:=rv.one
 cases ru
 obtain⟨z,its,n,r,hl,e⟩:=I.lstM hH
 obtain⟨its2,r2,⟨⟨oc,od,odt,os⟩,e2,ec,n2,ed⟩,z2⟩:=I.tuple hB
 have hl2:=r2.length
 simp only at ec ed
 subst ec ed
 have hsz:its.toArray.size+its2.toArray.size<=sizeLine:=by rw[List.size_toArray,List.size_toArray];lia
 have hlong:¬ (!its.toArray.isEmpty && Builtin.List.listTooLong (its.toArray.size+its2.toArray.size))=true:=by
  rw[a5o hsz,Bool.and_false];exact Γk
 refine call_meets F.slot_list_extend ⟨_,e,rfl⟩ F.entry_list_extend (F.args_list_extend_2 _ _) (b4z l b its.toArray its2.toArray n n2 _ _ hlong (by rw[List.size_toArray];lia) (by lia)) ⟨e,e2,?_⟩
 refine⟨.non,_,I.lset (its':=its++its2) hH e (by simp) (r.append r2) ?_,rfl,q⟩
 rw[List.length_append];lia
theorem c2p:OpR X (binaryOp .Add) (λx y H Q=>∃ a b ys,x=.ref a/\y=.ref b/\SqT X.K H a []/\SqT X.K H b ys/\Q (.ref b) H):=by
 intro pins s σ H x y v u Q I rx ry h
 obtain⟨a,b,ys,rfl,rfl,ha,hb,q⟩:=h
 cases rx;cases ry
 obtain⟨its,r1,⟨⟨oc,od,odt,os⟩,e1,ec,n,ed⟩,_⟩:=I.tuple ha
 obtain⟨its2,r2,⟨⟨oc2,od2,odt2,os2⟩,e2,ec2,n2,ed2⟩,_⟩:=I.tuple hb
 simp only at ec ed ec2 ed2
 subst ec ed ec2 ed2
 cases r1
 exact concat_meets ⟨_,e1,rfl⟩ ⟨_,e2,rfl⟩ noFill_tuple_add seq_tuple_add F.slot_tuple_add F.entry_tuple_add (F.args_tuple_add_2 _ _) (tuple_addW0 a b #[] its2.toArray n n2 od od2 os os2 rfl) ⟨e1,e2,.ref b,H,I,rfl,q⟩
theorem c1t:SlR X (λx lo hi H Q=>∃ a xs,x=.ref a/\SqT X.K H a xs/\HT.sIx xs.length 0 lo=0/\HT.sIx xs.length xs.length hi=xs.length/\Q (.ref a) H):=by
 intro pins s σ H x v vl vu lo hi sl Q I rx hs pl pu h
 obtain⟨t,xs,rfl,hx,h1,h2,q⟩:=h
 cases rx
 obtain⟨its,r,ht,hz⟩:=I.tuple hx
 have hlen:its.toArray.size=xs.length:=by rw[List.size_toArray];exact r.length.symm
 refine⟨"tuple",_,PyProof.Rows.slot_tuple_getitem.lookup,ht.typeIs,?_⟩
 obtain⟨os,eo,co,do'⟩:=id hs
 have ty:s.TypeIs (.ref sl) "slice":=⟨os,eo,co⟩
 rw[<- hlen] at h1 h2
 unfold getItem
 try with_reducible refine Γg ?_
 first|refine Γa (Γb ?_)|skip
 refine Γa (wpAny_sequenceKey ht.typeIs (by decide) (Γa (wpAny_callSpecial?_slot (name:=Γe "__getitem__") ht.typeIs PyProof.Rows.slot_tuple_getitem (wpAny_call_entry PyProof.Rows.slot_tuple_getitem ht.typeIs entry_tuple_getitem ?_ (args_tuple_getitem _ _)))))
 show wpAny _ _ (Builtin.Tuple.tupleItemsOf (.ref t) >>= _) _ _ s;refine Γa (tupleItemsOf_ ht (Γa (wpAny_typeOf ty ?_)))
 rw[if_pos (by decide)];refine Γa (HT.sliceApplied_gen hs pl pu ?_)
 show wpAny _ _ (if (((HT.sIx its.toArray.size 0 lo:Nat):Int) == 0 && (1:Int) == 1 && (HT.sIx its.toArray.size its.toArray.size hi-HT.sIx its.toArray.size 0 lo) == its.toArray.size)=true then _ else _) _ _ s
 rw[if_pos (by rw[h1,h2];simp)]
 refine Γa (m:=Builtin.Tuple.tupleIsExact (.ref t)) ?_
 unfold Builtin.Tuple.tupleIsExact
 refine Γa (wpAny_typeOf ht.typeIs (Γb ?_))
 rw[if_pos (by decide)]
 exact Γa (wpAny_rule (Γb ⟨_,rfl,Γb ⟨.ref t,H,I,rfl,q⟩⟩))
end
def Kept (h0 h:Heap) (N:Nat):Prop:=∀ b o,b<N->h0.get? b=some o->h.get? b=some o
def c9f (P:Program)(w:World)(A:Around)(I:Nat->Value->Prop)(bt:Nat->Nat->Bool)(h0:Heap) (N:Nat):Prop :=
 ∀ i j u v (s:Shared)(Q:Value->Shared->Prop)(E:Value->Shared->Prop),Kept h0 s.heap N->I i u->I j v->Q (.bool (bt i j)) s->wpAny (model P w) A (richCompare .Lt u v) Q E s
section
variable {P:Program}{w:World}{A:Around}{R:Result->Shared->Prop}{it S N:Addr}{fp wr:List Addr}{n:Nat}{V:Nat->Value->Prop}{St:Nat->Heap->Prop}{bt:Nat->Nat->Bool}{h0:Heap}
theorem b5b (W:Walks P w A.in1 it fp wr n V St)(C:c9f P w A.in1 V bt h0 N)(sf:S ∉ fp)(nw:∀ b∈wr,N<=b)(nS:N<=S) :
  ∀ (k j:Nat)(s:Shared)(best:Value) (c:Nat),n-(j+1)=k->j+1<=n->St (j+1) s.heap->V (argBest bt j) best->Kept h0 s.heap N->s.heap.get? S=some { cls:=.type "list",dict:=none,data:=.seq #[best,best] c,slots:=#[] } ->
  (∀ v h' tk,V (argBest bt (n-1)) v->(∀ b o,b ∉ wr->b≠S->s.heap.get? b=some o->h'.get? b=some o)->R (.ok (.ret v)) { s with heap:=h',toks:=tk })->codeAny (model P w) A (.builtin "min.loop" ⟨[.ref it,.none,.ref S],[]⟩) R s:=by
 have sw:S ∉ wr:=λh=>sf (W.sub _ h)
 have nm:(toString "min"++toString ".loop":String) = "min.loop":=by decide
 have low:∀ {b:Addr},b<N->b ∉ wr/\b≠S:=λ{b} hb=>⟨λz=>absurd (nw b z) (Nat.not_le.mpr hb),λz=>absurd nS (by rw[<- z];exact Nat.not_le.mpr hb)⟩
 intro k
 induction k with
 | zero =>
  intro j s best c hk hj hst hV kp hS hR
  have en:j+1=n:=by lia
  refine codeAny_builtin F.entry_min_loop ?_;rw[Around.under_plainId F.plain_min_loop _]
  show wpAny _ A.in1 (seqItems? (.ref S) >>= _) _ _ s;refine Γa (wpAny_seqItems hS rfl ?_)
  show wpAny _ A.in1 (tryCatch (pyNext (.ref it)) _ >>= _) _ _ s;refine Γa (wpAny_tryCatch (W.done s _ _ (en ▸ hst) λg tk kk=>?_))
  have S1:=kk S _ sw hS
  show wpAny _ A.in1 (updateSeq S (λ_=>#[]) >>= _) _ _ _;refine Γa (wpAny_updateSeq S1 rfl (Γa (wpAny_letGo (Γb ?_))))
  exact hR best _ tk (by rw[<- en];exact hV) λb o c1 c2 e=>(Γf _ _ (Ne.symm c2)).trans (kk b o c1 e)
 | succ k ih =>
  intro j s best c hk hj hst hV kp hS hR
  have lt:j+1<n:=by lia
  refine codeAny_builtin F.entry_min_loop ?_;rw[Around.under_plainId F.plain_min_loop _]
  show wpAny _ A.in1 (seqItems? (.ref S) >>= _) _ _ s;refine Γa (wpAny_seqItems hS rfl ?_)
  show wpAny _ A.in1 (tryCatch (pyNext (.ref it)) _ >>= _) _ _ s;refine Γa (wpAny_tryCatch (W.item (j+1) s _ _ lt hst λv g tk vP st1 kk=>?_))
  have S1:=kk S _ sw hS
  have kp1:Kept h0 g N:=λb o hb e=>kk b o (low hb).1 (kp b o hb e)
  show wpAny _ A.in1 (tryCatch (holding [v,v] (richCompare .Lt v best >>= _)) _ >>= _) _ _ _
  refine Γa (wpAny_tryCatch (Γg (Γa (C (j+1) (argBest bt j) v best _ _ _ kp1 vP hV (Γa (Γg (wpAny_truthy_bool (Γa (wpAny_letGo (Γb ?_))))))))))
  cases hb:bt (j+1) (argBest bt j) with
  | true =>
   simp only[if_true];refine Γa (wpAny_updateSeq S1 rfl (Γa (wpAny_letGo ?_)));rw[nm]
   refine Γb ⟨plainId_quiet F.plain_min_loop _,ih (j+1) _ v _ (by lia) lt (W.frame _ _ _ st1 λb bf o e=>(Γf _ _ (λh:S=b=>sf (by rw[h];exact bf))).trans e) (by simp only[argBest,hb,if_true];exact vP)
    (λb o l e=>(Γf _ _ (Ne.symm (low l).2)).trans (kp1 b o l e)) (Heap.get?_update_self _ S1 rfl) λv' g' tk' p' k'=>?_⟩
   exact hR v' g' tk' p' λb o c1 c2 e=>k' b o c1 c2 ((Γf _ _ (Ne.symm c2)).trans (kk b o c1 e))
  | false =>
   simp only[Γp,if_false];refine Γa (wpAny_letGo ?_);rw[nm]
   refine Γb ⟨plainId_quiet F.plain_min_loop _,ih (j+1) _ best c (by lia) lt st1 (by simp only[argBest,hb,Γp,if_false];exact hV) kp1 S1 λv' g' tk' p' k'=>?_⟩
   exact hR v' g' tk' p' λb o c1 c2 e=>k' b o c1 c2 (kk b o c1 e)
theorem b2k (W:Walks P w A.in1 it fp wr n V St)(C:c9f P w A.in1 V bt h0 N)(sf:S ∉ fp)(nw:∀ b∈wr,N<=b)(nS:N<=S)(hn:0<n){s:Shared}{c:Nat}(hst:St 0 s.heap)(kp:Kept h0 s.heap N)
  (hS:s.heap.get? S=some { cls:=.type "list",dict:=none,data:=.seq #[] c,slots:=#[] })
  (hR:∀ v h' tk,V (argBest bt (n-1)) v->(∀ b o,b ∉ wr->b≠S->s.heap.get? b=some o->h'.get? b=some o)->R (.ok (.ret v)) { s with heap:=h',toks:=tk }):codeAny (model P w) A (.builtin "min.loop" ⟨[.ref it,.none,.ref S],[]⟩) R s:=by
 have sw:S ∉ wr:=λh=>sf (W.sub _ h)
 have nm:(toString "min"++toString ".loop":String) = "min.loop":=by decide
 have low:∀ {b:Addr},b<N->b ∉ wr/\b≠S:=λ{b} hb=>⟨λz=>absurd (nw b z) (Nat.not_le.mpr hb),λz=>absurd nS (by rw[<- z];exact Nat.not_le.mpr hb)⟩
 refine codeAny_builtin F.entry_min_loop ?_;rw[Around.under_plainId F.plain_min_loop _]
 show wpAny _ A.in1 (seqItems? (.ref S) >>= _) _ _ s;refine Γa (wpAny_seqItems hS rfl ?_)
 show wpAny _ A.in1 (tryCatch (pyNext (.ref it)) _ >>= _) _ _ s;refine Γa (wpAny_tryCatch (W.item 0 s _ _ hn hst λv g tk vP st1 kk=>?_))
 have S1:=kk S _ sw hS
 show wpAny _ A.in1 (updateSeq S (λ_=>#[v,v]) >>= _) _ _ _;refine Γa (wpAny_updateSeq S1 rfl ?_);rw[nm]
 refine Γb ⟨plainId_quiet F.plain_min_loop _,b5b W C sf nw nS _ 0 _ v _ rfl hn (W.frame _ _ _ st1 λb bf o e=>(Γf _ _ (λh:S=b=>sf (by rw[h];exact bf))).trans e) vP
  (λb o l e=>(Γf _ _ (Ne.symm (low l).2)).trans (kk b o (low l).1 (kp b o l e))) (Heap.get?_update_self _ S1 rfl) λv' g' tk' p' k'=>?_⟩
 exact hR v' g' tk' p' λb o c1 c2 e=>k' b o c1 c2 ((Γf _ _ (Ne.symm c2)).trans (kk b o c1 e))
end
section
variable {P:Program}{w:World}{A:Around}{E:Value->Shared->Prop}{s:Shared}
theorem b5l {l:Addr}{xs:Array Value}{bt:Nat->Nat->Bool}{Q:Value->Shared->Prop}(hh:A.in1.handled=none)(hl:s.heap.IsList l xs)(hn:0<xs.size)(C:c9f P w A.in1 (λi v=>xs[i]?=some v) bt s.heap s.heap.objs.size)
  (K:∀ v h' tk,xs[argBest bt (xs.size-1)]?=some v->(∀ b o,s.heap.get? b=some o->h'.get? b=some o)->Q v { s with heap:=h',toks:=tk }):wpAny (model P w) A (call (.builtin "min") [.ref l]) Q E s:=by
 have nm:(toString "min"++toString ".loop":String) = "min.loop":=by decide
 have ll:l<s.heap.objs.size:=by obtain⟨_,e,_⟩:=hl;exact Γl e
 refine call_function_tree F.kind_min F.plain_min F.entry_min (F.args_min1 _) ?_
 show wpAny _ A.in1 (Builtin.Builtins.bindParams "min" ["key","default"] 0 ⟨[],[]⟩ >>= _) _ _ s
 refine Γa (wpAny_of_eq (show Builtin.Builtins.bindParams "min" ["key","default"] 0 ⟨[],[]⟩=pure [none,none] from rfl) (Γa (Γb (Γa (wpAny_pyIter_list hl ?_)))))
 have W:=Walks.list (prog:=P) (w:=w) hh s.heap.objs.size l (Γo ll) xs
 refine Γa (wpAny_newObj_type ?_)
 rw[nm]
 have z1:(s.heap.push { cls:=.type "list_iterator",data:=.fields #[.ref l,.int 0 0] }).objs.size=s.heap.objs.size+1:=Heap.size_push ..
 refine Γb ⟨plainId_quiet F.plain_min_loop _,b2k (S:=(s.heap.push { cls:=.type "list_iterator",data:=.fields #[.ref l,.int 0 0] }).objs.size) W C ?_ ?_ ?_ hn ⟨⟨_,Γc _ (Γm _ rfl),rfl,rfl⟩,(hl.push _).push _⟩
  (λb o hb e=>Γc _ (Γc _ e)) (Γm _ rfl) λv h' tk hv hk=>?_⟩
 ·rw[z1];intro z;simp only[List.mem_cons,List.not_mem_nil,or_false] at z;rcases z with z|z
  ·exact absurd z (Nat.ne_of_gt (Nat.lt_succ_self _))
  ·exact absurd z (Nat.ne_of_gt (Nat.lt_succ_of_lt ll))
 ·intro b hb;simp at hb;rw[hb];exact Γi _
 ·rw[z1];exact Nat.le_succ _
 ·refine K v h' tk hv λb o e=>hk b o (by simp;exact Γo (Γl e)) ?_ (Γc _ (Γc _ e))
  rw[z1];exact Γo (Nat.lt_succ_of_lt (Γl e))
end
end L2
end
section
namespace L2
open PySem PySem.Spec PyProof.Rows
section
variable {prog:Program}{w:World}{A:Around}{E:Value->Shared->Prop}{s:Shared}
end
section
variable {X:Cx}{a e k:Expr}{ta te tk:TE}{pos p2:Pos}
theorem RelV.bool_iff {x:V}{v:Value}{b:Bool}(r:RelV x v):(v == Value.bool b)=decide (x=.bl b):=by
 cases x with
 | non=>cases r;rfl
 | bl c=>cases r;cases c<;>cases b<;>rfl
 | int _=>obtain⟨t,rfl⟩:=r;rfl
 | str _=>obtain⟨t,rfl⟩:=r;rfl
 | byt _=>obtain⟨t,rfl⟩:=r;rfl
 | flt _=>obtain⟨t,rfl⟩:=r;rfl
 | ref _=>cases r;rfl
 | ty _=>cases r;rfl
theorem a6u {M:Model}{A:Around}{E:Value->Shared->Prop}{s:Shared}{Q:Value->Shared->Prop}{x:V}{v:Value}{b:Bool}(r:RelV x v)(h:Q (.bool (!decide (x=.bl b))) s):wpAny M A (compareOp .IsNot v (.bool b)) Q E s:=by
 rw[<- r.bool_iff] at h
 cases x with
 | bl c=>cases r;exact Γb h
 | non=>cases r;exact Γb h
 | ref _=>cases r;exact Γb h
 | ty _=>cases r;exact Γb h
 | _=>obtain⟨t,rfl⟩:=r;exact Γb h
theorem c6w {b:Bool} {j pos'}(ha:PE X a ta):PC X .IsNot a (.Constant (.bool b) j pos') (λσ H Q=>ta σ H λx H1=>Q (.bl (!decide (x=.bl b))) H1):=by
 intro pins s σ H Q I h
 refine thn (ha pins s σ H _ I h) λv s1 ⟨x,H1,I1,r1,q1⟩=>?_
 exact Constant_bool (a6u r1 ⟨.bl _,H1,I1,rfl,q1⟩)
end
end L2
end
section
namespace L2
open PySem PySem.Spec PyProof.Rows
def b1q (cells:List (Str×Addr)):List (Str×NameKind)->List (Str×Addr)->List (Str×Addr)
 | [],acc=>acc
 | (n,k) :: r,acc=>if (k == NameKind.free)=true then b1q cells r ((n,(cells.lookup n).getD 0) :: acc) else b1q cells r acc
theorem b4m {env:Env}:∀ (names:List (Str×NameKind))(acc:List (Str×Addr)),(∀ p∈names,p.2=.free->∃ c,env.cells.lookup p.1=some c) ->
  (forIn names acc λ(x:Str×NameKind)(cs:List (Str×Addr))=>if (x.2 == NameKind.free)=true then cellOf env x.1 >>= λc=>pure (ForInStep.yield ((x.1,c) :: cs)) else pure (ForInStep.yield cs):Sem (List (Str×Addr)))=pure (b1q env.cells names acc)
 | [],acc,_=>rfl
 | (n,k) :: r,acc,h=>by
  have ih:=b4m (env:=env) r
  rw[List.forIn_cons]
  unfold b1q
  by_cases hk:(k == NameKind.free)=true
  ·obtain⟨c,hc⟩:=h (n,k) Γn (by simpa using hk)
   have hcell:cellOf env n=pure c:=by
    have hc':env.cells.lookup n=some c:=hc
    unfold cellOf;rw[hc']
   have hc':env.cells.lookup n=some c:=hc
   simp only[hk,if_true,hcell,hc',Option.getD_some,pure_bind]
   exact ih _ λp hp=>h p (Γh _ hp)
  ·simp only[hk,if_false,pure_bind,Γp]
   exact ih _ λp hp=>h p (Γh _ hp)
theorem a7p {scope:Scope}{env:Env}(h:∀ p∈scope.names,p.2=.free->∃ c,env.cells.lookup p.1=some c):closureFor scope env=pure (b1q env.cells scope.names []):=by
 have q:=b4m (env:=env) scope.names [] h
 unfold closureFor
 first
  | exact (by rw[q];rfl)
  | (simp only[bind_pure];exact q)
theorem a4e {cells:List (Str×Addr)}{x:Str}{c:Addr}:∀ (names:List (Str×NameKind))(acc:List (Str×Addr)),(∀ p∈names,p.2=.free->∃ c,cells.lookup p.1=some c)->(∀ y d,acc.lookup y=some d->cells.lookup y=some d) ->
  (b1q cells names acc).lookup x=some c->cells.lookup x=some c
 | [],acc,_,ha,h=>ha x c h
 | (n,k) :: r,acc,hn,ha,h=>by
  unfold b1q at h
  split at h
  ·rename_i hk
   refine a4e r _ (λp hp=>hn p (Γh _ hp)) (λy d hy=>?_) h
   rw[List.lookup_cons] at hy
   obtain⟨c',hc'⟩:=hn (n,k) Γn (by simpa using hk)
   have hc'':cells.lookup n=some c':=hc'
   split at hy
   ·rename_i hyn
    have e:y=n:=by simpa using hyn
    subst e
    rw[hc''] at hy ⊢
    exact hy
   ·exact ha y d hy
  ·exact a4e r _ (λp hp=>hn p (Γh _ hp)) ha h
theorem a9d {cells:List (Str×Addr)}{x:Str}:∀ (names:List (Str×NameKind))(acc:List (Str×Addr)),((x,NameKind.free)∈names ∨ ∃ c,acc.lookup x=some c)->∃ c,(b1q cells names acc).lookup x=some c
 | [],acc,h=>by
  rcases h with h|h
  ·simp at h
  ·exact h
 | (n,k) :: r,acc,h=>by
  unfold b1q
  split
  ·refine a9d r _ ?_
   by_cases hx:x=n
   ·subst hx
    exact .inr ⟨(cells.lookup x).getD 0,by rw[List.lookup_cons];simp⟩
   ·rcases h with h|⟨c,h⟩
    ·rcases List.mem_cons.mp h with h|h
     ·cases h;exact absurd rfl hx
     ·exact .inl h
    ·refine .inr ⟨c,?_⟩
     rw[List.lookup_cons]
     have:(x == n)=false:=by simpa using hx
     rw[this]
     exact h
  ·rename_i hk
   refine a9d r _ ?_
   rcases h with h|h
   ·rcases List.mem_cons.mp h with h|h
    ·cases h;simp at hk
    ·exact .inl h
   ·exact .inr h
theorem a3n {env : Env} {x : Str} : ∀ {names : List (Str × NameKind)},
    ((names.map λ(n,k)=>if (k == NameKind.free && env.scope.kind == .function && env.kindOf n == some .cell) then (n,NameKind.cell) else (n,k)).lookup x=some .cell ∨
     (names.map λ(n,k)=>if (k == NameKind.free && env.scope.kind == .function && env.kindOf n == some .cell) then (n,NameKind.cell) else (n,k)).lookup x=some .free)->names.lookup x=some .cell ∨ names.lookup x=some .free
  | [],h=>by rcases h with h|h<;>simp at h
  | (n,k) :: r,h=>by
    have ih:=@a3n env x r
    rw[List.map_cons] at h
    rw[List.lookup_cons]
    by_cases hk:(k == NameKind.free && env.scope.kind == .function && env.kindOf n == some .cell)=true
    · simp only[hk,if_true] at h
      cases hx:x == n with
      | true =>
        have : k = .free := by simp only [Bool.and_eq_true] at hk; simpa using hk.1.1
        exact .inr (by rw [this])
      | false =>
        simp only [List.lookup_cons, hx] at h
        exact ih h
    · simp only[hk,if_false,Γp] at h
      cases hx:x == n with
      | true=>simpa only[List.lookup_cons,hx] using h
      | false =>
        simp only [List.lookup_cons, hx] at h
        exact ih h
theorem a1d:∀ (names:List (Str×NameKind)) (b:Nat)(acc:List (Str×Addr)),cellsFrom b names acc=cellsFrom b names []++acc
 | [],_,_=>rfl
 | (n,k) :: r,b,acc=>by
  unfold cellsFrom
  split
  ·rw[a1d r _ ((n,b) :: acc),a1d r _ [(n,b)],List.append_assoc];rfl
  ·exact a1d r b acc
theorem a3r:∀ (names:List (Str×NameKind)) (b:Nat){x:Str}{c:Addr},(x,c)∈cellsFrom b names []->(x,NameKind.cell)∈names
 | [],_,_,_,h=>by simp[cellsFrom] at h
 | (n,k) :: r,b,x,c,h=>by
  unfold cellsFrom at h
  split at h
  ·rename_i hk
   rw[a1d] at h
   rcases List.mem_append.mp h with h|h
   ·exact Γh _ (a3r r _ h)
   ·simp at h
    have:k=.cell:=by simpa using hk
    rw[h.1,this];exact Γn
  ·exact Γh _ (a3r r _ h)
theorem a8p {x:Str}{c:Addr}:∀ {l l':List (Str×Addr)},(l++l').lookup x=some c->l.lookup x=some c ∨ (l.lookup x=none/\l'.lookup x=some c)
 | [],_,h=>.inr ⟨rfl,h⟩
 | (n,d) :: r,l',h=>by
  rw[List.cons_append,List.lookup_cons] at h
  rw[List.lookup_cons]
  cases hx:x == n with
  | true=>rw[hx] at h;exact .inl h
  | false=>rw[hx] at h;exact a8p h
theorem b8d {x:Str}:∀ {l l':List (Str×Addr)},((∃ c,l.lookup x=some c) ∨ ∃ c,l'.lookup x=some c)->∃ c,(l++l').lookup x=some c
 | [],_,h=>by
  rcases h with⟨c,h⟩|h
  ·cases h
  ·exact h
 | (n,d) :: r,l',h=>by
  rw[List.cons_append,List.lookup_cons]
  cases hx:x == n with
  | true=>exact⟨d,rfl⟩
  | false =>
   refine b8d ?_
   rcases h with⟨c,h⟩|h
   ·rw[List.lookup_cons,hx] at h;exact .inl ⟨c,h⟩
   ·exact .inr h
theorem b0h {M:Model}{A:Around}{E:Value->Shared->Prop}{s:Shared}{scope:Scope}{globals:Addr}{cl:List (Str×Addr)}{qual:Str}{env:Env}{Q:Env->Shared->Prop}
  (hQ:∀ h4:Heap,h4.Ns s.heap.objs.size (λ_=>none)->(∀ b o,s.heap.get? b=some o->h4.get? b=some o)->CellsOk h4 (s.heap.objs.size+1) (cellsFrom (s.heap.objs.size+1) scope.names []) ->
   Q (newEnv scope s.heap.objs.size globals (cellsFrom (s.heap.objs.size+1) scope.names cl) qual none .none (some env) builtinsNs) { s with heap:=h4,toks:=s.toks+([]:List (Str×Value)).length }) :
  wpAny M A (newFunctionEnv scope globals cl [] qual none .none (some env)) Q E s:=by
 simp only[newFunctionEnv,Option.isSome_some,if_true]
 refine Γa (wpAny_alloc ?_)
 refine Γa (wpAny_layCells _ (λname kind cells=>by cases hkc:kind == NameKind.cell<;>simp[hkc]) _ _ _ _ ?_)
 have ok:=cellsFrom_ok scope.names (s.heap.push { cls:=.type "dict",data:=.dict #[] }) (s.heap.objs.size+1) [] ⟨λ_ _ hm=>(nomatch hm),List.Pairwise.nil⟩ (by rw[Heap.size_push];exact Γi _)
 rw[Heap.size_push] at ok
 rw[show ({ s with heap:=s.heap.push { cls:=.type "dict",data:=.dict #[] } }:Shared).heap.objs.size=s.heap.objs.size+1 from Heap.size_push ..]
 simp only[List.forIn_nil]
 exact Γa (Γb (Γb (hQ _ ((Heap.Ns.new s.heap (.type "dict")).keeps (pushCells_keeps _ _)) (λb o e=>pushCells_keeps _ _ b o (Γc _ e)) ok)))
def d4s (x:Str):Str:=Γe "#"++x
def a8l (own:List Str)(x:Str):Str:=if own.contains x then d4s x else x
def cxC (X:Cx)(scope:Scope)(own:List Str)(fp:List Addr)(C:Addr)(s:Shared)(H:Hp):Cx :=
 { X with N:=X.N.map (a8l own)++own,s₀:=s,H₀:=H,env:=compEnvC scope (cellsFrom (C+1) scope.names (b1q X.env.cells scope.names [])) C X.env,outer:=X.stack,stack:=X.stack,ex:=fp,fn:=λx=>scope.names.lookup x == some .cell,pn:=[],xe:=λ_ _=>False }
structure CScope (X:Cx)(scope:Scope)(own:List Str):Prop where
 kind:scope.kind=.function
 nocell:∀ p∈scope.names,p.2=.cell->scope.names.lookup p.1=some .cell
 names:∀ p∈scope.names,p.2=.local->scope.names.lookup p.1=some .local
 free:∀ p∈scope.names,p.2=.free->X.env.kindOf p.1=some .cell ∨ X.env.kindOf p.1=some .free
 apart:∀ x∈X.N,own.contains x=false->scope.names.lookup x≠some .local/\scope.names.lookup x≠some .cell
 hid:∀ x∈X.N,own.contains x=true->scope.names.lookup (d4s x)=none
section
variable {X:Cx}
theorem a7i {names:List (Str×NameKind)}{x:Str}{k:NameKind}(h:names.lookup x=some k):(x,k)∈names:=PySem.mem_of_lookup h
theorem a4i {env:Env}{x:Str}:∀ {names:List (Str×NameKind)},
  (names.map λ(n,k)=>if (k == NameKind.free && env.scope.kind == .function && env.kindOf n == some .cell) then (n,NameKind.cell) else (n,k)).lookup x=some .local->names.lookup x=some .local
 | [],h=>by simp at h
 | (n,k) :: r,h=>by
  have ih:=@a4i env x r
  rw[List.map_cons] at h
  rw[List.lookup_cons]
  by_cases hk:(k == NameKind.free && env.scope.kind == .function && env.kindOf n == some .cell)=true
  ·simp only[hk,if_true] at h
   cases hx:x == n with
   | true=>simp[List.lookup_cons,hx] at h
   | false =>
    simp only[List.lookup_cons,hx] at h
    exact ih h
  ·simp only[hk,if_false,Γp] at h
   cases hx:x == n with
   | true=>simpa[List.lookup_cons,hx] using h
   | false =>
    simp only[List.lookup_cons,hx] at h
    exact ih h
theorem a9x {env:Env}{scope:Scope}{x:Str}(h:scope.names.lookup x=none):(relabel scope env).names.lookup x=none:=by
 unfold relabel
 simp only
 generalize scope.names=l at h
 induction l with
 | nil=>rfl
 | cons p r ih =>
  obtain⟨n,k⟩:=p
  rw[List.lookup_cons] at h
  cases e:(x == n) with
  | true=>rw[e] at h;cases h
  | false =>
   rw[e] at h
   rw[List.map_cons]
   split
   ·rw[List.lookup_cons,e];exact ih h
   ·rw[List.lookup_cons,e];exact ih h
theorem c3h {scope:Scope}{own:List Str}{fp:List Addr}{pins:List (Addr×Obj)}{σ:St}{H:Hp}{s:Shared}{h4:Heap}{t4:Nat}(I:Inv X pins σ H s)(SC:CScope X scope own)(hc:X.calm=true)
  (hf:∀ b∈fp,b5s X pins H b)(hfo:∀ b∈fp,∃ o,s.heap.get? b=some o)
  (hns:h4.Ns s.heap.objs.size (λ_=>none))(hk:∀ b o,s.heap.get? b=some o->h4.get? b=some o)(ok:CellsOk h4 (s.heap.objs.size+1) (cellsFrom (s.heap.objs.size+1) scope.names [])) :
  Inv (cxC X scope own fp s.heap.objs.size s H) [] (σ++Γj own.length none) H { s with heap:=h4,toks:=t4 }:=by
 have fr:∀ p∈scope.names,p.2=.free->∃ c,X.env.cells.lookup p.1=some c:=λp hp hq=>I.ok.has p.1 (SC.free p hp hq)
 have cl0:∀ {x:Str}{c:Addr},(b1q X.env.cells scope.names []).lookup x=some c->X.env.cells.lookup x=some c:=λh=>a4e scope.names [] fr (λy d hy=>by simp at hy) h
 have cl:∀ {x:Str}{c:Addr},(cellsFrom (s.heap.objs.size+1) scope.names (b1q X.env.cells scope.names [])).lookup x=some c->((x,c)∈cellsFrom (s.heap.objs.size+1) scope.names []/\s.heap.objs.size+1<=c) ∨ X.env.cells.lookup x=some c:=λh=>by
  rw[a1d] at h
  rcases a8p h with z|z
  ·exact .inl ⟨PySem.mem_of_lookup z,(ok.empty _ _ (PySem.mem_of_lookup z)).2⟩
  ·exact .inr (cl0 z.2)
 have hasC:∀ {x:Str},(scope.names.lookup x=some .cell ∨ scope.names.lookup x=some .free)->∃ c,(cellsFrom (s.heap.objs.size+1) scope.names (b1q X.env.cells scope.names [])).lookup x=some c:=λ{x} h=>by
  rw[a1d]
  refine b8d ?_
  rcases h with h|h
  ·exact .inl (Option.isSome_iff_exists.mp (PySem.W.cellsFrom_some _ _ _ (.inl h)))
  ·exact .inr (a9d scope.names [] (.inl (a7i h)))
 have clt:∀ {x:Str}{c:Addr},X.env.cells.lookup x=some c->c<s.heap.objs.size:=λh=>by obtain⟨v,q⟩:=I.cell _ _ h;exact q.lt
 refine⟨⟨I.ok.mod,SC.kind,I.ok.glob,I.ok.blt,Γi _,λx y c h1 h2=>?_,λx hx=>?_,λx c hf' h=>?_,λ_=>I.ok.hd hc,I.ok.frames,.inl rfl,λb hb=>?_,
   λb o e=>I.bs b o e,Nat.le_trans I.ok.bsz I.sz,λb o e hb=>?_,λb hb hz=>?_,I.stack,I.stkFree⟩,
  rfl,I.bare,Un.kept hk,⟨_,hns,λi x v e1 e2 e3=>?_⟩,λx c h=>?_,I.fresh,λx c h=>(cl h).elim (λz=>I.hok.fresh (by lia)) (I.freeC x c),λp hp=>absurd (show p∈([]:List (Addr×Obj)) from hp) (by simp),I.hok.kept hk,?_⟩
 ·rcases cl h1 with z1|z1<;>rcases cl h2 with z2|z2
  ·exact name_of_addr ok.apart z1.1 z2.1
  ·exact absurd (clt z2) (Nat.not_lt.mpr (Nat.le_of_succ_le z1.2))
  ·exact absurd (clt z1) (Nat.not_lt.mpr (Nat.le_of_succ_le z2.2))
  ·exact I.ok.inj x y c z1 z2
 ·have hx:(relabel scope X.env).names.lookup x=some .cell ∨ (relabel scope X.env).names.lookup x=some .free:=hx
  exact hasC (a3n hx)
 ·have hf':(scope.names.lookup x == some .cell)=true:=hf'
  have h:(cellsFrom (s.heap.objs.size+1) scope.names (b1q X.env.cells scope.names [])).lookup x=some c:=h
  obtain⟨c',hc'⟩:=Option.isSome_iff_exists.mp (PySem.W.cellsFrom_some scope.names (s.heap.objs.size+1) [] (.inl (by simpa using hf')))
  rw[a1d] at h
  rcases a8p h with z|z
  ·have:=(ok.empty _ _ (PySem.mem_of_lookup z)).2
   show s.heap.objs.size<=c
   lia
  ·rw[hc'] at z;cases z.1
 ·have hb:b∈fp:=hb
  obtain⟨o,ho⟩:=hfo b hb
  exact⟨Γo (Γl ho),λx c h=>(cl h).elim (λz e=>absurd (e ▸ Γl ho:c<s.heap.objs.size) (Nat.not_lt.mpr (Nat.le_of_succ_le z.2))) ((hf b hb).2.2.2.2.1 x c)⟩
 ·have hb:b∈fp:=hb
  have e:X.base.get? b=some o:=e
  rcases (hf b hb).2.2.2.1 with z|z
  ·exact I.ok.noex b o e z
  ·exact absurd (Nat.lt_of_lt_of_le (Γl e) (Nat.le_trans I.ok.bsz z)) (Nat.lt_irrefl _)
 ·have hb:b∈fp:=hb
  have hz:b∈frs X.stack:=hz
  rcases List.mem_cons.mp (I.stkSub b hz) with z|z
  ·exact (hf b hb).2.1 z
  ·exact (hf b hb).2.2.1 z
 ·have e1:(X.N.map (a8l own)++own)[i]?=some x:=e1
  have e3:Vis (relabel scope X.env) x:=e3
  have hi:i<σ.length:=by
   by_cases hi:i<σ.length
   ·exact hi
   ·rw[List.getElem?_append_right (by lia),List.getElem?_replicate] at e2
    split at e2<;>cases e2
  rw[List.getElem?_append_left hi] at e2
  rw[List.getElem?_append_left (by rw[List.length_map,<- I.len];exact hi),List.getElem?_map] at e1
  obtain⟨y,e1,ey⟩:=Option.map_eq_some_iff.mp e1
  have hny:own.contains y=false:=by
   cases hy:own.contains y with
   | false=>rfl
   | true =>
    exfalso
    have hh:=SC.hid y (List.mem_of_getElem? e1) hy
    have ex:x=d4s y:=by rw[<- ey];unfold a8l;rw[if_pos hy]
    rw[<- ex] at hh
    have e4:(relabel scope X.env).names.lookup x=none:=a9x hh
    rcases e3 with z|z|z<;>(rw[e4] at z;cases z)
  have ex:x=y:=by rw[<- ey];unfold a8l;rw[if_neg (by rw[hny];exact Γk)]
  rw[<- ex] at e1 hny
  have hnl:(relabel scope X.env).names.lookup x≠some .local:=λz=>(SC.apart x (List.mem_of_getElem? e1) hny).1 (a4i z)
  have hv:(relabel scope X.env).names.lookup x=some .cell ∨ (relabel scope X.env).names.lookup x=some .free:=by
   rcases e3 with z|z|z
   ·exact absurd z hnl
   ·exact .inl z
   ·exact .inr z
  have hfr:scope.names.lookup x=some .free:=(a3n hv).resolve_left (SC.apart x (List.mem_of_getElem? e1) hny).2
  have hm:=a7i hfr
  have hkx:=SC.free (x,.free) hm rfl
  obtain⟨m,hn,hl⟩:=I.loc
  have hkx':X.env.scope.names.lookup x=some .cell ∨ X.env.scope.names.lookup x=some .free:=hkx
  obtain⟨u,r,l⟩:=hl i x v e1 e2 (hkx'.elim (λz=>.inr (.inl z)) λz=>.inr (.inr z))
  refine⟨u,r,.inr ⟨hv,?_⟩⟩
  obtain⟨c,hcl⟩:=hasC (.inr hfr)
  refine⟨c,hcl,?_⟩
  rcases l with⟨z,_⟩|⟨z,c',hc',q⟩
  ·rcases hkx with y|y<;>(rw[z] at y;cases y)
  ·rcases cl hcl with y|y
   ·have:=SC.nocell _ (a3r _ _ y.1) rfl
    rw[hfr] at this;cases this
   ·rw[hc'] at y;cases y
    obtain⟨o,ho,hd⟩:=q
    exact⟨o,hk _ _ ho,hd⟩
 ·rcases cl h with z|z
  ·exact⟨_,(ok.empty _ _ z.1).1⟩
  obtain⟨v,o,ho,hd⟩:=I.cell x c z
  exact⟨v,o,hk _ _ ho,hd⟩
 ·show (σ++Γj own.length none).length=(X.N.map (a8l own)++own).length
  rw[List.length_append,List.length_append,List.length_map,List.length_replicate,I.len]
end
def b1u (ifs:List Expr)(env:Env):Sem Bool :=
 forIn ifs true λc r=>if r=true then do let ok <- isTrue c env (eval c env);pure (ForInStep.yield ok) else pure (ForInStep.yield r)
def PTs (X:Cx)(ifs:List Expr)(t:TT):Prop :=
 ∀ (pins:List (Addr×Obj))(s:Shared)(σ:St)(H:Hp)(Q:Bool->Hp->Prop),Inv X pins σ H s->t σ H Q->wpAny (model X.prog X.w) X.A (b1u ifs X.env) (TP X pins σ Q) X.xe s
theorem a5s {M:Model}{A:Around}{E:Value->Shared->Prop}{env:Env}{Q:Bool->Shared->Prop}{s:Shared}(h:Q false s):∀ ifs:List Expr,
  wpAny M A (forIn ifs false λc r=>if r=true then do let ok <- isTrue c env (eval c env);pure (ForInStep.yield ok) else pure (ForInStep.yield r)) Q E s
 | []=>Γb h
 | c :: r=>by
  rw[List.forIn_cons]
  simp only[Γp,if_false]
  exact Γa (Γb (a5s h r))
section
variable {X:Cx}
def d5x:TT:=λ_ H Q=>Q true H
theorem b6y:PTs X [] d5x:=λ_ _ _ H _ I h=>Γb ⟨H,I,h⟩
theorem c2d {c:Expr}{r:List Expr}{t u:TT}(h1:PT X c t)(h2:PTs X r u):PTs X (c :: r) (λσ H Q=>t σ H λb H1=>if b=true then u σ H1 Q else Q false H1):=by
 intro pins s σ H Q I h
 unfold b1u
 rw[List.forIn_cons]
 simp only[if_true]
 refine Γa (Γa (thn (h1 pins s σ H _ I h) λb s1 ⟨H1,I1,q1⟩=>Γb ?_))
 cases b with
 | true =>
  rw[if_pos rfl] at q1
  exact h2 pins s1 σ H1 Q I1 q1
 | false =>
  rw[if_neg Γk] at q1
  exact a5s ⟨H1,I1,q1⟩ r
end
section
variable {prog:Program}{w:World}{A:Around}{R:Result->Shared->Prop}{s:Shared}
def b6a (target iter:Expr)(ifs:List Expr)(it:Value)(env:Env)(fin:Sem Fin)(c:Code):Sem Fin:=do
 standAt iter.pos
 match <- pyNext it with
 | none=>pure (.done .next)
 | some v =>
  letOwnedTupleGo target it v
  assign target env v
  let mut ok:=true
  for c in ifs do
   if ok then ok <- isTrue c env (eval c env)
  if ok then fin else again c
def b9n (elt:Expr)(acc:Value)(env:Env)(c:Code):Sem Fin:=do
 (do let _ <- call (.builtin "list.append") [acc,<- eval elt env])
 again c
theorem b9e {ce:Expr}{dp:Nat}{target iter:Expr}{ifs:List Expr}{it acc:Value}{env:Env}{fin:Sem Fin}(ht:compTurn ce dp it acc env=b6a target iter ifs it env fin (.compLoop ce dp it acc env))(I:Nat->Shared->Prop)
  (turn:∀ n s,I n s->wpAny (model prog w) A (pyNext it) (λr s1=>match r with
   | none=>R (.ok .next) s1
   | some v=>wpAny (model prog w) A (letOwnedTupleGo target it v) (λ_ s2=>wpAny (model prog w) A (assign target env v) (λ_ s3=>wpAny (model prog w) A (b1u ifs env) (λok s4 =>
     if ok=true then wpAny (model prog w) A fin (λf s6=>f=.again (.compLoop ce dp it acc env)/\∃ m,m<n/\I m s6) (λ_ _=>False) s4
     else ∃ m,m<n/\I m s4) (λ_ _=>False) s3) (λ_ _=>False) s2) (λ_ _=>False) s1) (λ_ _=>False) s)
  (n:Nat)(h:I n s)(hA:A.under (.compLoop ce dp it acc env)=A:=by rfl)(hd:(model prog w).den (.compLoop ce dp it acc env)=(compTurn ce dp it acc env).onRaise (λx=>do noteFrame x env;theTreesLotGoes x):=by rfl):codeAny (model prog w) A (.compLoop ce dp it acc env) R s:=by
 refine codeAny_loop rfl I (λn s hI=>?_) n h
 rw[hA,hd]
 refine wpAny_noted ?_
 rw[ht]
 unfold b6a
 have no:∀ (e:Value)(s':Shared),(λ(_:Value)(_:Shared)=>False) e s'->notedBy (model prog w) A env (λe s'=>R (.error e) s') e s':=λ_ _ z=>z.elim
 refine Γa (wpAny_standAt (Γa (wpAny_mono (turn n s hI) (λr s1 h1=>?_) no)))
 cases r with
 | none=>exact Γb h1
 | some v =>
  refine Γa (wpAny_mono h1 (λ_ s2 h2=>Γa (wpAny_mono h2 (λ_ s3 h3=>Γa (wpAny_mono h3 (λok s4 h4=>?_) no)) no)) no)
  cases ok with
  | true =>
   rw[if_pos rfl] at h4
   simp only[if_true]
   exact wpAny_mono h4 (λf s6 ⟨e6,h6⟩=>by rw[e6];exact⟨rfl,h6⟩) no
  | false =>
   rw[if_neg Γk] at h4
   simp only[Γp,if_false]
   first
    | exact Γb ⟨rfl,h4⟩
    | exact Γa (Γb (Γb ⟨rfl,h4⟩))
end
def Wk (σ σ2:St):Prop:=σ2.length=σ.length/\∀ (j:Nat)(v:V),σ[j]?=some (some v)->σ2[j]?=some (some v)
structure CKind (X:Cx)(ce tg iter:Expr)(ifs:List Expr)(scope:Scope)(mk:Sem Value)(ob:Obj)(o0:Addr->HO)(fin:Value->Env->Code->Sem Fin):Prop where
 tn:∀ it acc env,compTurn ce 0 it (.ref acc) env=b6a tg iter ifs it env (fin (.ref acc) env (.compLoop ce 0 it (.ref acc) env)) (.compLoop ce 0 it (.ref acc) env)
 un:∀ (A:Around) it acc env,A.under (.compLoop ce 0 it (.ref acc) env)=A
 dn:∀ it acc env,(model X.prog X.w).den (.compLoop ce 0 it (.ref acc) env)=(compTurn ce 0 it (.ref acc) env).onRaise (λx=>do noteFrame x env;theTreesLotGoes x)
 us:∀ env use,evalThenUse ce env use=(do let _ <- comprehension ce scope env iter.pos mk false (eval iter env) (some use))
 st:∀ {A R s it acc env},codeAny (model X.prog X.w) A (.compLoop ce 0 it acc env) R s->wpAny (model X.prog X.w) A (pyIter it) (λit' s'=>codeAny (model X.prog X.w) A (.compLoop ce 0 it' acc env) R s') (notedBy (model X.prog X.w) A env λx s'=>R (.error x) s') s->codeAny (model X.prog X.w) A (.compStart ce 0 it acc env) R s
 nw:∀ {A s}{Q E:Value->Shared->Prop},Q (.ref s.heap.objs.size) { s with heap:=s.heap.push ob }->wpAny (model X.prog X.w) A mk Q E s
 ok:∀ {pins σ H s},Inv X pins σ H s->Inv X pins σ (upd H s.heap.objs.size (o0 s.heap.objs.size)) { s with heap:=s.heap.push ob,toks:=s.toks }
 ev:∀ env,eval ce env=comprehension ce scope env iter.pos mk false (eval iter env)
 cl:clausesOf ce=[⟨tg,iter,ifs,0⟩]
def PEm (Y:Cx)(fin:Value->Env->Code->Sem Fin)(em:Addr->St->Hp->(Hp->Prop)->Prop):Prop:=∀ pins s σ H acc c K,Inv Y pins σ H s->em acc σ H K->wpAny (model Y.prog Y.w) Y.A (fin (.ref acc) Y.env c) (λf s'=>f=.again c/\∃ H',Inv Y pins σ H' s'/\K H') Y.xe s
def a9s (wi:TI)(g:TG)(tt:TT)(em:Addr->St->Hp->(Hp->Prop)->Prop)(o0:Addr->HO) (own:Nat):TE:=λσ H Q=>wi σ H λJ H1=>∀ acc,H1 acc=none->∃ W:Nat->Nat->Hp->Prop,(∃ m,W 0 m (upd H1 acc (o0 acc)))/\∀ i m H,W i m H ->
 (J.stop i H/\Q (.ref acc) H) ∨ (J.go i H/\∀ x H',J.yld i H x H'->g x (σ++Γj own none) H' λσ2 H2=>Wk (σ++Γj own none) σ2/\tt σ2 H2 λb H3 =>
  if b=true then em acc σ2 H3 λH4=>∃ m',m'<m/\W (i+1) m' H4 else ∃ m',m'<m/\W (i+1) m' H3)
section
variable {X:Cx}{ce elt tg iter:Expr}{ifs:List Expr}{scope:Scope}{own:List Str}{pos:Pos}{wi:TI}{g:TG}{tt:TT}{te:TE}{mk:Sem Value}{ob:Obj}{o0:Addr->HO}{fin:Value->Env->Code->Sem Fin}{em:Addr->St->Hp->(Hp->Prop)->Prop}
theorem b1b {pins:List (Addr×Obj)}{σ:St}{H2:Hp}{s2:Shared}{Q:VK}{it:Addr}{fp:List Addr}{tn:Nat->Heap->Prop}{J:It}{RR:Value->Addr->Result->Shared->Prop}
  (hc:X.calm=true)(SC:CScope X scope own)(CK:CKind X ce tg iter ifs scope mk ob o0 fin)
  (hblock:∀ C s H,PG (cxC X scope own fp C s H) tg g/\PTs (cxC X scope own fp C s H) ifs tt/\PEm (cxC X scope own fp C s H) fin em)
  (I2:Inv X pins σ H2 s2)(T:Turn X.prog X.w X.K tg J fp it tn)(st2:tn 0 s2.heap)(f2:∀ b∈fp,b5s X pins H2 b)
  (h:∀ acc,H2 acc=none->∃ W:Nat->Nat->Hp->Prop,(∃ m,W 0 m (upd H2 acc (o0 acc)))/\∀ i m H,W i m H ->
   (J.stop i H/\Q (.ref acc) H) ∨ (J.go i H/\∀ x H',J.yld i H x H'->g x (σ++Γj own.length none) H' λσ2 H2=>Wk (σ++Γj own.length none) σ2/\tt σ2 H2 λb H3 =>
    if b=true then em acc σ2 H3 λH4=>∃ m',m'<m/\W (i+1) m' H4 else ∃ m',m'<m/\W (i+1) m' H3))
  (hRR:∀ acc C H' m s',Inv X pins σ H' s'->s'.heap.Ns C m->C≠X.env.locals->(∀ x c,X.env.cells.lookup x=some c->c≠C)->s2.heap.objs.size<=C->H' C=none->Q (.ref acc) H'->RR (.ref acc) C (.ok .next) s'){E:Value->Shared->Prop} :
  wpAny (model X.prog X.w) X.A mk (λacc s3=>wpAny (model X.prog X.w) X.A (newFunctionEnv scope X.env.globals (b1q X.env.cells scope.names []) [] X.env.qual none .none (some X.env)) (λcenv s4 =>
   codeAny (model X.prog X.w) X.A (.compStart ce 0 (.ref it) acc { cenv with scope:=relabel scope X.env }) (RR acc cenv.locals) s4) E s3) E s2:=by
 have hacc:=I2.fresh
 have I3:Inv X pins σ (upd H2 s2.heap.objs.size (o0 s2.heap.objs.size)) { s2 with heap:=s2.heap.push ob,toks:=s2.toks }:=CK.ok I2
 refine CK.nw ?_
 obtain⟨W,⟨m0,w0⟩,turn⟩:=h _ hacc
 generalize hs3:({ s2 with heap:=s2.heap.push ob,toks:=s2.toks }:Shared)=s3 at I3
 have keep23:∀ b o,s2.heap.get? b=some o->s3.heap.get? b=some o:=λb o e=>by rw[<- hs3];exact Γc _ e
 have hf3:∀ b∈fp,b5s X pins (upd H2 s2.heap.objs.size (o0 s2.heap.objs.size)) b:=λb hb=>by
  obtain⟨o,ho,_⟩:=T.obj _ _ st2 b hb
  exact⟨by rw[a0e (Γo (Γl ho))];exact (f2 b hb).1,(f2 b hb).2⟩
 have st3:tn 0 s3.heap:=T.keep _ _ _ st2 λb hb o e=>keep23 b o e
 refine b0h λh4 hns' keep34 ok34=>?_
 have I4:=c3h (t4:=s3.toks+([]:List (Str×Value)).length) I3 SC hc hf3 (λb hb=>by obtain⟨o,ho,_⟩:=T.obj _ _ st3 b hb;exact⟨o,ho⟩) hns' keep34 ok34
 have st4:tn 0 h4:=T.keep _ _ _ st3 λb hb o e=>keep34 b o e
 obtain⟨hg,ht,he⟩:=hblock s3.heap.objs.size s3 (upd H2 s2.heap.objs.size (o0 s2.heap.objs.size))
 have e5:(cxC X scope own fp s3.heap.objs.size s3 (upd H2 s2.heap.objs.size (o0 s2.heap.objs.size))).env=compEnvC scope (cellsFrom (s3.heap.objs.size+1) scope.names (b1q X.env.cells scope.names [])) s3.heap.objs.size X.env:=rfl
 generalize hY:cxC X scope own fp s3.heap.objs.size s3 (upd H2 s2.heap.objs.size (o0 s2.heap.objs.size))=Y at hg ht he I4 e5
 have fpY:∀ {H':Hp},(∀ b∈fp,H' b=none)->∀ b∈fp,b5s Y [] H' b:=λhn b hb=>by
  obtain⟨o,ho,_⟩:=T.obj _ _ st3 b hb
  refine⟨hn b hb,?_,?_,?_,?_,?_⟩
  ·rw[<- hY];exact Γo (Γl ho)
  ·have:=I4.ok.exfs b (by rw[<- hY];exact hb)
   exact this
  ·exact .inl (by rw[<- hY];exact hb)
  ·exact λx c h=>(I4.ok.exf b (by rw[<- hY];exact hb)).2 x c h
  ·intro p hp;rw[<- hY] at hp;exact absurd (show p∈([]:List (Addr×Obj)) from hp) (by simp)
 have hYp:Y.prog=X.prog/\Y.w=X.w/\Y.K=X.K/\Y.calm=true/\Y.A=X.A/\Y.xe=(λ_ _=>False)/\Y.s₀=s3/\Y.H₀=upd H2 s2.heap.objs.size (o0 s2.heap.objs.size)/\Y.outer=X.stack/\Y.ex=fp:=by rw[<- hY];exact⟨rfl,rfl,rfl,hc,rfl,rfl,rfl,rfl,rfl,rfl⟩
 obtain⟨y1,y2,y3,y4,y5,y6,y7,y8,y9,y10⟩:=hYp
 have loop:∀ s5:Shared,s5 = { s3 with heap:=h4,toks:=s3.toks+([]:List (Str×Value)).length } ->
   codeAny (model X.prog X.w) X.A (.compLoop ce 0 (.ref it) (.ref s2.heap.objs.size) Y.env) (RR (.ref s2.heap.objs.size) s3.heap.objs.size) s5:=by
  rintro s5 rfl
  refine b9e (hA:=CK.un ..) (hd:=CK.dn ..) (CK.tn _ _ _) (λn s'=>∃ i H',Inv Y [] (σ++Γj own.length none) H' s'/\tn i s'.heap/\(∀ b∈fp,H' b=none)/\W i n H') ?_ m0 ⟨0,_,I4,st4,λb hb=>(hf3 b hb).1,w0⟩
  rintro n s6 ⟨i,H6,I6,st6,fr6,w6⟩
  rcases turn i n H6 w6 with⟨stop,q⟩|⟨go,step⟩
  ·have d:=T.done Y y1 y2 y3 y4 i [] s6 _ H6 (λ_ _=>False) I6 (fpY fr6) st6 stop
   rw[y5] at d
   refine thn d λr s7 ⟨hr,I7⟩=>?_
   subst hr
   obtain⟨m,hn,_⟩:=I7.loc
   have hL:Y.env.locals=s3.heap.objs.size:=by rw[e5];rfl
   rw[hL] at hn
   have b7:=I7.base
   rw[y7,y8,y10] at b7
   have b7':Un (frs X.stack) fp (upd H2 s2.heap.objs.size (o0 s2.heap.objs.size)) H6 s3.heap s7.heap:=by
    have z:Y.fs=frs X.stack:=by show frs Y.outer=_;rw[y9]
    rw[z] at b7
    exact b7
   have hok7:=I7.hok
   rw[y1,y2] at hok7
   have os7:=I7.os
   rw[y7] at os7
   have I8:Inv X pins σ H6 s7:=I3.call' os7 b7' hok7 I7.bare λb hb=>⟨(hf3 b hb).2.2.2.1,(hf3 b hb).2.1,(hf3 b hb).2.2.2.2.1,(hf3 b hb).2.2.2.2.2⟩
   have hfree:=I7.free
   rw[hL] at hfree
   refine hRR _ _ H6 m s7 I8 hn (Nat.ne_of_gt I3.lt) (λx c h z=>?_) ?_ hfree q
   ·obtain⟨v,y⟩:=I3.cell x c h
    exact absurd y.lt (by rw[z];exact Nat.lt_irrefl _)
   ·rw[<- hs3,Heap.size_push];exact Nat.le_succ _
  ·have d:=T.item Y y1 y2 y3 y4 i [] s6 _ H6 (λ_ _=>False) I6 (fpY fr6) st6 go
   rw[y5] at d
   refine thn d λr s7 ⟨u,hr,h7⟩=>?_
   subst hr
   refine thn h7 λ_ s8 ⟨x,H8,I8,r8,y8',st8,fr8⟩=>?_
   have I8':=I8.pinned (fpY fr8) (T.obj _ _ st8)
   have pinK:∀ {σ':St}{H':Hp}{s':Shared},Inv Y ([]++b0b fp s8.heap) σ' H' s'->tn (i+1) s'.heap/\∀ b∈fp,H' b=none:=λ{σ' H' s'} I' =>
    ⟨T.keep _ _ _ st8 λb hb o e=>(I'.pin (b,o) (List.mem_append_right _ (List.mem_append_right _ (a3x hb e)))).1,λb hb=>by
     obtain⟨o,e,_⟩:=T.obj _ _ st8 b hb
     exact (I'.pin (b,o) (List.mem_append_right _ (List.mem_append_right _ (a3x hb e)))).2.1⟩
   have dg:=hg _ s8 _ H8 x u _ I8' r8 (step x H8 y8')
   rw[y1,y2,y5,y6] at dg
   refine thn dg λ_ s9 ⟨σ9,H9,I9,wk,q9⟩=>?_
   have dt:=ht _ s9 σ9 H9 _ I9 q9
   rw[y1,y2,y5,y6] at dt
   refine thn dt λok s10 ⟨H10,I10,q10⟩=>?_
   cases ok with
   | true =>
    rw[if_pos rfl] at q10 ⊢
    have de:=he _ s10 σ9 H10 s2.heap.objs.size (.compLoop ce 0 (.ref it) (.ref s2.heap.objs.size) Y.env) _ I10 q10
    rw[y1,y2,y5,y6] at de
    refine thn de λf s12 ⟨e12,H12,I12,m',hm,w12⟩=>⟨e12,?_⟩
    obtain⟨t12,f12⟩:=pinK I12
    exact⟨m',hm,i+1,_,(I12.unpinned).weak wk.1.symm wk.2,t12,f12,w12⟩
   | false =>
    rw[if_neg Γk] at q10 ⊢
    obtain⟨m',hm,w10⟩:=q10
    obtain⟨t10,f10⟩:=pinK I10
    exact⟨m',hm,i+1,_,(I10.unpinned).weak wk.1.symm wk.2,t10,f10,w10⟩
 rw[e5] at loop
 exact CK.st (loop _ rfl) (T.self _ 0 _ _ _ st4 (loop _ rfl))
theorem a8e (hc:X.calm=true)(SC:CScope X scope own)(CK:CKind X.nox ce tg iter ifs scope mk ob o0 fin)(hi:PI X.nox tg iter wi)
  (hblock:∀ fp C s H,PG (cxC X scope own fp C s H) tg g/\PTs (cxC X scope own fp C s H) ifs tt/\PEm (cxC X scope own fp C s H) fin em)
  (hs:∀ x,foldedSetIterable iter X.env x=pure x:=by intro _;rfl) :
  PE X.nox ce (a9s wi g tt em o0 own.length):=by
 intro pins s σ H Q I h
 have fr:∀ p∈scope.names,p.2=.free->∃ c,X.env.cells.lookup p.1=some c:=λp hp hq=>I.ok.has p.1 (SC.free p hp hq)
 rw[CK.ev]
 refine wpAny_comprehension_free (use:=none) CK.cl hs (a7p fr) SC.kind SC.names (thn (hi pins s σ H _ I h) λv s1 h1=>thn h1 λitv s2 h2=>?_)
 obtain⟨it,fp,tn,J,H2,e,I2,T,st2,f2,h2⟩:=h2
 subst e
 refine b1b (X:=X.nox) (own:=own) (RR:=λacc C=>compPost (model X.prog X.w) X.A (λ_ _=>False) none (EP X.nox pins σ Q) acc C) hc ⟨SC.kind,SC.nocell,SC.names,SC.free,SC.apart,SC.hid⟩ CK (λC s H=>hblock fp C s H) I2 T st2 f2 h2 ?_
 intro acc C H' m s' I' hn hL hcl hC hH q
 obtain⟨f0,f1,f2',f3,f4,f5⟩:=I2.fpOk hC hH
 refine⟨m,hn,λh' hsb=>⟨.ref acc,H',?_,rfl,q⟩⟩
 exact I'.turned (t':=s'.toks) (λb o hb e=>(hsb.2 b hb).trans e) f0 f1 f3 f4 f5
theorem a5u {i:Nat}{x:Str}{px:Pos}{spos:Pos}(hc:X.calm=true)(SC:CScope X scope own)(CK:CKind X.nox ce tg iter ifs scope mk ob o0 fin)(hN:X.N.Nodup)(hx:X.N[i]?=some x)(hl:X.env.scope.names.lookup x=some .local)(hi:PI X.nox tg iter wi)
  (hblock:∀ fp C s H,PG (cxC X scope own fp C s H) tg g/\PTs (cxC X scope own fp C s H) ifs tt/\PEm (cxC X scope own fp C s H) fin em)
  (hsw:swapsWith ce (some (.Name x px)) spos.line X.env=pure true)
  (hs:∀ x,foldedSetIterable iter X.env x=pure x:=by intro _;rfl) :
  PS X.nox (.Assign [.Name x px] ce spos) (b6h (a9s wi g tt em o0 own.length) (a4n i)):=by
 intro pins s σ H D I h
 have fr:∀ p∈scope.names,p.2=.free->∃ c,X.env.cells.lookup p.1=some c:=λp hp hq=>I.ok.has p.1 (SC.free p hp hq)
 show wpAny (model X.prog X.w) X.A (exec _ X.env) _ _ s
 rw[exec_Assign_Name_used _ _ _ _ hsw]
 refine Γa (wpAny_standAt (Γa ?_))
 rw[CK.us]
 refine Γa (wpAny_mono (wpAny_comprehension_free (use:=some (assign (.Name x px) X.env)) (Q:=λ_ s'=>SP X.nox pins D .next s') CK.cl hs (a7p fr) SC.kind SC.names
  (thn (hi pins s σ H _ I h) λv s1 h1=>thn h1 λitv s2 h2=>?_)) (λ_ s' hq=>Γb (Γb hq)) λ_ _ e=>e)
 obtain⟨it,fp,tn,J,H2,e,I2,T,st2,f2,h2⟩:=h2
 subst e
 refine b1b (X:=X.nox) (own:=own) (Q:=λv H1=>a4n i v σ H1 D.nx) (RR:=λacc C=>compPost (model X.prog X.w) X.A (λ_ _=>False) (some (assign (.Name x px) X.env)) (λ_ s'=>SP X.nox pins D .next s') acc C) hc ⟨SC.kind,SC.nocell,SC.names,SC.free,SC.apart,SC.hid⟩ CK (λC s H=>hblock fp C s H) I2 T st2 f2 h2 ?_
 intro acc C H' m s' I' hn hL hcl hC hH q
 obtain⟨f0,f1,f2',f3,f4,f5⟩:=I2.fpOk hC hH
 show wpAny (model X.prog X.w) X.A (assign (.Name x px) X.env (.ref acc)) _ _ s'
 refine wpAny_assign_Name (a9t (X:=X.nox) I' hN hx (.inl hl) (v:=.ref acc) rfl (λs'' I'' hch=>?_) (.inr hl))
 obtain⟨a,hsa,ha⟩:=hch
 have hCa:C≠a:=by
  rcases ha with z|z
  ·rw[z];exact hL
  ·exact λy=>hcl x a z y.symm
 refine⟨m,hn.sameBut hsa hCa,λh' hsb=>?_⟩
 exact⟨_,H',I''.turned (t':=s''.toks) (λb o hb e=>(hsb.2 b hb).trans e) f0 f1 f3 f4 f5,q⟩
def emL (te:TE):Addr->St->Hp->(Hp->Prop)->Prop:=λacc σ H K=>te σ H λv H4=>∃ ys,H4 acc=some (.lst ys)/\ys.length<sizeLine/\K (upd H4 acc (.lst (ys++[v])))
def c1o (wi:TI)(g:TG)(tt:TT)(te:TE) (own:Nat):TE:=a9s wi g tt (emL te) (λ_=>.lst []) own
theorem c0l:CKind X (.ListComp elt [⟨tg,iter,ifs,0⟩] scope pos) tg iter ifs scope (newList []) { cls:=.type "list",data:=.seq ([]:List Value).toArray } (λ_=>.lst []) (b9n elt) :=
 ⟨λ_ _ _=>rfl,λ_ _ _ _=>rfl,λ_ _ _=>rfl,λ_ _=>rfl,codeAny_compStart_list,λq=>wpAny_newObj_type q,λI=>I.lnew .nil (Nat.zero_le _),λ_=>by rw[eval_ListComp];rfl,rfl⟩
theorem b3k {Y:Cx}(he:PE Y elt te):PEm Y (b9n elt) (emL te):=by
 intro pins s σ H acc c K I q
 unfold b9n
 refine Γa (Γa (thn (he _ s σ H _ I q) λy s11 ⟨v11,H11,I11,r11,ys,hys,hz,k⟩=>Γa ?_))
 refine thn (a5y (X:=Y) _ s11 σ H11 (.ref acc) [v11] (.ref acc) [y] (λ_ H'=>H'=upd H11 acc (.lst (ys++[v11]))) I11 rfl (.cons r11 .nil) ⟨_,ys,v11,rfl,rfl,hys,hz,rfl⟩) λ_ s12 ⟨v12,H12,I12,r12,e12⟩=>?_
 subst e12
 exact Γb (Γb ⟨rfl,_,I12,k⟩)
theorem b2a (hc:X.calm=true)(SC:CScope X scope own)(hi:PI X.nox tg iter wi)
  (hblock:∀ fp C s H,PG (cxC X scope own fp C s H) tg g/\PTs (cxC X scope own fp C s H) ifs tt/\PE (cxC X scope own fp C s H) elt te)
  (hs:∀ x,foldedSetIterable iter X.env x=pure x:=by intro _;rfl) :
  PE X.nox (.ListComp elt [⟨tg,iter,ifs,0⟩] scope pos) (c1o wi g tt te own.length) :=
 a8e hc SC c0l hi (λfp C s H=>let ⟨a,b,c⟩:=hblock fp C s H;⟨a,b,b3k c⟩) hs
theorem a7f {i:Nat}{x:Str}{px:Pos}{spos:Pos}(hc:X.calm=true)(SC:CScope X scope own)(hN:X.N.Nodup)(hx:X.N[i]?=some x)(hl:X.env.scope.names.lookup x=some .local)(hi:PI X.nox tg iter wi)
  (hblock:∀ fp C s H,PG (cxC X scope own fp C s H) tg g/\PTs (cxC X scope own fp C s H) ifs tt/\PE (cxC X scope own fp C s H) elt te)
  (hsw:swapsWith (.ListComp elt [⟨tg,iter,ifs,0⟩] scope pos) (some (.Name x px)) spos.line X.env=pure true)
  (hs:∀ x,foldedSetIterable iter X.env x=pure x:=by intro _;rfl) :
  PS X.nox (.Assign [.Name x px] (.ListComp elt [⟨tg,iter,ifs,0⟩] scope pos) spos) (b6h (c1o wi g tt te own.length) (a4n i)) :=
 a5u hc SC c0l hN hx hl hi (λfp C s H=>let ⟨a,b,c⟩:=hblock fp C s H;⟨a,b,b3k c⟩) hsw hs
end
end L2
end
section
namespace L2
open PySem PySem.Spec PyProof.Rows
section
variable {X:Cx}{pins:List (Addr×Obj)}{σ:St}{H:Hp}{s:Shared}{h':Heap}
theorem Inv.turnedNew {t':Nat}{ch:List Addr}{p:Addr}{o:HO}(I:Inv X pins σ H s)(hp:s.heap.objs.size<=p)(k:∀ b ob,b ∉ ch->s.heap.get? b=some ob->h'.get? b=some ob)(hf:∀ b∈ch,b5s X pins H b)
  (new:ObjOk X.prog X.w (upd H p o) h' p o):Inv X pins σ (upd H p o) { s with heap:=h',toks:=t' }:=by
 have hn:H p=none:=I.hok.fresh hp
 have nit:∀ b u,H b=some u->b ∉ ch:=λb u e z=>by rw[(hf b z).1] at e;cases e
 have nep:∀ {b ob},s.heap.get? b=some ob->b≠p:=λe=>Γo (Nat.lt_of_lt_of_le (Γl e) hp)
 refine I.step (g':=s.gens) (d':=s.drawn) (ch:=ch) (λb hb=>⟨(hf b hb).2.2.2.1,(hf b hb).2.1,(hf b hb).2.2.2.2.1,(hf b hb).2.2.2.2.2⟩) (λb ob _ _ hc e _=>k b ob hc e) (λb ob _ _ hc e _=>⟨ob.slots,k b ob hc e⟩)
  (λb ob hc e n=>by rw[a0e (nep e)];exact n) (λb ob hc e=>⟨ob,k b ob hc e⟩) (λb xs e=>by rw[a0e (a0z e hn)];exact e) (λb u xs e=>by rw[a0e (a0z e hn)];exact e)
  (λb ps e=>⟨#[],by rw[a0e (a0z e hn),e];simp⟩) (λm hm=>?_) (λb u e=>?_) I.bare
 ·obtain⟨ob,es,ep,ho,r⟩:=hm
  exact⟨ob,es,ep,k _ ob (λz=>(hf _ z).2.1 rfl) ho,r⟩
 ·by_cases hb:b=p
  ·subst hb;rw[a0d] at e;cases e;exact new
  ·rw[a0e hb] at e
   refine (I.hok b u e).stay (λc v hc q=>k c v ?_ q) (λc q=>by rw[a0e (a0z q hn)];exact q) λc xs q=>by rw[a0e (a0z q hn)];exact q
   rcases hc with z|z
   ·rw[z];exact nit b u e
   ·exact nit c _ z
theorem Inv.turnedL {t':Nat}{ch:List Addr}(I:Inv X pins σ H s)(k:∀ b ob,b ∉ ch->s.heap.get? b=some ob->h'.get? b=some ob)(hf:∀ b∈ch,b5s X pins H b):Inv X pins σ H { s with heap:=h',toks:=t' }:=by
 have nit:∀ b u,H b=some u->b ∉ ch:=λb u e z=>by rw[(hf b z).1] at e;cases e
 refine I.step (g':=s.gens) (d':=s.drawn) (ch:=ch) (λb hb=>⟨(hf b hb).2.2.2.1,(hf b hb).2.1,(hf b hb).2.2.2.2.1,(hf b hb).2.2.2.2.2⟩) (λb ob _ _ hc e _=>k b ob hc e) (λb ob _ _ hc e _=>⟨ob.slots,k b ob hc e⟩)
  (λ_ _ _ _ n=>n) (λb ob hc e=>⟨ob,k b ob hc e⟩) (λ_ _ e=>e) (λ_ _ _ e=>e) (λb ps e=>⟨#[],by rw[e];simp⟩) (λm hm=>?_) (λb u e=>?_) I.bare
 ·obtain⟨ob,es,ep,ho,r⟩:=hm
  exact⟨ob,es,ep,k _ ob (λz=>(hf _ z).2.1 rfl) ho,r⟩
 ·refine (I.hok b u e).stay (λc v hc q=>k c v ?_ q) (λ_ q=>q) λ_ _ q=>q
  rcases hc with z|z
  ·rw[z];exact nit b u e
  ·exact nit c _ z
end
end L2
end
section
namespace L2
open PySem PySem.Spec PyProof.Rows
def SeqB (b:Bool)(h:Heap)(l:Addr)(xs:Array Value):Prop:=match b with|true=>h.IsList l xs|false=>h.IsTuple l xs
def IterB (b:Bool)(h:Heap)(it l:Addr) (i:Nat):Prop:=match b with|true=>h.IsListIter it l i|false=>h.IsTupleIter it l i
def a8s (b:Bool):String:=match b with|true=>"list_iterator" | false=>"tuple_iterator"
section
variable {b:Bool}{h h':Heap}{it l c:Addr}{i:Nat}{xs:Array Value}
theorem SeqB.move (x:SeqB b h l xs)(e:Heap.ExtBut c h h')(n:l≠c):SeqB b h' l xs:=by
 cases b
 ·exact Heap.IsTuple.extBut x e n
 ·exact Heap.IsList.extBut x e n
theorem SeqB.push {o:Obj}(x:SeqB b h l xs):SeqB b (h.push o) l xs:=by
 cases b
 ·exact Heap.IsTuple.push x o
 ·exact Heap.IsList.push x o
theorem SeqB.lt (x:SeqB b h l xs):l<h.objs.size:=by
 cases b<;>(obtain⟨_,e,_⟩:=x;exact Γl e)
theorem IterB.move (x:IterB b h it l i)(e:Heap.ExtBut c h h')(n:it≠c):IterB b h' it l i:=by
 cases b
 ·exact Heap.IsTupleIter.extBut x e n
 ·exact Heap.IsListIter.extBut x e n
theorem IterB.to (x:IterB b h it l i)(k:∀ o,h.get? it=some o->h'.get? it=some o):IterB b h' it l i:=by
 cases b<;>(obtain⟨o,e,r⟩:=x;exact⟨o,k o e,r⟩)
theorem IterB.obj (x:IterB b h it l i):∃ o,h.get? it=some o/\∀ v,o.data≠.cell v:=by
 cases b<;>(obtain⟨o,e,_,d⟩:=x;exact⟨o,e,λv z=>by rw[d] at z;cases z⟩)
theorem IterB.lt (x:IterB b h it l i):it<h.objs.size:=let ⟨_,e,_⟩:=x.obj;Γl e
end
section
variable {P:Program}{w:World}{A:Around}{E:Value->Shared->Prop}{s:Shared}{b:Bool}{it l:Addr}{i:Nat}{xs:Array Value}{Q:Value->Shared->Prop}
theorem b8q (x:SeqB b s.heap l xs)(q:Q (.ref s.heap.objs.size) { s with heap:=s.heap.push { cls:=.type (a8s b),data:=.fields #[.ref l,.int 0 0] } }):wpAny (model P w) A (pyIter (.ref l)) Q E s:=by
 cases b
 ·exact wpAny_pyIter_tuple x q
 ·exact wpAny_pyIter_list x q
theorem d8o {x:Value}(hi:s.heap.IsTupleIter it l i)(hl:s.heap.IsTuple l xs)(hx:xs[i]?=some x)(q:∀ h',h'.IsTupleIter it l (i+1)->Heap.SameBut it s.heap h'->Q x { s with heap:=h' }):wpAny (model P w) A (Builtin.SmallTypes.nextOf (.ref it)) Q E s:=by
 obtain⟨oi,ei,ci,di⟩:=id hi
 obtain⟨os,es,_,ns,ds⟩:=hl
 unfold Builtin.SmallTypes.nextOf
 refine Γa (wpAny_callSpecial?_slot (name:=Γe "__next__") hi.typeIs F.slot_tuple_iterator_next (wpAny_call_entry F.slot_tuple_iterator_next hi.typeIs F.entry_tuple_iterator_next ?_ (F.args_tuple_iterator_next_1 _)))
 show wpAny _ _ (field (.ref it) 0 >>= _) _ _ s;refine Γa (wpAny_field ei di (x:=.ref l) rfl ?_)
 show wpAny _ _ (if (Value.ref l == Value.none)=true then _ else _) _ _ s;rw[if_neg (show ¬ ((Value.ref l == Value.none)=true) from Γk)]
 show wpAny _ _ (field (.ref it) 1 >>= _) _ _ s;refine Γa (wpAny_field ei di (x:=.int i 0) rfl ?_)
 show wpAny _ _ (seqItems? (.ref l) >>= _) _ _ s;refine Γa (wpAny_seqItems es ds ?_)
 simp only[Int.toNat_natCast,hx]
 refine Γa (wpAny_setField ei di (by simp) (Γb ⟨x,rfl,Γb (q _ ⟨_,Heap.get?_update_self _ ei (Obj.isFreed_of_fields (Obj.data_mapFields di _)),(Obj.cls_mapFields ..).trans ci,?_⟩ (Heap.SameBut.update ..))⟩))
 rw[Obj.data_mapFields di];simp[rawInt]
theorem d6j (hh:A.handled=none)(hi:s.heap.IsTupleIter it l i)(hl:s.heap.IsTuple l xs)(hx:xs[i]?=none)
  (q:∀ h' e,Heap.ExtBut it s.heap h'->(∃ o,h'.get? e=some o/\o.cls=.type "StopIteration")->E (.ref e) { s with heap:=h' }):wpAny (model P w) A (Builtin.SmallTypes.nextOf (.ref it)) Q E s:=by
 obtain⟨oi,ei,ci,di⟩:=id hi
 obtain⟨os,es,_,ns,ds⟩:=hl
 unfold Builtin.SmallTypes.nextOf
 refine Γa (wpAny_callSpecial?_slot (name:=Γe "__next__") hi.typeIs F.slot_tuple_iterator_next (wpAny_call_entry F.slot_tuple_iterator_next hi.typeIs F.entry_tuple_iterator_next ?_ (F.args_tuple_iterator_next_1 _)))
 show wpAny _ _ (field (.ref it) 0 >>= _) _ _ s;refine Γa (wpAny_field ei di (x:=.ref l) rfl ?_)
 show wpAny _ _ (if (Value.ref l == Value.none)=true then _ else _) _ _ s;rw[if_neg (show ¬ ((Value.ref l == Value.none)=true) from Γk)]
 show wpAny _ _ (field (.ref it) 1 >>= _) _ _ s;refine Γa (wpAny_field ei di (x:=.int i 0) rfl ?_)
 show wpAny _ _ (seqItems? (.ref l) >>= _) _ _ s;refine Γa (wpAny_seqItems es ds ?_)
 simp only[Int.toNat_natCast,hx]
 refine Γa (wpAny_rule (Γa (wpAny_setField ei di (by simp) ?_)));show wpAny _ _ (newExc (.type "StopIteration") [] >>= _) _ _ _
 refine Γa ?_;simp only[newExc,newTuple]
 refine Γa (wpAny_newObj_type ?_ (by size_fits));refine Γa (m:=firstArgMember _ _) (wpAny_of_eq (a:=Value.none) (by first|rfl|(simp only[firstArgMember];rfl)) ?_)
 refine wpAny_newObj_type ?_ (by size_fits);simp only[raiseNew];refine Γa (wpAny_handled ?_)
 first|rw[show A.in1.handled=none from hh]|rw[hh]
 exact Γa (Γb (wpAny_throw (q _ _ (((Heap.SameBut.update ..).extBut.push _).push _) ⟨_,Γm _ rfl,rfl⟩)))
theorem c2r {x:Value}(hi:IterB b s.heap it l i)(hl:SeqB b s.heap l xs)(hx:xs[i]?=some x)(q:∀ h',IterB b h' it l (i+1)->Heap.SameBut it s.heap h'->Q x { s with heap:=h' }):wpAny (model P w) A (Builtin.SmallTypes.nextOf (.ref it)) Q E s:=by
 cases b
 ·exact d8o hi hl hx q
 ·exact wpAny_nextOf_list_item hi hl hx q
theorem c5t (hh:A.handled=none)(hi:IterB b s.heap it l i)(hl:SeqB b s.heap l xs)(hx:xs[i]?=none)
  (q:∀ h' e,Heap.ExtBut it s.heap h'->(∃ o,h'.get? e=some o/\o.cls=.type "StopIteration")->E (.ref e) { s with heap:=h' }):wpAny (model P w) A (Builtin.SmallTypes.nextOf (.ref it)) Q E s:=by
 cases b
 ·exact d6j hh hi hl hx q
 ·exact wpAny_nextOf_list_end hh hi hl hx q
end
section
variable {P:Program}{w:World}{A:Around}{E:Value->Shared->Prop}{s:Shared}{p q:Bool}{z TI TO i1 i2 l1 l2:Addr}{k1 k2:Nat}{xs ys:Array Value}{x y a b:Value}
theorem b5w {Q:Value->Shared->Prop}(D:ZipApart z TI TO i1 i2 l1 l2)(zz:IsZip s.heap z TI TO .none)(zi:IsPair s.heap TI (.ref i1) (.ref i2))(zo:IsPair s.heap TO a b)
  (t1:IterB p s.heap i1 l1 k1)(t2:IterB q s.heap i2 l2 k2)(m1:SeqB p s.heap l1 xs)(m2:SeqB q s.heap l2 ys)(ex:xs[k1]?=some x)(ey:ys[k2]?=some y)
  (K:∀ h',IsZip h' z TI TO (rawInt s.heap.objs.size)->IsPair h' TO x y->IterB p h' i1 l1 (k1+1)->IterB q h' i2 l2 (k2+1)->IsPair h' s.heap.objs.size x y ->
   (∀ c o,c≠z->c≠TO->c≠i1->c≠i2->s.heap.get? c=some o->h'.get? c=some o)->Q (.ref s.heap.objs.size) { s with heap:=h' }) :
  wpAny (model P w) A (Builtin.«zip.__next__» ⟨[.ref z],[]⟩) (λfin s'=>∃ v,fin=.done (.ret v)/\Q v s') E s:=by
 show wpAny _ _ (field (.ref z) 2 >>= _) _ _ _;refine Γa (wpAny_field zz rfl (x:=.bool false) rfl ?_)
 show wpAny _ _ (field (.ref z) 3 >>= _) _ _ _;refine Γa (wpAny_field zz rfl (x:=.ref TI) rfl (Γa (wpAny_seqItems zi rfl ?_)))
 show wpAny _ _ (Builtin.SmallTypes.ownedTupleIsFree (.ref z) >>= _) _ _ _;refine Γa ?_;unfold Builtin.SmallTypes.ownedTupleIsFree
 refine Γa (wpAny_field zz rfl (x:=.none) rfl (Γb ?_));simp only[if_true]
 refine Γa (wpAny_rule (Γa (wpAny_field zz rfl (x:=.ref TO) rfl (Γa (wpAny_setField_rec zz (by simp) λg1 z1 b1=>?_)))))
 replace z1:IsZip g1 z TI TO .ellipsis:=z1
 refine Γa ?_;simp only[List.zipIdx_cons,List.zipIdx_nil,List.forIn_cons,List.forIn_nil]
 refine Γa (Γa (wpAny_onRaise ?_));show wpAny _ _ (Builtin.SmallTypes.nextOf (.ref i1) >>= _) _ _ _
 refine Γa (c2r (t1.move b1.extBut D.i1z) (m1.move b1.extBut D.l1z) ex λg2 t12 b2=>Γb ?_)
 have o2:IsPair g2 TO a b:=b2.extBut _ _ D.TOi1 (b1.extBut _ _ D.TOz zo)
 refine Γa (wpAny_seqItems o2 rfl (Γa (wpAny_updateSeq_pair o2 λg3 o3 b3=>?_)))
 replace o3:IsPair g3 TO x b:=o3
 refine Γa (wpAny_letGo (Γb (Γa (Γa (wpAny_onRaise ?_)))));show wpAny _ _ (Builtin.SmallTypes.nextOf (.ref i2) >>= _) _ _ _
 refine Γa (c2r (((t2.move b1.extBut D.i2z).move b2.extBut D.i12.symm).move b3.extBut D.TOi2.symm) (((m2.move b1.extBut D.l2z).move b2.extBut D.l2i1).move b3.extBut D.l2TO) ey λg4 t24 b4=>Γb ?_)
 have o4:IsPair g4 TO x b:=b4.extBut _ _ D.TOi2 o3
 refine Γa (wpAny_seqItems o4 rfl (Γa (wpAny_updateSeq_pair o4 λg5 o5 b5=>?_)))
 replace o5:IsPair g5 TO x y:=o5
 refine Γa (wpAny_letGo (Γb (Γb (Γa (wpAny_seqItems o5 rfl (Γa (wpAny_newTuple ?_)))))))
 have sz:g5.objs.size=s.heap.objs.size:=by rw[b5.1,b4.1,b3.1,b2.1,b1.1]
 have z5:IsZip g5 z TI TO .ellipsis:=b5.extBut _ _ D.TOz.symm (b4.extBut _ _ D.i2z.symm (b3.extBut _ _ D.TOz.symm (b2.extBut _ _ D.i1z.symm z1)))
 have kk:∀ c o,c≠z->c≠TO->c≠i1->c≠i2->s.heap.get? c=some o->g5.get? c=some o:=λc o c1 c2 c3 c4 e=>b5.extBut _ _ c2 (b4.extBut _ _ c4 (b3.extBut _ _ c2 (b2.extBut _ _ c3 (b1.extBut _ _ c1 e))))
 have t15:IterB p g5 i1 l1 (k1+1):=((t12.move b3.extBut D.TOi1.symm).move b4.extBut D.i12).move b5.extBut D.TOi1.symm
 have t25:IterB q g5 i2 l2 (k2+1):=t24.move b5.extBut D.TOi2.symm
 have zlt:z<g5.objs.size:=Γl z5
 show wpAny _ _ (Builtin.SmallTypes.ownedTupleHandOut (.ref z) (.ref g5.objs.size) >>= _) _ _ _;refine Γa ?_;unfold Builtin.SmallTypes.ownedTupleHandOut
 have z6:IsZip (g5.push { cls:=.type "tuple",data:=.seq #[x,y] }) z TI TO .ellipsis:=Γc _ z5
 refine Γa (wpAny_setField_rec z6 (by simp) λg7 z7 b7=>?_);replace z7:IsZip g7 z TI TO (rawInt g5.objs.size):=z7
 refine wpAny_setField_rec z7 (by simp) λg8 z8 b8=>?_;replace z8:IsZip g8 z TI TO (rawInt g5.objs.size):=z8
 have up:∀ c o,c≠z->g5.get? c=some o->g8.get? c=some o:=λc o c1 e=>b8.extBut _ _ c1 (b7.extBut _ _ c1 (Γc _ e))
 have tt:IsPair g8 g5.objs.size x y:=b8.extBut _ _ (Nat.ne_of_gt zlt) (b7.extBut _ _ (Nat.ne_of_gt zlt) (Γm _ rfl))
 rw[sz] at z8 tt
 refine Γb ⟨_,rfl,?_⟩;show Q (.ref g5.objs.size) _;rw[sz]
 exact K g8 z8 (up _ _ D.TOz o5) (t15.to λo e=>up _ o D.i1z e) (t25.to λo e=>up _ o D.i2z e) tt λc o c1 c2 c3 c4 e=>up c o c1 (kk c o c1 c2 c3 c4 e)
theorem c1e {Q:Fin->Shared->Prop}(hh:A.handled=none)(D:ZipApart z TI TO i1 i2 l1 l2)(zz:IsZip s.heap z TI TO .none)(zi:IsPair s.heap TI (.ref i1) (.ref i2))(zo:IsPair s.heap TO a b)
  (t1:IterB p s.heap i1 l1 k1)(t2:IterB q s.heap i2 l2 k2)(m1:SeqB p s.heap l1 xs)(m2:SeqB q s.heap l2 ys)(en:xs[k1]?=none ∨ ys[k2]?=none)
  (K:∀ h' e,(∀ c o,c≠z->c≠TO->c≠i1->c≠i2->s.heap.get? c=some o->h'.get? c=some o)->(∃ o,h'.get? e=some o/\o.cls=.type "StopIteration")->E (.ref e) { s with heap:=h' }) :
  wpAny (model P w) A (Builtin.«zip.__next__» ⟨[.ref z],[]⟩) Q E s:=by
 show wpAny _ _ (field (.ref z) 2 >>= _) _ _ _;refine Γa (wpAny_field zz rfl (x:=.bool false) rfl ?_)
 show wpAny _ _ (field (.ref z) 3 >>= _) _ _ _;refine Γa (wpAny_field zz rfl (x:=.ref TI) rfl (Γa (wpAny_seqItems zi rfl ?_)))
 show wpAny _ _ (Builtin.SmallTypes.ownedTupleIsFree (.ref z) >>= _) _ _ _;refine Γa ?_;unfold Builtin.SmallTypes.ownedTupleIsFree
 refine Γa (wpAny_field zz rfl (x:=.none) rfl (Γb ?_));simp only[if_true]
 refine Γa (wpAny_rule (Γa (wpAny_field zz rfl (x:=.ref TO) rfl (Γa (wpAny_setField_rec zz (by simp) λg1 z1 b1=>?_)))))
 replace z1:IsZip g1 z TI TO .ellipsis:=z1
 refine Γa ?_;simp only[List.zipIdx_cons,List.zipIdx_nil,List.forIn_cons,List.forIn_nil]
 refine Γa (Γa (wpAny_onRaise ?_));show wpAny _ _ (Builtin.SmallTypes.nextOf (.ref i1) >>= _) _ _ _
 have fin:∀ {g:Heap}{e:Addr}{o:Obj},IsZip g z TI TO .ellipsis->g.get? e=some o->o.cls=.type "StopIteration"->e≠z:=λh1 h2 h3 x=>by subst x;rw[h1] at h2;cases h2;simp at h3
 cases hx:xs[k1]? with
 | none =>
  refine Γa (c5t hh (t1.move b1.extBut D.i1z) (m1.move b1.extBut D.l1z) hx λg2 e b2 he=>?_)
  obtain⟨oe,e1,e2⟩:=he
  have z2:IsZip g2 z TI TO .ellipsis:=b2 _ _ D.i1z.symm z1
  exact wpAny_setField_rec z2 (by simp) λg3 _ b3=>K g3 e (λc o c1 _ c3 _ x=>b3.extBut _ _ c1 (b2 _ _ c3 (b1.extBut _ _ c1 x))) ⟨oe,b3.extBut _ _ (fin z2 e1 e2) e1,e2⟩
 | some x =>
  have hy:ys[k2]?=none:=by rcases en with h|h;rw[hx] at h;cases h;exact h
  refine Γa (c2r (t1.move b1.extBut D.i1z) (m1.move b1.extBut D.l1z) hx λg2 t12 b2=>Γb ?_)
  have o2:IsPair g2 TO a b:=b2.extBut _ _ D.TOi1 (b1.extBut _ _ D.TOz zo)
  refine Γa (wpAny_seqItems o2 rfl (Γa (wpAny_updateSeq_pair o2 λg3 o3 b3=>Γa (wpAny_letGo (Γb (Γa (Γa (wpAny_onRaise ?_))))))))
  show wpAny _ _ (Builtin.SmallTypes.nextOf (.ref i2) >>= _) _ _ _
  refine Γa (c5t hh (((t2.move b1.extBut D.i2z).move b2.extBut D.i12.symm).move b3.extBut D.TOi2.symm) (((m2.move b1.extBut D.l2z).move b2.extBut D.l2i1).move b3.extBut D.l2TO) hy λg4 e b4 he=>?_)
  obtain⟨oe,e1,e2⟩:=he
  have z4:IsZip g4 z TI TO .ellipsis:=b4 _ _ D.i2z.symm (b3.extBut _ _ D.TOz.symm (b2.extBut _ _ D.i1z.symm z1))
  exact wpAny_setField_rec z4 (by simp) λg5 _ b5=>K g5 e (λc o c1 c2 c3 c4 x=>b5.extBut _ _ c1 (b4 _ _ c4 (b3.extBut _ _ c2 (b2.extBut _ _ c3 (b1.extBut _ _ c1 x))))) ⟨oe,b5.extBut _ _ (fin z4 e1 e2) e1,e2⟩
theorem b5v {Q:Option Value->Shared->Prop}(D:ZipApart z TI TO i1 i2 l1 l2)(zz:IsZip s.heap z TI TO .none)(zi:IsPair s.heap TI (.ref i1) (.ref i2))(zo:IsPair s.heap TO a b)
  (t1:IterB p s.heap i1 l1 k1)(t2:IterB q s.heap i2 l2 k2)(m1:SeqB p s.heap l1 xs)(m2:SeqB q s.heap l2 ys)(ex:xs[k1]?=some x)(ey:ys[k2]?=some y)
  (K:∀ h',IsZip h' z TI TO (rawInt s.heap.objs.size)->IsPair h' TO x y->IterB p h' i1 l1 (k1+1)->IterB q h' i2 l2 (k2+1)->IsPair h' s.heap.objs.size x y ->
   (∀ c o,c≠z->c≠TO->c≠i1->c≠i2->s.heap.get? c=some o->h'.get? c=some o)->Q (some (.ref s.heap.objs.size)) { s with heap:=h' }):wpAny (model P w) A (pyNext (.ref z)) Q E s:=by
 have ty:s.TypeIs (.ref z) "zip":=⟨_,zz,rfl⟩
 unfold pyNext
 exact Γa (wpAny_attempt (wpAny_callSpecial?_slot (name:=Γe "__next__") ty F.slot_zip_next (wpAny_call_entry F.slot_zip_next ty F.entry_zip_next (b5w D zz zi zo t1 t2 m1 m2 ex ey λh' a1 a2 a3 a4 a5 a6=>Γb (K h' a1 a2 a3 a4 a5 a6)) (F.args_zip_next_1 _))))
theorem b5u {Q:Option Value->Shared->Prop}(hh:A.handled=none)(D:ZipApart z TI TO i1 i2 l1 l2)(zz:IsZip s.heap z TI TO .none)(zi:IsPair s.heap TI (.ref i1) (.ref i2))(zo:IsPair s.heap TO a b)
  (t1:IterB p s.heap i1 l1 k1)(t2:IterB q s.heap i2 l2 k2)(m1:SeqB p s.heap l1 xs)(m2:SeqB q s.heap l2 ys)(en:xs[k1]?=none ∨ ys[k2]?=none)
  (K:∀ h',(∀ c o,c≠z->c≠TO->c≠i1->c≠i2->s.heap.get? c=some o->h'.get? c=some o)->Q none { s with heap:=h' }):wpAny (model P w) A (pyNext (.ref z)) Q E s:=by
 have ty:s.TypeIs (.ref z) "zip":=⟨_,zz,rfl⟩
 unfold pyNext
 refine Γa (wpAny_attempt (wpAny_callSpecial?_slot (name:=Γe "__next__") ty F.slot_zip_next (wpAny_call_entry F.slot_zip_next ty F.entry_zip_next (c1e hh D zz zi zo t1 t2 m1 m2 en λh' e hk he=>?_) (F.args_zip_next_1 _))))
 obtain⟨o,e1,e2⟩:=he
 exact Γa (wpAny_isInstance (T:="StopIteration") (b:=true) ⟨o,e1,e2⟩ isSubtype_stop (Γb (K _ hk)))
end
abbrev zb1 (p:Bool)(h:Heap)(l1:Addr):Heap:=h.push { cls:=.type (a8s p),data:=.fields #[.ref l1,.int 0 0] }
abbrev zb2 (p q:Bool)(h:Heap)(l1 l2:Addr):Heap:=(zb1 p h l1).push { cls:=.type (a8s q),data:=.fields #[.ref l2,.int 0 0] }
abbrev zb3 (p q:Bool)(h:Heap)(l1 l2:Addr):Heap:=(zb2 p q h l1 l2).push { cls:=.type "tuple",data:=.seq #[.ref h.objs.size,.ref (zb1 p h l1).objs.size] }
abbrev zb4 (p q:Bool)(h:Heap)(l1 l2:Addr):Heap:=(zb3 p q h l1 l2).push { cls:=.type "tuple",data:=.seq #[.none,.none] }
abbrev zb5 (p q:Bool)(h:Heap)(l1 l2:Addr):Heap:=(zb4 p q h l1 l2).push { cls:=.type "zip",data:=.fields #[.none,.bool false,.bool false,.ref (zb2 p q h l1 l2).objs.size,.ref (zb3 p q h l1 l2).objs.size] }
theorem b4y (p q:Bool)(l1 l2:Addr)(xs ys:Array Value) :
  Meets (Builtin.«zip.__new__» ⟨[.type "zip",.ref l1,.ref l2],[]⟩) (λ_ R s=>SeqB p s.heap l1 xs/\SeqB q s.heap l2 ys/\R (.ok (.ret (.ref (zb4 p q s.heap l1 l2).objs.size))) { s with heap:=zb5 p q s.heap l1 l2 }) :=
 .of_wp λprog w A R s h=>by
  obtain⟨hp,g,d,tk,os⟩:=s;obtain⟨m1,m2,h⟩:=h
  have hsub:=sub_zip
  have M1:SeqB p (Shared.heap ⟨hp,g,d,tk,os⟩) l1 xs:=m1
  have M2:SeqB q (Shared.heap ⟨hp.push { cls:=.type (a8s p),data:=.fields #[.ref l1,.int 0 0] },g,d,tk,os⟩) l2 ys:=SeqB.push m2
  wp_walk using b8q M1,b8q M2
  exact⟨_,rfl,h⟩
section
variable {P:Program}{w:World}{A:Around}{E:Value->Shared->Prop}{s:Shared}
theorem c0o {p q:Bool}{l1 l2:Addr}{xs ys:Array Value}{Q:Value->Shared->Prop}(m1:SeqB p s.heap l1 xs)(m2:SeqB q s.heap l2 ys)
  (K:∀ h',IsZip h' (s.heap.objs.size+4) (s.heap.objs.size+2) (s.heap.objs.size+3) .none->IsPair h' (s.heap.objs.size+2) (.ref s.heap.objs.size) (.ref (s.heap.objs.size+1)) ->
   IsPair h' (s.heap.objs.size+3) .none .none->IterB p h' s.heap.objs.size l1 0->IterB q h' (s.heap.objs.size+1) l2 0->(∀ c o,s.heap.get? c=some o->h'.get? c=some o)->Q (.ref (s.heap.objs.size+4)) { s with heap:=h' }) :
  wpAny (model P w) A (call (.type "zip") [.ref l1,.ref l2]) Q E s:=by
 refine callType_new F.called_zip (by decide) (F.typeCall_zip_2 _ _) (F.newCall_zip_2 _ _) (λobj=>F.args_object_init_3 obj _ _) F.entry_zip_new (b4y p q l1 l2 xs ys) ⟨m1,m2,?_⟩
 have z1:(zb1 p s.heap l1).objs.size=s.heap.objs.size+1:=Heap.size_push ..
 have z2:(zb2 p q s.heap l1 l2).objs.size=s.heap.objs.size+2:=by rw[Heap.size_push,z1]
 have z3:(zb3 p q s.heap l1 l2).objs.size=s.heap.objs.size+3:=by rw[Heap.size_push,z2]
 have z4:(zb4 p q s.heap l1 l2).objs.size=s.heap.objs.size+4:=by rw[Heap.size_push,z3]
 have f5:(zb5 p q s.heap l1 l2).get? (zb4 p q s.heap l1 l2).objs.size=some _:=Γm _ rfl
 have f4:(zb5 p q s.heap l1 l2).get? (zb3 p q s.heap l1 l2).objs.size=some _:=Γc _ (Γm _ rfl)
 have f3:(zb5 p q s.heap l1 l2).get? (zb2 p q s.heap l1 l2).objs.size=some _:=Γc _ (Γc _ (Γm _ rfl))
 have f2:(zb5 p q s.heap l1 l2).get? (zb1 p s.heap l1).objs.size=some _:=Γc _ (Γc _ (Γc _ (Γm _ rfl)))
 have f1:(zb5 p q s.heap l1 l2).get? s.heap.objs.size=some _:=Γc _ (Γc _ (Γc _ (Γc _ (Γm _ rfl))))
 show _/\_
 rw[z2,z3,z4] at f5;rw[z1,z2] at f3;rw[z3] at f4;rw[z1] at f2;rw[z4]
 refine⟨⟨_,f5,rfl⟩,K _ f5 f3 f4 ?_ ?_ λc o x=>Γc _ (Γc _ (Γc _ (Γc _ (Γc _ x))))⟩
 ·cases p<;>exact⟨_,f1,rfl,rfl⟩
 ·cases q<;>exact⟨_,f2,rfl,rfl⟩
end
end L2
end
section
namespace L2
open PySem PySem.Spec PyProof.Rows
open AutoSeq1 (wpAny_loadPart')
section
variable {P:Program}{w:World}{A:Around}{E:Value->Shared->Prop}{s:Shared}{p:Bool}{e it l:Addr}{i:Nat}{xs:Array Value}{x old:Value}
theorem b5h {Q:Value->Shared->Prop}(ee:IsEnum s.heap e it i old)(t1:IterB p s.heap it l i)(m1:SeqB p s.heap l xs)(ex:xs[i]?=some x)(ne:e≠it)
  (K:∀ h',IsEnumOut h' e it ((i:Int)+1) x s.heap.objs.size->IterB p h' it l (i+1)->h'.get? s.heap.objs.size=some { cls:=.type "tuple",data:=.seq #[.int i s.toks,x] } ->
   (∀ b o,b≠e->b≠it->s.heap.get? b=some o->h'.get? b=some o)->Q (.ref s.heap.objs.size) { s with heap:=h',toks:=s.toks+1 }) :
  wpAny (model P w) A (Builtin.«enumerate.__next__» ⟨[.ref e],[]⟩) (λfin s'=>∃ v,fin=.done (.ret v)/\Q v s') E s:=by
 obtain⟨hp,g,d,tk,os⟩:=s
 show wpAny _ _ (field (.ref e) 2 >>= _) _ _ _;refine Γa (wpAny_field ee rfl (x:=.ref it) rfl (Γa (c2r t1 m1 ex λg1 t11 b1=>?_)))
 replace b1:Heap.SameBut it hp g1:=b1
 have e1:IsEnum g1 e it i old:=(b1.2 e ne).trans ee
 show wpAny _ _ (field (.ref e) 3 >>= _) _ _ ⟨g1,g,d,tk,os⟩;refine Γa (wpAny_field e1 rfl (x:=rawInt i) rfl ?_)
 show wpAny _ _ (field (.ref e) 4 >>= _) _ _ ⟨g1,g,d,tk,os⟩;refine Γa (wpAny_field e1 rfl (x:=.none) rfl ?_)
 show wpAny _ _ (mkInt i >>= _) _ _ ⟨g1,g,d,tk,os⟩;refine Γa (wpAny_mkInt ?_)
 show wpAny _ _ (setField (.ref e) 3 (rawInt ((i:Int)+1)) >>= _) _ _ ⟨g1,g,d,tk+1,os⟩;refine Γa (wpAny_setField_rec e1 (by simp) λg2 e2 b2=>?_)
 replace b2:Heap.SameBut e g1 g2:=b2
 replace e2:IsEnum g2 e it ((i:Int)+1) old:=e2
 show wpAny _ _ (setField (.ref e) 4 .none >>= _) _ _ ⟨g2,g,d,tk+1,os⟩;refine Γa (wpAny_setField_rec e2 (by simp) λg3 e3 b3=>?_)
 replace b3:Heap.SameBut e g2 g3:=b3
 replace e3:IsEnum g3 e it ((i:Int)+1) old:=e3
 show wpAny _ _ (newTuple [.int i tk,x] >>= _) _ _ ⟨g3,g,d,tk+1,os⟩;refine Γa (wpAny_newTuple ?_)
 have e4:IsEnum (g3.push { cls:=.type "tuple",data:=.seq #[.int i tk,x] }) e it ((i:Int)+1) old:=Γc _ e3
 generalize hg4:g3.push { cls:=.type "tuple",data:=.seq #[.int i tk,x] } = g4 at e4
 have sz:g3.objs.size=hp.objs.size:=by rw[b3.1,b2.1,b1.1]
 have el:e<hp.objs.size:=Γl ee
 have t4:g4.get? hp.objs.size=some { cls:=.type "tuple",data:=.seq #[.int i tk,x] }:=by rw[<- hg4,<- sz];exact Γm _ rfl
 have k4:∀ b o,b≠e->b≠it->hp.get? b=some o->g4.get? b=some o:=λb o c1 c2 h=>by rw[<- hg4];exact Γc _ (b3.extBut b o c1 (b2.extBut b o c1 (b1.extBut b o c2 h)))
 have i4:IterB p g4 it l (i+1):=by
  rw[<- hg4];exact ((t11.move b2.extBut (Ne.symm ne)).move b3.extBut (Ne.symm ne)).to λo h=>Γc _ h
 show wpAny _ _ (Builtin.SmallTypes.ownedTupleIsFree (.ref e) >>= _) _ _ ⟨g4,g,d,tk+1,os⟩
 rw[sz]
 clear hg4 e3 b3 e2 b2 e1 b1 t11 sz g3 g2 g1
 refine Γa ?_;unfold Builtin.SmallTypes.ownedTupleIsFree
 refine Γa (wpAny_field e4 rfl (x:=.none) rfl (Γb ?_));simp only[if_true]
 refine Γa (wpAny_rule (Γa (wpAny_field e4 rfl (x:=old) rfl (Γa (wpAny_setField_rec e4 (by simp) λg5 e5 b5=>?_)))))
 replace b5:Heap.SameBut e g4 g5:=b5
 replace e5:IsEnum g5 e it ((i:Int)+1) x:=e5
 show wpAny _ _ (Builtin.SmallTypes.ownedTupleHandOut (.ref e) (.ref hp.objs.size) >>= _) _ _ ⟨g5,g,d,tk+1,os⟩;refine Γa ?_;unfold Builtin.SmallTypes.ownedTupleHandOut
 refine Γa (wpAny_setField_rec e5 (by simp) λg6 e6 b6=>?_)
 replace b6:Heap.SameBut e g5 g6:=b6
 replace e6:IsEnumOut g6 e it ((i:Int)+1) x hp.objs.size:=e6
 refine wpAny_setField_rec e6 (by simp) λg7 e7 b7=>?_
 replace b7:Heap.SameBut e g6 g7:=b7
 replace e7:IsEnumOut g7 e it ((i:Int)+1) x hp.objs.size:=e7
 refine Γa (wpAny_letGo (Γb ⟨_,rfl,K g7 e7 (((i4.move b5.extBut (Ne.symm ne)).move b6.extBut (Ne.symm ne)).move b7.extBut (Ne.symm ne)) ?_ λb o c1 c2 h=>b7.extBut b o c1 (b6.extBut b o c1 (b5.extBut b o c1 (k4 b o c1 c2 h)))⟩))
 exact b7.extBut _ _ (Nat.ne_of_gt el) (b6.extBut _ _ (Nat.ne_of_gt el) (b5.extBut _ _ (Nat.ne_of_gt el) t4))
theorem b5g {Q:Option Value->Shared->Prop}(ee:IsEnum s.heap e it i old)(t1:IterB p s.heap it l i)(m1:SeqB p s.heap l xs)(ex:xs[i]?=some x)(ne:e≠it)
  (K:∀ h',IsEnumOut h' e it ((i:Int)+1) x s.heap.objs.size->IterB p h' it l (i+1)->h'.get? s.heap.objs.size=some { cls:=.type "tuple",data:=.seq #[.int i s.toks,x] } ->
   (∀ b o,b≠e->b≠it->s.heap.get? b=some o->h'.get? b=some o)->Q (some (.ref s.heap.objs.size)) { s with heap:=h',toks:=s.toks+1 }):wpAny (model P w) A (pyNext (.ref e)) Q E s:=by
 have ty:s.TypeIs (.ref e) "enumerate":=⟨_,ee,rfl⟩
 unfold pyNext
 exact Γa (wpAny_attempt (wpAny_callSpecial?_slot (name:=Γe "__next__") ty F.slot_enumerate_next (wpAny_call_entry F.slot_enumerate_next ty F.entry_enumerate_next (b5h ee t1 m1 ex ne λh' a b c d=>Γb (K h' a b c d)) (F.args_enumerate_next_1 _))))
theorem b5f {Q:Option Value->Shared->Prop}(hh:A.handled=none)(ee:IsEnum s.heap e it i old)(t1:IterB p s.heap it l i)(m1:SeqB p s.heap l xs)(ex:xs[i]?=none)(K:∀ h',Heap.ExtBut it s.heap h'->Q none { s with heap:=h' }):wpAny (model P w) A (pyNext (.ref e)) Q E s:=by
 have ty:s.TypeIs (.ref e) "enumerate":=⟨_,ee,rfl⟩
 unfold pyNext
 refine Γa (wpAny_attempt (wpAny_callSpecial?_slot (name:=Γe "__next__") ty F.slot_enumerate_next (wpAny_call_entry F.slot_enumerate_next ty F.entry_enumerate_next ?_ (F.args_enumerate_next_1 _))))
 show wpAny _ _ (field (.ref e) 2 >>= _) _ _ _;refine Γa (wpAny_field ee rfl (x:=.ref it) rfl (Γa (c5t hh t1 m1 ex λh' v k hv=>?_)))
 obtain⟨o,e1,e2⟩:=hv
 exact Γa (wpAny_isInstance (T:="StopIteration") (b:=true) ⟨o,e1,e2⟩ isSubtype_stop (Γb (K _ k)))
end
theorem b2h (p:Bool)(l:Addr)(xs:Array Value) :
  Meets (Builtin.«enumerate.__new__» ⟨[.type "enumerate",.ref l],[]⟩) (λ_ R s=>SeqB p s.heap l xs /\
   R (.ok (.ret (.ref (zb1 p s.heap l).objs.size))) { s with heap:=(zb1 p s.heap l).push { cls:=.type "enumerate",data:=.fields #[.none,.bool false,.ref s.heap.objs.size,rawInt 0,.none,.none] } }) :=
 .of_wp λprog w A R s h=>by
  obtain⟨hp,g,d,tk,os⟩:=s;obtain⟨m1,h⟩:=h
  have hsub:=sub_enumerate
  have M1:SeqB p (Shared.heap ⟨hp,g,d,tk,os⟩) l xs:=m1
  have hob:∃ o,hp.get? l=some o:=by cases p<;>(obtain⟨o,e,_⟩:=m1;exact⟨o,e⟩)
  obtain⟨ob,hl⟩:=hob
  wp_walk using wpAny_loadPart' hl
  refine wpAny_stack_any λst=>Γb ?_
  split
  ·rename_i c _ _ _ _ _
   cases (c == Value.type "enumerate")
   ·wp_walk using wpAny_loadPart' hl,b8q M1
    exact⟨_,rfl,h⟩
   ·wp_walk using wpAny_loadPart' hl,b8q M1
    exact⟨_,rfl,h⟩
  ·wp_walk using wpAny_loadPart' hl,b8q M1
   exact⟨_,rfl,h⟩
section
variable {P:Program}{w:World}{A:Around}{E:Value->Shared->Prop}{s:Shared}
theorem b5m {p:Bool}{l:Addr}{xs:Array Value}{Q:Value->Shared->Prop}(m1:SeqB p s.heap l xs)
  (K:∀ h',IsEnum h' (s.heap.objs.size+1) s.heap.objs.size 0 .none->IterB p h' s.heap.objs.size l 0->(∀ b o,s.heap.get? b=some o->h'.get? b=some o)->Q (.ref (s.heap.objs.size+1)) { s with heap:=h' }) :
  wpAny (model P w) A (call (.type "enumerate") [.ref l]) Q E s:=by
 refine callType_new F.called_enumerate (by decide) (F.typeCall_enumerate_1 _) (F.newCall_enumerate_1 _) (λobj=>F.args_object_init_2 obj _) F.entry_enumerate_new (b2h p l xs) ⟨m1,?_⟩
 have z1:(zb1 p s.heap l).objs.size=s.heap.objs.size+1:=Heap.size_push ..
 show _/\_
 rw[z1]
 have f2:IsEnum ((zb1 p s.heap l).push { cls:=.type "enumerate",data:=.fields #[.none,.bool false,.ref s.heap.objs.size,rawInt 0,.none,.none] }) (s.heap.objs.size+1) s.heap.objs.size 0 .none:=by
  have:=Γm (zb1 p s.heap l) (o:={ cls:=.type "enumerate",data:=.fields #[.none,.bool false,.ref s.heap.objs.size,rawInt 0,.none,.none] }) rfl
  rw[z1] at this;exact this
 refine⟨⟨_,f2,rfl⟩,K _ f2 ?_ λb o x=>Γc _ (Γc _ x)⟩
 cases p<;>exact⟨_,Γc _ (Γm _ rfl),rfl,rfl⟩
end
def SqB (b:Bool)(K:Γd)(H:Hp)(a:Addr)(xs:List V):Prop:=match b with|true=>SqL K H a xs|false=>SqT K H a xs
section
variable {X:Cx}{pins:List (Addr×Obj)}{σ:St}{H:Hp}{s:Shared}{a:Addr}{xs ys:List V}{b:Bool}
theorem Inv.seqB (I:Inv X pins σ H s)(h:SqB b X.K H a xs):∃ its:List Value,Vals xs its/\SeqB b s.heap a its.toArray/\xs.length=its.length:=by
 cases b
 ·obtain⟨its,r,q,_⟩:=I.tuple h
  exact⟨its,r,q,r.length⟩
 ·obtain⟨its,r,q,_⟩:=I.list h
  exact⟨its,r,q.isList,r.length⟩
theorem Inv.seqB_inj (I:Inv X pins σ H s)(h:SqB b X.K H a xs)(h':SqB b X.K H a ys):xs=ys:=by
 cases b
 ·exact I.tuple_inj h h'
 ·exact I.list_inj h h'
end
def Iz2 (K:Γd) (p q:Bool) (a b:Addr):It :=
  ⟨λi H=>∃ xs ys x y,SqB p K H a xs/\SqB q K H b ys/\xs[i]?=some x/\ys[i]?=some y,
   λi H v H'=>∃ c,H c=none/\v=.ref c/\∀ xs ys x y,SqB p K H a xs->SqB q K H b ys->xs[i]?=some x->ys[i]?=some y->H'=upd H c (.tup [x,y]),
   λi H=>∃ xs ys,SqB p K H a xs/\SqB q K H b ys/\(xs.length<=i ∨ ys.length<=i)⟩
def Ien (K:Γd) (p:Bool) (a:Addr):It :=
  ⟨λi H=>∃ xs x,SqB p K H a xs/\xs[i]?=some x,
   λi H v H'=>∃ c,H c=none/\v=.ref c/\∀ xs x,SqB p K H a xs->xs[i]?=some x->H'=upd H c (.tup [.int i,x]),
   λi H=>∃ xs,SqB p K H a xs/\xs.length<=i⟩
theorem c5l {P:Program}{w:World}{K:Γd}{p q:Bool}{elts:List Expr}{k:Nat}{pos:Pos}{a b z TI TO i1 i2:Addr}(D:ZipApart z TI TO i1 i2 a b) :
  Turn P w K (.Tuple elts k pos) (Iz2 K p q a b) [z,TO,i1,i2,TI] z (λi h=>IsZip h z TI TO .none/\IsPair h TI (.ref i1) (.ref i2)/\(∃ c d,IsPair h TO c d)/\IterB p h i1 a i/\IterB q h i2 b i) where
 mem:=by simp
 obj:=λi h st c hc=>by
  obtain⟨zz,zi,⟨x,y,zo⟩,t1,t2⟩:=st
  simp only[List.mem_cons,List.not_mem_nil,or_false] at hc
  rcases hc with rfl|rfl|rfl|rfl|rfl
  ·exact⟨_,zz,λv z=>by cases z⟩
  ·exact⟨_,zo,λv z=>by cases z⟩
  ·exact t1.obj
  ·exact t2.obj
  ·exact⟨_,zi,λv z=>by cases z⟩
 keep:=λi h h' st kk=>by
  obtain⟨zz,zi,⟨x,y,zo⟩,t1,t2⟩:=st
  exact⟨kk z (by simp) _ zz,kk TI (by simp) _ zi,⟨x,y,kk TO (by simp) _ zo⟩,t1.to λo e=>kk i1 (by simp) o e,t2.to λo e=>kk i2 (by simp) o e⟩
 item:=by
  intro X hP hw hK hc i pins s σ H E I hf st hg
  subst hP hw hK
  obtain⟨xs,ys,x,y,q1,q2,hx,hy⟩:=hg
  obtain⟨zz,zi,⟨u0,v0,zo⟩,t1,t2⟩:=st
  obtain⟨its,rv,m1,_⟩:=I.seqB q1
  obtain⟨jts,rw',m2,_⟩:=I.seqB q2
  obtain⟨u,hu,ru⟩:=rv.get hx
  obtain⟨u',hu',ru'⟩:=rw'.get hy
  refine b5v D zz zi zo t1 t2 m1 m2 (x:=u) (y:=u') (by simpa using hu) (by simpa using hu') λh' a1 a2 a3 a4 a5 hk=>?_
  refine⟨_,rfl,wpAny_letOwnedTupleGo_zip a1 λh'' z'' hs''=>?_⟩
  have szn:z≠s.heap.objs.size:=Γo (Γl zz)
  have T'':IsPair h'' s.heap.objs.size u u':=hs''.extBut _ _ (Ne.symm szn) a5
  have I1:Inv X pins σ (upd H s.heap.objs.size (.tup [x,y])) { s with heap:=h'' }:=I.turnedNew (t':=s.toks) (ch:=[z,TO,i1,i2]) (Γi _)
   (λc ob hc e=>by simp only[List.mem_cons,List.not_mem_nil,or_false,not_or] at hc;exact hs''.extBut _ _ hc.1 (hk c ob hc.1 hc.2.1 hc.2.2.1 hc.2.2.2 e))
   (λc hc=>hf c (by simp only[List.mem_cons,List.not_mem_nil,or_false] at hc ⊢;rcases hc with z|z|z|z<;>simp[z])) ⟨by show 2<=sizeLine;decide,[u,u'],.cons ru (.cons ru' .nil),⟨_,T'',rfl,_,rfl⟩⟩
  refine⟨.ref s.heap.objs.size,_,I1,rfl,⟨_,I.fresh,rfl,λxs' ys' x' y' r1 r2 hx' hy'=>?_⟩,⟨z'',hs''.extBut _ _ D.TIz (hk _ _ D.TIz D.TITO D.TIi1 D.TIi2 zi),⟨_,_,hs''.extBut _ _ D.TOz a2⟩,a3.move hs''.extBut D.i1z,a4.move hs''.extBut D.i2z⟩,λc hc=>?_⟩
  ·have e1:=I.seqB_inj r1 q1
   have e2:=I.seqB_inj r2 q2
   subst e1 e2
   rw[hx] at hx';rw[hy] at hy';cases hx';cases hy';rfl
  ·have:c≠s.heap.objs.size:=by
    have hlt:c<s.heap.objs.size:=by
     simp only[List.mem_cons,List.not_mem_nil,or_false] at hc
     rcases hc with rfl|rfl|rfl|rfl|rfl
     ·exact Γl zz
     ·exact Γl zo
     ·exact t1.lt
     ·exact t2.lt
     ·exact Γl zi
    exact Γo hlt
   rw[a0e this];exact (hf c hc).1
 done:=by
  intro X hP hw hK hc i pins s σ H E I hf st hg
  subst hP hw hK
  obtain⟨xs,ys,q1,q2,hx⟩:=hg
  obtain⟨zz,zi,⟨u0,v0,zo⟩,t1,t2⟩:=st
  obtain⟨its,rv,m1,l1⟩:=I.seqB q1
  obtain⟨jts,rw',m2,l2⟩:=I.seqB q2
  refine b5u (I.ok.hd hc) D zz zi zo t1 t2 m1 m2 (hx.elim (λz=>.inl (by simp;lia)) λz=>.inr (by simp;lia)) λh' hk=>⟨rfl,?_⟩
  exact I.turnedL (t':=s.toks) (ch:=[z,TO,i1,i2]) (λc ob hc e=>by simp only[List.mem_cons,List.not_mem_nil,or_false,not_or] at hc;exact hk c ob hc.1 hc.2.1 hc.2.2.1 hc.2.2.2 e)
   (λc hc=>hf c (by simp only[List.mem_cons,List.not_mem_nil,or_false] at hc ⊢;rcases hc with z|z|z|z<;>simp[z]))
 self:=λ_ _ _ _ _ st h=>wpAny_pyIter_zip st.1 h
theorem c5m {P:Program}{w:World}{K:Γd}{p:Bool}{elts:List Expr}{k:Nat}{pos:Pos}{a e it:Addr}(ne:e≠it) :
  Turn P w K (.Tuple elts k pos) (Ien K p a) [e,it] e (λi h=>(∃ old,IsEnum h e it i old)/\IterB p h it a i) where
 mem:=by simp
 obj:=λi h st c hc=>by
  obtain⟨⟨old,ee⟩,t1⟩:=st
  simp only[List.mem_cons,List.not_mem_nil,or_false] at hc
  rcases hc with rfl|rfl
  ·exact⟨_,ee,λv z=>by cases z⟩
  ·exact t1.obj
 keep:=λi h h' st kk=>by
  obtain⟨⟨old,ee⟩,t1⟩:=st
  exact⟨⟨old,kk e (by simp) _ ee⟩,t1.to λo q=>kk it (by simp) o q⟩
 item:=by
  intro X hP hw hK hc i pins s σ H E I hf st hg
  subst hP hw hK
  obtain⟨xs,x,q1,hx⟩:=hg
  obtain⟨⟨old,ee⟩,t1⟩:=st
  obtain⟨its,rv,m1,_⟩:=I.seqB q1
  obtain⟨u,hu,ru⟩:=rv.get hx
  refine b5g ee t1 m1 (x:=u) (by simpa using hu) ne λh' a1 a2 a3 hk=>?_
  refine⟨_,rfl,wpAny_letOwnedTupleGo_enum a1 λh'' z'' hs''=>?_⟩
  have szn:e≠s.heap.objs.size:=Γo (Γl ee)
  have T'':=hs''.extBut _ _ (Ne.symm szn) a3
  have I1:Inv X pins σ (upd H s.heap.objs.size (.tup [.int i,x])) { s with heap:=h'',toks:=s.toks+1 }:=I.turnedNew (t':=s.toks+1) (ch:=[e,it]) (Γi _)
   (λc ob hc q=>by simp only[List.mem_cons,List.not_mem_nil,or_false,not_or] at hc;exact hs''.extBut _ _ hc.1 (hk c ob hc.1 hc.2 q))
   (λc hc=>hf c hc) ⟨by show 2<=sizeLine;decide,[.int i s.toks,u],.cons ⟨_,rfl⟩ (.cons ru .nil),⟨_,T'',rfl,_,rfl⟩⟩
  refine⟨.ref s.heap.objs.size,_,I1,rfl,⟨_,I.fresh,rfl,λxs' x' r1 hx'=>?_⟩,⟨⟨_,z''⟩,a2.move hs''.extBut (Ne.symm ne)⟩,λc hc=>?_⟩
  ·have e1:=I.seqB_inj r1 q1
   subst e1
   rw[hx] at hx';cases hx';rfl
  ·have:c≠s.heap.objs.size:=by
    have hlt:c<s.heap.objs.size:=by
     simp only[List.mem_cons,List.not_mem_nil,or_false] at hc
     rcases hc with rfl|rfl
     ·exact Γl ee
     ·exact t1.lt
    exact Γo hlt
   rw[a0e this];exact (hf c hc).1
 done:=by
  intro X hP hw hK hc i pins s σ H E I hf st hg
  subst hP hw hK
  obtain⟨xs,q1,hx⟩:=hg
  obtain⟨⟨old,ee⟩,t1⟩:=st
  obtain⟨its,rv,m1,l1⟩:=I.seqB q1
  refine b5f (I.ok.hd hc) ee t1 m1 (by simp;lia) λh' hk=>⟨rfl,?_⟩
  exact I.turnedL (t':=s.toks) (ch:=[it]) (λc ob hc q=>hk c ob (by simpa using hc) q) (λc hc=>hf c (by simp at hc;simp[hc]))
 self:=λ_ _ _ _ _ st h=>wpAny_pyIter_enum st.1.choose_spec h
section
variable {X:Cx}
def iZ2 (K:Γd)(ta:TA):TI:=λσ H R=>ta σ H λvs H1=>∃ p q a b,vs=[.ref a,.ref b]/\(∃ xs,SqB p K H1 a xs)/\(∃ ys,SqB q K H1 b ys)/\R (Iz2 K p q a b) H1
theorem d7t {elts:List Expr}{k:Nat}{tp:Pos}{e1 e2:Expr}{ta:TA}{p pos:Pos}(hg:Gl X "zip")(hm:X.mg "zip" = none)(ha:PA X [e1,e2] ta)
  (hs:starEach [e1,e2] X.env=[(false,eval e1 X.env),(false,eval e2 X.env)])(hs2:starEach [e2] X.env=[(false,eval e2 X.env)]):PI X (.Tuple elts k tp) (.Call (.Name "zip" p) [e1,e2] [] pos) (iZ2 X.K ta):=by
 intro pins s σ H R I h
 refine wpAny_Call_Name_kw (a7l I hg hm PyProof.Rows.boot_zip ?_ (by decide) (by decide))
 refine PyProof.Rows.callWith_type1 (thn (ha pos pins s σ H _ I h) λus s1 ⟨vs,H1,I1,r1,q1⟩=>?_) (by rw[hs,hs2]) (by rw[hs2];rfl)
 obtain⟨p,q,a,b,e,⟨xs,hq1⟩,⟨ys,hq2⟩,kk⟩:=q1
 subst e
 obtain⟨u1,u2,rfl,ra,rb⟩:=c1g r1
 cases ra;cases rb
 obtain⟨its,rv,m1,_⟩:=I1.seqB hq1
 obtain⟨jts,rw',m2,_⟩:=I1.seqB hq2
 refine c0o m1 m2 λh' zz zi zo t1 t2 hk=>wpAny_pyIter_zip (f0:=.none) zz ?_
 have I2:Inv X pins σ H1 { s1 with heap:=h' }:=I1.kept (t':=s1.toks) λc o e=>hk c o e
 refine⟨_,_,_,Iz2 X.K p q a b,H1,rfl,I2,c5l (zipApart_new m1.lt m2.lt),⟨zz,zi,⟨_,_,zo⟩,t1,t2⟩,λc hc=>?_,kk⟩
 have hge:s1.heap.objs.size<=c:=by
  simp only[List.mem_cons,List.not_mem_nil,or_false] at hc
  rcases hc with rfl|rfl|rfl|rfl|rfl<;>first|exact Γi _|exact Nat.le_add_right _ _
 exact I1.fpOk hge (I1.hok.fresh hge)
def iEn (K:Γd)(ta:TA):TI:=λσ H R=>ta σ H λvs H1=>∃ p a,vs=[.ref a]/\(∃ xs,SqB p K H1 a xs)/\R (Ien K p a) H1
theorem d7u {elts:List Expr}{k:Nat}{tp:Pos}{e1:Expr}{ta:TA}{p pos:Pos}(hg:Gl X "enumerate")(hm:X.mg "enumerate" = none)(ha:PA X [e1] ta)(hs:starEach [e1] X.env=[(false,eval e1 X.env)]) :
  PI X (.Tuple elts k tp) (.Call (.Name "enumerate" p) [e1] [] pos) (iEn X.K ta):=by
 intro pins s σ H R I h
 refine wpAny_Call_Name_kw (a7l I hg hm PyProof.Rows.boot_enumerate ?_ (by decide) (by decide))
 refine PyProof.Rows.callWith_type1 (thn (ha pos pins s σ H _ I h) λus s1 ⟨vs,H1,I1,r1,q1⟩=>?_) (by rw[hs];rfl) rfl
 obtain⟨p,a,e,⟨xs,hq1⟩,kk⟩:=q1
 subst e
 obtain⟨u1,rfl,ra⟩:=a3l r1
 cases ra
 obtain⟨its,rv,m1,_⟩:=I1.seqB hq1
 refine b5m m1 λh' ee t1 hk=>wpAny_pyIter_enum ee ?_
 have I2:Inv X pins σ H1 { s1 with heap:=h' }:=I1.kept (t':=s1.toks) λc o e=>hk c o e
 refine⟨_,_,_,Ien X.K p a,H1,rfl,I2,c5m (Nat.ne_of_gt (Nat.lt_succ_self _)),⟨⟨_,ee⟩,t1⟩,λc hc=>?_,kk⟩
 have hge:s1.heap.objs.size<=c:=by
  simp only[List.mem_cons,List.not_mem_nil,or_false] at hc
  rcases hc with rfl|rfl<;>first|exact Γi _|exact Nat.le_add_right _ _
 exact I1.fpOk hge (I1.hok.fresh hge)
end
end L2
end
section
namespace L2
open PySem PySem.Spec PyProof.Rows
def b2r (kx vx:Expr):Value->Env->Code->Sem Fin
 | .ref D,env,c=>do
  (do let kv <- eval kx env;let vv <- holding [kv] (eval vx env);standAt { kx.pos with endLine:=vx.pos.endLine,endCol:=vx.pos.endCol };holding [kv,vv] (dictSet D kv vv))
  again c
 | _,_,c=>again c
def emD (tk tv:TE):Addr->St->Hp->(Hp->Prop)->Prop:=λacc σ H K=>tk σ H λy H4=>tv σ H4 λv H5=>∃ kvs k b,H5 acc=some (.dT kvs)/\y=.ref b/\H5 b=some (.tup (k.map kV))/\kvs.length<sizeLine/\K (upd H5 acc (.dT (a4w kvs k v)))
def b6g (wi:TI)(g:TG)(tt:TT)(tk tv:TE) (own:Nat):TE:=a9s wi g tt (emD tk tv) (λ_=>.dT []) own
section
variable {X:Cx}{kx vx tg iter:Expr}{ifs:List Expr}{scope:Scope}{own:List Str}{pos:Pos}{wi:TI}{g:TG}{tt:TT}{tk tv:TE}
theorem c0m:CKind X (.DictComp kx vx [⟨tg,iter,ifs,0⟩] scope pos) tg iter ifs scope newDict { cls:=.type "dict",data:=.dict #[] } (λ_=>.dT []) (b2r kx vx) :=
 ⟨λ_ _ _=>rfl,λ_ _ _ _=>rfl,λ_ _ _=>rfl,λ_ _=>rfl,codeAny_compStart_dict,λq=>wpAny_newObj_type q,λ{_ _ _ s} I=>I.laid (a:=s.heap.objs.size) (o:=.dT []) (t':=s.toks) (λ_ _ q=>Γc _ q) (Γi _) (c3u s.heap I.big),λ_=>by rw[arm_eval_DictComp];rfl,rfl⟩
theorem b3l {Y:Cx}(hu:Y.A.units+1<cLine)(hk:PE Y kx tk)(hv:PE Y vx tv):PEm Y (b2r kx vx) (emD tk tv):=by
 intro pins s σ H acc c K I q
 unfold b2r
 refine Γa (Γa (thn (hk _ s σ H _ I q) λky s11 ⟨v11,H11,I11,r11,q11⟩=>Γa (Γg (thn (hv _ s11 σ H11 _ I11 q11) λy s12 ⟨v12,H12,I12,r12,kvs,k,b,hys,hyb,hkb,hz,kk⟩=>Γa (wpAny_standAt (Γg ?_))))))
 subst hyb
 cases (show ky=Value.ref b from r11)
 obtain⟨z,hd,xs,rel,dd⟩:=d3j I12.hok hys
 have hz':xs.length<=sizeLine:=by rw[<- Paired.length rel];exact z
 have hl:(a4w kvs k v12).length<=sizeLine:=by have:=a2r kvs k v12;lia
 have ko:=a6d I12.hok hkb
 refine wpAny_dictSet_heap (knd:=tupleKind (a0v Y.prog Y.w)) (hsz:=hz') (show Y.A.units<cLine by lia) ko dd λh' dd' hs=>?_
 obtain⟨q,es,ep,hq,h2',h3',h4',h5',h6'⟩:=dd'
 refine Γb ⟨rfl,_,?_,kk⟩
 refine b2v I12 (by rw[hys];exact True.intro) hs ⟨q,hq⟩ ⟨hl,hd,_,(rel.put k hkb r12).keeps λc ys ec=>?_,q,es,ep,hq,h2',h3',h4',h6'⟩
 rw[a0e (d1x ec hys (λz=>nomatch z))]
 exact ec
theorem b3n (hu:X.A.units+1<cLine)(hc:X.calm=true)(SC:CScope X scope own)(hi:PI X.nox tg iter wi)
  (hblock:∀ fp C s H,PG (cxC X scope own fp C s H) tg g/\PTs (cxC X scope own fp C s H) ifs tt/\PE (cxC X scope own fp C s H) kx tk/\PE (cxC X scope own fp C s H) vx tv)
  (hs:∀ x,foldedSetIterable iter X.env x=pure x:=by intro _;rfl) :
  PE X.nox (.DictComp kx vx [⟨tg,iter,ifs,0⟩] scope pos) (b6g wi g tt tk tv own.length) :=
 a8e hc SC c0m hi (λfp C s H=>let ⟨a,b,c,d⟩:=hblock fp C s H;⟨a,b,b3l hu c d⟩) hs
theorem b1x {i:Nat}{x:Str}{px:Pos}{spos:Pos}(hu:X.A.units+1<cLine)(hc:X.calm=true)(SC:CScope X scope own)(hN:X.N.Nodup)(hx:X.N[i]?=some x)(hl:X.env.scope.names.lookup x=some .local)(hi:PI X.nox tg iter wi)
  (hblock:∀ fp C s H,PG (cxC X scope own fp C s H) tg g/\PTs (cxC X scope own fp C s H) ifs tt/\PE (cxC X scope own fp C s H) kx tk/\PE (cxC X scope own fp C s H) vx tv)
  (hsw:swapsWith (.DictComp kx vx [⟨tg,iter,ifs,0⟩] scope pos) (some (.Name x px)) spos.line X.env=pure true)
  (hs:∀ x,foldedSetIterable iter X.env x=pure x:=by intro _;rfl) :
  PS X.nox (.Assign [.Name x px] (.DictComp kx vx [⟨tg,iter,ifs,0⟩] scope pos) spos) (b6h (b6g wi g tt tk tv own.length) (a4n i)) :=
 a5u hc SC c0m hN hx hl hi (λfp C s H=>let ⟨a,b,c,d⟩:=hblock fp C s H;⟨a,b,b3l hu c d⟩) hsw hs
end
end L2
end
section
namespace L2
open PySem PySem.Spec PyProof.Rows
section
variable {prog:Program}{w:World}{A:Around}{R:Result->Shared->Prop}{s:Shared}
end
section
variable {X:Cx}{elt tg iter tg2 iter2:Expr}{ifs ifs2:List Expr}{scope:Scope}{own:List Str}{pos:Pos}{wi wi2:TI}{g g2:TG}{tt tt2:TT}{te:TE}
end
end L2
end
section
namespace Kq
open PySem PySem.Spec PyProof.Rows L2
inductive D where
 | non|bl (b:Bool)|int (i:Int)|str (x:String)|tup (xs:List D)|lst (xs:List D)
mutual
noncomputable def D.eqv:D->D->Bool
 | .non,.non=>true
 | .bl a,.bl b=>a == b
 | .bl a,.int j=>(if a then 1 else 0) == j
 | .int i,.bl b=>i == (if b then 1 else 0)
 | .int a,.int b=>a == b
 | .str a,.str b=>a == b
 | .tup a,.tup b=>D.eqvs a b
 | .lst a,.lst b=>D.eqvs a b
 | _,_=>false
noncomputable def D.eqvs:List D->List D->Bool
 | [],[]=>true
 | a :: r,b :: q=>D.eqv a b && D.eqvs r q
 | _,_=>false
end
mutual
noncomputable def D.wt:D->Nat
 | .non=>0|.bl _=>0
 | .int i=>if -(2 ^ 40)<i/\i<2 ^ 40 then 41 else 151
 | .str x=>x.length
 | .tup xs=>D.wts xs
 | .lst xs=>D.wts xs
noncomputable def D.wts:List D->Nat
 | []=>0
 | a :: r=>D.wt a+1+D.wts r
end
mutual
noncomputable def D.fit:D->Bool
 | .int i=>decide (-(2 ^ 150)<i/\i<2 ^ 150)
 | .tup xs=>D.fits xs
 | .lst xs=>D.fits xs
 | _=>true
noncomputable def D.fits:List D->Bool
 | []=>true
 | a :: r=>D.fit a && D.fits r
end
inductive FV where
 | non|bl (b:Bool)|int (i:Int)|str (x:String)|tup (xs:List FV)|lst (xs:List FV)
 | scr (ns:List Int)
 | shn (d:D)
 | dct (ks:List (List Int))(vs:List FV)
 | dci (ks:List Int)(vs:List FV)
 | dcz (o:Obj)(ks:List (List Int))(vs:List FV)
 | dcn (z:Option Obj)(ks:List (List (Option Int)))(vs:List FV)
 | obj (C dx:Addr)(fs:List (Str×V))(gs:List (Addr×List V))
def big:Nat:=100000
inductive Mo where|imm|own|frz|ob|gst (i:Nat)(x:Str)
 deriving DecidableEq
def Mo.w:Mo->Bool|.imm=>false|.frz=>false|_=>true
def Mo.g:Mo->Bool|.gst _ _=>true|_=>false
theorem Mo.w_imm {m:Mo}(h:m.w=true):m≠.imm:=λz=>by rw[z] at h;cases h
theorem Mo.w_frz {m:Mo}(h:m.w=true):m≠.frz:=λz=>by rw[z] at h;cases h
theorem Mo.w_own {m:Mo}(h:m=.own):m.w=true:=by rw[h];rfl
abbrev Md:=List Mo
abbrev a0c:=List (Option FV)
def a0g:Md->Nat->Mo
 | [],_=>.imm
 | m :: _,0=>m
 | _ :: ms,n+1=>a0g ms n
def lk:a0c->Nat->Option FV
 | [],_=>none
 | x :: _,0=>x
 | _ :: L,n+1=>lk L n
theorem a1v:∀ (L:a0c) (i:Nat)(v:FV),lk L i=some v↔L[i]?=some (some v)
 | [],i,v=>by simp[lk]
 | x :: L,0,v=>by simp[lk]
 | x :: L,i+1,v=>by simpa[lk] using a1v L i v
def wp {α:Type}(r:Option α)(Q:α->Prop):Prop:=match r with
 | some x=>Q x
 | none=>False
theorem wpx {α:Type}{r:Option α}{Q:α->Prop}(h:wp r Q):∃ x,r=some x/\Q x:=by
 cases r with
 | none=>exact h.elim
 | some x=>exact⟨x,rfl,h⟩
mutual
noncomputable def dPy:D->PyData
 | .non=>.none
 | .bl b=>.bool b
 | .int i=>.int i
 | .str x=>.str (Γe x)
 | .tup xs=>.tuple (dPys xs)
 | .lst xs=>.list (dPys xs)
noncomputable def dPys:List D->List PyData
 | []=>[]
 | a :: r=>dPy a :: dPys r
end
def a1w (ks:List (List Int)):List (List (Int ⊕ Option Str)):=ks.map λk=>k.map Sum.inl
def a3h (ks:List Int):List (Int ⊕ Option Str):=ks.map Sum.inl
def oK:Option Int->Int ⊕ Option Str
 | some i=>.inl i
 | none=>.inr none
def a2h (ks:List (List (Option Int))):List (List (Int ⊕ Option Str)):=ks.map λk=>k.map oK
def hoN (u:HO):Option Obj->HO
 | none=>u
 | some o=>.frz o u
def ScrAt (K:Γd)(S:Hp)(a:Addr)(ns:List Int):Prop:=(∃ o,S a=some (.frz o (.lst (ns.map V.int)))) ∨ SqL K (λ_=>none) a (ns.map V.int)
mutual
noncomputable def RV (K:Γd)(S:Hp):FV->V->Prop
 | .non,v=>v=.non
 | .bl b,v=>v=.bl b
 | .int i,v=>v=.int i
 | .str x,v=>v=.str (Γe x)
 | .tup ps,v=>∃ a xs,v=.ref a/\S a=some (.tup xs)/\RVs K S ps xs
 | .lst ps,v=>∃ a xs,v=.ref a/\S a=some (.lst xs)/\RVs K S ps xs
 | .scr ns,v=>∃ a,v=.ref a/\ScrAt K S a ns
 | .shn d,v=>v=.str (dPy d).shown
 | .dct ks vs,v=>∃ a xs,v=.ref a/\ks.length=vs.length/\S a=some (.dT ((a1w ks).zip xs))/\RVs K S vs xs
 | .dci ks vs,v=>∃ a xs,v=.ref a/\ks.length=vs.length/\S a=some (.dK ((a3h ks).zip xs))/\RVs K S vs xs
 | .dcz o ks vs,v=>∃ a xs,v=.ref a/\ks.length=vs.length/\S a=some (.frz o (.dT ((a1w ks).zip xs)))/\RVs K S vs xs
 | .dcn z ks vs,v=>∃ a xs,v=.ref a/\ks.length=vs.length/\S a=some (hoN (.dT ((a2h ks).zip xs)) z)/\RVs K S vs xs
 | .obj C dx fs gs,v=>∃ a,v=.ref a/\S a=some (.big C dx fs gs)
noncomputable def RVs (K:Γd)(S:Hp):List FV->List V->Prop
 | [],vs=>vs=[]
 | p :: ps,vs=>∃ v r,vs=v :: r/\RV K S p v/\RVs K S ps r
end
mutual
theorem RV.mono {K:Γd}{S S':Hp}(x:Same S S'):∀ {p:FV}{v:V},RV K S p v->RV K S' p v
 | .non,v,h=>h
 | .bl b,v,h=>h
 | .int i,v,h=>h
 | .str _,v,h=>h
 | .shn _,v,h=>h
 | .tup ps,v,⟨a,xs,e,h1,h2⟩=>⟨a,xs,e,x _ _ h1,RVs.mono x h2⟩
 | .lst ps,v,⟨a,xs,e,h1,h2⟩=>⟨a,xs,e,x _ _ h1,RVs.mono x h2⟩
 | .dct ks vs,v,⟨a,xs,e,h0,h1,h2⟩=>⟨a,xs,e,h0,x _ _ h1,RVs.mono x h2⟩
 | .dci ks vs,v,⟨a,xs,e,h0,h1,h2⟩=>⟨a,xs,e,h0,x _ _ h1,RVs.mono x h2⟩
 | .dcz o ks vs,v,⟨a,xs,e,h0,h1,h2⟩=>⟨a,xs,e,h0,x _ _ h1,RVs.mono x h2⟩
 | .dcn z ks vs,v,⟨a,xs,e,h0,h1,h2⟩=>⟨a,xs,e,h0,x _ _ h1,RVs.mono x h2⟩
 | .obj _ _ _ _,v,⟨a,e,h⟩=>⟨a,e,x _ _ h⟩
 | .scr ns,v,⟨a,e,h⟩=>⟨a,e,h.elim (λ⟨o,h⟩=>.inl ⟨o,x _ _ h⟩) .inr⟩
theorem RVs.mono {K:Γd}{S S':Hp}(x:Same S S'):∀ {ps:List FV}{vs:List V},RVs K S ps vs->RVs K S' ps vs
 | [],vs,h=>h
 | p :: ps,vs,⟨v,r,e,h1,h2⟩=>⟨v,r,e,RV.mono x h1,RVs.mono x h2⟩
end
section
variable {K:Γd}{S H:Hp}
theorem RVs.length:∀ {ps:List FV}{vs:List V},RVs K S ps vs->ps.length=vs.length
 | [],vs,h=>by cases (show vs=[] from h);rfl
 | p :: ps,vs,h=>by
  obtain⟨v,r,e,_,h2⟩:=h
  subst e
  rw[List.length_cons,List.length_cons,RVs.length h2]
theorem RVs.get:∀ {ps:List FV}{vs:List V}{i:Nat}{p:FV},RVs K S ps vs->ps[i]?=some p->∃ v,vs[i]?=some v/\RV K S p v
 | [],vs,i,p,_,e=>by simp at e
 | q :: ps,vs,0,p,⟨v,r,e',h1,_⟩,e=>by
  subst e'
  simp at e;subst e
  exact⟨v,rfl,h1⟩
 | q :: ps,vs,i+1,p,⟨v,r,e',_,h2⟩,e=>by
  subst e'
  simpa using RVs.get (i:=i) (p:=p) h2 (by simpa using e)
theorem RVs.append:∀ {ps qs:List FV}{vs us:List V},RVs K S ps vs->RVs K S qs us->RVs K S (ps++qs) (vs++us)
 | [],qs,vs,us,h,g=>by cases (show vs=[] from h);exact g
 | p :: ps,qs,vs,us,⟨v,r,e,h1,h2⟩,g=>by
  subst e
  exact⟨v,r++us,rfl,h1,RVs.append h2 g⟩
theorem RVs.one {p:FV}{v:V}(h:RV K S p v):RVs K S [p] [v]:=⟨v,[],rfl,h,rfl⟩
theorem RVs.take:∀ {ps:List FV}{vs:List V} (n:Nat),RVs K S ps vs->RVs K S (ps.take n) (vs.take n)
 | [],vs,n,h=>by cases (show vs=[] from h);simp[RVs]
 | p :: ps,vs,0,h=>by simp[RVs]
 | p :: ps,vs,n+1,⟨v,r,e,h1,h2⟩=>by
  subst e
  exact⟨v,r.take n,rfl,h1,RVs.take n h2⟩
theorem RVs.drop:∀ {ps:List FV}{vs:List V} (n:Nat),RVs K S ps vs->RVs K S (ps.drop n) (vs.drop n)
 | [],vs,n,h=>by cases (show vs=[] from h);simp[RVs]
 | p :: ps,vs,0,h=>h
 | p :: ps,vs,n+1,⟨v,r,e,h1,h2⟩=>by
  subst e
  exact RVs.drop n h2
theorem RVs.set:∀ {ps:List FV}{vs:List V} (n:Nat){p:FV}{v:V},RVs K S ps vs->RV K S p v->RVs K S (ps.set n p) (vs.set n v)
 | [],vs,n,p,v,h,_=>by cases (show vs=[] from h);simp[RVs]
 | q :: ps,vs,0,p,v,⟨v',r,e,h1,h2⟩,g=>by
  subst e
  exact⟨v,r,rfl,g,h2⟩
 | q :: ps,vs,n+1,p,v,⟨v',r,e,h1,h2⟩,g=>by
  subst e
  exact⟨v',r.set n v,rfl,h1,RVs.set n h2 g⟩
theorem RVs.rep {ps:List FV}{vs:List V}(h:RVs K S ps vs):∀ k:Nat,RVs K S (Γj k ps).flatten (Γj k vs).flatten
 | 0=>rfl
 | k+1=>by
  rw[List.replicate_succ,List.replicate_succ,List.flatten_cons,List.flatten_cons]
  exact h.append (h.rep k)
theorem RVs.ns:∀ (ns:List Int),RVs K S (ns.map .int) (ns.map V.int)
 | []=>rfl
 | n :: ns=>⟨_,_,rfl,rfl,RVs.ns ns⟩
theorem RVs.one_of {p:FV}{us:List V}(h:RVs K S [p] us):∃ u,us=[u]/\RV K S p u:=by
 obtain⟨v,r,rfl,h1,h2⟩:=h
 cases (show r=[] from h2)
 exact⟨v,rfl,h1⟩
theorem RVs.two_of {p q:FV}{us:List V}(h:RVs K S [p,q] us):∃ u v,us=[u,v]/\RV K S p u/\RV K S q v:=by
 obtain⟨v,r,rfl,h1,h2⟩:=h
 obtain⟨u,rfl,h3⟩:=h2.one_of
 exact⟨v,u,rfl,h1,h3⟩
def d1g:FV->Option (List FV)
 | .lst ps=>some ps
 | .dct ks vs=>if ks.length=vs.length then some vs else none
 | .dci ks vs=>if ks.length=vs.length then some vs else none
 | .dcz _ ks vs=>if ks.length=vs.length then some vs else none
 | .dcn _ ks vs=>if ks.length=vs.length then some vs else none
 | .obj _ _ _ _=>some []
 | _=>none
def c6z:FV->List V->HO
 | .dct ks _,xs=>.dT ((a1w ks).zip xs)
 | .dci ks _,xs=>.dK ((a3h ks).zip xs)
 | .dcz o ks _,xs=>.frz o (.dT ((a1w ks).zip xs))
 | .dcn z ks _,xs=>hoN (.dT ((a2h ks).zip xs)) z
 | .obj C dx fs gs,_=>.big C dx fs gs
 | _,xs=>.lst xs
def a3s (K:Γd)(S H:Hp)(a:Addr)(v:FV):Prop:=S a=none/\∃ ps xs,d1g v=some ps/\H a=some (c6z v xs)/\RVs K S ps xs
def RH (K:Γd)(S H:Hp)(v:FV)(x:V):Prop:=RV K S v x ∨ ∃ a,x=.ref a/\a3s K S H a v
theorem RH.lst {ps:List FV}{x:V}(s:Same S H)(h:RH K S H (.lst ps) x):∃ a xs,x=.ref a/\H a=some (.lst xs)/\RVs K S ps xs:=by
 rcases h with⟨a,xs,e,h1,h2⟩|⟨a,e,_,qs,xs,e2,h1,h2⟩
 ·exact⟨a,xs,e,s _ _ h1,h2⟩
 ·cases e2;exact⟨a,xs,e,h1,h2⟩
theorem RH.val {v:FV}{x:V}(h:RH K S H v x)(n:d1g v=none):RV K S v x:=by
 rcases h with h|⟨a,_,_,ps,xs,e,_⟩
 ·exact h
 ·rw[n] at e;cases e
theorem RH.tup {ps:List FV}{x:V}(s:Same S H)(h:RH K S H (.tup ps) x):∃ a xs,x=.ref a/\H a=some (.tup xs)/\RVs K S ps xs:=by
 obtain⟨a,xs,e,h1,h2⟩:=h.val rfl
 exact⟨a,xs,e,s _ _ h1,h2⟩
theorem ScrAt.sq {a:Addr}{ns:List Int}(s:Same S H)(h:ScrAt K S a ns):SqL K H a (ns.map V.int):=by
 rcases h with⟨o,h⟩|h
 ·exact .inl (.inr ⟨o,s _ _ h⟩)
 ·rcases h with (h|⟨o,h⟩)|h
  ·cases h
  ·cases h
  ·exact .inr h
def a1t:FV->Option (List FV)
 | .lst xs=>some xs
 | .scr ns=>some (ns.map .int)
 | _=>none
def a4f:FV->Option (List FV)
 | .tup xs=>some xs
 | v=>a1t v
theorem RH.list {v:FV}{ps:List FV}{x:V}(s:Same S H)(h:RH K S H v x)(e:a1t v=some ps):∃ a xs,x=.ref a/\SqL K H a xs/\RVs K S ps xs:=by
 cases v with
 | lst qs =>
  cases e
  obtain⟨a,xs,rfl,h1,h2⟩:=h.lst s
  exact⟨a,xs,rfl,SqL.of h1,h2⟩
 | scr ns =>
  cases e
  obtain⟨a,rfl,g⟩:=h.val rfl
  exact⟨a,_,rfl,ScrAt.sq s g,RVs.ns ns⟩
 | _=>cases e
def isL:FV->Bool
 | .tup _=>false
 | _=>true
theorem RH.seq {v:FV}{ps:List FV}{x:V}(s:Same S H)(h:RH K S H v x)(e:a4f v=some ps):∃ a xs,x=.ref a/\SqB (isL v) K H a xs/\RVs K S ps xs:=by
 cases v with
 | tup qs =>
  cases e
  obtain⟨a,xs,rfl,h1,h2⟩:=h.tup s
  exact⟨a,xs,rfl,SqT.of h1,h2⟩
 | lst qs=>exact h.list s e
 | scr qs=>exact h.list s e
 | _=>cases e
end
def a6e:HO->Bool
 | .tup _=>true
 | _=>false
theorem a4x (v:FV)(xs:List V):a6e (c6z v xs)=false:=by
 cases v with
 | dcn z ks vs=>cases z<;>rfl
 | _=>rfl
structure Cn where
 H0:Hp
 S0:Hp
 P0:Option Addr
 fz:List (Nat×Addr)
 pr:List (Addr×HO)
 P1:List (Nat×Addr)
structure Iv (K:Γd)(c:Cn)(md:Md)(L:a0c)(σ:L2.St)(S H:Hp):Prop where
 len:L.length=σ.length
 imm:∀ i v,a0g md i=.imm->L[i]?=some (some v)->∃ x,σ[i]?=some (some x)/\RV K S v x
 own:∀ i v,a0g md i≠.imm->L[i]?=some (some v)->∃ a,σ[i]?=some (some (.ref a))/\a3s K S H a v/\(c.P0=some a ∨ c.H0 a=none ∨ ∃ j,(j,a)∈c.P1)
 dis:∀ i j v w a,a0g md i≠.imm->a0g md j≠.imm->L[i]?=some (some v)->L[j]?=some (some w)->σ[i]?=some (some (.ref a))->σ[j]?=some (some (.ref a))->i=j
 sub:Same S H
 frame:∀ a o,c.H0 a=some o->c.P0≠some a->(∀ j,(j,a) ∉ c.P1)->H a=some o
 s0:Same c.S0 S
 grow:∀ a o,S a=some o->c.S0 a=some o ∨ c.H0 a=none ∨ a6e o=true
 lent:∀ a,c.P0=some a->a0g md 0≠.imm/\σ[0]?=some (some (.ref a))/\∃ v,L[0]?=some (some v)
 fzs:∀ p∈c.fz,a0g md p.1=.frz/\σ[p.1]?=some (some (.ref p.2))/\∃ v,L[p.1]?=some (some v)
 fzm:∀ i v,a0g md i=.frz->L[i]?=some (some v)->∃ a,(i,a)∈c.fz
 fzp:∀ p∈c.fz,∃ o,(p.2,o)∈c.pr
 prs:∀ p∈c.pr,H p.1=some p.2/\S p.1=none/\∀ i v,(a0g md i).w=true->L[i]?=some (some v)->σ[i]?≠some (some (.ref p.1))
 ntp:∀ p∈c.pr,a6e p.2=false
 lnt1:∀ q∈c.P1,(a0g md q.1).g=true/\σ[q.1]?=some (some (.ref q.2))/\∃ v,L[q.1]?=some (some v)
 tie:∀ j i x C dx fs v,a0g md j=.gst i x->a0g md i=.ob->L[i]?=some (some (.obj C dx fs []))->L[j]?=some (some v)->∃ u,fs.lookup x=some u/\σ[j]?=some (some u)
section
variable {K:Γd}{c:Cn}{md:Md}{L:a0c}{σ:L2.St}{S H S' H':Hp}
theorem Iv.h0 (I:Iv K c md L σ S H){p:Addr}(h:H p=none):c.H0 p=none:=by
 cases e:c.H0 p with
 | none=>rfl
 | some o =>
  by_cases z:c.P0=some p
  ·obtain⟨m,e1,v,e2⟩:=I.lent p z
   obtain⟨a,e3,⟨_,_,_,_,e4,_⟩,_⟩:=I.own 0 v m e2
   rw[e1] at e3;cases e3
   rw[h] at e4;cases e4
  ·by_cases z1:∃ j,(j,p)∈c.P1
   ·obtain⟨j,hj⟩:=z1
    obtain⟨g,e1,v,e2⟩:=I.lnt1 _ hj
    obtain⟨a,e3,⟨_,_,_,_,e4,_⟩,_⟩:=I.own j v (λz=>by rw[z] at g;cases g) e2
    rw[e1] at e3;cases e3
    rw[h] at e4;cases e4
   ·rw[I.frame p o e z λj hj=>z1 ⟨j,hj⟩] at h;cases h
theorem Iv.sn (I:Iv K c md L σ S H){p:Addr}(h:H p=none):S p=none:=by
 cases e:S p with
 | none=>rfl
 | some o=>rw[I.sub p o e] at h;cases h
theorem Iv.go3 (I:Iv K c md L σ S H)(s:Same S S')(sub:Same S' H')(g:∀ a o,S' a=some o->S a=some o ∨ H a=none ∨ a6e o=true)(k:∀ a o,H a=some o->H' a=some o):Iv K c md L σ S' H' where
 len:=I.len
 imm:=λi v h e=>let ⟨x,e1,r⟩:=I.imm i v h e;⟨x,e1,r.mono s⟩
 own:=λi v h e=>by
  obtain⟨a,e1,⟨h1,ps,xs,e2,h2,h3⟩,h4⟩:=I.own i v h e
  refine⟨a,e1,⟨?_,ps,xs,e2,k _ _ h2,h3.mono s⟩,h4⟩
  cases q:S' a with
  | none=>rfl
  | some o =>
   rcases g a o q with z|z|z
   ·rw[h1] at z;cases z
   ·rw[h2] at z;cases z
   ·have:=sub a o q
    rw[k _ _ h2] at this
    rw[<- Option.some.inj this,a4x] at z;cases z
 dis:=I.dis
 sub:=sub
 frame:=λa o h n n1=>k _ _ (I.frame a o h n n1)
 s0:=I.s0.trans s
 grow:=λa o h=>(g a o h).elim (I.grow a o) λz=>z.elim (λz=>.inr (.inl (I.h0 z))) λz=>.inr (.inr z)
 lent:=I.lent
 fzs:=I.fzs
 fzm:=I.fzm
 fzp:=I.fzp
 prs:=λp hp=>by
  obtain⟨h1,h2,h3⟩:=I.prs p hp
  refine⟨k _ _ h1,?_,h3⟩
  cases q:S' p.1 with
  | none=>rfl
  | some o =>
   rcases g _ o q with z|z|z
   ·rw[h2] at z;cases z
   ·rw[h1] at z;cases z
   ·have:=sub _ o q
    rw[k _ _ h1] at this
    rw[<- Option.some.inj this,I.ntp p hp] at z;cases z
 ntp:=I.ntp
 lnt1:=I.lnt1
 tie:=I.tie
theorem Iv.go (I:Iv K c md L σ S H)(s:Same S S')(sub:Same S' H')(g:∀ a o,S' a=some o->S a=some o ∨ H a=none)(k:∀ a o,H a=some o->H' a=some o):Iv K c md L σ S' H':=I.go3 s sub (λa o e=>(g a o e).imp_right .inl) k
theorem a0h {p:Addr}{o:HO}(h:H p=none):Same H (upd H p o):=λa u e=>by rw[a0e (a0z e h)];exact e
theorem Iv.new (I:Iv K c md L σ S H){p:Addr}(h:H p=none)(o:HO):Iv K c md L σ (upd S p o) (upd H p o) :=
 I.go (a0h (I.sn h)) (λa u e=>by
  by_cases z:a=p
  ·subst z;rw[a0d] at e ⊢;exact e
  ·rw[a0e z] at e ⊢;exact I.sub a u e) (λa u e=>by
  by_cases z:a=p
  ·subst z;exact .inr h
  ·rw[a0e z] at e;exact .inl e) (a0h h)
theorem Iv.lay (I:Iv K c md L σ S H){p:Addr}(h:H p=none)(o:HO):Iv K c md L σ S (upd H p o) :=
 I.go (Same.refl S) (I.sub.trans (a0h h)) (λa u e=>.inl e) (a0h h)
theorem Iv.back4 (I:Iv K c md L σ S H){i:Nat}{v w:FV}{a:Addr}(m:(a0g md i).w=true)(e:L[i]?=some (some v))(e1:σ[i]?=some (some (.ref a)))(s:Same S S')(sub:Same S' H')(g:∀ a o,S' a=some o->S a=some o ∨ H a=none ∨ a6e o=true)
  (k:∀ b o,H b=some o->b≠a->H' b=some o)(new:a3s K S' H' a w)(ht:∀ j x C dx fs u,a0g md j=.gst i x->a0g md i=.ob->w=.obj C dx fs []->L[j]?=some (some u)->∃ u,fs.lookup x=some u/\σ[j]?=some (some u)):Iv K c md (L.set i (some w)) σ S' H':=by
 have mi:=Mo.w_imm m
 have hi:=(List.getElem?_eq_some_iff.mp e).1
 obtain⟨a',e1',⟨h1,qs,ys,_,h2,h3⟩,h4⟩:=I.own i v mi e
 rw[e1] at e1';cases e1'
 have look:∀ j u,(L.set i (some w))[j]?=some (some u)->(j=i/\u=w) ∨ (j≠i/\L[j]?=some (some u)):=λj u z=>by
  by_cases q:j=i
  ·subst q;rw[List.getElem?_set_self hi] at z;cases z;exact .inl ⟨rfl,rfl⟩
  ·rw[List.getElem?_set_ne (Ne.symm q)] at z;exact .inr ⟨q,z⟩
 have lookx:∀ j,(∃ u,L[j]?=some (some u))->∃ u,(L.set i (some w))[j]?=some (some u):=λj h=>by
  obtain⟨u,z⟩:=h
  by_cases q:j=i
  ·subst q;exact⟨_,List.getElem?_set_self hi⟩
  ·exact⟨u,by rw[List.getElem?_set_ne (Ne.symm q)];exact z⟩
 have old:∀ j u,(L.set i (some w))[j]?=some (some u)->∃ u,L[j]?=some (some u):=λj u z=>(look j u z).elim (λq=>⟨v,by rw[q.1];exact e⟩) λq=>⟨u,q.2⟩
 refine⟨by rw[List.length_set];exact I.len,λj u hm z=>?_,λj u hm z=>?_,λj k u u2 b m1 m2 z1 z2=>?_,sub,λb o z n n1=>?_,I.s0.trans s,λb o z=>(g b o z).elim (I.grow b o) λz=>z.elim (λz=>.inr (.inl (I.h0 z))) λz=>.inr (.inr z),λb z=>?_,λp hp=>?_,λj u hm z=>?_,I.fzp,λp hp=>?_,I.ntp,λq hq=>?_,λj i' x C dx fs u h1 h2 h3 h4=>?_⟩
 ·rcases look j u z with⟨q,_⟩|⟨_,z⟩
  ·rw[q] at hm;exact absurd hm mi
  ·obtain⟨x,f1,f2⟩:=I.imm j u hm z
   exact⟨x,f1,f2.mono s⟩
 ·rcases look j u z with⟨rfl,rfl⟩|⟨q,z⟩
  ·exact⟨a,e1,new,h4⟩
  ·obtain⟨b,f1,⟨g1,rs,zs,g2,g3,g4⟩,g5⟩:=I.own j u hm z
   have hb:b≠a:=λy=>by subst y;exact q (I.dis j i u v b hm mi z e f1 e1)
   refine⟨b,f1,⟨?_,rs,zs,g2,k b _ g3 hb,g4.mono s⟩,g5⟩
   cases q':S' b with
   | none=>rfl
   | some o =>
    rcases g b o q' with z|z|z
    ·rw[g1] at z;cases z
    ·rw[g3] at z;cases z
    ·have:=sub b o q'
     rw[k b _ g3 hb] at this
     rw[<- Option.some.inj this,a4x] at z;cases z
 ·obtain⟨w',z1⟩:=old j u z1
  obtain⟨u',z2⟩:=old k u2 z2
  exact I.dis j k w' u' b m1 m2 z1 z2
 ·refine k b o (I.frame b o z n n1) λy=>?_
  subst y
  rcases h4 with y|y|⟨j,y⟩
  ·exact n y
  ·rw[z] at y;cases y
  ·exact n1 j y
 ·obtain⟨g1,g2,g3⟩:=I.lent b z
  exact⟨g1,g2,lookx 0 g3⟩
 ·obtain⟨g1,g2,g4⟩:=I.fzs p hp
  exact⟨g1,g2,lookx _ g4⟩
 ·rcases look j u z with⟨q,_⟩|⟨_,z⟩
  ·rw[q] at hm;exact absurd hm (Mo.w_frz m)
  ·exact I.fzm j u hm z
 ·obtain⟨g1,g2,g3⟩:=I.prs p hp
  have kp:=k _ _ g1 λy=>g3 i v m e (by rw[y];exact e1)
  refine⟨kp,?_,λj u hm z=>let ⟨u',z'⟩:=old j u z;g3 j u' hm z'⟩
  cases q':S' p.1 with
  | none=>rfl
  | some o =>
   rcases g _ o q' with z|z|z
   ·rw[g2] at z;cases z
   ·rw[g1] at z;cases z
   ·have:=sub _ o q'
    rw[kp] at this
    rw[<- Option.some.inj this,I.ntp p hp] at z;cases z
 ·obtain⟨g1,g2,g3⟩:=I.lnt1 q hq
  exact⟨g1,g2,lookx _ g3⟩
 ·obtain⟨u',h4'⟩:=old j u h4
  rcases look i' _ h3 with⟨rfl,e9⟩|⟨_,h3⟩
  ·exact ht j x C dx fs u' h1 h2 e9.symm h4'
  ·exact I.tie j i' x C dx fs u' h1 h2 h3 h4'
theorem Iv.back3 (I:Iv K c md L σ S H){i:Nat}{v w:FV}{a:Addr}(m:a0g md i=.own)(e:L[i]?=some (some v))(e1:σ[i]?=some (some (.ref a)))(s:Same S S')(sub:Same S' H')(g:∀ a o,S' a=some o->S a=some o ∨ H a=none ∨ a6e o=true)
  (k:∀ b o,H b=some o->b≠a->H' b=some o)(new:a3s K S' H' a w):Iv K c md (L.set i (some w)) σ S' H':=I.back4 (Mo.w_own m) e e1 s sub g k new λ_ _ _ _ _ _ _ z=>by rw[m] at z;cases z
theorem Iv.back (I:Iv K c md L σ S H){i:Nat}{v w:FV}{a:Addr}(m:a0g md i=.own)(e:L[i]?=some (some v))(e1:σ[i]?=some (some (.ref a)))(s:Same S S')(sub:Same S' H')(g:∀ a o,S' a=some o->S a=some o ∨ H a=none)
  (k:∀ b o,H b=some o->b≠a->H' b=some o)(new:a3s K S' H' a w):Iv K c md (L.set i (some w)) σ S' H':=I.back3 m e e1 s sub (λa o e=>(g a o e).imp_right .inl) k new
theorem Iv.write (I:Iv K c md L σ S H){i:Nat}{v:FV}{a:Addr}{ps:List FV}{xs:List V}(m:a0g md i=.own)(e:L[i]?=some (some v))(e1:σ[i]?=some (some (.ref a)))(r:RVs K S ps xs) :
  Iv K c md (L.set i (some (.lst ps))) σ S (upd H a (.lst xs)):=by
 obtain⟨a',e1',⟨h1,_⟩,_⟩:=I.own i v (λz=>by rw[m] at z;cases z) e
 rw[e1] at e1';cases e1'
 exact I.back m e e1 (Same.refl S) (λb o z=>by rw[a0e λy=>by subst y;rw[h1] at z;cases z];exact I.sub b o z) (λb o z=>.inl z) (λb o z n=>by rw[a0e n];exact z) ⟨h1,ps,xs,rfl,a0d,r⟩
theorem Iv.set (I:Iv K c md L σ S H){i:Nat}{v:FV}{x:V}(ni:∀ a,c.P0=some a->i≠0)(nf:a0g md i≠.frz)(h:(a0g md i=.imm/\RV K S v x) ∨ (a0g md i=.own/\∃ a,x=.ref a/\a3s K S H a v/\c.H0 a=none/\(∀ p∈c.pr,p.1≠a)/\∀ j w,j≠i->a0g md j≠.imm->L[j]?=some (some w)->σ[j]?≠some (some (.ref a)))) :
  Iv K c md (L.set i (some v)) (σ.set i (some x)) S H:=by
 have look:∀ j w,(L.set i (some v))[j]?=some (some w)->(j=i/\w=v/\(σ.set i (some x))[j]?=some (some x)) ∨ (j≠i/\L[j]?=some (some w)/\(σ.set i (some x))[j]?=σ[j]?):=λj w z=>by
  by_cases q:j=i
  ·subst q
   have hj:j<L.length:=by have:=(List.getElem?_eq_some_iff.mp z).1;rwa [List.length_set] at this
   rw[List.getElem?_set_self hj] at z;cases z
   exact .inl ⟨rfl,rfl,by rw[List.getElem?_set_self (by rw[<- I.len];exact hj)]⟩
  ·rw[List.getElem?_set_ne (Ne.symm q)] at z
   exact .inr ⟨q,z,List.getElem?_set_ne (Ne.symm q)⟩
 have far:∀ j,j≠i->(L.set i (some v))[j]?=L[j]?/\(σ.set i (some x))[j]?=σ[j]?:=λj q=>⟨List.getElem?_set_ne (Ne.symm q),List.getElem?_set_ne (Ne.symm q)⟩
 refine⟨by rw[List.length_set,List.length_set];exact I.len,λj w hm z=>?_,λj w hm z=>?_,λj k w u b m1 m2 z1 z2 y1 y2=>?_,I.sub,I.frame,I.s0,I.grow,λb z=>?_,λp hp=>?_,λj w hm z=>?_,I.fzp,λp hp=>?_,I.ntp,λq hq=>?_,λj k y C dx fs u h1 h2 h3 h4=>?_⟩
 ·rcases look j w z with⟨rfl,rfl,y⟩|⟨q,z,y⟩
  ·rcases h with⟨_,r⟩|⟨hm',_⟩
   ·exact⟨x,y,r⟩
   ·rw[hm] at hm';cases hm'
  ·rw[y];exact I.imm j w hm z
 ·rcases look j w z with⟨rfl,rfl,y⟩|⟨q,z,y⟩
  ·rcases h with⟨hm',_⟩|⟨_,a,rfl,o,h0,_,_⟩
   ·exact absurd hm' hm
   ·exact⟨a,y,o,.inr (.inl h0)⟩
  ·rw[y];exact I.own j w hm z
 ·rcases look j w z1 with⟨p1,p2,p3⟩|⟨p1,p2,p3⟩
  ·rcases look k u z2 with⟨q1,q2,q3⟩|⟨q1,q2,q3⟩
   ·rw[p1,q1]
   ·rcases h with⟨hm',_⟩|⟨_,a,rfl,_,_,_,n⟩
    ·rw[p1] at m1;exact absurd hm' m1
    ·rw[p3] at y1;cases y1
     rw[q3] at y2
     exact absurd y2 (n k u q1 m2 q2)
  ·rw[p3] at y1
   rcases look k u z2 with⟨q1,q2,q3⟩|⟨q1,q2,q3⟩
   ·rcases h with⟨hm',_⟩|⟨_,a,rfl,_,_,_,n⟩
    ·rw[q1] at m2;exact absurd hm' m2
    ·rw[q3] at y2;cases y2
     exact absurd y1 (n j w p1 m1 p2)
   ·rw[q3] at y2
    exact I.dis j k w u b m1 m2 p2 q2 y1 y2
 ·obtain⟨g1,g2,g3⟩:=I.lent b z
  obtain⟨f1,f2⟩:=far 0 (Ne.symm (ni b z))
  rw[f1,f2];exact⟨g1,g2,g3⟩
 ·obtain⟨g1,g2,g4⟩:=I.fzs p hp
  obtain⟨f1,f2⟩:=far p.1 λy=>nf (by rw[<- y];exact g1)
  rw[f1,f2];exact⟨g1,g2,g4⟩
 ·rcases look j w z with⟨rfl,_,_⟩|⟨_,z,_⟩
  ·exact absurd hm nf
  ·exact I.fzm j w hm z
 ·obtain⟨g1,g2,g3⟩:=I.prs p hp
  refine⟨g1,g2,λj w hm z=>?_⟩
  rcases look j w z with⟨q1,q2,q3⟩|⟨q1,q2,q3⟩
  ·rcases h with⟨hm',_⟩|⟨_,a,rfl,_,_,n,_⟩
   ·rw[q1,hm'] at hm;cases hm
   ·rw[q3];exact λy=>n p hp (by cases y;rfl)
  ·rw[q3];exact g3 j w hm q2
 ·obtain⟨g1,g2,g3⟩:=I.lnt1 q hq
  obtain⟨f1,f2⟩:=far q.1 λy=>by
   rw[y] at g1
   rcases h with⟨hm',_⟩|⟨hm',_⟩<;>rw[hm'] at g1<;>cases g1
  rw[f1,f2];exact⟨g1,g2,g3⟩
 ·have n1:j≠i:=λy=>by
   rw[y] at h1
   rcases h with⟨hm',_⟩|⟨hm',_⟩<;>rw[hm'] at h1<;>cases h1
  have n2:k≠i:=λy=>by
   rw[y] at h2
   rcases h with⟨hm',_⟩|⟨hm',_⟩<;>rw[hm'] at h2<;>cases h2
  rw[(far j n1).1] at h4
  rw[(far k n2).1] at h3
  rw[(far j n1).2]
  exact I.tie j k y C dx fs u h1 h2 h3 h4
theorem Iv.tup (I:Iv K c md L σ S H){b:Addr}{xs:List V}(h:H b=some (.tup xs)):Iv K c md L σ (upd S b (.tup xs)) H/\Same S (upd S b (.tup xs)):=by
 have s:Same S (upd S b (.tup xs)):=λa o e=>by
  by_cases z:a=b
  ·subst z;rw[I.sub _ _ e] at h;rw[h,a0d]
  ·rw[a0e z];exact e
 refine⟨I.go3 s (λa o e=>?_) (λa o e=>?_) λa o e=>e,s⟩
 ·by_cases z:a=b
  ·subst z;rw[a0d] at e;rw[<- e];exact h
  ·rw[a0e z] at e;exact I.sub a o e
 ·by_cases z:a=b
  ·subst z;rw[a0d] at e;cases e;exact .inr (.inr rfl)
  ·rw[a0e z] at e;exact .inl e
end
end Kq
end
section
namespace Kq
def a7h {α β:Type}(f:α->Option β):List α->Option (List β)
 | []=>some []
 | x :: xs=>(f x).bind λy=>(a7h f xs).map (y :: ·)
def fD:Nat->FV->Option D
 | 0,_=>none
 | n+1,v=>match v with
  | .non=>some .non
  | .bl b=>some (.bl b)
  | .int i=>some (.int i)
  | .str x=>some (.str x)
  | .tup xs=>(a7h (fD n) xs).map .tup
  | .lst xs=>(a7h (fD n) xs).map .lst
  | .scr _=>none
  | .shn _=>none
  | .dct _ _=>none
  | .dci _ _=>none
  | .dcz _ _ _=>none
  | .obj _ _ _ _=>none|.dcn _ _ _=>none
def a1m:Nat:=40
def b6d:FV->Option Bool
 | .non=>some false
 | .bl b=>some b
 | .int i=>some (i != 0)
 | .str _=>none
 | .tup xs=>some (!xs.isEmpty)
 | .lst xs=>some (!xs.isEmpty)
 | .scr xs=>some (!xs.isEmpty)
 | .shn _=>none
 | .dct _ _=>none
 | .dci _ _=>none
 | .dcz _ _ _=>none
 | .obj _ _ _ _=>none|.dcn _ _ _=>none
def a3j:FV->Option Int|.int i=>some i|_=>none
def blF:FV->Option Bool|.bl b=>some b|_=>none
def a5l:FV->Option (List FV)|.tup xs=>some xs|_=>none
def a6s:FV->Option (List FV)|.lst xs=>some xs|_=>none
def a2f (i:Int):Bool:=decide (-(2 ^ 64)<i/\i<2 ^ 64)
def a2g (i:Int):Bool:=decide (-(2 ^ 62)<=i/\i<2 ^ 62)
def a7w (i:Int):Bool:=decide (-(2 ^ 40)<=i/\i<=2 ^ 40)
def eqD (a b:FV):Option Bool:=(fD a1m a).bind λx=>(fD a1m b).bind λy=>some (D.eqv x y)
def eqF (a b:FV):Option Bool:=match a,b with
 | .shn x,.shn y=>open Classical in if x=y then some true else none
 | a,b=>eqD a b
def inD:D->D->Option Bool
 | x,.lst xs=>some (xs.any λy=>D.eqv y x)
 | x,.tup xs=>some (xs.any λy=>D.eqv y x)
 | _,_=>none
def inF (a b:FV):Option Bool:=(fD a1m a).bind λx=>(fD a1m b).bind λy=>inD x y
def a0w:List FV->Option (List Int)
 | []=>some []
 | .int i :: r=>(a0w r).map (i :: ·)
 | _=>none
def a4p:List FV->Option (List Bool)
 | []=>some []
 | .bl b :: r=>(a4p r).map (b :: ·)
 | _=>none
def c9p:List FV->Option (List (List Int))
 | []=>some []
 | .tup xs :: r=>(a0w xs).bind λt=>(c9p r).map (t :: ·)
 | _=>none
def lexLt:List Int->List Int->Bool
 | [],[]=>false
 | [],_ :: _=>true
 | _ :: _,[]=>false
 | a :: r,b :: q=>if a=b then lexLt r q else decide (a<b)
def d2d:List Int->List Int->Bool
 | [],[]=>true
 | [],_ :: _=>true
 | _ :: _,[]=>false
 | a :: r,b :: q=>if a=b then d2d r q else decide (a<=b)
def a2y (f:Int->Int->Option FV)(v w:FV):Option FV:=(a3j v).bind λi=>(a3j w).bind λj=>f i j
def a4s (v w:FV):Option FV:=match v with
 | .tup xs=>(a5l w).bind λys=>if xs.length+ys.length<=big then some (.tup (xs++ys)) else none
 | .lst xs=>(a6s w).bind λys=>if xs.length+ys.length<=big then some (.lst (xs++ys)) else none
 | v=>a2y (λi j=>some (.int (i+j))) v w
def c9x:FV->FV->Option FV:=a2y λi j=>some (.int (i-j))
def b2d (v w:FV):Option FV:=match v with
 | .lst xs=>(a3j w).bind λk=>if -(2 ^ 63)<=k/\k<2 ^ 63/\xs.length*k.toNat<=big then some (.lst (Γj k.toNat xs).flatten) else none
 | v=>a2y (λi j=>if (a2f i || a2f j)=true then some (.int (i*j)) else none) v w
def b9h:FV->FV->Option FV:=a2y λi j=>if 0<j/\j<1073741824 then some (.int (i / j)) else none
def c1c:FV->FV->Option FV:=a2y λi j=>if 0<j then some (.int (i % j)) else none
def c2h:FV->FV->Option FV:=a2y λi j=>if 0<=j/\j<=1000/\a2f i=true then some (.int (i ^ j.toNat)) else none
def eqB (a b:FV):Option FV:=(eqF a b).map .bl
def neB (a b:FV):Option FV:=(eqF a b).map λr=>.bl (!r)
def inB (a b:FV):Option FV:=(inF a b).map .bl
def niB (a b:FV):Option FV:=(inF a b).map λr=>.bl (!r)
def ltB (v w:FV):Option FV:=match v with
 | .tup xs=>(a5l w).bind λys=>(a0w xs).bind λa=>(a0w ys).bind λb=>some (.bl (lexLt a b))
 | v=>a2y (λi j=>some (.bl (decide (i<j)))) v w
def leB (v w:FV):Option FV:=match v with
 | .tup xs=>(a5l w).bind λys=>(a0w xs).bind λa=>(a0w ys).bind λb=>some (.bl (d2d a b))
 | v=>a2y (λi j=>some (.bl (decide (i<=j)))) v w
def gtB:FV->FV->Option FV:=a2y λi j=>some (.bl (decide (j<i)))
def geB:FV->FV->Option FV:=a2y λi j=>some (.bl (decide (j<=i)))
def ixN (n:Nat) (i:Int):Option Nat:=if 0<=i then (if i<n then some i.toNat else none) else if -(n:Int)<=i then some (i+n).toNat else none
def atF (xs:List FV) (i:Int):Option FV:=(ixN xs.length i).bind λj=>xs[j]?
def ixF (v w:FV):Option FV:=(a3j w).bind λj=>(a4f v).bind λxs=>atF xs j
def b7z:FV->FV->Option FV:=a2y λi j=>some (.int (if j<i then j else i))
def c2u:FV->FV->Option FV:=a2y λi j=>some (.int (if j > i then j else i))
def a2s:FV->Option FV|.non=>some (.bl true)|_=>some (.bl false)
def a1b:FV->Option FV|.non=>some (.bl false)|_=>some (.bl true)
def b8t (c:Bool):FV->Option FV|.bl b=>some (.bl (b == c))|_=>some (.bl false)
def a5e (c:Bool):FV->Option FV|.bl b=>some (.bl (b != c))|_=>some (.bl true)
def d8j (v:FV):Option FV:=(blF v).map λb=>.bl (!b)
def negF (v:FV):Option FV:=(a3j v).map λi=>.int (-i)
def turnF (v:FV):Option FV:=(a5l v).map λxs=>.tup xs.reverse
def a9m (v:FV):Option FV:=(a4f v).map λxs=>.int xs.length
def d4c (v:FV):Option FV:=(a3j v).map λi=>.int (if i<0 then -i else i)
def a9r:FV->Option FV|.int i=>some (.int i)|.bl b=>some (.int (if b then 1 else 0))|_=>none
def c5q (xs:List FV):Option Int:=(a0w xs).bind λns=>if ns.length<=big/\ns.all a7w=true then some ns.sum else none
def c5r (v:FV):Option FV:=(a1t v).bind λxs=>(c5q xs).map .int
def c4g (v:FV):Option FV:=(a1t v).bind λxs=>(a4p xs).map λbs=>.bl (bs.all id)
def d5s (v:FV):Option FV:=(a1t v).bind λxs=>(a4p xs).map λbs=>.bl (bs.any id)
def a1o (b:Int):List Int->Int
 | []=>b
 | x :: r=>a1o (if x<b then x else b) r
def c4y (b:List Int):List (List Int)->List Int
 | []=>b
 | x :: r=>c4y (if lexLt x b=true then x else b) r
def d4q (xs:List FV):Option FV:=(a0w xs).bind λns=>match ns with
 | n :: r=>some (.int (a1o n r))
 | []=>none
def minT (xs:List FV):Option FV:=(c9p xs).bind λns=>match ns with
 | n :: r=>some (.tup ((c4y n r).map .int))
 | []=>none
def b4x (v:FV):Option FV:=(a1t v).bind d4q
def minTF (v:FV):Option FV:=(a1t v).bind minT
def a3f (v:FV):Option FV:=(a4f v).map .tup
def a4c (v:FV):Option FV:=(a4f v).map .lst
def shnF (v:FV):Option FV:=(fD a1m v).bind λd=>if d.fit=true/\d.wt<=big then some (.shn d) else none
def strF (v:FV):Option FV:=match v with
 | .non=>some (.str "None")
 | .bl b=>some (.str (if b then "True" else "False"))
 | .str x=>some (.str x)
 | .int i=>if -(2 ^ 150)<i/\i<2 ^ 150 then some (.str (toString i)) else none
 | .tup xs=>shnF (.tup xs)
 | .lst xs=>shnF (.lst xs)
 | .scr _=>none|.shn _=>none|.dct _ _=>none|.dci _ _=>none|.dcz _ _ _=>none|.obj _ _ _ _=>none|.dcn _ _ _=>none
inductive Ty where|int|bool|str|list|tuple
 deriving DecidableEq
def b0q:FV->Ty->Option Bool
 | .non,_=>some false
 | .bl _,t=>some (t == .int || t == .bool)
 | .int _,t=>some (t == .int)
 | .str _,t=>some (t == .str)
 | .tup _,t=>some (t == .tuple)
 | .lst _,t=>some (t == .list)
 | .scr _,_=>none
 | .shn _,t=>some (t == .str)
 | .dct _ _,_=>none
 | .dci _ _,_=>none
 | .dcz _ _ _,_=>none
 | .obj _ _ _ _,_=>none
 | .dcn _ _ _,_=>none
def c7u (t:Ty)(v:FV):Option FV:=(b0q v t).map .bl
def isi2F (t u:Ty)(v:FV):Option FV:=(b0q v t).bind λa=>(b0q v u).map λb=>.bl (a || b)
def sIx (n d:Nat):Option Int->Nat
 | none=>d
 | some v=>if v<0 then (v+n).toNat else min v.toNat n
def a5f {α:Type}(xs:List α)(lo hi:Option Int):List α:=(xs.drop (sIx xs.length 0 lo)).take (sIx xs.length xs.length hi-sIx xs.length 0 lo)
def a6z (v:FV)(lo hi:Option Int):Option FV:=match v with
 | .tup xs=>some (.tup (a5f xs lo hi))
 | .lst xs=>some (.lst (a5f xs lo hi))
 | _=>none
abbrev EW:=a0c->(FV->a0c->Prop)->Prop
abbrev BW:=a0c->(Bool->a0c->Prop)->Prop
abbrev AW:=a0c->(List FV->a0c->Prop)->Prop
abbrev OW:=a0c->(Option Int->a0c->Prop)->Prop
def a0b (i:Nat):EW:=λL Q=>wp (lk L i) λx=>Q x L
def eC (v:FV):EW:=λL Q=>Q v L
def eUn (f:FV->Option FV)(a:EW):EW:=λL Q=>a L λx L1=>wp (f x) λz=>Q z L1
def eOp (f:FV->FV->Option FV)(a b:EW):EW:=λL Q=>a L λx L1=>b L1 λy L2=>wp (f x y) λz=>Q z L2
def a9n (f:FV->FV->Option FV) (i:Nat)(b:EW):EW:=λL Q=>wp (lk L i) λ_=>b L λy L1=>wp (lk L1 i) λx=>wp (f x y) λz=>Q z L1
def b0w (f g:FV->FV->Option FV)(a b c:EW):EW:=λL Q=>a L λx L1=>b L1 λy L2=>wp (f x y) λr=>wp (blF r) λr=>if r=true then c L2 λz L3=>wp (g y z) λq=>Q q L3 else Q (.bl false) L2
def c1d (a b:EW):EW:=λL Q=>a L λx L1=>wp (b6d x) λr=>if r=true then b L1 Q else Q x L1
def eOr (a b:EW):EW:=λL Q=>a L λx L1=>wp (b6d x) λr=>if r=true then Q x L1 else b L1 Q
def eIf (c:BW)(a b:EW):EW:=λL Q=>c L λr L1=>if r=true then a L1 Q else b L1 Q
def a1f (a:EW):BW:=λL Q=>a L λx L1=>wp (b6d x) λb=>Q b L1
def b5p (a b:BW):BW:=λL Q=>a L λr L1=>if r=true then b L1 Q else Q false L1
def bOr (a b:BW):BW:=λL Q=>a L λr L1=>if r=true then Q true L1 else b L1 Q
def b2y (a:BW):BW:=λL Q=>a L λr L1=>Q (!r) L1
def a1i:BW:=λL Q=>Q true L
def a0i:AW:=λL Q=>Q [] L
def a0a (a:EW)(r:AW):AW:=λL Q=>a L λx L1=>r L1 λxs L2=>Q (x :: xs) L2
def a3k (a:AW):EW:=λL Q=>a L λxs L1=>xs.length<=big/\Q (.tup xs) L1
def a9b (a:AW):EW:=λL Q=>a L λxs L1=>xs.length<=big/\Q (.lst xs) L1
def b4w:OW:=λL Q=>Q none L
def b0f (a:EW):OW:=λL Q=>a L λx L1=>wp (a3j x) λi=>Q (some i) L1
def eSl (a:EW)(l h:OW):EW:=λL Q=>a L λx L1=>l L1 λi L2=>h L2 λj L3=>wp (a6z x i j) λz=>Q z L3
def eSlN (k:Nat)(l h:OW):EW:=λL Q=>wp (lk L k) λ_=>l L λi L2=>h L2 λj L3=>wp (lk L3 k) λx=>wp (a6z x i j) λz=>Q z L3
abbrev CW:=Nat->List FV->(FV×FV->Prop)->Prop
def a1a (call:CW) (f:Nat)(a:AW):EW:=λL Q=>a L λxs L1=>call f xs λz=>Q z.1 L1
def a0q (call:CW) (f i:Nat)(a:AW):EW:=λL Q=>wp (lk L i) λ_=>a L λxs L1=>wp (lk L1 i) λx=>call f (x :: xs) λz=>Q z.1 (L1.set i (some z.2))
def c5i (v y:FV):Option FV:=(a6s v).bind λxs=>if xs.length<big then some (.lst (xs++[y])) else none
def nscF:FV->Option (List FV)|.tup xs=>some xs|.lst xs=>some xs|_=>none
def e1i (v y:FV):Option FV:=(a6s v).bind λxs=>(nscF y).bind λys=>if xs.length+ys.length<=big then some (.lst (xs++ys)) else none
def a6w (f:FV->FV->Option FV) (i:Nat)(a:EW):EW:=λL Q=>wp (lk L i) λv=>wp (a6s v) λ_=>a L λy L1=>wp (lk L1 i) λx=>wp (f x y) λz=>Q .non (L1.set i (some z))
def upF (lo:Int):Nat->List FV
 | 0=>[]
 | n+1=>.int lo :: upF (lo+1) n
def a2l (xs ys:List FV):List FV:=xs.zipWith (λp q=>.tup [p,q]) ys
def a3g (a:EW):AW:=λL Q=>a L λx L1=>wp (a4f x) λxs=>Q xs L1
def b5r (a:EW):AW:=λL Q=>a L λx L1=>wp (a3j x) λj=>a2g j=true/\Q (upF 0 j.toNat) L1
def iRng2 (a b:EW):AW:=λL Q=>a L λx L1=>b L1 λy L2=>wp (a3j x) λi=>wp (a3j y) λj=>(a2g i && a2g j)=true/\Q (upF i (j-i).toNat) L2
def d8t (a b:EW):AW:=λL Q=>a L λx L1=>b L1 λy L2=>wp (a4f x) λxs=>wp (a4f y) λys=>Q (a2l xs ys) L2
def a8v (a:EW):AW:=λL Q=>a L λx L1=>wp (a4f x) λxs=>Q (a2l (upF 0 xs.length) xs) L1
inductive Tg where|nm (i:Nat)|tp (is:List Nat)|tn (i:Nat)(is:List Nat)
def d7z:List FV->Option (FV×FV)|[a,b]=>some (a,b)|_=>none
def a8a:a0c->List Nat->List FV->Option a0c
 | L,[],[]=>some L
 | L,i :: is,v :: vs=>a8a (L.set i (some v)) is vs
 | _,_,_=>none
def gW (tg:Tg)(v:FV)(L:a0c)(Q:a0c->Prop):Prop:=match tg with
 | .nm i=>Q (L.set i (some v))
 | .tp is=>wp (a5l v) λxs=>wp (a8a L is xs) Q
 | .tn i is=>wp (a5l v) λxs=>wp (d7z xs) λp=>wp (a5l p.2) λys=>wp (a8a (L.set i (some p.1)) is ys) Q
def a3i (n m:Nat)(tg:Tg)(t:BW)(e:EW):List FV->List FV->a0c->(List FV->a0c->Prop)->Prop
 | [],acc,L,Q=>Q acc L
 | x :: xs,acc,L,Q=>gW tg x (L++Γj m none) λL1=>t L1 λb L2=>if b=true then e L2 λv L3=>a3i n m tg t e xs (acc++[v]) (L3.take n) Q else a3i n m tg t e xs acc (L2.take n) Q
def a1h (n m:Nat)(it:AW)(tg:Tg)(t:BW)(e:EW):EW:=λL Q=>it L λxs L1=>L1.length=n/\xs.length<=big/\a3i n m tg t e xs [] L1 λys L2=>Q (.lst ys) L2
inductive FFl where|next|ret (v:FV)|brk|cont
abbrev SW:=a0c->(FFl->a0c->Prop)->Prop
def aft (k:a0c->Prop)(Q:FFl->a0c->Prop):FFl->a0c->Prop
 | .next,L=>k L
 | .ret v,L=>Q (.ret v) L
 | .brk,L=>Q .brk L
 | .cont,L=>Q .cont L
def a4b:SW:=λL Q=>Q .next L
def a0p (s r:SW):SW:=λL Q=>s L (aft (λL1=>r L1 Q) Q)
def a1n (e:EW)(tg:Tg):SW:=λL Q=>e L λx L1=>gW tg x L1 λL2=>Q .next L2
def d6k (v j x:FV):Option FV:=(a6s v).bind λxs=>(a3j j).bind λn=>(ixN xs.length n).map λp=>.lst (xs.set p x)
def c9i (k:Nat)(i e:EW):SW:=λL Q=>wp (lk L k) λ_=>e L λx L1=>i L1 λj L2=>wp (lk L2 k) λy=>wp (d6k y j x) λz=>Q .next (L2.set k (some z))
def d4k (f:FV->FV->Option FV) (i:Nat)(e:EW):SW:=λL Q=>wp (lk L i) λa=>e L λx L1=>wp (f a x) λz=>Q .next (L1.set i (some z))
def a1s (e:EW):SW:=λL Q=>e L λx L1=>Q (.ret x) L1
def sRetN:SW:=λL Q=>Q (.ret .non) L
def c1x (e:EW):SW:=λL Q=>e L λ_ L1=>Q .next L1
def sIf (c:BW)(a b:SW):SW:=λL Q=>c L λr L1=>if r=true then a L1 Q else b L1 Q
def sBrk:SW:=λL Q=>Q .brk L
def sCont:SW:=λL Q=>Q .cont L
def a9p (k:a0c->Prop)(Q:FFl->a0c->Prop):FFl->a0c->Prop
 | .next,L=>k L
 | .cont,L=>k L
 | .brk,L=>Q .next L
 | .ret v,L=>Q (.ret v) L
def c8e (tg:Tg)(b:SW):List FV->a0c->(FFl->a0c->Prop)->Prop
 | [],L,Q=>Q .next L
 | x :: xs,L,Q=>gW tg x L λL1=>b L1 (a9p (λL2=>c8e tg b xs L2 Q) Q)
def a7a (it:AW)(tg:Tg)(b:SW):SW:=λL Q=>it L λxs L1=>c8e tg b xs L1 Q
def c9g (c:BW)(b:SW):Nat->a0c->(FFl->a0c->Prop)->Prop
 | 0,_,_=>False
 | n+1,L,Q=>c L λr L1=>if r=true then b L1 (a9p (λL2=>c9g c b n L2 Q) Q) else Q .next L1
def c9h (c:BW)(b:SW):SW:=λL Q=>∃ n,c9g c b n L Q
structure FD where
 np:Nat
 ns:Nat
 body:CW->SW
 io:Bool
 fr:Bool
def b9m (io fr:Bool)(Q:FV×FV->Prop):FFl->a0c->Prop
 | .ret v,L=>match io with
  | true=>wp (lk L 0) λx=>Q (v,x)
  | false=>Q (v,.non)
 | .next,L=>match fr with
  | true=>False
  | false=>match io with
   | true=>wp (lk L 0) λx=>Q (.non,x)
   | false=>Q (.non,.non)
 | _,_=>False
def callW (tb:List FD):Nat->CW
 | 0,_,_,_=>False
 | d+1,f,args,Q=>match tb[f]? with
  | none=>False
  | some fd=>args.length=fd.np/\fd.body (callW tb d) (args.map some++Γj (fd.ns-fd.np) none) (b9m fd.io fd.fr Q)
end Kq
end
section
namespace Kq
open PySem PySem.Spec PyProof.Rows L2
theorem b0e {x y:String}(h:Γe x=Γe y):x=y:=by
 rw[Str.ofString_eq_toList,Str.ofString_eq_toList] at h
 have h2:x.toList.map Char.toNat=y.toList.map Char.toNat:=by
  injection h with h
  simpa using congrArg Array.toList h
 have inj:∀ (a b:List Char),a.map Char.toNat=b.map Char.toNat->a=b:=by
  intro a
  induction a with
  | nil=>intro b hb;cases b<;>simp_all
  | cons c a ih =>
   intro b hb
   cases b with
   | nil=>simp at hb
   | cons d b =>
    simp only[List.map_cons,List.cons.injEq] at hb
    rw[ih b hb.2,Char.toNat_inj.mp hb.1]
 exact String.toList_inj.mp (inj _ _ h2)
theorem c9y (a b:String):(Γe a == Γe b)=(a == b):=by
 rw[Bool.eq_iff_iff]
 simp only[beq_iff_eq]
 exact⟨b0e,λh=>by rw[h]⟩
theorem a3m (x:String):PyData.strOk (Γe x)=true:=by
 rw[Str.ofString_eq_toList]
 unfold PyData.strOk
 simp only[List.all_toArray,List.all_map,List.all_eq_true,Function.comp_apply,decide_eq_true_eq]
 intro c _
 have h:c.val.toNat<0xd800 ∨ (0xdfff<c.val.toNat/\c.val.toNat<0x110000):=c.valid
 show c.val.toNat<1114112
 lia
mutual
theorem a6k:∀ d:D,(dPy d).canLay0=true
 | .non=>rfl
 | .bl _=>rfl
 | .int _=>rfl
 | .str x=>by simp only[dPy,PyData.canLay0];exact a3m x
 | .tup xs=>by simp only[dPy,PyData.canLay0];exact d_lays xs
 | .lst xs=>by simp only[dPy,PyData.canLay0];exact d_lays xs
theorem d_lays:∀ xs:List D,PyData.canLayAll0 (dPys xs)=true
 | []=>rfl
 | x :: xs=>by simp only[dPys,PyData.canLayAll0,a6k x,d_lays xs,Bool.and_self]
end
mutual
theorem c0a:∀ a b:D,PyData.eqv (dPy a) (dPy b)=D.eqv a b
 | .non,b=>by cases b<;>simp only[dPy,PyData.eqv,D.eqv]
 | .bl _,b=>by cases b<;>simp only[dPy,PyData.eqv,D.eqv]
 | .int _,b=>by cases b<;>simp only[dPy,PyData.eqv,D.eqv]
 | .str x,b=>by cases b<;>simp only[dPy,PyData.eqv,D.eqv,c9y]
 | .tup xs,b=>by cases b<;>simp only[dPy,PyData.eqv,D.eqv,d_eqvs]
 | .lst xs,b=>by cases b<;>simp only[dPy,PyData.eqv,D.eqv,d_eqvs]
theorem d_eqvs:∀ a b:List D,PyData.eqvAll (dPys a) (dPys b)=D.eqvs a b
 | [],b=>by cases b<;>simp only[dPys,PyData.eqvAll,D.eqvs]
 | x :: xs,b=>by cases b<;>simp only[dPys,PyData.eqvAll,D.eqvs,c0a,d_eqvs]
end
theorem c0b (x:D):∀ xs:List D,((dPys xs).any λy=>PyData.eqv y (dPy x))=xs.any λy=>D.eqv y x
 | []=>rfl
 | y :: r=>by simp only[dPys,List.any_cons,c0a,c0b x r]
mutual
theorem c3z:∀ d:D,(dPy d).hasDict=false
 | .non=>rfl
 | .bl _=>rfl
 | .int _=>rfl
 | .str x=>rfl
 | .tup xs=>by simp only[dPy,PyData.hasDict];exact d_nodicts xs
 | .lst xs=>by simp only[dPy,PyData.hasDict];exact d_nodicts xs
theorem d_nodicts:∀ xs:List D,PyData.hasDictAll (dPys xs)=false
 | []=>rfl
 | x :: xs=>by simp only[dPys,PyData.hasDictAll,c3z x,d_nodicts xs,Bool.or_self]
end
theorem log2_lt {i:Int}{k:Nat}(hk:0<k)(h:-(2 ^ k:Int)<i/\i<2 ^ k):i.natAbs.log2<k:=by
 by_cases h0:i.natAbs=0
 ·rw[h0];simpa using hk
 ·rw[Nat.log2_lt h0]
  have e:((2 ^ k:Nat):Int)=(2:Int) ^ k:=by rw[Int.natCast_pow];rfl
  lia
mutual
theorem e1x:∀ d:D,d.fit=true->(dPy d).showable=true/\(dPy d).intsShort 160=true/\(dPy d).weight<=d.wt
 | .non,_=>⟨rfl,rfl,Γi _⟩
 | .bl _,_=>⟨rfl,rfl,Γi _⟩
 | .int i,h=>by
  have h:-(2 ^ 150:Int)<i/\i<2 ^ 150:=by simpa[D.fit] using h
  have l1:=log2_lt (k:=150) (by decide) h
  refine⟨?_,?_,?_⟩
  ·simp only[dPy,PyData.showable,decide_eq_true_eq];lia
  ·simp only[dPy,PyData.intsShort,decide_eq_true_eq]
   have e:=int_text_length_le (k:=150) (by decide) l1
   show (Γe (toString i)).length<=160
   rw[PySem.ofString_length];lia
  ·simp only[dPy,PyData.weight,D.wt]
   split
   ·lia
   ·split
    ·rename_i hs
     have l2:=log2_lt (k:=40) (by decide) hs
     lia
    ·lia
 | .str x,_=>by
  refine⟨rfl,rfl,?_⟩
  simp only[dPy,PyData.weight,D.wt]
  have:(Γe x).length=x.length:=PySem.ofString_length x
  exact Nat.le_of_eq this
 | .tup xs,h=>by
  obtain⟨h1,h2,h3⟩:=d_fits xs (by simpa only[D.fit] using h)
  exact⟨by simpa only[dPy,PyData.showable] using h1,by simpa only[dPy,PyData.intsShort] using h2,by simpa only[dPy,PyData.weight,D.wt] using h3⟩
 | .lst xs,h=>by
  obtain⟨h1,h2,h3⟩:=d_fits xs (by simpa only[D.fit] using h)
  exact⟨by simpa only[dPy,PyData.showable] using h1,by simpa only[dPy,PyData.intsShort] using h2,by simpa only[dPy,PyData.weight,D.wt] using h3⟩
theorem d_fits:∀ xs:List D,D.fits xs=true->PyData.showableAll (dPys xs)=true/\PyData.intsShortAll 160 (dPys xs)=true/\PyData.weightAll (dPys xs)<=D.wts xs
 | [],_=>⟨rfl,rfl,Γi _⟩
 | x :: xs,h=>by
  have h:x.fit=true/\D.fits xs=true:=by simpa only[D.fits,Bool.and_eq_true] using h
  obtain⟨a1,a2,a3⟩:=e1x x h.1
  obtain⟨b1,b2,b3⟩:=d_fits xs h.2
  refine⟨?_,?_,?_⟩
  ·simp only[dPys,PyData.showableAll,a1,b1,Bool.and_self]
  ·simp only[dPys,PyData.intsShortAll,a2,b2,Bool.and_self]
  ·simp only[dPys,PyData.weightAll,D.wts];lia
end
theorem bnd {α β:Type}{o:Option α}{f:α->Option β}{z:β}(h:o.bind f=some z):∃ a,o=some a/\f a=some z:=Option.bind_eq_some_iff.mp h
theorem mpd {α β:Type}{o:Option α}{f:α->β}{z:β}(h:o.map f=some z):∃ a,o=some a/\f a=z:=Option.map_eq_some_iff.mp h
theorem itd {α:Type}{c:Prop} [Decidable c] {a b:α}(h:(if c then some a else none)=some b):c/\a=b:=by
 by_cases z:c
 ·rw[if_pos z] at h;exact⟨z,Option.some.inj h⟩
 ·rw[if_neg z] at h;cases h
theorem a8x:∀ {n:Nat}{p:FV}{d:D},fD n p=some d->(dPy d).depth<=n
 | 0,p,d,h=>by cases h
 | n+1,p,d,h=>by
  have ds:∀ {ps:List FV}{ds:List D},a7h (fD n) ps=some ds->PyData.depthAll (dPys ds)<=n:=by
   intro ps
   induction ps with
   | nil=>intro ds h;cases h;simp[dPys,PyData.depthAll]
   | cons q ps ih =>
    intro ds h
    obtain⟨y,e1,h⟩:=bnd h
    obtain⟨zs,e2,rfl⟩:=mpd h
    simp only[dPys,PyData.depthAll]
    exact Nat.max_le.mpr ⟨a8x e1,ih e2⟩
  cases p with
  | tup ps=>obtain⟨zs,e,rfl⟩:=mpd (show (a7h (fD n) ps).map D.tup=some d from h);simp only[dPy,PyData.depth];have:=ds e;lia
  | lst ps=>obtain⟨zs,e,rfl⟩:=mpd (show (a7h (fD n) ps).map D.lst=some d from h);simp only[dPy,PyData.depth];have:=ds e;lia
  | non=>cases h;simp[dPy,PyData.depth]
  | bl _=>cases h;simp[dPy,PyData.depth]
  | int _=>cases h;simp[dPy,PyData.depth]
  | str _=>cases h;simp[dPy,PyData.depth]
  | scr _=>cases h
  | shn _=>cases h
  | dct _ _=>cases h
  | dci _ _=>cases h
  | dcz _ _ _=>cases h
  | obj _ _ _ _=>cases h
  | dcn _ _ _=>cases h
section
variable {X:Cx}{pins:List (Addr×Obj)}{σ:L2.St}{S H:Hp}{s:Shared}
def e3h (X:Cx)(S:Hp)(s:Shared) (n:Nat):Prop:=∀ (p:FV)(v:V)(u:Value)(d:D),RV X.K S p v->RelV v u->fD n p=some d->∃ as,Reads s.heap u (dPy d) as
theorem a5t {n:Nat}(R:e3h X S s n):∀ {ps:List FV}{vs:List V}{us:List Value}{ds:List D},RVs X.K S ps vs->Vals vs us->a7h (fD n) ps=some ds->∃ as,ReadsAll s.heap us (dPys ds) as
 | [],vs,us,ds,r,q,h=>by
  cases (show vs=[] from r)
  cases q
  cases h
  exact⟨[],.nil⟩
 | p :: ps,vs,us,ds,r,rq,h=>by
  obtain⟨v1,vr,rfl,r1,r2⟩:=r
  cases rq with
  | cons q1 q2 =>
   obtain⟨y,e1,h⟩:=bnd h
   obtain⟨zs,e2,rfl⟩:=mpd h
   obtain⟨as,ra⟩:=R _ _ _ _ r1 q1 e1
   obtain⟨bs,rb⟩:=a5t R r2 q2 e2
   exact⟨as++bs,.cons ra rb⟩
theorem a9y {n:Nat}(I:Inv X pins σ H s)(R:e3h X S s n){a:Addr}{xs:List V}{ps:List FV}{d:D}(h1:H a=some (.lst xs))(h2:RVs X.K S ps xs)(h:(a7h (fD n) ps).map D.lst=some d):∃ as,Reads s.heap (.ref a) (dPy d) as:=by
 obtain⟨zs,e,rfl⟩:=mpd h
 obtain⟨its,rr,⟨o,k,e1,e2,e2',e3⟩,_⟩:=I.list (SqL.of h1)
 obtain⟨as,ra⟩:=a5t R h2 rr e
 exact⟨a :: as,.list e1 e2 e3 (by simpa using ra)⟩
theorem a8c (I:Inv X pins σ H s)(hs:Same S H):∀ n,e3h X S s n
 | 0,p,v,u,d,_,_,h=>by cases h
 | n+1,p,v,u,d,rp,rv,h=>by
  have R:=a8c I hs n
  cases p with
  | tup ps =>
   obtain⟨a,xs,rfl,h1,h2⟩:=rp
   cases (show u=Value.ref a from rv)
   obtain⟨zs,e,rfl⟩:=mpd (show (a7h (fD n) ps).map D.tup=some d from h)
   obtain⟨its,rr,⟨o,e1,e2,k,e3⟩,_⟩:=I.tuple (SqT.of (hs _ _ h1))
   obtain⟨as,ra⟩:=a5t R h2 rr e
   exact⟨as,.tuple e1 e2 e3 (by simpa using ra)⟩
  | lst ps =>
   obtain⟨a,xs,rfl,h1,h2⟩:=rp
   cases (show u=Value.ref a from rv)
   exact a9y I R (hs _ _ h1) h2 h
  | non=>cases h;cases (show v=_ from rp);cases (show u=_ from rv);exact⟨_,.none⟩
  | bl _=>cases h;cases (show v=_ from rp);cases (show u=_ from rv);exact⟨_,.bool _⟩
  | int _=>cases h;cases (show v=_ from rp);obtain⟨t,rfl⟩:=rv;exact⟨_,.int _ _⟩
  | str _=>cases h;cases (show v=_ from rp);obtain⟨t,rfl⟩:=rv;exact⟨_,.str _ _⟩
  | scr _=>cases h
  | shn _=>cases h
  | dct _ _=>cases h
  | dci _ _=>cases h
  | dcz _ _ _=>cases h
  | obj _ _ _ _=>cases h
  | dcn _ _ _=>cases h
theorem a5n (I:Inv X pins σ H s)(hs:Same S H){n:Nat}{p:FV}{v:V}{u:Value}{d:D}(rp:RH X.K S H p v)(rv:RelV v u)(h:fD n p=some d):∃ as,Reads s.heap u (dPy d) as:=by
 rcases rp with rp|⟨a,rfl,_,ps,xs,e,h1,h2⟩
 ·exact a8c I hs n p v u d rp rv h
 ·cases (show u=Value.ref a from rv)
  cases n with
  | zero=>cases h
  | succ n =>
   cases p with
   | lst qs=>cases e;exact a9y I (a8c I hs n) h1 h2 h
   | dct _ _=>cases h
   | dci _ _=>cases h
   | dcz _ _ _=>cases h
   | obj _ _ _ _=>cases h
   | dcn _ _ _=>cases h
   | _=>cases e
end
theorem a0y:big<=sizeLine:=by decide
theorem a1g {v:FV}{i:Int}(h:a3j v=some i):v=.int i:=by cases v<;>cases h;rfl
theorem d3y {v:FV}{i:Bool}(h:blF v=some i):v=.bl i:=by cases v<;>cases h;rfl
theorem a1u {v:FV}{i:List FV}(h:a5l v=some i):v=.tup i:=by cases v<;>cases h;rfl
theorem a3o {v:FV}{i:List FV}(h:a6s v=some i):v=.lst i:=by cases v<;>cases h;rfl
structure NewOr (K:Γd)(S H:Hp)(Q:VK)(z:FV):Prop where
 old:∀ x,(∀ ps,z≠.lst ps)->RV K S z x->Q x H
 tup:∀ ps xs p,z=.tup ps->RVs K S ps xs->H p=none->Q (.ref p) (upd H p (.tup xs))
 lst:∀ ps xs p,z=.lst ps->RVs K S ps xs->H p=none->Q (.ref p) (upd H p (.lst xs))
section
variable {X:Cx}{K:Γd}{S H:Hp}{Q:VK}
theorem NewOr.bl {b:Bool}(k:NewOr K S H Q (.bl b)):Q (.bl b) H:=k.old _ (λ_ z=>nomatch z) rfl
theorem NewOr.int {b:Int}(k:NewOr K S H Q (.int b)):Q (.int b) H:=k.old _ (λ_ z=>nomatch z) rfl
theorem RH.int {i:Int}{x:V}(h:RH K S H (.int i) x):x=.int i:=h.val rfl
theorem RH.bl {i:Bool}{x:V}(h:RH K S H (.bl i) x):x=.bl i:=h.val rfl
def Rq (K:Γd)(f:FV->FV->Option FV):R2:=λx y H Q=>∃ S v w z,Same S H/\RH K S H v x/\RH K S H w y/\f v w=some z/\NewOr K S H Q z
theorem a6r {g:Value->Value->Sem Value}{f:Int->Int->Option FV}{r:R2}(o:OpR X g r)(h:∀ i j z H Q,f i j=some z->(∀ x,(∀ S,RV X.K S z x)->Q x H)->r (.int i) (.int j) H Q)(n:∀ i j z,f i j=some z->∀ ps,z≠.lst ps):OpR X g (Rq X.K (a2y f)):=by
 intro pins s σ H x y u1 u2 Q I rx ry ⟨S,v,w,z,hs,hv,hw,e,k⟩
 obtain⟨i,e1,e⟩:=bnd e
 obtain⟨j,e2,e⟩:=bnd e
 cases a1g e1;cases a1g e2
 obtain rfl:=hv.int
 obtain rfl:=hw.int
 exact o pins s σ H _ _ u1 u2 Q I rx ry (h i j z H Q e λx hx=>k.old x (n i j z e) (hx S))
theorem d7i:OpR X (binaryOp .Sub) (Rq X.K c9x):=a6r d1i (λi j z H Q e k=>⟨i,j,rfl,rfl,k _ λS=>by cases e;rfl⟩) λi j z e ps=>by cases e;exact λz=>nomatch z
theorem d0n:OpR X (binaryOp .FloorDiv) (Rq X.K b9h):=a6r c7b (λi j z H Q e k=>⟨i,j,rfl,rfl,(itd e).1,k _ λS=>by cases (itd e).2;rfl⟩) λi j z e ps=>by cases (itd e).2;exact λz=>nomatch z
theorem d7m:OpR X (binaryOp .Mod) (Rq X.K c1c):=a6r d1m (λi j z H Q e k=>⟨i,j,rfl,rfl,(itd e).1,k _ λS=>by cases (itd e).2;rfl⟩) λi j z e ps=>by cases (itd e).2;exact λz=>nomatch z
theorem d7k:OpR X (binaryOp .Pow) (Rq X.K c2h):=a6r d1k (λi j z H Q e k=>⟨i,j,rfl,rfl,by
 obtain⟨h1,h2,h3⟩:=(itd e).1
 have:-(2 ^ 64)<i/\i<2 ^ 64:=by simpa[a2f] using h3
 exact⟨h1,by lia,by lia⟩,k _ λS=>by cases (itd e).2;rfl⟩) λi j z e ps=>by cases (itd e).2;exact λz=>nomatch z
theorem q_gt:OpR X (compareOp .Gt) (Rq X.K gtB):=a6r d8g (λi j z H Q e k=>⟨i,j,rfl,rfl,k _ λS=>by cases e;rfl⟩) λi j z e ps=>by cases e;exact λz=>nomatch z
theorem q_ge:OpR X (compareOp .GtE) (Rq X.K geB):=a6r d8h (λi j z H Q e k=>⟨i,j,rfl,rfl,k _ λS=>by cases e;rfl⟩) λi j z e ps=>by cases e;exact λz=>nomatch z
theorem d0q:OpR X (binaryOp .Add) (Rq X.K (a2y λi j=>some (.int (i+j)))):=a6r d1o (λi j z H Q e k=>⟨i,j,rfl,rfl,k _ λS=>by cases e;rfl⟩) λi j z e ps=>by cases e;exact λz=>nomatch z
theorem d0l:OpR X (binaryOp .Mult) (Rq X.K (a2y λi j=>if (a2f i || a2f j)=true then some (.int (i*j)) else none)):=a6r d1l (λi j z H Q e k=>⟨i,j,rfl,rfl,by
 have:=(itd e).1
 simp only[a2f,Bool.or_eq_true,decide_eq_true_eq] at this
 exact this,k _ λS=>by cases (itd e).2;rfl⟩) λi j z e ps=>by cases (itd e).2;exact λz=>nomatch z
theorem c6c:OpR X (compareOp .Lt) (Rq X.K (a2y λi j=>some (.bl (decide (i<j))))):=a6r d8e (λi j z H Q e k=>⟨i,j,rfl,rfl,k _ λS=>by cases e;rfl⟩) λi j z e ps=>by cases e;exact λz=>nomatch z
theorem d7n:OpR X (compareOp .LtE) (Rq X.K (a2y λi j=>some (.bl (decide (i<=j))))):=a6r d8f (λi j z H Q e k=>⟨i,j,rfl,rfl,k _ λS=>by cases e;rfl⟩) λi j z e ps=>by cases e;exact λz=>nomatch z
theorem d0p {xs ys:List FV}{x y:V}{z:FV}{pins:List (Addr×Obj)}{σ:L2.St}{s:Shared}{u1 u2:Value}(I:Inv X pins σ H s)(rx:RelV x u1)(ry:RelV y u2)(hs:Same S H)(hv:RH X.K S H (.tup xs) x)(hw:RH X.K S H (.tup ys) y)
  (e:(if xs.length+ys.length<=big then some (FV.tup (xs++ys)) else none)=some z)(k:NewOr X.K S H Q z):wpAny (model X.prog X.w) X.A (binaryOp .Add u1 u2) (EP X pins σ Q) X.xe s:=by
 obtain⟨hc,rfl⟩:=itd e
 have rv:=hv.val rfl
 have rw':=hw.val rfl
 obtain⟨a,as,rfl,ha,ra⟩:=hv.tup hs
 obtain⟨b,bs,rfl,hb,rb⟩:=hw.tup hs
 have l1:=ra.length
 have l2:=rb.length
 have hl:=a0y
 by_cases h0:as=[]
 ·subst h0
  have z2:xs=[]:=List.eq_nil_of_length_eq_zero (by simpa using l1)
  subst z2
  exact c2p pins s σ H _ _ u1 u2 Q I rx ry ⟨a,b,bs,rfl,rfl,SqT.of ha,SqT.of hb,k.old _ (λ_ z=>nomatch z) rw'⟩
 refine c7c pins s σ H _ _ u1 u2 Q I rx ry ⟨a,b,as,bs,rfl,rfl,SqT.of ha,SqT.of hb,h0,by lia,λz=>?_,λ_ p hp=>k.tup _ _ p rfl (ra.append rb) hp⟩
 subst z
 have z2:ys=[]:=List.eq_nil_of_length_eq_zero (by simpa using l2)
 subst z2
 exact k.old _ (λ_ z=>nomatch z) (by rw[List.append_nil];exact rv)
theorem d7p:OpR X (binaryOp .Add) (Rq X.K a4s):=by
 intro pins s σ H x y u1 u2 Q I rx ry ⟨S,v,w,z,hs,hv,hw,e,k⟩
 cases v with
 | tup xs =>
  obtain⟨ys,e1,e⟩:=bnd e
  cases a1u e1
  exact d0p I rx ry hs hv hw e k
 | lst xs =>
  obtain⟨ys,e1,e⟩:=bnd e
  cases a3o e1
  obtain⟨hc,rfl⟩:=itd e
  obtain⟨a,as,rfl,ha,ra⟩:=hv.lst hs
  obtain⟨b,bs,rfl,hb,rb⟩:=hw.lst hs
  have l1:=ra.length
  have l2:=rb.length
  have hl:=a0y
  exact d1n pins s σ H _ _ u1 u2 Q I rx ry ⟨a,b,as,bs,rfl,rfl,ha,hb,by lia,λp hp=>k.lst _ _ p rfl (ra.append rb) hp⟩
 | _=>exact d0q pins s σ H x y u1 u2 Q I rx ry ⟨S,_,w,z,hs,hv,hw,e,k⟩
theorem d7l:OpR X (binaryOp .Mult) (Rq X.K b2d):=by
 intro pins s σ H x y u1 u2 Q I rx ry ⟨S,v,w,z,hs,hv,hw,e,k⟩
 cases v with
 | lst xs =>
  obtain⟨j,e1,e⟩:=bnd e
  cases a1g e1
  obtain⟨hc,rfl⟩:=itd e
  obtain⟨a,as,rfl,ha,ra⟩:=hv.lst hs
  obtain rfl:=hw.int
  have l1:=ra.length
  have hl:=a0y
  exact d1j pins s σ H _ _ u1 u2 Q I rx ry ⟨a,j,as,rfl,rfl,ha,hc.1,hc.2.1,by rw[<- l1];lia,λp hp=>k.lst _ _ p rfl (ra.rep _) hp⟩
 | _=>exact d0l pins s σ H x y u1 u2 Q I rx ry ⟨S,_,w,z,hs,hv,hw,e,k⟩
theorem a2t:∀ {ps:List FV}{xs:List V}{ns:List Int},RVs K S ps xs->a0w ps=some ns->xs=ns.map V.int
 | [],xs,ns,r,e=>by cases (show xs=[] from r);cases e;rfl
 | p :: ps,xs,ns,r,e=>by
  obtain⟨v,q,rfl,h1,h2⟩:=r
  cases p with
  | int i =>
   obtain⟨ms,z,rfl⟩:=mpd (show (a0w ps).map (i :: ·)=some ns from e)
   rw[a2t h2 z,List.map_cons,show v=.int i from h1]
  | _=>cases e
theorem a5a:∀ {ps:List FV}{xs:List V}{ns:List Bool},RVs K S ps xs->a4p ps=some ns->xs=ns.map V.bl
 | [],xs,ns,r,e=>by cases (show xs=[] from r);cases e;rfl
 | p :: ps,xs,ns,r,e=>by
  obtain⟨v,q,rfl,h1,h2⟩:=r
  cases p with
  | bl i =>
   obtain⟨ms,z,rfl⟩:=mpd (show (a4p ps).map (i :: ·)=some ns from e)
   rw[a5a h2 z,List.map_cons,show v=.bl i from h1]
  | _=>cases e
theorem d2z {p q:FV}{b:Bool}(e:eqF p q=some b):(∃ d,p=.shn d/\q=.shn d/\b=true) ∨ ∃ x y,fD a1m p=some x/\fD a1m q=some y/\b=D.eqv x y:=by
 have gen:eqD p q=some b->∃ x y,fD a1m p=some x/\fD a1m q=some y/\b=D.eqv x y:=λe=>by
  obtain⟨x,e1,e⟩:=bnd e
  obtain⟨y,e2,e⟩:=bnd e
  cases e
  exact⟨x,y,e1,e2,rfl⟩
 unfold eqF at e
 split at e
 ·obtain⟨rfl,rfl⟩:=@itd _ _ (Classical.propDecidable _) _ _ e
  exact .inl ⟨_,rfl,rfl,rfl⟩
 ·exact .inr (gen e)
theorem d0o (hu:X.A.units+64<cLine)(neg:Bool):OpR X (compareOp (if neg then .NotEq else .Eq)) (Rq X.K λp q=>(eqF p q).map λr=>.bl (neg != r)):=by
 intro pins s σ H x y v u Q I rx ry ⟨S,p,q,z,hs,rp,rq,e,k⟩
 obtain⟨b,e',rfl⟩:=mpd (show (eqF p q).map (λr=>FV.bl (neg != r))=some z from e)
 have fin:=k.bl
 rcases d2z e' with⟨d,rfl,rfl,rfl⟩|⟨dx,dy,e1,e2,rfl⟩
 ·obtain rfl:x=.str (dPy d).shown:=rp.val rfl
  obtain rfl:y=.str (dPy d).shown:=rq.val rfl
  cases neg with
  | false=>exact d8i pins s σ H _ _ v u Q I rx ry ⟨rfl,by simpa using fin⟩
  | true=>exact d8d pins s σ H _ _ v u Q I rx ry ⟨rfl,by simpa using fin⟩
 ·obtain⟨as,ra⟩:=a5n I hs rp rx e1
  obtain⟨bs,rb⟩:=a5n I hs rq ry e2
  have hd:X.A.units+min (dPy dx).depth (dPy dy).depth<cLine:=by
   have h1:=a8x e1
   unfold a1m at h1
   lia
  cases neg with
  | false=>exact PySem.SeqAt.compareEq_reads ra rb (a6k dx) (a6k dy) hd ⟨.bl _,H,I,rfl,by rw[c0a];simpa using fin⟩
  | true=>exact PySem.SeqAt.compareNe_reads ra rb (a6k dx) (a6k dy) hd ⟨.bl _,H,I,rfl,by rw[c0a];simpa using fin⟩
theorem q_eq (hu:X.A.units+64<cLine):OpR X (compareOp .Eq) (Rq X.K eqB):=λpins s σ H x y v u Q I rx ry ⟨S,p,q,z,hs,rp,rq,e,k⟩=>d0o hu false pins s σ H x y v u Q I rx ry ⟨S,p,q,z,hs,rp,rq,by
 obtain⟨b,e1,rfl⟩:=mpd e
 show (eqF p q).map _=_
 rw[e1];cases b<;>rfl,k⟩
theorem q_ne (hu:X.A.units+64<cLine):OpR X (compareOp .NotEq) (Rq X.K neB):=λpins s σ H x y v u Q I rx ry ⟨S,p,q,z,hs,rp,rq,e,k⟩=>d0o hu true pins s σ H x y v u Q I rx ry ⟨S,p,q,z,hs,rp,rq,by
 obtain⟨b,e1,rfl⟩:=mpd e
 show (eqF p q).map _=_
 rw[e1];cases b<;>rfl,k⟩
theorem d0m (hu:X.A.units+64<cLine)(neg:Bool):OpR X (compareOp (if neg then .NotIn else .In)) (Rq X.K λp q=>(inF p q).map λr=>.bl (neg != r)):=by
 intro pins s σ H x y v u Q I rx ry ⟨S,p,q,z,hs,rp,rq,e,k⟩
 obtain⟨b,e',rfl⟩:=mpd (show (inF p q).map (λr=>FV.bl (neg != r))=some z from e)
 have fin:=k.bl
 obtain⟨dx,e1,e'⟩:=bnd e'
 obtain⟨dy,e2,e'⟩:=bnd e'
 obtain⟨as,ra⟩:=a5n I hs rp rx e1
 obtain⟨bs,rb⟩:=a5n I hs rq ry e2
 have hd:∀ ys,X.A.units+1+min (PyData.depthAll (dPys ys)) (dPy dx).depth<cLine:=λys=>by
  have h1:=a8x e1
  unfold a1m at h1
  lia
 cases dy with
 | lst ys =>
  cases e'
  simp only[dPy] at rb
  cases neg with
  | false=>exact PySem.SeqAt.in_list_reads rb ra (d_lays ys) (a6k dx) (hd ys) ⟨.bl _,H,I,rfl,by rw[c0b];simpa using fin⟩
  | true=>exact PySem.SeqAt.notIn_list_reads rb ra (d_lays ys) (a6k dx) (hd ys) ⟨.bl _,H,I,rfl,by rw[c0b];simpa using fin⟩
 | tup ys =>
  cases e'
  simp only[dPy] at rb
  cases neg with
  | false=>exact PySem.SeqAt.in_tuple_reads rb ra (d_lays ys) (a6k dx) (hd ys) ⟨.bl _,H,I,rfl,by rw[c0b];simpa using fin⟩
  | true=>exact PySem.SeqAt.notIn_tuple_reads rb ra (d_lays ys) (a6k dx) (hd ys) ⟨.bl _,H,I,rfl,by rw[c0b];simpa using fin⟩
 | _=>cases e'
theorem q_in (hu:X.A.units+64<cLine):OpR X (compareOp .In) (Rq X.K inB):=λpins s σ H x y v u Q I rx ry ⟨S,p,q,z,hs,rp,rq,e,k⟩=>d0m hu false pins s σ H x y v u Q I rx ry ⟨S,p,q,z,hs,rp,rq,by
 obtain⟨b,e1,rfl⟩:=mpd e
 show (inF p q).map _=_
 rw[e1];cases b<;>rfl,k⟩
theorem q_ni (hu:X.A.units+64<cLine):OpR X (compareOp .NotIn) (Rq X.K niB):=λpins s σ H x y v u Q I rx ry ⟨S,p,q,z,hs,rp,rq,e,k⟩=>d0m hu true pins s σ H x y v u Q I rx ry ⟨S,p,q,z,hs,rp,rq,by
 obtain⟨b,e1,rfl⟩:=mpd e
 show (inF p q).map _=_
 rw[e1];cases b<;>rfl,k⟩
theorem c9c {ps:List FV}{xs:List V}{i:Int}{p:FV}(r:RVs K S ps xs)(e:atF ps i=some p):∃ v,L2.atI xs i=some v/\RV K S p v:=by
 obtain⟨j,e1,e2⟩:=bnd e
 obtain⟨v,h1,h2⟩:=r.get e2
 refine⟨v,?_,h2⟩
 show (L2.ixN xs.length i).bind (λj=>xs[j]?)=some v
 rw[<- r.length,show L2.ixN ps.length i=some j from e1]
 exact h1
def Ri (K:Γd):R2:=λx y H Q=>∃ S v w z,Same S H/\RH K S H v x/\RH K S H w y/\ixF v w=some z/\∀ u,RV K S z u->Q u H
theorem q_ix:IxR X (Ri X.K):=by
 intro value slice pins s σ H x y v u Q I rx ry ⟨S,p,q,z,hs,rp,rq,e,k⟩ hsl
 obtain⟨j,e1,e3⟩:=bnd e
 obtain⟨ps,e2,e4⟩:=bnd e3
 cases a1g e1
 obtain rfl:=rq.int
 obtain⟨a,xs,rfl,hq,r⟩:=rp.seq hs e2
 obtain⟨w,h1,h2⟩:=c9c r e4
 cases hb:isL p with
 | true=>rw[hb] at hq;exact b8l value slice pins s σ H _ _ v u Q I rx ry ⟨a,xs,j,w,rfl,rfl,hq,h1,k w h2⟩ hsl
 | false=>rw[hb] at hq;exact d2l value slice pins s σ H _ _ v u Q I rx ry ⟨a,xs,j,w,rfl,rfl,hq,h1,k w h2⟩ hsl
theorem b3g (n d:Nat)(o:Option Int):Kq.sIx n d o=HT.sIx n d o:=by
 cases o with
 | none=>rfl
 | some v=>simp only[Kq.sIx,HT.sIx];try (split<;>split<;>lia)
theorem b2w {ps:List FV}{xs:List V}{lo hi:Option Int}(r:RVs K S ps xs):RVs K S (a5f ps lo hi) (c5d xs lo hi):=by
 unfold a5f c5d
 rw[b3g,b3g,r.length]
 exact (r.drop _).take _
def Rsl (K:Γd):V->Option Int->Option Int->Hp->VK->Prop:=λx lo hi H Q=>∃ S v z,Same S H/\RH K S H v x/\a6z v lo hi=some z/\NewOr K S H Q z
theorem q_sl:SlR X (Rsl X.K):=by
 intro pins s σ H x v vl vu lo hi sl Q I rx hsl pl pu ⟨S,p,z,hs,rp,e,k⟩
 cases p with
 | tup ps =>
  cases e
  have rv:=rp.val rfl
  obtain⟨a,xs,rfl,ha,ra⟩:=rp.tup hs
  by_cases hc:HT.sIx xs.length 0 lo=0/\HT.sIx xs.length xs.length hi=xs.length
  ·refine c1t pins s σ H _ v vl vu lo hi sl Q I rx hsl pl pu ⟨a,xs,rfl,SqT.of ha,hc.1,hc.2,k.old _ (λ_ z=>nomatch z) ?_⟩
   have e:a5f ps lo hi=ps:=by
    unfold a5f
    rw[b3g,b3g,ra.length,hc.1,hc.2,List.drop_zero,Nat.sub_zero,List.take_of_length_le (Nat.le_of_eq ra.length)]
   rw[e];exact rv
  ·exact d0b pins s σ H _ v vl vu lo hi sl Q I rx hsl pl pu ⟨a,xs,rfl,SqT.of ha,hc,λp hp=>k.tup _ _ p rfl (b2w ra) hp⟩
 | lst ps =>
  cases e
  obtain⟨a,xs,rfl,ha,ra⟩:=rp.lst hs
  exact b6p pins s σ H _ v vl vu lo hi sl Q I rx hsl pl pu ⟨a,xs,rfl,SqL.of ha,λp hp=>k.lst _ _ p rfl (b2w ra) hp⟩
 | _=>cases e
end
section
variable {X:Cx}{K:Γd}{S H:Hp}{Q:VK}
def Rc (K:Γd)(f:FV->Option FV):List V->Hp->VK->Prop:=λxs H Q=>∃ S v x z,xs=[x]/\Same S H/\RH K S H v x/\f v=some z/\NewOr K S H Q z
def Rc2 (K:Γd)(f:FV->FV->Option FV):List V->Hp->VK->Prop:=λxs H Q=>∃ S v w x y z,xs=[x,y]/\Same S H/\RH K S H v x/\RH K S H w y/\f v w=some z/\NewOr K S H Q z
theorem d0a {b:Bool}{a:Addr}{xs:List V}(h:SqB b K H a xs):SqL K H a xs ∨ SqT K H a xs:=by cases b;exact .inr h;exact .inl h
theorem e1y:a1j X (.builtin "len") (Rc X.K a9m):=by
 rintro pins s σ H xs us Q I r ⟨S,v,x,z,rfl,hs,rv,e,k⟩
 obtain⟨ps,e1,rfl⟩:=mpd e
 obtain⟨a,ys,rfl,hq,ry⟩:=rv.seq hs e1
 refine b1i pins s σ H _ us Q I r ⟨a,ys,rfl,d0a hq,?_⟩
 rw[<- ry.length]
 exact k.int
theorem e2c:a1j X (.builtin "abs") (Rc X.K d4c):=by
 rintro pins s σ H xs us Q I r ⟨S,v,x,z,rfl,hs,rv,e,k⟩
 obtain⟨i,e1,rfl⟩:=mpd e
 cases a1g e1
 obtain rfl:=rv.int
 exact c4d pins s σ H _ us Q I r ⟨i,rfl,k.int⟩
theorem e1z:a1j X (.type "int") (Rc X.K a9r):=by
 rintro pins s σ H xs us Q I r ⟨S,v,x,z,rfl,hs,rv,e,k⟩
 cases v with
 | int i =>
  cases e
  obtain rfl:=rv.int
  exact b1j pins s σ H _ us Q I r (.inl ⟨i,rfl,k.int⟩)
 | bl b =>
  cases e
  obtain rfl:=rv.bl
  exact b1j pins s σ H _ us Q I r (.inr ⟨b,rfl,k.int⟩)
 | _=>cases e
theorem c8x:a1j X (.type "tuple") (Rc X.K a3f):=by
 rintro pins s σ H xs us Q I r ⟨S,v,x,z,rfl,hs,rv,e,k⟩
 obtain⟨ps,e1,rfl⟩:=mpd e
 obtain⟨a,ys,rfl,hq,ry⟩:=rv.seq hs e1
 cases v with
 | tup qs=>cases e1;exact a3d pins s σ H _ us Q I r ⟨a,ys,rfl,.inr ⟨hq,k.old _ (λ_ z=>nomatch z) (rv.val rfl)⟩⟩
 | lst qs=>exact a3d pins s σ H _ us Q I r ⟨a,ys,rfl,.inl ⟨hq,λl hl=>k.tup _ _ l rfl ry hl⟩⟩
 | scr qs=>exact a3d pins s σ H _ us Q I r ⟨a,ys,rfl,.inl ⟨hq,λl hl=>k.tup _ _ l rfl ry hl⟩⟩
 | _=>cases e1
theorem c5h:a1j X (.type "list") (Rc X.K a4c):=by
 rintro pins s σ H xs us Q I r ⟨S,v,x,z,rfl,hs,rv,e,k⟩
 obtain⟨ps,e1,rfl⟩:=mpd e
 obtain⟨a,ys,rfl,hq,ry⟩:=rv.seq hs e1
 exact b1h pins s σ H _ us Q I r ⟨a,ys,rfl,d0a hq,λl hl=>k.lst _ _ l rfl ry hl⟩
theorem d3t (hc:X.calm=true):a1j X (.builtin "min") (Rc2 X.K b7z):=by
 rintro pins s σ H xs us Q I r ⟨S,v,w,x,y,z,rfl,hs,rv,rw',e,k⟩
 obtain⟨i,e1,e2⟩:=bnd e
 obtain⟨j,e3,e4⟩:=bnd e2
 cases a1g e1;cases a1g e3;cases e4
 obtain rfl:=rv.int
 obtain rfl:=rw'.int
 exact c0p hc pins s σ H _ us Q I r ⟨i,j,rfl,k.int⟩
theorem d3u (hc:X.calm=true):a1j X (.builtin "max") (Rc2 X.K c2u):=by
 rintro pins s σ H xs us Q I r ⟨S,v,w,x,y,z,rfl,hs,rv,rw',e,k⟩
 obtain⟨i,e1,e2⟩:=bnd e
 obtain⟨j,e3,e4⟩:=bnd e2
 cases a1g e1;cases a1g e3;cases e4
 obtain rfl:=rv.int
 obtain rfl:=rw'.int
 exact c0q hc pins s σ H _ us Q I r ⟨i,j,rfl,k.int⟩
theorem Vals.mapInt {ns:List Int}:∀ {us:List Value},Vals (ns.map V.int) us->∀ i:Nat,i<ns.length->∃ t,us[i]?=some (.int (ns.getD i 0) t):=λ{us} r i hi=>by
 obtain⟨u,e,t,rfl⟩:=r.get (i:=i) (x:=.int (ns.getD i 0)) (by simp[hi])
 exact⟨t,e⟩
theorem a2p (ns:List Int):∀ j,j<=ns.length->preSum (λi=>ns.getD i 0) j=(ns.take j).sum
 | 0,_=>by simp[preSum]
 | j+1,h=>by
  have hj:j<ns.length:=h
  show preSum _ j+ns.getD j 0=_
  rw[a2p ns j (by lia),List.take_succ_eq_append_getElem hj,List.sum_append]
  simp[List.getD,hj]
theorem b6k (B:Int)(hB:0<=B):∀ ns:List Int,(∀ n∈ns,-B<=n/\n<=B)->-(B*ns.length)<=ns.sum/\ns.sum<=B*ns.length
 | [],_=>by simp
 | n :: r,h=>by
  have ih:=b6k B hB r λm hm=>h m (Γh _ hm)
  have hn:=h n Γn
  rw[List.sum_cons,List.length_cons]
  have e:B*((r.length+1:Nat):Int)=B*(r.length:Int)+B:=by rw[Int.natCast_add,Int.mul_add];simp
  rw[e]
  lia
theorem b5k (hc:X.calm=true):a1j X (.builtin "sum") (λxs H Q=>∃ (a:Addr)(ns:List Int),xs=[.ref a]/\SqL X.K H a (ns.map V.int)/\ns.length<=big/\(∀ n∈ns,-(2 ^ 40)<=n/\n<=2 ^ 40)/\Q (.int ns.sum) H):=by
 intro pins s σ H xs us Q I r h
 obtain⟨a,ns,rfl,hq,hz,hb,q⟩:=h
 obtain⟨u,rfl,rx⟩:=a3l r
 cases rx
 obtain⟨its,r',pl,hz'⟩:=I.list hq
 have hlen:ns.length=its.length:=by have:=r'.length;simpa using this
 have alt:a<s.heap.objs.size:=by obtain⟨_,e,_⟩:=pl.isList;exact Γl e
 have hh:X.A.in1.handled=none:=I.ok.hd hc
 refine call_sum_walk (wpAny_pyIter_list pl.isList ?_)
 refine⟨s.heap.objs.size,_,_,_,_,_,λi=>ns.getD i 0,rfl,Walks.list hh s.heap.objs.size a (Γo alt) its.toArray,⟨⟨_,Γm _ rfl,rfl,rfl⟩,pl.isList.at λo e=>Γc _ e⟩,?_,?_,?_,?_⟩
 ·intro b hb'
  simp at hb'
  rcases hb' with rfl|rfl
  ·show _<(s.heap.push _).objs.size;rw[Heap.size_push];exact Nat.lt_succ_self _
  ·show _<(s.heap.push _).objs.size;rw[Heap.size_push];exact Nat.lt_succ_of_lt alt
 ·intro i v hv
  have hv:its.toArray[i]?=some v:=hv
  have hi:i<ns.length:=by rw[hlen];simpa using (Array.getElem?_eq_some_iff.mp hv).1
  obtain⟨t,e⟩:=Vals.mapInt r' i hi
  refine⟨t,?_⟩
  have e':its.toArray[i]?=some (.int (ns.getD i 0) t):=by simpa using e
  rw[hv] at e'
  exact Option.some.inj e'
 ·intro j hj
  have hj':j<ns.length:=by rw[hlen];simpa using hj
  have hm:ns.getD j 0∈ns:=by simp[List.getD,hj']
  refine⟨?_,?_⟩
  ·have:=hb _ hm
   show -(2 ^ 63)<=ns.getD j 0/\ns.getD j 0<2 ^ 63
   lia
  ·rw[a2p ns (j+1) hj']
   have b2:=b6k 1099511627776 (by decide) (ns.take (j+1)) λn hn=>by have:=hb n (List.mem_of_mem_take hn);lia
   have l2:(ns.take (j+1)).length<=100000:=by rw[List.length_take];unfold big at hz;lia
   unfold InLong;lia
 ·intro h' tk t' hk
  have e:preSum (λi=>ns.getD i 0) its.toArray.size=ns.sum:=by
   rw[List.size_toArray,<- hlen,a2p ns _ (Γi _),List.take_length]
  rw[e]
  refine⟨.int ns.sum,H,?_,⟨t',rfl⟩,q⟩
  exact I.kept (t':=tk) λb o e=>hk b o (by simp;exact Γo (Γl e)) (Γc _ e)
theorem b3d {prog:Program}{w:World}{A:Around}{its:List Value}{bs:List Bool}(r:Vals (bs.map V.bl) its):TruthOf prog w A (λi v=>its.toArray[i]?=some v) (λi=>bs.getD i false):=by
 intro i v s Q E hv hq
 have hlen:bs.length=its.length:=by have:=r.length;simpa using this
 have hi:i<bs.length:=by rw[hlen];simpa using (Array.getElem?_eq_some_iff.mp hv).1
 obtain⟨u,e,ru⟩:=r.get (i:=i) (x:=.bl (bs.getD i false)) (by simp[hi])
 have e':its.toArray[i]?=some u:=by simpa using e
 rw[hv] at e'
 cases e'
 cases ru
 exact Γb hq
theorem b6u (bs:List Bool):(List.range bs.length).all (λi=>bs.getD i false)=bs.all id:=by
 rw[Bool.eq_iff_iff]
 simp only[List.all_eq_true,List.mem_range,id]
 constructor
 ·intro h b hb
  obtain⟨i,hi,e⟩:=List.mem_iff_getElem.mp hb
  have:=h i hi
  simpa[List.getD,hi,e] using this
 ·intro h i hi
  have:=h bs[i] (List.getElem_mem hi)
  simpa[List.getD,hi] using this
theorem b6t (bs:List Bool):(List.range bs.length).any (λi=>bs.getD i false)=bs.any id:=by
 rw[Bool.eq_iff_iff]
 simp only[List.any_eq_true,List.mem_range,id]
 constructor
 ·rintro⟨i,hi,e⟩
  exact⟨bs[i],List.getElem_mem hi,by simpa[List.getD,hi] using e⟩
 ·rintro⟨b,hb,e⟩
  obtain⟨i,hi,e'⟩:=List.mem_iff_getElem.mp hb
  exact⟨i,hi,by simpa[List.getD,hi,e'] using e⟩
theorem b5o (hc:X.calm=true):a1j X (.builtin "all") (λxs H Q=>∃ (a:Addr)(bs:List Bool),xs=[.ref a]/\SqL X.K H a (bs.map V.bl)/\Q (.bl (bs.all id)) H):=by
 intro pins s σ H xs us Q I r h
 obtain⟨a,bs,rfl,hq,q⟩:=h
 obtain⟨u,rfl,rx⟩:=a3l r
 cases rx
 obtain⟨its,r',pl,hz'⟩:=I.list hq
 have hlen:bs.length=its.length:=by have:=r'.length;simpa using this
 have alt:a<s.heap.objs.size:=by obtain⟨_,e,_⟩:=pl.isList;exact Γl e
 have hh:X.A.in1.handled=none:=I.ok.hd hc
 refine call_all_walk (wpAny_pyIter_list pl.isList ?_)
 refine⟨s.heap.objs.size,_,_,_,_,_,λi=>bs.getD i false,rfl,Walks.list hh s.heap.objs.size a (Γo alt) its.toArray,⟨⟨_,Γm _ rfl,rfl,rfl⟩,pl.isList.at λo e=>Γc _ e⟩,b3d r',?_⟩
 intro h' tk hk
 rw[List.size_toArray,<- hlen,b6u]
 exact⟨.bl _,H,I.kept (t':=tk) λb o e=>hk b o (by simp;exact Γo (Γl e)) (Γc _ e),rfl,q⟩
theorem b5n (hc:X.calm=true):a1j X (.builtin "any") (λxs H Q=>∃ (a:Addr)(bs:List Bool),xs=[.ref a]/\SqL X.K H a (bs.map V.bl)/\Q (.bl (bs.any id)) H):=by
 intro pins s σ H xs us Q I r h
 obtain⟨a,bs,rfl,hq,q⟩:=h
 obtain⟨u,rfl,rx⟩:=a3l r
 cases rx
 obtain⟨its,r',pl,hz'⟩:=I.list hq
 have hlen:bs.length=its.length:=by have:=r'.length;simpa using this
 have alt:a<s.heap.objs.size:=by obtain⟨_,e,_⟩:=pl.isList;exact Γl e
 have hh:X.A.in1.handled=none:=I.ok.hd hc
 refine call_any_walk (wpAny_pyIter_list pl.isList ?_)
 refine⟨s.heap.objs.size,_,_,_,_,_,λi=>bs.getD i false,rfl,Walks.list hh s.heap.objs.size a (Γo alt) its.toArray,⟨⟨_,Γm _ rfl,rfl,rfl⟩,pl.isList.at λo e=>Γc _ e⟩,b3d r',?_⟩
 intro h' tk hk
 rw[List.size_toArray,<- hlen,b6t]
 exact⟨.bl _,H,I.kept (t':=tk) λb o e=>hk b o (by simp;exact Γo (Γl e)) (Γc _ e),rfl,q⟩
theorem c8y (hc:X.calm=true):a1j X (.builtin "sum") (Rc X.K c5r):=by
 rintro pins s σ H xs us Q I r ⟨S,v,x,z,rfl,hs,rv,e,k⟩
 obtain⟨ps,e1,e2⟩:=bnd e
 obtain⟨n,e3,rfl⟩:=mpd e2
 obtain⟨ns,e4,e5⟩:=bnd e3
 obtain⟨hb,rfl⟩:=itd e5
 obtain⟨a,ys,rfl,hq,ry⟩:=rv.list hs e1
 cases a2t ry e4
 refine b5k hc pins s σ H _ us Q I r ⟨a,ns,rfl,hq,hb.1,λn hn=>?_,k.int⟩
 have:=List.all_eq_true.mp hb.2 n hn
 simpa[a7w] using this
theorem e2b (hc:X.calm=true):a1j X (.builtin "all") (Rc X.K c4g):=by
 rintro pins s σ H xs us Q I r ⟨S,v,x,z,rfl,hs,rv,e,k⟩
 obtain⟨ps,e1,e2⟩:=bnd e
 obtain⟨bs,e3,rfl⟩:=mpd e2
 obtain⟨a,ys,rfl,hq,ry⟩:=rv.list hs e1
 cases a5a ry e3
 exact b5o hc pins s σ H _ us Q I r ⟨a,bs,rfl,hq,k.bl⟩
theorem e2a (hc:X.calm=true):a1j X (.builtin "any") (Rc X.K d5s):=by
 rintro pins s σ H xs us Q I r ⟨S,v,x,z,rfl,hs,rv,e,k⟩
 obtain⟨ps,e1,e2⟩:=bnd e
 obtain⟨bs,e3,rfl⟩:=mpd e2
 obtain⟨a,ys,rfl,hq,ry⟩:=rv.list hs e1
 cases a5a ry e3
 exact b5n hc pins s σ H _ us Q I r ⟨a,bs,rfl,hq,k.bl⟩
theorem a7j:∀ (xs:List Int) (b x:Int),a1o b (xs++[x])=if x<a1o b xs then x else a1o b xs
 | [],b,x=>rfl
 | y :: ys,b,x=>by
  show a1o (if y<b then y else b) (ys++[x])=_
  rw[a7j ys];rfl
theorem b0l (n:Int)(r:List Int):∀ k,k<=r.length->(n :: r)[argBest (λi j=>decide ((n :: r).getD i 0<(n :: r).getD j 0)) k]?=some (a1o n (r.take k))
 | 0,_=>by simp[argBest,a1o]
 | k+1,h=>by
  have ih:=b0l n r k (by lia)
  have hk:k<r.length:=h
  have e1:(n :: r).getD (argBest (λi j=>decide ((n :: r).getD i 0<(n :: r).getD j 0)) k) 0=a1o n (r.take k):=by rw[List.getD_eq_getElem?_getD,ih];rfl
  have e2:(n :: r).getD (k+1) 0=r[k]:=by simp[List.getD,hk]
  rw[List.take_succ_eq_append_getElem hk,a7j]
  simp only[argBest,e1,e2,decide_eq_true_eq]
  split
  ·simp[hk]
  ·exact ih
theorem d3s (hc:X.calm=true):a1j X (.builtin "min") (Rc X.K b4x):=by
 rintro pins s σ H xs us Q I r ⟨S,v,x,z,rfl,hs,rv,e,k⟩
 obtain⟨ps,e1,e2⟩:=bnd e
 obtain⟨ns,e3,e4⟩:=bnd e2
 obtain⟨a,ys,rfl,hq,ry⟩:=rv.list hs e1
 obtain⟨u,rfl,ru⟩:=a3l r
 cases (show u=Value.ref a from ru)
 obtain⟨its,r',pl,hz'⟩:=I.list hq
 have hh:X.A.in1.handled=none:=I.ok.hd hc
 have hlen:ys.length=its.length:=r'.length
 cases a2t ry e3
 cases ns with
 | nil=>cases e4
 | cons n r =>
  cases e4
  have hl2:its.length=r.length+1:=by rw[<- hlen];simp
  have it:∀ (i:Nat)(v:Value),its.toArray[i]?=some v->∃ t,v=Value.int ((n :: r).getD i 0) t:=λi v hv=>by
   have hv:its[i]?=some v:=by simpa using hv
   have hi:=(List.getElem?_eq_some_iff.mp hv).1
   obtain⟨t,e⟩:=Vals.mapInt r' i (by simp;lia)
   rw[hv] at e
   exact⟨t,Option.some.inj e⟩
  refine b5l (bt:=λi j=>decide ((n :: r).getD i 0<(n :: r).getD j 0)) hh pl.isList (by simp;lia) (λi j u v s1 Q1 E1 _ hi hj q1=>?_) λv h' tk hv hk=>?_
  ·obtain⟨t1,rfl⟩:=it i u hi
   obtain⟨t2,rfl⟩:=it j v hj
   exact PyProof.Rows.lt_int q1
  ·have hv:its[argBest (λi j=>decide ((n :: r).getD i 0<(n :: r).getD j 0)) (its.toArray.size-1)]?=some v:=by simpa using hv
   have hb:=b0l n r r.length (Γi _)
   rw[List.take_length] at hb
   have hsz:its.toArray.size-1=r.length:=by simp;lia
   rw[hsz] at hv
   generalize argBest (λi j=>decide ((n :: r).getD i 0<(n :: r).getD j 0)) r.length=z at hv hb
   obtain⟨t,rfl⟩:=it z v (by simpa using hv)
   rw[List.getD_eq_getElem?_getD,hb]
   exact⟨.int (a1o n r),H,I.kept (t':=tk) hk,⟨t,rfl⟩,k.int⟩
end
structure CC where
 N:List Str
 sc:List (Str×NameKind)
 fns:List Str
 md:Md
 top:Bool
 oc:List (Str×NameKind)
 ms:List (Str×Addr×Str)
 fl:List (Addr×Str)
def CC.vis (C:CC)(x:Str):Bool:=match C.sc.lookup x with
 | some .local=>true
 | some .cell=>true
 | some .free=>true
 | _=>false
def CC.gl (C:CC)(x:Str):Bool:=decide (C.sc.lookup x=some .globalImplicit)
def CC.loc (C:CC)(x:Str):Bool:=match C.sc.lookup x with
 | some .local=>true
 | some .cell=>C.top || C.oc.lookup x == some .cell
 | _=>false
def CC.nm (C:CC) (i:Nat)(x:Str):Bool:=decide (C.N[i]?=some x) && C.vis x && !(x == ("__debug__":Str)) && !(x == ("__classdict__":Str))
def bltNames:List String:=["len","abs","int","sum","all","any","min","max","tuple","list","isinstance","range","zip","bool","str","enumerate","reversed","sorted","dict","set"]
def e3j (P:Program)(w:World)(K:Γd)(mg:Str->Option Value)(base:Heap) (n:Nat)(s:Sp)(c:Str)(Ca:Addr)(m:Str):Prop:=∃ fa fd ps,mg c=some (.ref Ca)/\Cls K Ca/\(m=("__init__":Str)->Mk K Ca fa)/\(m≠("__init__":Str)->Meth K Ca m fa)/\Binds K fd ps []/\FnOk P w K mg base CX0 n fa fd ps s
structure Good (X:Cx)(C:CC) (n:Nat)(sp:Γd->Nat->Sp):Prop where
 N:X.N=C.N
 sc:X.env.scope.names=C.sc
 kind:X.env.scope.kind=.function
 nd:C.N.Nodup
 calm:X.calm=true
 fn:∀ x,(C.top || C.oc.lookup x == some .cell)=true->X.fn x=true
 room:RoomS n X.A
 fns:∀ (f:Nat)(x:Str),C.fns[f]?=some x->∃ fa fd ps,X.mg x=some (.ref fa)/\PySem.W.keepIn X.K (.ref fa)=true/\Binds X.K fd ps []/\FnOk X.prog X.w X.K X.mg X.base CX0 n fa fd ps (sp X.K f)
 blt:∀ b∈bltNames,X.mg (Γe b)=none
 mts:∀ (k:Nat)(c:Str)(Ca:Addr)(m:Str),C.ms[k]?=some (c,Ca,m)->e3j X.prog X.w X.K X.mg X.base n (sp X.K (C.fns.length+k)) c Ca m
 fls:∀ p∈C.fl,Cls X.K p.1/\b1p X.K p.1 p.2
theorem b2 {a b:Bool}(h:(a && b)=true):a=true/\b=true:=by simpa using h
theorem nb {a:Bool}(h:(!a)=true):a=false:=by simpa using h
theorem de {p:Prop} [Decidable p] (h:decide p=true):p:=by simpa using h
def lv (K:Γd)(md:Md)(e:EW):TE:=λσ H Q=>∃ c L S Q0,Iv K c md L σ S H/\e L Q0/\∀ v L',Q0 v L'->∀ x S' H',RV K S' v x->Iv K c md L' σ S' H'->Same S S'->Q x H'
def lr (K:Γd)(md:Md)(e:EW):TE:=λσ H Q=>∃ c L S Q0,Iv K c md L σ S H/\e L Q0/\∀ v L',Q0 v L'->∀ x S' H',RH K S' H' v x->Iv K c md L' σ S' H'->Same S S'->Q x H'
def a6q (c:Cn)(md:Md)(L:a0c)(σ:L2.St)(a:Addr):Prop:=c.H0 a=none/\(∀ p∈c.pr,p.1≠a)/\∀ j w,a0g md j≠.imm->L[j]?=some (some w)->σ[j]?≠some (some (.ref a))
def lf (K:Γd)(md:Md)(e:EW):TE:=λσ H Q=>∃ c L S Q0,Iv K c md L σ S H/\e L Q0/\∀ v L',Q0 v L'->∀ a S' H',a3s K S' H' a v->a6q c md L' σ a->Iv K c md L' σ S' H'->Same S S'->Q (.ref a) H'
def lb (K:Γd)(md:Md)(e:BW):TT:=λσ H Q=>∃ c L S Q0,Iv K c md L σ S H/\e L Q0/\∀ v L',Q0 v L'->∀ S' H',Iv K c md L' σ S' H'->Same S S'->Q v H'
def la (K:Γd)(md:Md)(e:AW):TA:=λσ H Q=>∃ c L S Q0,Iv K c md L σ S H/\e L Q0/\∀ v L',Q0 v L'->∀ x S' H',RVs K S' v x->Iv K c md L' σ S' H'->Same S S'->Q x H'
def lo (K:Γd)(md:Md)(e:OW):TO:=λσ H Q=>∃ c L S Q0,Iv K c md L σ S H/\e L Q0/\∀ v L',Q0 v L'->∀ S' H',Iv K c md L' σ S' H'->Same S S'->Q v H'
def FE (X:Cx)(C:CC)(x:Expr)(e:EW):Prop:=PE X.nox x (lv X.K C.md e)
def FR (X:Cx)(C:CC)(x:Expr)(e:EW):Prop:=PE X.nox x (lr X.K C.md e)
def FF (X:Cx)(C:CC)(x:Expr)(e:EW):Prop:=PE X.nox x (lf X.K C.md e)
def FB (X:Cx)(C:CC)(x:Expr)(e:BW):Prop:=PT X.nox x (lb X.K C.md e)
def FW (X:Cx)(C:CC)(x:Expr)(e:BW):Prop:=PW X.nox x (lb X.K C.md e)
def FA (X:Cx)(C:CC)(x:List Expr)(e:AW):Prop:=PA X.nox x (la X.K C.md e)
def FO (X:Cx)(C:CC)(x:Option Expr)(e:OW):Prop:=L2.PO X.nox x (lo X.K C.md e)
section
variable {X:Cx}
theorem PE.imp {e:Expr}{t u:TE}(h:PE X e t)(f:∀ σ H Q,u σ H Q->t σ H Q):PE X e u:=λpins s σ H Q I hu=>h pins s σ H Q I (f σ H Q hu)
theorem PT.imp {e:Expr}{t u:TT}(h:PT X e t)(f:∀ σ H Q,u σ H Q->t σ H Q):PT X e u:=λpins s σ H Q I hu=>h pins s σ H Q I (f σ H Q hu)
theorem PW.imp {e:Expr}{t u:TT}(h:PW X e t)(f:∀ σ H Q,u σ H Q->t σ H Q):PW X e u:=λw pins s σ H Q I hu=>h w pins s σ H Q I (f σ H Q hu)
theorem PA.imp {e:List Expr}{t u:TA}(h:PA X e t)(f:∀ σ H Q,u σ H Q->t σ H Q):PA X e u:=λp pins s σ H Q I hu=>h p pins s σ H Q I (f σ H Q hu)
theorem PO.imp {e:Option Expr}{t u:TO}(h:L2.PO X e t)(f:∀ σ H Q,u σ H Q->t σ H Q):L2.PO X e u:=λpins s σ H Q I hu=>h pins s σ H Q I (f σ H Q hu)
end
section
variable {X:Cx}{C:CC}{n:Nat}{sp:Γd->Nat->Sp}
theorem Good.vis (G:Good X C n sp){x:Str}(h:C.vis x=true):Vis X.env.scope x:=by
 unfold CC.vis at h
 unfold Vis
 rw[G.sc]
 split at h
 ·rename_i e;exact .inl e
 ·rename_i e;exact .inr (.inl e)
 ·rename_i e;exact .inr (.inr e)
 ·cases h
theorem Good.gl (G:Good X C n sp){x:Str}(h:C.gl x=true):Gl X x:=by
 show X.env.scope.names.lookup x=_
 rw[G.sc];exact de h
theorem Good.loc (G:Good X C n sp){x:Str}(h:C.loc x=true):L2.Loc X.env.scope x/\(X.fn x=true ∨ X.env.scope.names.lookup x=some .local):=by
 unfold CC.loc at h
 unfold L2.Loc
 rw[G.sc]
 split at h
 ·rename_i e;exact⟨.inl e,.inr e⟩
 ·rename_i e;exact⟨.inr e,.inl (G.fn x h)⟩
 ·cases h
variable {K:Γd}{c:Cn}{md:Md}{L:a0c}{σ:L2.St}{S H:Hp}
theorem Iv.rd (I:Iv K c md L σ S H){i:Nat}{v:FV}(e:lk L i=some v):∃ x,σ[i]?=some (some x)/\RH K S H v x:=by
 rw[a1v] at e
 by_cases m:a0g md i=.imm
 ·obtain⟨x,h1,h2⟩:=I.imm i v m e
  exact⟨x,h1,.inl h2⟩
 ·obtain⟨a,h1,h2,_⟩:=I.own i v m e
  exact⟨_,h1,.inr ⟨a,rfl,h2⟩⟩
theorem b2c {Q:VK}{z:FV}(I:Iv K c md L σ S H)(k:∀ x S' H',RV K S' z x->Iv K c md L σ S' H'->Same S S'->Q x H'):NewOr K S H Q z where
 old:=λx _ r=>k x S H r I (Same.refl S)
 tup:=λps xs p e r hp=>k _ _ _ (by rw[e];exact⟨p,xs,rfl,a0d,r.mono (a0h (I.sn hp))⟩) (I.new hp _) (a0h (I.sn hp))
 lst:=λps xs p e r hp=>k _ _ _ (by rw[e];exact⟨p,xs,rfl,a0d,r.mono (a0h (I.sn hp))⟩) (I.new hp _) (a0h (I.sn hp))
theorem Iv.fresh (I:Iv K c md L σ S H){p:Addr}(h:H p=none):a6q c md L σ p:=by
 refine⟨I.h0 h,λq hq z=>?_,λj w m e z=>?_⟩
 ·rw[<- z,(I.prs q hq).1] at h;cases h
 ·obtain⟨a,e1,⟨_,_,_,_,e2,_⟩,_⟩:=I.own j w m e
  rw[z] at e1;cases e1
  rw[h] at e2;cases e2
theorem d1w {Q:VK}{z:FV}(I:Iv K c md L σ S H)(hz:∃ ps,z=.lst ps)(k:∀ a S' H',a3s K S' H' a z->a6q c md L σ a->Iv K c md L σ S' H'->Same S S'->Q (.ref a) H'):NewOr K S H Q z where
 old:=λx n _=>let ⟨ps,e⟩:=hz;absurd e (n ps)
 tup:=λps xs p e r hp=>by obtain⟨qs,e2⟩:=hz;rw[e2] at e;cases e
 lst:=λps xs p e r hp=>by subst e;exact k p S _ ⟨I.sn hp,ps,xs,rfl,a0d,r⟩ (I.fresh hp) (I.lay hp _) (Same.refl S)
theorem fe_var (G:Good X C n sp){i:Nat}{x:Str}{pos:Pos}(h:C.nm i x=true)(m:a0g C.md i=.imm):FE X C (.Name x pos) (a0b i):=by
 have h:=b2 h;have h1:=b2 h.1;have h2:=b2 h1.1
 refine PE.imp (b7l (by show X.N[i]?=_;rw[G.N];exact de h2.1) (G.vis h2.2) (nb h1.2) (nb h.2)) λσ H Q ⟨c,L,S,Q0,I,h,k⟩=>?_
 obtain⟨v,e,q⟩:=wpx h
 obtain⟨x,e1,r⟩:=I.imm i v m ((a1v _ _ _).mp e)
 exact⟨x,e1,k v L q x S H r I (Same.refl S)⟩
theorem fr_var (G:Good X C n sp){i:Nat}{x:Str}{pos:Pos}(h:C.nm i x=true):FR X C (.Name x pos) (a0b i):=by
 have h:=b2 h;have h1:=b2 h.1;have h2:=b2 h1.1
 refine PE.imp (b7l (by show X.N[i]?=_;rw[G.N];exact de h2.1) (G.vis h2.2) (nb h1.2) (nb h.2)) λσ H Q ⟨c,L,S,Q0,I,h,k⟩=>?_
 obtain⟨v,e,q⟩:=wpx h
 obtain⟨x,e1,r⟩:=I.rd e
 exact⟨x,e1,k v L q x S H r I (Same.refl S)⟩
theorem fr_of {x:Expr}{e:EW}(h:FE X C x e):FR X C x e:=PE.imp h λσ H Q ⟨c,L,S,Q0,I,h,k⟩=>⟨c,L,S,Q0,I,h,λv L' q x S' H' r=>k v L' q x S' H' (.inl r)⟩
theorem e0f {x:Expr}{v:FV}{u:V}(h:PE X.nox x (tC u))(r:∀ S,RV X.K S v u):FE X C x (eC v):=PE.imp h λσ H Q ⟨c,L,S,Q0,I,h,k⟩=>k v L h u S H (r S) I (Same.refl S)
theorem fe_int {i j pos}:FE X C (.Constant (.int i) j pos) (eC (.int i)):=e0f d1c λ_=>rfl
theorem fe_bl {i j pos}:FE X C (.Constant (.bool i) j pos) (eC (.bl i)):=e0f d7w λ_=>rfl
theorem fe_non {j pos}:FE X C (.Constant .none j pos) (eC .non):=e0f d1b λ_=>rfl
section
variable {f:FV->FV->Option FV}{a b:Expr}{ea eb:EW}{pos:Pos}{i:Nat}{x:Str}
theorem a1k (G:Good X C n sp)(h:C.nm i x=true):PE X.nox (.Name x pos) (c9v i):=by
 have h:=b2 h;have h1:=b2 h.1;have h2:=b2 h1.1
 exact b7l (by show X.N[i]?=_;rw[G.N];exact de h2.1) (G.vis h2.2) (nb h1.2) (nb h.2)
theorem go2 {r:R2}{σ:L2.St}{H:Hp}{Q:VK}(hh:∃ (c:Cn)(L:a0c)(S:Hp)(Q0:FV->FV->a0c->Prop),Iv K c md L σ S H/\ea L (λx L1=>eb L1 λy L2=>Q0 x y L2)/\∀ v w L' S' H' x y,Q0 v w L'->RV K S' v x->RH K S' H' w y->Iv K c md L' σ S' H'->Same S S'->r x y H' Q):tOp r (lv K md ea) (lr K md eb) σ H Q:=by
 obtain⟨c,L,S,Q0,I,h,k⟩:=hh
 exact⟨c,L,S,_,I,h,λv L1 hv x S1 H1 r1 I1 s1=>⟨c,L1,S1,_,I1,hv,λw L2 hw y S2 H2 r2 I2 s2=>k v w L2 S2 H2 x y hw (r1.mono s2) r2 I2 (s1.trans s2)⟩⟩
theorem go2N {r:R2}{σ:L2.St}{H:Hp}{Q:VK}(hh:∃ (c:Cn)(L:a0c)(S:Hp)(Q0:FV->FV->a0c->Prop),Iv K c md L σ S H/\(wp (lk L i) λ_=>eb L λy L1=>wp (lk L1 i) λx=>Q0 x y L1)/\∀ v w L' S' H' x y,Q0 v w L'->RH K S' H' v x->RH K S' H' w y->Iv K c md L' σ S' H'->Same S S'->r x y H' Q):tOp r (c9v i) (lr K md eb) σ H Q:=by
 obtain⟨c,L,S,Q0,I,h,k⟩:=hh
 obtain⟨_,e,h⟩:=wpx h
 obtain⟨x,e1,_⟩:=I.rd e
 refine⟨x,e1,c,L,S,_,I,h,λw L2 hw y S2 H2 r2 I2 s2=>?_⟩
 obtain⟨v,e2,q⟩:=wpx hw
 obtain⟨x',e3,r1⟩:=I2.rd e2
 rw[e1] at e3;cases e3
 exact k v w L2 S2 H2 x y q r1 r2 I2 s2
theorem rq_v {Q0:FV->a0c->Prop}{Q:VK}{v w:FV}{x y:V}(I:Iv K c md L σ S H)(rv:RH K S H v x)(rw':RH K S H w y)(h:wp (f v w) λz=>Q0 z L)(k:∀ z,Q0 z L->∀ x S' H',RV K S' z x->Iv K c md L σ S' H'->Same S S'->Q x H'):Rq K f x y H Q:=by
 obtain⟨z,e,q⟩:=wpx h
 exact⟨S,v,w,z,I.sub,rv,rw',e,b2c I (k z q)⟩
theorem op_v (h:PE X.nox a (tOp (Rq X.K f) (lv X.K C.md ea) (lr X.K C.md eb))):FE X C a (eOp f ea eb):=PE.imp h λσ H Q ⟨c,L,S,Q0,I,h,k⟩ =>
 go2 ⟨c,L,S,λx y L2=>wp (f x y) λz=>Q0 z L2,I,h,λv w L' S' H' x y q r1 r2 I' s'=>rq_v I' (.inl r1) r2 q λz qz x S2 H2 r I2 s2=>k z L' qz x S2 H2 r I2 (s'.trans s2)⟩
variable {op:Operator}
theorem b5e (ho:OpR X.nox (binaryOp op) (Rq X.K f))(ha:FE X C a ea)(hb:FR X C b eb):FE X C (.BinOp a op b pos) (eOp f ea eb):=op_v (d7v ho ha hb)
theorem fe_add (ha:FE X C a ea)(hb:FR X C b eb):FE X C (.BinOp a .Add b pos) (eOp a4s ea eb):=b5e d7p ha hb
theorem fe_sub (ha:FE X C a ea)(hb:FR X C b eb):FE X C (.BinOp a .Sub b pos) (eOp c9x ea eb):=b5e d7i ha hb
theorem fe_mul (ha:FE X C a ea)(hb:FR X C b eb):FE X C (.BinOp a .Mult b pos) (eOp b2d ea eb):=b5e d7l ha hb
theorem e0a (ha:FE X C a ea)(hb:FR X C b eb):FE X C (.BinOp a .FloorDiv b pos) (eOp b9h ea eb):=b5e d0n ha hb
theorem fe_mod (ha:FE X C a ea)(hb:FR X C b eb):FE X C (.BinOp a .Mod b pos) (eOp c1c ea eb):=b5e d7m ha hb
theorem fe_pow (ha:FE X C a ea)(hb:FR X C b eb):FE X C (.BinOp a .Pow b pos) (eOp c2h ea eb):=b5e d7k ha hb
def d8p (f:FV->FV->Option FV)(v w:FV):Option FV:=(f v w).bind λz=>(a6s z).map λxs=>.lst xs
variable {cop:CmpOp}
theorem b4e (ho:OpR X.nox (compareOp cop) (Rq X.K f))(ha:FE X C a ea)(hb:FR X C b eb)(hm:behindInMarks cop b=false):FE X C (.Compare a [cop] [b] pos) (eOp f ea eb):=op_v (c6r ho ha hb hm)
def a5j (f:FV->FV->Option FV):Prop:=∀ v w z,f v w=some z->∃ b,z=.bl b
theorem c9r {Q0:Bool->a0c->Prop}{Q:Bool->Hp->Prop}{v w:FV}{x y:V}(tb:a5j f)(I:Iv K c md L σ S H)(rv:RH K S H v x)(rw':RH K S H w y)(h:wp (f v w) λz=>wp (b6d z) λb=>Q0 b L)(k:∀ z,Q0 z L->Q z H):Rq K f x y H (λx H'=>∃ k,x=.bl k/\Q k H'):=by
 obtain⟨z,e,q⟩:=wpx h
 obtain⟨b,rfl⟩:=tb v w z e
 exact⟨S,v,w,_,I.sub,rv,rw',e,⟨λx _ r=>⟨b,r,k b q⟩,λ_ _ _ e=>(nomatch e),λ_ _ _ e=>(nomatch e)⟩⟩
theorem a7o (tb:a5j f)(ho:OpR X.nox (compareOp cop) (Rq X.K f))(ha:FE X C a ea)(hb:FR X C b eb)(hm:behindInMarks cop b=false):FB X C (.Compare a [cop] [b] pos) (a1f (eOp f ea eb)):=PT.imp (c6g ho ha hb hm) λσ H Q ⟨c,L,S,Q0,I,h,k⟩ =>
 go2 ⟨c,L,S,λx y L2=>wp (f x y) λz=>wp (b6d z) λb=>Q0 b L2,I,h,λv w L' S' H' x y q r1 r2 I' s'=>c9r tb I' (.inl r1) r2 q λz qz=>k z L' qz S' H' I' s'⟩
end
end
def a0j:Expr->Bool|.Starred ..=>true|_=>false
def a2b:Expr->Bool|.Slice ..=>true|_=>false
def c4q:Expr->Bool
 | .UnaryOp .Not _ _=>false
 | .BoolOp ..=>false
 | .IfExp ..=>false
 | .Compare ..=>false
 | _=>true
section
variable {X:Cx}{C:CC}{n:Nat}{sp:Γd->Nat->Sp}{a b d x y z:Expr}{ea eb ec:EW}{pos:Pos}
theorem a0f {xs:List Expr}{env:Env}(h:a0j x=false):starEach (x :: xs) env=(false,eval x env) :: starEach xs env:=by
 cases x<;>first|rfl|(cases h;done)
theorem a4j (h:a2b y=false):c1a y:=by
 intro o i
 cases y<;>first|rfl|(cases h;done)
theorem b0a {env:Env}(h:c4q x=true):∀ whole,isTrue x env whole=(do let v <- whole;standAt x.pos;holding [v] (PySem.truthy v)):=by
 intro whole
 cases x<;>first|rfl|(cases h;done)|(rename_i op x pos;cases op<;>first|rfl|(cases h;done))
theorem fe_eq (G:Good X C n sp)(ha:FE X C a ea)(hb:FR X C b eb):FE X C (.Compare a [.Eq] [b] pos) (eOp eqB ea eb):=b4e (q_eq G.room.units) ha hb (a2n _ (by decide) (by decide))
theorem fe_ge (ha:FE X C a ea)(hb:FR X C b eb):FE X C (.Compare a [.GtE] [b] pos) (eOp geB ea eb):=b4e q_ge ha hb (a2n _ (by decide) (by decide))
theorem c4j {f:FV->FV->Option Bool}{g:Bool->FV}(h:∀ b,∃ c,g b=.bl c):a5j λv w=>(f v w).map g:=λv w z e=>by
 obtain⟨b,_,rfl⟩:=mpd e
 exact h b
theorem b6f {f:Int->Int->Bool}:a5j (a2y λi j=>some (.bl (f i j))):=λv w z e=>by
 obtain⟨i,_,e⟩:=bnd e
 obtain⟨j,_,e⟩:=bnd e
 cases e;exact⟨_,rfl⟩
theorem fb_eq (G:Good X C n sp)(ha:FE X C a ea)(hb:FR X C b eb):FB X C (.Compare a [.Eq] [b] pos) (a1f (eOp eqB ea eb)):=a7o (c4j λb=>⟨b,rfl⟩) (q_eq G.room.units) ha hb (a2n _ (by decide) (by decide))
theorem fb_ne (G:Good X C n sp)(ha:FE X C a ea)(hb:FR X C b eb):FB X C (.Compare a [.NotEq] [b] pos) (a1f (eOp neB ea eb)):=a7o (c4j λb=>⟨!b,rfl⟩) (q_ne G.room.units) ha hb (a2n _ (by decide) (by decide))
theorem fb_gt (ha:FE X C a ea)(hb:FR X C b eb):FB X C (.Compare a [.Gt] [b] pos) (a1f (eOp gtB ea eb)):=a7o b6f q_gt ha hb (a2n _ (by decide) (by decide))
variable {i:Nat}{nx:Str}{p:Pos}
section
variable {cop cop':CmpOp}{f g:FV->FV->Option FV}
theorem c4c (tf:a5j f){σ:L2.St}{S H:Hp}{Q:VK}{c:Cn}{L:a0c}{Q1:FV->a0c->Prop}(I:Iv X.K c C.md L σ S H)(h:b0w f g ea eb ec L Q1)
  (kf:∀ L' S' H',Q1 (.bl false) L'->Iv X.K c C.md L' σ S' H'->Same S S'->Q (.bl false) H')(kg:∀ w z L' S' H' y u,(wp (g w z) λq=>Q1 q L')->RV X.K S' w y->RH X.K S' H' z u->Iv X.K c C.md L' σ S' H'->Same S S'->Rq X.K g y u H' Q) :
  c4l (Rq X.K f) (Rq X.K g) (lv X.K C.md ea) (lv X.K C.md eb) (lr X.K C.md ec) σ H Q:=by
 refine⟨c,L,S,_,I,h,λv L1 hv x S1 H1 r1 I1 s1=>⟨c,L1,S1,_,I1,hv,λw L2 hw y S2 H2 r2 I2 s2=>?_⟩⟩
 obtain⟨r,e,q⟩:=wpx hw
 obtain⟨b,rfl⟩:=tf v w r e
 refine⟨S2,v,w,_,I2.sub,.inl (r1.mono s2),.inl r2,e,⟨λu _ ru=>⟨b,ru,?_⟩,λ_ _ _ e=>(nomatch e),λ_ _ _ e=>(nomatch e)⟩⟩
 have q:if b=true then ec L2 λz L3=>wp (g w z) λq=>Q1 q L3 else Q1 (.bl false) L2:=q
 cases b with
 | false=>rw[if_neg Γk] at q ⊢;exact kf L2 S2 H2 q I2 (s1.trans s2)
 | true =>
  rw[if_pos rfl] at q ⊢
  exact⟨c,L2,S2,_,I2,q,λz L3 hz u S3 H3 r3 I3 s3=>kg w z L3 S3 H3 y u hz (r2.mono s3) r3 I3 (s1.trans (s2.trans s3))⟩
theorem c3s (tf:a5j f)(ho:OpR X.nox (compareOp cop) (Rq X.K f))(ho':OpR X.nox (compareOp cop') (Rq X.K g))(ha:FE X C a ea)(hb:FE X C b eb)(hc:FR X C d ec)(hm:lastMarks [cop,cop'] [b,d]=false):FE X C (.Compare a [cop,cop'] [b,d] pos) (b0w f g ea eb ec) :=
 PE.imp (c2o ho ho' ha hb hc hm) λσ H Q ⟨c,L,S,Q0,I,h,k⟩=>c4c tf I h (λL' S' H' q I' s'=>k _ L' q _ S' H' rfl I' s') λw z L' S' H' y u q r1 r2 I' s'=>rq_v I' (.inl r1) r2 q λt qt x S4 H4 rt I4 s4=>k t L' qt x S4 H4 rt I4 (s'.trans s4)
end
end
section
variable {X:Cx}{C:CC}{n:Nat}{sp:Γd->Nat->Sp}{a b d x y z:Expr}{ea eb ec:EW}{ba bb:BW}{pos p:Pos}
variable {K:Γd}{c:Cn}{md:Md}{L:a0c}{σ:L2.St}{S H:Hp}
theorem b7v {v:FV}{x:V}(r1:RH K S H v x):a2s v=some (.bl (decide (x=V.non)))/\a1b v=some (.bl (!decide (x=V.non))):=by
 rcases r1 with r1|⟨a,rfl,_,ps,xs,e9,_⟩
 ·cases v<;>first|(cases (show x=_ from r1);simp[a2s,a1b];done)|(obtain⟨a,_,rfl,_⟩:=r1;simp[a2s,a1b];done)|(obtain⟨a,rfl,_⟩:=r1;simp[a2s,a1b];done)
 ·cases v<;>first|(cases e9;done)|simp[a2s,a1b]
theorem e2d {t:Bool}{v:FV}{x:V}(r1:RH K S H v x):b8t t v=some (.bl (decide (x=V.bl t)))/\a5e t v=some (.bl (!decide (x=V.bl t))):=by
 rcases r1 with r1|⟨a,rfl,_,ps,xs,e9,_⟩
 ·cases v<;>first|(cases (show x=_ from r1);simp[b8t,a5e];done)|(cases (show x=_ from r1);rename_i u;cases t<;>cases u<;>exact⟨rfl,rfl⟩)|(obtain⟨a,_,rfl,_⟩:=r1;simp[b8t,a5e];done)|(obtain⟨a,rfl,_⟩:=r1;simp[b8t,a5e];done)
 ·cases v<;>first|(cases e9;done)|simp[b8t,a5e]
theorem fb_isN {j pos'}(ha:FR X C a ea):FB X C (.Compare a [.Is] [.Constant .none j pos'] pos) (a1f (eUn a2s ea)):=PT.imp (b6z (d1e ha)) λσ H Q ⟨c,L,S,Q0,I,h,k⟩ =>
 ⟨c,L,S,_,I,h,λv L1 hv x S1 H1 r1 I1 s1=>by
  obtain⟨z,e3,q⟩:=wpx hv
  rw[(b7v r1).1] at e3;cases e3
  exact⟨_,rfl,k _ L1 q S1 H1 I1 s1⟩⟩
theorem d9u {j pos'}(ha:FR X C a ea):FE X C (.Compare a [.IsNot] [.Constant .none j pos'] pos) (eUn a1b ea):=PE.imp (d1d (b7m ha)) λσ H Q ⟨c,L,S,Q0,I,h,k⟩ =>
 ⟨c,L,S,_,I,h,λv L1 hv x S1 H1 r1 I1 s1=>by
  obtain⟨z,e3,q⟩:=wpx hv
  rw[(b7v r1).2] at e3;cases e3
  exact k _ L1 q _ S1 H1 rfl I1 s1⟩
theorem e1c {j pos'}(ha:FR X C a ea):FB X C (.Compare a [.IsNot] [.Constant .none j pos'] pos) (a1f (eUn a1b ea)):=PT.imp (b6z (b7m ha)) λσ H Q ⟨c,L,S,Q0,I,h,k⟩ =>
 ⟨c,L,S,_,I,h,λv L1 hv x S1 H1 r1 I1 s1=>by
  obtain⟨z,e3,q⟩:=wpx hv
  rw[(b7v r1).2] at e3;cases e3
  exact⟨_,rfl,k _ L1 q S1 H1 I1 s1⟩⟩
theorem e1d {t:Bool} {j pos'}(ha:FR X C a ea):FB X C (.Compare a [.IsNot] [.Constant (.bool t) j pos'] pos) (a1f (eUn (a5e t) ea)):=PT.imp (b6z (c6w ha)) λσ H Q ⟨c,L,S,Q0,I,h,k⟩ =>
 ⟨c,L,S,_,I,h,λv L1 hv x S1 H1 r1 I1 s1=>by
  obtain⟨z,e3,q⟩:=wpx hv
  rw[(e2d r1).2] at e3;cases e3
  exact⟨_,rfl,k _ L1 q S1 H1 I1 s1⟩⟩
theorem fe_not (ha:FE X C a ea):FE X C (.UnaryOp .Not a pos) (eUn d8j ea):=PE.imp (d1a ha) λσ H Q ⟨c,L,S,Q0,I,h,k⟩ =>
 ⟨c,L,S,_,I,h,λv L1 hv x S1 H1 r1 I1 s1=>by
  obtain⟨z,e,q⟩:=wpx hv
  obtain⟨b,e1,rfl⟩:=mpd e
  cases d3y e1
  exact⟨b,r1,k _ L1 q _ S1 H1 rfl I1 s1⟩⟩
theorem b6c {v:FV}{u:V}{t:Bool}(s:Same S H)(r:RH K S H v u)(e:b6d v=some t):d5u K u H t:=by
 have em:∀ {ps:List FV}{xs:List V},RVs K S ps xs->(!ps.isEmpty) = !xs.isEmpty:=λ{ps xs} h=>by cases ps<;>cases xs<;>first|rfl|(have:=h.length;simp at this)
 cases v with
 | non=>cases (show u=V.non from r.val rfl);cases e;exact rfl
 | bl c=>cases r.bl;cases e;exact rfl
 | int c=>cases r.int;cases e;exact rfl
 | str c=>cases e
 | shn c=>cases e
 | dct _ _=>cases e
 | dci _ _=>cases e
 | dcz _ _ _=>cases e
 | obj _ _ _ _=>cases e
 | dcn _ _ _=>cases e
 | tup ps =>
  obtain⟨a,xs,rfl,h1,h2⟩:=r.tup s
  cases e
  exact .inr (.inl ⟨xs,SqT.of h1,em h2⟩)
 | lst l =>
  obtain⟨a,xs,rfl,h1,h2⟩:=r.lst s
  cases e
  exact .inl ⟨xs,SqL.of h1,em h2⟩
 | scr ns =>
  cases e
  obtain⟨a,xs,rfl,h1,h2⟩:=r.list s (show a1t (.scr ns)=_ from rfl)
  refine .inl ⟨_,h1,?_⟩
  rw[<- em h2];cases ns<;>rfl
theorem c6v {rest:List Expr}{ta tb:TE}(ha:PE X a ta)(hb:PE X (.BoolOp .And (b :: rest) pos) tb) :
  PE X (.BoolOp .And (a :: b :: rest) pos) (λσ H Q=>ta σ H λx H1=>∃ c,d5u X.K x H1 c/\(if c=true then tb σ H1 Q else Q x H1)):=by
 intro pins s σ H Q I h
 refine BoolOp_and (thn (ha pins s σ H _ I h) λv s1 ⟨x,H1,I1,r1,c,tv,q1⟩=>?_)
 refine thn (c4i pins s1 σ H1 x v (λc' H'=>c'=c/\H'=H1) I1 r1 ⟨c,tv,rfl,rfl⟩) λb s2 ⟨H2,I2,e1,e2⟩=>?_
 subst e1 e2
 cases b with
 | true=>exact hb pins s2 σ H2 Q I2 (by simpa using q1)
 | false=>exact⟨x,H2,I2,r1,by simpa using q1⟩
theorem fe_one {op:BoolOp}(ha:FE X C a ea):FE X C (.BoolOp op [a] pos) ea:=d0z ha
theorem fe_and {rest:List Expr}(ha:FE X C a ea)(hb:FE X C (.BoolOp .And (b :: rest) pos) eb):FE X C (.BoolOp .And (a :: b :: rest) pos) (c1d ea eb):=PE.imp (c6v ha hb) λσ H Q ⟨c,L,S,Q0,I,h,k⟩ =>
 ⟨c,L,S,_,I,h,λv L1 hv x S1 H1 r1 I1 s1=>by
  obtain⟨t,e,q⟩:=wpx hv
  refine⟨t,b6c I1.sub (.inl r1) e,?_⟩
  cases t with
  | true=>exact⟨c,L1,S1,Q0,I1,q,λv L' q x S' H' r I' s'=>k v L' q x S' H' r I' (s1.trans s')⟩
  | false=>exact k v L1 q x S1 H1 r1 I1 s1⟩
theorem fe_if (hc:FB X C d ba)(ha:FE X C a ea)(hb:FE X C b eb):FE X C (.IfExp d a b pos) (eIf ba ea eb):=PE.imp (c2l hc ha hb) λσ H Q ⟨c,L,S,Q0,I,h,k⟩ =>
 ⟨c,L,S,_,I,h,λt L1 hv S1 H1 I1 s1=>by
  cases t with
  | true=>exact⟨c,L1,S1,Q0,I1,hv,λv L' q x S' H' r I' s'=>k v L' q x S' H' r I' (s1.trans s')⟩
  | false=>exact⟨c,L1,S1,Q0,I1,hv,λv L' q x S' H' r I' s'=>k v L' q x S' H' r I' (s1.trans s')⟩⟩
theorem fb_val (hp:c4q a=true)(ha:FR X C a ea):FB X C a (a1f ea):=PT.imp (c2e ha (b0a hp)) λσ H Q ⟨c,L,S,Q0,I,h,k⟩ =>
 ⟨c,L,S,_,I,h,λv L1 hv x S1 H1 r1 I1 s1=>by
  obtain⟨t,e,q⟩:=wpx hv
  exact⟨t,b6c I1.sub r1 e,k t L1 q S1 H1 I1 s1⟩⟩
theorem fb_not (ha:FB X C a ba):FB X C (.UnaryOp .Not a pos) (b2y ba):=PT.imp (d0u ha) λσ H Q ⟨c,L,S,Q0,I,h,k⟩=>⟨c,L,S,_,I,h,λt L1 hv S1 H1 I1 s1=>k _ L1 hv S1 H1 I1 s1⟩
theorem d8y (ha:FB X C a ba):FW X C (.BoolOp .And [a] pos) ba:=c6d ha
theorem fw_or1 (ha:FB X C a ba):FW X C (.BoolOp .Or [a] pos) ba:=d0r ha
theorem fw_and {rest:List Expr}(ha:FB X C a ba)(hb:FW X C (.BoolOp .And (b :: rest) pos) bb):FW X C (.BoolOp .And (a :: b :: rest) pos) (b5p ba bb):=PW.imp (d0s ha hb) λσ H Q ⟨c,L,S,Q0,I,h,k⟩ =>
 ⟨c,L,S,_,I,h,λt L1 hv S1 H1 I1 s1=>by
  cases t with
  | true=>exact⟨c,L1,S1,Q0,I1,hv,λv L' q S' H' I' s'=>k v L' q S' H' I' (s1.trans s')⟩
  | false=>exact k _ L1 hv S1 H1 I1 s1⟩
theorem fw_or {rest:List Expr}(ha:FB X C a ba)(hb:FW X C (.BoolOp .Or (b :: rest) pos) bb):FW X C (.BoolOp .Or (a :: b :: rest) pos) (bOr ba bb):=PW.imp (d7q ha hb) λσ H Q ⟨c,L,S,Q0,I,h,k⟩ =>
 ⟨c,L,S,_,I,h,λt L1 hv S1 H1 I1 s1=>by
  cases t with
  | false=>exact⟨c,L1,S1,Q0,I1,hv,λv L' q S' H' I' s'=>k v L' q S' H' I' (s1.trans s')⟩
  | true=>exact k _ L1 hv S1 H1 I1 s1⟩
theorem fb_w (h:FW X C a ba):FB X C a ba:=PW.pt h
theorem fa_nil:FA X C [] a0i:=PA.imp a2j λσ H Q ⟨c,L,S,Q0,I,h,k⟩=>k [] L h [] S H rfl I (Same.refl S)
theorem e1f {xs:List Expr}{as:AW}(hs:a0j a=false)(ha:FE X C a ea)(hr:FA X C xs as):FA X C (a :: xs) (a0a ea as):=PA.imp (a0u ha hr (a0f hs)) λσ H Q ⟨c,L,S,Q0,I,h,k⟩ =>
 ⟨c,L,S,_,I,h,λv L1 hv x S1 H1 r1 I1 s1=>⟨c,L1,S1,_,I1,hv,λvs L2 hvs us S2 H2 r2 I2 s2=>k _ L2 hvs _ S2 H2 ⟨x,us,rfl,r1.mono s2,r2⟩ I2 (s1.trans s2)⟩⟩
theorem fe_tup {xs:List Expr}{as:AW}{m:Nat}(h:FA X C xs as):FE X C (.Tuple xs m pos) (a3k as):=PE.imp (d0y h) λσ H Q ⟨c,L,S,Q0,I,h,k⟩ =>
 ⟨c,L,S,_,I,h,λvs L1 hv us S1 H1 r1 I1 s1=>⟨by have:=a0y;rw[<- r1.length];exact Nat.le_trans hv.1 this,λp hp=>(b2c I1 λx S' H' r I' s'=>k _ L1 hv.2 x S' H' r I' (s1.trans s')).tup _ _ p rfl r1 hp⟩⟩
theorem fe_lst {xs:List Expr}{as:AW}(h:FA X C xs as):FE X C (.List xs pos) (a9b as):=PE.imp (c4r h) λσ H Q ⟨c,L,S,Q0,I,h,k⟩ =>
 ⟨c,L,S,_,I,h,λvs L1 hv us S1 H1 r1 I1 s1=>⟨by have:=a0y;rw[<- r1.length];exact Nat.le_trans hv.1 this,λp hp=>(b2c I1 λx S' H' r I' s'=>k _ L1 hv.2 x S' H' r I' (s1.trans s')).lst _ _ p rfl r1 hp⟩⟩
theorem ff_lst {xs:List Expr}{as:AW}(h:FA X C xs as):FF X C (.List xs pos) (a9b as):=PE.imp (c4r h) λσ H Q ⟨c,L,S,Q0,I,h,k⟩ =>
 ⟨c,L,S,_,I,h,λvs L1 hv us S1 H1 r1 I1 s1=>⟨by have:=a0y;rw[<- r1.length];exact Nat.le_trans hv.1 this,λp hp=>(d1w I1 ⟨vs,rfl⟩ λa S' H' o fr I' s'=>k _ L1 hv.2 a S' H' o fr I' (s1.trans s')).lst _ _ p rfl r1 hp⟩⟩
theorem fe_ix (hs:a2b b=false)(ha:FE X C a ea)(hb:FR X C b eb):FE X C (.Subscript a b pos) (eOp ixF ea eb):=PE.imp (c6q q_ix ha hb (a4j hs)) λσ H Q ⟨c,L,S,Q0,I,h,k⟩ =>
 go2 ⟨c,L,S,λx y L2=>wp (ixF x y) λz=>Q0 z L2,I,h,λv w L' S' H' x y q r1 r2 I' s'=>by
  obtain⟨z,e,q⟩:=wpx q
  exact⟨S',v,w,z,I'.sub,.inl r1,r2,e,λu r=>k z L' q u S' H' r I' s'⟩⟩
theorem fe_ixN (G:Good X C n sp){i:Nat}{nx:Str}(hs:a2b b=false)(h:C.nm i nx=true)(hb:FR X C b eb):FE X C (.Subscript (.Name nx p) b pos) (a9n ixF i eb):=PE.imp (c6q q_ix (a1k G h) hb (a4j hs)) λσ H Q ⟨c,L,S,Q0,I,h,k⟩ =>
 go2N ⟨c,L,S,λx y L2=>wp (ixF x y) λz=>Q0 z L2,I,h,λv w L' S' H' x y q r1 r2 I' s'=>by
  obtain⟨z,e,q⟩:=wpx q
  exact⟨S',v,w,z,I'.sub,r1,r2,e,λu r=>k z L' q u S' H' r I' s'⟩⟩
theorem d9k:FO X C none b4w:=PO.imp c6l λσ H Q ⟨c,L,S,Q0,I,h,k⟩=>k none L h S H I (Same.refl S)
theorem d9j (h:FE X C a ea):FO X C (some a) (b0f ea):=PO.imp (c6k h) λσ H Q ⟨c,L,S,Q0,I,h,k⟩ =>
 ⟨c,L,S,_,I,h,λv L1 hv x S1 H1 r1 I1 s1=>by
  obtain⟨i,e,q⟩:=wpx hv
  cases a1g e
  exact⟨i,r1,k _ L1 q S1 H1 I1 s1⟩⟩
variable {xl xh:Option Expr}{wl wh:OW}{p2:Pos}
theorem fe_sl (ha:FE X C a ea)(hl:FO X C xl wl)(hh:FO X C xh wh):FE X C (.Subscript a (.Slice xl xh none p2) pos) (eSl ea wl wh):=PE.imp (b3m q_sl ha hl hh) λσ H Q ⟨c,L,S,Q0,I,h,k⟩ =>
 ⟨c,L,S,_,I,h,λv L1 hv x S1 H1 r1 I1 s1=>⟨c,L1,S1,_,I1,hv,λo1 L2 h1 S2 H2 I2 s2=>⟨c,L2,S2,_,I2,h1,λo2 L3 h2 S3 H3 I3 s3=>by
  obtain⟨z,e,q⟩:=wpx h2
  exact⟨S3,v,z,I3.sub,.inl (r1.mono (s2.trans s3)),e,b2c I3 λx S' H' r I' s'=>k z L3 q x S' H' r I' (s1.trans (s2.trans (s3.trans s')))⟩⟩⟩⟩
end
section
variable {X:Cx}{C:CC}{n:Nat}{sp:Γd->Nat->Sp}{a b d x y z:Expr}{ea eb ec:EW}{ba bb:BW}{pos p:Pos}
variable {K:Γd}{c:Cn}{md:Md}{L:a0c}{σ:L2.St}{S H:Hp}{i:Nat}{nx:Str}
variable {xl xh:Option Expr}{wl wh:OW}{p2:Pos}
def sliceL (k:Nat)(l h:OW):EW:=λL Q=>eSlN k l h L λz L'=>isL z=true/\(∃ ps,z=.lst ps)/\Q z L'
theorem d3q {f:FV->Option FV}{Q:VK}(hh:lv K md (eUn f ea) σ H Q):tCB (Rc K f) (c1n (lr K md ea) tNil) σ H Q:=by
 obtain⟨c,L,S,Q0,I,h,k⟩:=hh
 refine⟨c,L,S,_,I,h,λv L1 hv x S1 H1 r1 I1 s1=>?_⟩
 obtain⟨z,e,q⟩:=wpx hv
 exact⟨S1,v,x,z,rfl,I1.sub,r1,e,b2c I1 λx S' H' r I' s'=>k z L1 q x S' H' r I' (s1.trans s')⟩
theorem b0u {id nm:String}{f:FV->Option FV}(hc:a1j X.nox (.builtin id) (Rc X.K f))(G:Good X C n sp)(hb:nm∈bltNames)(hv:bootBuiltins (Γe nm)=some (.builtin id))(h1:Γe nm≠"__name__")(h2:(Γe nm == ("__debug__":Str))=false)(hg:C.gl (Γe nm)=true)(hs:a0j a=false)(ha:FR X C a ea) :
  FE X C (.Call (.Name (Γe nm) p) [a] [] pos) (eUn f ea):=PE.imp (a3w hc (G.gl hg) (G.blt nm hb) hv (a0u ha a2j (a0f hs)) h1 h2 (a0f hs) rfl) λσ H Q h=>d3q h
theorem c8g {T nm:String}{f:FV->Option FV}(hc:a1j X.nox (.type T) (Rc X.K f))(G:Good X C n sp)(hb:nm∈bltNames)(hv:bootBuiltins (Γe nm)=some (.type T))(h1:Γe nm≠"__name__")(h2:(Γe nm == ("__debug__":Str))=false)(hg:C.gl (Γe nm)=true)(hs:a0j a=false)(ha:FR X C a ea) :
  FE X C (.Call (.Name (Γe nm) p) [a] [] pos) (eUn f ea):=PE.imp (a5w hc (G.gl hg) (G.blt nm hb) hv (a0u ha a2j (a0f hs)) h1 h2 (a0f hs) rfl) λσ H Q h=>d3q h
theorem fe_len (G:Good X C n sp)(hg:C.gl (Γe "len")=true)(hs:a0j a=false)(ha:FR X C a ea):FE X C (.Call (.Name (Γe "len") p) [a] [] pos) (eUn a9m ea):=b0u e1y G (by decide) (by nofun) (by nofun) (by nofun) hg hs ha
theorem fe_abs (G:Good X C n sp)(hg:C.gl (Γe "abs")=true)(hs:a0j a=false)(ha:FR X C a ea):FE X C (.Call (.Name (Γe "abs") p) [a] [] pos) (eUn d4c ea):=b0u e2c G (by decide) (by nofun) (by nofun) (by nofun) hg hs ha
theorem fe_sum (G:Good X C n sp)(hg:C.gl (Γe "sum")=true)(hs:a0j a=false)(ha:FR X C a ea):FE X C (.Call (.Name (Γe "sum") p) [a] [] pos) (eUn c5r ea):=b0u (c8y G.calm) G (by decide) (by nofun) (by nofun) (by nofun) hg hs ha
theorem fe_all (G:Good X C n sp)(hg:C.gl (Γe "all")=true)(hs:a0j a=false)(ha:FR X C a ea):FE X C (.Call (.Name (Γe "all") p) [a] [] pos) (eUn c4g ea):=b0u (e2b G.calm) G (by decide) (by nofun) (by nofun) (by nofun) hg hs ha
theorem fe_any (G:Good X C n sp)(hg:C.gl (Γe "any")=true)(hs:a0j a=false)(ha:FR X C a ea):FE X C (.Call (.Name (Γe "any") p) [a] [] pos) (eUn d5s ea):=b0u (e2a G.calm) G (by decide) (by nofun) (by nofun) (by nofun) hg hs ha
theorem d9v (G:Good X C n sp)(hg:C.gl (Γe "min")=true)(hs:a0j a=false)(ha:FR X C a ea):FE X C (.Call (.Name (Γe "min") p) [a] [] pos) (eUn b4x ea):=b0u (d3s G.calm) G (by decide) (by nofun) (by nofun) (by nofun) hg hs ha
theorem d5a (G:Good X C n sp)(hg:C.gl (Γe "int")=true)(hs:a0j a=false)(ha:FR X C a ea):FE X C (.Call (.Name (Γe "int") p) [a] [] pos) (eUn a9r ea):=c8g e1z G (by decide) (by nofun) (by nofun) (by nofun) hg hs ha
theorem d4z (G:Good X C n sp)(hg:C.gl (Γe "tuple")=true)(hs:a0j a=false)(ha:FR X C a ea):FE X C (.Call (.Name (Γe "tuple") p) [a] [] pos) (eUn a3f ea):=c8g c8x G (by decide) (by nofun) (by nofun) (by nofun) hg hs ha
theorem d9y (G:Good X C n sp)(hg:C.gl (Γe "list")=true)(hs:a0j a=false)(ha:FR X C a ea):FE X C (.Call (.Name (Γe "list") p) [a] [] pos) (eUn a4c ea):=c8g c5h G (by decide) (by nofun) (by nofun) (by nofun) hg hs ha
theorem d9r (G:Good X C n sp)(hg:C.gl (Γe "list")=true)(hs:a0j a=false)(ha:FR X C a ea):FF X C (.Call (.Name (Γe "list") p) [a] [] pos) (eUn a4c ea) :=
 PE.imp (a5w c5h (G.gl hg) (G.blt "list" (by decide)) (by nofun) (a0u ha a2j (a0f hs)) (by nofun) (by nofun) (a0f hs) rfl) λσ H Q ⟨c,L,S,Q0,I,h,k⟩ =>
 ⟨c,L,S,_,I,h,λv L1 hv x S1 H1 r1 I1 s1=>by
  obtain⟨z,e,q⟩:=wpx hv
  obtain⟨ps,e1,rfl⟩:=mpd e
  exact⟨S1,v,x,_,rfl,I1.sub,r1,e,d1w I1 ⟨ps,rfl⟩ λa S' H' o fr I' s'=>k _ L1 q a S' H' o fr I' (s1.trans s')⟩⟩
theorem d2x {id nm:String}{f:FV->FV->Option FV}(hc:a1j X.nox (.builtin id) (Rc2 X.K f))(G:Good X C n sp)(hb:nm∈bltNames)(hv:bootBuiltins (Γe nm)=some (.builtin id))(h1:Γe nm≠"__name__")(h2:(Γe nm == ("__debug__":Str))=false)(hg:C.gl (Γe nm)=true)(hs:a0j a=false)(hs2:a0j b=false)(ha:FE X C a ea)(hb':FR X C b eb) :
  FE X C (.Call (.Name (Γe nm) p) [a,b] [] pos) (eOp f ea eb):=PE.imp (a3w hc (G.gl hg) (G.blt nm hb) hv (a0u ha (a0u hb' a2j (a0f hs2)) (a0f hs)) h1 h2 (a0f hs) (by rw[a0f hs2];rfl)) λσ H Q ⟨c,L,S,Q0,I,h,k⟩ =>
 ⟨c,L,S,_,I,h,λv L1 hv x S1 H1 r1 I1 s1=>⟨c,L1,S1,_,I1,hv,λw L2 hw y S2 H2 r2 I2 s2=>by
  obtain⟨z,e,q⟩:=wpx hw
  exact⟨S2,v,w,x,y,z,rfl,I2.sub,.inl (r1.mono s2),r2,e,b2c I2 λx S' H' r I' s'=>k z L2 q x S' H' r I' (s1.trans (s2.trans s'))⟩⟩⟩
theorem d9w (G:Good X C n sp)(hg:C.gl (Γe "min")=true)(hs:a0j a=false)(hs2:a0j b=false)(ha:FE X C a ea)(hb':FR X C b eb):FE X C (.Call (.Name (Γe "min") p) [a,b] [] pos) (eOp b7z ea eb):=d2x (d3t G.calm) G (by decide) (by nofun) (by nofun) (by nofun) hg hs hs2 ha hb'
theorem d9x (G:Good X C n sp)(hg:C.gl (Γe "max")=true)(hs:a0j a=false)(hs2:a0j b=false)(ha:FE X C a ea)(hb':FR X C b eb):FE X C (.Call (.Name (Γe "max") p) [a,b] [] pos) (eOp c2u ea eb):=d2x (d3u G.calm) G (by decide) (by nofun) (by nofun) (by nofun) hg hs hs2 ha hb'
def b3b:Ty->String|.int=>"int" | .bool=>"bool" | .str=>"str" | .list=>"list" | .tuple=>"tuple"
theorem c1h {v:FV}{u:V}{t:Ty}{r:Bool}(s:Same S H)(rv:RH K S H v u)(e:b0q v t=some r):∃ T,TyOf K H u (.type T)/\PySem.W.kitOne K (.type T) (.type (b3b t))=some r:=by
 cases v with
 | non=>cases (show u=V.non from rv.val rfl);exact⟨_,.non,by cases e;cases t<;>rfl⟩
 | bl c=>cases rv.bl;exact⟨_,.bl _,by cases e;cases t<;>rfl⟩
 | int c=>cases rv.int;exact⟨_,.int _,by cases e;cases t<;>rfl⟩
 | str c=>cases (show u=V.str _ from rv.val rfl);exact⟨_,.str _,by cases e;cases t<;>rfl⟩
 | tup ps =>
  obtain⟨a,xs,rfl,h1,h2⟩:=rv.tup s
  exact⟨_,.tup h1,by cases e;cases t<;>rfl⟩
 | lst l =>
  obtain⟨a,xs,rfl,h1,h2⟩:=rv.lst s
  exact⟨_,.lst h1,by cases e;cases t<;>rfl⟩
 | scr ns=>cases e
 | dct _ _=>cases e
 | dci _ _=>cases e
 | dcz _ _ _=>cases e
 | obj _ _ _ _=>cases e
 | dcn _ _ _=>cases e
 | shn d=>cases (show u=V.str _ from rv.val rfl);exact⟨_,.str _,by cases e;cases t<;>rfl⟩
theorem fe_isi {t:Ty}{tn:Str}(G:Good X C n sp)(hg:C.gl (Γe "isinstance")=true)(ht:tn=Γe (b3b t))(hg2:C.gl tn=true)(hs:a0j a=false)(ha:FR X C a ea) :
  FE X C (.Call (.Name (Γe "isinstance") p) [a,.Name tn p2] [] pos) (eUn (c7u t) ea):=by
 subst ht
 have cc:a1j X.nox (.builtin "isinstance") (λxs H Q=>∃ v c b T,xs=[v,.ty c]/\TyOf X.K H v (.type T)/\PySem.W.kitOne X.K (.type T) (.type c)=some b/\Q (.bl b) H):=by
  rintro pins s σ H xs us Q I r ⟨v,c,b,T,rfl,h1,h2,q⟩
  obtain⟨u,u',rfl,ru,ru'⟩:=c1g r
  obtain rfl:u'=.type c:=ru'
  exact b8s I ru h1 h2 λtk=>⟨.bl b,H,I.tok _,rfl,q⟩
 have tt:PE X.nox (.Name (Γe (b3b t)) p2) (tC (.ty (b3b t))):=by
  cases t<;>exact c6u (G.gl hg2) (G.blt _ (by decide)) (by nofun) rfl (by nofun) (by nofun)
 refine PE.imp (a3w cc (G.gl hg) (G.blt "isinstance" (by decide)) (by nofun) (a0u ha (a0u tt a2j rfl) (a0f hs)) (by nofun) (by nofun) (a0f hs) rfl) λσ H Q ⟨c,L,S,Q0,I,h,k⟩ =>
  ⟨c,L,S,_,I,h,λv L1 hv x S1 H1 r1 I1 s1=>?_⟩
 obtain⟨z,e,q⟩:=wpx hv
 obtain⟨r,e1,rfl⟩:=mpd e
 obtain⟨T,t1,t2⟩:=c1h I1.sub r1 e1
 exact⟨x,_,_,T,rfl,t1,t2,k _ L1 q _ S1 H1 rfl I1 s1⟩
def d5l (apos cpos:Pos):Bool:=apos.endLine == cpos.line
theorem fe_app (G:Good X C n sp){apos cpos:Pos}(h:C.nm i nx=true)(m:a0g C.md i=.own)(hl:d5l apos cpos=true)(hs:a0j a=false)(ha:FE X C a ea):FE X C (.Call (.Attribute (.Name nx p) (Γe "append") apos) [a] [] cpos) (a6w c5i i ea):=by
 refine PE.imp (c6t PySem.F.plainAttrs_list PySem.F.slot_list_append PySem.F.type_list_append a5y (a1k G h) (a0u ha a2j (a0f hs)) rfl (by rw[a0f hs];rfl) hl (a0f hs) rfl) λσ H Q ⟨c,L,S,Q0,I,h,k⟩=>?_
 obtain⟨v,e,h⟩:=wpx h
 obtain⟨v9,e9,h⟩:=wpx h
 cases a3o e9
 have e':=(a1v _ _ _).mp e
 have mi:a0g C.md i≠.imm:=λz=>by rw[m] at z;cases z
 obtain⟨l,e1,⟨_,ps,xs,e8,h1,_⟩,_⟩:=I.own i _ mi e'
 refine⟨_,e1,.inl ⟨rfl,xs,SqL.of h1⟩,c,L,S,_,I,h,λw L1 hw y S1 H1 r1 I1 s1=>?_⟩
 obtain⟨v1,e2,hw⟩:=wpx hw
 obtain⟨z,e3,q⟩:=wpx hw
 have e2':=(a1v _ _ _).mp e2
 obtain⟨qs,e4,e5⟩:=bnd e3
 cases a3o e4
 obtain⟨hb,rfl⟩:=itd e5
 obtain⟨l',f1,⟨f2,rs,zs,f3,f4,f5⟩,_⟩:=I1.own i _ mi e2'
 rw[e1] at f1;cases f1
 cases f3
 have:=a0y
 exact⟨l,zs,y,rfl,rfl,f4,by rw[<- f5.length];lia,k _ _ q .non S1 _ rfl (I1.write m e2' e1 (f5.append (RVs.one r1))) s1⟩
theorem fe_ext (G:Good X C n sp){apos cpos:Pos}(h:C.nm i nx=true)(m:a0g C.md i=.own)(hl:d5l apos cpos=true)(hs:a0j a=false)(ha:FR X C a ea):FE X C (.Call (.Attribute (.Name nx p) (Γe "extend") apos) [a] [] cpos) (a6w e1i i ea):=by
 have mt:MtR X.nox "list.extend" (λx xs H Q=>b6v x xs H Q ∨ d0j X.K x xs H Q):=λpins s σ H x xs v us Q I rx rv h=>h.elim (b7y pins s σ H x xs v us Q I rx rv) (c7g pins s σ H x xs v us Q I rx rv)
 refine PE.imp (c6t PySem.F.plainAttrs_list PySem.F.slot_list_extend PySem.F.type_list_extend mt (a1k G h) (a0u ha a2j (a0f hs)) rfl (by rw[a0f hs];rfl) hl (a0f hs) rfl) λσ H Q ⟨c,L,S,Q0,I,h,k⟩=>?_
 obtain⟨v,e,h⟩:=wpx h
 obtain⟨v9,e9,h⟩:=wpx h
 cases a3o e9
 have e':=(a1v _ _ _).mp e
 have mi:a0g C.md i≠.imm:=λz=>by rw[m] at z;cases z
 obtain⟨l,e1,⟨_,ps,xs,e8,h1,_⟩,_⟩:=I.own i _ mi e'
 refine⟨_,e1,.inl ⟨rfl,xs,SqL.of h1⟩,c,L,S,_,I,h,λw L1 hw y S1 H1 r1 I1 s1=>?_⟩
 obtain⟨v1,e2,hw⟩:=wpx hw
 obtain⟨z,e3,q⟩:=wpx hw
 have e2':=(a1v _ _ _).mp e2
 obtain⟨qs,e4,e5⟩:=bnd e3
 obtain⟨ys,e6,e7⟩:=bnd e5
 cases a3o e4
 obtain⟨hb,rfl⟩:=itd e7
 obtain⟨l',f1,⟨f2,rs,zs,f3,f4,f5⟩,_⟩:=I1.own i _ mi e2'
 rw[e1] at f1;cases f1
 cases f3
 have hbl:=a0y
 have l5:=f5.length
 have fin:∀ us,RVs X.K S1 ys us->Q .non (upd H1 l (.lst (zs++us))):=λus ru=>k _ _ q .non S1 _ rfl (I1.write m e2' e1 (f5.append ru)) s1
 cases w with
 | tup ws =>
  cases e6
  obtain⟨b,us,rfl,g1,g2⟩:=r1.tup I1.sub
  have l6:=g2.length
  exact .inr ⟨l,b,zs,us,rfl,rfl,f4,SqT.of g1,by lia,fin us g2⟩
 | lst ws =>
  cases e6
  obtain⟨b,us,rfl,g1,g2⟩:=r1.lst I1.sub
  have l6:=g2.length
  exact .inl ⟨l,b,zs,us,rfl,rfl,f4,g1,by lia,fin us g2⟩
 | _=>cases e6
end
def ArgsOk (K:Γd)(S H:Hp)(args:List FV)(vs:List V):Bool->Prop
 | false=>RVs K S args vs
 | true=>∃ v r a us,args=v :: r/\vs=.ref a :: us/\a3s K S H a v/\RVs K S r us
def c9e (K:Γd)(S' H' H:Hp)(v:FV)(x:V):Bool->Prop
 | false=>RV K S' v x
 | true=>∃ a,x=.ref a/\a3s K S' H' a v/\H a=none
def b3u (vs:List V):Bool->Option Addr
 | false=>none
 | true=>match vs with
  | .ref a :: _=>some a
  | _=>none
structure Kept (K:Γd)(S H S' H':Hp)(P:Option Addr)(w:FV):Prop where
 same:Same S S'
 sub:Same S' H'
 grow:∀ a o,S' a=some o->S a=some o ∨ H a=none ∨ a6e o=true
 keep:∀ a o,H a=some o->P≠some a->H' a=some o
 back:∀ a,P=some a->a3s K S' H' a w
def spQ (K:Γd)(call:CW)(io fr:Bool) (f:Nat):Sp:=λvs H Q E=>∃ S args Q0,Same S H/\ArgsOk K S H args vs io/\call f args Q0/\∀ z,Q0 z->∀ x S' H',Kept K S H S' H' (b3u vs io) z.2->c9e K S' H' H z.1 x fr->Q x H'
section
variable {X:Cx}{C:CC}{n:Nat}{sp:Γd->Nat->Sp}{a b d x y z:Expr}{ea eb ec:EW}{pos p:Pos}{call:CW}
variable {K:Γd}{c:Cn}{md:Md}{L:a0c}{σ:L2.St}{S H S' H':Hp}{i f:Nat}{nx:Str}{xs:List Expr}{as:AW}
def a2q (xs:List Expr):Bool:=xs.all λx=>!a0j x
theorem b3e:∀ {xs:List Expr}{env:Env},a2q xs=true->(backTo pos (starEach xs env)).any (·.1)=false
 | [],_,_=>rfl
 | x :: xs,env,h=>by
  have h:=b2 (show (!a0j x && a2q xs)=true from h)
  rw[a0f (nb h.1)]
  show (false || (backTo pos (starEach xs env)).any (·.1))=false
  rw[b3e h.2];rfl
theorem Kept.iv (I:Iv K c md L σ S H){w:FV}(k:Kept K S H S' H' none w):Iv K c md L σ S' H':=I.go3 k.same k.sub k.grow λa o e=>k.keep a o e (by simp)
theorem a6m (G:Good X C n sp){t:TA}(hf:C.fns[f]?=some nx)(hg:C.gl nx=true)(hd:(nx == ("__debug__":Str))=false)(hs:a2q (a :: xs)=true)(ha:PA X.nox (a :: xs) t):PE X.nox (.Call (.Name nx p) (a :: xs) [] pos) (λσ H Q=>t σ H λvs H1=>sp X.K f vs H1 Q E0):=by
 obtain⟨fa,fd,ps,h1,h2,h3,h4⟩:=G.fns f nx hf
 have h:=b2 (show (!a0j a && a2q xs)=true from hs)
 refine PE.imp (c6s (X:=X.nox) h4 G.room.toRoom (G.gl hg) h1 h2 h3 .nil d7x ha hd (a0f (nb h.1)) (b3e h.2)) λσ H Q q=>?_
 show t σ H λvs H1=>sp X.K f (vs++[]) H1 Q E0
 have e:(λvs H1=>sp X.K f (vs++[]) H1 Q E0)=λvs H1=>sp X.K f vs H1 Q E0:=by funext vs H1;rw[List.append_nil]
 rw[e];exact q
theorem e0e (G:Good X C n sp)(e:sp X.K f=spQ X.K call false false f)(hf:C.fns[f]?=some nx)(hg:C.gl nx=true)(hd:(nx == ("__debug__":Str))=false)(hs:a2q (a :: xs)=true)(ha:FA X C (a :: xs) as):FE X C (.Call (.Name nx p) (a :: xs) [] pos) (a1a call f as) :=
 PE.imp (a6m G hf hg hd hs ha) λσ H Q ⟨c,L,S,Q0,I,h,k⟩=>⟨c,L,S,_,I,h,λvs L1 hv us S1 H1 r1 I1 s1=>by
  rw[e]
  exact⟨S1,vs,_,I1.sub,r1,hv,λz q x S' H' kp r=>k _ L1 q x S' H' r (kp.iv I1) (s1.trans kp.same)⟩⟩
theorem d9s (G:Good X C n sp)(e:sp X.K f=spQ X.K call false true f)(hf:C.fns[f]?=some nx)(hg:C.gl nx=true)(hd:(nx == ("__debug__":Str))=false)(hs:a2q (a :: xs)=true)(ha:FA X C (a :: xs) as):FF X C (.Call (.Name nx p) (a :: xs) [] pos) (a1a call f as) :=
 PE.imp (a6m G hf hg hd hs ha) λσ H Q ⟨c,L,S,Q0,I,h,k⟩=>⟨c,L,S,_,I,h,λvs L1 hv us S1 H1 r1 I1 s1=>by
  rw[e]
  refine⟨S1,vs,_,I1.sub,r1,hv,λz q x S' H' kp r=>?_⟩
  obtain⟨a,rfl,o,hn⟩:=r
  exact k _ L1 q a S' H' o (I1.fresh hn) (kp.iv I1) (s1.trans kp.same)⟩
theorem b7w {v:FV}{q:Addr}(I:Iv K c md L σ S H)(o:a3s K S H q v)(fr:a6q c md L σ q):∃ u,H q=some u/\Iv K c md L σ (upd S q u) H/\RV K (upd S q u) v (.ref q):=by
 obtain⟨h1,ps,us,e0,h2,h3⟩:=o
 have s:=a0h (o:=c6z v us) h1
 refine⟨_,h2,⟨I.len,λi v h e=>let ⟨x,e1,r⟩:=I.imm i v h e;⟨x,e1,r.mono s⟩,λi v h e=>?_,I.dis,λa u e=>?_,I.frame,I.s0.trans s,λa u e=>?_,I.lent,I.fzs,I.fzm,I.fzp,λp hp=>let ⟨g1,g2,g3⟩:=I.prs p hp;⟨g1,by rw[a0e (fr.2.1 p hp)];exact g2,g3⟩,I.ntp,I.lnt1,I.tie⟩,?_⟩
 ·obtain⟨b,e1,⟨g1,rs,zs,g2,g3,g4⟩,g5⟩:=I.own i v h e
  have hb:b≠q:=λz=>by subst z;exact fr.2.2 i v h e e1
  exact⟨b,e1,⟨by rw[a0e hb];exact g1,rs,zs,g2,g3,g4.mono s⟩,g5⟩
 ·by_cases z:a=q
  ·subst z;rw[a0d] at e;cases e;exact h2
  ·rw[a0e z] at e;exact I.sub a u e
 ·by_cases z:a=q
  ·subst z;exact .inr (.inl fr.1)
  ·rw[a0e z] at e;exact I.grow a u e
 ·cases v with
  | lst qs=>cases e0;exact⟨q,us,rfl,a0d,h3.mono s⟩
  | dct ks vs=>obtain⟨hl,rfl⟩:=itd e0;exact⟨q,us,rfl,hl,a0d,h3.mono s⟩
  | dci ks vs=>obtain⟨hl,rfl⟩:=itd e0;exact⟨q,us,rfl,hl,a0d,h3.mono s⟩
  | dcz o ks vs=>obtain⟨hl,rfl⟩:=itd e0;exact⟨q,us,rfl,hl,a0d,h3.mono s⟩
  | obj C dx fs gs=>cases e0;exact⟨q,rfl,a0d⟩
  | dcn z ks vs=>obtain⟨hl,rfl⟩:=itd e0;exact⟨q,us,rfl,hl,a0d,h3.mono s⟩
  | _=>cases e0
theorem a2i (h:FF X C a ea):FE X C a ea:=PE.imp h λσ H Q ⟨c,L,S,Q0,I,h,k⟩=>⟨c,L,S,Q0,I,h,λv L' q a S' H' o fr I' s'=>by
 obtain⟨u,hu,I2,r⟩:=b7w I' o fr
 exact k v L' q _ _ H' r I2 (s'.trans (a0h o.1))⟩
theorem b7q (G:Good X C n sp){t:TA}(h:C.nm i nx=true)(hr:PA X.nox xs t):PA X.nox (.Name nx p :: xs) (c1n (c9v i) t):=a0u (a1k G h) hr rfl
theorem b4o {Q:VK}{fr:Bool}{Q1:FV->a0c->Prop}(I:Iv K c md L σ S H)(m:a0g md i=.own)(h:a0q call f i as L Q1)
  (k:∀ v L' x H1 S' H',Q1 v L'->c9e K S' H' H1 v x fr->Iv K c md L' σ S' H'->Same S S'->(∀ a,H1 a=none->a6q c md L' σ a)->Q x H'):c1n (c9v i) (la K md as) σ H λvs H1=>spQ K call true fr f vs H1 Q E0:=by
 obtain⟨v0,e,h⟩:=wpx h
 have mi:a0g md i≠.imm:=λz=>by rw[m] at z;cases z
 obtain⟨l,e1,_⟩:=I.own i v0 mi ((a1v _ _ _).mp e)
 refine⟨_,e1,c,L,S,_,I,h,λvs L1 hv us S1 H1 r1 I1 s1=>?_⟩
 obtain⟨v1,e2,q⟩:=wpx hv
 have e2:=(a1v _ _ _).mp e2
 obtain⟨l',f1,o,_⟩:=I1.own i v1 mi e2
 rw[e1] at f1;cases f1
 refine⟨S1,v1 :: vs,_,I1.sub,⟨v1,vs,l,us,rfl,rfl,o,r1⟩,q,λz q x S' H' kp r=>?_⟩
 have I2:=I1.back3 m e2 e1 kp.same kp.sub kp.grow (λb o e n=>kp.keep b o e λz=>n (by cases z;rfl)) (kp.back l rfl)
 refine k _ _ x H1 S' H' q r I2 (s1.trans kp.same) λa ha=>⟨I1.h0 ha,(I1.fresh ha).2.1,λj w mj ej z=>?_⟩
 obtain⟨_,_,g2⟩:=I1.fresh ha
 by_cases hj:j=i
 ·subst hj;exact g2 j v1 mj e2 z
 ·rw[List.getElem?_set_ne (Ne.symm hj)] at ej;exact g2 j w mj ej z
theorem d5d (G:Good X C n sp){np:Str}{pp:Pos}(e:sp X.K f=spQ X.K call true false f)(hf:C.fns[f]?=some np)(hg:C.gl np=true)(hd:(np == ("__debug__":Str))=false)(h:C.nm i nx=true)(m:a0g C.md i=.own)(hs:a2q xs=true)(ha:FA X C xs as):FE X C (.Call (.Name np pp) (.Name nx p :: xs) [] pos) (a0q call f i as) :=
 PE.imp (a6m G hf hg hd (show (true && a2q xs)=true by rw[hs];rfl) (b7q G h ha)) λσ H Q ⟨c,L,S,Q0,I,h,k⟩=>by
  rw[e]
  exact b4o I m h λv L' x H1 S' H' q r I' s' _=>k v L' q x S' H' r I' s'
theorem d4y (G:Good X C n sp){np:Str}{pp:Pos}(e:sp X.K f=spQ X.K call true true f)(hf:C.fns[f]?=some np)(hg:C.gl np=true)(hd:(np == ("__debug__":Str))=false)(h:C.nm i nx=true)(m:a0g C.md i=.own)(hs:a2q xs=true)(ha:FA X C xs as):FF X C (.Call (.Name np pp) (.Name nx p :: xs) [] pos) (a0q call f i as) :=
 PE.imp (a6m G hf hg hd (show (true && a2q xs)=true by rw[hs];rfl) (b7q G h ha)) λσ H Q ⟨c,L,S,Q0,I,h,k⟩=>by
  rw[e]
  refine b4o I m h λv L' x H1 S' H' q r I' s' fr=>?_
  obtain⟨a,rfl,o,hn⟩:=r
  exact k v L' q a S' H' o (fr a hn) I' s'
end
section
variable {K:Γd}{c:Cn}{md:Md}{L:a0c}{σ:L2.St}{S H:Hp}{i:Nat}{v:FV}{x:V}{a:Addr}
theorem Iv.setI (I:Iv K c md L σ S H)(m:a0g md i=.imm)(r:RV K S v x):Iv K c md (L.set i (some v)) (σ.set i (some x)) S H :=
 I.set (λa h z=>by subst z;exact (I.lent a h).1 m) (λz=>by rw[m] at z;cases z) (.inl ⟨m,r⟩)
theorem Iv.prot (I:Iv K c md L σ S H){o:HO}(h:H a=some o)(hs:S a=none)(ho:∀ i v,(a0g md i).w=true->L[i]?=some (some v)->σ[i]?≠some (some (.ref a)))(nt:a6e o=false:=by first|rfl|exact a4x _ _):Iv K { c with pr:=(a,o) :: c.pr } md L σ S H :=
 ⟨I.len,I.imm,I.own,I.dis,I.sub,I.frame,I.s0,I.grow,I.lent,I.fzs,I.fzm,λp hp=>let ⟨xs,h⟩:=I.fzp p hp;⟨xs,Γh _ h⟩,λp hp=>(List.mem_cons.mp hp).elim (λe=>e ▸ ⟨h,hs,ho⟩) (I.prs p),λp hp=>(List.mem_cons.mp hp).elim (λe=>e ▸ nt) (I.ntp p),I.lnt1,I.tie⟩
theorem b3r:∀ {md:Md}{i j:Nat}{m:Mo},i<md.length->a0g (md.set i m) j=if j=i then m else a0g md j
 | [],i,j,m,h=>absurd h (Nat.not_lt_zero _)
 | a :: md,0,0,m,h=>rfl
 | a :: md,0,j+1,m,h=>by simp[a0g]
 | a :: md,i+1,0,m,h=>by simp[a0g]
 | a :: md,i+1,j+1,m,h=>by
  have:=b3r (md:=md) (i:=i) (j:=j) (m:=m) (by simpa using h)
  simpa[a0g] using this
theorem c4v:∀ {md:Md}{i:Nat},a0g md i=.own->i<md.length
 | [],i,h=>by simp[a0g] at h
 | a :: md,0,h=>by simp
 | a :: md,i+1,h=>by simpa using c4v (md:=md) (i:=i) h
theorem Iv.frz (I:Iv K c md L σ S H){ob:HO}(m:a0g md i=.own)(e:L[i]?=some (some v))(e1:σ[i]?=some (some (.ref a)))(h:H a=some ob) :
  Iv K { c with fz:=(i,a) :: c.fz,pr:=(a,ob) :: c.pr } (md.set i .frz) L σ S H/\∀ L σ S H,Iv K { c with fz:=(i,a) :: c.fz,pr:=(a,ob) :: c.pr } (md.set i .frz) L σ S H->Iv K c md L σ S H:=by
 have hl:=c4v m
 have mi:a0g md i≠.imm:=λz=>by rw[m] at z;cases z
 have M:∀ j,a0g (md.set i .frz) j=if j=i then .frz else a0g md j:=λj=>b3r hl
 have im:∀ {j},a0g (md.set i .frz) j=.imm↔a0g md j=.imm:=λ{j}=>by
  rw[M]
  by_cases q:j=i
  ·subst q;rw[if_pos rfl,m];simp
  ·rw[if_neg q]
 have gm:∀ {j},(a0g md j).g=true->a0g (md.set i .frz) j=a0g md j:=λ{j} h=>by
  rw[M,if_neg λq=>by rw[q,m] at h;cases h]
 have gm':∀ {j k x},a0g (md.set i .frz) j=.gst k x->a0g md j=.gst k x:=λ{j k x} h=>by
  rw[M] at h
  split at h
  ·cases h
  ·exact h
 have om:∀ {j},a0g (md.set i .frz) j=.ob->a0g md j=.ob:=λ{j} h=>by
  rw[M] at h
  split at h
  ·cases h
  ·exact h
 have nfz:∀ p∈c.fz,p.1≠i:=λp hp z=>by have:=(I.fzs p hp).1;rw[z,m] at this;cases this
 have npr:∀ p∈c.pr,p.1≠a:=λp hp z=>(I.prs p hp).2.2 i v (Mo.w_own m) e (by rw[z];exact e1)
 obtain⟨a',f1,o,_⟩:=I.own i v mi e
 rw[e1] at f1;cases f1
 have nt:a6e ob=false:=by
  obtain⟨_,_,_,_,h5,_⟩:=o
  rw[h] at h5;rw[Option.some.inj h5,a4x]
 constructor
 ·refine⟨I.len,λj w h=>I.imm j w (im.mp h),λj w h=>I.own j w (λz=>h (im.mpr z)),λj k w u b h1 h2=>I.dis j k w u b (λz=>h1 (im.mpr z)) (λz=>h2 (im.mpr z)),I.sub,I.frame,I.s0,I.grow,λb hb=>let ⟨g1,g2⟩:=I.lent b hb;⟨λz=>g1 (im.mp z),g2⟩,λp hp=>?_,λj w hm hj=>?_,λp hp=>?_,λp hp=>?_,λp hp=>(List.mem_cons.mp hp).elim (λz=>by rw[z];exact nt) (I.ntp p),λq hq=>let ⟨g1,g2⟩:=I.lnt1 q hq;⟨by rw[gm g1];exact g1,g2⟩,λj k x C dx fs w h1 h2=>I.tie j k x C dx fs w (gm' h1) (om h2)⟩
  ·rcases List.mem_cons.mp hp with rfl|hp
   ·exact⟨by rw[M,if_pos rfl],e1,v,e⟩
   ·obtain⟨g1,g2⟩:=I.fzs p hp
    exact⟨by rw[M,if_neg (nfz p hp)];exact g1,g2⟩
  ·by_cases q:j=i
   ·subst q;exact⟨a,Γn⟩
   ·rw[M,if_neg q] at hm
    obtain⟨b,g1⟩:=I.fzm j w hm hj
    exact⟨b,Γh _ g1⟩
  ·rcases List.mem_cons.mp hp with rfl|hp
   ·exact⟨_,Γn⟩
   ·obtain⟨ys,g⟩:=I.fzp p hp
    exact⟨ys,Γh _ g⟩
  ·have own':∀ {j},(a0g (md.set i .frz) j).w=true->j≠i/\(a0g md j).w=true:=λ{j} z=>by
    by_cases q:j=i
    ·subst q;rw[M,if_pos rfl] at z;cases z
    ·rw[M,if_neg q] at z;exact⟨q,z⟩
   rcases List.mem_cons.mp hp with rfl|hp
   ·exact⟨h,o.1,λj w hm hj hz=>(own' hm).1 (I.dis j i w v a (Mo.w_imm (own' hm).2) mi hj e hz e1)⟩
   ·obtain⟨g1,g2,g3⟩:=I.prs p hp
    exact⟨g1,g2,λj w hm=>g3 j w (own' hm).2⟩
 ·intro L σ S H J
  obtain⟨_,j1,_⟩:=J.fzs (i,a) Γn
  refine⟨J.len,λj w h=>J.imm j w (im.mpr h),λj w h=>J.own j w (λz=>h (im.mp z)),λj k w u b h1 h2=>J.dis j k w u b (λz=>h1 (im.mp z)) (λz=>h2 (im.mp z)),J.sub,J.frame,J.s0,J.grow,λb hb=>let ⟨g1,g2⟩:=J.lent b hb;⟨λz=>g1 (im.mpr z),g2⟩,λp hp=>?_,λj w hm hj=>?_,I.fzp,λp hp=>?_,I.ntp,λq hq=>?_,λj k x C dx fs w h1 h2=>?_⟩
  ·obtain⟨g1,g2⟩:=J.fzs p (Γh _ hp)
   rw[M,if_neg (nfz p hp)] at g1
   exact⟨g1,g2⟩
  ·have q:j≠i:=λz=>by rw[z,m] at hm;cases hm
   obtain⟨b,g1⟩:=J.fzm j w (by rw[M,if_neg q];exact hm) hj
   rcases List.mem_cons.mp g1 with z|g1
   ·exact absurd (Prod.mk.inj z).1 q
   ·exact⟨b,g1⟩
  ·obtain⟨g1,g2,g3⟩:=J.prs p (Γh _ hp)
   refine⟨g1,g2,λj w hm hj=>?_⟩
   by_cases q:j=i
   ·subst q;rw[j1];exact λz=>npr p hp (by cases z;rfl)
   ·exact g3 j w (by rw[M,if_neg q];exact hm) hj
  ·obtain⟨g1,g2⟩:=J.lnt1 q hq
   refine⟨?_,g2⟩
   rw[M] at g1
   split at g1
   ·cases g1
   ·exact g1
  ·have n1:j≠i:=λz=>by rw[z,m] at h1;cases h1
   have n2:k≠i:=λz=>by rw[z,m] at h2;cases h2
   exact J.tie j k x C dx fs w (by rw[M,if_neg n1];exact h1) (by rw[M,if_neg n2];exact h2)
end
def ItR (K:Γd)(c:Cn)(md:Md)(J:It)(xs:List FV)(S1:Hp):Prop :=
 ∀ (i:Nat)(L:a0c)(σ:L2.St)(S H:Hp),Iv K c md L σ S H->Same S1 S->(xs[i]?=none->J.stop i H)/\∀ p,xs[i]?=some p->J.go i H/\∀ v H',J.yld i H v H'->∃ S',Same S S'/\(∀ c md L σ,Iv K c md L σ S H->Iv K c md L σ S' H')/\RV K S' p v
def li (K:Γd)(md md':Md)(it:AW):TI:=λσ H R=>∃ c L S Q0,Iv K c md L σ S H/\it L Q0/\∀ xs L',Q0 xs L'->∀ J c' S' H',Iv K c' md' L' σ S' H'->(∀ L σ S H,Iv K c' md' L σ S H->Iv K c md L σ S H)->c'.H0=c.H0->ItR K c' md' J xs S'->Same S S'->R J H'
def FI (X:Cx)(C:CC)(md':Md)(tg iter:Expr)(it:AW):Prop:=PI X.nox tg iter (li X.K C.md md' it)
section
variable {X:Cx}{C:CC}{n:Nat}{sp:Γd->Nat->Sp}{a b d x y z tg:Expr}{ea eb ec:EW}{pos p:Pos}
variable {K:Γd}{c:Cn}{md:Md}{L:a0c}{σ:L2.St}{S H:Hp}{i:Nat}{nx:Str}
theorem PI.imp {X:Cx}{tg it:Expr}{t u:TI}(h:PI X tg it t)(f:∀ σ H R,u σ H R->t σ H R):PI X tg it u:=λpins s σ H R I hu=>h pins s σ H R I (f σ H R hu)
def Its (K:Γd):Bool->Addr->It
 | true,a=>Itl K a
 | false,a=>Itt K a
theorem b7j {X:Cx}{tg it:Expr}{te:TE}(h:PE X it te):PI X tg it (λσ H R=>te σ H λv H1=>∃ b a xs,v=.ref a/\SqB b X.K H1 a xs/\R (Its X.K b a) H1):=by
 intro pins s σ H R I hh
 refine thn (h pins s σ H _ I hh) λv s1 ⟨x,H1,I1,r1,b,a,xs,e,hq,q⟩=>?_
 subst e
 cases r1
 cases b with
 | true =>
  obtain⟨its,rv,p,hz⟩:=I1.list hq
  refine wpAny_pyIter_list p.isList ?_
  refine⟨s1.heap.objs.size,[s1.heap.objs.size],_,_,H1,rfl,I1.kept (t':=s1.toks) λb o e=>Γc _ e,b5y a _,⟨_,Γm _ rfl,rfl,rfl⟩,λb hb=>?_,q⟩
  have e:b=s1.heap.objs.size:=by simpa using hb
  subst e
  exact I1.fpOk (Γi _) (I1.hok.fresh (Γi _))
 | false =>
  obtain⟨its,rv,p,hz⟩:=I1.tuple hq
  refine wpAny_pyIter_tuple p ?_
  refine⟨s1.heap.objs.size,[s1.heap.objs.size],_,_,H1,rfl,I1.kept (t':=s1.toks) λb o e=>Γc _ e,b4p a _,⟨_,Γm _ rfl,rfl,rfl⟩,λb hb=>?_,q⟩
  have e:b=s1.heap.objs.size:=by simpa using hb
  subst e
  exact I1.fpOk (Γi _) (I1.hok.fresh (Γi _))
theorem b8r {t:Bool}{q:Addr}{ps:List FV}{S1:Hp}(h:∀ L σ S H,Iv K c md L σ S H->Same S1 S->∃ vs,SqB t K H q vs/\RVs K S ps vs):ItR K c md (Its K t q) ps S1:=by
 intro i L σ S H I s
 obtain⟨vs,h1,h2⟩:=h L σ S H I s
 cases t with
 | true =>
  refine⟨λe=>⟨vs,h1,by rw[<- h2.length];exact List.getElem?_eq_none_iff.mp e⟩,λp ep=>?_⟩
  obtain⟨v,e1,r1⟩:=h2.get ep
  refine⟨⟨vs,v,h1,e1⟩,λw H' ⟨eh,y⟩=>?_⟩
  have:=y vs h1
  rw[e1] at this;cases this
  subst eh
  exact⟨S,Same.refl S,λ_ _ _ _ I=>I,r1⟩
 | false =>
  refine⟨λe=>⟨vs,h1,by rw[<- h2.length];exact List.getElem?_eq_none_iff.mp e⟩,λp ep=>?_⟩
  obtain⟨v,e1,r1⟩:=h2.get ep
  refine⟨⟨vs,v,h1,e1⟩,λw H' ⟨eh,y⟩=>?_⟩
  have:=y vs h1
  rw[e1] at this;cases this
  subst eh
  exact⟨S,Same.refl S,λ_ _ _ _ I=>I,r1⟩
theorem RV.stays {v:FV}{ps:List FV}{u:V}{S1:Hp}(r:RV K S1 v u)(e:a4f v=some ps):∃ q,u=.ref q/\∀ S H,Same S1 S->Same S H->∃ vs,SqB (isL v) K H q vs/\RVs K S ps vs:=by
 cases v with
 | tup qs=>cases e;obtain⟨q,vs,rfl,h1,h2⟩:=r;exact⟨q,rfl,λS H s s'=>⟨vs,SqT.of (s' _ _ (s _ _ h1)),h2.mono s⟩⟩
 | lst qs=>cases e;obtain⟨q,vs,rfl,h1,h2⟩:=r;exact⟨q,rfl,λS H s s'=>⟨vs,SqL.of (s' _ _ (s _ _ h1)),h2.mono s⟩⟩
 | scr ns=>cases e;obtain⟨q,rfl,h⟩:=r;exact⟨q,rfl,λS H s s'=>⟨_,h.sq (s.trans s'),RVs.ns ns⟩⟩
 | _=>cases e
theorem fi_seq (ha:FE X C a ea):FI X C C.md tg a (a3g ea):=PI.imp (b7j ha) λσ H R ⟨c,L,S,Q0,I,h,k⟩ =>
 ⟨c,L,S,_,I,h,λv L1 hv x S1 H1 r1 I1 s1=>by
  obtain⟨ps,e,q⟩:=wpx hv
  obtain⟨l,rfl,st⟩:=r1.stays e
  obtain⟨vs,h1,h2⟩:=st S1 H1 (Same.refl _) I1.sub
  exact⟨isL v,l,vs,rfl,h1,k ps L1 q _ c S1 H1 I1 (λ_ _ _ _ I=>I) rfl (b8r λL σ S H I s=>st S H s I.sub) s1⟩⟩
theorem c6y {v:FV}{qs ps:List FV}(e2:d1g v=some qs)(e0:a4f v=some ps):v=.lst ps/\qs=ps:=by
 cases v<;>first|(cases e2;cases e0;exact⟨rfl,rfl⟩)|(cases e0;done)|(cases e2;done)
theorem fi_own (G:Good X C n sp)(h:C.nm i nx=true)(m:a0g C.md i=.own):FI X C (C.md.set i .frz) tg (.Name nx p) (a3g (a0b i)):=PI.imp (b7j (a1k G h)) λσ H R ⟨c,L,S,Q0,I,h,k⟩=>by
 obtain⟨v,e,h⟩:=wpx h
 obtain⟨ps,e0,q⟩:=wpx h
 have e:=(a1v _ _ _).mp e
 obtain⟨l,e1,⟨o1,qs,vs,e2,o2,o3⟩,o4⟩:=I.own i v (λz=>by rw[m] at z;cases z) e
 obtain⟨e3,e4⟩:=c6y e2 e0
 subst e3 e4
 obtain⟨I',un⟩:=I.frz m e e1 o2
 exact⟨_,e1,true,l,vs,rfl,SqL.of o2,k _ L q _ _ S H I' un rfl (b8r (t:=true) λL σ S' H I s=>⟨vs,SqL.of (I.prs (l,.lst vs) Γn).1,o3.mono s⟩) (Same.refl S)⟩
theorem b1r:∀ (n:Nat) (lo:Int) (i:Nat),(upF lo n)[i]?=if i<n then some (.int (lo+i)) else none
 | 0,lo,i=>by simp[upF]
 | n+1,lo,0=>by simp[upF]
 | n+1,lo,i+1=>by
  show (upF (lo+1) n)[i]?=_
  rw[b1r n (lo+1) i]
  have e:lo+1+(i:Int)=lo+((i+1:Nat):Int):=by lia
  rw[e]
  simp
theorem d2o {lo:Int}{m:Nat}{S1:Hp}:ItR K c md (Itr lo m) (upF lo m) S1:=by
 intro i L σ S H I s
 rw[b1r]
 by_cases h:i<m
 ·rw[if_pos h]
  refine⟨λe=>(nomatch e),λp e=>?_⟩
  cases e
  exact⟨h,λv H' ⟨e1,e2⟩=>⟨S,Same.refl S,by rw[e1];exact λ_ _ _ _ I=>I,e2⟩⟩
 ·rw[if_neg h]
  exact⟨λ_=>show m<=i by lia,λp e=>(nomatch e)⟩
theorem fi_rng (G:Good X C n sp)(hg:C.gl (Γe "range")=true)(hs:a0j a=false)(ha:FE X C a ea):FI X C C.md tg (.Call (.Name (Γe "range") p) [a] [] pos) (b5r ea):=PI.imp (b7k (G.gl hg) (G.blt "range" (by decide)) (a0u ha a2j (a0f hs)) (a0f hs)) λσ H R ⟨c,L,S,Q0,I,h,k⟩ =>
 ⟨c,L,S,_,I,h,λv L1 hv x S1 H1 r1 I1 s1=>by
  obtain⟨j,e,hb,q⟩:=wpx hv
  cases a1g e
  have hb:=de hb
  exact⟨j,by rw[show x=.int j from r1],hb.1,hb.2,k _ L1 q _ c S1 H1 I1 (λ_ _ _ _ I=>I) rfl d2o s1⟩⟩
theorem b3q {P Q:FV}{u w:V}{pp:Addr}(I:Iv K c md L σ S H)(hp:H pp=none)(r1:RV K S P u)(r2:RV K S Q w):∃ S',Same S S'/\(∀ c md L σ,Iv K c md L σ S H->Iv K c md L σ S' (upd H pp (.tup [u,w])))/\RV K S' (.tup [P,Q]) (.ref pp) :=
 ⟨upd S pp (.tup [u,w]),a0h (I.sn hp),λ_ _ _ _ I=>I.new hp _,pp,[u,w],rfl,a0d,u,[w],rfl,r1.mono (a0h (I.sn hp)),w,[],rfl,r2.mono (a0h (I.sn hp)),rfl⟩
theorem d2n {t t':Bool}{q q':Addr}{ps qs:List FV}{S1:Hp}(h:∀ L σ S H,Iv K c md L σ S H->Same S1 S->∃ vs,SqB t K H q vs/\RVs K S ps vs)(h':∀ L σ S H,Iv K c md L σ S H->Same S1 S->∃ vs,SqB t' K H q' vs/\RVs K S qs vs):ItR K c md (Iz2 K t t' q q') (a2l ps qs) S1:=by
 intro i L σ S H I s
 obtain⟨vs,h1,h2⟩:=h L σ S H I s
 obtain⟨ws,g1,g2⟩:=h' L σ S H I s
 unfold a2l
 rw[List.getElem?_zipWith]
 refine⟨λz=>⟨vs,ws,h1,g1,?_⟩,λy ey=>?_⟩
 ·rw[<- h2.length,<- g2.length]
  cases c1:ps[i]? with
  | none=>exact .inl (List.getElem?_eq_none_iff.mp c1)
  | some _ =>
   cases c2:qs[i]? with
   | none=>exact .inr (List.getElem?_eq_none_iff.mp c2)
   | some _=>rw[c1,c2] at z;cases z
 ·cases c1:ps[i]? with
  | none=>rw[c1] at ey;cases ey
  | some p1 =>
   cases c2:qs[i]? with
   | none=>rw[c1,c2] at ey;cases ey
   | some q1 =>
    rw[c1,c2] at ey
    cases ey
    obtain⟨v,f1,f2⟩:=h2.get c1
    obtain⟨w,f3,f4⟩:=g2.get c2
    refine⟨⟨vs,ws,v,w,h1,g1,f1,f3⟩,λz H' ⟨pp,hp,ez,yy⟩=>?_⟩
    have:=yy vs ws v w h1 g1 f1 f3
    subst this ez
    exact b3q I hp f2 f4
theorem c7t {t:Bool}{q:Addr}{ps:List FV}{S1:Hp}(h:∀ L σ S H,Iv K c md L σ S H->Same S1 S->∃ vs,SqB t K H q vs/\RVs K S ps vs):ItR K c md (Ien K t q) (a2l (upF 0 ps.length) ps) S1:=by
 intro i L σ S H I s
 obtain⟨vs,h1,h2⟩:=h L σ S H I s
 unfold a2l
 rw[List.getElem?_zipWith,b1r]
 refine⟨λz=>⟨vs,h1,?_⟩,λy ey=>?_⟩
 ·rw[<- h2.length]
  by_cases hi:i<ps.length
  ·rw[if_pos hi,List.getElem?_eq_getElem hi] at z;cases z
  ·lia
 ·by_cases hi:i<ps.length
  ·rw[if_pos hi,List.getElem?_eq_getElem hi] at ey
   cases ey
   obtain⟨v,f1,f2⟩:=h2.get (List.getElem?_eq_getElem hi)
   refine⟨⟨vs,v,h1,f1⟩,λz H' ⟨pp,hp,ez,yy⟩=>?_⟩
   have:=yy vs v h1 f1
   subst this ez
   exact b3q I hp (show RV K S (.int (0+i)) (.int i) by show V.int i=V.int (0+i);rw[Int.zero_add]) f2
  ·rw[if_neg hi] at ey;cases ey
variable {elts:List Expr}{kk:Nat}{tp:Pos}
theorem fi_zip (G:Good X C n sp)(hg:C.gl (Γe "zip")=true)(hs:a0j a=false)(hs2:a0j b=false)(ha:FE X C a ea)(hb:FE X C b eb):FI X C C.md (.Tuple elts kk tp) (.Call (.Name (Γe "zip") p) [a,b] [] pos) (d8t ea eb) :=
 PI.imp (d7t (G.gl hg) (G.blt "zip" (by decide)) (a0u ha (a0u hb a2j (a0f hs2)) (a0f hs)) (by rw[a0f hs,a0f hs2];rfl) (a0f hs2)) λσ H R ⟨c,L,S,Q0,I,h,k⟩ =>
 ⟨c,L,S,_,I,h,λv L1 hv x S1 H1 r1 I1 s1=>⟨c,L1,S1,_,I1,hv,λw L2 hw y S2 H2 r2 I2 s2=>by
  obtain⟨ps,e,hw⟩:=wpx hw
  obtain⟨qs,e',q⟩:=wpx hw
  obtain⟨l,rfl,st⟩:=(r1.mono s2).stays e
  obtain⟨l',rfl,st'⟩:=r2.stays e'
  obtain⟨vs,h1,_⟩:=st S2 H2 (Same.refl _) I2.sub
  obtain⟨ws,h2,_⟩:=st' S2 H2 (Same.refl _) I2.sub
  exact⟨_,_,l,l',rfl,⟨vs,h1⟩,⟨ws,h2⟩,k _ L2 q _ c S2 H2 I2 (λ_ _ _ _ I=>I) rfl (d2n (λL σ S H I s=>st S H s I.sub) λL σ S H I s=>st' S H s I.sub) (s1.trans s2)⟩⟩⟩
theorem d9n (G:Good X C n sp)(hg:C.gl (Γe "enumerate")=true)(hs:a0j a=false)(ha:FE X C a ea):FI X C C.md (.Tuple elts kk tp) (.Call (.Name (Γe "enumerate") p) [a] [] pos) (a8v ea) :=
 PI.imp (d7u (G.gl hg) (G.blt "enumerate" (by decide)) (a0u ha a2j (a0f hs)) (a0f hs)) λσ H R ⟨c,L,S,Q0,I,h,k⟩ =>
 ⟨c,L,S,_,I,h,λv L1 hv x S1 H1 r1 I1 s1=>by
  obtain⟨ps,e,q⟩:=wpx hv
  obtain⟨l,rfl,st⟩:=r1.stays e
  obtain⟨vs,h1,_⟩:=st S1 H1 (Same.refl _) I1.sub
  exact⟨_,l,rfl,⟨vs,h1⟩,k _ L1 q _ c S1 H1 I1 (λ_ _ _ _ I=>I) rfl (c7t λL σ S H I s=>st S H s I.sub) s1⟩⟩
end
def gTs:List Nat->TGs
 | []=>d8x
 | i :: is=>c3n (a4n i) (gTs is)
def gT (K:Γd):Tg->TG
 | .nm i=>a4n i
 | .tp is=>d4t K is.length (gTs is)
 | .tn i is=>d4t K 2 (c3n (a4n i) (c3n (d4t K is.length (gTs is)) d8x))
def a3a (md:Md):Tg->Bool
 | .nm i=>decide (a0g md i=.imm)
 | .tp is=>is.all λi=>decide (a0g md i=.imm)
 | .tn i is=>decide (a0g md i=.imm) && is.all λi=>decide (a0g md i=.imm)
def a4v (n:Nat):Tg->Bool
 | .nm i=>decide (n<=i)
 | .tp is=>is.all λi=>decide (n<=i)
 | .tn i is=>decide (n<=i) && is.all λi=>decide (n<=i)
def FG (X:Cx)(t:Expr)(tg:Tg):Prop:=PG X.nox t (gT X.K tg)
section
variable {K:Γd}{c:Cn}{md:Md}{L:a0c}{σ:L2.St}{S H:Hp}
theorem a7z:∀ {is:List Nat}{ps:List FV}{vs:List V}{L L':a0c}{σ:L2.St},(is.all λi=>decide (a0g md i=.imm))=true->Iv K c md L σ S H->RVs K S ps vs->a8a L is ps=some L' ->
  ∃ σ',(∀ Q:L2.St->Hp->Prop,Q σ' H->gTs is vs σ H Q)/\Iv K c md L' σ' S H/\σ'.length=σ.length/\is.length=vs.length/\∀ n,(is.all λi=>decide (n<=i))=true->∀ j,j<n->σ'[j]?=σ[j]?
 | [],[],vs,L,L',σ,_,I,r,e=>by cases (show vs=[] from r);cases e;exact⟨σ,λQ q=>⟨rfl,q⟩,I,rfl,rfl,λ_ _ _ _=>rfl⟩
 | i :: is,p :: ps,vs,L,L',σ,hm,I,r,e=>by
  obtain⟨v,q,rfl,h1,h2⟩:=r
  have hm:=b2 (show (decide (a0g md i=.imm) && is.all λi=>decide (a0g md i=.imm))=true from hm)
  obtain⟨σ',g,I',l1,l2,far⟩:=a7z (is:=is) (ps:=ps) (vs:=q) hm.2 (I.setI (de hm.1) h1) h2 e
  refine⟨σ',λQ q'=>⟨v,q,rfl,g Q q'⟩,I',by rw[l1,List.length_set],by rw[List.length_cons,List.length_cons,l2],λn hn j hj=>?_⟩
  have hn:=b2 (show (decide (n<=i) && is.all λi=>decide (n<=i))=true from hn)
  have:=de hn.1
  rw[far n hn.2 j hj,List.getElem?_set_ne (by lia)]
 | [],p :: ps,_,_,_,_,_,_,_,e=>by cases e
 | i :: is,[],_,_,_,_,_,_,_,e=>by cases e
theorem b4c {tg:Tg}{v:FV}{x:V}{Q:a0c->Prop}(hm:a3a md tg=true)(I:Iv K c md L σ S H)(r:RV K S v x)(h:gW tg v L Q) :
  ∃ σ' L',(∀ Q':L2.St->Hp->Prop,Q' σ' H->gT K tg x σ H Q')/\Q L'/\Iv K c md L' σ' S H/\σ'.length=σ.length/\∀ n,a4v n tg=true->∀ j,j<n->σ'[j]?=σ[j]?:=by
 cases tg with
 | nm i =>
  refine⟨σ.set i (some x),L.set i (some v),λQ q=>q,h,I.setI (de hm) r,List.length_set ..,λn hn j hj=>?_⟩
  have:n<=i:=de hn
  exact List.getElem?_set_ne (by lia)
 | tp is =>
  obtain⟨ps,e,h⟩:=wpx h
  obtain⟨L',e1,q⟩:=wpx h
  cases a1u e
  obtain⟨a,vs,rfl,h1,h2⟩:=r
  obtain⟨σ',g,I',l1,l2,far⟩:=a7z hm I h2 e1
  exact⟨σ',L',λQ q=>⟨a,vs,rfl,SqT.of (I.sub _ _ h1),l2.symm,g Q q⟩,q,I',l1,far⟩
 | tn i is =>
  have hm:=b2 hm
  obtain⟨ps,e,h⟩:=wpx h
  obtain⟨p,e1,h⟩:=wpx h
  obtain⟨qs,e2,h⟩:=wpx h
  obtain⟨L',e3,q⟩:=wpx h
  cases a1u e
  obtain⟨p1,p2⟩:=p
  obtain rfl:ps=[p1,p2]:=by
   rcases ps with _|⟨a,_|⟨b,_|⟨c,r⟩⟩⟩<;>first|(cases e1;done)|(cases e1;rfl)
  obtain⟨a,vs,rfl,h1,h2⟩:=r
  obtain⟨u,w,rfl,r1,r2⟩:=h2.two_of
  cases a1u e2
  obtain⟨b,ws,rfl,h3,h4⟩:=r2
  obtain⟨σ',g,I',l1,l2,far⟩:=a7z hm.2 (I.setI (de hm.1) r1) h4 e3
  refine⟨σ',L',λQ q=>⟨a,_,rfl,SqT.of (I.sub _ _ h1),rfl,_,_,rfl,_,_,rfl,b,ws,rfl,SqT.of (I.sub _ _ h3),l2.symm,g _ ⟨rfl,q⟩⟩,q,I',by rw[l1,List.length_set],λn hn j hj=>?_⟩
  have hn:=b2 hn
  have:=de hn.1
  rw[far n hn.2 j hj,List.getElem?_set_ne (by lia)]
theorem Iv.regrow {a:Addr}{o o':HO}(I:Iv K { c with pr:=(a,o) :: c.pr } md L σ S H)(h0:c.H0 a=none)(hp:∀ p∈c.pr,p.1≠a)(hz:∀ p∈c.fz,∃ o,(p.2,o)∈c.pr)(nt:a6e o'=false:=by first|rfl|exact a4x _ _):Iv K { c with pr:=(a,o') :: c.pr } md L σ S (upd H a o'):=by
 obtain⟨_,sa,na⟩:=I.prs (a,o) Γn
 have oa:∀ j w b,a0g md j≠.imm->L[j]?=some (some w)->σ[j]?=some (some (.ref b))->b≠a:=λj w b hm hj hs z=>by
  subst z
  by_cases m:(a0g md j).w=true
  ·exact na j w m hj hs
  ·have m:a0g md j=.frz:=by cases q:a0g md j with|imm=>exact absurd q hm|frz=>rfl|_=>rw[q] at m;exact absurd rfl m
   obtain⟨b',g1⟩:=I.fzm j w m hj
   obtain⟨_,g2,_⟩:=I.fzs _ g1
   rw[hs] at g2;cases g2
   obtain⟨xs,g3⟩:=hz _ g1
   exact hp _ g3 rfl
 refine⟨I.len,I.imm,λj w hm hj=>?_,I.dis,λb u e=>?_,λb u e n n1=>?_,I.s0,I.grow,I.lent,I.fzs,I.fzm,λp hpz=>let ⟨xs,g⟩:=hz p hpz;⟨xs,Γh _ g⟩,λp hpr=>?_,λp hpr=>(List.mem_cons.mp hpr).elim (λz=>by rw[z];exact nt) λz=>I.ntp p (Γh _ z),I.lnt1,I.tie⟩
 ·obtain⟨b,e1,⟨g1,ps,xs,g2,g3,g4⟩,g5⟩:=I.own j w hm hj
  exact⟨b,e1,⟨g1,ps,xs,g2,by rw[a0e (oa j w b hm hj e1)];exact g3,g4⟩,g5⟩
 ·rw[a0e λz=>by subst z;rw[sa] at e;cases e];exact I.sub b u e
 ·rw[a0e λz=>by subst z;rw[h0] at e;cases e];exact I.frame b u e n n1
 ·rcases List.mem_cons.mp hpr with rfl|hpr
  ·exact⟨a0d,sa,na⟩
  ·obtain⟨g1,g2,g3⟩:=I.prs p (Γh _ hpr)
   exact⟨by rw[a0e (hp p hpr)];exact g1,g2,g3⟩
theorem Iv.unprot {a:Addr}{o:HO}(I:Iv K { c with pr:=(a,o) :: c.pr } md L σ S H)(hz:∀ p∈c.fz,∃ o,(p.2,o)∈c.pr):Iv K c md L σ S H :=
 ⟨I.len,I.imm,I.own,I.dis,I.sub,I.frame,I.s0,I.grow,I.lent,I.fzs,I.fzm,hz,λp hp=>I.prs p (Γh _ hp),λp hp=>I.ntp p (Γh _ hp),I.lnt1,I.tie⟩
theorem c4w:∀ {md:Md}{i:Nat},md.length<=i->a0g md i=.imm
 | [],i,_=>rfl
 | a :: md,0,h=>absurd h (by simp)
 | a :: md,i+1,h=>c4w (md:=md) (i:=i) (by simpa using h)
theorem Iv.more (I:Iv K c md L σ S H) (m:Nat):Iv K c md (L++Γj m none) (σ++Γj m none) S H:=by
 have look:∀ j w,(L++Γj m none)[j]?=some (some w)->L[j]?=some (some w)/\(σ++Γj m none)[j]?=σ[j]?:=λj w z=>by
  by_cases h:j<L.length
  ·rw[List.getElem?_append_left h] at z
   exact⟨z,List.getElem?_append_left (by rw[<- I.len];exact h)⟩
  ·rw[List.getElem?_append_right (by lia),List.getElem?_replicate] at z
   split at z<;>cases z
 have up:∀ j w,L[j]?=some (some w)->(L++Γj m none)[j]?=some (some w)/\(σ++Γj m none)[j]?=σ[j]?:=λj w z=>by
  have h:=(List.getElem?_eq_some_iff.mp z).1
  exact⟨by rw[List.getElem?_append_left h];exact z,List.getElem?_append_left (by rw[<- I.len];exact h)⟩
 refine⟨by simp[I.len],λj w hm z=>?_,λj w hm z=>?_,λj k w u b m1 m2 z1 z2 y1 y2=>?_,I.sub,I.frame,I.s0,I.grow,λb hb=>?_,λp hp=>?_,λj w hm z=>I.fzm j w hm (look j w z).1,I.fzp,λp hp=>?_,I.ntp,λq hq=>?_,λj k x C dx fs w h1 h2 h3 h4=>?_⟩
 ·obtain⟨z,y⟩:=look j w z;rw[y];exact I.imm j w hm z
 ·obtain⟨z,y⟩:=look j w z;rw[y];exact I.own j w hm z
 ·obtain⟨z1,q1⟩:=look j w z1
  obtain⟨z2,q2⟩:=look k u z2
  rw[q1] at y1;rw[q2] at y2
  exact I.dis j k w u b m1 m2 z1 z2 y1 y2
 ·obtain⟨g1,g2,w,g3⟩:=I.lent b hb
  obtain⟨f1,f2⟩:=up 0 w g3
  exact⟨g1,by rw[f2];exact g2,w,f1⟩
 ·obtain⟨g1,g2,w,g3⟩:=I.fzs p hp
  obtain⟨f1,f2⟩:=up p.1 w g3
  exact⟨g1,by rw[f2];exact g2,w,f1⟩
 ·obtain⟨g1,g2,g3⟩:=I.prs p hp
  refine⟨g1,g2,λj w hm z=>?_⟩
  obtain⟨z,y⟩:=look j w z
  rw[y];exact g3 j w hm z
 ·obtain⟨g1,g2,w,g3⟩:=I.lnt1 q hq
  obtain⟨f1,f2⟩:=up q.1 w g3
  exact⟨g1,by rw[f2];exact g2,w,f1⟩
 ·obtain⟨z4,y4⟩:=look j w h4
  rw[y4]
  exact I.tie j k x C dx fs w h1 h2 (look k _ h3).1 z4
theorem Iv.take {n:Nat}{σ2:L2.St}(I:Iv K c md L σ2 S H)(hmd:md.length<=n)(hs:σ.length=n)(hl:n<=σ2.length)(e:∀ j,j<n->σ2[j]?=σ[j]?):Iv K c md (L.take n) σ S H:=by
 have look:∀ j w,(L.take n)[j]?=some (some w)->L[j]?=some (some w)/\σ[j]?=σ2[j]?:=λj w z=>by
  have h:=(List.getElem?_eq_some_iff.mp z).1
  rw[List.length_take] at h
  rw[List.getElem?_take_of_lt (by lia)] at z
  exact⟨z,(e j (by lia)).symm⟩
 have up:∀ j w,a0g md j≠.imm->L[j]?=some (some w)->(L.take n)[j]?=some (some w)/\σ[j]?=σ2[j]?:=λj w hm z=>by
  have h:j<n:=by
   by_cases h:j<n
   ·exact h
   ·exact absurd (c4w (by lia)) hm
  exact⟨by rw[List.getElem?_take_of_lt h];exact z,(e j h).symm⟩
 refine⟨by rw[List.length_take,I.len,hs];lia,λj w hm z=>?_,λj w hm z=>?_,λj k w u b m1 m2 z1 z2 y1 y2=>?_,I.sub,I.frame,I.s0,I.grow,λb hb=>?_,λp hp=>?_,λj w hm z=>I.fzm j w hm (look j w z).1,I.fzp,λp hp=>?_,I.ntp,λq hq=>?_,λj k x C dx fs w h1 h2 h3 h4=>?_⟩
 ·obtain⟨z,y⟩:=look j w z;rw[y];exact I.imm j w hm z
 ·obtain⟨z,y⟩:=look j w z;rw[y];exact I.own j w hm z
 ·obtain⟨z1,q1⟩:=look j w z1
  obtain⟨z2,q2⟩:=look k u z2
  rw[q1] at y1;rw[q2] at y2
  exact I.dis j k w u b m1 m2 z1 z2 y1 y2
 ·obtain⟨g1,g2,w,g3⟩:=I.lent b hb
  obtain⟨f1,f2⟩:=up 0 w g1 g3
  exact⟨g1,by rw[f2];exact g2,w,f1⟩
 ·obtain⟨g1,g2,w,g3⟩:=I.fzs p hp
  obtain⟨f1,f2⟩:=up p.1 w (λz=>by rw[g1] at z;cases z) g3
  exact⟨g1,by rw[f2];exact g2,w,f1⟩
 ·obtain⟨g1,g2,g3⟩:=I.prs p hp
  refine⟨g1,g2,λj w hm z=>?_⟩
  obtain⟨z,y⟩:=look j w z
  rw[y];exact g3 j w hm z
 ·obtain⟨g1,g2,w,g3⟩:=I.lnt1 q hq
  obtain⟨f1,f2⟩:=up q.1 w (λz=>by rw[z] at g1;cases g1) g3
  exact⟨g1,by rw[f2];exact g2,w,f1⟩
 ·obtain⟨z4,y4⟩:=look j w h4
  rw[y4]
  exact I.tie j k x C dx fs w h1 h2 (look k _ h3).1 z4
theorem a3q {α β:Type}{J:It}{xs:List FV}{n m:Nat}{tg:Tg}{t:BW}{QH:Hp->Prop}{fr:β->Cn}{P:α->β->Hp->Prop}{N:α->Nat}{Cm:List FV->α->a0c->Prop}{em:α->a0c->(α->a0c->Prop)->Prop}{eh:L2.St->Hp->(Hp->Prop)->Prop}{a0:α}{b0:β}
  (I:Iv K (fr b0) md L σ S H)(hJ:ItR K c md J xs S)(hL:L.length=n)(hmd:md.length<=n)(ht:a3a md tg=true)(hg:a4v n tg=true)(p0:P a0 b0 S)(n0:N a0=0)(h:Cm xs a0 L)
  (hU:∀ a b L σ S H,Iv K (fr b) md L σ S H->P a b S->Iv K c md L σ S H)(hP:∀ a b S S',P a b S->Same S S'->P a b S')
  (hC:∀ x xs a L,Cm (x :: xs) a L->gW tg x (L++Γj m none) λL1=>t L1 λb L2=>if b=true then em a L2 (λa' L4=>Cm xs a' (L4.take n)) else Cm xs a (L2.take n))
  (hE:∀ a b L3 σ2 S3 H3 K' Z,N a<xs.length->Iv K (fr b) md L3 σ2 S3 H3->P a b S3->em a L3 K'->(∀ a' b' L4 S4 H4,K' a' L4->Iv K (fr b') md L4 σ2 S4 H4->P a' b' S4->Same S3 S4->N a'<=N a+1->Z H4)->eh σ2 H3 Z)
  (k:∀ a b L' S' H',Cm [] a L'->Iv K (fr b) md L' σ S' H'->P a b S'->Same S S'->QH H') :
  ∃ W:Nat->Nat->Hp->Prop,(∃ m,W 0 m H)/\∀ i j H,W i j H ->
   (J.stop i H/\QH H) ∨ (J.go i H/\∀ x H',J.yld i H x H'->gT K tg x (σ++Γj m none) H' λσ2 H2=>Wk (σ++Γj m none) σ2/\lb K md t σ2 H2 λb H3 =>
    if b=true then eh σ2 H3 λH4=>∃ m',m'<j/\W (i+1) m' H4 else ∃ m',m'<j/\W (i+1) m' H3):=by
 have hl:σ.length=n:=by rw[<- I.len];exact hL
 refine⟨λi j H1=>∃ L S1 a b,j=(xs.drop i).length/\Iv K (fr b) md L σ S1 H1/\P a b S1/\Same S S1/\L.length=n/\N a<=i/\Cm (xs.drop i) a L,⟨_,L,S,a0,b0,rfl,I,p0,Same.refl S,hL,Nat.le_of_eq n0,by rw[List.drop_zero];exact h⟩,?_⟩
 rintro i j H1 ⟨L,S1,a,b,rfl,I,r,s,hL,hps,hc⟩
 obtain⟨j1,j2⟩:=hJ i L σ S1 H1 (hU _ _ _ _ _ _ I r) s
 cases hd:xs.drop i with
 | nil =>
  left
  rw[hd] at hc
  exact⟨j1 (List.getElem?_eq_none_iff.mpr (List.drop_eq_nil_iff.mp hd)),k a b L S1 H1 hc I r s⟩
 | cons p rest =>
  right
  rw[hd] at hc
  have hi:xs[i]?=some p:=by
   have:=congrArg (·[0]?) hd
   simpa using this
  have hd':xs.drop (i+1)=rest:=by
   have:=congrArg List.tail hd
   simpa[List.tail_drop] using this
  have hix:i<xs.length:=(List.getElem?_eq_some_iff.mp hi).1
  obtain⟨go,yl⟩:=j2 p hi
  refine⟨go,λx H2 y=>?_⟩
  obtain⟨S2,s2,tr,rx⟩:=yl x H2 y
  have I2:=(tr _ _ _ _ I).more m
  obtain⟨σ2,L2,gq,q2,I2,len2,far⟩:=b4c ht I2 rx (hC _ _ _ _ hc)
  have l2:n<=σ2.length:=by rw[len2,List.length_append,hl];lia
  have far':∀ q,q<n->σ2[q]?=σ[q]?:=λq hq=>by rw[far n hg q hq,List.getElem?_append_left (by rw[hl];exact hq)]
  refine gq _ ⟨⟨len2,λq v hv=>?_⟩,?_⟩
  ·have hq:q<n:=by
    by_cases h:q<σ.length
    ·rw[<- hl];exact h
    ·rw[List.getElem?_append_right (by lia),List.getElem?_replicate] at hv
     split at hv<;>cases hv
   rw[far n hg q hq];exact hv
  ·refine⟨_,L2,S2,_,I2,q2,λb1 L3 hb3 S3 H3 I3 s3=>?_⟩
   have ln:∀ {c':Cn}{L4:a0c}{S4 H4:Hp},Iv K c' md L4 σ2 S4 H4->(L4.take n).length=n:=λI4=>by rw[List.length_take,I4.len];lia
   show ite _ _ _
   cases b1 with
   | false =>
    rw[if_neg Γk] at hb3 ⊢
    exact⟨rest.length,by simp,L3.take n,S3,a,b,by rw[hd'],I3.take hmd hl l2 far',hP _ _ _ _ r (s2.trans s3),s.trans (s2.trans s3),ln I3,by lia,by rw[hd'];exact hb3⟩
   | true =>
    rw[if_pos rfl] at hb3 ⊢
    exact hE a b L3 σ2 S3 H3 _ _ (by lia) I3 (hP _ _ _ _ r (s2.trans s3)) hb3 λa' b' L4 S4 H4 hv I4 r4 s4 n4=>⟨rest.length,by simp,L4.take n,S4,a',b',by rw[hd'],I4.take hmd hl l2 far',r4,s.trans (s2.trans (s3.trans s4)),ln I4,by lia,by rw[hd'];exact hv⟩
theorem Iv.newPr {acc:Addr}{o:HO}(I:Iv K { c with pr:=(acc,o) :: c.pr } md L σ S H)(h0:c.H0 acc=none)(hp:∀ p∈c.pr,p.1≠acc)(hz:∀ p∈c.fz,∃ o,(p.2,o)∈c.pr):H acc=some o/\S acc=none/\a6q c md L σ acc:=by
 obtain⟨g1,g2,g3⟩:=I.prs (acc,o) Γn
 refine⟨g1,g2,h0,hp,λq w hm hq hs=>?_⟩
 by_cases mo:(a0g md q).w=true
 ·exact g3 q w mo hq hs
 ·have mo:a0g md q=.frz:=by cases z:a0g md q with|imm=>exact absurd z hm|frz=>rfl|_=>rw[z] at mo;exact absurd rfl mo
  obtain⟨b,f1⟩:=I.fzm q w mo hq
  obtain⟨_,f2,_⟩:=I.fzs _ f1
  rw[hs] at f2;cases f2
  obtain⟨ys,f3⟩:=hz _ f1
  exact hp _ f3 rfl
theorem c4b {J:It}{xs:List FV}{n m:Nat}{tg:Tg}{t:BW}{e:EW}{Q:VK}{Q1:List FV->a0c->Prop}(I:Iv K c md L σ S H)(hJ:ItR K c md J xs S)(hL:L.length=n)(hmd:md.length<=n)(ht:a3a md tg=true)(hg:a4v n tg=true)(hb:xs.length<=big)(h:a3i n m tg t e xs [] L Q1)
  (k:∀ acc ps L' S' H',H acc=none->Q1 ps L'->a3s K S' H' acc (.lst ps)->a6q c md L' σ acc->Iv K c md L' σ S' H'->Same S S'->Q (.ref acc) H') :
  ∀ acc,H acc=none->∃ W:Nat->Nat->Hp->Prop,(∃ m,W 0 m (upd H acc (.lst [])))/\∀ i j H,W i j H ->
   (J.stop i H/\Q (.ref acc) H) ∨ (J.go i H/\∀ x H',J.yld i H x H'->gT K tg x (σ++Γj m none) H' λσ2 H2=>Wk (σ++Γj m none) σ2/\lb K md t σ2 H2 λb H3 =>
    if b=true then emL (lv K md e) acc σ2 H3 λH4=>∃ m',m'<j/\W (i+1) m' H4 else ∃ m',m'<j/\W (i+1) m' H3):=by
 intro acc hacc
 have h0:=I.h0 hacc
 have hp:∀ p∈c.pr,p.1≠acc:=(I.fresh hacc).2.1
 have hz:=I.fzp
 have hbl:=a0y
 refine a3q (fr:=λus=>{ c with pr:=(acc,.lst us) :: c.pr }) (P:=λps us S=>RVs K S ps us) (N:=List.length) (Cm:=λxs ps L=>a3i n m tg t e xs ps L Q1) (em:=λps L3 K'=>e L3 λv L4=>K' (ps++[v]) L4) (a0:=[]) (b0:=[]) ((I.lay hacc _).prot a0d (I.sn hacc) λj w hm hj=>(I.fresh hacc).2.2 j w (Mo.w_imm hm) hj) hJ hL hmd ht hg rfl rfl h (λ_ _ _ _ _ _ I _=>I.unprot hz) (λ_ _ _ _ r s=>r.mono s) (λ_ _ _ _ h=>h) (λps us L3 σ2 S3 H3 K' Z hn I3 r hv kz=>?_) λps us L' S' H' q I' r s'=>?_
 ·refine⟨_,L3,S3,_,I3,hv,λv L4 hv u S4 H4 r4 I4 s4=>?_⟩
  have lr:=r.length
  exact⟨us,(I4.prs (acc,.lst us) Γn).1,by lia,kz _ (us++[u]) L4 S4 _ hv (I4.regrow h0 hp hz) ((r.mono s4).append (RVs.one r4)) s4 (by simp)⟩
 ·obtain⟨g1,g2,f⟩:=I'.newPr h0 hp hz
  exact k acc ps L' S' H' hacc q ⟨g2,ps,us,rfl,g1,r⟩ f (I'.unprot hz) s'
end
def b2n:Expr->Bool
 | .Set ..=>true
 | _=>false
theorem a6i {x:Expr}{env:Env}(h:b2n x=false):∀ v,foldedSetIterable x env v=pure v:=by
 intro v
 cases x<;>first|rfl|(cases h;done)
def CC.tn (C:CC) (i:Nat)(x:Str):Bool:=decide (C.N[i]?=some x) && C.loc x
def d7e (outer:List (Str×NameKind))(names:List (Str×NameKind)):List (Str×NameKind) :=
 names.map λ(n,k)=>if (k == NameKind.free && outer.lookup n == some .cell) then (n,NameKind.cell) else (n,k)
def CC.sub (C:CC)(scope:Scope)(own:List Str)(md:Md):CC:=⟨C.N.map (a8l own)++own,d7e C.sc scope.names,C.fns,md,false,scope.names,C.ms,C.fl⟩
def CC.scOk (C:CC)(scope:Scope)(own:List Str):Bool :=
 decide (scope.kind=.function) && scope.names.all (λp=>decide (p.2=.cell->scope.names.lookup p.1=some .cell)) && scope.names.all (λp=>decide (p.2=.local->scope.names.lookup p.1=some .local)) &&
 scope.names.all (λp=>decide (p.2=.free->(C.sc.lookup p.1=some .cell ∨ C.sc.lookup p.1=some .free))) && C.N.all (λx=>if own.contains x then decide (scope.names.lookup (d4s x)=none) else decide (scope.names.lookup x≠some .local/\scope.names.lookup x≠some .cell)) && decide ((C.N.map (a8l own)++own).Nodup)
def d1z:Md->Md->Bool
 | [],_=>true
 | a :: md,[]=>decide (a=.imm) && d1z md []
 | a :: md,b :: md'=>(decide (a=.imm) || !decide (b=.imm)) && d1z md md'
theorem a5z:∀ {md md':Md},d1z md md'=true->∀ j,a0g md j≠.imm->a0g md' j≠.imm
 | [],_,_,j,h=>absurd rfl h
 | a :: md,[],h,0,h0=>absurd (de (b2 h).1) h0
 | a :: md,[],h,j+1,h0=>a5z (md:=md) (md':=[]) (b2 h).2 j h0
 | a :: md,b :: md',h,0,h0=>λz=>by
  have h:=(b2 h).1
  have h0:a≠.imm:=h0
  have z:b=.imm:=z
  simp[h0,z] at h
 | a :: md,b :: md',h,j+1,h0=>a5z (md:=md) (md':=md') (b2 h).2 j h0
def FGs (X:Cx)(es:List Expr)(is:List Nat):Prop:=PGs X.nox es (gTs is)/\(assignEach es X.env).length=is.length/\(assignEach es X.env).findIdx? (·.1)=none
def FTs (X:Cx)(C:CC)(xs:List Expr)(t:BW):Prop:=PTs X.nox xs (lb X.K C.md t)
section
variable {X:Cx}{C:CC}{n:Nat}{sp:Γd->Nat->Sp}{a b x:Expr}{xs:List Expr}{pos p:Pos}{i k:Nat}{nx:Str}{is:List Nat}{t u:BW}
theorem Good.ix (G:Good X C n sp){y:Str}(h:decide (C.N[i]?=some y)=true):X.N[i]?=some y:=by rw[G.N];exact de h
theorem Good.nd' (G:Good X C n sp):X.N.Nodup:=by rw[G.N];exact G.nd
theorem d9p (G:Good X C n sp)(h:C.tn i nx=true):FG X (.Name nx p) (.nm i):=by
 have h:=b2 h
 obtain⟨l1,l2⟩:=G.loc h.2
 exact c6p (X:=X.nox) G.nd' (G.ix h.1) l1 l2
theorem d9o:FGs X [] []:=⟨c6o,rfl,rfl⟩
theorem d4w (G:Good X C n sp)(h:C.tn i nx=true)(r:FGs X xs is):FGs X (.Name nx p :: xs) (i :: is):=by
 obtain⟨h1,h2,h3⟩:=r
 refine⟨c2j (d9p G h) h1 rfl,?_,?_⟩
 ·show (assignEach xs X.env).length+1=is.length+1
  rw[h2]
 ·show ((false,assign (.Name nx p) X.env) :: assignEach xs X.env).findIdx? (·.1)=none
  rw[List.findIdx?_cons]
  simp[h3]
theorem d2v (G:Good X C n sp)(r:FGs X xs is):FG X (.Tuple xs k p) (.tp is):=d0w (X:=X.nox) G.calm r.1 r.2.1 r.2.2
theorem PTs.imp {e:List Expr}{t u:TT}(h:PTs X e t)(f:∀ σ H Q,u σ H Q->t σ H Q):PTs X e u:=λpins s σ H Q I hu=>h pins s σ H Q I (f σ H Q hu)
theorem d9a:FTs X C [] a1i:=PTs.imp b6y λσ H Q ⟨c,L,S,Q0,I,h,k⟩=>k true L h S H I (Same.refl S)
theorem d8z (h1:FB X C a t):FTs X C [a] t:=PTs.imp (c2d h1 (b6y (X:=X.nox))) λσ H Q ⟨c,L,S,Q0,I,h,k⟩ =>
 ⟨c,L,S,_,I,h,λr L1 q S1 H1 I1 s1=>by
  cases r with
  | true=>rw[if_pos rfl];exact k true L1 q S1 H1 I1 s1
  | false=>rw[if_neg Γk];exact k false L1 q S1 H1 I1 s1⟩
theorem Good.sub (G:Good X C n sp){scope:Scope}{own:List Str}(h:C.scOk scope own=true)(md:Md):CScope X scope own/\∀ fp D s H,Good (cxC X scope own fp D s H) (C.sub scope own md) n sp:=by
 simp only[CC.scOk,Bool.and_eq_true,decide_eq_true_eq,List.all_eq_true] at h
 obtain⟨⟨⟨⟨⟨h1,h2⟩,h3⟩,h4⟩,h5⟩,h6⟩:=h
 refine⟨⟨h1,λp hp=>by simpa using h2 p hp,λp hp=>by simpa using h3 p hp,λp hp hk=>?_,λx hx hw=>?_,λx hx hw=>?_⟩,λfp D s H=>⟨?_,?_,h1,h6,G.calm,(λx z=>z),G.room,G.fns,G.blt,G.mts,G.fls⟩⟩
 ·have:=h4 p hp
  show X.env.scope.names.lookup p.1=_ ∨ X.env.scope.names.lookup p.1=_
  rw[G.sc];exact this hk
 ·have:=h5 x (by rw[<- G.N];exact hx)
  rw[if_neg (by rw[hw];exact Γk)] at this
  exact de this
 ·have:=h5 x (by rw[<- G.N];exact hx)
  rw[if_pos hw] at this
  exact de this
 ·show X.N.map (a8l own)++own=C.N.map (a8l own)++own
  rw[G.N]
 ·show (relabel scope X.env).names=d7e C.sc scope.names
  unfold relabel d7e
  simp only
  refine List.map_congr_left λp hp=>?_
  obtain⟨nm,kd⟩:=p
  show (if (kd == NameKind.free && X.env.scope.kind == .function && X.env.scope.names.lookup nm == some .cell)=true then (nm,NameKind.cell) else (nm,kd))=_
  rw[G.kind,G.sc]
  simp
variable {scope:Scope}{own:List Str}{elt tgx iter:Expr}{ifs:List Expr}{it:AW}{tg:Tg}{e:EW}{nn m:Nat}{md':Md}
structure CompOk (X:Cx)(C:CC) (n:Nat)(sp:Γd->Nat->Sp)(scope:Scope)(own:List Str)(elt tgx iter:Expr)(ifs:List Expr) (nn m:Nat)(md':Md)(it:AW)(tg:Tg)(t:BW)(e:EW):Prop where
 st:(C.scOk scope own && decide (C.N.length=nn) && decide (own.length=m) && decide (md'.length<=nn) && d1z C.md md' && a3a md' tg && a4v nn tg && !b2n iter)=true
 it:FI X C md' tgx iter it
 tg:∀ X',Good X' (C.sub scope own md') n sp->FG X' tgx tg
 ts:∀ X',Good X' (C.sub scope own md') n sp->FTs X' (C.sub scope own md') ifs t
 el:∀ X',Good X' (C.sub scope own md') n sp->FE X' (C.sub scope own md') elt e
theorem CompOk.run (G:Good X C n sp)(h:CompOk X C n sp scope own elt tgx iter ifs nn m md' it tg t e){σ:L2.St}{H:Hp}{Q:VK}(hq:lf X.K C.md (a1h nn m it tg t e) σ H Q):c1o (li X.K C.md md' it) (gT X.K tg) (lb X.K md' t) (lv X.K md' e) own.length σ H Q:=by
 have h0:=b2 h.st;have h1:=b2 h0.1;have h2:=b2 h1.1;have h3:=b2 h2.1;have h4:=b2 h3.1;have h5:=b2 h4.1;have h6:=b2 h5.1
 obtain⟨c,L,S,Q0,I,hh,k⟩:=hq
 refine⟨c,L,S,_,I,hh,λxs L1 hx J c' S1 H1 I1 un e0 hJ s1=>?_⟩
 obtain⟨hl,hb,hc⟩:=hx
 rw[de h5.2]
 refine c4b I1 hJ hl (de h4.2) h2.2 h1.2 hb hc λacc ps L' S' H' hn q o fr I' s'=>k _ L' q acc S' H' o ⟨by rw[<- e0];exact fr.1,((un _ _ _ _ I1).fresh hn).2.1,λj w hm=>fr.2.2 j w (a5z h3.2 j hm)⟩ (un _ _ _ _ I') (s1.trans s')
theorem CompOk.blk (G:Good X C n sp)(h:CompOk X C n sp scope own elt tgx iter ifs nn m md' it tg t e):CScope X scope own/\(∀ fp D s H,PG (cxC X scope own fp D s H) tgx (gT X.K tg)/\PTs (cxC X scope own fp D s H) ifs (lb X.K md' t)/\PE (cxC X scope own fp D s H) elt (lv X.K md' e))/\∀ v,foldedSetIterable iter X.env v=pure v:=by
 have h0:=b2 h.st;have h1:=b2 h0.1;have h2:=b2 h1.1;have h3:=b2 h2.1;have h4:=b2 h3.1;have h5:=b2 h4.1;have h6:=b2 h5.1
 obtain⟨s1,s2⟩:=G.sub h6.1 md'
 exact⟨s1,λfp D s H=>⟨h.tg _ (s2 fp D s H),h.ts _ (s2 fp D s H),h.el _ (s2 fp D s H)⟩,a6i (nb h0.2)⟩
theorem a0m (G:Good X C n sp)(h:CompOk X C n sp scope own elt tgx iter ifs nn m md' it tg t e):FF X C (.ListComp elt [⟨tgx,iter,ifs,0⟩] scope pos) (a1h nn m it tg t e):=by
 obtain⟨s1,s2,s3⟩:=h.blk G
 exact PE.imp (b2a G.calm s1 h.it s2 s3) λσ H Q q=>h.run G q
end
def e3g (K:Γd)(c:Cn)(S H:Hp)(v:FV)(x:V):Bool->Prop
 | false=>RV K S v x
 | true=>∃ a,x=.ref a/\a3s K S H a v/\c.H0 a=none
def EndQ (K:Γd)(c:Cn)(fr:Bool)(D:Ends)(σ:L2.St)(S H:Hp):FFl->Prop
 | .next=>D.nx σ H
 | .brk=>D.bk σ H
 | .cont=>D.ct σ H
 | .ret v=>∀ x,e3g K c S H v x fr->D.rt x H
def ls (K:Γd)(md:Md)(fr:Bool)(s:SW):TS:=λD σ H=>∃ c L S Q0,Iv K c md L σ S H/\s L Q0/\∀ fl L',Q0 fl L'->∀ σ' S' H',Iv K c md L' σ' S' H'->Same S S'->EndQ K c fr D σ' S' H' fl
def FS (X:Cx)(C:CC)(fr:Bool)(x:Stmt)(s:SW):Prop:=PS X.nox x (ls X.K C.md fr s)
def FSs (X:Cx)(C:CC)(fr:Bool)(x:List Stmt)(s:SW):Prop:=PSs X.nox x (ls X.K C.md fr s)
def CC.wmd (C:CC)(md:Md):CC:=⟨C.N,C.sc,C.fns,md,C.top,C.oc,C.ms,C.fl⟩
section
variable {X:Cx}{C:CC}{n:Nat}{sp:Γd->Nat->Sp}{fr:Bool}{a b x y:Expr}{e ea eb:EW}{pos p px py:Pos}{i j k:Nat}{nx ny:Str}{is:List Nat}{st:Stmt}{sts:List Stmt}{s r:SW}
variable {K:Γd}{c:Cn}{md:Md}{L:a0c}{σ:L2.St}{S H:Hp}
theorem Good.wmd (G:Good X C n sp)(md:Md):Good X (C.wmd md) n sp:=⟨G.N,G.sc,G.kind,G.nd,G.calm,G.fn,G.room,G.fns,G.blt,G.mts,G.fls⟩
theorem PS.imp {e:Stmt}{t u:TS}(h:PS X e t)(f:∀ D σ H,u D σ H->t D σ H):PS X e u:=λpins s σ H D I hu=>h pins s σ H D I (f D σ H hu)
theorem PSs.imp {e:List Stmt}{t u:TS}(h:PSs X e t)(f:∀ D σ H,u D σ H->t D σ H):PSs X e u:=λpins s σ H D I hu=>h pins s σ H D I (f D σ H hu)
theorem fs_nil:FSs X C fr [] a4b:=PSs.imp c6h λD σ H ⟨c,L,S,Q0,I,h,k⟩=>k .next L h σ S H I (Same.refl S)
theorem a6j (h:FS X C fr st s):FSs X C fr [st] s:=b7a h
theorem a0l (h:FS X C fr st s)(h2:FSs X C fr sts r):FSs X C fr (st :: sts) (a0p s r):=PSs.imp (a8d h h2) λD σ H ⟨c,L,S,Q0,I,h,k⟩ =>
 ⟨c,L,S,_,I,h,λfl L1 q σ1 S1 H1 I1 s1=>by
  cases fl with
  | next=>exact⟨c,L1,S1,_,I1,q,λfl L2 q σ2 S2 H2 I2 s2=>k fl L2 q σ2 S2 H2 I2 (s1.trans s2)⟩
  | brk=>exact k _ L1 q σ1 S1 H1 I1 s1
  | cont=>exact k _ L1 q σ1 S1 H1 I1 s1
  | ret v=>exact k _ L1 q σ1 S1 H1 I1 s1⟩
def a6f:Expr->Bool
 | .ListComp ..=>true
 | .SetComp ..=>true
 | .DictComp ..=>true
 | _=>false
theorem a3b {e:Expr}{t:Option Expr}{n:Nat}{env:Env}(h:a6f e=false):swapsWith e t n env=pure false:=by
 cases e<;>first|rfl|(cases h;done)
theorem d9f (hc:a6f a=false)(h:FE X C a e):FS X C fr (.Expr a pos) (c1x e):=PS.imp (b7d h (a3b hc)) λD σ H ⟨c,L,S,Q0,I,h,k⟩ =>
 ⟨c,L,S,_,I,h,λv L1 q x S1 H1 r I1 s1=>k .next L1 q σ S1 H1 I1 s1⟩
theorem fs_ret (h:FE X C a e):FS X C false (.Return (some a) pos) (a1s e):=PS.imp (b7b h) λD σ H ⟨c,L,S,Q0,I,h,k⟩ =>
 ⟨c,L,S,_,I,h,λv L1 q x S1 H1 r I1 s1=>k (.ret v) L1 q σ S1 H1 I1 s1 x r⟩
theorem d9e (h:FF X C a e):FS X C true (.Return (some a) pos) (a1s e):=PS.imp (b7b h) λD σ H ⟨c,L,S,Q0,I,h,k⟩ =>
 ⟨c,L,S,_,I,h,λv L1 q l S1 H1 o fr I1 s1=>k (.ret v) L1 q σ S1 H1 I1 s1 _ ⟨l,rfl,o,fr.1⟩⟩
theorem Iv.mine (I:Iv K c md L σ S H){v:FV}{a:Addr}(hi:i≠0)(m:a0g md i≠.imm)(e:L[i]?=some (some v))(e1:σ[i]?=some (some (.ref a)))(ng:(a0g md i).g=false:=by first|rfl|(simp only[*];rfl)):c.H0 a=none:=by
 obtain⟨b,e2,_,h⟩:=I.own i v m e
 rw[e1] at e2;cases e2
 rcases h with h|h|⟨j,h⟩
 ·obtain⟨g1,g2,w,g3⟩:=I.lent a h
  exact absurd (I.dis i 0 v w a m g1 e g3 e1 g2) hi
 ·exact h
 ·obtain⟨g1,g2,w,g3⟩:=I.lnt1 _ h
  have:=I.dis i j v w a m (λz=>by rw[z] at g1;cases g1) e g3 e1 g2
  subst this
  rw[ng] at g1;cases g1
theorem d9d (G:Good X C n sp)(h:C.nm i nx=true)(m:(decide (a0g C.md i=.own) && decide (i≠0))=true):FS X C true (.Return (some (.Name nx p)) pos) (a1s (a0b i)):=PS.imp (b7b (a1k G h)) λD σ H ⟨c,L,S,Q0,I,h,k⟩=>by
 have m:=b2 m
 have mi:a0g C.md i≠.imm:=λz=>by rw[de m.1] at z;cases z
 obtain⟨v,e,q⟩:=wpx h
 have e:=(a1v _ _ _).mp e
 obtain⟨l,e1,o,_⟩:=I.own i v mi e
 exact⟨_,e1,k (.ret v) L q σ S H I (Same.refl S) _ ⟨l,rfl,o,I.mine (de m.2) mi e e1 (by rw[de m.1];rfl)⟩⟩
theorem fs_if {t:BW}{xa xb:List Stmt}(h:FB X C a t)(ha:FSs X C fr xa s)(hb:FSs X C fr xb r):FS X C fr (.If a xa xb pos) (sIf t s r):=PS.imp (d7s h ha hb) λD σ H ⟨c,L,S,Q0,I,h,k⟩ =>
 ⟨c,L,S,_,I,h,λv L1 q S1 H1 I1 s1=>by
  cases v with
  | true=>rw[if_pos rfl] at q ⊢;exact⟨c,L1,S1,_,I1,q,λfl L2 q σ2 S2 H2 I2 s2=>k fl L2 q σ2 S2 H2 I2 (s1.trans s2)⟩
  | false=>rw[if_neg Γk] at q ⊢;exact⟨c,L1,S1,_,I1,q,λfl L2 q σ2 S2 H2 I2 s2=>k fl L2 q σ2 S2 H2 I2 (s1.trans s2)⟩⟩
theorem b2z {tg:Tg}{te:TE}(ht:a3a C.md tg=true)(hte:∀ σ H Q,lv X.K C.md e σ H Q->te σ H Q)(h:PS X.nox st (b6h te (gT X.K tg))):FS X C fr st (a1n e tg):=PS.imp h λD σ H ⟨c,L,S,Q0,I,h,k⟩=>hte _ _ _
 ⟨c,L,S,_,I,h,λv L1 q x S1 H1 r I1 s1=>by
  obtain⟨σ',L',g,q,I2,_⟩:=b4c ht I1 r q
  exact g _ (k .next L' q σ' S1 H1 I2 s1)⟩
theorem c9d {te:TE}(m:a0g C.md i=.imm)(hte:∀ σ H Q,lf X.K C.md e σ H Q->te σ H Q)(h:PS X.nox st (b6h te (a4n i))):FS X C fr st (a1n e (.nm i)):=PS.imp h λD σ H ⟨c,L,S,Q0,I,h,k⟩=>hte _ _ _
 ⟨c,L,S,_,I,h,λv L1 q l S1 H1 o f I1 s1=>by
  obtain⟨u,hu,I2,r⟩:=b7w I1 o f
  exact k .next _ q _ _ H1 (I2.setI m r) (s1.trans (a0h o.1))⟩
theorem a9f {te:TE}(m:(decide (a0g C.md i=.own) && decide (i≠0))=true)(hte:∀ σ H Q,lf X.K C.md e σ H Q->te σ H Q)(h:PS X.nox st (b6h te (a4n i))):FS X C fr st (a1n e (.nm i)):=PS.imp h λD σ H ⟨c,L,S,Q0,I,h,k⟩=>hte _ _ _
 ⟨c,L,S,_,I,h,λv L1 q l S1 H1 o f I1 s1=>by
  have m:=b2 m
  exact k .next _ q _ _ H1 (I1.set (λ_ _=>de m.2) (λz=>by rw[de m.1] at z;cases z) (.inr ⟨de m.1,l,rfl,o,f.1,f.2.1,λj w _ hm hj=>f.2.2 j w hm hj⟩)) s1⟩
theorem b7c (G:Good X C n sp){te:TE}(ht:C.tn i nx=true)(hs:swapsWith a (some (.Name nx px)) pos.line X.env=pure false)(h:PE X.nox a te):PS X.nox (.Assign [.Name nx px] a pos) (b6h te (a4n i)):=by
 have ht:=b2 ht
 obtain⟨l1,l2⟩:=G.loc ht.2
 exact d0v (X:=X.nox) G.nd' (G.ix ht.1) l1 h hs l2
theorem fs_set (G:Good X C n sp)(ht:C.tn i nx=true)(m:a0g C.md i=.imm)(hc:a6f a=false)(h:FE X C a e):FS X C fr (.Assign [.Name nx px] a pos) (a1n e (.nm i)) :=
 b2z (tg:=.nm i) (by simpa[a3a] using m) (λ_ _ _ z=>z) (b7c G ht (a3b hc) h)
theorem d9c (G:Good X C n sp)(ht:C.tn i nx=true)(m:(decide (a0g C.md i=.own) && decide (i≠0))=true)(hc:a6f a=false)(h:FF X C a e):FS X C fr (.Assign [.Name nx px] a pos) (a1n e (.nm i)) :=
 a9f m (λ_ _ _ z=>z) (b7c G ht (a3b hc) h)
def swC (C:CC)(x:Str)(px:Pos)(scope:Scope)(p:Pos):Bool:=decide (C.sc.lookup x=some .local) && (px.line == p.line) && !(scope.names.any λ(n,k)=>n == x && (k == .local || k == .cell))
theorem b6i {elt:Expr}{gs:List Comprehension}{scope:Scope}{p px:Pos}{x:Str}{n:Nat}{env:Env}(hk:env.scope.kind=.function) :
  swapsWith (.ListComp elt gs scope p) (some (.Name x px)) n env=pure (decide (env.scope.names.lookup x=some .local) && (px.line == p.line) && !(scope.names.any λ(n,k)=>n == x && (k == .local || k == .cell))):=by
 have hb:env.blockKind=.function:=by unfold Env.blockKind;rw[hk];rfl
 have:(env.kindOf x == some .local)=decide (env.scope.names.lookup x=some .local):=by
  rw[Bool.eq_iff_iff];simp[Env.kindOf]
 unfold swapsWith
 simp only[hb,this]
 rfl
variable {scope:Scope}{own:List Str}{elt tgx iter:Expr}{ifs:List Expr}{it:AW}{tg:Tg}{t:BW}{nn m:Nat}{md':Md}
theorem b4k (G:Good X C n sp)(ht:C.tn i nx=true)(h:CompOk X C n sp scope own elt tgx iter ifs nn m md' it tg t e):∃ te:TE,(∀ σ H Q,lf X.K C.md (a1h nn m it tg t e) σ H Q->te σ H Q)/\PS X.nox (.Assign [.Name nx px] (.ListComp elt [⟨tgx,iter,ifs,0⟩] scope p) pos) (b6h te (a4n i)):=by
 have hsw:swapsWith (.ListComp elt [⟨tgx,iter,ifs,0⟩] scope p) (some (.Name nx px)) pos.line X.env=pure (swC C nx px scope p):=by rw[b6i G.kind,G.sc];rfl
 obtain⟨s1,s2,s3⟩:=h.blk G
 cases hb:swC C nx px scope p with
 | false =>
  rw[hb] at hsw
  exact⟨_,λσ H Q q=>h.run G q,b7c G ht hsw (b2a G.calm s1 h.it s2 s3)⟩
 | true =>
  rw[hb] at hsw
  have hlo:X.env.scope.names.lookup nx=some .local:=by
   rw[G.sc]
   have hb:=b2 hb
   exact de (b2 hb.1).1
  exact⟨_,λσ H Q q=>h.run G q,a7f G.calm s1 G.nd' (G.ix (b2 ht).1) hlo h.it s2 hsw s3⟩
theorem b9f (G:Good X C n sp)(ht:C.tn i nx=true)(hm:a0g C.md i=.imm)(h:CompOk X C n sp scope own elt tgx iter ifs nn m md' it tg t e):FS X C fr (.Assign [.Name nx px] (.ListComp elt [⟨tgx,iter,ifs,0⟩] scope p) pos) (a1n (a1h nn m it tg t e) (.nm i)) :=
 let ⟨te,h1,h2⟩:=b4k G ht h
 c9d hm h1 h2
theorem c3p (G:Good X C n sp)(ht:C.tn i nx=true)(hm:(decide (a0g C.md i=.own) && decide (i≠0))=true)(h:CompOk X C n sp scope own elt tgx iter ifs nn m md' it tg t e):FS X C fr (.Assign [.Name nx px] (.ListComp elt [⟨tgx,iter,ifs,0⟩] scope p) pos) (a1n (a1h nn m it tg t e) (.nm i)) :=
 let ⟨te,h1,h2⟩:=b4k G ht h
 a9f hm h1 h2
def tupX:Expr->Bool
 | .Tuple ..=>true
 | _=>false
theorem fs_tup (G:Good X C n sp){ts:List Expr}(hm:a3a C.md (.tp is)=true)(hn:tupX a=false)(hg:FGs X ts is)(h:FE X C a e):FS X C fr (.Assign [.Tuple ts k p] a pos) (a1n e (.tp is)) :=
 b2z (tg:=.tp is) hm (λ_ _ _ z=>z) (b7f (X:=X.nox) h (d2v G hg) (by cases a<;>rfl) (by cases a<;>first|rfl|(cases hn;done)) rfl)
def b0g (sc:List (Str×NameKind))(t:Expr):Bool:=match t with
 | .Name x _=>!(decide (sc.lookup x=some .local))
 | _=>true
theorem d6h {ts vs:List Expr}{k k2:Nat}{tp tp2:Pos}{env:Env}(h:4<=ts.length ∨ ∃ t∈ts,b0g env.scope.names t=true):swappedStores [.Tuple ts k tp] (.Tuple vs k2 tp2) env=pure none:=by
 unfold swappedStores
 simp only
 split
 ·rfl
 ·rename_i h1
  split
  ·rfl
  ·have hlen:ts.length=2 ∨ ts.length=3:=by
    simp only[Bool.or_eq_true,Bool.not_eq_true',bne_iff_ne,ne_eq,not_or,Bool.not_eq_false] at h1
    simpa using h1.1.1
   obtain⟨t,ht,hn⟩:∃ t∈ts,b0g env.scope.names t=true:=by
    rcases h with h|h
    ·lia
    ·exact h
   have lt:∀ (l:List Expr)(f:Expr->Option Str),t∈l->f t=none->(l.filterMap f).length<l.length:=by
    intro l f
    induction l with
    | nil=>intro h;cases h
    | cons a r ih =>
     intro hm hf
     have le:=List.length_filterMap_le f r
     rcases List.mem_cons.mp hm with rfl|hm
     ·rw[List.filterMap_cons,hf,List.length_cons];show (List.filterMap f r).length<_;lia
     ·rw[List.filterMap_cons]
      have:=ih hm hf
      split<;>simp only[List.length_cons]<;>lia
   have:=lt ts (fun
    | .Name id pos=>if env.kindOf id == some .local && pos.line == (ts.head?.map (·.pos.line)).getD 0 then some id else none
    | _=>none) ht (by
     cases t with
     | Name x p =>
      have hx:¬ env.scope.names.lookup x=some .local:=by simpa[b0g] using hn
      have hk:(env.kindOf x == some NameKind.local)=false:=by
       cases hq:(env.kindOf x == some NameKind.local) with
       | false=>rfl
       | true=>exact absurd (show env.kindOf x=some .local by simpa using hq) hx
      simp only[hk,Bool.false_and,Γp,if_false]
     | _=>rfl)
   rw[if_pos]
   simp only[Bool.or_eq_true,bne_iff_ne,ne_eq]
   left
   exact Γo this
theorem d9b (G:Good X C n sp){ts vs:List Expr}{k2:Nat}{p2:Pos}(hm:a3a C.md (.tp is)=true)(hn:(decide (4<=ts.length) || ts.any λt=>b0g C.sc t)=true)(hg:FGs X ts is)(h:FE X C (.Tuple vs k2 p2) e):FS X C fr (.Assign [.Tuple ts k p] (.Tuple vs k2 p2) pos) (a1n e (.tp is)) :=
 b2z (tg:=.tp is) hm (λ_ _ _ z=>z) (b7f (X:=X.nox) h (d2v G hg) rfl (d6h (by
  show 4<=ts.length ∨ ∃ t∈ts,b0g X.env.scope.names t=true
  rw[G.sc]
  simpa using hn)) rfl)
theorem c1u {xo xi : Expr} {p : Pos} {env : Env} (h : a2b xi = false) : ∀ v, assign (.Subscript xo xi p) env v = (do
      let ov <- holding [v] (eval xo env)
      let iv <- holding [v,ov] (eval xi env)
      standAt p
      holding [v,ov,iv] (setItem ov iv v)
      release [v,ov,iv] []):=by
  intro v
  cases xi<;>first|rfl|(cases h;done)
theorem fs_ix (G:Good X C n sp)(hn:C.nm i nx=true)(m:a0g C.md i=.own)(hc:(!a6f a && !a2b b)=true)(ha:FE X C a ea)(hb:FE X C b eb):FS X C fr (.Assign [.Subscript (.Name nx px) b p] a pos) (c9i i eb ea):=by
 have hc:=b2 hc
 refine PS.imp (b7f (X:=X.nox) ha (d0x (a1k (pos:=px) G hn) hb c1v (c1u (nb hc.2))) (by simp only[swapsWithSole];exact a3b (nb hc.1)) rfl rfl) λD σ H ⟨c,L,S,Q0,I,h,k⟩=>?_
 have mi:a0g C.md i≠.imm:=λz=>by rw[m] at z;cases z
 obtain⟨v0,e,h⟩:=wpx h
 obtain⟨l,e1,_⟩:=I.own i v0 mi ((a1v _ _ _).mp e)
 refine⟨c,L,S,_,I,h,λv L1 q x S1 H1 r1 I1 s1=>⟨_,e1,c,L1,S1,_,I1,q,λw L2 q y S2 H2 r2 I2 s2=>?_⟩⟩
 obtain⟨v1,e2,q2⟩:=wpx q
 obtain⟨z,e3,q3⟩:=wpx q2
 have e2:=(a1v _ _ _).mp e2
 obtain⟨l',f1,⟨o1,ps,us,e9,o2,o3⟩,_⟩:=I2.own i v1 mi e2
 rw[e1] at f1;cases f1
 obtain⟨xs,g1,e3⟩:=bnd e3
 obtain⟨nn,g2,e3⟩:=bnd e3
 obtain⟨pp,g3,rfl⟩:=mpd e3
 cases a3o g1
 cases e9
 obtain rfl:w=.int nn:=by cases w<;>cases g2;rfl
 obtain rfl:y=.int nn:=r2
 refine⟨l,us,nn,pp,rfl,rfl,o2,by rw[<- o3.length];exact g3,?_⟩
 exact k .next _ q3 σ S2 _ (I2.write m e2 e1 (o3.set pp (r1.mono s2))) (s1.trans s2)
def d4b (f:Int->Int->Int):FV->FV->Option FV
 | .int a,.int b=>some (.int (f a b))
 | _,_=>none
theorem c9a {f:Int->Int->Int}{v w z:FV}(h:d4b f v w=some z):∃ a b,v=.int a/\w=.int b/\z=.int (f a b):=by
 obtain⟨a,rfl⟩:∃ a,v=.int a:=by cases v<;>first|exact⟨_,rfl⟩|cases h
 cases w<;>first|(cases h;exact⟨_,_,rfl,rfl,rfl⟩)|cases h
theorem d3z {f:Int->Int->Int}(m:a0g C.md i=.imm)(h:PS X.nox st (tAug i (lv X.K C.md e) (ipI f))):FS X C fr st (d4k (d4b f) i e):=PS.imp h λD σ H ⟨c,L,S,Q0,I,h,k⟩=>by
 obtain⟨v,e0,h⟩:=wpx h
 obtain⟨x,e1,r⟩:=I.imm i v m ((a1v _ _ _).mp e0)
 refine⟨x,e1,c,L,S,_,I,h,λw L1 q y S1 H1 r1 I1 s1=>?_⟩
 obtain⟨z,e2,q⟩:=wpx q
 obtain⟨a,b,rfl,rfl,rfl⟩:=c9a e2
 exact⟨a,b,r,r1,k .next _ q _ S1 H1 (I1.setI (v:=.int _) m rfl) s1⟩
theorem fs_add (G:Good X C n sp)(ht:C.tn i nx=true)(m:a0g C.md i=.imm)(h:FE X C a e):FS X C fr (.AugAssign (.Name nx px) .Add a pos) (d4k (d4b λi j=>i+j) i e):=by
 have ht:=b2 ht
 obtain⟨l1,l2⟩:=G.loc ht.2
 exact d3z m (c4n (X:=X.nox) G.nd' (G.ix ht.1) l1 h d2q l2)
theorem c8d {J:It}{xs:List FV}{D:Ends}{Q0:FFl->a0c->Prop}(I:Iv K c md L σ S H)(hJ:ItR K c md J xs S)(ht:a3a md tg=true)(h:c8e tg s xs L Q0)
  (k:∀ fl L',Q0 fl L'->∀ σ' S' H',Iv K c md L' σ' S' H'->Same S S'->EndQ K c fr D σ' S' H' fl) :
  ∃ W:Nat->Nat->L2.St->Hp->Prop,(∃ m,W 0 m σ H)/\∀ i m σ H,W i m σ H ->
   (J.stop i H/\D.nx σ H) ∨ (J.go i H/\∃ N:L2.St->Hp->Prop,(∀ σ' H',N σ' H'->∃ m',m'<m/\W (i+1) m' σ' H')/\∀ x H',J.yld i H x H'->gT K tg x σ H' λσ2 H2=>ls K md fr s { D with nx:=N,ct:=N,bk:=D.nx } σ2 H2):=by
 let W:Nat->Nat->L2.St->Hp->Prop:=λi j σ1 H1=>∃ L S1,j=(xs.drop i).length/\Iv K c md L σ1 S1 H1/\Same S S1/\c8e tg s (xs.drop i) L Q0
 refine⟨W,⟨_,L,S,rfl,I,Same.refl S,by rw[List.drop_zero];exact h⟩,?_⟩
 rintro i m σ1 H1 ⟨L,S1,rfl,I,s1,h⟩
 obtain⟨j1,j2⟩:=hJ i L σ1 S1 H1 I s1
 cases hd:xs.drop i with
 | nil =>
  rw[hd] at h
  exact .inl ⟨j1 (List.getElem?_eq_none_iff.mpr (List.drop_eq_nil_iff.mp hd)),k .next L h σ1 S1 H1 I s1⟩
 | cons p rest =>
  right
  rw[hd] at h
  have hi:xs[i]?=some p:=by
   have:=congrArg (·[0]?) hd
   simpa using this
  have hd':xs.drop (i+1)=rest:=by
   have:=congrArg List.tail hd
   simpa[List.tail_drop] using this
  obtain⟨go,yl⟩:=j2 p hi
  refine⟨go,λσ' H'=>∃ m',m'<rest.length+1/\W (i+1) m' σ' H',λσ' H' h=>h,λx H2 y=>?_⟩
  obtain⟨S2,s2,tr,rx⟩:=yl x H2 y
  have I2:=tr _ _ _ _ I
  obtain⟨σ2,L2,g,q,I3,_⟩:=b4c ht I2 rx h
  refine g _ ⟨c,L2,S2,_,I3,q,λfl L3 q σ3 S3 H3 I4 s3=>?_⟩
  have ss:=s1.trans (s2.trans s3)
  cases fl with
  | next=>exact⟨_,Nat.lt_succ_self _,L3,S3,by rw[hd'],I4,ss,by rw[hd'];exact q⟩
  | cont=>exact⟨_,Nat.lt_succ_self _,L3,S3,by rw[hd'],I4,ss,by rw[hd'];exact q⟩
  | brk=>exact k .next L3 q σ3 S3 H3 I4 ss
  | ret v=>exact k (.ret v) L3 q σ3 S3 H3 I4 ss
theorem a1y (G:Good X C n sp){body:List Stmt}(hc:(a3a md' tg && !b2n iter)=true)(hi:FI X C md' tgx iter it)(hg:FG X tgx tg)(hb:Good X (C.wmd md') n sp->FSs X (C.wmd md') fr body s):FS X C fr (.For tgx iter body [] pos) (a7a it tg s):=by
 have hc:=b2 hc
 refine PS.imp (c4m (X:=X.nox) PassesOwn.never G.calm hi hg (hb (G.wmd md')) (a6i (nb hc.2))) λD σ H ⟨c,L,S,Q0,I,h,k⟩=>?_
 refine⟨c,L,S,_,I,h,λxs L1 q J c' S1 H1 I1 un e0 hJ s1=>?_⟩
 refine c8d I1 hJ hc.1 q λfl L2 q σ2 S2 H2 I2 s2=>?_
 have:=k fl L2 q σ2 S2 H2 (un _ _ _ _ I2) (s1.trans s2)
 cases fl with
 | next=>exact this
 | brk=>exact this
 | cont=>exact this
 | ret v =>
  intro x r
  refine this x ?_
  cases fr with
  | false=>exact r
  | true =>
   obtain⟨a,r1,r2,r3⟩:=r
   exact⟨a,r1,r2,by rw[<- e0];exact r3⟩
theorem fs_whl {body:List Stmt}(hc:FB X C a t)(hb:FSs X C fr body s):FS X C fr (.While a body [] pos) (c9h t s):=by
 refine PS.imp (c2f (X:=X.nox) PassesOwn.never hc hb) λD σ H ⟨c,L,S,Q0,I,⟨m,h⟩,k⟩=>?_
 refine⟨λm σ1 H1=>∃ L S1,Iv X.K c C.md L σ1 S1 H1/\Same S S1/\c9g t s m L Q0,⟨m,L,S,I,Same.refl S,h⟩,?_⟩
 rintro m σ1 H1 ⟨L,S1,I1,s1,h⟩
 cases m with
 | zero=>exact h.elim
 | succ m =>
  refine⟨c,L,S1,_,I1,h,λv L1 q S2 H2 I2 s2=>?_⟩
  cases v with
  | false =>
   rw[if_neg Γk] at q ⊢
   exact k .next L1 q σ1 S2 H2 I2 (s1.trans s2)
  | true =>
   rw[if_pos rfl] at q ⊢
   refine⟨λσ' H'=>∃ m',m'<m+1/\∃ L S1,Iv X.K c C.md L σ' S1 H'/\Same S S1/\c9g t s m' L Q0,λσ' H' h=>h,c,L1,S2,_,I2,q,λfl L3 q σ3 S3 H3 I4 s3=>?_⟩
   have ss:=s1.trans (s2.trans s3)
   cases fl with
   | next=>exact⟨m,Nat.lt_succ_self _,L3,S3,I4,ss,q⟩
   | cont=>exact⟨m,Nat.lt_succ_self _,L3,S3,I4,ss,q⟩
   | brk=>exact k .next L3 q σ3 S3 H3 I4 ss
   | ret v=>exact k (.ret v) L3 q σ3 S3 H3 I4 ss
end
structure Df where
 name:String
 st:Stmt
 ps:List Str
 N:List Str
 md:Md
structure Fns where
 f:List Str
 ms:List (Str×Addr×Str)
 fl:List (Addr×Str)
def Df.cc (d:Df)(fns:Fns):CC:=⟨d.N,(a0s d.st).names,fns.f,d.md,true,[],fns.ms,fns.fl⟩
def d7y (io:Bool)(md:Md) (np:Nat):Bool:=(List.range np).all λi=>decide (a0g md i=if (io && decide (i=0))=true then .own else .imm)
def Df.ok (d:Df) (np ns:Nat)(io:Bool):Bool :=
 decide ((a0s d.st).kind=.function) && !(a0s d.st).isCoroutine && !(a0s d.st).isGenerator && decide (d.N.Nodup) && decide (d.N.take d.ps.length=d.ps) && d.ps.all (λx=>decide ((a0s d.st).names.lookup x=some .local ∨ (a0s d.st).names.lookup x=some .cell)) &&
 (a0s d.st).names.all (λp=>decide (p.2≠.free)) && decide (np=d.ps.length) && decide (ns=d.N.length) && d7y io d.md np
def spT (K:Γd)(tb:List FD)(call:CW) (f:Nat):Sp:=match tb[f]? with
 | some fd=>spQ K call fd.io fd.fr f
 | none=>λ_ _ _ _=>False
def spK (tb:List FD)(call:CW)(K:Γd):Nat->Sp:=spT K tb call
theorem Df.sc {d:Df}{np ns:Nat}{io:Bool}(h:d.ok np ns io=true):FnScope d.N d.ps (a0s d.st)/\np=d.ps.length/\ns=d.N.length/\∀ i,i<np->a0g d.md i=if (io && decide (i=0))=true then .own else .imm:=by
 have h0:=b2 h;have h1:=b2 h0.1;have h2:=b2 h1.1;have h3:=b2 h2.1;have h4:=b2 h3.1;have h5:=b2 h4.1;have h6:=b2 h5.1;have h7:=b2 h6.1;have h8:=b2 h7.1
 exact⟨⟨de h8.1,nb h8.2,nb h7.2,de h6.2,de h5.2,λx hx=>de (List.all_eq_true.mp h4.2 x hx),λy hy=>de (List.all_eq_true.mp h3.2 y hy)⟩,de h2.2,de h1.2,λi hi=>de (List.all_eq_true.mp h0.2 i (List.mem_range.mpr hi))⟩
section
variable {P:Program}{w:World}{K:Γd}{mg:Str->Option Value}{base:Heap}{tb:List FD}{fns:Fns}
theorem ArgsOk.len {S H:Hp}{args:List FV}{vs:List V}{io:Bool}(h:ArgsOk K S H args vs io):args.length=vs.length:=by
 cases io with
 | false=>exact RVs.length h
 | true =>
  obtain⟨v,r,a,us,rfl,rfl,_,h⟩:=h
  rw[List.length_cons,List.length_cons,h.length]
theorem c3d {S H:Hp}{args:List FV}{vs:List V}{io:Bool}{md:Md}{N:List Str}{np ns:Nat}(h:ArgsOk K S H args vs io)(hs:Same S H)(hn:args.length=np)(hN:ns=N.length)(hm:∀ i,i<np->a0g md i=if (io && decide (i=0))=true then .own else .imm) :
  Iv K ⟨H,S,b3u vs io,[],[],[]⟩ md (args.map some++Γj (ns-np) none) (L2.start N vs) S H:=by
 have hl:=h.len
 have look:∀ i v,(args.map some++Γj (ns-np) none)[i]?=some (some v)->args[i]?=some v/\i<np:=λi v e=>by
  by_cases hi:i<args.length
  ·rw[List.getElem?_append_left (by rw[List.length_map];exact hi),List.getElem?_map] at e
   cases ea:args[i]? with
   | none=>rw[ea] at e;cases e
   | some q=>rw[ea] at e;cases e;exact⟨rfl,by lia⟩
  ·rw[List.getElem?_append_right (by rw[List.length_map];lia),List.getElem?_replicate] at e
   split at e<;>cases e
 have st:∀ i,i<np->(L2.start N vs)[i]?=vs[i]?.map some:=λi hi=>by
  unfold L2.start
  rw[List.getElem?_append_left (by rw[List.length_map];lia),List.getElem?_map]
 have own:∀ i v,a0g md i≠.imm->(args.map some++Γj (ns-np) none)[i]?=some (some v)->i=0/\io=true/\a0g md 0=.own:=λi v hm' e=>by
  obtain⟨_,hi⟩:=look i v e
  have:=hm i hi
  cases io with
  | false=>exact absurd (by simpa using this) hm'
  | true =>
   by_cases h0:i=0
   ·subst h0;exact⟨rfl,rfl,by simpa using this⟩
   ·exact absurd (by simpa[h0] using this) hm'
 have lent:∀ a,b3u vs io=some a->io=true/\0<np/\a0g md 0=.own/\vs[0]?=some (.ref a)/\∃ v,args[0]?=some v/\a3s K S H a v:=λa e=>by
  cases io with
  | false=>cases e
  | true =>
   obtain⟨v,r,a',us,rfl,rfl,o,_⟩:=h
   cases e
   have hp:0<np:=by rw[<- hn];exact Nat.succ_pos _
   exact⟨rfl,hp,by simpa using hm 0 hp,rfl,v,rfl,o⟩
 refine⟨?_,λi v hm' e=>?_,λi v hm' e=>?_,λi j v w a m1 m2 e1 e2 _ _=>?_,hs,λa o e _ _=>e,Same.refl S,λa o e=>.inl e,λa e=>?_,λp hp=>absurd hp List.not_mem_nil,λi v hf e=>?_,λp hp=>absurd hp List.not_mem_nil,λp hp=>absurd hp List.not_mem_nil,λp hp=>absurd hp List.not_mem_nil,λq hq=>absurd hq List.not_mem_nil,λj i x C dx fs v h1 h2 h3 h4=>?_⟩
 ·unfold L2.start
  rw[List.length_append,List.length_append,List.length_map,List.length_map,List.length_replicate,List.length_replicate,hN]
  lia
 ·obtain⟨ea,hi⟩:=look i v e
  rw[st i hi]
  cases io with
  | false =>
   obtain⟨x,e1,r⟩:=RVs.get (show RVs K S args vs from h) ea
   exact⟨x,by rw[e1];rfl,r⟩
  | true =>
   obtain⟨v0,r,a',us,rfl,rfl,o,hr⟩:=h
   cases i with
   | zero=>rw[show a0g md 0=.own by simpa using hm 0 hi] at hm';cases hm'
   | succ i =>
    obtain⟨x,e1,r1⟩:=RVs.get hr (by simpa using ea)
    exact⟨x,by simp[e1],r1⟩
 ·obtain⟨rfl,rfl,m0⟩:=own i v hm' e
  obtain⟨ea,hi⟩:=look 0 v e
  obtain⟨v0,r,a',us,rfl,rfl,o,hr⟩:=h
  cases ea
  exact⟨a',by rw[st 0 hi];rfl,o,.inl rfl⟩
 ·rw[(own i v m1 e1).1,(own j w m2 e2).1]
 ·obtain⟨rfl,hp,m0,e1,v,ea,_⟩:=lent a e
  refine⟨λz=>(nomatch (m0.symm.trans z)),by rw[st 0 hp,e1];rfl,v,?_⟩
  rw[List.getElem?_append_left (by rw[List.length_map];lia),List.getElem?_map,ea];rfl
 ·have:=own i v (λz=>by rw[z] at hf;cases hf) e
  rw[this.1,this.2.2] at hf;cases hf
 ·have:=own j v (λz=>by rw[z] at h1;cases h1) h4
  rw[this.1,this.2.2] at h1;cases h1
theorem b2p {d f:Nat}{fa:Addr}{fdd:FuncData}{df:Df}{fd:FD}{nm qu:Str}(F:Fun K nm qu df.st fa fdd)(hf:tb[f]?=some fd)(hok:df.ok fd.np fd.ns fd.io=true)
  (hb:∀ X call n,Good X (df.cc fns) n (spK tb call)->FSs X (df.cc fns) fd.fr (a2c df.st) (fd.body call))
  (fnsOk:∀ (f:Nat)(x:Str),fns.f[f]?=some x->∃ fa fd ps,mg x=some (.ref fa)/\PySem.W.keepIn K (.ref fa)=true/\Binds K fd ps []/\FnOk P w K mg base CX0 d fa fd ps (spT K tb (callW tb d) f))
  (blt:∀ b∈bltNames,mg (Γe b)=none)(mtsOk:∀ (k:Nat)(c:Str)(Ca:Addr)(m:Str),fns.ms[k]?=some (c,Ca,m)->e3j P w K mg base d (spT K tb (callW tb d) (fns.f.length+k)) c Ca m)(fl:∀ p∈fns.fl,Cls K p.1/\b1p K p.1 p.2):FnOk P w K mg base CX0 (d+1) fa fdd df.ps (spT K tb (callW tb (d+1)) f):=by
 obtain⟨S,hnp,hns,hmd⟩:=Df.sc hok
 have e0:spT K tb (callW tb (d+1)) f=spQ K (callW tb (d+1)) fd.io fd.fr f:=by unfold spT;rw[hf]
 have run:∀ {args:List FV}{Q:FV×FV->Prop},callW tb (d+1) f args Q->args.length=fd.np/\fd.body (callW tb d) (args.map some++Γj (fd.ns-fd.np) none) (b9m fd.io fd.fr Q):=λ{args Q} h=>by
  have h:(match tb[f]? with
   | none=>False
   | some fd=>args.length=fd.np/\fd.body (callW tb d) (args.map some++Γj (fd.ns-fd.np) none) (b9m fd.io fd.fr Q)):=h
  rw[hf] at h;exact h
 rw[e0]
 refine F.ok S (λvs H Q E h=>?_) (λcdv A outer s H vs Q E hr h=>?_)
 ·obtain⟨S0,args,Q0,_,ao,hc,_⟩:=h
  rw[<- ao.len,(run hc).1,hnp]
 ·obtain⟨S0,args,Q0,hs,ao,hc,k⟩:=h
  obtain⟨hl,hc⟩:=run hc
  have G:Good (c8u CX0 P w K mg base df.N qu (a0s df.st) fa cdv A outer s H E) (df.cc fns) d (spK tb (callW tb d)) :=
   ⟨rfl,rfl,S.kind,S.nd,rfl,λ_ _=>rfl,hr,fnsOk,blt,mtsOk,fl⟩
  refine⟨_,hb _ _ _ G,_,_,S0,_,c3d ao hs hl hns hmd,hc,λfl L' q σ' S' H' I s'=>?_⟩
  have kp:∀ w,(fd.io=true->lk L' 0=some w)->Kept K S0 H S' H' (b3u vs fd.io) w:=λw hw=>⟨s',I.sub,I.grow,λa o e n=>I.frame a o e n (λ_=>List.not_mem_nil),λa e=>by
   have hio:fd.io=true:=by
    cases z:fd.io with
    | true=>rfl
    | false=>rw[z] at e;cases e
   obtain⟨m0,e1,v,e2⟩:=I.lent a e
   obtain⟨b,e3,o,_⟩:=I.own 0 v m0 e2
   rw[e1] at e3;cases e3
   have:=(a1v _ _ _).mp (hw hio)
   rw[e2] at this;cases this
   exact o⟩
  have fin:∀ v x,b9m fd.io fd.fr Q0 (.ret v) L'->c9e K S' H' H v x fd.fr->Q x H':=λv x q r=>by
   cases hio:fd.io with
   | true =>
    rw[hio] at q
    obtain⟨w,e1,q⟩:=wpx q
    exact k _ q x S' H' (kp w λ_=>e1) r
   | false =>
    rw[hio] at q
    exact k (v,.non) q x S' H' (kp .non λz=>by rw[hio] at z;cases z) r
  cases fl with
  | next =>
   cases hfr:fd.fr with
   | true=>rw[hfr] at q;exact q.elim
   | false=>rw[hfr] at q;exact fin .non .non (by rw[hfr];exact q) (by rw[hfr];exact rfl)
  | ret v =>
   intro x r
   refine fin v x q ?_
   cases hfr:fd.fr with
   | true=>rw[hfr] at r;exact r
   | false=>rw[hfr] at r;exact r
  | brk=>exact q.elim
  | cont=>exact q.elim
theorem c0w (blt:∀ b∈bltNames,mg (Γe b)=none)(fl:∀ p∈fns.fl,Cls K p.1/\b1p K p.1 p.2)
  (D:∀ (f:Nat)(x:Str),fns.f[f]?=some x->∃ df fd fa fdd,tb[f]?=some fd/\Df.ok df fd.np fd.ns fd.io=true/\(∀ X call n,Good X (df.cc fns) n (spK tb call)->FSs X (df.cc fns) fd.fr (a2c df.st) (fd.body call))/\Fun K (Γe df.name) (Γe df.name) df.st fa fdd/\mg x=some (.ref fa)/\Binds K fdd df.ps [])
  (DM:∀ (k:Nat)(c:Str)(Ca:Addr)(m:Str),fns.ms[k]?=some (c,Ca,m)->∃ df fd fa fdd nm qu,tb[fns.f.length+k]?=some fd/\Df.ok df fd.np fd.ns fd.io=true/\(∀ X call n,Good X (df.cc fns) n (spK tb call)->FSs X (df.cc fns) fd.fr (a2c df.st) (fd.body call))/\Fun K nm qu df.st fa fdd/\mg c=some (.ref Ca)/\Cls K Ca/\(m=("__init__":Str)->Mk K Ca fa)/\(m≠("__init__":Str)->Meth K Ca m fa)/\Binds K fdd df.ps []) :
  ∀ d:Nat,(∀ (f:Nat)(x:Str),fns.f[f]?=some x->∃ fa fd ps,mg x=some (.ref fa)/\PySem.W.keepIn K (.ref fa)=true/\Binds K fd ps []/\FnOk P w K mg base CX0 d fa fd ps (spT K tb (callW tb d) f))/\∀ (k:Nat)(c:Str)(Ca:Addr)(m:Str),fns.ms[k]?=some (c,Ca,m)->e3j P w K mg base d (spT K tb (callW tb d) (fns.f.length+k)) c Ca m
 | 0=>by
  have no:∀ {f fd} vs H Q E,tb[f]?=some fd->¬ spT K tb (callW tb 0) f vs H Q E:=λvs H Q E h1 z=>by
   unfold spT at z
   rw[h1] at z
   obtain⟨_,_,_,_,_,k,_⟩:=z
   exact k
  refine⟨λf x h=>?_,λk c Ca m h=>?_⟩
  ·obtain⟨df,fd,fa,fdd,h1,h2,h6,h3,h4,h5⟩:=D f x h
   exact⟨fa,fdd,df.ps,h4,h3.kp,h5,λvs H Q E z=>absurd z (no vs H Q E h1),λA outer s H args us vs Q E _ _ _ _ z=>absurd z (no vs H Q E h1)⟩
  ·obtain⟨df,fd,fa,fdd,nm,qu,h1,h2,h6,h3,h4,h5,h7,h8,h9⟩:=DM k c Ca m h
   exact⟨fa,fdd,df.ps,h4,h5,h7,h8,h9,λvs H Q E z=>absurd z (no vs H Q E h1),λA outer s H args us vs Q E _ _ _ _ z=>absurd z (no vs H Q E h1)⟩
 | d+1=>by
  obtain⟨r1,r2⟩:=c0w blt fl D DM d
  refine⟨λf x h=>?_,λk c Ca m h=>?_⟩
  ·obtain⟨df,fd,fa,fdd,h1,h2,h6,h3,h4,h5⟩:=D f x h
   exact⟨fa,fdd,df.ps,h4,h3.kp,h5,b2p h3 h1 h2 h6 r1 blt r2 fl⟩
  ·obtain⟨df,fd,fa,fdd,nm,qu,h1,h2,h6,h3,h4,h5,h7,h8,h9⟩:=DM k c Ca m h
   exact⟨fa,fdd,df.ps,h4,h5,h7,h8,h9,b2p h3 h1 h2 h6 r1 blt r2 fl⟩
theorem law_sp {d f:Nat}{H:Hp}{a:Addr}{ns:List Int}{fd:FD}(hf:tb[f]?=some fd)(hio:fd.io=false)(hfr:fd.fr=false)(hO:d5v H)(hS:SqL K H a (ns.map V.int))(h:callW tb d f [.scr ns] λz=>z.1=.bl true) :
  spT K tb (callW tb d) f [.ref a] H (λv _=>v=.bl true) λ_ _ _=>False:=by
 have e0:spT K tb (callW tb d) f=spQ K (callW tb d) false false f:=by unfold spT;rw[hf];show spQ K (callW tb d) fd.io fd.fr f=_;rw[hio,hfr]
 rw[e0]
 refine⟨H,[.scr ns],_,Same.refl H,RVs.one ⟨a,rfl,?_⟩,h,λz e x S' H' _ r=>?_⟩
 ·rcases hS with (h|⟨o,h⟩)|h
  ·rcases hO a with z|⟨o,xs,z⟩
   ·rw[z] at h;cases h
   ·rw[z] at h;cases h
  ·exact .inl ⟨o,h⟩
  ·exact .inr (.inr h)
 ·have r:RV K S' z.1 x:=r
  rw[e] at r;exact r
end
def EachI {α:Type}(P:Nat->α->Prop):Nat->List α->Prop
 | _,[]=>True
 | i,x :: xs=>P i x/\EachI P (i+1) xs
theorem EachI.get {α:Type}{P:Nat->α->Prop}:∀ {xs:List α}{k:Nat},EachI P k xs->∀ (f:Nat)(x:α),xs[f]?=some x->P (k+f) x
 | _ :: _,_,h,0,x,e=>(Option.some.inj e) ▸ h.1
 | _ :: xs,k,h,f+1,x,e=>by
  have:=EachI.get h.2 f x e
  rw[Nat.add_assoc,Nat.add_comm 1 f] at this
  exact this
theorem us1 {P:List Value->Prop}{us:List Value}(h:us.length=1)(H:∀ a,P [a]):P us:=match us,h with|[_],_=>H _
theorem us2 {P:List Value->Prop}{us:List Value}(h:us.length=2)(H:∀ a b,P [a,b]):P us:=match us,h with|[_,_],_=>H _ _
theorem us4 {P:List Value->Prop}{us:List Value}(h:us.length=4)(H:∀ a b c d,P [a,b,c,d]):P us:=match us,h with|[_,_,_,_],_=>H _ _ _ _
end Kq
end
section
namespace Kq
open PySem PySem.Spec PySem.Calls PyProof.Rows L2 PySem.W
theorem a8o:∀ {K:Frag}{a:Addr}{o:Obj},K.lookup a=some o->(a,o)∈K
 | [],a,o,h=>by simp at h
 | (b,u) :: K,a,o,h=>by
  rw[List.lookup_cons] at h
  split at h
  ·rename_i e;cases h;rw[beq_iff_eq.mp e];exact Γn
  ·exact Γh _ (a8o h)
theorem b8c {K:Frag}{a:Addr}{o:Obj}(h:(a,o)∈K):∃ u,K.lookup a=some u:=by
 induction K with
 | nil=>exact absurd h List.not_mem_nil
 | cons p K ih =>
  obtain⟨b,u⟩:=p
  rw[List.lookup_cons]
  split
  ·exact⟨_,rfl⟩
  ·rename_i e
   rcases List.mem_cons.mp h with z|z
   ·rw[(Prod.mk.inj z).1,beq_self_eq_true] at e;cases e
   ·exact ih z
def AllIn (K:Frag)(h:Heap):Prop:=∀ p∈K,h.get? p.1=some p.2
theorem AllIn.to {K:Frag}{h:Heap}(x:AllIn K h):K.In h:=λa o e=>x _ (a8o e)
theorem AllIn.look {K:Frag}{h:Heap}(x:AllIn K h){a:Addr}{o:Obj}(m:(a,o)∈K):K.lookup a=some o:=by
 obtain⟨u,e⟩:=b8c m
 have h1:=x _ (a8o e)
 rw[show h.get? a=some o from x _ m] at h1
 cases h1;exact e
def CIn (K:Frag)(cd:Value)(q:Str):Prop:=∃ c oc vs t,cd=.ref c/\(c,oc)∈K/\oc.data=.fields vs/\vs[1]?=some (.str q t)
def DIn (K:Frag)(mg:Str->Option Value)(d:DefRec):Prop:=∃ fa o pm cd doc,mg d.name=some (.ref fa)/\(fa,o)∈K/\o.data=.func (docDef d.name d.params d.body d.scope pm cd doc)/\CIn K cd d.name
theorem DIn.more {K K':Frag}{mg:Str->Option Value}{d:DefRec}(s:∀ p∈K,p∈K')(x:DIn K mg d):DIn K' mg d:=by
 obtain⟨fa,o,pm,cd,doc,h1,h2,h3,c,oc,vs,t,h4,h5,h6⟩:=x
 exact⟨fa,o,pm,cd,doc,h1,s _ h2,h3,c,oc,vs,t,h4,s _ h5,h6⟩
theorem b9u {q:Program}{loose:List Str}{mean:ExcName->Option Value}{mg mb:Str->Option Value}{h:Heap}(T:Top q loose mean mg mb h):∀ ds:List DefRec,(∀ d∈ds,d∈recsOf q)->∃ K:Frag,AllIn K h/\∀ d∈ds,DIn K mg d
 | [],_=>⟨[],λ_ m=>absurd m List.not_mem_nil,λ_ m=>absurd m List.not_mem_nil⟩
 | d :: ds,hm=>by
  obtain⟨K,h1,h2⟩:=b9u T ds λe m=>hm e (Γh _ m)
  obtain⟨a,o,pm,cd,doc,g1,g2,g3,c,oc,vs,t,g4,g5,g6⟩:=T.fn d (hm d Γn)
  refine⟨(a,o) :: (c,oc) :: K,λp m=>?_,λe m=>?_⟩
  ·rcases List.mem_cons.mp m with z|z
   ·cases z;exact g2
   ·rcases List.mem_cons.mp z with z|z
    ·cases z;exact g5
    ·exact h1 p z
  ·rcases List.mem_cons.mp m with z|z
   ·cases z
    exact⟨a,o,pm,cd,doc,g1,Γn,g3,c,oc,vs,t,g4,Γh _ Γn,g6⟩
   ·exact (h2 e z).more λp m=>Γh _ (Γh _ m)
theorem DIn.fn {K:Frag}{h:Heap}(A:AllIn K h){mg:Str->Option Value}{x:Str}{st:Stmt}{pos:Pos}(D:DIn K mg ⟨x,a4z st,a2c st,a0s st,pos⟩):∃ fa fd,mg x=some (.ref fa)/\Fun K x x st fa fd:=by
 obtain⟨fa,o,pm,cd,doc,h1,h2,h3,c,oc,vs,t,rfl,h5,h6,h7⟩:=D
 have l:=A.look h2
 have lc:=A.look h5
 obtain⟨k1,k2,k3,k4⟩:=o
 obtain⟨j1,j2,j3,j4⟩:=oc
 cases h3;cases h6
 refine⟨fa,_,h1,d2u (kV:=.none) (doc:=doc) (pm:=pm) (an:=none) (cdv:=.ref c) (ct:=.none) l ?_ ?_⟩
 ·show (match K.lookup c with|some ⟨_,_,.fields vs,_⟩=>_|_=>_)=true
  rw[lc]
  obtain⟨l⟩:=vs
  match l,h7 with
  | [],h7=>simp at h7
  | [a],h7=>simp at h7
  | a :: b :: r,h7 =>
   simp at h7;subst h7
   exact beq_self_eq_true _
 ·show (match K.lookup fa with|some ⟨_,_,.func _,_⟩=>true|some ⟨_,_,.cls _,_⟩=>_|_=>false)=true
  rw[l]
def d3m:Stmt->Pos
 | .FunctionDef _ _ _ _ _ _ _ _ _ p=>p
 | _=>⟨0,0,0,0⟩
def d8r:Stmt->Bool
 | .FunctionDef ..=>true
 | _=>false
def c9n (p:Program):Program:={ p with main:={ p.main with body:=p.main.body.filter d8r } }
def freeIn (q:Program)(loose:List Str)(x:Str):Bool:=!startupNames.contains x && !loose.contains x && !((recsOf q).map (·.name)).contains x && !((litsOf q).map (·.1)).contains x && !((clssOf q loose).map (·.name)).contains x
theorem c8c {q:Program}{loose:List Str}{mean:ExcName->Option Value}{mg mb:Str->Option Value}{h:Heap}(T:Top q loose mean mg mb h){x:Str}(e:freeIn q loose x=true):mg x=none:=by
 unfold freeIn at e
 simp only[Bool.and_eq_true,Bool.not_eq_true',List.contains_eq_mem,decide_eq_false_iff_not] at e
 exact T.free x e.1.1.1.1 e.1.1.1.2 e.1.1.2 e.1.2 e.2
theorem walk2 {l:OpenLaw}{n k:Nat}{q:Program}{XP:(Str->Option Value)->Heap->Prop}{YP:World->Heap->Prop}{d:DefRec}{ds:List DefRec}{x:Str}{sp:Frag->Sp}
  (hn:l.most=some n)(hn2:n<=sizeLine)(hdf:d.params.defaults=[])(hr:Room k callerA)(hds:ds=recsOf q)(hfree:(bltNames.all λb=>freeIn q (looseW q []) (Γe b))=true)
  (F:∀ (w:World)(K:Frag)(mg:Str->Option Value)(fa:Addr)(h:Heap),AllIn K h->(∀ d∈ds,DIn K mg d)->(∀ b∈bltNames,mg (Γe b)=none)->mg d.name=some (.ref fa) ->
   ∃ fd:FuncData,(∀ (s:Shared)(u:Value),BindsTo s fd ⟨[u],[]⟩ [(x,u)])/\∀ base:Heap,FnOk l.prog w K mg base CX0 k fa fd [x] (sp K))
  (hsp:∀ (K:Frag)(H:Hp)(a:Addr)(ns:List Int),ns.length<=n->d5v H->SqL K H a (ns.map V.int)->sp K [.ref a] H (λv _=>v=.bl true) λ_ _ _=>False) :
  WalkO q [] XP YP l.row.toRowW d [] (λf vs=>PySem.call f vs):=by
 refine Att.attach_call hn hdf λw s₀ s₁ mg mb fa o pm cd doc a vs ns G Y ho hd hcd hmg hobj hints hlen hg=>?_
 obtain⟨K,hK,hD⟩:=b9u G.T ds λd m=>hds ▸ m
 obtain⟨fd,hb,hF⟩:=F w K mg fa _ hK hD (λb hb=>c8c G.T (List.all_eq_true.mp hfree b hb)) hmg
 exact c3c hK.to G.T.g G.T.b G.T.builtins G.T.nolimit hg hobj hints (Nat.le_trans hlen hn2) hr (λbase _ _=>hF base) hb (λH hO hS=>hsp K H a ns hlen hO hS) λH e s' z=>z
theorem row_holds {l:OpenLaw}{q:Program}{d:DefRec}{N:Nat}(said:l.wellSaid=true)(left:LeftO l.prog q [] (λs=>xlAt q [] s && recOk (RowW.records l.row.toRowW) s) (λ_=>()) (λ_=>()) N)
  (hdef:defOf q l.name=some (d,[]))(hp:l.prog.theDef l.name=some (d.params,d.body,d.scope))(hk:kwWritten? d.params.kwonlyargs d.params.kw_defaults=some [])(hwr:(!l.writes || l.row.records.isEmpty)=true)
  (ok:(chainsOk q && opensWell l.prog && (frees l.row.toRowW && l.row.within.isEmpty))=true)(hb:l.prog.bare)(hw:l.row.toRowW.promised)
  (call:WalkO q [] (XL q []) (λ_ _=>True) l.row.toRowW d [] λf vs=>PySem.call f vs):l.Holds :=
 holds_law said λk1=>holds_open (r:=l.row) left (λ_ _ _=>trivial) (λ_ _ _ _ _=>trivial) (λs e=>xl_of s (Bool.and_eq_true_iff.mp e).1) XL.keeps hdef hp hk (λs e=>recFacts_of (Bool.and_eq_true_iff.mp e).2) hwr k1 ok hb hw call
end Kq
end
set_option maxHeartbeats 1000000
section
namespace Kq
@[scoped simp ↓] theorem a1z {α:Type}(x:α)(Q:α->Prop):wp (some x) Q=Q x:=propext Iff.rfl
@[scoped simp ↓] theorem d5w {α:Type}(Q:α->Prop):wp (none:Option α) Q=False:=propext Iff.rfl
theorem a2a {α β:Type}(r:Option α)(f:α->Option β)(Q:β->Prop):wp (r.bind f) Q↔wp r (λx=>wp (f x) Q):=by cases r<;>rfl
@[scoped simp ↓] theorem a1x {α β:Type}(r:Option α)(f:α->β)(Q:β->Prop):wp (r.map f) Q↔wp r (λx=>Q (f x)):=by cases r<;>rfl
@[scoped simp ↓] theorem a4a {α:Type}(c:Prop) [Decidable c] (a:α)(Q:α->Prop):wp (if c then some a else none) Q↔c/\Q a:=by
 by_cases h:c<;>simp[h]
@[scoped simp ↓] theorem e1k (i:Nat)(L:a0c)(Q:FV->a0c->Prop):a0b i L Q=(wp (lk L i) λx=>Q x L):=propext Iff.rfl
@[scoped simp ↓] theorem eC_eq (v:FV)(L:a0c)(Q:FV->a0c->Prop):eC v L Q=(Q v L):=propext Iff.rfl
@[scoped simp ↓] theorem eUn_eq (f:FV->Option FV)(a:EW)(L:a0c)(Q:FV->a0c->Prop):eUn f a L Q=(a L λx L1=>wp (f x) λz=>Q z L1):=propext Iff.rfl
@[scoped simp ↓] theorem eOp_eq (f:FV->FV->Option FV)(a b:EW)(L:a0c)(Q:FV->a0c->Prop):eOp f a b L Q=(a L λx L1=>b L1 λy L2=>wp (f x y) λz=>Q z L2):=propext Iff.rfl
@[scoped simp ↓] theorem e1p (f:FV->FV->Option FV) (i:Nat)(b:EW)(L:a0c)(Q:FV->a0c->Prop):a9n f i b L Q=(wp (lk L i) λ_=>b L λy L1=>wp (lk L1 i) λx=>wp (f x y) λz=>Q z L1):=propext Iff.rfl
@[scoped simp ↓] theorem d3f (f g:FV->FV->Option FV)(a b c:EW)(L:a0c)(Q:FV->a0c->Prop):b0w f g a b c L Q=(a L λx L1=>b L1 λy L2=>wp (f x y) λr=>wp (blF r) λr=>if r=true then c L2 λz L3=>wp (g y z) λq=>Q q L3 else Q (.bl false) L2):=propext Iff.rfl
@[scoped simp ↓] theorem e1t (a b:EW)(L:a0c)(Q:FV->a0c->Prop):c1d a b L Q=(a L λx L1=>wp (b6d x) λr=>if r=true then b L1 Q else Q x L1):=propext Iff.rfl
@[scoped simp ↓] theorem eIf_eq (c:BW)(a b:EW)(L:a0c)(Q:FV->a0c->Prop):eIf c a b L Q=(c L λr L1=>if r=true then a L1 Q else b L1 Q):=propext Iff.rfl
@[scoped simp ↓] theorem e2y (a:EW)(L:a0c)(Q:Bool->a0c->Prop):a1f a L Q=(a L λx L1=>wp (b6d x) λb=>Q b L1):=propext Iff.rfl
@[scoped simp ↓] theorem e3a (a b:BW)(L:a0c)(Q:Bool->a0c->Prop):b5p a b L Q=(a L λr L1=>if r=true then b L1 Q else Q false L1):=propext Iff.rfl
@[scoped simp ↓] theorem bOr_eq (a b:BW)(L:a0c)(Q:Bool->a0c->Prop):bOr a b L Q=(a L λr L1=>if r=true then Q true L1 else b L1 Q):=propext Iff.rfl
@[scoped simp ↓] theorem e2z (a:BW)(L:a0c)(Q:Bool->a0c->Prop):b2y a L Q=(a L λr L1=>Q (!r) L1):=propext Iff.rfl
@[scoped simp ↓] theorem d5r (L:a0c)(Q:Bool->a0c->Prop):a1i  L Q=(Q true L):=propext Iff.rfl
@[scoped simp ↓] theorem e3d (L:a0c)(Q:List FV->a0c->Prop):a0i  L Q=(Q [] L):=propext Iff.rfl
@[scoped simp ↓] theorem d5t (a:EW)(r:AW)(L:a0c)(Q:List FV->a0c->Prop):a0a a r L Q=(a L λx L1=>r L1 λxs L2=>Q (x :: xs) L2):=propext Iff.rfl
@[scoped simp ↓] theorem e1l (a:AW)(L:a0c)(Q:FV->a0c->Prop):a3k a L Q=(a L λxs L1=>xs.length<=big/\Q (.tup xs) L1):=propext Iff.rfl
@[scoped simp ↓] theorem e1r (a:AW)(L:a0c)(Q:FV->a0c->Prop):a9b a L Q=(a L λxs L1=>xs.length<=big/\Q (.lst xs) L1):=propext Iff.rfl
@[scoped simp ↓] theorem d4o (L:a0c)(Q:Option Int->a0c->Prop):b4w  L Q=(Q none L):=propext Iff.rfl
@[scoped simp ↓] theorem d4n (a:EW)(L:a0c)(Q:Option Int->a0c->Prop):b0f a L Q=(a L λx L1=>wp (a3j x) λi=>Q (some i) L1):=propext Iff.rfl
@[scoped simp ↓] theorem eSl_eq (a:EW)(l h:OW)(L:a0c)(Q:FV->a0c->Prop):eSl a l h L Q=(a L λx L1=>l L1 λi L2=>h L2 λj L3=>wp (a6z x i j) λz=>Q z L3):=propext Iff.rfl
@[scoped simp ↓] theorem d5k (call:CW) (f:Nat)(a:AW)(L:a0c)(Q:FV->a0c->Prop):a1a call f a L Q=(a L λxs L1=>call f xs λz=>Q z.1 L1):=propext Iff.rfl
@[scoped simp ↓] theorem d3g (call:CW) (f i:Nat)(a:AW)(L:a0c)(Q:FV->a0c->Prop):a0q call f i a L Q=(wp (lk L i) λ_=>a L λxs L1=>wp (lk L1 i) λx=>call f (x :: xs) λz=>Q z.1 (L1.set i (some z.2))):=propext Iff.rfl
@[scoped simp ↓] theorem d5i (f:FV->FV->Option FV) (i:Nat)(a:EW)(L:a0c)(Q:FV->a0c->Prop):a6w f i a L Q=(wp (lk L i) λv=>wp (a6s v) λ_=>a L λy L1=>wp (lk L1 i) λx=>wp (f x y) λz=>Q .non (L1.set i (some z))):=propext Iff.rfl
@[scoped simp ↓] theorem d8u (a:EW)(L:a0c)(Q:List FV->a0c->Prop):a3g a L Q=(a L λx L1=>wp (a4f x) λxs=>Q xs L1):=propext Iff.rfl
@[scoped simp ↓] theorem d8v (a:EW)(L:a0c)(Q:List FV->a0c->Prop):b5r a L Q=(a L λx L1=>wp (a3j x) λj=>a2g j=true/\Q (upF 0 j.toNat) L1):=propext Iff.rfl
@[scoped simp ↓] theorem d8s (a b:EW)(L:a0c)(Q:List FV->a0c->Prop):d8t a b L Q=(a L λx L1=>b L1 λy L2=>wp (a4f x) λxs=>wp (a4f y) λys=>Q (a2l xs ys) L2):=propext Iff.rfl
@[scoped simp ↓] theorem d4r (a:EW)(L:a0c)(Q:List FV->a0c->Prop):a8v a L Q=(a L λx L1=>wp (a4f x) λxs=>Q (a2l (upF 0 xs.length) xs) L1):=propext Iff.rfl
@[scoped simp ↓] theorem d5j (n m:Nat)(it:AW)(tg:Tg)(t:BW)(e:EW)(L:a0c)(Q:FV->a0c->Prop):a1h n m it tg t e L Q=(it L λxs L1=>L1.length=n/\xs.length<=big/\a3i n m tg t e xs [] L1 λys L2=>Q (.lst ys) L2):=propext Iff.rfl
@[scoped simp ↓] theorem d6v (L:a0c)(Q:FFl->a0c->Prop):a4b  L Q=(Q .next L):=propext Iff.rfl
@[scoped simp ↓] theorem d6p (s r:SW)(L:a0c)(Q:FFl->a0c->Prop):a0p s r L Q=(s L (aft (λL1=>r L1 Q) Q)):=propext Iff.rfl
@[scoped simp ↓] theorem d7c (e:EW)(tg:Tg)(L:a0c)(Q:FFl->a0c->Prop):a1n e tg L Q=(e L λx L1=>gW tg x L1 λL2=>Q .next L2):=propext Iff.rfl
@[scoped simp ↓] theorem d6o (k:Nat)(i e:EW)(L:a0c)(Q:FFl->a0c->Prop):c9i k i e L Q=(wp (lk L k) λ_=>e L λx L1=>i L1 λj L2=>wp (lk L2 k) λy=>wp (d6k y j x) λz=>Q .next (L2.set k (some z))):=propext Iff.rfl
@[scoped simp ↓] theorem d7b (f:FV->FV->Option FV) (i:Nat)(e:EW)(L:a0c)(Q:FFl->a0c->Prop):d4k f i e L Q=(wp (lk L i) λa=>e L λx L1=>wp (f a x) λz=>Q .next (L1.set i (some z))):=propext Iff.rfl
@[scoped simp ↓] theorem d6q (e:EW)(L:a0c)(Q:FFl->a0c->Prop):a1s e L Q=(e L λx L1=>Q (.ret x) L1):=propext Iff.rfl
@[scoped simp ↓] theorem d6y (e:EW)(L:a0c)(Q:FFl->a0c->Prop):c1x e L Q=(e L λ_ L1=>Q .next L1):=propext Iff.rfl
@[scoped simp ↓] theorem sIf_eq (c:BW)(a b:SW)(L:a0c)(Q:FFl->a0c->Prop):sIf c a b L Q=(c L λr L1=>if r=true then a L1 Q else b L1 Q):=propext Iff.rfl
@[scoped simp ↓] theorem d6x (it:AW)(tg:Tg)(b:SW)(L:a0c)(Q:FFl->a0c->Prop):a7a it tg b L Q=(it L λxs L1=>c8e tg b xs L1 Q):=propext Iff.rfl
@[scoped simp ↓] theorem d6l (c:BW)(b:SW)(L:a0c)(Q:FFl->a0c->Prop):c9h c b L Q=(∃ n,c9g c b n L Q):=propext Iff.rfl
@[scoped simp ↓] theorem lk_z (x:Option FV)(L:a0c)(Q:FV->Prop):wp (lk (x :: L) 0) Q=wp x Q:=propext Iff.rfl
@[scoped simp ↓] theorem gw_nm (i:Nat)(v:FV)(L:a0c)(Q:a0c->Prop):gW (.nm i) v L Q=Q (L.set i (some v)):=propext Iff.rfl
@[scoped simp ↓] theorem gw_tp (is:List Nat)(v:FV)(L:a0c)(Q:a0c->Prop):gW (.tp is) v L Q=wp (a5l v) λxs=>wp (a8a L is xs) Q:=propext Iff.rfl
@[scoped simp ↓] theorem sa_n (L:a0c)(Q:a0c->Prop):wp (a8a L [] []) Q=Q L:=propext Iff.rfl
@[scoped simp ↓] theorem sa_c (L:a0c) (i:Nat)(is:List Nat)(v:FV)(vs:List FV)(Q:a0c->Prop):wp (a8a L (i :: is) (v :: vs)) Q=wp (a8a (L.set i (some v)) is vs) Q:=propext Iff.rfl
section
variable (L:a0c)(k:a0c->Prop)(Q:FFl->a0c->Prop)
@[scoped simp ↓] theorem e3b:aft k Q .next L=k L:=propext Iff.rfl
@[scoped simp ↓] theorem af_ret (v:FV):aft k Q (.ret v) L=Q (.ret v) L:=propext Iff.rfl
@[scoped simp ↓] theorem tq_n:a9p k Q .next L=k L:=propext Iff.rfl
@[scoped simp ↓] theorem tq_r (v:FV):a9p k Q (.ret v) L=Q (.ret v) L:=propext Iff.rfl
end
@[scoped simp ↓] theorem en_rt (fr:Bool)(Q:FV×FV->Prop)(v:FV)(L:a0c):b9m true fr Q (.ret v) L=wp (lk L 0) λx=>Q (v,x):=propext Iff.rfl
@[scoped simp ↓] theorem en_rf (fr:Bool)(Q:FV×FV->Prop)(v:FV)(L:a0c):b9m false fr Q (.ret v) L=Q (v,.non):=propext Iff.rfl
section
variable (Q:FV->Prop)(B:Bool->Prop) (i j:Int)
@[scoped simp ↓] theorem tr_b (b:Bool):wp (b6d (.bl b)) B=B b:=propext Iff.rfl
@[scoped simp ↓] theorem tr_t (xs:List FV):wp (b6d (.tup xs)) B=B (!xs.isEmpty):=propext Iff.rfl
@[scoped simp ↓] theorem tr_l (xs:List FV):wp (b6d (.lst xs)) B=B (!xs.isEmpty):=propext Iff.rfl
@[scoped simp ↓] theorem in_i (Q:Int->Prop):wp (a3j (.int i)) Q=Q i:=propext Iff.rfl
@[scoped simp ↓] theorem bl_b (b:Bool):wp (blF (.bl b)) B=B b:=propext Iff.rfl
@[scoped simp ↓] theorem tp_t (xs:List FV)(Q:List FV->Prop):wp (a5l (.tup xs)) Q=Q xs:=propext Iff.rfl
@[scoped simp ↓] theorem ls_l (xs:List FV)(Q:List FV->Prop):wp (a6s (.lst xs)) Q=Q xs:=propext Iff.rfl
@[scoped simp ↓] theorem sq_t (xs:List FV)(Q:List FV->Prop):wp (a4f (.tup xs)) Q=Q xs:=propext Iff.rfl
@[scoped simp ↓] theorem sq_l (xs:List FV)(Q:List FV->Prop):wp (a4f (.lst xs)) Q=Q xs:=propext Iff.rfl
@[scoped simp ↓] theorem li_l (xs:List FV)(Q:List FV->Prop):wp (a1t (.lst xs)) Q=Q xs:=propext Iff.rfl
@[scoped simp ↓] theorem b_add:wp (a4s (.int i) (.int j)) Q=Q (.int (i+j)):=propext Iff.rfl
@[scoped simp ↓] theorem b_sub:wp (c9x (.int i) (.int j)) Q=Q (.int (i-j)):=propext Iff.rfl
@[scoped simp ↓] theorem b_mul:wp (b2d (.int i) (.int j)) Q↔(a2f i || a2f j)=true/\Q (.int (i*j)):=a4a _ _ _
@[scoped simp ↓] theorem b_fdiv:wp (b9h (.int i) (.int j)) Q↔(0<j/\j<1073741824)/\Q (.int (i / j)):=a4a _ _ _
@[scoped simp ↓] theorem b_mod:wp (c1c (.int i) (.int j)) Q↔0<j/\Q (.int (i % j)):=a4a _ _ _
@[scoped simp ↓] theorem b_pow:wp (c2h (.int i) (.int j)) Q↔(0<=j/\j<=1000/\a2f i=true)/\Q (.int (i ^ j.toNat)):=a4a _ _ _
@[scoped simp ↓] theorem b_addt (xs ys:List FV):wp (a4s (.tup xs) (.tup ys)) Q↔xs.length+ys.length<=big/\Q (.tup (xs++ys)):=a4a _ _ _
@[scoped simp ↓] theorem b_addl (xs ys:List FV):wp (a4s (.lst xs) (.lst ys)) Q↔xs.length+ys.length<=big/\Q (.lst (xs++ys)):=a4a _ _ _
@[scoped simp ↓] theorem k_eq (a b:FV):wp (eqB a b) Q↔wp (eqF a b) λr=>Q (.bl r):=a1x _ _ _
@[scoped simp ↓] theorem k_ne (a b:FV):wp (neB a b) Q↔wp (eqF a b) λr=>Q (.bl (!r)):=a1x _ _ _
@[scoped simp ↓] theorem k_gt:wp (gtB (.int i) (.int j)) Q=Q (.bl (decide (j<i))):=propext Iff.rfl
@[scoped simp ↓] theorem k_ge:wp (geB (.int i) (.int j)) Q=Q (.bl (decide (j<=i))):=propext Iff.rfl
@[scoped simp ↓] theorem e_ii:wp (eqF (.int i) (.int j)) B=B (i == j):=propext Iff.rfl
@[scoped simp ↓] theorem e_bb (a b:Bool):wp (eqF (.bl a) (.bl b)) B=B (a == b):=propext Iff.rfl
@[scoped simp ↓] theorem ix_eq (v:FV):wp (ixF v (.int i)) Q↔wp (a4f v) λxs=>wp (atF xs i) Q:=by
 show wp ((a4f v).bind _) Q↔_;rw[a2a]
@[scoped simp ↓] theorem f_min:wp (b7z (.int i) (.int j)) Q=Q (.int (if j<i then j else i)):=propext Iff.rfl
@[scoped simp ↓] theorem f_max:wp (c2u (.int i) (.int j)) Q=Q (.int (if j > i then j else i)):=propext Iff.rfl
@[scoped simp ↓] theorem f_not (b:Bool):wp (d8j (.bl b)) Q=Q (.bl (!b)):=propext Iff.rfl
@[scoped simp ↓] theorem f_len (v:FV):wp (a9m v) Q↔wp (a4f v) λxs=>Q (.int xs.length):=a1x _ _ _
@[scoped simp ↓] theorem f_abs:wp (d4c (.int i)) Q=Q (.int (if i<0 then -i else i)):=propext Iff.rfl
@[scoped simp ↓] theorem f_intb (b:Bool):wp (a9r (.bl b)) Q=Q (.int (if b then 1 else 0)):=propext Iff.rfl
@[scoped simp ↓] theorem f_sum (v:FV):wp (c5r v) Q↔wp (a1t v) λxs=>wp (c5q xs) λn=>Q (.int n):=by
 show wp ((a1t v).bind _) Q↔_;rw[a2a];simp only[a1x]
@[scoped simp ↓] theorem f_all (v:FV):wp (c4g v) Q↔wp (a1t v) λxs=>wp (a4p xs) λbs=>Q (.bl (bs.all id)):=by
 show wp ((a1t v).bind _) Q↔_;rw[a2a];simp only[a1x]
@[scoped simp ↓] theorem f_any (v:FV):wp (d5s v) Q↔wp (a1t v) λxs=>wp (a4p xs) λbs=>Q (.bl (bs.any id)):=by
 show wp ((a1t v).bind _) Q↔_;rw[a2a];simp only[a1x]
@[scoped simp ↓] theorem f_minI (v:FV):wp (b4x v) Q↔wp (a1t v) λxs=>wp (d4q xs) Q:=a2a _ _ _
@[scoped simp ↓] theorem e1g (v:FV):wp (a3f v) Q↔wp (a4f v) λxs=>Q (.tup xs):=a1x _ _ _
@[scoped simp ↓] theorem f_list (v:FV):wp (a4c v) Q↔wp (a4f v) λxs=>Q (.lst xs):=a1x _ _ _
@[scoped simp ↓] theorem f_isi (t:Ty)(v:FV):wp (c7u t v) Q↔wp (b0q v t) λb=>Q (.bl b):=a1x _ _ _
@[scoped simp ↓] theorem y_int (t:Ty):wp (b0q (.int i) t) B=B (t == .int):=propext Iff.rfl
@[scoped simp ↓] theorem y_tup (b:List FV)(t:Ty):wp (b0q (.tup b) t) B=B (t == .tuple):=propext Iff.rfl
@[scoped simp ↓] theorem y_lst (b:List FV)(t:Ty):wp (b0q (.lst b) t) B=B (t == .list):=propext Iff.rfl
@[scoped simp ↓] theorem iN_n:wp (a2s .non) Q=Q (.bl true):=propext Iff.rfl
@[scoped simp ↓] theorem iN_i:wp (a2s (.int i)) Q=Q (.bl false):=propext Iff.rfl
@[scoped simp ↓] theorem nN_n:wp (a1b .non) Q=Q (.bl false):=propext Iff.rfl
@[scoped simp ↓] theorem nN_i:wp (a1b (.int i)) Q=Q (.bl true):=propext Iff.rfl
@[scoped simp ↓] theorem nB_b (b c:Bool):wp (a5e c (.bl b)) Q=Q (.bl (b != c)):=propext Iff.rfl
@[scoped simp ↓] theorem m_app (xs:List FV)(v:FV):wp (c5i (.lst xs) v) Q↔xs.length<big/\Q (.lst (xs++[v])):=a4a _ _ _
@[scoped simp ↓] theorem m_ext (xs ys:List FV):wp (e1i (.lst xs) (.lst ys)) Q↔xs.length+ys.length<=big/\Q (.lst (xs++ys)):=a4a _ _ _
@[scoped simp ↓] theorem s_t (xs:List FV)(lo hi:Option Int):wp (a6z (.tup xs) lo hi) Q=Q (.tup (a5f xs lo hi)):=propext Iff.rfl
@[scoped simp ↓] theorem s_l (xs:List FV)(lo hi:Option Int):wp (a6z (.lst xs) lo hi) Q=Q (.lst (a5f xs lo hi)):=propext Iff.rfl
@[scoped simp ↓] theorem st_l (xs:List FV)(v:FV):wp (d6k (.lst xs) (.int j) v) Q↔wp (ixN xs.length j) λp=>Q (.lst (xs.set p v)):=a1x _ _ _
@[scoped simp ↓] theorem au_f (f:Int->Int->Int):wp (d4b f (.int i) (.int j)) Q=Q (.int (f i j)):=propext Iff.rfl
end
theorem a4q {xs:List FV}{i:Int}{n:Nat}{v:FV}{Q:FV->Prop}(h:i=n)(hv:xs[n]?=some v):wp (atF xs i) Q↔Q v:=by
 subst h
 have:=(List.getElem?_eq_some_iff.mp hv).1
 simp only[atF,ixN,Int.natCast_nonneg,if_true,Int.ofNat_lt,this,Option.bind_some,Int.toNat_natCast,hv,a1z]
@[scoped simp ↓] theorem at_0 (x:FV)(r:List FV)(Q:FV->Prop):wp (atF (x :: r) 0) Q↔Q x:=a4q (n:=0) rfl rfl
@[scoped simp ↓] theorem at_1 (x y:FV)(r:List FV)(Q:FV->Prop):wp (atF (x :: y :: r) 1) Q↔Q y:=a4q (n:=1) rfl rfl
@[scoped simp ↓] theorem at_2 (x y z:FV)(r:List FV)(Q:FV->Prop):wp (atF (x :: y :: z :: r) 2) Q↔Q z:=a4q (n:=2) rfl rfl
theorem d2m {n:Nat}{i:Int}{j:Nat}{Q:Nat->Prop}(h:i=j)(hj:j<n):wp (ixN n i) Q↔Q j:=by
 subst h;simp[ixN,hj]
theorem c0t {xs:List FV}{u:Int}{Q:FV->Prop}(h0:0<=u)(h1:u<xs.length)(h:∀ x∈xs,Q x):wp (atF xs u) Q:=by
 have hu:u.toNat<xs.length:=by lia
 rw[a4q (show u=u.toNat by lia) (List.getElem?_eq_getElem hu)]
 exact h _ (List.getElem_mem hu)
theorem a2v {α:Type}(p:α->Bool):∀ xs:List α,a4p (xs.map λx=>.bl (p x))=some (xs.map p)
 | []=>rfl
 | x :: r=>by simp only[List.map_cons,a4p,a2v p r,Option.map_some]
theorem a8u:∀ ns:List Int,a0w (ns.map .int)=some ns
 | []=>rfl
 | x :: r=>by simp only[List.map_cons,a0w,a8u r,Option.map_some]
@[scoped simp] theorem ty_10:(Ty.bool == Ty.int)=false:=by decide
theorem a0k {tb:List FD}{d f:Nat}{args:List FV}{fd:FD}{Q:FV×FV->Prop}(h:tb[f]?=some fd)(hl:args.length=fd.np)
  (H:fd.body (callW tb d) (args.map some++Γj (fd.ns-fd.np) none) (b9m fd.io fd.fr Q)):callW tb (d+1) f args Q:=by
 show (match tb[f]? with
  | none=>False
  | some fd=>args.length=fd.np/\fd.body (callW tb d) (args.map some++Γj (fd.ns-fd.np) none) (b9m fd.io fd.fr Q))
 rw[h];exact⟨hl,H⟩
theorem a4o {tb:List FD}{d f:Nat}{args:List FV}{fd:FD}{Q:FV×FV->Prop}(h:tb[f]?=some fd)(hl:args.length=fd.np) :
  callW tb (d+1) f args Q↔fd.body (callW tb d) (args.map some++Γj (fd.ns-fd.np) none) (b9m fd.io fd.fr Q):=by
 show (match tb[f]? with
  | none=>False
  | some fd=>args.length=fd.np/\fd.body (callW tb d) (args.map some++Γj (fd.ns-fd.np) none) (b9m fd.io fd.fr Q))↔_
 rw[h];exact⟨λz=>z.2,λz=>⟨hl,z⟩⟩
theorem a1p {α:Type}{tg:Tg}{b:SW}{f:α->FV}{I:List α->a0c->Prop}{Q:FFl->a0c->Prop}(all:List α) :
  ∀ (rest done:List α)(L:a0c),all=done++rest->I done L ->
  (∀ d x r L (K:a0c->Prop),all=d++x :: r->I d L->(∀ L',I (d++[x]) L'->K L')->gW tg (f x) L λL1=>b L1 (a9p K Q)) ->
  (∀ L,I all L->Q .next L)->c8e tg b (rest.map f) L Q
 | [],done,L,e,h,_,E=>by
  rw[List.append_nil] at e
  exact E L (e ▸ h)
 | x :: rest,done,L,e,h,B,E=>B done x rest L _ e h λL' h'=>a1p all rest (done++[x]) L' (by simp[e]) h' B E
theorem a2x {tg:Tg}{b:SW}{I:Nat->a0c->Prop}{Q:FFl->a0c->Prop}:∀ (n i:Nat)(L:a0c),I i L ->
  (∀ j L (K:a0c->Prop),i<=j->j<i+n->I j L->(∀ L',I (j+1) L'->K L')->gW tg (.int (j:Int)) L λL1=>b L1 (a9p K Q)) ->
  (∀ L,I (i+n) L->Q .next L)->c8e tg b (upF (i:Int) n) L Q
 | 0,i,L,h,_,E=>E L h
 | n+1,i,L,h,B,E=>B i L _ (Γi _) (by lia) h λL' h'=>by
  have:=a2x n (i+1) L' h' (λj L K hj hj'=>B j L K (by lia) (by lia)) (λL h=>E L (by rw[show i+(n+1)=i+1+n by lia];exact h))
  simpa using this
theorem a7r {c:BW}{b:SW}{I:Nat->a0c->Prop}{Q:FFl->a0c->Prop}(B:∀ m L (K:a0c->Prop),I m L->(∀ m' L',m'<m->I m' L'->K L')->c L λt L1=>if t=true then b L1 (a9p K Q) else Q .next L1){m:Nat}{L:a0c}(h:I m L):c9h c b L Q:=by
 have go:∀ n m L,m<n->I m L->c9g c b n L Q:=by
  intro n
  induction n with
  | zero=>intro m L hm;lia
  | succ n ih=>intro m L hm h;exact B m L _ h λm' L' h1 h2=>ih m' L' (by lia) h2
 exact⟨m+1,go _ m L (Nat.lt_succ_self _) h⟩
theorem b1c {α:Type}{tg:Tg}{n m:Nat}{t:BW}{e:EW}{f:α->FV}{I:List α->List FV->a0c->Prop}{Q:List FV->a0c->Prop}(all:List α) :
  ∀ (rest done:List α)(acc:List FV)(L:a0c),all=done++rest->I done acc L ->
  (∀ d x r acc L (K:List FV->a0c->Prop),all=d++x :: r->I d acc L->(∀ acc' L',I (d++[x]) acc' L'->K acc' L')->gW tg (f x) (L++Γj m none) λL1=>t L1 λb L2=>if b=true then e L2 λv L3=>K (acc++[v]) (L3.take n) else K acc (L2.take n)) ->
  (∀ ys L,I all ys L->Q ys L)->a3i n m tg t e (rest.map f) acc L Q
 | [],done,acc,L,e,h,_,E=>by
  rw[List.append_nil] at e
  exact E acc L (e ▸ h)
 | x :: rest,done,acc,L,e,h,B,E=>B done x rest acc L (λacc' L'=>a3i _ _ _ _ _ (rest.map f) acc' L' Q) e h λacc' L' h'=>b1c all rest (done++[x]) acc' L' (by simp[e]) h' B E
theorem a0o {α:Type}{tg:Tg}{n m:Nat}{e:EW}{f:α->FV}{g:α->FV}{Q:List FV->a0c->Prop}{L:a0c}:∀ (xs:List α)(acc:List FV),
  (∀ x∈xs,∀ K:FV->a0c->Prop,K (g x) L->gW tg (f x) (L++Γj m none) λL1=>e L1 λv L3=>K v (L3.take n))->Q (acc++xs.map g) L->a3i n m tg a1i e (xs.map f) acc L Q
 | [],acc,_,E=>by
  show Q acc L
  simpa using E
 | x :: xs,acc,B,E=>B x Γn (λv L'=>a3i n m tg a1i e (xs.map f) (acc++[v]) L' Q) (a0o xs (acc++[g x]) (λy hy=>B y (Γh _ hy)) (by simpa using E))
theorem a0r {α:Type}{tg:Tg}{n m:Nat}{t:BW}{e:EW}{f:α->FV}{g:α->FV}{p:α->Bool}{Q:List FV->a0c->Prop}{L:a0c}:∀ (xs:List α)(acc:List FV),
  (∀ x∈xs,∀ (K:FV->a0c->Prop)(N:a0c->Prop),(p x=true->K (g x) L)->(p x=false->N L)->gW tg (f x) (L++Γj m none) λL1=>t L1 λb L2=>if b=true then e L2 λv L3=>K v (L3.take n) else N (L2.take n))->Q (acc++(xs.filter p).map g) L->a3i n m tg t e (xs.map f) acc L Q
 | [],acc,_,E=>by
  show Q acc L
  simpa using E
 | x :: xs,acc,B,E=>B x Γn (λv L'=>a3i n m tg t e (xs.map f) (acc++[v]) L' Q) (λL'=>a3i n m tg t e (xs.map f) acc L' Q)
   (λhp=>a0r xs (acc++[g x]) (λy hy=>B y (Γh _ hy)) (by rw[List.filter_cons_of_pos hp] at E;simpa using E))
   (λhp=>a0r xs acc (λy hy=>B y (Γh _ hy)) (by rw[List.filter_cons_of_neg (by simp[hp])] at E;exact E))
theorem c4h:∀ n lo:Nat,upF (lo:Int) n=(List.range' lo n).map λi:Nat=>FV.int i
 | 0,lo=>rfl
 | n+1,lo=>by simp only[upF,List.range'_succ,List.map_cons];rw[<- c4h n (lo+1)];simp
theorem a2k (n:Nat):upF 0 n=(List.range n).map λi:Nat=>FV.int i:=by
 have:=c4h n 0
 rw[List.range_eq_range'];exact_mod_cast this
theorem a4y {c A B:Prop} [Decidable c] (h1:c->A)(h2:¬ c->B):if c then A else B:=by
 by_cases h:c
 ·rw[if_pos h];exact h1 h
 ·rw[if_neg h];exact h2 h
end Kq
end
set_option maxHeartbeats 4000000
section
namespace Kq
open PySem PySem.Spec PyProof.Rows L2
section
variable {X:Cx}{C:CC}{n:Nat}{sp:Γd->Nat->Sp}{a:Expr}{ea:EW}{p p2 p3 p4 pos:Pos}
end
section
variable {X:Cx}{C:CC}{n:Nat}{sp:Γd->Nat->Sp}{fr:Bool}{a b:Expr}{ea eb:EW}{pos px py pt p2:Pos}{i j kt k2:Nat}{nx ny:Str}
end
section
variable {X:Cx}{tg:Expr}
end
def c8p (hi:Int):Nat->List FV
 | 0=>[]
 | n+1=>.int hi :: c8p (hi-1) n
def iDown (a b:EW):AW:=λL Q=>a L λx L1=>b L1 λy L2=>wp (a3j x) λi=>wp (a3j y) λj=>(a2g i && a2g j)=true/\Q (c8p i (i-j).toNat) L2
section
variable {X:Cx}{C:CC}{n:Nat}{sp:Γd->Nat->Sp}{a b tg:Expr}{ea eb:EW}{p p3 p4 pos:Pos}{kk:Nat}
variable {K:Γd}{c:Cn}{md:Md}
end
end Kq
end
section
namespace PySem
open PySem.Spec
section
variable {prog:Program}{w:World}{A:Around}{E:Value->Shared->Prop}{s:Shared}
end
end PySem
end
section
namespace Kq
open PySem PySem.Spec PyProof.Rows L2
section
variable {X:Cx}{tg:Expr}
end
def iRevr (a:EW):AW:=λL Q=>a L λx L1=>wp (a3j x) λj=>a2g j=true/\Q (c8p ((j.toNat:Int)-1) j.toNat) L1
section
variable {P:Program}{w:World}{A:Around}{R:Result->Shared->Prop}{it S N:Addr}{fp wr:List Addr}{n:Nat}{V:Nat->Value->Prop}{St:Nat->Heap->Prop}{bt:Nat->Nat->Bool}{h0:Heap}{kw:List (Str×Value)}
end
section
variable {P:Program}{w:World}{A:Around}{E:Value->Shared->Prop}{s:Shared}
end
section
variable {P:Program}{w:World}{A:Around}{E:Value->Shared->Prop}{s:Shared}
end
def c7h (b:Int):List Int->Int
 | []=>b
 | x :: r=>c7h (if b<x then x else b) r
def mostD (d:Int):List Int->Int
 | []=>d
 | n :: r=>c7h n r
section
variable {X:Cx}
variable {x:Str}{p pos kp:Pos}{e v:Expr}{t:TA}{tv:TE}{id:String}{kn:Str}{r:V->V->Hp->VK->Prop}
end
section
variable {X:Cx}{C:CC}{n:Nat}{sp:Γd->Nat->Sp}{a b:Expr}{ea eb:EW}{pos p kp:Pos}
end
section
variable (Q:FV->Prop)
end
section
variable {P:Program}{w:World}{A:Around}{E:Value->Shared->Prop}
end
section
variable {X:Cx}{pos:Pos}
end
def sUnp (e:EW)(is:List Nat):SW:=λL Q=>e L λx L1=>wp (a6s x) λxs=>wp (a8a L1 is xs) λL2=>Q .next L2
section
variable {X:Cx}{C:CC}{n:Nat}{sp:Γd->Nat->Sp}{fr:Bool}{a:Expr}{e:EW}{pos p:Pos}{is:List Nat}{k:Nat}
end
section
variable {prog:Program}{w:World}{A:Around}{E:Value->Shared->Prop}{s:Shared}
end
section
variable {X:Cx}{S H:Hp}{Q:VK}
def tmulF (v w:FV):Option FV:=(a5l v).bind λxs=>(a3j w).bind λk=>if -(2 ^ 63)<=k/\k<2 ^ 63/\xs.length*k.toNat<=big then some (.tup (Γj k.toNat xs).flatten) else none
end
section
variable {X:Cx}{C:CC}{a b:Expr}{ea eb:EW}{pos:Pos}
end
end Kq
end
section
namespace PySem
section
variable {prog:Program}{w:World}{A:Around}{E:Value->Shared->Prop}{s:Shared}
end
end PySem
end
section
namespace Kq
open PySem PySem.Spec PyProof.Rows L2
section
variable {X:Cx}
variable {a b:Expr}{ta:TA}{p p2 pos pos2:Pos}{T:Str}{Tn:String}{ho:List V->HO}
end
def rngF (c:List FV->FV)(v:FV):Option FV:=(a3j v).bind λj=>if a2g j=true/\j.toNat<=big then some (c (upF 0 j.toNat)) else none
def rng2F (c:List FV->FV)(v w:FV):Option FV:=(a3j v).bind λi=>(a3j w).bind λj=>if (a2g i && a2g j)=true/\(j-i).toNat<=big then some (c (upF i (j-i).toNat)) else none
section
variable {X:Cx}{C:CC}{n:Nat}{sp:Γd->Nat->Sp}{a b:Expr}{ea eb:EW}{pos p p2 pos2:Pos}
end
end Kq
end
section
namespace PySem
def e3k (A:Around)(s:Shared)(x y:Value)(b:Bool):Prop :=
 ∀ (prog:Program)(w:World)(E:Value->Shared->Prop)(Q:Value->Shared->Prop),Q (.bool b) s->wpAny (model prog w) A (richCompare .Lt x y) Q E s
inductive LexAt (A:Around)(s:Shared):List Value->List Value->Bool->Prop
 | nn:LexAt A s [] [] false
 | nc {y ys}:LexAt A s [] (y :: ys) true
 | cn {x xs}:LexAt A s (x :: xs) [] false
 | eq {x y xs ys r}:SeqAt.EqAt A s x y true->LexAt A s xs ys r->LexAt A s (x :: xs) (y :: ys) r
 | ne {x y xs ys r}:SeqAt.EqAt A s x y false->e3k A s x y r->LexAt A s (x :: xs) (y :: ys) r
section
open PySem.SeqAt
open PySem.AutoSeq1 (wpAny_loadPart')
open PySem.MeetsSeq PySem.MeetsSeq2 PySem.MeetsSeq3
theorem a9q (l b:Addr)(items items2:Array Value) (n n2:Nat)(dd dd2:Option Addr)(sl sl2:Array (Option Value)) :
  Meets (Builtin.«tuple.__lt__» ⟨[.ref l,.ref b],[]⟩)
   (λA R s=>s.heap.get? l=some { cls:=.type "tuple",dict:=dd,data:=.seq items n,slots:=sl }/\s.heap.get? b=some { cls:=.type "tuple",dict:=dd2,data:=.seq items2 n2,slots:=sl2 } /\
    ∃ r,LexAt A.in1 s items.toList items2.toList r/\R (.ok (.ret (.bool r))) s) :=
 .of_wp λprog w A R s h=>by
  obtain⟨hp,g,d,tk,os⟩:=s;obtain⟨hl,hb,r,hlex,h⟩:=h
  have f2:=AutoSeq1.sub_tuple_tuple
  wp_walk using wpAny_loadPart' hl,wpAny_loadPart' hb,wpAny_forIn_list _ (λrest b s'=>b.1=none/\s'=⟨hp,g,d,tk,os⟩/\∃ (vs ws:List Value),rest=vs.zip ws /\
   LexAt A.in1 ⟨hp,g,d,tk,os⟩ vs ws r/\vs.length+items2.size=ws.length+items.size) _
  case turn =>
   rintro⟨y,x⟩ rest b s' ⟨hb',rfl,vs,ws,hz,hlx,hlen⟩
   cases hlx with
   | nn=>cases hz
   | nc=>cases hz
   | cn=>rw[List.zip_nil_right] at hz;cases hz
   | eq he hr =>
    rw[List.zip_cons_cons] at hz
    injection hz with hyx hrest
    injection hyx with hy hx
    subst hy hx
    simp only[List.length_cons] at hlen
    refine Γa (he prog w _ _ ?_)
    wp_walk
    exact⟨rfl,rfl,_,_,hrest,hr,by lia⟩
   | ne he hr =>
    rw[List.zip_cons_cons] at hz
    injection hz with hyx hrest
    injection hyx with hy hx
    subst hy hx
    refine Γa (he prog w _ _ ?_)
    have hri:=hr prog w
    wp_walk using hri
    exact⟨_,rfl,by simpa using h⟩
  case fin =>
   rintro⟨b1,b2⟩ s' ⟨hb',rfl,vs,ws,hz,hlx,hlen⟩
   simp only at hb'
   subst hb'
   have hv:r=decide (items.size<items2.size):=by
    cases hlx with
    | nn=>simp only[List.length_nil] at hlen;exact (decide_eq_false (by lia)).symm
    | nc=>simp only[List.length_nil,List.length_cons] at hlen;exact (decide_eq_true (by lia)).symm
    | cn=>simp only[List.length_nil,List.length_cons] at hlen;exact (decide_eq_false (by lia)).symm
    | eq=>rw[List.zip_cons_cons] at hz;cases hz
    | ne=>rw[List.zip_cons_cons] at hz;cases hz
   rw[hv] at h
   wp_walk
   exact⟨_,rfl,by simpa[Builtin.Tuple.tupleCompareSizes] using h⟩
  case h =>
   exact⟨rfl,rfl,items.toList,items2.toList,rfl,hlex,by simp;lia⟩
end
theorem c2w {A:Around}{s:Shared}{l b:Addr}{o o2:Obj}{items items2:Array Value}{n n2:Nat}{r:Bool}(h1:s.heap.get? l=some o)(h2:o.cls=.type "tuple")(h3:o.data=.seq items n)(g1:s.heap.get? b=some o2)(g2:o2.cls=.type "tuple")(g3:o2.data=.seq items2 n2)
  (hlex:LexAt A.in1 s items.toList items2.toList r)(hu:A.units<cLine):e3k A s (.ref l) (.ref b) r:=by
 intro prog w E Q h
 obtain⟨cls,dd,data,sl⟩:=o
 obtain⟨cls2,dd2,data2,sl2⟩:=o2
 simp only at h2 h3 g2 g3
 subst h2 h3 g2 g3
 exact richCompare_meets_room (op:=.Lt) ⟨_,h1,rfl⟩ ⟨_,g1,rfl⟩ PySem.F.slot_tuple_lt PySem.F.entry_tuple_lt (PySem.F.args_tuple_lt_2 _ _) (a9q l b items items2 n n2 dd dd2 sl sl2)
  ⟨h1,g1,r,hlex,show Value.bool r≠Value.notImplemented/\Q (.bool r) s from ⟨(λx=>nomatch x),h⟩⟩ hu
end PySem
namespace Kq
open PySem PySem.Spec PyProof.Rows L2
def d6i (a b:String):Bool:=decide ((Γe a).cps.toList<(Γe b).cps.toList)
mutual
noncomputable def ltD:D->D->Option Bool
 | .int a,.int b=>some (decide (a<b))
 | .str a,.str b=>some (d6i a b)
 | .tup a,.tup b=>ltDs a b
 | _,_=>none
noncomputable def ltDs:List D->List D->Option Bool
 | [],[]=>some false
 | [],_ :: _=>some true
 | _ :: _,[]=>some false
 | a :: r,b :: q=>if D.eqv a b=true then ltDs r q else ltD a b
end
mutual
theorem d2b:∀ (x y:D)(A:Around)(s:Shared)(v u:Value)(as bs:List Addr)(r:Bool),Reads s.heap v (dPy x) as->Reads s.heap u (dPy y) bs->ltD x y=some r->A.units+(dPy x).depth<cLine->e3k A s v u r
 | .int a,y,A,s,v,u,as,bs,r,h1,h2,e,hu=>by
  cases y with
  | int b =>
   cases e
   simp only[dPy] at h1 h2
   cases h1;cases h2
   exact λprog w E Q h=>PyProof.Rows.lt_int h
  | _=>cases e
 | .str a,y,A,s,v,u,as,bs,r,h1,h2,e,hu=>by
  cases y with
  | str b =>
   cases e
   simp only[dPy] at h1 h2
   cases h1;cases h2
   exact λprog w E Q h=>PySem.P.lt_str h
  | _=>cases e
 | .tup xs,y,A,s,v,u,as,bs,r,h1,h2,e,hu=>by
  cases y with
  | tup ys =>
   simp only[dPy] at h1 h2
   simp only[dPy,PyData.depth] at hu
   cases h1 with
   | tuple a1 a2 a3 a4 =>
    cases h2 with
    | tuple b1 b2 b3 b4 =>
     exact c2w a1 a2 a3 b1 b2 b3 (lexAt_D xs ys A.in1 s _ _ _ _ r a4 b4 e (by show A.units+1+_<_;lia)) (by lia)
  | _=>cases e
 | .non,y,A,s,v,u,as,bs,r,h1,h2,e,hu=>by cases y<;>cases e
 | .bl _,y,A,s,v,u,as,bs,r,h1,h2,e,hu=>by cases y<;>cases e
 | .lst _,y,A,s,v,u,as,bs,r,h1,h2,e,hu=>by cases y<;>cases e
theorem lexAt_D:∀ (xs ys:List D)(A:Around)(s:Shared)(vs us:List Value)(as bs:List Addr)(r:Bool),ReadsAll s.heap vs (dPys xs) as->ReadsAll s.heap us (dPys ys) bs->ltDs xs ys=some r->A.units+PyData.depthAll (dPys xs)<cLine->LexAt A s vs us r
 | [],[],A,s,vs,us,as,bs,r,h1,h2,e,hu=>by cases h1;cases h2;cases e;exact .nn
 | [],y :: ys,A,s,vs,us,as,bs,r,h1,h2,e,hu=>by cases h1;cases h2;cases e;exact .nc
 | x :: xs,[],A,s,vs,us,as,bs,r,h1,h2,e,hu=>by cases h1;cases h2;cases e;exact .cn
 | x :: xs,y :: ys,A,s,vs,us,as,bs,r,h1,h2,e,hu=>by
  simp only[dPys] at h1 h2
  simp only[dPys,PyData.depthAll] at hu
  cases h1 with
  | cons a1 a2 =>
   cases h2 with
   | cons b1 b2 =>
    have he:=PySem.SeqAt.eqAt_reads _ _ A s _ _ _ _ a1 b1 (a6k x) (a6k y) (by lia)
    rw[c0a] at he
    simp only[ltDs] at e
    split at e
    ·rename_i hq
     rw[hq] at he
     exact .eq he (lexAt_D xs ys A s _ _ _ _ r a2 b2 e (by lia))
    ·rename_i hq
     have hq:D.eqv x y=false:=by simpa using hq
     rw[hq] at he
     exact .ne he (d2b x y A s _ _ _ _ r a1 b1 e (by lia))
end
end Kq
end
section
namespace Kq
open PySem PySem.Spec PyProof.Rows L2
def btD (ds:List D) (i j:Nat):Bool:=(ltD (ds.getD i .non) (ds.getD j .non)).getD false
open Classical in
def minDF (v:FV):Option FV:=(a1t v).bind λxs=>(a7h (fD a1m) xs).bind λds =>
 if 0<ds.length/\(∀ x∈ds,∀ y∈ds,(ltD x y).isSome=true)/\∀ ps,xs[argBest (btD ds) (ds.length-1)]?≠some (.lst ps) then xs[argBest (btD ds) (ds.length-1)]? else none
section
variable {X:Cx}
end
section
variable {X:Cx}{C:CC}{n:Nat}{sp:Γd->Nat->Sp}{a:Expr}{ea:EW}{pos p:Pos}
end
def a1q {κ α:Type} [DecidableEq κ] (ks:List κ)(vs:List α)(k:κ)(v:α):List κ×List α :=
 if k∈ks then (ks,List.zipWith (λk' v'=>if k'=k then v else v') ks vs) else (ks++[k],vs++[v])
def a2w {κ α:Type} [DecidableEq κ]:List κ->List α->κ->Option α
 | k' :: ks,v :: vs,k=>if k'=k then some v else a2w ks vs k
 | _,_,_=>none
theorem b8v {a b:List Int}(h:a.map (Sum.inl:Int->Int ⊕ Option Str)=b.map Sum.inl):a=b:=by
 induction a generalizing b with
 | nil=>cases b with|nil=>rfl|cons=>cases h
 | cons x r ih=>cases b with
  | nil=>cases h
  | cons y q =>
   simp only[List.map_cons,List.cons.injEq,Sum.inl.injEq] at h
   rw[h.1,ih h.2]
theorem a6h:∀ (ks:List (List Int))(us:List V)(k:List Int),a9l ((a1w ks).zip us) (k.map Sum.inl)=a2w ks us k
 | [],us,k=>by cases us<;>rfl
 | k' :: ks,[],k=>rfl
 | k' :: ks,u :: us,k=>by
  show a9l ((k'.map Sum.inl,u) :: (a1w ks).zip us) (k.map Sum.inl)=if k'=k then some u else a2w ks us k
  by_cases e:k'=k
  ·subst e;rw[a3t rfl,if_pos rfl]
  ·rw[a3u λz=>e (b8v z),if_neg e];exact a6h ks us k
theorem a2e {κ α:Type} [DecidableEq κ]:∀ {ks:List κ}{vs:List α}(k:κ),ks.length=vs.length->((a2w ks vs k).isSome=true↔k∈ks)
 | [],vs,k,h=>by simp[a2w]
 | k' :: ks,[],k,h=>by simp at h
 | k' :: ks,v :: vs,k,h=>by
  simp only[a2w]
  by_cases e:k'=k
  ·simp[e]
  ·simp only[e,if_false,List.mem_cons,Ne.symm e,false_or]
   rw[a2e k (by simpa using h)]
theorem b1w (ks:List (List Int))(us:List V)(k:List Int)(u:V)(hl:ks.length=us.length):a4w ((a1w ks).zip us) (k.map Sum.inl) u=(a1w (a1q ks us k u).1).zip (a1q ks us k u).2:=by
 have hany:(((a1w ks).zip us).any λkv=>decide (kv.1=k.map Sum.inl))=true↔k∈ks:=by
  rw[a4g,a6h,a2e k hl]
 unfold a4w a1q
 by_cases e:k∈ks
 ·rw[if_pos (hany.mpr e),if_pos e]
  clear e hany
  induction ks generalizing us with
  | nil=>cases us<;>rfl
  | cons k' ks ih=>cases us with
   | nil=>rfl
   | cons u' us =>
    have:=ih us (by simpa using hl)
    show (if k'.map Sum.inl=k.map Sum.inl then (k'.map Sum.inl,u) else (k'.map Sum.inl,u')) :: ((a1w ks).zip us).map _=(k'.map Sum.inl,if k'=k then u else u') :: (a1w ks).zip _
    rw[this]
    congr 1
    by_cases e:k'=k
    ·subst e;simp
    ·rw[if_neg λz=>e (b8v z),if_neg e]
 ·rw[if_neg λz=>e (hany.mp z),if_neg e]
  show _=(a1w (ks++[k])).zip (us++[u])
  have:a1w (ks++[k])=a1w ks++[k.map Sum.inl]:=by simp[a1w]
  rw[this,List.zip_append (by simpa[a1w] using hl)];rfl
theorem a3c {κ α:Type} [DecidableEq κ] (ks:List κ)(vs:List α)(k:κ)(v:α)(h:ks.length=vs.length):(a1q ks vs k v).1.length=(a1q ks vs k v).2.length/\(a1q ks vs k v).1.length<=ks.length+1:=by
 unfold a1q
 split
 ·simp[h]
 ·simp[h]
section
variable {K:Γd}{S H:Hp}
theorem b6x {κ:Type} [DecidableEq κ] {k:κ}{v:FV}{u:V}(r2:RV K S v u):∀ {ks:List κ}{vs:List FV}{us:List V},RVs K S vs us->RVs K S (List.zipWith (λk' v'=>if k'=k then v else v') ks vs) (List.zipWith (λk' v'=>if k'=k then u else v') ks us)
 | [],vs,us,_=>rfl
 | k' :: ks,[],us,r=>by cases (show us=[] from r);rfl
 | k' :: ks,p :: vs,us,⟨x,q,e,h1,h2⟩=>by
  subst e
  refine⟨_,_,rfl,?_,b6x r2 h2⟩
  by_cases e:k'=k
  ·simp only[e,if_true];exact r2
  ·simp only[e,if_false];exact h1
theorem a3v {κ:Type} [DecidableEq κ] {ks:List κ}{vs:List FV}{us:List V}{k:κ}{v:FV}{u:V}(r:RVs K S vs us)(r2:RV K S v u):(a1q ks vs k v).1=(a1q ks us k u).1/\RVs K S (a1q ks vs k v).2 (a1q ks us k u).2:=by
 unfold a1q
 split
 ·exact⟨rfl,b6x r2 r⟩
 ·exact⟨rfl,r.append (RVs.one r2)⟩
theorem a5q {κ:Type} [DecidableEq κ]:∀ {ks:List κ}{vs:List FV}{us:List V}{k:κ}{v:FV},RVs K S vs us->a2w ks vs k=some v->∃ u,a2w ks us k=some u/\RV K S v u
 | [],vs,us,k,v,r,e=>by simp[a2w] at e
 | k' :: ks,[],us,k,v,r,e=>by simp[a2w] at e
 | k' :: ks,p :: vs,us,k,v,⟨x,q,e',h1,h2⟩,e=>by
  subst e'
  simp only[a2w] at e ⊢
  by_cases e0:k'=k
  ·rw[if_pos e0] at e ⊢;cases e;exact⟨x,rfl,h1⟩
  ·rw[if_neg e0] at e ⊢;exact a5q h2 e
theorem a7m {ps:List FV}{k:List Int}{x:V}(r:RV K S (.tup ps) x)(e:a0w ps=some k):∃ b,x=.ref b/\S b=some (.tup ((k.map (Sum.inl:Int->Int ⊕ Option Str)).map kV)):=by
 obtain⟨b,xs,rfl,h1,h2⟩:=r
 refine⟨b,rfl,?_⟩
 rw[h1,a2t h2 e,List.map_map];rfl
variable {c:Cn}{md:Md}{L:a0c}{σ:L2.St}
theorem c7f {q:Addr}{ks:List (List Int)}{vs:List FV}{us:List V}(I:Iv K c md L σ S H)(h1:S q=none)(h2:H q=some (.dT ((a1w ks).zip us)))(hl:ks.length=vs.length)(h3:RVs K S vs us)(fr:a6q c md L σ q):∃ u,H q=some u/\Iv K c md L σ (upd S q u) H/\RV K (upd S q u) (.dct ks vs) (.ref q):=by
 have s:=a0h (o:=.dT ((a1w ks).zip us)) h1
 refine⟨_,h2,⟨I.len,λi v h e=>let ⟨x,e1,r⟩:=I.imm i v h e;⟨x,e1,r.mono s⟩,λi v h e=>?_,I.dis,λa u e=>?_,I.frame,I.s0.trans s,λa u e=>?_,I.lent,I.fzs,I.fzm,I.fzp,λp hp=>let ⟨g1,g2,g3⟩:=I.prs p hp;⟨g1,by rw[a0e (fr.2.1 p hp)];exact g2,g3⟩,I.ntp,I.lnt1,I.tie⟩,q,us,rfl,hl,a0d,h3.mono s⟩
 ·obtain⟨b,e1,⟨g1,rs,zs,g2,g3,g4⟩,g5⟩:=I.own i v h e
  have hb:b≠q:=λz=>by subst z;exact fr.2.2 i v h e e1
  exact⟨b,e1,⟨by rw[a0e hb];exact g1,rs,zs,g2,g3,g4.mono s⟩,g5⟩
 ·by_cases z:a=q
  ·subst z;rw[a0d] at e;cases e;exact h2
  ·rw[a0e z] at e;exact I.sub a u e
 ·by_cases z:a=q
  ·subst z;exact .inr (.inl fr.1)
  ·rw[a0e z] at e;exact I.grow a u e
end
def a5i (n m:Nat)(tg:Tg)(t:BW)(ek ev:EW):List FV->List (List Int)->List FV->a0c->(List (List Int)->List FV->a0c->Prop)->Prop
 | [],ks,vs,L,Q=>Q ks vs L
 | x :: xs,ks,vs,L,Q=>gW tg x (L++Γj m none) λL1=>t L1 λb L2=>if b=true then ek L2 λkx L3=>wp (a5l kx) λps=>wp (a0w ps) λk=>ev L3 λv L4=>a5i n m tg t ek ev xs (a1q ks vs k v).1 (a1q ks vs k v).2 (L4.take n) Q else a5i n m tg t ek ev xs ks vs (L2.take n) Q
def b9p (n m:Nat)(it:AW)(tg:Tg)(t:BW)(ek ev:EW):EW:=λL Q=>it L λxs L1=>L1.length=n/\xs.length<=big/\a5i n m tg t ek ev xs [] [] L1 λks vs L2=>Q (.dct ks vs) L2
section
variable {K:Γd}{c:Cn}{md:Md}{L:a0c}{σ:L2.St}{S H:Hp}
theorem c0h {J:It}{xs:List FV}{n m:Nat}{tg:Tg}{t:BW}{ek ev:EW}{Q:VK}{Q1:List (List Int)->List FV->a0c->Prop}(I:Iv K c md L σ S H)(hJ:ItR K c md J xs S)(hL:L.length=n)(hmd:md.length<=n)(ht:a3a md tg=true)(hg:a4v n tg=true)(hb:xs.length<=big)(h:a5i n m tg t ek ev xs [] [] L Q1)
  (k:∀ acc ks vs us L' S' H',H acc=none->Q1 ks vs L'->S' acc=none->H' acc=some (.dT ((a1w ks).zip us))->ks.length=vs.length->RVs K S' vs us->a6q c md L' σ acc->Iv K c md L' σ S' H'->Same S S'->Q (.ref acc) H') :
  ∀ acc,H acc=none->∃ W:Nat->Nat->Hp->Prop,(∃ m,W 0 m (upd H acc (.dT [])))/\∀ i j H,W i j H ->
   (J.stop i H/\Q (.ref acc) H) ∨ (J.go i H/\∀ x H',J.yld i H x H'->gT K tg x (σ++Γj m none) H' λσ2 H2=>Wk (σ++Γj m none) σ2/\lb K md t σ2 H2 λb H3 =>
    if b=true then emD (lv K md ek) (lv K md ev) acc σ2 H3 λH4=>∃ m',m'<j/\W (i+1) m' H4 else ∃ m',m'<j/\W (i+1) m' H3):=by
 intro acc hacc
 have h0:=I.h0 hacc
 have hp:∀ p∈c.pr,p.1≠acc:=(I.fresh hacc).2.1
 have hz:=I.fzp
 have hbl:=a0y
 refine a3q (α:=List (List Int)×List FV) (β:=List (List Int)×List V) (fr:=λb=>{ c with pr:=(acc,.dT ((a1w b.1).zip b.2)) :: c.pr }) (P:=λa b S=>a.1=b.1/\a.1.length=a.2.length/\RVs K S a.2 b.2) (N:=λa=>a.1.length) (Cm:=λxs a L=>a5i n m tg t ek ev xs a.1 a.2 L Q1) (em:=λa L3 K'=>ek L3 λkx L4=>wp (a5l kx) λps=>wp (a0w ps) λk=>ev L4 λv L5=>K' (a1q a.1 a.2 k v) L5) (a0:=([],[])) (b0:=([],[])) ((I.lay hacc _).prot a0d (I.sn hacc) λj w hm hj=>(I.fresh hacc).2.2 j w (Mo.w_imm hm) hj) hJ hL hmd ht hg ⟨rfl,rfl,rfl⟩ rfl h (λ_ _ _ _ _ _ I _=>I.unprot hz) (λ_ _ _ _ ⟨e,l,r⟩ s=>⟨e,l,r.mono s⟩) (λ_ _ _ _ h=>h) (λ⟨ks,vs⟩ ⟨ks',us⟩ L3 σ2 S3 H3 K' Z hn I3 ⟨e,hkl,r⟩ hv kz=>?_) λ⟨ks,vs⟩ ⟨ks',us⟩ L' S' H' q I' ⟨e,hkl,r⟩ s'=>?_
 ·cases (show ks=ks' from e)
  dsimp only at hn hkl r
  refine⟨_,L3,S3,_,I3,hv,λkx L4 hk u S4 H4 r4 I4 s4=>?_⟩
  obtain⟨ps,e1,hk1⟩:=wpx hk
  obtain⟨kk,e2,hk2⟩:=wpx hk1
  cases a1u e1
  obtain⟨b,rfl,hb4⟩:=a7m r4 e2
  refine⟨_,L4,S4,_,I4,hk2,λv L5 hv u S5 H5 r5 I5 s5=>?_⟩
  have lr:=r.length
  obtain⟨pe,pr⟩:=a3v (ks:=ks) (k:=kk) (r.mono (s4.trans s5)) r5
  obtain⟨pl1,pl2⟩:=a3c ks vs kk v hkl
  refine⟨_,kk.map Sum.inl,b,(I5.prs (acc,_) Γn).1,rfl,I5.sub _ _ (s5 _ _ hb4),by rw[List.length_zip,show (a1w ks).length=ks.length by simp[a1w]];lia,?_⟩
  rw[b1w ks us kk u (by lia)]
  exact kz _ (a1q ks us kk u) L5 S5 _ hv (I5.regrow h0 hp hz) ⟨pe,pl1,pr⟩ (s4.trans s5) pl2
 ·cases (show ks=ks' from e)
  obtain⟨g1,g2,f⟩:=I'.newPr h0 hp hz
  exact k acc ks vs us L' S' H' hacc q g2 g1 hkl r f (I'.unprot hz) s'
end
section
variable {X:Cx}{C:CC}{n:Nat}{sp:Γd->Nat->Sp}{pos:Pos}{scope:Scope}{own:List Str}{kx vx tgx iter:Expr}{ifs:List Expr}{it:AW}{tg:Tg}{t:BW}{ek ev:EW}{nn m:Nat}{md':Md}
theorem c3r (G:Good X C n sp)(h:CompOk X C n sp scope own kx tgx iter ifs nn m md' it tg t ek)(hv:∀ X',Good X' (C.sub scope own md') n sp->FE X' (C.sub scope own md') vx ev):FE X C (.DictComp kx vx [⟨tgx,iter,ifs,0⟩] scope pos) (b9p nn m it tg t ek ev):=by
 have h0:=b2 h.st;have h1:=b2 h0.1;have h2:=b2 h1.1;have h3:=b2 h2.1;have h4:=b2 h3.1;have h5:=b2 h4.1;have h6:=b2 h5.1
 obtain⟨s1,s2⟩:=G.sub h6.1 md'
 have hu:X.A.units+1<cLine:=by have:=G.room.units;lia
 have blk:∀ fp D s H,PG (cxC X scope own fp D s H) tgx (gT X.K tg)/\PTs (cxC X scope own fp D s H) ifs (lb X.K md' t)/\PE (cxC X scope own fp D s H) kx (lv X.K md' ek)/\PE (cxC X scope own fp D s H) vx (lv X.K md' ev):=λfp D s H=>⟨h.tg _ (s2 fp D s H),h.ts _ (s2 fp D s H),h.el _ (s2 fp D s H),hv _ (s2 fp D s H)⟩
 refine PE.imp (b3n (X:=X) hu G.calm s1 h.it blk (a6i (nb h0.2))) λσ H Q ⟨c,L,S,Q0,I,hh,k⟩=>?_
 refine⟨c,L,S,_,I,hh,λxs L1 hx J c' S1 H1 I1 un e0 hJ s1=>?_⟩
 obtain⟨hl,hb,hc⟩:=hx
 rw[de h5.2]
 refine c0h I1 hJ hl (de h4.2) h2.2 h1.2 hb hc λacc ks vs us L' S' H' hn q g1 g2 g3 g4 fr I' s'=>?_
 obtain⟨u,hu,I2,r⟩:=c7f (un _ _ _ _ I') g1 g2 g3 g4 ⟨by rw[<- e0];exact fr.1,((un _ _ _ _ I1).fresh hn).2.1,λj w hm=>fr.2.2 j w (a5z h3.2 j hm)⟩
 exact k _ L' q _ _ H' r I2 ((s1.trans s').trans (a0h g1))
end
def b8y (a b:FV):Option FV:=match b with
 | .dct ks _=>(a5l a).bind λps=>(a0w ps).bind λk=>some (.bl (decide (k∈ks)))
 | .dci ks _=>(a3j a).bind λk=>some (.bl (decide (k∈ks)))
 | b=>inB a b
def b2b (a b:FV):Option FV:=match b with
 | .dct ks _=>(a5l a).bind λps=>(a0w ps).bind λk=>some (.bl (!decide (k∈ks)))
 | .dci ks _=>(a3j a).bind λk=>some (.bl (!decide (k∈ks)))
 | b=>niB a b
def c8t (v w:FV):Option FV:=match v with
 | .dct ks vs=>(a5l w).bind λps=>(a0w ps).bind λk=>a2w ks vs k
 | _=>none
section
variable {X:Cx}
theorem RH.dct {K:Γd}{S H:Hp}{ks:List (List Int)}{vs:List FV}{y:V}(hs:Same S H)(rq:RH K S H (.dct ks vs) y):∃ a us,y=.ref a/\ks.length=vs.length/\H a=some (.dT ((a1w ks).zip us))/\RVs K S vs us:=by
 rcases rq with⟨a,us,e,hl,h1,h2⟩|⟨a,e,_,ps,us,e9,h1,h2⟩
 ·exact⟨a,us,e,hl,hs _ _ h1,h2⟩
 ·obtain⟨hl,rfl⟩:=itd e9
  exact⟨a,us,e,hl,h1,h2⟩
theorem a9c {S H:Hp}{ks:List (List Int)}{vs:List FV}{ps:List FV}{k:List Int}{x y:V}(hs:Same S H)(rp:RH X.K S H (.tup ps) x)(rq:RH X.K S H (.dct ks vs) y)(e:a0w ps=some k):∃ a us,y=.ref a/\ks.length=us.length/\RVs X.K S vs us/\L2.DGet H a x (a2w ks us k):=by
 obtain⟨a,us,rfl,hl,h1,h2⟩:=rq.dct hs
 obtain⟨b,rfl,hb⟩:=a7m (rp.val rfl) e
 refine⟨a,us,rfl,by rw[hl,h2.length],h2,?_⟩
 rw[<- a6h]
 exact .t h1 (hs _ _ hb)
theorem a5p:∀ (ks:List Int)(us:List V) (k:Int),a9l ((a3h ks).zip us) (Sum.inl k)=a2w ks us k
 | [],us,k=>by cases us<;>rfl
 | k' :: ks,[],k=>rfl
 | k' :: ks,u :: us,k=>by
  show a9l ((Sum.inl k',u) :: (a3h ks).zip us) (Sum.inl k)=if k'=k then some u else a2w ks us k
  by_cases e:k'=k
  ·subst e;rw[a3t rfl,if_pos rfl]
  ·rw[a3u λz=>e (Sum.inl.inj z),if_neg e];exact a5p ks us k
theorem RH.dci {K:Γd}{S H:Hp}{ks:List Int}{vs:List FV}{y:V}(hs:Same S H)(rq:RH K S H (.dci ks vs) y):∃ a us,y=.ref a/\ks.length=vs.length/\H a=some (.dK ((a3h ks).zip us))/\RVs K S vs us:=by
 rcases rq with⟨a,us,e,hl,h1,h2⟩|⟨a,e,_,ps,us,e9,h1,h2⟩
 ·exact⟨a,us,e,hl,hs _ _ h1,h2⟩
 ·obtain⟨hl,rfl⟩:=itd e9
  exact⟨a,us,e,hl,h1,h2⟩
theorem b0y {S H:Hp}{ks:List Int}{vs:List FV}{k:Int}{y:V}(hs:Same S H)(rq:RH X.K S H (.dci ks vs) y):∃ a us,y=.ref a/\ks.length=us.length/\RVs X.K S vs us/\L2.DGet H a (.int k) (a2w ks us k):=by
 obtain⟨a,us,rfl,hl,h1,h2⟩:=rq.dci hs
 refine⟨a,us,rfl,by rw[hl,h2.length],h2,?_⟩
 rw[<- a5p]
 exact .k (k:=Sum.inl k) h1
theorem d7o (hu:X.A.units+64<cLine):OpR X (compareOp .In) (Rq X.K b8y):=by
 intro pins s σ H x y v u Q I rx ry ⟨S,p,q,z,hs,rp,rq,e,k⟩
 cases q with
 | dct ks vs =>
  obtain⟨ps,e1,e2⟩:=bnd e
  obtain⟨kk,e3,e4⟩:=bnd e2
  cases a1u e1
  cases e4
  obtain⟨a,us,rfl,hl,h2,g⟩:=a9c hs rp rq e3
  cases (show u=Value.ref a from ry)
  refine d_in (by lia) I g rx λs' I'=>⟨.bl _,H,I',rfl,?_⟩
  have:(a2w ks us kk).isSome=decide (kk∈ks):=by rw[Bool.eq_iff_iff,a2e kk hl];simp
  rw[this]
  exact k.bl
 | dci ks vs =>
  obtain⟨kk,e1,e4⟩:=bnd e
  cases a1g e1
  cases e4
  cases rp.int
  obtain⟨a,us,rfl,hl,h2,g⟩:=b0y (k:=kk) hs rq
  cases (show u=Value.ref a from ry)
  refine d_in (by lia) I g rx λs' I'=>⟨.bl _,H,I',rfl,?_⟩
  have:(a2w ks us kk).isSome=decide (kk∈ks):=by rw[Bool.eq_iff_iff,a2e kk hl];simp
  rw[this]
  exact k.bl
 | _=>exact q_in hu pins s σ H x y v u Q I rx ry ⟨S,p,_,z,hs,rp,rq,e,k⟩
theorem d0k (hu:X.A.units+64<cLine):OpR X (compareOp .NotIn) (Rq X.K b2b):=by
 intro pins s σ H x y v u Q I rx ry ⟨S,p,q,z,hs,rp,rq,e,k⟩
 cases q with
 | dct ks vs =>
  obtain⟨ps,e1,e2⟩:=bnd e
  obtain⟨kk,e3,e4⟩:=bnd e2
  cases a1u e1
  cases e4
  obtain⟨a,us,rfl,hl,h2,g⟩:=a9c hs rp rq e3
  cases (show u=Value.ref a from ry)
  refine b9z (by lia) I g rx λs' I'=>⟨.bl _,H,I',rfl,?_⟩
  have:(a2w ks us kk).isSome=decide (kk∈ks):=by rw[Bool.eq_iff_iff,a2e kk hl];simp
  rw[this]
  exact k.bl
 | dci ks vs =>
  obtain⟨kk,e1,e4⟩:=bnd e
  cases a1g e1
  cases e4
  cases rp.int
  obtain⟨a,us,rfl,hl,h2,g⟩:=b0y (k:=kk) hs rq
  cases (show u=Value.ref a from ry)
  refine b9z (by lia) I g rx λs' I'=>⟨.bl _,H,I',rfl,?_⟩
  have:(a2w ks us kk).isSome=decide (kk∈ks):=by rw[Bool.eq_iff_iff,a2e kk hl];simp
  rw[this]
  exact k.bl
 | _=>exact q_ni hu pins s σ H x y v u Q I rx ry ⟨S,p,_,z,hs,rp,rq,e,k⟩
end
theorem c9t:a5j b8y:=by
 intro v w z e
 cases w with
 | dct ks vs =>
  obtain⟨ps,_,e⟩:=bnd e
  obtain⟨k,_,e⟩:=bnd e
  cases e;exact⟨_,rfl⟩
 | dci ks vs =>
  obtain⟨k,_,e⟩:=bnd e
  cases e;exact⟨_,rfl⟩
 | _ =>
  obtain⟨b,_,rfl⟩:=mpd (show (inF v _).map FV.bl=some z from e)
  exact⟨_,rfl⟩
theorem c9s:a5j b2b:=by
 intro v w z e
 cases w with
 | dct ks vs =>
  obtain⟨ps,_,e⟩:=bnd e
  obtain⟨k,_,e⟩:=bnd e
  cases e;exact⟨_,rfl⟩
 | dci ks vs =>
  obtain⟨k,_,e⟩:=bnd e
  cases e;exact⟨_,rfl⟩
 | _ =>
  obtain⟨b,_,rfl⟩:=mpd (show (inF v _).map (λr=>FV.bl (!r))=some z from e)
  exact⟨_,rfl⟩
section
variable {X:Cx}{C:CC}{n:Nat}{sp:Γd->Nat->Sp}{a b:Expr}{ea eb:EW}{pos p:Pos}
theorem fe_ni2 (G:Good X C n sp)(ha:FE X C a ea)(hb:FR X C b eb)(hm:behindInMarks .NotIn b=false):FE X C (.Compare a [.NotIn] [b] pos) (eOp b2b ea eb):=b4e (d0k G.room.units) ha hb hm
theorem fb_in2 (G:Good X C n sp)(ha:FE X C a ea)(hb:FR X C b eb)(hm:behindInMarks .In b=false):FB X C (.Compare a [.In] [b] pos) (a1f (eOp b8y ea eb)):=a7o c9t (d7o G.room.units) ha hb hm
theorem fb_ni2 (G:Good X C n sp)(ha:FE X C a ea)(hb:FR X C b eb)(hm:behindInMarks .NotIn b=false):FB X C (.Compare a [.NotIn] [b] pos) (a1f (eOp b2b ea eb)):=a7o c9s (d0k G.room.units) ha hb hm
variable {es:List Expr}{k:Nat}{p2:Pos}
theorem e0d (G:Good X C n sp)(ha:FE X C a ea)(hb:FE X C (.Tuple es k p2) eb):FE X C (.Subscript a (.Tuple es k p2) pos) (eOp c8t ea eb) :=
 PE.imp (b1z (X:=X.nox) (by have:=G.room.units;show X.A.units+1<cLine;lia) ha hb λ_ _=>rfl) λσ H Q ⟨c,L,S,Q0,I,h,k⟩ =>
 ⟨c,L,S,_,I,h,λv L1 hv x S1 H1 r1 I1 s1=>⟨c,L1,S1,_,I1,hv,λw L2 hw y S2 H2 r2 I2 s2=>by
  obtain⟨z,e,q⟩:=wpx hw
  cases v with
  | dct ks vs =>
   obtain⟨ps,e1,e2⟩:=bnd e
   obtain⟨kk,e3,e4⟩:=bnd e2
   cases a1u e1
   obtain⟨a,us,rfl,hl,h2,g⟩:=a9c (X:=X) I2.sub (.inl r2) (.inl (r1.mono s2)) e3
   obtain⟨u,e5,r5⟩:=a5q h2 e4
   rw[e5] at g
   exact⟨a,u,rfl,g,k z L2 q u S2 H2 r5 I2 (s1.trans s2)⟩
  | _=>cases e⟩⟩
end
section
variable (Q:FV->Prop)
@[scoped simp ↓] theorem k_in2d (ps:List FV)(ks:List (List Int))(vs:List FV):wp (b8y (.tup ps) (.dct ks vs)) Q↔wp (a0w ps) λk=>Q (.bl (decide (k∈ks))):=by
 show wp ((a0w ps).bind _) Q↔_;rw[a2a];rfl
@[scoped simp ↓] theorem k_in2i (k:Int)(ks:List Int)(vs:List FV):wp (b8y (.int k) (.dci ks vs)) Q=Q (.bl (decide (k∈ks))):=propext Iff.rfl
@[scoped simp ↓] theorem k_ni2i (k:Int)(ks:List Int)(vs:List FV):wp (b2b (.int k) (.dci ks vs)) Q=Q (.bl (!decide (k∈ks))):=propext Iff.rfl
@[scoped simp ↓] theorem k_in2t (a:FV)(xs:List FV):wp (b8y a (.tup xs)) Q↔wp (inF a (.tup xs)) λr=>Q (.bl r):=a1x _ _ _
@[scoped simp ↓] theorem k_ni2d (ps:List FV)(ks:List (List Int))(vs:List FV):wp (b2b (.tup ps) (.dct ks vs)) Q↔wp (a0w ps) λk=>Q (.bl (!decide (k∈ks))):=by
 show wp ((a0w ps).bind _) Q↔_;rw[a2a];rfl
@[scoped simp ↓] theorem k_ni2t (a:FV)(xs:List FV):wp (b2b a (.tup xs)) Q↔wp (inF a (.tup xs)) λr=>Q (.bl (!r)):=a1x _ _ _
@[scoped simp ↓] theorem k_ni2l (a:FV)(xs:List FV):wp (b2b a (.lst xs)) Q↔wp (inF a (.lst xs)) λr=>Q (.bl (!r)):=a1x _ _ _
@[scoped simp ↓] theorem k_dget (ps:List FV)(ks:List (List Int))(vs:List FV):wp (c8t (.dct ks vs) (.tup ps)) Q↔wp (a0w ps) λk=>wp (a2w ks vs k) Q:=by
 show wp ((a0w ps).bind _) Q↔_;rw[a2a]
@[scoped simp ↓] theorem ints_n (Q:List Int->Prop):wp (a0w []) Q=Q []:=propext Iff.rfl
@[scoped simp ↓] theorem ints_c (i:Int)(r:List FV)(Q:List Int->Prop):wp (a0w (.int i :: r)) Q↔wp (a0w r) λns=>Q (i :: ns):=by
 show wp ((a0w r).map (i :: ·)) Q↔_;rw[a1x]
end
@[scoped simp ↓] theorem d3e (n m:Nat)(it:AW)(tg:Tg)(t:BW)(ek ev:EW)(L:a0c)(Q:FV->a0c->Prop):b9p n m it tg t ek ev L Q=(it L λxs L1=>L1.length=n/\xs.length<=big/\a5i n m tg t ek ev xs [] [] L1 λks vs L2=>Q (.dct ks vs) L2):=propext Iff.rfl
theorem b1g {α:Type}{tg:Tg}{n m:Nat}{ek ev:EW}{f:α->FV}{g:α->List Int}{h:α->FV}{Q:List (List Int)->List FV->a0c->Prop}{L:a0c}:∀ (xs:List α)(ks:List (List Int))(vs:List FV),
  (∀ x∈xs,g x ∉ ks)->(xs.map g).Nodup ->
  (∀ x∈xs,∀ K:List Int->FV->a0c->Prop,K (g x) (h x) L->gW tg (f x) (L++Γj m none) λL1=>ek L1 λkx L3=>wp (a5l kx) λps=>wp (a0w ps) λk=>ev L3 λv L4=>K k v (L4.take n))->Q (ks++xs.map g) (vs++xs.map h) L->a5i n m tg a1i ek ev (xs.map f) ks vs L Q
 | [],ks,vs,_,_,_,E=>by
  show Q ks vs L
  simpa using E
 | x :: xs,ks,vs,hn,hd,B,E=>by
  refine B x Γn (λk v L'=>a5i n m tg a1i ek ev (xs.map f) (a1q ks vs k v).1 (a1q ks vs k v).2 L' Q) ?_
  have hk:=hn x Γn
  simp only[List.map_cons,List.nodup_cons] at hd
  have e:a1q ks vs (g x) (h x)=(ks++[g x],vs++[h x]):=by simp[a1q,hk]
  rw[e]
  refine b1g xs _ _ (λy hy hm=>?_) hd.2 (λy hy=>B y (Γh _ hy)) (by simpa using E)
  rcases List.mem_append.mp hm with hm|hm
  ·exact hn y (Γh _ hy) hm
  ·simp at hm
   exact hd.1 (by rw[<- hm];exact List.mem_map_of_mem hy)
end Kq
end
section
namespace PySem
section
variable {prog:Program}{w:World}{A:Around}{E:Value->Shared->Prop}{s:Shared}
end
end PySem
namespace Kq
open PySem PySem.Spec PyProof.Rows L2
section
variable {P:Program}{w:World}{A:Around}{E:Value->Shared->Prop}{s:Shared}
end
def maxIF (v:FV):Option FV:=(a1t v).bind λxs=>(a0w xs).bind λns=>match ns with
 | n :: r=>some (.int (c7h n r))
 | []=>none
section
variable {X:Cx}
end
section
variable {X:Cx}{C:CC}{n:Nat}{sp:Γd->Nat->Sp}{a:Expr}{ea:EW}{pos p:Pos}
end
end Kq
end
section
namespace PySem
section
variable {prog:Program}{w:World}{A:Around}{E:Value->Shared->Prop}{s:Shared}
end
end PySem
namespace Kq
open PySem PySem.Spec PyProof.Rows L2
section
variable {X:Cx}{a:Expr}{ta:TA}{p p2 pos pos2:Pos}
end
def revTF (v:FV):Option FV:=(a1t v).map λxs=>.tup xs.reverse
end Kq
end
section
namespace Kq
open PySem PySem.Spec PyProof.Rows L2
section
variable {P:Program}{w:World}{A:Around}{E:Value->Shared->Prop}{s:Shared}
end
def c1r (v:FV):Option FV:=(a4f v).bind λxs=>(c5q xs).map .int
section
variable {X:Cx}
theorem b5j (hc:X.calm=true):a1j X (.builtin "sum") (λxs H Q=>∃ (a:Addr)(ns:List Int),xs=[.ref a]/\SqT X.K H a (ns.map V.int)/\ns.length<=big/\(∀ n∈ns,-(2 ^ 40)<=n/\n<=2 ^ 40)/\Q (.int ns.sum) H):=by
 intro pins s σ H xs us Q I r h
 obtain⟨a,ns,rfl,hq,hz,hb,q⟩:=h
 obtain⟨u,rfl,rx⟩:=a3l r
 cases rx
 obtain⟨its,r',pl,hz'⟩:=I.tuple hq
 have hlen:ns.length=its.length:=by have:=r'.length;simpa using this
 have pt:s.heap.IsTuple a its.toArray:=pl
 have alt:a<s.heap.objs.size:=by obtain⟨_,e,_⟩:=pt;exact Γl e
 have hh:X.A.in1.handled=none:=I.ok.hd hc
 refine call_sum_walk (wpAny_pyIter_tuple pt ?_)
 refine⟨s.heap.objs.size,_,_,_,_,_,λi=>ns.getD i 0,rfl,Walks.tuple hh s.heap.objs.size a (Γo alt) its.toArray,⟨⟨_,Γm _ rfl,rfl,rfl⟩,pt.at λo e=>Γc _ e⟩,?_,?_,?_,?_⟩
 ·intro b hb'
  simp at hb'
  rcases hb' with rfl|rfl
  ·show _<(s.heap.push _).objs.size;rw[Heap.size_push];exact Nat.lt_succ_self _
  ·show _<(s.heap.push _).objs.size;rw[Heap.size_push];exact Nat.lt_succ_of_lt alt
 ·intro i v hv
  have hv:its.toArray[i]?=some v:=hv
  have hi:i<ns.length:=by rw[hlen];simpa using (Array.getElem?_eq_some_iff.mp hv).1
  obtain⟨t,e⟩:=Vals.mapInt r' i hi
  refine⟨t,?_⟩
  have e':its.toArray[i]?=some (.int (ns.getD i 0) t):=by simpa using e
  rw[hv] at e'
  exact Option.some.inj e'
 ·intro j hj
  have hj':j<ns.length:=by rw[hlen];simpa using hj
  have hm:ns.getD j 0∈ns:=by simp[List.getD,hj']
  refine⟨?_,?_⟩
  ·have:=hb _ hm
   show -(2 ^ 63)<=ns.getD j 0/\ns.getD j 0<2 ^ 63
   lia
  ·rw[a2p ns (j+1) hj']
   have b2:=b6k 1099511627776 (by decide) (ns.take (j+1)) λn hn=>by have:=hb n (List.mem_of_mem_take hn);lia
   have l2:(ns.take (j+1)).length<=100000:=by rw[List.length_take];unfold big at hz;lia
   unfold InLong;lia
 ·intro h' tk t' hk
  have e:preSum (λi=>ns.getD i 0) its.toArray.size=ns.sum:=by
   rw[List.size_toArray,<- hlen,a2p ns _ (Γi _),List.take_length]
  rw[e]
  refine⟨.int ns.sum,H,?_,⟨t',rfl⟩,q⟩
  exact I.kept (t':=tk) λb o e=>hk b o (by simp;exact Γo (Γl e)) (Γc _ e)
theorem d3r (hc:X.calm=true):a1j X (.builtin "sum") (Rc X.K c1r):=by
 rintro pins s σ H xs us Q I r ⟨S,v,x,z,rfl,hs,rv,e,k⟩
 cases v with
 | tup ps =>
  obtain⟨n,e3,rfl⟩:=mpd e
  obtain⟨ns,e4,e5⟩:=bnd e3
  obtain⟨hb,rfl⟩:=itd e5
  obtain⟨a,ys,rfl,hq,ry⟩:=rv.tup hs
  cases a2t ry e4
  refine b5j hc pins s σ H _ us Q I r ⟨a,ns,rfl,SqT.of hq,hb.1,λn hn=>?_,k.int⟩
  have:=List.all_eq_true.mp hb.2 n hn
  simpa[a7w] using this
 | lst ps=>exact c8y hc pins s σ H _ us Q I r ⟨S,.lst ps,x,z,rfl,hs,rv,e,k⟩
 | scr ps=>exact c8y hc pins s σ H _ us Q I r ⟨S,.scr ps,x,z,rfl,hs,rv,e,k⟩
 | _=>cases e
end
section
variable {X:Cx}{C:CC}{n:Nat}{sp:Γd->Nat->Sp}{a:Expr}{ea:EW}{pos p:Pos}
theorem d9t (G:Good X C n sp)(hg:C.gl (Γe "sum")=true)(hs:a0j a=false)(ha:FR X C a ea):FE X C (.Call (.Name (Γe "sum") p) [a] [] pos) (eUn c1r ea):=b0u (d3r G.calm) G (by decide) (by nofun) (by nofun) (by nofun) hg hs ha
end
@[scoped simp ↓] theorem f_sum2 (v:FV)(Q:FV->Prop):wp (c1r v) Q↔wp (a4f v) λxs=>wp (c5q xs) λn=>Q (.int n):=by
 show wp ((a4f v).bind _) Q↔_
 simp only[a2a,a1x]
def insL {α:Type}(xs:List α) (k:Nat)(y:α):List α:=xs.take k++y :: xs.drop k
def insF (v:FV)(ys:List FV):Option FV:=match ys with
 | [i,y]=>(a6s v).bind λxs=>(a3j i).bind λk=>if 0<=k/\k<4611686018427387904/\xs.length<big then some (.lst (insL xs k.toNat y)) else none
 | _=>none
def eMethA (f:FV->List FV->Option FV) (i:Nat)(as:AW):EW:=λL Q=>wp (lk L i) λv=>wp (a6s v) λ_=>as L λys L1=>wp (lk L1 i) λx=>wp (f x ys) λz=>Q .non (L1.set i (some z))
section
variable {X:Cx}
end
section
variable {K:Γd}{S:Hp}
end
section
variable {X:Cx}{C:CC}{n:Nat}{sp:Γd->Nat->Sp}{a b:Expr}{as:AW}{nx:Str}{p:Pos}{i:Nat}
end
end Kq
end
section
namespace PySem
open Sem (wp)
theorem a6t:typeLookup (.type "list") (Γe "keys")=pure none:=by rw[typeLookup_type,builtinLookup_eq_fast];kernel_rfl
theorem a4m {prog:Program}{w:World}{A:Around}{E:Value->Shared->Prop}{s:Shared}{a:Addr}{o:Obj}{xs:Array Value}{k:Nat}{name:Str}{Q:Option Value->Shared->Prop}
  (hx:s.heap.get? a=some o)(hc:o.cls=.type "list")(hdat:o.data=.seq xs k)(hd:o.dict=none)(hmiss:typeLookup (.type "list") name=pure none)(hname:(["__module__","__name__","__qualname__","__doc__","__annotations__"]:List Str).contains name=false)(hA:A.handled=none)
  (h:∀ h' tk e,Heap.NewExcOf s.heap h' e "AttributeError"->Q none { s with heap:=h',toks:=tk })(hsz:name.length+100<=sizeLine:=by size_fits) :
  wpAny (model prog w) A (getAttr? (.ref a) name) Q E s:=by
 obtain⟨c,dct,dat,sl⟩:=o
 simp only at hc hdat hd
 subst hc hdat hd
 obtain⟨hp,g,d,tk,os⟩:=s
 have hT:∀ tk',(⟨hp,g,d,tk',os⟩:Shared).TypeIs (.ref a) "list":=λ_=>⟨_,hx,rfl⟩
 have f1:=sub_AttributeError
 have f3:=F.slot_list_getattribute.lookup
 have f4:=F.slot_list_getattribute.bind (.ref a)
 have f5:=am_list_getattr_none
 unfold getAttr? getAttrBy? getAttrBy
 repeat (any_goals (first|assumption|exact hT _|((with_reducible show wpAny _ _ (call (Value.builtin "list.__getattribute__") _ _) _ _ _);refine call_meets F.slot_list_getattribute (hT _) am_entry_list_getattribute (F.args_list_getattribute_2 _ _) (meets_getattribute_miss_list a xs k sl name _ hmiss hname hsz) ⟨hx,hA,λh' tk' e hx'=>?_⟩)|wp_step))
 obtain⟨t',u',he⟩:=hx'.there
 show wpAny _ _ (getattributeRaised _ _ _ _ _ _ _) _ _ _
 unfold getattributeRaised
 repeat (any_goals (first|assumption|wp_step))
 exact h _ _ _ hx'.of
end PySem
namespace Kq
open PySem PySem.Spec PyProof.Rows L2
theorem F.entry_dict_update_loop:entryFor table "dict.update.loop" = some Builtin.«dict.update.loop»:=entryFor_of_tree (by kernel_rfl)
theorem F.plain_dict_update_loop:plainId "dict.update.loop" = true:=by nofun
abbrev b1o (H:Hp):List V->List (List Key×V)->Prop:=Paired λy p=>∃ b kb:Addr,y=.ref b/\H b=some (.tup [.ref kb,p.2])/\H kb=some (.tup (p.1.map kV))
def a9k (P:Program)(w:World)(h:Heap)(D:Addr)(xs:List (List Key×Addr×Value)):Prop :=
 ∃ o es ep,h.get? D=some o/\o.ExactDict/\o.data=.dict es ep/\es.toList=xs.map (entryOfKey (tupleKind (a0v P w)))/\(xs.map (·.1)).Nodup
section
variable {P:Program}{w:World}{A:Around}{R:Result->Shared->Prop}{H:Hp}{h0:Heap}{it l D:Addr}{items:Array Value}
theorem b8h (ok:HOk P w H h0){h:Heap}(kp:L2.Kept h0 h h0.objs.size){a:Addr}{ks:List Key}(e:H a=some (.tup (ks.map kV))):(tupleKind (a0v P w)).is h ks a:=by
 obtain⟨o,its,n,h1,h2⟩:=a6d ok e
 exact⟨o,its,n,kp a o (Γl h1) h1,h2⟩
theorem c2a (ok:HOk P w H h0){h:Heap}(kp:L2.Kept h0 h h0.objs.size){kvs:List (List Key×V)}{xs:List (List Key×Addr×Value)}(r:KT H kvs xs)(d:a9k P w h D xs):h.DictOfH (tupleKind (a0v P w)) D xs:=by
 obtain⟨o,es,ep,h1,h2,h3,h4,h5⟩:=d
 refine⟨o,es,ep,h1,h2,h3,h4,λx hx=>?_,h5⟩
 have all:∀ {l:List (List Key×V)}{m:List (List Key×Addr×Value)},KT H l m->∀ x∈m,(tupleKind (a0v P w)).is h x.1 x.2.1:=by
  intro l m q
  induction q with
  | nil=>intro x hx;exact nomatch hx
  | @cons p q ps qs hq t ih =>
   intro x hx
   rcases List.mem_cons.mp hx with e|hx
   ·subst e
    exact b8h ok kp (by rw[<- hq.1];exact hq.2.1)
   ·exact ih x hx
 exact all r x hx
theorem c8o (ok:HOk P w H h0)(hu:A.in1.units<cLine)(hh:A.in1.handled=none)(hl:h0.IsList l items)(hit:h0.objs.size<=it)(hD:h0.objs.size<=D)(hne:D≠it) :
  ∀ (rest:List (List Key×V))(ys:List V)(us:List Value) (i:Nat)(s:Shared)(kvs:List (List Key×V))(xs:List (List Key×Addr×Value)),items.toList.drop i=us->i<=items.size->Vals ys us->b1o H ys rest->s.heap.IsListIter it l i->L2.Kept h0 s.heap h0.objs.size->KT H kvs xs->a9k P w s.heap D xs->kvs.length+rest.length<=sizeLine ->
  (∀ h' tk xs',KT H (rest.foldl (λk p=>a4w k p.1 p.2) kvs) xs'->a9k P w h' D xs'->L2.Kept h0 h' h0.objs.size->R (.ok (.ret .none)) { s with heap:=h',toks:=tk }) ->
  codeAny (model P w) A (.builtin "dict.update.loop" ⟨[.ref D,.ref it,.int (i:Int) 0,.none],[]⟩) R s:=by
 have ll:l<h0.objs.size:=by obtain⟨_,e,_⟩:=hl;exact Γl e
 have W:=Walks.list (prog:=P) (w:=w) (A:=A.in1) hh it l (Γo (Nat.lt_of_lt_of_le ll hit)) items
 have lst:∀ {h:Heap},L2.Kept h0 h h0.objs.size->h.IsList l items:=λ{h} kp=>hl.at λo e=>kp l o ll e
 intro rest
 induction rest with
 | nil =>
  intro ys us i s kvs xs hd hi hv hp hst kp hk hr hz hR
  cases hp
  cases hv
  have en:i=items.size:=by
   have:=congrArg List.length hd
   simp at this
   lia
  refine codeAny_builtin F.entry_dict_update_loop ?_;rw[PySem.Around.under_plainId F.plain_dict_update_loop _]
  show wpAny _ A.in1 (pyNext (.ref it) >>= _) _ _ s
  refine Γa (W.done s _ _ (by rw[<- en];exact⟨hst,lst kp⟩) λg tk kk=>?_)
  show wpAny _ A.in1 (Builtin.Dict.addKeywords D [] >>= _) _ _ _
  refine Γa (Γb (Γb ?_))
  have low:∀ {b:Addr},b<h0.objs.size->b ∉ [it]:=λ{b} hb=>by simp;exact Γo (Nat.lt_of_lt_of_le hb hit)
  obtain⟨o,es,ep,h1,h2⟩:=hr
  exact hR g tk xs hk ⟨o,es,ep,kk D o (by simp;exact hne) h1,h2⟩ λb o hb e=>kk b o (low hb) (kp b o hb e)
 | cons p rest ih =>
  intro ys us i s kvs xs hd hi hv hp hst kp hk hr hz hR
  cases hp with
  | @cons y _ ys' _ hpq hp' =>
  obtain⟨b,kb,rfl,hb,hkb⟩:=hpq
  cases hv with
  | @cons _ u _ us' ru hv' =>
  cases (show u=Value.ref b from ru)
  have hi':items[i]?=some (.ref b):=by
   have:=congrArg (λl:List Value=>l[0]?) hd
   simpa using this
  have lt:i<items.size:=(Array.getElem?_eq_some_iff.mp hi').1
  have hd':items.toList.drop (i+1)=us':=by
   have:=congrArg List.tail hd
   simpa using this
  obtain⟨_,its,rt,o,e1,e2,n,e3⟩:=(show ObjOk P w H h0 b (.tup [.ref kb,p.2]) from ok b _ hb)
  cases rt with
  | @cons _ u1 _ t1 r1 rt =>
  cases (show u1=Value.ref kb from r1)
  cases rt with
  | @cons _ u2 _ t2 r2 rt =>
  cases rt
  have low:∀ {b:Addr},b<h0.objs.size->b ∉ [it]:=λ{b} hb=>by simp;exact Γo (Nat.lt_of_lt_of_le hb hit)
  refine codeAny_builtin F.entry_dict_update_loop ?_;rw[PySem.Around.under_plainId F.plain_dict_update_loop _]
  show wpAny _ A.in1 (pyNext (.ref it) >>= _) _ _ s
  refine Γa (W.item i s _ _ lt ⟨hst,lst kp⟩ λv g tk vP st1 kk=>?_)
  have vP:items[i]?=some v:=vP
  rw[hi'] at vP
  cases vP
  have kp1:L2.Kept h0 g h0.objs.size:=λb o hb e=>kk b o (low hb) (kp b o hb e)
  have hr1:a9k P w g D xs:=by
   obtain⟨o,es,ep,h1,h2⟩:=hr
   exact⟨o,es,ep,kk D o (by simp;exact hne) h1,h2⟩
  have eb:g.get? b=some o:=kp1 b o (Γl e1) e1
  show wpAny _ A.in1 (holding [Value.ref b] _ >>= _) _ _ _
  refine Γa (Γg (Γa (wpAny_tryCatch ?_)))
  unfold Builtin.Dict.pairItems
  refine Γa (wpAny_typeOf (show Shared.TypeIs _ (.ref b) "tuple" from ⟨o,eb,e2⟩) ?_)
  rw[if_pos (by decide)]
  refine Γa (wpAny_seqItems eb e3 (Γb ?_))
  show wpAny _ A.in1 (holding [Value.ref kb,u2] (dictSet D (.ref kb) u2)) _ _ _
  have hz1:xs.length<=sizeLine:=by
   have:=Paired.length hk
   simp only[List.length_cons] at hz
   lia
  refine Γg (wpAny_dictSet_heap (knd:=tupleKind (a0v P w)) (hsz:=hz1) hu (b8h ok kp1 hkb) (c2a ok kp1 hk hr1) λh' dd' hs=>?_)
  obtain⟨q,es,ep,hq,h2',h3',h4',h5',h6'⟩:=dd'
  have kp2:L2.Kept h0 h' h0.objs.size:=λb o hb e=>(hs.2 b (λz=>absurd hb (by rw[z];exact Nat.not_lt.mpr hD))).trans (kp1 b o hb e)
  have hit':h'.IsListIter it l (i+1):=by
   obtain⟨o,x1,x2⟩:=st1.1
   exact⟨o,(hs.2 it (Ne.symm hne)).trans x1,x2⟩
  have en:(i:Int)+1=((i+1:Nat):Int):=by lia
  show wpAny _ A.in1 (again (.builtin "dict.update.loop" ⟨[.ref D,.ref it,rawInt ((i:Int)+1),.none],[]⟩)) _ _ _
  rw[en]
  refine Γb ⟨plainId_quiet F.plain_dict_update_loop _,ih ys' us' (i+1) _ (a4w kvs p.1 p.2) _ hd' lt hv' hp' hit' kp2 (hk.put p.1 hkb r2) ⟨q,es,ep,hq,h2',h3',h4',h6'⟩ ?_ λh'' tk' xs' x1 x2 x3=>hR h'' tk' xs' x1 x2 x3⟩
  have:=a2r kvs p.1 p.2
  simp only[List.length_cons] at hz
  lia
end
section
variable {X:Cx}{pins:List (Addr×Obj)}{σ:L2.St}{H:Hp}{s:Shared}{A:Around}{E:Value->Shared->Prop}
theorem a6n {l:Addr}{ys:List V}{ps:List (List Key×V)}{Q:Value->Shared->Prop}(hu:A.in1.in1.units<cLine)(hh:A.in1.in1.handled=none)(I:Inv X pins σ H s)(hl:SqL X.K H l ys)(hp:b1o H ys ps)
  (h:∀ p s',H p=none->Inv X pins σ (upd H p (.dT (ps.foldl (λk q=>a4w k q.1 q.2) []))) s'->Q (.ref p) s'):wpAny (model X.prog X.w) A (call (.type "dict") [.ref l]) Q E s:=by
 obtain⟨its,rv,pl,hz⟩:=I.list hl
 have hll:=pl.isList
 have lp:ys.length=ps.length:=Paired.length hp
 have ll:l<s.heap.objs.size:=by obtain⟨_,e,_⟩:=hll;exact Γl e
 refine callType_codes (Q₁:=λobj s₁=>obj=.ref s.heap.objs.size/\s₁ = { s with heap:=s.heap.push { cls:=.type "dict",data:=.dict #[] } }) PySem.F.kt_called_dict (PySem.F.kt_typeCall_dict_1 _) PySem.F.entry_dict_init (kt_code_dict_new _ ⟨rfl,rfl⟩) ?_
 rintro obj s₁ ⟨rfl,rfl⟩
 have nD:(s.heap.push { cls:=.type "dict",data:=.dict #[] }).get? s.heap.objs.size=some { cls:=.type "dict",data:=.dict #[] }:=Γm _ rfl
 have hT:Shared.TypeIs { s with heap:=s.heap.push { cls:=.type "dict",data:=.dict #[] } } (.ref s.heap.objs.size) "dict":=⟨_,nD,rfl⟩
 refine⟨hT,PySem.F.args_dict_init_2 _ _,?_⟩
 unfold Builtin.«dict.__init__»
 refine Γa ?_
 unfold Builtin.Dict.selfAndRest
 refine Γa (wpAny_notOrdered_dict hT ?_)
 show wpAny _ _ (pure (s.heap.objs.size,[Value.ref l])) _ _ _
 refine Γb ?_
 show wpAny _ _ (Builtin.Dict.updateFrom "dict.__init__" s.heap.objs.size (.ref l) [] .none) _ _ _
 unfold Builtin.Dict.updateFrom
 have hl1:(s.heap.push { cls:=.type "dict",data:=.dict #[] }).IsList l its.toArray:=hll.push _
 refine Γa (wpAny_typeOf hl1.typeIs ?_)
 rw[if_pos (by decide)]
 obtain⟨o,n,f1,f2,f3,f4⟩:=pl
 refine Γa (a4m (Γc _ f1) f2 f4 f3 a6t (by nofun) hh (λh' tk e hx=>?_) (by nofun))
 rw[if_pos (show (none:Option Value).isNone=true from rfl)]
 refine Γa (wpAny_rule (Γa (wpAny_pyIter_list (hl1.at λo e=>hx.keeps _ _ e) (Γb ⟨plainId_quiet F.plain_dict_update_loop _,?_⟩))))
 have kp:∀ b o,s.heap.get? b=some o->(h'.push { cls:=.type "list_iterator",data:=.fields #[.ref l,.int 0 0] }).get? b=some o:=λb o e=>Γc _ (hx.keeps _ _ (Γc _ e))
 have d1:=hx.keeps _ _ nD
 have lD:s.heap.objs.size<h'.objs.size:=Γl d1
 refine c8o (P:=X.prog) (w:=X.w) (A:=A.in1) (h0:=s.heap) (H:=H) I.hok hu hh hll (Nat.le_of_lt lD) (Γi _) (Γo lD) ps ys its 0 _ [] [] (by simp) (Nat.zero_le _) rv hp ⟨_,Γm _ rfl,rfl,rfl⟩ (λb o _ e=>kp b o e) .nil
  ⟨_,#[],0,Γc _ d1,⟨rfl,rfl,rfl⟩,rfl,rfl,List.nodup_nil⟩ (by simp;lia) λh'' tk' xs' x1 x2 x3=>⟨rfl,h _ _ (I.hok.fresh (Γi _)) ?_⟩
 obtain⟨q,es,ep,hq,h2',h3',h4',h6'⟩:=x2
 refine I.laid (a:=s.heap.objs.size) (t':=tk') (λb u e=>x3 b u (Γl e) e) (Γi _) ⟨?_,beq_eq_false_iff_ne.mpr (Ne.symm (Γo I.big)),xs',x1.keeps λc ys ec=>?_,q,es,ep,hq,h2',h3',h4',h6'⟩
 ·have:∀ (ps kvs:List (List Key×V)),(ps.foldl (λk q=>a4w k q.1 q.2) kvs).length<=kvs.length+ps.length:=by
   intro ps
   induction ps with
   | nil=>intro kvs;exact Γi _
   | cons p r ih =>
    intro kvs
    have a:=ih (a4w kvs p.1 p.2)
    have b:=a2r kvs p.1 p.2
    simp only[List.foldl_cons,List.length_cons]
    lia
  have:=this ps []
  simp only[List.length_nil] at this
  lia
 ·have:c≠s.heap.objs.size:=λz=>by rw[z,I.hok.fresh (Γi _)] at ec;cases ec
  rw[a0e this];exact ec
end
end Kq
end
section
namespace Kq
open PySem PySem.Spec PyProof.Rows L2
def b7o:FV->Option (List Int×FV)
 | .tup [.tup ks,v]=>(a0w ks).map λk=>(k,v)
 | _=>none
def a7g:List FV->Option (List (List Int×FV))
 | []=>some []
 | x :: r=>(b7o x).bind λp=>(a7g r).map λq=>p :: q
def a1r {α:Type}:List (List Int×α)->List (List Int)->List α->List (List Int)×List α
 | [],ks,vs=>(ks,vs)
 | p :: r,ks,vs=>a1r r (a1q ks vs p.1 p.2).1 (a1q ks vs p.1 p.2).2
def c8q (v:FV):Option FV:=(a1t v).bind λxs=>(a7g xs).bind λps=>some (.dct (a1r ps [] []).1 (a1r ps [] []).2)
section
variable {K:Γd}{S:Hp}
theorem b7n {x:FV}{p:List Int×FV}(e:b7o x=some p):∃ ks,x=.tup [.tup ks,p.2]/\a0w ks=some p.1:=by
 unfold b7o at e
 split at e
 ·obtain⟨k,e1,rfl⟩:=mpd e
  exact⟨_,rfl,e1⟩
 ·cases e
theorem b0c:∀ {xs:List FV}{ys:List V}{ps:List (List Int×FV)},RVs K S xs ys->a7g xs=some ps->∃ qs:List (List Int×V),b1o S ys (qs.map λq=>(q.1.map Sum.inl,q.2))/\qs.map (·.1)=ps.map (·.1)/\RVs K S (ps.map (·.2)) (qs.map (·.2))
 | [],ys,ps,r,e=>by
  cases (show ys=[] from r)
  cases e
  exact⟨[],.nil,rfl,rfl⟩
 | x :: xs,ys,ps,⟨v,r,e0,h1,h2⟩,e=>by
  subst e0
  obtain⟨p,e1,e2⟩:=bnd e
  obtain⟨q,e3,rfl⟩:=mpd e2
  obtain⟨ks,rfl,e4⟩:=b7n e1
  obtain⟨qs,g1,g2,g3⟩:=b0c h2 e3
  obtain⟨b,zs,rfl,hb,hz⟩:=h1
  obtain⟨u1,u2,rfl,r1,r2⟩:=hz.two_of
  obtain⟨kb,rfl,hk⟩:=a7m r1 e4
  exact⟨(p.1,u2) :: qs,.cons ⟨b,kb,rfl,hb,hk⟩ g1,by simp[g2],⟨u2,_,rfl,r2,g3⟩⟩
theorem a7e {α:Type}:∀ (ps:List (List Int×α))(ks:List (List Int))(vs:List α),ks.length=vs.length->(a1r ps ks vs).1.length=(a1r ps ks vs).2.length
 | [],ks,vs,h=>h
 | p :: r,ks,vs,h=>a7e r _ _ (a3c ks vs p.1 p.2 h).1
theorem a7b:∀ (qs:List (List Int×V))(ks:List (List Int))(us:List V),ks.length=us.length->(qs.map λq=>((q.1.map Sum.inl:List Key),q.2)).foldl (λk q=>a4w k q.1 q.2) ((a1w ks).zip us)=(a1w (a1r qs ks us).1).zip (a1r qs ks us).2
 | [],ks,us,h=>rfl
 | q :: r,ks,us,h=>by
  rw[List.map_cons,List.foldl_cons,b1w ks us q.1 q.2 h]
  exact a7b r _ _ (a3c ks us q.1 q.2 h).1
theorem a7c:∀ {ps:List (List Int×FV)}{qs:List (List Int×V)}{ks:List (List Int)}{vs:List FV}{us:List V},qs.map (·.1)=ps.map (·.1)->RVs K S (ps.map (·.2)) (qs.map (·.2))->RVs K S vs us->(a1r ps ks vs).1=(a1r qs ks us).1/\RVs K S (a1r ps ks vs).2 (a1r qs ks us).2
 | [],[],ks,vs,us,_,_,r=>⟨rfl,r⟩
 | [],q :: qs,ks,vs,us,e,_,_=>by cases e
 | p :: ps,[],ks,vs,us,e,_,_=>by cases e
 | p :: ps,q :: qs,ks,vs,us,e,⟨v,r',e0,h1,h2⟩,r=>by
  simp only[List.map_cons,List.cons.injEq] at e e0
  obtain⟨e1,e2⟩:=e
  obtain⟨e3,e4⟩:=e0
  subst e3
  rw[<- e4] at h2
  obtain⟨g1,g2⟩:=a3v (ks:=ks) (k:=p.1) r h1
  have:=a7c (ks:=(a1q ks vs p.1 p.2).1) e2 h2 g2
  show (a1r ps (a1q ks vs p.1 p.2).1 (a1q ks vs p.1 p.2).2).1=(a1r qs (a1q ks us q.1 q.2).1 (a1q ks us q.1 q.2).2).1/\RVs K S (a1r ps (a1q ks vs p.1 p.2).1 (a1q ks vs p.1 p.2).2).2 (a1r qs (a1q ks us q.1 q.2).1 (a1q ks us q.1 q.2).2).2
  rw[e1,<- g1]
  exact this
end
section
variable {X:Cx}
def d7g (X:Cx):List V->Hp->VK->Prop:=λxs H Q=>∃ (a:Addr)(ys:List V)(ps:List (List Key×V)),xs=[.ref a]/\SqL X.K H a ys/\b1o H ys ps/\∀ p,H p=none->Q (.ref p) (upd H p (.dT (ps.foldl (λk q=>a4w k q.1 q.2) [])))
theorem d3x (hc:X.calm=true)(hu:X.A.units+64<cLine):a1j X (.type "dict") (d7g X):=by
 rintro pins s σ H xs us Q I r ⟨a,ys,ps,rfl,hl,hp,k⟩
 obtain⟨u,rfl,ru⟩:=a3l r
 cases (show u=Value.ref a from ru)
 have h1:X.A.in1.handled=none:=I.ok.hd hc
 refine a6n ?_ ?_ I hl hp λp s' hp' I'=>⟨.ref p,_,I',rfl,k p hp'⟩
 ·show X.A.units+1+1<cLine
  lia
 ·exact h1
end
section
variable {X:Cx}{C:CC}{n:Nat}{sp:Γd->Nat->Sp}{a b:Expr}{ea eb:EW}{pos p:Pos}
theorem e0b (G:Good X C n sp)(hg:C.gl (Γe "dict")=true)(hs:a0j a=false)(ha:FR X C a ea):FE X C (.Call (.Name (Γe "dict") p) [a] [] pos) (eUn c8q ea) :=
 PE.imp (a5w (d3x G.calm G.room.units) (G.gl hg) (G.blt "dict" (by decide)) (by nofun) (a0u ha a2j (a0f hs)) (by nofun) (by nofun) (a0f hs) rfl) λσ H Q ⟨c,L,S,Q0,I,h,k⟩ =>
 ⟨c,L,S,_,I,h,λv L1 hv x S1 H1 r1 I1 s1=>by
  obtain⟨z,e,q⟩:=wpx hv
  obtain⟨xs,e1,e2⟩:=bnd e
  obtain⟨ps,e3,e4⟩:=bnd e2
  cases e4
  obtain⟨a,ys,rfl,hq,ry⟩:=r1.list I1.sub e1
  obtain⟨qs,g1,g2,g3⟩:=b0c ry e3
  have hp:b1o H1 ys (qs.map λq=>(q.1.map Sum.inl,q.2)):=Paired.mapP g1 λ_ _ ⟨b,kb,f1,f2,f3⟩=>⟨b,kb,f1,I1.sub _ _ f2,I1.sub _ _ f3⟩
  refine⟨a,ys,_,rfl,hq,hp,λp hp0=>?_⟩
  have ev:=a7b qs [] [] rfl
  obtain⟨h1,h2⟩:=a7c (ks:=[]) (vs:=[]) (us:=[]) g2 g3 (show RVs X.K S1 [] [] from rfl)
  rw[show (a1w []).zip ([]:List V)=[] from rfl] at ev
  rw[ev]
  refine k _ L1 q _ _ _ ?_ (I1.new hp0 _) (s1.trans (a0h (I1.sn hp0)))
  exact⟨p,_,rfl,a7e ps [] [] rfl,by rw[h1];exact a0d,h2.mono (a0h (I1.sn hp0))⟩⟩
end
@[scoped simp ↓] theorem f_dict (v:FV)(Q:FV->Prop):wp (c8q v) Q↔wp (a1t v) λxs=>wp (a7g xs) λps=>Q (.dct (a1r ps [] []).1 (a1r ps [] []).2):=by
 show wp ((a1t v).bind _) Q↔_
 simp only[a2a];rfl
def iZipN (i:Nat)(eb:EW):AW:=λL Q=>wp (lk L i) λ_=>eb L λy L1=>wp (lk L1 i) λx=>wp (a4f x) λxs=>wp (a4f y) λys=>Q (a2l xs ys) L1
section
variable {X:Cx}{C:CC}{n:Nat}{sp:Γd->Nat->Sp}{b:Expr}{eb:EW}{pos p p2 tp:Pos}{i kk:Nat}{nx:Str}{elts:List Expr}
end
end Kq
end
section
namespace L2
open PySem PySem.Spec PyProof.Rows
section
variable {P:Program}{w:World}{A:Around}{E:Value->Shared->Prop}{s:Shared}{z TI TO:Addr}{f m:Value}
end
section
variable {P:Program}{w:World}{A:Around}{E:Value->Shared->Prop}{s:Shared}{p q:Bool}{z TI TO i1 i2 l1 l2:Addr}{k1 k2:Nat}{xs ys:Array Value}{x y a b f m:Value}
end
section
variable {X:Cx}
end
end L2
end
section
namespace Kq
open PySem PySem.Spec PyProof.Rows L2
section
variable {X:Cx}{C:CC}{n:Nat}{sp:Γd->Nat->Sp}{a b:Expr}{ea eb:EW}{pos p tp:Pos}{nt:Str}
end
def a8j (o:HO):Prop:=∀ xs,o≠.tup xs
theorem b7p {v:FV}{xs:List V}:a8j (c6z v xs):=λys z=>by
 have:=a4x v xs
 rw[show c6z v xs=.tup ys from z] at this
 cases this
mutual
noncomputable def noL:FV->Bool
 | .lst _=>false
 | .scr _=>false
 | .tup xs=>noLs xs
 | .dct _ _=>false
 | .dci _ _=>false
 | .dcz _ _ _=>false
 | .obj _ _ _ _=>false|.dcn _ _ _=>false
 | _=>true
noncomputable def noLs:List FV->Bool
 | []=>true
 | x :: r=>noL x && noLs r
end
def d4d (i:Nat)(r:AW):AW:=λL Q=>wp (lk L i) λ_=>r L λxs L1=>wp (lk L1 i) λx=>Q (x :: xs) L1
def b0x (call:CW) (f:Nat)(a:AW):EW:=λL Q=>a L λxs L1=>call f xs λz=>noL z.1=true/\Q z.1 L1
def eCallM (call:CW) (f:Nat)(a:AW):EW:=λL Q=>a L λxs L1=>call f xs λz=>wp (a6s z.1) λps=>noLs ps=true/\Q z.1 L1
def RHs (K:Γd)(S H:Hp)(os:List Addr):List FV->List V->Prop
 | [],vs=>vs=[]
 | p :: ps,vs=>∃ v r,vs=v :: r/\(RV K S p v ∨ ∃ a,v=.ref a/\a∈os/\a3s K S H a p)/\RHs K S H os ps r
def lah (K:Γd)(md:Md)(e:AW):TA:=λσ H Q=>∃ c L S Q0,Iv K c md L σ S H/\e L Q0/\∀ v L',Q0 v L'->∀ x S' H' os,RHs K S' H' os v x->(∀ a∈os,S' a=none/\∃ o,H' a=some o/\a8j o)->Iv K c md L' σ S' H'->Same S S'->Q x H'
def FAh (X:Cx)(C:CC)(x:List Expr)(e:AW):Prop:=PA X.nox x (lah X.K C.md e)
section
variable {K:Γd}{S H S' H':Hp}{os os':List Addr}
theorem RHs.more:∀ {ps:List FV}{vs:List V},RHs K S H os ps vs->(∀ a∈os,a∈os')->RHs K S H os' ps vs
 | [],vs,h,_=>h
 | p :: ps,vs,⟨v,r,e,h1,h2⟩,k=>⟨v,r,e,h1.imp_right λ⟨a,e,m,o⟩=>⟨a,e,k a m,o⟩,RHs.more h2 k⟩
def a5k (S H:Hp)(os:List Addr):Hp:=λa=>if a∈os then H a else S a
theorem a4u (h:∀ a∈os,S a=none/\∃ o,H a=some o/\a8j o):Same S (a5k S H os):=λa o e=>by
 unfold a5k
 by_cases m:a∈os
 ·rw[(h a m).1] at e;cases e
 ·rw[if_neg m];exact e
theorem b5x (s:Same S H):Same (a5k S H os) H:=λa o e=>by
 unfold a5k at e
 by_cases m:a∈os
 ·rw[if_pos m] at e;exact e
 ·rw[if_neg m] at e;exact s a o e
theorem RHs.vals (h:∀ a∈os,S a=none/\∃ o,H a=some o/\a8j o):∀ {ps:List FV}{vs:List V},RHs K S H os ps vs->RVs K (a5k S H os) ps vs
 | [],vs,e=>e
 | p :: ps,vs,⟨v,r,e,h1,h2⟩=>by
  refine⟨v,r,e,?_,RHs.vals h h2⟩
  rcases h1 with h1|⟨a,rfl,m,o1,qs,xs,e9,o2,o3⟩
  ·exact h1.mono (a4u h)
  ·have o4:a5k S H os a=some (c6z p xs):=by unfold a5k;rw[if_pos m];exact o2
   have o5:=o3.mono (a4u h)
   cases p with
   | lst ps=>cases e9;exact⟨a,xs,rfl,o4,o5⟩
   | dct ks ws=>obtain⟨hl,rfl⟩:=itd e9;exact⟨a,xs,rfl,hl,o4,o5⟩
   | dci ks ws=>obtain⟨hl,rfl⟩:=itd e9;exact⟨a,xs,rfl,hl,o4,o5⟩
   | dcz o ks ws=>obtain⟨hl,rfl⟩:=itd e9;exact⟨a,xs,rfl,hl,o4,o5⟩
   | obj C dx fs gs=>cases e9;exact⟨a,rfl,o4⟩
   | dcn z ks ws=>obtain⟨hl,rfl⟩:=itd e9;exact⟨a,xs,rfl,hl,o4,o5⟩
   | _=>cases e9
def a8r (S:Hp)(os:List Addr):Hp:=λa=>if a∈os then none else S a
mutual
theorem RV.less {K:Γd}{S:Hp}{os:List Addr}(h:∀ a∈os,∃ o,S a=some o/\a8j o):∀ {p:FV}{v:V},noL p=true->RV K S p v->RV K (a8r S os) p v
 | .non,v,_,e=>e
 | .bl b,v,_,e=>e
 | .int i,v,_,e=>e
 | .str _,v,_,e=>e
 | .shn _,v,_,e=>e
 | .tup ps,v,n,⟨a,xs,e,h1,h2⟩=>⟨a,xs,e,by
   unfold a8r
   rw[if_neg λm=>by obtain⟨zs,z,n⟩:=h a m;rw[z] at h1;cases h1;exact n _ rfl];exact h1,RVs.less h (by simpa[noL] using n) h2⟩
 | .dct ks vs,v,n,_=>by simp[noL] at n
 | .dci ks vs,v,n,_=>by simp[noL] at n
 | .dcz _ ks vs,v,n,_=>by simp[noL] at n
 | .obj _ _ _ _,v,n,_=>by simp[noL] at n
 | .dcn _ _ _,v,n,_=>by simp[noL] at n
 | .lst ps,v,n,_=>by simp[noL] at n
 | .scr ps,v,n,_=>by simp[noL] at n
theorem RVs.less {K:Γd}{S:Hp}{os:List Addr}(h:∀ a∈os,∃ o,S a=some o/\a8j o):∀ {ps:List FV}{vs:List V},noLs ps=true->RVs K S ps vs->RVs K (a8r S os) ps vs
 | [],vs,_,e=>e
 | p :: ps,vs,n,⟨v,r,e,h1,h2⟩=>by
  have n:noL p=true/\noLs ps=true:=by simpa[noLs] using n
  exact⟨v,r,e,RV.less h n.1 h1,RVs.less h n.2 h2⟩
end
variable {c:Cn}{md:Md}{L:a0c}{σ:L2.St}
theorem c7l (I:Iv K c md L σ S H)(h:∀ a∈os,S a=none/\∃ o,H a=some o/\a8j o){w:FV}(k:Kept K (a5k S H os) H S' H' none w):Iv K c md L σ (a8r S' os) H'/\Same S (a8r S' os):=by
 have s:Same S (a8r S' os):=λa o e=>by
  unfold a8r
  by_cases m:a∈os
  ·rw[(h a m).1] at e;cases e
  ·rw[if_neg m];exact k.same a o (a4u h a o e)
 refine⟨I.go3 s (λa o e=>?_) (λa o e=>?_) λa o e=>k.keep a o e (by simp),s⟩
 ·unfold a8r at e
  by_cases m:a∈os
  ·rw[if_pos m] at e;cases e
  ·rw[if_neg m] at e;exact k.sub a o e
 ·unfold a8r at e
  by_cases m:a∈os
  ·rw[if_pos m] at e;cases e
  ·rw[if_neg m] at e
   rcases k.grow a o e with e2|e2
   ·unfold a5k at e2
    rw[if_neg m] at e2
    exact .inl e2
   ·exact .inr e2
theorem c7m (h:∀ a∈os,S a=none/\∃ o,H a=some o/\a8j o){w:FV}(k:Kept K (a5k S H os) H S' H' none w):∀ a∈os,∃ o,S' a=some o/\a8j o:=λa m=>by
 obtain⟨o,e,n⟩:=(h a m).2
 exact⟨o,k.same a _ (by unfold a5k;rw[if_pos m];exact e),n⟩
end
section
variable {X:Cx}{C:CC}{n:Nat}{sp:Γd->Nat->Sp}{a:Expr}{ea:EW}{pos p:Pos}{call:CW}{f i:Nat}{nx:Str}{xs:List Expr}{as:AW}
theorem fah_of (h:FA X C xs as):FAh X C xs as:=PA.imp h λσ H Q ⟨c,L,S,Q0,I,h,k⟩=>⟨c,L,S,Q0,I,h,λv L' q x S' H' r I' s=>by
 have:∀ {ps:List FV}{vs:List V},RVs X.K S' ps vs->RHs X.K S' H' [] ps vs:=by
  intro ps
  induction ps with
  | nil=>intro vs h;exact h
  | cons p ps ih=>intro vs ⟨v,r,e,h1,h2⟩;exact⟨v,r,e,.inl h1,ih h2⟩
 exact k v L' q x S' H' [] (this r) (λa h=>by simp at h) I' s⟩
theorem d5g (hs:a0j a=false)(ha:FE X C a ea)(hr:FAh X C xs as):FAh X C (a :: xs) (a0a ea as):=PA.imp (a0u ha hr (a0f hs)) λσ H Q ⟨c,L,S,Q0,I,h,k⟩ =>
 ⟨c,L,S,_,I,h,λv L1 hv x S1 H1 r1 I1 s1=>⟨c,L1,S1,_,I1,hv,λvs L2 hvs us S2 H2 os r2 ho I2 s2=>k _ L2 hvs _ S2 H2 os ⟨x,us,rfl,.inl (r1.mono s2),r2⟩ ho I2 (s1.trans s2)⟩⟩
theorem e1e (G:Good X C n sp)(h:C.nm i nx=true)(m:a0g C.md i≠.imm)(hr:FAh X C xs as):FAh X C (.Name nx p :: xs) (d4d i as):=PA.imp (a0u (a1k G h) hr (a0f rfl)) λσ H Q ⟨c,L,S,Q0,I,h,k⟩=>by
 obtain⟨v,e,h⟩:=wpx h
 have e:=(a1v _ _ _).mp e
 obtain⟨l,e1,_,_⟩:=I.own i v m e
 refine⟨_,e1,c,L,S,_,I,h,λvs L2 hvs us S2 H2 os r2 ho I2 s2=>?_⟩
 obtain⟨v2,e2,q⟩:=wpx hvs
 have e2:=(a1v _ _ _).mp e2
 obtain⟨l2,f1,o,_⟩:=I2.own i v2 m e2
 rw[e1] at f1;cases f1
 refine k _ L2 q _ S2 H2 (l :: os) ⟨.ref l,us,rfl,.inr ⟨l,rfl,Γn,o⟩,r2.more λa h=>Γh _ h⟩ (λa ha=>?_) I2 s2
 rcases List.mem_cons.mp ha with rfl|ha
 ·obtain⟨o1,qs,zs,_,o2,_⟩:=o
  exact⟨o1,_,o2,b7p⟩
 ·exact ho a ha
theorem d5e (G:Good X C n sp)(e:sp X.K f=spQ X.K call false false f)(hf:C.fns[f]?=some nx)(hg:C.gl nx=true)(hd:(nx == ("__debug__":Str))=false)(hs:a2q (a :: xs)=true)(ha:FAh X C (a :: xs) as):FE X C (.Call (.Name nx p) (a :: xs) [] pos) (b0x call f as) :=
 PE.imp (a6m G hf hg hd hs ha) λσ H Q ⟨c,L,S,Q0,I,h,k⟩=>⟨c,L,S,_,I,h,λvs L1 hv us S1 H1 os r1 ho I1 s1=>by
  rw[e]
  refine⟨a5k S1 H1 os,vs,_,b5x I1.sub,r1.vals ho,hv,λz q x S' H' kp r=>?_⟩
  obtain⟨I2,s2⟩:=c7l I1 ho kp
  exact k _ L1 q.2 x _ H' (RV.less (c7m ho kp) q.1 r) I2 (s1.trans s2)⟩
end
@[scoped simp ↓] theorem e3c (i:Nat)(r:AW)(L:a0c)(Q:List FV->a0c->Prop):d4d i r L Q=(wp (lk L i) λ_=>r L λxs L1=>wp (lk L1 i) λx=>Q (x :: xs) L1):=propext Iff.rfl
@[scoped simp ↓] theorem d3h (call:CW) (f:Nat)(a:AW)(L:a0c)(Q:FV->a0c->Prop):b0x call f a L Q=(a L λxs L1=>call f xs λz=>noL z.1=true/\Q z.1 L1):=propext Iff.rfl
@[scoped simp] theorem d8m (b:Int):noL (.int b)=true:=by simp[noL]
@[scoped simp] theorem d8l:noL .non=true:=by simp[noL]
@[scoped simp] theorem d8k (xs:List FV):noL (.tup xs)=noLs xs:=by simp[noL]
@[scoped simp] theorem d4p:noLs []=true:=by simp[noLs]
@[scoped simp] theorem d1s (x:FV)(r:List FV):noLs (x :: r)=(noL x && noLs r):=by simp[noLs]
theorem a8k {α:Type}(f:α->FV)(h:∀ x,noL (f x)=true):∀ xs:List α,noLs (xs.map f)=true
 | []=>by simp
 | x :: r=>by simp[h x,a8k f h r]
def revF (v:FV):Option FV:=(a6s v).map λxs=>.lst xs.reverse
def eMeth0 (f:FV->Option FV) (i:Nat):EW:=λL Q=>wp (lk L i) λx=>wp (f x) λz=>Q .non (L.set i (some z))
section
variable {X:Cx}{C:CC}{n:Nat}{sp:Γd->Nat->Sp}{pos p:Pos}{call:CW}{f i:Nat}{nx:Str}
end
end Kq
end
section
namespace Kq
open PySem PySem.Spec PyProof.Rows L2 PySem.W
def Lv {α:Type} (n:Nat)(P:α->Prop):KasT α->Prop
 | .ret a=>P a
 | .ask i j k=>i<n/\j<n/\∀ b,Lv n P (k b)
theorem Lv.bind {α β:Type}{n:Nat}{P:α->Prop}{P':β->Prop}{f:α->KasT β}(h:∀ a,P a->Lv n P' (f a)):∀ {t:KasT α},Lv n P t->Lv n P' (t.bind f)
 | .ret a,x=>h a x
 | .ask i j k,x=>⟨x.1,x.2.1,λb=>Lv.bind h (x.2.2 b)⟩
theorem Lv.wp {α:Type}{n:Nat}{P:α->Prop}{Q:α->Shared->Prop}{Ok:Shared->Prop}{cmp:Nat->Nat->(Bool->Shared->Prop)->Shared->Prop}
  (hc:∀ i j C s,i<n->j<n->Ok s->(∀ b s',Ok s'->C b s')->cmp i j C s)(hq:∀ a s,P a->Ok s->Q a s):∀ {t:KasT α}{s:Shared},Lv n P t->Ok s->t.kasWp cmp Q s
 | .ret a,s,x,o=>hq a s x o
 | .ask i j k,s,x,o=>hc i j _ s x.1 x.2.1 o λb s' o'=>Lv.wp hc hq (x.2.2 b) o'
section
variable {n:Nat}
def Pm (n:Nat)(p:Array Nat):Prop:=p.Perm (List.toArray (List.range n))
theorem Pm.lt {p:Array Nat}(h:Pm n p)(hn:0<n) (k:Nat):p.getD k 0<n:=by
 unfold Array.getD
 split
 ·rename_i hk
  have:p[k]∈p.toList:=by simp
  have:=(Array.perm_iff_toList_perm.mp h).mem_iff.mp this
  simpa using this
 ·exact hn
theorem Pm.rev {p:Array Nat}(h:Pm n p) (i j:Nat):Pm n (kas_rev p i j):=(mirror_perm _ _ _ _).trans h
theorem Pm.bub {p:Array Nat}(h:Pm n p) (i j:Nat):Pm n (bubble p i j):=(bubble_perm _ _ _).trans h
theorem b8a (hn:0<n){p:Array Nat}(h:Pm n p):∀ f m,Lv n (λ_=>True) (kas_asc p f m)
 | 0,m=>trivial
 | f+1,m=>⟨h.lt hn _,h.lt hn _,λb=>by
  cases b
  ·exact b8a hn h f (m+1)
  ·exact trivial⟩
theorem a8n (hn:0<n):∀ f (p:Array Nat) m q,Pm n p->Lv n (λr:Array Nat×Nat×Nat=>Pm n r.1) (kas_desc f p m q)
 | 0,p,m,q,h=>h
 | f+1,p,m,q,h=>⟨h.lt hn _,h.lt hn _,λb=>by
  cases b
  ·refine⟨h.lt hn _,h.lt hn _,λd=>?_⟩
   cases d
   ·exact a8n hn f p (m+1) (q+1) h
   ·exact h
  ·show Lv n _ (if q > 0 then _ else _)
   split
   ·exact a8n hn f _ (m+1) 0 (h.rev _ _)
   ·exact a8n hn f p (m+1) 0 h⟩
theorem b3s (hn:0<n){p:Array Nat}(h:Pm n p) (m nrem:Nat):Lv n (λr:Nat×Array Nat=>Pm n r.2) (kas_tail3 m nrem p):=by
 unfold kas_tail3
 refine Lv.bind (P:=λ_=>True) (λa _=>?_) (b8a hn (h.rev 0 m) _ _)
 exact h.rev 0 m
theorem a6a (hn:0<n){p:Array Nat}(h:Pm n p) (m nrem:Nat):Lv n (λr:Nat×Array Nat=>Pm n r.2) (kas_descPart m nrem p) :=
 Lv.bind (λr hr=>by
  show Lv n _ (if r.2.2 > 0 then _ else _)
  split
  ·exact b3s hn (hr.rev _ _) _ _
  ·exact b3s hn hr _ _) (a8n hn _ p _ _ h)
theorem c2v (hn:0<n){p:Array Nat}(h:Pm n p) (nrem:Nat):Lv n (λr:Nat×Array Nat=>Pm n r.2) (kas_count nrem p) :=
 Lv.bind (λm _=>by
  show Lv n _ (if (m == nrem)=true then _ else _)
  split
  ·exact h
  ·show Lv n _ (if m > 1 then _ else _)
   split
   ·refine⟨h.lt hn _,h.lt hn _,λb=>?_⟩
    cases b
    ·exact a6a hn (h.rev _ _) _ _
    ·exact h
   ·exact a6a hn h _ _) (b8a hn h _ _)
theorem a8m (hn:0<n){p:Array Nat}(h:Pm n p) (k:Nat):∀ f l r,Lv n (λ_=>True) (kas_place p k f l r)
 | 0,l,r=>trivial
 | f+1,l,r=>by
  show Lv n _ (if l ≥ r then _ else _)
  split
  ·exact trivial
  ·refine⟨h.lt hn _,h.lt hn _,λb=>?_⟩
   cases b
   ·exact a8m hn h k f _ _
   ·exact a8m hn h k f _ _
theorem c4x (hn:0<n):∀ f (p:Array Nat) k,Pm n p->Lv n (Pm n) (kas_bin f p k)
 | 0,p,k,h=>h
 | f+1,p,k,h=>Lv.bind (λl _=>c4x hn f _ _ (h.bub _ _)) (a8m hn h k _ _ _)
theorem c7k (hn:0<n):Lv n (Pm n) (kas_sort n) :=
 Lv.bind (λr hr=>by
  show Lv n _ (if r.1<n then _ else _)
  split
  ·exact c4x hn _ _ _ hr
  ·exact hr) (c2v hn (Array.Perm.refl _) n)
end
def IntTup (h:Heap)(v:Value):Prop:=∃ (a:Addr)(o:Obj)(us:List Value) (n:Nat) (k:Int)(ks:List Int),v=.ref a/\h.get? a=some o/\o.cls=.type "tuple"/\o.data=.seq us.toArray n/\Vals ((k :: ks).map V.int) us
theorem IntTup.keep {h h':Heap}{v:Value}(x:IntTup h v)(k:∀ b o,h.get? b=some o->h'.get? b=some o):IntTup h' v:=by
 obtain⟨a,o,us,n,i,ks,e,h1,h2⟩:=x
 exact⟨a,o,us,n,i,ks,e,k _ _ h1,h2⟩
section
variable {prog:Program}{w:World}{A:Around}{E:Value->Shared->Prop}{s:Shared}{vs:List Value}
theorem b8f {b fin:Bool}{Q:Bool->Shared->Prop}(q:∀ c,Q c s):∀ (ks js:List Int)(us ws:List Value) (i:Nat),Vals (ks.map V.int) us->Vals (js.map V.int) ws->KatLex prog w A b fin Q (us.zip ws) i s
 | [],js,us,ws,i,h1,h2=>by
  cases h1
  rw[List.zip_nil_left]
  exact q fin
 | k :: ks,[],us,ws,i,h1,h2=>by
  cases h2
  rw[List.zip_nil_right]
  exact q fin
 | k :: ks,j :: js,us,ws,i,h1,h2=>by
  cases h1 with
  | @cons _ u _ us' r1 h1 =>
  cases h2 with
  | @cons _ x _ ws' r2 h2 =>
  obtain⟨t1,rfl⟩:=r1
  obtain⟨t2,rfl⟩:=r2
  rw[List.zip_cons_cons]
  refine kat_cons (wpAny_eqBool_int (kat_go (λ_=>kat_yes (b8f q ks js us' ws' (i+1) h1 h2)) λ_=>kat_no ?_))
  cases b && i == 0
  ·exact kat_one _ _ (PyProof.Rows.lt_int (q _))
  ·exact oneLt_int (q _)
theorem d2a {b:Bool}{x y:Value}{Q:Bool->Shared->Prop}(hx:IntTup s.heap x)(hy:IntTup s.heap y)(q:∀ c,Q c s):wpAny (model prog w) A (keyLt' (tuples' b) x y) Q E s:=by
 obtain⟨a,o,us,n,k,ks,rfl,h1,h2,h3,h4⟩:=hx
 obtain⟨a',o',us',n',k',ks',rfl,g1,g2,g3,g4⟩:=hy
 exact kat_lt h1 h3 g1 g3 (b8f q _ _ _ _ 0 h4 g4)
theorem b3v {h:Heap}:∀ {vs:List Value},(∀ v∈vs,IntTup h v)->∃ fs:List Value,KatTups h vs fs/\fs.length=vs.length/\∀ f∈fs,∃ k t,f=.int k t
 | [],_=>⟨[],trivial,rfl,by simp⟩
 | v :: vs,hv=>by
  obtain⟨a,o,us,n,k,ks,rfl,h1,h2,h3,h4⟩:=hv v (by simp)
  obtain⟨fs,g1,g2,g3⟩:=b3v λx hx=>hv x (Γh _ hx)
  cases h4 with
  | @cons _ u _ us' r1 h4 =>
  obtain⟨t1,rfl⟩:=r1
  exact⟨.int k t1 :: fs,KatTups.cons h1 h2 h3 (by simp) g1,by simp[g2],λf hf=>by
   rcases List.mem_cons.mp hf with rfl|hf
   ·exact⟨_,_,rfl⟩
   ·exact g3 f hf⟩
theorem b6n {a:Addr}{n:Nat}{P:PySem.Fin->Shared->Prop}(ho:s.heap.get? a=some (seqObj "list" vs.toArray n))(h64:vs.length<64)(ht:∀ v∈vs,IntTup s.heap v)
  (K:∀ (vs':List Value)(h':Heap) (c tk:Nat),vs'.Perm vs->h'.get? a=some (seqObj "list" vs'.toArray c)->(∀ b o,b≠a->s.heap.get? b=some o->h'.get? b=some o)->P (.done (.ret .none)) { s with heap:=h',toks:=tk }) :
  wpAny (model prog w) A (Builtin.«list.sort» ⟨[.ref a],[]⟩) P E s:=by
 obtain⟨e1,ho1⟩:∃ e1,(s.heap.update a (Obj.mapSeq λ_=>(#[]:Array Value))).get? a=some (seqObj "list" #[] e1):=⟨_,get?_update_seq ho λ_=>#[]⟩
 have kp:∀ b o,b≠a->s.heap.get? b=some o->(((s.heap.update a (Obj.mapSeq λ_=>(#[]:Array Value))).push (seqObj "tuple" vs.toArray 0)).push (seqObj "list" #[] 0)).get? b=some o:=λb o hb e =>
  Γc _ (Γc _ ((Γf _ _ (Ne.symm hb)).trans e))
 have ho2:(((s.heap.update a (Obj.mapSeq λ_=>(#[]:Array Value))).push (seqObj "tuple" vs.toArray 0)).push (seqObj "list" #[] 0)).get? a=some (seqObj "list" #[] e1):=Γc _ (Γc _ ho1)
 have hne:∀ v∈vs,IntTup (((s.heap.update a (Obj.mapSeq λ_=>(#[]:Array Value))).push (seqObj "tuple" vs.toArray 0)).push (seqObj "list" #[] 0)) v:=λv hv=>by
  obtain⟨x,o,us,n',k,ks,e,h1,h3,h4⟩:=ht v hv
  refine⟨x,o,us,n',k,ks,e,kp x o (λz=>?_) h1,h3,h4⟩
  rw[z,ho] at h1;cases h1;simp at h3
 rw[list_sort_plain]
 refine Γa (listItems_at ho rfl ?_)
 refine Γa (listUpdate_at ho rfl ?_ (by rw[List.size_toArray,sizeLine_eq];lia) (Nat.zero_le _))
 refine Γa (seqEpoch_at ho1 rfl ?_)
 refine Γa (wpAny_newTuple ?_ (by show vs.length<=_;rw[sizeLine_eq];lia))
 refine Γa (wpAny_newList ?_ (Nat.zero_le _))
 refine Γg ?_
 show wpAny (model prog w) A _ P E { s with heap:=((s.heap.update a (Obj.mapSeq λ_=>(#[]:Array Value))).push (seqObj "tuple" vs.toArray 0)).push (seqObj "list" #[] 0) }
 dsimp only
 generalize ((s.heap.update a (Obj.mapSeq λ_=>(#[]:Array Value))).push (seqObj "tuple" vs.toArray 0)).push (seqObj "list" #[] 0)=h3 at kp ho2 hne
 have fin:∀ (p:Array Nat)(st':SortSt),p.size=vs.length->arrOf st'=p.map (kas_item (vs.toArray.zip vs.toArray))->failedOf st'=none->Pm vs.length p->wpAny (model prog w) A (do
   let touched:=(<- seqEpoch a) != e1
   Builtin.List.listUpdate (.ref a) λ_=>(arrOf st').map (·.2)
   if let some e:=failedOf st' then rule "list.sort.comparison-raised";throw e
   if touched then rule "list.sort.modified";raiseError "ValueError" "list modified during sort"
   ret .none) P E { s with heap:=h3 }:=λp st' hp har hf hpm=>by
  have hout:=kat_snds rfl har
  have hperm:(p.toList.map λi=>vs.getD i Value.none).Perm vs:=by
   have:=(Array.perm_iff_toList_perm.mp hpm).map λi=>vs.getD i Value.none
   refine this.trans ?_
   have e:(List.toArray (List.range vs.length)).toList.map (λi=>vs.getD i Value.none)=vs:=by
    apply List.ext_getElem
    ·simp
    ·intro i h1 h4
     simp[List.getD,h4]
   rw[e]
  have hsz:(List.toArray (p.toList.map λi=>vs.getD i Value.none)).size=vs.length:=by rw[List.size_toArray,List.length_map,Array.length_toList,hp]
  rw[hout]
  obtain⟨c2,hc2⟩:∃ c2,(h3.update a (Obj.mapSeq λ_=>List.toArray (p.toList.map λi=>vs.getD i Value.none))).get? a=some (seqObj "list" (List.toArray (p.toList.map λi=>vs.getD i Value.none)) c2):=⟨_,get?_update_seq ho2 λ_=>List.toArray (p.toList.map λi=>vs.getD i Value.none)⟩
  refine Γa (seqEpoch_at ho2 rfl ?_)
  refine Γa (listUpdate_at ho2 rfl ?_ (Nat.zero_le _) (Nat.le_trans (Nat.le_of_eq hsz) (by rw[sizeLine_eq];lia)))
  rw[hf]
  simp only[bne_self_eq_false,Γp,if_false]
  exact Γb (K _ _ c2 _ hperm hc2 λb o hb e=>(Γf _ _ (Ne.symm hb)).trans (kp b o hb e))
 by_cases hn2:vs.toArray.size<2
 ·rw[if_pos hn2,if_pos hn2]
  refine Γa (Γb ?_)
  rw[StateT.run_pure]
  refine Γa (Γb ?_)
  refine fin (List.toArray (List.range vs.length)) _ (by simp) ?_ rfl (Array.Perm.refl _)
  show vs.toArray.zip vs.toArray=_
  apply Array.ext
  ·simp
  ·intro i h1 h4
   simp at h1
   simp[kas_item,Array.getD,h1]
 rw[if_neg hn2,if_neg hn2]
 have h2:2<=vs.length:=by simpa using hn2
 obtain⟨fs,t1,t2,t3⟩:=b3v hne
 refine Γa (kat_kind (T:=.type "int") t1 (by lia) (λv hv=>?_) (by decide) ?_)
 ·obtain⟨k,t,rfl⟩:=t3 v hv
  exact .now
 refine Γa (wpAny_mono (kat_run (E:=E) (Q:=λst' s'=>∃ p:Array Nat,p.size=vs.length/\arrOf st'=p.map (kas_item (vs.toArray.zip vs.toArray))/\failedOf st'=none/\Pm vs.length p/\s' = { s with heap:=h3 })
  rfl h2 h64 (λp' st' s' a1 a2 a3 a4=>⟨p',a1,a2,a3,a4⟩) ?_) ?_ λ_ _ e=>e)
 ·refine Lv.wp (n:=vs.length) (P:=Pm vs.length) (Ok:=λs'=>s' = { s with heap:=h3 }) (λi j C s' hi hj e hC=>?_) (λp s' hp e=>⟨hp,e⟩) (c7k (by lia)) rfl
  subst e
  have gi:∀ i,i<vs.length->vs.getD i Value.none∈vs:=λi hi=>by simp[List.getD,hi]
  exact d2a (hne _ (gi i hi)) (hne _ (gi j hj)) λc=>hC c _ rfl
 rintro⟨⟨⟩,st'⟩ s' ⟨p,hp,har,hf,hpm,hs'⟩
 subst hs'
 exact fin p st' hp har hf hpm
theorem b1v {l:Addr}{Q:Value->Shared->Prop}(hl:s.heap.IsList l vs.toArray)(h64:vs.length<64)(ht:∀ v∈vs,IntTup s.heap v)
  (K:∀ (D:Addr)(vs':List Value)(h':Heap) (c tk:Nat),vs'.Perm vs->s.heap.objs.size<=D->h'.get? D=some (seqObj "list" vs'.toArray c)->(∀ b o,s.heap.get? b=some o->h'.get? b=some o)->Q (.ref D) { s with heap:=h',toks:=tk }) :
  wpAny (model prog w) A (call (.builtin "sorted") [.ref l]) Q E s:=by
 refine Calls.call_function_entry kind_sorted plain_sorted entry_sorted (args_sorted1 _) ?_
 unfold Builtin.«sorted»
 refine Γa (m:=checkCount "sorted" 1 1 _) (Γb ?_)
 refine Γa (collect_list hl ?_ (by rw[sizeLine_eq];lia))
 refine Γa (wpAny_newList ?_ (by rw[sizeLine_eq];lia))
 have hsz:((s.heap.push (seqObj "list" #[] 0)).update s.heap.objs.size (Obj.mapSeq (·++vs.toArray))).objs.size=s.heap.objs.size+1:=by
  rw[Heap.size_update,size_push']
 have hoL:(((s.heap.push (seqObj "list" #[] 0)).update s.heap.objs.size (Obj.mapSeq (·++vs.toArray))).push (seqObj "list" vs.toArray 0)).get? (s.heap.objs.size+1)=some (seqObj "list" vs.toArray 0):=by
  rw[<- hsz];exact Γm _ rfl
 have keep:∀ b o,s.heap.get? b=some o->(((s.heap.push (seqObj "list" #[] 0)).update s.heap.objs.size (Obj.mapSeq (·++vs.toArray))).push (seqObj "list" vs.toArray 0)).get? b=some o:=λb o q=>by
  have hlt:b<s.heap.objs.size:=Γl q
  rw[Heap.get?_push_ne _ _ _ (by rw[hsz];exact Γo (Nat.lt_succ_of_lt hlt)),Heap.get?_update_ne _ _ _ _ (Γo hlt),Heap.get?_push_ne _ _ _ (Γo hlt)]
  exact q
 show wpAny _ _ _ _ _ { s with heap:=((s.heap.push (seqObj "list" #[] 0)).update s.heap.objs.size (Obj.mapSeq (·++vs.toArray))).push (seqObj "list" vs.toArray 0) }
 rw[hsz]
 refine Γa (Γg (wpAny_call_entry slot_list_sort ⟨_,hoL,rfl⟩ entry_list_sort (b6n hoL h64 (λv hv=>(ht v hv).keep keep) λvs' h' c tk a1 a2 a3=>⟨_,rfl,?_⟩) (args_list_sort _)))
 refine Γb ⟨_,rfl,K _ vs' h' c tk a1 (Nat.le_succ _) a2 λb o e=>a3 b o (Γo (Nat.lt_succ_of_lt (Γl e))) (keep b o e)⟩
end
end Kq
end
section
namespace Kq
open PySem PySem.Spec PyProof.Rows L2
def a5b:List FV->Bool
 | []=>true
 | .tup ps :: r=>(match a0w ps with|some (_ :: _)=>true|_=>false) && a5b r
 | _=>false
def b2s (a:EW):EW:=λL Q=>a L λv L1=>wp (a1t v) λxs=>a5b xs=true/\xs.length<64/\∀ ys:List FV,ys.Perm xs->Q (.lst ys) L1
theorem Vals.perm {us us':List Value}(p:us'.Perm us):∀ {ys:List V},Vals ys us->∃ zs,zs.Perm ys/\Vals zs us':=by
 induction p with
 | nil=>intro ys h;exact⟨ys,.refl _,h⟩
 | cons x p ih =>
  intro ys h
  cases h with
  | @cons y _ ys' _ r h =>
  obtain⟨zs,e,g⟩:=ih h
  exact⟨y :: zs,e.cons y,.cons r g⟩
 | swap x y l =>
  intro ys h
  cases h with
  | @cons a _ ys' _ r h =>
  cases h with
  | @cons b _ ys'' _ r' h =>
  exact⟨b :: a :: ys'',.swap a b ys'',.cons r' (.cons r h)⟩
 | trans p q ih1 ih2 =>
  intro ys h
  obtain⟨zs,e,g⟩:=ih2 h
  obtain⟨ws,e',g'⟩:=ih1 g
  exact⟨ws,e'.trans e,g'⟩
section
variable {K:Γd}{S:Hp}
theorem RVs.perm {vs vs':List V}(p:vs'.Perm vs):∀ {ps:List FV},RVs K S ps vs->∃ qs,qs.Perm ps/\RVs K S qs vs':=by
 induction p with
 | nil=>intro ps h;exact⟨ps,.refl _,h⟩
 | cons x p ih =>
  intro ps h
  cases ps with
  | nil=>cases h
  | cons q ps =>
   obtain⟨v,r,e,h1,h2⟩:=h
   cases e
   obtain⟨zs,e,g⟩:=ih h2
   exact⟨q :: zs,e.cons q,_,_,rfl,h1,g⟩
 | swap x y l =>
  intro ps h
  cases ps with
  | nil=>cases h
  | cons a ps =>
   obtain⟨v,r,e,h1,h2⟩:=h
   cases e
   cases ps with
   | nil=>cases h2
   | cons b ps =>
    obtain⟨v2,r2,e2,h3,h4⟩:=h2
    cases e2
    exact⟨b :: a :: ps,.swap a b ps,_,_,rfl,h3,_,_,rfl,h1,h4⟩
 | trans p q ih1 ih2 =>
  intro ps h
  obtain⟨zs,e,g⟩:=ih2 h
  obtain⟨ws,e',g'⟩:=ih1 g
  exact⟨ws,e'.trans e,g'⟩
theorem b3c:∀ {xs:List FV}{ys:List V},a5b xs=true->RVs K S xs ys->∀ y∈ys,∃ (b:Addr) (k:Int)(ks:List Int),y=.ref b/\S b=some (.tup ((k :: ks).map V.int))
 | [],ys,_,h=>by cases (show ys=[] from h);simp
 | x :: xs,ys,t,⟨v,r,e,h1,h2⟩=>by
  subst e
  cases x with
  | tup ps =>
   have t:((match a0w ps with|some (_ :: _)=>true|_=>false) && a5b xs)=true:=t
   obtain⟨t1,t2⟩:=Bool.and_eq_true_iff.mp t
   intro y hy
   rcases List.mem_cons.mp hy with rfl|hy
   ·cases e:a0w ps with
    | none=>rw[e] at t1;cases t1
    | some ns =>
     cases ns with
     | nil=>rw[e] at t1;cases t1
     | cons k ks =>
      obtain⟨a,us,rfl,g1,g2⟩:=h1
      cases a2t g2 e
      exact⟨a,k,ks,rfl,g1⟩
   ·exact b3c t2 h2 y hy
  | _=>cases t
end
section
variable {X:Cx}
def c5z (X:Cx):List V->Hp->VK->Prop:=λxs H Q=>∃ (a:Addr)(ys:List V),xs=[.ref a]/\SqL X.K H a ys/\ys.length<64/\(∀ y∈ys,∃ (b:Addr) (k:Int)(ks:List Int),y=.ref b/\H b=some (.tup ((k :: ks).map V.int)))/\∀ p zs,H p=none->zs.Perm ys->Q (.ref p) (upd H p (.lst zs))
theorem c4e:a1j X (.builtin "sorted") (c5z X):=by
 rintro pins s σ H xs us Q I r ⟨a,ys,rfl,hl,h64,ht,k⟩
 obtain⟨u,rfl,ru⟩:=a3l r
 cases (show u=Value.ref a from ru)
 obtain⟨its,rv,pl,hz⟩:=I.list hl
 have ll:ys.length=its.length:=rv.length
 have tv:∀ v∈its,IntTup s.heap v:=by
  intro v hv
  obtain⟨i,hi⟩:=List.mem_iff_getElem?.mp hv
  have hil:i<ys.length:=by rw[ll];exact (List.getElem?_eq_some_iff.mp hi).1
  obtain⟨u,e,ru⟩:=rv.get (i:=i) (x:=ys[i]) (by simp[hil])
  rw[hi] at e;cases e
  obtain⟨b,k,ks,e,hb⟩:=ht _ (List.getElem_mem hil)
  rw[e] at ru
  cases (show v=Value.ref b from ru)
  obtain⟨_,jts,rr,o,e1,e2,n,e3⟩:=(show ObjOk X.prog X.w H s.heap b (.tup ((k :: ks).map V.int)) from I.hok b _ hb)
  exact⟨b,o,jts,n,k,ks,rfl,e1,e2,e3,rr⟩
 refine b1v pl.isList (by lia) tv λD vs' h' c tk p1 p2 p3 p4=>?_
 obtain⟨zs,e,g⟩:=Vals.perm p1 rv
 have hn:H D=none:=I.hok.fresh p2
 refine⟨.ref D,_,I.laid (a:=D) (o:=.lst zs) (t':=tk) p4 p2 ⟨by rw[e.length_eq];exact hz,vs',c,g,p3⟩,rfl,k D zs hn e⟩
end
section
variable {X:Cx}{C:CC}{n:Nat}{sp:Γd->Nat->Sp}{a:Expr}{ea:EW}{pos p:Pos}
theorem d2w (G:Good X C n sp)(hg:C.gl (Γe "sorted")=true)(hs:a0j a=false)(ha:FR X C a ea):FE X C (.Call (.Name (Γe "sorted") p) [a] [] pos) (b2s ea) :=
 PE.imp (a3w c4e (G.gl hg) (G.blt "sorted" (by decide)) (by nofun) (a0u ha a2j (a0f hs)) (by nofun) (by nofun) (a0f hs) rfl) λσ H Q ⟨c,L,S,Q0,I,h,k⟩ =>
 ⟨c,L,S,_,I,h,λv L1 hv x S1 H1 r1 I1 s1=>by
  obtain⟨xs,e1,t1,t3,q⟩:=wpx hv
  obtain⟨a,ys,rfl,hq,ry⟩:=r1.list I1.sub e1
  have hl:=ry.length
  refine⟨a,ys,rfl,hq,by lia,λy hy=>?_,λp zs hp hz=>?_⟩
  ·obtain⟨b,k,ks,e,hb⟩:=b3c t1 ry y hy
   exact⟨b,k,ks,e,I1.sub _ _ hb⟩
  ·obtain⟨qs,e,g⟩:=RVs.perm hz ry
   exact k _ L1 (q qs e) _ _ _ ⟨p,zs,rfl,a0d,g.mono (a0h (I1.sn hp))⟩ (I1.new hp _) (s1.trans (a0h (I1.sn hp)))⟩
end
@[scoped simp ↓] theorem c9j (a:EW)(L:a0c)(Q:FV->a0c->Prop):b2s a L Q=(a L λv L1=>wp (a1t v) λxs=>a5b xs=true/\xs.length<64/\∀ ys:List FV,ys.Perm xs->Q (.lst ys) L1):=propext Iff.rfl
theorem c2c (ks:List Int)(us:List V) (k:Int)(u:V)(hl:ks.length=us.length):a4w ((a3h ks).zip us) (Sum.inl k) u=(a3h (a1q ks us k u).1).zip (a1q ks us k u).2:=by
 have hany:(((a3h ks).zip us).any λkv=>decide (kv.1=Sum.inl k))=true↔k∈ks:=by
  rw[a4g,a5p,a2e k hl]
 unfold a4w a1q
 by_cases e:k∈ks
 ·rw[if_pos (hany.mpr e),if_pos e]
  clear e hany
  induction ks generalizing us with
  | nil=>cases us<;>rfl
  | cons k' ks ih=>cases us with
   | nil=>rfl
   | cons u' us =>
    have:=ih us (by simpa using hl)
    show (if (Sum.inl k':Int ⊕ Option Str)=Sum.inl k then (Sum.inl k',u) else (Sum.inl k',u')) :: ((a3h ks).zip us).map _=(Sum.inl k',if k'=k then u else u') :: (a3h ks).zip _
    rw[this]
    congr 1
    by_cases e:k'=k
    ·subst e;simp
    ·rw[if_neg λz=>e (Sum.inl.inj z),if_neg e]
 ·rw[if_neg λz=>e (hany.mp z),if_neg e]
  show _=(a3h (ks++[k])).zip (us++[u])
  have:a3h (ks++[k])=a3h ks++[Sum.inl k]:=by simp[a3h]
  rw[this,List.zip_append (by simpa[a3h] using hl)];rfl
theorem b9d {κ α β:Type} [DecidableEq κ] {ks:List κ}{vs:List α}{us:List β}{k:κ}(h1:ks.length=vs.length)(h2:ks.length=us.length)(h:a2w ks vs k=none):a2w ks us k=none:=by
 have a:=a2e (α:=α) k h1
 have b:=a2e (α:=β) k h2
 cases e:a2w ks us k with
 | none=>rfl
 | some u =>
  rw[e] at b
  have:=a.mpr (b.mp rfl)
  rw[h] at this;cases this
def e1v (v w:FV):Option (Option FV):=match v with
 | .dct ks vs=>(a5l w).bind λps=>(a0w ps).bind λk=>some (a2w ks vs k)
 | .dci ks vs=>(a3j w).bind λk=>some (a2w ks vs k)
 | .dcz _ ks vs=>(a5l w).bind λps=>(a0w ps).bind λk=>some (a2w ks vs k)
 | _=>none
def dgF (v w:FV):Option FV:=(e1v v w).bind id
def dget1F (v w:FV):Option FV:=(e1v v w).map λo=>o.getD .non
def isDF:FV->Option Unit
 | .dct _ _=>some ()
 | .dci _ _=>some ()
 | _=>none
def c3w (v j x:FV):Option FV:=match v with
 | .dct ks vs=>(a5l j).bind λps=>(a0w ps).bind λk=>if ks.length<big then some (.dct (a1q ks vs k x).1 (a1q ks vs k x).2) else none
 | .dci ks vs=>(a3j j).bind λk=>if ks.length<big then some (.dci (a1q ks vs k x).1 (a1q ks vs k x).2) else none
 | _=>none
def RO (K:Γd)(S:Hp):Option FV->Option V->Prop
 | none,o=>o=none
 | some p,o=>∃ u,o=some u/\RV K S p u
section
variable {X:Cx}{K:Γd}{S H:Hp}
theorem b6s {κ:Type} [DecidableEq κ] {ks:List κ}{vs:List FV}{us:List V}{k:κ}(h1:ks.length=vs.length)(r:RVs K S vs us):RO K S (a2w ks vs k) (a2w ks us k):=by
 cases e:a2w ks vs k with
 | none=>exact b9d h1 (by rw[h1,r.length]) e
 | some p=>exact a5q r e
theorem RH.dcz {o:Obj}{ks:List (List Int)}{vs:List FV}{x:V}(hs:Same S H)(r:RH K S H (.dcz o ks vs) x):∃ a us,x=.ref a/\ks.length=vs.length/\H a=some (.frz o (.dT ((a1w ks).zip us)))/\RVs K S vs us:=by
 rcases r with⟨a,xs,e,h0,h1,h2⟩|⟨a,e,_,qs,xs,e2,h1,h2⟩
 ·exact⟨a,xs,e,h0,hs _ _ h1,h2⟩
 ·obtain⟨hl,rfl⟩:=itd e2
  exact⟨a,xs,e,hl,h1,h2⟩
theorem c8r {v w:FV}{x y:V}{o:Option FV}(hs:Same S H)(rv:RH K S H v x)(rw':RH K S H w y)(e:e1v v w=some o):∃ a o',x=.ref a/\L2.DGet H a y o'/\RO K S o o':=by
 cases v with
 | dct ks vs =>
  obtain⟨ps,e1,e2⟩:=bnd e
  obtain⟨k,e3,e4⟩:=bnd e2
  cases a1u e1
  cases e4
  obtain⟨a,us,rfl,hl,h1,h2⟩:=rv.dct hs
  obtain⟨b,rfl,hb⟩:=a7m (rw'.val rfl) e3
  refine⟨a,a2w ks us k,rfl,?_,b6s hl h2⟩
  rw[<- a6h]
  exact .t h1 (hs _ _ hb)
 | dci ks vs =>
  obtain⟨k,e3,e4⟩:=bnd e
  cases a1g e3
  cases e4
  cases rw'.int
  obtain⟨a,us,rfl,hl,h1,h2⟩:=rv.dci hs
  refine⟨a,a2w ks us k,rfl,?_,b6s hl h2⟩
  rw[<- a5p]
  exact .k (k:=Sum.inl k) h1
 | dcz o ks vs =>
  obtain⟨ps,e1,e2⟩:=bnd e
  obtain⟨k,e3,e4⟩:=bnd e2
  cases a1u e1
  cases e4
  obtain⟨a,us,rfl,hl,h1,h2⟩:=rv.dcz hs
  obtain⟨b,rfl,hb⟩:=a7m (rw'.val rfl) e3
  refine⟨a,a2w ks us k,rfl,?_,b6s hl h2⟩
  rw[<- a6h]
  exact .inr ⟨_,_,b,.inr ⟨o,h1⟩,rfl,hs _ _ hb,rfl⟩
 | _=>cases e
end
def c5w (k:Nat)(i e:EW):SW:=λL Q=>wp (lk L k) λ_=>e L λx L1=>i L1 λj L2=>wp (lk L2 k) λy=>wp (c3w y j x) λz=>Q .next (L2.set k (some z))
section
variable {K:Γd}{c:Cn}{md:Md}{L:a0c}{σ:L2.St}{S H:Hp}
theorem Iv.writeV (I:Iv K c md L σ S H){i:Nat}{v w:FV}{a:Addr}{ps:List FV}{xs:List V}(m:a0g md i=.own)(e:L[i]?=some (some v))(e1:σ[i]?=some (some (.ref a)))(hw:d1g w=some ps)(r:RVs K S ps xs) :
  Iv K c md (L.set i (some w)) σ S (upd H a (c6z w xs)):=by
 obtain⟨a',e1',⟨h1,_⟩,_⟩:=I.own i v (λz=>by rw[m] at z;cases z) e
 rw[e1] at e1';cases e1'
 exact I.back m e e1 (Same.refl S) (λb o z=>by rw[a0e λy=>by subst y;rw[h1] at z;cases z];exact I.sub b o z) (λb o z=>.inl z) (λb o z n=>by rw[a0e n];exact z) ⟨h1,ps,xs,hw,a0d,r⟩
theorem c3v {i:Nat}{v j x z:FV}{a:Addr}{y u:V}(I:Iv K c md L σ S H)(m:a0g md i=.own)(e:L[i]?=some (some v))(e1:σ[i]?=some (some (.ref a)))(rj:RV K S j y)(rx:RV K S x u)(h:c3w v j x=some z):∃ H',L2.DPut H a y u H'/\Iv K c md (L.set i (some z)) σ S H':=by
 obtain⟨a',f1,⟨o1,ps,us,e9,o2,o3⟩,_⟩:=I.own i v (λz=>by rw[m] at z;cases z) e
 rw[e1] at f1;cases f1
 have hbl:=a0y
 cases v with
 | dct ks vs =>
  obtain⟨qs,g1,h⟩:=bnd h
  obtain⟨k,g2,h⟩:=bnd h
  obtain⟨hb,rfl⟩:=itd h
  obtain⟨hl,rfl⟩:=itd e9
  cases a1u g1
  obtain⟨b,rfl,hkb⟩:=a7m rj g2
  have hu:ks.length=us.length:=by rw[hl,o3.length]
  obtain⟨p1,p2⟩:=a3v (ks:=ks) (k:=k) o3 rx
  refine⟨_,.t o2 (I.sub _ _ hkb) (by simp[a1w];lia),?_⟩
  rw[b1w ks us k u hu,<- p1]
  exact I.writeV (w:=.dct _ _) m e e1 (if_pos (a3c ks _ k x hl).1) p2
 | dci ks vs =>
  obtain⟨k,g2,h⟩:=bnd h
  obtain⟨hb,rfl⟩:=itd h
  obtain⟨hl,rfl⟩:=itd e9
  cases a1g g2
  cases (show y=V.int k from rj)
  have hu:ks.length=us.length:=by rw[hl,o3.length]
  obtain⟨p1,p2⟩:=a3v (ks:=ks) (k:=k) o3 rx
  refine⟨_,.k (k:=Sum.inl k) o2 (by simp[a3h];lia),?_⟩
  rw[c2c ks us k u hu,<- p1]
  exact I.writeV (w:=.dci _ _) m e e1 (if_pos (a3c ks _ k x hl).1) p2
 | _=>cases h
end
section
variable {X:Cx}{C:CC}{n:Nat}{sp:Γd->Nat->Sp}{fr:Bool}{a b:Expr}{ea eb:EW}{pos p px:Pos}{i:Nat}{nx:Str}
theorem d4x:FF X C (.Dict [] [] pos) (eC (.dci [] [])):=PE.imp c2m λσ H Q ⟨c,L,S,Q0,I,h,k⟩=>λp hp=>k _ L h p S _ ⟨I.sn hp,[],[],rfl,a0d,rfl⟩ (I.fresh hp) (I.lay hp _) (Same.refl S)
theorem fe_dgN (G:Good X C n sp)(hs:a2b b=false)(h:C.nm i nx=true)(hb:FR X C b eb):FE X C (.Subscript (.Name nx p) b pos) (a9n dgF i eb):=PE.imp (b1z (X:=X.nox) (by have:=G.room.units;show X.A.units+1<cLine;lia) (a1k G h) hb (a4j hs)) λσ H Q ⟨c,L,S,Q0,I,h,k⟩=>by
 obtain⟨v0,e,h⟩:=wpx h
 obtain⟨x,e1,_⟩:=I.rd e
 refine⟨x,e1,c,L,S,_,I,h,λw L2 hw y S2 H2 r2 I2 s2=>?_⟩
 obtain⟨v,e2,q⟩:=wpx hw
 obtain⟨x',e3,r1⟩:=I2.rd e2
 rw[e1] at e3;cases e3
 obtain⟨z,e4,q⟩:=wpx q
 obtain⟨o,e5,e6⟩:=bnd e4
 obtain⟨a,o',rfl,g,ro⟩:=c8r I2.sub r1 r2 e5
 cases (show o=some z from e6)
 obtain⟨u,rfl,r5⟩:=ro
 exact⟨a,u,rfl,g,k z L2 q u S2 H2 r5 I2 s2⟩
theorem d9g (G:Good X C n sp)(hn:C.nm i nx=true)(m:a0g C.md i=.own)(hc:(!a6f a && !a2b b)=true)(ha:FE X C a ea)(hb:FE X C b eb):FS X C fr (.Assign [.Subscript (.Name nx px) b p] a pos) (c5w i eb ea):=by
 have hc:=b2 hc
 refine PS.imp (b7e (X:=X.nox) (by have:=G.room.units;show X.A.units+1<cLine;lia) (a1k (pos:=px) G hn) hb ha (a3b (nb hc.1))) λD σ H ⟨c,L,S,Q0,I,h,k⟩=>?_
 have mi:a0g C.md i≠.imm:=λz=>by rw[m] at z;cases z
 obtain⟨v0,e,h⟩:=wpx h
 obtain⟨l,e1,_⟩:=I.own i v0 mi ((a1v _ _ _).mp e)
 refine⟨c,L,S,_,I,h,λv L1 q x S1 H1 r1 I1 s1=>⟨_,e1,c,L1,S1,_,I1,q,λw L2 q y S2 H2 r2 I2 s2=>?_⟩⟩
 obtain⟨v1,e2,q2⟩:=wpx q
 obtain⟨z,e3,q3⟩:=wpx q2
 have e2:=(a1v _ _ _).mp e2
 obtain⟨H3,g,I3⟩:=c3v I2 m e2 e1 r2 (r1.mono s2) e3
 exact⟨l,H3,rfl,g,k .next _ q3 σ S2 _ I3 (s1.trans s2)⟩
end
section
variable (Q:FV->Prop) (i:Nat)(L:a0c)
@[scoped simp ↓] theorem d4g (k:Nat)(i e:EW)(Q:FFl->a0c->Prop):c5w k i e L Q=(wp (lk L k) λ_=>e L λx L1=>i L1 λj L2=>wp (lk L2 k) λy=>wp (c3w y j x) λz=>Q .next (L2.set k (some z))):=propext Iff.rfl
@[scoped simp ↓] theorem k_dgi (ks:List Int)(vs:List FV) (k:Int):wp (dgF (.dci ks vs) (.int k)) Q=wp (a2w ks vs k) Q:=propext Iff.rfl
@[scoped simp ↓] theorem d8q (ks:List Int)(vs:List FV) (k:Int)(x:FV):wp (c3w (.dci ks vs) (.int k) x) Q↔ks.length<big/\Q (.dci (a1q ks vs k x).1 (a1q ks vs k x).2):=a4a _ _ _
end
section
variable {P:Program}{w:World}{A:Around}{E:Value->Shared->Prop}{s:Shared}
end
section
variable {X:Cx}
theorem d2r:∀ {ns:List Int}{us:List Value},Vals (ns.map V.int) us->IntsAre us ns
 | [],us,h=>by cases h;exact .nil
 | n :: ns,us,h=>by
  cases h with
  | cons r h=>obtain⟨t,rfl⟩:=r;exact .cons n t (d2r h)
theorem d1p:∀ {us:List Value}{ns:List Int},IntsAre us ns->Vals (ns.map V.int) us
 | _,_,.nil=>.nil
 | _,_,.cons n t h=>.cons ⟨t,rfl⟩ (d1p h)
theorem c8z:a1j X (.builtin "sorted") (λxs H Q=>∃ (a:Addr)(ns:List Int),xs=[.ref a]/\SqL X.K H a (ns.map V.int)/\ns.length<64/\∀ p (ms:List Int),H p=none->ms.Perm ns->ms.Pairwise (·<=·)->Q (.ref p) (upd H p (.lst (ms.map V.int)))):=by
 rintro pins s σ H xs us Q I r ⟨a,ns,rfl,hl,h64,k⟩
 obtain⟨u,rfl,ru⟩:=a3l r
 cases (show u=Value.ref a from ru)
 obtain⟨its,rv,pl,hz⟩:=I.list hl
 have ll:ns.length=its.length:=by have:=rv.length;simpa using this
 refine sorted_ints pl.isList (d2r rv) (by lia) λout ns' hI hp hs=>?_
 obtain⟨e,he⟩:=sortedAll_at s.heap its out
 refine⟨.ref (s.heap.objs.size+1),_,I.laid (a:=s.heap.objs.size+1) (o:=.lst (ns'.map V.int)) (t':=s.toks) (λb o q=>sortedAll_old q) (Nat.le_succ _) ⟨?_,out.toList,e,d1p hI,he⟩,rfl,k _ ns' (I.hok.fresh (Nat.le_succ _)) hp hs⟩
 rw[List.length_map,hp.length_eq,sizeLine_eq];lia
end
def b9o (a:EW):EW:=λL Q=>a L λv L1=>wp (a1t v) λxs=>wp (a0w xs) λns=>ns.length<64/\∀ ms:List Int,ms.Perm ns->ms.Pairwise (·<=·)->Q (.lst (ms.map .int)) L1
section
variable {X:Cx}{C:CC}{n:Nat}{sp:Γd->Nat->Sp}{a:Expr}{ea:EW}{pos p:Pos}
theorem d5b (G:Good X C n sp)(hg:C.gl (Γe "sorted")=true)(hs:a0j a=false)(ha:FR X C a ea):FE X C (.Call (.Name (Γe "sorted") p) [a] [] pos) (b9o ea) :=
 PE.imp (a3w c8z (G.gl hg) (G.blt "sorted" (by decide)) (by nofun) (a0u ha a2j (a0f hs)) (by nofun) (by nofun) (a0f hs) rfl) λσ H Q ⟨c,L,S,Q0,I,h,k⟩ =>
 ⟨c,L,S,_,I,h,λv L1 hv x S1 H1 r1 I1 s1=>by
  obtain⟨xs,e1,hv⟩:=wpx hv
  obtain⟨ns,e2,t2,q⟩:=wpx hv
  obtain⟨a,ys,rfl,hq,ry⟩:=r1.list I1.sub e1
  cases a2t ry e2
  refine⟨a,ns,rfl,hq,t2,λp ms hp hm hs=>?_⟩
  exact k _ L1 (q ms hm hs) _ _ _ ⟨p,_,rfl,a0d,RVs.ns ms⟩ (I1.new hp _) (s1.trans (a0h (I1.sn hp)))⟩
end
@[scoped simp ↓] theorem d3c (a:EW)(L:a0c)(Q:FV->a0c->Prop):b9o a L Q=(a L λv L1=>wp (a1t v) λxs=>wp (a0w xs) λns=>ns.length<64/\∀ ms:List Int,ms.Perm ns->ms.Pairwise (·<=·)->Q (.lst (ms.map .int)) L1):=propext Iff.rfl
section
variable {X:Cx}
end
section
variable {X:Cx}{C:CC}{n:Nat}{sp:Γd->Nat->Sp}{a:Expr}{ea:EW}{pos p:Pos}
end
end Kq
end
section
namespace L2
open PySem PySem.Spec PyProof.Rows
section
variable {X:Cx}{pins:List (Addr×Obj)}{σ:St}{A:Around}{R:Result->Shared->Prop}
end
end L2
end
section
namespace L2
open PySem PySem.Spec PyProof.Rows
section
variable {X:Cx}{pins:List (Addr×Obj)}{σ:St}
variable {e1 e2:Expr}{ta:TA}{pp p2 pos pos2:Pos}
end
end L2
end
section
namespace Kq
open PySem PySem.Spec PyProof.Rows L2
section
variable {X:Cx}{C:CC}{n:Nat}{sp:Γd->Nat->Sp}{a b:Expr}{ea eb:EW}{p p2 pos pos2:Pos}
end
def inW (tg:Tg)(t:BW)(e:EW):List FV->List FV->a0c->(List FV->a0c->Prop)->Prop
 | [],acc,L,Q=>Q acc L
 | y :: r,acc,L,Q=>gW tg y L λL1=>t L1 λb L2=>if b=true then e L2 λv L3=>inW tg t e r (acc++[v]) L3 Q else inW tg t e r acc L2 Q
def c0j (n m:Nat)(tg:Tg)(t:BW)(it2:AW)(tg2:Tg)(t2:BW)(e:EW):List FV->List FV->a0c->(List FV->a0c->Prop)->Prop
 | [],acc,L,Q=>Q acc L
 | x :: xs,acc,L,Q=>gW tg x (L++Γj m none) λL1=>t L1 λb L2=>if b=true then it2 L2 λys L3=>acc.length+ys.length<=big/\inW tg2 t2 e ys acc L3 λacc' L4=>c0j n m tg t it2 tg2 t2 e xs acc' (L4.take n) Q else c0j n m tg t it2 tg2 t2 e xs acc (L2.take n) Q
def eComp2 (n m:Nat)(it:AW)(tg:Tg)(t:BW)(it2:AW)(tg2:Tg)(t2:BW)(e:EW):EW:=λL Q=>it L λxs L1=>L1.length=n/\c0j n m tg t it2 tg2 t2 e xs [] L1 λys L2=>Q (.lst ys) L2
def liv (K:Γd)(md:Md)(it:AW):TI:=λσ H R=>∃ c L S Q0,Iv K c md L σ S H/\it L Q0/\∀ xs L',Q0 xs L'->∀ J S' H',Iv K c md L' σ S' H'->(∀ c md,ItR K c md J xs S')->Same S S'->R J H'
def FIv (X:Cx)(C:CC)(tg iter:Expr)(it:AW):Prop:=PI X.nox tg iter (liv X.K C.md it)
section
variable {X:Cx}{C:CC}{n:Nat}{sp:Γd->Nat->Sp}{a b tg:Expr}{ea eb:EW}{pos p:Pos}
theorem d9m (ha:FE X C a ea):FIv X C tg a (a3g ea):=PI.imp (b7j ha) λσ H R ⟨c,L,S,Q0,I,h,k⟩ =>
 ⟨c,L,S,_,I,h,λv L1 hv x S1 H1 r1 I1 s1=>by
  obtain⟨ps,e,q⟩:=wpx hv
  obtain⟨l,rfl,st⟩:=r1.stays e
  obtain⟨vs,h1,h2⟩:=st S1 H1 (Same.refl _) I1.sub
  exact⟨isL v,l,vs,rfl,h1,k ps L1 q _ S1 H1 I1 (λ_ _=>b8r λL σ S H I s=>st S H s I.sub) s1⟩⟩
end
section
variable {K:Γd}{c:Cn}{md:Md}{L:a0c}{σ:L2.St}{S H:Hp}
end
section
variable {X:Cx}{C:CC}{n:Nat}{sp:Γd->Nat->Sp}{pos p px:Pos}{i:Nat}{nx:Str}{fr:Bool}
variable {scope:Scope}{own:List Str}{elt tgx iter tgx2 iter2:Expr}{ifs ifs2:List Expr}{it it2:AW}{tg tg2:Tg}{t t2:BW}{e:EW}{nn m:Nat}{md':Md}
structure CompOk2 (X:Cx)(C:CC) (n:Nat)(sp:Γd->Nat->Sp)(scope:Scope)(own:List Str)(elt tgx iter:Expr)(ifs:List Expr)(tgx2 iter2:Expr)(ifs2:List Expr) (nn m:Nat)(md':Md)(it:AW)(tg:Tg)(t:BW)(it2:AW)(tg2:Tg)(t2:BW)(e:EW):Prop where
 st:(C.scOk scope own && decide (C.N.length=nn) && decide (own.length=m) && decide (md'.length<=nn) && d1z C.md md' && a3a md' tg && a4v nn tg && !b2n iter)=true
 st2:(a3a md' tg2 && a4v nn tg2 && !b2n iter2)=true
 it:FI X C md' tgx iter it
 tg:∀ X',Good X' (C.sub scope own md') n sp->FG X' tgx tg
 ts:∀ X',Good X' (C.sub scope own md') n sp->FTs X' (C.sub scope own md') ifs t
 it2:∀ X',Good X' (C.sub scope own md') n sp->FIv X' (C.sub scope own md') tgx2 iter2 it2
 tg2:∀ X',Good X' (C.sub scope own md') n sp->FG X' tgx2 tg2
 ts2:∀ X',Good X' (C.sub scope own md') n sp->FTs X' (C.sub scope own md') ifs2 t2
 el:∀ X',Good X' (C.sub scope own md') n sp->FE X' (C.sub scope own md') elt e
end
def ePop (i:Nat):EW:=λL Q=>wp (lk L i) λv=>wp (a6s v) λxs=>wp (xs[xs.length-1]?) λy=>Q y (L.set i (some (.lst xs.dropLast)))
def popI (xs:List FV) (k:Int):Option FV:=if 0<=k/\k<4611686018427387904 then xs[k.toNat]? else none
def ePopAt (i:Nat)(a:EW):EW:=λL Q=>wp (lk L i) λv=>wp (a6s v) λ_=>a L λw L1=>wp (a3j w) λk=>wp (lk L1 i) λx=>wp (a6s x) λxs=>wp (popI xs k) λy=>Q y (L1.set i (some (.lst (xs.eraseIdx k.toNat))))
section
variable {K:Γd}{S:Hp}
end
section
variable {X:Cx}{C:CC}{n:Nat}{sp:Γd->Nat->Sp}{a:Expr}{ea:EW}{pos p:Pos}{i:Nat}{nx:Str}
end
end Kq
end
section
namespace L2
open PySem PySem.Spec PyProof.Rows
section
variable {X:Cx}{a e k:Expr}{ta te tk:TE}{pos p2:Pos}
end
end L2
namespace Kq
open PySem PySem.Spec PyProof.Rows L2
def turnLF (v:FV):Option FV:=(a6s v).map λxs=>.lst xs.reverse
section
variable {X:Cx}{C:CC}{a:Expr}{ea:EW}{pos:Pos}
end
end Kq
end
section
namespace L2
open PySem PySem.Spec PyProof.Rows
section
variable {X:Cx}{pos:Pos}
end
end L2
namespace Kq
open PySem PySem.Spec PyProof.Rows L2
section
variable {X:Cx}{C:CC}{n:Nat}{sp:Γd->Nat->Sp}{a b d:Expr}{ea eb ed:EW}{pos px py pz:Pos}{i j l:Nat}{nx ny nz:Str}{fr:Bool}
end
end Kq
end
section
namespace Kq
open PySem PySem.Spec PyProof.Rows L2
def eMv (j:Nat):EW:=λL Q=>wp (lk L j) λv=>Q v (L.set j none)
@[scoped simp ↓] theorem eMv_eq (j:Nat)(L:a0c)(Q:FV->a0c->Prop):eMv j L Q=wp (lk L j) λv=>Q v (L.set j none):=propext Iff.rfl
def eCallT (call:CW) (f:Nat)(ea:EW)(as:AW):EW:=λL Q=>ea L λv L1=>as L1 λvs L2=>call f (v :: vs) λz=>Q z.1 L2
section
variable {X:Cx}{C:CC}{n:Nat}{sp:Γd->Nat->Sp}{a b:Expr}{ea eb:EW}{pos p:Pos}{call:CW}
variable {K:Γd}{c:Cn}{md:Md}{L:a0c}{σ:L2.St}{S H S' H':Hp}{i j f:Nat}{nx:Str}{xs:List Expr}{as:AW}
theorem a2d {L:a0c}{j i:Nat}{v:FV}(z:(L.set j none)[i]?=some (some v)):i≠j/\L[i]?=some (some v):=by
 by_cases q:i=j
 ·subst q
  have hj:i<L.length:=by have:=(List.getElem?_eq_some_iff.mp z).1;rwa [List.length_set] at this
  rw[List.getElem?_set_self hj] at z;cases z
 ·rw[List.getElem?_set_ne (Ne.symm q)] at z;exact⟨q,z⟩
theorem Iv.drop (I:Iv K c md L σ S H)(hm:a0g md j=.own)(hj:j≠0):Iv K c md (L.set j none) σ S H where
 len:=by rw[List.length_set];exact I.len
 imm:=λi v h e=>I.imm i v h (a2d e).2
 own:=λi v h e=>I.own i v h (a2d e).2
 dis:=λi k v w a h1 h2 e1 e2=>I.dis i k v w a h1 h2 (a2d e1).2 (a2d e2).2
 sub:=I.sub
 frame:=I.frame
 s0:=I.s0
 grow:=I.grow
 lent:=λa h=>by
  obtain⟨g1,g2,g3⟩:=I.lent a h
  rw[List.getElem?_set_ne hj];exact⟨g1,g2,g3⟩
 fzs:=λp hp=>by
  obtain⟨g1,g2,g3⟩:=I.fzs p hp
  have:p.1≠j:=λz=>by rw[z,hm] at g1;cases g1
  rw[List.getElem?_set_ne (Ne.symm this)];exact⟨g1,g2,g3⟩
 fzm:=λi v h e=>I.fzm i v h (a2d e).2
 fzp:=I.fzp
 prs:=λp hp=>let ⟨g1,g2,g3⟩:=I.prs p hp;⟨g1,g2,λi v h e=>g3 i v h (a2d e).2⟩
 ntp:=I.ntp
 lnt1:=λq hq=>by
  obtain⟨g1,g2,g3⟩:=I.lnt1 q hq
  have:q.1≠j:=λz=>by rw[z,hm] at g1;cases g1
  rw[List.getElem?_set_ne (Ne.symm this)];exact⟨g1,g2,g3⟩
 tie:=λy k x C dx fs w h1 h2 h3 h4=>I.tie y k x C dx fs w h1 h2 (a2d h3).2 (a2d h4).2
theorem d9q (G:Good X C n sp)(h:C.nm j nx=true)(m:a0g C.md j=.own)(hj:j≠0):FF X C (.Name nx p) (eMv j) :=
 PE.imp (a1k G h) λσ H Q ⟨c,L,S,Q0,I,h,k⟩=>by
  obtain⟨v,e,h⟩:=wpx h
  have e:=(a1v _ _ _).mp e
  have mi:a0g C.md j≠.imm:=λz=>by rw[m] at z;cases z
  obtain⟨l,e1,o,h0⟩:=I.own j v mi e
  refine⟨_,e1,k v _ h l S H o ⟨?_,λp hp z=>?_,λy w my ey z=>?_⟩ (I.drop m hj) (Same.refl S)⟩
  ·exact I.mine hj mi e e1 (by rw[m];rfl)
  ·obtain⟨_,_,g3⟩:=I.prs p hp
   exact g3 j v (Mo.w_own m) e (by rw[z];exact e1)
  ·obtain⟨q,ey⟩:=a2d ey
   exact q (I.dis y j w v l my mi ey e z e1)
end
def sFrz (j:Nat)(r:SW):SW:=λL Q=>wp (lk L j) λ_=>r L λfl L'=>Q fl (L'.set j none)
section
variable {X:Cx}{C:CC}{n:Nat}{sp:Γd->Nat->Sp}{fr:Bool}{sts:List Stmt}{r:SW}
variable {K:Γd}{c:Cn}{md md':Md}{L:a0c}{σ:L2.St}{S H:Hp}{j:Nat}
theorem a8b {L:a0c}{i j:Nat}(h:i≠j):(L.set j none)[i]?=L[i]?:=List.getElem?_set_ne (Ne.symm h)
end
end Kq
end
set_option maxHeartbeats 1000000
set_option maxHeartbeats 4000000
section
namespace Kq
open PySem PySem.Spec PyProof.Rows L2 PySem.W
structure Cmp (prog:Program)(w:World)(A:Around)(E:Value->Shared->Prop)(s:Shared)(kd:SortKind)(Ok:Keyed->Prop)(lt:Keyed->Keyed->Bool):Prop where
 run:∀ x y,Ok x->Ok y->∀ (st:SortSt)(Q:Option Bool->SortSt->Prop),kindOf st=kd->Q (some (lt x y)) st->wpS (model prog w) A E s (lt' x y) Q st
 refl:∀ x,lt x x=false
 trans:∀ x y z,lt y x=false->lt z y=false->lt z x=false
 asym:∀ x y,lt x y=true->lt y x=false
section
variable {prog:Program}{w:World}{A:Around}{E:Value->Shared->Prop}{s:Shared}{kd:SortKind}{Ok:Keyed->Prop}{lt:Keyed->Keyed->Bool}
end
section
variable {prog:Program}{w:World}{A:Around}{E:Value->Shared->Prop}{s:Shared}{kd:SortKind}{Ok:Keyed->Prop}{lt:Keyed->Keyed->Bool}
end
section
variable {prog:Program}{w:World}{A:Around}{E:Value->Shared->Prop}{s:Shared}{kd:SortKind}{Ok:Keyed->Prop}{lt:Keyed->Keyed->Bool}
end
abbrev Asc {α:Type}(lt:α->α->Bool)(l:List α):Prop:=l.Pairwise λx y=>lt y x=false
structure MI {α:Type}(lt:α->α->Bool)(X Y O:List α) (i j:Nat):Prop where
 perm:O.Perm (X.take i++Y.take j)
 srt:Asc lt O
 bef:∀ x∈O,∀ y∈X.drop i++Y.drop j,lt y x=false
section
variable {α:Type}{lt:α->α->Bool}{X Y O:List α}{i j k:Nat}
end
section
variable {lt:Keyed->Keyed->Bool}{x y o:Array Keyed}{i j k:Nat}
end
section
variable {prog:Program}{w:World}{A:Around}{E:Value->Shared->Prop}{s:Shared}{kd:SortKind}{Ok:Keyed->Prop}{lt:Keyed->Keyed->Bool}
end
section
variable {lt:Keyed->Keyed->Bool}{x y o:Array Keyed}{i j t:Nat}
end
section
variable {prog:Program}{w:World}{A:Around}{E:Value->Shared->Prop}{s:Shared}{kd:SortKind}{Ok:Keyed->Prop}{lt:Keyed->Keyed->Bool}
end
section
variable {prog:Program}{w:World}{A:Around}{E:Value->Shared->Prop}{s:Shared}{kd:SortKind}{Ok:Keyed->Prop}{lt:Keyed->Keyed->Bool}
end
section
variable {lt:Keyed->Keyed->Bool}{a b:Array Keyed}
end
section
variable {prog:Program}{w:World}{A:Around}{E:Value->Shared->Prop}{s:Shared}{kd:SortKind}{Ok:Keyed->Prop}{lt:Keyed->Keyed->Bool}
end
section
variable {prog:Program}{w:World}{A:Around}{E:Value->Shared->Prop}{s:Shared}{vs:List Value}{kd:SortKind}{kf:Value->List Int}
end
def numsOf (h:Heap):Value->List Int
 | .ref a=>match h.get? a with
  | some o=>match o.data with
   | .seq us _=>us.toList.map numOf
   | _=>[]
  | none=>[]
 | _=>[]
section
variable {prog:Program}{w:World}{A:Around}{E:Value->Shared->Prop}{s:Shared}{vs:List Value}
end
def fkey:FV->List Int
 | .tup ps=>(a0w ps).getD []
 | _=>[]
def eSortB (m:Nat)(a:EW):EW:=λL Q=>a L λv L1=>wp (a4f v) λxs=>a5b xs=true/\xs.length<=m/\∀ ys:List FV,ys.Perm xs->(ys.Pairwise λx y=>lexLt (fkey y) (fkey x)=false)->Q (.lst ys) L1
section
variable {K:Γd}{S:Hp}
end
section
variable {X:Cx}
end
section
variable {X:Cx}{C:CC}{n:Nat}{sp:Γd->Nat->Sp}{a:Expr}{ea:EW}{pos p:Pos}
end
def EntAt (h:Heap)(d:Addr)(es:Array DictEntry) (ep:Nat):Prop:=∃ o,h.get? d=some o/\o.ExactDict/\o.data=.dict es ep
section
variable {prog:Program}{w:World}{A:Around}{E:Value->Shared->Prop}{s:Shared}{it d:Addr}{i n ep:Nat}{es:Array DictEntry}
theorem EntAt.ty (x:EntAt s.heap d es ep):s.TypeIs (.ref d) "dict":=by
 obtain⟨o,ho,hc,_⟩:=x
 exact⟨o,ho,hc.1⟩
theorem c3e {Q:Value->Shared->Prop}(hd:(d == sysModules)=false)(hm:EntAt s.heap d es ep)
  (q:Q (.ref s.heap.objs.size) { s with heap:=s.heap.push { cls:=.type "dict_keyiterator",data:=.fields #[.ref d,.int 0 0,.int es.size 0,.int ep 0] } }):wpAny (model prog w) A (pyIter (.ref d)) Q E s:=by
 have hT:=hm.ty
 obtain⟨o,ho,hc,hdat⟩:=hm
 refine wpAny_pyIter_slot hT F.slot_dict_iter (wpAny_call_entry F.slot_dict_iter hT F.entry_dict_iter ?_ (F.args_dict_iter_1 _));unfold Builtin.«dict.__iter__»;refine Γa ?_;unfold Builtin.Dict.dictSlotNone
 refine Γa (wpAny_notOrdered_dict hT ?_);show wpAny _ _ (pure (Value.ref d)) _ _ s;refine Γb ?_;show wpAny _ _ (Builtin.Dict.showsAll d >>= _) _ _ s;unfold Builtin.Dict.showsAll
 rw[if_neg (by rw[hd];exact Γk)];refine Γa (Γb (Γa (wpAny_dictEntries ho hdat (Γa (wpAny_dictEpoch ho hdat ?_)))))
 refine Γa (wpAny_newObj_type (Γb ⟨_,rfl,"dict_keyiterator",_,⟨_,Γm _ rfl,rfl⟩,F.slot_dict_keyiterator_next.lookup,?_⟩));simpa[rawInt] using q
theorem c2q {Q:Option Value->Shared->Prop}(hit:s.heap.IsKeyIter it d i es.size ep)(hm:EntAt s.heap d es ep)(hi:i<es.size)
  (q:∀ h',h'.IsKeyIter it d (i+1) es.size ep->Heap.SameBut it s.heap h'->Q (some es[i].key) { s with heap:=h' }):wpAny (model prog w) A (pyNext (.ref it)) Q E s:=by
 have hT:=hit.typeIs
 obtain⟨o,ho,hc,hd⟩:=id hit
 obtain⟨od,hod,_,hdd⟩:=hm
 have hown:Builtin.Dict_items.ownsTuple "dict_keyiterator" = false:=by decide
 unfold pyNext;refine Γa (wpAny_attempt (wpAny_callSpecial?_slot (name:=Γe "__next__") hT F.slot_dict_keyiterator_next (wpAny_call_entry F.slot_dict_keyiterator_next hT F.entry_dict_keyiterator_next ?_ (F.args_dict_keyiterator_next_1 _))))
 refine Γa (Γb (Γa (Γa ?_)));first|refine Γa (wpAny_typeNameOfWhole_keyiter hT (Γb ?_))|refine Γa (wpAny_typeNameOf_keyiter hT (Γb ?_))
 refine Γa (wpAny_fieldsOf ho hd ?_);simp only[hown,Γp,if_false];show wpAny _ _ (if (Value.ref d == Value.none)=true then _ else _) _ _ s;rw[if_neg (show ¬ ((Value.ref d == Value.none)=true) from Γk)]
 refine Γa (Γb (Γa (wpAny_dictEntries hod hdd ?_)));rw[if_neg (by simp)]
 refine Γa (Γb (Γa (wpAny_dictEpoch hod hdd ?_)));rw[if_neg (by simp)];refine Γb ?_
 simp only[show ¬ ((i:Int)<0) from by lia,if_false,Int.toNat_natCast,Array.getElem?_eq_getElem hi];refine Γa ?_
 first|refine Γa (wpAny_typeNameOfWhole_keyiter hT (Γb (Γa (wpAny_isOneOf_keyiter hT ?_))))|refine Γa (wpAny_typeNameOf_keyiter hT (Γb (Γa (wpAny_isOneOf_keyiter hT ?_))))
 show wpAny _ _ (setField (.ref it) 1 (rawInt ((i:Int)+1)) >>= _) _ _ s;refine Γa (wpAny_setField ho hd (by simp) ?_)
 have hit':(s.heap.update it (Obj.mapFields (·.setIfInBounds 1 (rawInt ((i:Int)+1))))).IsKeyIter it d (i+1) es.size ep:=⟨_,Heap.get?_update_self _ ho (Obj.isFreed_of_fields (Obj.data_mapFields hd _)),(Obj.cls_mapFields ..).trans hc,by rw[Obj.data_mapFields hd];simp[rawInt]⟩
 refine Γa (Γg (Γa (wpAny_isOneOf_keyiter (s:={ s with heap:=s.heap.update it (Obj.mapFields (·.setIfInBounds 1 (rawInt ((i:Int)+1)))) }) hit'.typeIs ?_)));show wpAny _ _ (pure es[i].key) _ _ _
 exact Γb (Γb ⟨_,rfl,Γb (q _ hit' (Heap.SameBut.update ..))⟩)
theorem c8m {Q:Option Value->Shared->Prop}(hh:A.handled=none)(hit:s.heap.IsKeyIter it d i es.size ep)(hm:EntAt s.heap d es ep)(hi:es.size<=i)
  (q:∀ h',Heap.ExtBut it s.heap h'->Q none { s with heap:=h' }):wpAny (model prog w) A (pyNext (.ref it)) Q E s:=by
 have hT:=hit.typeIs
 obtain⟨o,ho,hc,hd⟩:=id hit
 obtain⟨od,hod,_,hdd⟩:=hm
 have hown:Builtin.Dict_items.ownsTuple "dict_keyiterator" = false:=by decide
 unfold pyNext;refine Γa (wpAny_attempt (wpAny_callSpecial?_slot (name:=Γe "__next__") hT F.slot_dict_keyiterator_next (wpAny_call_entry F.slot_dict_keyiterator_next hT F.entry_dict_keyiterator_next ?_ (F.args_dict_keyiterator_next_1 _))))
 refine Γa (Γb (Γa (Γa ?_)));first|refine Γa (wpAny_typeNameOfWhole_keyiter hT (Γb ?_))|refine Γa (wpAny_typeNameOf_keyiter hT (Γb ?_))
 refine Γa (wpAny_fieldsOf ho hd ?_);simp only[hown,Γp,if_false];show wpAny _ _ (if (Value.ref d == Value.none)=true then _ else _) _ _ s;rw[if_neg (show ¬ ((Value.ref d == Value.none)=true) from Γk)]
 refine Γa (Γb (Γa (wpAny_dictEntries hod hdd ?_)));rw[if_neg (by simp)]
 refine Γa (Γb (Γa (wpAny_dictEpoch hod hdd ?_)));rw[if_neg (by simp)];refine Γb ?_
 simp only[show ¬ ((i:Int)<0) from by lia,if_false,Int.toNat_natCast,Array.getElem?_eq_none hi];refine Γa ?_
 first|refine Γa (wpAny_typeNameOfWhole_keyiter hT (Γb ?_))|refine Γa (wpAny_typeNameOf_keyiter hT (Γb ?_))
 show wpAny _ _ (setField (.ref it) 0 .none >>= _) _ _ s;refine Γa (wpAny_setField ho hd (by simp) ?_);show wpAny _ _ (newExc (.type "StopIteration") [] >>= _) _ _ _;refine Γa ?_;simp only[newExc,newTuple]
 refine Γa (wpAny_newObj_type ?_ (by size_fits));refine Γa (m:=firstArgMember _ _) (wpAny_of_eq (a:=Value.none) (by first|rfl|(simp only[firstArgMember];rfl)) ?_);refine wpAny_newObj_type ?_ (by size_fits);simp only[raiseNew]
 refine Γa (wpAny_handled ?_);rw[show A.in1.handled=none from hh];refine Γa (Γb (wpAny_throw ?_))
 refine Γa (wpAny_isInstance (T:="StopIteration") (b:=true) ⟨_,Γm _ rfl,rfl⟩ isSubtype_stop ?_);exact Γb (q _ (((Heap.SameBut.update ..).extBut.push _).push _))
end
section
variable {X:Cx}{pins:List (Addr×Obj)}{σ:L2.St}{H:Hp}{s:Shared}{a:Addr}
theorem b3y {kvs:List (List (Int ⊕ Option Str)×V)}{o:Obj}(I:Inv X pins σ H s)(h:H a=some (.dT kvs))(ho:s.heap.get? a=some o):Inv X pins σ (upd H a (.frz o (.dT kvs))) s:=by
 have ne:∀ {b:Addr}{u:HO},H b=some u->u≠.dT kvs->b≠a:=λe n z=>by subst z;rw[h] at e;exact n (Option.some.inj e).symm
 have ow:∀ b c,H b=some (.own c)->upd H a (.frz o (.dT kvs)) b=some (.own c):=λb c e=>by rw[a0e (ne e (λz=>nomatch z))];exact e
 have tu:∀ b xs,H b=some (.tup xs)->upd H a (.frz o (.dT kvs)) b=some (.tup xs):=λb xs e=>by rw[a0e (ne e (λz=>nomatch z))];exact e
 refine I.un (t':=s.toks) (h':=s.heap) ⟨λb o' e _ _ _=>e,λb o' e _ _ _=>⟨o'.slots,e⟩,λb o' e n _=>?_,λb o' e _=>⟨o',e⟩,tu,λb o' u e=>?_,λb ps e=>?_⟩ λb u e=>?_
 ·rw[a0e (λz=>by subst z;rw[h] at n;cases n)];exact n
 ·rw[a0e (ne e (λz=>nomatch z))];exact e
 ·exact⟨#[],by rw[a0e (ne e (λz=>nomatch z)),Array.append_empty];exact e⟩
 ·by_cases z:b=a
  ·subst z
   rw[a0d] at e;cases e
   exact⟨ho,(I.hok b _ h).stay (λ_ _ _ q=>q) (λc e=>ow c b e) tu⟩
  ·rw[a0e z] at e
   exact (I.hok b u e).stay (λ_ _ _ q=>q) (λc e=>ow c b e) tu
end
def Itk (a:Addr)(o:Obj)(kvs:List (List (Int ⊕ Option Str)×V)):It :=
 ⟨λi H=>H a=some (.frz o (.dT kvs))/\i<kvs.length,λi H v H'=>H'=H/\∃ b p,v=.ref b/\kvs[i]?=some p/\H b=some (.tup (p.1.map kV)),λi H=>H a=some (.frz o (.dT kvs))/\kvs.length<=i⟩
theorem b0v {P:Program}{w:World}{H:Hp}{h:Heap}{a:Addr}{kvs:List (List (Int ⊕ Option Str)×V)}(x:ObjOk P w H h a (.dT kvs)):∃ o es ep,h.get? a=some o/\o.data=.dict es ep/\EntAt h a es ep/\es.size=kvs.length/\(a == sysModules)=false/\∀ (i:Nat)(hi:i<es.size) p,kvs[i]?=some p->∃ b,es[i].key=.ref b/\H b=some (.tup (p.1.map kV)):=by
 obtain⟨_,y,xs,r,o,es,ep,h1,h2,h3,h4,_⟩:=x
 have hl:kvs.length=xs.length:=r.length
 have hs:es.size=xs.length:=by rw[<- Array.length_toList,h4,List.length_map]
 refine⟨o,es,ep,h1,h3,⟨o,h1,h2,h3⟩,by lia,y,λi hi p hp=>?_⟩
 have hx:i<xs.length:=by lia
 have key:∀ {l:List (List (Int ⊕ Option Str)×V)}{m:List (List (Int ⊕ Option Str)×Addr×Value)},Paired (λ(p:List (Int ⊕ Option Str)×V)(q:List (Int ⊕ Option Str)×Addr×Value)=>p.1=q.1/\H q.2.1=some (.tup (p.1.map kV))/\RelV p.2 q.2.2) l m->∀ (i:Nat) p q,l[i]?=some p->m[i]?=some q->H q.2.1=some (.tup (p.1.map kV)):=by
  intro l m z
  induction z with
  | nil=>intro i p q h;simp at h
  | @cons p0 q0 ps qs hq t ih =>
   intro i p q e1 e2
   cases i with
   | zero=>simp at e1 e2;subst e1;subst e2;exact hq.2.1
   | succ i=>simp at e1 e2;exact ih i p q e1 e2
 refine⟨xs[i].2.1,?_,key r i p xs[i] hp (by simp[hx])⟩
 have e:es.toList[i]'(by simpa using hi)=entryOfKey (tupleKind (a0v P w)) xs[i]:=by simp only[h4,List.getElem_map]
 rw[<- Array.getElem_toList (h:=hi),e];rfl
theorem b5z {P:Program}{w:World}{K:Γd}{tg:Expr}{o:Obj}{kvs:List (List (Int ⊕ Option Str)×V)}{es:Array DictEntry}{ep:Nat}(a it:Addr)(hd:o.data=.dict es ep)(hz:es.size=kvs.length):Turn P w K tg (Itk a o kvs) [it] it (λi h=>h.IsKeyIter it a i es.size ep) where
 mem:=by simp
 obj:=λi h st b hb=>by
  have e:b=it:=by simpa using hb
  subst e
  obtain⟨o,e,c,d⟩:=st
  exact⟨o,e,λv z=>by rw[d] at z;cases z⟩
 keep:=λi h h' st k=>st.at λo e=>k it (by simp) o e
 item:=by
  intro X hP hw hK hc i pins s σ H E I hf st hg
  subst hP hw hK
  obtain⟨e0,hi⟩:=hg
  obtain⟨q1,q2⟩:=(show ObjOk X.prog X.w H s.heap a (.frz o (.dT kvs)) from I.hok a _ e0)
  obtain⟨o',es',ep',f1,f2,f3,f4,f5,f6⟩:=b0v q2
  rw[q1] at f1;cases f1
  rw[hd] at f2;cases f2
  obtain⟨f0,g1,g2,g3,g4,g5⟩:=hf it (by simp)
  have hi':i<es.size:=by lia
  obtain⟨b,k1,k2⟩:=f6 i hi' kvs[i] (by simp[hi])
  refine c2q st f3 hi' λh' st' sb=>?_
  have I1:Inv X pins σ H { s with heap:=h' }:=I.turned (t':=s.toks) (λb o hb e=>(sb.2 b hb).trans e) f0 g1 g3 g4 g5
  obtain⟨o2,e,c,d⟩:=id st'
  rw[k1]
  exact⟨_,rfl,c3m (s:={ s with heap:=h' }) e c d (by decide) ⟨.ref b,H,I1,rfl,⟨rfl,b,kvs[i],rfl,by simp[hi],k2⟩,st',λb hb=>(hf b hb).1⟩⟩
 done:=by
  intro X hP hw hK hc i pins s σ H E I hf st hg
  subst hP hw hK
  obtain⟨e0,hi⟩:=hg
  obtain⟨q1,q2⟩:=(show ObjOk X.prog X.w H s.heap a (.frz o (.dT kvs)) from I.hok a _ e0)
  obtain⟨o',es',ep',f1,f2,f3,f4,f5,f6⟩:=b0v q2
  rw[q1] at f1;cases f1
  rw[hd] at f2;cases f2
  obtain⟨f0,g1,g2,g3,g4,g5⟩:=hf it (by simp)
  exact c8m (I.ok.hd hc) st f3 (by lia) λh' eb=>⟨rfl,I.turned (t':=s.toks) (λb o hb e=>eb b o hb e) f0 g1 g3 g4 g5⟩
 self:=λ_ _ _ _ _ st h=>wpAny_pyIter_keyiter st h
theorem c6n {X:Cx}{tg it:Expr}{te:TE}(h:PE X it te):PI X tg it (λσ H R=>te σ H λv H1=>∃ a kvs,v=.ref a/\((H1 a=some (.dT kvs)/\∀ o,R (Itk a o kvs) (upd H1 a (.frz o (.dT kvs)))) ∨ ∃ o,H1 a=some (.frz o (.dT kvs))/\R (Itk a o kvs) H1)):=by
 intro pins s σ H R I hh
 refine thn (h pins s σ H _ I hh) λv s1 ⟨x,H1,I1,r1,a,kvs,e,q⟩=>?_
 subst e
 cases r1
 have one:∀ (o:Obj)(H2:Hp),Inv X pins σ H2 s1->H2 a=some (.frz o (.dT kvs))->R (Itk a o kvs) H2->wpAny (model X.prog X.w) X.A (pyIter (.ref a)) (PIE X pins σ tg R) X.xe s1:=by
  intro o H2 I2 e2 q
  obtain⟨q1,q2⟩:=(show ObjOk X.prog X.w H2 s1.heap a (.frz o (.dT kvs)) from I2.hok a _ e2)
  obtain⟨o',es,ep,f1,f2,f3,f4,f5,f6⟩:=b0v q2
  rw[q1] at f1;cases f1
  refine c3e f5 f3 ?_
  refine⟨s1.heap.objs.size,[s1.heap.objs.size],_,_,H2,rfl,I2.kept (t':=s1.toks) λb o e=>Γc _ e,b5z a _ f2 f4,⟨_,Γm _ rfl,rfl,rfl⟩,λb hb=>?_,q⟩
  have e:b=s1.heap.objs.size:=by simpa using hb
  subst e
  exact I2.fpOk (Γi _) (I2.hok.fresh (Γi _))
 rcases q with⟨e1,q⟩|⟨o,e1,q⟩
 ·obtain⟨o,es,ep,f1,f2,_⟩:=b0v (show ObjOk X.prog X.w H1 s1.heap a (.dT kvs) from I1.hok a _ e1)
  exact one o _ (b3y I1 e1 f1) a0d (q o)
 ·exact one o H1 I1 e1 q
def keyF (k:List Int):FV:=.tup (k.map .int)
section
variable {X:Cx}{C:CC}{n:Nat}{sp:Γd->Nat->Sp}{tg:Expr}{p:Pos}{i:Nat}{nx:Str}
variable {K:Γd}{c:Cn}{md:Md}
end
section
variable {prog:Program}{w:World}{A:Around}{E:Value->Shared->Prop}{s:Shared}{d:Addr}{es:Array DictEntry}{ep:Nat}
end
section
variable {X:Cx}
theorem a5c {α β:Type}{f:α->β}:∀ {l':List β}{m:List β},l'.Perm m->∀ l:List α,m=l.map f->∃ l2:List α,l2.Perm l/\l'=l2.map f:=by
 intro l' m h
 induction h with
 | nil=>intro l e;exact⟨[],by cases l with|nil=>exact .refl _|cons=>simp at e,rfl⟩
 | @cons x l1 l2 p ih =>
  intro l e
  cases l with
  | nil=>simp at e
  | cons a r =>
   simp at e
   obtain⟨q,h1,h2⟩:=ih r e.2
   exact⟨a :: q,h1.cons a,by rw[List.map_cons,<- e.1,<- h2]⟩
 | swap x y t =>
  intro l e
  rcases l with _|⟨a,_|⟨b,r⟩⟩
  ·simp at e
  ·simp at e
  ·simp at e
   obtain⟨rfl,rfl,rfl⟩:=e
   exact⟨b :: a :: r,.swap a b r,rfl⟩
 | trans p q ih1 ih2 =>
  intro l e
  obtain⟨m2,h1,h2⟩:=ih2 l e
  obtain⟨m3,h3,h4⟩:=ih1 m2 h2
  exact⟨m3,h3.trans h1,h4⟩
end
def d3k:FV->Option (List (List Int))
 | .dct ks _=>some ks
 | .dcz _ ks _=>some ks
 | _=>none
def eSortE (m j:Nat):EW:=λL Q=>wp (lk L j) λv=>wp (d3k v) λks=>ks.length<=m/\(∀ k∈ks,k≠[])/\∀ ys:List (List Int),ys.Perm ks->(ys.Pairwise λx y=>lexLt y x=false)->Q (.lst (ys.map keyF)) L
section
variable {X:Cx}{C:CC}{n:Nat}{sp:Γd->Nat->Sp}{pos p p':Pos}{i:Nat}{nx:Str}
end
def a9j (xs:Array Nat):Prop:=∀ i j (hi:i<xs.size)(hj:j<xs.size),i<j->xs[i]<xs[j]
def d4e (xs:Array Nat) (j r:Nat):Prop:=r<=xs.size/\(∀ k (h:k<xs.size),k<r->xs[k]<j)/\∀ k (h:k<xs.size),r<=k->j<=xs[k]
theorem a9e {xs:Array Nat}{j:Nat}(rs:a9j xs):∀ (f lo hi:Nat),hi<=xs.size->lo<=hi->hi-lo<=f->(∀ k (h:k<xs.size),k<lo->xs[k]<j)->(∀ k (h:k<xs.size),hi<=k->j<=xs[k])->d4e xs j (SetTable.below.go xs j f lo hi)
 | 0,lo,hi,h1,h2,h3,a,b=>by
  have e:lo=hi:=by lia
  subst e
  exact⟨h1,a,b⟩
 | f+1,lo,hi,h1,h2,h3,a,b=>by
  unfold SetTable.below.go
  by_cases h:lo<hi
  ·rw[if_pos h]
   have hm:(lo+hi) / 2<xs.size:=by lia
   dsimp only
   rw[Array.getD_eq_getD_getElem?,Array.getElem?_eq_getElem hm,Option.getD_some]
   by_cases q:xs[(lo+hi) / 2]<j
   ·rw[if_pos q]
    refine a9e rs f _ _ h1 (by lia) (by lia) (λk hk hl=>?_) b
    by_cases e:k=(lo+hi) / 2
    ·subst e;exact q
    ·exact Nat.lt_trans (rs k _ hk hm (by lia)) q
   ·rw[if_neg q]
    refine a9e rs f _ _ (by lia) (by lia) (by lia) a λk hk hl=>?_
    by_cases e:k=(lo+hi) / 2
    ·subst e;lia
    ·have:=rs _ k hm hk (by lia);lia
  ·rw[if_neg h]
   have e:lo=hi:=by lia
   subst e
   exact⟨h1,a,b⟩
theorem a3e {xs:Array Nat}(rs:a9j xs) (j:Nat):d4e xs j (SetTable.below xs j):=by
 unfold SetTable.below
 exact a9e rs _ _ _ (Γi _) (Nat.zero_le _) (by lia) (λk _ h=>absurd h (Nat.not_lt_zero _)) λk h1 h2=>absurd h1 (by lia)
theorem a2o {α:Type}(xs:Array α) (p:Nat)(x:α)(hp:p<=xs.size):(SetTable.insertAt xs p x).toList=xs.toList.take p++x :: xs.toList.drop p:=by
 unfold SetTable.insertAt
 simp
 exact List.take_of_length_le (by simp)
theorem rise_list {xs:Array Nat}:a9j xs↔xs.toList.Pairwise (· < ·):=by
 rw[List.pairwise_iff_getElem]
 constructor
 ·intro h i j hi hj l
  simpa using h i j (by simpa using hi) (by simpa using hj) l
 ·intro h i j hi hj l
  have:=h i j (by simpa using hi) (by simpa using hj) l
  rwa [Array.getElem_toList,Array.getElem_toList] at this
theorem b2o {xs:Array Nat}{j:Nat}(rs:a9j xs)(ne:xs[SetTable.below xs j]?≠some j):a9j (SetTable.insertAt xs (SetTable.below xs j) j):=by
 obtain⟨h1,h2,h3⟩:=a3e rs j
 rw[rise_list,a2o _ _ _ h1,List.pairwise_append]
 have rl:=rise_list.mp rs
 refine⟨rl.sublist (List.take_sublist _ _),List.pairwise_cons.mpr ⟨λy hy=>?_,rl.sublist (List.drop_sublist _ _)⟩,λx hx y hy=>?_⟩
 ·obtain⟨i,hi,e⟩:=List.mem_iff_getElem.mp hy
  simp at hi e
  have hb:SetTable.below xs j+i<xs.size:=by lia
  have g:=h3 _ hb (by lia)
  rw[e] at g
  rcases Nat.lt_or_ge j y with l|l
  ·exact l
  ·have e2:y=j:=by lia
   exfalso
   by_cases z:i=0
   ·subst z
    apply ne
    rw[Array.getElem?_eq_getElem (by lia)]
    simp at e
    rw[e,e2]
   ·have hb0:SetTable.below xs j<xs.size:=by lia
    have g0:=h3 _ hb0 (Γi _)
    have g1:=rs _ _ hb0 hb (by lia)
    rw[e] at g1;lia
 ·obtain⟨i,hi,e⟩:=List.mem_iff_getElem.mp hx
  simp at hi e
  have gx:=h2 i (by lia) (by lia)
  rw[e] at gx
  rcases List.mem_cons.mp hy with rfl|hy
  ·exact gx
  ·obtain⟨k,hk,e'⟩:=List.mem_iff_getElem.mp hy
   simp at hk e'
   have g:=h3 _ (show SetTable.below xs j+k<xs.size by lia) (by lia)
   rw[e'] at g;lia
def e3e (t:SetTable)(l:Bool):Prop:=t.led=l/\t.dummies = #[]/\(t.plain=true->a9j t.place)
theorem b3z (j:Nat):SetTable.has #[] j=false:=by
 unfold SetTable.has
 rfl
def e3i (l:List (Int×Value)):Prop:=∀ e∈l,∃ k tk,e=(hashInt k,Value.int k tk)
def d2y (l:List (Int×Value)):List Int:=l.map λe=>numOf e.2
structure SetData (w:World)(o:Obj)(ns:List Int)(es:Array (Int×Value)) (ep:Nat)(t:SetTable):Prop where
 ex:o.ExactSet
 dat:o.data=.set es ep t
 num:e3i es.toList
 perm:(d2y es.toList).Perm ns
 a2f:ns.length<scanBound
 fits:t.fits es.size=true
 tab:e3e t (!w.params.followText "set-order")
section
variable {prog:Program}{w:World}{A:Around}{E:Value->Shared->Prop}{s:Shared}{a:Addr}
end
section
variable {prog:Program}{w:World}{A:Around}{E:Value->Shared->Prop}{s:Shared}{a:Addr}
end
section
variable {prog:Program}{w:World}{A:Around}{E:Value->Shared->Prop}{s:Shared}{a:Addr}
inductive Goes (w:World)(h:Heap)(a:Addr)(es:Array (Int×Value)) (ep:Nat)(t:SetTable):List Value->Nat->Value->Prop
 | text {i:Nat}{sl:Nat}:w.params.followText "set-order" = true->Goes w h a es ep t ((pickOrder (w.params.setOrder a ep) es).toList.map (·.2)) i (.int sl 0)
 | table {i:Nat}:w.params.followText "set-order" = false->(!t.plain && decide (es.size > 1))=false->Goes w h a es ep t (es.toList.map (·.2)) i (.int ((if i=0 then 0 else t.place.getD (i-1) 0+1:Nat):Int) 0)
 | drawn {i:Nat}{p:Addr}{od:List Nat}:w.params.followText "set-order" = false->h.IsTuple p (od.map λ(n:Nat)=>rawInt n).toArray->od.Perm (List.range es.size)->Goes w h a es ep t (od.map λn=>(es.getD n (0,.none)).2) i (.ref p)
end
section
variable {prog:Program}{w:World}{A:Around}{E:Value->Shared->Prop}{s:Shared}{a:Addr}{ns:List Int}{o:Obj}{es:Array (Int×Value)}{ep:Nat}{t:SetTable}
end
section
variable {prog:Program}{w:World}{A:Around}{R:Result->Shared->Prop}{E:Value->Shared->Prop}{s:Shared}{I:Addr}{fp wr:List Addr}{G:Array GenState->Array GenState->Prop}{n:Nat}{P:Nat->Value->Prop}{St:Nat->Shared->Prop}
end
abbrev freshSet (w:World):Obj:={ cls:=.type "set",dict:=none,data:=.set #[] 0 (.fresh 0 0 (!w.params.followText "set-order")) }
section
variable {prog:Program}{w:World}{A:Around}{E:Value->Shared->Prop}{s:Shared}
structure NumSrc (prog:Program)(w:World)(s:Shared)(l:Addr)(T:String)(ks:List Int):Prop where
 ty:s.TypeIs (.ref l) T
 su:isSubtype (.type T) (.type "set")=pure false
 sf:isSubtype (.type T) (.type "frozenset")=pure false
 nd:(Value.type T == Value.type "dict")=false
 it:∀ h:Heap,(∀ b o,s.heap.get? b=some o->h.get? b=some o)->∃ (oI:Obj)(P:Nat->Value->Prop)(St:Nat->Heap->Prop),(∀ (A':Around)(E':Value->Shared->Prop)(Q:Value->Shared->Prop),Q (.ref h.objs.size) { s with heap:=h.push oI }->wpAny (model prog w) A' (pyIter (.ref l)) Q E' { s with heap:=h })/\(∀ A':Around,A'.handled=none->Walks prog w A' h.objs.size [h.objs.size,l] [h.objs.size] ks.length P St)/\St 0 (h.push oI)/\∀ i v,P i v->∃ t,v=.int (ks.getD i 0) t
end
section
variable {X:Cx}
end
section
variable {X:Cx}{C:CC}{n:Nat}{sp:Γd->Nat->Sp}{a:Expr}{ea:EW}{pos pos' p p':Pos}
end
end Kq
end
section
namespace L2
open PySem PySem.Spec PyProof.Rows
def b2q (elt:Expr)(acc:Value)(env:Env)(c:Code):Sem Fin:=do
 (do let v <- eval elt env;standAt elt.pos;let _ <- call (.builtin "set.add") [acc,v])
 again c
theorem c2s {prog:Program}{w:World}{A:Around}{E:Value->Shared->Prop}{s:Shared}{Q:Value->Shared->Prop}(q:Q (.ref s.heap.objs.size) { s with heap:=s.heap.push (Kq.freshSet w) }):wpAny (model prog w) A (newSet (.type "set")) Q E s :=
 Γa (Γa (wpAny_askSetting (Γb (Γa (wpAny_alloc (Γb q))))))
section
variable {prog:Program}{w:World}{A:Around}{R:Result->Shared->Prop}{s:Shared}
end
section
variable {X:Cx}{elt tg iter tg2 iter2:Expr}{ifs ifs2:List Expr}{scope:Scope}{own:List Str}{pos:Pos}{wi wi2:TI}{g g2:TG}{tt tt2:TT}{te:TE}
end
end L2
end
section
namespace Kq
open PySem PySem.Spec PyProof.Rows L2
def inS (tg:Tg)(t:BW)(e:EW):List FV->List Int->a0c->(List Int->a0c->Prop)->Prop
 | [],acc,L,Q=>Q acc L
 | y :: r,acc,L,Q=>gW tg y L λL1=>t L1 λb L2=>if b=true then e L2 λv L3=>wp (a3j v) λk=>inS tg t e r (acc++[k]) L3 Q else inS tg t e r acc L2 Q
def b4l (n m:Nat)(tg:Tg)(t:BW)(it2:AW)(tg2:Tg)(t2:BW)(e:EW):List FV->List Int->a0c->(List Int->a0c->Prop)->Prop
 | [],acc,L,Q=>Q acc L
 | x :: xs,acc,L,Q=>gW tg x (L++Γj m none) λL1=>t L1 λb L2=>if b=true then it2 L2 λys L3=>acc.length+ys.length<=4000/\inS tg2 t2 e ys acc L3 λacc' L4=>b4l n m tg t it2 tg2 t2 e xs acc' (L4.take n) Q else b4l n m tg t it2 tg2 t2 e xs acc (L2.take n) Q
def e1n (n m:Nat)(it:AW)(tg:Tg)(t:BW)(it2:AW)(tg2:Tg)(t2:BW)(e:EW):EW:=λL Q=>it L λxs L1=>L1.length=n/\b4l n m tg t it2 tg2 t2 e xs [] L1 λns L2=>ns.length<=4000/\∀ ms:List Int,(∀ x,x∈ms↔x∈ns)->ms.Pairwise (· < ·)->Q (.lst (ms.map .int)) L2
section
variable {X:Cx}{C:CC}{n:Nat}{sp:Γd->Nat->Sp}{a b tg:Expr}{ea eb:EW}{pos p:Pos}
end
section
variable {K:Γd}{c:Cn}{md:Md}{L:a0c}{σ:L2.St}{S H:Hp}
end
section
variable {X:Cx}{C:CC}{n:Nat}{sp:Γd->Nat->Sp}{pos pos' p:Pos}
variable {scope:Scope}{own:List Str}{elt tgx iter tgx2 iter2:Expr}{ifs ifs2:List Expr}{it it2:AW}{tg tg2:Tg}{t t2:BW}{e:EW}{nn m:Nat}{md':Md}
end
def dsF:FV->Option (List D):=λv=>(fD a1m v).bind λd=>match d with|.lst ys=>some ys|_=>none
def idxD (x:D):List D->Option Nat
 | []=>none
 | y :: r=>if D.eqv y x=true then some 0 else (idxD x r).map (· + 1)
def indexF (v w:FV):Option FV:=(dsF v).bind λys=>(fD a1m w).bind λx=>(idxD x ys).bind λj=>if j<big then some (.int (j:Int)) else none
def countF (v w:FV):Option FV:=(dsF v).bind λys=>(fD a1m w).bind λx=>some (.int ((ys.countP λy=>D.eqv y x:Nat):Int))
def eMRN (f:FV->FV->Option FV) (i:Nat)(b:EW):EW:=λL Q=>wp (lk L i) λv=>wp (a6s v) λ_=>b L λy L1=>wp (lk L1 i) λx=>wp (f x y) λz=>Q z L1
section
variable {X:Cx}{pins:List (Addr×Obj)}{s:Shared}{σ:L2.St}{H S:Hp}
end
section
variable {X:Cx}{C:CC}{n:Nat}{sp:Γd->Nat->Sp}{a b:Expr}{ea eb:EW}{p:Pos}{i:Nat}{nx:Str}
end
def e1m (n m:Nat)(it:AW)(tg:Tg)(t:BW)(it2:AW)(tg2:Tg)(t2:BW)(e:EW):EW:=λL Q=>it L λxs L1=>L1.length=n/\b4l n m tg t it2 tg2 t2 e xs [] L1 λns L2=>ns.length<=63/\∀ ms:List Int,(∀ x,x∈ms↔x∈ns)->ms.Pairwise (· < ·)->Q (.lst (ms.map .int)) L2
section
variable {X:Cx}{C:CC}{n:Nat}{sp:Γd->Nat->Sp}{pos pos' p:Pos}
variable {scope:Scope}{own:List Str}{elt tgx iter tgx2 iter2:Expr}{ifs ifs2:List Expr}{it it2:AW}{tg tg2:Tg}{t t2:BW}{e:EW}{nn m:Nat}{md':Md}
end
def a2m:List FV->Option (List (Option Int))
 | []=>some []
 | .int i :: r=>(a2m r).map (some i :: ·)
 | .non :: r=>(a2m r).map (none :: ·)
 | _=>none
def oV:Option Int->V
 | some i=>.int i
 | none=>.non
theorem d1q (x:Option Int):kV (oK x)=oV x:=by cases x<;>rfl
theorem d1r {a b:Option Int}(h:oK a=oK b):a=b:=by
 cases a<;>cases b<;>first|rfl|cases h
 rfl
theorem c4s {a b:List (Option Int)}(h:a.map oK=b.map oK):a=b:=by
 induction a generalizing b with
 | nil=>cases b with|nil=>rfl|cons=>cases h
 | cons x r ih=>cases b with
  | nil=>cases h
  | cons y q =>
   simp only[List.map_cons,List.cons.injEq] at h
   rw[d1r h.1,ih h.2]
theorem b7r {K:Γd}{S:Hp}{ps:List FV}:∀ {xs:List V}{k:List (Option Int)},RVs K S ps xs->a2m ps=some k->xs=k.map oV:=by
 induction ps with
 | nil=>intro xs k r e;cases e;exact r
 | cons p ps ih =>
  intro xs k r e
  obtain⟨v,q,rfl,h1,h2⟩:=r
  cases p with
  | int i =>
   obtain⟨k',e1,rfl⟩:=mpd (show (a2m ps).map (some i :: ·)=some k from e)
   cases (show v=.int i from h1)
   rw[ih h2 e1];rfl
  | non =>
   obtain⟨k',e1,rfl⟩:=mpd (show (a2m ps).map (none :: ·)=some k from e)
   cases (show v=.non from h1)
   rw[ih h2 e1];rfl
  | _=>exact absurd (show (none:Option (List (Option Int)))=some k from e) (by simp)
theorem a8w:∀ (ks:List (List (Option Int)))(us:List V)(k:List (Option Int)),a9l ((a2h ks).zip us) (k.map oK)=a2w ks us k
 | [],us,k=>by cases us<;>rfl
 | k' :: ks,[],k=>rfl
 | k' :: ks,u :: us,k=>by
  show a9l ((k'.map oK,u) :: (a2h ks).zip us) (k.map oK)=if k'=k then some u else a2w ks us k
  by_cases e:k'=k
  ·subst e;rw[a3t rfl,if_pos rfl]
  ·rw[a3u λz=>e (c4s z),if_neg e];exact a8w ks us k
theorem b3j (ks:List (List (Option Int)))(us:List V)(k:List (Option Int))(u:V)(hl:ks.length=us.length):a4w ((a2h ks).zip us) (k.map oK) u=(a2h (a1q ks us k u).1).zip (a1q ks us k u).2:=by
 have hany:(((a2h ks).zip us).any λkv=>decide (kv.1=k.map oK))=true↔k∈ks:=by
  rw[a4g,a8w,a2e k hl]
 unfold a4w a1q
 by_cases e:k∈ks
 ·rw[if_pos (hany.mpr e),if_pos e]
  clear e hany
  induction ks generalizing us with
  | nil=>cases us<;>rfl
  | cons k' ks ih=>cases us with
   | nil=>rfl
   | cons u' us =>
    have:=ih us (by simpa using hl)
    show (if k'.map oK=k.map oK then (k'.map oK,u) else (k'.map oK,u')) :: ((a2h ks).zip us).map _=(k'.map oK,if k'=k then u else u') :: (a2h ks).zip _
    rw[this]
    congr 1
    by_cases e:k'=k
    ·subst e;simp
    ·rw[if_neg λz=>e (c4s z),if_neg e]
 ·rw[if_neg λz=>e (hany.mp z),if_neg e]
  show _=(a2h (ks++[k])).zip (us++[u])
  have:a2h (ks++[k])=a2h ks++[k.map oK]:=by simp[a2h]
  rw[this,List.zip_append (by simpa[a2h] using hl)];rfl
theorem b2l {K:Γd}{S:Hp}{ps:List FV}{k:List (Option Int)}{x:V}(r:RV K S (.tup ps) x)(e:a2m ps=some k):∃ b,x=.ref b/\S b=some (.tup ((k.map oK).map kV)):=by
 obtain⟨b,xs,rfl,h1,h2⟩:=r
 refine⟨b,rfl,?_⟩
 rw[h1,b7r h2 e,List.map_map]
 congr 2
 exact List.map_congr_left λx _=>(d1q x).symm
def a5h (n m:Nat)(tg:Tg)(t:BW)(ek ev:EW):List FV->List (List (Option Int))->List FV->a0c->(List (List (Option Int))->List FV->a0c->Prop)->Prop
 | [],ks,vs,L,Q=>Q ks vs L
 | x :: xs,ks,vs,L,Q=>gW tg x (L++Γj m none) λL1=>t L1 λb L2=>if b=true then ek L2 λkx L3=>wp (a5l kx) λps=>wp (a2m ps) λk=>ev L3 λv L4=>a5h n m tg t ek ev xs (a1q ks vs k v).1 (a1q ks vs k v).2 (L4.take n) Q else a5h n m tg t ek ev xs ks vs (L2.take n) Q
def b4i (n m:Nat)(it:AW)(tg:Tg)(t:BW)(ek ev:EW):EW:=λL Q=>it L λxs L1=>L1.length=n/\xs.length<=big/\a5h n m tg t ek ev xs [] [] L1 λks vs L2=>Q (.dcn none ks vs) L2
section
variable {K:Γd}{c:Cn}{md:Md}{L:a0c}{σ:L2.St}{S H:Hp}
theorem c0f {J:It}{xs:List FV}{n m:Nat}{tg:Tg}{t:BW}{ek ev:EW}{Q:VK}{Q1:List (List (Option Int))->List FV->a0c->Prop}(I:Iv K c md L σ S H)(hJ:ItR K c md J xs S)(hL:L.length=n)(hmd:md.length<=n)(ht:a3a md tg=true)(hg:a4v n tg=true)(hb:xs.length<=big)(h:a5h n m tg t ek ev xs [] [] L Q1)
  (k:∀ acc ks vs us L' S' H',H acc=none->Q1 ks vs L'->S' acc=none->H' acc=some (.dT ((a2h ks).zip us))->ks.length=vs.length->RVs K S' vs us->a6q c md L' σ acc->Iv K c md L' σ S' H'->Same S S'->Q (.ref acc) H') :
  ∀ acc,H acc=none->∃ W:Nat->Nat->Hp->Prop,(∃ m,W 0 m (upd H acc (.dT [])))/\∀ i j H,W i j H ->
   (J.stop i H/\Q (.ref acc) H) ∨ (J.go i H/\∀ x H',J.yld i H x H'->gT K tg x (σ++Γj m none) H' λσ2 H2=>Wk (σ++Γj m none) σ2/\lb K md t σ2 H2 λb H3 =>
    if b=true then emD (lv K md ek) (lv K md ev) acc σ2 H3 λH4=>∃ m',m'<j/\W (i+1) m' H4 else ∃ m',m'<j/\W (i+1) m' H3):=by
 intro acc hacc
 have h0:=I.h0 hacc
 have hp:∀ p∈c.pr,p.1≠acc:=(I.fresh hacc).2.1
 have hz:=I.fzp
 have hbl:=a0y
 refine a3q (α:=List (List (Option Int))×List FV) (β:=List (List (Option Int))×List V) (fr:=λb=>{ c with pr:=(acc,.dT ((a2h b.1).zip b.2)) :: c.pr }) (P:=λa b S=>a.1=b.1/\a.1.length=a.2.length/\RVs K S a.2 b.2) (N:=λa=>a.1.length) (Cm:=λxs a L=>a5h n m tg t ek ev xs a.1 a.2 L Q1) (em:=λa L3 K'=>ek L3 λkx L4=>wp (a5l kx) λps=>wp (a2m ps) λk=>ev L4 λv L5=>K' (a1q a.1 a.2 k v) L5) (a0:=([],[])) (b0:=([],[])) ((I.lay hacc _).prot a0d (I.sn hacc) λj w hm hj=>(I.fresh hacc).2.2 j w (Mo.w_imm hm) hj) hJ hL hmd ht hg ⟨rfl,rfl,rfl⟩ rfl h (λ_ _ _ _ _ _ I _=>I.unprot hz) (λ_ _ _ _ ⟨e,l,r⟩ s=>⟨e,l,r.mono s⟩) (λ_ _ _ _ h=>h) (λ⟨ks,vs⟩ ⟨ks',us⟩ L3 σ2 S3 H3 K' Z hn I3 ⟨e,hkl,r⟩ hv kz=>?_) λ⟨ks,vs⟩ ⟨ks',us⟩ L' S' H' q I' ⟨e,hkl,r⟩ s'=>?_
 ·cases (show ks=ks' from e)
  dsimp only at hn hkl r
  refine⟨_,L3,S3,_,I3,hv,λkx L4 hk u S4 H4 r4 I4 s4=>?_⟩
  obtain⟨ps,e1,hk1⟩:=wpx hk
  obtain⟨kk,e2,hk2⟩:=wpx hk1
  cases a1u e1
  obtain⟨b,rfl,hb4⟩:=b2l r4 e2
  refine⟨_,L4,S4,_,I4,hk2,λv L5 hv u S5 H5 r5 I5 s5=>?_⟩
  have lr:=r.length
  obtain⟨pe,pr⟩:=a3v (ks:=ks) (k:=kk) (r.mono (s4.trans s5)) r5
  obtain⟨pl1,pl2⟩:=a3c ks vs kk v hkl
  refine⟨_,kk.map oK,b,(I5.prs (acc,_) Γn).1,rfl,I5.sub _ _ (s5 _ _ hb4),by rw[List.length_zip,show (a2h ks).length=ks.length by simp[a2h]];lia,?_⟩
  rw[b3j ks us kk u (by lia)]
  exact kz _ (a1q ks us kk u) L5 S5 _ hv (I5.regrow h0 hp hz) ⟨pe,pl1,pr⟩ (s4.trans s5) pl2
 ·cases (show ks=ks' from e)
  obtain⟨g1,g2,f⟩:=I'.newPr h0 hp hz
  exact k acc ks vs us L' S' H' hacc q g2 g1 hkl r f (I'.unprot hz) s'
end
section
variable {X:Cx}{C:CC}{n:Nat}{sp:Γd->Nat->Sp}{pos:Pos}{scope:Scope}{own:List Str}{kx vx tgx iter:Expr}{ifs:List Expr}{it:AW}{tg:Tg}{t:BW}{ek ev:EW}{nn m:Nat}{md':Md}
end
def c8s (v w:FV):Option FV:=match v with
 | .dcn _ ks vs=>(a5l w).bind λps=>(a2m ps).bind λk=>a2w ks vs k
 | _=>none
def c9l (v j x:FV):Option FV:=match v with
 | .dcn none ks vs=>(a5l j).bind λps=>(a2m ps).bind λk=>if ks.length<big then some (.dcn none (a1q ks vs k x).1 (a1q ks vs k x).2) else none
 | _=>none
def c5v (k:Nat)(i e:EW):SW:=λL Q=>wp (lk L k) λ_=>e L λx L1=>i L1 λj L2=>wp (lk L2 k) λy=>wp (c9l y j x) λz=>Q .next (L2.set k (some z))
def c1y (f:Int->Int->Int) (k:Nat)(i e:EW):SW:=λL Q=>wp (lk L k) λ_=>i L λj L1=>wp (lk L1 k) λv=>wp (c8s v j) λx0=>wp (a3j x0) λa=>e L1 λx L2=>wp (a3j x) λb=>wp (lk L2 k) λw=>wp (c9l w j (.int (f a b))) λz=>Q .next (L2.set k (some z))
section
variable {K:Γd}{S H:Hp}{c:Cn}{md:Md}{L:a0c}{σ:L2.St}
theorem RH.dcn {z:Option Obj}{ks:List (List (Option Int))}{vs:List FV}{x:V}(hs:Same S H)(r:RH K S H (.dcn z ks vs) x):∃ a us,x=.ref a/\ks.length=vs.length/\H a=some (hoN (.dT ((a2h ks).zip us)) z)/\RVs K S vs us:=by
 rcases r with⟨a,xs,e,h0,h1,h2⟩|⟨a,e,_,qs,xs,e2,h1,h2⟩
 ·exact⟨a,xs,e,h0,hs _ _ h1,h2⟩
 ·obtain⟨hl,rfl⟩:=itd e2
  exact⟨a,xs,e,hl,h1,h2⟩
theorem d0i {H:Hp}{a:Addr}{u:HO}{z:Option Obj}(h:H a=some (hoN u z)):Rd H a u:=by
 cases z with
 | none=>exact .inl h
 | some o=>exact .inr ⟨o,h⟩
theorem b9t {v w z:FV}{x y:V}(hs:Same S H)(rv:RH K S H v x)(rw':RH K S H w y)(e:c8s v w=some z):∃ a u,x=.ref a/\L2.DGet H a y (some u)/\RV K S z u:=by
 cases v with
 | dcn o ks vs =>
  obtain⟨ps,e1,e2⟩:=bnd e
  obtain⟨k,e3,e4⟩:=bnd e2
  cases a1u e1
  obtain⟨a,us,rfl,hl,h1,h2⟩:=rv.dcn hs
  obtain⟨b,rfl,hb⟩:=b2l (rw'.val rfl) e3
  obtain⟨u,g1,g2⟩:=a5q h2 e4
  refine⟨a,u,rfl,?_,g2⟩
  rw[<- g1,<- a8w]
  exact .inr ⟨_,_,b,d0i h1,rfl,hs _ _ hb,rfl⟩
 | _=>cases e
theorem b9s {i:Nat}{v j x z:FV}{a:Addr}{y u:V}(I:Iv K c md L σ S H)(m:a0g md i=.own)(e:L[i]?=some (some v))(e1:σ[i]?=some (some (.ref a)))(rj:RV K S j y)(rx:RV K S x u)(h:c9l v j x=some z):∃ H',L2.DPut H a y u H'/\Iv K c md (L.set i (some z)) σ S H':=by
 obtain⟨a',f1,⟨o1,ps,us,e9,o2,o3⟩,_⟩:=I.own i v (λz=>by rw[m] at z;cases z) e
 rw[e1] at f1;cases f1
 have hbl:=a0y
 cases v with
 | dcn o ks vs =>
  cases o with
  | some o=>cases h
  | none =>
   obtain⟨qs,g1,h⟩:=bnd h
   obtain⟨k,g2,h⟩:=bnd h
   obtain⟨hb,rfl⟩:=itd h
   obtain⟨hl,rfl⟩:=itd e9
   cases a1u g1
   obtain⟨b,rfl,hkb⟩:=b2l rj g2
   have hu:ks.length=us.length:=by rw[hl,o3.length]
   obtain⟨p1,p2⟩:=a3v (ks:=ks) (k:=k) o3 rx
   refine⟨_,.t o2 (I.sub _ _ hkb) (by simp[a2h];lia),?_⟩
   rw[b3j ks us k u hu,<- p1]
   exact I.writeV (w:=.dcn none _ _) m e e1 (if_pos (a3c ks _ k x hl).1) p2
 | _=>cases h
end
section
variable {X:Cx}{C:CC}{n:Nat}{sp:Γd->Nat->Sp}{fr:Bool}{a b:Expr}{ea eb:EW}{pos p px:Pos}{i:Nat}{nx:Str}
theorem e0c (G:Good X C n sp)(hs:a2b b=false)(h:C.nm i nx=true)(hb:FR X C b eb):FE X C (.Subscript (.Name nx p) b pos) (a9n c8s i eb):=PE.imp (b1z (X:=X.nox) (by have:=G.room.units;show X.A.units+1<cLine;lia) (a1k G h) hb (a4j hs)) λσ H Q ⟨c,L,S,Q0,I,h,k⟩=>by
 obtain⟨v0,e,h⟩:=wpx h
 obtain⟨x,e1,_⟩:=I.rd e
 refine⟨x,e1,c,L,S,_,I,h,λw L2 hw y S2 H2 r2 I2 s2=>?_⟩
 obtain⟨v,e2,q⟩:=wpx hw
 obtain⟨x',e3,r1⟩:=I2.rd e2
 rw[e1] at e3;cases e3
 obtain⟨z,e4,q⟩:=wpx q
 obtain⟨a,u,rfl,g,r5⟩:=b9t I2.sub r1 r2 e4
 exact⟨a,u,rfl,g,k z L2 q u S2 H2 r5 I2 s2⟩
theorem d4u (G:Good X C n sp)(hn:C.nm i nx=true)(m:a0g C.md i=.own)(hc:(!a6f a && !a2b b)=true)(ha:FE X C a ea)(hb:FE X C b eb):FS X C fr (.Assign [.Subscript (.Name nx px) b p] a pos) (c5v i eb ea):=by
 have hc:=b2 hc
 refine PS.imp (b7e (X:=X.nox) (by have:=G.room.units;show X.A.units+1<cLine;lia) (a1k (pos:=px) G hn) hb ha (a3b (nb hc.1))) λD σ H ⟨c,L,S,Q0,I,h,k⟩=>?_
 have mi:a0g C.md i≠.imm:=λz=>by rw[m] at z;cases z
 obtain⟨v0,e,h⟩:=wpx h
 obtain⟨l,e1,_⟩:=I.own i v0 mi ((a1v _ _ _).mp e)
 refine⟨c,L,S,_,I,h,λv L1 q x S1 H1 r1 I1 s1=>⟨_,e1,c,L1,S1,_,I1,q,λw L2 q y S2 H2 r2 I2 s2=>?_⟩⟩
 obtain⟨v1,e2,q2⟩:=wpx q
 obtain⟨z,e3,q3⟩:=wpx q2
 have e2:=(a1v _ _ _).mp e2
 obtain⟨H3,g,I3⟩:=b9s I2 m e2 e1 r2 (r1.mono s2) e3
 exact⟨l,H3,rfl,g,k .next _ q3 σ S2 _ I3 (s1.trans s2)⟩
theorem d4a {op:Operator}{f:Int->Int->Int}(hop:InOp X.nox op (ipI f))(G:Good X C n sp)(hn:C.nm i nx=true)(m:a0g C.md i=.own)(hs:a2b b=false)(hb:FE X C b eb)(ha:FE X C a ea):FS X C fr (.AugAssign (.Subscript (.Name nx px) b p) op a pos) (c1y f i eb ea):=by
 refine PS.imp (c6j (X:=X.nox) (by have:=G.room.units;show X.A.units+1<cLine;lia) (a1k (pos:=px) G hn) hb ha hop (by cases b<;>first|(intros;rfl)|cases hs)) λD σ H ⟨c,L,S,Q0,I,h,k⟩=>?_
 have mi:a0g C.md i≠.imm:=λz=>by rw[m] at z;cases z
 obtain⟨v0,e,h⟩:=wpx h
 obtain⟨l,e1,_⟩:=I.own i v0 mi ((a1v _ _ _).mp e)
 refine⟨_,e1,c,L,S,_,I,h,λj L1 q y S1 H1 r1 I1 s1=>?_⟩
 obtain⟨v1,e2,q⟩:=wpx q
 obtain⟨x0,e3,q⟩:=wpx q
 obtain⟨a0,e4,q⟩:=wpx q
 obtain⟨x',f1,rv⟩:=I1.rd e2
 rw[e1] at f1;cases f1
 obtain⟨a',u,ea',g,r3⟩:=b9t I1.sub rv (.inl r1) e3
 cases ea'
 refine⟨_,u,rfl,g,c,L1,S1,_,I1,q,λx L2 q y2 S2 H2 r2 I2 s2=>?_⟩
 obtain⟨b0,e5,q5⟩:=wpx q
 obtain⟨w,e6,q6⟩:=wpx q5
 obtain⟨z,e7,q7⟩:=wpx q6
 clear q
 cases a1g e4
 cases a1g e5
 cases (show u=V.int a0 from r3)
 cases (show y2=V.int b0 from r2)
 refine⟨a0,b0,rfl,rfl,?_⟩
 obtain⟨H3,g3,I3⟩:=b9s I2 m ((a1v _ _ _).mp e6) e1 (r1.mono s2) (x:=.int (f a0 b0)) (u:=V.int (f a0 b0)) rfl e7
 exact⟨H3,g3,k .next _ q7 σ S2 _ I3 (s1.trans s2)⟩
theorem d9h (G:Good X C n sp)(hn:C.nm i nx=true)(m:a0g C.md i=.own)(hs:a2b b=false)(hb:FE X C b eb)(ha:FE X C a ea):FS X C fr (.AugAssign (.Subscript (.Name nx px) b p) .Sub a pos) (c1y (λi j=>i-j) i eb ea):=d4a d2p G hn m hs hb ha
end
section
variable {X:Cx}{pins pins0:List (Addr×Obj)}{σ σ0:L2.St}{H H0:Hp}{s s0:Shared}{a:Addr}
theorem c3g {kvs kvs0:List (List (Int ⊕ Option Str)×V)}{o:Obj}(I0:Inv X pins0 σ0 H0 s0)(h0:H0 a=some (.dT kvs0))(I:Inv X pins σ H s)(h:H a=some (.frz o (.dT kvs))):Inv X pins σ (upd H a (.dT kvs)) s:=by
 have ne:∀ {b:Addr}{u:HO},H b=some u->u≠.frz o (.dT kvs)->b≠a:=λe n z=>by subst z;rw[h] at e;exact n (Option.some.inj e).symm
 have none':∀ {b:Addr},H b=none->upd H a (.dT kvs) b=none:=λ{b} e=>by rw[a0e (λz=>by subst z;rw[h] at e;cases e)];exact e
 have ow:∀ b c,H b=some (.own c)->upd H a (.dT kvs) b=some (.own c):=λb c e=>by rw[a0e (ne e (λz=>nomatch z))];exact e
 have tu:∀ b xs,H b=some (.tup xs)->upd H a (.dT kvs) b=some (.tup xs):=λb xs e=>by rw[a0e (ne e (λz=>nomatch z))];exact e
 refine⟨I.ok,I.os,I.bare,⟨I.base.keep,I.base.slot,λb o e n hx=>none' (I.base.free b o e n hx),I.base.there,λb xs e=>tu b xs (I.base.tups b xs e),λb o' u e=>?_,λb ps e=>?_⟩,I.loc,I.cell,none' I.free,λx c e=>none' (I.freeC x c e),λp hp=>?_,λb u e=>?_,I.len⟩
 ·have g:=I.base.frzs b o' u e
  rw[a0e λz=>by subst z;rw[I0.base.frzs b o' u e] at h0;cases h0];exact g
 ·obtain⟨more,g⟩:=I.base.tbls b ps e
  exact⟨more,by rw[a0e (ne g (λz=>nomatch z))];exact g⟩
 ·obtain⟨g1,g2,g3⟩:=I.pin p hp
  exact⟨g1,none' g2,g3⟩
 ·by_cases z:b=a
  ·subst z
   rw[a0d] at e;cases e
   obtain⟨_,q⟩:=(show ObjOk X.prog X.w H s.heap b (.frz o (.dT kvs)) from I.hok b _ h)
   exact q.stay (λ_ _ _ q=>q) (λc e=>ow c b e) tu
  ·rw[a0e z] at e
   exact (I.hok b u e).stay (λ_ _ _ q=>q) (λc e=>ow c b e) tu
theorem c6i {st:Stmt}{t:TS}(hs:PS X st t):PS X st (λD σ H=>∃ a kvs,H a=some (.dT kvs)/\∀ o,t ⟨λσ' H2=>∃ kvs2,H2 a=some (.frz o (.dT kvs2))/\D.nx σ' (upd H2 a (.dT kvs2)),λ_ _=>False,λ_ _=>False,λ_ _=>False⟩ σ (upd H a (.frz o (.dT kvs)))):=by
 intro pins s σ H D I ⟨a,kvs,h,hh⟩
 obtain⟨o,es,ep,f1,f2,_⟩:=b0v (show ObjOk X.prog X.w H s.heap a (.dT kvs) from I.hok a _ h)
 refine wpAny_mono (hs pins s σ _ _ (b3y I h f1) (hh o)) (λfl s1 q=>?_) λ_ _ z=>z
 cases fl with
 | next =>
  obtain⟨σ',H2,I2,kvs2,h2,q⟩:=q
  exact⟨σ',_,c3g I h I2 h2,q⟩
 | brk=>obtain⟨_,_,_,z⟩:=q;exact z.elim
 | cont=>obtain⟨_,_,_,z⟩:=q;exact z.elim
 | ret u=>obtain⟨_,_,_,_,_,z⟩:=q;exact z.elim
end
def d6n (j:Nat)(s:SW):SW:=λL Q=>wp (lk L j) λv=>match v with
 | .dcn none ks vs=>∀ o,s (L.set j (some (.dcn (some o) ks vs))) λfl L1=>match fl with
  | .next=>wp (lk L1 j) λw=>match w with
   | .dcn (some _) ks' vs'=>Q .next (L1.set j (some (.dcn none ks' vs')))
   | _=>False
  | _=>False
 | _=>False
def oF:Option Int->FV
 | some i=>.int i
 | none=>.non
def d2j (k:List (Option Int)):FV:=.tup (k.map oF)
def b9a (j:Nat):AW:=λL Q=>wp (lk L j) λv=>match v with
 | .dcn (some _) ks _=>Q (ks.map d2j) L
 | _=>False
section
variable {X:Cx}{C:CC}{n:Nat}{sp:Γd->Nat->Sp}{tg:Expr}{p:Pos}{i j:Nat}{nx:Str}{fr:Bool}{st:Stmt}{s:SW}
variable {K:Γd}{c:Cn}{md:Md}{S:Hp}
theorem RVs.os:∀ (k:List (Option Int)),RVs K S (k.map oF) (k.map oV)
 | []=>rfl
 | some i :: k=>⟨_,_,rfl,rfl,RVs.os k⟩
 | none :: k=>⟨_,_,rfl,rfl,RVs.os k⟩
theorem c3f {a:Addr}{o:Obj}{ks:List (List (Option Int))}{us:List V}{S1:Hp}(hl:ks.length=us.length)(hp:(a,HO.frz o (.dT ((a2h ks).zip us)))∈c.pr):ItR K c md (Itk a o ((a2h ks).zip us)) (ks.map d2j) S1:=by
 intro i L σ S H I s
 have ha:=(I.prs _ hp).1
 have hz:((a2h ks).zip us).length=ks.length:=by rw[List.length_zip];simp[a2h];lia
 refine⟨λe=>⟨ha,?_⟩,λp ep=>?_⟩
 ·have:=List.getElem?_eq_none_iff.mp e
  rw[List.length_map] at this;lia
 ·rw[List.getElem?_map] at ep
  obtain⟨k,ek,rfl⟩:=Option.map_eq_some_iff.mp ep
  have hi:=(List.getElem?_eq_some_iff.mp ek).1
  refine⟨⟨ha,by lia⟩,λv H' ⟨eh,b,q,ev,eq,hb⟩=>?_⟩
  subst eh;subst ev
  have hq:q.1=k.map oK:=by
   obtain⟨q1,q2⟩:=q
   have:=(List.getElem?_zip_eq_some.mp eq).1
   rw[a2h,List.getElem?_map,ek] at this
   simpa using this.symm
  rw[hq,List.map_map] at hb
  have hb:H' b=some (.tup (k.map oV)):=by rw[hb];congr 2;exact List.map_congr_left λx _=>d1q x
  exact⟨_,(I.tup hb).2,λc md L σ J=>(J.tup hb).1,b,_,rfl,a0d,RVs.os k⟩
theorem d4v (G:Good X C n sp)(h:C.nm i nx=true)(m:a0g C.md i=.frz):FI X C C.md tg (.Name nx p) (b9a i):=PI.imp (c6n (a1k G h)) λσ H R ⟨c,L,S,Q0,I,h,k⟩=>by
 obtain⟨v,e,h⟩:=wpx h
 have e:=(a1v _ _ _).mp e
 obtain⟨l,e1,⟨o1,qs,us,e2,o2,o3⟩,o4⟩:=I.own i v (λz=>by rw[m] at z;cases z) e
 obtain⟨b,g1⟩:=I.fzm i _ m e
 obtain⟨ys,g2⟩:=I.fzp _ g1
 obtain⟨_,g3,_⟩:=I.fzs _ g1
 rw[e1] at g3;cases g3
 have g4:=(I.prs _ g2).1
 rw[o2] at g4;cases g4
 cases v with
 | dcn o ks vs =>
  cases o with
  | none=>exact h.elim
  | some o =>
   obtain⟨hl,rfl⟩:=itd e2
   have hlu:=o3.length
   exact⟨_,e1,_,_,rfl,.inr ⟨o,o2,k _ _ h _ _ S _ I (λ_ _ _ _ J=>J) rfl (c3f (by lia) g2) (Same.refl S)⟩⟩
 | _=>exact h.elim
theorem fs_thw (G:Good X C n sp)(m:a0g C.md j=.own)(hr:Good X (C.wmd (C.md.set j .frz)) n sp->FS X (C.wmd (C.md.set j .frz)) fr st s):FS X C fr st (d6n j s):=PS.imp (c6i (hr (G.wmd _))) λD σ H ⟨c,L,S,Q0,I,hh,k⟩=>by
 obtain⟨v,e,hh⟩:=wpx hh
 have e:=(a1v _ _ _).mp e
 have mi:a0g C.md j≠.imm:=λz=>by rw[m] at z;cases z
 obtain⟨l,e1,⟨o1,qs,us,e2,o2,o3⟩,o4⟩:=I.own j v mi e
 cases v with
 | dcn z ks vs =>
  cases z with
  | some o=>exact hh.elim
  | none =>
   obtain⟨hl,rfl⟩:=itd e2
   refine⟨l,_,o2,λo=>?_⟩
   have I1:=I.writeV (w:=.dcn (some o) ks vs) m e e1 (if_pos hl) o3
   have hi:=(List.getElem?_eq_some_iff.mp e).1
   obtain⟨I2,un⟩:=I1.frz m (List.getElem?_set_self hi) e1 a0d
   refine⟨_,_,S,_,I2,hh o,λfl L1 q σ1 S1 H1 J s1=>?_⟩
   cases fl with
   | next =>
    obtain⟨w,e5,q⟩:=wpx q
    have e5:=(a1v _ _ _).mp e5
    have J0:=un _ _ _ _ J
    obtain⟨_,g1,_⟩:=J.fzs (j,l) Γn
    have g2:=(J.prs (l,_) Γn).1
    obtain⟨l',f1,⟨p1,qs',us',p2,p3,p4⟩,_⟩:=J0.own j w mi e5
    rw[g1] at f1;cases f1
    cases w with
    | dcn z ks' vs' =>
     cases z with
     | none=>exact q.elim
     | some o' =>
      rw[g2] at p3
      obtain⟨hl',rfl⟩:=itd p2
      refine⟨_,g2,?_⟩
      have e6:=Option.some.inj p3
      injection e6 with e7 e8
      rw[e8]
      exact k .next _ q σ1 S1 _ (J0.writeV (w:=.dcn none ks' vs') m e5 g1 (if_pos hl') p4) s1
    | _=>exact q.elim
   | _=>exact q.elim
 | _=>exact hh.elim
end
theorem b8z {M:Model}{A:Around}{E:Value->Shared->Prop}{s:Shared}{a b:Value}{T id:String}{Q:Value->Shared->Prop}(ha:s.TypeIs a T)(hb:s.TypeIs b T)
  (hyes:typeLookup (.type T) (dunderI "add")=pure (some (.builtin id)))(hq:isSeqSlot (some (.builtin id))=true)(hfill:fillsNumberSlot (.type T) "add" = pure false)
  (hc:wpAny M A (call (.builtin id) [a,b]) Q E s):wpAny M A (inplaceOp .Add a b) Q E s:=by
 unfold inplaceOp
 refine Γg ?_
 have hfi:fillsInplaceSlot (.type T) "add" (Operator.Add == .Add)=pure false:=by
  unfold fillsInplaceSlot
  show (typeLookup (.type T) (dunderI "add") >>= λfi=>pure (fi.isSome && !isSeqSlot fi))=pure false
  rw[hyes]
  show (pure ((some (Value.builtin id)).isSome && !isSeqSlot (some (.builtin id))):Sem Bool)=_
  rw[hq];rfl
 have hsi:seqSlot? (.type T) (dunderI "add")=pure (some (.builtin id)):=by
  unfold seqSlot?
  rw[hyes]
  show (if (!isSeqSlot (some (Value.builtin id)))=true then _ else _)=_
  rw[hq];rfl
 refine Γa (wpAny_typeOf ha (Γa (wpAny_of_eq hfi ?_)))
 show wpAny M A (if false=true then _ else _) Q E s
 rw[if_neg Γk]
 refine Γa (wpAny_binaryOp1_none (nm:="add") ha hb hfill ?_)
 refine Γa (wpAny_of_eq hsi ?_)
 exact Γa (wpAny_rule hc)
def ipL:TIp:=λx y H Q=>∃ l b xs zs,x=.ref l/\y=.ref b/\H l=some (.lst xs)/\H b=some (.lst zs)/\xs.length+zs.length<=sizeLine/\Q (.ref l) (upd H l (.lst (xs++zs)))
section
variable {X:Cx}
theorem c7v:PIp X .Add ipL:=by
 intro pins s σ H x y v u Q I rx ry h
 obtain⟨l,b,xs,zs,rfl,rfl,hH,hB,hz,q⟩:=h
 cases rx
 cases ry
 obtain⟨z,its,n,r,hl,e⟩:=I.lstM hH
 obtain⟨z2,its2,n2,r2,hl2,e2⟩:=I.lstM hB
 have hsz:its.toArray.size+its2.toArray.size<=sizeLine:=by rw[List.size_toArray,List.size_toArray];lia
 have hlong:¬ (!its.toArray.isEmpty && Builtin.List.listTooLong (its.toArray.size+its2.toArray.size))=true:=by
  rw[a5o hsz,Bool.and_false]
  exact Γk
 refine b8z (T:="list") (id:="list.__iadd__") ⟨_,e,rfl⟩ ⟨_,e2,rfl⟩ F.slot_list_iadd.lookup (by nofun) noFill_list_add ?_
 refine call_meets F.slot_list_iadd ⟨_,e,rfl⟩ F.entry_list_iadd (F.args_list_iadd_2 _ _)
  (AutoSeq1.list___iadd___list_list_0 l its.toArray n b its2.toArray n2 hlong (by rw[List.size_toArray];lia) (by lia)) ⟨e,e2,?_⟩
 refine⟨.ref l,_,I.lset (its':=its++its2) hH e (by simp) (r.append r2) ?_,rfl,q⟩
 rw[List.length_append]
 lia
end
def c8h (x y:FV):Option FV:=(a6s x).bind λxs=>(a6s y).bind λys=>if xs.length+ys.length<=big then some (.lst (xs++ys)) else none
def c1z (i:Nat)(e:EW):SW:=λL Q=>wp (lk L i) λ_=>e L λy L1=>wp (lk L1 i) λx=>wp (c8h x y) λz=>Q .next (L1.set i (some z))
section
variable {X:Cx}{C:CC}{n:Nat}{sp:Γd->Nat->Sp}{fr:Bool}{a:Expr}{e:EW}{pos px:Pos}{i:Nat}{nx:Str}
theorem d9i (G:Good X C n sp)(ht:C.tn i nx=true)(m:a0g C.md i=.own)(h:FE X C a e):FS X C fr (.AugAssign (.Name nx px) .Add a pos) (c1z i e):=by
 have ht:=b2 ht
 obtain⟨l1,l2⟩:=G.loc ht.2
 refine PS.imp (c4n (X:=X.nox) G.nd' (G.ix ht.1) l1 h c7v l2) λD σ H ⟨c,L,S,Q0,I,h,k⟩=>?_
 have mi:a0g C.md i≠.imm:=λz=>by rw[m] at z;cases z
 obtain⟨v0,e0,h⟩:=wpx h
 obtain⟨l,e1,_⟩:=I.own i v0 mi ((a1v _ _ _).mp e0)
 refine⟨_,e1,c,L,S,_,I,h,λy L1 q u S1 H1 r1 I1 s1=>?_⟩
 obtain⟨x,e2,q2⟩:=wpx q
 obtain⟨z,e3,q3⟩:=wpx q2
 obtain⟨xs,e4,e5⟩:=bnd e3
 obtain⟨ys,e6,e7⟩:=bnd e5
 obtain⟨hb,rfl⟩:=itd e7
 cases a3o e4
 cases a3o e6
 have e2:=(a1v _ _ _).mp e2
 obtain⟨l',f1,⟨g1,ps,us,g2,g3,g4⟩,_⟩:=I1.own i _ mi e2
 rw[e1] at f1;cases f1
 cases g2
 obtain⟨b,ws,rfl,h1,h2⟩:=r1
 have hbl:=a0y
 have p1:=g4.length
 have p2:=h2.length
 refine⟨l,b,us,ws,rfl,rfl,g3,I1.sub _ _ h1,by lia,?_⟩
 have es:σ.set i (some (V.ref l))=σ:=by
  apply List.ext_getElem?
  intro j
  by_cases hj:j=i
  ·subst hj
   rw[List.getElem?_set_self (List.getElem?_eq_some_iff.mp e1).1,e1]
  ·rw[List.getElem?_set_ne (Ne.symm hj)]
 show D.nx (σ.set i (some (V.ref l))) _
 rw[es]
 exact k .next _ q3 σ S1 _ (I1.write m e2 e1 (g4.append h2)) s1
end
section
variable {X:Cx}{C:CC}{n:Nat}{sp:Γd->Nat->Sp}{fr:Bool}{a b:Expr}{ea eb:EW}{pos px py pt p2:Pos}{i j kt k2:Nat}{nx ny:Str}
end
section
variable (Q:FV->Prop)(L:a0c)
@[scoped simp ↓] theorem k_dgn (z:Option Obj)(ks:List (List (Option Int)))(vs ps:List FV):wp (c8s (.dcn z ks vs) (.tup ps)) Q↔wp (a2m ps) λk=>wp (a2w ks vs k) Q:=by
 show wp ((a2m ps).bind _) Q↔_;rw[a2a]
@[scoped simp ↓] theorem k_dpn (ks:List (List (Option Int)))(vs ps:List FV)(x:FV):wp (c9l (.dcn none ks vs) (.tup ps) x) Q↔wp (a2m ps) λk=>ks.length<big/\Q (.dcn none (a1q ks vs k x).1 (a1q ks vs k x).2):=by
 show wp ((a2m ps).bind _) Q↔_
 rw[a2a]
 cases a2m ps with
 | none=>exact Iff.rfl
 | some k =>
  show wp (if _ then _ else _) Q↔_
  split
  ·rename_i h;exact⟨λq=>⟨h,q⟩,λq=>q.2⟩
  ·rename_i h;exact⟨λq=>q.elim,λq=>absurd q.1 h⟩
@[scoped simp ↓] theorem opts_n (Q:List (Option Int)->Prop):wp (a2m []) Q=Q []:=propext Iff.rfl
@[scoped simp ↓] theorem opts_i (i:Int)(r:List FV)(Q:List (Option Int)->Prop):wp (a2m (.int i :: r)) Q↔wp (a2m r) λns=>Q (some i :: ns):=by
 show wp ((a2m r).map _) Q↔_;rw[a1x]
@[scoped simp ↓] theorem opts_o (r:List FV)(Q:List (Option Int)->Prop):wp (a2m (.non :: r)) Q↔wp (a2m r) λns=>Q (none :: ns):=by
 show wp ((a2m r).map _) Q↔_;rw[a1x]
@[scoped simp ↓] theorem d4f (k:Nat)(i e:EW)(Q:FFl->a0c->Prop):c5v k i e L Q=(wp (lk L k) λ_=>e L λx L1=>i L1 λj L2=>wp (lk L2 k) λy=>wp (c9l y j x) λz=>Q .next (L2.set k (some z))):=propext Iff.rfl
@[scoped simp ↓] theorem d4i (f:Int->Int->Int) (k:Nat)(i e:EW)(Q:FFl->a0c->Prop):c1y f k i e L Q=(wp (lk L k) λ_=>i L λj L1=>wp (lk L1 k) λv=>wp (c8s v j) λx0=>wp (a3j x0) λa=>e L1 λx L2=>wp (a3j x) λb=>wp (lk L2 k) λw=>wp (c9l w j (.int (f a b))) λz=>Q .next (L2.set k (some z))):=propext Iff.rfl
@[scoped simp ↓] theorem d4j (i:Nat)(e:EW)(Q:FFl->a0c->Prop):c1z i e L Q=(wp (lk L i) λ_=>e L λy L1=>wp (lk L1 i) λx=>wp (c8h x y) λz=>Q .next (L1.set i (some z))):=propext Iff.rfl
@[scoped simp ↓] theorem k_extL (xs ys:List FV):wp (c8h (.lst xs) (.lst ys)) Q↔xs.length+ys.length<=big/\Q (.lst (xs++ys)):=by
 show wp (if _ then _ else _) Q↔_
 split
 ·rename_i h;exact⟨λq=>⟨h,q⟩,λq=>q.2⟩
 ·rename_i h;exact⟨λq=>q.elim,λq=>absurd q.1 h⟩
@[scoped simp ↓] theorem d6m (j:Nat)(s:SW)(Q:FFl->a0c->Prop):d6n j s L Q=(wp (lk L j) λv=>match v with
 | .dcn none ks vs=>∀ o,s (L.set j (some (.dcn (some o) ks vs))) λfl L1=>match fl with
  | .next=>wp (lk L1 j) λw=>match w with
   | .dcn (some _) ks' vs'=>Q .next (L1.set j (some (.dcn none ks' vs')))
   | _=>False
  | _=>False
 | _=>False):=propext Iff.rfl
@[scoped simp ↓] theorem d2s (j:Nat)(Q:List FV->a0c->Prop):b9a j L Q=(wp (lk L j) λv=>match v with
 | .dcn (some _) ks _=>Q (ks.map d2j) L
 | _=>False):=propext Iff.rfl
@[scoped simp ↓] theorem d3d (n m:Nat)(it:AW)(tg:Tg)(t:BW)(ek ev:EW)(Q:FV->a0c->Prop):b4i n m it tg t ek ev L Q=(it L λxs L1=>L1.length=n/\xs.length<=big/\a5h n m tg t ek ev xs [] [] L1 λks vs L2=>Q (.dcn none ks vs) L2):=propext Iff.rfl
end
theorem b1f {α:Type}{tg:Tg}{n m:Nat}{ek ev:EW}{f:α->FV}{g:α->List (Option Int)}{h:α->FV}{Q:List (List (Option Int))->List FV->a0c->Prop}{L:a0c}:∀ (xs:List α)(ks:List (List (Option Int)))(vs:List FV),
  (∀ x∈xs,g x ∉ ks)->(xs.map g).Nodup ->
  (∀ x∈xs,∀ K:List (Option Int)->FV->a0c->Prop,K (g x) (h x) L->gW tg (f x) (L++Γj m none) λL1=>ek L1 λkx L3=>wp (a5l kx) λps=>wp (a2m ps) λk=>ev L3 λv L4=>K k v (L4.take n))->Q (ks++xs.map g) (vs++xs.map h) L->a5h n m tg a1i ek ev (xs.map f) ks vs L Q
 | [],ks,vs,_,_,_,E=>by
  show Q ks vs L
  simpa using E
 | x :: xs,ks,vs,hn,hd,B,E=>by
  refine B x Γn (λk v L'=>a5h n m tg a1i ek ev (xs.map f) (a1q ks vs k v).1 (a1q ks vs k v).2 L' Q) ?_
  have hk:=hn x Γn
  simp only[List.map_cons,List.nodup_cons] at hd
  have e:a1q ks vs (g x) (h x)=(ks++[g x],vs++[h x]):=by simp[a1q,hk]
  rw[e]
  refine b1f xs _ _ (λy hy hm=>?_) hd.2 (λy hy=>B y (Γh _ hy)) (by simpa using E)
  rcases List.mem_append.mp hm with hm|hm
  ·exact hn y (Γh _ hy) hm
  ·simp at hm
   exact hd.1 (by rw[<- hm];exact List.mem_map_of_mem hy)
section
variable {X:Cx}{C:CC}{n:Nat}{sp:Γd->Nat->Sp}{fr:Bool}{pos p px:Pos}{scope:Scope}{own:List Str}{kx vx tgx iter:Expr}{ifs:List Expr}{it:AW}{tg:Tg}{t:BW}{ek ev:EW}{nn m:Nat}{md':Md}{i:Nat}{nx:Str}
theorem c1p {gs:List Comprehension}{x:Str}{n:Nat}{env:Env}(hk:env.scope.kind=.function) :
  swapsWith (.DictComp kx vx gs scope p) (some (.Name x px)) n env=pure (decide (env.scope.names.lookup x=some .local) && (px.line == p.line) && !(scope.names.any λ(n,k)=>n == x && (k == .local || k == .cell))):=by
 have hb:env.blockKind=.function:=by unfold Env.blockKind;rw[hk];rfl
 have:(env.kindOf x == some .local)=decide (env.scope.names.lookup x=some .local):=by
  rw[Bool.eq_iff_iff];simp[Env.kindOf]
 unfold swapsWith
 simp only[hb,this]
 rfl
theorem b1e (h:CompOk X C n sp scope own kx tgx iter ifs nn m md' it tg t ek){σ:L2.St}{H:Hp}{Q:VK}:lf X.K C.md (b4i nn m it tg t ek ev) σ H Q->b6g (li X.K C.md md' it) (gT X.K tg) (lb X.K md' t) (lv X.K md' ek) (lv X.K md' ev) own.length σ H Q:=by
 have h0:=b2 h.st;have h1:=b2 h0.1;have h2:=b2 h1.1;have h3:=b2 h2.1;have h4:=b2 h3.1;have h5:=b2 h4.1;have h6:=b2 h5.1
 rintro⟨c,L,S,Q0,I,hh,k⟩
 refine⟨c,L,S,_,I,hh,λxs L1 hx J c' S1 H1 I1 un e0 hJ s1=>?_⟩
 obtain⟨hl,hb,hc⟩:=hx
 rw[de h5.2]
 refine c0f I1 hJ hl (de h4.2) h2.2 h1.2 hb hc λacc ks vs us L' S' H' hn q g1 g2 g3 g4 fr I' s'=>?_
 exact k _ L' q acc S' H' ⟨g1,vs,us,if_pos g3,g2,g4⟩ ⟨by rw[<- e0];exact fr.1,((un _ _ _ _ I1).fresh hn).2.1,λj w hm=>fr.2.2 j w (a5z h3.2 j hm)⟩ (un _ _ _ _ I') (s1.trans s')
theorem c3o (G:Good X C n sp)(ht:C.tn i nx=true)(hm:(decide (a0g C.md i=.own) && decide (i≠0))=true)(h:CompOk X C n sp scope own kx tgx iter ifs nn m md' it tg t ek)(hv:∀ X',Good X' (C.sub scope own md') n sp->FE X' (C.sub scope own md') vx ev):FS X C fr (.Assign [.Name nx px] (.DictComp kx vx [⟨tgx,iter,ifs,0⟩] scope p) pos) (a1n (b4i nn m it tg t ek ev) (.nm i)):=by
 have h0:=b2 h.st;have h1:=b2 h0.1;have h2:=b2 h1.1;have h3:=b2 h2.1;have h4:=b2 h3.1;have h5:=b2 h4.1;have h6:=b2 h5.1
 obtain⟨s1,s2⟩:=G.sub h6.1 md'
 have hu:X.A.units+1<cLine:=by have:=G.room.units;lia
 have blk:∀ fp D s H,PG (cxC X scope own fp D s H) tgx (gT X.K tg)/\PTs (cxC X scope own fp D s H) ifs (lb X.K md' t)/\PE (cxC X scope own fp D s H) kx (lv X.K md' ek)/\PE (cxC X scope own fp D s H) vx (lv X.K md' ev):=λfp D s H=>⟨h.tg _ (s2 fp D s H),h.ts _ (s2 fp D s H),h.el _ (s2 fp D s H),hv _ (s2 fp D s H)⟩
 have hsw:swapsWith (.DictComp kx vx [⟨tgx,iter,ifs,0⟩] scope p) (some (.Name nx px)) pos.line X.env=pure (swC C nx px scope p):=by rw[c1p G.kind,G.sc];rfl
 cases hb:swC C nx px scope p with
 | false =>
  rw[hb] at hsw
  exact a9f hm (λσ H Q=>b1e h) (b7c G ht hsw (b3n (X:=X) hu G.calm s1 h.it blk (a6i (nb h0.2))))
 | true =>
  rw[hb] at hsw
  have hlo:X.env.scope.names.lookup nx=some .local:=by
   rw[G.sc]
   have hb:=b2 hb
   exact de (b2 hb.1).1
  exact a9f hm (λσ H Q=>b1e h) (b1x hu G.calm s1 G.nd' (G.ix (b2 ht).1) hlo h.it blk hsw (a6i (nb h0.2)))
end
def c2y (v:FV):Option FV:=match v with
 | .dci ks _=>some (.int ks.length)
 | _=>none
section
variable {X:Cx}{C:CC}{n:Nat}{sp:Γd->Nat->Sp}{a:Expr}{ea:EW}{pos p:Pos}
theorem d3w:a1j X (.builtin "len") (Rc X.K c2y):=by
 rintro pins s σ H xs us Q I r ⟨S,v,x,z,rfl,hs,rv,e,k⟩
 cases v with
 | dci ks vs =>
  cases e
  obtain⟨a,us',rfl,hl,h1,h2⟩:=rv.dci hs
  have:=h2.length
  obtain⟨u,rfl,ru⟩:=a3l r
  cases ru
  have e:((a3h ks).zip us').length=ks.length:=by rw[List.length_zip];simp[a3h];lia
  exact e1w I (.inl h1) λt s' I'=>⟨.int _,H,I',⟨t,rfl⟩,by rw[e];exact k.old _ (λ_ z=>nomatch z) rfl⟩
 | _=>cases e
theorem d9z (G:Good X C n sp)(hg:C.gl (Γe "len")=true)(hs:a0j a=false)(ha:FR X C a ea):FE X C (.Call (.Name (Γe "len") p) [a] [] pos) (eUn c2y ea):=b0u d3w G (by decide) (by nofun) (by nofun) (by nofun) hg hs ha
end
@[scoped simp ↓] theorem k_lenD (ks:List Int)(vs:List FV)(Q:FV->Prop):wp (c2y (.dci ks vs)) Q=Q (.int ks.length):=propext Iff.rfl
def a7y (v:FV)(lo hi:Option Int):Option FV:=(a1t v).map λxs=>.lst (a5f xs lo hi)
def d5h (a:EW)(l h:OW):EW:=λL Q=>a L λx L1=>l L1 λi L2=>h L2 λj L3=>wp (a7y x i j) λz=>Q z L3
def RslL (K:Γd):V->Option Int->Option Int->Hp->VK->Prop:=λx lo hi H Q=>∃ S v z,Same S H/\RH K S H v x/\a7y v lo hi=some z/\NewOr K S H Q z
section
variable {X:Cx}{C:CC}{n:Nat}{sp:Γd->Nat->Sp}{a:Expr}{ea:EW}{pos:Pos}
theorem d7j:SlR X (RslL X.K):=by
 intro pins s σ H x v vl vu lo hi sl Q I rx hsl pl pu ⟨S,p,z,hs,rp,e,k⟩
 obtain⟨ps,e1,rfl⟩:=Option.map_eq_some_iff.mp e
 obtain⟨a,xs,rfl,ha,ra⟩:=rp.list hs e1
 exact b6p pins s σ H _ v vl vu lo hi sl Q I rx hsl pl pu ⟨a,xs,rfl,ha,λp hp=>k.lst _ _ p rfl (b2w ra) hp⟩
variable {xl xh:Option Expr}{wl wh:OW}{p2:Pos}
theorem fe_slL (ha:FE X C a ea)(hl:FO X C xl wl)(hh:FO X C xh wh):FE X C (.Subscript a (.Slice xl xh none p2) pos) (d5h ea wl wh):=PE.imp (b3m d7j ha hl hh) λσ H Q ⟨c,L,S,Q0,I,h,k⟩ =>
 ⟨c,L,S,_,I,h,λv L1 hv x S1 H1 r1 I1 s1=>⟨c,L1,S1,_,I1,hv,λo1 L2 h1 S2 H2 I2 s2=>⟨c,L2,S2,_,I2,h1,λo2 L3 h2 S3 H3 I3 s3=>by
  obtain⟨z,e,q⟩:=wpx h2
  exact⟨S3,v,z,I3.sub,.inl (r1.mono (s2.trans s3)),e,b2c I3 λx S' H' r I' s'=>k z L3 q x S' H' r I' (s1.trans (s2.trans (s3.trans s')))⟩⟩⟩⟩
end
@[scoped simp ↓] theorem e1o (a:EW)(l h:OW)(L:a0c)(Q:FV->a0c->Prop):d5h a l h L Q=(a L λx L1=>l L1 λi L2=>h L2 λj L3=>wp (a7y x i j) λz=>Q z L3):=propext Iff.rfl
@[scoped simp ↓] theorem k_slL (v:FV)(lo hi:Option Int)(Q:FV->Prop):wp (a7y v lo hi) Q↔wp (a1t v) λxs=>Q (.lst (a5f xs lo hi)):=a1x _ _ _
mutual
noncomputable def fla:FV->Bool
 | .non=>true
 | .bl _=>true
 | .int _=>true
 | .str _=>true
 | .shn _=>true
 | .scr _=>true
 | .tup xs=>flas xs
 | .lst _=>false
 | .dct _ _=>false
 | .dci _ _=>false
 | .dcz _ _ _=>false
 | .dcn _ _ _=>false
 | .obj _ _ _ _=>false
noncomputable def flas:List FV->Bool
 | []=>true
 | x :: xs=>fla x && flas xs
end
def d8a (v:FV):Bool:=match d1g v with
 | some ps=>flas ps
 | none=>false
def d4m:Md->a0c->Bool
 | _,[]=>true
 | ms,none :: L=>d4m ms.tail L
 | ms,some v :: L=>(if a0g ms 0=.imm then fla v else d8a v) && d4m ms.tail L
def nl (S:Hp):Hp:=λa=>match S a with
 | some (.lst _)=>none
 | o=>o
section
variable {K:Γd}{S S' H:Hp}
theorem d1v {a:Addr}{o:HO}(h:S a=some o)(n:∀ xs,o≠.lst xs):nl S a=some o:=by
 unfold nl
 split
 ·rename_i xs z;rw[h] at z;exact absurd (Option.some.inj z) (n xs)
 ·exact h
mutual
theorem RV.nl:∀ {p:FV}{v:V},fla p=true->RV K S p v->RV K (nl S) p v
 | .non,v,_,h=>h
 | .bl b,v,_,h=>h
 | .int i,v,_,h=>h
 | .str _,v,_,h=>h
 | .shn _,v,_,h=>h
 | .tup ps,v,n,⟨a,xs,e,h1,h2⟩=>⟨a,xs,e,d1v h1 (λ_ z=>nomatch z),RVs.nl n h2⟩
 | .lst ps,v,n,h=>by cases n
 | .dct ks vs,v,n,h=>by cases n
 | .dci ks vs,v,n,h=>by cases n
 | .dcz o ks vs,v,n,h=>by cases n
 | .dcn z ks vs,v,n,h=>by cases n
 | .obj _ _ _ _,v,n,h=>by cases n
 | .scr ns,v,_,⟨a,e,h⟩=>⟨a,e,h.elim (λ⟨o,h⟩=>.inl ⟨o,d1v h (λ_ z=>nomatch z)⟩) .inr⟩
theorem RVs.nl:∀ {ps:List FV}{vs:List V},flas ps=true->RVs K S ps vs->RVs K (nl S) ps vs
 | [],vs,_,h=>h
 | p :: ps,vs,n,⟨v,r,e,h1,h2⟩=>⟨v,r,e,RV.nl (b2 n).1 h1,RVs.nl (b2 n).2 h2⟩
end
variable {c:Cn}{md:Md}{L:a0c}{σ:L2.St}{j:Nat}
end
def sScope (md:Md)(r:SW):SW:=λL Q=>d4m md L=true/\r L λfl L'=>d4m md L'=true/\(match fl with|.ret v=>fla v=true|_=>True)/\Q fl L'
section
variable {X:Cx}{C:CC}{n:Nat}{sp:Γd->Nat->Sp}{fr:Bool}{st:Stmt}{sts:List Stmt}{s r:SW}{o:Expr}{e:EW}{pos p:Pos}{j:Nat}
open Classical in
end
mutual
noncomputable def D.ns:D->Bool
 | .non=>true
 | .bl _=>true
 | .int _=>true
 | .str _=>false
 | .tup xs=>D.nss xs
 | .lst xs=>D.nss xs
noncomputable def D.nss:List D->Bool
 | []=>true
 | x :: xs=>D.ns x && D.nss xs
end
theorem a5d {a b:Str}(ha:PyData.strOk a=true)(hb:PyData.strOk b=true):PyData.strOk (a++b)=true:=by
 show Array.all (a.cps++b.cps) _=true
 rw[Array.all_append]
 exact Bool.and_eq_true_iff.mpr ⟨ha,hb⟩
theorem b7s {s:Str}(hs:PyData.strOk s=true):∀ {ts:List Str},(∀ t∈ts,PyData.strOk t=true)->PyData.strOk (Str.join s ts)=true
 | [],_=>a3m ""
 | [a],h=>h a (by simp)
 | a :: b :: r,h=>by
  simp only[Str.join]
  exact a5d (a5d (h a (by simp)) hs) (b7s hs λt ht=>h t (by simp[List.mem_cons.mp ht]))
theorem b7t:∀ {ts:List Str}{k:Nat}{acc:Str},PyData.strOk acc=true->(∀ t∈ts,PyData.strOk t=true)->PyData.strOk (textFrom k acc ts)=true
 | [],k,acc,ha,_=>ha
 | t :: r,k,acc,ha,h=>by
  unfold textFrom
  refine b7t ?_ λx hx=>h x (by simp[hx])
  split
  ·exact a5d (a5d ha (a3m _)) (h t (by simp))
  ·exact a5d ha (h t (by simp))
mutual
theorem d0c:∀ d:D,d.ns=true->PyData.strOk (dPy d).shown=true
 | .non,_=>by simp only[dPy,PyData.shown];exact a3m _
 | .bl b,_=>by simp only[dPy,PyData.shown];split<;>exact a3m _
 | .int i,_=>by simp only[dPy,PyData.shown];exact a3m _
 | .str _,h=>by cases h
 | .tup xs,h=>by
  simp only[dPy,PyData.shown,tupleText]
  exact a5d (a5d (a3m _) (b7s (a3m _) (shn_oks xs h))) (a3m _)
 | .lst xs,h=>by
  simp only[dPy,PyData.shown,listText]
  exact a5d (b7t (a3m _) (shn_oks xs h)) (a3m _)
theorem shn_oks:∀ ds:List D,D.nss ds=true->∀ t∈PyData.shownAll (dPys ds),PyData.strOk t=true
 | [],_,t,ht=>by simp[dPys,PyData.shownAll] at ht
 | d :: ds,h,t,ht=>by
  simp only[dPys,PyData.shownAll] at ht
  have h:=b2 h
  rcases List.mem_cons.mp ht with rfl|ht
  ·exact d0c d h.1
  ·exact shn_oks ds h.2 t ht
end
open Classical in
def nePF (a b:FV):Option FV:=if ∃ i d,a=.tup [.int i,.shn d]/\b=a/\d.ns=true then some (.bl false) else none
section
variable {X:Cx}
variable {C:CC}{n:Nat}{sp:Γd->Nat->Sp}{a b:Expr}{ea eb:EW}{pos:Pos}
end
end Kq
end
section
namespace Kq
@[scoped simp ↓ high] theorem lk_1 (a0:Option FV)(v:FV)(L:a0c)(Q:FV->Prop):wp (lk (a0 :: some v :: L) 1) Q=Q v:=propext Iff.rfl
@[scoped simp ↓ high] theorem lk_2 (a0 a1:Option FV)(v:FV)(L:a0c)(Q:FV->Prop):wp (lk (a0 :: a1 :: some v :: L) 2) Q=Q v:=propext Iff.rfl
@[scoped simp ↓ high] theorem lk_3 (a0 a1 a2:Option FV)(v:FV)(L:a0c)(Q:FV->Prop):wp (lk (a0 :: a1 :: a2 :: some v :: L) 3) Q=Q v:=propext Iff.rfl
@[scoped simp ↓ high] theorem lk_4 (a0 a1 a2 a3:Option FV)(v:FV)(L:a0c)(Q:FV->Prop):wp (lk (a0 :: a1 :: a2 :: a3 :: some v :: L) 4) Q=Q v:=propext Iff.rfl
@[scoped simp ↓ high] theorem lk_5 (a0 a1 a2 a3 a4:Option FV)(v:FV)(L:a0c)(Q:FV->Prop):wp (lk (a0 :: a1 :: a2 :: a3 :: a4 :: some v :: L) 5) Q=Q v:=propext Iff.rfl
@[scoped simp ↓ high] theorem lk_6 (a0 a1 a2 a3 a4 a5:Option FV)(v:FV)(L:a0c)(Q:FV->Prop):wp (lk (a0 :: a1 :: a2 :: a3 :: a4 :: a5 :: some v :: L) 6) Q=Q v:=propext Iff.rfl
@[scoped simp ↓ high] theorem lk_7 (a0 a1 a2 a3 a4 a5 a6:Option FV)(v:FV)(L:a0c)(Q:FV->Prop):wp (lk (a0 :: a1 :: a2 :: a3 :: a4 :: a5 :: a6 :: some v :: L) 7) Q=Q v:=propext Iff.rfl
@[scoped simp ↓ high] theorem lk_8 (a0 a1 a2 a3 a4 a5 a6 a7:Option FV)(v:FV)(L:a0c)(Q:FV->Prop):wp (lk (a0 :: a1 :: a2 :: a3 :: a4 :: a5 :: a6 :: a7 :: some v :: L) 8) Q=Q v:=propext Iff.rfl
@[scoped simp ↓ high] theorem lk_9 (a0 a1 a2 a3 a4 a5 a6 a7 a8:Option FV)(v:FV)(L:a0c)(Q:FV->Prop):wp (lk (a0 :: a1 :: a2 :: a3 :: a4 :: a5 :: a6 :: a7 :: a8 :: some v :: L) 9) Q=Q v:=propext Iff.rfl
@[scoped simp ↓ high] theorem lk_10 (a0 a1 a2 a3 a4 a5 a6 a7 a8 a9:Option FV)(v:FV)(L:a0c)(Q:FV->Prop):wp (lk (a0 :: a1 :: a2 :: a3 :: a4 :: a5 :: a6 :: a7 :: a8 :: a9 :: some v :: L) 10) Q=Q v:=propext Iff.rfl
@[scoped simp ↓ high] theorem lk_11 (a0 a1 a2 a3 a4 a5 a6 a7 a8 a9 a10:Option FV)(v:FV)(L:a0c)(Q:FV->Prop):wp (lk (a0 :: a1 :: a2 :: a3 :: a4 :: a5 :: a6 :: a7 :: a8 :: a9 :: a10 :: some v :: L) 11) Q=Q v:=propext Iff.rfl
@[scoped simp ↓ high] theorem lk_12 (a0 a1 a2 a3 a4 a5 a6 a7 a8 a9 a10 a11:Option FV)(v:FV)(L:a0c)(Q:FV->Prop):wp (lk (a0 :: a1 :: a2 :: a3 :: a4 :: a5 :: a6 :: a7 :: a8 :: a9 :: a10 :: a11 :: some v :: L) 12) Q=Q v:=propext Iff.rfl
@[scoped simp ↓ high] theorem lk_13 (a0 a1 a2 a3 a4 a5 a6 a7 a8 a9 a10 a11 a12:Option FV)(v:FV)(L:a0c)(Q:FV->Prop):wp (lk (a0 :: a1 :: a2 :: a3 :: a4 :: a5 :: a6 :: a7 :: a8 :: a9 :: a10 :: a11 :: a12 :: some v :: L) 13) Q=Q v:=propext Iff.rfl
@[scoped simp ↓ high] theorem lk_14 (a0 a1 a2 a3 a4 a5 a6 a7 a8 a9 a10 a11 a12 a13:Option FV)(v:FV)(L:a0c)(Q:FV->Prop):wp (lk (a0 :: a1 :: a2 :: a3 :: a4 :: a5 :: a6 :: a7 :: a8 :: a9 :: a10 :: a11 :: a12 :: a13 :: some v :: L) 14) Q=Q v:=propext Iff.rfl
@[scoped simp ↓ high] theorem lk_15 (a0 a1 a2 a3 a4 a5 a6 a7 a8 a9 a10 a11 a12 a13 a14:Option FV)(v:FV)(L:a0c)(Q:FV->Prop):wp (lk (a0 :: a1 :: a2 :: a3 :: a4 :: a5 :: a6 :: a7 :: a8 :: a9 :: a10 :: a11 :: a12 :: a13 :: a14 :: some v :: L) 15) Q=Q v:=propext Iff.rfl
@[scoped simp ↓ high] theorem lk_16 (a0 a1 a2 a3 a4 a5 a6 a7 a8 a9 a10 a11 a12 a13 a14 a15:Option FV)(v:FV)(L:a0c)(Q:FV->Prop):wp (lk (a0 :: a1 :: a2 :: a3 :: a4 :: a5 :: a6 :: a7 :: a8 :: a9 :: a10 :: a11 :: a12 :: a13 :: a14 :: a15 :: some v :: L) 16) Q=Q v:=propext Iff.rfl
end Kq
end
section
namespace Kq
open PySem PySem.Spec PySem.Calls PyProof.Rows L2 PySem.W
structure CSp where
 c:Str
 a:Addr
 fl:List Str
 ms:List (Str×Addr)
def fnB (K:Frag)(f:Addr):Bool:=match K.lookup f with
 | some ⟨_,_,.func fd,_⟩=>codeIn K fd.code fd.qualname
 | _=>false
structure CF (K:Frag)(mg:Str->Option Value)(c:CSp):Prop where
 mg:mg c.c=some (.ref c.a)
 cl:Cls K c.a
 fl:∀ f∈c.fl,b1p K c.a f
 ms:∀ m∈c.ms,findIn K (.ref c.a) m.1=some (some (.ref m.2))/\isFn K (.ref m.2)=true/\keepIn K (.ref m.2)=true/\fnB K m.2=true
 mks:makesIn K c.a=true
 kp:keepIn K (.ref c.a)=true
structure Vw where
 f:Addr
 m:Str
 q:Str
 st:Stmt
end Kq
end
section
namespace Kq
open PySem PySem.Spec PyProof.Rows L2
structure Big (H:Hp)(a C dx:Addr)(fs:List (Str×V))(gs:List (Addr×List V)):Prop where
 at_:H a=some (.big C dx fs gs)
 dxo:H dx=some (.own a)
 gso:∀ g∈gs,H g.1=some (.own a)
 nd:(a :: dx :: gs.map (·.1)).Nodup
section
variable {X:Cx}{pins:List (Addr×Obj)}{σ:L2.St}{H:Hp}{s:Shared}{a C dx:Addr}{fs:List (Str×V)}{gs:List (Addr×List V)}
def putG (gs:List (Addr×List V))(l:Addr)(ys:List V):List (Addr×List V):=gs.map λg=>if g.1=l then (l,ys) else g
end
section
variable {X:Cx}{pins:List (Addr×Obj)}{σ:L2.St}{H:Hp}{s:Shared}{a Ca dx:Addr}{fs:List (Str×V)}{gs:List (Addr×List V)}
variable {i:Nat}{nx:Str}{p pos:Pos}{f:Str}
variable {CX:CXT}{k:Nat}{g:Addr}{fd:FuncData}{ps:List Str}{sp:Sp}{m:Str}{apos:Pos}{e:Expr}{es:List Expr}{t:TA}{E:XK}
variable {x:Str}
end
def vF:V->Option FV
 | .int i=>some (.int i)
 | .non=>some .non
 | _=>none
def vI:FV->Option V
 | .int i=>some (.int i)
 | .non=>some .non
 | _=>none
def fldF (Ca:Addr)(f:Str):FV->Option FV
 | .obj C _ fs _=>if C=Ca then (fs.lookup f).bind vF else none
 | _=>none
def lsA (fs:List (Str×V))(gs:List (Addr×List V))(f:Str):Option (Addr×List V):=match fs.lookup f with
 | some (.ref l)=>(gs.lookup l).map λys=>(l,ys)
 | _=>none
def lsF (Ca:Addr)(f:Str):FV->Option (List FV)
 | .obj C _ fs gs=>if C=Ca then (lsA fs gs f).bind λp=>a7h vF p.2 else none
 | _=>none
def appO (Ca:Addr)(f:Str)(u:V):FV->Option FV
 | .obj C dx fs gs=>if C=Ca then (lsA fs gs f).bind λp=>if p.2.length<big then some (.obj C dx fs (putG gs p.1 (p.2++[u]))) else none else none
 | _=>none
def setO (Ca:Addr)(f:Str) (k:Int)(u:V):FV->Option FV
 | .obj C dx fs gs=>if C=Ca then (lsA fs gs f).bind λp=>(ixN p.2.length k).map λj=>.obj C dx fs (putG gs p.1 (p.2.set j u)) else none
 | _=>none
def putO (Ca:Addr)(f:Str)(u:V):FV->Option FV
 | .obj C dx fs gs=>if C=Ca/\fs.length<1000 then some (.obj C dx (d7r f u fs) gs) else none
 | _=>none
def eFld (i:Nat)(Ca:Addr)(f:Str):EW:=λL Q=>wp (lk L i) λo=>wp (fldF Ca f o) λz=>Q z L
def eObjL (i:Nat)(Ca:Addr)(f:Str)(F:FV->Option FV):EW:=λL Q=>wp (lk L i) λo=>wp (lsF Ca f o) λxs=>wp (F (.lst xs)) λz=>(∀ ps,z≠.lst ps)/\Q z L
def e1q (i:Nat)(Ca:Addr)(f:Str)(e:EW):EW:=λL Q=>wp (lk L i) λo=>wp (lsF Ca f o) λ_=>e L λv L1=>wp (vI v) λu=>wp (lk L1 i) λo1=>o1=o/\wp (appO Ca f u o1) λo2=>Q .non (L1.set i (some o2))
def d6r (i:Nat)(Ca:Addr)(f:Str)(ek ev:EW):SW:=λL Q=>wp (lk L i) λo=>ev L λv L1=>wp (vI v) λu=>wp (lk L1 i) λo1=>o1=o/\wp (lsF Ca f o1) λ_=>ek L1 λw L2=>wp (a3j w) λk=>wp (lk L2 i) λo2=>o2=o/\wp (setO Ca f k u o2) λo3=>Q .next (L2.set i (some o3))
def d6t (i:Nat)(Ca:Addr)(f:Str)(e:EW):SW:=λL Q=>e L λv L1=>wp (vI v) λu=>wp (lk L1 i) λo=>wp (putO Ca f u o) λo1=>Q .next (L1.set i (some o1))
def d6u (i:Nat)(Ca:Addr)(f:Str)(g:Int->Int->Int)(e:EW):SW:=λL Q=>wp (lk L i) λo=>wp (fldF Ca f o) λz=>e L λw L1=>wp (lk L1 i) λo1=>o1=o/\wp (a3j z) λa=>wp (a3j w) λb=>wp (putO Ca f (.int (g a b)) o1) λo2=>Q .next (L1.set i (some o2))
def newO (Ca:Addr)(f:Str)(Q:FV->Prop):FV->Prop
 | .obj C dx fs gs=>C=Ca/\fs.length<1000/\∀ p,(∀ g∈gs,g.1≠p)->Q (.obj C dx (d7r f (.ref p) fs) ((p,[]) :: gs))
 | _=>False
def d6s (i:Nat)(Ca:Addr)(f:Str):SW:=λL Q=>wp (lk L i) λo=>newO Ca f (λo1=>Q .next (L.set i (some o1))) o
def isO (Ca:Addr)(m:Str):FV->Prop
 | .obj C _ fs _=>C=Ca/\fs.lookup m=none
 | _=>False
def eMethO (call:CW) (f i:Nat)(Ca:Addr)(m:Str)(as:AW):EW:=λL Q=>wp (lk L i) λo=>isO Ca m o/\a0q call f i as L Q
def eMake (call:CW) (f:Nat)(Ca:Addr)(as:AW):EW:=λL Q=>as L λxs L1=>∀ dx,call f (.obj Ca dx [] [] :: xs) λz=>z.1=.non/\Q z.2 L1
section
end
theorem RV.vF {K:Γd}{S:Hp}{v:V}{z:FV}(h:Kq.vF v=some z):RV K S z v:=by
 cases v<;>cases h<;>rfl
theorem RV.vI {K:Γd}{S:Hp}{z:FV}{u x:V}(h:Kq.vI z=some u)(r:RV K S z x):x=u:=by
 cases z<;>cases h
 ·exact r
 ·exact r
section
variable {X:Cx}{C:CC}{n:Nat}{sp:Γd->Nat->Sp}{fr:Bool}{a b:Expr}{e ea eb:EW}{pos p px p2 apos:Pos}{i f:Nat}{nx fl:Str}{Ca:Addr}
variable {K:Γd}{c:Cn}{md:Md}{L:a0c}{σ:L2.St}{S H:Hp}
end
section
variable {X:Cx}{C:CC}{n:Nat}{sp:Γd->Nat->Sp}{fr:Bool}{a b:Expr}{e ea eb:EW}{pos p px p2 apos cpos:Pos}{i k:Nat}{nx fl:Str}{Ca:Addr}{xs:List Expr}{as:AW}{call:CW}{m cn:Str}
variable {K:Γd}{c:Cn}{md:Md}{L:a0c}{σ:L2.St}{S H:Hp}
end
section
variable {X:Cx}{C:CC}{n:Nat}{sp:Γd->Nat->Sp}{pos p apos:Pos}{i f:Nat}{nx:Str}{Ca:Addr}{a:Expr}{xs:List Expr}{as:AW}{call:CW}{m cn:Str}
end
def sNev:SW:=λ_ _=>False
def bFldL (i:Nat)(Ca:Addr)(f:Str):BW:=λL Q=>wp (lk L i) λo=>wp (lsF Ca f o) λxs=>Q (!xs.isEmpty) L
@[scoped simp ↓] theorem d6w (L:a0c)(Q:FFl->a0c->Prop):sNev L Q=False:=rfl
section
variable {X:Cx}{C:CC}{n:Nat}{sp:Γd->Nat->Sp}{fr:Bool}{i:Nat}{nx fl:Str}{p pos:Pos}{Ca:Addr}{a:Expr}{ta:TE}
end
abbrev NG:=Addr×List V×List FV
def a5m (gs:List NG):List V:=gs.map λg=>V.ref g.1
def prG (gs:List NG):List (Addr×HO):=gs.map λg=>(g.1,HO.lst g.2.1)
def cN (c:Cn)(acc:Addr)(gs:List NG):Cn:={ c with pr:=(acc,.lst (a5m gs)) :: (prG gs++c.pr) }
section
variable {K:Γd}{c:Cn}{md:Md}{L:a0c}{σ:L2.St}{S H:Hp}{j:Nat}{acc:Addr}{gs:List NG}
theorem Iv.pr_of {pr pr':List (Addr×HO)}(I:Iv K { c with pr:=pr } md L σ S H)(h:∀ p∈pr',p∈pr)(hz:∀ p∈c.fz,∃ o,(p.2,o)∈pr'):Iv K { c with pr:=pr' } md L σ S H :=
 ⟨I.len,I.imm,I.own,I.dis,I.sub,I.frame,I.s0,I.grow,I.lent,I.fzs,I.fzm,hz,λp hp=>I.prs p (h p hp),λp hp=>I.ntp p (h p hp),I.lnt1,I.tie⟩
theorem Iv.rewr {pr rest:List (Addr×HO)}{b:Addr}{o o':HO}(I:Iv K { c with pr:=pr } md L σ S H)(hb:(b,o)∈pr)(hr:∀ p∈rest,p∈pr)(hp:∀ p∈rest,p.1≠b)(h0:c.H0 b=none)(hz:∀ p∈c.fz,∃ o,(p.2,o)∈rest)(nt:a6e o'=false):Iv K { c with pr:=(b,o') :: rest } md L σ S (upd H b o'):=by
 have I1:Iv K { c with pr:=(b,o) :: rest } md L σ S H:=I.pr_of (λp hp=>(List.mem_cons.mp hp).elim (λz=>z ▸ hb) (hr p)) λp h=>let ⟨o,h⟩:=hz p h;⟨o,Γh _ h⟩
 exact Iv.regrow (c:={ c with pr:=rest }) I1 h0 hp hz nt
theorem Iv.settle {b:Addr}{o:HO}(I:Iv K { c with pr:=(b,o) :: c.pr } md L σ S H)(h0:c.H0 b=none)(hp:∀ p∈c.pr,p.1≠b)(hz:∀ p∈c.fz,∃ o,(p.2,o)∈c.pr):Iv K c md L σ (upd S b o) H:=by
 obtain⟨hb,sb,nb⟩:=I.prs (b,o) Γn
 have I0:=I.unprot hz
 have s:Same S (upd S b o):=a0h sb
 refine⟨I.len,λi v h e=>let ⟨x,e1,r⟩:=I.imm i v h e;⟨x,e1,r.mono s⟩,λi v h e=>?_,I.dis,λa u e=>?_,I.frame,I.s0.trans s,λa u e=>?_,I.lent,I.fzs,I.fzm,hz,λp hpp=>?_,I0.ntp,I.lnt1,I.tie⟩
 ·obtain⟨a,e1,⟨g1,ps,xs,g2,g3,g4⟩,g5⟩:=I.own i v h e
  have na:a≠b:=λz=>by
   subst z
   by_cases m:(a0g md i).w=true
   ·exact nb i v m e e1
   ·have m:a0g md i=.frz:=by cases q:a0g md i with|imm=>exact absurd q h|frz=>rfl|_=>rw[q] at m;exact absurd rfl m
    obtain⟨b',f1⟩:=I0.fzm i v m e
    obtain⟨_,f2,_⟩:=I0.fzs _ f1
    rw[e1] at f2;cases f2
    obtain⟨ys,f3⟩:=hz _ f1
    exact hp _ f3 rfl
  exact⟨a,e1,⟨by rw[a0e na];exact g1,ps,xs,g2,g3,g4.mono s⟩,g5⟩
 ·by_cases z:a=b
  ·subst z;rw[a0d] at e;cases e;exact hb
  ·rw[a0e z] at e;exact I.sub a u e
 ·by_cases z:a=b
  ·subst z;exact .inr (.inl h0)
  ·rw[a0e z] at e;exact I.grow a u e
 ·obtain⟨g1,g2,g3⟩:=I0.prs p hpp
  exact⟨g1,by rw[a0e (hp p hpp)];exact g2,g3⟩
theorem b6q:∀ {gs:List NG}{S:Hp},Iv K { c with pr:=prG gs++c.pr } md L σ S H->(gs.map (·.1)).Nodup->(∀ b∈gs.map (·.1),c.H0 b=none/\∀ p∈c.pr,p.1≠b)->(∀ p∈c.fz,∃ o,(p.2,o)∈c.pr) ->
  ∃ S',Same S S'/\Iv K c md L σ S' H/\∀ g∈gs,S' g.1=some (.lst g.2.1)
 | [],S,I,_,_,_=>⟨S,Same.refl S,I,λg h=>absurd h List.not_mem_nil⟩
 | g :: gs,S,I,nd,h0,hz=>by
  obtain⟨n1,n2⟩:=List.nodup_cons.mp nd
  have I1:=Iv.settle (c:={ c with pr:=prG gs++c.pr }) (b:=g.1) (o:=.lst g.2.1) I (h0 g.1 Γn).1 (λp hp=>by
   rcases List.mem_append.mp hp with hp|hp
   ·obtain⟨g',hg,rfl⟩:=List.mem_map.mp hp
    exact λz=>n1 (List.mem_map.mpr ⟨g',hg,z⟩)
   ·exact (h0 g.1 Γn).2 p hp) λp hp=>let ⟨o,h⟩:=hz p hp;⟨o,List.mem_append_right _ h⟩
  obtain⟨S',s,I',k⟩:=b6q I1 n2 (λb hb=>h0 b (Γh _ hb)) hz
  have sg:S g.1=none:=(I.prs (g.1,.lst g.2.1) Γn).2.1
  exact⟨S',(a0h sg).trans s,I',λg' hg=>(List.mem_cons.mp hg).elim (λz=>by rw[z];exact s _ _ a0d) (k g')⟩
structure NI (K:Γd)(c:Cn)(md:Md)(acc:Addr)(gs:List NG)(L:a0c)(σ:L2.St)(S H:Hp):Prop where
 I:Iv K (cN c acc gs) md L σ S H
 r:∀ g∈gs,RVs K S g.2.2 g.2.1
 nd:(acc :: gs.map (·.1)).Nodup
 h0:∀ b∈acc :: gs.map (·.1),c.H0 b=none/\∀ p∈c.pr,p.1≠b
 hz:∀ p∈c.fz,∃ o,(p.2,o)∈c.pr
theorem NI.I0 (N:NI K c md acc gs L σ S H):Iv K c md L σ S H:=Iv.pr_of (c:=c) (pr':=c.pr) N.I (λp hp=>Γh _ (List.mem_append_right _ hp)) N.hz
theorem NI.go {L':a0c}{σ':L2.St}{S' H':Hp}(N:NI K c md acc gs L σ S H)(I:Iv K (cN c acc gs) md L' σ' S' H')(s:Same S S'):NI K c md acc gs L' σ' S' H' :=
 ⟨I,λg hg=>(N.r g hg).mono s,N.nd,N.h0,N.hz⟩
theorem NI.start (I:Iv K c md L σ S H)(ha:H acc=none):NI K c md acc [] L σ S (upd H acc (.lst [])) :=
 ⟨(I.lay ha _).prot a0d (I.sn ha) λj w hm hj=>(I.fresh ha).2.2 j w (Mo.w_imm hm) hj,λg h=>absurd h List.not_mem_nil,by simp,λb hb=>by
  rw[List.mem_singleton.mp hb];exact⟨(I.fresh ha).1,(I.fresh ha).2.1⟩,I.fzp⟩
theorem NI.out (N:NI K c md acc gs L σ S H):H acc=some (.lst (a5m gs)):=(N.I.prs (acc,.lst (a5m gs)) Γn).1
theorem NI.inn (N:NI K c md acc gs L σ S H){g:NG}(hg:g∈gs):H g.1=some (.lst g.2.1):=(N.I.prs (g.1,.lst g.2.1) (Γh _ (List.mem_append_left _ (List.mem_map.mpr ⟨g,hg,rfl⟩)))).1
theorem NI.add (N:NI K c md acc gs L σ S H){b:Addr}{ps:List FV}(o:a3s K S H b (.lst ps))(f:a6q (cN c acc gs) md L σ b):∃ us,NI K c md acc (gs++[(b,us,ps)]) L σ S (upd H acc (.lst (a5m gs++[V.ref b]))):=by
 obtain⟨hs,ps',us,e,hb,rr⟩:=o
 cases e
 have I1:=N.I.prot (a:=b) hb hs λi v hm hi=>f.2.2 i v (Mo.w_imm hm) hi
 have na:b≠acc:=λz=>f.2.1 (acc,.lst (a5m gs)) Γn z.symm
 have nb:∀ g∈gs,g.1≠b:=λg hg=>f.2.1 (g.1,.lst g.2.1) (Γh _ (List.mem_append_left _ (List.mem_map.mpr ⟨g,hg,rfl⟩)))
 obtain⟨n1,n2⟩:=List.nodup_cons.mp N.nd
 have I2:=Iv.rewr (c:=c) (pr:=(b,.lst us) :: (acc,.lst (a5m gs)) :: (prG gs++c.pr)) (rest:=(b,.lst us) :: (prG gs++c.pr)) (b:=acc) (o:=.lst (a5m gs)) (o':=.lst (a5m gs++[V.ref b])) I1 (Γh _ Γn) (λp hp=>by
   rcases List.mem_cons.mp hp with z|z
   ·rw[z];exact Γn
   ·exact Γh _ (Γh _ z)) (λp hp=>by
   rcases List.mem_cons.mp hp with z|z
   ·rw[z];exact na
   ·rcases List.mem_append.mp z with z|z
    ·obtain⟨g,hg,rfl⟩:=List.mem_map.mp z
     exact λy=>n1 (List.mem_map.mpr ⟨g,hg,y⟩)
    ·exact (N.h0 acc Γn).2 p z) (N.h0 acc Γn).1 (λp hp=>let ⟨o,h⟩:=N.hz p hp;⟨o,Γh _ (List.mem_append_right _ h)⟩) rfl
 refine⟨us,?_,λg hg=>?_,?_,λd hd=>?_,N.hz⟩
 ·have:a5m (gs++[(b,us,ps)])=a5m gs++[V.ref b]:=by simp[a5m]
  unfold cN
  rw[this]
  refine Iv.pr_of (c:=c) I2 (λp hp=>?_) λp hp=>let ⟨o,h⟩:=N.hz p hp;⟨o,Γh _ (List.mem_append_right _ h)⟩
  simp only[prG,List.map_append,List.map_cons,List.map_nil,List.mem_cons,List.mem_append,List.not_mem_nil,or_false] at hp ⊢
  rcases hp with z|(z|z)|z
  ·exact .inl z
  ·exact .inr (.inr (.inl z))
  ·exact .inr (.inl z)
  ·exact .inr (.inr (.inr z))
 ·rcases List.mem_append.mp hg with z|z
  ·exact N.r g z
  ·rw[List.mem_singleton.mp z];exact rr
 ·rw[List.map_append]
  refine List.nodup_cons.mpr ⟨λz=>?_,List.nodup_append.mpr ⟨n2,by simp,λx hx y hy=>?_⟩⟩
  ·rcases List.mem_append.mp z with z|z
   ·exact n1 z
   ·exact na (List.mem_singleton.mp z).symm
  ·obtain⟨g,hg,rfl⟩:=List.mem_map.mp hx
   rw[List.mem_singleton.mp hy]
   exact nb g hg
 ·rw[List.map_append] at hd
  rcases List.mem_cons.mp hd with z|z
  ·exact N.h0 d (by rw[z];exact Γn)
  ·rcases List.mem_append.mp z with z|z
   ·exact N.h0 d (Γh _ z)
   ·rw[List.mem_singleton.mp z]
    exact⟨f.1,λp hp=>f.2.1 p (Γh _ (List.mem_append_right _ hp))⟩
theorem NI.put {l r:List NG}{b:Addr}{us:List V}{ps:List FV}{u:V}{p:FV}(N:NI K c md acc (l++(b,us,ps) :: r) L σ S H)(hu:RV K S p u):NI K c md acc (l++(b,us++[u],ps++[p]) :: r) L σ S (upd H b (.lst (us++[u]))):=by
 have er:a5m (l++(b,us++[u],ps++[p]) :: r)=a5m (l++(b,us,ps) :: r):=by simp[a5m]
 have en:(l++(b,us++[u],ps++[p]) :: r).map (·.1)=(l++(b,us,ps) :: r).map (·.1):=by simp
 have nd:=N.nd
 have mb:b∈acc :: (l++(b,us,ps) :: r).map (·.1):=by simp
 have ne:∀ g,g∈l ∨ g∈r->g.1≠b:=λg hg z=>by
  have n2:=(List.nodup_cons.mp nd).2
  rw[List.map_append,List.map_cons] at n2
  obtain⟨_,n3,n4⟩:=List.nodup_append.mp n2
  rcases hg with hg|hg
  ·exact n4 g.1 (List.mem_map.mpr ⟨g,hg,rfl⟩) b Γn z
  ·exact (List.nodup_cons.mp n3).1 (by rw[<- z];exact List.mem_map.mpr ⟨g,hg,rfl⟩)
 have na:acc≠b:=λz=>(List.nodup_cons.mp nd).1 (by rw[z];simp)
 have I2:=Iv.rewr (c:=c) (pr:=(acc,.lst (a5m (l++(b,us,ps) :: r))) :: (prG (l++(b,us,ps) :: r)++c.pr)) (rest:=(acc,.lst (a5m (l++(b,us,ps) :: r))) :: (prG l++(prG r++c.pr))) (b:=b) (o:=.lst us) (o':=.lst (us++[u])) N.I (by simp[prG]) (λq hq=>by
   simp only[prG,List.map_append,List.map_cons,List.mem_cons,List.mem_append] at hq ⊢
   rcases hq with z|z|z|z
   ·exact .inl z
   ·exact .inr (.inl (.inl z))
   ·exact .inr (.inl (.inr (.inr z)))
   ·exact .inr (.inr z)) (λq hq=>by
   rcases List.mem_cons.mp hq with z|z
   ·rw[z];exact na
   ·rcases List.mem_append.mp z with z|z
    ·obtain⟨g,hg,rfl⟩:=List.mem_map.mp z
     exact ne g (.inl hg)
    ·rcases List.mem_append.mp z with z|z
     ·obtain⟨g,hg,rfl⟩:=List.mem_map.mp z
      exact ne g (.inr hg)
     ·exact (N.h0 b mb).2 q z) (N.h0 b mb).1 (λq hq=>let ⟨o,h⟩:=N.hz q hq;⟨o,Γh _ (List.mem_append_right _ (List.mem_append_right _ h))⟩) rfl
 refine⟨?_,λg hg=>?_,by rw[en];exact N.nd,λd hd=>N.h0 d (by rw[<- en];exact hd),N.hz⟩
 ·unfold cN
  rw[er]
  refine Iv.pr_of (c:=c) I2 (λq hq=>?_) λq hq=>let ⟨o,h⟩:=N.hz q hq;⟨o,Γh _ (List.mem_append_right _ h)⟩
  simp only[prG,List.map_append,List.map_cons,List.mem_cons,List.mem_append] at hq ⊢
  rcases hq with z|(z|z|z)|z
  ·exact .inr (.inl z)
  ·exact .inr (.inr (.inl z))
  ·exact .inl z
  ·exact .inr (.inr (.inr (.inl z)))
  ·exact .inr (.inr (.inr (.inr z)))
 ·rcases List.mem_append.mp hg with z|z
  ·exact N.r g (List.mem_append_left _ z)
  ·rcases List.mem_cons.mp z with z|z
   ·rw[z];exact (N.r (b,us,ps) (by simp)).append (RVs.one hu)
   ·exact N.r g (List.mem_append_right _ (Γh _ z))
theorem b3h {S:Hp}:∀ {gs:List NG},(∀ g∈gs,S g.1=some (.lst g.2.1)/\RVs K S g.2.2 g.2.1)->RVs K S (gs.map λg=>.lst g.2.2) (a5m gs)
 | [],_=>rfl
 | g :: gs,h=>⟨_,_,rfl,⟨g.1,g.2.1,rfl,(h g Γn).1,(h g Γn).2⟩,b3h λg' hg=>h g' (Γh _ hg)⟩
theorem NI.fin (N:NI K c md acc gs L σ S H):∃ S',Same S S'/\Iv K c md L σ S' H/\RV K S' (.lst (gs.map λg=>.lst g.2.2)) (.ref acc):=by
 obtain⟨S',s,I,k⟩:=b6q (gs:=(acc,a5m gs,[]) :: gs) (c:=c) N.I N.nd N.h0 N.hz
 exact⟨S',s,I,acc,a5m gs,rfl,k (acc,a5m gs,[]) Γn,b3h λg hg=>⟨k g (Γh _ hg),(N.r g hg).mono s⟩⟩
end
def c8n (e:EW):EW:=λL Q=>e L λv L1=>∃ ps,v=.lst ps/\Q v L1
def b2i:List FV->List (List FV)
 | []=>[]
 | .lst ps :: r=>ps :: b2i r
 | _ :: r=>[] :: b2i r
def b0i (tg:Tg)(ix a:EW):List FV->List (List FV)->a0c->(List (List FV)->a0c->Prop)->Prop
 | [],pss,L,Q=>Q pss L
 | z :: zs,pss,L,Q=>gW tg z L λL1=>ix L1 λi L2=>∃ (k:Nat)(ps:List FV),i=.int k/\pss[k]?=some ps/\ps.length<big/\a L2 λv L3=>b0i tg ix a zs (pss.set k (ps++[v])) L3 Q
def c5x (j n m:Nat)(it:AW)(tg:Tg)(t:BW)(e:EW)(it2:AW)(tg2:Tg)(ix a:EW):SW:=λL Q=>it L λxs L1=>L1.length=n/\xs.length<=big/\a3i n m tg t (c8n e) xs [] L1 λys L2 =>
 it2 (L2.set j none) λzs L3=>b0i tg2 ix a zs (b2i ys) L3 λpss L4=>Q .next (L4.set j (some (.lst (pss.map .lst))))
theorem a6b:∀ pss:List (List FV),b2i (pss.map .lst)=pss
 | []=>rfl
 | p :: r=>by rw[List.map_cons,b2i,a6b r]
section
variable {K:Γd}{c:Cn}{md:Md}{L:a0c}{σ:L2.St}{S H:Hp}{j:Nat}{acc:Addr}{gs:List NG}
theorem Iv.blank (I:Iv K c md L σ S H)(m:a0g md j=.imm)(x:V):Iv K c md (L.set j none) (σ.set j (some x)) S H:=by
 have ne:∀ {i u},(L.set j none)[i]?=some (some u)->i≠j/\L[i]?=some (some u):=λz=>a2d z
 have sg:∀ {i},i≠j->(σ.set j (some x))[i]?=σ[i]?:=λh=>List.getElem?_set_ne (Ne.symm h)
 refine⟨by rw[List.length_set,List.length_set];exact I.len,λi u hm z=>?_,λi u hm z=>?_,λi k u w a m1 m2 z1 z2 y1 y2=>?_,I.sub,I.frame,I.s0,I.grow,λb z=>?_,λp hp=>?_,λi u hm z=>I.fzm i u hm (ne z).2,I.fzp,λp hp=>?_,I.ntp,λq hq=>?_,λy k x C dx fs w h1 h2 h3 h4=>?_⟩
 ·rw[sg (ne z).1];exact I.imm i u hm (ne z).2
 ·rw[sg (ne z).1];exact I.own i u hm (ne z).2
 ·rw[sg (ne z1).1] at y1;rw[sg (ne z2).1] at y2
  exact I.dis i k u w a m1 m2 (ne z1).2 (ne z2).2 y1 y2
 ·obtain⟨g1,g2,v,g3⟩:=I.lent b z
  have:(0:Nat)≠j:=λy=>g1 (by rw[y];exact m)
  exact⟨g1,by rw[sg this];exact g2,v,by rw[a8b this];exact g3⟩
 ·obtain⟨g1,g2,v,g3⟩:=I.fzs p hp
  have:p.1≠j:=λy=>by rw[y,m] at g1;cases g1
  exact⟨g1,by rw[sg this];exact g2,v,by rw[a8b this];exact g3⟩
 ·obtain⟨g1,g2,g3⟩:=I.prs p hp
  exact⟨g1,g2,λi u hm z=>by rw[sg (ne z).1];exact g3 i u hm (ne z).2⟩
 ·obtain⟨g1,g2,v,g3⟩:=I.lnt1 q hq
  have:q.1≠j:=λy=>by rw[y,m] at g1;cases g1
  exact⟨g1,by rw[sg this];exact g2,v,by rw[a8b this];exact g3⟩
 ·rw[sg (ne h4).1];exact I.tie y k x C dx fs w h1 h2 (ne h3).2 (ne h4).2
theorem Iv.named (I:Iv K c md L σ S H)(m:a0g md j=.imm){v:FV}{x:V}(e:σ[j]?=some (some x))(r:RV K S v x):Iv K c md (L.set j (some v)) σ S H:=by
 have:=I.setI m r
 have e2:σ.set j (some x)=σ:=by
  apply List.ext_getElem?
  intro i
  by_cases h:i=j
  ·subst h;rw[List.getElem?_set_self (List.getElem?_eq_some_iff.mp e).1,e]
  ·rw[List.getElem?_set_ne (Ne.symm h)]
 rwa [e2] at this
theorem c0g {J:It}{xs:List FV}{n m:Nat}{tg:Tg}{t:BW}{e:EW}{Q:VK}{Q1:List FV->a0c->Prop}(I:Iv K c md L σ S H)(hJ:ItR K c md J xs S)(hL:L.length=n)(hmd:md.length<=n)(ht:a3a md tg=true)(hg:a4v n tg=true)(hb:xs.length<=big)(h:a3i n m tg t (c8n e) xs [] L Q1)
  (k:∀ acc gs L' S' H',Q1 (gs.map λg=>.lst g.2.2) L'->NI K c md acc gs L' σ S' H'->Same S S'->Q (.ref acc) H') :
  ∀ acc,H acc=none->∃ W:Nat->Nat->Hp->Prop,(∃ m,W 0 m (upd H acc (.lst [])))/\∀ i j H,W i j H ->
   (J.stop i H/\Q (.ref acc) H) ∨ (J.go i H/\∀ x H',J.yld i H x H'->gT K tg x (σ++Γj m none) H' λσ2 H2=>Wk (σ++Γj m none) σ2/\lb K md t σ2 H2 λb H3 =>
    if b=true then emL (lf K md e) acc σ2 H3 λH4=>∃ m',m'<j/\W (i+1) m' H4 else ∃ m',m'<j/\W (i+1) m' H3):=by
 intro acc hacc
 have hbl:=a0y
 have N0:=NI.start I hacc
 refine a3q (α:=List FV) (β:=List NG) (fr:=λgs=>cN c acc gs) (P:=λps gs S=>ps=(gs.map λg=>.lst g.2.2)/\(∀ g∈gs,RVs K S g.2.2 g.2.1)/\(acc :: gs.map (·.1)).Nodup/\∀ b∈acc :: gs.map (·.1),c.H0 b=none/\∀ p∈c.pr,p.1≠b) (N:=List.length) (Cm:=λxs ps L=>a3i n m tg t (c8n e) xs ps L Q1) (em:=λps L3 K'=>c8n e L3 λv L4=>K' (ps++[v]) L4) (a0:=[]) (b0:=[]) N0.I hJ hL hmd ht hg ⟨rfl,N0.r,N0.nd,N0.h0⟩ rfl h (λ_ gs _ _ _ _ I ⟨_,r,nd,h0⟩=>NI.I0 ⟨I,r,nd,h0,N0.hz⟩) (λ_ _ _ _ ⟨e,r,nd,h0⟩ s=>⟨e,λg hg=>(r g hg).mono s,nd,h0⟩) (λ_ _ _ _ h=>h) (λps gs L3 σ2 S3 H3 K' Z hn I3 ⟨eg,r,nd,h0⟩ hv kz=>?_) λps gs L' S' H' q I' ⟨eg,r,nd,h0⟩ s'=>?_
 ·refine⟨_,L3,S3,_,I3,hv,λv L4 ⟨qs,ev,hv⟩ u S4 H4 o4 f4 I4 s4=>?_⟩
  subst ev
  have N4:NI K c md acc gs L4 σ2 S4 H4:=⟨I4,λg hg=>(r g hg).mono s4,nd,h0,N0.hz⟩
  obtain⟨us,N5⟩:=N4.add o4 f4
  subst eg
  exact⟨a5m gs,N4.out,by simp only[a5m,List.length_map] at hn ⊢;lia,kz _ _ L4 S4 _ hv N5.I ⟨by simp,N5.r,N5.nd,N5.h0⟩ s4 (by simp)⟩
 ·subst eg
  exact k acc gs L' S' H' q ⟨I',r,nd,h0,N0.hz⟩ s'
end
def lG (K:Γd)(md:Md) (nn m:Nat)(it:AW)(tg:Tg)(t:BW)(e:EW):TE:=λσ H Q=>∃ c L S Q1,Iv K c md L σ S H/\(it L λxs L1=>L1.length=nn/\xs.length<=big/\a3i nn m tg t (c8n e) xs [] L1 Q1) /\
 ∀ acc gs L' S' H',σ.length=nn->Q1 (gs.map λg=>.lst g.2.2) L'->NI K c md acc gs L' σ S' H'->Same S S'->Q (.ref acc) H'
section
variable {X:Cx}{C:CC}{n:Nat}{sp:Γd->Nat->Sp}{fr:Bool}{scope:Scope}{own:List Str}{elt tgx iter:Expr}{ifs:List Expr}{nn m:Nat}{it it2:AW}{tg tg2:Tg}{t:BW}{e ix a:EW}{i j:Nat}{nx:Str}{p px pos:Pos}
structure CompOkG (X:Cx)(C:CC) (n:Nat)(sp:Γd->Nat->Sp)(scope:Scope)(own:List Str)(elt tgx iter:Expr)(ifs:List Expr) (nn m:Nat)(it:AW)(tg:Tg)(t:BW)(e:EW):Prop where
 st:(C.scOk scope own && decide (C.N.length=nn) && decide (own.length=m) && decide (C.md.length<=nn) && a3a C.md tg && a4v nn tg && !b2n iter)=true
 it:FIv X C tgx iter it
 tg:∀ X',Good X' (C.sub scope own C.md) n sp->FG X' tgx tg
 ts:∀ X',Good X' (C.sub scope own C.md) n sp->FTs X' (C.sub scope own C.md) ifs t
 el:∀ X',Good X' (C.sub scope own C.md) n sp->FF X' (C.sub scope own C.md) elt e
theorem CompOkG.run (G:Good X C n sp)(h:CompOkG X C n sp scope own elt tgx iter ifs nn m it tg t e){σ:L2.St}{H:Hp}{Q:VK}(hq:lG X.K C.md nn m it tg t e σ H Q):c1o (liv X.K C.md it) (gT X.K tg) (lb X.K C.md t) (lf X.K C.md e) own.length σ H Q:=by
 have h0:=b2 h.st;have h1:=b2 h0.1;have h2:=b2 h1.1;have h4:=b2 h2.1;have h5:=b2 h4.1;have h6:=b2 h5.1
 obtain⟨c,L,S,Q1,I,hh,k⟩:=hq
 refine⟨c,L,S,_,I,hh,λxs L1 hx J S1 H1 I1 hJ s1=>?_⟩
 obtain⟨hl,hb,hc⟩:=hx
 rw[de h5.2]
 exact c0g I1 (hJ _ _) hl (de h4.2) h2.2 h1.2 hb hc λacc gs L' S' H' q N s'=>k acc gs L' S' H' (by rw[<- I1.len];exact hl) q N (s1.trans s')
theorem CompOkG.blk (G:Good X C n sp)(h:CompOkG X C n sp scope own elt tgx iter ifs nn m it tg t e):CScope X scope own/\(∀ fp D s H,PG (cxC X scope own fp D s H) tgx (gT X.K tg)/\PTs (cxC X scope own fp D s H) ifs (lb X.K C.md t)/\PE (cxC X scope own fp D s H) elt (lf X.K C.md e))/\∀ v,foldedSetIterable iter X.env v=pure v:=by
 have h0:=b2 h.st;have h1:=b2 h0.1;have h2:=b2 h1.1;have h4:=b2 h2.1;have h5:=b2 h4.1;have h6:=b2 h5.1
 obtain⟨s1,s2⟩:=G.sub h6.1 C.md
 exact⟨s1,λfp D s H=>⟨h.tg _ (s2 fp D s H),h.ts _ (s2 fp D s H),h.el _ (s2 fp D s H)⟩,a6i (nb h0.2)⟩
theorem c0i (G:Good X C n sp)(ht:C.tn i nx=true)(h:CompOkG X C n sp scope own elt tgx iter ifs nn m it tg t e):∃ te:TE,(∀ σ H Q,lG X.K C.md nn m it tg t e σ H Q->te σ H Q)/\PS X.nox (.Assign [.Name nx px] (.ListComp elt [⟨tgx,iter,ifs,0⟩] scope p) pos) (b6h te (a4n i)):=by
 have hsw:swapsWith (.ListComp elt [⟨tgx,iter,ifs,0⟩] scope p) (some (.Name nx px)) pos.line X.env=pure (swC C nx px scope p):=by rw[b6i G.kind,G.sc];rfl
 obtain⟨s1,s2,s3⟩:=h.blk G
 cases hb:swC C nx px scope p with
 | false =>
  rw[hb] at hsw
  exact⟨_,λσ H Q q=>h.run G q,b7c G ht hsw (b2a G.calm s1 h.it s2 s3)⟩
 | true =>
  rw[hb] at hsw
  have hlo:X.env.scope.names.lookup nx=some .local:=by
   rw[G.sc]
   have hb:=b2 hb
   exact de (b2 hb.1).1
  exact⟨_,λσ H Q q=>h.run G q,a7f G.calm s1 G.nd' (G.ix (b2 ht).1) hlo h.it s2 hsw s3⟩
theorem c2g (G:Good X C n sp){apos cpos:Pos}{ixx ax:Expr}{po p2:Pos}(h:C.nm j nx=true)(hl:d5l apos cpos=true)(hsl:a2b ixx=false)(hs:a0j ax=false)(hi:FE X C ixx ix)(ha:FE X C ax a) :
  ∃ tb:TS,PSs X.nox [.Expr (.Call (.Attribute (.Subscript (.Name nx p) ixx po) (Γe "append") apos) [ax] [] cpos) p2] tb /\
   ∀ {c:Cn}{acc:Addr}{gs:List NG}{L:a0c}{σ:L2.St}{S H:Hp}{D:Ends}{Q0:List (List FV)->a0c->Prop},NI X.K c C.md acc gs L σ S H->σ[j]?=some (some (.ref acc)) ->
    (ix L λi L2=>∃ (k:Nat)(ps:List FV),i=.int k/\(gs.map (·.2.2))[k]?=some ps/\ps.length<big/\a L2 λv L3=>Q0 ((gs.map (·.2.2)).set k (ps++[v])) L3) ->
    (∀ gs' L' S' H',Q0 (gs'.map (·.2.2)) L'->NI X.K c C.md acc gs' L' σ S' H'->Same S S'->D.nx σ H')->tb D σ H:=by
 refine⟨_,b7a (b7d (c6t PySem.F.plainAttrs_list PySem.F.slot_list_append PySem.F.type_list_append a5y (c6q b8l (a1k G h) hi (a4j hsl)) (a0u ha a2j (a0f hs)) rfl (by rw[a0f hs];rfl) hl (a0f hs) rfl) (a3b rfl)),?_⟩
 intro c acc gs L σ S H D Q0 N e hh k
 refine⟨_,e,_,L,S,_,N.I,hh,λiv L1 hw y S1 H1 r1 I1 s1=>?_⟩
 obtain⟨kk,ps,rfl,hk,hlen,hw⟩:=hw
 cases r1
 have N1:=N.go I1 s1
 have hb:=a0y
 obtain⟨g,hg,eg⟩:∃ g,gs[kk]?=some g/\g.2.2=ps:=by rw[List.getElem?_map] at hk;exact Option.map_eq_some_iff.mp hk
 obtain⟨b,us,ps'⟩:=g
 cases eg
 have gl:kk<gs.length:=(List.getElem?_eq_some_iff.mp hg).1
 have sp:gs=gs.take kk++(b,us,ps') :: gs.drop (kk+1):=by
  have:=(List.getElem?_eq_some_iff.mp hg).2
  rw[<- this,List.getElem_cons_drop,List.take_append_drop]
 have mg:(b,us,ps')∈gs:=List.mem_of_getElem? hg
 have hr:(a5m gs)[kk]?=some (V.ref b):=by simp[a5m,List.getElem?_map,hg]
 refine⟨acc,a5m gs,_,V.ref b,rfl,rfl,SqL.of N1.out,c9b hr,.inl ⟨rfl,us,SqL.of (N1.inn mg)⟩,_,L1,S1,_,I1,hw,λv L3 q y S3 H3 r3 I3 s3=>?_⟩
 have N3:=N1.go I3 s3
 have lr:=(N3.r _ mg).length
 refine⟨b,us,y,rfl,rfl,N3.inn mg,by rw[<- lr];lia,?_⟩
 rw[sp] at N3
 refine k _ L3 S3 _ ?_ (N3.put r3) (s1.trans s3)
 have e3:(gs.map (·.2.2)).set kk (ps'++[v])=(gs.take kk++(b,us++[y],ps'++[v]) :: gs.drop (kk+1)).map (·.2.2):=by
  conv=>lhs;rw[sp]
  rw[List.map_append,List.map_append,List.set_append_right _ _ (by simp[List.length_take];lia)]
  simp[List.length_take,Nat.min_eq_left (Nat.le_of_lt gl)]
 rw[<- e3];exact q
theorem c2t {K:Γd}{md:Md}{tb:TS}{c:Cn}{acc:Addr}{gs:List NG}{L:a0c}{σ:L2.St}{S H:Hp}{D:Ends}{Q0:List (List FV)->a0c->Prop}(ht:a3a md tg2=true)(hg:a4v (j+1) tg2=true)(N:NI K c md acc gs L σ S H)(e:σ[j]?=some (some (.ref acc)))
  (htb:∀ {gs:List NG}{L:a0c}{σ:L2.St}{S H:Hp}{D:Ends}{Q0:List (List FV)->a0c->Prop},NI K c md acc gs L σ S H->σ[j]?=some (some (.ref acc)) ->
    (ix L λi L2=>∃ (k:Nat)(ps:List FV),i=.int k/\(gs.map (·.2.2))[k]?=some ps/\ps.length<big/\a L2 λv L3=>Q0 ((gs.map (·.2.2)).set k (ps++[v])) L3) ->
    (∀ gs' L' S' H',Q0 (gs'.map (·.2.2)) L'->NI K c md acc gs' L' σ S' H'->Same S S'->D.nx σ H')->tb D σ H)
  (h:it2 L λzs L3=>b0i tg2 ix a zs (gs.map (·.2.2)) L3 Q0)
  (k:∀ gs' L' σ' S' H',Q0 (gs'.map (·.2.2)) L'->NI K c md acc gs' L' σ' S' H'->σ'[j]?=some (some (.ref acc))->Same S S'->D.nx σ' H'):tFor (liv K md it2) (gT K tg2) tb D σ H:=by
 refine⟨_,L,S,_,N.I,h,λzs L1 hx J S1 H1 I1 hJ s1=>?_⟩
 let W:Nat->Nat->L2.St->Hp->Prop:=λi q σ1 H1=>∃ gs L S2,q=(zs.drop i).length/\NI K c md acc gs L σ1 S2 H1/\σ1[j]?=some (some (.ref acc))/\Same S1 S2/\b0i tg2 ix a (zs.drop i) (gs.map (·.2.2)) L Q0
 refine⟨W,⟨_,gs,L1,S1,rfl,N.go I1 s1,e,Same.refl _,by rw[List.drop_zero];exact hx⟩,?_⟩
 rintro i q σ1 H1 ⟨gs,L,S2,rfl,N,e,s2,h⟩
 obtain⟨j1,j2⟩:=hJ _ _ i L σ1 S2 H1 N.I s2
 cases hd:zs.drop i with
 | nil =>
  rw[hd] at h
  exact .inl ⟨j1 (List.getElem?_eq_none_iff.mpr (List.drop_eq_nil_iff.mp hd)),k gs L σ1 S2 H1 h N e (s1.trans s2)⟩
 | cons p rest =>
  right
  rw[hd] at h
  have hi:zs[i]?=some p:=by
   have:=congrArg (·[0]?) hd
   simpa using this
  have hd':zs.drop (i+1)=rest:=by
   have:=congrArg List.tail hd
   simpa[List.tail_drop] using this
  obtain⟨go,yl⟩:=j2 p hi
  refine⟨go,λσ' H'=>∃ m',m'<rest.length+1/\W (i+1) m' σ' H',λσ' H' h=>h,λx H2 y=>?_⟩
  obtain⟨S3,s3,tr,rx⟩:=yl x H2 y
  have N2:=N.go (tr _ _ _ _ N.I) s3
  obtain⟨σ2,L2,g,q,I3,_,far⟩:=b4c ht N2.I rx h
  have e2:σ2[j]?=some (some (.ref acc)):=by rw[far (j+1) hg j (Nat.lt_succ_self j)];exact e
  refine g _ (htb (Q0:=λpss L=>b0i tg2 ix a rest pss L Q0) (N2.go I3 (Same.refl _)) e2 q λgs' L' S' H' q' N' s'=>?_)
  exact⟨rest.length,Nat.lt_succ_self _,gs',L',S',by rw[hd'],N',e2,s2.trans (s3.trans s'),by rw[hd'];exact q'⟩
theorem c8b (G:Good X C n sp){tgx2 iter2:Expr}{apos cpos:Pos}{ixx ax:Expr}{po p2 p3 p4:Pos}{sts:List Stmt}{r:SW}(ht:C.tn j nx=true)(hm:(decide (a0g C.md j=.imm) && (a3a C.md tg2 && a4v (j+1) tg2 && !b2n iter2))=true)(h:CompOkG X C n sp scope own elt tgx iter ifs nn m it tg t e)
  (hi2:FIv X C tgx2 iter2 it2)(hg:FG X tgx2 tg2)(h2:C.nm j nx=true)(hl:d5l apos cpos=true)(hsl:a2b ixx=false)(hs:a0j ax=false)(hix:FE X C ixx ix)(ha:FE X C ax a)(hr:FSs X C fr sts r) :
  FSs X C fr (.Assign [.Name nx px] (.ListComp elt [⟨tgx,iter,ifs,0⟩] scope p) pos :: .For tgx2 iter2 [.Expr (.Call (.Attribute (.Subscript (.Name nx p4) ixx po) (Γe "append") apos) [ax] [] cpos) p2] [] p3 :: sts) (a0p (c5x j nn m it tg t e it2 tg2 ix a) r):=by
 have hm:=b2 hm;have hm2:=b2 hm.2;have hm3:=b2 hm2.1
 have mi:=de hm.1
 obtain⟨te,h3,h4⟩:=c0i (px:=px) (p:=p) (pos:=pos) G ht h
 obtain⟨tb,h5,h6⟩:=c2g (p:=p4) (po:=po) (p2:=p2) G h2 hl hsl hs hix ha
 refine PSs.imp (a8d h4 (a8d (c4m (X:=X.nox) PassesOwn.never G.calm hi2 hg h5 (a6i (nb hm2.2))) hr)) λD σ H ⟨c,L,S,Q0,I,hh,k⟩=>?_
 refine h3 _ _ _ ⟨c,L,S,_,I,hh,λacc gs L' S' H' ln q N s'=>?_⟩
 have jl:j<σ.length:=by
  have h9:=(List.getElem?_eq_some_iff.mp (G.ix (b2 ht).1)).1
  have h0:=b2 h.st;have h1:=b2 h0.1;have h2:=b2 h1.1;have h4:=b2 h2.1;have h5:=b2 h4.1;have h6:=b2 h5.1
  rw[G.N,de h6.2] at h9
  rw[ln];exact h9
 have e1:(σ.set j (some (.ref acc)))[j]?=some (some (.ref acc)):=List.getElem?_set_self jl
 have eq:b2i (gs.map λg=>.lst g.2.2)=gs.map (·.2.2):=by
  have:=a6b (gs.map (·.2.2))
  rwa [List.map_map] at this
 rw[eq] at q
 refine c2t hm3.1 hm3.2 (N.go (N.I.blank mi _) (Same.refl _)) e1 h6 q λgs' L4 σ4 S4 H4 q4 N4 e4 s4=>?_
 obtain⟨S5,s5,I5,r5⟩:=N4.fin
 have I6:=I5.named mi e4 r5
 have eq2:(gs'.map λg=>FV.lst g.2.2)=(gs'.map (·.2.2)).map .lst:=by rw[List.map_map];rfl
 rw[eq2] at I6
 exact⟨c,_,S5,_,I6,q4,λfl L7 q7 σ7 S7 H7 I7 s7=>k fl L7 q7 σ7 S7 H7 I7 (s'.trans (s4.trans (s5.trans s7)))⟩
end
@[scoped simp ↓] theorem e1s (e:EW)(L:a0c)(Q:FV->a0c->Prop):c8n e L Q=(e L λv L1=>∃ ps,v=.lst ps/\Q v L1):=propext Iff.rfl
@[scoped simp ↓] theorem d4h (j n m:Nat)(it:AW)(tg:Tg)(t:BW)(e:EW)(it2:AW)(tg2:Tg)(ix a:EW)(L:a0c)(Q:FFl->a0c->Prop):c5x j n m it tg t e it2 tg2 ix a L Q=(it L λxs L1=>L1.length=n/\xs.length<=big/\a3i n m tg t (c8n e) xs [] L1 λys L2 =>
 it2 (L2.set j none) λzs L3=>b0i tg2 ix a zs (b2i ys) L3 λpss L4=>Q .next (L4.set j (some (.lst (pss.map .lst))))):=propext Iff.rfl
theorem b7x {α:Type}{f:α->FV}{tg:Tg}{ix a:EW}{P:List α->List (List FV)->a0c->Prop}{Q:List (List FV)->a0c->Prop}(all:List α):∀ (xs done:List α)(pss:List (List FV))(L:a0c),all=done++xs->P done pss L ->
  (∀ d x r pss L (K:List (List FV)->a0c->Prop),all=d++x :: r->P d pss L->(∀ pss' L',P (d++[x]) pss' L'->K pss' L')->gW tg (f x) L λL1=>ix L1 λi L2=>∃ (k:Nat)(ps:List FV),i=.int k/\pss[k]?=some ps/\ps.length<big/\a L2 λv L3=>K (pss.set k (ps++[v])) L3) ->
  (∀ pss L,P all pss L->Q pss L)->b0i tg ix a (xs.map f) pss L Q
 | [],done,pss,L,e,h,_,E=>by
  rw[List.append_nil] at e
  exact E pss L (e ▸ h)
 | x :: xs,done,pss,L,e,h,B,E=>B done x xs pss L (λpss' L'=>b0i tg ix a (xs.map f) pss' L' Q) e h λpss' L' h'=>b7x all xs (done++[x]) pss' L' (by simp[e]) h' B E
end Kq
end
section
namespace Kq
open PySem PySem.Spec PyProof.Rows L2 PySem.W
def itN (m:Nat):Nat->Nat->Nat
 | 0,i=>i
 | k+1,i=>itN m k ((i*5+1) % m)
theorem a8t (m:Nat):∀ a b i,itN m (a+b) i=itN m b (itN m a i)
 | 0,b,i=>by rw[Nat.zero_add];rfl
 | a+1,b,i=>by rw[show a+1+b=(a+b)+1 by lia];exact a8t m a b _
def d8c (m:Nat):Nat->Nat->List Nat
 | 0,_=>[]
 | k+1,i=>i :: d8c m k ((i*5+1) % m)
theorem a8g {m j:Nat}:∀ k i,j∈d8c m k i->∃ n,n<k/\itN m n i=j
 | 0,i,h=>absurd h List.not_mem_nil
 | k+1,i,h=>by
  rcases List.mem_cons.mp h with z|z
  ·exact⟨0,by lia,z.symm⟩
  ·obtain⟨n,h1,h2⟩:=a8g k _ z
   exact⟨n+1,by lia,h2⟩
def d8b (m:Nat):Bool:=(List.range m).all (λj=>(d8c m m 0).contains j) && itN m m 0 == 0
def Mk4 (mask:Nat):Prop:=mask=7 ∨ mask=31 ∨ mask=127 ∨ mask=511
theorem d1h {mask:Nat}(h:Mk4 mask):d8b (mask+1)=true:=by
 rcases h with rfl|rfl|rfl|rfl<;>nofun
theorem c7a {mask:Nat}(h:Mk4 mask){i j:Nat}(hi:i<mask+1)(hj:j<mask+1):∃ k,k<mask+1/\itN (mask+1) k i=j:=by
 obtain⟨h1,h2⟩:=b2 (d1h h)
 have h2:itN (mask+1) (mask+1) 0=0:=by simpa using h2
 obtain⟨a,ha,ea⟩:=a8g _ _ (by simpa using List.all_eq_true.mp h1 i (List.mem_range.mpr hi))
 obtain⟨b,hb,eb⟩:=a8g _ _ (by simpa using List.all_eq_true.mp h1 j (List.mem_range.mpr hj))
 by_cases z:a<=b
 ·refine⟨b-a,by lia,?_⟩
  rw[<- ea,<- a8t,show a+(b-a)=b by lia];exact eb
 ·refine⟨mask+1-a+b,by lia,?_⟩
  rw[<- ea,<- a8t,show a+(mask+1-a+b)=(mask+1)+b by lia,a8t,h2];exact eb
def a3z (mask:Nat):Nat->Nat×Nat->Nat×Nat
 | 0,x=>x
 | k+1,x=>a3z mask k (SetTable.leap mask x.1 x.2)
theorem b0o (mask:Nat):∀ a b x,a3z mask (a+b) x=a3z mask b (a3z mask a x)
 | 0,b,x=>by rw[Nat.zero_add];rfl
 | a+1,b,x=>by rw[show a+1+b=(a+b)+1 by lia];exact b0o mask a b _
theorem b0m (mask:Nat):∀ k x,(a3z mask k x).2=x.2 / 32 ^ k
 | 0,x=>by simp[a3z]
 | k+1,x=>by
  rw[a3z,b0m mask k]
  show x.2 / 32 / 32 ^ k=_
  rw[Nat.div_div_eq_div_mul,<- Nat.pow_succ']
theorem b0n (mask:Nat):∀ k x,x.1<mask+1->(a3z mask k x).1<mask+1
 | 0,x,h=>h
 | k+1,x,h=>b0n mask k _ (Nat.mod_lt _ (Nat.succ_pos _))
theorem a7k (mask:Nat):∀ k i,a3z mask k (i,0)=(itN (mask+1) k i,0)
 | 0,i=>rfl
 | k+1,i=>by
  rw[a3z,itN,show SetTable.leap mask i 0=((i*5+1) % (mask+1),0) by simp[SetTable.leap]]
  exact a7k mask k _
theorem b8g {mask:Nat}(h:Mk4 mask){i p e:Nat}(hi:i<mask+1)(hp:p<2 ^ 64)(he:e<mask+1):∃ k,k<=mask+13/\(a3z mask k (i,p)).1=e:=by
 have h1:(a3z mask 13 (i,p)).2=0:=by
  rw[b0m]
  exact Nat.div_eq_of_lt (Nat.lt_of_lt_of_le hp (by decide))
 have h2:=b0n mask 13 (i,p) hi
 obtain⟨k,hk,ek⟩:=c7a h h2 he
 refine⟨13+k,by lia,?_⟩
 rw[b0o,show a3z mask 13 (i,p)=((a3z mask 13 (i,p)).1,0) by rw[<- h1],a7k]
 exact ek
theorem c0r (h:Int):SetTable.bits h<2 ^ 64:=by
 unfold SetTable.bits
 have:=Int.emod_lt_of_pos h (show (0:Int)<2 ^ 64 by decide)
 have:=Int.emod_nonneg h (show (2 ^ 64:Int)≠0 by decide)
 lia
def a9i (t:SetTable):Nat->SetTable.Probe->SetTable.Probe
 | 0,p=>p
 | k+1,p=>a9i t k (t.advance p)
theorem a9h (t:SetTable):∀ a b p,a9i t (a+b) p=a9i t b (a9i t a p)
 | 0,b,p=>by rw[Nat.zero_add];rfl
 | a+1,b,p=>by rw[show a+1+b=(a+b)+1 by lia];exact a9h t a b _
def prb (t:SetTable)(x:Nat×Nat)(d:Option Nat):SetTable.Probe:={ j:=x.1,more:=SetTable.runEnd t.mask x.1-x.1,i:=x.1,perturb:=x.2,dummy:=d }
theorem c0x (t:SetTable):∀ (r:Nat)(p:SetTable.Probe),p.more=r->a9i t (r+1) p=prb t (SetTable.leap t.mask p.i p.perturb) p.dummy
 | 0,p,h=>by
  show t.advance p=_
  unfold SetTable.advance
  rw[if_neg (by lia)]
  rfl
 | r+1,p,h=>by
  show a9i t (r+1) (t.advance p)=_
  have e:t.advance p = { p with j:=p.j+1,more:=p.more-1 }:=by
   unfold SetTable.advance
   rw[if_pos (by lia)]
  rw[e]
  exact c0x t r _ (by show p.more-1=r;lia)
theorem d0e (mask i:Nat):SetTable.runEnd mask i-i<=9:=by
 unfold SetTable.runEnd
 split<;>lia
theorem c5j (t:SetTable):∀ (k:Nat)(x:Nat×Nat)(d:Option Nat),∃ n,n<=10*k/\a9i t n (prb t x d)=prb t (a3z t.mask k x) d
 | 0,x,d=>⟨0,by lia,rfl⟩
 | k+1,x,d=>by
  have h1:=c0x t _ (prb t x d) rfl
  have h2:=d0e t.mask x.1
  obtain⟨n,h3,h4⟩:=c5j t k (SetTable.leap t.mask x.1 x.2) d
  refine⟨(prb t x d).more+1+n,?_,?_⟩
  ·show SetTable.runEnd t.mask x.1-x.1+1+n<=_
   lia
  ·rw[a9h,h1]
   exact h4
theorem a6p (t:SetTable):∀ n p,(a9i t n p).dummy=p.dummy
 | 0,p=>rfl
 | n+1,p=>by
  rw[a9i,a6p t n]
  unfold SetTable.advance
  split<;>rfl
theorem c0y {t:SetTable}(hm:Mk4 t.mask) (h:Int){e:Nat}(he:e<t.mask+1):∃ n,n<=10*(t.mask+13)/\(a9i t n (t.probeStart h)).j=e:=by
 obtain⟨k,hk,ek⟩:=b8g hm (i:=SetTable.bits h % (t.mask+1)) (Nat.mod_lt _ (Nat.succ_pos _)) (c0r h) he
 obtain⟨n,hn,en⟩:=c5j t k (SetTable.bits h % (t.mask+1),SetTable.bits h) none
 refine⟨n,by lia,?_⟩
 have:t.probeStart h=prb t (SetTable.bits h % (t.mask+1),SetTable.bits h) none:=rfl
 rw[this,en]
 exact ek
theorem a6x {t:SetTable}(hd:t.dummies = #[]) (j:Nat):t.slot j≠.dummy:=λq=>by
 unfold SetTable.slot at q
 rw[hd,b3z] at q
 dsimp only at q
 by_cases z:(t.place[SetTable.below t.place j]? == some j)=true
 ·rw[if_pos z] at q;exact nomatch q
 ·rw[if_neg z,if_neg (by simp)] at q;exact nomatch q
theorem a5v {t:SetTable}(hd:t.dummies = #[]){f:Nat->Int}{h:Int}:∀ (n fuel:Nat)(p:SetTable.Probe),n<fuel->p.dummy=none->t.slot (a9i t n p).j=.empty ->
  (∃ j,SetTable.probe.go t f h fuel p=some (.empty j none)/\t.slot j=.empty) ∨ ∃ j i k,SetTable.probe.go t f h fuel p=some (.candidate j i (a9i t (k+1) p))/\t.slot j=.live i/\k<n
 | n,0,p,hf,_,_=>absurd hf (Nat.not_lt_zero _)
 | n,fuel+1,p,hf,hp,he=>by
  unfold SetTable.probe.go
  have ad:(t.advance p).dummy=none:=(a6p t 1 p).trans hp
  cases q:t.slot p.j with
  | empty=>exact .inl ⟨p.j,by rw[hp],q⟩
  | dummy=>exact absurd q (a6x hd _)
  | live i =>
   cases n with
   | zero=>rw[show (a9i t 0 p).j=p.j from rfl,q] at he;cases he
   | succ n =>
    dsimp only
    split
    ·exact .inr ⟨p.j,i,0,rfl,q,by lia⟩
    ·rcases a5v (f:=f) (h:=h) hd n fuel (t.advance p) (by lia) ad he with⟨j,e1,e2⟩|⟨j,i',k,e1,e2,e3⟩
     ·exact .inl ⟨j,e1,e2⟩
     ·exact .inr ⟨j,i',k+1,e1,e2,by lia⟩
structure Owns (mask:Nat)(ow:Array (Option Nat)) (k:Nat):Prop where
 sz:ow.size=mask+1
 lt:∀ j i:Nat,ow[j]?=some (some i)->i<k
 on:∀ i,i<k->∃ j:Nat,ow[j]?=some (some i)
 inj:∀ j j' i:Nat,ow[j]?=some (some i)->ow[j']?=some (some i)->j=j'
theorem Owns.free {mask:Nat}{ow:Array (Option Nat)}{k:Nat}(h:Owns mask ow k)(hk:k<mask+1):∃ e:Nat,e<mask+1/\ow[e]?=some none:=by
 refine Classical.byContradiction λz=>?_
 have full:∀ j:Nat,j<mask+1->∃ i,ow[j]?=some (some i):=λj hj=>by
  cases e:ow[j]? with
  | none=>rw[Array.getElem?_eq_none_iff,h.sz] at e;lia
  | some o =>
   cases o with
   | none=>exact absurd ⟨j,hj,e⟩ z
   | some i=>exact⟨i,rfl⟩
 have nd:((List.range (mask+1)).map λj=>((ow[j]?).getD none).getD 0).Nodup:=by
  refine List.pairwise_map.mpr (List.nodup_range.imp_of_mem λ{a b} ha hb ne e=>ne ?_)
  obtain⟨i,ei⟩:=full a (List.mem_range.mp ha)
  obtain⟨i',ei'⟩:=full b (List.mem_range.mp hb)
  rw[ei,ei'] at e
  have e:i=i':=e
  subst e
  exact h.inj a b i ei ei'
 have:=nd.length_le_of_subset (l₂:=List.range k) λx hx=>by
  obtain⟨j,hj,e⟩:=List.mem_map.mp hx
  obtain⟨i,ei⟩:=full j (List.mem_range.mp hj)
  rw[ei] at e
  have e:i=x:=e
  subst e
  exact List.mem_range.mpr (h.lt j i ei)
 simp at this
 lia
theorem Owns.put {mask:Nat}{ow:Array (Option Nat)}{k j:Nat}(h:Owns mask ow k)(hj:ow[j]?=some none):Owns mask (ow.setIfInBounds j (some k)) (k+1):=by
 have jl:j<ow.size:=(Array.getElem?_eq_some_iff.mp hj).1
 have look:∀ x:Nat,(ow.setIfInBounds j (some k))[x]?=if j=x then some (some k) else ow[x]?:=λx=>by
  rw[Array.getElem?_setIfInBounds]
  by_cases z:j=x
  ·rw[if_pos z,if_pos z,if_pos jl]
  ·rw[if_neg z,if_neg z]
 refine⟨by rw[Array.size_setIfInBounds];exact h.sz,λx i e=>?_,λi hi=>?_,λx y i e1 e2=>?_⟩
 ·rw[look] at e
  split at e
  ·cases e;lia
  ·have:=h.lt x i e;lia
 ·by_cases z:i=k
  ·exact⟨j,by rw[look,if_pos rfl,z]⟩
  ·obtain⟨x,ex⟩:=h.on i (by lia)
   refine⟨x,?_⟩
   rw[look,if_neg λq=>by rw[<- q,hj] at ex;cases ex]
   exact ex
 ·rw[look] at e1 e2
  split at e1
  ·split at e2
   ·rename_i a b;exact a.symm.trans b
   ·cases e1;have:=h.lt y k e2;lia
  ·split at e2
   ·cases e2;have:=h.lt x k e1;lia
   ·exact h.inj x y i e1 e2
theorem b0t {mask:Nat}{ow:Array (Option Nat)}{e:Nat}(he:ow[e]?=some none):∀ (fuel i p:Nat),(∃ k,k<fuel/\(a3z mask k (i,p)).1=e)->∃ j,SetTable.layClean.free mask ow fuel i p=some j/\ow[j]?=some none
 | 0,i,p,⟨k,hk,_⟩=>absurd hk (Nat.not_lt_zero _)
 | fuel+1,i,p,⟨k,hk,ek⟩=>by
  unfold SetTable.layClean.free
  cases q:(List.range (SetTable.runEnd mask i+1-i)).find? λk=>(ow.getD (i+k) (some 0)).isNone with
  | some x =>
   refine⟨i+x,rfl,?_⟩
   have:=List.find?_some q
   rw[Array.getD_eq_getD_getElem?] at this
   cases g:ow[i+x]? with
   | none=>rw[g] at this;cases this
   | some o =>
    rw[g] at this
    cases o with
    | none=>rfl
    | some y=>cases this
  | none =>
   have h0:=List.find?_eq_none.mp q 0 (List.mem_range.mpr (by unfold SetTable.runEnd;split<;>lia))
   cases k with
   | zero =>
    exfalso
    have ek:i=e:=ek
    rw[Nat.add_zero,Array.getD_eq_getD_getElem?,ek,he] at h0
    exact h0 rfl
   | succ k=>exact b0t he fuel _ _ ⟨k,by lia,ek⟩
theorem b0s {mask:Nat}(hm:Mk4 mask):∀ (hs:List Int)(ow:Array (Option Nat)) (k:Nat),Owns mask ow k->k+hs.length<=mask ->
  ∃ ow',hs.foldl (λ(acc:Option (Array (Option Nat)×Nat)) h=>do
   let (owner,k) <- acc
   let j <- SetTable.layClean.free mask owner (SetTable.turns mask) (SetTable.bits h % (mask+1)) (SetTable.bits h)
   pure (owner.setIfInBounds j (some k),k+1)) (some (ow,k))=some (ow',k+hs.length)/\Owns mask ow' (k+hs.length)
 | [],ow,k,h,_=>⟨ow,rfl,h⟩
 | x :: hs,ow,k,h,hl=>by
  rw[List.length_cons] at hl
  obtain⟨e,he,ee⟩:=h.free (by lia)
  obtain⟨n,hn,en⟩:=b8g hm (i:=SetTable.bits x % (mask+1)) (Nat.mod_lt _ (Nat.succ_pos _)) (c0r x) he
  obtain⟨j,ej,ij⟩:=b0t (mask:=mask) ee (SetTable.turns mask) (SetTable.bits x % (mask+1)) (SetTable.bits x) ⟨n,by unfold SetTable.turns;lia,en⟩
  obtain⟨ow',h1,h2⟩:=b0s hm hs _ (k+1) (h.put ij) (by lia)
  refine⟨ow',?_,by rw[List.length_cons,show k+(hs.length+1)=k+1+hs.length by lia];exact h2⟩
  rw[List.foldl_cons,List.length_cons,show k+(hs.length+1)=k+1+hs.length by lia,<- h1]
  congr 1
  show (SetTable.layClean.free mask ow (SetTable.turns mask) (SetTable.bits x % (mask+1)) (SetTable.bits x)).bind (λj=>some (ow.setIfInBounds j (some k),k+1))=_
  rw[ej];rfl
theorem c3a {mask:Nat}(hm:Mk4 mask)(hs:Array Int)(hl:hs.size<=mask):∃ ow,SetTable.layClean mask hs=some ow/\Owns mask ow hs.size:=by
 have h0:Owns mask (Array.replicate (mask+1) none) 0:=⟨by simp,λj i e=>(by
  rw[Array.getElem?_replicate] at e
  split at e<;>simp at e),λi hi=>absurd hi (Nat.not_lt_zero _),λj j' i e=>(by
  rw[Array.getElem?_replicate] at e
  split at e<;>simp at e)⟩
 obtain⟨ow,h1,h2⟩:=b0s hm hs.toList _ 0 h0 (by simpa using hl)
 refine⟨ow,?_,by simpa using h2⟩
 unfold SetTable.layClean
 rw[<- Array.foldl_toList,h1]
 rfl
theorem a8q {mask:Nat}{ow:Array (Option Nat)}{k:Nat}(h:Owns mask ow k):((((List.range (mask+1)).filterMap λj=>(ow.getD j none).map (j,·)).map (·.2)).length=k)/\∀ i∈(((List.range (mask+1)).filterMap λj=>(ow.getD j none).map (j,·)).map (·.2)),i<k:=by
 have gd:∀ (j i:Nat),ow.getD j none=some i↔ow[j]?=some (some i):=λj i=>by
  rw[Array.getD_eq_getD_getElem?]
  cases ow[j]? with
  | none=>simp
  | some o=>simp
 have lt:∀ i∈(((List.range (mask+1)).filterMap λj=>(ow.getD j none).map (j,·)).map (·.2)),i<k:=λi hi=>by
  obtain⟨p,hp,rfl⟩:=List.mem_map.mp hi
  obtain⟨j,_,e⟩:=List.mem_filterMap.mp hp
  obtain⟨x,ex,rfl⟩:=Option.map_eq_some_iff.mp e
  exact h.lt j x ((gd j x).mp ex)
 refine⟨Nat.le_antisymm ?_ ?_,lt⟩
 ·have nd:(((List.range (mask+1)).filterMap λj=>(ow.getD j none).map (j,·)).map (·.2)).Nodup:=by
   refine List.pairwise_map.mpr (List.pairwise_filterMap.mpr (List.nodup_range.imp λ{a b} ne x hx y hy e=>ne ?_))
   obtain⟨u,eu,rfl⟩:=Option.map_eq_some_iff.mp hx
   obtain⟨v,ev,rfl⟩:=Option.map_eq_some_iff.mp hy
   have e:u=v:=e
   subst e
   exact h.inj a b u ((gd a u).mp eu) ((gd b u).mp ev)
  have:=nd.length_le_of_subset (l₂:=List.range k) λx hx=>List.mem_range.mpr (lt x hx)
  simpa using this
 ·have:=(List.nodup_range (n:=k)).length_le_of_subset (l₂:=((List.range (mask+1)).filterMap λj=>(ow.getD j none).map (j,·)).map (·.2)) λx hx=>by
   obtain⟨j,ej⟩:=h.on x (List.mem_range.mp hx)
   refine List.mem_map.mpr ⟨(j,x),List.mem_filterMap.mpr ⟨j,List.mem_range.mpr ?_,?_⟩,rfl⟩
   ·rw[<- h.sz];exact (Array.getElem?_eq_some_iff.mp ej).1
   ·rw[(gd j x).mpr ej];rfl
  simpa using this
theorem c7r {mask:Nat}(hm:Mk4 mask) (f mv:Nat)(l pl:Bool)(hs:Array Int)(hl:hs.size<=mask):∃ t od,SetTable.laid mask f mv l pl hs=some (t,od)/\t.mask=mask/\t.led=l/\t.plain=pl/\t.dummies = #[]/\a9j t.place/\t.place.size=hs.size/\od.size=hs.size/\(∀ i∈od.toList,i<hs.size):=by
 obtain⟨ow,h1,h2⟩:=c3a hm hs hl
 refine⟨_,_,by unfold SetTable.laid;rw[h1];rfl,rfl,rfl,rfl,rfl,?_,?_,?_,?_⟩
 ·rw[rise_list]
  show (List.map Prod.fst (List.filterMap (λj=>(ow.getD j none).map (j,·)) (List.range _))).Pairwise (· < ·)
  rw[List.pairwise_map,List.pairwise_filterMap]
  refine List.pairwise_lt_range.imp λ{a b} hab x hx y hy=>?_
  obtain⟨_,_,rfl⟩:=Option.map_eq_some_iff.mp hx
  obtain⟨_,_,rfl⟩:=Option.map_eq_some_iff.mp hy
  exact hab
 ·have:=(a8q h2).1
  rw[List.length_map] at this
  show (List.map Prod.fst (List.filterMap (λj=>(ow.getD j none).map (j,·)) (List.range _))).toArray.size=_
  rw[List.size_toArray,List.length_map];exact this
 ·have:=(a8q h2).1
  show (List.map Prod.snd (List.filterMap (λj=>(ow.getD j none).map (j,·)) (List.range _))).toArray.size=_
  rw[List.size_toArray];exact this
 ·exact (a8q h2).2
section
variable {prog:Program}{w:World}{A:Around}{E:Value->Shared->Prop}{s:Shared}
abbrev IsT (prog:Program)(w:World)(h:Heap)(k:List Int)(b:Addr):Prop:=IsTupleKey (intKind prog w) h k b
theorem c7w {k:Int}{v:Value}(h:(intKind prog w).is k v=true):∃ t,v=.int k t:=by
 cases v with
 | int i t =>
  have:i=k:=(intKind prog w).inj (.int i t) _ _ (intKind_is _ _ _ _) h
  exact⟨t,by rw[this]⟩
 | _=>exact absurd h (by simp[intKind,Value.isInt])
theorem items_int {ks:List Int}{vs:List Value}(h:ItemsAre (intKind prog w) ks vs):∀ v∈vs,∃ k t,v=.int k t:=by
 induction h with
 | nil=>intro v hv;simp at hv
 | cons h1 _ ih =>
  intro v hv
  rcases List.mem_cons.mp hv with rfl|hv
  ·obtain⟨t,e⟩:=c7w h1;exact⟨_,t,e⟩
  ·exact ih v hv
theorem b2x {k:List Int}{b:Addr}{Q:Bool->Shared->Prop}(hk:IsT prog w s.heap k b)(h:Q true s):wpAny (model prog w) A (hashByValue 8 (.ref b)) Q E s:=by
 have hT:=hk.typeIs
 obtain⟨o,items,n,ho,_,hd,hi⟩:=hk
 unfold hashByValue
 refine Γa (wpAny_specialOf hT F.slot_tuple_hash.lookup ?_)
 dsimp only
 refine Γa (wpAny_seqItems ho hd ?_)
 refine Γa ?_
 show wpAny _ _ (forIn items _ _) _ _ s
 rw[<- Array.forIn_toList]
 refine wpAny_forIn_list _ (λrest r s'=>r.1=none/\s'=s/\∀ v∈rest,∃ k t,v=.int k t) _ ?_ ?_ _ _ ⟨rfl,rfl,items_int hi⟩
 ·rintro v rest r s' ⟨hr,rfl,hall⟩
  obtain⟨k,t,rfl⟩:=hall v Γn
  rw[show hashByValue 7 (.int k t)=pure true from rfl]
  refine Γa (Γb ?_)
  simp only[Bool.not_true,Γp,if_false]
  exact Γb ⟨rfl,rfl,λu hu'=>hall u (Γh _ hu')⟩
 ·rintro⟨r1,r2⟩ s' ⟨hr,rfl,_⟩
  simp only at hr
  subst hr
  exact Γb h
theorem a5x {k:List Int}{b:Addr}{Q:Bool->Shared->Prop}(hk:IsT prog w s.heap k b)(h:Q false s):wpAny (model prog w) A (ofAClassStatement 8 (.ref b)) Q E s:=by
 have hT:=hk.typeIs
 obtain⟨o,items,n,ho,_,hd,hi⟩:=hk
 unfold ofAClassStatement
 refine Γa (wpAny_typeOf hT ?_)
 dsimp only
 refine Γa (Γb ?_)
 simp only[Bool.not_true,Γp,if_false]
 refine Γa (wpAny_seqItems ho hd ?_)
 dsimp only
 refine Γa ?_
 show wpAny _ _ (forIn items _ _) _ _ s
 rw[<- Array.forIn_toList]
 refine wpAny_forIn_list _ (λrest r s'=>r.1=none/\s'=s/\∀ v∈rest,∃ k t,v=.int k t) _ ?_ ?_ _ _ ⟨rfl,rfl,items_int hi⟩
 ·rintro v rest r s' ⟨hr,rfl,hall⟩
  obtain⟨k,t,rfl⟩:=hall v Γn
  rw[show ofAClassStatement 7 (.int k t)=pure false from rfl]
  refine Γa (Γb ?_)
  simp only[Γp,if_false]
  exact Γb ⟨rfl,rfl,λu hu'=>hall u (Γh _ hu')⟩
 ·rintro⟨r1,r2⟩ s' ⟨hr,rfl,_⟩
  simp only at hr
  subst hr
  exact Γb h
theorem c1w {k:List Int}{b:Addr}{ys:List Value}{Q:Bool->Shared->Prop}(hk:IsT prog w s.heap k b)(hy:∀ y∈ys,∃ k b,y=.ref b/\IsT prog w s.heap k b)(h:Q false s):wpAny (model prog w) A (searchCouldBeSeen (.ref b) ys) Q E s:=by
 unfold searchCouldBeSeen
 refine Γa ?_
 refine wpAny_forIn_list _ (λrest r s'=>r.1=none/\s'=s/\∀ y∈rest,∃ k b,y=.ref b/\IsT prog w s.heap k b) _ ?_ ?_ _ _ ⟨rfl,rfl,hy⟩
 ·rintro v rest r s' ⟨hr,rfl,hall⟩
  obtain⟨k2,b2,rfl,h2⟩:=hall v Γn
  dsimp only
  split
  ·exact Γb ⟨rfl,rfl,λu hu'=>hall u (Γh _ hu')⟩
  ·refine Γa (wpAny_eqIsQuiet_tuple hk ?_)
   simp only[Bool.not_true,Γp,if_false]
   refine Γa (wpAny_eqIsQuiet_tuple h2 ?_)
   simp only[Bool.not_true,Γp,if_false]
   refine Γa (a5x hk ?_)
   simp only[Γp,if_false]
   refine Γa (a5x h2 ?_)
   simp only[Γp,if_false]
   exact Γb ⟨rfl,rfl,λu hu'=>hall u (Γh _ hu')⟩
 ·rintro⟨r1,r2⟩ s' ⟨hr,rfl,_⟩
  simp only at hr
  subst hr
  exact Γb h
end
structure TabT (t:SetTable) (n:Nat):Prop where
 m4:Mk4 t.mask
 dm:t.dummies = #[]
 rs:a9j t.place
 sz:t.place.size=n
 lo:n*5<t.mask*3
theorem TabT.fits {t:SetTable}{n:Nat}(T:TabT t n):t.fits n=true:=by
 have:=T.lo
 have:=T.sz
 simp only[SetTable.fits,SetTable.fill,T.dm,T.sz,Bool.and_eq_true,beq_iff_eq,decide_eq_true_eq]
 exact⟨trivial,by simp;lia⟩
theorem a9u {t:SetTable}{j i:Nat}(h:t.slot j=.live i):t.place[i]?=some j:=by
 unfold SetTable.slot at h
 dsimp only at h
 split at h
 ·rename_i z;cases h;exact beq_iff_eq.mp z
 ·split at h<;>cases h
theorem TabT.empty {t:SetTable}{n:Nat}(T:TabT t n):∃ e,e<t.mask+1/\t.slot e=.empty:=by
 refine Classical.byContradiction λz=>?_
 have:=(List.nodup_range (n:=t.mask+1)).length_le_of_subset (l₂:=t.place.toList) λx hx=>by
  cases q:t.slot x with
  | empty=>exact absurd ⟨x,List.mem_range.mp hx,q⟩ z
  | dummy=>exact absurd q (a6x T.dm x)
  | live i=>exact Array.mem_toList_iff.mpr (Array.mem_of_getElem? (a9u q))
 have h1:=T.lo
 have h2:=T.sz
 simp at this
 lia
section
variable {prog:Program}{w:World}{A:Around}{E:Value->Shared->Prop}{s:Shared}
theorem a9w {a b:Addr}{k:List Int}{h:Int}{o:Obj}{es:Array (Int×Value)}{ep:Nat}{t:SetTable}{Q:SetFound->Shared->Prop}(hk:IsT prog w s.heap k b)(ho:s.heap.get? a=some o)(hd:o.data=.set es ep t)(T:TabT t es.size)
  (hes:∀ e∈es.toList,∃ k' b',e.2=.ref b'/\IsT prog w s.heap k' b'/\k'≠k)(hu:A.units<cLine)(q:∀ j,t.slot j=.empty->Q (.free j false) s) :
  ∀ (fuel r:Nat)(st:Option SetTable.Probe),(st.getD (t.probeStart h)).dummy=none->t.slot (a9i t r (st.getD (t.probeStart h))).j=.empty->r<=10*(t.mask+13)->r<fuel->wpAny (model prog w) A (setSearchFrom a (.ref b) h true fuel st) Q E s
 | 0,r,st,_,_,_,hf=>absurd hf (Nat.not_lt_zero _)
 | fuel+1,r,st,hp,he,hr,hf=>by
  unfold setSearchFrom
  refine Γa (wpAny_setState_of ho hd T.fits ?_)
  dsimp only
  have gw:t.gaveWay=false:=by
   rcases T.m4 with z|z|z|z<;>simp[SetTable.gaveWay,z]
  rw[gw]
  simp only[Γp,if_false]
  have tn:r<10*SetTable.turns t.mask:=by unfold SetTable.turns;lia
  rcases a5v (f:=_) (h:=h) T.dm r (10*SetTable.turns t.mask) (st.getD (t.probeStart h)) tn hp he with⟨j,e1,e2⟩|⟨j,i,n,e1,e2,e3⟩
  ·unfold SetTable.probe
   rw[e1]
   exact Γb (q j e2)
  ·unfold SetTable.probe
   rw[e1]
   dsimp only
   have hi:i<es.size:=by
    rw[<- T.sz];exact (Array.getElem?_eq_some_iff.mp (a9u e2)).1
   have mi:es[i]∈es.toList:=Array.mem_toList_iff.mpr (Array.getElem_mem hi)
   obtain⟨k',b',ey,hy,nk⟩:=hes _ mi
   have rcc:wpAny (model prog w) A (setSearchFrom a (.ref b) h true fuel (some (a9i t (n+1) (st.getD (t.probeStart h))))) Q E s:=by
    refine a9w hk ho hd T hes hu q fuel (r-(n+1)) (some (a9i t (n+1) (st.getD (t.probeStart h)))) ?_ ?_ (by lia) (by lia)
    ·show (a9i t (n+1) _).dummy=none
     rw[a6p];exact hp
    ·show t.slot (a9i t (r-(n+1)) (a9i t (n+1) _)).j=.empty
     rw[<- a9h,show n+1+(r-(n+1))=r by lia];exact he
   have sm:t.sameMemory t.moves t.mask=some true:=by unfold SetTable.sameMemory;rw[if_pos (by simp)]
   have gi:es[i]?=some (es[i].1,Value.ref b'):=by rw[Array.getElem?_eq_getElem hi,<- ey]
   cases hl:t.led with
   | false =>
    simp only[Bool.not_false,if_true]
    refine Γa (c1w hk (λy hy=>?_) ?_)
    ·obtain⟨e,he',rfl⟩:=List.mem_map.mp hy
     have:=Array.mem_toList_iff.mp he'
     obtain⟨k2,b2,g1,g2,_⟩:=hes e (Array.mem_toList_iff.mpr (Array.mem_filter.mp this).1)
     exact⟨k2,b2,g1,g2⟩
    ·simp only[Γp,if_false]
     rw[gi]
     dsimp only
     refine Γa (Γg (wpAny_eqBool_tuple hu hy hk ?_))
     rw[decide_eq_false nk]
     refine Γa (wpAny_setState_of ho hd T.fits ?_)
     simp only[Bool.and_false,Γp,if_false]
     rw[sm]
     simp only[if_true,e2]
     rw[gi]
     dsimp only
     refine Γa (show wpAny _ _ (isSame (.ref b') (.ref b')) _ E s from ?_)
     unfold isSame
     simp only[beq_self_eq_true,if_true]
     refine Γb (Γa (Γb ?_))
     exact rcc
   | true =>
    simp only[Bool.not_true,Γp,if_false]
    rw[gi]
    dsimp only
    refine Γa (Γg (wpAny_eqBool_tuple hu hy hk ?_))
    rw[decide_eq_false nk]
    refine Γa (wpAny_setState_of ho hd T.fits ?_)
    simp only[Bool.and_false,Γp,if_false]
    rw[sm]
    simp only[if_true,e2]
    rw[gi]
    dsimp only
    refine Γa (show wpAny _ _ (isSame (.ref b') (.ref b')) _ E s from ?_)
    unfold isSame
    simp only[beq_self_eq_true,if_true]
    refine Γb (Γa (Γb ?_))
    exact rcc
theorem b4u {a b:Addr}{k:List Int}{h:Int}{o:Obj}{es:Array (Int×Value)}{ep:Nat}{t:SetTable}{Q:SetFound->Shared->Prop}(hk:IsT prog w s.heap k b)(ho:s.heap.get? a=some o)(hd:o.data=.set es ep t)(T:TabT t es.size)
  (hes:∀ e∈es.toList,∃ k' b',e.2=.ref b'/\IsT prog w s.heap k' b'/\k'≠k)(hu:A.units<cLine)(q:∀ j,t.slot j=.empty->Q (.free j false) s):wpAny (model prog w) A (setSearch a (.ref b) h true) Q E s:=by
 obtain⟨e,he,ee⟩:=T.empty
 obtain⟨n,hn,en⟩:=c0y T.m4 h he
 have:t.mask<=511:=by rcases T.m4 with z|z|z|z<;>lia
 exact a9w hk ho hd T hes hu q 100000 n none rfl (by rw[show (none:Option SetTable.Probe).getD (t.probeStart h)=t.probeStart h from rfl,en];exact ee) hn (by lia)
end
theorem c7z {mask n:Nat}(h:Mk4 mask)(lo:n*5<mask*3)(tf:mask*3<=(n+1)*5)(hb:n+1<=300):Mk4 (SetTable.sizeAbove (SetTable.grown (n+1))-1)/\(n+1)*5<(SetTable.sizeAbove (SetTable.grown (n+1))-1)*3/\SetTable.sizeAbove (SetTable.grown (n+1))<=512:=by
 rcases h with rfl|rfl|rfl|rfl
 ·obtain rfl:n=4:=by lia
  refine⟨.inr (.inl (by decide)),by decide,by decide⟩
 ·obtain rfl:n=18:=by lia
  refine⟨.inr (.inr (.inl (by decide))),by decide,by decide⟩
 ·obtain rfl:n=76:=by lia
  refine⟨.inr (.inr (.inr (by decide))),by decide,by decide⟩
 ·lia
structure SetD (o:Obj)(es:Array (Int×Value)) (ep:Nat)(t:SetTable)(bs:List Addr):Prop where
 ex:o.ExactSet
 dat:o.data=.set es ep t
 sz:es.size=bs.length
 tup:∀ e∈es.toList,∃ b∈bs,e.2=.ref b
 tab:TabT t es.size
def SetT (h:Heap)(a:Addr)(bs:List Addr):Prop:=bs.length<=300/\∃ o es ep t,h.get? a=some o/\SetD o es ep t bs
theorem SetT.keep {h h':Heap}{a:Addr}{bs:List Addr}(x:SetT h a bs)(k:∀ o,h.get? a=some o->h'.get? a=some o):SetT h' a bs:=let ⟨h1,o,es,ep,t,h2,h3⟩:=x;⟨h1,o,es,ep,t,k o h2,h3⟩
section
variable {prog:Program}{w:World}{A:Around}{E:Value->Shared->Prop}{s:Shared}
theorem b6w {h:Heap}{a:Addr}{o:Obj}(ho:h.get? a=some o)(es:Array (Int×Value))(t:SetTable)(ex:o.ExactSet){es0:Array (Int×Value)}{ep0:Nat}{t0:SetTable}(hd:o.data=.set es0 ep0 t0):∃ o' ep',(h.update a (Obj.putSet es t)).get? a=some o'/\o'.ExactSet/\o'.data=.set es ep' t:=by
 refine⟨_,ep0+1,Heap.get?_update_self (Obj.putSet es t) ho (by rw[putSet_of es t hd];rfl),?_,?_⟩
 ·rw[putSet_of es t hd];exact ex
 ·rw[putSet_of es t hd]
theorem c6e {t:SetTable}{n j:Nat}(T:TabT t n)(ej:t.slot j=.empty):(t.put j).1.mask=t.mask/\(t.put j).1.dummies = #[]/\a9j (t.put j).1.place/\(t.put j).1.place.size=n+1:=by
 refine⟨rfl,?_,?_,?_⟩
 ·show (if SetTable.has t.dummies j then _ else t.dummies) = #[]
  rw[T.dm,b3z];rfl
 ·refine b2o T.rs λz=>?_
  unfold SetTable.slot at ej
  rw[if_pos (by rw[z];simp)] at ej
  cases ej
 ·show (SetTable.insertAt t.place _ j).size=_
  rw[<- Array.length_toList,a2o _ _ _ (a3e T.rs j).1]
  have:=(a3e T.rs j).1
  have:=T.sz
  simp
  lia
theorem c7x {es:Array (Int×Value)}{p:Nat}{x e:Int×Value}(hp:p<=es.size)(h:e∈(SetTable.insertAt es p x).toList):e=x ∨ e∈es.toList:=by
 rw[a2o _ _ _ hp] at h
 rcases List.mem_append.mp h with z|z
 ·exact .inr (List.mem_of_mem_take z)
 ·rcases List.mem_cons.mp z with z|z
  ·exact .inl z
  ·exact .inr (List.mem_of_mem_drop z)
theorem c3j {es:Array (Int×Value)}{p:Nat}{x:Int×Value}(hp:p<=es.size):(SetTable.insertAt es p x).size=es.size+1:=by
 rw[<- Array.length_toList,a2o _ _ _ hp]
 simp
 lia
theorem d7d {es:Array (Int×Value)}{od:Array Nat}(h1:od.size=es.size)(h2:∀ i∈od.toList,i<es.size):(od.filterMap (es[·]?)).size=es.size/\∀ e∈(od.filterMap (es[·]?)).toList,e∈es.toList:=by
 have e0:(od.filterMap (es[·]?)).toList=od.toList.filterMap (es[·]?):=Array.toList_filterMap
 refine⟨?_,λe he=>?_⟩
 ·rw[<- h1,<- Array.length_toList,e0,<- Array.length_toList]
  clear h1 e0
  generalize od.toList=l at h2
  induction l with
  | nil=>rfl
  | cons x r ih =>
   have hx:=h2 x Γn
   rw[List.filterMap_cons,Array.getElem?_eq_getElem hx]
   simp only[List.length_cons]
   rw[ih λi hi=>h2 i (Γh _ hi)]
 ·rw[e0] at he
  obtain⟨i,_,e1⟩:=List.mem_filterMap.mp he
  exact Array.mem_toList_iff.mpr (Array.mem_of_getElem? e1)
theorem add_tup {a b:Addr}{k:List Int}{hs:Int}{bs:List Addr}{Q:Bool->Shared->Prop}(hS:SetT s.heap a bs)(hk:IsT prog w s.heap k b)(nk:∀ b'∈bs,∃ k',IsT prog w s.heap k' b'/\k'≠k)(hr:bs.length+1<=300)(hu:A.units<cLine)
  (q:∀ h',Heap.SameBut a s.heap h'->SetT h' a (bs++[b])->Q true { s with heap:=h' }):wpAny (model prog w) A (setAddHashed a (.ref b) hs) Q E s:=by
 obtain⟨hl,o,es,ep,t,ho,d⟩:=hS
 unfold setAddHashed setAddHashedIn
 refine Γg (Γa (wpAny_setState_of ho d.dat d.tab.fits ?_))
 dsimp only
 rw[show byScan (.ref b) es=false from rfl]
 simp only[Γp,if_false]
 refine Γa (b4u hk ho d.dat d.tab (λe he=>?_) hu λj ej=>?_)
 ·obtain⟨b',h1,h2⟩:=d.tup e he
  obtain⟨k',h3,h4⟩:=nk b' h1
  exact⟨k',b',h2,h3,h4⟩
 dsimp only
 refine Γa (wpAny_setState_of ho d.dat d.tab.fits ?_)
 dsimp only
 obtain⟨p1,p2,p3,p4⟩:=c6e d.tab ej
 have pl:(t.put j).2<=es.size:=by rw[<- d.tab.sz];exact (a3e d.tab.rs j).1
 have sz1:=c3j (x:=(hs,Value.ref b)) pl
 have T0:=d.tab.lo
 have m4:=d.tab.m4
 have dsz:=d.sz
 generalize hes1:SetTable.insertAt es (t.put j).2 (hs,Value.ref b)=es1 at sz1 ⊢
 have tup1:∀ e∈es1.toList,∃ b'∈bs++[b],e.2=.ref b':=λe he=>by
  rw[<- hes1] at he
  rcases c7x pl he with rfl|he
  ·exact⟨b,by simp,rfl⟩
  ·obtain⟨b',h1,h2⟩:=d.tup e he
   exact⟨b',by simp[h1],h2⟩
 generalize (t.put j).1=t1 at p1 p2 p3 p4 ⊢
 have main:wpAny (model prog w) A (do
   storeSet a es1 t1
   if (!false && t1.tooFull)=true then do
    setRelay a (SetTable.grown (es.size+1))
    pure true
   else pure true) Q E s:=by
  refine Γa (wpAny_storeSet_of ho d.dat ?_ (by rw[sz1];exact Nat.le_trans (show es.size+1<=300 by lia) (by decide)))
  have sb:=Heap.SameBut.update s.heap a (Obj.putSet es1 t1)
  obtain⟨o1,ep1,ho1,ex1,hd1⟩:=b6w ho es1 t1 d.ex d.dat
  by_cases tf:t1.tooFull=true
  ·rw[tf]
   simp only[Bool.not_false,Bool.and_self,if_true]
   have tf':t.mask*3<=(es.size+1)*5:=by
    unfold SetTable.tooFull SetTable.fill at tf
    rw[p2,p4,p1] at tf
    simpa using tf
   obtain⟨g1,g2,g3⟩:=c7z m4 T0 tf' (by lia)
   have f1:t1.fits es1.size=true:=by
    simp only[SetTable.fits,SetTable.fill,p2,p4,sz1,p1,Bool.and_eq_true,beq_iff_eq,decide_eq_true_eq]
    exact⟨trivial,by simp;lia⟩
   unfold setRelay
   refine Γa (Γa (wpAny_setState_of ho1 hd1 f1 ?_))
   dsimp only
   rw[if_neg (Nat.not_lt.mpr (Nat.le_trans g3 (by decide)))]
   obtain⟨t2,od,l1,l2,l3,l4,l5,l6,l7,l8,l9⟩:=c7r g1 t1.finger (t1.movedTo (SetTable.sizeAbove (SetTable.grown (es.size+1))-1)) t1.led t1.plain (es1.map (·.1)) (by rw[Array.size_map,sz1];lia)
   have rl:t1.relaid (es1.map (·.1)) (SetTable.grown (es.size+1))=some (t2,od):=l1
   rw[rl]
   have ms:(es1.map (·.1)).size=es1.size:=Array.size_map ..
   obtain⟨r1,r2⟩:=d7d (es:=es1) (by rw[l8,ms]) (λi hi=>by have:=l9 i hi;rwa [ms] at this)
   refine Γa ?_
   show wpAny _ _ (if ((od.filterMap (es1[·]?)).size != es1.size)=true then _ else pure (od.filterMap (es1[·]?),t2)) _ _ _
   rw[if_neg (by rw[r1];simp)]
   refine Γb ?_
   dsimp only
   refine wpAny_storeSet_of ho1 hd1 ?_ (by rw[r1,sz1];exact Nat.le_trans (show es.size+1<=300 by lia) (by decide))
   obtain⟨o2,ep2,ho2,ex2,hd2⟩:=b6w ho1 (od.filterMap (es1[·]?)) t2 ex1 hd1
   have sb2:=sb.trans (Heap.SameBut.update _ a (Obj.putSet (od.filterMap (es1[·]?)) t2))
   refine Γb (q _ sb2 ⟨by simp;lia,o2,_,ep2,t2,ho2,ex2,hd2,by rw[r1,sz1,dsz];simp,λe he=>tup1 e (r2 e he),⟨by rw[l2];exact g1,l5,l6,by rw[l7,ms,r1],?_⟩⟩)
   rw[r1,sz1,l2];exact g2
  ·rw[Bool.not_eq_true] at tf
   rw[tf]
   simp only[Bool.not_false,Bool.and_false,Γp,if_false]
   refine Γb (q _ sb ⟨by simp;lia,o1,es1,ep1,t1,ho1,ex1,hd1,by rw[sz1,dsz];simp,tup1,⟨by rw[p1];exact m4,p2,p3,by rw[p4,sz1],?_⟩⟩)
   unfold SetTable.tooFull SetTable.fill at tf
   rw[p2,p4,p1] at tf
   rw[sz1,p1]
   simpa using tf
 split
 ·refine Γa (b2x hk ?_)
  simp only[if_true]
  exact main
 ·refine Γa (Γb ?_)
  simp only[if_true]
  exact main
end
end Kq
end
section
namespace Kq
open PySem PySem.Spec PyProof.Rows L2 PySem.W
theorem SetT.none {w:World}{h:Heap}{a:Addr}(e:h.get? a=some (freshSet w)):SetT h a []:=⟨by simp,_,#[],0,_,e,⟨rfl,rfl,rfl⟩,rfl,rfl,λe he=>absurd he (by simp),⟨.inl rfl,rfl,λi j hi=>absurd hi (Nat.not_lt_zero _),rfl,(show 0*5<7*3 by decide)⟩⟩
def SetR (a:Addr)(bs:List Addr):HO:=.ext λh=>SetT h a bs
theorem b3x {prog:Program}{w:World}:∀ {k:List Int}{its:List Value},L2.Vals (k.map V.int) its->ItemsAre (intKind prog w) k its
 | [],its,h=>by cases h;exact .nil
 | i :: k,its,h=>by
  cases h with
  | cons h1 h2 =>
   obtain⟨t,rfl⟩:=h1
   exact .cons (intKind_is _ _ _ _) (b3x h2)
theorem tup_isT {prog:Program}{w:World}{H:Hp}{h:Heap}{b:Addr}{k:List Int}(x:ObjOk prog w H h b (.tup (k.map V.int))):IsT prog w h k b:=by
 obtain⟨_,its,hv,o,ho,hc,n,hd⟩:=x
 exact⟨o,its.toArray,n,ho,hc,hd,b3x hv⟩
end Kq
namespace L2
open PySem PySem.Spec PyProof.Rows
theorem c0z {Y:Cx}{pins:List (Addr×Obj)}{σ:St}{H:Hp}{s:Shared}{acc b:Addr}{bs:List Addr}{k:List Int}{Q:Value->Shared->Prop}{E:Value->Shared->Prop}(I:Inv Y pins σ H s)(hy:H acc=some (Kq.SetR acc bs))(hb:H b=some (.tup (k.map V.int)))(hd:∀ b'∈bs,∃ k',H b'=some (.tup (List.map V.int k'))/\k'≠k)(hz:bs.length+1<=300)(hu:Y.A.units+1<cLine)
  (q:∀ s',Inv Y pins σ (upd H acc (Kq.SetR acc (bs++[b]))) s'->Q .none s'):wpAny (model Y.prog Y.w) Y.A (call (.builtin "set.add") [.ref acc,.ref b]) Q E s:=by
 have hS:Kq.SetT s.heap acc bs:=(show ObjOk Y.prog Y.w H s.heap acc (Kq.SetR acc bs) from I.hok acc _ hy).1
 have hk:Kq.IsT Y.prog Y.w s.heap k b:=Kq.tup_isT (I.hok b _ hb)
 have hT:s.TypeIs (.ref acc) "set":=by obtain⟨_,o,_,_,_,ho,d⟩:=hS;exact⟨o,ho,d.ex.1⟩
 refine wpAny_call_entry F.slot_set_add hT F.entry_set_add ?_ (F.args_set_add_2 _ _)
 unfold Builtin.«set.add» Builtin.Frozenset.oneOther
 simp only[List.isEmpty_nil,bind_assoc]
 unfold Builtin.Frozenset.addrOf setAdd
 refine Γa (Γb (Γa (Γb (Γa (Γg (Γa (wpAny_pyHash_tuple (knd:=intKind Y.prog Y.w) hu hk ?_)))))))
 refine Kq.add_tup (s:={ s with toks:=s.toks+(k.length+1) }) hS hk (λb' hb'=>?_) hz hu λh' sb x=>?_
 ·obtain⟨k',h1,h2⟩:=hd b' hb'
  exact⟨k',Kq.tup_isT (I.hok b' _ h1),h2⟩
 ·refine Γb ⟨_,rfl,q _ (I.write (x:=acc) (e:=acc) (t':=s.toks+(k.length+1)) (by rw[hy];exact True.intro) (.inl rfl) (λb o hb e=>(sb.2 b hb).trans e) ?_ ⟨x,?_,λh1 h2 y kk=>y.keep kk⟩)⟩
  all_goals
   obtain⟨_,o,_,_,_,ho,_⟩:=x
   exact⟨o,ho⟩
section
variable {prog:Program}{w:World}{A:Around}{R:Result->Shared->Prop}{s:Shared}
theorem b4s {elt:Expr}{target iter:Expr}{ifs:List Expr}{scope:Scope}{pos:Pos}{it acc:Value}{env:Env}
  (h0:codeAny (model prog w) A (.compLoop (.SetComp elt [⟨target,iter,ifs,0⟩] scope pos) 0 it acc env) R s)
  (h:wpAny (model prog w) A (pyIter it) (λit' s'=>codeAny (model prog w) A (.compLoop (.SetComp elt [⟨target,iter,ifs,0⟩] scope pos) 0 it' acc env) R s')
   (notedBy (model prog w) A env λx s'=>R (.error x) s') s) :
  codeAny (model prog w) A (.compStart (.SetComp elt [⟨target,iter,ifs,0⟩] scope pos) 0 it acc env) R s:=by
 refine codeAny_of_tree ?_
 show wpAny _ _ ((compStart (.SetComp elt [⟨target,iter,ifs,0⟩] scope pos) 0 it acc env).onRaise (λx=>do noteFrame x env;standAt theWindowsPlace)) _ _ s
 refine wpAny_notedAt ?_
 unfold compStart
 show wpAny _ _ (ask >>= _) _ _ s
 refine Γa (wpAny_askSetting (wpAny_ite ?_))
 split
 ·first
   | exact Γa (Γb (Γb (And.intro rfl h0)))
   | exact Γb (And.intro rfl h0)
 ·first
   | exact Γa (wpAny_rule (Γa (wpAny_standAt (Γa (wpAny_mono h (λit' s' h'=>Γb (And.intro rfl h')) λ_ _ x=>x)))))
   | (refine Γa (wpAny_rule ?_);show wpAny _ _ (standAt iter.pos >>= _) _ _ s;exact Γa (wpAny_standAt (Γa (wpAny_mono h (λit' s' h'=>Γb (And.intro rfl h')) λ_ _ x=>x))))
end
def emT (te:TE):Addr->St->Hp->(Hp->Prop)->Prop:=λacc σ H K=>te σ H λv H4=>∃ bs b k,v=.ref b/\H4 acc=some (Kq.SetR acc bs)/\H4 b=some (.tup (List.map V.int k))/\(∀ b'∈bs,∃ k',H4 b'=some (.tup (List.map V.int k'))/\k'≠k)/\bs.length+1<=300/\K (upd H4 acc (Kq.SetR acc (bs++[b])))
def c4k (wi:TI)(g:TG)(tt:TT)(te:TE) (own:Nat):TE:=a9s wi g tt (emT te) (λa=>Kq.SetR a []) own
section
variable {X:Cx}{elt tg iter:Expr}{ifs:List Expr}{scope:Scope}{own:List Str}{pos:Pos}{wi:TI}{g:TG}{tt:TT}{te:TE}
theorem c8w:CKind X (.SetComp elt [⟨tg,iter,ifs,0⟩] scope pos) tg iter ifs scope (newSet (.type "set")) (Kq.freshSet X.w) (λa=>Kq.SetR a []) (b2q elt) :=
 ⟨λ_ _ _=>rfl,λ_ _ _ _=>rfl,λ_ _ _=>rfl,λ_ _=>rfl,b4s,λq=>c2s q,λ{_ _ _ s} I=>I.laid (a:=s.heap.objs.size) (o:=Kq.SetR s.heap.objs.size []) (t':=s.toks) (λ_ _ q=>Γc _ q) (Γi _) ⟨Kq.SetT.none (Γm _ rfl),⟨_,Γm _ rfl⟩,λh1 h2 y kk=>y.keep kk⟩,λ_=>by rw[arm_eval_SetComp];rfl,rfl⟩
theorem c2k {Y:Cx}(hu:Y.A.units+1<cLine)(he:PE Y elt te):PEm Y (b2q elt) (emT te):=by
 intro pins s σ H acc c K I q
 unfold b2q
 refine Γa (Γa (thn (he _ s σ H _ I q) λy s11 ⟨v11,H11,I11,r11,bs,b,k,ev,hys,hb,hd,hz,kk⟩=>Γa (wpAny_standAt (Γa ?_))))
 subst ev
 cases r11
 exact c0z I11 hys hb hd hz hu λs12 I12=>Γb (Γb ⟨rfl,_,I12,kk⟩)
theorem c2n (hu:X.A.units+1<cLine)(hc:X.calm=true)(SC:CScope X scope own)(hi:PI X.nox tg iter wi)
  (hblock:∀ fp C s H,PG (cxC X scope own fp C s H) tg g/\PTs (cxC X scope own fp C s H) ifs tt/\PE (cxC X scope own fp C s H) elt te)
  (hs:∀ x,foldedSetIterable iter X.env x=pure x:=by intro _;rfl) :
  PE X.nox (.SetComp elt [⟨tg,iter,ifs,0⟩] scope pos) (c4k wi g tt te own.length) :=
 a8e hc SC c8w hi (λfp C s H=>let ⟨a,b,c⟩:=hblock fp C s H;⟨a,b,c2k hu c⟩) hs
end
end L2
end
section
namespace Kq
open PySem PySem.Spec PyProof.Rows L2
def a5g (n m:Nat)(tg:Tg)(t:BW)(e:EW):List FV->List (List Int)->a0c->(List (List Int)->a0c->Prop)->Prop
 | [],acc,L,Q=>Q acc L
 | x :: xs,acc,L,Q=>gW tg x (L++Γj m none) λL1=>t L1 λb L2=>if b=true then e L2 λv L3=>∃ k:List Int,v=.tup (k.map .int)/\k ∉ acc/\acc.length<300/\a5g n m tg t e xs (acc++[k]) (L3.take n) Q else a5g n m tg t e xs acc (L2.take n) Q
def a9a (n m:Nat)(it:AW)(tg:Tg)(t:BW)(e:EW):EW:=λL Q=>it L λxs L1=>L1.length=n/\a5g n m tg t e xs [] L1 λks L2=>Q (.int ks.length) L2
@[scoped simp ↓] theorem c9k (n m:Nat)(it:AW)(tg:Tg)(t:BW)(e:EW)(L:a0c)(Q:FV->a0c->Prop):a9a n m it tg t e L Q=(it L λxs L1=>L1.length=n/\a5g n m tg t e xs [] L1 λks L2=>Q (.int ks.length) L2):=propext Iff.rfl
theorem b1d {α:Type}{tg:Tg}{n m:Nat}{e:EW}{f:α->FV}{g:α->List Int}{Q:List (List Int)->a0c->Prop}{L:a0c}:∀ (xs:List α)(acc:List (List Int)),(acc++xs.map g).Nodup->acc.length+xs.length<=300 ->
  (∀ x∈xs,∀ K:FV->a0c->Prop,K (.tup ((g x).map .int)) L->gW tg (f x) (L++Γj m none) λL1=>e L1 λv L3=>K v (L3.take n))->Q (acc++xs.map g) L->a5g n m tg a1i e (xs.map f) acc L Q
 | [],acc,_,_,_,E=>by
  show Q acc L
  simpa using E
 | x :: xs,acc,nd,hl,B,E=>B x Γn (λv L'=>∃ k:List Int,v=.tup (k.map .int)/\k ∉ acc/\acc.length<300/\a5g n m tg a1i e (xs.map f) (acc++[k]) L' Q) ⟨g x,rfl,λz=>by
   rw[List.map_cons] at nd
   exact (List.nodup_append.mp nd).2.2 _ z _ Γn rfl,by simp at hl;lia,b1d xs (acc++[g x]) (by simpa using nd) (by simp at hl ⊢;lia) (λy hy=>B y (Γh _ hy)) (by simpa using E)⟩
section
variable {K:Γd}{c:Cn}{md:Md}{L:a0c}{σ:L2.St}{S H:Hp}
theorem b3i:∀ {k:List Int}{xs:List V},RVs K S (k.map .int) xs->xs=k.map V.int
 | [],xs,h=>h
 | i :: k,xs,⟨v,r,e,h1,h2⟩=>by
  rw[e,b3i h2,List.map_cons,show v=V.int i from h1]
theorem c0e {J:It}{xs:List FV}{n m:Nat}{tg:Tg}{t:BW}{e:EW}{Q:VK}{Q1:List (List Int)->a0c->Prop}(I:Iv K c md L σ S H)(hJ:ItR K c md J xs S)(hL:L.length=n)(hmd:md.length<=n)(ht:a3a md tg=true)(hg:a4v n tg=true)(h:a5g n m tg t e xs [] L Q1)
  (k:∀ acc (bs:List Addr) ks L' S' H',Q1 ks L'->H' acc=some (SetR acc bs)->bs.length=ks.length->Iv K c md L' σ S' H'->Same S S'->Q (.ref acc) H') :
  ∀ acc,H acc=none->∃ W:Nat->Nat->Hp->Prop,(∃ m,W 0 m (upd H acc (SetR acc [])))/\∀ i j H,W i j H ->
   (J.stop i H/\Q (.ref acc) H) ∨ (J.go i H/\∀ x H',J.yld i H x H'->gT K tg x (σ++Γj m none) H' λσ2 H2=>Wk (σ++Γj m none) σ2/\lb K md t σ2 H2 λb H3 =>
    if b=true then emT (lv K md e) acc σ2 H3 λH4=>∃ m',m'<j/\W (i+1) m' H4 else ∃ m',m'<j/\W (i+1) m' H3):=by
 intro acc hacc
 have h0:=I.h0 hacc
 have hp:∀ p∈c.pr,p.1≠acc:=(I.fresh hacc).2.1
 have hz:=I.fzp
 refine a3q (α:=List (List Int)) (β:=List (Addr×List Int)) (fr:=λgs=>{ c with pr:=(acc,SetR acc (gs.map (·.1))) :: c.pr }) (P:=λks gs S=>ks=gs.map (·.2)/\∀ g∈gs,S g.1=some (.tup (g.2.map V.int))) (N:=λ_=>0) (Cm:=λxs ks L=>a5g n m tg t e xs ks L Q1) (em:=λks L3 K'=>e L3 λv L4=>∃ k:List Int,v=.tup (k.map .int)/\k ∉ ks/\ks.length<300/\K' (ks++[k]) L4) (a0:=[]) (b0:=[]) ((I.lay hacc _).prot a0d (I.sn hacc) (λj w hm hj=>(I.fresh hacc).2.2 j w (Mo.w_imm hm) hj) rfl) hJ hL hmd ht hg ⟨rfl,λg hg=>absurd hg List.not_mem_nil⟩ rfl h (λ_ _ _ _ _ _ I _=>I.unprot hz) (λ_ _ _ _ ⟨e,r⟩ s=>⟨e,λg hg=>s _ _ (r g hg)⟩) (λ_ _ _ _ h=>h) (λks gs L3 σ2 S3 H3 K' Z hn I3 ⟨eg,r⟩ hv kz=>?_) λks gs L' S' H' q I' ⟨eg,r⟩ s'=>?_
 ·refine⟨_,L3,S3,_,I3,hv,λv L4 hv u S4 H4 r4 I4 s4=>?_⟩
  obtain⟨kk,rfl,nk,hb,hv⟩:=hv
  obtain⟨b,ys,rfl,sb,ry⟩:=r4
  cases b3i ry
  subst eg
  refine⟨gs.map (·.1),b,kk,rfl,(I4.prs (acc,SetR acc (gs.map (·.1))) Γn).1,I4.sub _ _ sb,λb' hb'=>?_,by simp at hb ⊢;lia,kz _ (gs++[(b,kk)]) L4 S4 _ hv (by rw[List.map_append];exact I4.regrow h0 hp hz rfl) ⟨by simp,λg hg=>?_⟩ s4 (Nat.zero_le _)⟩
  ·obtain⟨g,hg,rfl⟩:=List.mem_map.mp hb'
   exact⟨g.2,I4.sub _ _ (s4 _ _ (r g hg)),λz=>nk (z ▸ List.mem_map.mpr ⟨g,hg,rfl⟩)⟩
  ·rcases List.mem_append.mp hg with z|z
   ·exact s4 _ _ (r g z)
   ·rw[List.mem_singleton.mp z];exact sb
 ·exact k acc _ _ L' S' H' q (I'.prs (acc,SetR acc (gs.map (·.1))) Γn).1 (by rw[eg];simp) (I'.unprot hz) s'
end
section
variable {X:Cx}{C:CC}{n:Nat}{sp:Γd->Nat->Sp}{scope:Scope}{own:List Str}{elt tgx iter:Expr}{ifs:List Expr}{nn m:Nat}{md':Md}{it:AW}{tg:Tg}{t:BW}{e:EW}{pos p p2:Pos}
def c6a:List V->Hp->VK->Prop:=λxs H Q=>∃ (a:Addr)(bs:List Addr),xs=[.ref a]/\H a=some (SetR a bs)/\Q (.int bs.length) H
theorem d3v:a1j X (.builtin "len") c6a:=by
 rintro pins s σ H xs us Q I r ⟨a,bs,rfl,ha,k⟩
 obtain⟨u,rfl,ru⟩:=a3l r
 cases (show u=Value.ref a from ru)
 obtain⟨⟨hb,o,es,ep,t,ho,d⟩,_,_⟩:=(show ObjOk X.prog X.w H s.heap a (SetR a bs) from I.hok a _ ha)
 have hf:(es.size:Int)<2 ^ 63:=by rw[d.sz];lia
 refine call_len_set ho d.ex d.dat d.tab.fits hf ?_
 rw[d.sz]
 exact⟨.int bs.length,H,I.tok _,⟨_,rfl⟩,k⟩
theorem b4t (h:CompOk X C n sp scope own elt tgx iter ifs nn m md' it tg t e){σ:L2.St}{H:Hp}{Q:VK}:lv X.K C.md (a9a nn m it tg t e) σ H Q->c4k (li X.K C.md md' it) (gT X.K tg) (lb X.K md' t) (lv X.K md' e) own.length σ H λv H1=>c6a [v] H1 Q:=by
 have h0:=b2 h.st;have h1:=b2 h0.1;have h2:=b2 h1.1;have h3:=b2 h2.1;have h4:=b2 h3.1;have h5:=b2 h4.1;have h6:=b2 h5.1
 rintro⟨c,L,S,Q0,I,hh,k⟩
 refine⟨c,L,S,_,I,hh,λxs L1 hx J c' S1 H1 I1 un e0 hJ s1=>?_⟩
 obtain⟨hl,hc⟩:=hx
 rw[de h5.2]
 refine c0e (Q:=λv H1=>c6a [v] H1 Q) I1 hJ hl (de h4.2) h2.2 h1.2 hc λacc bs ks L' S' H' q ha hb I' s'=>?_
 exact⟨acc,bs,rfl,ha,by rw[hb];exact k _ L' q (.int ks.length) S' H' rfl (un _ _ _ _ I') (s1.trans s')⟩
theorem b9g (G:Good X C n sp)(hg:C.gl (Γe "len")=true)(h:CompOk X C n sp scope own elt tgx iter ifs nn m md' it tg t e):FE X C (.Call (.Name (Γe "len") p) [.SetComp elt [⟨tgx,iter,ifs,0⟩] scope p2] [] pos) (a9a nn m it tg t e):=by
 have h0:=b2 h.st;have h1:=b2 h0.1;have h2:=b2 h1.1;have h3:=b2 h2.1;have h4:=b2 h3.1;have h5:=b2 h4.1;have h6:=b2 h5.1
 have hu:X.A.units+1<cLine:=by have:=G.room.units;lia
 obtain⟨s1,s2,s3⟩:=h.blk G
 exact PE.imp (a3w d3v (G.gl hg) (G.blt "len" (by decide)) (by nofun) (a0u (c2n hu G.calm s1 h.it s2 s3) a2j (a0f rfl)) (by nofun) (by nofun) (a0f rfl) rfl) λσ H Q q=>b4t h q
end
def ltN:FV->FV->Option FV:=a2y λi j=>some (.bl (decide (i<j)))
def leN:FV->FV->Option FV:=a2y λi j=>some (.bl (decide (i<=j)))
section
variable {X:Cx}{C:CC}{n:Nat}{sp:Γd->Nat->Sp}{a b d:Expr}{ea eb ec:EW}{pos:Pos}
theorem fe_lti (ha:FE X C a ea)(hb:FR X C b eb):FE X C (.Compare a [.Lt] [b] pos) (eOp ltN ea eb):=b4e c6c ha hb (a2n _ (by decide) (by decide))
theorem fb_lti (ha:FE X C a ea)(hb:FR X C b eb):FB X C (.Compare a [.Lt] [b] pos) (a1f (eOp ltN ea eb)):=a7o b6f c6c ha hb (a2n _ (by decide) (by decide))
theorem d5c (ha:FE X C a ea)(hb:FE X C b eb)(hc:FR X C d ec)(hm:lastMarks [.LtE,.Lt] [b,d]=false):FE X C (.Compare a [.LtE,.Lt] [b,d] pos) (b0w leN ltN ea eb ec):=c3s b6f d7n c6c ha hb hc hm
end
@[scoped simp ↓] theorem k_lti (i j:Int)(Q:FV->Prop):wp (ltN (.int i) (.int j)) Q=Q (.bl (decide (i<j))):=propext Iff.rfl
@[scoped simp ↓] theorem k_lei (i j:Int)(Q:FV->Prop):wp (leN (.int i) (.int j)) Q=Q (.bl (decide (i<=j))):=propext Iff.rfl
end Kq
end
set_option maxRecDepth 10000
set_option maxHeartbeats 1000000
section
namespace Kq
def bd0 (call:CW):SW:=a0p (a1n (eUn a9m (eOp ixF (a0b 0) (eC (.int 0)))) (.nm 1)) (a0p (a1n (a1a call 1 (a0a (a0b 0) a0i)) (.nm 2)) (a0p (a1n (a9b a0i) (.nm 3)) (a0p (a1n (a9b a0i) (.nm 4)) (a0p (a1n (b0x call 2 (a0a (a0b 1) (d4d 3 a0i))) (.nm 5)) (a0p (c9h (a1f (a0b 5)) (a0p (d6n 2 (a1n (a1h 9 2 (b9a 2) (.tp [9,10]) (b5p (a1f (eOp b8y (a0b 10) (a0b 5))) (a1f (eOp b2b (a0b 9) (a0b 5)))) (a3k (a0a (a0b 9) (a0a (a0b 10) a0i)))) (.nm 6))) (a0p (a1n (eUn b4x (a1h 9 1 (a3g (a0b 6)) (.nm 9) a1i (a9n c8s 2 (a0b 9)))) (.nm 7)) (a0p (c1x (a6w c5i 4 (a3k (a0a (a0b 5) (a0a (a0b 7) a0i))))) (a0p (a7a (a3g (a0b 6)) (.nm 8) (c1y (λi j=>i-j) 2 (a0b 8) (a0b 7))) (a0p (c1z 3 (a1h 9 1 (a3g (a0b 6)) (.nm 9) (a1f (eOp eqB (a9n c8s 2 (a0b 9)) (eC (.int 0)))) (a0b 9))) (a1n (b0x call 2 (a0a (a0b 1) (d4d 3 a0i))) (.nm 5)))))))) (a1s (a3k (a0a (eUn c5r (a1h 9 1 (a3g (a0b 4)) (.nm 9) a1i (eOp ixF (a0b 9) (eC (.int 1))))) (a0a (b0x call 4 (a0a (a0b 1) (d4d 3 a0i))) (a0a (eMv 4) a0i))))))))))
def bd1 (call:CW):SW:=a0p (a1n (b4i 5 2 (a8v (eOp ixF (a0b 0) (eC (.int 0)))) (.tp [5,6]) a1i (a3k (a0a (eC .non) (a0a (a0b 5) a0i))) (a0b 6)) (.nm 1)) (a0p (a7a (a3g (eOp ixF (a0b 0) (eC (.int 1)))) (.tp [2,3,4]) (c5v 1 (a3k (a0a (a0b 2) (a0a (a0b 3) a0i))) (a0b 4))) (a1s (a0b 1)))
def bd2 (call:CW):SW:=a0p (a1n (a9b a0i) (.nm 2)) (a0p (a7a (b5r (a0b 0)) (.nm 3) (a0p (a1n (a1a call 3 (a0a (a0b 1) (a0a (a0b 3) a0i))) (.nm 4)) (sIf (b5p (a1f (eOp b2b (eC .non) (a0b 4))) (bOr (b2y (a1f (a0b 2))) (a1f (eOp ltN (eUn a9m (a0b 4)) (eUn a9m (a0b 2)))))) (a1n (a0b 4) (.nm 2)) a4b))) (a1s (eUn a3f (b9o (a0b 2)))))
def bd3 (call:CW):SW:=a0p (a1n (a9b (a0a (a0b 1) a0i)) (.nm 2)) (a0p (a1n (eC (.int 0)) (.nm 3)) (a0p (c9h (a1f (eOp ltN (a0b 3) (eUn a9m (a0b 2)))) (a0p (c1z 2 (a1h 4 2 (a3g (a0b 0)) (.tp [4,5]) (b5p (a1f (eOp eqB (a0b 5) (a9n ixF 2 (a0b 3)))) (a1f (eOp b2b (a0b 4) (a0b 2)))) (a0b 4))) (d4k (d4b λi j=>i+j) 3 (eC (.int 1))))) (a1s (a0b 2))))
def bd4 (call:CW):SW:=a0p (a1n (eC (.dci [] [])) (.nm 2)) (a0p (c9h (a1f (eOp ltN (eUn c2y (a0b 2)) (a0b 0))) (a0p (a1n (eOp ixF (a1h 5 1 (a3g (a0b 1)) (.nm 5) (b5p (a1f (eOp b2b (eOp ixF (a0b 5) (eC (.int 1))) (a0b 2))) (bOr (a1f (eUn a2s (eOp ixF (a0b 5) (eC (.int 0))))) (a1f (eOp b8y (eOp ixF (a0b 5) (eC (.int 0))) (a0b 2))))) (a0b 5)) (eC (.int 0))) (.tp [3,4])) (c5w 2 (a0b 4) (a0b 3)))) (a1s (eUn a3f (a1h 5 1 (b5r (a0b 0)) (.nm 5) a1i (a9n dgF 2 (a0b 5))))))
def bd5 (call:CW):SW:=a1s (c1d (eUn (c7u .int) (a0b 0)) (eUn d8j (eUn (c7u .bool) (a0b 0))))
def bd6 (call:CW):SW:=a1s (c1d (eUn (c7u .tuple) (a0b 0)) (eOp eqB (eUn a9m (a0b 0)) (a0b 1)))
def bd7 (call:CW):SW:=a1s (c1d (a1a call 5 (a0a (a0b 0) a0i)) (eOp geB (a0b 0) (eC (.int 1))))
def bd8 (call:CW):SW:=a1s (c1d (a1a call 5 (a0a (a0b 0) a0i)) (b0w leN ltN (eC (.int 0)) (a0b 0) (a0b 1)))
def bd9 (call:CW):SW:=a0p (a1n (eUn a9m (eOp ixF (a0b 0) (eC (.int 0)))) (.nm 2)) (a0p (sIf (b2y (a1f (a1a call 6 (a0a (a0b 1) (a0a (a0b 2) a0i))))) (a1s (eC (.bl false))) a4b) (a0p (a1n (a1a call 11 (a0a (a0b 0) a0i)) (.nm 3)) (a0p (a7a (a8v (a0b 1)) (.tp [4,5]) (sIf (b5p (a1f (eUn a1b (a0b 5))) (b2y (b5p (a1f (a1a call 5 (a0a (a0b 5) a0i))) (a1f (eOp b8y (a3k (a0a (a0b 5) (a0a (a0b 4) a0i))) (a0b 3)))))) (a1s (eC (.bl false))) a4b)) (a1s (eUn c4g (a1h 6 1 (b5r (a0b 2)) (.nm 6) a1i (a1a call 10 (a0a (a0b 1) (a0a (a0b 6) a0i)))))))))
def e2x (call:CW):SW:=a0p (a1n (eOp ixF (a0b 0) (a0b 1)) (.nm 2)) (a0p (a7a (b5r (eUn a9m (a0b 0))) (.nm 3) (a0p (sIf (a1f (eUn a2s (a0b 2))) (a1s (eC (.bl true))) a4b) (a1n (eOp ixF (a0b 0) (a0b 2)) (.nm 2)))) (a1s (eC (.bl false))))
def d5q (call:CW):SW:=a1s (b9p 1 3 (a3g (eOp ixF (a0b 0) (eC (.int 1)))) (.tp [1,2,3]) a1i (a3k (a0a (a0b 1) (a0a (a0b 2) a0i))) (a0b 3))
def e2w (call:CW):SW:=a0p (a1n (a1a call 11 (a0a (a0b 0) a0i)) (.nm 2)) (a1s (a1h 3 2 (a8v (a0b 1)) (.tp [3,4]) a1i (eIf (a1f (eUn a2s (a0b 4))) (eOp ixF (eOp ixF (a0b 0) (eC (.int 0))) (a0b 3)) (eOp c8t (a0b 2) (a3k (a0a (a0b 4) (a0a (a0b 3) a0i)))))))
def d5p (call:CW):SW:=a1s (eUn c1r (a1a call 12 (a0a (a0b 0) (a0a (a0b 1) a0i))))
def e2v (call:CW):SW:=a0p (sIf (b2y (a1f (a1a call 6 (a0a (a0b 1) (a0a (eC (.int 3)) a0i))))) (a1s (eC (.bl false))) a4b) (a0p (a1n (a0b 1) (.tp [2,3,4])) (a0p (sIf (bOr (b2y (a1f (a1a call 5 (a0a (a0b 2) a0i)))) (bOr (b2y (a1f (a1a call 9 (a0a (a0b 0) (a0a (a0b 3) a0i))))) (b2y (a1f (a1a call 15 (a0a (a0b 0) (a0a (a0b 4) a0i))))))) (a1s (eC (.bl false))) a4b) (a1s (c1d (eOp eqB (a1a call 13 (a0a (a0b 0) (a0a (a0b 3) a0i))) (a0b 2)) (eOp eqB (eUn c5r (a1h 5 2 (a3g (a0b 4)) (.tp [5,6]) a1i (a0b 6))) (a0b 2))))))
def e2u (call:CW):SW:=a0p (sIf (bOr (b2y (a1f (eUn (c7u .list) (a0b 1)))) (b2y (a1f (eUn c4g (a1h 2 1 (a3g (a0b 1)) (.nm 2) a1i (a1a call 16 (a0a (a0b 2) (a0a (eUn a9m (eOp ixF (a0b 0) (eC (.int 0)))) a0i)))))))) (a1s (eC (.bl false))) a4b) (a0p (sIf (a1f (eOp ltN (a9a 2 2 (a3g (a0b 1)) (.tp [2,3]) a1i (a0b 2)) (eUn a9m (a0b 1)))) (a1s (eC (.bl false))) a4b) (a1s (c1d (a1a call 18 (a0a (a0b 0) (a0a (a0b 1) a0i))) (a1a call 19 (a0a (a0b 0) (a0a (a0b 1) a0i))))))
def e2t (call:CW):SW:=a0p (sIf (b2y (a1f (a1a call 6 (a0a (a0b 0) (a0a (eC (.int 2)) a0i))))) (a1s (eC (.bl false))) a4b) (a0p (a1n (a0b 0) (.tp [2,3])) (a1s (c1d (a1a call 7 (a0a (a0b 3) a0i)) (a1a call 17 (a0a (a0b 2) (a0a (a0b 1) a0i))))))
def e2s (call:CW):SW:=a0p (sIf (bOr (b2y (a1f (eUn (c7u .tuple) (a0b 0)))) (b2y (a1f (a0b 0)))) (a1s (eC (.bl false))) a4b) (a0p (sIf (b2y (a1f (eUn c4g (a1h 2 1 (a3g (a0b 0)) (.nm 2) a1i (a1a call 8 (a0a (a0b 2) (a0a (a0b 1) a0i))))))) (a1s (eC (.bl false))) a4b) (a1s (eUn c4g (a1h 2 2 (d8t (a0b 0) (eSl (a0b 0) (b0f (eC (.int 1))) b4w)) (.tp [2,3]) a1i (eOp ltN (a0b 2) (a0b 3))))))
def e2r (call:CW):SW:=a0p (a7a (a8v (eOp ixF (a0b 0) (eC (.int 0)))) (.tp [2,3]) (sIf (a1f (eOp ltN (a0b 3) (eUn c5r (a1h 4 2 (a3g (a0b 1)) (.tp [4,5]) (a1f (eOp b8y (a0b 2) (a0b 4))) (a0b 5))))) (a1s (eC (.bl false))) a4b)) (a1s (eC (.bl true)))
def e2q (call:CW):SW:=a0p (a7a (a3g (eOp ixF (a0b 0) (eC (.int 1)))) (.tp [2,3,4]) (sIf (a1f (eOp ltN (a0b 4) (eUn c5r (a1h 5 2 (a3g (a0b 1)) (.tp [5,6]) (b5p (a1f (eOp b8y (a0b 3) (a0b 5))) (a1f (eOp b2b (a0b 2) (a0b 5)))) (a0b 6))))) (a1s (eC (.bl false))) a4b)) (a1s (eC (.bl true)))
def e2p (call:CW):SW:=a0p (a1n (eOp c1c (eOp b2d (eOp a4s (eOp a4s (eOp c1c (a0b 0) (eC (.int 2147483629))) (eOp b2d (eOp b2d (a0b 1) (a0b 1)) (eC (.int 7919)))) (eC (.int 11))) (eC (.int 48271))) (eC (.int 2147483647))) (.nm 2)) (a1s (eOp c1c (eOp b2d (a0b 2) (a0b 2)) (eC (.int 1999999973))))
def e2o (call:CW):SW:=a0p (a1n (eIf (a1f (eOp ltN (a0b 1) (eUn a9m (a0b 0)))) (a9n ixF 0 (a0b 1)) (eC (.int 0))) (.nm 2)) (a1s (a9b (a0a (eOp b2d (eUn d4c (a0b 2)) (eUn a9r (eOp geB (eUn d4c (a0b 2)) (eOp c2h (eC (.int 10)) (eC (.int 18)))))) (a0a (eOp a4s (a0b 2) (eOp b2d (eC (.int 1000003)) (a0b 1))) (a0a (eC (.int 0)) a0i)))))
def d5o (call:CW):SW:=a0p (c9i 0 (eC (.int 2)) (eOp a4s (a9n ixF 0 (eC (.int 2))) (eC (.int 1)))) (a0p (sIf (a1f (eOp gtB (a9n ixF 0 (eC (.int 0))) (eC (.int 0)))) (a0p (a1n (eOp c1c (a9n ixF 0 (eC (.int 0))) (a0b 1)) (.nm 2)) (a0p (c9i 0 (eC (.int 0)) (eOp b9h (a9n ixF 0 (eC (.int 0))) (a0b 1))) (a1s (a0b 2)))) a4b) (a1s (eOp c1c (eOp b9h (a1a call 20 (a0a (a1a call 20 (a0a (a9n ixF 0 (eC (.int 1))) (a0a (a9n ixF 0 (eC (.int 2))) a0i))) (a0a (eOp a4s (a9n ixF 0 (eC (.int 2))) (eC (.int 64))) a0i))) (eC (.int 64))) (a0b 1))))
def e2n (call:CW):SW:=a0p (a1n (eUn a4c (d5h (a0b 0) b4w (b0f (a0b 1)))) (.nm 2)) (a0p (a7a (a8v (d5h (a0b 0) (b0f (a0b 1)) (b0f (eC (.int 63))))) (.tp [3,4]) (c9i 2 (eOp c1c (a0b 3) (a0b 1)) (eOp a4s (a9n ixF 2 (eOp c1c (a0b 3) (a0b 1))) (eOp b2d (a0b 4) (eOp a4s (a0b 3) (eC (.int 2))))))) (a1s (a0b 2)))
def e2m (call:CW):SW:=a0p (a1n (a0q call 22 0 (a0a (eC (.int 4)) a0i)) (.nm 2)) (a0p (sIf (b5p (a1f (eOp eqB (a0b 2) (eC (.int 3)))) (a1f (eOp eqB (a0b 1) (eC (.int 0))))) (a1s (eOp a4s (eC (.int 1)) (a0q call 22 0 (a0a (eOp c9x (eOp c2h (eC (.int 10)) (eC (.int 9))) (eC (.int 20))) a0i)))) a4b) (a1s (eOp a4s (eC (.int 1)) (a0q call 22 0 (a0a (eOp ixF (a9b (a0a (eC (.int 9)) (a0a (eC (.int 9)) (a0a (eC (.int 40)) (a0a (eC (.int 3)) a0i))))) (a0b 2)) a0i)))))
def bd25 (call:CW):SW:=a0p (sIf (a1f (eOp eqB (a0q call 22 0 (a0a (eC (.int 8)) a0i)) (eC (.int 0)))) (a1s (eOp a4s (eC (.int 7)) (a0q call 22 0 (a0a (eOp c9x (a0b 1) (eC (.int 6))) a0i)))) a4b) (a1s (eOp ixF (a9b (a0a (eC (.int 0)) (a0a (eC (.int 1)) (a0a (eC (.int 2)) (a0a (eC (.int 3)) (a0a (eC (.int 4)) (a0a (eC (.int 5)) (a0a (eC (.int 6)) (a0a (eC (.int 4)) (a0a (eC (.int 5)) (a0a (eC (.int 3)) a0i))))))))))) (a0q call 22 0 (a0a (eC (.int 10)) a0i))))
def e2l (call:CW):SW:=a0p (a1n (a3k (a0a (a0q call 22 0 (a0a (eC (.int 4)) a0i)) (a0a (eOp a4s (eC (.int 1)) (a0q call 22 0 (a0a (eC (.int 4)) a0i))) a0i))) (.tp [2,3])) (a0p (a1n (eUn a3f (a1h 8 1 (b5r (a0b 1)) (.nm 8) a1i (eOp a4s (a0q call 24 0 (a0a (a0b 2) a0i)) (eOp ixF (a9b (a0a (eC (.int 0)) (a0a (eC (.int 12)) a0i))) (a0q call 22 0 (a0a (eC (.int 2)) a0i)))))) (.nm 4)) (a0p (a1n (a9b a0i) (.nm 5)) (a0p (a7a (b5r (a0b 1)) (.nm 6) (a7a (b5r (a0b 1)) (.nm 7) (sIf (b5p (a1f (eOp neB (a0b 6) (a0b 7))) (a1f (eOp eqB (a0q call 22 0 (a0a (a0b 3) a0i)) (eC (.int 0))))) (c1x (a6w c5i 5 (a3k (a0a (a0b 6) (a0a (a0b 7) (a0a (a0q call 24 0 (a0a (a0b 2) a0i)) a0i)))))) a4b))) (a1s (a3k (a0a (a0b 4) (a0a (eUn a3f (a0b 5)) a0i)))))))
def d5n (call:CW):SW:=a1s (eUn c8q (a1h 1 3 (a3g (eOp ixF (a0b 0) (eC (.int 1)))) (.tp [1,2,3]) a1i (a3k (a0a (a3k (a0a (a0b 1) (a0a (a0b 2) a0i))) (a0a (a0b 3) a0i)))))
def e2k (call:CW):SW:=a0p (a1n (a1a call 27 (a0a (a0b 0) a0i)) (.nm 2)) (a0p (sIf (a1f (eUn d5s (a1h 6 2 (a8v (a0b 1)) (.tp [6,7]) a1i (c1d (eUn a1b (a0b 7)) (eOp b2b (a3k (a0a (a0b 7) (a0a (a0b 6) a0i))) (a0b 2)))))) (a1s (eC (.bl false))) a4b) (a0p (a7a (b5r (eUn a9m (a0b 1))) (.nm 3) (a0p (a1n (a0b 3) (.nm 4)) (a0p (a7a (b5r (eUn a9m (a0b 1))) (.nm 5) (sIf (a1f (eUn a1b (a0b 4))) (a1n (eOp ixF (a0b 1) (a0b 4)) (.nm 4)) a4b)) (sIf (a1f (eUn a1b (a0b 4))) (a1s (eC (.bl false))) a4b)))) (a1s (eC (.bl true)))))
def e2j (call:CW):SW:=a0p (c5x 1 10 1 (a3g (eOp ixF (a0b 0) (eC (.int 0)))) (.nm 10) a1i (a9b (a0a (a3k (a0a (eC .non) (a0a (a0b 10) a0i))) a0i)) (a3g (eOp ixF (a0b 0) (eC (.int 1)))) (.tp [2,3,4]) (a0b 3) (a3k (a0a (a0b 2) (a0a (a0b 4) a0i)))) (a0p (a1n (a9b (a0a (a3k (a0a (a3k a0i) (a0a (eC (.int 0)) a0i))) a0i)) (.nm 5)) (a0p (a7a (a3g (a0b 1)) (.nm 6) (a0p (a1n (a9b a0i) (.nm 7)) (a0p (a7a (a3g (a0b 5)) (.tp [8,9]) (c1x (a6w e1i 7 (a1h 10 2 (a3g (a0b 6)) (.tp [10,11]) a1i (a3k (a0a (eOp a4s (a0b 8) (a3k (a0a (a0b 10) a0i))) (a0a (eOp a4s (a0b 9) (a0b 11)) a0i))))))) (a1n (eMv 7) (.nm 5))))) (a1s (a1h 10 1 (a3g (a0b 5)) (.nm 10) (a1f (a1a call 28 (a0a (a0b 0) (a0a (eOp ixF (a0b 10) (eC (.int 0))) a0i)))) (a0b 10)))))
def e2i (call:CW):SW:=a0p (a1n (a9b a0i) (.nm 4)) (a0p (a7a (a8v (eOp ixF (a0b 1) (eC (.int 0)))) (.tp [5,6]) (c1x (a6w c5i 4 (eOp b7z (eOp c2h (eC (.int 10)) (eC (.int 9))) (eOp a4s (a0b 6) (eOp b2d (eUn a9r (eUn a1b (eOp ixF (a0b 2) (a0b 5)))) (a0q call 22 0 (a0a (a0b 3) a0i)))))))) (a0p (a1n (a9b a0i) (.nm 7)) (a0p (a7a (a3g (eOp ixF (a0b 1) (eC (.int 1)))) (.tp [8,9,6]) (sIf (a1f (eOp eqB (eOp ixF (a0b 2) (a0b 9)) (a0b 8))) (c1x (a6w c5i 7 (a3k (a0a (a0b 8) (a0a (a0b 9) (a0a (a0b 6) a0i)))))) (sIf (a1f (eOp gtB (a0q call 22 0 (a0a (eC (.int 4)) a0i)) (eC (.int 0)))) (c1x (a6w c5i 7 (a3k (a0a (a0b 8) (a0a (a0b 9) (a0a (eOp b7z (eOp c2h (eC (.int 10)) (eC (.int 9))) (eOp a4s (a0b 6) (a0q call 22 0 (a0a (a0b 3) a0i)))) a0i)))))) a4b))) (a1s (a3k (a0a (eUn a3f (a0b 4)) (a0a (eUn a3f (a0b 7)) a0i)))))))
def e2h (call:CW):SW:=a0p (a1n (eUn a9m (eOp ixF (a0b 1) (eC (.int 0)))) (.nm 2)) (a0p (a1n (a3k (a0a (a0q call 22 0 (a0a (a0b 2) a0i)) (a0a (a0q call 22 0 (a0a (a0b 2) a0i)) a0i))) (.tp [3,4])) (a0p (a1n (a1h 7 1 (a3g (eOp ixF (a0b 1) (eC (.int 1)))) (.nm 7) (a1f (eOp neB (eSl (a0b 7) b4w (b0f (eC (.int 2)))) (a3k (a0a (a0b 3) (a0a (a0b 4) a0i))))) (a0b 7)) (.nm 5)) (a0p (sIf (a1f (eOp neB (a0b 3) (a0b 4))) (a0p (a1n (a1h 7 3 (a3g (eOp ixF (a0b 1) (eC (.int 1)))) (.tp [7,8,9]) (a1f (eOp eqB (a3k (a0a (a0b 7) (a0a (a0b 8) a0i))) (a3k (a0a (a0b 3) (a0a (a0b 4) a0i))))) (a0b 9)) (.nm 6)) (c1x (a6w c5i 5 (a3k (a0a (a0b 3) (a0a (a0b 4) (a0a (eUn b4x (eOp a4s (a9b (a0a (eOp a4s (eC (.int 1)) (a0q call 22 0 (a0a (eC (.int 20)) a0i))) a0i)) (a0b 6))) a0i))))))) a4b) (a1s (a3k (a0a (eOp ixF (a0b 1) (eC (.int 0))) (a0a (eUn a3f (b2s (a0b 5))) a0i)))))))
def e2g (call:CW):SW:=a0p (a1n (eUn a3f (a1h 3 1 (a3g (eOp ixF (a0b 0) (eC (.int 0)))) (.nm 3) a1i (eOp b2d (a0b 1) (a0b 3)))) (.nm 2)) (a1s (a3k (a0a (a0b 2) (a0a (eUn a3f (a1h 3 3 (a3g (eOp ixF (a0b 0) (eC (.int 1)))) (.tp [3,4,5]) a1i (a3k (a0a (a0b 3) (a0a (a0b 4) (a0a (eOp b2d (a0b 1) (a0b 5)) a0i)))))) a0i))))
def e2f (call:CW):SW:=a0p (a1n (a1a call 23 (a0a (a0b 0) (a0a (eC (.int 4)) a0i))) (.nm 1)) (a0p (a7a (b5r (eOp c2u (eC (.int 2)) (eUn a9m (a0b 1)))) (.nm 2) (a0p (a1n (a0q call 21 1 (a0a (a0b 2) a0i)) (.nm 3)) (a0p (c9i 3 (eC (.int 1)) (eOp a4s (a9n ixF 3 (eC (.int 1))) (eC (.int 1400)))) (a0p (a1n (a0q call 26 3 (a0a (a0q call 22 3 (a0a (eC (.int 5)) a0i)) a0i)) (.nm 4)) (a0p (a1n (a1a call 0 (a0a (a0b 4) a0i)) (.tp [5,6,7])) (a0p (a1n (a1a call 29 (a0a (a0b 4) a0i)) (.nm 8)) (a0p (sIf (bOr (a1f (eOp neB (eUn b4x (a1h 15 2 (a3g (a0b 8)) (.tp [15,16]) a1i (a0b 16))) (a0b 5))) (a1f (eOp b2b (a3k (a0a (a0b 6) (a0a (a0b 5) a0i))) (a0b 8)))) (a1s (eC (.bl false))) a4b) (a0p (a7a (a3g (eSl (a0b 8) b4w (b0f (eC (.int 40))))) (.tp [9,10]) (sIf (a1f (eOp neB (a1a call 14 (a0a (a0b 4) (a0a (a3k (a0a (a0b 10) (a0a (a0b 9) (a0a (a0b 7) a0i)))) a0i))) (eOp eqB (a0b 10) (a0b 5)))) (a1s (eC (.bl false))) a4b)) (a0p (a1n (a0q call 30 3 (a0a (a0b 4) (a0a (a0b 6) (a0a (eOp ixF (a9b (a0a (eC (.int 2)) (a0a (eC (.int 9)) (a0a (eC (.int 100)) a0i)))) (a0q call 22 3 (a0a (eC (.int 3)) a0i))) a0i)))) (.nm 11)) (a0p (sIf (bOr (a1f (eUn (a5e true) (a1a call 14 (a0a (a0b 11) (a0a (a3k (a0a (a0b 5) (a0a (a0b 6) (a0a (a0b 7) a0i)))) a0i))))) (a1f (eOp neB (eOp ixF (a1a call 0 (a0a (a0b 11) a0i)) (eC (.int 0))) (a0b 5)))) (a1s (eC (.bl false))) a4b) (a0p (sIf (a1f (eOp gtB (eUn a9m (eOp ixF (a0b 4) (eC (.int 0)))) (eC (.int 1)))) (a0p (a1n (a0q call 31 3 (a0a (a0b 4) a0i)) (.nm 12)) (sIf (bOr (a1f (eOp gtB (eOp ixF (a1a call 0 (a0a (a0b 12) a0i)) (eC (.int 0))) (a0b 5))) (a1f (eOp gtB (a1a call 13 (a0a (a0b 12) (a0a (a0b 6) a0i))) (a0b 5)))) (a1s (eC (.bl false))) a4b)) a4b) (a0p (a1n (eOp a4s (eC (.int 2)) (a0q call 22 3 (a0a (eC (.int 5)) a0i))) (.nm 13)) (a0p (a1n (eUn c4g (a1h 15 1 (a3g (eOp a4s (eUn a4c (eOp ixF (a0b 4) (eC (.int 0)))) (a1h 15 1 (a3g (eOp ixF (a0b 4) (eC (.int 1)))) (.nm 15) a1i (eOp ixF (a0b 15) (eC (.int 2)))))) (.nm 15) a1i (eOp ltN (a0b 15) (eOp c2h (eC (.int 10)) (eC (.int 8)))))) (.nm 14)) (sIf (b5p (a1f (a0b 14)) (a1f (eOp neB (eOp ixF (a1a call 0 (a0a (a1a call 32 (a0a (a0b 4) (a0a (a0b 13) a0i))) a0i)) (eC (.int 0))) (eOp b2d (a0b 13) (a0b 5))))) (a1s (eC (.bl false))) a4b)))))))))))))) (a1s (eC (.bl true))))
def fd0:FD:=⟨1,9,bd0,false,false⟩
def fd1:FD:=⟨1,5,bd1,false,true⟩
def fd2:FD:=⟨2,5,bd2,false,false⟩
def fd3:FD:=⟨2,4,bd3,false,true⟩
def fd4:FD:=⟨2,5,bd4,false,false⟩
def fd5:FD:=⟨1,1,bd5,false,false⟩
def fd6:FD:=⟨2,2,bd6,false,false⟩
def fd7:FD:=⟨1,1,bd7,false,false⟩
def fd8:FD:=⟨2,2,bd8,false,false⟩
def fd9:FD:=⟨2,6,bd9,false,false⟩
def e1b:FD:=⟨2,4,e2x,false,false⟩
def e1a:FD:=⟨1,1,d5q,false,false⟩
def e0z:FD:=⟨2,3,e2w,false,false⟩
def e0y:FD:=⟨2,2,d5p,false,false⟩
def e0x:FD:=⟨2,5,e2v,false,false⟩
def e0w:FD:=⟨2,2,e2u,false,false⟩
def e0v:FD:=⟨2,4,e2t,false,false⟩
def e0u:FD:=⟨2,2,e2s,false,false⟩
def e0t:FD:=⟨2,4,e2r,false,false⟩
def e0s:FD:=⟨2,5,e2q,false,false⟩
def e0r:FD:=⟨2,3,e2p,false,false⟩
def e0q:FD:=⟨2,3,e2o,true,true⟩
def d5f:FD:=⟨2,3,d5o,true,false⟩
def e0p:FD:=⟨2,5,e2n,false,true⟩
def e0o:FD:=⟨2,3,e2m,true,false⟩
def fd25:FD:=⟨2,2,bd25,true,false⟩
def e0n:FD:=⟨2,8,e2l,true,false⟩
def e0m:FD:=⟨1,1,d5n,false,false⟩
def e0l:FD:=⟨2,6,e2k,false,false⟩
def e0k:FD:=⟨1,10,e2j,false,false⟩
def e0j:FD:=⟨4,10,e2i,true,false⟩
def e0i:FD:=⟨2,7,e2h,true,false⟩
def e0h:FD:=⟨2,3,e2g,false,false⟩
def e0g:FD:=⟨1,15,e2f,false,false⟩
def tb:List FD:=[fd0,fd1,fd2,fd3,fd4,fd5,fd6,fd7,fd8,fd9,e1b,e1a,e0z,e0y,e0x,e0w,e0v,e0u,e0t,e0s,e0r,e0q,d5f,e0p,e0o,fd25,e0n,e0m,e0l,e0k,e0j,e0i,e0h,e0g]
def mixV (a k:Int):Int:=((a % 2147483629+k*k*7919+11)*48271 % 2147483647)*((a % 2147483629+k*k*7919+11)*48271 % 2147483647) % 1999999973
theorem b6o (x:Int):a2f (x % 2147483647)=true:=by
 have:=Int.emod_nonneg x (show (2147483647:Int)≠0 by decide)
 have:=Int.emod_lt_of_pos x (show (0:Int)<2147483647 by decide)
 simp only[a2f,decide_eq_true_eq];lia
theorem a4h {i:Int}(h:0<=i)(h':i<2 ^ 60):a2f i=true:=by
 simp only[a2f,decide_eq_true_eq];lia
theorem a1e {i:Int}(h:0<=i)(h':i<2 ^ 60):a2g i=true:=by
 simp only[a2g,decide_eq_true_eq];lia
theorem d1y (d:Nat) (a k:Int)(hk:a2f k=true)(Q:FV×FV->Prop):callW tb (d+1) 20 [.int a,.int k] Q↔Q (.int (mixV a k),.non):=by
 have h2:a2f 48271=true:=by decide
 have h3:a2f 7919=true:=by decide
 rw[a4o (fd:=e0r) rfl rfl]
 simp[e0r,e2p,h2,h3,hk,b6o,mixV]
def Lf (n:Int)(v:FV):Prop:=∃ a b c,v=.lst [.int a,.int b,.int c]/\0<=c/\c<=n
theorem Lf.mono {n m:Int}{v:FV}(h:Lf n v)(k:n<=m):Lf m v:=by
 obtain⟨a,b,c,h,h1,h2⟩:=h
 exact⟨a,b,c,h,h1,by lia⟩
theorem a1l (d:Nat){many n:Int}{v:FV}{Q:FV×FV->Prop}(hs:Lf n v)(hn:n<1000000)(h1:0<many)(h2:many<1073741824)
  (q:∀ u v',0<=u->u<many->Lf (n+1) v'->Q (.int u,v')):callW tb (d+2) 22 [v,.int many] Q:=by
 obtain⟨a,b,c,rfl,h3,h4⟩:=hs
 refine a0k (fd:=d5f) rfl rfl ?_
 have s1:a2f (c+1)=true:=a4h (by lia) (by lia)
 have s2:a2f (c+1+64)=true:=a4h (by lia) (by lia)
 by_cases ha:0<a
 ·simp[d5f,d5o,ixN,ha,h1,h2]
  exact q _ _ (Int.emod_nonneg _ (by lia)) (Int.emod_lt_of_pos _ h1) ⟨_,_,_,rfl,by lia,by lia⟩
 ·simp[d5f,d5o,ixN,ha,h1,h2,d1y,s1,s2]
  exact q _ _ (Int.emod_nonneg _ (by lia)) (Int.emod_lt_of_pos _ h1) ⟨_,_,_,rfl,by lia,by lia⟩
mutual
noncomputable def dF:D->FV
 | .non=>.non
 | .bl b=>.bl b
 | .int i=>.int i
 | .str x=>.str x
 | .tup xs=>.tup (dFs xs)
 | .lst xs=>.lst (dFs xs)
noncomputable def dFs:List D->List FV
 | []=>[]
 | x :: r=>dF x :: dFs r
end
mutual
noncomputable def dep:D->Nat
 | .tup xs=>deps xs+1
 | .lst xs=>deps xs+1
 | .non=>0|.bl _=>0|.int _=>0|.str _=>0
noncomputable def deps:List D->Nat
 | []=>0
 | x :: r=>max (dep x) (deps r)
end
mutual
theorem e1h:∀ (x:D) (n:Nat),dep x<n->fD n (dF x)=some x
 | .non,0,h=>by lia
 | .non,n+1,h=>rfl
 | .bl _,0,h=>by lia
 | .bl _,n+1,h=>rfl
 | .int _,0,h=>by lia
 | .int _,n+1,h=>rfl
 | .str _,0,h=>by lia
 | .str _,n+1,h=>rfl
 | .tup xs,0,h=>by lia
 | .tup xs,n+1,h=>by simp only[dF,fD];rw[fDs_dF xs n (by simp only[dep] at h;lia)];rfl
 | .lst xs,0,h=>by lia
 | .lst xs,n+1,h=>by simp only[dF,fD];rw[fDs_dF xs n (by simp only[dep] at h;lia)];rfl
theorem fDs_dF:∀ (xs:List D) (n:Nat),deps xs<n->a7h (fD n) (dFs xs)=some xs
 | [],n,h=>rfl
 | x :: r,n,h=>by
  simp only[deps] at h
  simp only[dFs,a7h,e1h x n (by lia),fDs_dF r n (by lia),Option.bind_some,Option.map_some]
end
theorem c4a {α:Type}(xs:List α) (n:Nat):a5f xs (some (n:Int)) none=xs.drop n:=by
 have h:sIx xs.length 0 (some (n:Int))=min n xs.length:=by simp only[sIx];rw[if_neg (by lia)];simp
 unfold a5f
 rw[h]
 show (xs.drop (min n xs.length)).take (xs.length-min n xs.length)=_
 by_cases hn:n<=xs.length
 ·rw[Nat.min_eq_left hn,List.take_of_length_le (by simp)]
 ·rw[Nat.min_eq_right (by lia),List.drop_of_length_le (Γi _),List.drop_of_length_le (by lia)];simp
theorem c5c {α:Type}(xs:List α) (n:Nat):a5f xs none (some (n:Int))=xs.take n:=by
 have h:sIx xs.length xs.length (some (n:Int))=min n xs.length:=by simp only[sIx];rw[if_neg (by lia)];simp
 unfold a5f
 rw[h]
 show (xs.drop 0).take (min n xs.length-0)=_
 rw[List.drop_zero,Nat.sub_zero,List.take_eq_take_iff];lia
theorem a8f {α β:Type}(f:α->FV)(g:β->FV):∀ (xs:List α)(ys:List β),a2l (xs.map f) (ys.map g)=(xs.zip ys).map λp=>.tup [f p.1,g p.2]
 | [],ys=>rfl
 | x :: xs,[]=>rfl
 | x :: xs,y :: ys=>by
  show FV.tup [f x,g y] :: a2l (xs.map f) (ys.map g)=_
  rw[a8f f g xs ys];rfl
abbrev Chg:=Nat×Nat×Int
def a2z (c:Chg):FV:=.tup [.int c.1,.int c.2.1,.int c.2.2]
structure Gst (ws:List Int)(cs:List Chg):Prop where
 w:∀ x∈ws,1<=x
 c:∀ x∈cs,x.1<ws.length/\x.2.1<ws.length/\x.1≠x.2.1/\1<=x.2.2
 s:∀ x∈cs.zip (cs.drop 1),lexLt [(x.1.1:Int),x.1.2.1] [(x.2.1:Int),x.2.2.1]=true
def a2u (ws:List Int)(cs:List Chg):FV:=.tup [.tup (ws.map .int),.tup (cs.map a2z)]
def keyH (c:Chg):List Int:=[c.1,c.2.1]
def a0x:Option Nat->FV|none=>.non|some a=>.int a
theorem a8i (d:Nat) (i:Int)(Q:FV×FV->Prop):callW tb (d+1) 5 [.int i] Q↔Q (.bl true,.non):=by
 rw[a4o (fd:=fd5) rfl rfl]
 simp[fd5,bd5]
theorem b1s (d:Nat)(xs:List FV) (n:Int)(Q:FV×FV->Prop):callW tb (d+1) 6 [.tup xs,.int n] Q↔Q (.bl ((xs.length:Int) == n),.non):=by
 rw[a4o (fd:=fd6) rfl rfl]
 simp[fd6,bd6]
theorem c5u (d:Nat) (i:Int)(Q:FV×FV->Prop):callW tb (d+2) 7 [.int i] Q↔Q (.bl (decide (1<=i)),.non):=by
 rw[a4o (fd:=fd7) rfl rfl]
 simp[fd7,bd7,a8i]
theorem c7j (d:Nat) (a n:Nat)(Q:FV×FV->Prop):callW tb (d+2) 8 [.int a,.int n] Q↔Q (.bl (decide (a<n)),.non):=by
 rw[a4o (fd:=fd8) rfl rfl]
 simp[fd8,bd8,a8i]
theorem a4l:∀ (xs:List Int) (b:Int),a1o b xs∈b :: xs
 | [],b=>by simp[a1o]
 | x :: r,b=>by
  have:=a4l r (if x<b then x else b)
  show a1o (if x<b then x else b) r∈_
  split at this<;>rename_i h
  ·rw[if_pos h];exact Γh _ this
  ·rw[if_neg h]
   rcases List.mem_cons.mp this with e|e
   ·rw[e];simp
   ·exact Γh _ (Γh _ e)
theorem a3p:∀ (xs:List Int) (b:Int),a1o b xs<=b/\∀ x∈xs,a1o b xs<=x
 | [],b=>⟨Int.le_refl _,by simp⟩
 | x :: r,b=>by
  have:=a3p r (if x<b then x else b)
  show a1o (if x<b then x else b) r<=b/\∀ y∈x :: r,a1o (if x<b then x else b) r<=y
  refine⟨by have:=this.1;split at this<;>lia,λy hy=>?_⟩
  rcases List.mem_cons.mp hy with rfl|hy
  ·have:=this.1;split at this<;>lia
  ·exact this.2 y hy
theorem a7d {α:Type}:∀ (ps:List (List Int×α))(ks:List (List Int))(vs:List α),(ks++ps.map (·.1)).Nodup->a1r ps ks vs=(ks++ps.map (·.1),vs++ps.map (·.2))
 | [],ks,vs,_=>by simp[a1r]
 | p :: r,ks,vs,h=>by
  have hp:p.1 ∉ ks:=λz=>by
   rw[List.nodup_append] at h
   exact h.2.2 p.1 z p.1 (by simp) rfl
  have e:a1q ks vs p.1 p.2=(ks++[p.1],vs++[p.2]):=by rw[a1q,if_neg hp]
  rw[a1r,e,a7d r _ _ (by simpa using h)]
  simp
theorem b0d:∀ cs:List Chg,a7g (cs.map λc=>FV.tup [.tup [.int c.1,.int c.2.1],.int c.2.2])=some (cs.map λc=>(keyH c,FV.int c.2.2))
 | []=>rfl
 | c :: r=>by
  rw[List.map_cons,a7g,b0d r];rfl
theorem b6b:∀ cs:List Chg,a5b (cs.map a2z)=true
 | []=>rfl
 | c :: r=>by
  rw[List.map_cons]
  show ((match a0w [FV.int c.1,FV.int c.2.1,FV.int c.2.2] with|some (_ :: _)=>true|_=>false) && a5b (r.map a2z))=true
  rw[b6b r];rfl
theorem c0d {α β:Type}(f:α->β)(xs:List α)(lo hi:Option Int):a5f (xs.map f) lo hi=(a5f xs lo hi).map f:=by simp[a5f,List.map_drop,List.map_take]
theorem c8v {α:Type}(xs:List α) (i t:Nat):a5f xs (some (i:Int)) (some ((i:Int)+(t:Int)))=(xs.drop i).take t:=by
 have h1:sIx xs.length 0 (some (i:Int))=min i xs.length:=by simp only[sIx];rw[if_neg (by lia)];simp
 have h2:sIx xs.length xs.length (some ((i:Int)+(t:Int)))=min (i+t) xs.length:=by simp only[sIx];rw[if_neg (by lia)];congr 1
 unfold a5f
 rw[h1,h2]
 by_cases hi:i<=xs.length
 ·rw[Nat.min_eq_left hi,List.take_eq_take_iff,List.length_drop];lia
 ·rw[Nat.min_eq_right (show xs.length<=i by lia),List.drop_of_length_le (Γi _),List.drop_of_length_le (by lia)];simp
theorem c0c {α:Type}(xs:List α){i j:Nat}(h:i<=j):a5f xs (some (i:Int)) (some (j:Int))=(xs.drop i).take (j-i):=by
 obtain⟨t,rfl⟩:∃ t,j=i+t:=⟨j-i,by lia⟩
 rw[Nat.add_sub_cancel_left,<- c8v];simp
theorem b2g {xs:List Int}{x:Int}{r:List Int}(h:xs=x :: r)(Q:FV->Prop):wp (d4q (xs.map .int)) Q↔Q (.int (a1o x r)):=by
 subst h
 simp only[d4q,a8u,Option.bind_some];rfl
theorem a7u {xs:List Int}(hl:xs.length<=1000)(h:∀ x∈xs,0<=x/\x<=100000000000){Q:Int->Prop}(q:Q xs.sum):wp (c5q (xs.map .int)) Q:=by
 simp only[c5q,a2a,a8u,a1z]
 rw[a4a]
 refine⟨⟨by simp only[big];lia,?_⟩,q⟩
 rw[List.all_eq_true]
 intro x hx
 have:=h x hx
 simp only[a7w,decide_eq_true_eq];lia
abbrev Ent:=Option Nat×Nat
inductive Anc (fr:List Ent) (m:Nat):Option Nat->Prop
 | refl:Anc fr m (some m)
 | step {on:Option Nat}{t:Nat}:Anc fr m (some t)->(on,t)∈fr->Anc fr m on
def ent (S:List Nat)(e:Ent):Bool:=decide (e.2∈S) && (match e.1 with
 | none=>true
 | some a=>!decide (a∈S))
theorem ent_iff {S:List Nat}{on:Option Nat}{t:Nat}:ent S (on,t)=true↔t∈S/\∀ a,on=some a->a ∉ S:=by
 cases on with
 | none=>simp[ent]
 | some a=>simp[ent]
structure Prc where
 S:List Nat
 p:Int
 t:Nat
def due (ps:List Prc)(e:Ent):Int:=((ps.filter λq=>ent q.S e).map (·.p)).sum
structure Lrm (n:Nat)(E:List Ent)(sz:Ent->Int)(fr:List Ent)(ps:List Prc):Prop where
 sub:∀ e∈fr,e∈E
 nd:fr.Nodup
 low:∀ e∈E,due ps e<=sz e
 free:∀ e∈E,e∈fr↔due ps e=sz e
 pos:∀ q∈ps,0<q.p
 ne:∀ q∈ps,q.S≠[]
 up:∀ q∈ps,q.S.Pairwise (· < ·)
 lt:∀ q∈ps,∀ m∈q.S,m<n
 tl:∀ q∈ps,q.t<=fr.length
 shut:∀ q∈ps,∀ e∈fr.take q.t,ent q.S e=false
 cut:∀ q∈ps,∀ A:Nat->Prop,(∃ a∈q.S,A a)->(∃ b∈q.S,¬ A b)->∃ a b,(some a,b)∈fr.take q.t/\a∈q.S/\b∈q.S/\A a/\¬ A b
 hit:∀ q∈ps,∃ e∈fr,ent q.S e=true
 dst:(ps.map (·.S)).Nodup
structure Src (n:Nat)(fr:List Ent)(S:List Nat):Prop where
 ne:S≠[]
 up:S.Pairwise (· < ·)
 lt:∀ m∈S,m<n
 all:∀ m∈S,∀ x,Anc fr m x↔∃ a∈S,x=some a
theorem Src.shut {n:Nat}{fr:List Ent}{S:List Nat}(h:Src n fr S){e:Ent}(he:e∈fr):ent S e=false:=by
 obtain⟨on,t⟩:=e
 cases z:ent S (on,t) with
 | false=>rfl
 | true =>
  obtain⟨ht,hn⟩:=ent_iff.mp z
  obtain⟨a,ha,e⟩:=(h.all t ht on).mp (.step .refl he)
  exact absurd ha (hn a e)
theorem c0v {fr:List Ent}{m:Nat}{A:Nat->Prop}(hm:¬ A m):∀ {x:Option Nat},Anc fr m x->∀ a,x=some a->A a->∃ a b,(some a,b)∈fr/\Anc fr m (some a)/\Anc fr m (some b)/\A a/\¬ A b:=by
 intro x h
 induction h with
 | refl=>intro a e ha;cases e;exact absurd ha hm
 | @step on t h1 h2 ih =>
  intro a e ha
  subst e
  by_cases ht:A t
  ·exact ih t rfl ht
  ·exact⟨a,t,h2,.step h1 h2,h1,ha,ht⟩
theorem Src.cut {n:Nat}{fr:List Ent}{S:List Nat}(h:Src n fr S)(A:Nat->Prop)(h1:∃ a∈S,A a)(h2:∃ b∈S,¬ A b):∃ a b,(some a,b)∈fr/\a∈S/\b∈S/\A a/\¬ A b:=by
 obtain⟨a,ha,pa⟩:=h1
 obtain⟨b,hb,pb⟩:=h2
 obtain⟨c,d,g1,g2,g3,g4,g5⟩:=c0v pb ((h.all b hb (some a)).mpr ⟨a,ha,rfl⟩) a rfl pa
 obtain⟨c',hc,e1⟩:=(h.all b hb _).mp g2
 obtain⟨d',hd,e2⟩:=(h.all b hb _).mp g3
 cases e1;cases e2
 exact⟨c,d,g1,hc,hd,g4,g5⟩
theorem a5r (ps:List Prc)(S:List Nat) (p:Int) (t:Nat)(e:Ent):due (ps++[⟨S,p,t⟩]) e=due ps e+if ent S e=true then p else 0:=by
 unfold due
 rw[List.filter_append,List.map_append,List.sum_append]
 by_cases h:ent S e=true<;>simp[h]
theorem Lrm.start {n:Nat}{E:List Ent}{sz:Ent->Int}(h:∀ e∈E,0<sz e):Lrm n E sz [] [] where
 sub:=by simp
 nd:=List.nodup_nil
 low:=λe he=>by have:=h e he;simp[due];lia
 free:=λe he=>by have:=h e he;simp[due];lia
 pos:=by simp
 ne:=by simp
 up:=by simp
 lt:=by simp
 tl:=by simp
 shut:=by simp
 cut:=by simp
 hit:=by simp
 dst:=by simp
theorem Lrm.step {n:Nat}{E:List Ent}{sz:Ent->Int}{fr:List Ent}{ps:List Prc}{S:List Nat}{p:Int}(h:Lrm n E sz fr ps)(hS:Src n fr S)(hE:E.Nodup)
  (h1:∀ e∈E,ent S e=true->p<=sz e-due ps e)(h2:∃ e∈E,ent S e=true/\sz e-due ps e=p) :
  0<p/\Lrm n E sz (fr++E.filter λe=>ent S e && decide (sz e-due ps e=p)) (ps++[⟨S,p,fr.length⟩]):=by
 have nf:∀ e∈E,ent S e=true->e ∉ fr:=λe _ he z=>by rw[hS.shut z] at he;cases he
 have hp:0<p:=by
  obtain⟨e,he,g1,g2⟩:=h2
  have:=h.low e he
  have n1:due ps e≠sz e:=λz=>nf e he g1 ((h.free e he).mpr z)
  lia
 refine⟨hp,?_⟩
 have tk:∀ t,t<=fr.length->∀ l:List Ent,(fr++l).take t=fr.take t:=λt ht l=>by rw[List.take_append_of_le_length ht]
 refine⟨λe he=>?_,?_,λe he=>?_,λe he=>?_,λq hq=>?_,λq hq=>?_,λq hq=>?_,λq hq=>?_,λq hq=>?_,λq hq e he=>?_,λq hq=>?_,λq hq=>?_,?_⟩
 ·rcases List.mem_append.mp he with he|he
  ·exact h.sub e he
  ·exact (List.mem_filter.mp he).1
 ·refine List.nodup_append.mpr ⟨h.nd,hE.filter _,λa ha b hb e=>?_⟩
  subst e
  obtain⟨g1,g2⟩:=List.mem_filter.mp hb
  simp only[Bool.and_eq_true] at g2
  exact nf a g1 g2.1 ha
 ·rw[a5r]
  have:=h.low e he
  split
  ·rename_i g
   have:=h1 e he g
   lia
  ·lia
 ·rw[a5r]
  constructor
  ·intro z
   rcases List.mem_append.mp z with z|z
   ·rw[if_neg (by rw[hS.shut z];exact Γk)]
    have:=(h.free e he).mp z
    lia
   ·obtain⟨_,g⟩:=List.mem_filter.mp z
    simp only[Bool.and_eq_true,decide_eq_true_eq] at g
    rw[if_pos g.1]
    lia
  ·intro z
   by_cases g:ent S e=true
   ·rw[if_pos g] at z
    refine List.mem_append_right _ (List.mem_filter.mpr ⟨he,?_⟩)
    simp only[Bool.and_eq_true,decide_eq_true_eq]
    exact⟨g,by lia⟩
   ·rw[if_neg g] at z
    exact List.mem_append_left _ ((h.free e he).mpr (by lia))
 all_goals first|skip
 ·rcases List.mem_append.mp hq with hq|hq
  ·exact h.pos q hq
  ·simp at hq;subst hq;exact hp
 ·rcases List.mem_append.mp hq with hq|hq
  ·exact h.ne q hq
  ·simp at hq;subst hq;exact hS.ne
 ·rcases List.mem_append.mp hq with hq|hq
  ·exact h.up q hq
  ·simp at hq;subst hq;exact hS.up
 ·rcases List.mem_append.mp hq with hq|hq
  ·exact h.lt q hq
  ·simp at hq;subst hq;exact hS.lt
 ·rcases List.mem_append.mp hq with hq|hq
  ·have:=h.tl q hq
   simp;lia
  ·simp at hq;subst hq;simp
 ·rcases List.mem_append.mp hq with hq|hq
  ·rw[tk _ (h.tl q hq)] at he
   exact h.shut q hq e he
  ·simp at hq;subst hq
   rw[show (⟨S,p,fr.length⟩:Prc).t=fr.length from rfl,tk _ (Γi _),List.take_length] at he
   exact hS.shut he
 ·rcases List.mem_append.mp hq with hq|hq
  ·rw[tk _ (h.tl q hq)]
   exact h.cut q hq
  ·simp at hq;subst hq
   dsimp only
   rw[tk _ (Γi _),List.take_length]
   exact hS.cut
 ·rcases List.mem_append.mp hq with hq|hq
  ·obtain⟨e,g1,g2⟩:=h.hit q hq
   exact⟨e,List.mem_append_left _ g1,g2⟩
  ·simp at hq;subst hq
   obtain⟨e,he,g1,g2⟩:=h2
   refine⟨e,List.mem_append_right _ (List.mem_filter.mpr ⟨he,?_⟩),g1⟩
   simp only[Bool.and_eq_true,decide_eq_true_eq]
   exact⟨g1,g2⟩
 ·rw[List.map_append]
  refine List.nodup_append.mpr ⟨h.dst,by simp,λa ha b hb e=>?_⟩
  simp at hb
  subst hb e
  obtain⟨q,hq,e⟩:=List.mem_map.mp ha
  obtain⟨e',g1,g2⟩:=h.hit q hq
  rw[e,hS.shut g1] at g2;cases g2
def may (D:List Nat)(e:Ent):Bool:=!decide (e.2∈D) && (match e.1 with
 | none=>true
 | some a=>decide (a∈D))
structure Lay (fr:List Ent)(us:List Ent):Prop where
 sub:∀ e∈us,e∈fr
 nd:(us.map (·.2)).Nodup
 on:∀ l e r,us=l++e :: r->∀ a,e.1=some a->a∈l.map (·.2)
def a7s (D:List Nat)(S:List Nat):Bool:=S.any λm=>decide (m∈D)
structure Cnt (fr:List Ent)(ps:List Prc)(us:List Ent):Prop extends Lay fr us where
 one:∀ q∈ps,us.countP (ent q.S)=if a7s (us.map (·.2)) q.S=true then 1 else 0
theorem touch_iff {D S:List Nat}:a7s D S=true↔∃ m∈S,m∈D:=by simp[a7s]
theorem Cnt.step {n:Nat}{E:List Ent}{sz:Ent->Int}{fr:List Ent}{ps:List Prc}{us:List Ent}(h:Lrm n E sz fr ps)(c:Cnt fr ps us){e:Ent}(he:fr.find? (may (us.map (·.2)))=some e):Cnt fr ps (us++[e]):=by
 obtain⟨on,m⟩:=e
 have hm:=List.find?_some he
 have hin:=List.mem_of_find?_eq_some he
 have m1:m ∉ us.map (·.2):=by
  simp only[may,Bool.and_eq_true,Bool.not_eq_true',decide_eq_false_iff_not] at hm
  exact hm.1
 have m2:∀ a,on=some a->a∈us.map (·.2):=λa z=>by
  subst z
  simp only[may,Bool.and_eq_true,decide_eq_true_eq] at hm
  exact hm.2
 refine⟨⟨λe' he'=>?_,?_,λl e' r z a ea=>?_⟩,λq hq=>?_⟩
 ·rcases List.mem_append.mp he' with z|z
  ·exact c.sub e' z
  ·simp at z;subst z;exact hin
 ·rw[List.map_append]
  refine List.nodup_append.mpr ⟨c.nd,by simp,λa ha b hb z=>?_⟩
  simp at hb;subst hb z
  exact m1 ha
 ·rcases List.append_eq_append_iff.mp z with⟨x,h1,h2⟩|⟨x,h1,h2⟩
  ·cases x with
   | nil =>
    simp at h1 h2
    obtain⟨h2,_⟩:=h2
    subst h2 h1
    exact m2 a ea
   | cons y x =>
    have:=congrArg List.length h2
    simp at this
  ·cases x with
   | nil =>
    simp at h1 h2
    obtain⟨h2,_⟩:=h2
    subst h2 h1
    exact m2 a ea
   | cons y x =>
    simp at h2
    obtain⟨rfl,h2⟩:=h2
    exact c.on l e' x h1 a ea
 ·have old:=c.one q hq
  rw[List.countP_append,List.map_append]
  have tch:a7s (us.map (·.2)++[(on,m)].map (·.2)) q.S=(a7s (us.map (·.2)) q.S || decide (m∈q.S)):=by
   rw[Bool.eq_iff_iff]
   simp only[touch_iff,Bool.or_eq_true,decide_eq_true_eq,List.mem_append,List.map_cons,List.map_nil,List.mem_singleton]
   constructor
   ·rintro⟨x,h1,h2|rfl⟩
    ·exact .inl ⟨x,h1,h2⟩
    ·exact .inr h1
   ·rintro (⟨x,h1,h2⟩|h1)
    ·exact⟨x,h1,.inl h2⟩
    ·exact⟨m,h1,.inr rfl⟩
  rw[tch]
  by_cases hmS:m∈q.S
  ·by_cases ht:a7s (us.map (·.2)) q.S=true
   ·rw[if_pos ht] at old
    have:ent q.S (on,m)=false:=by
     cases z:ent q.S (on,m) with
     | false=>rfl
     | true =>
      obtain⟨a,b,g1,g2,g3,g4,g5⟩:=h.cut q hq (λx=>x∈us.map (·.2)) (touch_iff.mp ht) ⟨m,hmS,m1⟩
      have hb:may (us.map (·.2)) (some a,b)=true:=by
       simp only [may,Bool.and_eq_true,Bool.not_eq_true',decide_eq_false_iff_not,decide_eq_true_eq]
       exact ⟨g5,g4⟩
      have hf:(fr.take q.t).find? (may (us.map (·.2)))=some (on,m):=by
       rw [<- List.take_append_drop q.t fr,List.find?_append] at he
       cases z2:(fr.take q.t).find? (may (us.map (·.2))) with
       | none=>exact absurd hb (List.find?_eq_none.mp z2 _ g1)
       | some e2=>rw [z2] at he; simpa using he
      have:=h.shut q hq _ (List.mem_of_find?_eq_some hf)
      rw[this] at z;cases z
    simp[ht,old,this]
   ·have ht':a7s (us.map (·.2)) q.S=false:=by simpa using ht
    rw[if_neg ht] at old
    have:ent q.S (on,m)=true:=ent_iff.mpr ⟨hmS,λa ea z=>ht (touch_iff.mpr ⟨a,z,m2 a ea⟩)⟩
    simp[ht',old,this,hmS]
  ·have:ent q.S (on,m)=false:=by simp[ent,hmS]
   simp[old,this,hmS]
theorem b4j (ps:List Prc)(e:Ent):due ps e=(ps.map λq=>if ent q.S e=true then q.p else 0).sum:=by
 unfold due
 induction ps with
 | nil=>rfl
 | cons q r ih =>
  by_cases h:ent q.S e=true
  ·simp[List.filter_cons,h,<- ih]
  ·simp[List.filter_cons,h,<- ih]
theorem b6l {α:Type}(f g:α->Int):∀ l:List α,(l.map λx=>f x+g x).sum=(l.map f).sum+(l.map g).sum
 | []=>rfl
 | x :: r=>by simp only[List.map_cons,List.sum_cons,b6l f g r];lia
theorem b2t (ps:List Prc):∀ us:List Ent,(us.map (due ps)).sum=(ps.map λq=>q.p*(us.countP (ent q.S):Int)).sum
 | []=>by
  have:(ps.map λq=>q.p*(([]:List Ent).countP (ent q.S):Int))=ps.map λ_=>(0:Int):=List.map_congr_left λq _=>by simp
  rw[this]
  induction ps with
  | nil=>rfl
  | cons q r ih=>simpa using ih (by simp)
 | e :: us=>by
  rw[List.map_cons,List.sum_cons,b2t ps us,b4j,<- b6l]
  congr 1
  apply List.map_congr_left
  intro q _
  rw[List.countP_cons]
  by_cases h:ent q.S e=true
  ·simp[h,Int.mul_add];lia
  ·simp[h]
theorem Cnt.room {n:Nat}{E:List Ent}{sz:Ent->Int}{fr:List Ent}{ps:List Prc}{us:List Ent}(h:Lrm n E sz fr ps)(c:Cnt fr ps us)(ha:∀ m,m<n->m∈us.map (·.2)):(us.map sz).sum=(ps.map (·.p)).sum:=by
 have e1:us.map sz=us.map (due ps):=List.map_congr_left λe he=>((h.free e (h.sub e (c.sub e he))).mp (c.sub e he)).symm
 rw[e1,b2t]
 congr 1
 apply List.map_congr_left
 intro q hq
 have:a7s (us.map (·.2)) q.S=true:=by
  cases z:q.S with
  | nil=>exact absurd z (h.ne q hq)
  | cons m r=>exact touch_iff.mpr ⟨m,by simp,ha m (h.lt q hq m (by rw[z];simp))⟩
 rw[c.one q hq,if_pos this]
 simp
theorem c3b {fr:List Ent}{D:List Nat}{m:Nat}(hm:m ∉ D)(h:Anc fr m none):∃ e,fr.find? (may D)=some e:=by
 have go:∀ {x:Option Nat},Anc fr m x->(x=none ∨ ∃ a,x=some a/\a∈D)->∃ e∈fr,may D e=true:=by
  intro x hx
  induction hx with
  | refl =>
   rintro (z|⟨a,z,ha⟩)
   ·cases z
   ·cases z;exact absurd ha hm
  | @step on t h1 h2 ih =>
   intro z
   by_cases ht:t∈D
   ·exact ih (.inr ⟨t,rfl,ht⟩)
   ·refine⟨_,h2,?_⟩
    rcases z with rfl|⟨a,rfl,ha⟩<;>simp[*,may]
 obtain⟨e,h1,h2⟩:=go h (.inl rfl)
 cases z:fr.find? (may D) with
 | none=>exact absurd h2 (List.find?_eq_none.mp z e h1)
 | some e=>exact⟨e,rfl⟩
theorem b7h {sz:Ent->Int}{ps:List Prc}{us:List Ent}(low:∀ e∈us,due ps e<=sz e)(pos:∀ q∈ps,0<q.p)(he:∀ q∈ps,∃ e∈us,ent q.S e=true):(ps.map (·.p)).sum<=(us.map sz).sum:=by
 have a:(us.map (due ps)).sum<=(us.map sz).sum:=by
  clear he
  induction us with
  | nil=>exact Int.le_refl _
  | cons e r ih =>
   have:=low e (by simp)
   have:=ih λx hx=>low x (by simp[hx])
   simp only[List.map_cons,List.sum_cons];lia
 rw[b2t] at a
 have b:(ps.map (·.p)).sum<=(ps.map λq=>q.p*(us.countP (ent q.S):Int)).sum:=by
  have hq:∀ q∈ps,q.p<=q.p*(us.countP (ent q.S):Int):=λq hq=>by
   obtain⟨e,h1,h2⟩:=he q hq
   have h3:1<=us.countP (ent q.S):=List.one_le_countP_iff.mpr ⟨e,h1,h2⟩
   have h4:=pos q hq
   have:q.p*1<=q.p*(us.countP (ent q.S):Int):=Int.mul_le_mul_of_nonneg_left (by lia) (by lia)
   lia
  clear a low pos he
  induction ps with
  | nil=>exact Int.le_refl _
  | cons q r ih =>
   have:=hq q (by simp)
   have:=ih λx hx=>hq x (by simp[hx])
   simp only[List.map_cons,List.sum_cons];lia
 lia
def ens (ls:List (Option Nat)):List Ent:=(List.range ls.length).map λm=>(ls.getD m none,m)
structure Rk (ls:List (Option Nat))(r:Nat->Nat):Prop where
 lt:∀ m,m<ls.length->r m<ls.length
 on:∀ m a,m<ls.length->ls.getD m none=some a->a<ls.length/\r a<r m
theorem mem_ens {ls:List (Option Nat)}{e:Ent}:e∈ens ls↔e.2<ls.length/\ls.getD e.2 none=e.1:=by
 unfold ens
 rw[List.mem_map]
 constructor
 ·rintro⟨m,hm,rfl⟩;exact⟨List.mem_range.mp hm,rfl⟩
 ·rintro⟨h1,h2⟩;exact⟨e.2,List.mem_range.mpr h1,by rw[h2]⟩
theorem Rk.enter {ls:List (Option Nat)}{r:Nat->Nat}(h:Rk ls r){S:List Nat}(hne:S≠[])(hlt:∀ m∈S,m<ls.length):∃ e∈ens ls,ent S e=true:=by
 obtain⟨m,hm⟩:=List.exists_mem_of_ne_nil S hne
 have go:∀ k m,r m<k->m∈S->∃ e∈ens ls,ent S e=true:=by
  intro k
  induction k with
  | zero=>intro m h;lia
  | succ k ih =>
   intro m hk hm
   by_cases g:∃ a,ls.getD m none=some a/\a∈S
   ·obtain⟨a,g1,g2⟩:=g
    have:=(h.on m a (hlt m hm) g1).2
    exact ih a (by lia) g2
   ·exact⟨(ls.getD m none,m),mem_ens.mpr ⟨hlt m hm,rfl⟩,ent_iff.mpr ⟨hm,λa e z=>g ⟨a,e,z⟩⟩⟩
 exact go _ m (Nat.lt_succ_self _) hm
inductive Und (ls:List (Option Nat)) (m:Nat):Nat->Prop
 | refl:Und ls m m
 | step {o a:Nat}:ls.getD o none=some a->Und ls m a->Und ls m o
theorem c1q {l l':List Int}(h:l.Perm l'):l.sum=l'.sum:=by
 induction h with
 | nil=>rfl
 | cons x _ ih=>simp only[List.sum_cons,ih]
 | swap x y l=>simp only[List.sum_cons];lia
 | trans _ _ h1 h2=>exact h1.trans h2
theorem b9l (ls:List (Option Nat)):(ens ls).Nodup:=by
 unfold ens
 rw[List.Nodup,List.pairwise_map]
 exact List.nodup_range.imp λh e=>h (congrArg Prod.snd e)
theorem Cnt.lay {n:Nat}{fr:List Ent}{ps:List Prc}{us:List Ent}{ls:List (Option Nat)}(c:Cnt fr ps us)(hb:∀ e∈fr,e.2<n/\∀ a,e.1=some a->a<n)(hl:ls.length=n)(hat:∀ m,m<n->∃ e∈us,e.2=m/\ls[m]?=some e.1):(∃ r,Rk ls r)/\(ens ls).Perm us:=by
 have lt:∀ x∈us.map (·.2),x<n:=λx hx=>by
  obtain⟨e,he,rfl⟩:=List.mem_map.mp hx
  exact (hb e (c.sub e he)).1
 have inj:∀ {e f:Ent},e∈us->f∈us->e.2=f.2->e=f:=by
  have nd:=c.nd
  rw[List.Nodup,List.pairwise_map] at nd
  intro e f he hf z
  refine Classical.byContradiction λw=>?_
  obtain⟨l,r,rfl⟩:=List.append_of_mem he
  rw[List.pairwise_append] at nd
  rcases List.mem_append.mp hf with g|g
  ·exact nd.2.2 f g e (by simp) z.symm
  ·rcases List.mem_cons.mp g with g|g
   ·exact w g.symm
   ·exact (List.pairwise_cons.mp nd.2.1).1 f g z
 have at':∀ e,e∈us->ls.getD e.2 none=e.1:=λe he=>by
  obtain⟨f,hf,e1,e2⟩:=hat e.2 ((hb e (c.sub e he)).1)
  have:=inj hf he e1
  subst this
  rw[List.getD_eq_getElem?_getD,e2];rfl
 have mem:∀ e,e∈ens ls↔e∈us:=λe=>by
  rw[mem_ens]
  constructor
  ·rintro⟨h1,h2⟩
   obtain⟨f,hf,e1,e2⟩:=hat e.2 (by lia)
   have h3:=at' f hf
   rw[e1,h2] at h3
   have:e=f:=Prod.ext h3 e1.symm
   rw[this];exact hf
  ·intro he
   exact⟨by rw[hl];exact (hb e (c.sub e he)).1,at' e he⟩
 have ndu:us.Nodup:=by
  have:=c.nd
  rw[List.Nodup,List.pairwise_map] at this
  exact this.imp λh e=>h (congrArg Prod.snd e)
 refine⟨⟨λm=>(us.map (·.2)).idxOf m,λm hm=>?_,λm a hm e=>?_⟩,(List.perm_ext_iff_of_nodup (b9l ls) ndu).mpr mem⟩
 ·obtain⟨f,hf,e1,_⟩:=hat m (by lia)
  have h1:(us.map (·.2)).idxOf m<(us.map (·.2)).length:=List.idxOf_lt_length_of_mem (List.mem_map.mpr ⟨f,hf,e1⟩)
  have h2:=c.nd.length_le_of_subset (l₂:=List.range n) λx hx=>List.mem_range.mpr (lt x hx)
  rw[List.length_range] at h2
  rw[hl];lia
 ·have hu:((some a,m):Ent)∈us:=(mem _).mp (mem_ens.mpr ⟨hm,e⟩)
  refine⟨by rw[hl];exact (hb _ (c.sub _ hu)).2 a rfl,?_⟩
  obtain⟨l,r,el⟩:=List.append_of_mem hu
  have ha:=c.on l _ r el a rfl
  have nd:=c.nd
  rw[el,List.map_append] at nd ⊢
  have hm':m ∉ l.map (·.2):=λz=>(List.nodup_append.mp nd).2.2 _ z m (by simp) rfl
  rw[List.idxOf_append,if_pos ha,List.idxOf_append,if_neg hm']
  have:=List.idxOf_lt_length_of_mem ha
  lia
def Found (fr:List Ent) (m:Nat)(fs:List (Option Nat)):Prop:=fs.Nodup/\∀ x,x∈fs↔Anc fr m x
theorem Anc.trans {fr:List Ent}{m t:Nat}(h:Anc fr m (some t)):∀ {x:Option Nat},Anc fr t x->Anc fr m x:=by
 intro x hx
 induction hx with
 | refl=>exact h
 | step _ h2 ih=>exact .step ih h2
theorem c9z {n:Nat}{fr:List Ent}{F:Nat->List (Option Nat)}(hF:∀ m,m<n->Found fr m (F m))(hfr:∀ a t,(some a,t)∈fr->a<n){m:Nat}(hm:m<n)(h0:none ∉ F m)(hmin:∀ k,k<n->none ∉ F k->(F m).length<=(F k).length)
  {S:List Nat}(hup:S.Pairwise (· < ·))(hS:∀ a,a∈S↔some a∈F m):Src n fr S:=by
 have lt:∀ {x:Option Nat},Anc fr m x->∀ a,x=some a->a<n:=by
  intro x hx
  induction hx with
  | refl=>intro a e;cases e;exact hm
  | step _ h2 _=>intro a e;subst e;exact hfr _ _ h2
 refine⟨λz=>?_,hup,λa ha=>lt (((hF m hm).2 _).mp ((hS a).mp ha)) a rfl,λb hb x=>?_⟩
 ·have:=(hS m).mpr (((hF m hm).2 _).mpr .refl)
  rw[z] at this;cases this
 ·have ab:=((hF m hm).2 _).mp ((hS b).mp hb)
  have hbn:=lt ab b rfl
  have sub:∀ y,y∈F b->y∈F m:=λy hy=>((hF m hm).2 _).mpr (ab.trans (((hF b hbn).2 _).mp hy))
  have hlen:=hmin b hbn λz=>h0 (sub _ z)
  have sup:∀ y,y∈F m->y∈F b:=by
   have nd:=(hF b hbn).1
   intro y hy
   refine Classical.byContradiction λz=>?_
   have nd2:(y :: F b).Nodup:=List.nodup_cons.mpr ⟨z,nd⟩
   have:=nd2.length_le_of_subset (l₂:=F m) λw hw=>(List.mem_cons.mp hw).elim (λe=>e ▸ hy) (sub w)
   simp at this
   lia
  constructor
  ·intro hx
   have hx':=sub x (((hF b hbn).2 _).mpr hx)
   cases x with
   | none=>exact absurd hx' h0
   | some a=>exact⟨a,(hS a).mpr hx',rfl⟩
  ·rintro⟨a,ha,rfl⟩
   exact ((hF b hbn).2 _).mp (sup _ ((hS a).mp ha))
theorem a4k {α:Type}{f:α->FV}{g:α->D}{h:FV->Option D}(hf:∀ x,h (f x)=some (g x)):∀ xs:List α,a7h h (xs.map f)=some (xs.map g)
 | []=>rfl
 | x :: r=>by
  show ((h (f x)).bind λy=>(a7h h (r.map f)).map (y :: ·))=_
  rw[hf,a4k hf r];rfl
structure Cod {α:Type} [DecidableEq α] (f:α->FV)(g:α->D):Prop where
 d:∀ k x,fD (k+3) (f x)=some (g x)
 e:∀ x y,D.eqv (g x) (g y)=decide (x=y)
section
variable {α:Type} [DecidableEq α] {f:α->FV}{g:α->D}
theorem Cod.any (h:Cod f g)(x:α)(xs:List α):((xs.map g).any λy=>D.eqv y (g x))=decide (x∈xs):=by
 rw[List.any_map,Bool.eq_iff_iff]
 simp only[List.any_eq_true,Function.comp,h.e,decide_eq_true_eq]
 exact⟨λ⟨y,h1,h2⟩=>h2 ▸ h1,λh1=>⟨x,h1,rfl⟩⟩
theorem Cod.inL (h:Cod f g)(x:α)(xs:List α) [i:Decidable (x∈xs)] (R:Bool->Prop):wp (inF (f x) (.lst (xs.map f))) R↔R (decide (x∈xs)):=by
 have e:inF (f x) (.lst (xs.map f))=some (decide (x∈xs)):=by
  show ((fD (37+3) (f x)).bind λx=>((a7h (fD (36+3)) (xs.map f)).map D.lst).bind λy=>inD x y)=_
  rw[h.d,a4k (h.d 36)]
  exact congrArg some ((h.any x xs).trans (decide_eq_decide.mpr Iff.rfl))
 rw[e];exact Iff.rfl
theorem Cod.inT (h:Cod f g)(x:α)(xs:List α) [i:Decidable (x∈xs)] (R:Bool->Prop):wp (inF (f x) (.tup (xs.map f))) R↔R (decide (x∈xs)):=by
 have e:inF (f x) (.tup (xs.map f))=some (decide (x∈xs)):=by
  show ((fD (37+3) (f x)).bind λx=>((a7h (fD (36+3)) (xs.map f)).map D.tup).bind λy=>inD x y)=_
  rw[h.d,a4k (h.d 36)]
  exact congrArg some ((h.any x xs).trans (decide_eq_decide.mpr Iff.rfl))
 rw[e];exact Iff.rfl
theorem c8i {a b:FV}{x:D}(h:fD a1m a=some x):eqF a b=eqD a b:=by
 cases a with
 | shn y=>cases h
 | _=>rfl
theorem Cod.eq (h:Cod f g)(x y:α) [i:Decidable (x=y)] (R:Bool->Prop):wp (eqF (f x) (f y)) R↔R (decide (x=y)):=by
 have e:eqF (f x) (f y)=some (decide (x=y)):=by
  rw[c8i (h.d 37 x)]
  show ((fD (37+3) (f x)).bind λx=>(fD (37+3) (f y)).bind λy=>some (D.eqv x y))=_
  rw[h.d,h.d]
  exact congrArg some ((h.e x y).trans (decide_eq_decide.mpr Iff.rfl))
 rw[e];exact Iff.rfl
end
def a4d (e:Ent):FV:=.tup [a0x e.1,.int e.2]
def Rng (n:Nat)(fr:List Ent):Prop:=∀ e∈fr,e.2<n/\∀ a,e.1=some a->a<n
def inR (n:Nat)(x:Option Nat):Prop:=∀ a,x=some a->a<n
theorem b2j {n:Nat}{fs:List (Option Nat)}(nd:fs.Nodup)(h:∀ x∈fs,inR n x):fs.length<=n+1:=by
 have:=nd.length_le_of_subset (l₂:=none :: (List.range n).map some) λx hx=>by
  cases x with
  | none=>simp
  | some a=>simp[h _ hx a rfl]
 simpa using this
theorem b3a {n:Nat}{fr:List Ent}(hb:Rng n fr){m:Nat}(hm:m<n){x:Option Nat}(h:Anc fr m x):inR n x:=by
 cases h with
 | refl=>intro a e;cases e;exact hm
 | step _ h2=>exact (hb _ h2).2
structure Ldg (fr:List Ent) (m:Nat)(fs:List (Option Nat)) (at':Nat):Prop where
 nd:fs.Nodup
 me:some m∈fs
 anc:∀ x∈fs,Anc fr m x
 le:at'<=fs.length
 cl:∀ t,some t∈fs.take at'->∀ on,(on,t)∈fr->on∈fs
theorem Ldg.done {fr:List Ent}{m:Nat}{fs:List (Option Nat)}(h:Ldg fr m fs fs.length):Found fr m fs:=by
 refine⟨h.nd,λx=>⟨h.anc x,λhx=>?_⟩⟩
 induction hx with
 | refl=>exact h.me
 | step _ h2 ih=>exact h.cl _ (by rw[List.take_length];exact ih) _ h2
def c5k (fr:List Ent)(fs:List (Option Nat))(x:Option Nat):List (Option Nat):=(fr.filter λe=>decide (some e.2=x) && !decide (e.1∈fs)).map (·.1)
theorem Ldg.step {fr:List Ent}(nd:fr.Nodup){m:Nat}{fs:List (Option Nat)}{k:Nat}(h:Ldg fr m fs k){x:Option Nat}(hx:fs[k]?=some x):Ldg fr m (fs++c5k fr fs x) (k+1):=by
 obtain⟨hk,ex⟩:=List.getElem?_eq_some_iff.mp hx
 have mem:∀ on,on∈c5k fr fs x↔(∃ t,x=some t/\(on,t)∈fr)/\on ∉ fs:=by
  intro on
  unfold c5k
  simp only[List.mem_map,List.mem_filter,Bool.and_eq_true,decide_eq_true_eq,Bool.not_eq_true',decide_eq_false_iff_not]
  constructor
  ·rintro⟨⟨o,t⟩,⟨h1,h2,h3⟩,rfl⟩;exact⟨⟨t,h2.symm,h1⟩,h3⟩
  ·rintro⟨⟨t,h1,h2⟩,h3⟩;exact⟨(on,t),⟨h2,h1.symm,h3⟩,rfl⟩
 refine⟨?_,by simp[h.me],λy hy=>?_,by simp;lia,λt ht on ho=>?_⟩
 ·refine List.nodup_append.mpr ⟨h.nd,?_,λa ha b hb e=>((mem b).mp hb).2 (e ▸ ha)⟩
  unfold c5k
  rw[List.Nodup,List.pairwise_map]
  refine (nd.filter _).imp_of_mem λ{a b} ha hb hne e=>hne ?_
  have h1:=(List.mem_filter.mp ha).2
  have h2:=(List.mem_filter.mp hb).2
  simp only[Bool.and_eq_true,decide_eq_true_eq] at h1 h2
  have:=h1.1.trans h2.1.symm
  exact Prod.ext e (by simpa using this)
 ·rcases List.mem_append.mp hy with hy|hy
  ·exact h.anc y hy
  ·obtain⟨⟨t,e,h2⟩,_⟩:=(mem y).mp hy
   exact .step (h.anc _ (by rw[<- e,<- ex];exact List.getElem_mem hk)) h2
 ·rw[List.take_append_of_le_length (by lia),<- List.take_append_getElem hk] at ht
  by_cases hf:on∈fs
  ·exact List.mem_append_left _ hf
  ·rcases List.mem_append.mp ht with ht|ht
   ·exact List.mem_append_left _ (h.cl t ht on ho)
   ·rw[ex] at ht
    simp at ht
    exact List.mem_append_right _ ((mem on).mpr ⟨⟨t,ht.symm,ho⟩,hf⟩)
def dLo:Option Nat->D|none=>.non|some a=>.int a
theorem codL:Cod a0x dLo:=⟨λk x=>by cases x<;>rfl,λx y=>by
 cases x<;>cases y<;>simp[dLo,D.eqv]
 rw[Bool.eq_iff_iff];simp;lia⟩
theorem c7o (d n:Nat){fr:List Ent}(nd:fr.Nodup)(hl:fr.length<=1000)(hb:Rng n fr)(hn:n<=60){m:Nat}(hm:m<n){Q:FV×FV->Prop}(q:∀ fs,Found fr m fs->Q (.lst (fs.map a0x),.non)):callW tb (d+1) 3 [.lst (fr.map a4d),.int m] Q:=by
 refine a0k (fd:=fd3) rfl rfl ?_
 simp[fd3,bd3]
 refine⟨by decide,?_⟩
 refine a7r (I:=λk L=>∃ fs at',k=n+1-at'/\Ldg fr m fs at'/\L=[some (.lst (fr.map a4d)),some (.int m),some (.lst (fs.map a0x)),some (.int (at':Nat))]) (λk L K h hK=>?_) (m:=n+1) ⟨[some m],0,rfl,⟨by simp,by simp,by simp;exact .refl,by simp,by simp⟩,rfl⟩
 obtain⟨fs,at',rfl,h,rfl⟩:=h
 have hle:=b2j h.nd λx hx=>b3a hb hm (h.anc x hx)
 simp
 refine a4y (λhk=>?_) λhk=>?_
 ·obtain⟨x,hx⟩:∃ x,fs[at']?=some x:=⟨_,List.getElem?_eq_getElem hk⟩
  have h2:=h.step nd hx
  have hle2:=b2j h2.nd λx hx=>b3a hb hm (h2.anc x hx)
  refine⟨by simp only[big];lia,?_⟩
  refine a0r (f:=a4d) (g:=λe=>a0x e.1) (p:=λe=>decide (some e.2=x) && !decide (e.1∈fs)) fr [] (λe he K N k1 k2=>?_) ?_
  ·simp[a4d]
   rw[a4q rfl (v:=a0x x) (by rw[List.getElem?_map,hx];rfl),show FV.int (e.2:Int)=a0x (some e.2) from rfl,codL.eq]
   refine a4y (λg1=>?_) λg1=>?_
   ·rw[codL.inL]
    refine a4y (λg2=>?_) λg2=>?_
    ·exact k2 (by simp[of_decide_eq_true g2])
    ·exact k1 (by rw[g1];simp[of_decide_eq_false (Bool.eq_false_iff.mpr g2)])
   ·exact k2 (by have g1:=Bool.eq_false_iff.mpr g1;rw[g1];rfl)
  ·simp
   have el:(c5k fr fs x).length=(List.filter (λe=>decide (some e.snd=x) && !decide (e.fst∈fs)) fr).length:=by simp[c5k]
   refine⟨by rw[<- el];simp only[List.length_append] at hle2;simp only[big];lia,?_⟩
   refine hK _ _ ?_ ⟨fs++c5k fr fs x,at'+1,rfl,h2,by simp[c5k,Function.comp_def]⟩
   lia
 ·have:at'=fs.length:=by have:=h.le;lia
  subst this
  exact q fs h.done
structure Few (fr:List Ent) (j:Nat)(fs:List (Option Nat))(F:Nat->List (Option Nat)):Prop where
 f:∀ k,k<j->Found fr k (F k)
 c:(fs=[]/\∀ k,k<j->none∈F k) ∨ ∃ m,m<j/\fs=F m/\none ∉ F m/\∀ k,k<j->none ∉ F k->(F m).length<=(F k).length
theorem Found.ne {fr:List Ent}{m:Nat}{fs:List (Option Nat)}(h:Found fr m fs):fs≠[]:=λz=>by
 have:=(h.2 (some m)).mpr .refl
 rw[z] at this;cases this
theorem Few.step {fr:List Ent}{j:Nat}{fs gs:List (Option Nat)}{F:Nat->List (Option Nat)}(h:Few fr j fs F)(hg:Found fr j gs):Few fr (j+1) (if none ∉ gs/\(fs=[] ∨ gs.length<fs.length) then gs else fs) λk=>if k=j then gs else F k:=by
 refine⟨λk hk=>?_,?_⟩
 ·by_cases e:k=j
  ·subst e;simp only[if_pos];exact hg
  ·rw[if_neg e];exact h.f k (by lia)
 ·have gj:∀ k,k<j->(if k=j then gs else F k)=F k:=λk hk=>if_neg (by lia)
  by_cases h0:none ∉ gs
  ·rcases h.c with⟨e,hz⟩|⟨m,hm,e,hn,hl⟩
   ·rw[if_pos ⟨h0,.inl e⟩]
    refine .inr ⟨j,by lia,by simp,by simpa using h0,λk hk hkn=>?_⟩
    by_cases ek:k=j
    ·subst ek;exact Γi _
    ·exact absurd (hz k (by lia)) (by rw[gj k (by lia)] at hkn;exact hkn)
   ·have hne:fs≠[]:=e ▸ (h.f m hm).ne
    by_cases hlt:gs.length<fs.length
    ·rw[if_pos ⟨h0,.inr hlt⟩]
     refine .inr ⟨j,by lia,by simp,by simpa using h0,λk hk hkn=>?_⟩
     by_cases ek:k=j
     ·subst ek;exact Γi _
     ·rw[gj k (by lia)] at hkn ⊢
      have:=hl k (by lia) hkn
      rw[if_pos rfl]
      rw[e] at hlt;lia
    ·rw[if_neg (by rintro⟨_,z|z⟩;exact hne z;exact hlt z)]
     refine .inr ⟨m,by lia,by rw[gj m hm];exact e,by rw[gj m hm];exact hn,λk hk hkn=>?_⟩
     rw[gj m hm]
     by_cases ek:k=j
     ·rw[if_pos ek,<- e];lia
     ·rw[gj k (by lia)] at hkn ⊢
      exact hl k (by lia) hkn
  ·rw[if_neg λz=>h0 z.1]
   have hin:none∈gs:=Classical.byContradiction h0
   rcases h.c with⟨e,hz⟩|⟨m,hm,e,hn,hl⟩
   ·refine .inl ⟨e,λk hk=>?_⟩
    by_cases ek:k=j
    ·rw[if_pos ek];exact hin
    ·rw[if_neg ek];exact hz k (by lia)
   ·refine .inr ⟨m,by lia,by rw[gj m hm];exact e,by rw[gj m hm];exact hn,λk hk hkn=>?_⟩
    rw[gj m hm]
    by_cases ek:k=j
    ·rw[if_pos ek] at hkn;exact absurd hin hkn
    ·rw[gj k (by lia)] at hkn ⊢
     exact hl k (by lia) hkn
theorem b3o:∀ {fs:List (Option Nat)},none ∉ fs->∃ S:List Nat,fs=S.map some
 | [],_=>⟨[],rfl⟩
 | none :: r,h=>absurd (by simp) h
 | some a :: r,h=>let ⟨S,e⟩:=b3o (fs:=r) λz=>h (by simp[z]);⟨a :: S,by rw[e];rfl⟩
theorem c3i (S:List Nat):a0w (S.map λi:Nat=>FV.int i)=some (S.map λi:Nat=>(i:Int))
:=by
 induction S with
 | nil=>rfl
 | cons a r ih=>show (a0w (r.map λi:Nat=>FV.int i)).map ((a:Int) :: ·)=_;rw[ih];rfl
theorem c1s {S:List Nat}{ms:List Int}(nd:S.Nodup)(hp:ms.Perm (S.map λi:Nat=>(i:Int)))(hs:ms.Pairwise (·<=·)):∃ T:List Nat,ms=T.map (λi:Nat=>(i:Int))/\T.Pairwise (· < ·)/\∀ a,a∈T↔a∈S:=by
 refine⟨ms.map Int.toNat,?_,?_,λa=>?_⟩
 ·rw[List.map_map]
  conv=>lhs;rw[<- List.map_id ms]
  refine List.map_congr_left λx hx=>?_
  obtain⟨i,_,e⟩:=List.mem_map.mp (hp.mem_iff.mp hx)
  simp only[id,Function.comp];lia
 ·rw[List.pairwise_map]
  have n2:ms.Nodup:=hp.nodup_iff.mpr (by rw[List.Nodup,List.pairwise_map];exact nd.imp λh e=>h (by lia))
  refine (hs.and n2).imp_of_mem λ{a b} ha hb h=>?_
  obtain⟨i,_,e⟩:=List.mem_map.mp (hp.mem_iff.mp ha)
  obtain⟨j,_,e2⟩:=List.mem_map.mp (hp.mem_iff.mp hb)
  have h1:=h.1
  have h2:a≠b:=h.2
  lia
 ·rw[List.mem_map]
  constructor
  ·rintro⟨x,hx,rfl⟩
   obtain⟨i,hi,e⟩:=List.mem_map.mp (hp.mem_iff.mp hx)
   rw[<- e];simpa using hi
  ·intro h
   exact⟨(a:Int),hp.mem_iff.mpr (List.mem_map.mpr ⟨a,h,rfl⟩),by simp⟩
theorem c7e (d n:Nat){fr:List Ent}(nd:fr.Nodup)(hl:fr.length<=1000)(hb:Rng n fr)(hn:n<=60){Q:FV×FV->Prop}(q0:(∀ m,m<n->Anc fr m none)->Q (.tup [],.non))(q1:∀ S,Src n fr S->Q (.tup (S.map λi:Nat=>.int i),.non)):callW tb (d+2) 2 [.int n,.lst (fr.map a4d)] Q:=by
 refine a0k (fd:=fd2) rfl rfl ?_
 simp[fd2,bd2]
 refine⟨a1e (by lia) (by lia),?_⟩
 refine a2x (I:=λj L=>∃ fs F x y,Few fr j fs F/\L=[some (FV.int n),some (FV.lst (fr.map a4d)),some (.lst (fs.map a0x)),x,y]) n 0 _ ⟨[],λ_=>[],none,none,⟨λk hk=>by lia,.inl ⟨rfl,λk hk=>by lia⟩⟩,rfl⟩ (λj L K _ hj hI hK=>?_) λL hI=>?_
 ·obtain⟨fs,F,x,y,hF,rfl⟩:=hI
  simp
  refine c7o d n nd hl hb hn (by lia) λgs hg=>?_
  simp
  rw[show FV.non=a0x none from rfl,codL.inL]
  have hs:=hF.step hg
  have A:K [some (FV.int n),some (FV.lst (fr.map a4d)),some (.lst ((if none ∉ gs/\(fs=[] ∨ gs.length<fs.length) then gs else fs).map a0x)),some (FV.int j),some (.lst (gs.map a0x))]:=hK _ ⟨_,_,_,_,hs,rfl⟩
  refine a4y (λg=>?_) λg=>?_
  ·rw[if_neg λz=>z.1 (of_decide_eq_true g)] at A;exact A
  ·have g:none ∉ gs:=of_decide_eq_false (Bool.eq_false_iff.mpr g)
   refine a4y (λg2=>?_) λg2=>?_
   ·rw[if_pos ⟨g,.inl g2⟩] at A;exact A
   ·refine a4y (λg3=>?_) λg3=>?_
    ·rw[if_pos ⟨g,.inr g3⟩] at A;exact A
    ·rw[if_neg (by rintro⟨_,z|z⟩;exact g2 z;exact g3 z)] at A;exact A
 ·obtain⟨fs,F,x,y,hF,rfl⟩:=hI
  simp only[Nat.zero_add] at hF
  have hS:∃ S:List Nat,fs=S.map some:=by
   rcases hF.c with⟨e,_⟩|⟨m,_,e,h0,_⟩
   ·exact⟨[],e⟩
   ·exact b3o (e ▸ h0)
  obtain⟨S,rfl⟩:=hS
  have ndS:S.Nodup:=by
   rcases hF.c with⟨e,_⟩|⟨m,hm,e,h0,_⟩
   ·rw[List.map_eq_nil_iff.mp e];exact List.nodup_nil
   ·have:=(hF.f m hm).1
    rw[<- e,List.Nodup,List.pairwise_map] at this
    exact this.imp λh z=>h (congrArg some z)
  have hlen:S.length<=n+1:=by
   have:=b2j (n:=n) (fs:=S.map some) (by rw[List.Nodup,List.pairwise_map];exact ndS.imp λh z=>h (Option.some.inj z)) λx hx=>by
    rcases hF.c with⟨e,_⟩|⟨m,hm,e,h0,_⟩
    ·rw[e] at hx;cases hx
    ·exact b3a hb hm (((hF.f m hm).2 x).mp (e ▸ hx))
   simpa using this
  simp
  rw[show List.map (a0x ∘ some) S=S.map λi:Nat=>FV.int i from rfl,c3i,a1z]
  refine⟨by simp;lia,λms hp hs=>?_⟩
  obtain⟨T,rfl,hup,hmem⟩:=c1s ndS hp hs
  rw[List.map_map]
  rcases hF.c with⟨e,hz⟩|⟨m,hm,e,h0,hmin⟩
  ·have hT:T=[]:=by
    cases T with
    | nil=>rfl
    | cons a r =>
     have:=(hmem a).mp (by simp)
     rw[List.map_eq_nil_iff.mp e] at this;cases this
   rw[hT]
   exact q0 λk hk=>((hF.f k hk).2 none).mp (hz k hk)
  ·exact q1 T (c9z hF.f (λa t h=>(hb _ h).2 a rfl) hm h0 hmin hup λa=>by rw[hmem a,<- e];simp)
def kE (e:Ent):List (Option Int):=[e.1.map λa:Nat=>(a:Int),some (e.2:Int)]
theorem b3w {a b:Ent}(h:kE a=kE b):a=b:=by
 obtain⟨a1,a2⟩:=a
 obtain⟨b1,b2⟩:=b
 simp only[kE,List.cons.injEq,Option.some.injEq,and_true] at h
 obtain⟨h1,h2⟩:=h
 have:a2=b2:=by lia
 subst this
 cases a1<;>cases b1<;>simp at h1<;>first|rfl|(have:=h1;congr 2;lia)
def dn (z:Option PySem.Obj)(E:List Ent)(f:Ent->Int):FV:=.dcn z (E.map kE) (E.map λe=>.int (f e))
theorem a8h (e:Ent)(Q:List (Option Int)->Prop):wp (a2m [a0x e.1,.int e.2]) Q↔Q (kE e):=by
 obtain⟨a,b⟩:=e
 cases a<;>simp[a0x,kE]
theorem c7s (e:Ent):d2j (kE e)=a4d e:=by
 obtain⟨a,b⟩:=e
 cases a<;>rfl
theorem b4b {f:Ent->Int}{e:Ent}:∀ {E:List Ent},e∈E->a2w (E.map kE) (E.map λe=>FV.int (f e)) (kE e)=some (.int (f e))
 | x :: r,h=>by
  show (if kE x=kE e then some (FV.int (f x)) else a2w (r.map kE) (r.map λe=>FV.int (f e)) (kE e))=_
  by_cases z:x=e
  ·subst z;rw[if_pos rfl]
  ·rw[if_neg λh=>z (b3w h)]
   exact b4b ((List.mem_cons.mp h).resolve_left λy=>z y.symm)
open Classical in
theorem d0t {f:Ent->Int}{e:Ent}{v:Int}{E:List Ent}(h:e∈E):a1q (E.map kE) (E.map λe=>FV.int (f e)) (kE e) (.int v)=(E.map kE,E.map λx=>FV.int (if x=e then v else f x)):=by
 unfold a1q
 rw[if_pos (List.mem_map_of_mem h)]
 congr 1
 clear h
 induction E with
 | nil=>rfl
 | cons x r ih =>
  simp only[List.map_cons,List.zipWith_cons_cons,ih]
  by_cases z:x=e
  ·subst z;simp
  ·rw[if_neg λh=>z (b3w h),if_neg z]
theorem c6f {f:Ent->Int}{e:Ent}{E:List Ent}(h:e ∉ E):a1q (E.map kE) (E.map λe=>FV.int (f e)) (kE e) (.int (f e))=((E++[e]).map kE,(E++[e]).map λx=>FV.int (f x)):=by
 unfold a1q
 rw[if_neg λz=>by obtain⟨y,h1,h2⟩:=List.mem_map.mp z;exact h (b3w h2 ▸ h1)]
 simp
def a3y (n:Nat)(cs:List Chg):List Ent:=(List.range n).map (λm=>(none,m))++cs.map λc=>(some c.1,c.2.1)
theorem c3t (d:Nat){ws:List Int}{cs:List Chg}{sz:Ent->Int}(hn:ws.length<=60)(hc:cs.length<=500)(nd:(a3y ws.length cs).Nodup)(h1:∀ m (h:m<ws.length),sz (none,m)=ws[m])(h2:∀ c∈cs,sz (some c.1,c.2.1)=c.2.2){Q:FV×FV->Prop}(q:Q (dn none (a3y ws.length cs) sz,.non)):callW tb (d+1) 1 [a2u ws cs] Q:=by
 refine a0k (fd:=fd1) rfl rfl ?_
 simp[fd1,bd1,a2u]
 have ep:a2l (upF 0 ws.length) (ws.map .int)=(List.range ws.length).map λm:Nat=>FV.tup [.int (m:Int),.int (sz (none,m))]:=by
  rw[a2k]
  apply List.ext_getElem
  ·simp[a2l]
  ·intro i g1 g2
   simp[a2l] at g2 ⊢
   exact (h1 i g2).symm
 rw[ep]
 refine⟨by simp[big];lia,?_⟩
 have n1:((List.range ws.length).map λm=>((none,m):Ent)).Nodup:=(List.nodup_append.mp nd).1
 refine b1f (f:=λm:Nat=>FV.tup [.int (m:Int),.int (sz (none,m))]) (g:=λm=>kE (none,m)) (h:=λm=>FV.int (sz (none,m))) (List.range ws.length) [] [] (by simp) ?_ (λm hm K k=>?_) ?_
 ·rw[List.Nodup,List.pairwise_map] at n1 ⊢
  exact n1.imp λh z=>h (b3w z)
 ·simp
  exact⟨by decide,k⟩
 ·simp
  refine a1p (f:=a2z) (I:=λdone L=>∃ x y z,L=[some (FV.tup [FV.tup (ws.map .int),FV.tup (cs.map a2z)]),some (dn none (a3y ws.length done) sz),x,y,z]) cs cs [] _ rfl ⟨none,none,none,by simp[a3y,dn,Function.comp_def]⟩ (λdd c r L K e hI hK=>?_) λL hI=>?_
  ·obtain⟨x,y,z,rfl⟩:=hI
   have hin:c∈cs:=by rw[e];simp
   have hne:((some c.1,c.2.1):Ent) ∉ a3y ws.length dd:=by
    rw[e,a3y,List.map_append,List.map_cons,<- List.append_assoc] at nd
    exact λz=>(List.nodup_append.mp nd).2.2 _ z _ (by simp) rfl
   have hl:(a3y ws.length dd).length<big:=by
    have:dd.length<=cs.length:=by rw[e];simp
    simp[a3y,big];lia
   have hp:=c6f (f:=sz) hne
   rw[h2 c hin] at hp
   simp[a2z,dn]
   refine⟨by decide,by simpa using hl,?_⟩
   rw[show [some ((c.1:Nat):Int),some ((c.2.1:Nat):Int)]=kE (some c.1,c.2.1) from rfl,hp]
   exact hK _ ⟨some (FV.int c.1),some (FV.int c.2.1),some (FV.int c.2.2),by simp[a3y,dn]⟩
  ·obtain⟨x,y,z,rfl⟩:=hI
   simp
   exact q
def d2e (us:List Ent):FV:=.dci (us.map λe=>(e.2:Int)) (us.map λe=>a0x e.1)
theorem b4a {e:Ent}:∀ {us:List Ent},(us.map (·.2)).Nodup->e∈us->a2w (us.map λe=>(e.2:Int)) (us.map λe=>a0x e.1) (e.2:Int)=some (a0x e.1)
 | x :: r,nd,h=>by
  show (if (x.2:Int)=e.2 then some (a0x x.1) else a2w (r.map λe=>(e.2:Int)) (r.map λe=>a0x e.1) (e.2:Int))=_
  simp only[List.map_cons,List.nodup_cons] at nd
  rcases List.mem_cons.mp h with rfl|h
  ·rw[if_pos rfl]
  ·rw[if_neg λz=>nd.1 (List.mem_map.mpr ⟨e,h,by lia⟩)]
   exact b4a nd.2 h
theorem a6c {n:Nat}{D:List Nat}(nd:D.Nodup)(h:∀ x∈D,x<n):D.length<=n:=by
 have:=nd.length_le_of_subset (l₂:=List.range n) λx hx=>List.mem_range.mpr (h x hx)
 simpa using this
theorem c4f {n:Nat}{D:List Nat}(nd:D.Nodup)(h:∀ x∈D,x<n)(hl:n<=D.length){m:Nat}(hm:m<n):m∈D:=by
 refine Classical.byContradiction λz=>?_
 have:=a6c (n:=n) (D:=m :: D) (List.nodup_cons.mpr ⟨z,nd⟩) λx hx=>(List.mem_cons.mp hx).elim (λe=>e ▸ hm) (h x)
 simp at this;lia
theorem c7q (d n:Nat){E:List Ent}{sz:Ent->Int}{fr:List Ent}{ps:List Prc}(H:Lrm n E sz fr ps)(hl:fr.length<=1000)(hb:Rng n fr)(hn:n<=60)(ha:∀ m,m<n->Anc fr m none){Q:FV×FV->Prop}(q:∀ us,Cnt fr ps us->(∀ m,m<n->m∈us.map (·.2))->(∀ ls:List (Option Nat),ls.length=n->(∀ m,m<n->∃ e∈us,e.2=m/\ls[m]?=some e.1)->Q (.tup (ls.map a0x),.non))):callW tb (d+1) 4 [.int n,.lst (fr.map a4d)] Q:=by
 refine a0k (fd:=fd4) rfl rfl ?_
 simp[fd4,bd4]
 refine a7r (I:=λk L=>∃ us x y,k=n-us.length/\Cnt fr ps us/\L=[some (.int n),some (.lst (fr.map a4d)),some (d2e us),x,y]) (λk L K h hK=>?_) (m:=n) ⟨[],none,none,rfl,⟨⟨by simp,by simp,by simp⟩,λq hq=>by simp[a7s]⟩,rfl⟩
 obtain⟨us,x,y,rfl,h,rfl⟩:=h
 have lt:∀ x∈us.map (·.2),x<n:=λx hx=>by
  obtain⟨e,he,rfl⟩:=List.mem_map.mp hx
  exact (hb e (h.sub e he)).1
 have hle:=a6c h.nd lt
 simp[d2e]
 refine a4y (λhk=>?_) λhk=>?_
 ·obtain⟨m,hm,hmD⟩:∃ m,m<n/\m ∉ us.map (·.2):=by
   refine Classical.byContradiction λz=>?_
   have:∀ m∈List.range n,m∈us.map (·.2):=λm hm=>Classical.byContradiction λw=>z ⟨m,List.mem_range.mp hm,w⟩
   have:=List.nodup_range.length_le_of_subset this
   simp at this;lia
  obtain⟨e,he⟩:=c3b hmD (ha m hm)
  have hstep:=h.step H he
  have m1:e.2 ∉ us.map (·.2):=by
   have:=List.find?_some he
   simp only[may,Bool.and_eq_true,Bool.not_eq_true',decide_eq_false_iff_not] at this
   exact this.1
  have memI:∀ a:Nat,(a:Int)∈us.map (λe=>(e.2:Int))↔a∈us.map (·.2):=λa=>by
   simp only[List.mem_map]
   exact⟨λ⟨e,h1,h2⟩=>⟨e,h1,by lia⟩,λ⟨e,h1,h2⟩=>⟨e,h1,by lia⟩⟩
  refine⟨by simp only[big];lia,?_⟩
  refine a0r (f:=a4d) (g:=a4d) (p:=may (us.map (·.2))) fr [] (λc hc K N k1 k2=>?_) ?_
  ·obtain⟨on,t⟩:=c
   cases on with
   | none =>
    show gW _ (FV.tup [.non,.int (t:Int)]) _ _
    simp
    refine a4y (λg=>k1 ?_) λg=>k2 ?_
    ·simp only[Bool.not_eq_true',decide_eq_false_iff_not,memI] at g
     simp only[may,g];simp
    ·simp only[Bool.not_eq_true',decide_eq_false_iff_not,memI,Classical.not_not] at g
     simp only[may,g];simp
   | some a =>
    show gW _ (FV.tup [.int (a:Int),.int (t:Int)]) _ _
    simp
    refine a4y (λg=>a4y (λg'=>k1 ?_) λg'=>k2 ?_) λg=>k2 ?_
    ·simp only[Bool.not_eq_true',decide_eq_false_iff_not,memI] at g
     simp only[decide_eq_true_eq,memI] at g'
     simp only[may,g,g'];simp
    ·simp only[decide_eq_true_eq,memI] at g'
     simp only[may,g'];simp
    ·simp only[Bool.not_eq_true',decide_eq_false_iff_not,memI,Classical.not_not] at g
     simp only[may,g];simp
  ·obtain⟨r,er⟩:∃ r,fr.filter (may (us.map (·.2)))=e :: r:=by
    have:=List.head?_filter (p:=may (us.map (·.2))) (l:=fr)
    rw[he] at this
    cases z:fr.filter (may (us.map (·.2))) with
    | nil=>rw[z] at this;cases this
    | cons x r=>rw[z] at this;cases this;exact⟨r,rfl⟩
   rw[er]
   simp[a4d]
   have hp:a1q (us.map λe=>(e.2:Int)) (us.map λe=>a0x e.1) (e.2:Int) (a0x e.1)=((us++[e]).map (λe=>(e.2:Int)),(us++[e]).map λe=>a0x e.1):=by
    unfold a1q
    rw[if_neg λz=>m1 ((memI e.2).mp z)]
    simp
   rw[hp]
   refine⟨by simp only[big];lia,hK _ _ ?_ ⟨us++[e],some (a0x e.1),some (.int e.2),rfl,hstep,rfl⟩⟩
   simp;lia
 ·have hall:∀ m,m<n->m∈us.map (·.2):=λm hm=>c4f h.nd lt (by simp;lia) hm
  refine⟨a1e (by lia) (by lia),by simp[a2k,big];lia,?_⟩
  rw[a2k]
  have at':∀ m,m<n->∃ e∈us,e.2=m/\(us.find? λe=>decide (e.2=m))=some e:=λm hm=>by
   obtain⟨e,he,em⟩:=List.mem_map.mp (hall m hm)
   cases z:us.find? λe=>decide (e.2=m) with
   | none=>exact absurd (decide_eq_true em) (List.find?_eq_none.mp z e he)
   | some e'=>exact⟨e',List.mem_of_find?_eq_some z,by simpa using List.find?_some z,rfl⟩
  refine a0o (f:=λm:Nat=>FV.int (m:Int)) (g:=λm=>a0x (((us.find? λe=>decide (e.2=m)).map (·.1)).getD none)) (List.range n) [] (λm hm K k=>?_) ?_
  ·obtain⟨e,he,em,ef⟩:=at' m (List.mem_range.mp hm)
   rw[ef] at k
   simp
   rw[<- em,b4a h.nd he,a1z]
   exact k
  ·have:=q us h hall ((List.range n).map λm=>((us.find? λe=>decide (e.2=m)).map (·.1)).getD none) (by simp) λm hm=>by
    obtain⟨e,he,em,ef⟩:=at' m hm
    exact⟨e,he,em,by simp[hm,ef]⟩
   simpa[Function.comp_def] using this
theorem codI:Cod FV.int D.int:=⟨λk x=>rfl,λx y=>by rw[Bool.eq_iff_iff];simp[D.eqv]⟩
def a4t (q:Prc):FV:=.tup [.tup (q.S.map λi:Nat=>.int i),.int q.p]
theorem b8w {S:List Nat}{x:Option Nat}{R:Bool->Prop}:wp (inF (a0x x) (.tup (S.map λi:Nat=>FV.int i))) R↔R (decide (x∈S.map some)):=by
 have:=codL.inT x (S.map some) R
 rw[List.map_map] at this
 exact this
theorem a8y (S:List Nat)(e:Ent):ent S e=(decide (some e.2∈S.map some) && !decide (e.1∈S.map some)):=by
 obtain⟨on,t⟩:=e
 cases on<;>simp[ent]
def Nxt (n:Nat)(fr:List Ent)(S:List Nat):Prop:=(S=[]/\∀ m,m<n->Anc fr m none) ∨ Src n fr S
structure Est (n:Nat)(E:List Ent)(sz:Ent->Int):Prop where
 nd:E.Nodup
 rg:Rng n E
 who:∀ m,m<n->(none,m)∈E
 pos:∀ e∈E,0<sz e
 bd:∀ e∈E,sz e<=100000000000
 le:E.length<=560
theorem d3i {ps:List Prc}(h:∀ q∈ps,0<q.p)(e:Ent):0<=due ps e:=by
 rw[b4j]
 induction ps with
 | nil=>simp
 | cons q r ih =>
  have:=ih λx hx=>h x (by simp[hx])
  have:=h q (by simp)
  simp only[List.map_cons,List.sum_cons]
  split<;>lia
theorem c3x {z:Option PySem.Obj}{E:List Ent}{f g:Ent->Int}(h:∀ e∈E,f e=g e):dn z E f=dn z E g:=by
 unfold dn
 congr 1
 exact List.map_congr_left λe he=>by rw[h e he]
theorem b9q {e:Ent}{q:Prc}(he:ent q.S e=true):∀ {ps:List Prc},(∀ q∈ps,0<q.p)->q∈ps->q.p<=due ps e
 | r :: ps,h,hq=>by
  have e0:due (r :: ps) e=(if ent r.S e=true then r.p else 0)+due ps e:=by rw[b4j,b4j];rfl
  have h1:=d3i (λx hx=>h x (by simp[hx]):∀ x∈ps,0<x.p) e
  have h2:=h r (by simp)
  rw[e0]
  rcases List.mem_cons.mp hq with rfl|hq
  ·rw[if_pos he];lia
  ·have:=b9q he (λx hx=>h x (by simp[hx])) hq
   split<;>lia
theorem d1u (S:List Nat):noL (.tup (S.map λi:Nat=>.int i))=true:=by
 have:=a8k (f:=λi:Nat=>FV.int i) (λi=>by simp) S
 simp only[noL,this]
theorem d1t (S:List (Option Nat)):noL (.tup (S.map a0x))=true:=by
 have:=a8k (f:=a0x) (λi=>by cases i<;>simp[a0x,noL]) S
 simp only[noL,this]
theorem c4t (d n:Nat){fr:List Ent}(nd:fr.Nodup)(hl:fr.length<=1000)(hb:Rng n fr)(hn:n<=60){Q:FV×FV->Prop}(q:∀ S,Nxt n fr S->Q (.tup (S.map λi:Nat=>.int i),.non)):callW tb (d+2) 2 [.int n,.lst (fr.map a4d)] Q:=c7e d n nd hl hb hn (λh=>q [] (.inl ⟨rfl,h⟩)) λS h=>q S (.inr h)
theorem c5y (d:Nat){ws:List Int}{cs:List Chg}{sz:Ent->Int}(hn:ws.length<=60)(hc:cs.length<=500)(h1:∀ m (h:m<ws.length),sz (none,m)=ws[m])(h2:∀ c∈cs,sz (some c.1,c.2.1)=c.2.2)(G:Est ws.length (a3y ws.length cs) sz){Q:FV×FV->Prop}
  (q:∀ (fr:List Ent)(ps:List Prc)(us:List Ent)(ls:List (Option Nat)),Lrm ws.length (a3y ws.length cs) sz fr ps->Cnt fr ps us->(∀ m,m<ws.length->m∈us.map (·.2))->ls.length=ws.length->(∀ m,m<ws.length->∃ e∈us,e.2=m/\ls[m]?=some e.1)->ps.length<=(a3y ws.length cs).length->Q (.tup [.int (ps.map (·.p)).sum,.tup (ls.map a0x),.lst (ps.map a4t)],.non)):callW tb (d+3) 0 [a2u ws cs] Q:=by
 refine a0k (fd:=fd0) rfl rfl ?_
 simp[fd0,bd0]
 rw[show ∀ Q:List FV->Prop,wp (a4f (a2u ws cs)) Q↔Q [.tup (ws.map .int),.tup (cs.map a2z)] from λ_=>Iff.rfl]
 simp
 refine c3t (d+1) hn hc G.nd h1 h2 ?_
 generalize eE:a3y ws.length cs=E at G q
 generalize en:ws.length=n at hn G q
 have gle:=G.le
 simp
 refine c4t d n (fr:=[]) (by simp) (by simp) (λe he=>nomatch he) hn λS0 hS0=>?_
 simp
 refine⟨d1u S0,?_⟩
 refine a7r (I:=λk L=>∃ fr ps S x y z,k=E.length-fr.length/\Lrm n E sz fr ps/\Nxt n fr S/\ps.length<=fr.length/\L=[some (a2u ws cs),some (.int n),some (dn none E λe=>sz e-due ps e),some (.lst (fr.map a4d)),some (.lst (ps.map a4t)),some (.tup (S.map λi:Nat=>.int i)),x,y,z]) (λk L K h hK=>?_) (m:=E.length) ⟨[],[],S0,none,none,none,rfl,.start G.pos,hS0,by simp,by simp[due]⟩
 obtain⟨fr,ps,S,x,y,z,rfl,h,hS,hpf,rfl⟩:=h
 have hfl:fr.length<=E.length:=h.nd.length_le_of_subset h.sub
 simp
 refine a4y (λhz=>?_) λhz=>?_
 ·have ha:∀ m,m<n->Anc fr m none:=by
   rcases hS with⟨_,h⟩|h
   ·exact h
   ·exact absurd hz h.ne
  refine⟨by simp only[big];lia,?_⟩
  refine a0o (f:=a4t) (g:=λq=>.int q.p) ps [] (λq hq K k=>?_) ?_
  ·simp[a4t]
   exact k
  ·rw[List.nil_append,show (ps.map λq=>FV.int q.p)=(ps.map (·.p)).map .int by rw[List.map_map];rfl]
   refine a7u (by simp;lia) (λx hx=>?_) ?_
   ·obtain⟨q,hq,rfl⟩:=List.mem_map.mp hx
    obtain⟨e,g1,g2⟩:=h.hit q hq
    have:=b9q g2 h.pos hq
    have:=h.pos q hq
    have:=(h.free e (h.sub e g1)).mp g1
    have:=G.bd e (h.sub e g1)
    lia
   ·simp
    refine c7q (d+1) n h (by lia) (λe he=>G.rg e (h.sub e he)) hn ha λus c hall ls hls hat=>?_
    exact⟨d1t ls,by decide,q fr ps us ls h c hall hls hat (by lia)⟩
 ·have hS:Src n fr S:=hS.resolve_left λz=>hz z.1
  obtain⟨m0,hm0⟩:∃ m,m∈S:=List.exists_mem_of_ne_nil S hz
  rw[show (dn none E λe=>sz e-due ps e)=.dcn none (E.map kE) (E.map λe=>.int (sz e-due ps e)) from rfl]
  dsimp only
  intro o
  refine⟨by simp[big];lia,?_⟩
  rw[List.map_map,show (d2j ∘ kE)=a4d from funext c7s]
  refine a0r (f:=a4d) (g:=a4d) (p:=ent S) E [] (λe he K N k1 k2=>?_) ?_
  ·simp[a4d]
   rw[show FV.int (e.2:Int)=a0x (some e.2) from rfl,b8w]
   refine a4y (λg1=>?_) λg1=>?_
   ·rw[b8w]
    refine a4y (λg2=>k2 ?_) λg2=>⟨by decide,k1 ?_⟩
    ·rw[a8y,g1,g2];rfl
    ·rw[a8y,g1,Bool.eq_false_iff.mpr g2];rfl
   ·exact k2 (by rw[a8y,Bool.eq_false_iff.mpr g1];rfl)
  ·have hEs:∀ e,e∈E.filter (ent S)↔e∈E/\ent S e=true:=λe=>List.mem_filter
   have ndEs:(E.filter (ent S)).Nodup:=G.nd.filter _
   have lEs:(E.filter (ent S)).length<=E.length:=List.length_filter_le _ _
   have neEs:(none,m0)∈E.filter (ent S):=(hEs _).mpr ⟨G.who m0 (hS.lt m0 hm0),ent_iff.mpr ⟨hm0,λa e=>nomatch e⟩⟩
   have fEs:∀ p,(E.filter λe=>ent S e && decide (sz e-due ps e=p))=(E.filter (ent S)).filter λe=>decide (sz e-due ps e=p):=λp=>by
    rw[List.filter_filter]
    congr 1
    funext e
    exact Bool.and_comm _ _
   have hst:=λp h1 h2=>h.step (p:=p) hS G.nd h1 h2
   simp only[fEs] at hst
   simp
   generalize E.filter (ent S)=Es at hEs ndEs lEs neEs hst ⊢
   refine⟨by simp only[big];lia,?_⟩
   refine a0o (f:=a4d) (g:=λe=>.int (sz e-due ps e)) Es [] (λe he K k=>?_) ?_
   ·simp[a4d]
    rw[a8h,b4b ((hEs e).mp he).1,a1z]
    exact k
   ·obtain⟨e0,r0,e1⟩:∃ e0 r0,Es=e0 :: r0:=by
     cases Es with
     | nil=>cases neEs
     | cons a b=>exact⟨a,b,rfl⟩
    rw[List.nil_append,show (Es.map λe=>FV.int (sz e-due ps e))=(Es.map λe=>sz e-due ps e).map .int by rw[List.map_map];rfl,b2g (x:=sz e0-due ps e0) (r:=r0.map λe=>sz e-due ps e) (by rw[e1];rfl)]
    have hin:=a4l (r0.map λe=>sz e-due ps e) (sz e0-due ps e0)
    have hle:=a3p (r0.map λe=>sz e-due ps e) (sz e0-due ps e0)
    generalize a1o (sz e0-due ps e0) (r0.map λe=>sz e-due ps e)=p at hin hle ⊢
    have hle':∀ e∈Es,p<=sz e-due ps e:=λe he=>by
     rw[e1] at he
     rcases List.mem_cons.mp he with rfl|he
     ·exact hle.1
     ·exact hle.2 _ (List.mem_map.mpr ⟨e,he,rfl⟩)
    have hin':∃ e∈Es,sz e-due ps e=p:=by
     rcases List.mem_cons.mp hin with z|z
     ·exact⟨e0,by rw[e1];simp,z.symm⟩
     ·obtain⟨e,g1,g2⟩:=List.mem_map.mp z
      exact⟨e,by rw[e1];simp[g1],g2⟩
    obtain⟨hp,h'⟩:=hst p (λe he g=>hle' e ((hEs e).mpr ⟨he,g⟩)) (by
     obtain⟨e,g1,g2⟩:=hin'
     exact⟨e,((hEs e).mp g1).1,((hEs e).mp g1).2,g2⟩)
    simp
    refine⟨by decide,by simp only[big];lia,?_⟩
    have dl:(E.map kE).length<big:=by simp[big];lia
    refine a1p (f:=a4d) (I:=λdone L=>∃ z,L=[some (a2u ws cs),some (FV.int n),some (dn none E λe=>sz e-due ps e-if e∈done then p else 0),some (FV.lst (fr.map a4d)),some (FV.lst ((ps++[(⟨S,p,fr.length⟩:Prc)]).map a4t)),some (FV.tup (S.map λi:Nat=>FV.int i)),some (FV.lst (Es.map a4d)),some (FV.int p),z]) Es Es [] _ rfl ⟨z,by simp[dn,a4t]⟩ (λdd e r L K e2 hI hK=>?_) λL hI=>?_
    ·obtain⟨z,rfl⟩:=hI
     have heE:e∈E:=((hEs e).mp (by rw[e2];simp)).1
     have hed:e ∉ dd:=by
      rw[e2] at ndEs
      exact λz=>(List.nodup_append.mp ndEs).2.2 _ z _ (by simp) rfl
     simp[a4d,dn]
     rw[a8h,b4b heE,a1z]
     simp
     rw[a8h,d0t heE]
     refine⟨by simpa using dl,hK _ ⟨some (a4d e),?_⟩⟩
     simp[dn,a4d]
     intro a b _
     by_cases g:(a,b)=e
     ·subst g
      rw[if_pos rfl,if_neg hed,if_pos (.inr rfl)];lia
     ·rw[if_neg g]
      congr 1
      by_cases g2:(a,b)∈dd
      ·rw[if_pos g2,if_pos (.inl g2)]
      ·rw[if_neg g2,if_neg λz=>z.elim g2 g]
    ·obtain⟨z,rfl⟩:=hI
     have ed:(dn none E λe=>sz e-due ps e-if e∈Es then p else 0)=dn none E λe=>sz e-due (ps++[⟨S,p,fr.length⟩]) e:=c3x λe he=>by
      rw[a5r]
      by_cases g:ent S e=true
      ·rw[if_pos ((hEs e).mpr ⟨he,g⟩),if_pos g];lia
      ·rw[if_neg λz=>g ((hEs e).mp z).2,if_neg g];lia
     rw[ed]
     simp
     refine⟨by simp only[big];lia,?_⟩
     refine a0r (f:=a4d) (g:=a4d) (p:=λe=>decide (sz e-due ps e=p)) Es [] (λe he K N k1 k2=>?_) ?_
     ·simp[a4d,dn]
      rw[a8h,b4b ((hEs e).mp he).1,a1z,a5r,if_pos ((hEs e).mp he).2]
      rw[codI.eq]
      refine a4y (λg=>k1 ?_) λg=>k2 ?_
      ·have g:=of_decide_eq_true g
       exact decide_eq_true (by lia)
      ·have g:=of_decide_eq_false (Bool.eq_false_iff.mpr g)
       exact decide_eq_false (by lia)
     ·have hfp:1<=(Es.filter λe=>decide (sz e-due ps e=p)).length:=by
       obtain ⟨e,g1,g2⟩:=hin'
       exact List.length_pos_of_mem (List.mem_filter.mpr ⟨g1,decide_eq_true g2⟩)
      have hl2:=h'.nd.length_le_of_subset h'.sub
      simp
      simp only[List.length_append] at hl2
      refine⟨by simp only[big];lia,?_⟩
      rw[<- List.map_append]
      refine c4t d n h'.nd (by simp only[List.length_append];lia) (λe he=>G.rg e (h'.sub e he)) hn λS' hS'=>⟨d1u S',hK _ _ ?_ ⟨_,_,S',some (FV.lst (Es.map a4d)),some (FV.int p),z,rfl,h',hS',?_,by simp⟩⟩
      ·simp only[List.length_append];lia
      ·simp only[List.length_append,List.length_cons,List.length_nil];lia
def d5m:Option Nat->Int|none=>-1|some a=>a
theorem b8x {S:List Nat}{i:Int}{R:Bool->Prop}:wp (inF (.int i) (.tup (S.map λj:Nat=>FV.int j))) R↔R (decide (i∈S.map λj:Nat=>(j:Int))):=by
 have:=codI.inT i (S.map λj:Nat=>(j:Int)) R
 rw[List.map_map] at this
 exact this
theorem b9j (S:List Nat)(e:Ent):ent S e=(decide ((e.2:Int)∈S.map λj:Nat=>(j:Int)) && !decide (d5m e.1∈S.map λj:Nat=>(j:Int))):=by
 obtain⟨on,t⟩:=e
 have h:∀ a:Nat,((a:Int)∈S.map λj:Nat=>(j:Int))↔a∈S:=λa=>by
  rw[List.mem_map]
  exact⟨λ⟨x,h1,h2⟩=>by rwa [<- show x=a by lia],λh=>⟨a,h,rfl⟩⟩
 cases on with
 | none =>
  have:(-1:Int) ∉ S.map λj:Nat=>(j:Int):=λz=>by
   obtain⟨x,_,h2⟩:=List.mem_map.mp z
   lia
  simp[ent,d5m,h,this]
 | some a=>simp[ent,d5m,h]
structure Sto (ws:List Int)(cs:List Chg)(sz:Ent->Int):Prop where
 n:ws.length<=12
 l:cs.length<=144
 w:∀ m (h:m<ws.length),sz (none,m)=ws[m]
 c:∀ c∈cs,sz (some c.1,c.2.1)=c.2.2
 r:∀ c∈cs,c.1<ws.length/\c.2.1<ws.length/\c.1≠c.2.1
 k:(cs.map λc=>(c.1,c.2.1)).Nodup
 p:∀ e∈a3y ws.length cs,0<sz e/\sz e<=2000000000
theorem Sto.nd {ws:List Int}{cs:List Chg}{sz:Ent->Int}(h:Sto ws cs sz):(a3y ws.length cs).Nodup:=by
 have hk:=h.k
 unfold a3y
 refine List.nodup_append.mpr ⟨?_,?_,λa ha b hb e=>?_⟩
 ·rw[List.Nodup,List.pairwise_map]
  exact List.nodup_range.imp λh e=>h (congrArg Prod.snd e)
 ·rw[List.Nodup,List.pairwise_map] at hk ⊢
  exact hk.imp λh e=>h (by
   have h1:=congrArg Prod.fst e
   have h2:=congrArg Prod.snd e
   exact Prod.ext (Option.some.inj h1) h2)
 ·obtain⟨m,_,rfl⟩:=List.mem_map.mp ha
  obtain⟨c,_,rfl⟩:=List.mem_map.mp hb
  cases e
theorem Sto.est {ws:List Int}{cs:List Chg}{sz:Ent->Int}(h:Sto ws cs sz):Est ws.length (a3y ws.length cs) sz:=by
 refine⟨h.nd,λe he=>?_,λm hm=>?_,λe he=>(h.p e he).1,λe he=>by have:=(h.p e he).2;lia,?_⟩
 ·rcases List.mem_append.mp he with he|he
  ·obtain⟨m,hm,rfl⟩:=List.mem_map.mp he
   exact⟨List.mem_range.mp hm,λa z=>nomatch z⟩
  ·obtain⟨c,hc,rfl⟩:=List.mem_map.mp he
   have:=h.r c hc
   exact⟨this.2.1,λa z=>by cases z;exact this.1⟩
 ·exact List.mem_append_left _ (List.mem_map.mpr ⟨m,List.mem_range.mpr hm,rfl⟩)
 ·have:=h.n
  have:=h.l
  simp[a3y];lia
structure Told (ws:List Int)(cs:List Chg)(sz:Ent->Int)(ps:List Prc)(ls:List (Option Nat)):Prop where
 len:ls.length=ws.length
 rk:∃ r,Rk ls r
 ent:∀ e∈ens ls,e∈a3y ws.length cs
 sum:((ens ls).map sz).sum=(ps.map (·.p)).sum
 low:∀ e∈a3y ws.length cs,due ps e<=sz e
 pos:∀ q∈ps,0<q.p
 bd:∀ q∈ps,q.p<=2000000000
 ne:∀ q∈ps,q.S≠[]
 up:∀ q∈ps,q.S.Pairwise (· < ·)
 lt:∀ q∈ps,∀ m∈q.S,m<ws.length
 dst:(ps.map (·.S)).Nodup
 pl:ps.length<=156
theorem a7t (d:Nat){ws:List Int}{cs:List Chg}{sz:Ent->Int}(h:Sto ws cs sz){Q:FV×FV->Prop}(q:∀ ps ls,Told ws cs sz ps ls->Q (.tup [.int (ps.map (·.p)).sum,.tup (ls.map a0x),.lst (ps.map a4t)],.non)):callW tb (d+3) 0 [a2u ws cs] Q:=by
 have G:=h.est
 refine c5y d (by have:=h.n;lia) (by have:=h.l;lia) h.w h.c G λfr ps us ls H c hall hls hat hp=>q ps ls ?_
 have rg:Rng ws.length fr:=λe he=>G.rg e (H.sub e he)
 obtain⟨hr,hperm⟩:=c.lay rg hls hat
 refine⟨hls,hr,λe he=>H.sub e (c.sub e (hperm.mem_iff.mp he)),?_,H.low,H.pos,λq hq=>?_,H.ne,H.up,H.lt,H.dst,by have:=h.n;have:=h.l;simp[a3y] at hp;lia⟩
 ·rw[c1q (hperm.map sz)]
  exact c.room H hall
 ·obtain⟨e,g1,g2⟩:=H.hit q hq
  have:=b9q g2 H.pos hq
  have:=(H.free e (H.sub e g1)).mp g1
  have:=(h.p e (H.sub e g1)).2
  lia
theorem Told.least {ws:List Int}{cs:List Chg}{sz:Ent->Int}{ps:List Prc}{ls ls':List (Option Nat)}(h:Told ws cs sz ps ls){r:Nat->Nat}(hl:ls'.length=ws.length)(hr:Rk ls' r)(he:∀ e∈ens ls',e∈a3y ws.length cs):(ps.map (·.p)).sum<=((ens ls').map sz).sum :=
 b7h (λe hx=>h.low e (he e hx)) h.pos λq hq=>hr.enter (h.ne q hq) λm hm=>by rw[hl];exact h.lt q hq m hm
theorem Sto.keys {ws:List Int}{cs:List Chg}{sz:Ent->Int}(h:Sto ws cs sz):(cs.map keyH).Nodup:=by
 have:=h.k
 rw[List.Nodup,List.pairwise_map] at this ⊢
 exact this.imp λh e=>h (by simp[keyH] at e;exact Prod.ext (by dsimp only;lia) (by dsimp only;lia))
theorem d2c (d:Nat){ws:List Int}{cs:List Chg}{sz:Ent->Int}(h:Sto ws cs sz){Q:FV×FV->Prop}(q:Q (.dct (cs.map keyH) (cs.map λc=>.int c.2.2),.non)):callW tb (d+1) 27 [a2u ws cs] Q:=by
 have hc:=h.l
 refine a0k (fd:=e0m) rfl rfl ?_
 simp[e0m,d5n,a2u]
 refine⟨by simp[big];lia,?_⟩
 refine a0o (f:=a2z) (g:=λc=>FV.tup [.tup [.int c.1,.int c.2.1],.int c.2.2]) cs [] (λx hx K k=>?_) ?_
 ·simp[a2z,big]
  exact k
 ·rw[List.nil_append,b0d,a1z,a7d _ [] [] (by simpa[List.map_map,Function.comp_def] using h.keys)]
  simpa[List.map_map,Function.comp_def] using q
structure Lyg (ws:List Int)(cs:List Chg)(ls:List (Option Nat)):Prop where
 len:ls.length=ws.length
 rk:∃ r,Rk ls r
 ent:∀ e∈ens ls,e∈a3y ws.length cs
theorem Lyg.on {ws:List Int}{cs:List Chg}{ls:List (Option Nat)}(h:Lyg ws cs ls){m a:Nat}(hm:m<ls.length)(e:ls.getD m none=some a):a<ls.length/\∃ c∈cs,c.1=a/\c.2.1=m:=by
 obtain⟨r,hr⟩:=h.rk
 refine⟨(hr.on m a hm e).1,?_⟩
 rcases List.mem_append.mp (h.ent (some a,m) (mem_ens.mpr ⟨hm,e⟩)) with z|z
 ·obtain⟨x,_,z⟩:=List.mem_map.mp z;cases z
 ·obtain⟨c,hc,z⟩:=List.mem_map.mp z
  cases z;exact⟨c,hc,rfl,rfl⟩
theorem b5t (ls:List (Option Nat)):a2l (upF 0 (ls.map a0x).length) (ls.map a0x)=(List.range ls.length).map λm:Nat=>FV.tup [.int (m:Int),a0x (ls.getD m none)]:=by
 rw[a2k]
 apply List.ext_getElem
 ·simp[a2l]
 ·intro i g1 g2
  simp[a2l] at g2 ⊢
  rw[List.getElem?_eq_getElem g2];rfl
theorem c0s {ls:List (Option Nat)}{i:Nat}(hi:i<ls.length)(Q:FV->Prop):wp (atF (ls.map a0x) (i:Int)) Q↔Q (a0x (ls.getD i none)) :=
 a4q rfl (by rw[List.getElem?_map,List.getElem?_eq_getElem hi];simp[hi])
def stp (ls:List (Option Nat)):Option Nat->Option Nat
 | none=>none
 | some a=>ls.getD a none
def itr (ls:List (Option Nat))(o:Option Nat):Nat->Option Nat
 | 0=>o
 | k+1=>stp ls (itr ls o k)
theorem b8o {ls:List (Option Nat)}{r:Nat->Nat}(h:Rk ls r){m:Nat}(hm:m<ls.length):∀ k,(∀ a,itr ls (some m) k=some a->a<ls.length/\r a+k<=r m)
 | 0=>λa e=>by cases e;exact⟨hm,Γi _⟩
 | k+1=>λa e=>by
  rw[itr] at e
  cases g:itr ls (some m) k with
  | none=>rw[g] at e;cases e
  | some b =>
   rw[g] at e
   obtain⟨h1,h2⟩:=b8o h hm k b g
   have:=h.on b a h1 e
   lia
theorem b2m {ls:List (Option Nat)}{r:Nat->Nat}(h:Rk ls r){m:Nat}(hm:m<ls.length):itr ls (some m) ls.length=none:=by
 cases g:itr ls (some m) ls.length with
 | none=>rfl
 | some a =>
  have h1:=(b8o h hm _ a g).2
  have h2:=h.lt m hm
  lia
theorem c8a {ws:List Int}{cs:List Chg}{sz:Ent->Int}(h:Sto ws cs sz){c:Chg}(hc:c∈cs):a2w (cs.map keyH) (cs.map λc=>FV.int c.2.2) (keyH c)=some (.int (sz (some c.1,c.2.1))):=by
 have hk:=h.keys
 have hz:=h.c
 clear h
 induction cs with
 | nil=>cases hc
 | cons x r ih =>
  show (if keyH x=keyH c then some (FV.int x.2.2) else a2w (r.map keyH) (r.map λc=>FV.int c.2.2) (keyH c))=_
  simp only[List.map_cons,List.nodup_cons] at hk
  rcases List.mem_cons.mp hc with rfl|hc
  ·rw[if_pos rfl,hz c (by simp)]
  ·rw[if_neg λz:keyH x=keyH c=>hk.1 (by rw[z];exact List.mem_map_of_mem hc)]
   exact ih hc hk.2 λy hy=>hz y (by simp[hy])
theorem b9k (ls:List (Option Nat))(sz:Ent->Int):((ens ls).map sz)=(List.range ls.length).map λm=>sz (ls.getD m none,m):=by
 unfold ens;rw[List.map_map];rfl
def encM (S:List Nat):FV:=.tup (S.map λi:Nat=>.int i)
def dM (S:List Nat):D:=.tup (S.map λi:Nat=>.int i)
theorem b4f:∀ S T:List Nat,D.eqvs (S.map λi:Nat=>D.int i) (T.map λi:Nat=>D.int i)=decide (S=T)
 | [],[]=>by simp[D.eqvs]
 | [],b :: T=>by simp[D.eqvs]
 | a :: S,[]=>by simp[D.eqvs]
 | a :: S,b :: T=>by
  simp only[List.map_cons,D.eqvs,D.eqv,b4f S T]
  rw[Bool.eq_iff_iff]
  simp
  lia
theorem codM:Cod encM dM:=⟨λk S=>by
 show (a7h (fD (k+2)) (S.map λi:Nat=>FV.int i)).map D.tup=_
 rw[a4k (g:=λi:Nat=>D.int i) λx=>rfl];rfl,λS T=>by
 show D.eqvs _ _=_
 exact b4f S T⟩
def encG (S:List Nat):FV:=.lst (S.map λi:Nat=>.int i)
theorem a0n (ws:List Int)(cs:List Chg)(Q:List FV->Prop):wp (a4f (a2u ws cs)) Q↔Q [.tup (ws.map .int),.tup (cs.map a2z)]:=Iff.rfl
def szF (ws:List Int)(cs:List Chg)(e:Ent):Int:=match e.1 with
 | none=>ws.getD e.2 0
 | some a=>((cs.find? λc=>decide (c.1=a/\c.2.1=e.2)).map λc=>c.2.2).getD 0
theorem d6g {ws:List Int}{cs:List Chg}(hk:(cs.map λc=>(c.1,c.2.1)).Nodup){c:Chg}(hc:c∈cs):szF ws cs (some c.1,c.2.1)=c.2.2:=by
 show ((cs.find? λx=>decide (x.1=c.1/\x.2.1=c.2.1)).map λc=>c.2.2).getD 0=c.2.2
 induction cs with
 | nil=>cases hc
 | cons x r ih =>
  simp only[List.map_cons,List.nodup_cons] at hk
  by_cases z:x.1=c.1/\x.2.1=c.2.1
  ·rw[List.find?_cons_of_pos (by simpa using z)]
   rcases List.mem_cons.mp hc with rfl|hc
   ·rfl
   ·exact absurd (List.mem_map.mpr ⟨c,hc,by rw[z.1,z.2]⟩) hk.1
  ·rw[List.find?_cons_of_neg (by simpa using z)]
   rcases List.mem_cons.mp hc with rfl|hc
   ·exact absurd ⟨rfl,rfl⟩ z
   ·exact ih hk.2 hc
theorem b3t (d:Nat){n g:Int}{v:FV}{Q:FV×FV->Prop}(hs:Lf n v)(h0:0<=n)(hn:n<100000)(q:∀ s v',1<=s->s<=999999980->Lf (n+2) v'->Q (.int s,v')):callW tb (d+3) 24 [v,.int g] Q:=by
 refine a0k (fd:=e0o) rfl rfl ?_
 simp[e0o,e2m,big]
 refine a1l d hs (by lia) (by decide) (by decide) λu v1 u0 u1 l1=>?_
 simp
 have fin:wp (atF [FV.int 9,FV.int 9,FV.int 40,FV.int 3] u) λz=>callW tb (d+2) 22 [v1,z] λz=>wp (a4s (FV.int 1) z.fst) λz_1=>Q (z_1,z.snd):=by
  refine c0t u0 u1 ?_
  intro f hf
  obtain⟨k,rfl,k0,k1⟩:∃ k:Int,f=.int k/\0<k/\k<=40:=by
   simp at hf
   rcases hf with rfl|rfl|rfl|rfl<;>exact⟨_,rfl,by decide,by decide⟩
  refine a1l d l1 (by lia) k0 (by lia) λw v2 w0 w1 l2=>?_
  simp
  exact q _ _ (by lia) (by lia) (l2.mono (by lia))
 refine a4y (λh=>?_) (λh=>fin)
 refine a4y (λh=>?_) (λh=>fin)
 refine⟨by decide,a1l d l1 (by lia) (by decide) (by decide) λw v2 w0 w1 l2=>?_⟩
 simp
 exact q _ _ (by lia) (by lia) (l2.mono (by lia))
structure GsB (B:Int)(ws:List Int)(cs:List Chg):Prop where
 n:ws.length<=12
 w:∀ x∈ws,1<=x/\x<B
 c:∀ x∈cs,x.1<ws.length/\x.2.1<ws.length/\x.1≠x.2.1/\1<=x.2.2/\x.2.2<B
 l:cs.length<=144
 d:(cs.map λc=>(c.1,c.2.1)).Nodup
theorem GsB.mono {B C:Int}{ws:List Int}{cs:List Chg}(h:GsB B ws cs)(hb:B<=C):GsB C ws cs :=
 ⟨h.n,λx hx=>⟨(h.w x hx).1,by have:=(h.w x hx).2;lia⟩,λx hx=>let ⟨a,b,c,d,e⟩:=h.c x hx;⟨a,b,c,d,by lia⟩,h.l,h.d⟩
def prs (n:Nat):Nat->List (Nat×Nat)
 | 0=>[]
 | a+1=>prs n a++(List.range n).map λb=>(a,b)
theorem c4o {n:Nat}:∀ {a:Nat}{p:Nat×Nat},p∈prs n a->p.1<a
 | 0,p,h=>by simp[prs] at h
 | a+1,p,h=>by
  rcases List.mem_append.mp h with h|h
  ·have:=c4o h;lia
  ·obtain⟨b,hb,rfl⟩:=List.mem_map.mp h;exact Nat.lt_succ_self _
theorem b1y (n:Nat):∀ a:Nat,(prs n a).length=a*n
 | 0=>by simp[prs]
 | a+1=>by simp[prs,b1y n a,Nat.add_mul]
theorem a9z (n:Nat):∀ a:Nat,(prs n a).Nodup
 | 0=>by simp[prs]
 | a+1=>by
  rw[prs,List.nodup_append]
  refine⟨a9z n a,?_,?_⟩
  ·rw[List.nodup_iff_pairwise_ne,List.pairwise_map]
   exact List.nodup_range.imp λh z=>h (by simpa using z)
  ·intro p hp q hq e
   obtain⟨b,hb,rfl⟩:=List.mem_map.mp hq
   have:=c4o hp
   rw[e] at this
   exact Nat.lt_irrefl _ this
theorem b8b (d:Nat){n:Int}{v:FV}{m:Nat}{Q:FV×FV->Prop}(hs:Lf n v)(h0:0<=n)(hn:n<10000)(hm:m<=12)(q:∀ (ws:List Int)(cs:List Chg) v',GsB 1000000000 ws cs->ws.length=m->Lf (n+700) v'->Q (a2u ws cs,v')):callW tb (d+4) 26 [v,.int m] Q:=by
 refine a0k (fd:=e0n) rfl rfl ?_
 simp[e0n,e2l,big]
 refine a1l (d+1) hs (by lia) (by decide) (by decide) λg v1 g0 g1 l1=>?_
 simp
 refine a1l (d+1) l1 (by lia) (by decide) (by decide) λo v2 o0 o1 l2=>?_
 simp
 refine⟨a1e (by lia) (by lia),?_⟩
 rw[a2k]
 refine⟨by simp;lia,?_⟩
 refine b1c (f:=λi:Nat=>FV.int i) (I:=λds acc L=>∃ v',∃ xs:List Int,L=[some v',some (.int m),some (.int g),some (.int (1+o)),none,none,none,none]/\acc=xs.map .int/\xs.length=ds.length/\(∀ x∈xs,1<=x/\x<1000000000)/\Lf (n+2+3*ds.length) v') (List.range m) (List.range m) [] [] _ rfl ⟨v2,[],rfl,rfl,rfl,by simp,l2.mono (by simp;lia)⟩ ?_ ?_
 ·rintro ds x r acc L K e ⟨v',xs,rfl,rfl,hl,hx,lf⟩ k
  have hd:ds.length<12:=by have:=congrArg List.length e;simp at this;lia
  simp
  refine b3t d lf (by lia) (by lia) λs v4 s0 s1 l4=>?_
  simp[big]
  refine a1l (d+1) l4 (by lia) (by decide) (by decide) λb v5 b0 b1 l5=>?_
  simp
  refine c0t b0 b1 ?_
  intro f hf
  obtain⟨k',rfl,k0,k1⟩:∃ k:Int,f=.int k/\0<=k/\k<=12:=by
   simp at hf
   rcases hf with rfl|rfl<;>exact⟨_,rfl,by decide,by decide⟩
  simp
  refine k _ _ ⟨v5,xs++[s+k'],rfl,by simp,by simp[hl],?_,l5.mono (by simp;lia)⟩
  intro y hy
  rcases List.mem_append.mp hy with hy|hy
  ·exact hx y hy
  ·simp at hy;subst hy;lia
 ·rintro ys L ⟨v',ws,rfl,rfl,hl,hx,lf⟩
  simp only[List.length_range] at hl lf
  simp
  refine⟨a1e (by lia) (by lia),?_⟩
  refine a2x (I:=λa L=>∃ v' x y,∃ cs:List Chg,L=[some v',some (.int m),some (.int g),some (.int (1+o)),some (.tup (ws.map .int)),some (.lst (cs.map a2z)),x,y]/\(∀ c∈cs,c.1<m/\c.2.1<m/\c.1≠c.2.1/\1<=c.2.2/\c.2.2<1000000000)/\(cs.map λc=>(c.1,c.2.1)).Sublist (prs m a)/\Lf (n+38+40*a) v') m 0 _ ⟨v',_,_,[],rfl,by simp,by simp[prs],lf.mono (by lia)⟩ ?_ ?_
  ·rintro a L K-ha ⟨v',x,y,cs,rfl,hc,hsb,lf⟩ k
   simp
   refine⟨a1e (by lia) (by lia),?_⟩
   refine a2x (I:=λb L=>∃ v' y,∃ cs:List Chg,L=[some v',some (.int m),some (.int g),some (.int (1+o)),some (.tup (ws.map .int)),some (.lst (cs.map a2z)),some (.int a),y]/\(∀ c∈cs,c.1<m/\c.2.1<m/\c.1≠c.2.1/\1<=c.2.2/\c.2.2<1000000000)/\(cs.map λc=>(c.1,c.2.1)).Sublist (prs m a++(List.range b).map λb=>(a,b))/\Lf (n+38+40*a+3*b) v') m 0 _ ⟨v',_,cs,rfl,hc,by simpa using hsb,lf.mono (by lia)⟩ ?_ ?_
   ·rintro b L K2-hb ⟨v',y,cs,rfl,hc,hsb,lf⟩ k2
    have hcl:cs.length<=1000:=by
     have:=hsb.length_le
     simp[b1y] at this
     have:a*m<=12*12:=Nat.mul_le_mul (by lia) hm
     lia
    have hsb':(cs.map λc=>(c.1,c.2.1)).Sublist (prs m a++(List.range (b+1)).map λb=>(a,b)):=by
     rw[List.range_succ,List.map_append,<- List.append_assoc]
     exact hsb.trans (List.sublist_append_left _ _)
    have no:∀ v',Lf (n+38+40*a+3*b+3) v'->K2 [some v',some (.int m),some (.int g),some (.int (1+o)),some (.tup (ws.map .int)),some (.lst (cs.map a2z)),some (.int a),some (.int b)]:=λv' l=>k2 _ ⟨v',_,cs,rfl,hc,hsb',l.mono (by lia)⟩
    simp
    refine a4y (λh=>?_) (λh=>?_)
    ·exact no v' (lf.mono (by lia))
    ·refine a1l (d+1) lf (by lia) (by lia) (by lia) λu v4 u0 u1 l4=>?_
     simp
     refine a4y (λh2=>?_) (λh2=>no v4 (l4.mono (by lia)))
     refine b3t d l4 (by lia) (by lia) λs v5 s0 s1 l5=>?_
     simp[big]
     refine⟨by lia,k2 _ ⟨v5,some (.int b),cs++[(a,b,s)],by simp[a2z],?_,?_,l5.mono (by lia)⟩⟩
     ·intro c hc'
      rcases List.mem_append.mp hc' with hc'|hc'
      ·exact hc c hc'
      ·simp at hc';subst hc'
       exact ⟨by show a < m; lia,by show b < m; lia,by show a≠b; lia,s0,by show s < _; lia⟩
     ·rw[List.range_succ,List.map_append,List.map_append,<- List.append_assoc]
      exact hsb.append (List.Sublist.refl _)
   ·rintro L ⟨v',y,cs,rfl,hc,hsb,lf⟩
    rw[Nat.zero_add] at hsb lf
    exact k _ ⟨v',_,_,cs,rfl,hc,hsb,lf.mono (by lia)⟩
  ·rintro L ⟨v',x,y,cs,rfl,hc,hsb,lf⟩
   rw[Nat.zero_add] at hsb lf
   have hcl:=hsb.length_le
   simp[b1y] at hcl
   have:m*m<=12*12:=Nat.mul_le_mul hm hm
   have:=q ws cs v' ⟨by lia,hx,by rw[hl];exact hc,by lia,(a9z m m).sublist hsb⟩ hl (lf.mono (by lia))
   simpa[a2u] using this
theorem GsB.sto {ws:List Int}{cs:List Chg}(h:GsB 1000000100 ws cs):Sto ws cs (szF ws cs):=by
 have hw:∀ m (g:m<ws.length),szF ws cs (none,m)=ws[m]:=λm g=>by
  show ws.getD m 0=_
  simp[g]
 have hc:=λc hc=>d6g (ws:=ws) h.d (c:=c) hc
 refine⟨h.n,h.l,hw,hc,λc g=>?_,h.d,λe he=>?_⟩
 ·have:=h.c c g;exact⟨this.1,this.2.1,this.2.2.1⟩
 ·rcases List.mem_append.mp he with he|he
  ·obtain⟨m,hm,rfl⟩:=List.mem_map.mp he
   have hm:=List.mem_range.mp hm
   rw[hw m hm]
   have:=h.w _ (List.getElem_mem hm)
   lia
  ·obtain⟨c,g,rfl⟩:=List.mem_map.mp he
   rw[hc c g]
   have:=h.c c g
   lia
theorem c2z (d:Nat)(ns:List Int) (k:Nat){Q:FV×FV->Prop}(q:∀ v,Lf 0 v->Q (v,.lst (ns.map .int))):callW tb (d+1) 21 [.lst (ns.map .int),.int k] Q:=by
 refine a0k (fd:=e0q) rfl rfl ?_
 have h1:a2f 1000003=true:=by decide
 have h2:a2f 0=true:=by decide
 have h4:a2f 10=true:=by decide
 have h5:∀ r:Bool,a2f (if r=true then 1 else 0)=true:=by intro r;cases r<;>decide
 simp[e0q,e2o]
 split
 ·rename_i hk
  rw[a4q rfl (show (ns.map FV.int)[k]?=some (.int ns[k]) by simp[hk])]
  simp[h1,h4,h5,big]
  exact⟨.inr (by by_cases hh:1000000000000000000<=(if ns[k]<0 then -ns[k] else ns[k])<;>simp only[hh,if_true,if_false]<;>decide),q _ ⟨_,_,_,rfl,by lia,by lia⟩⟩
 ·simp[h1,h2,h4,big]
  exact q _ ⟨_,_,_,rfl,by lia,by lia⟩
def gB (b:List (Option Nat)):Bool:=(List.range b.length).all λm=>(itr b (some m) b.length).isNone
def Inr (b:List (Option Nat)):Prop:=∀ m a,m<b.length->b.getD m none=some a->a<b.length
theorem c4z {b:List (Option Nat)}(h:Inr b){m:Nat}(hm:m<b.length):∀ k p,itr b (some m) k=some p->p<b.length
 | 0,p,e=>by cases e;exact hm
 | k+1,p,e=>by
  rw[itr] at e
  cases g:itr b (some m) k with
  | none=>rw[g] at e;cases e
  | some q=>rw[g] at e;exact h q p (c4z h hm k q g) e
theorem b8n (b:List (Option Nat))(o:Option Nat):∀ k,itr b o (k+1)=itr b (stp b o) k
 | 0=>rfl
 | k+1=>by rw[itr,b8n b o k];rfl
def cnt (b:List (Option Nat))(o:Option Nat):Nat->Nat
 | 0=>0
 | k+1=>cnt b o k+(if (itr b o (k+1)).isSome then 1 else 0)
theorem c5g (b:List (Option Nat))(o:Option Nat):∀ k,cnt b o k<=k
 | 0=>Γi _
 | k+1=>by have:=c5g b o k;rw[cnt];split<;>lia
theorem c5f {b:List (Option Nat)}{m a:Nat}(e:stp b (some m)=some a):∀ k,cnt b (some m) (k+1)=1+cnt b (some a) k
 | 0=>by rw[cnt,cnt,b8n,e];rfl
 | k+1=>by rw[cnt,c5f e k,b8n,e,cnt];lia
theorem d0g {b:List (Option Nat)}(h:Inr b)(g:gB b=true):∃ r,Rk b r:=by
 have g1:∀ m,m<b.length->itr b (some m) b.length=none:=λm hm=>by
  have:=List.all_eq_true.mp g m (List.mem_range.mpr hm)
  simpa using this
 obtain⟨n,hn⟩:∃ n,b.length=n:=⟨_,rfl⟩
 cases n with
 | zero=>exact⟨λ_=>0,λm hm=>by lia,λm a hm=>by lia⟩
 | succ n =>
  have z:∀ m,m<b.length->cnt b (some m) (n+1)=cnt b (some m) n:=λm hm=>by
   have:=g1 m hm
   rw[hn] at this
   rw[cnt,this];rfl
  refine⟨λm=>cnt b (some m) (n+1),λm hm=>?_,λm a hm e=>⟨h m a hm e,?_⟩⟩
  ·have:=c5g b (some m) n
   have:=z m hm
   lia
  ·have:=c5f (b:=b) (m:=m) (a:=a) e n
   have:=z a (h m a hm e)
   lia
theorem b4g {ws:List Int}{cs:List Chg}{sz:Ent->Int}(h:Sto ws cs sz){b:List (Option Nat)}(hl:b.length=ws.length)(he:∀ e∈ens b,e∈a3y ws.length cs){m a:Nat}(hm:m<b.length)(e:b.getD m none=some a):a<b.length/\∃ c∈cs,c.1=a/\c.2.1=m:=by
 rcases List.mem_append.mp (he (some a,m) (mem_ens.mpr ⟨hm,e⟩)) with z|z
 ·obtain⟨x,_,z⟩:=List.mem_map.mp z;cases z
 ·obtain⟨c,hc,z⟩:=List.mem_map.mp z
  cases z;exact⟨by rw[hl];exact (h.r c hc).1,c,hc,rfl,rfl⟩
theorem c2x (d:Nat){ws:List Int}{cs:List Chg}{sz:Ent->Int}(h:Sto ws cs sz){ls:List (Option Nat)}(hl:ls.length=ws.length)(he:∀ e∈ens ls,e∈a3y ws.length cs){Q:FV×FV->Prop}(q:Q (.bl (gB ls),.non)):callW tb (d+2) 28 [a2u ws cs,.tup (ls.map a0x)] Q:=by
 have hn:=h.n
 have hin:Inr ls:=λm a hm e=>(b4g h hl he hm e).1
 refine a0k (fd:=e0l) rfl rfl ?_
 simp[e0l,e2k]
 refine d2c d h ?_
 simp
 rw[<- List.length_map (f:=a0x),b5t]
 refine⟨by simp[big];lia,?_⟩
 refine a0o (f:=λm:Nat=>FV.tup [.int (m:Int),a0x (ls.getD m none)]) (g:=λ_=>.bl false) (List.range ls.length) [] (λm hm K k=>?_) ?_
 ·have hm:=List.mem_range.mp hm
  cases e:ls.getD m none with
  | none=>simpa[a0x] using k
  | some a =>
   obtain⟨_,c,hc,e1,e2⟩:=b4g h hl he hm e
   have:[(a:Int),(m:Int)]∈cs.map keyH:=List.mem_map.mpr ⟨c,hc,by rw[<- e1,<- e2];rfl⟩
   simp[a0x]
   refine⟨by decide,?_⟩
   rw[decide_eq_true this]
   exact k
 ·rw[List.nil_append]
  simp[a2v (λ_=>false)]
  refine⟨a1e (by lia) (by lia),?_⟩
  refine a2x (I:=λj L=>(∀ m,m<j->itr ls (some m) ls.length=none)/\∃ a b c,L=[some (a2u ws cs),some (.tup (ls.map a0x)),some (.dct (cs.map keyH) (cs.map λc=>.int c.2.2)),a,b,c]) ls.length 0 _ ⟨λm hm=>absurd hm (Nat.not_lt_zero _),_,_,_,rfl⟩ ?_ ?_
  ·rintro m L K-hm ⟨ok,a,b,c,rfl⟩ k
   simp
   refine⟨a1e (by lia) (by lia),?_⟩
   refine a2x (I:=λj L=>∃ c,L=[some (a2u ws cs),some (.tup (ls.map a0x)),some (.dct (cs.map keyH) (cs.map λc=>.int c.2.2)),some (.int m),some (a0x (itr ls (some m) j)),c]) ls.length 0 _ ⟨_,rfl⟩ ?_ ?_
   ·rintro j L K2-hj ⟨c,rfl⟩ k2
    cases e:itr ls (some m) j with
    | none =>
     simp[a0x]
     exact k2 _ ⟨_,by rw[itr,e];rfl⟩
    | some p =>
     have hp:=c4z hin (by lia) _ p e
     simp[a0x]
     rw[c0s hp]
     exact k2 _ ⟨_,by rw[itr,e];rfl⟩
   ·rintro L ⟨c,rfl⟩
    rw[Nat.zero_add]
    cases e:itr ls (some m) ls.length with
    | none =>
     simp[a0x]
     exact k _ ⟨λx hx=>by
      by_cases z:x=m
      ·rw[z];exact e
      ·exact ok x (by lia),_,_,_,rfl⟩
    | some p =>
     simp[a0x]
     have:gB ls=false:=by
      cases g:gB ls with
      | false=>rfl
      | true =>
       have:=List.all_eq_true.mp g m (List.mem_range.mpr (by lia))
       rw [e] at this; cases this
     rw[this] at q
     exact q
  ·rintro L ⟨ok,a,b,c,rfl⟩
   simp
   have:gB ls=true:=List.all_eq_true.mpr λm hm=>by rw[ok m (by have:=List.mem_range.mp hm;lia)];rfl
   rw[this] at q
   exact q
def chS (ws:List Int)(cs:List Chg) (m:Nat):List (Option Nat×Int):=(none,ws.getD m 0) :: (cs.filter λc=>decide (c.2.1=m)).map λc=>(some c.1,c.2.2)
def a7q (ch:Nat->List (Option Nat×Int)):Nat->List (List (Option Nat)×Int)
 | 0=>[([],0)]
 | m+1=>(a7q ch m).flatMap λb=>(ch m).map λo=>(b.1++[o.1],b.2+o.2)
def b4h (o:Option Nat×Int):FV:=.tup [a0x o.1,.int o.2]
def a6v (b:List (Option Nat)×Int):FV:=.tup [.tup (b.1.map a0x),.int b.2]
theorem a8z (b:List (Option Nat))(o:Option Nat):ens (b++[o])=ens b++[(o,b.length)]:=by
 unfold ens
 rw[List.length_append,List.length_singleton,List.range_succ,List.map_append]
 congr 1
 ·refine List.map_congr_left λm hm=>?_
  have:=List.mem_range.mp hm
  simp[List.getD_eq_getElem?_getD,List.getElem?_append_left this]
 ·simp[List.getD_eq_getElem?_getD]
theorem d3o {ws:List Int}{cs:List Chg}{sz:Ent->Int}(h:Sto ws cs sz){m:Nat}(hm:m<ws.length){o:Option Nat×Int}(ho:o∈chS ws cs m):sz (o.1,m)=o.2/\(o.1,m)∈a3y ws.length cs:=by
 rcases List.mem_cons.mp ho with z|z
 ·rw[z]
  exact⟨by rw[h.w m hm];simp[hm],List.mem_append_left _ (List.mem_map.mpr ⟨m,List.mem_range.mpr hm,rfl⟩)⟩
 ·obtain⟨c,hc,rfl⟩:=List.mem_map.mp z
  obtain⟨h1,h2⟩:=List.mem_filter.mp hc
  have h2:c.2.1=m:=of_decide_eq_true h2
  rw[<- h2]
  exact⟨h.c c h1,List.mem_append_right _ (List.mem_map.mpr ⟨c,h1,rfl⟩)⟩
theorem d3n {ws:List Int}{cs:List Chg}{sz:Ent->Int}(h:Sto ws cs sz){m:Nat}{o:Option Nat}(ho:(o,m)∈a3y ws.length cs):(o,sz (o,m))∈chS ws cs m:=by
 rcases List.mem_append.mp ho with z|z
 ·obtain⟨x,hx,e⟩:=List.mem_map.mp z
  cases e
  have hx:=List.mem_range.mp hx
  rw[h.w m hx]
  exact List.mem_cons.mpr (.inl (by simp[hx]))
 ·obtain⟨c,hc,e⟩:=List.mem_map.mp z
  cases e
  rw[h.c c hc]
  exact Γh _ (List.mem_map.mpr ⟨c,List.mem_filter.mpr ⟨hc,by simp⟩,rfl⟩)
theorem a6o {ws:List Int}{cs:List Chg}{sz:Ent->Int}(h:Sto ws cs sz):∀ m,m<=ws.length->∀ b∈a7q (chS ws cs) m,b.1.length=m/\(∀ e∈ens b.1,e∈a3y ws.length cs)/\b.2=((ens b.1).map sz).sum
 | 0,_,b,hb=>by
  rw[List.mem_singleton.mp hb]
  exact⟨rfl,λe he=>absurd he (by simp[ens]),rfl⟩
 | m+1,hm,b,hb=>by
  obtain⟨a,ha,hb⟩:=List.mem_flatMap.mp hb
  obtain⟨o,ho,rfl⟩:=List.mem_map.mp hb
  obtain⟨h1,h2,h3⟩:=a6o h m (by lia) a ha
  obtain⟨g1,g2⟩:=d3o h (by lia) ho
  refine⟨by simp[h1],λe he=>?_,?_⟩
  ·rw[a8z,h1] at he
   rcases List.mem_append.mp he with z|z
   ·exact h2 e z
   ·rw[List.mem_singleton.mp z];exact g2
  ·rw[a8z,List.map_append,List.sum_append,h1]
   simp[h3,g1]
theorem a9g {ws:List Int}{cs:List Chg}{sz:Ent->Int}(h:Sto ws cs sz):∀ m (b:List (Option Nat)),b.length=m->(∀ e∈ens b,e∈a3y ws.length cs)->(b,((ens b).map sz).sum)∈a7q (chS ws cs) m
 | 0,b,hb,_=>by
  rw[List.length_eq_zero_iff.mp hb]
  exact List.mem_singleton.mpr rfl
 | m+1,b,hb,he=>by
  obtain⟨a,o,rfl⟩:∃ a o,b=a++[o]:=by
   rcases List.eq_nil_or_concat b with z|⟨a,o,z⟩
   ·rw[z] at hb;cases hb
   ·exact⟨a,o,by rw[z,List.concat_eq_append]⟩
  have ha:a.length=m:=by simpa using hb
  rw[a8z] at he ⊢
  have:=a9g h m a ha λe z=>he e (List.mem_append_left _ z)
  refine List.mem_flatMap.mpr ⟨_,this,List.mem_map.mpr ⟨(o,sz (o,m)),d3n h (by rw[<- ha];exact he _ (List.mem_append_right _ Γn)),?_⟩⟩
  rw[List.map_append,List.sum_append,ha]
  simp
theorem c0n {ws:List Int}{cs:List Chg}{sz:Ent->Int}(h:Sto ws cs sz) (m:Nat):(chS ws cs m).length<=ws.length+1:=by
 have:((cs.filter λc=>decide (c.2.1=m)).map (·.1)).length<=ws.length:=by
  refine a6c (n:=ws.length) ?_ λa ha=>?_
  ·have hk:=h.k
   refine List.pairwise_map.mpr ?_
   have:=(List.pairwise_map.mp hk).filter (λc:Chg=>decide (c.2.1=m))
   refine this.imp_of_mem λ{a b} ha hb hne e=>hne ?_
   have h1:=of_decide_eq_true (List.mem_filter.mp ha).2
   have h2:=of_decide_eq_true (List.mem_filter.mp hb).2
   rw[e,h1,h2]
  ·obtain⟨c,hc,rfl⟩:=List.mem_map.mp ha
   exact (h.r c (List.mem_filter.mp hc).1).1
 simp only[chS,List.length_cons,List.length_map] at this ⊢
 lia
theorem b4d {α β:Type}{g:α->List β}{k:Nat}:∀ {l:List α},(∀ x∈l,(g x).length<=k)->(l.flatMap g).length<=l.length*k
 | [],_=>by simp
 | x :: r,h=>by
  have:=b4d (g:=g) (k:=k) (l:=r) λy hy=>h y (Γh _ hy)
  have:=h x Γn
  rw[List.flatMap_cons,List.length_append,List.length_cons,Nat.succ_mul]
  lia
theorem a4r {ws:List Int}{cs:List Chg}{sz:Ent->Int}(h:Sto ws cs sz)(hn:ws.length<=5):∀ m,(a7q (chS ws cs) m).length<=6 ^ m
 | 0=>by simp[a7q]
 | m+1=>by
  have h1:=a4r h hn m
  have h2:(a7q (chS ws cs) (m+1)).length<=(a7q (chS ws cs) m).length*6:=b4d λb _=>by
   have:=c0n h m
   rw[List.length_map];lia
  rw[Nat.pow_succ]
  exact Nat.le_trans h2 (Nat.mul_le_mul_right 6 h1)
theorem c8f {α β:Type}(g:α->List β){all d r:List α}{x:α}(e:all=d++x :: r):(d.flatMap g).length+(g x).length<=(all.flatMap g).length:=by
 rw[e,List.flatMap_append,List.flatMap_cons,List.length_append,List.length_append];lia
def wsD (ws:List Int)(ds:List Chg) (n:Nat):List (List (Option Nat×Int)):=(List.range n).map (chS ws ds)
theorem c1f {ws:List Int}{ds:List Chg}{c:Chg}{n:Nat}(hc:c.2.1<n):(wsD ws ds n).set c.2.1 (chS ws ds c.2.1++[(some c.1,c.2.2)])=wsD ws (ds++[c]) n:=by
 refine List.ext_getElem (by simp[wsD]) λi h1 h2=>?_
 rw[List.getElem_set]
 simp only[wsD,List.getElem_map,List.getElem_range]
 split
 ·rename_i e
  simp[chS,List.filter_append,<- e]
 ·rename_i e
  simp[chS,List.filter_append,e]
theorem c1i (d:Nat){ws:List Int}{cs:List Chg}{sz:Ent->Int}(h:Sto ws cs sz)(hn:ws.length<=5){Q:FV×FV->Prop}(q:Q (.lst (((a7q (chS ws cs) ws.length).filter λb=>gB b.1).map a6v),.non)):callW tb (d+3) 29 [a2u ws cs] Q:=by
 have hcl:=h.l
 refine a0k (fd:=e0k) rfl rfl ?_
 simp[e0k,e2j,a0n,big]
 refine⟨by lia,?_⟩
 refine a0o (f:=FV.int) (g:=λw=>FV.lst [b4h (none,w)]) ws [] (λw hw K k=>?_) ?_
 ·simp[big]
  exact k
 ·rw[List.nil_append,show (ws.map λw=>FV.lst [b4h (none,w)])=(ws.map λw=>[b4h (none,w)]).map .lst by rw[List.map_map];rfl,a6b]
  simp[a0n]
  have e0:(ws.map λw=>[b4h (none,w)])=(wsD ws [] ws.length).map (·.map b4h):=by
   refine List.ext_getElem (by simp[wsD]) λi h1 h2=>?_
   have:i<ws.length:=by simpa using h1
   simp[wsD,chS,this]
  rw[e0]
  refine b7x (f:=a2z) (P:=λds pss L=>pss=(wsD ws ds ws.length).map (·.map b4h)/\∃ x y z,L=[some (a2u ws cs),none,x,y,z,none,none,none,none,none]) cs cs [] _ _ rfl ⟨rfl,_,_,_,rfl⟩ (λds c r pss L K e hP hK=>?_) λpss L hP=>?_
  ·obtain⟨rfl,x,y,z,rfl⟩:=hP
   have hc:c∈cs:=by rw[e];simp
   have hr:=h.r c hc
   simp[a2z]
   have hlen:(chS ws ds c.2.1).length<=145:=by
    have h1:=List.length_filter_le (λc':Chg=>decide (c'.2.1=c.2.1)) ds
    have h2:ds.length<=cs.length:=by rw[e];simp
    simp only[chS,List.length_cons,List.length_map];lia
   refine⟨c.2.1,rfl,(chS ws ds c.2.1).map b4h,by simp[wsD,hr.2.1],by rw[List.length_map];simp only[big];lia,?_⟩
   refine⟨by decide,hK _ _ ⟨?_,_,_,_,rfl⟩⟩
   rw[<- c1f hr.2.1,List.map_set,List.map_append]
   rfl
  ·obtain⟨rfl,x,y,z,rfl⟩:=hP
   simp
   rw[show ((wsD ws cs ws.length).map (FV.lst ∘ λx=>x.map b4h))=(List.range ws.length).map λm=>FV.lst ((chS ws cs m).map b4h) by simp[wsD,Function.comp_def]]
   have hb6:∀ m,m<=5->6 ^ m<=7776:=λm hm=>Nat.le_trans (Nat.pow_le_pow_right (by decide) hm) (by decide)
   refine a1p (f:=λm=>FV.lst ((chS ws cs m).map b4h)) (I:=λds L=>∃ u x y z v7 v8 v9 w,L=[some (a2u ws cs),w,x,y,z,some (.lst ((a7q (chS ws cs) ds.length).map a6v)),u,v7,v8,v9]) (List.range ws.length) _ [] _ rfl ⟨_,_,_,_,_,_,_,_,rfl⟩ (λds m r L K e hI hK=>?_) λL hI=>?_
   ·obtain⟨u,x,y,z,v7,v8,v9,w,rfl⟩:=hI
    have hm:m=ds.length:=by
     have:=congrArg (·[ds.length]?) e
     simp at this
     rw[List.getElem?_range (by have:=congrArg List.length e;simp at this;lia)] at this
     exact (Option.some.inj this).symm
    subst hm
    have hd:ds.length<ws.length:=by have:=congrArg List.length e;simp at this;lia
    have hl1:=a4r h hn (ds.length+1)
    have hl0:=a4r h hn ds.length
    have h60:=hb6 ds.length (by lia)
    have h61:=hb6 (ds.length+1) (by lia)
    have hch:=c0n h ds.length
    simp
    refine a1p (f:=a6v) (I:=λbs L=>∃ v8 v9,L=[some (a2u ws cs),w,x,y,z,some (.lst ((a7q (chS ws cs) ds.length).map a6v)),some (.lst ((chS ws cs ds.length).map b4h)),some (.lst ((bs.flatMap λb=>(chS ws cs ds.length).map λo=>(b.1++[o.1],b.2+o.2)).map a6v)),v8,v9]) (a7q (chS ws cs) ds.length) _ [] _ rfl ⟨_,_,rfl⟩ (λbs b r2 L K2 e2 hI2 hK2=>?_) λL hI2=>?_
    ·obtain⟨v8,v9,rfl⟩:=hI2
     have hlen:=c8f (λb:List (Option Nat)×Int=>(chS ws cs ds.length).map λo=>(b.1++[o.1],b.2+o.2)) e2
     rw[show ((a7q (chS ws cs) ds.length).flatMap λb:List (Option Nat)×Int=>(chS ws cs ds.length).map λo=>(b.1++[o.1],b.2+o.2))=a7q (chS ws cs) (ds.length+1) from rfl,List.length_map] at hlen
     have hb:=(a6o h ds.length (by lia) b (by rw[e2];simp)).1
     have k2':=λa b=>hK2 _ ⟨a,b,rfl⟩
     rw[List.flatMap_append,List.map_append,List.flatMap_cons,List.flatMap_nil,List.append_nil] at k2'
     clear hK2
     generalize hA0:(bs.flatMap λb:List (Option Nat)×Int=>(chS ws cs ds.length).map λo=>(b.1++[o.1],b.2+o.2)).map a6v=A0 at k2' ⊢
     have hA1:A0.length+(chS ws cs ds.length).length<=7776:=by rw[<- hA0,List.length_map];lia
     simp[a6v]
     refine⟨by simp only[big];lia,?_⟩
     refine a0o (f:=b4h) (g:=λo=>a6v (b.1++[o.1],b.2+o.2)) (chS ws cs ds.length) [] (λo ho K k=>?_) ?_
     ·simp[b4h,big]
      refine⟨by lia,?_⟩
      simpa[a6v] using k
     ·simp
      refine⟨by simp only[big];lia,?_⟩
      have:=k2' (some (FV.tup (b.1.map a0x))) (some (FV.int b.2))
      simpa[Function.comp_def] using this
    ·obtain⟨v8,v9,rfl⟩:=hI2
     simp
     refine hK _ ⟨some (.lst ((chS ws cs ds.length).map b4h)),x,y,z,none,v8,v9,w,?_⟩
     rw[List.length_append,List.length_singleton]
     rfl
   ·obtain⟨u,x,y,z,v7,v8,v9,w,rfl⟩:=hI
    simp
    have hl0:=a4r h hn ws.length
    have h60:=hb6 ws.length hn
    refine⟨by lia,?_⟩
    refine a0r (f:=a6v) (g:=a6v) (p:=λb=>gB b.1) _ [] (λb hb K N k1 k2=>?_) ?_
    ·obtain⟨h1,h2,h3⟩:=a6o h _ (Γi _) b hb
     simp[a6v]
     refine c2x d h h1 h2 ?_
     cases g:gB b.1 with
     | true=>simpa[a6v] using k1 g
     | false=>simpa using k2 g
    ·simpa using q
theorem c3q (d:Nat)(ns:List Int){Q:FV×FV->Prop}(q:∀ ms:List Int,ms.length<=4->Q (.lst (ms.map .int),.non)):callW tb (d+1) 23 [.scr ns,.int 4] Q:=by
 refine a0k (fd:=e0p) rfl rfl ?_
 simp[e0p,e2n]
 rw[show ∀ Q:List FV->Prop,wp (a1t (.scr ns)) Q↔Q (ns.map .int) from λ_=>Iff.rfl,show ∀ Q:List FV->Prop,wp (a1t (.scr ns)) Q↔Q (ns.map .int) from λ_=>Iff.rfl]
 have c6:a5f ns none (some 4)=ns.take 4:=(show a5f ns none (some 4)=a5f ns (some (0:Nat)) (some (4:Nat)) by simp[a5f,sIx]).trans (c0c ns (i:=0) (j:=4) (by lia))
 rw[c0d,c0d,show a5f ns (some 4) (some 63)=(ns.drop 4).take 59 from c0c ns (i:=4) (j:=63) (by lia),c6,List.length_map]
 rw[show a2l (upF 0 ((ns.drop 4).take 59).length) (((ns.drop 4).take 59).map FV.int)=((List.range ((ns.drop 4).take 59).length).zip ((ns.drop 4).take 59)).map λp:Nat×Int=>FV.tup [.int p.1,.int p.2] by rw[a2k,a8f]]
 refine a1p (f:=λp:Nat×Int=>FV.tup [.int p.1,.int p.2]) (I:=λ_ L=>∃ (ms:List Int)(x y:Option FV),ms.length=(ns.take 4).length/\L=[some (.scr ns),some (.int 4),some (.lst (ms.map .int)),x,y]) _ _ [] _ rfl ⟨ns.take 4,_,_,rfl,rfl⟩ (λdd c r L K e hI hK=>?_) λL hI=>?_
 ·obtain⟨ms,x,y,hl,rfl⟩:=hI
  have hc:c∈(List.range ((ns.drop 4).take 59).length).zip ((ns.drop 4).take 59):=by rw[List.nil_append] at e;rw[e];simp
  have h1:c.1<((ns.drop 4).take 59).length:=List.mem_range.mp (List.of_mem_zip hc).1
  have h2:c.1<59/\4<ns.length:=by simp at h1;lia
  have h6:ms.length=4:=by rw[hl];simp;lia
  obtain⟨j,hj,ej⟩:∃ j:Nat,j<4/\(c.1:Int) % 4=j:=⟨c.1 % 4,by lia,by lia⟩
  simp
  rw[ej,a4q rfl (v:=.int (ms.getD j 0)) (by rw[List.getElem?_map,List.getElem?_eq_getElem (by lia)];simp[show j<ms.length by lia])]
  refine⟨.inr (a4h (by lia) (by lia)),?_⟩
  simp
  rw[d2m rfl (by lia),<- List.map_set]
  exact hK _ ⟨_,_,_,by rw[List.length_set];exact hl,rfl⟩
 ·obtain⟨ms,x,y,hl,rfl⟩:=hI
  simp
  exact q ms (by rw[hl];simp;lia)
theorem c8k {n:Nat}{e:Ent}(h:e∈ens (Γj n none)):e.1=none/\e.2<n:=by
 obtain⟨h1,h2⟩:=mem_ens.mp h
 rw[List.length_replicate] at h1
 refine⟨?_,h1⟩
 rw[<- h2,List.getD_eq_getElem?_getD,List.getElem?_replicate,if_pos h1];rfl
theorem b8p (n:Nat) (m:Nat):∀ k,itr (Γj n none) (some m) (k+1)=none
 | 0=>by
  show (Γj n none).getD m none=none
  rw[List.getD_eq_getElem?_getD,List.getElem?_replicate]
  split<;>rfl
 | k+1=>by rw[itr,b8p n m k];rfl
theorem d2t (n:Nat):gB (Γj n none)=true:=List.all_eq_true.mpr λm hm=>by
 have hm:=List.mem_range.mp hm
 rw[List.length_replicate] at hm ⊢
 obtain⟨k,rfl⟩:∃ k,n=k+1:=⟨n-1,by lia⟩
 rw[b8p];rfl
theorem c1j {ws:List Int}{cs:List Chg}{sz:Ent->Int}(h:Sto ws cs sz):∃ x r,(((a7q (chS ws cs) ws.length).filter λb=>gB b.1).map (·.2))=x :: r:=by
 have:=a9g h ws.length (Γj ws.length none) (by simp) λe he=>by
  obtain⟨h1,h2⟩:=c8k he
  refine List.mem_append_left _ (List.mem_map.mpr ⟨e.2,List.mem_range.mpr h2,?_⟩)
  rw[<- h1]
 have h2:=List.mem_filter (p:=λb:List (Option Nat)×Int=>gB b.1).mpr ⟨this,d2t ws.length⟩
 have h3:=List.mem_map (f:=λb:List (Option Nat)×Int=>b.2).mpr ⟨_,h2,rfl⟩
 generalize (((a7q (chS ws cs) ws.length).filter λb=>gB b.1).map (·.2))=l at h3
 cases l with
 | nil=>cases h3
 | cons x r=>exact⟨x,r,rfl⟩
theorem c1k {ws:List Int}{cs:List Chg}{sz:Ent->Int}(h:Sto ws cs sz){ps:List Prc}{ls:List (Option Nat)}(t:Told ws cs sz ps ls){x:Int}{r:List Int}(e:(((a7q (chS ws cs) ws.length).filter λb=>gB b.1).map (·.2))=x :: r):a1o x r=(ps.map (·.p)).sum:=by
 apply Int.le_antisymm
 ·obtain⟨rk,hr⟩:=t.rk
  have h1:=a9g h ws.length ls t.len t.ent
  have g:gB ls=true:=List.all_eq_true.mpr λm hm=>by
   rw[b2m hr (List.mem_range.mp hm)];rfl
  have h2:((ens ls).map sz).sum∈x :: r:=by rw[<- e];exact List.mem_map.mpr ⟨_,List.mem_filter.mpr ⟨h1,g⟩,rfl⟩
  rw[t.sum] at h2
  rcases List.mem_cons.mp h2 with z|z
  ·rw[z];exact (a3p r x).1
  ·exact (a3p r x).2 _ z
 ·have h1:=a4l r x
  rw[<- e] at h1
  obtain⟨b,hb,eb⟩:=List.mem_map.mp h1
  obtain⟨hb,hg⟩:=List.mem_filter.mp hb
  obtain⟨g1,g2,g3⟩:=a6o h _ (Γi _) b hb
  obtain⟨rk,hr⟩:=d0g (λm a hm z=>(b4g h g1 g2 hm z).1) hg
  rw[<- eb,g3]
  exact t.least g1 hr g2
theorem c5e (d:Nat){ws:List Int}{cs:List Chg}{sz:Ent->Int}(h:Sto ws cs sz){Q:FV×FV->Prop}(q:Q (.dct (cs.map keyH) (cs.map λc=>.int c.2.2),.non)):callW tb (d+1) 11 [a2u ws cs] Q:=by
 have hc:=h.l
 refine a0k (fd:=e1a) rfl rfl ?_
 simp[e1a,d5q,a2u,big]
 refine⟨by lia,?_⟩
 refine b1g (f:=a2z) (g:=keyH) (h:=λc=>.int c.2.2) cs [] [] (by simp) (by simpa using h.keys) (λx hx K k=>?_) (by simpa using q)
 simp[a2z,big]
 exact k
theorem d3p (d:Nat){ls:List (Option Nat)}{r:Nat->Nat}(hr:Rk ls r)(hn:ls.length<=1000){m:Nat}(hm:m<ls.length){Q:FV×FV->Prop}(q:Q (.bl true,.non)):callW tb (d+1) 10 [.tup (ls.map a0x),.int m] Q:=by
 refine a0k (fd:=e1b) rfl rfl ?_
 simp[e1b,e2x]
 rw[c0s hm]
 refine⟨a1e (by lia) (by lia),?_⟩
 refine a2x (I:=λj L=>∃ a,L=[some (.tup (ls.map a0x)),some (.int m),some (a0x (itr ls (some m) (j+1))),a]/\(itr ls (some m) j).isSome=true) ls.length 0 _ ⟨_,rfl,rfl⟩ ?_ ?_
 ·rintro j L K-hj ⟨a,rfl,hs⟩ k
  cases e:itr ls (some m) (j+1) with
  | none=>simpa[a0x] using q
  | some p =>
   have hp:=(b8o hr hm _ p e).1
   simp[a0x]
   rw[c0s hp]
   refine k _ ⟨some (.int j),?_,by rw[e];rfl⟩
   rw[itr,e];rfl
 ·rintro L ⟨a,rfl,hs⟩
  rw[Nat.zero_add,b2m hr hm] at hs
  cases hs
theorem c6m (d:Nat){ws:List Int}{cs:List Chg}{sz:Ent->Int}(h:Sto ws cs sz){ls:List (Option Nat)}(hl:Lyg ws cs ls){Q:FV×FV->Prop}(q:Q (.bl true,.non)):callW tb (d+2) 9 [a2u ws cs,.tup (ls.map a0x)] Q:=by
 have hn:=h.n
 have hll:=hl.len
 obtain⟨r,hr⟩:=hl.rk
 refine a0k (fd:=fd9) rfl rfl ?_
 simp[fd9,bd9,a0n,b1s,hll]
 refine c5e d h ?_
 simp
 rw[<- hll,<- List.length_map (f:=a0x),b5t]
 refine a1p (f:=λm:Nat=>FV.tup [.int (m:Int),a0x (ls.getD m none)]) (I:=λ_ L=>∃ a b,L=[some (a2u ws cs),some (.tup (ls.map a0x)),some (.int (ls.map a0x).length),some (.dct (cs.map keyH) (cs.map λc=>.int c.2.2)),a,b]) (List.range ls.length) (List.range ls.length) [] _ rfl ⟨_,_,rfl⟩ (λdd m r L K e hI hK=>?_) λL hI=>?_
 ·obtain⟨x,y,rfl⟩:=hI
  have hm:m<ls.length:=List.mem_range.mp (by rw[e];simp)
  cases g:ls.getD m none with
  | none =>
   simp[a0x]
   exact hK _ ⟨some (.int m),some .non,by simp⟩
  | some a =>
   obtain⟨_,c,hc,e1,e2⟩:=hl.on hm g
   have hk:[(a:Int),(m:Int)]∈cs.map keyH:=List.mem_map.mpr ⟨c,hc,by rw[<- e1,<- e2];rfl⟩
   simp[a0x,a8i,big]
   rw[if_pos (by simpa using hk)]
   exact hK _ ⟨some (.int m),some (.int a),by simp⟩
 ·obtain⟨x,y,rfl⟩:=hI
  simp
  refine⟨a1e (by lia) (by lia),?_⟩
  rw[a2k]
  refine⟨by simp[big];lia,?_⟩
  refine a0o (f:=λi:Nat=>FV.int i) (g:=λ_=>.bl true) (List.range ls.length) [] (λi hi K k=>?_) ?_
  ·have hi:=List.mem_range.mp hi
   simp
   exact d3p d hr (by lia) hi k
  ·rw[List.nil_append,a2v (λ_=>true),a1z,show (((List.range ls.length).map λ_=>true).all id)=true by simp]
   exact q
theorem d2g (d:Nat){ws:List Int}{cs:List Chg}{sz:Ent->Int}(h:Sto ws cs sz){ls:List (Option Nat)}(hl:Lyg ws cs ls){Q:FV×FV->Prop}(q:Q (.lst (((ens ls).map sz).map .int),.non)):callW tb (d+2) 12 [a2u ws cs,.tup (ls.map a0x)] Q:=by
 have hn:=h.n
 have hll:=hl.len
 refine a0k (fd:=e0z) rfl rfl ?_
 simp[e0z,e2w]
 refine c5e d h ?_
 simp[a0n]
 rw[<- List.length_map (f:=a0x),b5t]
 refine⟨by simp[big];lia,?_⟩
 refine a0o (f:=λm:Nat=>FV.tup [.int (m:Int),a0x (ls.getD m none)]) (g:=λm=>.int (sz (ls.getD m none,m))) (List.range ls.length) [] (λm hm K k=>?_) ?_
 ·have hm:=List.mem_range.mp hm
  cases e:ls.getD m none with
  | none =>
   rw[e] at k
   simp[a0x,a0n]
   rw[a4q rfl (v:=.int (sz (none,m))) (by rw[List.getElem?_map,List.getElem?_eq_getElem (by lia),h.w m (by lia)];rfl)]
   exact k
  | some a =>
   rw[e] at k
   obtain⟨_,c,hc,e1,e2⟩:=hl.on hm e
   have hg:=c8a h hc
   rw[show keyH c=[(c.1:Int),(c.2.1:Int)] from rfl,e1,e2] at hg
   simp[a0x,big]
   rw[hg]
   exact k
 ·rw[b9k] at q
  simpa[List.map_map,Function.comp_def] using q
theorem d3b {ws:List Int}{cs:List Chg}{sz:Ent->Int}(h:Sto ws cs sz){ls:List (Option Nat)}(hl:Lyg ws cs ls):∀ x∈(ens ls).map sz,0<=x/\x<=100000000000:=λx hx=>by
 obtain⟨e,he,rfl⟩:=List.mem_map.mp hx
 have:=h.p e (hl.ent e he)
 lia
theorem c8l (ls:List (Option Nat)):(ens ls).length=ls.length:=by simp[ens]
theorem c4p (d:Nat){ws:List Int}{cs:List Chg}{sz:Ent->Int}(h:Sto ws cs sz){ls:List (Option Nat)}(hl:Lyg ws cs ls){Q:FV×FV->Prop}(q:Q (.int ((ens ls).map sz).sum,.non)):callW tb (d+3) 13 [a2u ws cs,.tup (ls.map a0x)] Q:=by
 have hn:=h.n
 have hll:=hl.len
 refine a0k (fd:=e0y) rfl rfl ?_
 simp[e0y,d5p]
 refine d2g d h hl ?_
 simp only[sq_l]
 exact a7u (by simp[c8l];lia) (d3b h hl) q
theorem d3a (S:List Nat) (m:Nat):ent S (none,m)=decide ((m:Int)∈S.map λj:Nat=>(j:Int)):=by
 have:(-1:Int) ∉ S.map λj:Nat=>(j:Int):=λz=>by
  obtain⟨x,_,h2⟩:=List.mem_map.mp z
  lia
 rw[b9j]
 simp[d5m,this]
theorem c8j (S:List Nat) (a b:Nat):ent S (some a,b)=(decide ((b:Int)∈S.map λj:Nat=>(j:Int)) && !decide ((a:Int)∈S.map λj:Nat=>(j:Int))):=b9j S (some a,b)
theorem c9m {S:List Nat}(h:S.Pairwise (· < ·)){p:Nat×Nat}(hp:p∈S.zip (S.drop 1)):p.1<p.2:=by
 obtain⟨j,hj⟩:=List.mem_iff_getElem?.mp hp
 obtain⟨h1,h2⟩:=List.getElem?_zip_eq_some.mp hj
 rw[List.getElem?_drop] at h2
 obtain⟨g1,e1⟩:=List.getElem?_eq_some_iff.mp h1
 obtain⟨g2,e2⟩:=List.getElem?_eq_some_iff.mp h2
 rw[<- e1,<- e2]
 exact List.pairwise_iff_getElem.mp h _ _ g1 g2 (by lia)
theorem b7g (d:Nat){q:Prc}{n:Nat}(h0:0<q.p)(hne:q.S≠[])(hup:q.S.Pairwise (· < ·))(hlt:∀ m∈q.S,m<n)(hl:q.S.length<=1000){Q:FV×FV->Prop}(k:Q (.bl true,.non)):callW tb (d+4) 16 [a4t q,.int n] Q:=by
 refine a0k (fd:=e0v) rfl rfl ?_
 simp[e0v,e2t,a4t,b1s,c5u,show 1<=q.p by lia]
 refine a0k (fd:=e0u) rfl rfl ?_
 simp[e0u,e2s,hne]
 refine⟨by simp[big];lia,?_⟩
 refine a0o (f:=λi:Nat=>FV.int i) (g:=λ_=>.bl true) q.S [] (λm hm K k=>?_) ?_
 ·simp[c7j,hlt m hm]
  exact k
 ·rw[List.nil_append,a2v (λ_=>true),a1z,if_neg (by simp)]
  have c1:∀ xs:List FV,a5f xs (some 1) none=xs.drop 1:=λxs=>by simpa using c4a xs 1
  simp
  rw[c1,<- List.map_drop,a8f]
  refine⟨by simp[big];lia,?_⟩
  refine a0o (g:=λ_=>.bl true) (q.S.zip (q.S.drop 1)) [] (λp hp K k=>?_) ?_
  ·have:=c9m hup hp
   simp[this]
   exact k
  ·rw[List.nil_append,a2v (λ_=>true),a1z,show (((q.S.zip (q.S.drop 1)).map λ_=>true).all id)=true by simp]
   exact k
theorem b6m {ps:List Prc}{p:Prc->Bool}(hl:ps.length<=1000)(hb:∀ q∈ps,0<=q.p/\q.p<=100000000000){R:Int->Prop}(q:R ((ps.filter p).map (·.p)).sum):wp (c5q ((ps.filter p).map λq=>FV.int q.p)) R:=by
 rw[show ((ps.filter p).map λq=>FV.int q.p)=((ps.filter p).map (·.p)).map .int by rw[List.map_map];rfl]
 refine a7u (by have:=List.length_filter_le p ps;simp;lia) (λx hx=>?_) q
 obtain⟨c,hc,rfl⟩:=List.mem_map.mp hx
 exact hb c (List.mem_filter.mp hc).1
theorem Told.pb {ws:List Int}{cs:List Chg}{sz:Ent->Int}{ps:List Prc}{ls:List (Option Nat)}(t:Told ws cs sz ps ls):∀ q∈ps,0<=q.p/\q.p<=100000000000:=λq hq=>by
 have:=t.pos q hq
 have:=t.bd q hq
 lia
theorem d2f (d:Nat){ws:List Int}{cs:List Chg}{sz:Ent->Int}(h:Sto ws cs sz){ps:List Prc}{ls:List (Option Nat)}(t:Told ws cs sz ps ls){Q:FV×FV->Prop}(q:Q (.bl true,.non)):callW tb (d+1) 18 [a2u ws cs,.lst (ps.map a4t)] Q:=by
 have hpl:=t.pl
 refine a0k (fd:=e0t) rfl rfl ?_
 simp[e0t,e2r,a0n]
 have ep:a2l (upF 0 ws.length) (ws.map .int)=(List.range ws.length).map λm:Nat=>FV.tup [.int (m:Int),.int (sz (none,m))]:=by
  rw[a2k]
  apply List.ext_getElem
  ·simp[a2l]
  ·intro i g1 g2
   simp[a2l] at g2 ⊢
   exact (h.w i g2).symm
 rw[ep]
 refine a1p (f:=λm:Nat=>FV.tup [.int (m:Int),.int (sz (none,m))]) (I:=λ_ L=>∃ a b,L=[some (a2u ws cs),some (.lst (ps.map a4t)),a,b]) (List.range ws.length) (List.range ws.length) [] _ rfl ⟨_,_,rfl⟩ (λdd m r L K e hI hK=>?_) λL hI=>?_
 ·obtain⟨x,y,rfl⟩:=hI
  have hm:m<ws.length:=List.mem_range.mp (by rw[e];simp)
  simp
  refine⟨by simp[big];lia,?_⟩
  refine a0r (f:=a4t) (g:=λq=>.int q.p) (p:=λq=>ent q.S (none,m)) ps [] (λc hc K N k1 k2=>?_) ?_
  ·simp[a4t]
   rw[b8x]
   refine a4y (λg=>k1 ?_) λg=>k2 ?_
   ·rw[d3a];exact g
   ·rw[d3a];exact Bool.eq_false_iff.mpr g
  ·rw[List.nil_append]
   refine b6m (by lia) t.pb ?_
   have:=t.low (none,m) (List.mem_append_left _ (List.mem_map.mpr ⟨m,List.mem_range.mpr hm,rfl⟩))
   rw[if_neg (by unfold due at this;lia)]
   exact hK _ ⟨_,_,rfl⟩
 ·obtain⟨x,y,rfl⟩:=hI
  simpa using q
theorem d2k (d:Nat){ws:List Int}{cs:List Chg}{sz:Ent->Int}(h:Sto ws cs sz){ps:List Prc}{ls:List (Option Nat)}(t:Told ws cs sz ps ls){Q:FV×FV->Prop}(q:Q (.bl true,.non)):callW tb (d+1) 19 [a2u ws cs,.lst (ps.map a4t)] Q:=by
 have hpl:=t.pl
 refine a0k (fd:=e0s) rfl rfl ?_
 simp[e0s,e2q,a0n]
 refine a1p (f:=a2z) (I:=λ_ L=>∃ a b c,L=[some (a2u ws cs),some (.lst (ps.map a4t)),a,b,c]) cs cs [] _ rfl ⟨_,_,_,rfl⟩ (λdd c r L K e hI hK=>?_) λL hI=>?_
 ·obtain⟨x,y,z,rfl⟩:=hI
  have hc:c∈cs:=by rw[e];simp
  simp[a2z]
  refine⟨by simp[big];lia,?_⟩
  refine a0r (f:=a4t) (g:=λq=>.int q.p) (p:=λq=>ent q.S (some c.1,c.2.1)) ps [] (λq hq K N k1 k2=>?_) ?_
  ·simp[a4t]
   rw[b8x]
   refine a4y (λg1=>?_) λg1=>?_
   ·rw[b8x]
    refine a4y (λg2=>k2 ?_) λg2=>k1 ?_
    ·rw[c8j,g1,g2];rfl
    ·rw[c8j,g1,Bool.eq_false_iff.mpr g2];rfl
   ·exact k2 (by rw[c8j,Bool.eq_false_iff.mpr g1];rfl)
  ·rw[List.nil_append]
   refine b6m (by lia) t.pb ?_
   have:=t.low (some c.1,c.2.1) (List.mem_append_right _ (List.mem_map.mpr ⟨c,hc,rfl⟩))
   rw[h.c c hc] at this
   rw[if_neg (by unfold due at this;lia)]
   exact hK _ ⟨_,_,_,rfl⟩
 ·obtain⟨x,y,z,rfl⟩:=hI
  simpa using q
theorem d1f (d:Nat){ws:List Int}{cs:List Chg}{sz:Ent->Int}(h:Sto ws cs sz){ps:List Prc}{ls:List (Option Nat)}(t:Told ws cs sz ps ls){Q:FV×FV->Prop}(q:Q (.bl true,.non)):callW tb (d+5) 15 [a2u ws cs,.lst (ps.map a4t)] Q:=by
 have hn:=h.n
 have hpl:=t.pl
 refine a0k (fd:=e0w) rfl rfl ?_
 simp[e0w,e2u]
 refine⟨by simp[big];lia,?_⟩
 refine a0o (f:=a4t) (g:=λ_=>.bl true) ps [] (λc hc K k=>?_) ?_
 ·have hlen:c.S.length<=12:=by
   have:=a6c (n:=ws.length) ((t.up c hc).imp λh=>Γo h) (t.lt c hc)
   lia
  simp[a0n]
  exact b7g d (t.pos c hc) (t.ne c hc) (t.up c hc) (t.lt c hc) (by lia) k
 ·rw[List.nil_append,a2v (λ_=>true),a1z,if_neg (by simp)]
  simp
  have inj:∀ {S T:List Nat},(S.map λi:Nat=>(i:Int))=(T.map λi:Nat=>(i:Int))->S=T:=λ{S T} e=>by
   have:=congrArg (List.map Int.toNat) e
   simpa[List.map_map,Function.comp_def] using this
  refine b1d (f:=a4t) (g:=λq:Prc=>q.S.map λi:Nat=>(i:Int)) ps [] ?_ (by simp;lia) (λc hc K k=>?_) ?_
  ·have:=t.dst
   rw[List.nil_append]
   rw[List.Nodup,List.pairwise_map] at this ⊢
   exact this.imp λh e=>h (inj e)
  ·simp[a4t]
   simpa[List.map_map,Function.comp_def] using k
  ·simp
   refine d2f (d+3) h t ?_
   simp
   exact d2k (d+3) h t q
theorem b3f (d:Nat){ws:List Int}{cs:List Chg}{sz:Ent->Int}(h:Sto ws cs sz){ps:List Prc}{l0 ls:List (Option Nat)}(t:Told ws cs sz ps l0)(hl:Lyg ws cs ls){i:Int}{Q:FV×FV->Prop}(q:Q (.bl (decide (((ens ls).map sz).sum=i/\(ps.map (·.p)).sum=i)),.non)):callW tb (d+6) 14 [a2u ws cs,.tup [.int i,.tup (ls.map a0x),.lst (ps.map a4t)]] Q:=by
 have hpl:=t.pl
 refine a0k (fd:=e0x) rfl rfl ?_
 simp[e0x,e2v,b1s,a8i]
 refine c6m (d+3) h hl ?_
 simp
 refine d1f d h t ?_
 simp
 refine c4p (d+2) h hl ?_
 simp
 by_cases e1:((ens ls).map sz).sum=i
 ·simp[e1]
  refine⟨by simp[big];lia,?_⟩
  refine a0o (f:=a4t) (g:=λq=>.int q.p) ps [] (λq hq K k=>?_) ?_
  ·simp[a4t]
   exact k
  ·rw[List.nil_append,show (ps.map λq=>FV.int q.p)=(ps.map (·.p)).map .int by rw[List.map_map];rfl]
   refine a7u (by simp;lia) (λx hx=>?_) ?_
   ·obtain⟨c,hc,rfl⟩:=List.mem_map.mp hx
    exact t.pb c hc
   ·rw[e1] at q
    simp at q ⊢
    exact q
 ·rw[show decide (((ens ls).map sz).sum=i/\(ps.map (·.p)).sum=i)=false from decide_eq_false λz=>e1 z.1] at q
  rw[if_neg e1,show (((ens ls).map sz).sum == i)=false by simpa using e1]
  exact q
structure Der (ws:List Int)(cs:List Chg)(ls:List (Option Nat))(ws':List Int)(cs':List Chg):Prop where
 n:ws'.length=ws.length
 w:∀ m,m<ws.length->ws.getD m 0<=ws'.getD m 0/\ws'.getD m 0<=1000000000/\(ls.getD m none=none->ws'.getD m 0=ws.getD m 0)
 c:∀ x∈cs',∃ c∈cs,c.1=x.1/\c.2.1=x.2.1/\c.2.2<=x.2.2/\x.2.2<=1000000000
 k:(cs'.map λc=>(c.1,c.2.1)).Sublist (cs.map λc=>(c.1,c.2.1))
 u:∀ c∈cs,ls.getD c.2.1 none=some c.1->c∈cs'
theorem Der.gs {ws:List Int}{cs:List Chg}{ls:List (Option Nat)}{ws':List Int}{cs':List Chg}(h:Der ws cs ls ws' cs')(g:GsB 1000000000 ws cs):GsB 1000000100 ws' cs':=by
 have hn:=h.n
 refine⟨by rw[hn];exact g.n,λx hx=>?_,λx hx=>?_,?_,g.d.sublist h.k⟩
 ·obtain⟨m,hm,rfl⟩:=List.mem_iff_getElem.mp hx
  have h1:=h.w m (by lia)
  have h2:=g.w _ (List.getElem_mem (show m<ws.length by lia))
  simp[hm,show m<ws.length by lia] at h1
  lia
 ·obtain⟨c,hc,e1,e2,h1,h2⟩:=h.c x hx
  have:=g.c c hc
  rw[hn,<- e1,<- e2]
  exact⟨this.1,this.2.1,this.2.2.1,by lia,by lia⟩
 ·have:=h.k.length_le
  have:=g.l
  simp at this ⊢
  simp at *
  lia
theorem Der.told {ws:List Int}{cs:List Chg}{ls:List (Option Nat)}{ws':List Int}{cs':List Chg}{ps:List Prc}(h:Der ws cs ls ws' cs')(g:GsB 1000000000 ws cs)(t:Told ws cs (szF ws cs) ps ls):Told ws' cs' (szF ws' cs') ps ls:=by
 have S:=(g.mono (C:=1000000100) (by lia)).sto
 have S':=(h.gs g).sto
 have hn:=h.n
 have hw:∀ m,m<ws.length->szF ws cs (none,m)<=szF ws' cs' (none,m):=λm hm=>(h.w m hm).1
 have ent:∀ e∈ens ls,e∈a3y ws'.length cs'/\szF ws' cs' e=szF ws cs e:=λe he=>by
  obtain⟨h1,h2⟩:=mem_ens.mp he
  obtain⟨o,m⟩:=e
  rcases List.mem_append.mp (t.ent _ he) with z|z
  ·obtain⟨x,hx,z⟩:=List.mem_map.mp z
   cases z
   have hx:=List.mem_range.mp hx
   exact⟨List.mem_append_left _ (List.mem_map.mpr ⟨m,List.mem_range.mpr (by lia),rfl⟩),(h.w m hx).2.2 h2⟩
  ·obtain⟨c,hc,z⟩:=List.mem_map.mp z
   cases z
   have:=h.u c hc h2
   exact⟨List.mem_append_right _ (List.mem_map.mpr ⟨c,this,rfl⟩),(S'.c c this).trans (S.c c hc).symm⟩
 refine⟨by rw[hn];exact t.len,t.rk,λe he=>(ent e he).1,?_,λe he=>?_,t.pos,t.bd,t.ne,t.up,by rw[hn];exact t.lt,t.dst,t.pl⟩
 ·rw[<- t.sum]
  exact congrArg List.sum (List.map_congr_left λe he=>(ent e he).2)
 ·rcases List.mem_append.mp he with z|z
  ·obtain⟨m,hm,rfl⟩:=List.mem_map.mp z
   have hm:=List.mem_range.mp hm
   rw[hn] at hm
   exact Int.le_trans (t.low _ (List.mem_append_left _ (List.mem_map.mpr ⟨m,List.mem_range.mpr hm,rfl⟩))) (hw m hm)
  ·obtain⟨x,hx,rfl⟩:=List.mem_map.mp z
   obtain⟨c,hc,e1,e2,h1,h2⟩:=h.c x hx
   have:=t.low _ (List.mem_append_right _ (List.mem_map.mpr ⟨c,hc,rfl⟩))
   rw[S.c c hc] at this
   rw[S'.c x hx,<- e1,<- e2]
   lia
theorem Told.same {ws:List Int}{cs:List Chg}{sz:Ent->Int}{ps ps2:List Prc}{ls ls2:List (Option Nat)}(t:Told ws cs sz ps ls)(t2:Told ws cs sz ps2 ls2):(ps2.map (·.p)).sum=(ps.map (·.p)).sum:=by
 obtain⟨r,hr⟩:=t.rk
 obtain⟨r2,hr2⟩:=t2.rk
 have h1:=t.least t2.len hr2 t2.ent
 have h2:=t2.least t.len hr t.ent
 rw[t2.sum] at h1
 rw[t.sum] at h2
 lia
theorem c6x (ws:List Int):a2l (upF 0 ws.length) (ws.map .int)=(List.range ws.length).map λm:Nat=>FV.tup [.int (m:Int),.int (ws.getD m 0)]:=by
 rw[a2k]
 apply List.ext_getElem
 ·simp[a2l]
 ·intro i g1 g2
  simp[a2l] at g2 ⊢
  simp[g2]
theorem d8n (o:Option Nat)(Q:FV->Prop):wp (a1b (a0x o)) Q↔Q (.bl o.isSome):=by
 cases o<;>exact Iff.rfl
theorem c4u {x u:Int}(h:x<1000000000)(h0:0<=u):x<=(if x+u<1000000000 then x+u else 1000000000)/\(if x+u<1000000000 then x+u else 1000000000)<=1000000000/\(u=0->(if x+u<1000000000 then x+u else 1000000000)=x):=by
 split<;>lia
theorem b9y (d:Nat){N:Int}{v:FV}{o:Int}{ws:List Int}{cs:List Chg}{ls:List (Option Nat)}(hs:Lf N v)(h0:0<=N)(hN:N<90000)(g:GsB 1000000000 ws cs)(hl:ls.length=ws.length)(ho:0<o)(ho2:o<=100){Q:FV×FV->Prop}(q:∀ ws' cs' v',Der ws cs ls ws' cs'->Lf (N+500) v'->Q (a2u ws' cs',v')):callW tb (d+3) 30 [v,a2u ws cs,.tup (ls.map a0x),.int o] Q:=by
 have hn:=g.n
 have hcl:=g.l
 refine a0k (fd:=e0j) rfl rfl ?_
 simp[e0j,e2i,a0n]
 rw[c6x]
 refine a1p (f:=λm:Nat=>FV.tup [.int (m:Int),.int (ws.getD m 0)]) (I:=λds L=>∃ v' a b,∃ xs:List Int,L=[some v',some (a2u ws cs),some (.tup (ls.map a0x)),some (.int o),some (.lst (xs.map .int)),a,b,none,none,none]/\xs.length=ds.length/\(∀ m,m<ds.length->ws.getD m 0<=xs.getD m 0/\xs.getD m 0<=1000000000/\(ls.getD m none=none->xs.getD m 0=ws.getD m 0))/\Lf (N+ds.length) v') (List.range ws.length) (List.range ws.length) [] _ rfl ⟨v,_,_,[],rfl,rfl,λm hm=>absurd hm (Nat.not_lt_zero _),hs.mono (by simp)⟩ (λds m r L K e hI hK=>?_) λL hI=>?_
 ·obtain⟨v',a,b,xs,rfl,hx,hw,hv⟩:=hI
  have hm:m=ds.length/\ds.length<ws.length:=by
   have h1:=congrArg List.length e
   simp at h1
   have h2:=congrArg (·[ds.length]?) e
   simp at h2
   rw[List.getElem?_range (by lia)] at h2
   exact⟨(Option.some.inj h2).symm,by lia⟩
  obtain⟨rfl,hd⟩:=hm
  simp
  refine⟨by decide,?_⟩
  rw[c0s (by lia),d8n]
  simp
  refine a1l (d) hv (by lia) ho (by lia) λu v2 u0 u1 l2=>?_
  simp
  refine⟨.inl (by generalize (ls[ds.length]?.getD none).isSome=b;cases b<;>decide),by simp only[big];lia,?_⟩
  have hb:=g.w _ (List.getElem_mem hd)
  have hb2:ws.getD ds.length 0<1000000000:=by simp[hd];lia
  have hu:0<=(if (ls.getD ds.length none).isSome=true then (1:Int) else 0)*u:=by split<;>lia
  have B:=c4u hb2 hu
  generalize ez:(if ws.getD ds.length 0+(if (ls.getD ds.length none).isSome=true then (1:Int) else 0)*u<1000000000 then ws.getD ds.length 0+(if (ls.getD ds.length none).isSome=true then (1:Int) else 0)*u else 1000000000)=z at B
  refine hK _ ⟨v2,some (.int ds.length),some (.int (ws[ds.length]?.getD 0)),xs++[z],by simp[<- ez],by simp[hx],λm hm=>?_,l2.mono (by simp;lia)⟩
  simp at hm
  by_cases c:m=ds.length
  ·subst c
   rw[show (xs++[z]).getD ds.length 0=z by simp[List.getD_eq_getElem?_getD,<- hx]]
   refine⟨B.1,B.2.1,λhz=>B.2.2 (by rw[hz];simp)⟩
  ·rw[show (xs++[z]).getD m 0=xs.getD m 0 by simp[List.getD_eq_getElem?_getD,List.getElem?_append_left (show m<xs.length by lia)]]
   exact hw m (by lia)
 ·obtain⟨v',a,b,ws',rfl,hx,hw,hv⟩:=hI
  simp[a0n]
  simp at hx hw hv
  refine a1p (f:=a2z) (I:=λds L=>∃ v' x y z,∃ cs':List Chg,L=[some v',some (a2u ws cs),some (.tup (ls.map a0x)),some (.int o),some (.lst (ws'.map .int)),a,x,some (.lst (cs'.map a2z)),y,z]/\(∀ x∈cs',∃ c∈ds,c.1=x.1/\c.2.1=x.2.1/\c.2.2<=x.2.2/\x.2.2<=1000000000)/\(cs'.map λc=>(c.1,c.2.1)).Sublist (ds.map λc=>(c.1,c.2.1))/\(∀ c∈ds,ls.getD c.2.1 none=some c.1->c∈cs')/\Lf (N+12+2*ds.length) v') cs cs [] _ rfl ⟨v',_,_,_,[],rfl,λx hx=>absurd hx List.not_mem_nil,List.Sublist.refl _,λc hc=>absurd hc List.not_mem_nil,hv.mono (by simp;lia)⟩ (λds c r L K e hI hK=>?_) λL hI=>?_
  ·obtain⟨v',x,y,z,cs',rfl,h1,h2,h3,hv⟩:=hI
   have hc:c∈cs:=by rw[e];simp
   have gc:=g.c c hc
   have hdl:ds.length<=144:=by have:=congrArg List.length e;simp at this;lia
   have hcl':cs'.length<=144:=by have:=h2.length_le;simp at this;lia
   have more:∀ (s:Int) v',c.2.2<=s->s<=1000000000->(ls.getD c.2.1 none=some c.1->s=c.2.2)->Lf (N+12+2*ds.length+2) v'->K [some v',some (a2u ws cs),some (.tup (ls.map a0x)),some (.int o),some (.lst (ws'.map .int)),a,some (.int c.2.2),some (.lst (cs'.map a2z++[.tup [.int c.1,.int c.2.1,.int s]])),some (.int c.1),some (.int c.2.1)]:=λs v' s1 s2 s3 l=>hK _ ⟨v',some (.int c.2.2),some (.int c.1),some (.int c.2.1),cs'++[(c.1,c.2.1,s)],by simp[a2z],λx hx=>by
    rcases List.mem_append.mp hx with w|w
    ·obtain⟨c0,g1,g2⟩:=h1 x w
     exact⟨c0,List.mem_append_left _ g1,g2⟩
    ·rw[List.mem_singleton.mp w]
     exact⟨c,by simp,rfl,rfl,s1,s2⟩,by rw[List.map_append,List.map_append];exact h2.append (List.Sublist.refl _),λc0 hc0 w=>by
    rcases List.mem_append.mp hc0 with w0|w0
    ·exact List.mem_append_left _ (h3 c0 w0 w)
    ·rw[List.mem_singleton.mp w0] at w ⊢
     rw[s3 w];simp,l.mono (by simp;lia)⟩
   have skip:∀ v',ls.getD c.2.1 none≠some c.1->Lf (N+12+2*ds.length+2) v'->K [some v',some (a2u ws cs),some (.tup (ls.map a0x)),some (.int o),some (.lst (ws'.map .int)),a,some (.int c.2.2),some (.lst (cs'.map a2z)),some (.int c.1),some (.int c.2.1)]:=λv' s3 l=>hK _ ⟨v',_,_,_,cs',rfl,λx hx=>by
     obtain⟨c0,g1,g2⟩:=h1 x hx
     exact⟨c0,List.mem_append_left _ g1,g2⟩,by rw[List.map_append];exact h2.trans (List.sublist_append_left _ _),λc0 hc0 w=>by
    rcases List.mem_append.mp hc0 with w0|w0
    ·exact h3 c0 w0 w
    ·rw[List.mem_singleton.mp w0] at w;exact absurd w s3,l.mono (by simp;lia)⟩
   simp[a2z]
   rw[c0s (by lia),show FV.int (c.1:Int)=a0x (some c.1) from rfl,codL.eq]
   refine a4y (λz=>?_) λz=>?_
   ·have z:=of_decide_eq_true z
    refine⟨by decide,by simp only[big];lia,?_⟩
    exact more _ _ (Int.le_refl _) (by lia) (λ_=>rfl) (hv.mono (by lia))
   ·have z:¬ ls.getD c.2.1 none=some c.1:=λw=>z (decide_eq_true w)
    refine a1l d hv (by lia) (by decide) (by decide) λu v2 u0 u1 l2=>?_
    simp
    refine a4y (λ_=>?_) λ_=>skip _ z (l2.mono (by lia))
    refine⟨by decide,?_⟩
    refine a1l d l2 (by lia) ho (by lia) λw v3 w0 w1 l3=>?_
    have B:=c4u (x:=c.2.2) (u:=w) (by lia) w0
    simp
    refine⟨by decide,by simp only[big];lia,?_⟩
    exact more _ _ B.1 B.2.1 (λy=>absurd y z) (l3.mono (by lia))
  ·obtain⟨v',x,y,z,cs',rfl,h1,h2,h3,hv⟩:=hI
   simp
   exact⟨by decide,q ws' cs' v' ⟨hx,hw,h1,h2,h3⟩ (hv.mono (by lia))⟩
structure Mor (ws:List Int)(cs cs':List Chg):Prop where
 g:GsB 1000000100 ws cs'
 c:∀ c∈cs,∃ x∈cs',x.1=c.1/\x.2.1=c.2.1/\x.2.2<=c.2.2
theorem Mor.lyg {ws:List Int}{cs cs':List Chg}(h:Mor ws cs cs')(g:GsB 1000000000 ws cs){ls:List (Option Nat)}(l:Lyg ws cs ls):Lyg ws cs' ls/\((ens ls).map (szF ws cs')).sum<=((ens ls).map (szF ws cs)).sum:=by
 have S:=(g.mono (C:=1000000100) (by lia)).sto
 have S':=h.g.sto
 have ent:∀ e∈ens ls,e∈a3y ws.length cs'/\szF ws cs' e<=szF ws cs e:=λe he=>by
  rcases List.mem_append.mp (l.ent _ he) with z|z
  ·refine⟨List.mem_append_left _ z,?_⟩
   obtain⟨x,hx,rfl⟩:=List.mem_map.mp z
   exact Int.le_refl _
  ·obtain⟨c,hc,rfl⟩:=List.mem_map.mp z
   obtain⟨x,hx,e1,e2,h1⟩:=h.c c hc
   refine⟨List.mem_append_right _ (List.mem_map.mpr ⟨x,hx,by rw[e1,e2]⟩),?_⟩
   have:=S'.c x hx
   rw[e1,e2] at this
   rw[this,S.c c hc];exact h1
 refine⟨⟨l.len,l.rk,λe he=>(ent e he).1⟩,?_⟩
 have:=λe he=>(ent e he).2
 generalize ens ls=E at this
 clear ent
 induction E with
 | nil=>exact Int.le_refl _
 | cons e r ih =>
  have h1:=this e Γn
  have h2:=ih λx hx=>this x (Γh _ hx)
  simp only[List.map_cons,List.sum_cons]
  lia
theorem GsB.len4 {B:Int}{ws:List Int}{cs:List Chg}(g:GsB B ws cs)(hn:ws.length<=4):cs.length<=16:=by
 have:=a6c (n:=16) (D:=cs.map λc=>c.1*4+c.2.1) ?_ λx hx=>?_
 ·simpa using this
 ·have hd:=g.d
  rw[List.Nodup,List.pairwise_map] at hd ⊢
  refine hd.imp_of_mem λ{a b} ha hb hne e=>hne ?_
  have h1:=g.c a ha
  have h2:=g.c b hb
  exact Prod.ext (by dsimp only;lia) (by dsimp only;lia)
 ·obtain⟨c,hc,rfl⟩:=List.mem_map.mp hx
  have:=g.c c hc
  lia
theorem Mor.perm {ws:List Int}{cs c1 c2:List Chg}(h:Mor ws cs c1)(p:c2.Perm c1):Mor ws cs c2 :=
 ⟨⟨h.g.n,h.g.w,λx hx=>h.g.c x (p.mem_iff.mp hx),by rw[p.length_eq];exact h.g.l,(p.map _).nodup_iff.mpr h.g.d⟩,λc hc=>let ⟨x,hx,k⟩:=h.c c hc;⟨x,p.mem_iff.mpr hx,k⟩⟩
theorem c5a (c:Chg) (a b:Nat)(R:Bool->Prop):wp (eqF (.tup [.int c.1,.int c.2.1]) (.tup [.int (a:Int),.int (b:Int)])) R↔R (decide ((c.1,c.2.1)=(a,b))):=by
 have h:=codM.eq [c.1,c.2.1] [a,b] R
 rw[show decide ((c.1,c.2.1)=(a,b))=decide ([c.1,c.2.1]=[a,b]) from decide_eq_decide.mpr (by simp)]
 exact h
theorem c7i (d:Nat){N:Int}{v:FV}{ws:List Int}{cs:List Chg}(hs:Lf N v)(h0:0<=N)(hN:N<90000)(g:GsB 1000000000 ws cs)(hn:ws.length<=4)(h1:1<ws.length){Q:FV×FV->Prop}(q:∀ cs' v',Mor ws cs cs'->Lf (N+3) v'->Q (a2u ws cs',v')):callW tb (d+3) 31 [v,a2u ws cs] Q:=by
 have hcl:=g.len4 hn
 refine a0k (fd:=e0i) rfl rfl ?_
 simp[e0i,e2h,a0n]
 refine a1l d hs (by lia) (by lia) (by lia) λa v1 a0 a1 l1=>?_
 simp
 refine a1l d l1 (by lia) (by lia) (by lia) λb v2 b0 b1 l2=>?_
 obtain⟨a,rfl⟩:∃ k:Nat,a=k:=⟨a.toNat,by lia⟩
 obtain⟨b,rfl⟩:∃ k:Nat,b=k:=⟨b.toNat,by lia⟩
 simp[a0n,big]
 refine⟨by lia,?_⟩
 refine a0r (f:=a2z) (g:=a2z) (p:=λc=>decide ((c.1,c.2.1)≠(a,b))) cs [] (λc hc K N k1 k2=>?_) ?_
 ·simp[a2z,big]
  rw[show (2:Int)=((2:Nat):Int) from rfl,c5c]
  simp
  rw[c5a]
  refine a4y (λz=>k2 ?_) λz=>k1 ?_
  ·exact decide_eq_false λw=>w (of_decide_eq_true z)
  ·exact decide_eq_true λw=>z (decide_eq_true w)
 ·rw[List.nil_append]
  have hF1:∀ x∈cs.filter λc=>decide ((c.1,c.2.1)≠(a,b)),x∈cs/\(x.1,x.2.1)≠(a,b):=λx hx=>⟨(List.mem_filter.mp hx).1,of_decide_eq_true (List.mem_filter.mp hx).2⟩
  have hF2:∀ x∈cs,(x.1,x.2.1)≠(a,b)->x∈cs.filter λc=>decide ((c.1,c.2.1)≠(a,b)):=λx hx z=>List.mem_filter.mpr ⟨hx,decide_eq_true z⟩
  have hF3:((cs.filter λc=>decide ((c.1,c.2.1)≠(a,b))).map λc=>(c.1,c.2.1)).Nodup:=g.d.sublist (List.filter_sublist.map _)
  have hfl:=List.length_filter_le (λc:Chg=>decide ((c.1,c.2.1)≠(a,b))) cs
  generalize (cs.filter λc=>decide ((c.1,c.2.1)≠(a,b)))=F at hF1 hF2 hF3 hfl
  have M:∀ (c:Chg),c.1=a->c.2.1=b->a≠b->1<=c.2.2->c.2.2<=20->(∀ x∈cs,(x.1,x.2.1)=(a,b)->c.2.2<=x.2.2)->Mor ws cs (F++[c]):=λc ea eb hne c1 c2 hle=>by
   refine⟨⟨g.n,λx hx=>by have:=g.w x hx;lia,λx hx=>?_,?_,?_⟩,λx hx=>?_⟩
   ·rcases List.mem_append.mp hx with z|z
    ·have:=g.c x (hF1 x z).1;lia
    ·rw[List.mem_singleton.mp z];lia
   ·rw[List.length_append,List.length_singleton];lia
   ·rw[List.map_append]
    refine List.nodup_append.mpr ⟨hF3,by simp,λx hx y hy e=>?_⟩
    obtain⟨w,hw,rfl⟩:=List.mem_map.mp hx
    simp at hy
    rw[hy,ea,eb] at e
    exact (hF1 w hw).2 e
   ·by_cases z:(x.1,x.2.1)=(a,b)
    ·refine⟨c,by simp,?_,?_,hle x hx z⟩
     ·rw[ea];exact (congrArg Prod.fst z).symm
     ·rw[eb];exact (congrArg Prod.snd z).symm
    ·exact⟨x,List.mem_append_left _ (hF2 x hx z),rfl,rfl,Int.le_refl _⟩
  simp
  refine a4y (λhab=>?_) λhab=>?_
  ·have hab:a=b:=by lia
   have M0:Mor ws cs F:=by
    refine⟨⟨g.n,λx hx=>by have:=g.w x hx;lia,λx hx=>by have:=g.c x (hF1 x hx).1;lia,by lia,hF3⟩,λx hx=>⟨x,hF2 x hx λz=>?_,rfl,rfl,Int.le_refl _⟩⟩
    have h1:=congrArg Prod.fst z
    have h2:=congrArg Prod.snd z
    have:=(g.c x hx).2.2.1
    dsimp only at h1 h2
    lia
   refine⟨b6b _,by lia,λys hy=>?_⟩
   obtain⟨c2,h2,rfl⟩:=a5c hy _ rfl
   exact q c2 _ (M0.perm h2) (l2.mono (by lia))
  ·simp[a0n,big]
   refine⟨by lia,?_⟩
   refine a0r (f:=a2z) (g:=λc=>.int c.2.2) (p:=λc=>decide ((c.1,c.2.1)=(a,b))) cs [] (λc hc K N k1 k2=>?_) ?_
   ·simp[a2z,big]
    rw[c5a]
    exact a4y (λz=>k1 z) λz=>k2 (Bool.eq_false_iff.mpr z)
   ·rw[List.nil_append]
    have hO1:∀ x∈cs.filter λc=>decide ((c.1,c.2.1)=(a,b)),x∈cs:=λx hx=>(List.mem_filter.mp hx).1
    have hO2:∀ x∈cs,(x.1,x.2.1)=(a,b)->x∈cs.filter λc=>decide ((c.1,c.2.1)=(a,b)):=λx hx z=>List.mem_filter.mpr ⟨hx,decide_eq_true z⟩
    have hfl2:=List.length_filter_le (λc:Chg=>decide ((c.1,c.2.1)=(a,b))) cs
    generalize (cs.filter λc=>decide ((c.1,c.2.1)=(a,b)))=O at hO1 hO2 hfl2
    simp
    refine a1l d l2 (by lia) (by decide) (by decide) λu v3 u0 u1 l3=>?_
    simp[big]
    rw[show (FV.int (1+u) :: (O.map λc=>FV.int c.2.2))=((1+u) :: (O.map λc=>c.2.2)).map .int by simp,b2g rfl]
    have hle:=a3p (O.map λc=>c.2.2) (1+u)
    have hin:=a4l (O.map λc=>c.2.2) (1+u)
    generalize a1o (1+u) (O.map λc=>c.2.2)=z at hle hin
    have z1:1<=z:=by
     rcases List.mem_cons.mp hin with w|w
     ·lia
     ·obtain⟨c,hc,rfl⟩:=List.mem_map.mp w
      exact (g.c c (hO1 c hc)).2.2.2.1
    have M1:=M (a,b,z) rfl rfl (by lia) z1 (by dsimp only;lia) λx hx hk=>hle.2 _ (List.mem_map.mpr ⟨x,hO2 x hx hk,rfl⟩)
    refine⟨by lia,by lia,?_⟩
    rw[a0n]
    rw[show (F.map a2z++[FV.tup [FV.int (a:Int),FV.int (b:Int),FV.int z]])=(F++[(a,b,z)]).map a2z by simp[a2z]]
    simp
    refine⟨by simpa using b6b (F++[(a,b,z)]),by lia,λys hy=>?_⟩
    obtain⟨c2,h2,rfl⟩:=a5c (f:=a2z) hy (F++[(a,b,z)]) (by simp)
    exact q c2 _ (M1.perm h2) (l3.mono (by lia))
theorem b1t (ws:List Int)(cs:List Chg) (o:Int):a3y (ws.map λw=>o*w).length (cs.map λc=>(c.1,c.2.1,o*c.2.2))=a3y ws.length cs:=by
 simp[a3y,Function.comp_def]
theorem c1l (d:Nat){o:Int}{ws:List Int}{cs:List Chg}(g:GsB 1000000000 ws cs)(ho:0<=o)(ho2:o<=10){Q:FV×FV->Prop}(q:Q (a2u (ws.map λw=>o*w) (cs.map λc=>(c.1,c.2.1,o*c.2.2)),.non)):callW tb (d+1) 32 [a2u ws cs,.int o] Q:=by
 have hn:=g.n
 have hcl:=g.l
 have so:a2f o=true:=a4h ho (by lia)
 refine a0k (fd:=e0h) rfl rfl ?_
 simp[e0h,e2g,a0n,big]
 refine⟨by lia,?_⟩
 refine a0o (f:=FV.int) (g:=λw=>.int (o*w)) ws [] (λw hw K k=>?_) ?_
 ·simp[so]
  exact k
 ·rw[List.nil_append]
  simp[a0n,big]
  refine⟨by lia,?_⟩
  refine a0o (f:=a2z) (g:=λc=>a2z (c.1,c.2.1,o*c.2.2)) cs [] (λc hc K k=>?_) ?_
  ·simp[so,a2z,big]
   exact k
  ·rw[List.nil_append]
   simpa[a2u,List.map_map,Function.comp_def] using q
theorem c5n {o:Int}{ws:List Int}{cs:List Chg}(g:GsB 1000000000 ws cs)(ho:0<o)(ho2:o<=10)(hw:∀ x∈ws,x<100000000)(hc:∀ c∈cs,c.2.2<100000000):Sto (ws.map λw=>o*w) (cs.map λc=>(c.1,c.2.1,o*c.2.2)) λe=>o*szF ws cs e:=by
 have S:=(g.mono (C:=1000000100) (by lia)).sto
 have bd:∀ x:Int,0<x->x<100000000->0<o*x/\o*x<=2000000000:=λx h1 h2=>by
  refine⟨Int.mul_pos ho h1,?_⟩
  have:=Int.mul_le_mul ho2 (show x<=100000000 by lia) (by lia) (by lia)
  lia
 refine⟨by simpa using S.n,by simpa using S.l,λm hm=>?_,λc hx=>?_,λc hx=>?_,?_,λe he=>?_⟩
 ·simp only[List.length_map] at hm
  rw[S.w m hm];simp
 ·obtain⟨x,hy,rfl⟩:=List.mem_map.mp hx
  rw[S.c x hy]
 ·obtain⟨x,hy,rfl⟩:=List.mem_map.mp hx
  have:=S.r x hy
  simpa using this
 ·rw[List.map_map];exact S.k
 ·rw[b1t] at he
  have h0:=(S.p e he).1
  refine bd _ h0 ?_
  rcases List.mem_append.mp he with z|z
  ·obtain⟨m,hm,rfl⟩:=List.mem_map.mp z
   rw[S.w m (List.mem_range.mp hm)]
   exact hw _ (List.getElem_mem _)
  ·obtain⟨c,hx,rfl⟩:=List.mem_map.mp z
   rw[S.c c hx]
   exact hc c hx
theorem b6j (o:Int)(f:Ent->Int):∀ E:List Ent,(E.map λe=>o*f e).sum=o*(E.map f).sum
 | []=>by simp
 | e :: r=>by
  simp only[List.map_cons,List.sum_cons,b6j o f r,Int.mul_add]
theorem c9q {o:Int}{ws:List Int}{cs:List Chg}(ho:0<o){ps ps2:List Prc}{ls ls2:List (Option Nat)}(t:Told ws cs (szF ws cs) ps ls)(t2:Told (ws.map λw=>o*w) (cs.map λc=>(c.1,c.2.1,o*c.2.2)) (λe=>o*szF ws cs e) ps2 ls2):(ps2.map (·.p)).sum=o*(ps.map (·.p)).sum:=by
 obtain⟨r,hr⟩:=t.rk
 obtain⟨r2,hr2⟩:=t2.rk
 have e2:=t2.ent
 rw[b1t] at e2
 have h1:=t.least (by rw[t2.len];simp) hr2 e2
 have h2:=t2.least (by rw[t.len];simp) hr (by rw[b1t];exact t.ent)
 have h3:=t2.sum
 rw[b6j] at h2 h3
 rw[t.sum] at h2
 have:=Int.mul_le_mul_of_nonneg_left h1 (show 0<=o by lia)
 lia
def dQ (b:List (Option Nat)×Int):D:=.tup [.tup (b.1.map dLo),.int b.2]
theorem b9i:∀ S T:List (Option Nat),D.eqvs (S.map dLo) (T.map dLo)=decide (S=T)
 | [],[]=>by simp[D.eqvs]
 | [],b :: T=>by simp[D.eqvs]
 | a :: S,[]=>by simp[D.eqvs]
 | a :: S,b :: T=>by
  simp only[List.map_cons,D.eqvs,codL.e,b9i S T]
  rw[Bool.eq_iff_iff]
  simp
theorem codQ:Cod a6v dQ:=⟨λk b=>by
 have h1:fD (k+2) (.tup (b.1.map a0x))=some (.tup (b.1.map dLo)):=by
  show (a7h (fD (k+1)) (b.1.map a0x)).map D.tup=_
  rw[a4k (g:=dLo) λx=>by cases x<;>rfl];rfl
 show ((fD (k+2) (.tup (b.1.map a0x))).bind λy=>(a7h (fD (k+2)) [FV.int b.2]).map (y :: ·)).map D.tup=_
 rw[h1];rfl,λx y=>by
 show (D.eqvs (x.1.map dLo) (y.1.map dLo) && (D.eqv (.int x.2) (.int y.2) && D.eqvs [] []))=_
 rw[b9i,codI.e]
 rw[Bool.eq_iff_iff]
 simp[D.eqvs,Prod.ext_iff]⟩
theorem b6e {ws:List Int}{cs:List Chg}{sz:Ent->Int}(h:Sto ws cs sz){b:List (Option Nat)×Int}(hb:b∈(a7q (chS ws cs) ws.length).filter λb=>gB b.1):Lyg ws cs b.1/\b.2=((ens b.1).map sz).sum:=by
 obtain⟨hb,hg⟩:=List.mem_filter.mp hb
 obtain⟨g1,g2,g3⟩:=a6o h _ (Γi _) b hb
 exact⟨⟨g1,d0g (λm a hm z=>(b4g h g1 g2 hm z).1) hg,g2⟩,g3⟩
theorem b4r {ws:List Int}{cs:List Chg}{sz:Ent->Int}(h:Sto ws cs sz){ps:List Prc}{ls:List (Option Nat)}(t:Told ws cs sz ps ls):(ls,(ps.map (·.p)).sum)∈(a7q (chS ws cs) ws.length).filter λb=>gB b.1:=by
 obtain⟨rk,hr⟩:=t.rk
 have h1:=a9g h ws.length ls t.len t.ent
 rw[t.sum] at h1
 exact List.mem_filter.mpr ⟨h1,List.all_eq_true.mpr λm hm=>by rw[b2m hr (List.mem_range.mp hm)];rfl⟩
def c1m:SW:=(a0p (a1n (eOp a4s (eC (.int 2)) (a0q (callW tb 13) 22 3 (a0a (eC (.int 5)) a0i))) (.nm 13)) (a0p (a1n (eUn c4g (a1h 15 1 (a3g (eOp a4s (eUn a4c (eOp ixF (a0b 4) (eC (.int 0)))) (a1h 15 1 (a3g (eOp ixF (a0b 4) (eC (.int 1)))) (.nm 15) a1i (eOp ixF (a0b 15) (eC (.int 2)))))) (.nm 15) a1i (eOp ltN (a0b 15) (eOp c2h (eC (.int 10)) (eC (.int 8)))))) (.nm 14)) (sIf (b5p (a1f (a0b 14)) (a1f (eOp neB (eOp ixF (a1a (callW tb 13) 0 (a0a (a1a (callW tb 13) 32 (a0a (a0b 4) (a0a (a0b 13) a0i))) a0i)) (eC (.int 0))) (eOp b2d (a0b 13) (a0b 5))))) (a1s (eC (.bl false))) a4b)))
theorem c5o {ns ms:List Int}{k N:Int}{v:FV}{ws:List Int}{cs:List Chg}{ps:List Prc}{ls:List (Option Nat)}{bs x9 x10 x11 x12 x13 x14:Option FV}(hv:Lf N v)(h0:0<=N)(hN:N<90000)(hG:GsB 1000000000 ws cs)(hn:ws.length<=4)(t:Told ws cs (szF ws cs) ps ls){Q:FFl->a0c->Prop}(q:∀ v o b,Q .next [some (FV.scr ns),some (FV.lst (ms.map FV.int)),some (.int k),some v,some (a2u ws cs),some (.int (ps.map (·.p)).sum),some (.tup (ls.map a0x)),some (.lst (ps.map a4t)),bs,x9,x10,x11,x12,some o,some b]):c1m [some (FV.scr ns),some (FV.lst (ms.map FV.int)),some (.int k),some v,some (a2u ws cs),some (.int (ps.map (·.p)).sum),some (.tup (ls.map a0x)),some (.lst (ps.map a4t)),bs,x9,x10,x11,x12,x13,x14] Q:=by
 have hcl:=hG.len4 hn
 simp[c1m,a0n]
 refine a1l 11 hv (by lia) (by decide) (by decide) λu v hu hu2 hv=>?_
 simp[a0n,big]
 refine⟨by lia,?_⟩
 refine a0o (f:=a2z) (g:=λc=>.int c.2.2) cs [] (λc hc K k=>?_) ?_
 ·simp[a2z]
  exact k
 ·rw[List.nil_append]
  simp[big]
  refine⟨by lia,?_⟩
  rw[show (ws.map FV.int++cs.map λc=>FV.int c.2.2)=(ws++cs.map λc=>c.2.2).map .int by simp]
  refine a0o (f:=FV.int) (g:=λw=>.bl (decide (w<100000000))) _ [] (λc hc K k=>?_) ?_
  ·simp
   exact⟨by decide,k⟩
  ·rw[List.nil_append,a2v,a1z]
   have hb:((ws++cs.map λc=>c.2.2).map λw=>decide (w<100000000)).all id=true->(∀ x∈ws,x<100000000)/\∀ c∈cs,c.2.2<100000000:=λz=>by
    have z:=List.all_eq_true.mp z
    exact⟨λx hx=>of_decide_eq_true (z _ (List.mem_map.mpr ⟨x,List.mem_append_left _ hx,rfl⟩)),λc hc=>of_decide_eq_true (z _ (List.mem_map.mpr ⟨c.2.2,List.mem_append_right _ (List.mem_map.mpr ⟨c,hc,rfl⟩),rfl⟩))⟩
   generalize ((ws++cs.map λc=>c.2.2).map λw=>decide (w<100000000)).all id=b at hb
   cases b with
   | false =>
    simp
    exact q _ _ _
   | true =>
    obtain⟨h1,h2⟩:=hb rfl
    simp
    refine c1l 12 hG (by lia) (by lia) ?_
    simp
    refine a7t 10 (c5n hG (by lia) (by lia) h1 h2) λps2 ls2 t2=>?_
    rw[c9q (by lia) t t2]
    have so:a2f (2+u)=true:=a4h (by lia) (by lia)
    simp[so]
    exact q _ _ _
theorem law_val (ns:List Int):callW tb 14 33 [.scr ns] λz=>z.1=.bl true:=by
 refine a0k (fd:=e0g) rfl rfl ?_
 simp[e0g,e2f]
 refine c3q 12 ns λms hm=>?_
 simp
 have e0:∃ k:Nat,(if (2:Int)<(ms.length:Int) then (ms.length:Int) else 2)=k/\k<=6:=by
  by_cases z:(2:Int)<(ms.length:Int)
  ·exact⟨ms.length,by rw[if_pos z],by lia⟩
  ·exact⟨2,by rw[if_neg z];rfl,by lia⟩
 obtain⟨k0,ek,hk0⟩:=e0
 rw[ek,Int.toNat_natCast]
 refine⟨a1e (by lia) (by lia),?_⟩
 refine a2x (I:=λ_ L=>∃ a b c d e f g h i j k l m,L=[some (FV.scr ns),some (FV.lst (ms.map FV.int)),a,b,c,d,e,f,g,h,i,j,k,l,m]) k0 0 _ ⟨_,_,_,_,_,_,_,_,_,_,_,_,_,rfl⟩ (λk L K _ hk hI hK=>?_) λL hI=>?_
 ·obtain⟨x2,x3,x4,x5,x6,x7,x8,x9,x10,x11,x12,x13,x14,rfl⟩:=hI
  simp
  refine c2z 12 ms k λv hv=>?_
  obtain⟨a1,a2,a3,rfl,c1,c2⟩:=hv
  simp[ixN]
  refine a1l 11 (n:=0) ⟨_,_,_,rfl,c1,c2⟩ (by decide) (by decide) (by decide) λu v hu hu2 hv=>?_
  simp
  obtain⟨n,rfl⟩:∃ m:Nat,u=m:=⟨u.toNat,by lia⟩
  refine b8b 9 (m:=n) hv (by lia) (by lia) (by lia) λws cs v hG hl hv=>?_
  have hS:=(hG.mono (C:=1000000100) (by lia)).sto
  simp
  refine a7t 10 hS λps ls t=>?_
  have hL:Lyg ws cs ls:=⟨t.len,t.rk,t.ent⟩
  simp
  refine c1i 10 hS (by lia) ?_
  obtain⟨x,r,ex⟩:=c1j hS
  have hbl:((a7q (chS ws cs) ws.length).filter λb=>gB b.1).length<=7776:=Nat.le_trans (List.length_filter_le ..) (Nat.le_trans (a4r hS (by lia) _) (Nat.le_trans (Nat.pow_le_pow_right (by decide) (show ws.length<=5 by lia)) (by decide)))
  have hT:=λb hb=>b6e hS (b:=b) hb
  have hI:=b4r hS t
  have hM:=c1k hS t ex
  generalize ((a7q (chS ws cs) ws.length).filter λb=>gB b.1)=bs at ex hbl hT hI hM
  simp
  refine⟨by simp only[big];lia,?_⟩
  refine a0o (f:=a6v) (g:=λb=>.int b.2) _ [] (λb hb K k=>?_) ?_
  ·simp[a6v]
   exact k
  ·rw[List.nil_append,show (bs.map λb=>FV.int b.2)=(bs.map (·.2)).map .int by rw[List.map_map];rfl,b2g ex,hM]
   simp
   rw[show FV.tup [FV.tup (ls.map a0x),FV.int (ps.map (·.p)).sum]=a6v (ls,(ps.map (·.p)).sum) from rfl,codQ.inL,decide_eq_true hI]
   simp
   rw[show (40:Int)=((40:Nat):Int) from rfl,c5c,<- List.map_take]
   refine⟨by decide,?_⟩
   refine a1p (f:=a6v) (I:=λ_ L=>∃ p q,L=[some (FV.scr ns),some (FV.lst (ms.map FV.int)),some (.int k),some v,some (a2u ws cs),some (.int (ps.map (·.p)).sum),some (.tup (ls.map a0x)),some (.lst (ps.map a4t)),some (.lst (bs.map a6v)),p,q,x11,x12,x13,x14]) (bs.take 40) (bs.take 40) [] _ rfl ⟨_,_,rfl⟩ (λds b r L K2 e hI hK2=>?_) λL hI=>?_
   ·obtain⟨p,q,rfl⟩:=hI
    have hb:b∈bs:=List.mem_of_mem_take (show b∈bs.take 40 by rw[e];simp)
    obtain⟨h1,h2⟩:=hT b hb
    simp[a6v]
    refine⟨by decide,?_⟩
    refine b3f 7 hS t h1 ?_
    rw[<- h2,show decide (b.2=b.2/\(ps.map (·.p)).sum=b.2)=(b.2 == (ps.map (·.p)).sum) by rw[Bool.eq_iff_iff];simp;exact⟨Eq.symm,Eq.symm⟩]
    simp
    exact hK2 _ ⟨_,_,rfl⟩
   ·obtain⟨p,q,rfl⟩:=hI
    simp
    refine⟨by decide,?_⟩
    refine a1l 11 hv (by lia) (by decide) (by decide) λu v hu hu2 hv=>?_
    simp
    refine c0t hu hu2 ?_
    intro f hf
    obtain⟨o,rfl,o0,o1⟩:∃ o:Int,f=.int o/\0<o/\o<=100:=by
     simp at hf
     rcases hf with rfl|rfl|rfl<;>exact⟨_,rfl,by decide,by decide⟩
    refine b9y 10 hv (by lia) (by lia) hG t.len o0 o1 λws' cs' v hD hv=>?_
    have hS':=(hD.gs hG).sto
    have t':=hD.told hG t
    simp
    refine⟨by decide,?_⟩
    refine b3f 7 hS' t' ⟨t'.len,t'.rk,t'.ent⟩ ?_
    rw[t'.sum]
    simp
    refine a7t 10 hS' λps2 ls2 t2=>?_
    rw[t'.same t2]
    simp
    rw[a0n]
    simp
    have fin:∀ v x12,Lf 5000 v->c1m [some (FV.scr ns),some (FV.lst (ms.map FV.int)),some (.int k),some v,some (a2u ws cs),some (.int (ps.map (·.p)).sum),some (.tup (ls.map a0x)),some (.lst (ps.map a4t)),some (.lst (bs.map a6v)),p,q,some (a2u ws' cs'),x12,x13,x14] (a9p K (aft (λ_=>True) (b9m false false λz=>z.fst=FV.bl true))):=λv x12 hv=>c5o hv (by lia) (by lia) hG (by lia) t λv o b=>hK _ ⟨_,_,_,_,_,_,_,_,_,_,_,_,_,rfl⟩
    simp[c1m] at fin
    refine a4y (λh1=>?_) λh1=>?_
    ·refine c7i 10 hv (by lia) (by lia) hG (by lia) (by lia) λc2 v hM2 hv=>?_
     obtain⟨hL2,hle⟩:=hM2.lyg hG hL
     have hS2:=hM2.g.sto
     simp
     refine a7t 10 hS2 λps2 ls2 t2=>?_
     obtain⟨r2,hr2⟩:=hL2.rk
     have h3:=t2.least hL2.len hr2 hL2.ent
     rw[t.sum] at hle
     simp
     refine⟨by lia,?_⟩
     refine c4p 10 hS2 hL2 ?_
     simp
     refine⟨by lia,?_⟩
     exact fin v _ (hv.mono (by lia))
    ·exact fin v _ (hv.mono (by lia))
 ·obtain⟨x2,x3,x4,x5,x6,x7,x8,x9,x10,x11,x12,x13,x14,rfl⟩:=hI
  simp
end Kq
end
set_option maxRecDepth 100000
set_option maxHeartbeats 4000000
section
namespace Kq
open PySem PySem.Spec PyProof.Rows L2 PySem.W
def top (i:Nat):Stmt:=PySem.Challenge.pw_keepwhole_k61_whole_least_room_carried.main.body.getD i (.Pass ⟨0,0,0,0⟩)
def d0:Df:=⟨"least_room",top 1,["stock"],["stock","many","left","free","paper","makes","entering","price","entry"],[.imm,.imm,.own,.own,.own]⟩
def d1:Df:=⟨"entry_sizes",top 2,["stock"],["stock","sizes","a","b","size"],[.imm,.own]⟩
def d2:Df:=⟨"next_makes",top 3,["many","free"],["many","free","fewest","make","found"],[]⟩
def d3:Df:=⟨"leading_to",top 4,["free","make"],["free","make","found","at"],[.imm,.imm,.own]⟩
def d4:Df:=⟨"laid_by",top 5,["many","free"],["many","free","laid","on","make"],[.imm,.imm,.own]⟩
def d5:Df:=⟨"is_number",top 7,["thing"],["thing"],[]⟩
def d6:Df:=⟨"is_tuple_of",top 8,["thing","many"],["thing","many"],[]⟩
def d7:Df:=⟨"is_size",top 10,["thing"],["thing"],[]⟩
def d8:Df:=⟨"is_make",top 11,["thing","makes"],["thing","makes"],[]⟩
def d9:Df:=⟨"is_laying",top 12,["stock","thing"],["stock","thing","makes","sizes","make","on"],[]⟩
def d10:Df:=⟨"comes_from_whole",top 13,["laying","make"],["laying","make","on","step"],[]⟩
def d11:Df:=⟨"change_sizes",top 14,["stock"],["stock"],[]⟩
def d12:Df:=⟨"kept_sizes",top 15,["stock","laying"],["stock","laying","sizes"],[]⟩
def d13:Df:=⟨"room",top 16,["stock","laying"],["stock","laying"],[]⟩
def d14:Df:=⟨"shows_least_room",top 18,["stock","thing"],["stock","thing","number","laying","paper"],[]⟩
def d15:Df:=⟨"is_paper",top 19,["stock","thing"],["stock","thing"],[]⟩
def d16:Df:=⟨"is_priced",top 20,["thing","many"],["thing","many","makes","price"],[]⟩
def d17:Df:=⟨"are_makes",top 21,["thing","many"],["thing","many"],[]⟩
def d18:Df:=⟨"keeps_to_wholes",top 22,["stock","paper"],["stock","paper","make","size"],[]⟩
def d19:Df:=⟨"keeps_to_changes",top 23,["stock","paper"],["stock","paper","a","b","size"],[]⟩
def d20:Df:=⟨"_law_mix",top 25,["_law_cell","_law_k"],["_law_cell","_law_k","_law_m"],[]⟩
def d21:Df:=⟨"_law_left",top 26,["_law_script","_law_k"],["_law_script","_law_k","_law_cell"],[.own]⟩
def d22:Df:=⟨"_law_pick",top 27,["_law_left_here","_law_many_here"],["_law_left_here","_law_many_here","_law_digit"],[.own]⟩
def d23:Df:=⟨"_law_folded",top 28,["_law_script","_law_many_here"],["_law_script","_law_many_here","_law_cells","_law_k","_law_cell"],[.imm,.imm,.own]⟩
def d24:Df:=⟨"_law_size",top 29,["_law_left_here","_law_great"],["_law_left_here","_law_great","_law_way_drawn"],[.own]⟩
def d25:Df:=⟨"_law_many",top 30,["_law_left_here","_law_most"],["_law_left_here","_law_most"],[.own]⟩
def d26:Df:=⟨"_law_stock",top 31,["_law_left_here","_law_many_here"],["_law_left_here","_law_many_here","_law_great","_law_often","_law_wholes","_law_changes","_law_a","_law_b"],[.own,.imm,.imm,.imm,.imm,.own]⟩
def d27:Df:=⟨"_law_sizes",top 32,["_law_stock_here"],["_law_stock_here"],[]⟩
def d28:Df:=⟨"_law_is_laying",top 33,["_law_stock_here","_law_laying"],["_law_stock_here","_law_laying","_law_sizes_here","_law_make","_law_here","_law_turn"],[]⟩
def d29:Df:=⟨"_law_tried",top 34,["_law_stock_here"],["_law_stock_here","_law_ways_on","_law_a","_law_b","_law_size_here","_law_found","_law_some","_law_longer","_law_laid","_law_total"],[.imm,.imm,.imm,.imm,.imm,.imm,.imm,.own]⟩
def d30:Df:=⟨"_law_dearer",top 35,["_law_left_here","_law_stock_here","_law_laid","_law_often"],["_law_left_here","_law_stock_here","_law_laid","_law_often","_law_wholes","_law_make","_law_size_here","_law_changes","_law_a","_law_b"],[.own,.imm,.imm,.imm,.own,.imm,.imm,.own]⟩
def d31:Df:=⟨"_law_with_more",top 36,["_law_left_here","_law_stock_here"],["_law_left_here","_law_stock_here","_law_many_here","_law_a","_law_b","_law_some","_law_old"],[.own,.imm,.imm,.imm,.imm,.own]⟩
def d32:Df:=⟨"_law_times",top 37,["_law_stock_here","_law_often"],["_law_stock_here","_law_often","_law_wholes"],[]⟩
def d33:Df:=⟨"law",top 38,["_law_script"],["_law_script","_law_cells","_law_k","_law_left_here","_law_stock_here","_law_number","_law_laid","_law_paper","_law_every","_law_one","_law_total","_law_dearer_here","_law_further","_law_often","_law_small"],[.imm,.own,.imm,.own]⟩
def fns:Fns:=⟨[Γe "least_room",Γe "entry_sizes",Γe "next_makes",Γe "leading_to",Γe "laid_by",Γe "is_number",Γe "is_tuple_of",Γe "is_size",Γe "is_make",Γe "is_laying",Γe "comes_from_whole",Γe "change_sizes",Γe "kept_sizes",Γe "room",Γe "shows_least_room",Γe "is_paper",Γe "is_priced",Γe "are_makes",Γe "keeps_to_wholes",Γe "keeps_to_changes",Γe "_law_mix",Γe "_law_left",Γe "_law_pick",Γe "_law_folded",Γe "_law_size",Γe "_law_many",Γe "_law_stock",Γe "_law_sizes",Γe "_law_is_laying",Γe "_law_tried",Γe "_law_dearer",Γe "_law_with_more",Γe "_law_times",Γe "law"],[],[]⟩
abbrev DB (d:Df)(fr:Bool)(b:CW->SW):Prop:=∀ (X:Cx)(call:CW) (n:Nat),Good X (d.cc fns) n (spK tb call)->FSs X (d.cc fns) fr (a2c d.st) (b call)
local macro_rules | `(tactic| ac_rfl)=>do
 let g:=Lean.mkIdent `G
 let mut ts:Array (Lean.TSyntax ``Lean.Parser.Tactic.tacticSeq):=#[]
 for r in ("§fe_var 12210;e1f 03110;fe_int 00010;fa_nil 00010;a0l 02010;a6j 01010;fr_var 11110;d4w 12110;fs_ret 01010;fe_ix 03110;fe_tup 01010;e0e 16510;d9o 00010;fs_set 14310;CompOk.mk 05110;fs_if 03010;fs_nil 00010;d2v 11010;d9p 11110;fe_bl 00010;d5d 18710;d9a 00010;fe_add 02010;fe_len 13210;fb_not 01010;d9c 14310;fe_ixN 13210;fe_mul 02010;d8y 01010;fw_and 02010;ff_lst 01010;d8z 01010;fw_or 02010;d4z 13210;fb_eq 12010;fw_or1 01010;fe_one 01010;fe_and 02010;d9f 02110;fe_lst 01010;fb_lti 02010;fe_mod 02010;fb_ne 12010;fb_ni2 13010;fe_app 15410;d9j 01010;fb_in2 13010;fe_isi 15410;fe_all 13210;fe_pow 02010;fb_gt 02010;fe_sum 13210;fe_eq 12010;d9k 00010;fs_ix 15310;d9s 16510;e1e 13210;d5g 03110;d5e 16510;d9v 13210;fs_whl 02010;fe_non 00010;d9d 12210;fb_isN 01010;e1c 01010;fe_sl 03010;e0c 13210;d9i 13210;d9q 13310;fe_ge 02010;fe_if 03010;fe_lti 02010;fe_abs 13210;d5a 13210;e0a 02010;fe_slL 03010;fe_sub 02010;d9b 14210;d9u 01010;d9m 01010;d9w 15310;fs_thw 12110;d9h 15310;d4u 15310;d5b 13210;fs_add 13210;d4x 00010;d9z 13210;d9g 15310;fe_dgN 13210;fe_not 01010;d5c 04010;e0d 12010;d9t 13210;d9r 13210;e0b 13210;fe_ni2 13010;fe_any 13210;CompOkG.mk 05110;fe_ext 15410;d2w 13210;d9x 15310;d4y 18710;e1d 01010;d9y 13210;fs_tup 14210;fah_of 01010;d9e 01010;fr_of 01010;fb_val 02110;fb_w 01010;d9q 13311;d9s 16511;fi_seq 01000;fi_rng 13200;d9n 13200;d4v 12200;fi_own 12200;fi_zip 15300;fe_int 00000;fe_bl 00000;fe_non 00000".drop 1).toString.splitOn ";" do
  let [n,c]:=r.splitOn " " | continue
  let [a,k,s,w,e]:=c.toList.map λx=>x.toNat-48|continue
  let f:=Lean.mkIdent n.toName
  let mut as:Array Lean.Term:=if a=1 then #[g] else #[]
  for _ in [0:k] do as:=as.push (<- `(?_))
  let mut t <- if as.isEmpty then `(tactic| exact $f) else `(tactic| refine $f $as*)
  if w=1 then t <- `(tactic| with_reducible $t:tactic)
  if e=1 then t <- `(tactic| ((with_reducible refine a2i ?_); $t:tactic))
  for _ in [0:s] do t <- `(tactic| (($t:tactic); first | decide +kernel | rfl))
  ts:=ts.push (<- `(Lean.Parser.Tactic.tacticSeq| $t:tactic))
 ts:=ts.push (<- `(Lean.Parser.Tactic.tacticSeq| first | decide +kernel))
 `(tactic| repeat' first $[| $ts]*)
local macro_rules | `(tactic| ac_nf)=>do
 let g:=Lean.mkIdent `G
 `(tactic| (intro _ $g:ident; ac_rfl))
local macro_rules | `(tactic| eq_refl)=>do
 let g:=Lean.mkIdent `G
 `(tactic| (intro $g:ident; ac_rfl))
local macro_rules | `(tactic| exists $e)=>`(tactic| (refine $e; ac_rfl))
local macro_rules | `(tactic| exists $e,$g:ident)=>`(tactic| (intro X call n $g:ident; refine $e; ac_rfl))
theorem db0:DB d0 false bd0:=by
 exists a0l ?_ ?_,G
 eq_refl
 exists b9f G (own:=["on","make"]) (md':=[.imm,.imm,.frz,.own,.own]) ?_ ?_ ?_
 ac_nf
 ac_nf
 ac_nf
 exists a2i (a0m G (own:=["entry"]) (md':=[.imm,.imm,.own,.own,.own]) ?_)
 ac_nf
 ac_nf
 ac_nf
 exists a1y G (md':=[.imm,.imm,.own,.own,.own]) ?_ ?_ ?_ ?_
 eq_refl
 exists a2i (a0m G (own:=["entry"]) (md':=[.imm,.imm,.own,.own,.own]) ?_)
 ac_nf
 ac_nf
 ac_nf
 exists a2i (a0m G (own:=["pair"]) (md':=[.imm,.imm,.own,.own,.frz]) ?_)
 ac_nf
 ac_nf
 ac_nf
theorem db1:DB d1 true bd1:=by
 exists a0l ?_ ?_,G
 exists c3o G (own:=["make","size"]) (md':=[.imm,.own]) ?_ ?_ ?_ ?_
 ac_nf
 ac_nf
 ac_nf
 ac_nf
 exists a1y G (md':=[.imm,.own]) ?_ ?_ ?_ ?_
 eq_refl
theorem db2:DB d2 false bd2:=by
 exists a0l ?_ ?_,G
 exists a1y G (md':=[]) ?_ ?_ ?_ ?_
 eq_refl
theorem db3:DB d3 true bd3:=by
 exists a0l ?_ ?_,G
 exists a2i (a0m G (own:=["on","to"]) (md':=[.imm,.imm,.own]) ?_)
 ac_nf
 ac_nf
 ac_nf
theorem db4:DB d4 false bd4:=by
 exists a0l ?_ ?_,G
 exists a2i (a0m G (own:=["entry"]) (md':=[.imm,.imm,.own]) ?_)
 ac_nf
 ac_nf
 ac_nf
 exists a2i (a0m G (own:=["make"]) (md':=[.imm,.imm,.own]) ?_)
 ac_nf
 ac_nf
 ac_nf
theorem db5:DB d5 false bd5:=by
 delta bd5
 exists a6j ?_,G
theorem db6:DB d6 false bd6:=by
 delta bd6
 exists a6j ?_,G
theorem db7:DB d7 false bd7:=by
 delta bd7
 exists a6j ?_,G
theorem db8:DB d8 false bd8:=by
 delta bd8
 exists a6j ?_,G
theorem db9:DB d9 false bd9:=by
 exists a0l ?_ ?_,G
 exists a1y G (md':=[]) ?_ ?_ ?_ ?_
 eq_refl
 exists a2i (a0m G (own:=["make"]) (md':=[]) ?_)
 ac_nf
 ac_nf
 ac_nf
theorem db10:DB d10 false e2x:=by
 exists a0l ?_ ?_,G
 exists a1y G (md':=[]) ?_ ?_ ?_ ?_
 eq_refl
theorem db11:DB d11 false d5q:=by
 delta d5q
 exists a6j ?_,G
 exists c3r G (own:=["a","b","size"]) (md':=[]) ?_ ?_
 ac_nf
 ac_nf
 ac_nf
 ac_nf
theorem db12:DB d12 false e2w:=by
 exists a0l ?_ ?_,G
 exists a2i (a0m G (own:=["make","on"]) (md':=[]) ?_)
 ac_nf
 ac_nf
 ac_nf
theorem db13:DB d13 false d5p:=by
 delta d5p
 exists a6j ?_,G
theorem db14:DB d14 false e2v:=by
 exists a0l ?_ ?_,G
 exists a2i (a0m G (own:=["makes","price"]) (md':=[]) ?_)
 ac_nf
 ac_nf
 ac_nf
theorem db15:DB d15 false e2u:=by
 exists a0l ?_ ?_,G
 exists a2i (a0m G (own:=["pair"]) (md':=[]) ?_)
 ac_nf
 ac_nf
 ac_nf
 exists b9g G (own:=["makes","price"]) (md':=[]) ?_ ?_
 ac_nf
 ac_nf
 ac_nf
theorem db16:DB d16 false e2t:=by
 exists a0l ?_ ?_,G
theorem db17:DB d17 false e2s:=by
 exists a0l ?_ ?_,G
 exists a2i (a0m G (own:=["make"]) (md':=[]) ?_)
 ac_nf
 ac_nf
 ac_nf
 exists a2i (a0m G (own:=["ahead","behind"]) (md':=[]) ?_)
 ac_nf
 ac_nf
 ac_nf
theorem db18:DB d18 false e2r:=by
 exists a0l ?_ ?_,G
 exists a1y G (md':=[]) ?_ ?_ ?_ ?_
 eq_refl
 exists a2i (a0m G (own:=["makes","price"]) (md':=[]) ?_)
 ac_nf
 ac_nf
 ac_nf
theorem db19:DB d19 false e2q:=by
 exists a0l ?_ ?_,G
 exists a1y G (md':=[]) ?_ ?_ ?_ ?_
 eq_refl
 exists a2i (a0m G (own:=["makes","price"]) (md':=[]) ?_)
 ac_nf
 ac_nf
 ac_nf
theorem db20:DB d20 false e2p:=by
 exists a0l ?_ ?_,G
theorem db21:DB d21 true e2o:=by
 exists a0l ?_ ?_,G
theorem db22:DB d22 false d5o:=by
 exists a0l ?_ ?_,G
theorem db23:DB d23 true e2n:=by
 exists a0l ?_ ?_,G
 exists a1y G (md':=[.imm,.imm,.own]) ?_ ?_ ?_ ?_
 eq_refl
theorem db24:DB d24 false e2m:=by
 exists a0l ?_ ?_,G
theorem db25:DB d25 false bd25:=by
 exists a0l ?_ ?_,G
theorem db26:DB d26 false e2l:=by
 exists a0l ?_ ?_,G
 exists a2i (a0m G (own:=["_law_k"]) (md':=[.own,.imm,.imm,.imm,.imm,.own]) ?_)
 ac_nf
 ac_nf
 ac_nf
 exists a1y G (md':=[.own,.imm,.imm,.imm,.imm,.own]) ?_ ?_ ?_ ?_
 eq_refl
 exists a1y G (md':=[.own,.imm,.imm,.imm,.imm,.own]) ?_ ?_ ?_ ?_
 eq_refl
theorem db27:DB d27 false d5n:=by
 delta d5n
 exists a6j ?_,G
 exists a2i (a0m G (own:=["_law_a","_law_b","_law_size_here"]) (md':=[]) ?_)
 ac_nf
 ac_nf
 ac_nf
theorem db28:DB d28 false e2k:=by
 exists a0l ?_ ?_,G
 exists a2i (a0m G (own:=["_law_make","_law_on"]) (md':=[]) ?_)
 ac_nf
 ac_nf
 ac_nf
 exists a1y G (md':=[]) ?_ ?_ ?_ ?_
 eq_refl
 exists a1y G (md':=[]) ?_ ?_ ?_ ?_
 eq_refl
theorem db29:DB d29 false e2j:=by
 exists c8b G (own:=["_law_size_here"]) ?_ ?_ ?_ ?_ ?_ ?_ ?_ ?_ ?_ ?_ ?_ ?_,G
 ac_nf
 ac_nf
 ac_nf
 exists a1y G (md':=[.imm,.imm,.imm,.imm,.imm,.imm,.imm,.own]) ?_ ?_ ?_ ?_
 eq_refl
 exists a1y G (md':=[.imm,.imm,.imm,.imm,.imm,.imm,.imm,.own]) ?_ ?_ ?_ ?_
 eq_refl
 exists a2i (a0m G (own:=["_law_on","_law_size_here"]) (md':=[.imm,.imm,.imm,.imm,.imm,.imm,.imm,.own]) ?_)
 ac_nf
 ac_nf
 ac_nf
 exists a2i (a0m G (own:=["_law_pair"]) (md':=[.imm,.imm,.imm,.imm,.imm,.imm,.imm,.own]) ?_)
 ac_nf
 ac_nf
 ac_nf
theorem db30:DB d30 false e2i:=by
 exists a0l ?_ ?_,G
 exists a1y G (md':=[.own,.imm,.imm,.imm,.own,.imm,.imm,.own]) ?_ ?_ ?_ ?_
 eq_refl
 exists a1y G (md':=[.own,.imm,.imm,.imm,.own,.imm,.imm,.own]) ?_ ?_ ?_ ?_
 eq_refl
theorem db31:DB d31 false e2h:=by
 exists a0l ?_ ?_,G
 exists c3p G (own:=["_law_one"]) (md':=[.own,.imm,.imm,.imm,.imm,.own]) ?_ ?_ ?_
 ac_nf
 ac_nf
 ac_nf
 exists b9f G (own:=["_law_one","_law_other","_law_size_here"]) (md':=[.own,.imm,.imm,.imm,.imm,.own]) ?_ ?_ ?_
 ac_nf
 ac_nf
 ac_nf
theorem db32:DB d32 false e2g:=by
 exists a0l ?_ ?_,G
 exists a2i (a0m G (own:=["_law_size_here"]) (md':=[]) ?_)
 ac_nf
 ac_nf
 ac_nf
 exists a2i (a0m G (own:=["_law_a","_law_b","_law_size_here"]) (md':=[]) ?_)
 ac_nf
 ac_nf
 ac_nf
theorem db33:DB d33 false e2f:=by
 exists a0l ?_ ?_,G
 exists a1y G (md':=[.imm,.own,.imm,.own]) ?_ ?_ ?_ ?_
 eq_refl
 exists a2i (a0m G (own:=["_law_one","_law_total"]) (md':=[.imm,.own,.imm,.own]) ?_)
 ac_nf
 ac_nf
 ac_nf
 exists a1y G (md':=[.imm,.own,.imm,.own]) ?_ ?_ ?_ ?_
 eq_refl
 exists a2i (a0m G (own:=["_law_size_here"]) (md':=[.imm,.own,.imm,.own]) ?_)
 exists a2i (a0m G (own:=["_law_one"]) (md':=[.imm,.own,.imm,.own]) ?_)
 ac_nf
 ac_nf
 ac_nf
 ac_nf
 ac_nf
 ac_nf
def rc (d:Df):DefRec:=⟨Γe d.name,a4z d.st,a2c d.st,a0s d.st,d3m d.st⟩
def recs:List DefRec:=[rc d0,rc d1,rc d2,rc d3,rc d4,rc d5,rc d6,rc d7,rc d8,rc d9,rc d10,rc d11,rc d12,rc d13,rc d14,rc d15,rc d16,rc d17,rc d18,rc d19,rc d20,rc d21,rc d22,rc d23,rc d24,rc d25,rc d26,rc d27,rc d28,rc d29,rc d30,rc d31,rc d32,rc d33]
def view:Program:=c9n PySem.Challenge.pw_keepwhole_k61_whole_least_room_carried
theorem recs_eq:recs=recsOf view:=by kernel_rfl!
def PD (K:Frag)(mg:Str->Option Value) (i:Nat)(x:Str):Prop:=∃ df fd fa fdd,tb[i]?=some fd/\Df.ok df fd.np fd.ns fd.io=true/\(∀ X call n,Good X (df.cc fns) n (spK tb call)->FSs X (df.cc fns) fd.fr (a2c df.st) (fd.body call))/\Fun K (Γe df.name) (Γe df.name) df.st fa fdd/\mg x=some (.ref fa)/\Binds K fdd df.ps []
local macro_rules | `(tactic| exists $d,$b,$j,$u)=>`(tactic| (refine And.intro (have ⟨fa,fd,m,F⟩:=DIn.fn (by assumption) ((by assumption:∀ d∈recs,DIn _ _ d) (rc $d) (List.mem_of_getElem? (i:=$j) rfl)); ⟨$d,_,fa,fd,rfl,by decide +kernel,$b,F,m,F.binds fun _ _ _ _ _ _ us hl=>$u (P:=fun us=>bindArgs _ ⟨us,[]⟩=pure (List.zip _ us)) hl (by intros; first | kernel_rfl! | rfl)⟩) ?_))
theorem e1j {K:Frag}{h:Heap}{mg:Str->Option Value}(A:AllIn K h)(D:∀ d∈recs,DIn K mg d):EachI (PD K mg) 0 fns.f:=by
 exists d0,db0,0,us1
 exists d1,db1,1,us1
 exists d2,db2,2,us2
 exists d3,db3,3,us2
 exists d4,db4,4,us2
 exists d5,db5,5,us1
 exists d6,db6,6,us2
 exists d7,db7,7,us1
 exists d8,db8,8,us2
 exists d9,db9,9,us2
 exists d10,db10,10,us2
 exists d11,db11,11,us1
 exists d12,db12,12,us2
 exists d13,db13,13,us2
 exists d14,db14,14,us2
 exists d15,db15,15,us2
 exists d16,db16,16,us2
 exists d17,db17,17,us2
 exists d18,db18,18,us2
 exists d19,db19,19,us2
 exists d20,db20,20,us2
 exists d21,db21,21,us2
 exists d22,db22,22,us2
 exists d23,db23,23,us2
 exists d24,db24,24,us2
 exists d25,db25,25,us2
 exists d26,db26,26,us2
 exists d27,db27,27,us1
 exists d28,db28,28,us2
 exists d29,db29,29,us1
 exists d30,db30,30,us4
 exists d31,db31,31,us2
 exists d32,db32,32,us2
 exists d33,db33,33,us1
 trivial
theorem law_fn (w:World)(K:Frag)(mg:Str->Option Value)(fa:Addr)(h:Heap)(A:AllIn K h)(D:∀ d∈recs,DIn K mg d)(blt:∀ b∈bltNames,mg (Γe b)=none)(hm:mg (Γe "law")=some (.ref fa)) :
  ∃ fd:FuncData,(∀ (s:Shared)(u:Value),BindsTo s fd ⟨[u],[]⟩ [(Γe "_law_script",u)])/\∀ base:Heap,FnOk PySem.Challenge.pw_keepwhole_k61_whole_least_room_carried w K mg base CX0 14 fa fd [Γe "_law_script"] (spT K tb (callW tb 14) 33):=by
 obtain⟨fa2,fd,m,F⟩:=DIn.fn A (D (rc d33) (List.mem_of_getElem? (i:=33) rfl))
 have e:=hm.symm.trans m
 cases e
 have E:∀ (f:Nat)(x:Str),fns.f[f]?=some x->PD K mg f x:=λf x hx=>by
  have:=EachI.get (e1j A D) f x hx
  rwa [Nat.zero_add] at this
 have EM:∀ (k:Nat)(c:Str)(Ca:Addr)(m:Str),fns.ms[k]?=some (c,Ca,m)->∃ df fd fa fdd nm qu,tb[fns.f.length+k]?=some fd/\Df.ok df fd.np fd.ns fd.io=true/\(∀ X call n,Good X (df.cc fns) n (spK tb call)->FSs X (df.cc fns) fd.fr (a2c df.st) (fd.body call))/\Fun K nm qu df.st fa fdd/\mg c=some (.ref Ca)/\Cls K Ca/\(m=("__init__":Str)->Mk K Ca fa)/\(m≠("__init__":Str)->Meth K Ca m fa)/\Binds K fdd df.ps []:=λk c Ca m hx=>by cases hx
 have FL:∀ p∈fns.fl,Cls K p.1/\b1p K p.1 p.2:=λp hp=>by cases hp
 refine⟨fd,?_,λbase=>?_⟩
 ·obtain⟨oc,od,kV,doc,pm,an,cdv,ct,osl,rfl,lk,hcd⟩:=F.ex
  exact λs v=>.of_eq rfl
 ·obtain⟨R1,R2⟩:=c0w (P:=PySem.Challenge.pw_keepwhole_k61_whole_least_room_carried) (w:=w) (base:=base) blt FL E EM 13
  exact b2p (df:=d33) F rfl (by nofun) db33 R1 blt R2 FL
end Kq
end
set_option maxHeartbeats 0
section
open PySem PySem.W PyProof.Rows
theorem Kq.said : PySem.Challenge.rw_keepwhole_k61_whole_least_room_carried.wellSaid = true := by nofun
theorem Kq.left : LeftO PySem.Challenge.rw_keepwhole_k61_whole_least_room_carried.prog Kq.view [] (fun s => xlAt Kq.view [] s && recOk (RowW.records PySem.Challenge.rw_keepwhole_k61_whole_least_room_carried.row.toRowW) s) (fun _ => ()) (fun _ => ()) 3000 := by
  intro w
  kernel_rfl!
theorem Kq.freeAll : (Kq.bltNames.all fun b => Kq.freeIn Kq.view (looseW Kq.view []) (Str.ofString b)) = true := by nofun
theorem Kq.hdef : defOf Kq.view PySem.Challenge.rw_keepwhole_k61_whole_least_room_carried.name = some (Kq.rc Kq.d33, []) := by kernel_rfl!
theorem Kq.hp : PySem.Challenge.rw_keepwhole_k61_whole_least_room_carried.prog.theDef PySem.Challenge.rw_keepwhole_k61_whole_least_room_carried.name = some ((Kq.rc Kq.d33).params, (Kq.rc Kq.d33).body, (Kq.rc Kq.d33).scope) := by kernel_rfl!
theorem Kq.okq : (chainsOk Kq.view && opensWell PySem.Challenge.rw_keepwhole_k61_whole_least_room_carried.prog && (frees PySem.Challenge.rw_keepwhole_k61_whole_least_room_carried.row.toRowW && PySem.Challenge.rw_keepwhole_k61_whole_least_room_carried.row.within.isEmpty)) = true := by nofun
theorem Kq.prom : PySem.Challenge.rw_keepwhole_k61_whole_least_room_carried.row.toRowW.promised := ⟨[.list []], by nofun, by nofun⟩
theorem PySem.Challenge.cw_keepwhole_k61_whole_least_room_carried_holds : PySem.Challenge.rw_keepwhole_k61_whole_least_room_carried.Holds :=
  Kq.row_holds Kq.said Kq.left Kq.hdef Kq.hp rfl rfl Kq.okq ⟨rfl, rfl, rfl, rfl, rfl, by nofun⟩ Kq.prom (Kq.walk2 (n := 63) (k := 14) (ds := Kq.recs) (x := Str.ofString "_law_script") (sp := fun K => Kq.spT K Kq.tb (Kq.callW Kq.tb 14) 33) rfl (by decide) rfl ⟨rfl, by decide, by decide, rfl⟩ Kq.recs_eq Kq.freeAll Kq.law_fn fun _ _ a ns hl hO hS => Kq.law_sp rfl rfl rfl hO hS (Kq.law_val ns))
end
