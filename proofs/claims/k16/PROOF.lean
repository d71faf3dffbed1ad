import PyProof.Rows.All
import Wide.All
import OpenK.AllK
import Wide.FinOn
import Lean
import PyProof.EqAt
import PyProof.EqKinds
import PyProof.TupleCall
import PyProof.DictCompW
import PyProof.Rows.Range3
import KE.KRevIter
import PyProof.AutoRange
import PyProof.FactsAll.range_2
import PyProof.Rows.CallKwBuiltin
import PyProof.ListRange
import PyProof.TupleOfGen
import PyProof.P3Eq
import PyProof.Rows.RowHeap
import PyProof.CollectIter
import PyProof.WalksMore
import PyProof.AutoSeq1
import KE.KListMore
import PyProof.AttrMissHeap
import KE.KDictOf
import KE.KSortTup
import PyProof.Rows.SortWalk
import PyProof.SumWalkG
import PyProof.DictWalks
import KE.KDictSum
import PyProof.SetKind
import PyProof.SetRoads
import PyProof.Rows.SetFrom
import PySem.Challenge.RW_keepwhole_k16_known_least_rooms
open PySem renaming wpAny_bind->Γa
open PySem renaming wpAny_pure->Γb
open PySem.Heap renaming get?_push_of_some->Γc
open PySem.W renaming Frag->Γd
open PySem.Str renaming ofString->Γe
open PySem.Heap renaming get?_update_other->Γf
open PySem renaming wpAny_holding->Γg
open List renaming mem_cons_of_mem->Γh
open Nat renaming le_refl->Γi
open List renaming replicate->Γj
open Bool renaming false_ne_true->Γk
open PySem.Heap renaming lt_size->Γl
open PySem.Heap renaming get?_push_size->Γm
open List renaming mem_cons_self->Γn
open Nat renaming ne_of_lt->Γo
open Bool renaming false_eq_true->Γp
local macro_rules | `(tactic| nofun) => `(tactic| decide +kernel)
set_option Elab.async false
set_option linter.all false
set_option maxRecDepth 100000
section
namespace L2
open PySem PySem.Spec PyProof.Rows
abbrev Key:=Sum Int (Option Str)
def b4a:Key->Value->Bool
 | .inl k,v=>Value.isInt k v
 | .inr (some x),v=>Value.isStrOf x v
 | .inr none,v=>match v with
  | .none=>true
  | _=>false
def keyH (w:World):Key->Int
 | .inl k=>hashInt k
 | .inr (some x)=>hashStr w x
 | .inr none=>4238894112
theorem b7h {prog:Program}{w:World}{A:Around}{E:Value->Shared->Prop}{s:Shared}{Q:Int->Shared->Prop}(h:Q 4238894112 { s with toks:=s.toks+1 }):wpAny (model prog w) A (pyHash .none) Q E s:=by
 have hT:s.TypeIs .none "NoneType":=rfl
 show wpAny _ _ (pyHashByItsType .none) Q E s
 unfold pyHashByItsType
 have hv:[Value.none].any Value.onHeap=false:=rfl
 refine Γa ?_
 rw[cRoomFor,if_neg (by rw[hv];exact Γk)];refine Γb ?_
 refine Γa (wpAny_specialOf hT PySem.F.slot_NoneType_hash.lookup ?_)
 show wpAny _ _ (if (some (Value.builtin "NoneType.__hash__") == some Value.none)=true then _ else _) Q E s
 rw[if_neg (by decide)]
 refine Γa (wpAny_specialOf hT PySem.F.slot_NoneType_hash.lookup ?_)
 show wpAny _ _ (callSpecialIfBoundUnlessNone? .none "__hash__" _ >>= _) Q E s
 refine Γa (wpAny_callSpecialIfBoundUnlessNone?_slot hT PySem.F.slot_NoneType_hash
  (wpAny_call_entry PySem.F.slot_NoneType_hash hT PySem.F.entry_NoneType_hash
   (show wpAny _ _ (do ret (<- mkInt 4238894112)) _ _ s from wpAny_ret_mkInt ?_) (PySem.F.args_NoneType_hash_1 _)))
 show wpAny _ _ (if (decide (-(2:Int) ^ 63<=4238894112) && decide ((4238894112:Int)<2 ^ 63))=true then _ else _) Q E _
 rw[if_pos (by decide)]
 exact Γb h
theorem a0w:∀ {k:Key}{v:Value},b4a k v=true->(∃ i t,k=Sum.inl i/\v=Value.int i t) ∨ (∃ x t,k=Sum.inr (some x)/\v=Value.str x t) ∨ (k=Sum.inr none/\v=Value.none)
 | .inl i,v,h=>by
  obtain⟨t,e⟩:=Value.isInt_shape (k:=i) (v:=v) h
  exact .inl ⟨i,t,rfl,e⟩
 | .inr (some x),v,h=>by
  obtain⟨t,e⟩:=Value.isStrOf_shape (x:=x) (v:=v) h
  exact .inr (.inl ⟨x,t,rfl,e⟩)
 | .inr none,v,h=>by
  cases v with
  | none=>exact .inr (.inr ⟨rfl,rfl⟩)
  | _=>cases h
theorem b6r (i:Int)(t:Tok):b4a (.inl i) (.int i t)=true:=by simp[b4a,Value.isInt]
theorem b6q (x:Str)(t:Tok):b4a (.inr (some x)) (.str x t)=true:=by simp[b4a,Value.isStrOf]
theorem c9s (a b:Int):decide ((Sum.inl a:Key)=Sum.inl b)=(a == b):=by
 by_cases e:a=b
 ·subst e;simp
 ·have h:¬ (Sum.inl a:Key)=Sum.inl b:=λq=>e (Sum.inl.inj q)
  rw[decide_eq_false h]
  exact (beq_eq_false_iff_ne.mpr e).symm
theorem c9r (a b:Str):decide ((Sum.inr (some a):Key)=Sum.inr (some b))=decide (a=b):=by
 by_cases e:a=b
 ·subst e;simp
 ·have h:¬ (Sum.inr (some a):Key)=Sum.inr (some b):=λq=>e (Option.some.inj (Sum.inr.inj q))
  rw[decide_eq_false h,decide_eq_false e]
def a0k (prog:Program)(w:World):PySem.KeyKind prog w Key where
 is:=b4a
 hash:=keyH w
 inj:=λv a b ha hb=>by
  rcases a0w ha with⟨i,t,rfl,rfl⟩|⟨x,t,rfl,rfl⟩|⟨rfl,rfl⟩<;>rcases a0w hb with⟨j,u,rfl,e⟩|⟨y,u,rfl,e⟩|⟨rfl,e⟩<;>first|rfl|(injection e with e1 _;rw[e1])|cases e
 byValue:=λk v h=>by
  rcases a0w h with⟨i,t,rfl,rfl⟩|⟨x,t,rfl,rfl⟩|⟨rfl,rfl⟩<;>rfl
 pyHash:=λhv h=>by
  rcases a0w hv with⟨i,t,rfl,rfl⟩|⟨x,t,rfl,rfl⟩|⟨rfl,rfl⟩
  ·exact wpAny_pyHash_int h
  ·exact wpAny_pyHash_str h
  ·exact b7h h
 eqBool:=λhu hv h=>by
  rcases a0w hu with⟨i,t,rfl,rfl⟩|⟨x,t,rfl,rfl⟩|⟨rfl,rfl⟩
  ·rcases a0w hv with⟨j,u,rfl,rfl⟩|⟨y,u,rfl,rfl⟩|⟨rfl,rfl⟩
   ·rw[c9s] at h;exact wpAny_eqBool_int h
   ·rw[decide_eq_false (show ¬ (Sum.inl i:Key)=Sum.inr (some y) from λq=>nomatch q)] at h;exact SeqAt.EqAt.int_str i t y u _ _ _ _ h
   ·rw[decide_eq_false (show ¬ (Sum.inl i:Key)=Sum.inr none from λq=>nomatch q)] at h;exact SeqAt.EqAt.int_none i t _ _ _ _ h
  ·rcases a0w hv with⟨j,u,rfl,rfl⟩|⟨y,u,rfl,rfl⟩|⟨rfl,rfl⟩
   ·rw[decide_eq_false (show ¬ (Sum.inr (some x):Key)=Sum.inl j from λq=>nomatch q)] at h;exact SeqAt.EqAt.str_int x t j u _ _ _ _ h
   ·rw[c9r] at h;exact wpAny_eqBool_str h
   ·rw[decide_eq_false (show ¬ (Sum.inr (some x):Key)=Sum.inr none from λq=>nomatch q)] at h;exact SeqAt.EqAt.str_none x t _ _ _ _ h
  ·rcases a0w hv with⟨j,u,rfl,rfl⟩|⟨y,u,rfl,rfl⟩|⟨rfl,rfl⟩
   ·rw[decide_eq_false (show ¬ (Sum.inr none:Key)=Sum.inl j from λq=>nomatch q)] at h;exact SeqAt.EqAt.none_int j u _ _ _ _ h
   ·rw[decide_eq_false (show ¬ (Sum.inr none:Key)=Sum.inr (some y) from λq=>nomatch q)] at h;exact SeqAt.EqAt.none_str y u _ _ _ _ h
   ·rw[decide_eq_true rfl] at h;exact SeqAt.EqAt.same .none _ _ _ _ h
 «strs»:=λk x t v h=>by
  rcases a0w h with⟨i,u,rfl,e⟩|⟨y,u,rfl,e⟩|⟨rfl,e⟩
  ·exact nomatch e
  ·injection e with e1 _
   subst e1
   cases v<;>rfl
  ·exact nomatch e
theorem b1i (prog:Program)(w:World) (i:Int)(t:Tok):(a0k prog w).is (.inl i) (.int i t)=true:=b6r i t
theorem a9l (prog:Program)(w:World):(a0k prog w).is (.inr none) .none=true:=rfl
theorem b1h (prog:Program)(w:World)(x:Str)(t:Tok):(a0k prog w).is (.inr (some x)) (.str x t)=true:=b6q x t
end L2
namespace L2
open PySem PySem.Spec PyProof.Rows
inductive V where
 | non|bl (b:Bool)|int (i:Int)|str (x:Str)|byt (b:Array UInt8)|flt (b:UInt64)|ref (a:Addr)|ty (n:String)
 deriving DecidableEq
def RelV:V->Value->Prop
 | .non,u=>u=Value.none
 | .bl b,u=>u=Value.bool b
 | .int i,u=>∃ t,u=Value.int i t
 | .str x,u=>∃ t,u=Value.str x t
 | .byt b,u=>∃ t,u=Value.bytes b t
 | .flt b,u=>∃ t,u=Value.float b t
 | .ref a,u=>u=Value.ref a
 | .ty n,u=>u=Value.type n
abbrev Vals:List V->List Value->Prop:=Paired RelV
theorem Vals.length {xs:List V}{us:List Value}(r:Vals xs us):xs.length=us.length:=Paired.length r
theorem Vals.get:∀ {xs:List V}{us:List Value}{i:Nat}{x:V},Vals xs us->xs[i]?=some x->∃ u,us[i]?=some u/\RelV x u
 | _,_,_,_,.nil,e=>by simp at e
 | _,_,0,_,.cons r _,e=>by simp at e;subst e;exact⟨_,rfl,r⟩
 | _,_,i+1,x,.cons _ t,e=>by
  obtain⟨u,h1,h2⟩:=Vals.get (i:=i) (x:=x) t (by simpa using e)
  exact⟨u,by simpa using h1,h2⟩
theorem Vals.set {x:V}{u:Value}(r:RelV x u):∀ {xs:List V}{us:List Value} (i:Nat),Vals xs us->Vals (xs.set i x) (us.set i u)
 | _,_,_,.nil=>.nil
 | _,_,0,.cons _ t=>.cons r t
 | _,_,i+1,.cons q t=>.cons q (Vals.set r i t)
theorem Vals.append:∀ {xs ys:List V}{us ws:List Value},Vals xs us->Vals ys ws->Vals (xs++ys) (us++ws)
 | _,_,_,_,.nil,s=>s
 | _,_,_,_,.cons r t,s=>.cons r (Vals.append t s)
theorem Vals.take:∀ {xs:List V}{us:List Value} (n:Nat),Vals xs us->Vals (xs.take n) (us.take n)
 | _,_,0,_=>.nil
 | _,_,_+1,.nil=>.nil
 | _,_,n+1,.cons r t=>.cons r (Vals.take n t)
theorem Vals.drop:∀ {xs:List V}{us:List Value} (n:Nat),Vals xs us->Vals (xs.drop n) (us.drop n)
 | _,_,0,r=>r
 | _,_,_+1,.nil=>.nil
 | _,_,n+1,.cons _ t=>Vals.drop n t
def RelO:Option V->Option Value->Prop
 | some v,some u=>RelV v u
 | none,none=>True
 | _,_=>False
def KV {κ:Type}:List (κ×V)->List (κ×Value)->Prop:=Paired λ(p:κ×V)(q:κ×Value)=>p.1=q.1/\RelV p.2 q.2
def kV:Key->V
 | .inl i=>.int i
 | .inr (some x)=>.str x
 | .inr none=>.non
inductive HO where
 | lst (xs:List V)
 | tup (xs:List V)
 | dK (kvs:List (Key×V))|dT (kvs:List (List Key×V))
 | set (S:Int->Bool) (n:Nat)
 | ins (C dx:Addr)(fs:List (Str×V))
 | own (x:Addr)
 | xd (fs:List (Str×V))
 | met (f x:Addr)
 | rng (lo hi:Int)
 | frz (o:Obj)(u:HO)
 | tbl (ps:Array Value)
 | ext (φ:Heap->Prop)
abbrev Hp:=Addr->Option HO
def upd (H:Hp)(a:Addr)(o:HO):Hp:=λb=>if b=a then some o else H b
theorem a0d {H:Hp}{a:Addr}{o:HO}:upd H a o a=some o:=by unfold upd;rw[if_pos rfl]
theorem a0e {H:Hp}{a b:Addr}{o:HO}(h:b≠a):upd H a o b=H b:=by unfold upd;rw[if_neg h]
theorem c9g {H:Hp}{a b:Addr}{o u:HO}(h:H a=some o)(h':H b=some u)(d:o≠u):a≠b:=by
 intro e;subst e;rw[h] at h';exact d (Option.some.inj h')
theorem a0t {H:Hp}{a b:Addr}{o:HO}(h:H a=some o)(h':H b=none):a≠b:=by
 intro e;subst e;rw[h] at h';cases h'
section
variable (P:Program)(w:World)
def ObjOk (H:Hp)(h:Heap)(a:Addr):HO->Prop
 | .lst xs=>xs.length<=sizeLine/\∃ (its:List Value) (n:Nat),Vals xs its/\h.get? a=some { cls:=.type "list",data:=.seq its.toArray n }
 | .tup xs=>xs.length<=sizeLine/\∃ its:List Value,Vals xs its/\IsTup h a its.toArray
 | .dK kvs=>kvs.length<=sizeLine/\(a == sysModules)=false/\∃ vs,KV kvs vs/\h.DictOf (a0k P w) a vs
 | .dT kvs=>kvs.length<=sizeLine/\(a == sysModules)=false/\∃ xs:List (List Key×Addr×Value),
   Paired (λ(p:List Key×V)(q:List Key×Addr×Value)=>p.1=q.1/\H q.2.1=some (.tup (p.1.map kV))/\RelV p.2 q.2.2) kvs xs /\
   ∃ o es ep,h.get? a=some o/\o.ExactDict/\o.data=.dict es ep/\es.toList=xs.map (entryOfKey (tupleKind (a0k P w)))/\(xs.map (·.1)).Nodup
 | .set S n=>h.SetOf (intKind P w) a S n
 | .ins C dx fs=>H dx=some (.own a)/\fs.length<=1000/\dx≠a/\h.get? a=some (PySem.W.instObj C dx) /\
   ∃ mA,h.Ns1 dx mA/\(∀ f,RelO (fs.lookup f) (mA f))/\PySem.Within mA (fs.map (·.1))
 | .own _=>∃ o,h.get? a=some o
 | .xd fs=>∃ mA,h.Ns1 a mA/\∀ f,RelO (fs.lookup f) (mA f)
 | .rng lo hi=>∃ t u v,h.get? a=some { cls:=.type "range",data:=.fields #[.int lo t,.int hi u,.int 1 v] }
 | .frz o u=>h.get? a=some o/\ObjOk H h a u
 | .tbl ps=>h.get? a=some { cls:=.none,data:=.fields ps }
 | .met f x=>h.get? a=some (PySem.W.methodObj (.ref f) (.ref x))
 | .ext φ=>φ h/\(∃ o,h.get? a=some o)/\∀ h1 h2:Heap,φ h1->(∀ o,h1.get? a=some o->h2.get? a=some o)->φ h2
def HOk (H:Hp)(h:Heap):Prop:=∀ a o,H a=some o->ObjOk P w H h a o
end
section
variable {P:Program}{w:World}{H H':Hp}{h h':Heap}{a:Addr}{o:HO}
theorem ObjOk.lt (x:ObjOk P w H h a o):a<h.objs.size:=by
 cases o with
 | lst xs=>obtain⟨_,_,_,_,e⟩:=x;exact Γl e
 | tup xs=>obtain⟨_,_,_,p⟩:=x;exact p.lt
 | dK kvs=>obtain⟨_,_,_,_,o,_,_,e,_⟩:=x;exact Γl e
 | dT kvs=>obtain⟨_,_,_,_,o,_,_,e,_⟩:=x;exact Γl e
 | set S n=>obtain⟨o,_,_,_,e,_⟩:=x;exact Γl e
 | ins C dx fs=>obtain⟨_,_,_,e,_⟩:=x;exact Γl e
 | own y=>obtain⟨_,e⟩:=x;exact Γl e
 | xd fs=>obtain⟨_,⟨_,_,_,e,_⟩,_⟩:=x;exact Γl e
 | rng lo hi=>obtain⟨_,_,_,e⟩:=x;exact Γl e
 | frz ob u=>obtain⟨e,_⟩:=x;exact Γl e
 | tbl ps=>exact Γl (show h.get? a=some _ from x)
 | met f y=>exact Γl (show h.get? a=some _ from x)
 | ext φ=>obtain⟨_,⟨_,e⟩,_⟩:=x;exact Γl e
theorem Paired.mapP {α β:Type}{F G:α->β->Prop}:∀ {l₁:List α}{l₂:List β},Paired F l₁ l₂->(∀ a b,F a b->G a b)->Paired G l₁ l₂
 | _,_,.nil,_=>.nil
 | _,_,.cons r t,f=>.cons (f _ _ r) (Paired.mapP t f)
theorem ObjOk.stay (x:ObjOk P w H h a o)(k:∀ b u,(b=a ∨ H b=some (.own a))->h.get? b=some u->h'.get? b=some u)
  (ho:∀ b,H b=some (.own a)->H' b=some (.own a))(ht:∀ b xs,H b=some (.tup xs)->H' b=some (.tup xs)):ObjOk P w H' h' a o:=by
 induction o with
 | lst xs=>obtain⟨z,its,n,r,e⟩:=x;exact⟨z,its,n,r,k _ _ (.inl rfl) e⟩
 | tup xs=>obtain⟨z,its,r,ob,e,c⟩:=x;exact⟨z,its,r,ob,k _ _ (.inl rfl) e,c⟩
 | dK kvs=>obtain⟨z,y,vs,r,ob,es,ep,e,c⟩:=x;exact⟨z,y,vs,r,ob,es,ep,k _ _ (.inl rfl) e,c⟩
 | dT kvs =>
  obtain⟨z,y,xs,r,ob,es,ep,e,c⟩:=x
  exact⟨z,y,xs,Paired.mapP r λp q z=>⟨z.1,ht _ _ z.2.1,z.2.2⟩,ob,es,ep,k _ _ (.inl rfl) e,c⟩
 | set S n=>obtain⟨ob,es,ep,t,e,c⟩:=x;exact⟨ob,es,ep,t,k _ _ (.inl rfl) e,c⟩
 | ins C dx fs =>
  obtain⟨d,z,ne,e,mA,⟨od,es,ep,e2,c⟩,r⟩:=x
  exact⟨ho _ d,z,ne,k _ _ (.inl rfl) e,mA,⟨od,es,ep,k _ _ (.inr d) e2,c⟩,r⟩
 | own y=>obtain⟨ob,e⟩:=x;exact⟨ob,k _ _ (.inl rfl) e⟩
 | xd fs=>obtain⟨mA,⟨od,es,ep,e,c⟩,r⟩:=x;exact⟨mA,⟨od,es,ep,k _ _ (.inl rfl) e,c⟩,r⟩
 | rng lo hi=>obtain⟨t,u,v,e⟩:=x;exact⟨t,u,v,k _ _ (.inl rfl) e⟩
 | frz ob u ih=>obtain⟨e,q⟩:=x;exact⟨k _ _ (.inl rfl) e,ih q⟩
 | tbl ps =>
  have e:h.get? a=some { cls:=.none,data:=.fields ps }:=x
  show h'.get? a=some { cls:=.none,data:=.fields ps }
  exact k a _ (.inl rfl) e
 | met f y =>
  have e:h.get? a=some (PySem.W.methodObj (.ref f) (.ref y)):=x
  show h'.get? a=some (PySem.W.methodObj (.ref f) (.ref y))
  exact k a _ (.inl rfl) e
 | ext φ=>obtain⟨p,⟨o,e⟩,st⟩:=x;exact⟨st _ _ p λo q=>k _ _ (.inl rfl) q,⟨o,k _ _ (.inl rfl) e⟩,st⟩
theorem HOk.lt (x:HOk P w H h)(e:H a=some o):a<h.objs.size:=(x a o e).lt
theorem HOk.fresh (x:HOk P w H h)(e:h.objs.size<=a):H a=none:=by
 cases q:H a with
 | none=>rfl
 | some u=>exact absurd (Nat.lt_of_lt_of_le (x.lt q) e) (Nat.lt_irrefl _)
theorem HOk.kept (x:HOk P w H h)(k:∀ b u,h.get? b=some u->h'.get? b=some u):HOk P w H h':=λa o e =>
 (x a o e).stay (λb u _ q=>k b u q) (λ_ q=>q) λ_ _ q=>q
theorem HOk.laid (x:HOk P w H h)(k:∀ b u,h.get? b=some u->h'.get? b=some u)(hp:h.objs.size<=a)(new:ObjOk P w (upd H a o) h' a o):HOk P w (upd H a o) h':=λb u e=>by
 have hn:=x.fresh hp
 by_cases hb:b=a
 ·subst hb;rw[a0d] at e;cases e;exact new
 ·rw[a0e hb] at e
  exact (x b u e).stay (λc v _ q=>k c v q) (λc q=>by rw[a0e (a0t q hn)];exact q) λc xs q=>by rw[a0e (a0t q hn)];exact q
end
def Rd (H:Hp)(a:Addr)(u:HO):Prop:=H a=some u ∨ ∃ o,H a=some (.frz o u)
theorem Rd.ok {P:Program}{w:World}{H:Hp}{h:Heap}{a:Addr}{u:HO}(r:Rd H a u)(x:HOk P w H h):ObjOk P w H h a u:=by
 rcases r with r|⟨o,r⟩
 ·exact x a u r
 ·obtain⟨_,q⟩:=x a _ r
  exact q
def Mut:Option HO->Prop
 | some (.lst _)=>True
 | some (.dK _)=>True
 | some (.dT _)=>True
 | some (.set _ _)=>True
 | some (.ins _ _ _)=>True
 | some (.ext _)=>True
 | _=>False
section
variable {P:Program}{w:World}{H:Hp}{h h':Heap}{x e:Addr}{o':HO}
theorem HOk.write (ok:HOk P w H h)(mu:Mut (H x))(he:e=x ∨ H e=some (.own x))(k:∀ b u,b≠e->h.get? b=some u->h'.get? b=some u)(heo:∃ u,h'.get? e=some u)
  (new:ObjOk P w (upd H x o') h' x o'):HOk P w (upd H x o') h':=λb u q=>by
 have nown:∀ c y,H c=some (.own y)->c≠x:=λc y r z=>by subst z;rw[r] at mu;exact mu
 have ntup:∀ c xs,H c=some (.tup xs)->c≠x:=λc xs r z=>by subst z;rw[r] at mu;exact mu
 by_cases hb:b=x
 ·subst hb;rw[a0d] at q;cases q;exact new
 ·rw[a0e hb] at q
  by_cases hbe:b=e
  ·have q':H b=some (.own x):=by
    rcases he with z|z
    ·exact absurd (hbe.trans z) hb
    ·rw[hbe];exact z
   rw[q] at q';cases q'
   obtain⟨v,hv⟩:=heo
   exact⟨v,by rw[hbe];exact hv⟩
  ·refine (ok b u q).stay (λc v hc r=>k c v ?_ r) (λc r=>by rw[a0e (nown c b r)];exact r) λc xs r=>by rw[a0e (ntup c xs r)];exact r
   rcases hc with rfl|hc
   ·exact hbe
   ·rintro rfl
    rcases he with z|z
    ·exact nown c b hc z
    ·rw[hc] at z;cases z;exact hb rfl
end
structure Un (fs ex:List Addr)(H H':Hp)(h h':Heap):Prop where
 keep:∀ b o,h.get? b=some o->H b=none->b ∉ fs->b ∉ ex->h'.get? b=some o
 slot:∀ b o,h.get? b=some o->H b=none->b∈fs->b ∉ ex->∃ sl,h'.get? b=some { o with slots:=sl }
 free:∀ b o,h.get? b=some o->H b=none->b ∉ ex->H' b=none
 there:∀ b o,h.get? b=some o->b ∉ ex->∃ o',h'.get? b=some o'
 tups:∀ b xs,H b=some (.tup xs)->H' b=some (.tup xs)
 frzs:∀ b o u,H b=some (.frz o u)->H' b=some (.frz o u)
 tbls:∀ b ps,H b=some (.tbl ps)->∃ more,H' b=some (.tbl (ps++more))
section
variable {fs fs' ex ex':List Addr}{H H1 H2:Hp}{h h1 h2 h':Heap}{a x e:Addr}{o:HO}
theorem Un.any (u:Un fs ex H H1 h h1){b:Addr}{ob:Obj}(q:h.get? b=some ob)(n:H b=none)(hx:b ∉ ex):∃ sl,h1.get? b=some { ob with slots:=sl }:=by
 by_cases hb:b∈fs
 ·exact u.slot b ob q n hb hx
 ·exact⟨ob.slots,u.keep b ob q n hb hx⟩
theorem Un.trans (a:Un fs ex H H1 h h1)(b:Un fs ex H1 H2 h1 h2):Un fs ex H H2 h h2 where
 keep:=λc ob q n hc hx=>b.keep c ob (a.keep c ob q n hc hx) (a.free c ob q n hx) hc hx
 slot:=λc ob q n hc hx=>by
  obtain⟨sl,e1⟩:=a.slot c ob q n hc hx
  obtain⟨sl',e2⟩:=b.slot c _ e1 (a.free c ob q n hx) hc hx
  exact⟨sl',e2⟩
 free:=λc ob q n hx=>by
  obtain⟨o',e1⟩:=a.there c ob q hx
  exact b.free c o' e1 (a.free c ob q n hx) hx
 there:=λc ob q hx=>by
  obtain⟨o',e1⟩:=a.there c ob q hx
  exact b.there c o' e1 hx
 tups:=λc xs q=>b.tups c xs (a.tups c xs q)
 frzs:=λc ob xs q=>b.frzs c ob xs (a.frzs c ob xs q)
 tbls:=λc ps q=>by
  obtain⟨m1,e1⟩:=a.tbls c ps q
  obtain⟨m2,e2⟩:=b.tbls c _ e1
  exact⟨m1++m2,by rw[e2,Array.append_assoc]⟩
theorem Un.kept (k:∀ b u,h.get? b=some u->h'.get? b=some u):Un fs ex H H h h' :=
 ⟨λb ob q _ _ _=>k b ob q,λb ob q _ _ _=>⟨ob.slots,k b ob q⟩,λ_ _ _ n _=>n,λb ob q _=>⟨ob,k b ob q⟩,λ_ _ q=>q,λ_ _ _ q=>q,λ_ ps q=>⟨#[],by rw[q];simp⟩⟩
theorem Un.refl:Un fs ex H H h h:=Un.kept λ_ _ q=>q
theorem Un.laid (k:∀ b u,h.get? b=some u->h'.get? b=some u)(hp:h.objs.size<=a)(hn:H a=none):Un fs ex H (upd H a o) h h' where
 keep:=λb u q _ _ _=>k b u q
 slot:=λb u q _ _ _=>⟨u.slots,k b u q⟩
 free:=λb u q n _=>by rw[a0e (Γo (Nat.lt_of_lt_of_le (Γl q) hp))];exact n
 there:=λb u q _=>⟨u,k b u q⟩
 tups:=λb xs q=>by rw[a0e (a0t q hn)];exact q
 frzs:=λb u xs q=>by rw[a0e (a0t q hn)];exact q
 tbls:=λb ps q=>⟨#[],by rw[a0e (a0t q hn),q];simp⟩
theorem Un.write (mu:Mut (H x))(he:e=x ∨ H e=some (.own x))(k:∀ b u,b≠e->h.get? b=some u->h'.get? b=some u)(heo:∃ u,h'.get? e=some u):Un fs ex H (upd H x o) h h':=by
 have hx:∀ b,H b=none->b≠x:=λb n z=>by subst z;rw[n] at mu;exact mu
 have hb:∀ b,H b=none->b≠e:=λb n z=>by
  subst z
  rcases he with r|r
  ·exact hx b n r
  ·rw[n] at r;cases r
 have hm:∀ b u,H b=some u->¬ Mut (some u)->b≠x:=λb u q nm z=>by subst z;rw[q] at mu;exact nm mu
 refine⟨λb u q n _ _=>k b u (hb b n) q,λb u q n _ _=>⟨u.slots,k b u (hb b n) q⟩,λb u q n _=>by rw[a0e (hx b n)];exact n,λb u q _=>?_,
  λb xs q=>by rw[a0e (hm b _ q λz=>z)];exact q,λb u xs q=>by rw[a0e (hm b _ q λz=>z)];exact q,λb ps q=>⟨#[],by rw[a0e (hm b _ q λz=>z),q];simp⟩⟩
 by_cases hbe:b=e
 ·subst hbe;exact heo
 ·exact⟨u,k b u hbe q⟩
theorem Un.mono (u:Un fs ex H H1 h h1)(hs:∀ b∈fs,b∈fs')(hx:∀ b∈ex,b∈ex'):Un fs' ex' H H1 h h1 :=
 ⟨λb ob q n hb he=>u.keep b ob q n (λz=>hb (hs b z)) λz=>he (hx b z),λ_ _ q n _ he=>u.any q n λz=>he (hx _ z),λb ob q n he=>u.free b ob q n λz=>he (hx b z),λb ob q he=>u.there b ob q λz=>he (hx b z),u.tups,u.frzs,u.tbls⟩
end
def trk (h:Heap)(H:Hp):List Addr:=(List.range h.objs.size).filter λa=>(H a).isSome
def c0q (h:Heap)(H:Hp):Heap:=PySem.W.hideAll h (trk h H)
theorem b7g (h:Heap)(H:Hp):(c0q h H).objs.size=h.objs.size:=PySem.W.hideAll_size _ _
theorem c0p {h:Heap}{H:Hp}{b:Addr}{o:Obj}(e:h.get? b=some o)(n:H b=none):(c0q h H).get? b=some o :=
 PySem.W.hideAll_get _ e λhm=>by
  have q:(H b).isSome=true:=(List.mem_filter.mp hm).2
  rw[n] at q;simp at q
theorem c4f {h:Heap}{H:Hp}{b:Addr}{o:Obj}(e:(c0q h H).get? b=some o):h.get? b=some o/\H b=none:=by
 have e':h.get? b=some o:=PySem.W.of_hideAll (trk h H) e
 refine⟨e',?_⟩
 cases q:H b with
 | none=>rfl
 | some x =>
  have hm:b∈trk h H:=List.mem_filter.mpr ⟨List.mem_range.mpr (Γl e'),by simp[q]⟩
  have z:(c0q h H).get? b=none:=PySem.W.hideAll_none (trk h H) hm
  rw[z] at e;cases e
def c6g (g h:Heap)(L:Addr):List (Addr×Obj):=(List.range h.objs.size).filterMap λa=>if a=L ∨ (g.get? a).isSome=true then none else (h.get? a).map λo=>(a,o)
def rest (g h:Heap)(L d:Addr):List (Addr×Obj):=(c6g g h L).filter λp=>decide (p.1≠d)
end L2
namespace L2
open PySem PySem.Spec PyProof.Rows
structure Mod (K:Γd)(mg:Str->Option Value)(base:Heap):Prop where
 kin:K.In base
 glob:base.Ns mainGlobals mg
 blt:∃ mb,base.Ns builtinsNs mb/\∀ x:Str,x≠"__name__"->mb x=bootBuiltins x
 nolimit:base.NoLimit
structure Cx where
 prog:Program
 w:World
 K:Γd
 mg:Str->Option Value
 base:Heap
 A:Around
 N:List Str
 s₀:Shared
 H₀:Hp
 env:Env
 outer:List Env
 stack:List Env
 ex:List Addr
 fn:Str->Bool
 calm:Bool
 pn:List (Addr×Obj)
 xe:Value->Shared->Prop
def frs (l:List Env):List Addr:=l.filterMap (·.frame)
abbrev Cx.fs (X:Cx):List Addr:=frs X.outer
def Vis (sc:Scope)(x:Str):Prop:=sc.names.lookup x=some .local ∨ sc.names.lookup x=some .cell ∨ sc.names.lookup x=some .free
def Loc (sc:Scope)(x:Str):Prop:=sc.names.lookup x=some .local ∨ sc.names.lookup x=some .cell
def Look (env:Env)(h:Heap)(m:Str->Option Value)(x:Str)(u:Value):Prop :=
 (env.kindOf x=some .local/\m x=some u) ∨ ((env.kindOf x=some .cell ∨ env.kindOf x=some .free)/\∃ c,env.cells.lookup x=some c/\h.IsCell c (some u))
structure Cx.Ok (X:Cx):Prop where
 mod:Mod X.K X.mg X.base
 kind:X.env.scope.kind=.function
 glob:X.env.globals=mainGlobals
 blt:X.env.builtins=builtinsNs
 above:X.s₀.heap.objs.size<=X.env.locals
 inj:∀ x y c,X.env.cells.lookup x=some c->X.env.cells.lookup y=some c->x=y
 has:∀ x,(X.env.kindOf x=some .cell ∨ X.env.kindOf x=some .free)->∃ c,X.env.cells.lookup x=some c
 cab:∀ x c,X.fn x=true->X.env.cells.lookup x=some c->X.s₀.heap.objs.size<=c
 hd:X.calm=true->X.A.handled=none
 frames:X.A.frames=some X.stack
 stk:X.stack=X.outer ∨ (X.stack=X.env :: X.outer/\X.env.frame=some X.env.locals)
 exf:∀ b∈X.ex,b≠X.env.locals/\∀ x c,X.env.cells.lookup x=some c->c≠b
 bs:∀ b o,X.base.get? b=some o->X.s₀.heap.get? b=some o/\X.H₀ b=none
 bsz:X.base.objs.size<=X.s₀.heap.objs.size
 noex:∀ b o,X.base.get? b=some o->b ∉ X.ex
 exfs:∀ b∈X.ex,b ∉ X.fs
 funs:X.s₀.heap.FunFrames X.base X.outer
 frf:∀ b∈X.fs,X.H₀ b=none
structure Inv (X:Cx)(pins:List (Addr×Obj))(σ:List (Option V))(H:Hp)(s:Shared):Prop where
 ok:X.Ok
 os:s.os=X.s₀.os
 bare:AllBare s.gens
 base:Un X.fs X.ex X.H₀ H X.s₀.heap s.heap
 loc:∃ m,s.heap.Ns X.env.locals m/\∀ (i:Nat)(x:Str)(v:V),X.N[i]?=some x->σ[i]?=some (some v)->Vis X.env.scope x->∃ u,RelV v u/\Look X.env s.heap m x u
 cell:∀ x c,X.env.cells.lookup x=some c->∃ v,s.heap.IsCell c v
 free:H X.env.locals=none
 freeC:∀ x c,X.env.cells.lookup x=some c->H c=none
 pin:∀ p∈X.pn++pins,s.heap.get? p.1=some p.2/\H p.1=none/\p.1≠X.env.locals/\p.1 ∉ X.fs/\∀ v,p.2.data≠.cell v
 hok:HOk X.prog X.w H s.heap
 len:σ.length=X.N.length
section
variable {X:Cx}{pins:List (Addr×Obj)}{σ:List (Option V)}{H H':Hp}{s:Shared}{h':Heap}
theorem Cx.Ok.nofr (ok:X.Ok){b:Addr}{o:Obj}(e:X.base.get? b=some o):b ∉ X.fs:=λhb=>by
 have:=(ok.funs.mem hb).1
 rw[e] at this;cases this
theorem Inv.bs (I:Inv X pins σ H s):∀ b o,X.base.get? b=some o->s.heap.get? b=some o/\H b=none:=λb o e =>
 ⟨I.base.keep b o (I.ok.bs b o e).1 (I.ok.bs b o e).2 (I.ok.nofr e) (I.ok.noex b o e),I.base.free b o (I.ok.bs b o e).1 (I.ok.bs b o e).2 (I.ok.noex b o e)⟩
theorem Inv.bk (I:Inv X pins σ H s):∀ b o,X.base.get? b=some o->s.heap.get? b=some o:=λb o e=>(I.bs b o e).1
theorem Inv.mod (I:Inv X pins σ H s):Mod X.K X.mg X.base:=I.ok.mod
theorem Inv.kIn (I:Inv X pins σ H s):X.K.In s.heap:=I.ok.mod.kin.keeps I.bk
theorem Inv.nolimit (I:Inv X pins σ H s):s.heap.NoLimit:=I.ok.mod.nolimit.keeps I.bk
theorem Inv.lt (I:Inv X pins σ H s):X.env.locals<s.heap.objs.size:=let ⟨_,hn,_⟩:=I.loc;hn.lt
theorem Inv.sz (I:Inv X pins σ H s):X.s₀.heap.objs.size<=s.heap.objs.size:=Nat.le_trans I.ok.above (Nat.le_of_lt I.lt)
theorem Inv.nofs (I:Inv X pins σ H s){a:Addr}(h:s.heap.objs.size<=a):a ∉ X.fs:=λhb=>by
 obtain⟨_,o,ho,_⟩:=I.ok.funs.mem hb
 exact absurd (Nat.lt_of_lt_of_le (Γl ho) (Nat.le_trans I.sz h)) (Nat.lt_irrefl _)
theorem Inv.cne (I:Inv X pins σ H s):∀ x c,X.env.cells.lookup x=some c->c≠X.env.locals:=λx c e z=>by
 obtain⟨v,o,ho,hd⟩:=I.cell x c e
 obtain⟨m,⟨o',es,ep,ho',hd',_⟩,_⟩:=I.loc
 rw[z,ho'] at ho;cases ho;rw[hd'] at hd;cases hd
theorem Inv.funs (I:Inv X pins σ H s):s.heap.FunFrames X.base X.outer:=by
 have all:∀ (l:List Env),(∀ b∈frs l,b∈X.fs)->X.s₀.heap.FunFrames X.base l->s.heap.FunFrames X.base l:=by
  intro l
  induction l with
  | nil=>intro _ _;trivial
  | cons env r ih =>
   intro hs hl
   obtain⟨hk,⟨L,o,hf,hn,ho,hd⟩,hr⟩:=hl
   have hL:L∈X.fs:=hs L (by unfold frs;rw[List.filterMap_cons,hf];exact Γn)
   obtain⟨sl,e⟩:=I.base.slot L o ho (I.ok.frf L hL) hL λz=>I.ok.exfs L z hL
   exact⟨hk,⟨L,_,hf,hn,e,hd⟩,ih (λb hb=>hs b (by unfold frs;rw[List.filterMap_cons,hf];exact Γh _ hb)) hr⟩
 exact all X.outer (λ_ hb=>hb) I.ok.funs
theorem Inv.stack (I:Inv X pins σ H s):s.heap.FunFrames X.base X.stack:=by
 rcases I.ok.stk with e|⟨e,hf⟩
 ·rw[e];exact I.funs
 ·rw[e]
  obtain⟨m,hn,_⟩:=I.loc
  refine .cons (by rw[I.ok.kind];decide) hf hn ?_ I.funs
  exact Heap.get?_none_of_le (Nat.le_trans I.ok.bsz I.ok.above)
theorem Inv.stkSub (I:Inv X pins σ H s):∀ b∈frs X.stack,b∈X.env.locals :: X.fs:=λb hb=>by
 rcases I.ok.stk with e|⟨e,hf⟩
 ·rw[e] at hb;exact Γh _ hb
 ·rw[e] at hb
  unfold frs at hb
  rw[List.filterMap_cons,hf] at hb
  exact hb
theorem Inv.stkFree (I:Inv X pins σ H s):∀ b∈frs X.stack,H b=none:=λb hb=>by
 rcases List.mem_cons.mp (I.stkSub b hb) with e|hb
 ·rw[e];exact I.free
 ·obtain⟨_,o,ho,_⟩:=I.ok.funs.mem hb
  exact I.base.free b o ho (I.ok.frf b hb) λz=>I.ok.exfs b z hb
theorem Inv.step {g':Array GenState}{t':Nat}{d':Drawn}{ch:List Addr}(I:Inv X pins σ H s)
  (hch:∀ b∈ch,(b∈X.ex ∨ X.s₀.heap.objs.size<=b)/\b≠X.env.locals/\(∀ x c,X.env.cells.lookup x=some c->c≠b)/\∀ p∈X.pn++pins,p.1≠b)
  (keep:∀ b o,b≠X.env.locals->b ∉ X.fs->b ∉ ch->s.heap.get? b=some o->H b=none->h'.get? b=some o)
  (slot:∀ b o,b≠X.env.locals->b∈X.fs->b ∉ ch->s.heap.get? b=some o->H b=none->∃ sl,h'.get? b=some { o with slots:=sl })(free:∀ b o,b ∉ ch->s.heap.get? b=some o->H b=none->H' b=none)
  (there:∀ b o,b ∉ ch->s.heap.get? b=some o->∃ o',h'.get? b=some o')
  (tups:∀ b xs,H b=some (.tup xs)->H' b=some (.tup xs))(frzs:∀ b o u,H b=some (.frz o u)->H' b=some (.frz o u))(tbls:∀ b ps,H b=some (.tbl ps)->∃ more,H' b=some (.tbl (ps++more)))
  (ns:∀ m,s.heap.Ns X.env.locals m->h'.Ns X.env.locals m)(hok:HOk X.prog X.w H' h')(hg:AllBare g') :
  Inv X pins σ H' { s with heap:=h',gens:=g',drawn:=d',toks:=t' }:=by
 have neL:∀ b o,X.s₀.heap.get? b=some o->b≠X.env.locals:=λb o e=>Γo (Nat.lt_of_lt_of_le (Γl e) I.ok.above)
 have neC:∀ b o,X.s₀.heap.get? b=some o->b ∉ X.ex->b ∉ ch:=λb o e hx hb=>by
  rcases (hch b hb).1 with z|z
  ·exact hx z
  ·exact absurd (Nat.lt_of_lt_of_le (Γl e) z) (Nat.lt_irrefl _)
 have cellK:∀ x c,X.env.cells.lookup x=some c->∀ v,s.heap.IsCell c v->h'.IsCell c v:=λx c e v ⟨o,ho,hd⟩=>by
  have nch:c ∉ ch:=λz=>(hch c z).2.2.1 x c e rfl
  by_cases hc:c∈X.fs
  ·obtain⟨sl,q⟩:=slot c o (I.cne x c e) hc nch ho (I.freeC x c e)
   exact⟨_,q,hd⟩
  ·exact⟨o,keep c o (I.cne x c e) hc nch ho (I.freeC x c e),hd⟩
 refine⟨I.ok,I.os,hg,⟨λb o e n hb hx=>?_,λb o e n hb hx=>?_,λb o e n hx=>?_,λb o e hx=>?_,λb xs e=>tups b xs (I.base.tups b xs e),λb o xs e=>frzs b o xs (I.base.frzs b o xs e),λb ps e=>?_⟩,?_,λx c e=>?_,?_,λx c e=>?_,λp hp=>?_,hok,I.len⟩
 ·exact keep b o (neL b o e) hb (neC b o e hx) (I.base.keep b o e n hb hx) (I.base.free b o e n hx)
 ·obtain⟨sl,e1⟩:=I.base.slot b o e n hb hx
  obtain⟨sl',e2⟩:=slot b _ (neL b o e) hb (neC b o e hx) e1 (I.base.free b o e n hx)
  exact⟨sl',e2⟩
 ·obtain⟨o',e1⟩:=I.base.there b o e hx
  exact free b o' (neC b o e hx) e1 (I.base.free b o e n hx)
 ·obtain⟨o',e1⟩:=I.base.there b o e hx
  exact there b o' (neC b o e hx) e1
 ·obtain⟨m1,e1⟩:=I.base.tbls b ps e
  obtain⟨m2,e2⟩:=tbls b _ e1
  exact⟨m1++m2,by rw[e2,Array.append_assoc]⟩
 ·obtain⟨m,hn,hl⟩:=I.loc
  refine⟨m,ns m hn,λi x v e1 e2 e3=>?_⟩
  obtain⟨u,r,l⟩:=hl i x v e1 e2 e3
  refine⟨u,r,?_⟩
  rcases l with l|⟨k,c,e,z⟩
  ·exact .inl l
  ·exact .inr ⟨k,c,e,cellK x c e _ z⟩
 ·obtain⟨v,z⟩:=I.cell x c e
  exact⟨v,cellK x c e v z⟩
 ·obtain⟨m,⟨o,_,_,ho,_⟩,_⟩:=I.loc
  exact free _ o (λz=>(hch _ z).2.1 rfl) ho I.free
 ·obtain⟨v,o,ho,hd⟩:=I.cell x c e
  exact free c o (λz=>(hch c z).2.2.1 x c e rfl) ho (I.freeC x c e)
 ·obtain⟨e,n,ne,nf,d⟩:=I.pin p hp
  have nch:p.1 ∉ ch:=λz=>(hch p.1 z).2.2.2 p hp rfl
  exact⟨keep p.1 p.2 ne nf nch e n,free p.1 p.2 nch e n,ne,nf,d⟩
theorem Inv.un {t':Nat}(I:Inv X pins σ H s)(u:Un X.fs [] H H' s.heap h')(hok:HOk X.prog X.w H' h'):Inv X pins σ H' { s with heap:=h',toks:=t' }:=by
 obtain⟨m,⟨o,es,ep,ho,r⟩,_⟩:=id I.loc
 obtain⟨sl,hL⟩:=u.any ho I.free (by simp)
 exact I.step (g':=s.gens) (d':=s.drawn) (ch:=[]) (λ_ z=>nomatch z) (λb o _ hb _ e n=>u.keep b o e n hb (by simp)) (λb o _ hb _ e n=>u.slot b o e n hb (by simp)) (λb o _ e n=>u.free b o e n (by simp)) (λb o _ e=>u.there b o e (by simp)) u.tups u.frzs u.tbls (λm' hm=>by
  obtain⟨o',es',ep',ho',r'⟩:=hm
  rw[ho] at ho';cases ho'
  exact⟨_,es',ep',hL,r'⟩) hok I.bare
theorem Inv.call {g':Array GenState}{t':Nat}{d':Drawn}{ch:List Addr}(I:Inv X pins σ H s)(u:Un (frs X.stack) ch H H' s.heap h')(hok:HOk X.prog X.w H' h')(hg:AllBare g')
  (hch:∀ b∈ch,(b∈X.ex ∨ X.s₀.heap.objs.size<=b)/\b≠X.env.locals/\(∀ x c,X.env.cells.lookup x=some c->c≠b)/\∀ p∈X.pn++pins,p.1≠b) :
  Inv X pins σ H' { s with heap:=h',gens:=g',drawn:=d',toks:=t' }:=by
 obtain⟨m,⟨o,es,ep,ho,r⟩,_⟩:=id I.loc
 obtain⟨sl,hL⟩:=u.any ho I.free λz=>(hch _ z).2.1 rfl
 exact I.step (ch:=ch) hch (λb o hL hb hc e n=>u.keep b o e n (λz=>(List.mem_cons.mp (I.stkSub b z)).elim hL hb) hc) (λb o _ _ hc e n=>u.any e n hc) (λb o hc e n=>u.free b o e n hc) (λb o hc e=>u.there b o e hc) u.tups u.frzs u.tbls (λm' hm=>by
  obtain⟨o',es',ep',ho',r'⟩:=hm
  rw[ho] at ho';cases ho'
  exact⟨_,es',ep',hL,r'⟩) hok hg
theorem Inv.turned {t':Nat}{it:Addr}(I:Inv X pins σ H s)(k:∀ b o,b≠it->s.heap.get? b=some o->h'.get? b=some o)(hn:H it=none)(hL:it≠X.env.locals)
  (h1:it∈X.ex ∨ X.s₀.heap.objs.size<=it)(h2:∀ x c,X.env.cells.lookup x=some c->c≠it)(h3:∀ p∈X.pn++pins,p.1≠it):Inv X pins σ H { s with heap:=h',toks:=t' }:=by
 have nit:∀ b u,H b=some u->b≠it:=λb u e z=>by rw[z,hn] at e;cases e
 refine I.step (g':=s.gens) (d':=s.drawn) (ch:=[it]) (λb hb=>?_) (λb o _ _ hc e _=>k b o (λz=>hc (by simp[z])) e) (λb o _ _ hc e _=>⟨o.slots,k b o (λz=>hc (by simp[z])) e⟩) (λ_ _ _ _ n=>n)
  (λb o hc e=>⟨o,k b o (λz=>hc (by simp[z])) e⟩) (λ_ _ e=>e) (λ_ _ _ e=>e) (λb ps e=>⟨#[],by rw[e];simp⟩) (λm hm=>?_) (λb u e=>?_) I.bare
 ·have e:b=it:=by simpa using hb
  subst e
  exact⟨h1,hL,h2,h3⟩
 ·obtain⟨o,es,ep,ho,r⟩:=hm
  exact⟨o,es,ep,k _ o (Ne.symm hL) ho,r⟩
 ·refine (I.hok b u e).stay (λc v hc q=>k c v ?_ q) (λ_ q=>q) λ_ _ q=>q
  rcases hc with z|z
  ·rw[z];exact nit b u e
  ·exact nit c _ z
theorem Inv.tok (I:Inv X pins σ H s) (t:Nat):Inv X pins σ H { s with toks:=t }:=I.un (h':=s.heap) (t':=t) Un.refl I.hok
theorem Inv.kept {t':Nat}(I:Inv X pins σ H s)(k:∀ b u,s.heap.get? b=some u->h'.get? b=some u):Inv X pins σ H { s with heap:=h',toks:=t' }:=I.un (Un.kept k) (I.hok.kept k)
theorem Inv.laid {a:Addr}{o:HO}{t':Nat}(I:Inv X pins σ H s)(k:∀ b u,s.heap.get? b=some u->h'.get? b=some u)(hp:s.heap.objs.size<=a)(new:ObjOk X.prog X.w (upd H a o) h' a o) :
  Inv X pins σ (upd H a o) { s with heap:=h',toks:=t' }:=I.un (Un.laid k hp (I.hok.fresh hp)) (I.hok.laid k hp new)
theorem Inv.write {x e:Addr}{o:HO}{t':Nat}(I:Inv X pins σ H s)(mu:Mut (H x))(he:e=x ∨ H e=some (.own x))(k:∀ b u,b≠e->s.heap.get? b=some u->h'.get? b=some u)(heo:∃ u,h'.get? e=some u)
  (new:ObjOk X.prog X.w (upd H x o) h' x o):Inv X pins σ (upd H x o) { s with heap:=h',toks:=t' }:=I.un (Un.write mu he k heo) (I.hok.write mu he k heo new)
theorem Inv.weak {σ':List (Option V)}(I:Inv X pins σ H s)(hl:σ'.length=σ.length)(w:∀ (i:Nat) v,σ'[i]?=some (some v)->σ[i]?=some (some v)):Inv X pins σ' H s :=
 ⟨I.ok,I.os,I.bare,I.base,let ⟨m,hn,hl'⟩:=I.loc;⟨m,hn,λi x v e1 e2 e3=>hl' i x v e1 (w i v e2) e3⟩,I.cell,I.free,I.freeC,I.pin,I.hok,hl.trans I.len⟩
theorem Inv.pins_of {pins':List (Addr×Obj)}(I:Inv X pins σ H s)(h:∀ p∈pins',s.heap.get? p.1=some p.2/\H p.1=none/\p.1≠X.env.locals/\p.1 ∉ X.fs/\∀ v,p.2.data≠.cell v):Inv X pins' σ H s :=
 ⟨I.ok,I.os,I.bare,I.base,I.loc,I.cell,I.free,I.freeC,λp hp=>(List.mem_append.mp hp).elim (λz=>I.pin p (List.mem_append_left _ z)) (h p),I.hok,I.len⟩
theorem b2n {N:List Str}(hN:N.Nodup){i j:Nat}{x:Str}(a:N[i]?=some x)(b:N[j]?=some x):i=j:=by
 obtain⟨h1,e1⟩:=List.getElem?_eq_some_iff.mp a
 obtain⟨h2,e2⟩:=List.getElem?_eq_some_iff.mp b
 exact (List.getElem_inj hN).mp (e1.trans e2.symm)
theorem a5v {M:Model}{A:Around}{E:Value->Shared->Prop}{i:Nat}{x:Str}{v:V}{u:Value}{Q:Unit->Shared->Prop}(I:Inv X pins σ H s)(hN:X.N.Nodup)(hi:X.N[i]?=some x)(hx:Loc X.env.scope x)(r:RelV v u)
  (h:∀ s',Inv X pins (σ.set i (some v)) H s'->(∃ a,Heap.SameBut a s.heap s'.heap/\(a=X.env.locals ∨ X.env.cells.lookup x=some a))->Q () s')(hf:X.fn x=true ∨ X.env.scope.names.lookup x=some .local:=by first|exact .inl rfl|exact .inr rfl|assumption):wpAny M A (storeName X.env x u) Q E s:=by
 obtain⟨m,hn,hl⟩:=id I.loc
 have hcls:(X.env.scope.kind == .class || (X.env.scope.kind == .module && X.env.locals != X.env.globals))=false:=by rw[I.ok.kind];rfl
 have hiσ:i<σ.length:=by rw[I.len];exact (List.getElem?_eq_some_iff.mp hi).1
 have cne:=I.cne
 have tracked:∀ {a:Addr}{h':Heap},(∃ o,s.heap.get? a=some o/\H a=none)->Heap.SameBut a s.heap h'->HOk X.prog X.w H h':=λ{a h'} ha hs b ob e=>by
  obtain⟨_,_,hfree⟩:=ha
  refine (I.hok b ob e).stay (λc w' hc q=>(hs.2 c ?_).trans q) (λ_ q=>q) λ_ _ q=>q
  rintro rfl
  rcases hc with rfl|hc
  ·rw[hfree] at e;cases e
  ·rw[hfree] at hc;cases hc
 rcases hx with hk|hk
 ·refine wpAny_storeName_local hk hn (λh' hn' hs=>?_) hcls
  obtain⟨oL,_,_,hoL,_⟩:=id hn
  refine h _ ⟨I.ok,I.os,I.bare,⟨λb o e n hb hx=>?_,λb o e n hb hx=>?_,I.base.free,λb o e hx=>?_,I.base.tups,I.base.frzs,I.base.tbls⟩,⟨_,hn',λj y v' e1 e2 e3=>?_⟩,λy c e=>?_,I.free,I.freeC,λp hp=>?_,tracked ⟨oL,hoL,I.free⟩ hs,by simpa using I.len⟩ ⟨_,hs,.inl rfl⟩
  ·exact (hs.2 b (Γo (Nat.lt_of_lt_of_le (Γl e) I.ok.above))).trans (I.base.keep b o e n hb hx)
  ·obtain⟨sl,e1⟩:=I.base.slot b o e n hb hx
   exact⟨sl,(hs.2 b (Γo (Nat.lt_of_lt_of_le (Γl e) I.ok.above))).trans e1⟩
  ·obtain⟨o',e1⟩:=I.base.there b o e hx
   exact⟨o',(hs.2 b (Γo (Nat.lt_of_lt_of_le (Γl e) I.ok.above))).trans e1⟩
  ·by_cases hj:j=i
   ·subst hj
    rw[hi] at e1;cases e1
    rw[List.getElem?_set_self hiσ] at e2
    cases e2
    exact⟨u,r,.inl ⟨hk,by simp⟩⟩
   ·rw[List.getElem?_set_ne (Ne.symm hj)] at e2
    obtain⟨u',r',q⟩:=hl j y v' e1 e2 e3
    refine⟨u',r',?_⟩
    rcases q with⟨k,e⟩|⟨k,c,e,z⟩
    ·refine .inl ⟨k,?_⟩
     have:y≠x:=λe=>hj (b2n hN e1 (e ▸ hi))
     simp[this,e]
    ·exact .inr ⟨k,c,e,z.sameBut hs (cne y c e)⟩
  ·obtain⟨w',z⟩:=I.cell y c e
   exact⟨w',z.sameBut hs (cne y c e)⟩
  ·obtain⟨e,n,ne,nf,d⟩:=I.pin p hp
   exact⟨(hs.2 p.1 ne).trans e,n,ne,nf,d⟩
 ·have hfn:X.fn x=true:=by
   rcases hf with z|z
   ·exact z
   ·rw[z] at hk;cases hk
  obtain⟨c,hc⟩:=I.ok.has x (.inl hk)
  obtain⟨w',z⟩:=I.cell x c hc
  refine wpAny_storeName_cell I.ok.kind hk hc z (λh' hc' hs=>?_)
  obtain⟨oc,hoc,hocd⟩:=id z
  refine h { s with heap:=h' } ⟨I.ok,I.os,I.bare,⟨λb o e n hb hx=>?_,λb o e n hb hx=>?_,I.base.free,λb o e hx=>?_,I.base.tups,I.base.frzs,I.base.tbls⟩,⟨m,hn.sameBut hs (Ne.symm (cne x c hc)),λj y v' e1 e2 e3=>?_⟩,λy c' e=>?_,I.free,I.freeC,λp hp=>?_,tracked ⟨oc,hoc,I.freeC x c hc⟩ hs,by simpa using I.len⟩ ⟨c,hs,.inr hc⟩
  ·exact (hs.2 b (Γo (Nat.lt_of_lt_of_le (Γl e) (I.ok.cab x c hfn hc)))).trans (I.base.keep b o e n hb hx)
  ·obtain⟨sl,e1⟩:=I.base.slot b o e n hb hx
   exact⟨sl,(hs.2 b (Γo (Nat.lt_of_lt_of_le (Γl e) (I.ok.cab x c hfn hc)))).trans e1⟩
  ·obtain⟨o',e1⟩:=I.base.there b o e hx
   exact⟨o',(hs.2 b (Γo (Nat.lt_of_lt_of_le (Γl e) (I.ok.cab x c hfn hc)))).trans e1⟩
  ·by_cases hj:j=i
   ·subst hj
    rw[hi] at e1;cases e1
    rw[List.getElem?_set_self hiσ] at e2
    cases e2
    exact⟨u,r,.inr ⟨.inl hk,c,hc,hc'⟩⟩
   ·rw[List.getElem?_set_ne (Ne.symm hj)] at e2
    obtain⟨u',r',q⟩:=hl j y v' e1 e2 e3
    refine⟨u',r',?_⟩
    rcases q with q|⟨k,c',e,z'⟩
    ·exact .inl q
    ·refine .inr ⟨k,c',e,z'.sameBut hs ?_⟩
     rintro rfl
     exact hj (b2n hN e1 (I.ok.inj _ _ _ e hc ▸ hi))
  ·by_cases hcc:c'=c
   ·subst hcc;exact⟨_,hc'⟩
   ·obtain⟨w2,z2⟩:=I.cell y c' e
    exact⟨w2,z2.sameBut hs hcc⟩
  ·obtain⟨e,n,ne,nf,d⟩:=I.pin p hp
   refine⟨(hs.2 p.1 ?_).trans e,n,ne,nf,d⟩
   intro q
   rw[q,hoc] at e
   have q':oc=p.2:=Option.some.inj e
   exact d w' (by rw[<- q'];exact hocd)
theorem a4j {M:Model}{A:Around}{E:Value->Shared->Prop}{i:Nat}{x:Str}{v:V}{u:Value}{Q:Unit->Shared->Prop}(I:Inv X pins σ H s)(hN:X.N.Nodup)(hi:X.N[i]?=some x)(hx:Loc X.env.scope x)(r:RelV v u)
  (h:∀ s',Inv X pins (σ.set i (some v)) H s'->Q () s')(hf:X.fn x=true ∨ X.env.scope.names.lookup x=some .local:=by first|exact .inl rfl|exact .inr rfl|assumption):wpAny M A (storeName X.env x u) Q E s :=
 a5v I hN hi hx r (λs' I' _=>h s' I') hf
theorem Inv.call' {s':Shared}{ch:List Addr}(I:Inv X pins σ H s)(ho:s'.os=s.os)(u:Un (frs X.stack) ch H H' s.heap s'.heap)(hok:HOk X.prog X.w H' s'.heap)(hg:AllBare s'.gens)
  (hch:∀ b∈ch,(b∈X.ex ∨ X.s₀.heap.objs.size<=b)/\b≠X.env.locals/\(∀ x c,X.env.cells.lookup x=some c->c≠b)/\∀ p∈X.pn++pins,p.1≠b):Inv X pins σ H' s':=by
 obtain⟨h',g',d',t',o'⟩:=s'
 have e:o'=s.os:=ho
 subst e
 exact I.call (g':=g') (t':=t') (d':=d') u hok hg hch
end
abbrev XK:=Value->Option Addr->Hp->Prop
abbrev St:=List (Option V)
abbrev VK:=V->Hp->Prop
abbrev TE:=St->Hp->VK->Prop
abbrev TT:=St->Hp->(Bool->Hp->Prop)->Prop
abbrev TA:=St->Hp->(List V->Hp->Prop)->Prop
structure Ends where
 nx:St->Hp->Prop
 rt:VK
 bk:St->Hp->Prop:=λ_ _=>False
 ct:St->Hp->Prop:=λ_ _=>False
abbrev TS:=Ends->St->Hp->Prop
def EP (X:Cx)(pins:List (Addr×Obj))(σ:St)(Q:VK)(u:Value)(s':Shared):Prop:=∃ v H',Inv X pins σ H' s'/\RelV v u/\Q v H'
def TP (X:Cx)(pins:List (Addr×Obj))(σ:St)(Q:Bool->Hp->Prop)(b:Bool)(s':Shared):Prop:=∃ H',Inv X pins σ H' s'/\Q b H'
def AP (X:Cx)(pins:List (Addr×Obj))(σ:St)(Q:List V->Hp->Prop)(us:List Value)(s':Shared):Prop:=∃ vs H',Inv X pins σ H' s'/\Vals vs us/\Q vs H'
def SP (X:Cx)(pins:List (Addr×Obj))(D:Ends)(f:Flow)(s':Shared):Prop :=
 match f with
 | .next=>∃ σ' H',Inv X pins σ' H' s'/\D.nx σ' H'
 | .brk=>∃ σ' H',Inv X pins σ' H' s'/\D.bk σ' H'
 | .cont=>∃ σ' H',Inv X pins σ' H' s'/\D.ct σ' H'
 | .ret u=>∃ v σ' H',Inv X pins σ' H' s'/\RelV v u/\D.rt v H'
def PE (X:Cx)(e:Expr)(t:TE):Prop :=
 ∀ (pins:List (Addr×Obj))(s:Shared)(σ:St)(H:Hp)(Q:VK),Inv X pins σ H s->t σ H Q->wpAny (model X.prog X.w) X.A (eval e X.env) (EP X pins σ Q) X.xe s
def PT (X:Cx)(e:Expr)(t:TT):Prop :=
 ∀ (pins:List (Addr×Obj))(s:Shared)(σ:St)(H:Hp)(Q:Bool->Hp->Prop),Inv X pins σ H s->t σ H Q->wpAny (model X.prog X.w) X.A (isTrue e X.env (eval e X.env)) (TP X pins σ Q) X.xe s
def PW (X:Cx)(e:Expr)(t:TT):Prop :=
 ∀ (whole:Sem Value)(pins:List (Addr×Obj))(s:Shared)(σ:St)(H:Hp)(Q:Bool->Hp->Prop),Inv X pins σ H s->t σ H Q->wpAny (model X.prog X.w) X.A (isTrue e X.env whole) (TP X pins σ Q) X.xe s
theorem PW.pt {X:Cx}{e:Expr}{t:TT}(h:PW X e t):PT X e t:=h _
def PA (X:Cx)(es:List Expr)(t:TA):Prop :=
 ∀ (pos:Pos)(pins:List (Addr×Obj))(s:Shared)(σ:St)(H:Hp)(Q:List V->Hp->Prop),Inv X pins σ H s->t σ H Q->wpAny (model X.prog X.w) X.A (spliced (backTo pos (starEach es X.env))) (AP X pins σ Q) X.xe s
def PS (X:Cx)(st:Stmt)(t:TS):Prop :=
 ∀ (pins:List (Addr×Obj))(s:Shared)(σ:St)(H:Hp)(D:Ends),Inv X pins σ H s->t D σ H->wpAny (model X.prog X.w) X.A (exec st X.env) (SP X pins D) X.xe s
def PSs (X:Cx)(st:List Stmt)(t:TS):Prop :=
 ∀ (pins:List (Addr×Obj))(s:Shared)(σ:St)(H:Hp)(D:Ends),Inv X pins σ H s->t D σ H->wpAny (model X.prog X.w) X.A (execs st X.env) (SP X pins D) X.xe s
theorem thn {α:Type}{t:Sem α}{Q Q':α->Shared->Prop}{M:Model}{A:Around}{E:Value->Shared->Prop}{s:Shared}(h:wpAny M A t Q E s)(hQ:∀ a s,Q a s->Q' a s):wpAny M A t Q' E s:=wpAny_mono h hQ λ_ _ x=>x
end L2
namespace L2
open PySem PySem.Spec PyProof.Rows
section
variable {X:Cx}
def c6w (i:Nat):TE:=λσ H Q=>∃ v,σ[i]?=some (some v)/\Q v H
def tC (v:V):TE:=λ_ H Q=>Q v H
theorem b5q {i:Nat}{x:Str}{pos:Pos}(hN:X.N[i]?=some x)(hv:Vis X.env.scope x)(hd:(x == ("__debug__":Str))=false:=by decide)(hcd:(x == ("__classdict__":Str))=false:=by decide):PE X (.Name x pos) (c6w i):=by
 intro pins s σ H Q I h
 obtain⟨v,e,h⟩:=h
 obtain⟨m,hn,hl⟩:=I.loc
 obtain⟨u,r,l⟩:=hl i x v hN e hv
 have fin:EP X pins σ Q u s:=⟨v,H,I,r,h⟩
 rcases l with⟨hk,hm⟩|⟨hk,c,hc,hcell⟩
 ·exact wpAny_Name (wpAny_loadName_local I.ok.kind hk hn hm fin) hd
 ·rcases hk with hk|hk
  ·exact wpAny_Name (wpAny_loadName_cell I.ok.kind hk hc hcell fin) hd
  ·exact wpAny_Name (wpAny_loadName_free I.ok.kind hk hc hcell fin hcd) hd
theorem c8m {i j pos}:PE X (.Constant (.int i) j pos) (tC (.int i)):=λ_ _ _ H _ I h=>wpAny_Constant_int ⟨.int i,H,I.tok _,⟨_,rfl⟩,h⟩
theorem d4t {b j pos}:PE X (.Constant (.bool b) j pos) (tC (.bl b)):=λ_ _ _ H _ I h=>Constant_bool ⟨.bl b,H,I,rfl,h⟩
theorem c8k {j pos}:PE X (.Constant .none j pos) (tC .non):=λ_ _ _ H _ I h=>Constant_none ⟨.non,H,I,rfl,h⟩
def Gl (X:Cx)(x:Str):Prop:=X.env.kindOf x=some .globalImplicit
theorem c4q {E:Value->Shared->Prop}{pins:List (Addr×Obj)}{s:Shared}{σ:St}{H:Hp}{x:Str}{u:Value}{pos:Pos}{Q:Value->Shared->Prop}(I:Inv X pins σ H s)(hg:Gl X x)(hm:X.mg x=some u)(h:Q u s)
  (hd:(x == ("__debug__":Str))=false:=by decide):wpAny (model X.prog X.w) X.A (eval (.Name x pos) X.env) Q E s :=
 Calls.Name_function_global I.ok.kind hg (Calls.loadGlobal_global (by rw[I.ok.glob];exact I.mod.glob.keeps I.bk) hm h) hd
theorem a9r {E:Value->Shared->Prop}{pins:List (Addr×Obj)}{s:Shared}{σ:St}{H:Hp}{x:Str}{u:Value}{pos:Pos}{Q:Value->Shared->Prop}(I:Inv X pins σ H s)(hg:Gl X x)(hm:X.mg x=none)(hv:bootBuiltins x=some u)(h:Q u s)
  (hn:x≠"__name__":=by decide)(hd:(x == ("__debug__":Str))=false:=by decide):wpAny (model X.prog X.w) X.A (eval (.Name x pos) X.env) Q E s:=by
 obtain⟨mb,h1,h2⟩:=I.mod.blt
 exact Calls.Name_function_global I.ok.kind hg (Calls.loadGlobal_builtin (by rw[I.ok.glob];exact I.mod.glob.keeps I.bk) hm (by rw[I.ok.blt];exact h1.keeps I.bk) ((h2 x hn).trans hv) h) hd
theorem c3z {x:Str}{v:V}{u:Value}{pos:Pos}(hg:Gl X x)(hm:X.mg x=none)(hv:bootBuiltins x=some u)(r:RelV v u)(hn:x≠"__name__":=by decide)(hd:(x == ("__debug__":Str))=false:=by decide):PE X (.Name x pos) (tC v) :=
 λ_ _ _ H _ I h=>a9r I hg hm hv ⟨v,H,I,r,h⟩ hn hd
variable {a b:Expr}{ta tb:TE}{pos:Pos}
def PC (X:Cx)(op:CmpOp)(a b:Expr)(t:TE):Prop :=
 ∀ (pins:List (Addr×Obj))(s:Shared)(σ:St)(H:Hp)(Q:VK),Inv X pins σ H s->t σ H Q ->
  wpAny (model X.prog X.w) X.A (eval a X.env) (λv s₁=>wpAny (model X.prog X.w) X.A (eval b X.env) (λu s₂=>wpAny (model X.prog X.w) X.A (compareOp op v u) (EP X pins σ Q) X.xe s₂) X.xe s₁) X.xe s
theorem a1w (b:Expr){op:CmpOp}(h:op≠.In)(h2:op≠.NotIn):behindInMarks op b=false:=by
 have e1:(op == CmpOp.In)=false:=by cases op<;>first|rfl|exact absurd rfl h
 have e2:(op == CmpOp.NotIn)=false:=by cases op<;>first|rfl|exact absurd rfl h2
 cases b<;>simp[behindInMarks,e1,e2]
def tIsN (ta:TE):TE:=λσ H Q=>ta σ H λx H1=>Q (.bl (decide (x=.non))) H1
def d3i (ta:TE):TE:=λσ H Q=>ta σ H λx H1=>Q (.bl (!decide (x=.non))) H1
theorem RelV.none_iff {x:V}{v:Value}(r:RelV x v):(v == Value.none)=decide (x=.non):=by
 cases x with
 | non=>cases r;rfl
 | bl _=>cases r;rfl
 | int _=>obtain⟨t,rfl⟩:=r;rfl
 | str _=>obtain⟨t,rfl⟩:=r;rfl
 | byt _=>obtain⟨t,rfl⟩:=r;rfl
 | flt _=>obtain⟨t,rfl⟩:=r;rfl
 | ref _=>cases r;rfl
 | ty _=>cases r;rfl
theorem c2c {j pos'}(ha:PE X a ta):PC X .Is a (.Constant .none j pos') (tIsN ta):=by
 intro pins s σ H Q I h
 refine thn (ha pins s σ H _ I h) λv s1 ⟨x,H1,I1,r1,q1⟩=>?_
 exact Constant_none (is_none_gen ⟨.bl _,H1,I1,by rw[r1.none_iff];rfl,q1⟩)
theorem b5s {j pos'}(ha:PE X a ta):PC X .IsNot a (.Constant .none j pos') (d3i ta):=by
 intro pins s σ H Q I h
 refine thn (ha pins s σ H _ I h) λv s1 ⟨x,H1,I1,r1,q1⟩=>?_
 exact Constant_none (isnot_none_gen ⟨.bl _,H1,I1,by rw[r1.none_iff];rfl,q1⟩)
def tB (t:TE):TT:=λσ H Q=>t σ H λx H1=>∃ c,x=.bl c/\Q c H1
theorem c2b {op:CmpOp}{t:TE}(h:PC X op a b t)(h1:behindInMarks op b=false:=by first|exact a1w _ (by decide) (by decide)|rfl):PE X (.Compare a [op] [b] pos) t:=λpins s σ H Q I hw=>wpAny_Compare1 (h pins s σ H Q I hw) h1
theorem c1v {op:CmpOp}{t:TE}(h:PC X op a b t)(h1:behindInMarks op b=false:=by first|exact a1w _ (by decide) (by decide)|rfl):PT X (.Compare a [op] [b] pos) (tB t):=by
 intro pins s σ H Q I hw
 refine wpAny_isTrue_Compare1 (thn (h pins s σ H _ I hw) λv s1 h1=>thn h1 λu s2 h2=>thn h2 λc s3 ⟨x,H1,I1,r1,q1⟩=>?_) h1
 obtain⟨d,rfl,q⟩:=q1
 cases r1
 exact wpAny_truthy_bool ⟨H1,I1,q⟩
variable {tA tB':TT}{rest:List Expr}
def tAnd (t u:TT):TT:=λσ H Q=>t σ H λc H1=>if c=true then u σ H1 Q else Q false H1
def tOr (t u:TT):TT:=λσ H Q=>t σ H λc H1=>if c=true then Q true H1 else u σ H1 Q
def tNot (t:TT):TT:=λσ H Q=>t σ H λc H1=>Q (!c) H1
theorem c3k (ha:PT X a tA):PW X (.BoolOp .And [a] pos) tA:=by
 intro wh pins s σ H Q I h
 refine isTrue_and (thn (ha pins s σ H Q I h) λc s1 e=>?_)
 cases c with
 | true=>exact isTrue_and_nil e
 | false=>exact e
theorem c7v (ha:PT X a tA):PW X (.BoolOp .Or [a] pos) tA:=by
 intro wh pins s σ H Q I h
 refine isTrue_or (thn (ha pins s σ H Q I h) λc s1 e=>?_)
 cases c with
 | false=>exact isTrue_or_nil e
 | true=>exact e
theorem c7w (ha:PT X a tA)(hb:PW X (.BoolOp .And (b :: rest) pos) tB'):PW X (.BoolOp .And (a :: b :: rest) pos) (tAnd tA tB'):=by
 intro wh pins s σ H Q I h
 refine isTrue_and (thn (ha pins s σ H _ I h) λc s1 ⟨H1,I1,q1⟩=>?_)
 cases c with
 | true=>exact hb wh pins s1 σ H1 Q I1 q1
 | false=>exact⟨H1,I1,q1⟩
theorem d4q (ha:PT X a tA)(hb:PW X (.BoolOp .Or (b :: rest) pos) tB'):PW X (.BoolOp .Or (a :: b :: rest) pos) (tOr tA tB'):=by
 intro wh pins s σ H Q I h
 refine isTrue_or (thn (ha pins s σ H _ I h) λc s1 ⟨H1,I1,q1⟩=>?_)
 cases c with
 | true=>exact⟨H1,I1,q1⟩
 | false=>exact hb wh pins s1 σ H1 Q I1 q1
theorem c7y (ha:PT X a tA):PT X (.UnaryOp .Not a pos) (tNot tA):=by
 intro pins s σ H Q I h
 exact isTrue_not (ha pins s σ H (λc H1=>Q (!c) H1) I h)
def d3h (ta:TE):TE:=λσ H Q=>ta σ H λx H1=>∃ c,x=.bl c/\Q (.bl (!c)) H1
theorem c8i {op}{t:TE}(h:PE X a t):PE X (.BoolOp op [a] pos) t:=λpins s σ H Q I hw=>BoolOp_one (h pins s σ H Q I hw)
theorem c8j (ha:PE X a ta):PE X (.UnaryOp .Not a pos) (d3h ta):=by
 intro pins s σ H Q I h
 refine UnaryOp_ (thn (ha pins s σ H _ I h) λv s1 ⟨x,H1,I1,r1,q1⟩=>?_)
 obtain⟨c,rfl,q1⟩:=q1
 cases r1
 exact not_of (wpAny_truthy_bool ⟨.bl (!c),H1,I1,rfl,q1⟩)
def tIf (t:TT)(ta tb:TE):TE:=λσ H Q=>t σ H λc H1=>if c=true then ta σ H1 Q else tb σ H1 Q
theorem b9v {c:Expr}(hc:PT X c tA)(ha:PE X a ta)(hb:PE X b tb):PE X (.IfExp c a b pos) (tIf tA ta tb):=by
 intro pins s σ H Q I h
 refine wpAny_IfExp (thn (hc pins s σ H _ I h) λd s1 ⟨H1,I1,q1⟩=>?_)
 cases d with
 | true=>exact ha pins s1 σ H1 Q I1 q1
 | false=>exact hb pins s1 σ H1 Q I1 q1
end
end L2
namespace L2
open PySem PySem.Spec PyProof.Rows
def SqL (K:Γd)(H:Hp)(a:Addr)(xs:List V):Prop :=
 Rd H a (.lst xs) ∨
  ∃ (o:Obj)(its:Array Value) (n:Nat),K.lookup a=some o/\o.cls=.type "list"/\o.dict=none/\o.data=.seq its n/\its.size<=sizeLine/\Vals xs its.toList
def SqT (K:Γd)(H:Hp)(a:Addr)(xs:List V):Prop :=
 Rd H a (.tup xs) ∨
  ∃ (o:Obj)(its:Array Value) (n:Nat),K.lookup a=some o/\o.cls=.type "tuple"/\o.data=.seq its n/\its.size<=sizeLine/\Vals xs its.toList
def absV:Value->Option V
 | .none=>some .non
 | .bool b=>some (.bl b)
 | .int i _=>some (.int i)
 | .str x _=>some (.str x)
 | .bytes b _=>some (.byt b)
 | .float b _=>some (.flt b)
 | .ref a=>some (.ref a)
 | .type n=>some (.ty n)
 | _=>none
theorem RelV.abs {x:V}{u:Value}(r:RelV x u):absV u=some x:=by
 cases x with
 | non=>cases r;rfl
 | bl _=>cases r;rfl
 | int _=>obtain⟨t,rfl⟩:=r;rfl
 | str _=>obtain⟨t,rfl⟩:=r;rfl
 | byt _=>obtain⟨t,rfl⟩:=r;rfl
 | flt _=>obtain⟨t,rfl⟩:=r;rfl
 | ref _=>cases r;rfl
 | ty _=>cases r;rfl
theorem RelV.inj {x y:V}{u:Value}(r:RelV x u)(q:RelV y u):x=y:=Option.some.inj (r.abs.symm.trans q.abs)
theorem Vals.inj:∀ {xs ys:List V}{us:List Value},Vals xs us->Vals ys us->xs=ys
 | _,_,_,.nil,.nil=>rfl
 | _,_,_,.cons r t,.cons r' t'=>by rw[r.inj r',Vals.inj t t']
section
variable {X:Cx}{pins:List (Addr×Obj)}{σ:St}{H:Hp}{s:Shared}{a:Addr}{xs ys:List V}
theorem SqL.of {K:Γd}(h:H a=some (.lst xs)):SqL K H a xs:=.inl (.inl h)
theorem SqT.of {K:Γd}(h:H a=some (.tup xs)):SqT K H a xs:=.inl (.inl h)
theorem Inv.list (I:Inv X pins σ H s)(h:SqL X.K H a xs):∃ its:List Value,Vals xs its/\PlainL s.heap a its.toArray/\xs.length<=sizeLine:=by
 rcases h with h|⟨o,its,n,hk,hc,hd,hs,hz,r⟩
 ·obtain⟨z,its,n,r,e⟩:=h.ok I.hok
  exact⟨its,r,⟨_,n,e,rfl,rfl,rfl⟩,z⟩
 ·refine⟨its.toList,r,⟨o,n,I.kIn a o hk,hc,hd,by simpa using hs⟩,?_⟩
  have e:=r.length
  simp only[Array.length_toList] at e
  lia
theorem Inv.tuple (I:Inv X pins σ H s)(h:SqT X.K H a xs):∃ its:List Value,Vals xs its/\IsTup s.heap a its.toArray/\xs.length<=sizeLine:=by
 rcases h with h|⟨o,its,n,hk,hc,hs,hz,r⟩
 ·obtain⟨z,its,r,p⟩:=h.ok I.hok
  exact⟨its,r,p,z⟩
 ·refine⟨its.toList,r,⟨o,I.kIn a o hk,hc,n,by simpa using hs⟩,?_⟩
  have e:=r.length
  simp only[Array.length_toList] at e
  lia
theorem Inv.list_inj (I:Inv X pins σ H s)(h:SqL X.K H a xs)(h':SqL X.K H a ys):xs=ys:=by
 obtain⟨its,r,⟨o,n,e,_,_,d⟩,_⟩:=I.list h
 obtain⟨its',r',⟨o',n',e',_,_,d'⟩,_⟩:=I.list h'
 rw[e] at e';cases e'
 rw[d] at d'
 injection d' with d1 _
 have:its=its':=by simpa using congrArg Array.toList d1
 subst this
 exact r.inj r'
theorem Inv.tuple_inj (I:Inv X pins σ H s)(h:SqT X.K H a xs)(h':SqT X.K H a ys):xs=ys:=by
 obtain⟨its,r,⟨o,e,_,n,d⟩,_⟩:=I.tuple h
 obtain⟨its',r',⟨o',e',_,n',d'⟩,_⟩:=I.tuple h'
 rw[e] at e';cases e'
 rw[d] at d'
 injection d' with d1 _
 have:its=its':=by simpa using congrArg Array.toList d1
 subst this
 exact r.inj r'
end
abbrev Cx.wish (X:Cx)(E:Value->Shared->Prop):Cx:={ X with xe:=E }
abbrev Cx.nox (X:Cx):Cx:=X.wish λ_ _=>False
theorem Cx.Ok.wish {X:Cx}(ok:X.Ok)(E:Value->Shared->Prop):(X.wish E).Ok :=
 ⟨ok.mod,ok.kind,ok.glob,ok.blt,ok.above,ok.inj,ok.has,ok.cab,ok.hd,ok.frames,ok.stk,ok.exf,ok.bs,ok.bsz,ok.noex,ok.exfs,ok.funs,ok.frf⟩
theorem Cx.Ok.unwish {X:Cx}{E:Value->Shared->Prop}(ok:(X.wish E).Ok):X.Ok :=
 ⟨ok.mod,ok.kind,ok.glob,ok.blt,ok.above,ok.inj,ok.has,ok.cab,ok.hd,ok.frames,ok.stk,ok.exf,ok.bs,ok.bsz,ok.noex,ok.exfs,ok.funs,ok.frf⟩
section
variable {X:Cx}{pins:List (Addr×Obj)}{σ:St}{H:Hp}{s:Shared}{E:Value->Shared->Prop}
theorem Inv.wish (I:Inv X pins σ H s)(E:Value->Shared->Prop):Inv (X.wish E) pins σ H s:=⟨I.ok.wish E,I.os,I.bare,I.base,I.loc,I.cell,I.free,I.freeC,I.pin,I.hok,I.len⟩
theorem Inv.unwish (I:Inv (X.wish E) pins σ H s):Inv X pins σ H s:=⟨I.ok.unwish,I.os,I.bare,I.base,I.loc,I.cell,I.free,I.freeC,I.pin,I.hok,I.len⟩
theorem SP.unwish {D:Ends}{f:Flow}{s':Shared}(h:SP (X.wish E) pins D f s'):SP X pins D f s':=by
 cases f with
 | next=>obtain⟨σ',H',I,q⟩:=h;exact⟨σ',H',I.unwish,q⟩
 | brk=>obtain⟨σ',H',I,q⟩:=h;exact⟨σ',H',I.unwish,q⟩
 | cont=>obtain⟨σ',H',I,q⟩:=h;exact⟨σ',H',I.unwish,q⟩
 | ret u=>obtain⟨v,σ',H',I,r,q⟩:=h;exact⟨v,σ',H',I.unwish,r,q⟩
theorem PE.nox {e:Expr}{t:TE}(h:PE X.nox e t):PE X e t:=λpins s σ H Q I hw =>
 wpAny_mono (h pins s σ H Q (I.wish _) hw) (λ_ _ ⟨v,H',I',r,q⟩=>⟨v,H',I'.unwish,r,q⟩) λ_ _ z=>False.elim z
theorem PT.nox {e:Expr}{t:TT}(h:PT X.nox e t):PT X e t:=λpins s σ H Q I hw =>
 wpAny_mono (h pins s σ H Q (I.wish _) hw) (λ_ _ ⟨H',I',q⟩=>⟨H',I'.unwish,q⟩) λ_ _ z=>False.elim z
theorem PSs.nox {st:List Stmt}{t:TS}(h:PSs X.nox st t):PSs X st t:=λpins s σ H D I hw =>
 wpAny_mono (h pins s σ H D (I.wish _) hw) (λ_ _ q=>q.unwish) λ_ _ z=>False.elim z
end
section
variable {X:Cx}{st:Stmt}{rest:List Stmt}{t u:TS}{e:Expr}{te:TE}{pos:Pos}
def d3j:TS:=λD σ H=>D.nx σ H
def tSeq (t u:TS):TS:=λD σ H=>t { D with nx:=u D } σ H
theorem c3o:PSs X [] d3j:=λ_ _ σ H _ I h=>wpAny_execs_nil ⟨σ,H,I,h⟩
theorem b9q (h1:PS X st t)(h2:PSs X rest u):PSs X (st :: rest) (tSeq t u):=by
 intro pins s σ H D I h
 refine wpAny_execs_cons (thn (h1 pins s σ H { D with nx:=u D } I h) λf s1 q=>?_)
 cases f with
 | next =>
  obtain⟨σ',H',I',q⟩:=q
  exact h2 pins s1 σ' H' D I' q
 | ret v=>exact q
 | brk=>exact q
 | cont=>exact q
theorem c3n (h1:PS X st t):PSs X [st] t:=by
 intro pins s σ H D I h
 refine wpAny_execs_cons (thn (h1 pins s σ H D I h) λf s1 q=>?_)
 cases f with
 | next=>exact wpAny_execs_nil q
 | ret v=>exact q
 | brk=>exact q
 | cont=>exact q
theorem Inv.quiet {pins:List (Addr×Obj)}{σ:St}{H:Hp}{s:Shared}(I:Inv X pins σ H s):interactive X.env=false:=by simp[interactive,I.ok.kind]
def d3k (te:TE):TS:=λD σ H=>te σ H λ_ H1=>D.nx σ H1
theorem c3q (he:PE X e te)(hs:swapsWith e none pos.line X.env=pure false:=by rfl):PS X (.Expr e pos) (d3k te):=by
 intro pins s σ H D I h
 exact wpAny_Expr_any (thn (he pins s σ H _ I h) λv s1 ⟨x,H1,I1,r1,q1⟩=>⟨σ,H1,I1,q1⟩) I.quiet hs
def tRet (te:TE):TS:=λD σ H=>te σ H D.rt
theorem b5j (he:PE X e te):PS X (.Return (some e) pos) (tRet te):=by
 intro pins s σ H D I h
 exact wpAny_Return_some (thn (he pins s σ H _ I h) λv s1 ⟨x,H1,I1,r1,q1⟩=>⟨x,σ,H1,I1,r1,q1⟩)
def tIfS (c:TT)(t u:TS):TS:=λD σ H=>c σ H λb H1=>if b=true then t D σ H1 else u D σ H1
theorem d4r {c:Expr}{a b:List Stmt}{tc:TT}(hc:PT X c tc)(ha:PSs X a t)(hb:PSs X b u):PS X (.If c a b pos) (tIfS tc t u):=by
 intro pins s σ H D I h
 refine wpAny_If (thn (hc pins s σ H _ I h) λd s1 ⟨H1,I1,q1⟩=>?_)
 cases d with
 | true=>exact ha pins s1 σ H1 D I1 q1
 | false=>exact hb pins s1 σ H1 D I1 q1
end
abbrev TG:=V->St->Hp->(St->Hp->Prop)->Prop
abbrev TGs:=List V->St->Hp->(St->Hp->Prop)->Prop
def PG (X:Cx)(target:Expr)(t:TG):Prop :=
 ∀ (pins:List (Addr×Obj))(s:Shared)(σ:St)(H:Hp)(v:V)(u:Value)(Q:St->Hp->Prop),Inv X pins σ H s->RelV v u->t v σ H Q ->
  wpAny (model X.prog X.w) X.A (assign target X.env u) (λ_ s'=>∃ σ' H',Inv X pins σ' H' s'/\Q σ' H') X.xe s
def PGs (X:Cx)(ts:List Expr)(t:TGs):Prop :=
 ∀ (pins:List (Addr×Obj))(s:Shared)(σ:St)(H:Hp)(vs:List V)(us:List Value)(Q:St->Hp->Prop),Inv X pins σ H s->Vals vs us->t vs σ H Q ->
  wpAny (model X.prog X.w) X.A (assignInOrder ((assignEach ts X.env).map (·.2)) us) (λ_ s'=>∃ σ' H',Inv X pins σ' H' s'/\Q σ' H') X.xe s
abbrev d9a:=V->V->V->Hp->(Hp->Prop)->Prop
def PSet (X:Cx)(t:d9a):Prop :=
 ∀ (pins:List (Addr×Obj))(s:Shared)(σ:St)(H:Hp)(o i v:V)(ov iv u:Value)(Q:Hp->Prop),Inv X pins σ H s->RelV o ov->RelV i iv->RelV v u->t o i v H Q ->
  wpAny (model X.prog X.w) X.A (setItem ov iv u) (λ_ s'=>∃ H',Inv X pins σ H' s'/\Q H') X.xe s
abbrev TIp:=V->V->Hp->VK->Prop
def PIp (X:Cx)(op:Operator)(t:TIp):Prop :=
 ∀ (pins:List (Addr×Obj))(s:Shared)(σ:St)(H:Hp)(x y:V)(v u:Value)(Q:VK),Inv X pins σ H s->RelV x v->RelV y u->t x y H Q ->
  wpAny (model X.prog X.w) X.A (inplaceOp op v u) (EP X pins σ Q) X.xe s
section
variable {X:Cx}{pos:Pos}
def a5c (i:Nat):TG:=λv σ H Q=>Q (σ.set i (some v)) H
theorem c3w {i:Nat}{x:Str}(hN:X.N.Nodup)(hi:X.N[i]?=some x)(hx:Loc X.env.scope x)(hf:X.fn x=true ∨ X.env.scope.names.lookup x=some .local:=by first|exact .inl rfl|exact .inr rfl|assumption):PG X (.Name x pos) (a5c i):=by
 intro pins s σ H v u Q I r h
 exact wpAny_assign_Name (a4j I hN hi hx r (λs' I'=>⟨_,H,I',h⟩) hf)
def d5v:TGs:=λvs σ H Q=>vs=[]/\Q σ H
def c0t (t:TG)(u:TGs):TGs:=λvs σ H Q=>∃ v r,vs=v :: r/\t v σ H λσ' H'=>u r σ' H' Q
theorem c3v:PGs X [] d5v:=by
 intro pins s σ H vs us Q I r h
 obtain⟨e,h⟩:=h
 subst e
 cases r
 exact assignInOrder_nil ⟨σ,H,I,h⟩
theorem b9t {e:Expr}{es:List Expr}{t:TG}{u:TGs}(h1:PG X e t)(h2:PGs X es u)
  (hs:(assignEach (e :: es) X.env).map (·.2)=assign e X.env :: (assignEach es X.env).map (·.2):=by rfl):PGs X (e :: es) (c0t t u):=by
 intro pins s σ H vs us Q I r h
 obtain⟨v,vr,e1,h⟩:=h
 subst e1
 cases r with
 | cons r rr =>
  rw[hs]
  refine assignInOrder_cons (thn (h1 pins s σ H _ _ _ I r h) λ_ s1 ⟨σ1,H1,I1,q1⟩=>?_)
  exact h2 pins s1 σ1 H1 _ _ Q I1 rr q1
def d2b (K:Γd) (n:Nat)(t:TGs):TG:=λv σ H Q=>∃ a xs,v=.ref a/\SqT K H a xs/\xs.length=n/\t xs σ H Q
theorem c8e {es:List Expr}{k:Nat}{t:TGs}{n:Nat}(hc:X.calm=true)(h:PGs X es t)
  (hn:(assignEach es X.env).length=n:=by rfl)(hst:(assignEach es X.env).findIdx? (·.1)=none:=by rfl):PG X (.Tuple es k pos) (d2b X.K n t):=by
 intro pins s σ H v u Q I r hw
 obtain⟨a,xs,e1,hq,hl,hw⟩:=hw
 subst e1
 cases r
 obtain⟨its,rv,ht,hz⟩:=I.tuple hq
 refine assign_Tuple_tuple (I.ok.hd hc) ht (by simp[hn,<- hl,rv.length]) hst λh' hx=>?_
 have I1:Inv X pins σ H { s with heap:=h' }:=I.kept (t':=s.toks) λb o e=>hx b o (Γo (Γl e)) e
 exact h pins _ σ H xs _ Q I1 (by simpa using rv) hw
def gSub (to ti:TE)(t:d9a):TG:=λv σ H Q=>to σ H λo H1=>ti σ H1 λi H2=>t o i v H2 λH3=>Q σ H3
theorem c8f {o i:Expr}{to ti:TE}{t:d9a}(ho:PE X o to)(hi:PE X i ti)(hs:PSet X t)
  (ha:∀ v,assign (.Subscript o i pos) X.env v=(do
   let ov <- holding [v] (eval o X.env)
   let iv <- holding [v,ov] (eval i X.env)
   standAt pos
   holding [v,ov,iv] (setItem ov iv v)
   release [v,ov,iv] []):=by intro _;rfl):PG X (.Subscript o i pos) (gSub to ti t):=by
 intro pins s σ H v u Q I r h
 rw[ha]
 refine Γa (Γg (thn (ho pins s σ H _ I h) λov s1 ⟨x,H1,I1,r1,q1⟩=>?_))
 refine Γa (Γg (thn (hi pins s1 σ H1 _ I1 q1) λiv s2 ⟨y,H2,I2,r2,q2⟩=>?_))
 refine Γa (wpAny_standAt (Γa (Γg (thn (hs pins s2 σ H2 x y v ov iv u _ I2 r1 r2 r q2) λ_ s3 ⟨H3,I3,q3⟩=>?_))))
 exact wpAny_release ⟨σ,H3,I3,q3⟩
def b9a (te:TE)(g:TG):TS:=λD σ H=>te σ H λx H1=>g x σ H1 D.nx
theorem c1x {tg e:Expr}{te:TE}{g:TG}(he:PE X e te)(hg:PG X tg g)(hs:swapsWithSole [tg] e pos.line X.env=pure false:=by rfl)(hw:swappedStores [tg] e X.env=pure none:=by rfl)
  (h1:(assignEach [tg] X.env).map (·.2)=[assign tg X.env]:=by rfl):PS X (.Assign [tg] e pos) (b9a te g):=by
 intro pins s σ H D I h
 refine wpAny_Assign_stores (thn (he pins s σ H _ I h) λv s1 ⟨x,H1,I1,r1,q1⟩=>?_) hs hw
 rw[h1]
 exact thn (hg pins s1 σ H1 x v _ I1 r1 q1) λ_ s2 q=>q
theorem c7z {i:Nat}{x:Str}{e:Expr}{te:TE}{pos':Pos}(hN:X.N.Nodup)(hi:X.N[i]?=some x)(hx:Loc X.env.scope x)(he:PE X e te)(hs:swapsWith e (some (.Name x pos')) pos.line X.env=pure false:=by rfl)(hf:X.fn x=true ∨ X.env.scope.names.lookup x=some .local:=by first|exact .inl rfl|exact .inr rfl|assumption) :
  PS X (.Assign [.Name x pos'] e pos) (b9a te (a5c i)):=by
 intro pins s σ H D I h
 refine wpAny_Assign_Name (thn (he pins s σ H _ I h) λv s1 ⟨y,H1,I1,r1,q1⟩=>?_) hs
 exact a4j I1 hN hi hx r1 (λs2 I2=>⟨_,H1,I2,q1⟩) hf
def tPar (i j:Nat)(ta:TA):TS:=λD σ H=>ta σ H λvs H1=>∃ v w,vs=[v,w]/\D.nx ((σ.set i (some v)).set j (some w)) H1
theorem c8a {i j:Nat}{x y:Str}{a b:Expr}{ta:TA}{px py pt:Pos} {kt k2 pt2}(hc:X.calm=true)(hN:X.N.Nodup)(hi:X.N[i]?=some x)(hj:X.N[j]?=some y)(hij:i≠j)
  (hx:X.env.scope.names.lookup x=some .local)(hy:X.env.scope.names.lookup y=some .local)(ha:PA X [a,b] ta)
  (hw:swappedStores [.Tuple [.Name x px,.Name y py] kt pt] (.Tuple [a,b] k2 pt2) X.env=pure (some [x,y]))
  (hs:swapsWithSole [.Tuple [.Name x px,.Name y py] kt pt] (.Tuple [a,b] k2 pt2) pos.line X.env=pure false:=by rfl) :
  PS X (.Assign [.Tuple [.Name x px,.Name y py] kt pt] (.Tuple [a,b] k2 pt2) pos) (tPar i j ta):=by
 intro pins s σ H D I h
 rw[exec_Assign_arm]
 refine Γa (wpAny_standAt ?_)
 rw[hs]
 refine Γa (Γb ?_)
 rw[if_neg (by decide)]
 refine Γa (Tuple_ (thn (ha _ pins s σ H _ I h) λus s1 ⟨vs,H1,I1,r1,q1⟩=>?_))
 obtain⟨v,w,e1,q1⟩:=q1
 subst e1
 obtain⟨u1,u2,rfl,rv,rw'⟩:∃ u1 u2,us=[u1,u2]/\RelV v u1/\RelV w u2:=by
  cases r1 with
  | cons p q =>
   cases q with
   | cons p' q' =>
    cases q'
    exact⟨_,_,rfl,p,p'⟩
 refine wpAny_newObj_type ?_ (by show 2<=sizeLine;decide)
 have I2:Inv X pins σ H1 { s1 with heap:=s1.heap.push { cls:=.type "tuple",data:=.seq [u1,u2].toArray } }:=I1.kept (t':=s1.toks) λb o e=>Γc _ e
 rw[hw]
 refine Γa (Γb ?_)
 show wpAny (model X.prog X.w) X.A (do rule "assign.swapped-stores";let items <- unpackItems (.ref s1.heap.objs.size) 2 none;assignInOrder [λv=>bindName X.env y v,λv=>bindName X.env x v] items.reverse;pure Flow.next) _ _ _
 refine Γa (wpAny_rule (Γa (unpackItems_tuple (items:=#[u1,u2]) (I.ok.hd hc) (IsTup.new s1.heap _) λh' hx'=>?_)))
 have I3:=I2.kept (h':=h') (t':=s1.toks) λb o e=>hx' b o (Γo (Γl e)) e
 show wpAny _ _ (assignInOrder [λv=>bindName X.env y v,λv=>bindName X.env x v] [u2,u1] >>= λ_=>pure Flow.next) _ _ _
 refine Γa (assignInOrder_cons (wpAny_bindName (a4j I3 hN hj (.inl hy) rw' (λs2 I4=>?_) (.inr hy))))
 refine assignInOrder_cons (wpAny_bindName (a4j I4 hN hi (.inl hx) rv (λs3 I5=>assignInOrder_nil (Γb ?_)) (.inr hx)))
 rw[List.set_comm _ _ (Ne.symm hij)] at I5
 exact⟨_,H1,I5,q1⟩
def tAug (i:Nat)(te:TE)(ti:TIp):TS:=λD σ H=>∃ x,σ[i]?=some (some x)/\te σ H λy H1=>ti x y H1 λz H2=>D.nx (σ.set i (some z)) H2
theorem c1w {i:Nat}{x:Str}{e:Expr}{te:TE}{op:Operator}{ti:TIp}{pos':Pos}(hN:X.N.Nodup)(hi:X.N[i]?=some x)(hx:Loc X.env.scope x)(he:PE X e te)(ho:PIp X op ti)(hf:X.fn x=true ∨ X.env.scope.names.lookup x=some .local:=by first|exact .inl rfl|exact .inr rfl|assumption) :
  PS X (.AugAssign (.Name x pos') op e pos) (tAug i te ti):=by
 intro pins s σ H D I h
 obtain⟨v,e1,h⟩:=h
 obtain⟨m,hn,hl⟩:=I.loc
 have vis:Vis X.env.scope x:=by rcases hx with k|k;exact .inl k;exact .inr (.inl k)
 obtain⟨u,r,l⟩:=hl i x v hi e1 vis
 refine wpAny_AugAssign_Name ?_
 have go:wpAny (model X.prog X.w) X.A (eval e X.env) (λw s₂=>wpAny (model X.prog X.w) X.A (inplaceOp op u w) (λr s₃=>wpAny (model X.prog X.w) X.A (storeName X.env x r) (λ_=>SP X pins D .next) X.xe s₃) X.xe s₂) X.xe s:=by
  refine thn (he pins s σ H _ I h) λw s1 ⟨y,H1,I1,r1,q1⟩=>?_
  refine thn (ho pins s1 σ H1 v y u w _ I1 r r1 q1) λz s2 ⟨zv,H2,I2,r2,q2⟩=>?_
  exact a4j I2 hN hi hx r2 (λs3 I3=>⟨_,H2,I3,q2⟩) hf
 rcases l with⟨hk,hm⟩|⟨hk,c,hc,hcell⟩
 ·exact wpAny_loadName_local I.ok.kind hk hn hm go
 ·rcases hk with hk|hk
  ·exact wpAny_loadName_cell I.ok.kind hk hc hcell go
  ·rcases hx with k|k
   ·have:X.env.scope.names.lookup x=some .free:=hk
    rw[k] at this;cases this
   ·have:X.env.scope.names.lookup x=some .free:=hk
    rw[k] at this;cases this
def ipI (f:Int->Int->Int):TIp:=λx y H Q=>∃ i j,x=.int i/\y=.int j/\Q (.int (f i j)) H
theorem c9x:PIp X .Add (ipI λi j=>i+j):=by
 intro pins s σ H x y v u Q I r1 r2 h
 obtain⟨i,j,e1,e2,q⟩:=h
 subst e1;subst e2
 obtain⟨t,rfl⟩:=r1
 obtain⟨t',rfl⟩:=r2
 exact iadd_int ⟨.int _,H,I.tok _,⟨_,rfl⟩,q⟩
theorem c9w:PIp X .Sub (ipI λi j=>i-j):=by
 intro pins s σ H x y v u Q I r1 r2 h
 obtain⟨i,j,e1,e2,q⟩:=h
 subst e1;subst e2
 obtain⟨t,rfl⟩:=r1
 obtain⟨t',rfl⟩:=r2
 exact isub_int ⟨.int _,H,I.tok _,⟨_,rfl⟩,q⟩
end
section
variable {X:Cx}{pos:Pos}
def c1r (c:TT)(tb:TS):TS:=λD σ H=>∃ W:Nat->St->Hp->Prop,(∃ m,W m σ H)/\∀ m σ H,W m σ H ->
 c σ H λb H1=>if b=true then ∃ N:St->Hp->Prop,(∀ σ' H',N σ' H'->∃ m',m'<m/\W m' σ' H')/\tb { D with nx:=N,ct:=N,bk:=D.nx } σ H1 else D.nx σ H1
theorem b9r {c:Expr}{body:List Stmt}{tc:TT}{tb:TS}(hp:PassesOwn (model X.prog X.w) X.A X.env X.xe)(hc:PT X c tc)(hb:PSs X body tb):PS X (.While c body [] pos) (c1r tc tb):=by
 intro pins s σ H D I h
 obtain⟨W,⟨m0,w0⟩,turn⟩:=h
 refine wpAny_While (codeAny_whileLoop (λn s'=>∃ σ' H',Inv X pins σ' H' s'/\W n σ' H') ?_ m0 ⟨σ,H,I,w0⟩)
 rintro n s1 ⟨σ1,H1,I1,w1⟩
 refine wpAny_passesOwn hp (thn (hc pins s1 σ1 H1 _ I1 (turn n σ1 H1 w1)) λb s2 ⟨H2,I2,q2⟩=>?_)
 cases b with
 | true =>
  obtain⟨N,hN,q2⟩:=q2
  rw[if_pos rfl]
  refine wpAny_passesOwn hp (thn (hb pins s2 σ1 H2 _ I2 q2) λf s3 q3=>?_)
  cases f with
  | next =>
   obtain⟨σ3,H3,I3,n3⟩:=q3
   obtain⟨m',hm,w3⟩:=hN σ3 H3 n3
   exact⟨m',hm,σ3,H3,I3,w3⟩
  | cont =>
   obtain⟨σ3,H3,I3,n3⟩:=q3
   obtain⟨m',hm,w3⟩:=hN σ3 H3 n3
   exact⟨m',hm,σ3,H3,I3,w3⟩
  | brk=>exact q3
  | ret v=>exact q3
 | false =>
  rw[if_neg Γk]
  exact wpAny_execs_nil ⟨σ1,H2,I2,q2⟩
end
structure It where
 go:Nat->Hp->Prop
 yld:Nat->Hp->V->Hp->Prop
 stop:Nat->Hp->Prop
def b2b (X:Cx)(pins:List (Addr×Obj))(H:Hp)(b:Addr):Prop :=
 H b=none/\b≠X.env.locals/\b ∉ X.fs/\(b∈X.ex ∨ X.s₀.heap.objs.size<=b)/\(∀ x c,X.env.cells.lookup x=some c->c≠b)/\∀ p∈X.pn++pins,p.1≠b
theorem Inv.fpOk {X:Cx}{pins:List (Addr×Obj)}{σ:St}{H H':Hp}{s:Shared}{b:Addr}(I:Inv X pins σ H s)(hb:s.heap.objs.size<=b)(hn:H' b=none):b2b X pins H' b:=by
 refine⟨hn,Nat.ne_of_gt (Nat.lt_of_lt_of_le I.lt hb),I.nofs hb,.inr (Nat.le_trans I.sz hb),λx c e z=>?_,λp hp z=>?_⟩
 ·obtain⟨v,q⟩:=I.cell x c e
  exact absurd (Nat.lt_of_lt_of_le q.lt (by rw[z];exact hb)) (Nat.lt_irrefl _)
 ·exact absurd (Nat.lt_of_lt_of_le (Γl (I.pin p hp).1) (by rw[z];exact hb)) (Nat.lt_irrefl _)
structure Turn (P:Program)(w:World)(K:Γd)(tg:Expr)(J:It)(fp:List Addr)(it:Addr)(tn:Nat->Heap->Prop):Prop where
 mem:it∈fp
 obj:∀ i h,tn i h->∀ b∈fp,∃ o,h.get? b=some o/\∀ v,o.data≠.cell v
 keep:∀ i h h',tn i h->(∀ b∈fp,∀ o,h.get? b=some o->h'.get? b=some o)->tn i h'
 item:∀ (X:Cx),X.prog=P->X.w=w->X.K=K->X.calm=true->∀ (i:Nat)(pins:List (Addr×Obj))(s:Shared)(σ:St)(H:Hp)(E:Value->Shared->Prop),Inv X pins σ H s->(∀ b∈fp,b2b X pins H b)->tn i s.heap->J.go i H ->
  wpAny (model P w) X.A (pyNext (.ref it)) (λr s1=>∃ u,r=some u /\
   wpAny (model P w) X.A (letOwnedTupleGo tg (.ref it) u) (λ_ s2=>∃ x H',Inv X pins σ H' s2/\RelV x u/\J.yld i H x H'/\tn (i+1) s2.heap/\∀ b∈fp,H' b=none) E s1) E s
 done:∀ (X:Cx),X.prog=P->X.w=w->X.K=K->X.calm=true->∀ (i:Nat)(pins:List (Addr×Obj))(s:Shared)(σ:St)(H:Hp)(E:Value->Shared->Prop),Inv X pins σ H s->(∀ b∈fp,b2b X pins H b)->tn i s.heap->J.stop i H ->
  wpAny (model P w) X.A (pyNext (.ref it)) (λr s1=>r=none/\Inv X pins σ H s1) E s
 self:∀ (A:Around) (i:Nat)(s:Shared)(Q:Value->Shared->Prop)(E:Value->Shared->Prop),tn i s.heap->Q (.ref it) s->wpAny (model P w) A (pyIter (.ref it)) Q E s
abbrev TI:=St->Hp->(It->Hp->Prop)->Prop
def PIE (X:Cx)(pins:List (Addr×Obj))(σ:St)(tg:Expr)(R:It->Hp->Prop)(itv:Value)(s2:Shared):Prop :=
 ∃ (it:Addr)(fp:List Addr)(tn:Nat->Heap->Prop)(J:It)(H':Hp),itv=.ref it/\Inv X pins σ H' s2/\Turn X.prog X.w X.K tg J fp it tn/\tn 0 s2.heap/\(∀ b∈fp,b2b X pins H' b)/\R J H'
def PI (X:Cx)(tg iter:Expr)(wi:TI):Prop :=
 ∀ (pins:List (Addr×Obj))(s:Shared)(σ:St)(H:Hp)(R:It->Hp->Prop),Inv X pins σ H s->wi σ H R ->
  wpAny (model X.prog X.w) X.A (eval iter X.env) (λv s1=>wpAny (model X.prog X.w) X.A (pyIter v) (PIE X pins σ tg R) X.xe s1) X.xe s
theorem c0s {M : Model} {A : Around} {E : Value -> Shared -> Prop} {s : Shared} {tg : Expr} {it : Addr} {u : Value} {o : Obj} {n : String} {vs : Array Value} {Q : Unit -> Shared -> Prop} (ho : s.heap.get? it = some o) (hc : o.cls = .type n) (hd : o.data = .fields vs)
    (hn:["enumerate","zip","dict_itemiterator","dict_reverseitemiterator","odict_iterator","itertools.zip_longest","itertools.pairwise"].contains n=false) (hQ:Q () s):wpAny M A (letOwnedTupleGo tg (.ref it) u) Q E s:=by
  unfold letOwnedTupleGo
  cases tg<;>first
    | exact Γb hQ
    | (cases u <;> first
        | exact Γb hQ
        | (refine Γa (wpAny_load ho ?_)
           rw [hc, hd]
           show wpAny M A (if (["enumerate", "zip", "dict_itemiterator", "dict_reverseitemiterator", "odict_iterator", "itertools.zip_longest", "itertools.pairwise"].contains n && vs[0]? == some (rawInt _)) = true then _ else _) Q E s
           rw [if_neg (by intro h; rw [hn, Bool.false_and] at h; cases h)]
           exact Γb hQ))
def Itl (K:Γd)(a:Addr):It :=
 ⟨λi H=>∃ xs x,SqL K H a xs/\xs[i]?=some x,λi H x H'=>H'=H/\∀ xs,SqL K H a xs->xs[i]?=some x,λi H=>∃ xs,SqL K H a xs/\xs.length<=i⟩
def Itt (K:Γd)(a:Addr):It :=
 ⟨λi H=>∃ xs x,SqT K H a xs/\xs[i]?=some x,λi H x H'=>H'=H/\∀ xs,SqT K H a xs->xs[i]?=some x,λi H=>∃ xs,SqT K H a xs/\xs.length<=i⟩
def Itr (lo:Int) (n:Nat):It:=⟨λi _=>i<n,λi H x H'=>H'=H/\x=.int (lo+i),λi _=>n<=i⟩
theorem b4t {P:Program}{w:World}{K:Γd}{tg:Expr}(a it:Addr):Turn P w K tg (Itl K a) [it] it (λi h=>h.IsListIter it a i) where
 mem:=by simp
 obj:=λi h st b hb=>by
  have e:b=it:=by simpa using hb
  subst e
  obtain⟨o,e,c,d⟩:=st
  exact⟨o,e,λv z=>by rw[d] at z;cases z⟩
 keep:=λi h h' st k=>st.at λo e=>k it (by simp) o e
 item:=by
  intro X hP hw hK hc i pins s σ H E I hf st hg
  subst hP hw hK
  obtain⟨xs,x,hq,hx⟩:=hg
  obtain⟨its,rv,p,hz⟩:=I.list hq
  obtain⟨u,hu,ru⟩:=rv.get hx
  obtain⟨f0,f1,f2,f3,f4,f5⟩:=hf it (by simp)
  refine wpAny_pyNext_list_item st p.isList (x:=u) (by simpa using hu) λh' st' sb=>?_
  have I1:Inv X pins σ H { s with heap:=h' }:=I.turned (t':=s.toks) (λb o hb e=>(sb.2 b hb).trans e) f0 f1 f3 f4 f5
  obtain⟨o,e,c,d⟩:=id st'
  exact⟨u,rfl,c0s (s:={ s with heap:=h' }) e c d (by decide) ⟨x,H,I1,ru,⟨rfl,λys hy=>by rw[I.list_inj hy hq];exact hx⟩,st',λb hb=>(hf b hb).1⟩⟩
 done:=by
  intro X hP hw hK hc i pins s σ H E I hf st hg
  subst hP hw hK
  obtain⟨xs,hq,hx⟩:=hg
  obtain⟨its,rv,p,hz⟩:=I.list hq
  obtain⟨f0,f1,f2,f3,f4,f5⟩:=hf it (by simp)
  have hl:=rv.length
  exact wpAny_pyNext_list_end (I.ok.hd hc) st p.isList (by simp;lia) λh' eb=>⟨rfl,I.turned (t':=s.toks) (λb o hb e=>eb b o hb e) f0 f1 f3 f4 f5⟩
 self:=λ_ _ _ _ _ st h=>wpAny_pyIter_listiter st h
theorem b3n {P:Program}{w:World}{K:Γd}{tg:Expr}(a it:Addr):Turn P w K tg (Itt K a) [it] it (λi h=>h.IsTupleIter it a i) where
 mem:=by simp
 obj:=λi h st b hb=>by
  have e:b=it:=by simpa using hb
  subst e
  obtain⟨o,e,c,d⟩:=st
  exact⟨o,e,λv z=>by rw[d] at z;cases z⟩
 keep:=λi h h' st k=>st.at λo e=>k it (by simp) o e
 item:=by
  intro X hP hw hK hc i pins s σ H E I hf st hg
  subst hP hw hK
  obtain⟨xs,x,hq,hx⟩:=hg
  obtain⟨its,rv,p,hz⟩:=I.tuple hq
  obtain⟨u,hu,ru⟩:=rv.get hx
  obtain⟨f0,f1,f2,f3,f4,f5⟩:=hf it (by simp)
  refine wpAny_pyNext_tuple_item st (show s.heap.IsTuple a its.toArray from p) (x:=u) (by simpa using hu) λh' st' sb=>?_
  have I1:Inv X pins σ H { s with heap:=h' }:=I.turned (t':=s.toks) (λb o hb e=>(sb.2 b hb).trans e) f0 f1 f3 f4 f5
  obtain⟨o,e,c,d⟩:=id st'
  exact⟨u,rfl,c0s (s:={ s with heap:=h' }) e c d (by decide) ⟨x,H,I1,ru,⟨rfl,λys hy=>by rw[I.tuple_inj hy hq];exact hx⟩,st',λb hb=>(hf b hb).1⟩⟩
 done:=by
  intro X hP hw hK hc i pins s σ H E I hf st hg
  subst hP hw hK
  obtain⟨xs,hq,hx⟩:=hg
  obtain⟨its,rv,p,hz⟩:=I.tuple hq
  obtain⟨f0,f1,f2,f3,f4,f5⟩:=hf it (by simp)
  have hl:=rv.length
  exact wpAny_pyNext_tuple_end (I.ok.hd hc) st (show s.heap.IsTuple a its.toArray from p) (by simp;lia) λh' eb=>⟨rfl,I.turned (t':=s.toks) (λb o hb e=>eb b o hb e) f0 f1 f3 f4 f5⟩
 self:=λ_ _ _ _ _ st h=>wpAny_pyIter_tupleiter st h
theorem b3o {P:Program}{w:World}{K:Γd}{tg:Expr}(it:Addr) (lo:Int) (n:Nat):Turn P w K tg (Itr lo n) [it] it (λi h=>IsRangeIter h it (lo+(i:Nat)*1) ((n:Int)-(i:Nat)) 1) where
 mem:=by simp
 obj:=λi h st b hb=>by
  have e:b=it:=by simpa using hb
  subst e
  exact⟨_,st,λv z=>by
   have z':Data.fields _=Data.cell v:=z
   cases z'⟩
 keep:=λi h h' st k=>k it (by simp) _ st
 item:=by
  intro X hP hw hK hc i pins s σ H E I hf st hg
  subst hP hw hK
  obtain⟨f0,f1,f2,f3,f4,f5⟩:=hf it (by simp)
  have W:=Walks.range (prog:=X.prog) (w:=X.w) (I.ok.hd hc) it lo 1 n
  refine W.item i s _ _ hg st λv h' tk hv st' kk=>?_
  obtain⟨t,rfl⟩:=hv
  have I1:Inv X pins σ H { s with heap:=h',toks:=tk }:=I.turned (λb o hb e=>kk b o (by simpa using hb) e) f0 f1 f3 f4 f5
  refine⟨_,rfl,c0s (s:={ s with heap:=h',toks:=tk }) (n:="range_iterator") st' rfl rfl (by decide) ⟨.int (lo+i),H,I1,⟨t,?_⟩,⟨rfl,rfl⟩,st',λb hb=>(hf b hb).1⟩⟩
  rw[Int.mul_one]
 done:=by
  intro X hP hw hK hc i pins s σ H E I hf st hg
  subst hP hw hK
  obtain⟨f0,f1,f2,f3,f4,f5⟩:=hf it (by simp)
  exact wpAny_pyNext_range_end (I.ok.hd hc) st (by have:n<=i:=hg;lia) λh' eb=>⟨rfl,I.turned (t':=s.toks) (λb o hb e=>eb b o hb e) f0 f1 f3 f4 f5⟩
 self:=λ_ _ _ _ _ st h=>wpAny_pyIter_rangeiter st h
end L2
namespace L2
open PySem PySem.Spec PyProof.Rows
section
variable {X:Cx}{tg:Expr}
theorem b9m {pins:List (Addr×Obj)}{σ:St}{H:Hp}{s:Shared}{R:It->Hp->Prop}{E:Value->Shared->Prop}{lo hi:Int}{t u v:Tok}{tk:Nat}(I:Inv X pins σ H s)(h1:-(2 ^ 62)<=lo)(h2:lo<2 ^ 62)(h3:-(2 ^ 62)<=hi)(h4:hi<2 ^ 62)
  (q:R (Itr lo (hi-lo).toNat) H):wpAny (model X.prog X.w) X.A (pyIter (.ref s.heap.objs.size)) (PIE X pins σ tg R) E { s with heap:=s.heap.push { cls:=.type "range",data:=.fields #[.int lo t,.int hi u,.int 1 v] },toks:=tk }:=by
 refine wpAny_pyIter_range (IsRange.new ..) (small_one h1 h2 h3 h4) ?_
 have I1:Inv X pins σ H { s with heap:=s.heap.push { cls:=.type "range",data:=.fields #[.int lo t,.int hi u,.int 1 v] },toks:=tk }:=I.kept λb o e=>Γc _ e
 refine⟨(s.heap.push { cls:=.type "range",data:=.fields #[.int lo t,.int hi u,.int 1 v] }).objs.size,[(s.heap.push { cls:=.type "range",data:=.fields #[.int lo t,.int hi u,.int 1 v] }).objs.size],_,_,H,rfl,
  I1.kept (t':=tk) λb o e=>Γc _ e,b3o _ lo (hi-lo).toNat,?_,λb hb=>?_,q⟩
 ·have e1:lo+((0:Nat):Int)*1=lo:=by simp
  have e2:(((hi-lo).toNat:Nat):Int)-((0:Nat):Int)=Builtin.Range.rangeSize lo hi 1:=by rw[rangeSize_one];split<;>lia
  show IsRangeIter _ _ (lo+((0:Nat):Int)*1) ((((hi-lo).toNat:Nat):Int)-((0:Nat):Int)) 1
  rw[e1,e2]
  exact Γm _ rfl
 ·have e:b=(s.heap.push { cls:=.type "range",data:=.fields #[.int lo t,.int hi u,.int 1 v] }).objs.size:=by simpa using hb
  subst e
  exact I1.fpOk (Γi _) (I1.hok.fresh (Γi _))
def d5u (ta:TA):TI:=λσ H R=>ta σ H λvs H1=>∃ j:Int,vs=[.int j]/\-(2 ^ 62)<=j/\j<2 ^ 62/\R (Itr 0 j.toNat) H1
def iRng2 (ta:TA):TI:=λσ H R=>ta σ H λvs H1=>∃ i j:Int,vs=[.int i,.int j]/\(-(2 ^ 62)<=i/\i<2 ^ 62/\-(2 ^ 62)<=j/\j<2 ^ 62)/\R (Itr i (j-i).toNat) H1
theorem b5p {a:Expr}{ta:TA}{p pos:Pos}(hg:Gl X "range")(hm:X.mg "range" = none)(ha:PA X [a] ta)(hs:starEach [a] X.env=[(false,eval a X.env)]:=by rfl):PI X tg (.Call (.Name "range" p) [a] [] pos) (d5u ta):=by
 intro pins s σ H R I h
 refine Call_ (a9r I hg hm boot_range (PyProof.Rows.callWith_type1 (thn (ha pos pins s σ H _ I h) λus s1 ⟨vs,H1,I1,r1,q1⟩=>?_) hs rfl))
 obtain⟨j,e,q1,q2,q⟩:=q1
 subst e
 cases r1 with
 | cons r rr =>
  cases rr
  obtain⟨t,rfl⟩:=r
  exact call_range_1 (b9m I1 (by lia) (by lia) q1 q2 (by simpa using q))
def tFor (wi:TI)(g:TG)(tb:TS):TS:=λD σ H=>wi σ H λJ H1=>∃ W:Nat->Nat->St->Hp->Prop,(∃ m,W 0 m σ H1)/\∀ i m σ H,W i m σ H ->
 (J.stop i H/\D.nx σ H) ∨ (J.go i H/\∃ N:St->Hp->Prop,(∀ σ' H',N σ' H'->∃ m',m'<m/\W (i+1) m' σ' H')/\∀ x H',J.yld i H x H'->g x σ H' λσ2 H2=>tb { D with nx:=N,ct:=N,bk:=D.nx } σ2 H2)
def a5y (fp:List Addr)(h:Heap):List (Addr×Obj):=fp.filterMap λb=>(h.get? b).map λo=>(b,o)
theorem a2i {fp:List Addr}{h:Heap}{b:Addr}{o:Obj}(hb:b∈fp)(e:h.get? b=some o):(b,o)∈a5y fp h:=List.mem_filterMap.mpr ⟨b,hb,by rw[e];rfl⟩
theorem b6b {fp:List Addr}{h:Heap}{p:Addr×Obj}(hp:p∈a5y fp h):p.1∈fp/\h.get? p.1=some p.2:=by
 obtain⟨b,hb,e⟩:=List.mem_filterMap.mp hp
 cases q:h.get? b with
 | none=>rw[q] at e;cases e
 | some o =>
  rw[q] at e
  have e':(b,o)=p:=Option.some.inj e
  subst e'
  exact⟨hb,q⟩
theorem Inv.pinned {pins:List (Addr×Obj)}{σ:St}{H:Hp}{s:Shared}{fp:List Addr}(I:Inv X pins σ H s)(hf:∀ b∈fp,b2b X pins H b)(ho:∀ b∈fp,∃ o,s.heap.get? b=some o/\∀ v,o.data≠.cell v):Inv X (pins++a5y fp s.heap) σ H s :=
 I.pins_of λp hp=>(List.mem_append.mp hp).elim (λz=>I.pin p (List.mem_append_right _ z)) λz=>by
  obtain⟨hb,e⟩:=b6b z
  obtain⟨f0,f1,f2,_⟩:=hf p.1 hb
  obtain⟨o,e',d⟩:=ho p.1 hb
  rw[e] at e';cases e'
  exact⟨e,f0,f1,f2,d⟩
theorem Inv.unpinned {pins pl:List (Addr×Obj)}{σ:St}{H:Hp}{s:Shared}(I:Inv X (pins++pl) σ H s):Inv X pins σ H s:=I.pins_of λp hp=>I.pin p (List.mem_append_right _ (List.mem_append_left _ hp))
theorem c8b {iter:Expr}{body:List Stmt}{wi:TI}{g:TG}{tb:TS}{pos:Pos}(hp:PassesOwn (model X.prog X.w) X.A X.env X.xe)(hc:X.calm=true)(hi:PI X tg iter wi)(hg:PG X tg g)(hb:PSs X body tb)
  (hs:∀ x,foldedSetIterable iter X.env x=pure x:=by intro _;rfl):PS X (.For tg iter body [] pos) (tFor wi g tb):=by
 intro pins s σ H D I h
 refine wpAny_For (thn (hi pins s σ H _ I h) λv s1 h1=>thn h1 λitv s2 h2=>?_) hs
 obtain⟨it,fp,tn,J,H2,e,I2,T,st2,f2,W,⟨m0,w0⟩,turn⟩:=h2
 subst e
 -- what stays true of the iterator's objects through the loop
 have stat:∀ {H':Hp},(∀ b∈fp,H' b=none)->∀ b∈fp,b2b X pins H' b:=λhn b hb=>⟨hn b hb,(f2 b hb).2⟩
 refine codeAny_forLoop_any (λn s'=>∃ i σ' H',Inv X pins σ' H' s'/\tn i s'.heap/\(∀ b∈fp,H' b=none)/\W i n σ' H') ?_ m0 ⟨0,σ,H2,I2,st2,λb hb=>(f2 b hb).1,w0⟩
 rintro n s3 ⟨i,σ3,H3,I3,st3,fr3,w3⟩
 rcases turn i n σ3 H3 w3 with⟨stop,qn⟩|⟨go,N,hN,step⟩
 ·refine wpAny_passesOwn hp (thn (T.done X rfl rfl rfl hc i pins s3 σ3 H3 X.xe I3 (stat fr3) st3 stop) λr s4 ⟨hr,I4⟩=>?_)
  subst hr
  exact wpAny_execs_nil ⟨σ3,H3,I4,qn⟩
 ·refine wpAny_passesOwn hp (thn (T.item X rfl rfl rfl hc i pins s3 σ3 H3 X.xe I3 (stat fr3) st3 go) λr s4 ⟨u,hr,h4⟩=>?_)
  subst hr
  refine wpAny_passesOwn hp (thn h4 λ_ s5 ⟨x,H5,I5,r5,y5,st5,fr5⟩=>?_)
  have I5':=I5.pinned (stat fr5) (T.obj _ _ st5)
  refine wpAny_passesOwn hp (thn (hg _ s5 σ3 H5 x u _ I5' r5 (step x H5 y5)) λ_ s6 ⟨σ6,H6,I6,q6⟩=>?_)
  refine wpAny_passesOwn hp (thn (hb _ s6 σ6 H6 _ I6 q6) λf s7 q7=>?_)
  have again:∀ {σ7:St}{H7:Hp},Inv X (pins++a5y fp s5.heap) σ7 H7 s7->N σ7 H7->∃ m,m<n/\∃ i σ' H',Inv X pins σ' H' s7/\tn i s7.heap/\(∀ b∈fp,H' b=none)/\W i m σ' H':=λ{σ7 H7} I7 n7=>by
   obtain⟨m',hm,w7⟩:=hN σ7 H7 n7
   refine⟨m',hm,i+1,σ7,H7,I7.unpinned,T.keep _ _ _ st5 λb hb o e=>(I7.pin (b,o) (List.mem_append_right _ (List.mem_append_right _ (a2i hb e)))).1,λb hb=>?_,w7⟩
   obtain⟨o,e,d⟩:=T.obj _ _ st5 b hb
   exact (I7.pin (b,o) (List.mem_append_right _ (List.mem_append_right _ (a2i hb e)))).2.1
  cases f with
  | next=>obtain⟨σ7,H7,I7,n7⟩:=q7;exact again I7 n7
  | cont=>obtain⟨σ7,H7,I7,n7⟩:=q7;exact again I7 n7
  | brk=>obtain⟨σ7,H7,I7,q7⟩:=q7;exact⟨σ7,H7,I7.unpinned,q7⟩
  | ret v=>obtain⟨x7,σ7,H7,I7,r7,q7⟩:=q7;exact⟨x7,σ7,H7,I7.unpinned,r7,q7⟩
end
theorem while_by {c:TT}{tb:TS}{D:Ends}{σ:St}{H:Hp}(Pv:St->Hp->Prop) (μ:St->Hp->Nat)(h0:Pv σ H)
  (hs:∀ σ H,Pv σ H->c σ H λb H1=>if b=true then tb { D with nx:=λσ' H'=>Pv σ' H'/\μ σ' H'<μ σ H,ct:=λσ' H'=>Pv σ' H'/\μ σ' H'<μ σ H,bk:=D.nx } σ H1 else D.nx σ H1)
  (mono:∀ σ H Q Q',(∀ b H1,Q b H1->Q' b H1)->c σ H Q->c σ H Q'):c1r c tb D σ H:=by
 refine⟨λm σ H=>m=μ σ H/\Pv σ H,⟨_,rfl,h0⟩,?_⟩
 rintro m σ H ⟨rfl,p⟩
 refine mono σ H _ _ (λb H1 q=>?_) (hs σ H p)
 cases b with
 | true=>exact⟨_,λσ' H' ⟨p',l⟩=>⟨_,l,rfl,p'⟩,q⟩
 | false=>exact q
end L2
namespace L2
open PySem PySem.Spec PyProof.Rows
abbrev R2:=V->V->Hp->VK->Prop
def OpR (X:Cx)(f:Value->Value->Sem Value)(r:R2):Prop :=
 ∀ (pins:List (Addr×Obj))(s:Shared)(σ:St)(H:Hp)(x y:V)(v u:Value)(Q:VK),Inv X pins σ H s->RelV x v->RelV y u->r x y H Q ->
  wpAny (model X.prog X.w) X.A (f v u) (EP X pins σ Q) X.xe s
def UnR (X:Cx)(f:Value->Sem Value)(r:V->Hp->VK->Prop):Prop :=
 ∀ (pins:List (Addr×Obj))(s:Shared)(σ:St)(H:Hp)(x:V)(v:Value)(Q:VK),Inv X pins σ H s->RelV x v->r x H Q ->
  wpAny (model X.prog X.w) X.A (f v) (EP X pins σ Q) X.xe s
def a1j (X:Cx)(f:Value)(r:List V->Hp->VK->Prop):Prop :=
 ∀ (pins:List (Addr×Obj))(s:Shared)(σ:St)(H:Hp)(xs:List V)(us:List Value)(Q:VK),Inv X pins σ H s->Vals xs us->r xs H Q ->
  wpAny (model X.prog X.w) X.A (call f us) (EP X pins σ Q) X.xe s
def TruR (X:Cx)(r:V->Hp->(Bool->Hp->Prop)->Prop):Prop :=
 ∀ (pins:List (Addr×Obj))(s:Shared)(σ:St)(H:Hp)(x:V)(v:Value)(Q:Bool->Hp->Prop),Inv X pins σ H s->RelV x v->r x H Q ->
  wpAny (model X.prog X.w) X.A (truthy v) (TP X pins σ Q) X.xe s
def tOp (r:R2)(ta tb:TE):TE:=λσ H Q=>ta σ H λx H1=>tb σ H1 λy H2=>r x y H2 Q
def tUn (r:V->Hp->VK->Prop)(ta:TE):TE:=λσ H Q=>ta σ H λx H1=>r x H1 Q
def rI (C:Int->Int->Prop)(g:Int->Int->V):R2:=λx y H Q=>∃ i j,x=.int i/\y=.int j/\C i j/\Q (g i j) H
def rI0 (g:Int->Int->V):R2:=λx y H Q=>∃ i j,x=.int i/\y=.int j/\Q (g i j) H
def rU (g:Int->V):V->Hp->VK->Prop:=λx H Q=>∃ i,x=.int i/\Q (g i) H
section
variable {X:Cx}{a b c:Expr}{ta tb tc:TE}{pos:Pos}
theorem d8m (ha:PE X a ta)(hb:PE X b tb){pins:List (Addr×Obj)}{s:Shared}{σ:St}{H:Hp}{R:V->V->Hp->Prop}(I:Inv X pins σ H s)
  (h:ta σ H λx H1=>tb σ H1 λy H2=>R x y H2){Q:Value->Shared->Prop}{f:Value->Value->Sem Value}
  (hf:∀ v u s2 x y H2,Inv X pins σ H2 s2->RelV x v->RelV y u->R x y H2->wpAny (model X.prog X.w) X.A (f v u) Q X.xe s2) :
  wpAny (model X.prog X.w) X.A (eval a X.env) (λv s₁=>wpAny (model X.prog X.w) X.A (eval b X.env) (λu s₂=>wpAny (model X.prog X.w) X.A (f v u) Q X.xe s₂) X.xe s₁) X.xe s:=by
 refine thn (ha pins s σ H _ I h) λv s1 ⟨x,H1,I1,r1,q1⟩=>?_
 refine thn (hb pins s1 σ H1 _ I1 q1) λu s2 ⟨y,H2,I2,r2,q2⟩=>?_
 exact hf v u s2 x y H2 I2 r1 r2 q2
theorem c8h {op:Operator}{r:R2}(ho:OpR X (binaryOp op) r)(ha:PE X a ta)(hb:PE X b tb):PE X (.BinOp a op b pos) (tOp r ta tb):=by
 intro pins s σ H Q I h
 exact wpAny_BinOp (d8m ha hb I h λv u s2 x y H2 I2 rx ry q=>ho pins s2 σ H2 x y v u Q I2 rx ry q)
theorem d4s {op:UnaryOp}{r:V->Hp->VK->Prop}(ho:UnR X (unaryOp op) r)(ha:PE X a ta):PE X (.UnaryOp op a pos) (tUn r ta):=by
 intro pins s σ H Q I h
 exact UnaryOp_ (thn (ha pins s σ H _ I h) λv s1 ⟨x,H1,I1,r1,q1⟩=>ho pins s1 σ H1 x v Q I1 r1 q1)
theorem opI {f:Value->Value->Sem Value}{C:Int->Int->Prop}{g:Int->Int->Int}
  (rule:∀ (i j:Int)(t u:Tok)(s:Shared)(Q:Value->Shared->Prop)(E:Value->Shared->Prop),C i j->Q (.int (g i j) s.toks) { s with toks:=s.toks+1 }->wpAny (model X.prog X.w) X.A (f (.int i t) (.int j u)) Q E s) :
  OpR X f (rI C λi j=>.int (g i j)):=by
 intro pins s σ H x y v u Q I rx ry h
 obtain⟨i,j,rfl,rfl,hc,q⟩:=h
 obtain⟨t,rfl⟩:=rx
 obtain⟨t',rfl⟩:=ry
 exact rule i j t t' s _ _ hc ⟨.int (g i j),H,I.tok _,⟨_,rfl⟩,q⟩
theorem opI0 {f:Value->Value->Sem Value}{g:Int->Int->Int}
  (rule:∀ (i j:Int)(t u:Tok)(s:Shared)(Q:Value->Shared->Prop)(E:Value->Shared->Prop),Q (.int (g i j) s.toks) { s with toks:=s.toks+1 }->wpAny (model X.prog X.w) X.A (f (.int i t) (.int j u)) Q E s) :
  OpR X f (rI0 λi j=>.int (g i j)):=by
 intro pins s σ H x y v u Q I rx ry h
 obtain⟨i,j,rfl,rfl,q⟩:=h
 obtain⟨t,rfl⟩:=rx
 obtain⟨t',rfl⟩:=ry
 exact rule i j t t' s _ _ ⟨.int (g i j),H,I.tok _,⟨_,rfl⟩,q⟩
theorem d5d {f:Value->Value->Sem Value}{g:Int->Int->Bool}
  (rule:∀ (i j:Int)(t u:Tok)(s:Shared)(Q:Value->Shared->Prop)(E:Value->Shared->Prop),Q (.bool (g i j)) s->wpAny (model X.prog X.w) X.A (f (.int i t) (.int j u)) Q E s) :
  OpR X f (rI0 λi j=>.bl (g i j)):=by
 intro pins s σ H x y v u Q I rx ry h
 obtain⟨i,j,rfl,rfl,q⟩:=h
 obtain⟨t,rfl⟩:=rx
 obtain⟨t',rfl⟩:=ry
 exact rule i j t t' s _ _ ⟨.bl (g i j),H,I,rfl,q⟩
def CDiv (i j:Int):Prop:=0<j/\j<1073741824
def CPow (i j:Int):Prop:=0<=j/\j<=1000000/\i.natAbs<2 ^ 64
def CMul (i j:Int):Prop:=(-(2 ^ 64)<i/\i<2 ^ 64) ∨ (-(2 ^ 64)<j/\j<2 ^ 64)
theorem CMul.ok {i j:Int}(h:CMul i j):IntMulOk i j:=by
 rcases h with⟨h1,h2⟩|⟨h1,h2⟩
 ·exact .of_left (intBits_le_64 h1 h2)
 ·exact .of_right (intBits_le_64 h1 h2)
theorem c8y:OpR X (binaryOp .Add) (rI0 λi j=>.int (i+j)):=opI0 λ_ _ _ _ _ _ _ q=>add_int q
theorem c8r:OpR X (binaryOp .Sub) (rI0 λi j=>.int (i-j)):=opI0 λ_ _ _ _ _ _ _ q=>sub_int q
theorem c8u:OpR X (binaryOp .Mult) (rI CMul λi j=>.int (i*j)):=opI λ_ _ _ _ _ _ _ hc q=>mul_int q hc.ok
theorem c4d:OpR X (binaryOp .FloorDiv) (rI CDiv λi j=>.int (i / j)):=opI λi j _ _ _ _ _ hc q=>by
 have h1:(0:Int)<j:=hc.1
 have h2:j<1073741824:=hc.2
 exact floordiv_int (by lia) (by rw[Int.fdiv_eq_ediv_of_nonneg i (by lia)];exact q) (.inl (PyProof.noPylong_small (by lia)))
theorem c8v:OpR X (binaryOp .Mod) (rI (λ_ j=>0<j) λi j=>.int (i % j)):=opI λi j _ _ _ _ _ hc q=>by
 have h1:(0:Int)<j:=hc
 exact mod_int' (by lia) (by rw[Int.fmod_eq_emod_of_nonneg i (by lia)];exact q)
theorem c8t:OpR X (binaryOp .Pow) (rI CPow λi j=>.int (i ^ j.toNat)):=opI λ_ _ _ _ _ _ _ hc q=>pow_int_small hc.1 hc.2.1 hc.2.2 q
theorem unI {f:Value->Sem Value}{g:Int->Int}
  (rule:∀ (i:Int)(t:Tok)(s:Shared)(Q:Value->Shared->Prop)(E:Value->Shared->Prop),Q (.int (g i) s.toks) { s with toks:=s.toks+1 }->wpAny (model X.prog X.w) X.A (f (.int i t)) Q E s) :
  UnR X f (rU λi=>.int (g i)):=by
 intro pins s σ H x v Q I rx h
 obtain⟨i,rfl,q⟩:=h
 obtain⟨t,rfl⟩:=rx
 exact rule i t s _ _ ⟨.int (g i),H,I.tok _,⟨_,rfl⟩,q⟩
theorem c6q:UnR X (unaryOp .USub) (rU λi=>.int (-i)):=unI λ_ _ _ _ _ q=>neg_int q
end
def scal:V->V->Bool
 | .non,.non=>true|.non,.int _=>true|.int _,.non=>true|.non,.bl _=>true|.bl _,.non=>true|.non,.str _=>true|.str _,.non=>true
 | .int _,.int _=>true|.bl _,.bl _=>true|.str _,.str _=>true|.byt _,.byt _=>true
 | .int _,.str _=>true|.str _,.int _=>true|.bl _,.str _=>true|.str _,.bl _=>true
 | _,_=>false
def rEq:R2:=λx y H Q=>scal x y=true/\Q (.bl (decide (x=y))) H
def rNe:R2:=λx y H Q=>scal x y=true/\Q (.bl (!decide (x=y))) H
theorem b7z {i j:Int}:decide (V.int i=V.int j)=(i == j):=by
 rw[Bool.eq_iff_iff]
 simp
theorem c2o {i j:Bool}:decide (V.bl i=V.bl j)=(i == j):=by
 rw[Bool.eq_iff_iff]
 simp
theorem b7y {i j:Str}:decide (V.str i=V.str j)=(i == j):=by
 rw[Bool.eq_iff_iff]
 simp
theorem b8a {i j:Array UInt8}:decide (V.byt i=V.byt j)=(i.toList == j.toList):=by
 rw[Bool.eq_iff_iff]
 cases i
 cases j
 simp
section
variable {X:Cx}{a b c:Expr}{ta tb tc:TE}{pos:Pos}
theorem a0m {pins:List (Addr×Obj)}{σ:St}{H:Hp}{s:Shared}{Q:VK}{k k':Bool}(I:Inv X pins σ H s)(q:Q (.bl k) H)(e:k=k'):EP X pins σ Q (.bool k') s:=by
 subst e
 exact⟨.bl k,H,I,rfl,q⟩
theorem d5c:OpR X (compareOp .Eq) rEq:=by
 intro pins s σ H x y v u Q I rx ry h
 obtain⟨hs,q⟩:=h
 cases x with
 | non =>
  cases rx
  cases y with
  | non=>cases ry;exact PySem.EqNone.eq_none_none (a0m I q (by simp))
  | bl j=>cases ry;exact PySem.EqNone.eq_none_bool (a0m I q (by simp))
  | int j=>obtain⟨t',rfl⟩:=ry;exact PySem.EqNone.eq_none_int (a0m I q (by simp))
  | str j=>obtain⟨t',rfl⟩:=ry;exact PySem.EqNone.eq_none_str (a0m I q (by simp))
  | _=>exact absurd (show false=true from hs) Γk
 | bl i =>
  cases rx
  cases y with
  | non=>cases ry;exact PySem.EqNone.eq_bool_none (a0m I q (by simp))
  | bl j=>cases ry;exact eq_bool (a0m I q c2o)
  | str j=>obtain⟨t',rfl⟩:=ry;exact PySem.EqMixed.eq_bool_str (a0m I q (by simp))
  | _=>exact absurd (show false=true from hs) Γk
 | int i =>
  obtain⟨t,rfl⟩:=rx
  cases y with
  | non=>cases ry;exact PySem.EqNone.eq_int_none (a0m I q (by simp))
  | int j=>obtain⟨t',rfl⟩:=ry;exact eq_int (a0m I q b7z)
  | str j=>obtain⟨t',rfl⟩:=ry;exact PySem.EqMixed.eq_int_str (a0m I q (by simp))
  | _=>exact absurd (show false=true from hs) Γk
 | str i =>
  obtain⟨t,rfl⟩:=rx
  cases y with
  | non=>cases ry;exact PySem.EqNone.eq_str_none (a0m I q (by simp))
  | bl j=>cases ry;exact PySem.EqMixed.eq_str_bool (a0m I q (by simp))
  | int j=>obtain⟨t',rfl⟩:=ry;exact PySem.EqMixed.eq_str_int (a0m I q (by simp))
  | str j=>obtain⟨t',rfl⟩:=ry;exact eq_str (a0m I q b7y)
  | _=>exact absurd (show false=true from hs) Γk
 | byt i =>
  obtain⟨t,rfl⟩:=rx
  cases y with
  | byt j=>obtain⟨t',rfl⟩:=ry;exact PySem.W.eq_bytes (a0m I q b8a)
  | _=>exact absurd (show false=true from hs) Γk
 | _=>cases y<;>exact absurd (show false=true from hs) Γk
theorem d4y:OpR X (compareOp .NotEq) rNe:=by
 intro pins s σ H x y v u Q I rx ry h
 obtain⟨hs,q⟩:=h
 cases x with
 | non =>
  cases rx
  cases y with
  | non=>cases ry;exact PySem.EqNone.ne_none_none (a0m I q (by simp))
  | bl j=>cases ry;exact PySem.EqNone.ne_none_bool (a0m I q (by simp))
  | int j=>obtain⟨t',rfl⟩:=ry;exact PySem.EqNone.ne_none_int (a0m I q (by simp))
  | str j=>obtain⟨t',rfl⟩:=ry;exact PySem.EqNone.ne_none_str (a0m I q (by simp))
  | _=>exact absurd (show false=true from hs) Γk
 | bl i =>
  cases rx
  cases y with
  | non=>cases ry;exact PySem.EqNone.ne_bool_none (a0m I q (by simp))
  | bl j=>cases ry;exact ne_bool (a0m I q (congrArg not c2o))
  | str j=>obtain⟨t',rfl⟩:=ry;exact PySem.EqMixed.ne_bool_str (a0m I q (by simp))
  | _=>exact absurd (show false=true from hs) Γk
 | int i =>
  obtain⟨t,rfl⟩:=rx
  cases y with
  | non=>cases ry;exact PySem.EqNone.ne_int_none (a0m I q (by simp))
  | int j=>obtain⟨t',rfl⟩:=ry;exact ne_int (a0m I q (congrArg not b7z))
  | str j=>obtain⟨t',rfl⟩:=ry;exact PySem.EqMixed.ne_int_str (a0m I q (by simp))
  | _=>exact absurd (show false=true from hs) Γk
 | str i =>
  obtain⟨t,rfl⟩:=rx
  cases y with
  | non=>cases ry;exact PySem.EqNone.ne_str_none (a0m I q (by simp))
  | bl j=>cases ry;exact PySem.EqMixed.ne_str_bool (a0m I q (by simp))
  | int j=>obtain⟨t',rfl⟩:=ry;exact PySem.EqMixed.ne_str_int (a0m I q (by simp))
  | str j=>obtain⟨t',rfl⟩:=ry;exact ne_str (a0m I q (congrArg not b7y))
  | _=>exact absurd (show false=true from hs) Γk
 | byt i =>
  obtain⟨t,rfl⟩:=rx
  cases y with
  | byt j=>obtain⟨t',rfl⟩:=ry;exact PySem.W.ne_bytes (a0m I q (congrArg not b8a))
  | _=>exact absurd (show false=true from hs) Γk
 | _=>cases y<;>exact absurd (show false=true from hs) Γk
theorem d4z:OpR X (compareOp .Lt) (rI0 λi j=>.bl (decide (i<j))):=d5d λ_ _ _ _ _ _ _ q=>lt_int q
theorem d5a:OpR X (compareOp .Gt) (rI0 λi j=>.bl (decide (j<i))):=d5d λ_ _ _ _ _ _ _ q=>gt_int q
theorem d5b:OpR X (compareOp .GtE) (rI0 λi j=>.bl (decide (j<=i))):=d5d λ_ _ _ _ _ _ _ q=>ge_int q
theorem nomark (b:Expr){op:CmpOp}(h:op≠.In:=by decide)(h2:op≠.NotIn:=by decide):behindInMarks op b=false:=by
 have e1:(op == CmpOp.In)=false:=by cases op<;>first|rfl|exact absurd rfl h
 have e2:(op == CmpOp.NotIn)=false:=by cases op<;>first|rfl|exact absurd rfl h2
 cases b<;>simp[behindInMarks,e1,e2]
theorem c3x {op:CmpOp}{r:R2}(ho:OpR X (compareOp op) r)(ha:PE X a ta)(hb:PE X b tb)(hm:behindInMarks op b=false):PE X (.Compare a [op] [b] pos) (tOp r ta tb):=by
 intro pins s σ H Q I h
 exact wpAny_Compare1 (d8m ha hb I h λv u s2 x y H2 I2 rx ry q=>ho pins s2 σ H2 x y v u Q I2 rx ry q) hm
def d3f (t:TE):TT:=λσ H Q=>t σ H λx H'=>∃ k,x=.bl k/\Q k H'
theorem c3m {op:CmpOp}{r:R2}(ho:OpR X (compareOp op) r)(ha:PE X a ta)(hb:PE X b tb)(hm:behindInMarks op b=false):PT X (.Compare a [op] [b] pos) (d3f (tOp r ta tb)):=by
 intro pins s σ H Q I h
 refine wpAny_isTrue_Compare1 (thn (ha pins s σ H _ I h) λv s1 ⟨x,H1,I1,r1,q1⟩=>thn (hb pins s1 σ H1 _ I1 q1) λu s2 ⟨y,H2,I2,r2,q2⟩ =>
  thn (ho pins s2 σ H2 x y v u _ I2 r1 r2 q2) λc s3 ⟨z,H3,I3,r3,k,e,q3⟩=>?_) hm
 subst e
 cases r3
 exact wpAny_truthy_bool ⟨H3,I3,q3⟩
def d3b (K:Γd)(x:V)(H:Hp)(k:Bool):Prop :=
 match x with
 | .non=>k=false
 | .bl b=>k=b
 | .int i=>k=(i != 0)
 | .str y=>y.length<=sizeLine/\k=((y.length:Int) != 0)
 | .byt y=>y.size<=sizeLine/\k=((y.size:Int) != 0)
 | .ref p=>(∃ xs,SqL K H p xs/\k = !xs.isEmpty) ∨ (∃ xs,SqT K H p xs/\k = !xs.isEmpty) ∨ ∃ kvs,H p=some (.dK kvs)/\k = !kvs.isEmpty
 | _=>False
theorem b4b {κ:Type}{kvs:List (κ×V)}{vs:List (κ×Value)}(r:KV kvs vs):(!vs.isEmpty) = !kvs.isEmpty:=by
 cases r<;>rfl
theorem a7i {xs:List V}{its:List Value}(r:Vals xs its):(!its.toArray.isEmpty) = !xs.isEmpty:=by
 cases r<;>simp
theorem a9m:(sizeLine:Nat)<2 ^ 63:=by rw[sizeLine_eq];decide
theorem c1o:TruR X (λx H Q=>∃ k,d3b X.K x H k/\Q k H):=by
 intro pins s σ H x v Q I rx h
 obtain⟨k,e,q⟩:=h
 have hl:=a9m
 have hs:sizeLine=16777216:=sizeLine_eq
 cases x with
 | non =>
  cases rx
  have e':k=false:=e
  subst e'
  exact truthy_none ⟨H,I,q⟩
 | bl b =>
  cases rx
  have e':k=b:=e
  subst e'
  exact wpAny_truthy_bool ⟨H,I,q⟩
 | int i =>
  obtain⟨t,rfl⟩:=rx
  have e':k=(i != 0):=e
  subst e'
  exact PySem.P.truthy_int ⟨H,I,q⟩
 | str y =>
  obtain⟨t,rfl⟩:=rx
  obtain⟨hy,e'⟩:y.length<=sizeLine/\k=((y.length:Int) != 0):=e
  subst e'
  exact PySem.P.truthy_str (by lia) ⟨H,I.tok _,q⟩
 | byt y =>
  obtain⟨t,rfl⟩:=rx
  obtain⟨hy,e'⟩:y.size<=sizeLine/\k=((y.size:Int) != 0):=e
  subst e'
  exact PySem.W.truthy_bytes (by lia) ⟨H,I.tok _,q⟩
 | ref p =>
  cases rx
  have e':(∃ xs,SqL X.K H p xs/\k = !xs.isEmpty) ∨ (∃ xs,SqT X.K H p xs/\k = !xs.isEmpty) ∨ ∃ kvs,H p=some (.dK kvs)/\k = !kvs.isEmpty:=e
  rcases e' with⟨xs,hx,e'⟩|⟨xs,hx,e'⟩|⟨kvs,hx,e'⟩
  ·subst e'
   obtain⟨its,r,pl,hz⟩:=I.list hx
   have hlen:=r.length
   exact wpAny_truthy_list pl.isList (by simp only[List.size_toArray];lia) ⟨H,I.tok _,by rw[a7i r];exact q⟩
  ·subst e'
   obtain⟨its,r,pl,hz⟩:=I.tuple hx
   have hlen:=r.length
   exact truthy_tuple pl (by simp only[List.size_toArray];lia) ⟨H,I.tok _,by rw[a7i r];exact q⟩
  ·subst e'
   obtain⟨hz,hS,vs,r,m⟩:kvs.length<=sizeLine/\(p == sysModules)=false/\∃ vs,KV kvs vs/\s.heap.DictOf (a0k X.prog X.w) p vs:=I.hok p _ hx
   have hlen:kvs.length=vs.length:=Paired.length r
   exact wpAny_truthy_dict hS m (by lia) ⟨H,I.tok _,by rw[b4b r];exact q⟩
 | _=>exact (show False from e).elim
theorem b9p (ha:PE X a ta)(he:∀ whole,isTrue a X.env whole=(do let v <- whole;standAt a.pos;holding [v] (truthy v))) :
  PT X a (λσ H Q=>ta σ H λx H'=>∃ k,d3b X.K x H' k/\Q k H'):=by
 intro pins s σ H Q I h
 exact isTrue_plain (thn (ha pins s σ H _ I h) λv s1 ⟨x,H1,I1,r1,q1⟩=>c1o pins s1 σ H1 x v Q I1 r1 q1) (he _)
theorem a3e {x:V}{us:List Value}(r:Vals [x] us):∃ u,us=[u]/\RelV x u:=by
 cases r with
 | cons r1 r2=>cases r2;exact⟨_,rfl,r1⟩
theorem c6p {x y:V}{us:List Value}(r:Vals [x,y] us):∃ u w',us=[u,w']/\RelV x u/\RelV y w':=by
 cases r with
 | cons r1 r2 =>
  cases r2 with
  | cons r3 r4=>cases r4;exact⟨_,_,rfl,r1,r3⟩
theorem c1g:a1j X (.builtin "abs") (λxs H Q=>∃ i,xs=[.int i]/\Q (.int (if i<0 then -i else i)) H):=by
 intro pins s σ H xs us Q I r h
 obtain⟨i,rfl,q⟩:=h
 obtain⟨u,rfl,t,rfl⟩:=a3e r
 exact call_abs_int λu tk=>⟨.int (if i<0 then -i else i),H,I.tok _,⟨_,rfl⟩,q⟩
theorem b8n (hc:X.calm=true):a1j X (.builtin "max") (λxs H Q=>∃ i j,xs=[.int i,.int j]/\Q (.int (if j > i then j else i)) H):=by
 intro pins s σ H xs us Q I r h
 obtain⟨i,j,rfl,q⟩:=h
 obtain⟨u,w',rfl,⟨t,rfl⟩,⟨t',rfl⟩⟩:=c6p r
 refine max_two_ints (I.ok.hd hc) λh' tk k=>⟨_,H,I.kept k,?_,q⟩
 by_cases hj:j > i
 ·rw[if_pos hj,if_pos hj];exact⟨_,rfl⟩
 ·rw[if_neg hj,if_neg hj];exact⟨_,rfl⟩
theorem b0n:a1j X (.type "int") (λxs H Q=>(∃ i,xs=[.int i]/\Q (.int i) H) ∨ ∃ k,xs=[.bl k]/\Q (.int (if k then 1 else 0)) H):=by
 intro pins s σ H xs us Q I r h
 rcases h with⟨i,rfl,q⟩|⟨k,rfl,q⟩
 ·obtain⟨u,rfl,t,rfl⟩:=a3e r
  exact call_int_int ⟨.int i,H,I,⟨_,rfl⟩,q⟩
 ·obtain⟨u,rfl,r1⟩:=a3e r
  cases r1
  exact call_int_bool ⟨.int (if k then 1 else 0),H,I.tok _,⟨_,rfl⟩,q⟩
theorem b0k:a1j X (.type "str") (λxs H Q=>∃ i,xs=[.int i]/\i.natAbs.log2<1920/\Q (.str (toString i)) H):=by
 intro pins s σ H xs us Q I r h
 obtain⟨i,rfl,hz,q⟩:=h
 obtain⟨u,rfl,t,rfl⟩:=a3e r
 exact PySem.P.str_of_int hz ⟨.str _,H,I.tok _,⟨_,rfl⟩,q⟩
end
end L2
namespace L2
open PySem PySem.Spec PyProof.Rows
structure ObjM (h:Heap)(x dx C:Addr)(mA:Str->Option Value):Prop where
 obj:h.get? x=some (PySem.W.instObj C dx)
 ns:h.Ns1 dx mA
 ne:dx≠x
theorem b6j {h:Heap}{dx:Addr}{mA:Str->Option Value}(n:h.Ns1 dx mA):∃ od,h.get? dx=some od/\∀ name,PySem.W.lookIn name od=some (mA name):=by
 obtain⟨o,es,ep,ho,hd,hk,_,hm⟩:=n
 refine⟨o,ho,λname=>?_⟩
 have e:=hm name
 unfold nsFind findBy at e
 rw[<- Array.find?_toList] at e
 unfold PySem.W.lookIn
 rw[hd]
 dsimp only
 split
 ·rename_i y q
  rw[q] at e
  exact congrArg some e
 ·rename_i q
  rw[q] at e
  have a:es.toList.any (·.refKey)=false:=by
   rw[List.any_eq_false]
   intro y hy
   obtain⟨z,t,hkey⟩:=hk y (Array.mem_toList_iff.mp hy)
   simp[DictEntry.refKey,hkey]
  have a':¬ es.toList.any (·.refKey)=true:=by rw[a];exact Γk
  rw[if_neg a']
  exact congrArg some e
theorem ObjM.look {h:Heap}{x dx C:Addr}{mA:Str->Option Value}(I:ObjM h x dx C mA):∃ od,PySem.W.InstAt h x (PySem.W.instObj C dx) C (some od)/\∀ name,PySem.W.lookIn name od=some (mA name) :=
 let ⟨od,ho,hl⟩:=b6j I.ns
 ⟨od,⟨I.obj,rfl,rfl,ho⟩,hl⟩
section
variable {prog:Program}{w:World}{A:Around}{E:Value->Shared->Prop}{s:Shared}{K:Γd}{x dx C f:Addr}{mA:Str->Option Value}{name:Str}{v:Value}
end
theorem RelO.some_of {v:V}{o:Option Value}(r:RelO (some v) o):∃ u,o=some u/\RelV v u:=by
 cases o with
 | none=>exact (show False from r).elim
 | some u=>exact⟨u,rfl,r⟩
section
variable {P:Program}{w:World}{H H':Hp}{h h':Heap}{a C dx:Addr}{fs fs':List (Str×V)}
theorem c4z (hok:HOk P w H h)(e:H a=some (.ins C dx fs)):∃ mA,ObjM h a dx C mA/\(∀ f,RelO (fs.lookup f) (mA f))/\PySem.Within mA (fs.map (·.1))/\fs.length<=1000/\H dx=some (.own a):=by
 obtain⟨d,z,ne,ob,mA,n,r,q⟩:=(show ObjOk P w H h a (.ins C dx fs) from hok a _ e)
 exact⟨mA,⟨ob,n,ne⟩,r,q,z,d⟩
end
structure Cls (K:Γd)(C:Addr):Prop where
 pg:PySem.W.plainGet K C Str.empty=true
 hd:PySem.W.hasDictIn K C=true
 po:PySem.W.plainOver K C=true
 sa:PySem.W.findIn K (.ref C) "__setattr__" = some (some (.builtin "object.__setattr__"))
theorem Cls.get {K:Γd}{C:Addr}(c:Cls K C)(f:Str):PySem.W.plainGet K C f=true:=c.pg
structure Con (K:Γd)(C:Addr)(f:Str)(v:V)(u:Value):Prop where
 at_:PySem.W.findIn K (.ref C) f=some (some u)
 rel:RelV v u
 get:PySem.W.specialIn K u "__get__" = some none
 cp:PySem.W.copiedNames.contains f=false
structure Meth (K:Γd)(C:Addr)(m:Str)(f:Addr):Prop where
 at_:PySem.W.findIn K (.ref C) m=some (some (.ref f))
 fn:PySem.W.isFn K (.ref f)=true
 kp:PySem.W.keepIn K (.ref f)=true
section
variable {X:Cx}{pins:List (Addr×Obj)}{σ:St}{H:Hp}{s:Shared}{a C dx:Addr}{fs:List (Str×V)}{f:Str}{v:V}{A:Around}{E:Value->Shared->Prop}
end
def InOp (X:Cx)(op:Operator)(rd:V->V->Hp->VK->Prop):Prop :=
 ∀ (pins:List (Addr×Obj))(s:Shared)(σ:St)(H:Hp)(x y:V)(u v:Value)(Q:VK),Inv X pins σ H s->RelV x u->RelV y v->rd x y H Q->wpAny (model X.prog X.w) X.A (inplaceOp op u v) (EP X pins σ Q) X.xe s
section
variable {X:Cx}{o e value:Expr}{f:Str}{pos pos' tpos:Pos}{ta tv:TE}
end
section
variable {X:Cx}{pins:List (Addr×Obj)}{σ:St}{H:Hp}{s:Shared}{A:Around}{E:Value->Shared->Prop}{Q:Value->Shared->Prop}{c:Value}{b:Bool}
inductive TyOf (K:Γd)(H:Hp):V->Value->Prop where
 | non:TyOf K H .non (.type "NoneType")
 | bl (x:Bool):TyOf K H (.bl x) (.type "bool")
 | int (i:Int):TyOf K H (.int i) (.type "int")
 | str (x:Str):TyOf K H (.str x) (.type "str")
 | flt (x:UInt64):TyOf K H (.flt x) (.type "float")
 | lst {a:Addr}{xs:List V}(e:H a=some (.lst xs)):TyOf K H (.ref a) (.type "list")
 | frz {a:Addr}{o:Obj}{xs:List V}(e:H a=some (.frz o (.lst xs))):TyOf K H (.ref a) (.type "list")
 | tup {a:Addr}{xs:List V}(e:H a=some (.tup xs)):TyOf K H (.ref a) (.type "tuple")
 | dK {a:Addr}{kvs:List (Key×V)}(e:H a=some (.dK kvs)):TyOf K H (.ref a) (.type "dict")
 | dT {a:Addr}{kvs:List (List Key×V)}(e:H a=some (.dT kvs)):TyOf K H (.ref a) (.type "dict")
 | ins {a C dx:Addr}{fs:List (Str×V)}(e:H a=some (.ins C dx fs))(cl:Cls K C)(ha:PySem.W.findIn K (.ref C) "__class__" = some (some (.builtin "object.__class__")))
   (hn:PySem.W.specialIn K (.builtin "object.__class__") "__get__" = some (some (.builtin "getset_descriptor.__get__")))(htk:PySem.W.takesIn K (.builtin "object.__class__")=some true)
   (hm:PySem.W.mroIn K C (.type "object")=some true):TyOf K H (.ref a) (.ref C)
theorem b6y {x:V}{u t:Value}(I:Inv X pins σ H s)(rx:RelV x u)(ty:TyOf X.K H x t)(e:PySem.W.kitOne X.K t c=some b)(h:∀ tk,Q (.bool b) { s with toks:=tk }) :
  wpAny (model X.prog X.w) A (call (.builtin "isinstance") [u,c]) Q E s:=by
 cases ty with
 | non=>cases (show u=Value.none from rx);exact PySem.W.kia_one PySem.W.kitx_none I.kIn True.intro e (λz=>nomatch z) h
 | bl y=>cases (show u=Value.bool y from rx);exact PySem.W.kia_one PySem.W.kitx_bool I.kIn True.intro e (λz=>nomatch z) h
 | int i=>obtain⟨t,q⟩:=(show ∃ t,u=Value.int i t from rx);cases q;exact PySem.W.kia_one PySem.W.kitx_int I.kIn True.intro e (λz=>nomatch z) h
 | str y=>obtain⟨t,q⟩:=(show ∃ t,u=Value.str y t from rx);cases q;exact PySem.W.kia_one PySem.W.kitx_str I.kIn True.intro e (λz=>nomatch z) h
 | flt y=>obtain⟨t,q⟩:=(show ∃ t,u=Value.float y t from rx);cases q;exact PySem.W.kia_one PySem.W.kitx_float I.kIn True.intro e (λz=>nomatch z) h
 | @lst a xs ea =>
  cases (show u=Value.ref a from rx)
  obtain⟨_,_,n,_,h1⟩:=(show ObjOk X.prog X.w H s.heap a (.lst xs) from I.hok a _ ea)
  exact PySem.W.kia_one PySem.W.kitx_list I.kIn ⟨_,h1,rfl⟩ e (λz=>nomatch z) h
 | @frz a ob xs ea =>
  cases (show u=Value.ref a from rx)
  obtain⟨_,_,_,n,_,h1⟩:=(show ObjOk X.prog X.w H s.heap a (.frz ob (.lst xs)) from I.hok a _ ea)
  exact PySem.W.kia_one PySem.W.kitx_list I.kIn ⟨_,h1,rfl⟩ e (λz=>nomatch z) h
 | @tup a xs ea =>
  cases (show u=Value.ref a from rx)
  obtain⟨_,_,_,p⟩:=(show ObjOk X.prog X.w H s.heap a (.tup xs) from I.hok a _ ea)
  obtain⟨o,h1,h2,_⟩:=p
  exact PySem.W.kia_one PySem.W.kitx_tuple I.kIn ⟨o,h1,h2⟩ e (λz=>nomatch z) h
 | @dK a kvs ea =>
  cases (show u=Value.ref a from rx)
  obtain⟨_,_,vs,_,p⟩:=(show ObjOk X.prog X.w H s.heap a (.dK kvs) from I.hok a _ ea)
  obtain⟨o,es,ep,h1,h2,_⟩:=p
  exact PySem.W.kia_one PySem.W.kitx_dict I.kIn ⟨o,h1,h2.1⟩ e (λz=>nomatch z) h
 | @dT a kvs ea =>
  cases (show u=Value.ref a from rx)
  obtain⟨_,_,xs,_,o,es,ep,h1,h2,_⟩:=(show ObjOk X.prog X.w H s.heap a (.dT kvs) from I.hok a _ ea)
  exact PySem.W.kia_one PySem.W.kitx_dict I.kIn ⟨o,h1,h2.1⟩ e (λz=>nomatch z) h
 | @ins a C dx fs ea cl ha hn htk hm =>
  cases (show u=Value.ref a from rx)
  obtain⟨mA,O,_⟩:=c4z I.hok ea
  obtain⟨od,J,_⟩:=O.look
  exact PySem.W.kia_one (PySem.W.kitx_own (cl.get _) cl.hd ha hn htk hm) I.kIn J e (λz=>nomatch z) h
end
end L2
namespace L2
open PySem PySem.Spec PyProof.Rows
structure Room (k:Nat)(A:Around):Prop where
 hd:A.handled=none
 dp:A.depth+3*k+5<recursionLimit
 un:A.units+16*k+200<cLine
 gd:A.guards=some []
theorem Room.mono {j k:Nat}{A:Around}(r:Room k A)(h:j<=k):Room j A:=⟨r.hd,by have:=r.dp;lia,by have:=r.un;lia,r.gd⟩
theorem Room.deeper {k:Nat}{A:Around}(r:Room (k+1) A)(env:Env):Room k (A.deeper env) :=
 ⟨r.hd,by have:=r.dp;show A.depth+1+3*k+5<_;lia,by have:=r.un;show A.units+3+16*k+200<_;lia,r.gd⟩
theorem Room.in1 {k:Nat}{A:Around}(r:Room (k+1) A):Room k A.in1 :=
 ⟨r.hd,by have:=r.dp;show A.depth+3*k+5<_;lia,by have:=r.un;show A.units+1+16*k+200<_;lia,r.gd⟩
theorem Room.depth {k:Nat}{A:Around}(r:Room k A):A.depth<recursionLimit:=by have:=r.dp;lia
theorem Room.units {k:Nat}{A:Around}(r:Room k A):A.units+64<cLine:=by have:=r.un;lia
def tNil:TA:=λ_ H Q=>Q [] H
def b8z (ta:TE)(tr:TA):TA:=λσ H Q=>ta σ H λx H1=>tr σ H1 λxs H2=>Q (x :: xs) H2
section
variable {X:Cx}{e:Expr}{es:List Expr}{te:TE}{t:TA}{pos:Pos}
theorem a2q:PA X [] tNil:=λ_ _ _ _ H Q I h=>Calls.spliced_nil ⟨[],H,I,.nil,h⟩
theorem a0s (ha:PE X e te)(hr:PA X es t)(hs:starEach (e :: es) X.env=(false,eval e X.env) :: starEach es X.env:=by rfl):PA X (e :: es) (b8z te t):=by
 intro pos pins s σ H Q I h
 rw[hs]
 show wpAny _ _ (spliced ((false,eval e X.env) :: backTo pos (starEach es X.env))) _ _ s
 refine Calls.spliced_cons (thn (ha pins s σ H _ I h) λu s1 ⟨x,H1,I1,r1,q1⟩=>?_)
 exact thn (hr pos pins s1 σ H1 _ I1 q1) λus s2 ⟨xs,H2,I2,r2,q2⟩=>⟨x :: xs,H2,I2,.cons r1 r2,q2⟩
def tTup (t:TA):TE:=λσ H Q=>t σ H λxs H1=>xs.length<=sizeLine/\∀ p,H1 p=none->Q (.ref p) (upd H1 p (.tup xs))
def tLst (t:TA):TE:=λσ H Q=>t σ H λxs H1=>xs.length<=sizeLine/\∀ p,H1 p=none->Q (.ref p) (upd H1 p (.lst xs))
theorem c8g {x1}(h:PA X es t):PE X (.Tuple es x1 pos) (tTup t):=by
 intro pins s σ H Q I hq
 refine wpAny_Tuple_spliced (thn (h pos pins s σ H _ I hq) λus s1 ⟨xs,H1,I1,r,z,q⟩=>⟨by rw[<- r.length];exact z,?_⟩)
 have hf:H1 s1.heap.objs.size=none:=I1.hok.fresh (Γi _)
 refine⟨.ref s1.heap.objs.size,upd H1 s1.heap.objs.size (.tup xs),I1.laid (t':=s1.toks) (λb u e=>Γc _ e) (Γi _) ?_,rfl,q _ hf⟩
 exact⟨z,us,r,⟨_,Γm _ rfl,rfl,_,rfl⟩⟩
theorem c2a (h:PA X es t):PE X (.List es pos) (tLst t):=by
 intro pins s σ H Q I hq
 refine wpAny_List_spliced (thn (h pos pins s σ H _ I hq) λus s1 ⟨xs,H1,I1,r,z,q⟩=>⟨by rw[<- r.length];exact z,?_⟩)
 have hf:H1 s1.heap.objs.size=none:=I1.hok.fresh (Γi _)
 refine⟨.ref s1.heap.objs.size,upd H1 s1.heap.objs.size (.lst xs),I1.laid (t':=s1.toks) (λb u e=>Γc _ e) (Γi _) ?_,rfl,q _ hf⟩
 exact⟨z,us,0,r,Γm _ rfl⟩
end
abbrev Sp:=List V->Hp->VK->XK->Prop
abbrev CXT:=List Env->Hp->Shared->XK->Value->Shared->Prop
structure Env0 (P:Program)(w:World)(K:Γd)(mg:Str->Option Value)(base:Heap)(A:Around)(outer:List Env)(s:Shared)(H:Hp):Prop where
 frames:A.frames=some outer
 mod:Mod K mg base
 bs:∀ b o,base.get? b=some o->s.heap.get? b=some o/\H b=none
 bsz:base.objs.size<=s.heap.objs.size
 funs:s.heap.FunFrames base outer
 frf:∀ b∈frs outer,H b=none
 hok:HOk P w H s.heap
 bare:AllBare s.gens
def CE (outer:List Env)(P:Program)(w:World)(H:Hp)(s:Shared)(Q:VK)(u:Value)(s':Shared):Prop :=
 ∃ v H',s'.os=s.os/\AllBare s'.gens/\Un (frs outer) [] H H' s.heap s'.heap/\HOk P w H' s'.heap/\RelV v u/\Q v H'
def CR (CX:CXT)(outer:List Env)(P:Program)(w:World)(H:Hp)(s:Shared)(Q:VK)(E:XK)(r:Result)(s':Shared):Prop :=
 match r with
 | .ok (.ret u)=>CE outer P w H s Q u s'
 | .ok _=>False
 | .error e=>CX outer H s E e s'
structure FnOk (P:Program)(w:World)(K:Γd)(mg:Str->Option Value)(base:Heap)(CX:CXT) (k:Nat)(f:Addr)(fd:FuncData)(ps:List Str)(sp:Sp):Prop where
 len:∀ vs H Q E,sp vs H Q E->vs.length=ps.length
 run:∀ (A:Around)(outer:List Env)(s:Shared)(H:Hp)(args:Args)(us:List Value)(vs:List V)(Q:VK)(E:XK),Room k A->Env0 P w K mg base A outer s H->BindsTo s fd args (ps.zip us)->Vals vs us->sp vs H Q E ->
  codeAny (model P w) A (.call (.ref f) args) (CR CX outer P w H s Q E) s
theorem FnOk.mono {P:Program}{w:World}{K:Γd}{mg:Str->Option Value}{base:Heap}{CX:CXT}{j k:Nat}{f:Addr}{fd:FuncData}{ps:List Str}{sp:Sp}(F:FnOk P w K mg base CX j f fd ps sp)(h:j<=k) :
  FnOk P w K mg base CX k f fd ps sp:=⟨F.len,λA outer s H args us vs Q E hr=>F.run A outer s H args us vs Q E (hr.mono h)⟩
theorem Env0.in1 {P:Program}{w:World}{K:Γd}{mg:Str->Option Value}{base:Heap}{A:Around}{outer:List Env}{s:Shared}{H:Hp}(e:Env0 P w K mg base A outer s H) :
  Env0 P w K mg base A.in1 outer s H:=⟨e.frames,e.mod,e.bs,e.bsz,e.funs,e.frf,e.hok,e.bare⟩
section
variable {X:Cx}{pins:List (Addr×Obj)}{σ:St}{H:Hp}{s s':Shared}
theorem Inv.env0 (I:Inv X pins σ H s):Env0 X.prog X.w X.K X.mg X.base X.A X.stack s H :=
 ⟨I.ok.frames,I.ok.mod,I.bs,Nat.le_trans I.ok.bsz I.sz,I.stack,I.stkFree,I.hok,I.bare⟩
theorem Inv.after {Q:VK}{u:Value}(I:Inv X pins σ H s)(h:CE X.stack X.prog X.w H s Q u s'):EP X pins σ Q u s':=by
 obtain⟨v,H',os,bare,un,hok,r,q⟩:=h
 obtain⟨hh,g,d,t,os'⟩:=s'
 obtain rfl:os'=s.os:=os
 exact⟨v,H',I.call (h':=hh) (g':=g) (d':=d) (t':=t) (ch:=[]) un hok bare (λb z=>absurd z (by simp)),r,q⟩
end
def d3m (sp:Sp)(dvs:List V)(E:XK)(t:TA):TE:=λσ H Q=>t σ H λvs H1=>sp (vs++dvs) H1 Q E
def Binds (K:Γd)(fd:FuncData)(ps:List Str)(ds:List Value):Prop :=
 ∀ (s:Shared)(us:List Value),K.In s.heap->(us++ds).length=ps.length->BindsTo s fd ⟨us,[]⟩ (ps.zip (us++ds))
theorem Binds.all {K:Γd}{fd:FuncData}{ps:List Str}(h:∀ us:List Value,us.length=ps.length->bindArgs fd ⟨us,[]⟩=pure (ps.zip us)):Binds K fd ps []:=λs us _ hl=>by
 rw[List.append_nil] at hl ⊢
 exact .of_eq (h us hl)
def b8v (CX:CXT)(X:Cx)(E:XK):Prop:=∀ (pins:List (Addr×Obj))(σ:St)(H:Hp)(s:Shared)(e:Value)(s':Shared),Inv X pins σ H s->CX X.stack H s E e s'->X.xe e s'
section
variable {X:Cx}{CX:CXT}{k:Nat}{f C:Addr}{fd:FuncData}{ps:List Str}{sp:Sp}{dvs:List V}{ds:List Value}{E:XK}{x m:Str}{p pos apos:Pos}{e o:Expr}{es:List Expr}{ta:TE}{t:TA}
theorem c7j {pins:List (Addr×Obj)}{σ:St}{H:Hp}{s:Shared}{Q:VK}{us:List Value}{vs:List V}(F:FnOk X.prog X.w X.K X.mg X.base CX k f fd ps sp)(hr:Room k X.A)(hb:Binds X.K fd ps ds)(hd:Vals dvs ds)(hx:b8v CX X E)
  (I:Inv X pins σ H s)(r:Vals vs us)(h:sp (vs++dvs) H Q E):wpAny (model X.prog X.w) X.A (call (.ref f) us) (EP X pins σ Q) X.xe s:=by
 have r2:Vals (vs++dvs) (us++ds):=r.append hd
 have hl:(us++ds).length=ps.length:=by rw[<- r2.length];exact F.len _ _ _ _ h
 refine wpAny_call (codeAny_mono (F.run X.A X.stack s H ⟨us,[]⟩ (us++ds) (vs++dvs) Q E hr I.env0 (hb s us I.kIn hl) r2 h) λr s' hq=>?_)
 cases r with
 | error e=>exact hx pins σ H s e s' I hq
 | ok fl =>
  cases fl with
  | ret u=>exact I.after hq
  | next=>exact False.elim hq
  | brk=>exact False.elim hq
  | cont=>exact False.elim hq
theorem c3y (F:FnOk X.prog X.w X.K X.mg X.base CX k f fd ps sp)(hr:Room k X.A)(hg:Gl X x)(hm:X.mg x=some (.ref f))(hk:PySem.W.keepIn X.K (.ref f)=true)(hb:Binds X.K fd ps ds)(hd:Vals dvs ds)(hx:b8v CX X E)
  (ha:PA X (e :: es) t)(hdb:(x == ("__debug__":Str))=false:=by decide)(he:starEach (e :: es) X.env=(false,eval e X.env) :: starEach es X.env:=by rfl)(hpl:(backTo pos (starEach es X.env)).any (·.1)=false:=by rfl) :
  PE X (.Call (.Name x p) (e :: es) [] pos) (d3m sp dvs E t):=by
 intro pins s σ H Q I h
 refine wpAny_Call_Name_kw (c4q I hg hm ?_ hdb)
 refine PySem.W.callWith_K (h₀:=X.base) I.ok.mod.kin hk (thn (ha pos pins s σ H _ I h) λus s1 ⟨vs,H1,I1,r,q⟩=>⟨I1.kIn,?_⟩) he hpl
 exact c7j F hr hb hd hx I1 r q
structure Mk (K:Γd)(C f:Addr):Prop where
 makes:PySem.W.makesIn K C=true
 init:PySem.W.findIn K (.ref C) "__init__" = some (some (.ref f))
 fn:PySem.W.isFn K (.ref f)=true
 kp:PySem.W.keepIn K (.ref C)=true
end
section
variable {X:Cx}{CX:CXT}{k:Nat}{f C:Addr}{fd:FuncData}{ps ks:List Str}{sp:Sp}{E:XK}{x m:Str}{p pos apos kpos:Pos}{e o:Expr}{es:List Expr}{kws:List Keyword}{te ta:TE}{t tk:TA}{nm:Option Str}
structure KBinds (K:Γd)(fd:FuncData)(ps ks:List Str)(g:List Value->List Value->List Value)(gV:List V->List V->List V):Prop where
 to:∀ (s:Shared)(us ws:List Value),K.In s.heap->(g us ws).length=ps.length->BindsTo s fd ⟨us,ks.zip ws⟩ (ps.zip (g us ws))
 rel:∀ {vs:List V}{us:List Value}{zs:List V}{ws:List Value},Vals vs us->Vals zs ws->Vals (gV vs zs) (g us ws)
variable {g:List Value->List Value->List Value}{gV:List V->List V->List V}
end
structure FnScope (N P:List Str)(sc:Scope):Prop where
 kind:sc.kind=.function
 co:sc.isCoroutine=false
 gen:sc.isGenerator=false
 nd:N.Nodup
 pre:N.take P.length=P
 par:∀ x∈P,sc.names.lookup x=some .local ∨ sc.names.lookup x=some .cell
 nofree:∀ y∈sc.names,y.2≠.free
theorem b0o {kindOf:Str->Option NameKind}{x:Str}:∀ {binds:List (Str×Value)}{m:Str->Option Value},(∀ v,(x,v) ∉ binds)->bindL kindOf binds m x=m x
 | [],_,_=>rfl
 | (n,v) :: r,m,h=>by
  unfold bindL
  rw[b0o λw hw=>h w (Γh _ hw)]
  split
  ·have:x≠n:=by rintro rfl;exact h v Γn
   simp[this]
  ·rfl
theorem b0q {kindOf:Str->Option NameKind}{x:Str}:∀ {binds:List (Str×Value)}{m:Str->Option Value},(∀ v,(x,v) ∉ binds)->bindC kindOf binds m x=m x
 | [],_,_=>rfl
 | (n,v) :: r,m,h=>by
  unfold bindC
  rw[b0q λw hw=>h w (Γh _ hw)]
  split
  ·rfl
  ·have:x≠n:=by rintro rfl;exact h v Γn
   simp[this]
theorem b0p {kindOf:Str->Option NameKind}{x:Str}{v:Value}:∀ {P:List Str}{vs:List Value}{i:Nat}{m:Str->Option Value},P.Nodup->P[i]?=some x->vs[i]?=some v->kindOf x=some .local ->
  bindL kindOf (P.zip vs) m x=some v
 | [],_,_,_,_,h,_,_=>by simp at h
 | _ :: _,[],_,_,_,_,h,_=>by simp at h
 | p :: P,w :: vs,0,m,nd,h1,h2,hk=>by
  simp at h1 h2;subst h1;subst h2
  show bindL kindOf ((p,w) :: P.zip vs) m p=_
  unfold bindL
  rw[b0o λv hv=>(List.nodup_cons.mp nd).1 (List.of_mem_zip hv).1,if_pos hk]
  simp
 | p :: P,w :: vs,i+1,m,nd,h1,h2,hk=>by
  show bindL kindOf ((p,w) :: P.zip vs) m x=_
  unfold bindL
  exact b0p (i:=i) (List.nodup_cons.mp nd).2 (by simpa using h1) (by simpa using h2) hk
theorem b0r {kindOf:Str->Option NameKind}{x:Str}{v:Value}:∀ {P:List Str}{vs:List Value}{i:Nat}{m:Str->Option Value},P.Nodup->P[i]?=some x->vs[i]?=some v->kindOf x≠some .local ->
  bindC kindOf (P.zip vs) m x=some v
 | [],_,_,_,_,h,_,_=>by simp at h
 | _ :: _,[],_,_,_,_,h,_=>by simp at h
 | p :: P,w :: vs,0,m,nd,h1,h2,hk=>by
  simp at h1 h2;subst h1;subst h2
  show bindC kindOf ((p,w) :: P.zip vs) m p=_
  unfold bindC
  rw[b0q λv hv=>(List.nodup_cons.mp nd).1 (List.of_mem_zip hv).1,if_neg hk]
  simp
 | p :: P,w :: vs,i+1,m,nd,h1,h2,hk=>by
  show bindC kindOf ((p,w) :: P.zip vs) m x=_
  unfold bindC
  exact b0r (i:=i) (List.nodup_cons.mp nd).2 (by simpa using h1) (by simpa using h2) hk
def start (N:List Str)(vs:List V):St:=vs.map some++Γj (N.length-vs.length) none
def c5v (CX:CXT)(P:Program)(w:World)(K:Γd)(mg:Str->Option Value)(base:Heap)(N:List Str)(qual:Str)(scope:Scope)(f:Addr)(cd:Value)(A:Around)(outer:List Env)(s:Shared)(H:Hp)(E:XK):Cx where
 prog:=P
 w:=w
 K:=K
 mg:=mg
 base:=base
 A:=A.deeper (envOfC qual scope s.heap.objs.size f cd)
 N:=N
 s₀:=s
 H₀:=H
 env:=envOfC qual scope s.heap.objs.size f cd
 outer:=outer
 stack:=envOfC qual scope s.heap.objs.size f cd :: outer
 ex:=[]
 calm:=true
 fn:=λ_=>true
 pn:=[]
 xe:=λe s'=>wpAny (model P w) (A.deeper (envOfC qual scope s.heap.objs.size f cd)) (leaving (envOfC qual scope s.heap.objs.size f cd) e) (λ_ s''=>CX outer H s E e s'') (λe' s''=>CX outer H s E e' s'') s'
theorem b3k {sc:Scope}{n:Nat}{x:Str}(h:sc.names.lookup x=some .cell):∃ c,(cellsFrom n sc.names []).lookup x=some c:=by
 have q:=PySem.W.cellsFrom_some sc.names n [] (.inl h)
 exact Option.isSome_iff_exists.mp q
theorem b7a {CX:CXT}{P:Program}{w:World}{K:Γd}{mg:Str->Option Value}{base:Heap}{N ps:List Str}{qual:Str}{scope:Scope}{f:Addr}{cd:Value}{A:Around}{outer:List Env}{s s1:Shared}{H:Hp}{E:XK}{us:List Value}{vs:List V}
  (S:FnScope N ps scope)(hd:A.handled=none)(e0:Env0 P w K mg base A outer s H)(hl:vs.length=ps.length)(r:Vals vs us)
  (x:InCallC s s.heap.objs.size (bindL (envOfC qual scope s.heap.objs.size f cd).kindOf (ps.zip us) λ_=>none) (cellsFrom (s.heap.objs.size+1) scope.names []) (bindC (envOfC qual scope s.heap.objs.size f cd).kindOf (ps.zip us) λ_=>none) s1) :
  Inv (c5v CX P w K mg base N qual scope f cd A outer s H E) [] (start N vs) H s1:=by
 have hpl:ps.length<=N.length:=by have:=congrArg List.length S.pre;rw[List.length_take] at this;lia
 obtain⟨h1,tk,rfl,hk⟩:=x.done
 have noA:∀ b:Addr,b ∉ (c5v CX P w K mg base N qual scope f cd A outer s H E).ex:=λb z=>absurd (show b∈([]:List Addr) from z) (by simp)
 refine⟨⟨e0.mod,S.kind,rfl,rfl,Γi _,λy z c h1 h2=>?_,λy hy=>?_,λy c _ h=>?_,λ_=>hd,Around.frames_deeper e0.frames,.inr ⟨rfl,rfl⟩,λb z=>absurd z (noA b),e0.bs,e0.bsz,λb _ _=>noA b,λb z=>absurd z (noA b),e0.funs,e0.frf⟩,
  rfl,e0.bare,Un.kept hk,⟨_,x.toInCall.ns,λi y v h1 h2 h3=>?_⟩,λy c h=>⟨_,x.cell y c h⟩,e0.hok.fresh (Γi _),λy c h=>?_,λp hp=>absurd (show p∈([]:List (Addr×Obj)) from hp) (by simp),e0.hok.kept hk,?_⟩
 ·exact name_of_addr x.apart (PySem.mem_of_lookup h1) (PySem.mem_of_lookup h2)
 ·have hy:scope.names.lookup y=some .cell ∨ scope.names.lookup y=some .free:=hy
  rcases hy with hy|hy
  ·exact b3k hy
  ·exact absurd rfl (S.nofree _ (PySem.mem_of_lookup hy))
 ·exact Nat.le_of_lt (x.above y c (PySem.mem_of_lookup h))
 ·have hi:i<vs.length:=by
   unfold start at h2
   by_cases hi:i<vs.length
   ·exact hi
   ·rw[List.getElem?_append_right (by simpa using hi)] at h2
    rw[List.getElem?_replicate] at h2
    split at h2<;>cases h2
  have ha:vs[i]?=some v:=by
   unfold start at h2
   rw[List.getElem?_append_left (by simpa using hi),List.getElem?_map] at h2
   cases e:vs[i]? with
   | none=>rw[e] at h2;cases h2
   | some a=>rw[e] at h2;cases h2;rfl
  obtain⟨u,hu,rv⟩:=r.get ha
  have hp:ps[i]?=some y:=by
   rw[<- S.pre,List.getElem?_take_of_lt (by lia)];exact h1
  have ndP:ps.Nodup:=by rw[<- S.pre];exact S.nd.sublist (List.take_sublist _ _)
  refine⟨u,rv,?_⟩
  rcases S.par y (List.mem_of_getElem? hp) with k|k
  ·exact .inl ⟨k,b0p ndP hp hu k⟩
  ·obtain⟨c,e⟩:=b3k (n:=s.heap.objs.size+1) k
   refine .inr ⟨.inl k,c,e,?_⟩
   have q:=x.cell y c e
   rw[b0r ndP hp hu (by show scope.names.lookup y≠_;rw[k];decide)] at q
   exact q
 ·exact e0.hok.fresh (Nat.le_of_lt (x.above y c (PySem.mem_of_lookup h)))
 ·unfold start
  show _=N.length
  rw[List.length_append,List.length_map,List.length_replicate]
  lia
theorem d6i {CX:CXT}{P:Program}{w:World}{K:Γd}{mg:Str->Option Value}{base:Heap}{k:Nat}{f:Addr}{name qual:Str}{params:Arguments}{body:List Stmt}{scope:Scope}{dV kV doc pm cdv ct oc:Value}{an od:Option Addr}
  {osl:Array (Option Value)}{N ps:List Str}{sp:Sp}(lk:K.lookup f=some ⟨oc,od,.func (PySem.W.fnOf name qual params body scope dV kV doc pm an cdv ct),osl⟩)(hcd:PySem.W.codeIn K cdv qual=true)(S:FnScope N ps scope)
  (len:∀ vs H Q E,sp vs H Q E->vs.length=ps.length)
  (hbody:∀ (A:Around)(outer:List Env)(s:Shared)(H:Hp)(vs:List V)(Q:VK)(E:XK),Room k (A.deeper (envOfC qual scope s.heap.objs.size f cdv))->sp vs H Q E ->
   ∃ t,PSs (c5v CX P w K mg base N qual scope f cdv A outer s H E) body t/\t { nx:=λ_ H'=>Q .non H',rt:=Q } (start N vs) H) :
  FnOk P w K mg base CX (k+1) f (PySem.W.fnOf name qual params body scope dV kV doc pm an cdv ct) ps sp:=by
 refine⟨len,λA outer s H args us vs Q E hr e0 hb r hsp=>?_⟩
 have hl:=len _ _ _ _ hsp
 have KX:K.In s.heap:=e0.mod.kin.keeps λb o e=>(e0.bs b o e).1
 have lim:s.heap.NoLimit:=e0.mod.nolimit.keeps λb o e=>(e0.bs b o e).1
 have hkind:∀ y∈ps.zip us,scope.names.lookup y.1=some .local ∨ (scope.names.lookup y.1=some .cell/\((cellsFrom (s.heap.objs.size+1) scope.names []).lookup y.1).isSome=true):=λ⟨n,v⟩ hy=>by
  rcases S.par n (List.of_mem_zip hy).1 with q|q
  ·exact .inl q
  ·exact .inr ⟨q,PySem.W.cellsFrom_some _ _ _ (.inl q)⟩
 refine codeAny_call_function hr.depth (KX _ _ lk) rfl S.co S.gen rfl (PySem.W.codeRec_of KX hcd) (hb _ _ _ _ ?_)
 refine wpAny_newFunctionEnv_cells S.kind hkind λenv he s1 x=>?_
 subst he
 refine⟨lim.keeps x.toInCall.keep,codeAny_func ?_⟩
 obtain⟨t,ht,hq⟩:=hbody A outer s H vs Q E (hr.deeper _) hsp
 have I:Inv (c5v CX P w K mg base N qual scope f cdv A outer s H E) [] (start N vs) H s1:=b7a S hr.hd e0 hl r x
 refine wpAny_mono (ht [] s1 (start N vs) H _ I hq) (λfl s' hs=>?_) λe s' hs=>hs
 have fin:∀ {σ':St}{H':Hp}{v:V}{u:Value},Inv (c5v CX P w K mg base N qual scope f cdv A outer s H E) [] σ' H' s'->RelV v u->Q v H'->CE outer P w H s Q u s' :=
  λ{σ' H' v u} J rv q=>⟨v,H',J.os,J.bare,J.base,J.hok,rv,q⟩
 cases fl with
 | ret u =>
  obtain⟨v,σ',H',J,rv,q⟩:=hs
  exact fin J rv q
 | next =>
  obtain⟨σ',H',J,q⟩:=hs
  exact fin (v:=V.non) (u:=Value.none) J rfl q
 | brk =>
  obtain⟨_,_,_,q⟩:=hs
  exact False.elim q
 | cont =>
  obtain⟨_,_,_,q⟩:=hs
  exact False.elim q
end L2
namespace L2
open PySem PySem.Spec PyProof.Rows
section
variable {X:Cx}{x:Str}{p pos:Pos}{e:Expr}{es:List Expr}{t:TA}{id T:String}{r:List V->Hp->VK->Prop}
def tCB (r:List V->Hp->VK->Prop)(t:TA):TE:=λσ H Q=>t σ H λvs H1=>r vs H1 Q
theorem a4o (hc:a1j X (.builtin id) r)(hg:Gl X x)(hm:X.mg x=none)(hv:bootBuiltins x=some (.builtin id))(ha:PA X (e :: es) t)(hn:x≠"__name__":=by decide)(hdb:(x == ("__debug__":Str))=false:=by decide)
  (he:starEach (e :: es) X.env=(false,eval e X.env) :: starEach es X.env:=by rfl)(hpl:(backTo pos (starEach es X.env)).any (·.1)=false:=by rfl):PE X (.Call (.Name x p) (e :: es) [] pos) (tCB r t):=by
 intro pins s σ H Q I h
 refine wpAny_Call_Name_kw (a9r I hg hm hv ?_ hn hdb)
 exact PyProof.Rows.callWith_builtin1 (thn (ha pos pins s σ H _ I h) λus s1 ⟨vs,H1,I1,r1,q1⟩=>hc pins s1 σ H1 vs us Q I1 r1 q1) he hpl
theorem a5z (hc:a1j X (.type T) r)(hg:Gl X x)(hm:X.mg x=none)(hv:bootBuiltins x=some (.type T))(ha:PA X (e :: es) t)(hn:x≠"__name__":=by decide)(hdb:(x == ("__debug__":Str))=false:=by decide)
  (he:starEach (e :: es) X.env=(false,eval e X.env) :: starEach es X.env:=by rfl)(hpl:(backTo pos (starEach es X.env)).any (·.1)=false:=by rfl):PE X (.Call (.Name x p) (e :: es) [] pos) (tCB r t):=by
 intro pins s σ H Q I h
 refine wpAny_Call_Name_kw (a9r I hg hm hv ?_ hn hdb)
 exact PyProof.Rows.callWith_type1 (thn (ha pos pins s σ H _ I h) λus s1 ⟨vs,H1,I1,r1,q1⟩=>hc pins s1 σ H1 vs us Q I1 r1 q1) he hpl
end
end L2
namespace HT
open PySem PyProof.Rows
def lexLt:List Int->List Int->Bool
 | [],[]=>false
 | [],_ :: _=>true
 | _ :: _,[]=>false
 | x :: xs,y :: ys=>if x=y then lexLt xs ys else decide (x<y)
theorem b3y (x y:Int)(xs ys:List Int):lexLt (x :: xs) (y :: ys)=if x=y then lexLt xs ys else decide (x<y):=rfl
theorem a8i:lexLt [] []=false:=rfl
theorem a6u (y:Int)(ys:List Int):lexLt [] (y :: ys)=true:=rfl
theorem a6v (x:Int)(xs:List Int):lexLt (x :: xs) []=false:=rfl
theorem c0w (A:Around)(s:Shared) (a:Int)(t:Tok) (c:Int)(u:Tok):∃ e,SeqAt.EqAt A s (.int a t) (.int c u) e/\(e=true↔a=c) :=
 ⟨(a == c),SeqAt.EqAt.int_int a t c u,by simp⟩
theorem b9k (A:Around)(s:Shared) (a:Int)(t:Tok) (c:Int)(u:Tok)(prog:Program)(w:World)(E:Value->Shared->Prop)(Q:Value->Shared->Prop)(h:Q (.bool (decide (a<c))) s) :
  wpAny (model prog w) A (richCompare .Lt (.int a t) (.int c u)) Q E s :=
 (PyProof.Rows.lt_int h:wpAny (model prog w) A (compareOp .Lt (.int a t) (.int c u)) Q E s)
section
open PySem.SeqAt
open PySem.AutoSeq1 (wpAny_loadPart')
open PySem.MeetsSeq PySem.MeetsSeq2 PySem.MeetsSeq3
theorem a7r (l b:Addr)(items items2:Array Value) (n n2:Nat)(dd dd2:Option Addr)(sl sl2:Array (Option Value))(ns ms:List Int)(hi:IntsAre items.toList ns)(hj:IntsAre items2.toList ms) :
  Meets (Builtin.«tuple.__lt__» ⟨[.ref l,.ref b],[]⟩)
   (λ_ R s=>s.heap.get? l=some { cls:=.type "tuple",dict:=dd,data:=.seq items n,slots:=sl }/\s.heap.get? b=some { cls:=.type "tuple",dict:=dd2,data:=.seq items2 n2,slots:=sl2 } /\
    R (.ok (.ret (.bool (lexLt ns ms)))) s) :=
 .of_wp λprog w A R s h=>by
  obtain⟨hp,g,d,tk,os⟩:=s;obtain⟨hl,hb,h⟩:=h
  have f2:=AutoSeq1.sub_tuple_tuple
  have z1:items.size=ns.length:=by rw[<- hi.length];simp
  have z2:items2.size=ms.length:=by rw[<- hj.length];simp
  wp_walk using wpAny_loadPart' hl,wpAny_loadPart' hb,wpAny_forIn_list _ (λrest b s'=>b.1=none/\s'=⟨hp,g,d,tk,os⟩/\∃ (vs ws:List Value)(ns' ms':List Int),rest=vs.zip ws /\
   IntsAre vs ns'/\IntsAre ws ms'/\ns'.length+items2.size=ms'.length+items.size/\R (.ok (.ret (.bool (lexLt ns' ms')))) ⟨hp,g,d,tk,os⟩) _
  case turn =>
   rintro⟨y,x⟩ rest b s' ⟨hb',rfl,vs,ws,ns',ms',hz,hvi,hwi,hlen,hR⟩
   cases hvi with
   | nil=>rw[List.zip_nil_left] at hz;cases hz
   | cons a t hvi' =>
    cases hwi with
    | nil=>rw[List.zip_nil_right] at hz;cases hz
    | cons c u hwi' =>
     rw[List.zip_cons_cons] at hz
     injection hz with hyx hrest
     injection hyx with hy hx
     subst hy hx
     rw[b3y] at hR
     simp only[List.length_cons] at hlen
     obtain⟨e,he,hiff⟩:=c0w A.in1 ⟨hp,g,d,tk,os⟩ a t c u
     refine Γa (he prog w _ _ ?_)
     cases e with
     | true =>
      rw[if_pos (hiff.mp rfl)] at hR
      wp_walk
      exact⟨rfl,rfl,_,_,_,_,hrest,hvi',hwi',by lia,hR⟩
     | false =>
      rw[if_neg (λq=>absurd (hiff.mpr q) Γk)] at hR
      have hri:=b9k A.in1 ⟨hp,g,d,tk,os⟩ a t c u prog w
      wp_walk using hri
      exact⟨_,rfl,by simpa using hR⟩
  case fin =>
   rintro⟨b1,b2⟩ s' ⟨hb',rfl,vs,ws,ns',ms',hz,hvi,hwi,hlen,hR⟩
   simp only at hb'
   subst hb'
   have hv:lexLt ns' ms'=decide (items.size<items2.size):=by
    cases hvi with
    | nil =>
     cases hwi with
     | nil =>
      simp only[List.length_nil] at hlen
      rw[a8i]
      exact (decide_eq_false (by lia)).symm
     | cons c u hw =>
      simp only[List.length_nil,List.length_cons] at hlen
      rw[a6u]
      exact (decide_eq_true (by lia)).symm
    | cons a t hv =>
     cases hwi with
     | nil =>
      simp only[List.length_nil,List.length_cons] at hlen
      rw[a6v]
      exact (decide_eq_false (by lia)).symm
     | cons c u hw =>
      rw[List.zip_cons_cons] at hz
      cases hz
   rw[hv] at hR
   wp_walk
   exact⟨_,rfl,by simpa[Builtin.Tuple.tupleCompareSizes] using hR⟩
  case h =>
   exact⟨rfl,rfl,items.toList,items2.toList,ns,ms,rfl,hi,hj,by lia,h⟩
end
section
variable {prog:Program}{w:World}{A:Around}{E:Value->Shared->Prop}{s:Shared}
theorem lt_tupInts {l b:Addr}{items items2:Array Value}{ns ms:List Int}{Q:Value->Shared->Prop}(hl:IsTup s.heap l items)(hb:IsTup s.heap b items2)(hi:IntsAre items.toList ns)(hj:IntsAre items2.toList ms)
  (hu:A.units<cLine)(h:Q (.bool (lexLt ns ms)) s):wpAny (model prog w) A (compareOp .Lt (.ref l) (.ref b)) Q E s:=by
 obtain⟨⟨cls,dd,data,sl⟩,ho,hc,n,hd⟩:=id hl
 obtain⟨⟨cls2,dd2,data2,sl2⟩,ho2,hc2,n2,hd2⟩:=id hb
 simp only at hc hd hc2 hd2
 subst hc hd hc2 hd2
 exact richCompare_meets_room (op:=.Lt) ⟨_,ho,rfl⟩ ⟨_,ho2,rfl⟩ PySem.F.slot_tuple_lt PySem.F.entry_tuple_lt (PySem.F.args_tuple_lt_2 _ _) (a7r l b items items2 n n2 dd dd2 sl sl2 ns ms hi hj)
  ⟨ho,ho2,show Value.bool (lexLt ns ms)≠Value.notImplemented/\Q (.bool (lexLt ns ms)) s from ⟨(λx=>nomatch x),h⟩⟩ hu
theorem cat_tup {t b:Addr}{vs ws:List Value}{Q:Value->Shared->Prop}(ht:IsTup s.heap t vs.toArray)(hb:IsTup s.heap b ws.toArray)(hv:vs≠[])
  (h1:ws=[]->Q (.ref t) s)(h2:ws≠[]->Q (.ref s.heap.objs.size) { s with heap:=s.heap.push { cls:=.type "tuple",data:=.seq (vs++ws).toArray } })
  (hsz:vs.length+ws.length<=sizeLine):wpAny (model prog w) A (binaryOp .Add (.ref t) (.ref b)) Q E s:=by
 obtain⟨⟨cls,dd,data,sl⟩,ho,hc,n,hd⟩:=id ht
 obtain⟨⟨cls2,dd2,data2,sl2⟩,ho2,hc2,n2,hd2⟩:=id hb
 simp only at hc hd hc2 hd2
 subst hc hd hc2 hd2
 have e:vs.toArray++ws.toArray=(vs++ws).toArray:=by simp
 by_cases hw:ws=[]
 ·exact concat_meets ⟨_,ho,rfl⟩ ⟨_,ho2,rfl⟩ noFill_tuple_add seq_tuple_add PySem.F.slot_tuple_add PySem.F.entry_tuple_add (PySem.F.args_tuple_add_2 _ _)
   (tuple_addW1 t b vs.toArray ws.toArray n n2 dd dd2 sl sl2 (by simpa using hv) (by simp[hw])) ⟨ho,ho2,h1 hw⟩
 ·refine concat_meets ⟨_,ho,rfl⟩ ⟨_,ho2,rfl⟩ noFill_tuple_add seq_tuple_add PySem.F.slot_tuple_add PySem.F.entry_tuple_add (PySem.F.args_tuple_add_2 _ _)
   (tuple_addW2 t b vs.toArray ws.toArray n n2 dd dd2 sl sl2 (by simpa using hv) (by simpa using hw) (by rw[List.size_toArray,List.size_toArray];exact hsz)) ⟨ho,ho2,?_⟩
  rw[e]
  exact h2 hw
def sIx (n d:Nat):Option Int->Nat
 | none=>d
 | some v=>if v<0 then (v+(n:Int)).toNat else min v.toNat n
end
end HT
namespace L2
open PySem PySem.Spec PyProof.Rows
abbrev TO:=St->Hp->(Option Int->Hp->Prop)->Prop
def PO (X:Cx)(e:Option Expr)(t:TO):Prop :=
 ∀ (pins:List (Addr×Obj))(s:Shared)(σ:St)(H:Hp)(Q:Option Int->Hp->Prop),Inv X pins σ H s->t σ H Q ->
  wpAny (model X.prog X.w) X.A (evalPart e X.env) (λu s'=>∃ o H',Inv X pins σ H' s'/\IsPart u o/\Q o H') X.xe s
def c2v:TO:=λ_ H Q=>Q none H
def d3g (t:TE):TO:=λσ H Q=>t σ H λx H1=>∃ i,x=.int i/\Q (some i) H1
theorem a7j {ns:List Int}:∀ {us:List Value},Vals (ns.map V.int) us->IntsAre us ns:=by
 induction ns with
 | nil=>intro us r;rw[List.map_nil] at r;cases r;exact .nil
 | cons n ns ih =>
  intro us r
  rw[List.map_cons] at r
  cases r with
  | cons r1 r2 =>
   obtain⟨t,e⟩:=r1
   subst e
   exact .cons n t (ih r2)
section
variable {X:Cx}{e:Expr}{te:TE}{lo hi:Option Expr}{tl th:TO}{pos p2:Pos}
theorem c3t:PO X none c2v:=by
 intro pins s σ H Q I h
 rw[evalPart_none]
 exact Γb ⟨none,H,I,.none,h⟩
theorem c3s (h:PE X e te):PO X (some e) (d3g te):=by
 intro pins s σ H Q I hw
 rw[evalPart_some]
 refine thn (h pins s σ H _ I hw) λu s1 ⟨x,H1,I1,r1,q1⟩=>?_
 obtain⟨i,rfl,q⟩:=q1
 obtain⟨t,rfl⟩:=r1
 exact⟨some i,H1,I1,.int i t,q⟩
def SlR (X:Cx)(r:V->Option Int->Option Int->Hp->VK->Prop):Prop :=
 ∀ (pins:List (Addr×Obj))(s:Shared)(σ:St)(H:Hp)(x:V)(v vl vu:Value)(lo hi:Option Int)(sl:Addr)(Q:VK),Inv X pins σ H s->RelV x v->s.heap.IsSliceOf sl vl vu .none->IsPart vl lo->IsPart vu hi->r x lo hi H Q ->
  ∃ T id,typeLookup (.type T) "__getitem__" = pure (some (.builtin id))/\s.TypeIs v T/\wpAny (model X.prog X.w) X.A (getItem v (.ref sl)) (EP X pins σ Q) X.xe s
def tSl (r:V->Option Int->Option Int->Hp->VK->Prop)(te:TE)(tl th:TO):TE:=λσ H Q=>te σ H λx H1=>tl σ H1 λl H2=>th σ H2 λu H3=>r x l u H3 Q
theorem b9u {r:V->Option Int->Option Int->Hp->VK->Prop}(hr:SlR X r)(he:PE X e te)(hl:PO X lo tl)(hu:PO X hi th):PE X (.Subscript e (.Slice lo hi none p2) pos) (tSl r te tl th):=by
 intro pins s σ H Q I h
 refine Subscript_ (thn (he pins s σ H _ I h) λv s1 ⟨x,H1,I1,r1,q1⟩=>?_)
 refine wpAny_Slice (thn (hl pins s1 σ H1 _ I1 q1) λvl s2 ⟨l,H2,I2,pl,q2⟩=>thn (hu pins s2 σ H2 _ I2 q2) λvu s3 ⟨u,H3,I3,pu,q3⟩=>?_)
 rw[evalPart_none]
 refine Γb ?_
 have I4:Inv X pins σ H3 { s3 with heap:=s3.heap.push { cls:=.type "slice",data:=.fields #[vl,vu,.none] } }:=I3.kept (t':=s3.toks) λb ob q=>Γc _ q
 obtain⟨T,id,hT,ht,hg⟩:=hr pins { s3 with heap:=s3.heap.push { cls:=.type "slice",data:=.fields #[vl,vu,.none] } } σ H3 x v vl vu l u s3.heap.objs.size Q I4 r1 (Heap.IsSliceOf.new ..) pl pu q3
 show wpAny (model X.prog X.w) X.A (subscriptTail e (.Slice lo hi none p2) v (.ref s3.heap.objs.size)) (EP X pins σ Q) X.xe { s3 with heap:=s3.heap.push { cls:=.type "slice",data:=.fields #[vl,vu,.none] } }
 exact tail_any (ops:=[.ref s3.heap.objs.size,v]) ht hT hg (by with_unfolding_all rfl)
def c6m (xs:List V)(lo hi:Option Int):List V:=(xs.drop (HT.sIx xs.length 0 lo)).take (HT.sIx xs.length xs.length hi-HT.sIx xs.length 0 lo)
theorem b1u (xs:List V)(lo hi:Option Int):(c6m xs lo hi).length<=xs.length:=by
 unfold c6m
 rw[List.length_take,List.length_drop]
 lia
def rLtT (K:Γd):R2:=λx y H Q=>∃ a b ns ms,x=.ref a/\y=.ref b/\SqT K H a (ns.map V.int)/\SqT K H b (ms.map V.int)/\Q (.bl (HT.lexLt ns ms)) H
theorem c8w (hu:X.A.units<cLine):OpR X (compareOp .Lt) (rLtT X.K):=by
 intro pins s σ H x y v u Q I rx ry h
 obtain⟨a,b,ns,ms,rfl,rfl,ha,hb,q⟩:=h
 cases rx
 cases ry
 obtain⟨its,r1,p1,_⟩:=I.tuple ha
 obtain⟨its2,r2,p2,_⟩:=I.tuple hb
 have i1:IntsAre its.toArray.toList ns:=a7j r1
 have i2:IntsAre its2.toArray.toList ms:=a7j r2
 exact HT.lt_tupInts p1 p2 i1 i2 hu ⟨.bl (HT.lexLt ns ms),H,I,rfl,q⟩
def d4i (K:Γd):R2:=λx y H Q=>∃ a b xs ys,x=.ref a/\y=.ref b/\SqT K H a xs/\SqT K H b ys/\xs≠[]/\xs.length+ys.length<=sizeLine /\
 (ys=[]->Q (.ref a) H)/\(ys≠[]->∀ p,H p=none->Q (.ref p) (upd H p (.tup (xs++ys))))
theorem Vals.nil_iff {xs:List V}{us:List Value}(r:Vals xs us):us=[]↔xs=[]:=by
 cases r with
 | nil=>simp
 | cons _ _=>simp
theorem c4e:OpR X (binaryOp .Add) (d4i X.K):=by
 intro pins s σ H x y v u Q I rx ry h
 obtain⟨a,b,xs,ys,rfl,rfl,ha,hb,hx,hz,q1,q2⟩:=h
 cases rx
 cases ry
 obtain⟨its,r1,p1,_⟩:=I.tuple ha
 obtain⟨its2,r2,p2,_⟩:=I.tuple hb
 refine HT.cat_tup p1 p2 (λz=>hx (r1.nil_iff.mp z)) (λz=>⟨.ref a,H,I,rfl,q1 (r2.nil_iff.mp z)⟩) (λz=>?_) (by rw[<- r1.length,<- r2.length];exact hz)
 refine⟨.ref s.heap.objs.size,_,I.laid (t':=s.toks) (o:=.tup (xs++ys)) (λb ob q=>Γc _ q) (Γi _) ?_,rfl,q2 (λw=>z (r2.nil_iff.mpr w)) _ (I.hok.fresh (Γi _))⟩
 exact⟨by rw[List.length_append];exact hz,_,r1.append r2,IsTup.new _ _⟩
end
end L2
namespace L2
open PySem PySem.Spec PyProof.Rows
def ixN (n:Nat) (i:Int):Option Nat:=if 0<=i then (if i<n then some i.toNat else none) else if -(n:Int)<=i then some (i+n).toNat else none
def atI {α:Type}(xs:List α) (i:Int):Option α:=(ixN xs.length i).bind λj=>xs[j]?
theorem b6u {n:Nat}{i:Int}{j:Nat}(h:ixN n i=some j):seqIndex? i n=some j/\j<n/\-(n:Int)<=i/\i<n:=by
 unfold ixN at h
 by_cases h0:0<=i
 ·rw[if_pos h0] at h
  by_cases h1:i<n
  ·rw[if_pos h1] at h
   have e:i.toNat=j:=Option.some.inj h
   exact⟨by rw[seqIndex_of h0 h1,e],by lia,by lia,h1⟩
  ·rw[if_neg h1] at h;cases h
 ·rw[if_neg h0] at h
  by_cases h1:-(n:Int)<=i
  ·rw[if_pos h1] at h
   have e:(i+n).toNat=j:=Option.some.inj h
   exact⟨by rw[seqIndex_neg (by lia) h1,e],by lia,h1,by lia⟩
  ·rw[if_neg h1] at h;cases h
theorem b8q {α:Type}{xs:List α}{i:Int}{v:α}(h:atI xs i=some v):∃ j,seqIndex? i xs.length=some j/\xs[j]?=some v/\j<xs.length/\-(xs.length:Int)<=i/\i<xs.length:=by
 unfold atI at h
 cases e:ixN xs.length i with
 | none=>rw[e] at h;cases h
 | some j =>
  rw[e] at h
  obtain⟨h1,h2,h3,h4⟩:=b6u e
  exact⟨j,h1,h,h2,h3,h4⟩
def b8u (b:Expr):Prop:=∀ o i,subscripted b false o i=operate [o,i] (getItem o i)
def IxR (X:Cx)(r:R2):Prop :=
 ∀ (value slice:Expr)(pins:List (Addr×Obj))(s:Shared)(σ:St)(H:Hp)(x y:V)(v u:Value)(Q:VK),Inv X pins σ H s->RelV x v->RelV y u->r x y H Q ->
  subscripted slice false v u=operate [v,u] (getItem v u)->wpAny (model X.prog X.w) X.A (subscriptTail value slice v u) (EP X pins σ Q) X.xe s
def MtR (X:Cx)(id:String)(r:V->List V->Hp->VK->Prop):Prop :=
 ∀ (pins:List (Addr×Obj))(s:Shared)(σ:St)(H:Hp)(x:V)(xs:List V)(v:Value)(us:List Value)(Q:VK),Inv X pins σ H s->RelV x v->Vals xs us->r x xs H Q ->
  wpAny (model X.prog X.w) X.A (call (.builtin id) (v :: us)) (EP X pins σ Q) X.xe s
section
variable {X:Cx}{a b:Expr}{ta tb:TE}{pos:Pos}
theorem c8l {r:R2}(hr:IxR X r)(ha:PE X a ta)(hb:PE X b tb)(hs:b8u b):PE X (.Subscript a b pos) (tOp r ta tb):=by
 intro pins s σ H Q I h
 exact Subscript_ (d8m ha hb I h λv u s2 x y H2 I2 rx ry q=>hr a b pins s2 σ H2 x y v u Q I2 rx ry q (hs _ _))
def rIxL (K:Γd):R2:=λx y H Q=>∃ p xs i v,x=.ref p/\y=.int i/\SqL K H p xs/\atI xs i=some v/\Q v H
def rIxT (K:Γd):R2:=λx y H Q=>∃ p xs i v,x=.ref p/\y=.int i/\SqT K H p xs/\atI xs i=some v/\Q v H
theorem c4t:IxR X (rIxL X.K):=by
 intro value slice pins s σ H x y v u Q I rx ry h hs
 obtain⟨p,xs,i,z,rfl,rfl,hq,he,q⟩:=h
 cases rx
 obtain⟨t,rfl⟩:=ry
 obtain⟨its,r,pl,hz⟩:=I.list hq
 obtain⟨j,h1,h2,h3,h4,h5⟩:=b8q he
 obtain⟨w,ew,rw'⟩:=r.get h2
 have hl:=r.length
 have hn:=a9m
 have fin:EP X pins σ Q w s:=⟨z,H,I,rw',q⟩
 by_cases h0:0<=i
 ·have hj:i.toNat=j:=by
   rw[seqIndex_of h0 h5] at h1
   exact Option.some.inj h1
  exact item_listR pl.isList h0 (by lia) (by rw[hj];simpa using ew) fin hs
 ·have hj:(i+(its.toArray.size:Int)).toNat=j:=by
   rw[seqIndex_neg (by lia) h4] at h1
   rw[List.size_toArray,<- hl]
   exact Option.some.inj h1
  exact subscriptTail_builtinR (x:=w) pl.isList.typeIs slot_list_getitem.lookup
   (wpAny_getItem_list_neg (Q:=λr s'=>r=w/\EP X pins σ Q r s') pl.isList (by lia) (by rw[List.size_toArray]<;>lia) (by lia) (by rw[hj];simpa using ew) ⟨rfl,fin⟩) hs
theorem c9u:IxR X (rIxT X.K):=by
 intro value slice pins s σ H x y v u Q I rx ry h hs
 obtain⟨p,xs,i,z,rfl,rfl,hq,he,q⟩:=h
 cases rx
 obtain⟨t,rfl⟩:=ry
 obtain⟨its,r,pl,hz⟩:=I.tuple hq
 obtain⟨j,h1,h2,h3,h4,h5⟩:=b8q he
 obtain⟨w,ew,rw'⟩:=r.get h2
 have hl:=r.length
 have hn:=a9m
 have fin:EP X pins σ Q w s:=⟨z,H,I,rw',q⟩
 exact subscriptTail_builtinR (x:=w) pl.typeIs slot_tuple_getitem.lookup
  (getItem_tuple (j:=j) (Q:=λr s'=>r=w/\EP X pins σ Q r s') pl (by lia) (by lia) (by rw[List.size_toArray,<- hl];exact h1) (by simpa using ew) ⟨rfl,fin⟩) hs
theorem b3x (its:List Value) (n j:Nat)(u:Value):Obj.mapSeq (·.setIfInBounds j u) { cls:=.type "list",data:=.seq its.toArray n } = { cls:=.type "list",data:=.seq (its.set j u).toArray n }:=by
 simp[Obj.mapSeq]
theorem Inv.lst {pins:List (Addr×Obj)}{σ:St}{H:Hp}{s:Shared}{p:Addr}{xs:List V}(I:Inv X pins σ H s)(h:H p=some (.lst xs)) :
  ∃ (its:List Value) (n:Nat),Vals xs its/\s.heap.get? p=some { cls:=.type "list",data:=.seq its.toArray n }/\xs.length<=sizeLine:=by
 obtain⟨z,its,n,r,e⟩:=I.hok p _ h
 exact⟨its,n,r,e,z⟩
theorem Inv.lstUpd {pins:List (Addr×Obj)}{σ:St}{H:Hp}{s:Shared}{p:Addr}{xs ys:List V}{its its':List Value}{n n':Nat}{f:Obj->Obj}(I:Inv X pins σ H s)(h:H p=some (.lst xs))
  (ho:s.heap.get? p=some { cls:=.type "list",data:=.seq its.toArray n })(hf:f { cls:=.type "list",data:=.seq its.toArray n } = { cls:=.type "list",data:=.seq its'.toArray n' })(r:Vals ys its')(hz:ys.length<=sizeLine) (t:Nat) :
  Inv X pins σ (upd H p (.lst ys)) { s with heap:=s.heap.update p f,toks:=t }:=by
 have e:(s.heap.update p f).get? p=some { cls:=.type "list",data:=.seq its'.toArray n' }:=by
  rw[Heap.get?_update_self f ho (by rw[hf]<;>rfl),hf]
 refine I.write (x:=p) (e:=p) (by rw[h];trivial) (.inl rfl) (λb u hb q=>(Γf _ _ (Ne.symm hb)).trans q) ⟨_,e⟩ ?_
 exact⟨hz,its',n',r,e⟩
def d4g:V->V->V->Hp->(Hp->Prop)->Prop:=λo i v H Q=>∃ p xs k j,o=.ref p/\i=.int k/\H p=some (.lst xs)/\ixN xs.length k=some j/\Q (upd H p (.lst (xs.set j v)))
theorem b9g:PSet X d4g:=by
 intro pins s σ H o i v ov iv u Q I ro ri rv h
 obtain⟨p,xs,k,j,rfl,rfl,hp,hj,q⟩:=h
 cases ro
 obtain⟨t,rfl⟩:=ri
 obtain⟨its,n,r,ho,hz⟩:=I.lst hp
 obtain⟨h1,h2,h3,h4⟩:=b6u hj
 have hl:=r.length
 have hn:=a9m
 have I':Inv X pins σ (upd H p (.lst (xs.set j v))) { s with heap:=s.heap.update p (Obj.mapSeq (·.setIfInBounds j u)) } :=
  I.lstUpd hp ho (b3x its n j u) (r.set rv j) (by rw[List.length_set];exact hz) s.toks
 by_cases h0:0<=k
 ·have hk:k.toNat=j:=by
   rw[seqIndex_of h0 h4] at h1
   exact Option.some.inj h1
  exact PySem.W.ki_setAt ho h0 (by lia) (by rw[List.size_toArray,<- hl];exact h4) (by rw[hk];exact⟨_,I',q⟩)
 ·have hk:(k+(its.toArray.size:Int)).toNat=j:=by
   rw[seqIndex_neg (by lia) h3] at h1
   rw[List.size_toArray,<- hl]
   exact Option.some.inj h1
  exact PySem.W.ki_setBack ho (by lia) (by rw[List.size_toArray,<- hl];exact h3) (by lia) (by rw[hk];exact⟨_,I',q⟩)
theorem a9b (lo hi:Option Int) (n:Nat):(sliceBounds lo hi none n).1=((HT.sIx n 0 lo:Nat):Int)/\(sliceBounds lo hi none n).2.1=((HT.sIx n n hi:Nat):Int)/\(sliceBounds lo hi none n).2.2=1:=by
 refine⟨?_,?_,rfl⟩
 ·cases lo with
  | none=>simp[sliceBounds,HT.sIx]
  | some i =>
   simp only[sliceBounds,HT.sIx,Option.getD_none,show (1:Int) > 0 by decide,if_true]
   by_cases h:i<0
   ·simp only[h,if_true]<;>lia
   ·simp only[h,if_false]<;>lia
 ·cases hi with
  | none=>simp[sliceBounds,HT.sIx]
  | some i =>
   simp only[sliceBounds,HT.sIx,Option.getD_none,show (1:Int) > 0 by decide,if_true]
   by_cases h:i<0
   ·simp only[h,if_true]<;>lia
   ·simp only[h,if_false]<;>lia
theorem a7w (its:List Value)(lo hi:Option Int):slicePick its.toArray lo hi none=((its.drop (HT.sIx its.length 0 lo)).take (HT.sIx its.length its.length hi-HT.sIx its.length 0 lo)).toArray:=by
 obtain⟨h1,h2,h3⟩:=a9b lo hi its.toArray.size
 unfold slicePick
 rw[h1,h2,h3]
 simp only[sliceRange_one,pick_run,List.size_toArray]<;>rfl
def rSlL (K:Γd):V->Option Int->Option Int->Hp->VK->Prop:=λx lo hi H Q=>∃ a xs,x=.ref a/\SqL K H a xs/\∀ p,H p=none->Q (.ref p) (upd H p (.lst (c6m xs lo hi)))
theorem c3a:SlR X (rSlL X.K):=by
 intro pins s σ H x v vl vu lo hi sl Q I rx hs pl pu h
 obtain⟨a,xs,rfl,hx,q⟩:=h
 cases rx
 obtain⟨its,r,ht,hz⟩:=I.list hx
 have hlen:=r.length
 refine⟨"list",_,slot_list_getitem.lookup,ht.isList.typeIs,?_⟩
 refine wpAny_getItem_list_slice ht.isList hs pl pu .none (by simp) ?_ (by rw[List.size_toArray]<;>lia)
 rw[a7w,<- hlen]
 refine⟨.ref s.heap.objs.size,_,I.laid (t':=s.toks) (o:=.lst (c6m xs lo hi)) (λb ob q=>Γc _ q) (Γi _) ?_,rfl,q _ (I.hok.fresh (Γi _))⟩
 exact⟨Nat.le_trans (b1u xs lo hi) hz,_,0,(r.drop (HT.sIx xs.length 0 lo)).take (HT.sIx xs.length xs.length hi-HT.sIx xs.length 0 lo),Γm _ rfl⟩
theorem b0m:a1j X (.builtin "len") (λxs H Q=>∃ p ys,xs=[.ref p]/\(SqL X.K H p ys ∨ SqT X.K H p ys)/\Q (.int ys.length) H):=by
 intro pins s σ H xs us Q I r h
 obtain⟨p,ys,rfl,hq,q⟩:=h
 obtain⟨u,rfl,rx⟩:=a3e r
 cases rx
 have hn:=a9m
 rcases hq with hq|hq
 ·obtain⟨its,r',pl,hz⟩:=I.list hq
  have hlen:=r'.length
  exact Calls.call_len_list pl.isList (by simp only[List.size_toArray]<;>lia) ⟨.int ys.length,H,I.tok _,⟨s.toks+1,by rw[List.size_toArray,hlen]⟩,q⟩
 ·obtain⟨its,r',pl,hz⟩:=I.tuple hq
  have hlen:=r'.length
  exact len_tuple pl (by simp only[List.size_toArray]<;>lia) ⟨.int ys.length,H,I.tok _,⟨s.toks+1,by rw[List.size_toArray,hlen]⟩,q⟩
theorem b0l:a1j X (.type "list") (λxs H Q=>∃ p ys,xs=[.ref p]/\(SqL X.K H p ys ∨ SqT X.K H p ys)/\∀ l,H l=none->Q (.ref l) (upd H l (.lst ys))):=by
 intro pins s σ H xs us Q I r h
 obtain⟨p,ys,rfl,hq,q⟩:=h
 obtain⟨u,rfl,rx⟩:=a3e r
 cases rx
 have fin:∀ (its:List Value),Vals ys its->ys.length<=sizeLine->∀ (h':Heap) (c':Nat),(∀ b o',s.heap.get? b=some o'->h'.get? b=some o') ->
   h'.get? s.heap.objs.size=some { cls:=.type "list",dict:=none,data:=.seq its.toArray c',slots:=#[] }->EP X pins σ Q (.ref s.heap.objs.size) { s with heap:=h' }:=λits r' hz h' c' kp e =>
  ⟨.ref s.heap.objs.size,_,I.laid (t':=s.toks) kp (Γi _) (show ObjOk X.prog X.w _ h' _ (.lst ys) from ⟨hz,its,c',r',e⟩),rfl,q _ (I.hok.fresh (Γi _))⟩
 rcases hq with hq|hq
 ·obtain⟨its,r',pl,hz⟩:=I.list hq
  have hlen:=r'.length
  obtain⟨o,ho,hc,n,hd⟩:=pl.isList
  exact call_list_seq p (.inl rfl) ho hc hd (λh' c' kp e=>fin its r' hz h' c' kp e) (by simp only[List.size_toArray]<;>lia)
 ·obtain⟨its,r',pl,hz⟩:=I.tuple hq
  have hlen:=r'.length
  obtain⟨o,ho,hc,n,hd⟩:=pl
  exact call_list_seq p (.inr rfl) ho hc hd (λh' c' kp e=>fin its r' hz h' c' kp e) (by simp only[List.size_toArray]<;>lia)
theorem a3b:a1j X (.type "tuple") (λxs H Q=>∃ p ys,xs=[.ref p]/\((SqL X.K H p ys/\∀ l,H l=none->Q (.ref l) (upd H l (.tup ys))) ∨ (SqT X.K H p ys/\Q (.ref p) H))):=by
 intro pins s σ H xs us Q I r h
 obtain⟨p,ys,rfl,h⟩:=h
 obtain⟨u,rfl,rx⟩:=a3e r
 cases rx
 rcases h with⟨hq,q⟩|⟨hq,q⟩
 ·obtain⟨its,r',pl,hz⟩:=I.list hq
  have hlen:=r'.length
  refine call_tuple_list pl.isList (λh' kp=>?_) (by simp only[List.size_toArray]<;>lia)
  have I1:Inv X pins σ H { s with heap:=h' }:=I.kept (t':=s.toks) kp
  have I2:Inv X pins σ (upd H h'.objs.size (.tup ys)) { s with heap:=h'.push { cls:=.type "tuple",data:=.seq its.toArray } } :=
   I1.laid (t':=s.toks) (λb o e=>Γc _ e) (Γi _) (show ObjOk X.prog X.w _ _ _ (.tup ys) from ⟨hz,its,r',IsTup.new _ _⟩)
  exact⟨.ref h'.objs.size,_,I2,rfl,q _ (I1.hok.fresh (Γi _))⟩
 ·obtain⟨its,r',pl,hz⟩:=I.tuple hq
  exact call_tuple_same pl ⟨.ref p,H,I,rfl,q⟩
def tyV (K:Γd)(T:String)(x:V)(H:Hp):Prop:=match x with
 | .str _=>T = "str"
 | .int _=>T = "int"
 | .ref p=>(T = "list"/\∃ xs,SqL K H p xs) ∨ (T = "tuple"/\∃ o,K.lookup p=some o/\o.cls=.type "tuple"/\o.dict=none) ∨
   (T = "dict"/\((∃ kvs,H p=some (.dK kvs)) ∨ ∃ kvs,H p=some (.dT kvs))) ∨ (T = "set"/\∃ S n,H p=some (.set S n))
 | _=>False
theorem c6r {pins:List (Addr×Obj)}{σ:St}{H:Hp}{s:Shared}{T:String}{x:V}{v:Value}(I:Inv X pins σ H s)(r:RelV x v)(ty:tyV X.K T x H) :
  s.TypeIs v T/\∀ a,v=.ref a->∃ ob,s.heap.get? a=some ob/\ob.dict=none:=by
 cases x with
 | str z =>
  obtain⟨t,rfl⟩:=r
  cases (show T = "str" from ty)
  exact⟨typeIs_str s z t,λ_ e=>nomatch e⟩
 | int i =>
  obtain⟨t,rfl⟩:=r
  cases (show T = "int" from ty)
  exact⟨typeIs_int s i t,λ_ e=>nomatch e⟩
 | ref p =>
  cases r
  rcases ty with⟨rfl,xs,hq⟩|⟨rfl,o,hk,hc,hd⟩|⟨rfl,hk⟩|⟨rfl,S,n,hk⟩
  ·obtain⟨its,_,pl,_⟩:=I.list hq
   refine⟨pl.isList.typeIs,λa e=>?_⟩
   cases e
   obtain⟨o,n,e,c,hd,_⟩:=pl
   exact⟨o,e,hd⟩
  ·refine⟨⟨o,I.kIn p o hk,hc⟩,λa e=>?_⟩
   cases e
   exact⟨o,I.kIn _ o hk,hd⟩
  ·have z:∃ o,s.heap.get? p=some o/\o.ExactDict:=by
    rcases hk with⟨kvs,hk⟩|⟨kvs,hk⟩
    ·obtain⟨_,_,_,_,o,_,_,e,ex,_⟩:=I.hok p _ hk
     exact⟨o,e,ex⟩
    ·obtain⟨_,_,_,_,o,_,_,e,ex,_⟩:=I.hok p _ hk
     exact⟨o,e,ex⟩
   obtain⟨o,e,ex⟩:=z
   refine⟨⟨o,e,ex.1⟩,λa e2=>?_⟩
   cases e2
   exact⟨o,e,ex.2.1⟩
  ·obtain⟨o,_,_,_,e,ex,_⟩:=I.hok p _ hk
   refine⟨⟨o,e,ex.1⟩,λa e2=>?_⟩
   cases e2
   exact⟨o,e,ex.2.1⟩
 | _=>exact False.elim ty
def tBM (K:Γd)(T:String)(r:V->List V->Hp->VK->Prop)(to:TE)(t:TA):TE:=λσ H Q=>to σ H λx H1=>tyV K T x H1/\t σ H1 λxs H2=>r x xs H2 Q
variable {o e:Expr}{es:List Expr}{to:TE}{t:TA}{name:Str}{apos cpos:Pos}{T id:String}{r:V->List V->Hp->VK->Prop}
theorem c8n (pa:PlainAttrs T)(slot:Slot T name id)(hty:typeOf (.builtin id)=pure (.type "method_descriptor"))(hm:MtR X id r)(ho:PE X o to)(ha:PA X (e :: es) t)
  (hbase:attributeBase o name X.env (eval o X.env)=eval o X.env:=by rfl)
  (hfew:((backTo cpos (starEach (e :: es) X.env)).all (λx=>!x.1) && (backToKw cpos (keywordEach [] X.env)).all (λx=>x.1.isSome)
   && decide ((e :: es).length+([]:List Keyword).length+(if ([]:List Keyword).isEmpty then 0 else 1)<30))=true:=by rfl)
  (hline:(apos.endLine == cpos.line)=true:=by rfl)(hs:starEach (e :: es) X.env=(false,eval e X.env) :: starEach es X.env:=by rfl)(hplain:(backTo cpos (starEach es X.env)).any (·.1)=false:=by rfl) :
  PE X (.Call (.Attribute o name apos) (e :: es) [] cpos) (tBM X.K T r to t):=by
 intro pins s σ H Q I h
 refine wpAny_Call_method_late hbase hfew hline rfl (thn (ho pins s σ H _ I h) λv s1 ⟨x,H1,I1,r1,ty,q1⟩=>?_)
 obtain⟨h1,h2⟩:=c6r I1 r1 ty
 refine⟨T,id,pa,slot,hty,h1,h2,?_⟩
 have hA:=ha cpos pins s1 σ H1 _ I1 q1
 rw[hs] at hA ⊢
 refine Calls.callWith_builtin (by show (false || (backTo cpos (starEach es X.env)).any (·.1))=false;rw[hplain]<;>rfl) (Calls.evalArgs_plain ?_)
 exact thn hA λus s2 ⟨vs,H2,I2,r2,q2⟩=>hm pins s2 σ H2 x vs v us Q I2 r1 r2 q2
/- xs.append(e),list.index on a module's tuple .. are MtR facts of 06m -/
end
end L2
namespace L2
open PySem PySem.Spec PyProof.Rows
def MtM (X:Cx)(id:String)(r:V->List V->Hp->VK->Prop):Prop :=
 ∀ (pins:List (Addr×Obj))(s:Shared)(σ:St)(H:Hp)(x:V)(xs:List V)(v:Value)(us:List Value)(Q:VK),Inv X pins σ H s->RelV x v->Vals xs us->r x xs H Q ->
  wpAny (model X.prog X.w) X.A (call (.builtin id) (v :: us)) (EP X pins σ Q) X.xe s
theorem Vals.one:∀ {x:V}{us:List Value},Vals [x] us->∃ u,us=[u]/\RelV x u
 | _,_,.cons r .nil=>⟨_,rfl,r⟩
theorem Vals.two:∀ {x y:V}{us:List Value},Vals [x,y] us->∃ u v,us=[u,v]/\RelV x u/\RelV y v
 | _,_,_,.cons r (.cons q .nil)=>⟨_,_,rfl,r,q⟩
theorem Vals.dropLast {xs:List V}{us:List Value}(h:Vals xs us):Vals xs.dropLast us.dropLast:=by
 induction h with
 | nil=>exact .nil
 | cons r t ih =>
  cases t with
  | nil=>exact .nil
  | cons q t'=>exact .cons r ih
theorem Vals.eraseIdx:∀ {xs:List V}{us:List Value} (i:Nat),Vals xs us->Vals (xs.eraseIdx i) (us.eraseIdx i)
 | _,_,_,.nil=>.nil
 | _,_,0,.cons _ t=>t
 | _,_,i+1,.cons r t=>.cons r (Vals.eraseIdx i t)
theorem Vals.reverse {xs:List V}{us:List Value}(h:Vals xs us):Vals xs.reverse us.reverse:=by
 induction h with
 | nil=>exact .nil
 | cons r t ih=>rw[List.reverse_cons,List.reverse_cons];exact Vals.append ih (.cons r .nil)
theorem Vals.rep {xs:List V}{us:List Value}(h:Vals xs us):∀ k:Nat,Vals (Γj k xs).flatten (Γj k us).flatten
 | 0=>.nil
 | k+1=>by
  rw[List.replicate_succ,List.replicate_succ,List.flatten_cons,List.flatten_cons]
  exact Vals.append h (Vals.rep h k)
theorem a9v (its:List Value):∀ (k:Nat)(acc:List Value),
  List.foldl (λx1 x2=>x1++x2) acc.toArray (Γj k its.toArray)=(acc++(Γj k its).flatten).toArray
 | 0,acc=>by simp
 | k+1,acc=>by
  have e:acc.toArray++its.toArray=(acc++its).toArray:=by simp
  have e2:(acc++its)++(Γj k its).flatten=acc++(Γj (k+1) its).flatten:=by
   rw[List.replicate_succ,List.flatten_cons,List.append_assoc]
  rw[<- e2,<- a9v its k (acc++its),<- e,List.replicate_succ,List.foldl_cons]
section
variable {X:Cx}{pins:List (Addr×Obj)}{σ:St}{H:Hp}{s:Shared}{l b:Addr}{xs ys zs:List V}
theorem Inv.lset {its its':List Value}{n:Nat}{f:Array Value->Array Value}{t':Nat}(I:Inv X pins σ H s)(hH:H l=some (.lst xs))
  (e:s.heap.get? l=some { cls:=.type "list",data:=.seq its.toArray n })(hf:f its.toArray=its'.toArray)(hv:Vals ys its')(hz:ys.length<=sizeLine) :
  Inv X pins σ (upd H l (.lst ys)) { s with heap:=s.heap.update l (Obj.mapSeq f),toks:=t' }:=by
 have q:=PySem.IsL.update e f
 rw[hf] at q
 refine I.write (x:=l) (e:=l) (by rw[hH];exact trivial) (.inl rfl) (λb' u hb hu=>(Γf s.heap (Obj.mapSeq f) (Ne.symm hb)).trans hu) ⟨_,q⟩ ?_
 exact⟨hz,its',_,hv,q⟩
theorem Inv.lnew {its:List Value}{t':Nat}(I:Inv X pins σ H s)(hv:Vals ys its)(hz:ys.length<=sizeLine) :
  Inv X pins σ (upd H s.heap.objs.size (.lst ys)) { s with heap:=s.heap.push { cls:=.type "list",data:=.seq its.toArray },toks:=t' } :=
 I.laid (λ_ _ q=>Γc _ q) (Γi _) ⟨hz,its,0,hv,Γm _ rfl⟩
theorem Inv.fresh (I:Inv X pins σ H s):H s.heap.objs.size=none:=I.hok.fresh (Γi _)
theorem Inv.lstM (I:Inv X pins σ H s)(hH:H l=some (.lst xs)):xs.length<=sizeLine/\∃ (its:List Value) (n:Nat),Vals xs its/\xs.length=its.length/\s.heap.get? l=some { cls:=.type "list",data:=.seq its.toArray n }:=by
 obtain⟨z,its,n,r,e⟩:=I.hok l _ hH
 exact⟨z,its,n,r,r.length,e⟩
theorem b2l {n:Nat}(h:n<=sizeLine):Builtin.List.listTooLong n=false:=by
 unfold Builtin.List.listTooLong
 exact decide_eq_false (by lia)
end
section
variable {X:Cx}
def c3j:V->List V->Hp->VK->Prop:=λx vs H Q=>∃ l xs y,x=.ref l/\vs=[y]/\H l=some (.lst xs)/\xs.length<sizeLine/\Q .non (upd H l (.lst (xs++[y])))
theorem a9k:MtM X "list.append" c3j:=by
 intro pins s σ H x vs v us Q I rx rv h
 obtain⟨l,xs,y,rfl,rfl,hH,hz,q⟩:=h
 cases rx
 obtain⟨u,rfl,ru⟩:=rv.one
 obtain⟨z,its,n,r,hl,e⟩:=I.lstM hH
 refine call_meets F.slot_list_append ⟨_,e,rfl⟩ F.entry_list_append (F.args_list_append_2 _ _) (PySem.list_append l its.toArray n u (by rw[List.size_toArray];lia)) ⟨e,?_⟩
 refine⟨.non,_,I.lset (its':=its++[u]) hH e (by simp) (r.append (.cons ru .nil)) ?_,rfl,q⟩
 rw[List.length_append,List.length_singleton]
 lia
def rCat:R2:=λx y H Q=>∃ l b xs zs,x=.ref l/\y=.ref b/\H l=some (.lst xs)/\H b=some (.lst zs)/\xs.length+zs.length<=sizeLine/\∀ p,H p=none->Q (.ref p) (upd H p (.lst (xs++zs)))
theorem c8x:OpR X (binaryOp .Add) rCat:=by
 intro pins s σ H x y v u Q I rx ry h
 obtain⟨l,b,xs,zs,rfl,rfl,hH,hB,hz,q⟩:=h
 cases rx
 cases ry
 obtain⟨z,its,n,r,hl,e⟩:=I.lstM hH
 obtain⟨z2,its2,n2,r2,hl2,e2⟩:=I.lstM hB
 refine PySem.P.add_list e e2 ?_ (by rw[List.size_toArray,List.size_toArray];lia)
 have ea:its.toArray++its2.toArray=(its++its2).toArray:=by simp
 rw[ea]
 exact⟨.ref _,_,I.lnew (t':=s.toks) (r.append r2) (by rw[List.length_append];lia),rfl,q _ I.fresh⟩
def rRep:R2:=λx y H Q=>∃ l k xs,x=.ref l/\y=.int k/\H l=some (.lst xs)/\-(2 ^ 63)<=k/\k<2 ^ 63/\xs.length*k.toNat<=sizeLine /\
 ∀ p,H p=none->Q (.ref p) (upd H p (.lst (Γj k.toNat xs).flatten))
theorem c4o {α:Type}(xs:List α) (k:Nat):(Γj k xs).flatten.length=k*xs.length:=by
 induction k with
 | zero=>simp
 | succ k ih=>rw[List.replicate_succ,List.flatten_cons,List.length_append,ih,Nat.succ_mul,Nat.add_comm]
theorem c8s:OpR X (binaryOp .Mult) rRep:=by
 intro pins s σ H x y v u Q I rx ry h
 obtain⟨l,k,xs,rfl,rfl,hH,h1,h2,hz,q⟩:=h
 cases rx
 obtain⟨t,rfl⟩:=ry
 obtain⟨z,its,n,r,hl,e⟩:=I.lstM hH
 have hlen:its.toArray.size*k.toNat<=sizeLine:=by rw[List.size_toArray,<- hl];exact hz
 have hcap:¬ its.toArray.size*k.toNat > (2 ^ 63-1) / 8:=by
  have:(sizeLine:Nat)<=(2 ^ 63-1) / 8:=by decide
  lia
 have hfit:¬ (!Builtin.List.listFitsIndex k)=true:=by
  rw[fitsIndex_both h1 h2]
  exact Γk
 have hlong:¬ Builtin.List.listTooLong (its.toArray.size*k.toNat)=true:=by
  rw[b2l hlen]
  exact Γk
 have hnew:List.foldl (λx1 x2=>x1++x2) #[] (Γj (if its.toArray.isEmpty=true then 0 else k.toNat) its.toArray)=(Γj k.toNat its).flatten.toArray:=by
  have f0:∀ m:Nat,List.foldl (λx1 x2=>x1++x2) #[] (Γj m its.toArray)=(Γj m its).flatten.toArray:=λm=>by
   have:=a9v its m []
   rw[List.nil_append] at this
   exact this
  rw[f0]
  cases its with
  | nil=>simp
  | cons a r'=>rw[if_neg (by simp)]
 refine wpAny_binaryOp_repeat_ref (T:="list") (U:="int") (by decide) ⟨_,e,rfl⟩ (λs'=>typeIs_int s' k t) noFill_list_mul F.fills_int_mul F.slot_int_rmul repeat_list F.slot_int_index.lookup
  (call_meets F.slot_int_rmul (typeIs_int s k t) F.entry_int_rmul (F.args_int_rmul_2 _ _) (int___rmul___int_list k t l its.toArray n)
   ⟨e,rfl,⟨_,e,rfl⟩,call_meets F.slot_list_mul ⟨_,e,rfl⟩ F.entry_list_mul (F.args_list_mul_2 _ _) (AutoListH.list___mul___list_int_3 l its.toArray n k t hfit hcap hlong) ⟨e,?_⟩⟩)
 rw[hnew]
 exact⟨.ref _,_,I.lnew (t':=s.toks) (r.rep k.toNat) (by rw[c4o,Nat.mul_comm];exact hz),rfl,q _ I.fresh⟩
end
section
variable {prog:Program}{w:World}{A:Around}{E:Value->Shared->Prop}{s:Shared}
set_option maxRecDepth 100000 in
end
section
variable {X:Cx}
end
end L2
namespace Att
open PySem PySem.W PySem.Calls PyProof.Rows
theorem a6d {P:Params}{h:Heap}:∀ (ns:List Int)(vs:List Value),WellAll P h vs (ns.map WData.int)->IntsAre vs ns:=by
 intro ns
 induction ns with
 | nil =>
  intro vs w
  rw[List.map_nil] at w
  cases w
  exact .nil
 | cons n ns ih =>
  intro vs w
  rw[List.map_cons] at w
  cases w with
  | cons a b =>
   cases a
   exact .cons _ _ (ih _ b)
theorem b5c {l:OpenLaw}{n:Nat}(hn:l.most=some n){P:Params}{h:Heap}{args:List WData}{vals:List Value}
  (hpre:l.row.toRowW.claim.pre args=true)(hwl:WellAll P h vals args) :
  ∃ a vs ns,vals=[Value.ref a]/\args=[WData.list (ns.map WData.int)]/\h.get? a=some { cls:=.type "list",data:=.seq vs.toArray }/\IntsAre vs ns/\ns.length<=n:=by
 have hsh:WShape.hasAll [] args [.list .int]=true:=(pre_splitW hpre).1
 have hc:l.pre.holds [] { args:=args } = true:=(pre_splitW hpre).2
 obtain⟨d,r,rfl,h1,h2⟩:=hasAllW_cons hsh
 obtain rfl:=hasAllW_nil h2
 obtain⟨xs,rfl,h3⟩:=hasW_list h1
 obtain⟨ns,rfl⟩:=items_int h3
 have hlen:ns.length<=n:=by
  unfold OpenLaw.pre at hc
  have h4:(WTm.not (.lt (.lit (.int (n:Int))) (.len (.arg 0)))).holds [] { args:=[.list (ns.map .int)] } = true:=by
   have h4:=(holds_andW hc).1
   rw[hn] at h4
   exact h4
  have h5:=condW_of h4 (w_not (w_lt w_lit (w_len_list (w_arg rfl))))
  rw[List.length_map] at h5
  refine Nat.le_of_not_lt λq=>?_
  have q':(n:Int)<((ns.length:Nat):Int):=by lia
  first
   | (rw[decide_eq_true q'] at h5;exact absurd h5 (by decide))
   | (simp at h5;lia)
 cases hwl with
 | cons w1 w2 =>
  cases w2
  cases w1 with
  | list ho hall=>exact⟨_,_,ns,rfl,rfl,ho,a6d ns _ hall,hlen⟩
theorem b5m (l:OpenLaw)(args:List WData):l.row.toRowW.claim.post args (.bool true) args=true :=
 postW_of (r:=l.row.toRowW) (X:=(true == true))
  (show WShape.has [] (.bool true) .bool=true by first|rfl|decide|simp[WShape.has,WShape.arms,WShape.armsAll])
  (show (WTm.eq .res (.lit (.bool true))).value [] { args:=args,res:=some (.bool true),after:=args } = some (.bool (true == true)) from w_eq_bool (w_res rfl) w_lit) rfl
theorem attach_call {l:OpenLaw}{n:Nat}{q:Program}{loose:List Str}{XP:(Str->Option Value)->Heap->Prop}{YP:World->Heap->Prop}{d:DefRec}
  (hn:l.most=some n)(hdf:d.params.defaults=[])
  (call:∀ (w:World)(s₀ s₁:Shared)(mg mb:Str->Option Value)(fa:Addr)(o:Obj)(pm cd doc:Value)(a:Addr)(vs:List Value)(ns:List Int),
   Ground q loose [] XP w s₀ mg mb s₁.heap->YP w s₁.heap ->
   s₁.heap.get? fa=some o->o.data=.func (docDef d.name d.params d.body d.scope pm cd doc)->s₁.heap.CodeRec cd d.name->mg d.name=some (.ref fa) ->
   s₁.heap.get? a=some { cls:=.type "list",data:=.seq vs.toArray }->IntsAre vs ns->ns.length<=n->s₁.gens = #[] ->
   codeAny (model l.prog w) callerA (.call (.ref fa) ⟨[.ref a],[]⟩) (λr s'=>r=.ok (.ret (.bool true))/\OldK s₁.heap s'.heap/\s'.os=s₁.os/\AllBare s'.gens) s₁) :
  WalkO q loose XP YP l.row.toRowW d [] (λf vs=>PySem.call f vs):=by
 intro w s₀ s₁ mg mb G Y fa o pm cd doc dV kV ho hd hcd hD hmg hg args vals as hpre hlay hrd hwl hlo
 obtain rfl:dV=.none:=Dflts.none hD hdf
 obtain rfl:kV=.none:=Dflts.noKw hD
 obtain⟨a,vs,ns,rfl,rfl,hobj,hints,hlen⟩:=b5c hn hpre hwl
 refine enter_call (codeAny_mono (call w s₀ s₁ mg mb fa o pm cd doc a vs ns G Y ho (fd_plain hd) hcd hmg hobj hints hlen hg) λr s' hq=>?_)
 obtain⟨rfl,h2,h3,h4⟩:=hq
 exact⟨.inl ⟨.bool true,.bool true,[],rfl,λ_=>rfl,.bool true,b5m l _,λ_=>⟨List.Pairwise.nil,λ_ hm=>(nomatch hm)⟩⟩,h2,h3,h4⟩
section
variable {prog:Program}{w:World}{A:Around}{E:Value->Shared->Prop}{s:Shared}{K:Frag}
theorem d8e {R:Result->Shared->Prop}{name qual:Str}{params:Arguments}{body:List Stmt}{scope:Scope}{dV kV doc pm cdv ct oc:Value}{an od:Option Addr}{osl:Array (Option Value)}{f:Addr}{args:Args}{binds:List (Str×Value)}
  (X:K.In s.heap)(hlim:s.heap.NoLimit)(ho:K.lookup f=some ⟨oc,od,.func (fnOf name qual params body scope dV kV doc pm an cdv ct),osl⟩)(hcd:codeIn K cdv qual=true)(hroom:A.depth<recursionLimit)
  (hbind:BindsTo s (fnOf name qual params body scope dV kV doc pm an cdv ct) args binds)
  (hkind:(binds.all λy=>scope.names.lookup y.1 == some .local || scope.names.lookup y.1 == some .cell)=true)
  (h:∀ s₁,InCallC s s.heap.objs.size (bindL (envOfC qual scope s.heap.objs.size f cdv).kindOf binds λ_=>none) (cellsFrom (s.heap.objs.size+1) scope.names [])
    (bindC (envOfC qual scope s.heap.objs.size f cdv).kindOf binds λ_=>none) s₁ ->
   wpAny (model prog w) (A.deeper (envOfC qual scope s.heap.objs.size f cdv)) (execs body (envOfC qual scope s.heap.objs.size f cdv))
    (λfl s'=>R (.ok (.ret (match fl with|.ret v=>v|_=>.none))) s')
    (λe s'=>wpAny (model prog w) (A.deeper (envOfC qual scope s.heap.objs.size f cdv)) (leaving (envOfC qual scope s.heap.objs.size f cdv) e) (λ_ s''=>R (.error e) s'') (λe' s''=>R (.error e') s'') s') s₁)
  (hco:scope.isCoroutine=false)(hgen:scope.isGenerator=false)(hk:scope.kind=.function):codeAny (model prog w) A (.call (.ref f) args) R s:=by
 refine codeAny_call_function hroom (X _ _ ho) rfl hco hgen rfl (codeRec_of X hcd) (hbind _ _ _ _ ?_)
 refine wpAny_newFunctionEnv_cells hk (kindsX hkind _) λenv he s₁ x=>?_
 subst he
 exact⟨hlim.keeps x.toInCall.keep,codeAny_func (h s₁ x)⟩
def ledger (h:Heap)(L d:Addr):List (Addr×Obj):=(List.range h.objs.size).filterMap λa=>if a=L ∨ a=d then none else (h.get? a).map λo=>(a,o)
end
end Att
namespace L2
open PySem PySem.Spec PyProof.Rows
theorem a8z:∀ {vs:List Value}{ns:List Int},IntsAre vs ns->Vals (ns.map V.int) vs
 | _,_,.nil=>.nil
 | _,_,.cons n t h=>.cons ⟨t,rfl⟩ (a8z h)
def d1j (H:Hp):Prop:=∀ b,H b=none ∨ ∃ o xs,H b=some (.frz o (.lst xs))
theorem b2s {P:Program}{w:World}{K:Γd}{mg mb:Str->Option Value}{CX:CXT}{k:Nat}{fa a:Addr}{fd:FuncData}{x:Str}{sp:Sp}{s₁:Shared}{vs:List Value}{ns:List Int}
  (KX:K.In s₁.heap)(hns:s₁.heap.Ns mainGlobals mg)(hb:s₁.heap.Ns builtinsNs mb)(hbb:∀ x:Str,x≠"__name__"->mb x=bootBuiltins x)(hlim:s₁.heap.NoLimit)(hg:s₁.gens = #[])
  (ha:s₁.heap.get? a=some { cls:=.type "list",data:=.seq vs.toArray })(hi:IntsAre vs ns)(hl:ns.length<=sizeLine)(hr:Room k callerA)
  (F:∀ base:Heap,K.In base->base.Ns mainGlobals mg->FnOk P w K mg base CX k fa fd [x] sp)(hbind:∀ (s:Shared)(u:Value),BindsTo s fd ⟨[u],[]⟩ [(x,u)])
  (hsp:∀ H:Hp,d1j H->SqL K H a (ns.map V.int)->sp [.ref a] H (λv _=>v=.bl true) λ_ _ _=>False)
  (hCX:∀ H e s',CX [] H s₁ (λ_ _ _=>False) e s'->False) :
  codeAny (model P w) callerA (.call (.ref fa) ⟨[.ref a],[]⟩) (λr s'=>r=.ok (.ret (.bool true))/\OldK s₁.heap s'.heap/\s'.os=s₁.os/\AllBare s'.gens) s₁:=by
 have rv:=a8z hi
 have lenV:=hi.length
 -- from an abstract heap in which nothing but the script may be tracked
 have core:∀ H:Hp,d1j H->SqL K H a (ns.map V.int)->HOk P w H s₁.heap->(∀ b,H b≠none->b=a)->(H a≠none->K.lookup a=none) ->
   codeAny (model P w) callerA (.call (.ref fa) ⟨[.ref a],[]⟩) (λr s'=>r=.ok (.ret (.bool true))/\OldK s₁.heap s'.heap/\s'.os=s₁.os/\AllBare s'.gens) s₁:=by
  intro H hO hS hok hA hK
  have base_of:∀ {b:Addr}{o:Obj},s₁.heap.get? b=some o->H b=none->(c0q s₁.heap H).get? b=some o:=λe n=>c0p e n
  have noA:∀ {b:Addr}{o:Obj}{es:Array DictEntry}{ep:Nat},s₁.heap.get? b=some o->o.data=.dict es ep->H b=none:=λ{b o es ep} e d=>by
   cases q:H b with
   | none=>rfl
   | some u =>
    have e':b=a:=hA b (by rw[q];simp)
    subst e'
    rw[ha] at e;cases e
    have d':Data.seq vs.toArray _=Data.dict es ep:=d
    cases d'
  have nsK:∀ {b:Addr}{m:Str->Option Value},s₁.heap.Ns b m->(c0q s₁.heap H).Ns b m:=λ{b m} ⟨o,es,ep,e,d,r⟩=>⟨o,es,ep,base_of e (noA e d),d,r⟩
  have hKb:K.In (c0q s₁.heap H):=λb o e=>base_of (KX b o e) (by
   cases q:H b with
   | none=>rfl
   | some u =>
    have e':b=a:=hA b (by rw[q];simp)
    subst e'
    rw[hK (by rw[q];simp)] at e;cases e)
  have hM:Mod K mg (c0q s₁.heap H):=⟨hKb,nsK hns,⟨mb,nsK hb,hbb⟩,let ⟨mc,h1,h2⟩:=hlim;⟨mc,nsK h1,h2⟩⟩
  have e0:Env0 P w K mg (c0q s₁.heap H) callerA [] s₁ H:=⟨rfl,hM,λb o e=>c4f e,Nat.le_of_eq (b7g _ _),trivial,λb hb=>absurd (show b∈([]:List Addr) from hb) (by simp),hok,.of_eq hg⟩
  refine codeAny_mono ((F _ hKb (nsK hns)).run callerA [] s₁ H ⟨[.ref a],[]⟩ [.ref a] [.ref a] _ _ hr e0 (hbind s₁ (.ref a)) (.cons rfl .nil) (hsp H hO hS)) λr s' h=>?_
  cases r with
  | error e=>exact (hCX H e s' h).elim
  | ok fl =>
   cases fl with
   | next=>exact False.elim h
   | brk=>exact False.elim h
   | cont=>exact False.elim h
   | ret u =>
    obtain⟨v,H',os,bare,un,hok',r',q⟩:=h
    have q':v=.bl true:=q
    subst q'
    obtain rfl:u=Value.bool true:=r'
    refine⟨rfl,OldK.of_keep λb o e=>?_,os,bare⟩
    cases q:H b with
    | none=>exact un.keep b o e q (by intro z;exact absurd (show b∈([]:List Addr) from z) (by simp)) (by simp)
    | some u =>
     rcases hO b with z|⟨ob,xs,z⟩
     ·rw[q] at z;cases z
     ·have z2:=un.frzs b ob _ z
      obtain⟨e1,_⟩:=hok b _ z
      obtain⟨e2,_⟩:=hok' b _ z2
      rw[e] at e1;cases e1
      exact e2
 cases hk:K.lookup a with
 | some o =>
  -- the script is one of the module's own objects
  have e:=KX a o hk
  rw[ha] at e
  cases e
  refine core (λ_=>none) (λ_=>.inl rfl) (.inr ⟨_,vs.toArray,_,hk,rfl,rfl,rfl,by rw[List.size_toArray,lenV];exact hl,by simpa using rv⟩) (λb u z=>by have z':(none:Option HO)=some u:=z;cases z') (λb z=>absurd rfl z) λz=>absurd rfl z
 | none =>
  refine core (λb=>if b=a then some (.frz { cls:=.type "list",data:=.seq vs.toArray } (.lst (ns.map V.int))) else none) (λb=>?_) (.inl (.inr ⟨{ cls:=.type "list",data:=.seq vs.toArray },if_pos rfl⟩)) (λb u z=>?_) (λb z=>?_) λ_=>hk
  ·by_cases hb:b=a
   ·exact .inr ⟨_,_,if_pos hb⟩
   ·exact .inl (if_neg hb)
  ·by_cases hb:b=a
   ·have z':=(if_pos hb).symm.trans z
    cases z'
    subst hb
    exact⟨ha,by rw[List.length_map];exact hl,vs,_,rv,ha⟩
   ·have z':=(if_neg hb).symm.trans z
    cases z'
  ·by_cases hb:b=a
   ·exact hb
   ·exact absurd (if_neg hb) z
end L2
namespace L2
open PySem PySem.Spec PyProof.Rows
abbrev KOf {K:Γd}{h:Heap}(_:K.In h):Γd:=K
theorem walk_of {l:PySem.W.OpenLaw}{n k:Nat}{q:Program}{loose:List Str}{XP:(Str->Option Value)->Heap->Prop}{YP:World->Heap->Prop}{d:DefRec}{K:Params->Γd}{CX:World->CXT}{sp:World->Sp}{x:Str}
  (hn:l.most=some n)(hn2:n<=sizeLine)(hdf:d.params.defaults=[])(hr:Room k callerA)
  (hY:∀ (w:World)(h:Heap),YP w h->(K w.params).In h)
  (F:∀ (w:World)(mg:Str->Option Value)(fa:Addr)(h:Heap),(K w.params).In h->h.Ns mainGlobals mg->mg d.name=some (.ref fa) ->
   ∃ fd:FuncData,(∀ (s:Shared)(u:Value),BindsTo s fd ⟨[u],[]⟩ [(x,u)]) /\
    ∀ base:Heap,(K w.params).In base->base.Ns mainGlobals mg->FnOk l.prog w (K w.params) mg base (CX w) k fa fd [x] (sp w))
  (hsp:∀ (w:World)(H:Hp)(a:Addr)(ns:List Int),ns.length<=n->d1j H->SqL (K w.params) H a (ns.map V.int)->sp w [.ref a] H (λv _=>v=.bl true) λ_ _ _=>False)
  (hCX:∀ (w:World)(H:Hp)(s:Shared)(e:Value)(s':Shared),CX w [] H s (λ_ _ _=>False) e s'->False) :
  PySem.W.WalkO q loose XP YP l.row.toRowW d [] (λf vs=>PySem.call f vs):=by
 refine Att.attach_call hn hdf λw s₀ s₁ mg mb fa o pm cd doc a vs ns G Y ho hd hcd hmg hobj hints hlen hg=>?_
 have KX:=hY w _ Y
 obtain⟨fd,hb,hF⟩:=F w mg fa _ KX G.T.g hmg
 exact b2s KX G.T.g G.T.b G.T.builtins G.T.nolimit hg hobj hints (Nat.le_trans hlen hn2) hr hF hb (λH hO hS=>hsp w H a ns hlen hO hS) λH e s'=>hCX w H s₁ e s'
end L2
/- THE LAST THEOREM (shape; LID, My.* are yours):
   My.Adr: a structure of the addresses that your layer names (classes,functions);My.Txt K t: a structure (Prop) of the equations over K;
   My.txt_mk:{K} {implicit addresses ..} (e1:nsIn K mainGlobals "law" = some (some (.ref f))) (e2:K.lookup f=some ⟨oc,od,.func (fnOf "law" "law" params body scope dV kV doc pm an cdv ct),sl⟩) (e3:codeIn K cdv "law" = true) ..:∃ t,My.Txt K t
set_option maxRecDepth 100000 in
set_option maxHeartbeats 0 in
theorem PySem.Challenge.cw_LID_holds:PySem.Challenge.rw_LID.Holds:=by
 w_on;o_law;k_head;(case hw=>w_witness2)
 k_fill
 refine L2.walk_of (l:=PySem.Challenge.rw_LID) (n:=63) (k:=40) (x:="script") (CX:=λw=>..) (sp:=λ_=>My.sp_law) rfl (by decide) rfl ⟨rfl,by decide,by decide⟩ (λw h Y=>PySem.W.kIn_of Y) ?F ?S ?C
 case F =>
  intro w mg fa h KX G hmg
  have T:∃ t,My.Txt (L2.KOf KX) t:=by
   dsimp only[L2.KOf]                          -- K must stand as «<heap const> w.params» for k_is
   refine' My.txt_mk ?e1 ?e2 ?e3 ..
   (case e1=>PySem.W.k_is)                    -- in the order: a name->its address->its object->its parts
   (case e2=>PySem.W.k_is)
   ..
  obtain⟨t,T⟩:=T
  have e0:=hmg.symm.trans (PySem.W.mg_of KX G T.law)
  cases e0                                       -- fa is the law's own address
  exact⟨_,λs u=>.of_eq rfl,λbase kb nb=>My.law_fn T kb nb⟩     -- if «.of_eq rfl» comes too early: refine' ⟨_,?b,λbase kb nb=>My.law_fn T kb nb⟩;exact λs u=>.of_eq rfl
 case S=>exact λw H a ns hl hO hS=>..
 case C=>exact ..
(the tactic k_is has no namespace: write k_is) -/
namespace L2
open PySem PySem.Spec PyProof.Rows
def a5e (s:Stmt):Arguments:=match s with
 | .FunctionDef _ a _ _ _ _ _ _ _ _=>a
 | _=>{ posonlyargs:=[],args:=[],vararg:=none,kwonlyargs:=[],kw_defaults:=[],kwarg:=none,defaults:=[] }
def a2n (s:Stmt):List Stmt:=match s with
 | .FunctionDef _ _ b _ _ _ _ _ _ _=>b
 | _=>[]
def a0l (s:Stmt):Scope:=match s with
 | .FunctionDef _ _ _ _ _ _ sc _ _ _=>sc
 | _=>{ kind:=.function,names:=[],isGenerator:=false,isCoroutine:=false }
abbrev CX0:CXT:=λ_ _ _ _ _ _=>False
abbrev E0:XK:=λ_ _ _=>False
theorem d4u {X:Cx}:b8v CX0 X E0:=λ_ _ _ _ _ _ _ h=>h.elim
structure Fun (K:Γd)(x qual:Str)(st:Stmt)(f:Addr)(fd:FuncData):Prop where
 ex:∃ (oc:Value)(od:Option Addr)(kV doc pm:Value)(an:Option Addr)(cdv ct:Value)(osl:Array (Option Value)),
  fd=PySem.W.fnOf x qual (a5e st) (a2n st) (a0l st) .none kV doc pm an cdv ct/\K.lookup f=some ⟨oc,od,.func fd,osl⟩/\PySem.W.codeIn K cdv qual=true
 kp:PySem.W.keepIn K (.ref f)=true
section
variable {P:Program}{w:World}{K:Γd}{mg:Str->Option Value}{base:Heap}
theorem Fun.ok {x qual:Str}{st:Stmt}{f:Addr}{fd:FuncData}{N ps:List Str}{k:Nat}{sp:Sp}(F:Fun K x qual st f fd)(S:FnScope N ps (a0l st))(len:∀ vs H Q E,sp vs H Q E->vs.length=ps.length)
  (hbody:∀ (cdv:Value)(A:Around)(outer:List Env)(s:Shared)(H:Hp)(vs:List V)(Q:VK)(E:XK),Room k (A.deeper (envOfC qual (a0l st) s.heap.objs.size f cdv))->sp vs H Q E ->
   ∃ t,PSs (c5v CX0 P w K mg base N qual (a0l st) f cdv A outer s H E).nox (a2n st) t/\t { nx:=λ_ H'=>Q .non H',rt:=Q } (start N vs) H):FnOk P w K mg base CX0 (k+1) f fd ps sp:=by
 obtain⟨oc,od,kV,doc,pm,an,cdv,ct,osl,rfl,lk,hcd⟩:=F.ex
 refine d6i lk hcd S len λA outer s H vs Q E hr hsp=>?_
 obtain⟨t,h,q⟩:=hbody cdv A outer s H vs Q E hr hsp
 exact⟨t,h.nox,q⟩
theorem Fun.binds {x qual:Str}{st:Stmt}{f:Addr}{fd:FuncData}{ps:List Str}(F:Fun K x qual st f fd)
  (h:∀ (kV doc pm:Value)(an:Option Addr)(cdv ct:Value)(us:List Value),us.length=ps.length->bindArgs (PySem.W.fnOf x qual (a5e st) (a2n st) (a0l st) .none kV doc pm an cdv ct) ⟨us,[]⟩=pure (ps.zip us)):Binds K fd ps []:=by
 obtain⟨oc,od,kV,doc,pm,an,cdv,ct,osl,rfl,lk,hcd⟩:=F.ex
 exact .all (h kV doc pm an cdv ct)
theorem d0e {x qual:Str}{st:Stmt}{f:Addr}{oc:Value}{od an:Option Addr}{osl:Array (Option Value)}{kV doc pm cdv ct:Value}(l:K.lookup f=some ⟨oc,od,.func (PySem.W.fnOf x qual (a5e st) (a2n st) (a0l st) .none kV doc pm an cdv ct),osl⟩)
  (c:PySem.W.codeIn K cdv qual=true)(k:PySem.W.keepIn K (.ref f)=true):Fun K x qual st f (PySem.W.fnOf x qual (a5e st) (a2n st) (a0l st) .none kV doc pm an cdv ct):=⟨⟨oc,od,kV,doc,pm,an,cdv,ct,osl,rfl,l,c⟩,k⟩
end
section
variable {X:Cx}
end
theorem ite2 {c A B:Prop} [Decidable c] (h1:c->A)(h2:¬ c->B):if c then A else B:=by
 by_cases h:c
 ·rw[if_pos h]
  exact h1 h
 ·rw[if_neg h]
  exact h2 h
def Same (H H':Hp):Prop:=∀ b o,H b=some o->H' b=some o
theorem Same.refl (H:Hp):Same H H:=λ_ _ h=>h
theorem Same.trans {H H1 H2:Hp}(a:Same H H1)(b:Same H1 H2):Same H H2:=λc o h=>b c o (a c o h)
theorem Same.free {H H':Hp}(e:Same H H'){l:Addr}(h:H' l=Option.none):H l=Option.none:=by
 cases q:H l with
 | none=>rfl
 | some o =>
  rw[e l o q] at h
  cases h
theorem Same.seq {K:Γd}{H H':Hp}{a:Addr}{xs:List V}(e:Same H H')(h:SqL K H a xs):SqL K H' a xs:=by
 rcases h with (h|⟨o,h⟩)|h
 ·exact .inl (.inl (e _ _ h))
 ·exact .inl (.inr ⟨o,e _ _ h⟩)
 ·exact .inr h
end L2
end
section
namespace L2
open PySem PySem.Spec PyProof.Rows
section
variable {κ:Type} [DecidableEq κ]
def a8u (kvs:List (κ×V))(k:κ):Option V:=(kvs.find? λkv=>decide (kv.1=k)).map (·.2)
def a3z (kvs:List (κ×V))(k:κ)(v:V):List (κ×V) :=
 if (kvs.any λkv=>decide (kv.1=k))=true then kvs.map (λkv=>if kv.1=k then (kv.1,v) else kv) else kvs++[(k,v)]
def d0r (kvs:List (κ×V))(k:κ):List (κ×V):=kvs.filter λkv=>decide (kv.1≠k)
theorem a3n {p:κ×V}{r:List (κ×V)}{k:κ}(e:p.1=k):a8u (p :: r) k=some p.2:=by simp[a8u,List.find?_cons,e]
theorem a3o {p:κ×V}{r:List (κ×V)}{k:κ}(e:¬ p.1=k):a8u (p :: r) k=a8u r k:=by simp[a8u,List.find?_cons,e]
theorem a4h (k:κ):∀ kvs:List (κ×V),(kvs.any λkv=>decide (kv.1=k))=(a8u kvs k).isSome
 | []=>rfl
 | p :: r=>by
  rw[List.any_cons]
  by_cases e:p.1=k
  ·simp only[a3n e,decide_eq_true e,Bool.true_or,Option.isSome_some]
  ·rw[a3o e,decide_eq_false e,Bool.false_or];exact a4h k r
theorem a2k (kvs:List (κ×V))(k:κ)(v:V):(a3z kvs k v).length<=kvs.length+1:=by
 unfold a3z
 split
 ·rw[List.length_map];lia
 ·rw[List.length_append,List.length_cons,List.length_nil];lia
theorem RelO.isSome_eq {o:Option V}{u:Option Value}(r:RelO o u):o.isSome=u.isSome:=by
 cases o with
 | none=>cases u with
  | none=>rfl
  | some _=>exact (show False from r).elim
 | some _=>cases u with
  | none=>exact (show False from r).elim
  | some _=>rfl
theorem RelO.getD {o:Option V}{u:Option Value}{d:V}{d':Value}(r:RelO o u)(rd:RelV d d'):RelV (o.getD d) (u.getD d'):=by
 cases o with
 | none=>cases u with
  | none=>exact rd
  | some _=>exact (show False from r).elim
 | some _=>cases u with
  | none=>exact (show False from r).elim
  | some _=>exact r
theorem KV.val {kvs:List (κ×V)}{vs:List (κ×Value)}(r:KV kvs vs)(k:κ):RelO (a8u kvs k) (valueAt vs k):=by
 unfold KV at r
 induction r with
 | nil=>exact True.intro
 | @cons p q ps qs h t ih =>
  obtain⟨h1,h2⟩:=h
  by_cases e:p.1=k
  ·have e':q.1=k:=h1.symm.trans e
   have b:valueAt (q :: qs) k=some q.2:=by simp[valueAt,List.find?_cons,e']
   rw[a3n e,b];exact h2
  ·have e':¬ q.1=k:=λz=>e (h1.trans z)
   have b:valueAt (q :: qs) k=valueAt qs k:=by simp[valueAt,List.find?_cons,e']
   rw[a3o e,b];exact ih
theorem KV.any {kvs:List (κ×V)}{vs:List (κ×Value)}(r:KV kvs vs)(k:κ):(kvs.any λkv=>decide (kv.1=k))=vs.any λkv=>decide (kv.1=k):=by
 unfold KV at r
 induction r with
 | nil=>rfl
 | cons h t ih=>rw[List.any_cons,List.any_cons,ih,h.1]
theorem KV.repl {kvs:List (κ×V)}{vs:List (κ×Value)}(r:KV kvs vs)(k:κ){y:V}{u:Value}(ry:RelV y u) :
  KV (kvs.map λkv=>if kv.1=k then (kv.1,y) else kv) (vs.map λkv=>if kv.1=k then (kv.1,u) else kv):=by
 unfold KV at r ⊢
 induction r with
 | nil=>exact .nil
 | @cons p q ps qs h t ih =>
  rw[List.map_cons,List.map_cons]
  refine .cons ?_ ih
  obtain⟨h1,h2⟩:=h
  by_cases e:p.1=k
  ·rw[if_pos e,if_pos (h1.symm.trans e)];exact⟨h1,ry⟩
  ·rw[if_neg e,if_neg (λz=>e (h1.trans z))];exact⟨h1,h2⟩
theorem KV.put {kvs:List (κ×V)}{vs:List (κ×Value)}(r:KV kvs vs)(k:κ){y:V}{u:Value}(ry:RelV y u):KV (a3z kvs k y) (stored vs k u):=by
 unfold a3z stored
 rw[r.any k]
 by_cases e:(vs.any λkv=>decide (kv.1=k))=true
 ·rw[if_pos e,if_pos e];exact r.repl k ry
 ·rw[if_neg e,if_neg e];exact Paired.snoc r ⟨rfl,ry⟩
theorem KV.drop {kvs:List (κ×V)}{vs:List (κ×Value)}(r:KV kvs vs)(k:κ):KV (d0r kvs k) (without vs k):=by
 unfold KV at r ⊢
 unfold d0r without
 induction r with
 | nil=>exact .nil
 | @cons p q ps qs h t ih =>
  obtain⟨h1,h2⟩:=h
  rw[List.filter_cons,List.filter_cons]
  by_cases e:p.1=k
  ·have a:¬ decide (p.1≠k)=true:=by simp[e]
   have b:¬ decide (q.1≠k)=true:=by simp[h1.symm.trans e]
   rw[if_neg a,if_neg b];exact ih
  ·have e':¬ q.1=k:=λz=>e (h1.trans z)
   have a:decide (p.1≠k)=true:=by simp[e]
   have b:decide (q.1≠k)=true:=by simp[e']
   rw[if_pos a,if_pos b];exact .cons ⟨h1,h2⟩ ih
theorem KV.length {kvs:List (κ×V)}{vs:List (κ×Value)}(r:KV kvs vs):kvs.length=vs.length:=Paired.length r
end
theorem b6s {P:Program}{w:World}{k:Key}{u:Value}(r:RelV (kV k) u):(a0k P w).is k u=true:=by
 rcases k with i|x|x
 ·obtain⟨t,e⟩:=(show ∃ t,u=Value.int i t from r);subst e;exact b1i P w i t
 ·cases (show u=Value.none from r);exact a9l P w
 ·obtain⟨t,e⟩:=(show ∃ t,u=Value.str x t from r);subst e;exact b1h P w x t
theorem a9t {P:Program}{w:World}:∀ {ks:List Key}{us:List Value},Vals (ks.map kV) us->ItemsAre (a0k P w) ks us
 | [],_,r=>by rw[List.map_nil] at r;cases r;exact .nil
 | k :: ks,_,r=>by
  rw[List.map_cons] at r
  cases r with
  | cons h t=>exact .cons (b6s h) (a9t t)
abbrev KT (H:Hp):List (List Key×V)->List (List Key×Addr×Value)->Prop:=Paired λp q=>p.1=q.1/\H q.2.1=some (.tup (p.1.map kV))/\RelV p.2 q.2.2
theorem KT.val {H:Hp}{kvs:List (List Key×V)}{xs:List (List Key×Addr×Value)}(r:KT H kvs xs)(k:List Key):RelO (a8u kvs k) ((atKey xs k).map (·.2)):=by
 induction r with
 | nil=>exact True.intro
 | @cons p q ps qs h t ih =>
  obtain⟨h1,_,h2⟩:=h
  by_cases e:p.1=k
  ·have e':q.1=k:=h1.symm.trans e
   have b:atKey (q :: qs) k=some q.2:=by simp[atKey,List.find?_cons,e']
   rw[a3n e,b];exact h2
  ·have e':¬ q.1=k:=λz=>e (h1.trans z)
   have b:atKey (q :: qs) k=atKey qs k:=by simp[atKey,List.find?_cons,e']
   rw[a3o e,b];exact ih
theorem KT.repl {H:Hp}{kvs:List (List Key×V)}{xs:List (List Key×Addr×Value)}(r:KT H kvs xs)(k:List Key){y:V}{u:Value}(ry:RelV y u) :
  KT H (kvs.map λkv=>if kv.1=k then (kv.1,y) else kv) (xs.map (putAt k u)):=by
 induction r with
 | nil=>exact .nil
 | @cons p q ps qs h t ih =>
  rw[List.map_cons,List.map_cons]
  refine .cons ?_ ih
  obtain⟨h1,h2,h3⟩:=h
  unfold putAt
  by_cases e:p.1=k
  ·rw[if_pos e,if_pos (h1.symm.trans e)];exact⟨h1,h2,ry⟩
  ·rw[if_neg e,if_neg (λz=>e (h1.trans z))];exact⟨h1,h2,h3⟩
theorem KT.put {H:Hp}{kvs:List (List Key×V)}{xs:List (List Key×Addr×Value)}(r:KT H kvs xs)(k:List Key){b:Addr}{y:V}{u:Value}(hb:H b=some (.tup (k.map kV)))(ry:RelV y u) :
  KT H (a3z kvs k y) (storedH xs k b u):=by
 have e:(kvs.any λkv=>decide (kv.1=k))=(atKey xs k).isSome:=by
  rw[a4h,(r.val k).isSome_eq,Option.isSome_map]
 unfold a3z storedH
 rw[e]
 by_cases q:(atKey xs k).isSome=true
 ·rw[if_pos q,if_pos q];exact r.repl k ry
 ·rw[if_neg q,if_neg q];exact Paired.snoc r ⟨rfl,hb,ry⟩
theorem KT.keeps {H H':Hp}{kvs:List (List Key×V)}{xs:List (List Key×Addr×Value)}(r:KT H kvs xs)(ht:∀ b ys,H b=some (.tup ys)->H' b=some (.tup ys)):KT H' kvs xs :=
 Paired.mapP r λ_ _ z=>⟨z.1,ht _ _ z.2.1,z.2.2⟩
section
variable {P:Program}{w:World}{H:Hp}{h:Heap}{a:Addr}
theorem c7k {u:HO}(ok:HOk P w H h)(e:Rd H a u):ObjOk P w H h a u:=e.ok ok
theorem b4i {kvs:List (Key×V)}(ok:HOk P w H h)(e:Rd H a (.dK kvs)):kvs.length<=sizeLine/\(a == sysModules)=false/\∃ vs,KV kvs vs/\h.DictOf (a0k P w) a vs :=
 show ObjOk P w H h a (.dK kvs) from c7k ok e
theorem d8b {kvs:List (Key×V)}(ok:HOk P w H h)(e:H a=some (.dK kvs)):kvs.length<=sizeLine/\(a == sysModules)=false/\∃ vs,KV kvs vs/\h.DictOf (a0k P w) a vs:=b4i ok (.inl e)
theorem a6b {ks:List Key}(ok:HOk P w H h)(e:H a=some (.tup (ks.map kV))):(tupleKind (a0k P w)).is h ks a:=by
 obtain⟨_,its,r,o,h1,h2,n,h3⟩:=(show ObjOk P w H h a (.tup (ks.map kV)) from ok a _ e)
 exact⟨o,its.toArray,n,h1,h2,h3,by simpa using a9t r⟩
theorem b7u {kvs:List (List Key×V)}(ok:HOk P w H h)(e:Rd H a (.dT kvs)):kvs.length<=sizeLine/\(a == sysModules)=false /\
  ∃ xs,KT H kvs xs/\h.DictOfH (tupleKind (a0k P w)) a xs:=by
 obtain⟨z,y,xs,r,o,es,ep,h1,h2,h3,h4,h5⟩:=(show ObjOk P w H h a (.dT kvs) from c7k ok e)
 refine⟨z,y,xs,r,o,es,ep,h1,h2,h3,h4,λx hx=>?_,h5⟩
 have all:∀ {l:List (List Key×V)}{m:List (List Key×Addr×Value)},KT H l m->∀ x∈m,(tupleKind (a0k P w)).is h x.1 x.2.1:=by
  intro l m q
  induction q with
  | nil=>intro x hx;exact nomatch hx
  | @cons p q ps qs hq t ih =>
   intro x hx
   rcases List.mem_cons.mp hx with e|hx
   ·subst e
    exact a6b ok (by rw[<- hq.1];exact hq.2.1)
   ·exact ih x hx
 exact all r x hx
theorem d0q {kvs:List (List Key×V)}(ok:HOk P w H h)(e:H a=some (.dT kvs)):kvs.length<=sizeLine/\(a == sysModules)=false /\
  ∃ xs,KT H kvs xs/\h.DictOfH (tupleKind (a0k P w)) a xs:=b7u ok (.inl e)
end
def DGet (H:Hp)(a:Addr)(y:V)(r:Option V):Prop :=
 (∃ kvs k,Rd H a (.dK kvs)/\y=kV k/\r=a8u kvs k) ∨ ∃ kvs k b,Rd H a (.dT kvs)/\y=.ref b/\H b=some (.tup (k.map kV))/\r=a8u kvs k
def DPut (H:Hp)(a:Addr)(y v:V)(H':Hp):Prop :=
 (∃ kvs k,H a=some (.dK kvs)/\y=kV k/\kvs.length<sizeLine/\H'=upd H a (.dK (a3z kvs k v))) ∨
 ∃ kvs k b,H a=some (.dT kvs)/\y=.ref b/\H b=some (.tup (k.map kV))/\kvs.length<sizeLine/\H'=upd H a (.dT (a3z kvs k v))
theorem DGet.k {H:Hp}{a:Addr}{kvs:List (Key×V)}{k:Key}(e:H a=some (.dK kvs)):DGet H a (kV k) (a8u kvs k):=.inl ⟨kvs,k,.inl e,rfl,rfl⟩
theorem DGet.t {H:Hp}{a b:Addr}{kvs:List (List Key×V)}{k:List Key}(e:H a=some (.dT kvs))(eb:H b=some (.tup (k.map kV))):DGet H a (.ref b) (a8u kvs k):=.inr ⟨kvs,k,b,.inl e,rfl,eb,rfl⟩
theorem DPut.k {H:Hp}{a:Addr}{kvs:List (Key×V)}{k:Key}{v:V}(e:H a=some (.dK kvs))(hl:kvs.length<sizeLine):DPut H a (kV k) v (upd H a (.dK (a3z kvs k v))):=.inl ⟨kvs,k,e,rfl,hl,rfl⟩
theorem DPut.t {H:Hp}{a b:Addr}{kvs:List (List Key×V)}{k:List Key}{v:V}(e:H a=some (.dT kvs))(eb:H b=some (.tup (k.map kV)))(hl:kvs.length<sizeLine) :
  DPut H a (.ref b) v (upd H a (.dT (a3z kvs k v))):=.inr ⟨kvs,k,b,e,rfl,eb,hl,rfl⟩
section
variable {X:Cx}{pins:List (Addr×Obj)}{σ:St}{H:Hp}{s:Shared}{a:Addr}{y v:V}{u r:Value}{o:Option V}{A:Around}{E:Value->Shared->Prop}
theorem Inv.big (I:Inv X pins σ H s):sysModules<s.heap.objs.size:=by
 have h:mainGlobals<s.heap.objs.size:=(I.mod.glob.keeps I.bk).lt
 exact Nat.lt_trans (by decide) h
theorem b0e {Q:Value->Shared->Prop}(hu:A.units+1<cLine)(I:Inv X pins σ H s)(g:DGet H a y (some v))(ry:RelV y u)(h:∀ w' s',Inv X pins σ H s'->RelV v w'->Q w' s') :
  wpAny (model X.prog X.w) A (getItem (.ref a) u) Q E s:=by
 rcases g with⟨kvs,k,e,ey,l⟩|⟨kvs,k,b,e,ey,eb,l⟩
 ·subst ey
  obtain⟨z,hd,vs,rel,dd⟩:=b4i I.hok e
  obtain⟨w',hw,rw'⟩:=RelO.some_of (v:=v) (o:=valueAt vs k) (by rw[l];exact rel.val k)
  exact wpAny_getItem_of (b6s ry) dd.mapOf hw (h w' _ (I.tok _) rw')
 ·subst ey
  cases (show u=Value.ref b from ry)
  obtain⟨z,hd,xs,rel,dd⟩:=b7u I.hok e
  obtain⟨w',hw,rw'⟩:=RelO.some_of (v:=v) (o:=(atKey xs k).map (·.2)) (by rw[l];exact rel.val k)
  obtain⟨p,hp,hp2⟩:=Option.map_eq_some_iff.mp hw
  refine wpAny_getItem_heap (tupleKind_room_in1 hu) (a6b I.hok eb) dd hp ?_
  rw[hp2]
  exact h w' _ (I.tok _) rw'
theorem d_in {Q:Value->Shared->Prop}(hu:A.units+1<cLine)(I:Inv X pins σ H s)(g:DGet H a y o)(ry:RelV y u)(h:∀ s',Inv X pins σ H s'->Q (.bool o.isSome) s') :
  wpAny (model X.prog X.w) A (compareOp .In u (.ref a)) Q E s:=by
 rcases g with⟨kvs,k,e,ey,l⟩|⟨kvs,k,b,e,ey,eb,l⟩
 ·subst ey
  obtain⟨z,hd,vs,rel,dd⟩:=b4i I.hok e
  refine wpAny_in_of (b6s ry) hd dd.mapOf ?_
  rw[<- (rel.val k).isSome_eq,<- l]
  exact h _ (I.tok _)
 ·subst ey
  cases (show u=Value.ref b from ry)
  obtain⟨z,hd,xs,rel,dd⟩:=b7u I.hok e
  refine wpAny_in_heap (tupleKind_room_in1 hu) (a6b I.hok eb) hd dd ?_
  have q:=(rel.val k).isSome_eq
  rw[Option.isSome_map] at q
  rw[<- q,<- l]
  exact h _ (I.tok _)
theorem b8b {Q:Value->Shared->Prop}(hu:A.units+1<cLine)(I:Inv X pins σ H s)(g:DGet H a y o)(ry:RelV y u)(h:∀ s',Inv X pins σ H s'->Q (.bool (!o.isSome)) s') :
  wpAny (model X.prog X.w) A (compareOp .NotIn u (.ref a)) Q E s:=by
 rcases g with⟨kvs,k,e,ey,l⟩|⟨kvs,k,b,e,ey,eb,l⟩
 ·subst ey
  obtain⟨z,hd,vs,rel,dd⟩:=b4i I.hok e
  refine wpAny_notIn_of (b6s ry) hd dd.mapOf ?_
  rw[<- (rel.val k).isSome_eq,<- l]
  exact h _ (I.tok _)
 ·subst ey
  cases (show u=Value.ref b from ry)
  obtain⟨z,hd,xs,rel,dd⟩:=b7u I.hok e
  refine wpAny_notIn_heap (tupleKind_room_in1 hu) (a6b I.hok eb) hd dd ?_
  have q:=(rel.val k).isSome_eq
  rw[Option.isSome_map] at q
  rw[<- q,<- l]
  exact h _ (I.tok _)
theorem b1t {h':Heap}{t':Nat}{ob:HO}(I:Inv X pins σ H s)(mu:Mut (H a))(hs:Heap.SameBut a s.heap h')(he:∃ q,h'.get? a=some q)(new:ObjOk X.prog X.w (upd H a ob) h' a ob) :
  Inv X pins σ (upd H a ob) { s with heap:=h',toks:=t' } :=
 I.write (x:=a) (e:=a) mu (.inl rfl) (λb q hb z=>(hs.2 b hb).trans z) he new
theorem d0t {P:Program}{w:World}{H':Hp}{h':Heap}{kvs:List (Key×V)}{vs:List (Key×Value)}(z:kvs.length<=sizeLine)(hd:(a == sysModules)=false)(rel:KV kvs vs)(dd:h'.DictOf (a0k P w) a vs) :
  ObjOk P w H' h' a (.dK kvs):=⟨z,hd,vs,rel,dd⟩
theorem b0d {H':Hp}{Q:Unit->Shared->Prop}(hu:A.units+1<cLine)(I:Inv X pins σ H s)(g:DPut H a y v H')(ry:RelV y u)(rv:RelV v r)(h:∀ s',Inv X pins σ H' s'->Q () s') :
  wpAny (model X.prog X.w) A (setItem (.ref a) u r) Q E s:=by
 rcases g with⟨kvs,k,e,ey,l,eH⟩|⟨kvs,k,b,e,ey,eb,l,eH⟩
 ·subst ey eH
  obtain⟨z,hd,vs,rel,dd⟩:=d8b I.hok e
  have hz:vs.length<=sizeLine:=by rw[<- rel.length];exact z
  have hl:(a3z kvs k v).length<=sizeLine:=by have:=a2k kvs k v;lia
  refine wpAny_setItem_pairs (hsz:=hz) (b6s ry) dd λh' dd' hs=>h _ ?_
  have he:∃ q,h'.get? a=some q:=let ⟨q,_,_,hq,_⟩:=dd';⟨q,hq⟩
  exact b1t I (by rw[e];exact True.intro) hs he (d0t hl hd (rel.put k rv) dd')
 ·subst ey eH
  cases (show u=Value.ref b from ry)
  obtain⟨z,hd,xs,rel,dd⟩:=d0q I.hok e
  have hz:xs.length<=sizeLine:=by rw[<- Paired.length rel];exact z
  have hl:(a3z kvs k v).length<=sizeLine:=by have:=a2k kvs k v;lia
  refine wpAny_setItem_heap (hsz:=hz) (tupleKind_room_in1 hu) (a6b I.hok eb) dd λh' dd' hs=>h _ ?_
  obtain⟨q,es,ep,hq,h2,h3,h4,_,h5⟩:=dd'
  refine b1t I (by rw[e];exact True.intro) hs ⟨q,hq⟩ ⟨hl,hd,_,(rel.put k eb rv).keeps λc ys ec=>?_,q,es,ep,hq,h2,h3,h4,h5⟩
  rw[a0e (c9g ec e (λz=>nomatch z))]
  exact ec
end
section
variable {X:Cx}{pins:List (Addr×Obj)}{σ:St}{H:Hp}{s:Shared}{a:Addr}{kvs:List (Key×V)}{k:Key}{u:Value}{A:Around}{E:Value->Shared->Prop}
theorem d8d {Q:Value->Shared->Prop}(I:Inv X pins σ H s)(e:Rd H a (.dK kvs))(h:∀ t s',Inv X pins σ H s'->Q (.int kvs.length t) s'):wpAny (model X.prog X.w) A (call (.builtin "len") [.ref a]) Q E s:=by
 obtain⟨z,hd,vs,rel,dd⟩:=b4i I.hok e
 refine call_len_dict hd dd (by rw[<- rel.length];rw[sizeLine_eq] at z;lia) ?_
 rw[<- rel.length]
 exact h _ _ (I.tok _)
end
def NoSl (i:Expr):Prop:=∀ ov iv,subscripted i false ov iv=operate [ov,iv] (getItem ov iv)
theorem c2z {prog:Program}{w:World}{A:Around}{E:Value->Shared->Prop}{s:Shared}{env:Env}{value slice:Expr}{pos:Pos}{T id:String}{Q:Value->Shared->Prop}
  (hl:typeLookup (.type T) "__getitem__" = pure (some (.builtin id)))(hs:NoSl slice)
  (h:wpAny (model prog w) A (eval value env) (λo s₁=>wpAny (model prog w) A (eval slice env) (λi s₂=>s₂.TypeIs o T/\wpAny (model prog w) A (getItem o i) Q E s₂) E s₁) E s) :
  wpAny (model prog w) A (eval (.Subscript value slice pos) env) Q E s:=by
 refine Subscript_ (wpAny_mono h (λo s₁ h₁=>wpAny_mono h₁ (λi s₂ h₂=>?_) λ_ _ x=>x) λ_ _ x=>x)
 obtain⟨hT,h₂⟩:=h₂
 unfold subscriptTail
 refine Γa ?_
 rw[getitemInPython_of_ne hT.not_modules]
 refine Γa (wpAny_specialOf hT hl ?_)
 have fin:wpAny (model prog w) A (subscripted slice false o i) (λr s₃=>wpAny (model prog w) A (letTemporaryGo value o r >>= λ_=>pure r) Q E s₃) E s₂:=by
  rw[hs o i]
  exact wpAny_operating (wpAny_mono h₂ (λr s₃ h₃=>Γa (wpAny_letTemporaryGo (Γb h₃))) λ_ _ x=>x)
 first
  | exact Γb (Γa fin)
  | exact Γa (Γb (Γa fin))
  | exact Γa fin
theorem b1s {X:Cx}{pins:List (Addr×Obj)}{σ:St}{H:Hp}{s:Shared}{a:Addr}{y:V}{o:Option V}(I:Inv X pins σ H s)(g:DGet H a y o):s.TypeIs (.ref a) "dict":=by
 rcases g with⟨kvs,k,e,_,_⟩|⟨kvs,k,b,e,_,_,_⟩
 ·obtain⟨_,_,vs,_,dd⟩:=b4i I.hok e
  exact dd.typeIs
 ·obtain⟨_,_,xs,_,dd⟩:=b7u I.hok e
  exact dd.typeIs
def d3l (td ty:TE):TE:=λσ H Q=>td σ H λx H1=>ty σ H1 λy H2=>∃ a v,x=.ref a/\DGet H2 a y (some v)/\Q v H2
def d4b (td ty tv:TE):TS:=λD σ H=>tv σ H λv H1=>td σ H1 λx H2=>ty σ H2 λy H3=>∃ a H4,x=.ref a/\DPut H3 a y v H4/\D.nx σ H4
def d4c (td ty tv:TE)(rd:V->V->Hp->VK->Prop):TS:=λD σ H=>td σ H λx H1=>ty σ H1 λy H2=>∃ a v,x=.ref a/\DGet H2 a y (some v) /\
 tv σ H2 λy2 H3=>rd v y2 H3 λz H4=>∃ H5,DPut H4 a y z H5/\D.nx σ H5
section
variable {X:Cx}{o i e value:Expr}{pos pos' tpos:Pos}{td ty tv:TE}
theorem b1e (hu:X.A.units+1<cLine)(ho:PE X o td)(hi:PE X i ty)(hs:NoSl i):PE X (.Subscript o i pos) (d3l td ty):=by
 intro pins s σ H Q I h
 refine c2z PySem.F.slot_dict_getitem.lookup hs (thn (ho pins s σ H _ I h) λu s1 ⟨x,H1,I1,rx,q1⟩=>thn (hi pins s1 σ H1 _ I1 q1) λiv s2 ⟨y,H2,I2,ry,a,v,ex,g,q2⟩=>?_)
 subst ex
 obtain rfl:u=Value.ref a:=rx
 exact⟨b1s I2 g,b0e hu I2 g ry λw' s3 I3 rw'=>⟨v,H2,I3,rw',q2⟩⟩
theorem b5k (hu:X.A.units+1<cLine)(ho:PE X o td)(hi:PE X i ty)(hv:PE X value tv)(hs:swapsWith value (some (.Subscript o i pos')) pos.line X.env=pure false) :
  PS X (.Assign [.Subscript o i pos'] value pos) (d4b td ty tv):=by
 intro pins s σ H D I h
 refine wpAny_Assign_Subscript (thn (hv pins s σ H _ I h) λr s1 ⟨v,H1,I1,rv,q1⟩=>thn (ho pins s1 σ H1 _ I1 q1) λu s2 ⟨x,H2,I2,rx,q2⟩=>thn (hi pins s2 σ H2 _ I2 q2) λiv s3 ⟨y,H3,I3,ry,a,H4,ex,g,q3⟩=>?_) hs
 subst ex
 obtain rfl:u=Value.ref a:=rx
 exact b0d hu I3 g ry rv λs4 I4=>⟨σ,H4,I4,q3⟩
theorem c3r {op:Operator}{rd:V->V->Hp->VK->Prop}(hu:X.A.units+1<cLine)(ho:PE X o td)(hi:PE X i ty)(hv:PE X value tv)(hop:InOp X op rd)
  (ha:∀ ov iv new,augStore i ov iv new=(do holding [new,ov,iv] (setItem ov iv new);release [new,ov,iv] [];pure .next)):PS X (.AugAssign (.Subscript o i tpos) op value pos) (d4c td ty tv rd):=by
 intro pins s σ H D I h
 refine wpAny_AugAssign_SubscriptAny (thn (ho pins s σ H _ I h) λu s1 ⟨x,H1,I1,rx,q1⟩=>thn (hi pins s1 σ H1 _ I1 q1) λiv s2 ⟨y,H2,I2,ry,a,v,ex,g,q2⟩=>?_) ha
 subst ex
 obtain rfl:u=Value.ref a:=rx
 refine b0e hu I2 g ry λw' s3 I3 rw'=>thn (hv pins s3 σ H2 _ I3 q2) λw2 s4 ⟨y2,H3,I4,ry2,q3⟩=>thn (hop pins s4 σ H3 v y2 w' w2 _ I4 rw' ry2 q3) λw3 s5 ⟨z,H4,I5,rz,H5,g5,q4⟩=>?_
 exact b0d hu I5 g5 ry rz λs6 I6=>⟨σ,H5,I6,q4⟩
end
theorem c1c {P:Program}{w:World}{H:Hp}(h:Heap)(hb:sysModules<h.objs.size):ObjOk P w H (h.push { cls:=.type "dict",data:=.dict #[] }) h.objs.size (.dK []) :=
 ⟨Nat.zero_le _,beq_eq_false_iff_ne.mpr (Ne.symm (Γo hb)),[],.nil,Heap.DictOf.new h⟩
theorem c0y {P:Program}{w:World}{H:Hp}(h:Heap)(hb:sysModules<h.objs.size):ObjOk P w H (h.push { cls:=.type "dict",data:=.dict #[] }) h.objs.size (.dT []) :=
 ⟨Nat.zero_le _,beq_eq_false_iff_ne.mpr (Ne.symm (Γo hb)),[],.nil,_,#[],0,Γm _ rfl,⟨rfl,rfl,rfl⟩,rfl,rfl,List.nodup_nil⟩
def c6x:TE:=λ_ H Q=>∀ p,H p=none->Q (.ref p) (upd H p (.dK []))
section
variable {X:Cx}{pos:Pos}
theorem b9w:PE X (.Dict [] [] pos) c6x:=λpins s σ H Q I h =>
 wpAny_Dict_empty ⟨.ref s.heap.objs.size,_,I.laid (a:=s.heap.objs.size) (o:=.dK []) (t':=s.toks) (λ_ _ q=>Γc _ q) (Γi _) (c1c s.heap I.big),rfl,h _ (I.hok.fresh (Γi _))⟩
end
def c9i (kvs more:List (Key×V)):List (Key×V):=more.foldl (λacc kv=>a3z acc kv.1 kv.2) kvs
theorem KV.merge:∀ {more:List (Key×V)}{rs:List (Key×Value)}{kvs:List (Key×V)}{vs:List (Key×Value)},KV more rs->KV kvs vs->KV (c9i kvs more) (merged vs rs):=by
 intro more rs kvs vs r
 unfold KV at r
 induction r generalizing kvs vs with
 | nil=>intro q;exact q
 | @cons p q ps qs h t ih =>
  intro r0
  have e:KV (a3z kvs p.1 p.2) (stored vs q.1 q.2):=by
   have:=r0.put p.1 h.2
   rw[<- h.1];exact this
  exact ih e
structure M1 (X:Cx)(o:Expr)(m:Str)(apos:Pos)(e:Expr)(cpos:Pos):Prop where
 base:attributeBase o m X.env (eval o X.env)=eval o X.env
 few:((backTo cpos (starEach [e] X.env)).all (λx=>!x.1) && (backToKw cpos (keywordEach [] X.env)).all (λx=>x.1.isSome)
  && decide (([e]:List Expr).length+([]:List Keyword).length+(if ([]:List Keyword).isEmpty then 0 else 1)<30))=true
 line:(apos.endLine == cpos.line)=true
 trees:backTo cpos (starEach [e] X.env)=[(false,eval e X.env)]
structure M2 (X:Cx)(o:Expr)(m:Str)(apos:Pos)(e f:Expr)(cpos:Pos):Prop where
 base:attributeBase o m X.env (eval o X.env)=eval o X.env
 few:((backTo cpos (starEach [e,f] X.env)).all (λx=>!x.1) && (backToKw cpos (keywordEach [] X.env)).all (λx=>x.1.isSome)
  && decide (([e,f]:List Expr).length+([]:List Keyword).length+(if ([]:List Keyword).isEmpty then 0 else 1)<30))=true
 line:(apos.endLine == cpos.line)=true
 trees:backTo cpos (starEach [e,f] X.env)=[(false,eval e X.env),(false,eval f X.env)]
section
variable {X:Cx}{pins:List (Addr×Obj)}{σ:St}{H:Hp}{s:Shared}{a:Addr}{y d:V}{u r:Value}{o:Option V}{A:Around}{E:Value->Shared->Prop}
end
section
variable {X:Cx}{o e f:Expr}{apos cpos:Pos}{td ty tx:TE}
end
section
variable {X:Cx}{pins:List (Addr×Obj)}{σ:St}{H:Hp}{s:Shared}{a:Addr}{kvs:List (Key×V)}{A:Around}{E:Value->Shared->Prop}
end
section
variable {X:Cx}{pins:List (Addr×Obj)}{σ:St}{H:Hp}{s:Shared}{a:Addr}{y:V}{u:Value}{A:Around}{E:Value->Shared->Prop}
end
end L2
namespace L2
open PySem PySem.Spec PyProof.Rows
section
variable {κ:Type} [DecidableEq κ]
end
end L2
end
section
namespace HT
open PySem PyProof.Rows
def lexLe:List Int->List Int->Bool
 | [],[]=>true
 | [],_ :: _=>true
 | _ :: _,[]=>false
 | x :: xs,y :: ys=>if x=y then lexLe xs ys else decide (x<=y)
section
open PySem.SeqAt
open PySem.AutoSeq1 (wpAny_loadPart')
open PySem.MeetsSeq PySem.MeetsSeq2 PySem.MeetsSeq3
end
section
variable {prog:Program}{w:World}{A:Around}{E:Value->Shared->Prop}{s:Shared}
end
end HT
namespace L2
open PySem PySem.Spec PyProof.Rows
section
variable {X:Cx}
end
end L2
end
set_option maxHeartbeats 4000000
section
namespace L2
open PySem PySem.Spec PyProof.Rows
open AutoSeq1 (wpAny_loadPart')
section
variable {X:Cx}
theorem b9z:OpR X (binaryOp .Add) (λx y H Q=>∃ a b ys,x=.ref a/\y=.ref b/\SqT X.K H a []/\SqT X.K H b ys/\Q (.ref b) H):=by
 intro pins s σ H x y v u Q I rx ry h
 obtain⟨a,b,ys,rfl,rfl,ha,hb,q⟩:=h
 cases rx;cases ry
 obtain⟨its,r1,⟨⟨oc,od,odt,os⟩,e1,ec,n,ed⟩,_⟩:=I.tuple ha
 obtain⟨its2,r2,⟨⟨oc2,od2,odt2,os2⟩,e2,ec2,n2,ed2⟩,_⟩:=I.tuple hb
 simp only at ec ed ec2 ed2
 subst ec ed ec2 ed2
 cases r1
 exact concat_meets ⟨_,e1,rfl⟩ ⟨_,e2,rfl⟩ noFill_tuple_add seq_tuple_add F.slot_tuple_add F.entry_tuple_add (F.args_tuple_add_2 _ _) (tuple_addW0 a b #[] its2.toArray n n2 od od2 os os2 rfl) ⟨e1,e2,.ref b,H,I,rfl,q⟩
end
def Kept (h0 h:Heap) (N:Nat):Prop:=∀ b o,b<N->h0.get? b=some o->h.get? b=some o
def c6i (P:Program)(w:World)(A:Around)(I:Nat->Value->Prop)(bt:Nat->Nat->Bool)(h0:Heap) (N:Nat):Prop :=
 ∀ i j u v (s:Shared)(Q:Value->Shared->Prop)(E:Value->Shared->Prop),Kept h0 s.heap N->I i u->I j v->Q (.bool (bt i j)) s->wpAny (model P w) A (richCompare .Lt u v) Q E s
section
variable {P:Program}{w:World}{A:Around}{R:Result->Shared->Prop}{it S N:Addr}{fp wr:List Addr}{n:Nat}{V:Nat->Value->Prop}{St:Nat->Heap->Prop}{bt:Nat->Nat->Bool}{h0:Heap}
theorem b3z (W:Walks P w A.in1 it fp wr n V St)(C:c6i P w A.in1 V bt h0 N)(sf:S ∉ fp)(nw:∀ b∈wr,N<=b)(nS:N<=S) :
  ∀ (k j:Nat)(s:Shared)(best:Value) (c:Nat),n-(j+1)=k->j+1<=n->St (j+1) s.heap->V (argBest bt j) best->Kept h0 s.heap N->s.heap.get? S=some { cls:=.type "list",dict:=none,data:=.seq #[best,best] c,slots:=#[] } ->
  (∀ v h' tk,V (argBest bt (n-1)) v->(∀ b o,b ∉ wr->b≠S->s.heap.get? b=some o->h'.get? b=some o)->R (.ok (.ret v)) { s with heap:=h',toks:=tk })->codeAny (model P w) A (.builtin "min.loop" ⟨[.ref it,.none,.ref S],[]⟩) R s:=by
 have sw:S ∉ wr:=λh=>sf (W.sub _ h)
 have nm:(toString "min"++toString ".loop":String) = "min.loop":=by decide
 have low:∀ {b:Addr},b<N->b ∉ wr/\b≠S:=λ{b} hb=>⟨λz=>absurd (nw b z) (Nat.not_le.mpr hb),λz=>absurd nS (by rw[<- z];exact Nat.not_le.mpr hb)⟩
 intro k
 induction k with
 | zero =>
  intro j s best c hk hj hst hV kp hS hR
  have en:j+1=n:=by lia
  refine codeAny_builtin F.entry_min_loop ?_;rw[Around.under_plainId F.plain_min_loop _]
  show wpAny _ A.in1 (seqItems? (.ref S) >>= _) _ _ s;refine Γa (wpAny_seqItems hS rfl ?_)
  show wpAny _ A.in1 (tryCatch (pyNext (.ref it)) _ >>= _) _ _ s;refine Γa (wpAny_tryCatch (W.done s _ _ (en ▸ hst) λg tk kk=>?_))
  have S1:=kk S _ sw hS
  show wpAny _ A.in1 (updateSeq S (λ_=>#[]) >>= _) _ _ _;refine Γa (wpAny_updateSeq S1 rfl (Γa (wpAny_letGo (Γb ?_))))
  exact hR best _ tk (by rw[<- en];exact hV) λb o c1 c2 e=>(Γf _ _ (Ne.symm c2)).trans (kk b o c1 e)
 | succ k ih =>
  intro j s best c hk hj hst hV kp hS hR
  have lt:j+1<n:=by lia
  refine codeAny_builtin F.entry_min_loop ?_;rw[Around.under_plainId F.plain_min_loop _]
  show wpAny _ A.in1 (seqItems? (.ref S) >>= _) _ _ s;refine Γa (wpAny_seqItems hS rfl ?_)
  show wpAny _ A.in1 (tryCatch (pyNext (.ref it)) _ >>= _) _ _ s;refine Γa (wpAny_tryCatch (W.item (j+1) s _ _ lt hst λv g tk vP st1 kk=>?_))
  have S1:=kk S _ sw hS
  have kp1:Kept h0 g N:=λb o hb e=>kk b o (low hb).1 (kp b o hb e)
  show wpAny _ A.in1 (tryCatch (holding [v,v] (richCompare .Lt v best >>= _)) _ >>= _) _ _ _
  refine Γa (wpAny_tryCatch (Γg (Γa (C (j+1) (argBest bt j) v best _ _ _ kp1 vP hV (Γa (Γg (wpAny_truthy_bool (Γa (wpAny_letGo (Γb ?_))))))))))
  cases hb:bt (j+1) (argBest bt j) with
  | true =>
   simp only[if_true];refine Γa (wpAny_updateSeq S1 rfl (Γa (wpAny_letGo ?_)));rw[nm]
   refine Γb ⟨plainId_quiet F.plain_min_loop _,ih (j+1) _ v _ (by lia) lt (W.frame _ _ _ st1 λb bf o e=>(Γf _ _ (λh:S=b=>sf (by rw[h];exact bf))).trans e) (by simp only[argBest,hb,if_true];exact vP)
    (λb o l e=>(Γf _ _ (Ne.symm (low l).2)).trans (kp1 b o l e)) (Heap.get?_update_self _ S1 rfl) λv' g' tk' p' k'=>?_⟩
   exact hR v' g' tk' p' λb o c1 c2 e=>k' b o c1 c2 ((Γf _ _ (Ne.symm c2)).trans (kk b o c1 e))
  | false =>
   simp only[Γp,if_false];refine Γa (wpAny_letGo ?_);rw[nm]
   refine Γb ⟨plainId_quiet F.plain_min_loop _,ih (j+1) _ best c (by lia) lt st1 (by simp only[argBest,hb,Γp,if_false];exact hV) kp1 S1 λv' g' tk' p' k'=>?_⟩
   exact hR v' g' tk' p' λb o c1 c2 e=>k' b o c1 c2 (kk b o c1 e)
theorem b1m (W:Walks P w A.in1 it fp wr n V St)(C:c6i P w A.in1 V bt h0 N)(sf:S ∉ fp)(nw:∀ b∈wr,N<=b)(nS:N<=S)(hn:0<n){s:Shared}{c:Nat}(hst:St 0 s.heap)(kp:Kept h0 s.heap N)
  (hS:s.heap.get? S=some { cls:=.type "list",dict:=none,data:=.seq #[] c,slots:=#[] })
  (hR:∀ v h' tk,V (argBest bt (n-1)) v->(∀ b o,b ∉ wr->b≠S->s.heap.get? b=some o->h'.get? b=some o)->R (.ok (.ret v)) { s with heap:=h',toks:=tk }):codeAny (model P w) A (.builtin "min.loop" ⟨[.ref it,.none,.ref S],[]⟩) R s:=by
 have sw:S ∉ wr:=λh=>sf (W.sub _ h)
 have nm:(toString "min"++toString ".loop":String) = "min.loop":=by decide
 have low:∀ {b:Addr},b<N->b ∉ wr/\b≠S:=λ{b} hb=>⟨λz=>absurd (nw b z) (Nat.not_le.mpr hb),λz=>absurd nS (by rw[<- z];exact Nat.not_le.mpr hb)⟩
 refine codeAny_builtin F.entry_min_loop ?_;rw[Around.under_plainId F.plain_min_loop _]
 show wpAny _ A.in1 (seqItems? (.ref S) >>= _) _ _ s;refine Γa (wpAny_seqItems hS rfl ?_)
 show wpAny _ A.in1 (tryCatch (pyNext (.ref it)) _ >>= _) _ _ s;refine Γa (wpAny_tryCatch (W.item 0 s _ _ hn hst λv g tk vP st1 kk=>?_))
 have S1:=kk S _ sw hS
 show wpAny _ A.in1 (updateSeq S (λ_=>#[v,v]) >>= _) _ _ _;refine Γa (wpAny_updateSeq S1 rfl ?_);rw[nm]
 refine Γb ⟨plainId_quiet F.plain_min_loop _,b3z W C sf nw nS _ 0 _ v _ rfl hn (W.frame _ _ _ st1 λb bf o e=>(Γf _ _ (λh:S=b=>sf (by rw[h];exact bf))).trans e) vP
  (λb o l e=>(Γf _ _ (Ne.symm (low l).2)).trans (kk b o (low l).1 (kp b o l e))) (Heap.get?_update_self _ S1 rfl) λv' g' tk' p' k'=>?_⟩
 exact hR v' g' tk' p' λb o c1 c2 e=>k' b o c1 c2 ((Γf _ _ (Ne.symm c2)).trans (kk b o c1 e))
end
section
variable {P:Program}{w:World}{A:Around}{E:Value->Shared->Prop}{s:Shared}
theorem b4m {l:Addr}{xs:Array Value}{bt:Nat->Nat->Bool}{Q:Value->Shared->Prop}(hh:A.in1.handled=none)(hl:s.heap.IsList l xs)(hn:0<xs.size)(C:c6i P w A.in1 (λi v=>xs[i]?=some v) bt s.heap s.heap.objs.size)
  (K:∀ v h' tk,xs[argBest bt (xs.size-1)]?=some v->(∀ b o,s.heap.get? b=some o->h'.get? b=some o)->Q v { s with heap:=h',toks:=tk }):wpAny (model P w) A (call (.builtin "min") [.ref l]) Q E s:=by
 have nm:(toString "min"++toString ".loop":String) = "min.loop":=by decide
 have ll:l<s.heap.objs.size:=by obtain⟨_,e,_⟩:=hl;exact Γl e
 refine call_function_tree F.kind_min F.plain_min F.entry_min (F.args_min1 _) ?_
 show wpAny _ A.in1 (Builtin.Builtins.bindParams "min" ["key","default"] 0 ⟨[],[]⟩ >>= _) _ _ s
 refine Γa (wpAny_of_eq (show Builtin.Builtins.bindParams "min" ["key","default"] 0 ⟨[],[]⟩=pure [none,none] from rfl) (Γa (Γb (Γa (wpAny_pyIter_list hl ?_)))))
 have W:=Walks.list (prog:=P) (w:=w) hh s.heap.objs.size l (Γo ll) xs
 refine Γa (wpAny_newObj_type ?_)
 rw[nm]
 have z1:(s.heap.push { cls:=.type "list_iterator",data:=.fields #[.ref l,.int 0 0] }).objs.size=s.heap.objs.size+1:=Heap.size_push ..
 refine Γb ⟨plainId_quiet F.plain_min_loop _,b1m (S:=(s.heap.push { cls:=.type "list_iterator",data:=.fields #[.ref l,.int 0 0] }).objs.size) W C ?_ ?_ ?_ hn ⟨⟨_,Γc _ (Γm _ rfl),rfl,rfl⟩,(hl.push _).push _⟩
  (λb o hb e=>Γc _ (Γc _ e)) (Γm _ rfl) λv h' tk hv hk=>?_⟩
 ·rw[z1];intro z;simp only[List.mem_cons,List.not_mem_nil,or_false] at z;rcases z with z|z
  ·exact absurd z (Nat.ne_of_gt (Nat.lt_succ_self _))
  ·exact absurd z (Nat.ne_of_gt (Nat.lt_succ_of_lt ll))
 ·intro b hb;simp at hb;rw[hb];exact Γi _
 ·rw[z1];exact Nat.le_succ _
 ·refine K v h' tk hv λb o e=>hk b o (by simp;exact Γo (Γl e)) ?_ (Γc _ (Γc _ e))
  rw[z1];exact Γo (Nat.lt_succ_of_lt (Γl e))
end
end L2
end
section
namespace L2
open PySem PySem.Spec PyProof.Rows
section
variable {prog:Program}{w:World}{A:Around}{E:Value->Shared->Prop}{s:Shared}
end
section
variable {X:Cx}{a e k:Expr}{ta te tk:TE}{pos p2:Pos}
end
end L2
end
section
namespace L2
open PySem PySem.Spec PyProof.Rows
def a8w (cells:List (Str×Addr)):List (Str×NameKind)->List (Str×Addr)->List (Str×Addr)
 | [],acc=>acc
 | (n,k) :: r,acc=>if (k == NameKind.free)=true then a8w cells r ((n,(cells.lookup n).getD 0) :: acc) else a8w cells r acc
theorem b3j {env:Env}:∀ (names:List (Str×NameKind))(acc:List (Str×Addr)),(∀ p∈names,p.2=.free->∃ c,env.cells.lookup p.1=some c) ->
  (forIn names acc λ(x:Str×NameKind)(cs:List (Str×Addr))=>if (x.2 == NameKind.free)=true then cellOf env x.1 >>= λc=>pure (ForInStep.yield ((x.1,c) :: cs)) else pure (ForInStep.yield cs):Sem (List (Str×Addr)))=pure (a8w env.cells names acc)
 | [],acc,_=>rfl
 | (n,k) :: r,acc,h=>by
  have ih:=b3j (env:=env) r
  rw[List.forIn_cons]
  unfold a8w
  by_cases hk:(k == NameKind.free)=true
  ·obtain⟨c,hc⟩:=h (n,k) Γn (by simpa using hk)
   have hcell:cellOf env n=pure c:=by
    have hc':env.cells.lookup n=some c:=hc
    unfold cellOf;rw[hc']
   have hc':env.cells.lookup n=some c:=hc
   simp only[hk,if_true,hcell,hc',Option.getD_some,pure_bind]
   exact ih _ λp hp=>h p (Γh _ hp)
  ·simp only[hk,if_false,pure_bind,Γp]
   exact ih _ λp hp=>h p (Γh _ hp)
theorem a3v {scope:Scope}{env:Env}(h:∀ p∈scope.names,p.2=.free->∃ c,env.cells.lookup p.1=some c):closureFor scope env=pure (a8w env.cells scope.names []):=by
 have q:=b3j (env:=env) scope.names [] h
 unfold closureFor
 first
  | exact (by rw[q];rfl)
  | (simp only[bind_pure];exact q)
theorem a4g {cells:List (Str×Addr)}{x:Str}{c:Addr}:∀ (names:List (Str×NameKind))(acc:List (Str×Addr)),(∀ p∈names,p.2=.free->∃ c,cells.lookup p.1=some c)->(∀ y d,acc.lookup y=some d->cells.lookup y=some d) ->
  (a8w cells names acc).lookup x=some c->cells.lookup x=some c
 | [],acc,_,ha,h=>ha x c h
 | (n,k) :: r,acc,hn,ha,h=>by
  unfold a8w at h
  split at h
  ·rename_i hk
   refine a4g r _ (λp hp=>hn p (Γh _ hp)) (λy d hy=>?_) h
   rw[List.lookup_cons] at hy
   obtain⟨c',hc'⟩:=hn (n,k) Γn (by simpa using hk)
   have hc'':cells.lookup n=some c':=hc'
   split at hy
   ·rename_i hyn
    have e:y=n:=by simpa using hyn
    subst e
    rw[hc''] at hy ⊢
    exact hy
   ·exact ha y d hy
  ·exact a4g r _ (λp hp=>hn p (Γh _ hp)) ha h
theorem a8r {cells:List (Str×Addr)}{x:Str}:∀ (names:List (Str×NameKind))(acc:List (Str×Addr)),((x,NameKind.free)∈names ∨ ∃ c,acc.lookup x=some c)->∃ c,(a8w cells names acc).lookup x=some c
 | [],acc,h=>by
  rcases h with h|h
  ·simp at h
  ·exact h
 | (n,k) :: r,acc,h=>by
  unfold a8w
  split
  ·refine a8r r _ ?_
   by_cases hx:x=n
   ·subst hx
    exact .inr ⟨(cells.lookup x).getD 0,by rw[List.lookup_cons];simp⟩
   ·rcases h with h|⟨c,h⟩
    ·rcases List.mem_cons.mp h with h|h
     ·cases h;exact absurd rfl hx
     ·exact .inl h
    ·refine .inr ⟨c,?_⟩
     rw[List.lookup_cons]
     have:(x == n)=false:=by simpa using hx
     rw[this]
     exact h
  ·rename_i hk
   refine a8r r _ ?_
   rcases h with h|h
   ·rcases List.mem_cons.mp h with h|h
    ·cases h;simp at hk
    ·exact .inl h
   ·exact .inr h
theorem a3h {env : Env} {x : Str} : ∀ {names : List (Str × NameKind)},
    ((names.map λ(n,k)=>if (k == NameKind.free && env.scope.kind == .function && env.kindOf n == some .cell) then (n,NameKind.cell) else (n,k)).lookup x=some .cell ∨
     (names.map λ(n,k)=>if (k == NameKind.free && env.scope.kind == .function && env.kindOf n == some .cell) then (n,NameKind.cell) else (n,k)).lookup x=some .free)->names.lookup x=some .cell ∨ names.lookup x=some .free
  | [],h=>by rcases h with h|h<;>simp at h
  | (n,k) :: r,h=>by
    have ih:=@a3h env x r
    rw[List.map_cons] at h
    rw[List.lookup_cons]
    by_cases hk:(k == NameKind.free && env.scope.kind == .function && env.kindOf n == some .cell)=true
    · simp only[hk,if_true] at h
      cases hx:x == n with
      | true =>
        have : k = .free := by simp only [Bool.and_eq_true] at hk; simpa using hk.1.1
        exact .inr (by rw [this])
      | false =>
        simp only [List.lookup_cons, hx] at h
        exact ih h
    · simp only[hk,if_false,Γp] at h
      cases hx:x == n with
      | true=>simpa only[List.lookup_cons,hx] using h
      | false =>
        simp only [List.lookup_cons, hx] at h
        exact ih h
theorem a0z:∀ (names:List (Str×NameKind)) (b:Nat)(acc:List (Str×Addr)),cellsFrom b names acc=cellsFrom b names []++acc
 | [],_,_=>rfl
 | (n,k) :: r,b,acc=>by
  unfold cellsFrom
  split
  ·rw[a0z r _ ((n,b) :: acc),a0z r _ [(n,b)],List.append_assoc];rfl
  ·exact a0z r b acc
theorem a3k:∀ (names:List (Str×NameKind)) (b:Nat){x:Str}{c:Addr},(x,c)∈cellsFrom b names []->(x,NameKind.cell)∈names
 | [],_,_,_,h=>by simp[cellsFrom] at h
 | (n,k) :: r,b,x,c,h=>by
  unfold cellsFrom at h
  split at h
  ·rename_i hk
   rw[a0z] at h
   rcases List.mem_append.mp h with h|h
   ·exact Γh _ (a3k r _ h)
   ·simp at h
    have:k=.cell:=by simpa using hk
    rw[h.1,this];exact Γn
  ·exact Γh _ (a3k r _ h)
theorem a8g {x:Str}{c:Addr}:∀ {l l':List (Str×Addr)},(l++l').lookup x=some c->l.lookup x=some c ∨ (l.lookup x=none/\l'.lookup x=some c)
 | [],_,h=>.inr ⟨rfl,h⟩
 | (n,d) :: r,l',h=>by
  rw[List.cons_append,List.lookup_cons] at h
  rw[List.lookup_cons]
  cases hx:x == n with
  | true=>rw[hx] at h;exact .inl h
  | false=>rw[hx] at h;exact a8g h
theorem b6i {x:Str}:∀ {l l':List (Str×Addr)},((∃ c,l.lookup x=some c) ∨ ∃ c,l'.lookup x=some c)->∃ c,(l++l').lookup x=some c
 | [],_,h=>by
  rcases h with⟨c,h⟩|h
  ·cases h
  ·exact h
 | (n,d) :: r,l',h=>by
  rw[List.cons_append,List.lookup_cons]
  cases hx:x == n with
  | true=>exact⟨d,rfl⟩
  | false =>
   refine b6i ?_
   rcases h with⟨c,h⟩|h
   ·rw[List.lookup_cons,hx] at h;exact .inl ⟨c,h⟩
   ·exact .inr h
theorem a5h {M:Model}{A:Around}{E:Value->Shared->Prop}{s:Shared}{scope:Scope}{globals:Addr}{cl:List (Str×Addr)}{qual:Str}{env:Env}{Q:Env->Shared->Prop}
  (hQ:∀ h4:Heap,h4.Ns s.heap.objs.size (λ_=>none)->(∀ b o,s.heap.get? b=some o->h4.get? b=some o)->CellsOk h4 (s.heap.objs.size+1) (cellsFrom (s.heap.objs.size+1) scope.names []) ->
   Q (newEnv scope s.heap.objs.size globals (cellsFrom (s.heap.objs.size+1) scope.names cl) qual none .none (some env) builtinsNs) { s with heap:=h4,toks:=s.toks+([]:List (Str×Value)).length }) :
  wpAny M A (newFunctionEnv scope globals cl [] qual none .none (some env)) Q E s:=by
 simp only[newFunctionEnv,Option.isSome_some,if_true]
 refine Γa (wpAny_alloc ?_)
 refine Γa (wpAny_layCells _ (λname kind cells=>by cases hkc:kind == NameKind.cell<;>simp[hkc]) _ _ _ _ ?_)
 have ok:=cellsFrom_ok scope.names (s.heap.push { cls:=.type "dict",data:=.dict #[] }) (s.heap.objs.size+1) [] ⟨λ_ _ hm=>(nomatch hm),List.Pairwise.nil⟩ (by rw[Heap.size_push];exact Γi _)
 rw[Heap.size_push] at ok
 rw[show ({ s with heap:=s.heap.push { cls:=.type "dict",data:=.dict #[] } }:Shared).heap.objs.size=s.heap.objs.size+1 from Heap.size_push ..]
 simp only[List.forIn_nil]
 exact Γa (Γb (Γb (hQ _ ((Heap.Ns.new s.heap (.type "dict")).keeps (pushCells_keeps _ _)) (λb o e=>pushCells_keeps _ _ b o (Γc _ e)) ok)))
def d2a (x:Str):Str:=Γe "#"++x
def a8e (own:List Str)(x:Str):Str:=if own.contains x then d2a x else x
def cxC (X:Cx)(scope:Scope)(own:List Str)(fp:List Addr)(C:Addr)(s:Shared)(H:Hp):Cx :=
 { X with N:=X.N.map (a8e own)++own,s₀:=s,H₀:=H,env:=compEnvC scope (cellsFrom (C+1) scope.names (a8w X.env.cells scope.names [])) C X.env,outer:=X.stack,stack:=X.stack,ex:=fp,fn:=λx=>scope.names.lookup x == some .cell,pn:=[],xe:=λ_ _=>False }
structure CScope (X:Cx)(scope:Scope)(own:List Str):Prop where
 kind:scope.kind=.function
 nocell:∀ p∈scope.names,p.2=.cell->scope.names.lookup p.1=some .cell
 names:∀ p∈scope.names,p.2=.local->scope.names.lookup p.1=some .local
 free:∀ p∈scope.names,p.2=.free->X.env.kindOf p.1=some .cell ∨ X.env.kindOf p.1=some .free
 apart:∀ x∈X.N,own.contains x=false->scope.names.lookup x≠some .local/\scope.names.lookup x≠some .cell
 hid:∀ x∈X.N,own.contains x=true->scope.names.lookup (d2a x)=none
section
variable {X:Cx}
theorem a7g {names:List (Str×NameKind)}{x:Str}{k:NameKind}(h:names.lookup x=some k):(x,k)∈names:=PySem.mem_of_lookup h
theorem a4l {env:Env}{x:Str}:∀ {names:List (Str×NameKind)},
  (names.map λ(n,k)=>if (k == NameKind.free && env.scope.kind == .function && env.kindOf n == some .cell) then (n,NameKind.cell) else (n,k)).lookup x=some .local->names.lookup x=some .local
 | [],h=>by simp at h
 | (n,k) :: r,h=>by
  have ih:=@a4l env x r
  rw[List.map_cons] at h
  rw[List.lookup_cons]
  by_cases hk:(k == NameKind.free && env.scope.kind == .function && env.kindOf n == some .cell)=true
  ·simp only[hk,if_true] at h
   cases hx:x == n with
   | true=>simp[List.lookup_cons,hx] at h
   | false =>
    simp only[List.lookup_cons,hx] at h
    exact ih h
  ·simp only[hk,if_false,Γp] at h
   cases hx:x == n with
   | true=>simpa[List.lookup_cons,hx] using h
   | false =>
    simp only[List.lookup_cons,hx] at h
    exact ih h
theorem a9d {env:Env}{scope:Scope}{x:Str}(h:scope.names.lookup x=none):(relabel scope env).names.lookup x=none:=by
 unfold relabel
 simp only
 generalize scope.names=l at h
 induction l with
 | nil=>rfl
 | cons p r ih =>
  obtain⟨n,k⟩:=p
  rw[List.lookup_cons] at h
  cases e:(x == n) with
  | true=>rw[e] at h;cases h
  | false =>
   rw[e] at h
   rw[List.map_cons]
   split
   ·rw[List.lookup_cons,e];exact ih h
   ·rw[List.lookup_cons,e];exact ih h
theorem b2w {scope:Scope}{own:List Str}{fp:List Addr}{pins:List (Addr×Obj)}{σ:St}{H:Hp}{s:Shared}{h4:Heap}{t4:Nat}(I:Inv X pins σ H s)(SC:CScope X scope own)(hc:X.calm=true)
  (hf:∀ b∈fp,b2b X pins H b)(hfo:∀ b∈fp,∃ o,s.heap.get? b=some o)
  (hns:h4.Ns s.heap.objs.size (λ_=>none))(hk:∀ b o,s.heap.get? b=some o->h4.get? b=some o)(ok:CellsOk h4 (s.heap.objs.size+1) (cellsFrom (s.heap.objs.size+1) scope.names [])) :
  Inv (cxC X scope own fp s.heap.objs.size s H) [] (σ++Γj own.length none) H { s with heap:=h4,toks:=t4 }:=by
 have fr:∀ p∈scope.names,p.2=.free->∃ c,X.env.cells.lookup p.1=some c:=λp hp hq=>I.ok.has p.1 (SC.free p hp hq)
 have cl0:∀ {x:Str}{c:Addr},(a8w X.env.cells scope.names []).lookup x=some c->X.env.cells.lookup x=some c:=λh=>a4g scope.names [] fr (λy d hy=>by simp at hy) h
 have cl:∀ {x:Str}{c:Addr},(cellsFrom (s.heap.objs.size+1) scope.names (a8w X.env.cells scope.names [])).lookup x=some c->((x,c)∈cellsFrom (s.heap.objs.size+1) scope.names []/\s.heap.objs.size+1<=c) ∨ X.env.cells.lookup x=some c:=λh=>by
  rw[a0z] at h
  rcases a8g h with z|z
  ·exact .inl ⟨PySem.mem_of_lookup z,(ok.empty _ _ (PySem.mem_of_lookup z)).2⟩
  ·exact .inr (cl0 z.2)
 have hasC:∀ {x:Str},(scope.names.lookup x=some .cell ∨ scope.names.lookup x=some .free)->∃ c,(cellsFrom (s.heap.objs.size+1) scope.names (a8w X.env.cells scope.names [])).lookup x=some c:=λ{x} h=>by
  rw[a0z]
  refine b6i ?_
  rcases h with h|h
  ·exact .inl (Option.isSome_iff_exists.mp (PySem.W.cellsFrom_some _ _ _ (.inl h)))
  ·exact .inr (a8r scope.names [] (.inl (a7g h)))
 have clt:∀ {x:Str}{c:Addr},X.env.cells.lookup x=some c->c<s.heap.objs.size:=λh=>by obtain⟨v,q⟩:=I.cell _ _ h;exact q.lt
 refine⟨⟨I.ok.mod,SC.kind,I.ok.glob,I.ok.blt,Γi _,λx y c h1 h2=>?_,λx hx=>?_,λx c hf' h=>?_,λ_=>I.ok.hd hc,I.ok.frames,.inl rfl,λb hb=>?_,
   λb o e=>I.bs b o e,Nat.le_trans I.ok.bsz I.sz,λb o e hb=>?_,λb hb hz=>?_,I.stack,I.stkFree⟩,
  rfl,I.bare,Un.kept hk,⟨_,hns,λi x v e1 e2 e3=>?_⟩,λx c h=>?_,I.fresh,λx c h=>(cl h).elim (λz=>I.hok.fresh (by lia)) (I.freeC x c),λp hp=>absurd (show p∈([]:List (Addr×Obj)) from hp) (by simp),I.hok.kept hk,?_⟩
 ·rcases cl h1 with z1|z1<;>rcases cl h2 with z2|z2
  ·exact name_of_addr ok.apart z1.1 z2.1
  ·exact absurd (clt z2) (Nat.not_lt.mpr (Nat.le_of_succ_le z1.2))
  ·exact absurd (clt z1) (Nat.not_lt.mpr (Nat.le_of_succ_le z2.2))
  ·exact I.ok.inj x y c z1 z2
 ·have hx:(relabel scope X.env).names.lookup x=some .cell ∨ (relabel scope X.env).names.lookup x=some .free:=hx
  exact hasC (a3h hx)
 ·have hf':(scope.names.lookup x == some .cell)=true:=hf'
  have h:(cellsFrom (s.heap.objs.size+1) scope.names (a8w X.env.cells scope.names [])).lookup x=some c:=h
  obtain⟨c',hc'⟩:=Option.isSome_iff_exists.mp (PySem.W.cellsFrom_some scope.names (s.heap.objs.size+1) [] (.inl (by simpa using hf')))
  rw[a0z] at h
  rcases a8g h with z|z
  ·have:=(ok.empty _ _ (PySem.mem_of_lookup z)).2
   show s.heap.objs.size<=c
   lia
  ·rw[hc'] at z;cases z.1
 ·have hb:b∈fp:=hb
  obtain⟨o,ho⟩:=hfo b hb
  exact⟨Γo (Γl ho),λx c h=>(cl h).elim (λz e=>absurd (e ▸ Γl ho:c<s.heap.objs.size) (Nat.not_lt.mpr (Nat.le_of_succ_le z.2))) ((hf b hb).2.2.2.2.1 x c)⟩
 ·have hb:b∈fp:=hb
  have e:X.base.get? b=some o:=e
  rcases (hf b hb).2.2.2.1 with z|z
  ·exact I.ok.noex b o e z
  ·exact absurd (Nat.lt_of_lt_of_le (Γl e) (Nat.le_trans I.ok.bsz z)) (Nat.lt_irrefl _)
 ·have hb:b∈fp:=hb
  have hz:b∈frs X.stack:=hz
  rcases List.mem_cons.mp (I.stkSub b hz) with z|z
  ·exact (hf b hb).2.1 z
  ·exact (hf b hb).2.2.1 z
 ·have e1:(X.N.map (a8e own)++own)[i]?=some x:=e1
  have e3:Vis (relabel scope X.env) x:=e3
  have hi:i<σ.length:=by
   by_cases hi:i<σ.length
   ·exact hi
   ·rw[List.getElem?_append_right (by lia),List.getElem?_replicate] at e2
    split at e2<;>cases e2
  rw[List.getElem?_append_left hi] at e2
  rw[List.getElem?_append_left (by rw[List.length_map,<- I.len];exact hi),List.getElem?_map] at e1
  obtain⟨y,e1,ey⟩:=Option.map_eq_some_iff.mp e1
  have hny:own.contains y=false:=by
   cases hy:own.contains y with
   | false=>rfl
   | true =>
    exfalso
    have hh:=SC.hid y (List.mem_of_getElem? e1) hy
    have ex:x=d2a y:=by rw[<- ey];unfold a8e;rw[if_pos hy]
    rw[<- ex] at hh
    have e4:(relabel scope X.env).names.lookup x=none:=a9d hh
    rcases e3 with z|z|z<;>(rw[e4] at z;cases z)
  have ex:x=y:=by rw[<- ey];unfold a8e;rw[if_neg (by rw[hny];exact Γk)]
  rw[<- ex] at e1 hny
  have hnl:(relabel scope X.env).names.lookup x≠some .local:=λz=>(SC.apart x (List.mem_of_getElem? e1) hny).1 (a4l z)
  have hv:(relabel scope X.env).names.lookup x=some .cell ∨ (relabel scope X.env).names.lookup x=some .free:=by
   rcases e3 with z|z|z
   ·exact absurd z hnl
   ·exact .inl z
   ·exact .inr z
  have hfr:scope.names.lookup x=some .free:=(a3h hv).resolve_left (SC.apart x (List.mem_of_getElem? e1) hny).2
  have hm:=a7g hfr
  have hkx:=SC.free (x,.free) hm rfl
  obtain⟨m,hn,hl⟩:=I.loc
  have hkx':X.env.scope.names.lookup x=some .cell ∨ X.env.scope.names.lookup x=some .free:=hkx
  obtain⟨u,r,l⟩:=hl i x v e1 e2 (hkx'.elim (λz=>.inr (.inl z)) λz=>.inr (.inr z))
  refine⟨u,r,.inr ⟨hv,?_⟩⟩
  obtain⟨c,hcl⟩:=hasC (.inr hfr)
  refine⟨c,hcl,?_⟩
  rcases l with⟨z,_⟩|⟨z,c',hc',q⟩
  ·rcases hkx with y|y<;>(rw[z] at y;cases y)
  ·rcases cl hcl with y|y
   ·have:=SC.nocell _ (a3k _ _ y.1) rfl
    rw[hfr] at this;cases this
   ·rw[hc'] at y;cases y
    obtain⟨o,ho,hd⟩:=q
    exact⟨o,hk _ _ ho,hd⟩
 ·rcases cl h with z|z
  ·exact⟨_,(ok.empty _ _ z.1).1⟩
  obtain⟨v,o,ho,hd⟩:=I.cell x c z
  exact⟨v,o,hk _ _ ho,hd⟩
 ·show (σ++Γj own.length none).length=(X.N.map (a8e own)++own).length
  rw[List.length_append,List.length_append,List.length_map,List.length_replicate,I.len]
end
def a7u (ifs:List Expr)(env:Env):Sem Bool :=
 forIn ifs true λc r=>if r=true then do let ok <- isTrue c env (eval c env);pure (ForInStep.yield ok) else pure (ForInStep.yield r)
def PTs (X:Cx)(ifs:List Expr)(t:TT):Prop :=
 ∀ (pins:List (Addr×Obj))(s:Shared)(σ:St)(H:Hp)(Q:Bool->Hp->Prop),Inv X pins σ H s->t σ H Q->wpAny (model X.prog X.w) X.A (a7u ifs X.env) (TP X pins σ Q) X.xe s
theorem a5u {M:Model}{A:Around}{E:Value->Shared->Prop}{env:Env}{Q:Bool->Shared->Prop}{s:Shared}(h:Q false s):∀ ifs:List Expr,
  wpAny M A (forIn ifs false λc r=>if r=true then do let ok <- isTrue c env (eval c env);pure (ForInStep.yield ok) else pure (ForInStep.yield r)) Q E s
 | []=>Γb h
 | c :: r=>by
  rw[List.forIn_cons]
  simp only[Γp,if_false]
  exact Γa (Γb (a5u h r))
section
variable {X:Cx}
def d3e:TT:=λ_ H Q=>Q true H
theorem b5i:PTs X [] d3e:=λ_ _ _ H _ I h=>Γb ⟨H,I,h⟩
theorem b9o {c:Expr}{r:List Expr}{t u:TT}(h1:PT X c t)(h2:PTs X r u):PTs X (c :: r) (λσ H Q=>t σ H λb H1=>if b=true then u σ H1 Q else Q false H1):=by
 intro pins s σ H Q I h
 unfold a7u
 rw[List.forIn_cons]
 simp only[if_true]
 refine Γa (Γa (thn (h1 pins s σ H _ I h) λb s1 ⟨H1,I1,q1⟩=>Γb ?_))
 cases b with
 | true =>
  rw[if_pos rfl] at q1
  exact h2 pins s1 σ H1 Q I1 q1
 | false =>
  rw[if_neg Γk] at q1
  exact a5u ⟨H1,I1,q1⟩ r
end
section
variable {prog:Program}{w:World}{A:Around}{R:Result->Shared->Prop}{s:Shared}
theorem b4j {elt target iter:Expr}{ifs:List Expr}{scope:Scope}{pos:Pos}{it acc:Value}{env:Env}(I:Nat->Shared->Prop)
  (turn:∀ n s,I n s->wpAny (model prog w) A (pyNext it) (λr s1=>match r with
   | none=>R (.ok .next) s1
   | some v=>wpAny (model prog w) A (letOwnedTupleGo target it v) (λ_ s2=>wpAny (model prog w) A (assign target env v) (λ_ s3=>wpAny (model prog w) A (a7u ifs env) (λok s4 =>
     if ok=true then wpAny (model prog w) A (eval elt env) (λx s5=>wpAny (model prog w) A (call (.builtin "list.append") [acc,x]) (λ_ s6=>∃ m,m<n/\I m s6) (λ_ _=>False) s5) (λ_ _=>False) s4
     else ∃ m,m<n/\I m s4) (λ_ _=>False) s3) (λ_ _=>False) s2) (λ_ _=>False) s1) (λ_ _=>False) s)
  (n:Nat)(h:I n s):codeAny (model prog w) A (.compLoop (.ListComp elt [⟨target,iter,ifs,0⟩] scope pos) 0 it acc env) R s:=by
 refine codeAny_loop rfl I (λn s hI=>?_) n h
 show wpAny _ A ((compTurn (.ListComp elt [⟨target,iter,ifs,0⟩] scope pos) 0 it acc env).onRaise (λx=>do noteFrame x env;theTreesLotGoes x)) _ _ s
 refine wpAny_noted ?_
 rw[compTurn_list]
 have no:∀ (e:Value)(s':Shared),(λ(_:Value)(_:Shared)=>False) e s'->notedBy (model prog w) A env (λe s'=>R (.error e) s') e s':=λ_ _ z=>z.elim
 refine Γa (wpAny_standAt (Γa (wpAny_mono (turn n s hI) (λr s1 h1=>?_) no)))
 cases r with
 | none=>exact Γb h1
 | some v =>
  refine Γa (wpAny_mono h1 (λ_ s2 h2=>Γa (wpAny_mono h2 (λ_ s3 h3=>Γa (wpAny_mono h3 (λok s4 h4=>?_) no)) no)) no)
  cases ok with
  | true =>
   rw[if_pos rfl] at h4
   simp only[if_true]
   exact Γa (Γa (wpAny_mono h4 (λx s5 h5=>Γa (wpAny_mono h5 (λ_ s6 h6=>Γb (Γb ⟨rfl,h6⟩)) no)) no))
  | false =>
   rw[if_neg Γk] at h4
   simp only[Γp,if_false]
   first
    | exact Γb ⟨rfl,h4⟩
    | exact Γa (Γb (Γb ⟨rfl,h4⟩))
end
def Wk (σ σ2:St):Prop:=σ2.length=σ.length/\∀ (j:Nat)(v:V),σ[j]?=some (some v)->σ2[j]?=some (some v)
def c2w (wi:TI)(g:TG)(tt:TT)(te:TE) (own:Nat):TE:=λσ H Q=>wi σ H λJ H1=>∀ acc,H1 acc=none->∃ W:Nat->Nat->Hp->Prop,(∃ m,W 0 m (upd H1 acc (.lst [])))/\∀ i m H,W i m H ->
 (J.stop i H/\Q (.ref acc) H) ∨ (J.go i H/\∀ x H',J.yld i H x H'->g x (σ++Γj own none) H' λσ2 H2=>Wk (σ++Γj own none) σ2/\tt σ2 H2 λb H3 =>
  if b=true then te σ2 H3 λv H4=>∃ ys,H4 acc=some (.lst ys)/\ys.length<sizeLine/\∃ m',m'<m/\W (i+1) m' (upd H4 acc (.lst (ys++[v]))) else ∃ m',m'<m/\W (i+1) m' H3)
section
variable {X:Cx}{elt tg iter:Expr}{ifs:List Expr}{scope:Scope}{own:List Str}{pos:Pos}{wi:TI}{g:TG}{tt:TT}{te:TE}
theorem b3h {pins:List (Addr×Obj)}{σ:St}{H2:Hp}{s2:Shared}{Q:VK}{it:Addr}{fp:List Addr}{tn:Nat->Heap->Prop}{J:It}{RR:Value->Addr->Result->Shared->Prop}
  (hc:X.calm=true)(SC:CScope X scope own)
  (hblock:∀ C s H,PG (cxC X scope own fp C s H) tg g/\PTs (cxC X scope own fp C s H) ifs tt/\PE (cxC X scope own fp C s H) elt te)
  (I2:Inv X pins σ H2 s2)(T:Turn X.prog X.w X.K tg J fp it tn)(st2:tn 0 s2.heap)(f2:∀ b∈fp,b2b X pins H2 b)
  (h:∀ acc,H2 acc=none->∃ W:Nat->Nat->Hp->Prop,(∃ m,W 0 m (upd H2 acc (.lst [])))/\∀ i m H,W i m H ->
   (J.stop i H/\Q (.ref acc) H) ∨ (J.go i H/\∀ x H',J.yld i H x H'->g x (σ++Γj own.length none) H' λσ2 H2=>Wk (σ++Γj own.length none) σ2/\tt σ2 H2 λb H3 =>
    if b=true then te σ2 H3 λv H4=>∃ ys,H4 acc=some (.lst ys)/\ys.length<sizeLine/\∃ m',m'<m/\W (i+1) m' (upd H4 acc (.lst (ys++[v]))) else ∃ m',m'<m/\W (i+1) m' H3))
  (hRR:∀ acc C H' m s',Inv X pins σ H' s'->s'.heap.Ns C m->C≠X.env.locals->(∀ x c,X.env.cells.lookup x=some c->c≠C)->s2.heap.objs.size<=C->H' C=none->Q (.ref acc) H'->RR (.ref acc) C (.ok .next) s'){E:Value->Shared->Prop} :
  wpAny (model X.prog X.w) X.A (newList []) (λacc s3=>wpAny (model X.prog X.w) X.A (newFunctionEnv scope X.env.globals (a8w X.env.cells scope.names []) [] X.env.qual none .none (some X.env)) (λcenv s4 =>
   codeAny (model X.prog X.w) X.A (.compStart (.ListComp elt [⟨tg,iter,ifs,0⟩] scope pos) 0 (.ref it) acc { cenv with scope:=relabel scope X.env }) (RR acc cenv.locals) s4) E s3) E s2:=by
 have hacc:=I2.fresh
 have I3:Inv X pins σ (upd H2 s2.heap.objs.size (.lst [])) { s2 with heap:=s2.heap.push { cls:=.type "list",data:=.seq ([]:List Value).toArray },toks:=s2.toks }:=I2.lnew .nil (Nat.zero_le _)
 refine wpAny_newObj_type ?_
 obtain⟨W,⟨m0,w0⟩,turn⟩:=h _ hacc
 generalize hs3:({ s2 with heap:=s2.heap.push { cls:=.type "list",data:=.seq ([]:List Value).toArray },toks:=s2.toks }:Shared)=s3 at I3
 have keep23:∀ b o,s2.heap.get? b=some o->s3.heap.get? b=some o:=λb o e=>by rw[<- hs3];exact Γc _ e
 have hf3:∀ b∈fp,b2b X pins (upd H2 s2.heap.objs.size (.lst [])) b:=λb hb=>by
  obtain⟨o,ho,_⟩:=T.obj _ _ st2 b hb
  exact⟨by rw[a0e (Γo (Γl ho))];exact (f2 b hb).1,(f2 b hb).2⟩
 have st3:tn 0 s3.heap:=T.keep _ _ _ st2 λb hb o e=>keep23 b o e
 refine a5h λh4 hns' keep34 ok34=>?_
 have I4:=b2w (t4:=s3.toks+([]:List (Str×Value)).length) I3 SC hc hf3 (λb hb=>by obtain⟨o,ho,_⟩:=T.obj _ _ st3 b hb;exact⟨o,ho⟩) hns' keep34 ok34
 have st4:tn 0 h4:=T.keep _ _ _ st3 λb hb o e=>keep34 b o e
 obtain⟨hg,ht,he⟩:=hblock s3.heap.objs.size s3 (upd H2 s2.heap.objs.size (.lst []))
 have e5:(cxC X scope own fp s3.heap.objs.size s3 (upd H2 s2.heap.objs.size (.lst []))).env=compEnvC scope (cellsFrom (s3.heap.objs.size+1) scope.names (a8w X.env.cells scope.names [])) s3.heap.objs.size X.env:=rfl
 generalize hY:cxC X scope own fp s3.heap.objs.size s3 (upd H2 s2.heap.objs.size (.lst []))=Y at hg ht he I4 e5
 have fpY:∀ {H':Hp},(∀ b∈fp,H' b=none)->∀ b∈fp,b2b Y [] H' b:=λhn b hb=>by
  obtain⟨o,ho,_⟩:=T.obj _ _ st3 b hb
  refine⟨hn b hb,?_,?_,?_,?_,?_⟩
  ·rw[<- hY];exact Γo (Γl ho)
  ·have:=I4.ok.exfs b (by rw[<- hY];exact hb)
   exact this
  ·exact .inl (by rw[<- hY];exact hb)
  ·exact λx c h=>(I4.ok.exf b (by rw[<- hY];exact hb)).2 x c h
  ·intro p hp;rw[<- hY] at hp;exact absurd (show p∈([]:List (Addr×Obj)) from hp) (by simp)
 have hYp:Y.prog=X.prog/\Y.w=X.w/\Y.K=X.K/\Y.calm=true/\Y.A=X.A/\Y.xe=(λ_ _=>False)/\Y.s₀=s3/\Y.H₀=upd H2 s2.heap.objs.size (.lst [])/\Y.outer=X.stack/\Y.ex=fp:=by rw[<- hY];exact⟨rfl,rfl,rfl,hc,rfl,rfl,rfl,rfl,rfl,rfl⟩
 obtain⟨y1,y2,y3,y4,y5,y6,y7,y8,y9,y10⟩:=hYp
 have loop:∀ s5:Shared,s5 = { s3 with heap:=h4,toks:=s3.toks+([]:List (Str×Value)).length } ->
   codeAny (model X.prog X.w) X.A (.compLoop (.ListComp elt [⟨tg,iter,ifs,0⟩] scope pos) 0 (.ref it) (.ref s2.heap.objs.size) Y.env) (RR (.ref s2.heap.objs.size) s3.heap.objs.size) s5:=by
  rintro s5 rfl
  refine b4j (λn s'=>∃ i H',Inv Y [] (σ++Γj own.length none) H' s'/\tn i s'.heap/\(∀ b∈fp,H' b=none)/\W i n H') ?_ m0 ⟨0,_,I4,st4,λb hb=>(hf3 b hb).1,w0⟩
  rintro n s6 ⟨i,H6,I6,st6,fr6,w6⟩
  rcases turn i n H6 w6 with⟨stop,q⟩|⟨go,step⟩
  ·have d:=T.done Y y1 y2 y3 y4 i [] s6 _ H6 (λ_ _=>False) I6 (fpY fr6) st6 stop
   rw[y5] at d
   refine thn d λr s7 ⟨hr,I7⟩=>?_
   subst hr
   obtain⟨m,hn,_⟩:=I7.loc
   have hL:Y.env.locals=s3.heap.objs.size:=by rw[e5];rfl
   rw[hL] at hn
   have b7:=I7.base
   rw[y7,y8,y10] at b7
   have b7':Un (frs X.stack) fp (upd H2 s2.heap.objs.size (.lst [])) H6 s3.heap s7.heap:=by
    have z:Y.fs=frs X.stack:=by show frs Y.outer=_;rw[y9]
    rw[z] at b7
    exact b7
   have hok7:=I7.hok
   rw[y1,y2] at hok7
   have os7:=I7.os
   rw[y7] at os7
   have I8:Inv X pins σ H6 s7:=I3.call' os7 b7' hok7 I7.bare λb hb=>⟨(hf3 b hb).2.2.2.1,(hf3 b hb).2.1,(hf3 b hb).2.2.2.2.1,(hf3 b hb).2.2.2.2.2⟩
   have hfree:=I7.free
   rw[hL] at hfree
   refine hRR _ _ H6 m s7 I8 hn (Nat.ne_of_gt I3.lt) (λx c h z=>?_) ?_ hfree q
   ·obtain⟨v,y⟩:=I3.cell x c h
    exact absurd y.lt (by rw[z];exact Nat.lt_irrefl _)
   ·rw[<- hs3,Heap.size_push];exact Nat.le_succ _
  ·have d:=T.item Y y1 y2 y3 y4 i [] s6 _ H6 (λ_ _=>False) I6 (fpY fr6) st6 go
   rw[y5] at d
   refine thn d λr s7 ⟨u,hr,h7⟩=>?_
   subst hr
   refine thn h7 λ_ s8 ⟨x,H8,I8,r8,y8',st8,fr8⟩=>?_
   have I8':=I8.pinned (fpY fr8) (T.obj _ _ st8)
   have pinK:∀ {σ':St}{H':Hp}{s':Shared},Inv Y ([]++a5y fp s8.heap) σ' H' s'->tn (i+1) s'.heap/\∀ b∈fp,H' b=none:=λ{σ' H' s'} I' =>
    ⟨T.keep _ _ _ st8 λb hb o e=>(I'.pin (b,o) (List.mem_append_right _ (List.mem_append_right _ (a2i hb e)))).1,λb hb=>by
     obtain⟨o,e,_⟩:=T.obj _ _ st8 b hb
     exact (I'.pin (b,o) (List.mem_append_right _ (List.mem_append_right _ (a2i hb e)))).2.1⟩
   have dg:=hg _ s8 _ H8 x u _ I8' r8 (step x H8 y8')
   rw[y1,y2,y5,y6] at dg
   refine thn dg λ_ s9 ⟨σ9,H9,I9,wk,q9⟩=>?_
   have dt:=ht _ s9 σ9 H9 _ I9 q9
   rw[y1,y2,y5,y6] at dt
   refine thn dt λok s10 ⟨H10,I10,q10⟩=>?_
   cases ok with
   | true =>
    rw[if_pos rfl] at q10 ⊢
    have de:=he _ s10 σ9 H10 _ I10 q10
    rw[y1,y2,y5,y6] at de
    refine thn de λy s11 ⟨v11,H11,I11,r11,ys,hys,hz,m',hm,w11⟩=>?_
    have da:=a9k (X:=Y) _ s11 σ9 H11 (.ref s2.heap.objs.size) [v11] (.ref s2.heap.objs.size) [y] (λ_ H'=>H'=upd H11 s2.heap.objs.size (.lst (ys++[v11]))) I11 rfl (.cons r11 .nil) ⟨_,ys,v11,rfl,rfl,hys,hz,rfl⟩
    rw[y1,y2,y5,y6] at da
    refine thn da λ_ s12 ⟨v12,H12,I12,r12,e12⟩=>?_
    subst e12
    obtain⟨t12,f12⟩:=pinK I12
    exact⟨m',hm,i+1,_,(I12.unpinned).weak wk.1.symm wk.2,t12,f12,w11⟩
   | false =>
    rw[if_neg Γk] at q10 ⊢
    obtain⟨m',hm,w10⟩:=q10
    obtain⟨t10,f10⟩:=pinK I10
    exact⟨m',hm,i+1,_,(I10.unpinned).weak wk.1.symm wk.2,t10,f10,w10⟩
 rw[e5] at loop
 exact codeAny_compStart_list (loop _ rfl) (T.self _ 0 _ _ _ st4 (loop _ rfl))
theorem b5r (hc:X.calm=true)(SC:CScope X scope own)(hi:PI X.nox tg iter wi)
  (hblock:∀ fp C s H,PG (cxC X scope own fp C s H) tg g/\PTs (cxC X scope own fp C s H) ifs tt/\PE (cxC X scope own fp C s H) elt te)
  (hs:∀ x,foldedSetIterable iter X.env x=pure x:=by intro _;rfl) :
  PE X.nox (.ListComp elt [⟨tg,iter,ifs,0⟩] scope pos) (c2w wi g tt te own.length):=by
 intro pins s σ H Q I h
 have fr:∀ p∈scope.names,p.2=.free->∃ c,X.env.cells.lookup p.1=some c:=λp hp hq=>I.ok.has p.1 (SC.free p hp hq)
 rw[eval_ListComp]
 refine wpAny_comprehension_free (use:=none) rfl hs (a3v fr) SC.kind SC.names (thn (hi pins s σ H _ I h) λv s1 h1=>thn h1 λitv s2 h2=>?_)
 obtain⟨it,fp,tn,J,H2,e,I2,T,st2,f2,h2⟩:=h2
 subst e
 refine b3h (X:=X.nox) (own:=own) (RR:=λacc C=>compPost (model X.prog X.w) X.A (λ_ _=>False) none (EP X.nox pins σ Q) acc C) hc ⟨SC.kind,SC.nocell,SC.names,SC.free,SC.apart,SC.hid⟩ (λC s H=>hblock fp C s H) I2 T st2 f2 h2 ?_
 intro acc C H' m s' I' hn hL hcl hC hH q
 obtain⟨f0,f1,f2',f3,f4,f5⟩:=I2.fpOk hC hH
 refine⟨m,hn,λh' hsb=>⟨.ref acc,H',?_,rfl,q⟩⟩
 exact I'.turned (t':=s'.toks) (λb o hb e=>(hsb.2 b hb).trans e) f0 f1 f3 f4 f5
theorem b3s {i:Nat}{x:Str}{px:Pos}{spos:Pos}(hc:X.calm=true)(SC:CScope X scope own)(hN:X.N.Nodup)(hx:X.N[i]?=some x)(hl:X.env.scope.names.lookup x=some .local)(hi:PI X.nox tg iter wi)
  (hblock:∀ fp C s H,PG (cxC X scope own fp C s H) tg g/\PTs (cxC X scope own fp C s H) ifs tt/\PE (cxC X scope own fp C s H) elt te)
  (hsw:swapsWith (.ListComp elt [⟨tg,iter,ifs,0⟩] scope pos) (some (.Name x px)) spos.line X.env=pure true)
  (hs:∀ x,foldedSetIterable iter X.env x=pure x:=by intro _;rfl) :
  PS X.nox (.Assign [.Name x px] (.ListComp elt [⟨tg,iter,ifs,0⟩] scope pos) spos) (b9a (c2w wi g tt te own.length) (a5c i)):=by
 intro pins s σ H D I h
 have fr:∀ p∈scope.names,p.2=.free->∃ c,X.env.cells.lookup p.1=some c:=λp hp hq=>I.ok.has p.1 (SC.free p hp hq)
 show wpAny (model X.prog X.w) X.A (exec _ X.env) _ _ s
 rw[exec_Assign_Name_used _ _ _ _ hsw]
 refine Γa (wpAny_standAt (Γa ?_))
 show wpAny _ X.A (do let _ <- comprehension (.ListComp elt [⟨tg,iter,ifs,0⟩] scope pos) scope X.env _ (newList []) false (eval iter X.env) (some (assign (.Name x px) X.env))) _ _ s
 refine Γa (wpAny_mono (wpAny_comprehension_free (use:=some (assign (.Name x px) X.env)) (Q:=λ_ s'=>SP X.nox pins D .next s') rfl hs (a3v fr) SC.kind SC.names
  (thn (hi pins s σ H _ I h) λv s1 h1=>thn h1 λitv s2 h2=>?_)) (λ_ s' hq=>Γb (Γb hq)) λ_ _ e=>e)
 obtain⟨it,fp,tn,J,H2,e,I2,T,st2,f2,h2⟩:=h2
 subst e
 refine b3h (X:=X.nox) (own:=own) (Q:=λv H1=>a5c i v σ H1 D.nx) (RR:=λacc C=>compPost (model X.prog X.w) X.A (λ_ _=>False) (some (assign (.Name x px) X.env)) (λ_ s'=>SP X.nox pins D .next s') acc C) hc ⟨SC.kind,SC.nocell,SC.names,SC.free,SC.apart,SC.hid⟩ (λC s H=>hblock fp C s H) I2 T st2 f2 h2 ?_
 intro acc C H' m s' I' hn hL hcl hC hH q
 obtain⟨f0,f1,f2',f3,f4,f5⟩:=I2.fpOk hC hH
 show wpAny (model X.prog X.w) X.A (assign (.Name x px) X.env (.ref acc)) _ _ s'
 refine wpAny_assign_Name (a5v (X:=X.nox) I' hN hx (.inl hl) (v:=.ref acc) rfl (λs'' I'' hch=>?_) (.inr hl))
 obtain⟨a,hsa,ha⟩:=hch
 have hCa:C≠a:=by
  rcases ha with z|z
  ·rw[z];exact hL
  ·exact λy=>hcl x a z y.symm
 refine⟨m,hn.sameBut hsa hCa,λh' hsb=>?_⟩
 exact⟨_,H',I''.turned (t':=s''.toks) (λb o hb e=>(hsb.2 b hb).trans e) f0 f1 f3 f4 f5,q⟩
end
end L2
end
section
namespace L2
open PySem PySem.Spec PyProof.Rows
section
variable {X:Cx}{pins:List (Addr×Obj)}{σ:St}{H:Hp}{s:Shared}{h':Heap}
theorem Inv.turnedNew {t':Nat}{ch:List Addr}{p:Addr}{o:HO}(I:Inv X pins σ H s)(hp:s.heap.objs.size<=p)(k:∀ b ob,b ∉ ch->s.heap.get? b=some ob->h'.get? b=some ob)(hf:∀ b∈ch,b2b X pins H b)
  (new:ObjOk X.prog X.w (upd H p o) h' p o):Inv X pins σ (upd H p o) { s with heap:=h',toks:=t' }:=by
 have hn:H p=none:=I.hok.fresh hp
 have nit:∀ b u,H b=some u->b ∉ ch:=λb u e z=>by rw[(hf b z).1] at e;cases e
 have nep:∀ {b ob},s.heap.get? b=some ob->b≠p:=λe=>Γo (Nat.lt_of_lt_of_le (Γl e) hp)
 refine I.step (g':=s.gens) (d':=s.drawn) (ch:=ch) (λb hb=>⟨(hf b hb).2.2.2.1,(hf b hb).2.1,(hf b hb).2.2.2.2.1,(hf b hb).2.2.2.2.2⟩) (λb ob _ _ hc e _=>k b ob hc e) (λb ob _ _ hc e _=>⟨ob.slots,k b ob hc e⟩)
  (λb ob hc e n=>by rw[a0e (nep e)];exact n) (λb ob hc e=>⟨ob,k b ob hc e⟩) (λb xs e=>by rw[a0e (a0t e hn)];exact e) (λb u xs e=>by rw[a0e (a0t e hn)];exact e)
  (λb ps e=>⟨#[],by rw[a0e (a0t e hn),e];simp⟩) (λm hm=>?_) (λb u e=>?_) I.bare
 ·obtain⟨ob,es,ep,ho,r⟩:=hm
  exact⟨ob,es,ep,k _ ob (λz=>(hf _ z).2.1 rfl) ho,r⟩
 ·by_cases hb:b=p
  ·subst hb;rw[a0d] at e;cases e;exact new
  ·rw[a0e hb] at e
   refine (I.hok b u e).stay (λc v hc q=>k c v ?_ q) (λc q=>by rw[a0e (a0t q hn)];exact q) λc xs q=>by rw[a0e (a0t q hn)];exact q
   rcases hc with z|z
   ·rw[z];exact nit b u e
   ·exact nit c _ z
theorem Inv.turnedL {t':Nat}{ch:List Addr}(I:Inv X pins σ H s)(k:∀ b ob,b ∉ ch->s.heap.get? b=some ob->h'.get? b=some ob)(hf:∀ b∈ch,b2b X pins H b):Inv X pins σ H { s with heap:=h',toks:=t' }:=by
 have nit:∀ b u,H b=some u->b ∉ ch:=λb u e z=>by rw[(hf b z).1] at e;cases e
 refine I.step (g':=s.gens) (d':=s.drawn) (ch:=ch) (λb hb=>⟨(hf b hb).2.2.2.1,(hf b hb).2.1,(hf b hb).2.2.2.2.1,(hf b hb).2.2.2.2.2⟩) (λb ob _ _ hc e _=>k b ob hc e) (λb ob _ _ hc e _=>⟨ob.slots,k b ob hc e⟩)
  (λ_ _ _ _ n=>n) (λb ob hc e=>⟨ob,k b ob hc e⟩) (λ_ _ e=>e) (λ_ _ _ e=>e) (λb ps e=>⟨#[],by rw[e];simp⟩) (λm hm=>?_) (λb u e=>?_) I.bare
 ·obtain⟨ob,es,ep,ho,r⟩:=hm
  exact⟨ob,es,ep,k _ ob (λz=>(hf _ z).2.1 rfl) ho,r⟩
 ·refine (I.hok b u e).stay (λc v hc q=>k c v ?_ q) (λ_ q=>q) λ_ _ q=>q
  rcases hc with z|z
  ·rw[z];exact nit b u e
  ·exact nit c _ z
end
end L2
end
section
namespace L2
open PySem PySem.Spec PyProof.Rows
def SeqB (b:Bool)(h:Heap)(l:Addr)(xs:Array Value):Prop:=match b with|true=>h.IsList l xs|false=>h.IsTuple l xs
def IterB (b:Bool)(h:Heap)(it l:Addr) (i:Nat):Prop:=match b with|true=>h.IsListIter it l i|false=>h.IsTupleIter it l i
def b6w (b:Bool):String:=match b with|true=>"list_iterator" | false=>"tuple_iterator"
section
variable {b:Bool}{h h':Heap}{it l c:Addr}{i:Nat}{xs:Array Value}
theorem SeqB.push {o:Obj}(x:SeqB b h l xs):SeqB b (h.push o) l xs:=by
 cases b
 ·exact Heap.IsTuple.push x o
 ·exact Heap.IsList.push x o
theorem IterB.move (x:IterB b h it l i)(e:Heap.ExtBut c h h')(n:it≠c):IterB b h' it l i:=by
 cases b
 ·exact Heap.IsTupleIter.extBut x e n
 ·exact Heap.IsListIter.extBut x e n
theorem IterB.to (x:IterB b h it l i)(k:∀ o,h.get? it=some o->h'.get? it=some o):IterB b h' it l i:=by
 cases b<;>(obtain⟨o,e,r⟩:=x;exact⟨o,k o e,r⟩)
theorem IterB.obj (x:IterB b h it l i):∃ o,h.get? it=some o/\∀ v,o.data≠.cell v:=by
 cases b<;>(obtain⟨o,e,_,d⟩:=x;exact⟨o,e,λv z=>by rw[d] at z;cases z⟩)
theorem IterB.lt (x:IterB b h it l i):it<h.objs.size:=let ⟨_,e,_⟩:=x.obj;Γl e
end
section
variable {P:Program}{w:World}{A:Around}{E:Value->Shared->Prop}{s:Shared}{b:Bool}{it l:Addr}{i:Nat}{xs:Array Value}{Q:Value->Shared->Prop}
theorem c4v (x:SeqB b s.heap l xs)(q:Q (.ref s.heap.objs.size) { s with heap:=s.heap.push { cls:=.type (b6w b),data:=.fields #[.ref l,.int 0 0] } }):wpAny (model P w) A (pyIter (.ref l)) Q E s:=by
 cases b
 ·exact wpAny_pyIter_tuple x q
 ·exact wpAny_pyIter_list x q
theorem d5k {x:Value}(hi:s.heap.IsTupleIter it l i)(hl:s.heap.IsTuple l xs)(hx:xs[i]?=some x)(q:∀ h',h'.IsTupleIter it l (i+1)->Heap.SameBut it s.heap h'->Q x { s with heap:=h' }):wpAny (model P w) A (Builtin.SmallTypes.nextOf (.ref it)) Q E s:=by
 obtain⟨oi,ei,ci,di⟩:=id hi
 obtain⟨os,es,_,ns,ds⟩:=hl
 unfold Builtin.SmallTypes.nextOf
 refine Γa (wpAny_callSpecial?_slot (name:=Γe "__next__") hi.typeIs F.slot_tuple_iterator_next (wpAny_call_entry F.slot_tuple_iterator_next hi.typeIs F.entry_tuple_iterator_next ?_ (F.args_tuple_iterator_next_1 _)))
 show wpAny _ _ (field (.ref it) 0 >>= _) _ _ s;refine Γa (wpAny_field ei di (x:=.ref l) rfl ?_)
 show wpAny _ _ (if (Value.ref l == Value.none)=true then _ else _) _ _ s;rw[if_neg (show ¬ ((Value.ref l == Value.none)=true) from Γk)]
 show wpAny _ _ (field (.ref it) 1 >>= _) _ _ s;refine Γa (wpAny_field ei di (x:=.int i 0) rfl ?_)
 show wpAny _ _ (seqItems? (.ref l) >>= _) _ _ s;refine Γa (wpAny_seqItems es ds ?_)
 simp only[Int.toNat_natCast,hx]
 refine Γa (wpAny_setField ei di (by simp) (Γb ⟨x,rfl,Γb (q _ ⟨_,Heap.get?_update_self _ ei (Obj.isFreed_of_fields (Obj.data_mapFields di _)),(Obj.cls_mapFields ..).trans ci,?_⟩ (Heap.SameBut.update ..))⟩))
 rw[Obj.data_mapFields di];simp[rawInt]
theorem d3o (hh:A.handled=none)(hi:s.heap.IsTupleIter it l i)(hl:s.heap.IsTuple l xs)(hx:xs[i]?=none)
  (q:∀ h' e,Heap.ExtBut it s.heap h'->(∃ o,h'.get? e=some o/\o.cls=.type "StopIteration")->E (.ref e) { s with heap:=h' }):wpAny (model P w) A (Builtin.SmallTypes.nextOf (.ref it)) Q E s:=by
 obtain⟨oi,ei,ci,di⟩:=id hi
 obtain⟨os,es,_,ns,ds⟩:=hl
 unfold Builtin.SmallTypes.nextOf
 refine Γa (wpAny_callSpecial?_slot (name:=Γe "__next__") hi.typeIs F.slot_tuple_iterator_next (wpAny_call_entry F.slot_tuple_iterator_next hi.typeIs F.entry_tuple_iterator_next ?_ (F.args_tuple_iterator_next_1 _)))
 show wpAny _ _ (field (.ref it) 0 >>= _) _ _ s;refine Γa (wpAny_field ei di (x:=.ref l) rfl ?_)
 show wpAny _ _ (if (Value.ref l == Value.none)=true then _ else _) _ _ s;rw[if_neg (show ¬ ((Value.ref l == Value.none)=true) from Γk)]
 show wpAny _ _ (field (.ref it) 1 >>= _) _ _ s;refine Γa (wpAny_field ei di (x:=.int i 0) rfl ?_)
 show wpAny _ _ (seqItems? (.ref l) >>= _) _ _ s;refine Γa (wpAny_seqItems es ds ?_)
 simp only[Int.toNat_natCast,hx]
 refine Γa (wpAny_rule (Γa (wpAny_setField ei di (by simp) ?_)));show wpAny _ _ (newExc (.type "StopIteration") [] >>= _) _ _ _
 refine Γa ?_;simp only[newExc,newTuple]
 refine Γa (wpAny_newObj_type ?_ (by size_fits));refine Γa (m:=firstArgMember _ _) (wpAny_of_eq (a:=Value.none) (by first|rfl|(simp only[firstArgMember];rfl)) ?_)
 refine wpAny_newObj_type ?_ (by size_fits);simp only[raiseNew];refine Γa (wpAny_handled ?_)
 first|rw[show A.in1.handled=none from hh]|rw[hh]
 exact Γa (Γb (wpAny_throw (q _ _ (((Heap.SameBut.update ..).extBut.push _).push _) ⟨_,Γm _ rfl,rfl⟩)))
theorem d5l {x:Value}(hi:IterB b s.heap it l i)(hl:SeqB b s.heap l xs)(hx:xs[i]?=some x)(q:∀ h',IterB b h' it l (i+1)->Heap.SameBut it s.heap h'->Q x { s with heap:=h' }):wpAny (model P w) A (Builtin.SmallTypes.nextOf (.ref it)) Q E s:=by
 cases b
 ·exact d5k hi hl hx q
 ·exact wpAny_nextOf_list_item hi hl hx q
theorem d3p (hh:A.handled=none)(hi:IterB b s.heap it l i)(hl:SeqB b s.heap l xs)(hx:xs[i]?=none)
  (q:∀ h' e,Heap.ExtBut it s.heap h'->(∃ o,h'.get? e=some o/\o.cls=.type "StopIteration")->E (.ref e) { s with heap:=h' }):wpAny (model P w) A (Builtin.SmallTypes.nextOf (.ref it)) Q E s:=by
 cases b
 ·exact d3o hh hi hl hx q
 ·exact wpAny_nextOf_list_end hh hi hl hx q
end
section
variable {P:Program}{w:World}{A:Around}{E:Value->Shared->Prop}{s:Shared}{p q:Bool}{z TI TO i1 i2 l1 l2:Addr}{k1 k2:Nat}{xs ys:Array Value}{x y a b:Value}
end
abbrev zb1 (p:Bool)(h:Heap)(l1:Addr):Heap:=h.push { cls:=.type (b6w p),data:=.fields #[.ref l1,.int 0 0] }
section
variable {P:Program}{w:World}{A:Around}{E:Value->Shared->Prop}{s:Shared}
end
end L2
end
section
namespace L2
open PySem PySem.Spec PyProof.Rows
open AutoSeq1 (wpAny_loadPart')
section
variable {P:Program}{w:World}{A:Around}{E:Value->Shared->Prop}{s:Shared}{p:Bool}{e it l:Addr}{i:Nat}{xs:Array Value}{x old:Value}
theorem b4h {Q:Value->Shared->Prop}(ee:IsEnum s.heap e it i old)(t1:IterB p s.heap it l i)(m1:SeqB p s.heap l xs)(ex:xs[i]?=some x)(ne:e≠it)
  (K:∀ h',IsEnumOut h' e it ((i:Int)+1) x s.heap.objs.size->IterB p h' it l (i+1)->h'.get? s.heap.objs.size=some { cls:=.type "tuple",data:=.seq #[.int i s.toks,x] } ->
   (∀ b o,b≠e->b≠it->s.heap.get? b=some o->h'.get? b=some o)->Q (.ref s.heap.objs.size) { s with heap:=h',toks:=s.toks+1 }) :
  wpAny (model P w) A (Builtin.«enumerate.__next__» ⟨[.ref e],[]⟩) (λfin s'=>∃ v,fin=.done (.ret v)/\Q v s') E s:=by
 obtain⟨hp,g,d,tk,os⟩:=s
 show wpAny _ _ (field (.ref e) 2 >>= _) _ _ _;refine Γa (wpAny_field ee rfl (x:=.ref it) rfl (Γa (d5l t1 m1 ex λg1 t11 b1=>?_)))
 replace b1:Heap.SameBut it hp g1:=b1
 have e1:IsEnum g1 e it i old:=(b1.2 e ne).trans ee
 show wpAny _ _ (field (.ref e) 3 >>= _) _ _ ⟨g1,g,d,tk,os⟩;refine Γa (wpAny_field e1 rfl (x:=rawInt i) rfl ?_)
 show wpAny _ _ (field (.ref e) 4 >>= _) _ _ ⟨g1,g,d,tk,os⟩;refine Γa (wpAny_field e1 rfl (x:=.none) rfl ?_)
 show wpAny _ _ (mkInt i >>= _) _ _ ⟨g1,g,d,tk,os⟩;refine Γa (wpAny_mkInt ?_)
 show wpAny _ _ (setField (.ref e) 3 (rawInt ((i:Int)+1)) >>= _) _ _ ⟨g1,g,d,tk+1,os⟩;refine Γa (wpAny_setField_rec e1 (by simp) λg2 e2 b2=>?_)
 replace b2:Heap.SameBut e g1 g2:=b2
 replace e2:IsEnum g2 e it ((i:Int)+1) old:=e2
 show wpAny _ _ (setField (.ref e) 4 .none >>= _) _ _ ⟨g2,g,d,tk+1,os⟩;refine Γa (wpAny_setField_rec e2 (by simp) λg3 e3 b3=>?_)
 replace b3:Heap.SameBut e g2 g3:=b3
 replace e3:IsEnum g3 e it ((i:Int)+1) old:=e3
 show wpAny _ _ (newTuple [.int i tk,x] >>= _) _ _ ⟨g3,g,d,tk+1,os⟩;refine Γa (wpAny_newTuple ?_)
 have e4:IsEnum (g3.push { cls:=.type "tuple",data:=.seq #[.int i tk,x] }) e it ((i:Int)+1) old:=Γc _ e3
 generalize hg4:g3.push { cls:=.type "tuple",data:=.seq #[.int i tk,x] } = g4 at e4
 have sz:g3.objs.size=hp.objs.size:=by rw[b3.1,b2.1,b1.1]
 have el:e<hp.objs.size:=Γl ee
 have t4:g4.get? hp.objs.size=some { cls:=.type "tuple",data:=.seq #[.int i tk,x] }:=by rw[<- hg4,<- sz];exact Γm _ rfl
 have k4:∀ b o,b≠e->b≠it->hp.get? b=some o->g4.get? b=some o:=λb o c1 c2 h=>by rw[<- hg4];exact Γc _ (b3.extBut b o c1 (b2.extBut b o c1 (b1.extBut b o c2 h)))
 have i4:IterB p g4 it l (i+1):=by
  rw[<- hg4];exact ((t11.move b2.extBut (Ne.symm ne)).move b3.extBut (Ne.symm ne)).to λo h=>Γc _ h
 show wpAny _ _ (Builtin.SmallTypes.ownedTupleIsFree (.ref e) >>= _) _ _ ⟨g4,g,d,tk+1,os⟩
 rw[sz]
 clear hg4 e3 b3 e2 b2 e1 b1 t11 sz g3 g2 g1
 refine Γa ?_;unfold Builtin.SmallTypes.ownedTupleIsFree
 refine Γa (wpAny_field e4 rfl (x:=.none) rfl (Γb ?_));simp only[if_true]
 refine Γa (wpAny_rule (Γa (wpAny_field e4 rfl (x:=old) rfl (Γa (wpAny_setField_rec e4 (by simp) λg5 e5 b5=>?_)))))
 replace b5:Heap.SameBut e g4 g5:=b5
 replace e5:IsEnum g5 e it ((i:Int)+1) x:=e5
 show wpAny _ _ (Builtin.SmallTypes.ownedTupleHandOut (.ref e) (.ref hp.objs.size) >>= _) _ _ ⟨g5,g,d,tk+1,os⟩;refine Γa ?_;unfold Builtin.SmallTypes.ownedTupleHandOut
 refine Γa (wpAny_setField_rec e5 (by simp) λg6 e6 b6=>?_)
 replace b6:Heap.SameBut e g5 g6:=b6
 replace e6:IsEnumOut g6 e it ((i:Int)+1) x hp.objs.size:=e6
 refine wpAny_setField_rec e6 (by simp) λg7 e7 b7=>?_
 replace b7:Heap.SameBut e g6 g7:=b7
 replace e7:IsEnumOut g7 e it ((i:Int)+1) x hp.objs.size:=e7
 refine Γa (wpAny_letGo (Γb ⟨_,rfl,K g7 e7 (((i4.move b5.extBut (Ne.symm ne)).move b6.extBut (Ne.symm ne)).move b7.extBut (Ne.symm ne)) ?_ λb o c1 c2 h=>b7.extBut b o c1 (b6.extBut b o c1 (b5.extBut b o c1 (k4 b o c1 c2 h)))⟩))
 exact b7.extBut _ _ (Nat.ne_of_gt el) (b6.extBut _ _ (Nat.ne_of_gt el) (b5.extBut _ _ (Nat.ne_of_gt el) t4))
theorem b4g {Q:Option Value->Shared->Prop}(ee:IsEnum s.heap e it i old)(t1:IterB p s.heap it l i)(m1:SeqB p s.heap l xs)(ex:xs[i]?=some x)(ne:e≠it)
  (K:∀ h',IsEnumOut h' e it ((i:Int)+1) x s.heap.objs.size->IterB p h' it l (i+1)->h'.get? s.heap.objs.size=some { cls:=.type "tuple",data:=.seq #[.int i s.toks,x] } ->
   (∀ b o,b≠e->b≠it->s.heap.get? b=some o->h'.get? b=some o)->Q (some (.ref s.heap.objs.size)) { s with heap:=h',toks:=s.toks+1 }):wpAny (model P w) A (pyNext (.ref e)) Q E s:=by
 have ty:s.TypeIs (.ref e) "enumerate":=⟨_,ee,rfl⟩
 unfold pyNext
 exact Γa (wpAny_attempt (wpAny_callSpecial?_slot (name:=Γe "__next__") ty F.slot_enumerate_next (wpAny_call_entry F.slot_enumerate_next ty F.entry_enumerate_next (b4h ee t1 m1 ex ne λh' a b c d=>Γb (K h' a b c d)) (F.args_enumerate_next_1 _))))
theorem b4f {Q:Option Value->Shared->Prop}(hh:A.handled=none)(ee:IsEnum s.heap e it i old)(t1:IterB p s.heap it l i)(m1:SeqB p s.heap l xs)(ex:xs[i]?=none)(K:∀ h',Heap.ExtBut it s.heap h'->Q none { s with heap:=h' }):wpAny (model P w) A (pyNext (.ref e)) Q E s:=by
 have ty:s.TypeIs (.ref e) "enumerate":=⟨_,ee,rfl⟩
 unfold pyNext
 refine Γa (wpAny_attempt (wpAny_callSpecial?_slot (name:=Γe "__next__") ty F.slot_enumerate_next (wpAny_call_entry F.slot_enumerate_next ty F.entry_enumerate_next ?_ (F.args_enumerate_next_1 _))))
 show wpAny _ _ (field (.ref e) 2 >>= _) _ _ _;refine Γa (wpAny_field ee rfl (x:=.ref it) rfl (Γa (d3p hh t1 m1 ex λh' v k hv=>?_)))
 obtain⟨o,e1,e2⟩:=hv
 exact Γa (wpAny_isInstance (T:="StopIteration") (b:=true) ⟨o,e1,e2⟩ isSubtype_stop (Γb (K _ k)))
end
theorem b1j (p:Bool)(l:Addr)(xs:Array Value) :
  Meets (Builtin.«enumerate.__new__» ⟨[.type "enumerate",.ref l],[]⟩) (λ_ R s=>SeqB p s.heap l xs /\
   R (.ok (.ret (.ref (zb1 p s.heap l).objs.size))) { s with heap:=(zb1 p s.heap l).push { cls:=.type "enumerate",data:=.fields #[.none,.bool false,.ref s.heap.objs.size,rawInt 0,.none,.none] } }) :=
 .of_wp λprog w A R s h=>by
  obtain⟨hp,g,d,tk,os⟩:=s;obtain⟨m1,h⟩:=h
  have hsub:=sub_enumerate
  have M1:SeqB p (Shared.heap ⟨hp,g,d,tk,os⟩) l xs:=m1
  have hob:∃ o,hp.get? l=some o:=by cases p<;>(obtain⟨o,e,_⟩:=m1;exact⟨o,e⟩)
  obtain⟨ob,hl⟩:=hob
  wp_walk using wpAny_loadPart' hl
  refine wpAny_stack_any λst=>Γb ?_
  split
  ·rename_i c _ _ _ _ _
   cases (c == Value.type "enumerate")
   ·wp_walk using wpAny_loadPart' hl,c4v M1
    exact⟨_,rfl,h⟩
   ·wp_walk using wpAny_loadPart' hl,c4v M1
    exact⟨_,rfl,h⟩
  ·wp_walk using wpAny_loadPart' hl,c4v M1
   exact⟨_,rfl,h⟩
section
variable {P:Program}{w:World}{A:Around}{E:Value->Shared->Prop}{s:Shared}
theorem b4n {p:Bool}{l:Addr}{xs:Array Value}{Q:Value->Shared->Prop}(m1:SeqB p s.heap l xs)
  (K:∀ h',IsEnum h' (s.heap.objs.size+1) s.heap.objs.size 0 .none->IterB p h' s.heap.objs.size l 0->(∀ b o,s.heap.get? b=some o->h'.get? b=some o)->Q (.ref (s.heap.objs.size+1)) { s with heap:=h' }) :
  wpAny (model P w) A (call (.type "enumerate") [.ref l]) Q E s:=by
 refine callType_new F.called_enumerate (by decide) (F.typeCall_enumerate_1 _) (F.newCall_enumerate_1 _) (λobj=>F.args_object_init_2 obj _) F.entry_enumerate_new (b1j p l xs) ⟨m1,?_⟩
 have z1:(zb1 p s.heap l).objs.size=s.heap.objs.size+1:=Heap.size_push ..
 show _/\_
 rw[z1]
 have f2:IsEnum ((zb1 p s.heap l).push { cls:=.type "enumerate",data:=.fields #[.none,.bool false,.ref s.heap.objs.size,rawInt 0,.none,.none] }) (s.heap.objs.size+1) s.heap.objs.size 0 .none:=by
  have:=Γm (zb1 p s.heap l) (o:={ cls:=.type "enumerate",data:=.fields #[.none,.bool false,.ref s.heap.objs.size,rawInt 0,.none,.none] }) rfl
  rw[z1] at this;exact this
 refine⟨⟨_,f2,rfl⟩,K _ f2 ?_ λb o x=>Γc _ (Γc _ x)⟩
 cases p<;>exact⟨_,Γc _ (Γm _ rfl),rfl,rfl⟩
end
def SqB (b:Bool)(K:Γd)(H:Hp)(a:Addr)(xs:List V):Prop:=match b with|true=>SqL K H a xs|false=>SqT K H a xs
section
variable {X:Cx}{pins:List (Addr×Obj)}{σ:St}{H:Hp}{s:Shared}{a:Addr}{xs ys:List V}{b:Bool}
theorem Inv.seqB (I:Inv X pins σ H s)(h:SqB b X.K H a xs):∃ its:List Value,Vals xs its/\SeqB b s.heap a its.toArray/\xs.length=its.length:=by
 cases b
 ·obtain⟨its,r,q,_⟩:=I.tuple h
  exact⟨its,r,q,r.length⟩
 ·obtain⟨its,r,q,_⟩:=I.list h
  exact⟨its,r,q.isList,r.length⟩
theorem Inv.seqB_inj (I:Inv X pins σ H s)(h:SqB b X.K H a xs)(h':SqB b X.K H a ys):xs=ys:=by
 cases b
 ·exact I.tuple_inj h h'
 ·exact I.list_inj h h'
end
def Ien (K:Γd) (p:Bool) (a:Addr):It :=
  ⟨λi H=>∃ xs x,SqB p K H a xs/\xs[i]?=some x,
   λi H v H'=>∃ c,H c=none/\v=.ref c/\∀ xs x,SqB p K H a xs->xs[i]?=some x->H'=upd H c (.tup [.int i,x]),
   λi H=>∃ xs,SqB p K H a xs/\xs.length<=i⟩
theorem c2u {P:Program}{w:World}{K:Γd}{p:Bool}{elts:List Expr}{k:Nat}{pos:Pos}{a e it:Addr}(ne:e≠it) :
  Turn P w K (.Tuple elts k pos) (Ien K p a) [e,it] e (λi h=>(∃ old,IsEnum h e it i old)/\IterB p h it a i) where
 mem:=by simp
 obj:=λi h st c hc=>by
  obtain⟨⟨old,ee⟩,t1⟩:=st
  simp only[List.mem_cons,List.not_mem_nil,or_false] at hc
  rcases hc with rfl|rfl
  ·exact⟨_,ee,λv z=>by cases z⟩
  ·exact t1.obj
 keep:=λi h h' st kk=>by
  obtain⟨⟨old,ee⟩,t1⟩:=st
  exact⟨⟨old,kk e (by simp) _ ee⟩,t1.to λo q=>kk it (by simp) o q⟩
 item:=by
  intro X hP hw hK hc i pins s σ H E I hf st hg
  subst hP hw hK
  obtain⟨xs,x,q1,hx⟩:=hg
  obtain⟨⟨old,ee⟩,t1⟩:=st
  obtain⟨its,rv,m1,_⟩:=I.seqB q1
  obtain⟨u,hu,ru⟩:=rv.get hx
  refine b4g ee t1 m1 (x:=u) (by simpa using hu) ne λh' a1 a2 a3 hk=>?_
  refine⟨_,rfl,wpAny_letOwnedTupleGo_enum a1 λh'' z'' hs''=>?_⟩
  have szn:e≠s.heap.objs.size:=Γo (Γl ee)
  have T'':=hs''.extBut _ _ (Ne.symm szn) a3
  have I1:Inv X pins σ (upd H s.heap.objs.size (.tup [.int i,x])) { s with heap:=h'',toks:=s.toks+1 }:=I.turnedNew (t':=s.toks+1) (ch:=[e,it]) (Γi _)
   (λc ob hc q=>by simp only[List.mem_cons,List.not_mem_nil,or_false,not_or] at hc;exact hs''.extBut _ _ hc.1 (hk c ob hc.1 hc.2 q))
   (λc hc=>hf c hc) ⟨by show 2<=sizeLine;decide,[.int i s.toks,u],.cons ⟨_,rfl⟩ (.cons ru .nil),⟨_,T'',rfl,_,rfl⟩⟩
  refine⟨.ref s.heap.objs.size,_,I1,rfl,⟨_,I.fresh,rfl,λxs' x' r1 hx'=>?_⟩,⟨⟨_,z''⟩,a2.move hs''.extBut (Ne.symm ne)⟩,λc hc=>?_⟩
  ·have e1:=I.seqB_inj r1 q1
   subst e1
   rw[hx] at hx';cases hx';rfl
  ·have:c≠s.heap.objs.size:=by
    have hlt:c<s.heap.objs.size:=by
     simp only[List.mem_cons,List.not_mem_nil,or_false] at hc
     rcases hc with rfl|rfl
     ·exact Γl ee
     ·exact t1.lt
    exact Γo hlt
   rw[a0e this];exact (hf c hc).1
 done:=by
  intro X hP hw hK hc i pins s σ H E I hf st hg
  subst hP hw hK
  obtain⟨xs,q1,hx⟩:=hg
  obtain⟨⟨old,ee⟩,t1⟩:=st
  obtain⟨its,rv,m1,l1⟩:=I.seqB q1
  refine b4f (I.ok.hd hc) ee t1 m1 (by simp;lia) λh' hk=>⟨rfl,?_⟩
  exact I.turnedL (t':=s.toks) (ch:=[it]) (λc ob hc q=>hk c ob (by simpa using hc) q) (λc hc=>hf c (by simp at hc;simp[hc]))
 self:=λ_ _ _ _ _ st h=>wpAny_pyIter_enum st.1.choose_spec h
section
variable {X:Cx}
def iEn (K:Γd)(ta:TA):TI:=λσ H R=>ta σ H λvs H1=>∃ p a,vs=[.ref a]/\(∃ xs,SqB p K H1 a xs)/\R (Ien K p a) H1
theorem c8d {elts:List Expr}{k:Nat}{tp:Pos}{e1:Expr}{ta:TA}{p pos:Pos}(hg:Gl X "enumerate")(hm:X.mg "enumerate" = none)(ha:PA X [e1] ta)(hs:starEach [e1] X.env=[(false,eval e1 X.env)]) :
  PI X (.Tuple elts k tp) (.Call (.Name "enumerate" p) [e1] [] pos) (iEn X.K ta):=by
 intro pins s σ H R I h
 refine wpAny_Call_Name_kw (a9r I hg hm PyProof.Rows.boot_enumerate ?_ (by decide) (by decide))
 refine PyProof.Rows.callWith_type1 (thn (ha pos pins s σ H _ I h) λus s1 ⟨vs,H1,I1,r1,q1⟩=>?_) (by rw[hs];rfl) rfl
 obtain⟨p,a,e,⟨xs,hq1⟩,kk⟩:=q1
 subst e
 obtain⟨u1,rfl,ra⟩:=a3e r1
 cases ra
 obtain⟨its,rv,m1,_⟩:=I1.seqB hq1
 refine b4n m1 λh' ee t1 hk=>wpAny_pyIter_enum ee ?_
 have I2:Inv X pins σ H1 { s1 with heap:=h' }:=I1.kept (t':=s1.toks) λc o e=>hk c o e
 refine⟨_,_,_,Ien X.K p a,H1,rfl,I2,c2u (Nat.ne_of_gt (Nat.lt_succ_self _)),⟨⟨_,ee⟩,t1⟩,λc hc=>?_,kk⟩
 have hge:s1.heap.objs.size<=c:=by
  simp only[List.mem_cons,List.not_mem_nil,or_false] at hc
  rcases hc with rfl|rfl<;>first|exact Γi _|exact Nat.le_add_right _ _
 exact I1.fpOk hge (I1.hok.fresh hge)
end
end L2
end
section
namespace L2
open PySem PySem.Spec PyProof.Rows
section
variable {prog:Program}{w:World}{A:Around}{R:Result->Shared->Prop}{s:Shared}
theorem b1v {kx vx target iter:Expr}{ifs:List Expr}{scope:Scope}{pos:Pos}{it:Value}{D:Addr}{env:Env}(I:Nat->Shared->Prop)
  (turn:∀ n s,I n s->wpAny (model prog w) A (pyNext it) (λr s1=>match r with
   | none=>R (.ok .next) s1
   | some v=>wpAny (model prog w) A (letOwnedTupleGo target it v) (λ_ s2=>wpAny (model prog w) A (assign target env v) (λ_ s3=>wpAny (model prog w) A (a7u ifs env) (λok s4 =>
     if ok=true then wpAny (model prog w) A (eval kx env) (λkv s5=>wpAny (model prog w) A (eval vx env) (λvv s6=>wpAny (model prog w) A (dictSet D kv vv) (λ_ s7=>∃ m,m<n/\I m s7) (λ_ _=>False) s6) (λ_ _=>False) s5) (λ_ _=>False) s4
     else ∃ m,m<n/\I m s4) (λ_ _=>False) s3) (λ_ _=>False) s2) (λ_ _=>False) s1) (λ_ _=>False) s)
  (n:Nat)(h:I n s):codeAny (model prog w) A (.compLoop (.DictComp kx vx [⟨target,iter,ifs,0⟩] scope pos) 0 it (.ref D) env) R s:=by
 refine codeAny_loop rfl I (λn s hI=>?_) n h
 show wpAny _ A ((compTurn (.DictComp kx vx [⟨target,iter,ifs,0⟩] scope pos) 0 it (.ref D) env).onRaise (λx=>do noteFrame x env;theTreesLotGoes x)) _ _ s
 refine wpAny_noted ?_
 rw[compTurn_dict]
 have no:∀ (e:Value)(s':Shared),(λ(_:Value)(_:Shared)=>False) e s'->notedBy (model prog w) A env (λe s'=>R (.error e) s') e s':=λ_ _ z=>z.elim
 refine Γa (wpAny_standAt (Γa (wpAny_mono (turn n s hI) (λr s1 h1=>?_) no)))
 cases r with
 | none=>exact Γb h1
 | some v =>
  refine Γa (wpAny_mono h1 (λ_ s2 h2=>Γa (wpAny_mono h2 (λ_ s3 h3=>Γa (wpAny_mono h3 (λok s4 h4=>?_) no)) no)) no)
  cases ok with
  | true =>
   rw[if_pos rfl] at h4
   simp only[if_true]
   exact Γa (Γa (wpAny_mono h4 (λkv s5 h5=>Γa (Γg (wpAny_mono h5 (λvv s6 h6=>Γa (wpAny_standAt (Γg (wpAny_mono h6 (λ_ s7 h7=>Γb ⟨rfl,h7⟩) no)))) no))) no))
  | false =>
   rw[if_neg Γk] at h4
   simp only[Γp,if_false]
   first
    | exact Γb ⟨rfl,h4⟩
    | exact Γa (Γb (Γb ⟨rfl,h4⟩))
end
def b4y (wi:TI)(g:TG)(tt:TT)(tk tv:TE) (own:Nat):TE:=λσ H Q=>wi σ H λJ H1=>∀ acc,H1 acc=none->∃ W:Nat->Nat->Hp->Prop,(∃ m,W 0 m (upd H1 acc (.dT [])))/\∀ i m H,W i m H ->
 (J.stop i H/\Q (.ref acc) H) ∨ (J.go i H/\∀ x H',J.yld i H x H'->g x (σ++Γj own none) H' λσ2 H2=>Wk (σ++Γj own none) σ2/\tt σ2 H2 λb H3 =>
  if b=true then tk σ2 H3 λy H4=>tv σ2 H4 λv H5=>∃ kvs k b,H5 acc=some (.dT kvs)/\y=.ref b/\H5 b=some (.tup (k.map kV))/\kvs.length<sizeLine/\∃ m',m'<m/\W (i+1) m' (upd H5 acc (.dT (a3z kvs k v))) else ∃ m',m'<m/\W (i+1) m' H3)
section
variable {X:Cx}{kx vx tg iter:Expr}{ifs:List Expr}{scope:Scope}{own:List Str}{pos:Pos}{wi:TI}{g:TG}{tt:TT}{tk tv:TE}
theorem b0g {pins:List (Addr×Obj)}{σ:St}{H2:Hp}{s2:Shared}{Q:VK}{it:Addr}{fp:List Addr}{tn:Nat->Heap->Prop}{J:It}{RR:Value->Addr->Result->Shared->Prop}
  (hu:X.A.units+1<cLine)(hc:X.calm=true)(SC:CScope X scope own)
  (hblock:∀ C s H,PG (cxC X scope own fp C s H) tg g/\PTs (cxC X scope own fp C s H) ifs tt/\PE (cxC X scope own fp C s H) kx tk/\PE (cxC X scope own fp C s H) vx tv)
  (I2:Inv X pins σ H2 s2)(T:Turn X.prog X.w X.K tg J fp it tn)(st2:tn 0 s2.heap)(f2:∀ b∈fp,b2b X pins H2 b)
  (h:∀ acc,H2 acc=none->∃ W:Nat->Nat->Hp->Prop,(∃ m,W 0 m (upd H2 acc (.dT [])))/\∀ i m H,W i m H ->
   (J.stop i H/\Q (.ref acc) H) ∨ (J.go i H/\∀ x H',J.yld i H x H'->g x (σ++Γj own.length none) H' λσ2 H2=>Wk (σ++Γj own.length none) σ2/\tt σ2 H2 λb H3 =>
    if b=true then tk σ2 H3 λy H4=>tv σ2 H4 λv H5=>∃ kvs k b,H5 acc=some (.dT kvs)/\y=.ref b/\H5 b=some (.tup (k.map kV))/\kvs.length<sizeLine/\∃ m',m'<m/\W (i+1) m' (upd H5 acc (.dT (a3z kvs k v))) else ∃ m',m'<m/\W (i+1) m' H3))
  (hRR:∀ acc C H' m s',Inv X pins σ H' s'->s'.heap.Ns C m->C≠X.env.locals->(∀ x c,X.env.cells.lookup x=some c->c≠C)->s2.heap.objs.size<=C->H' C=none->Q (.ref acc) H'->RR (.ref acc) C (.ok .next) s'){E:Value->Shared->Prop} :
  wpAny (model X.prog X.w) X.A (newDict) (λacc s3=>wpAny (model X.prog X.w) X.A (newFunctionEnv scope X.env.globals (a8w X.env.cells scope.names []) [] X.env.qual none .none (some X.env)) (λcenv s4 =>
   codeAny (model X.prog X.w) X.A (.compStart (.DictComp kx vx [⟨tg,iter,ifs,0⟩] scope pos) 0 (.ref it) acc { cenv with scope:=relabel scope X.env }) (RR acc cenv.locals) s4) E s3) E s2:=by
 have hacc:=I2.fresh
 have I3:Inv X pins σ (upd H2 s2.heap.objs.size (.dT [])) { s2 with heap:=s2.heap.push { cls:=.type "dict",data:=.dict #[] },toks:=s2.toks }:=I2.laid (a:=s2.heap.objs.size) (o:=.dT []) (t':=s2.toks) (λ_ _ q=>Γc _ q) (Γi _) (c0y s2.heap I2.big)
 refine wpAny_newObj_type ?_
 obtain⟨W,⟨m0,w0⟩,turn⟩:=h _ hacc
 generalize hs3:({ s2 with heap:=s2.heap.push { cls:=.type "dict",data:=.dict #[] },toks:=s2.toks }:Shared)=s3 at I3
 have keep23:∀ b o,s2.heap.get? b=some o->s3.heap.get? b=some o:=λb o e=>by rw[<- hs3];exact Γc _ e
 have hf3:∀ b∈fp,b2b X pins (upd H2 s2.heap.objs.size (.dT [])) b:=λb hb=>by
  obtain⟨o,ho,_⟩:=T.obj _ _ st2 b hb
  exact⟨by rw[a0e (Γo (Γl ho))];exact (f2 b hb).1,(f2 b hb).2⟩
 have st3:tn 0 s3.heap:=T.keep _ _ _ st2 λb hb o e=>keep23 b o e
 refine a5h λh4 hns' keep34 ok34=>?_
 have I4:=b2w (t4:=s3.toks+([]:List (Str×Value)).length) I3 SC hc hf3 (λb hb=>by obtain⟨o,ho,_⟩:=T.obj _ _ st3 b hb;exact⟨o,ho⟩) hns' keep34 ok34
 have st4:tn 0 h4:=T.keep _ _ _ st3 λb hb o e=>keep34 b o e
 obtain⟨hg,ht,hk',hv'⟩:=hblock s3.heap.objs.size s3 (upd H2 s2.heap.objs.size (.dT []))
 have e5:(cxC X scope own fp s3.heap.objs.size s3 (upd H2 s2.heap.objs.size (.dT []))).env=compEnvC scope (cellsFrom (s3.heap.objs.size+1) scope.names (a8w X.env.cells scope.names [])) s3.heap.objs.size X.env:=rfl
 generalize hY:cxC X scope own fp s3.heap.objs.size s3 (upd H2 s2.heap.objs.size (.dT []))=Y at hg ht hk' hv' I4 e5
 have fpY:∀ {H':Hp},(∀ b∈fp,H' b=none)->∀ b∈fp,b2b Y [] H' b:=λhn b hb=>by
  obtain⟨o,ho,_⟩:=T.obj _ _ st3 b hb
  refine⟨hn b hb,?_,?_,?_,?_,?_⟩
  ·rw[<- hY];exact Γo (Γl ho)
  ·have:=I4.ok.exfs b (by rw[<- hY];exact hb)
   exact this
  ·exact .inl (by rw[<- hY];exact hb)
  ·exact λx c h=>(I4.ok.exf b (by rw[<- hY];exact hb)).2 x c h
  ·intro p hp;rw[<- hY] at hp;exact absurd (show p∈([]:List (Addr×Obj)) from hp) (by simp)
 have hYp:Y.prog=X.prog/\Y.w=X.w/\Y.K=X.K/\Y.calm=true/\Y.A=X.A/\Y.xe=(λ_ _=>False)/\Y.s₀=s3/\Y.H₀=upd H2 s2.heap.objs.size (.dT [])/\Y.outer=X.stack/\Y.ex=fp:=by rw[<- hY];exact⟨rfl,rfl,rfl,hc,rfl,rfl,rfl,rfl,rfl,rfl⟩
 obtain⟨y1,y2,y3,y4,y5,y6,y7,y8,y9,y10⟩:=hYp
 have loop:∀ s5:Shared,s5 = { s3 with heap:=h4,toks:=s3.toks+([]:List (Str×Value)).length } ->
   codeAny (model X.prog X.w) X.A (.compLoop (.DictComp kx vx [⟨tg,iter,ifs,0⟩] scope pos) 0 (.ref it) (.ref s2.heap.objs.size) Y.env) (RR (.ref s2.heap.objs.size) s3.heap.objs.size) s5:=by
  rintro s5 rfl
  refine b1v (λn s'=>∃ i H',Inv Y [] (σ++Γj own.length none) H' s'/\tn i s'.heap/\(∀ b∈fp,H' b=none)/\W i n H') ?_ m0 ⟨0,_,I4,st4,λb hb=>(hf3 b hb).1,w0⟩
  rintro n s6 ⟨i,H6,I6,st6,fr6,w6⟩
  rcases turn i n H6 w6 with⟨stop,q⟩|⟨go,step⟩
  ·have d:=T.done Y y1 y2 y3 y4 i [] s6 _ H6 (λ_ _=>False) I6 (fpY fr6) st6 stop
   rw[y5] at d
   refine thn d λr s7 ⟨hr,I7⟩=>?_
   subst hr
   obtain⟨m,hn,_⟩:=I7.loc
   have hL:Y.env.locals=s3.heap.objs.size:=by rw[e5];rfl
   rw[hL] at hn
   have b7:=I7.base
   rw[y7,y8,y10] at b7
   have b7':Un (frs X.stack) fp (upd H2 s2.heap.objs.size (.dT [])) H6 s3.heap s7.heap:=by
    have z:Y.fs=frs X.stack:=by show frs Y.outer=_;rw[y9]
    rw[z] at b7
    exact b7
   have hok7:=I7.hok
   rw[y1,y2] at hok7
   have os7:=I7.os
   rw[y7] at os7
   have I8:Inv X pins σ H6 s7:=I3.call' os7 b7' hok7 I7.bare λb hb=>⟨(hf3 b hb).2.2.2.1,(hf3 b hb).2.1,(hf3 b hb).2.2.2.2.1,(hf3 b hb).2.2.2.2.2⟩
   have hfree:=I7.free
   rw[hL] at hfree
   refine hRR _ _ H6 m s7 I8 hn (Nat.ne_of_gt I3.lt) (λx c h z=>?_) ?_ hfree q
   ·obtain⟨v,y⟩:=I3.cell x c h
    exact absurd y.lt (by rw[z];exact Nat.lt_irrefl _)
   ·rw[<- hs3,Heap.size_push];exact Nat.le_succ _
  ·have d:=T.item Y y1 y2 y3 y4 i [] s6 _ H6 (λ_ _=>False) I6 (fpY fr6) st6 go
   rw[y5] at d
   refine thn d λr s7 ⟨u,hr,h7⟩=>?_
   subst hr
   refine thn h7 λ_ s8 ⟨x,H8,I8,r8,y8',st8,fr8⟩=>?_
   have I8':=I8.pinned (fpY fr8) (T.obj _ _ st8)
   have pinK:∀ {σ':St}{H':Hp}{s':Shared},Inv Y ([]++a5y fp s8.heap) σ' H' s'->tn (i+1) s'.heap/\∀ b∈fp,H' b=none:=λ{σ' H' s'} I' =>
    ⟨T.keep _ _ _ st8 λb hb o e=>(I'.pin (b,o) (List.mem_append_right _ (List.mem_append_right _ (a2i hb e)))).1,λb hb=>by
     obtain⟨o,e,_⟩:=T.obj _ _ st8 b hb
     exact (I'.pin (b,o) (List.mem_append_right _ (List.mem_append_right _ (a2i hb e)))).2.1⟩
   have dg:=hg _ s8 _ H8 x u _ I8' r8 (step x H8 y8')
   rw[y1,y2,y5,y6] at dg
   refine thn dg λ_ s9 ⟨σ9,H9,I9,wk,q9⟩=>?_
   have dt:=ht _ s9 σ9 H9 _ I9 q9
   rw[y1,y2,y5,y6] at dt
   refine thn dt λok s10 ⟨H10,I10,q10⟩=>?_
   cases ok with
   | true =>
    rw[if_pos rfl] at q10 ⊢
    have dk:=hk' _ s10 σ9 H10 _ I10 q10
    rw[y1,y2,y5,y6] at dk
    refine thn dk λky s11 ⟨v11,H11,I11,r11,q11⟩=>?_
    have dv:=hv' _ s11 σ9 H11 _ I11 q11
    rw[y1,y2,y5,y6] at dv
    refine thn dv λy s12 ⟨v12,H12,I12,r12,kvs,k,b,hys,hyb,hkb,hz,m',hm,w12⟩=>?_
    subst hyb
    cases (show ky=Value.ref b from r11)
    obtain⟨z,hd,xs,rel,dd⟩:=d0q I12.hok hys
    rw[y1,y2] at dd
    have hz':xs.length<=sizeLine:=by rw[<- Paired.length rel];exact z
    have hl:(a3z kvs k v12).length<=sizeLine:=by have:=a2k kvs k v12;lia
    have ko:=a6b I12.hok hkb
    rw[y1,y2] at ko
    refine wpAny_dictSet_heap (knd:=tupleKind (a0k X.prog X.w)) (hsz:=hz') (show X.A.units<cLine by lia) ko dd λh' dd' hs=>?_
    obtain⟨q,es,ep,hq,h2',h3',h4',h5',h6'⟩:=dd'
    rw[<- y1,<- y2] at h4'
    have I13:Inv Y ([]++a5y fp s8.heap) σ9 (upd H12 s2.heap.objs.size (.dT (a3z kvs k v12))) { s12 with heap:=h',toks:=s12.toks+(tupleKind (a0k X.prog X.w)).draws k }:=by
     refine b1t I12 (by rw[hys];exact True.intro) hs ⟨q,hq⟩ ⟨hl,hd,_,(rel.put k hkb r12).keeps λc ys ec=>?_,q,es,ep,hq,h2',h3',h4',h6'⟩
     rw[a0e (c9g ec hys (λz=>nomatch z))]
     exact ec
    obtain⟨t13,f13⟩:=pinK I13
    exact⟨m',hm,i+1,_,(I13.unpinned).weak wk.1.symm wk.2,t13,f13,w12⟩
   | false =>
    rw[if_neg Γk] at q10 ⊢
    obtain⟨m',hm,w10⟩:=q10
    obtain⟨t10,f10⟩:=pinK I10
    exact⟨m',hm,i+1,_,(I10.unpinned).weak wk.1.symm wk.2,t10,f10,w10⟩
 rw[e5] at loop
 exact codeAny_compStart_dict (loop _ rfl) (T.self _ 0 _ _ _ st4 (loop _ rfl))
theorem b9x (hu:X.A.units+1<cLine)(hc:X.calm=true)(SC:CScope X scope own)(hi:PI X.nox tg iter wi)
  (hblock:∀ fp C s H,PG (cxC X scope own fp C s H) tg g/\PTs (cxC X scope own fp C s H) ifs tt/\PE (cxC X scope own fp C s H) kx tk/\PE (cxC X scope own fp C s H) vx tv)
  (hs:∀ x,foldedSetIterable iter X.env x=pure x:=by intro _;rfl) :
  PE X.nox (.DictComp kx vx [⟨tg,iter,ifs,0⟩] scope pos) (b4y wi g tt tk tv own.length):=by
 intro pins s σ H Q I h
 have fr:∀ p∈scope.names,p.2=.free->∃ c,X.env.cells.lookup p.1=some c:=λp hp hq=>I.ok.has p.1 (SC.free p hp hq)
 rw[arm_eval_DictComp]
 refine wpAny_comprehension_free (use:=none) rfl hs (a3v fr) SC.kind SC.names (thn (hi pins s σ H _ I h) λv s1 h1=>thn h1 λitv s2 h2=>?_)
 obtain⟨it,fp,tn,J,H2,e,I2,T,st2,f2,h2⟩:=h2
 subst e
 refine b0g (X:=X.nox) (own:=own) (RR:=λacc C=>compPost (model X.prog X.w) X.A (λ_ _=>False) none (EP X.nox pins σ Q) acc C) hu hc ⟨SC.kind,SC.nocell,SC.names,SC.free,SC.apart,SC.hid⟩ (λC s H=>hblock fp C s H) I2 T st2 f2 h2 ?_
 intro acc C H' m s' I' hn hL hcl hC hH q
 obtain⟨f0,f1,f2',f3,f4,f5⟩:=I2.fpOk hC hH
 refine⟨m,hn,λh' hsb=>⟨.ref acc,H',?_,rfl,q⟩⟩
 exact I'.turned (t':=s'.toks) (λb o hb e=>(hsb.2 b hb).trans e) f0 f1 f3 f4 f5
theorem b1d {i:Nat}{x:Str}{px:Pos}{spos:Pos}(hu:X.A.units+1<cLine)(hc:X.calm=true)(SC:CScope X scope own)(hN:X.N.Nodup)(hx:X.N[i]?=some x)(hl:X.env.scope.names.lookup x=some .local)(hi:PI X.nox tg iter wi)
  (hblock:∀ fp C s H,PG (cxC X scope own fp C s H) tg g/\PTs (cxC X scope own fp C s H) ifs tt/\PE (cxC X scope own fp C s H) kx tk/\PE (cxC X scope own fp C s H) vx tv)
  (hsw:swapsWith (.DictComp kx vx [⟨tg,iter,ifs,0⟩] scope pos) (some (.Name x px)) spos.line X.env=pure true)
  (hs:∀ x,foldedSetIterable iter X.env x=pure x:=by intro _;rfl) :
  PS X.nox (.Assign [.Name x px] (.DictComp kx vx [⟨tg,iter,ifs,0⟩] scope pos) spos) (b9a (b4y wi g tt tk tv own.length) (a5c i)):=by
 intro pins s σ H D I h
 have fr:∀ p∈scope.names,p.2=.free->∃ c,X.env.cells.lookup p.1=some c:=λp hp hq=>I.ok.has p.1 (SC.free p hp hq)
 show wpAny (model X.prog X.w) X.A (exec _ X.env) _ _ s
 rw[exec_Assign_Name_used _ _ _ _ hsw]
 refine Γa (wpAny_standAt (Γa ?_))
 show wpAny _ X.A (do let _ <- comprehension (.DictComp kx vx [⟨tg,iter,ifs,0⟩] scope pos) scope X.env _ newDict false (eval iter X.env) (some (assign (.Name x px) X.env))) _ _ s
 refine Γa (wpAny_mono (wpAny_comprehension_free (use:=some (assign (.Name x px) X.env)) (Q:=λ_ s'=>SP X.nox pins D .next s') rfl hs (a3v fr) SC.kind SC.names
  (thn (hi pins s σ H _ I h) λv s1 h1=>thn h1 λitv s2 h2=>?_)) (λ_ s' hq=>Γb (Γb hq)) λ_ _ e=>e)
 obtain⟨it,fp,tn,J,H2,e,I2,T,st2,f2,h2⟩:=h2
 subst e
 refine b0g (X:=X.nox) (own:=own) (Q:=λv H1=>a5c i v σ H1 D.nx) (RR:=λacc C=>compPost (model X.prog X.w) X.A (λ_ _=>False) (some (assign (.Name x px) X.env)) (λ_ s'=>SP X.nox pins D .next s') acc C) hu hc ⟨SC.kind,SC.nocell,SC.names,SC.free,SC.apart,SC.hid⟩ (λC s H=>hblock fp C s H) I2 T st2 f2 h2 ?_
 intro acc C H' m s' I' hn hL hcl hC hH q
 obtain⟨f0,f1,f2',f3,f4,f5⟩:=I2.fpOk hC hH
 show wpAny (model X.prog X.w) X.A (assign (.Name x px) X.env (.ref acc)) _ _ s'
 refine wpAny_assign_Name (a5v (X:=X.nox) I' hN hx (.inl hl) (v:=.ref acc) rfl (λs'' I'' hch=>?_) (.inr hl))
 obtain⟨a,hsa,ha⟩:=hch
 have hCa:C≠a:=by
  rcases ha with z|z
  ·rw[z];exact hL
  ·exact λy=>hcl x a z y.symm
 refine⟨m,hn.sameBut hsa hCa,λh' hsb=>?_⟩
 exact⟨_,H',I''.turned (t':=s''.toks) (λb o hb e=>(hsb.2 b hb).trans e) f0 f1 f3 f4 f5,q⟩
end
end L2
end
section
namespace L2
open PySem PySem.Spec PyProof.Rows
section
variable {prog:Program}{w:World}{A:Around}{R:Result->Shared->Prop}{s:Shared}
end
def tIn (wi:TI)(g:TG)(tt:TT)(te:TE)(acc:Addr)(σ:St)(H:Hp)(R:St->Hp->Prop):Prop:=wi σ H λJ H1=>∃ W:Nat->Nat->St->Hp->Prop,(∃ m,W 0 m σ H1)/\∀ i m σ H,W i m σ H ->
 (J.stop i H/\R σ H) ∨ (J.go i H/\∀ x H',J.yld i H x H'->g x σ H' λσ2 H2=>tt σ2 H2 λb H3 =>
  if b=true then te σ2 H3 λv H4=>∃ ys,H4 acc=some (.lst ys)/\ys.length<sizeLine/\∃ m',m'<m/\W (i+1) m' σ2 (upd H4 acc (.lst (ys++[v]))) else ∃ m',m'<m/\W (i+1) m' σ2 H3)
def c6y (wi:TI)(g:TG)(tt:TT)(wi2:TI)(g2:TG)(tt2:TT)(te:TE) (own:Nat):TE:=λσ H Q=>wi σ H λJ H1=>∀ acc,H1 acc=none->∃ W:Nat->Nat->Hp->Prop,(∃ m,W 0 m (upd H1 acc (.lst [])))/\∀ i m H,W i m H ->
 (J.stop i H/\Q (.ref acc) H) ∨ (J.go i H/\∀ x H',J.yld i H x H'->g x (σ++Γj own none) H' λσ2 H2=>Wk (σ++Γj own none) σ2/\tt σ2 H2 λb H3 =>
  if b=true then tIn wi2 g2 tt2 te acc σ2 H3 λσ3 H4=>Wk (σ++Γj own none) σ3/\∃ m',m'<m/\W (i+1) m' H4 else ∃ m',m'<m/\W (i+1) m' H3)
section
variable {X:Cx}{elt tg iter tg2 iter2:Expr}{ifs ifs2:List Expr}{scope:Scope}{own:List Str}{pos:Pos}{wi wi2:TI}{g g2:TG}{tt tt2:TT}{te:TE}
end
end L2
end
section
namespace Kq
open PySem PySem.Spec PyProof.Rows L2
inductive D where
 | non|bl (b:Bool)|int (i:Int)|str (x:String)|tup (xs:List D)|lst (xs:List D)
mutual
noncomputable def D.eqv:D->D->Bool
 | .non,.non=>true
 | .bl a,.bl b=>a == b
 | .bl a,.int j=>(if a then 1 else 0) == j
 | .int i,.bl b=>i == (if b then 1 else 0)
 | .int a,.int b=>a == b
 | .str a,.str b=>a == b
 | .tup a,.tup b=>D.eqvs a b
 | .lst a,.lst b=>D.eqvs a b
 | _,_=>false
noncomputable def D.eqvs:List D->List D->Bool
 | [],[]=>true
 | a :: r,b :: q=>D.eqv a b && D.eqvs r q
 | _,_=>false
end
mutual
noncomputable def D.wt:D->Nat
 | .non=>0|.bl _=>0
 | .int i=>if -(2 ^ 40)<i/\i<2 ^ 40 then 41 else 151
 | .str x=>x.length
 | .tup xs=>D.wts xs
 | .lst xs=>D.wts xs
noncomputable def D.wts:List D->Nat
 | []=>0
 | a :: r=>D.wt a+1+D.wts r
end
mutual
noncomputable def D.fit:D->Bool
 | .int i=>decide (-(2 ^ 150)<i/\i<2 ^ 150)
 | .tup xs=>D.fits xs
 | .lst xs=>D.fits xs
 | _=>true
noncomputable def D.fits:List D->Bool
 | []=>true
 | a :: r=>D.fit a && D.fits r
end
inductive FV where
 | non|bl (b:Bool)|int (i:Int)|str (x:String)|tup (xs:List FV)|lst (xs:List FV)
 | scr (ns:List Int)
 | shn (d:D)
 | dct (ks:List (List Int))(vs:List FV)
 | dci (ks:List Int)(vs:List FV)
 | dcz (o:Obj)(ks:List (List Int))(vs:List FV)
 | dcn (z:Option Obj)(ks:List (List (Option Int)))(vs:List FV)
 | obj (C dx:Addr)(fs:List (Str×V))
noncomputable def big:Nat:=100000
inductive Mo where|imm|own|frz|ob|gst (i:Nat)(x:Str)
 deriving DecidableEq
noncomputable def Mo.w:Mo->Bool|.imm=>false|.frz=>false|_=>true
noncomputable def Mo.g:Mo->Bool|.gst _ _=>true|_=>false
theorem Mo.w_imm {m:Mo}(h:m.w=true):m≠.imm:=λz=>by rw[z] at h;cases h
theorem Mo.w_frz {m:Mo}(h:m.w=true):m≠.frz:=λz=>by rw[z] at h;cases h
theorem Mo.w_own {m:Mo}(h:m=.own):m.w=true:=by rw[h];rfl
abbrev Md:=List Mo
abbrev a0c:=List (Option FV)
noncomputable def a0g:Md->Nat->Mo
 | [],_=>.imm
 | m :: _,0=>m
 | _ :: ms,n+1=>a0g ms n
noncomputable def lk:a0c->Nat->Option FV
 | [],_=>none
 | x :: _,0=>x
 | _ :: L,n+1=>lk L n
theorem a1m:∀ (L:a0c) (i:Nat)(v:FV),lk L i=some v↔L[i]?=some (some v)
 | [],i,v=>by simp[lk]
 | x :: L,0,v=>by simp[lk]
 | x :: L,i+1,v=>by simpa[lk] using a1m L i v
noncomputable def wp {α:Type}(r:Option α)(Q:α->Prop):Prop:=match r with
 | some x=>Q x
 | none=>False
theorem wpx {α:Type}{r:Option α}{Q:α->Prop}(h:wp r Q):∃ x,r=some x/\Q x:=by
 cases r with
 | none=>exact h.elim
 | some x=>exact⟨x,rfl,h⟩
mutual
noncomputable def dPy:D->PyData
 | .non=>.none
 | .bl b=>.bool b
 | .int i=>.int i
 | .str x=>.str (Γe x)
 | .tup xs=>.tuple (a4a xs)
 | .lst xs=>.list (a4a xs)
noncomputable def a4a:List D->List PyData
 | []=>[]
 | a :: r=>dPy a :: a4a r
end
noncomputable def a2o (ks:List (List Int)):List (List (Int ⊕ Option Str)):=ks.map λk=>k.map Sum.inl
noncomputable def a3d (ks:List Int):List (Int ⊕ Option Str):=ks.map Sum.inl
noncomputable def oK:Option Int->Int ⊕ Option Str
 | some i=>.inl i
 | none=>.inr none
noncomputable def a1v (ks:List (List (Option Int))):List (List (Int ⊕ Option Str)):=ks.map λk=>k.map oK
noncomputable def hoN (u:HO):Option Obj->HO
 | none=>u
 | some o=>.frz o u
noncomputable def ScrAt (K:Γd)(S:Hp)(a:Addr)(ns:List Int):Prop:=(∃ o,S a=some (.frz o (.lst (ns.map V.int)))) ∨ SqL K (λ_=>none) a (ns.map V.int)
mutual
noncomputable def RV (K:Γd)(S:Hp):FV->V->Prop
 | .non,v=>v=.non
 | .bl b,v=>v=.bl b
 | .int i,v=>v=.int i
 | .str x,v=>v=.str (Γe x)
 | .tup ps,v=>∃ a xs,v=.ref a/\S a=some (.tup xs)/\RVs K S ps xs
 | .lst ps,v=>∃ a xs,v=.ref a/\S a=some (.lst xs)/\RVs K S ps xs
 | .scr ns,v=>∃ a,v=.ref a/\ScrAt K S a ns
 | .shn d,v=>v=.str (dPy d).shown
 | .dct ks vs,v=>∃ a xs,v=.ref a/\ks.length=vs.length/\S a=some (.dT ((a2o ks).zip xs))/\RVs K S vs xs
 | .dci ks vs,v=>∃ a xs,v=.ref a/\ks.length=vs.length/\S a=some (.dK ((a3d ks).zip xs))/\RVs K S vs xs
 | .dcz o ks vs,v=>∃ a xs,v=.ref a/\ks.length=vs.length/\S a=some (.frz o (.dT ((a2o ks).zip xs)))/\RVs K S vs xs
 | .dcn z ks vs,v=>∃ a xs,v=.ref a/\ks.length=vs.length/\S a=some (hoN (.dT ((a1v ks).zip xs)) z)/\RVs K S vs xs
 | .obj C dx fs,v=>∃ a,v=.ref a/\S a=some (.ins C dx fs)
noncomputable def RVs (K:Γd)(S:Hp):List FV->List V->Prop
 | [],vs=>vs=[]
 | p :: ps,vs=>∃ v r,vs=v :: r/\RV K S p v/\RVs K S ps r
end
mutual
theorem RV.mono {K:Γd}{S S':Hp}(x:Same S S'):∀ {p:FV}{v:V},RV K S p v->RV K S' p v
 | .non,v,h=>h
 | .bl b,v,h=>h
 | .int i,v,h=>h
 | .str _,v,h=>h
 | .shn _,v,h=>h
 | .tup ps,v,⟨a,xs,e,h1,h2⟩=>⟨a,xs,e,x _ _ h1,RVs.mono x h2⟩
 | .lst ps,v,⟨a,xs,e,h1,h2⟩=>⟨a,xs,e,x _ _ h1,RVs.mono x h2⟩
 | .dct ks vs,v,⟨a,xs,e,h0,h1,h2⟩=>⟨a,xs,e,h0,x _ _ h1,RVs.mono x h2⟩
 | .dci ks vs,v,⟨a,xs,e,h0,h1,h2⟩=>⟨a,xs,e,h0,x _ _ h1,RVs.mono x h2⟩
 | .dcz o ks vs,v,⟨a,xs,e,h0,h1,h2⟩=>⟨a,xs,e,h0,x _ _ h1,RVs.mono x h2⟩
 | .dcn z ks vs,v,⟨a,xs,e,h0,h1,h2⟩=>⟨a,xs,e,h0,x _ _ h1,RVs.mono x h2⟩
 | .obj _ _ _,v,⟨a,e,h⟩=>⟨a,e,x _ _ h⟩
 | .scr ns,v,⟨a,e,h⟩=>⟨a,e,h.elim (λ⟨o,h⟩=>.inl ⟨o,x _ _ h⟩) .inr⟩
theorem RVs.mono {K:Γd}{S S':Hp}(x:Same S S'):∀ {ps:List FV}{vs:List V},RVs K S ps vs->RVs K S' ps vs
 | [],vs,h=>h
 | p :: ps,vs,⟨v,r,e,h1,h2⟩=>⟨v,r,e,RV.mono x h1,RVs.mono x h2⟩
end
section
variable {K:Γd}{S H:Hp}
theorem RVs.length:∀ {ps:List FV}{vs:List V},RVs K S ps vs->ps.length=vs.length
 | [],vs,h=>by cases (show vs=[] from h);rfl
 | p :: ps,vs,h=>by
  obtain⟨v,r,e,_,h2⟩:=h
  subst e
  rw[List.length_cons,List.length_cons,RVs.length h2]
theorem RVs.get:∀ {ps:List FV}{vs:List V}{i:Nat}{p:FV},RVs K S ps vs->ps[i]?=some p->∃ v,vs[i]?=some v/\RV K S p v
 | [],vs,i,p,_,e=>by simp at e
 | q :: ps,vs,0,p,⟨v,r,e',h1,_⟩,e=>by
  subst e'
  simp at e;subst e
  exact⟨v,rfl,h1⟩
 | q :: ps,vs,i+1,p,⟨v,r,e',_,h2⟩,e=>by
  subst e'
  simpa using RVs.get (i:=i) (p:=p) h2 (by simpa using e)
theorem RVs.append:∀ {ps qs:List FV}{vs us:List V},RVs K S ps vs->RVs K S qs us->RVs K S (ps++qs) (vs++us)
 | [],qs,vs,us,h,g=>by cases (show vs=[] from h);exact g
 | p :: ps,qs,vs,us,⟨v,r,e,h1,h2⟩,g=>by
  subst e
  exact⟨v,r++us,rfl,h1,RVs.append h2 g⟩
theorem RVs.one {p:FV}{v:V}(h:RV K S p v):RVs K S [p] [v]:=⟨v,[],rfl,h,rfl⟩
theorem RVs.take:∀ {ps:List FV}{vs:List V} (n:Nat),RVs K S ps vs->RVs K S (ps.take n) (vs.take n)
 | [],vs,n,h=>by cases (show vs=[] from h);simp[RVs]
 | p :: ps,vs,0,h=>by simp[RVs]
 | p :: ps,vs,n+1,⟨v,r,e,h1,h2⟩=>by
  subst e
  exact⟨v,r.take n,rfl,h1,RVs.take n h2⟩
theorem RVs.drop:∀ {ps:List FV}{vs:List V} (n:Nat),RVs K S ps vs->RVs K S (ps.drop n) (vs.drop n)
 | [],vs,n,h=>by cases (show vs=[] from h);simp[RVs]
 | p :: ps,vs,0,h=>h
 | p :: ps,vs,n+1,⟨v,r,e,h1,h2⟩=>by
  subst e
  exact RVs.drop n h2
theorem RVs.set:∀ {ps:List FV}{vs:List V} (n:Nat){p:FV}{v:V},RVs K S ps vs->RV K S p v->RVs K S (ps.set n p) (vs.set n v)
 | [],vs,n,p,v,h,_=>by cases (show vs=[] from h);simp[RVs]
 | q :: ps,vs,0,p,v,⟨v',r,e,h1,h2⟩,g=>by
  subst e
  exact⟨v,r,rfl,g,h2⟩
 | q :: ps,vs,n+1,p,v,⟨v',r,e,h1,h2⟩,g=>by
  subst e
  exact⟨v',r.set n v,rfl,h1,RVs.set n h2 g⟩
theorem RVs.rep {ps:List FV}{vs:List V}(h:RVs K S ps vs):∀ k:Nat,RVs K S (Γj k ps).flatten (Γj k vs).flatten
 | 0=>rfl
 | k+1=>by
  rw[List.replicate_succ,List.replicate_succ,List.flatten_cons,List.flatten_cons]
  exact h.append (h.rep k)
theorem RVs.ns:∀ (ns:List Int),RVs K S (ns.map .int) (ns.map V.int)
 | []=>rfl
 | n :: ns=>⟨_,_,rfl,rfl,RVs.ns ns⟩
theorem RVs.one_of {p:FV}{us:List V}(h:RVs K S [p] us):∃ u,us=[u]/\RV K S p u:=by
 obtain⟨v,r,rfl,h1,h2⟩:=h
 cases (show r=[] from h2)
 exact⟨v,rfl,h1⟩
theorem RVs.two_of {p q:FV}{us:List V}(h:RVs K S [p,q] us):∃ u v,us=[u,v]/\RV K S p u/\RV K S q v:=by
 obtain⟨v,r,rfl,h1,h2⟩:=h
 obtain⟨u,rfl,h3⟩:=h2.one_of
 exact⟨v,u,rfl,h1,h3⟩
noncomputable def c8q:FV->Option (List FV)
 | .lst ps=>some ps
 | .dct ks vs=>if ks.length=vs.length then some vs else none
 | .dci ks vs=>if ks.length=vs.length then some vs else none
 | .dcz _ ks vs=>if ks.length=vs.length then some vs else none
 | .dcn _ ks vs=>if ks.length=vs.length then some vs else none
 | .obj _ _ _=>some []
 | _=>none
noncomputable def b9y:FV->List V->HO
 | .dct ks _,xs=>.dT ((a2o ks).zip xs)
 | .dci ks _,xs=>.dK ((a3d ks).zip xs)
 | .dcz o ks _,xs=>.frz o (.dT ((a2o ks).zip xs))
 | .dcn z ks _,xs=>hoN (.dT ((a1v ks).zip xs)) z
 | .obj C dx fs,_=>.ins C dx fs
 | _,xs=>.lst xs
noncomputable def a3m (K:Γd)(S H:Hp)(a:Addr)(v:FV):Prop:=S a=none/\∃ ps xs,c8q v=some ps/\H a=some (b9y v xs)/\RVs K S ps xs
noncomputable def RH (K:Γd)(S H:Hp)(v:FV)(x:V):Prop:=RV K S v x ∨ ∃ a,x=.ref a/\a3m K S H a v
theorem RH.lst {ps:List FV}{x:V}(s:Same S H)(h:RH K S H (.lst ps) x):∃ a xs,x=.ref a/\H a=some (.lst xs)/\RVs K S ps xs:=by
 rcases h with⟨a,xs,e,h1,h2⟩|⟨a,e,_,qs,xs,e2,h1,h2⟩
 ·exact⟨a,xs,e,s _ _ h1,h2⟩
 ·cases e2;exact⟨a,xs,e,h1,h2⟩
theorem RH.val {v:FV}{x:V}(h:RH K S H v x)(n:c8q v=none):RV K S v x:=by
 rcases h with h|⟨a,_,_,ps,xs,e,_⟩
 ·exact h
 ·rw[n] at e;cases e
theorem RH.tup {ps:List FV}{x:V}(s:Same S H)(h:RH K S H (.tup ps) x):∃ a xs,x=.ref a/\H a=some (.tup xs)/\RVs K S ps xs:=by
 obtain⟨a,xs,e,h1,h2⟩:=h.val rfl
 exact⟨a,xs,e,s _ _ h1,h2⟩
theorem ScrAt.sq {a:Addr}{ns:List Int}(s:Same S H)(h:ScrAt K S a ns):SqL K H a (ns.map V.int):=by
 rcases h with⟨o,h⟩|h
 ·exact .inl (.inr ⟨o,s _ _ h⟩)
 ·rcases h with (h|⟨o,h⟩)|h
  ·cases h
  ·cases h
  ·exact .inr h
noncomputable def a1q:FV->Option (List FV)
 | .lst xs=>some xs
 | .scr ns=>some (ns.map .int)
 | _=>none
noncomputable def a4z:FV->Option (List FV)
 | .tup xs=>some xs
 | v=>a1q v
theorem RH.list {v:FV}{ps:List FV}{x:V}(s:Same S H)(h:RH K S H v x)(e:a1q v=some ps):∃ a xs,x=.ref a/\SqL K H a xs/\RVs K S ps xs:=by
 cases v with
 | lst qs =>
  cases e
  obtain⟨a,xs,rfl,h1,h2⟩:=h.lst s
  exact⟨a,xs,rfl,SqL.of h1,h2⟩
 | scr ns =>
  cases e
  obtain⟨a,rfl,g⟩:=h.val rfl
  exact⟨a,_,rfl,ScrAt.sq s g,RVs.ns ns⟩
 | _=>cases e
noncomputable def isL:FV->Bool
 | .tup _=>false
 | _=>true
theorem RH.seq {v:FV}{ps:List FV}{x:V}(s:Same S H)(h:RH K S H v x)(e:a4z v=some ps):∃ a xs,x=.ref a/\SqB (isL v) K H a xs/\RVs K S ps xs:=by
 cases v with
 | tup qs =>
  cases e
  obtain⟨a,xs,rfl,h1,h2⟩:=h.tup s
  exact⟨a,xs,rfl,SqT.of h1,h2⟩
 | lst qs=>exact h.list s e
 | scr qs=>exact h.list s e
 | _=>cases e
end
noncomputable def a6x:HO->Bool
 | .tup _=>true
 | _=>false
theorem a5a (v:FV)(xs:List V):a6x (b9y v xs)=false:=by
 cases v with
 | dcn z ks vs=>cases z<;>rfl
 | _=>rfl
structure Cn where
 H0:Hp
 S0:Hp
 P0:Option Addr
 fz:List (Nat×Addr)
 pr:List (Addr×HO)
 P1:List (Nat×Addr)
structure Iv (K:Γd)(c:Cn)(md:Md)(L:a0c)(σ:L2.St)(S H:Hp):Prop where
 len:L.length=σ.length
 imm:∀ i v,a0g md i=.imm->L[i]?=some (some v)->∃ x,σ[i]?=some (some x)/\RV K S v x
 own:∀ i v,a0g md i≠.imm->L[i]?=some (some v)->∃ a,σ[i]?=some (some (.ref a))/\a3m K S H a v/\(c.P0=some a ∨ c.H0 a=none ∨ ∃ j,(j,a)∈c.P1)
 dis:∀ i j v w a,a0g md i≠.imm->a0g md j≠.imm->L[i]?=some (some v)->L[j]?=some (some w)->σ[i]?=some (some (.ref a))->σ[j]?=some (some (.ref a))->i=j
 sub:Same S H
 frame:∀ a o,c.H0 a=some o->c.P0≠some a->(∀ j,(j,a) ∉ c.P1)->H a=some o
 s0:Same c.S0 S
 grow:∀ a o,S a=some o->c.S0 a=some o ∨ c.H0 a=none ∨ a6x o=true
 lent:∀ a,c.P0=some a->a0g md 0≠.imm/\σ[0]?=some (some (.ref a))/\∃ v,L[0]?=some (some v)
 fzs:∀ p∈c.fz,a0g md p.1=.frz/\σ[p.1]?=some (some (.ref p.2))/\∃ v,L[p.1]?=some (some v)
 fzm:∀ i v,a0g md i=.frz->L[i]?=some (some v)->∃ a,(i,a)∈c.fz
 fzp:∀ p∈c.fz,∃ o,(p.2,o)∈c.pr
 prs:∀ p∈c.pr,H p.1=some p.2/\S p.1=none/\∀ i v,(a0g md i).w=true->L[i]?=some (some v)->σ[i]?≠some (some (.ref p.1))
 ntp:∀ p∈c.pr,a6x p.2=false
 lnt1:∀ q∈c.P1,(a0g md q.1).g=true/\σ[q.1]?=some (some (.ref q.2))/\∃ v,L[q.1]?=some (some v)
 tie:∀ j i x C dx fs v,a0g md j=.gst i x->a0g md i=.ob->L[i]?=some (some (.obj C dx fs))->L[j]?=some (some v)->∃ u,fs.lookup x=some u/\σ[j]?=some (some u)
section
variable {K:Γd}{c:Cn}{md:Md}{L:a0c}{σ:L2.St}{S H S' H':Hp}
theorem Iv.h0 (I:Iv K c md L σ S H){p:Addr}(h:H p=none):c.H0 p=none:=by
 cases e:c.H0 p with
 | none=>rfl
 | some o =>
  by_cases z:c.P0=some p
  ·obtain⟨m,e1,v,e2⟩:=I.lent p z
   obtain⟨a,e3,⟨_,_,_,_,e4,_⟩,_⟩:=I.own 0 v m e2
   rw[e1] at e3;cases e3
   rw[h] at e4;cases e4
  ·by_cases z1:∃ j,(j,p)∈c.P1
   ·obtain⟨j,hj⟩:=z1
    obtain⟨g,e1,v,e2⟩:=I.lnt1 _ hj
    obtain⟨a,e3,⟨_,_,_,_,e4,_⟩,_⟩:=I.own j v (λz=>by rw[z] at g;cases g) e2
    rw[e1] at e3;cases e3
    rw[h] at e4;cases e4
   ·rw[I.frame p o e z λj hj=>z1 ⟨j,hj⟩] at h;cases h
theorem Iv.sn (I:Iv K c md L σ S H){p:Addr}(h:H p=none):S p=none:=by
 cases e:S p with
 | none=>rfl
 | some o=>rw[I.sub p o e] at h;cases h
theorem Iv.go3 (I:Iv K c md L σ S H)(s:Same S S')(sub:Same S' H')(g:∀ a o,S' a=some o->S a=some o ∨ H a=none ∨ a6x o=true)(k:∀ a o,H a=some o->H' a=some o):Iv K c md L σ S' H' where
 len:=I.len
 imm:=λi v h e=>let ⟨x,e1,r⟩:=I.imm i v h e;⟨x,e1,r.mono s⟩
 own:=λi v h e=>by
  obtain⟨a,e1,⟨h1,ps,xs,e2,h2,h3⟩,h4⟩:=I.own i v h e
  refine⟨a,e1,⟨?_,ps,xs,e2,k _ _ h2,h3.mono s⟩,h4⟩
  cases q:S' a with
  | none=>rfl
  | some o =>
   rcases g a o q with z|z|z
   ·rw[h1] at z;cases z
   ·rw[h2] at z;cases z
   ·have:=sub a o q
    rw[k _ _ h2] at this
    rw[<- Option.some.inj this,a5a] at z;cases z
 dis:=I.dis
 sub:=sub
 frame:=λa o h n n1=>k _ _ (I.frame a o h n n1)
 s0:=I.s0.trans s
 grow:=λa o h=>(g a o h).elim (I.grow a o) λz=>z.elim (λz=>.inr (.inl (I.h0 z))) λz=>.inr (.inr z)
 lent:=I.lent
 fzs:=I.fzs
 fzm:=I.fzm
 fzp:=I.fzp
 prs:=λp hp=>by
  obtain⟨h1,h2,h3⟩:=I.prs p hp
  refine⟨k _ _ h1,?_,h3⟩
  cases q:S' p.1 with
  | none=>rfl
  | some o =>
   rcases g _ o q with z|z|z
   ·rw[h2] at z;cases z
   ·rw[h1] at z;cases z
   ·have:=sub _ o q
    rw[k _ _ h1] at this
    rw[<- Option.some.inj this,I.ntp p hp] at z;cases z
 ntp:=I.ntp
 lnt1:=I.lnt1
 tie:=I.tie
theorem Iv.go (I:Iv K c md L σ S H)(s:Same S S')(sub:Same S' H')(g:∀ a o,S' a=some o->S a=some o ∨ H a=none)(k:∀ a o,H a=some o->H' a=some o):Iv K c md L σ S' H':=I.go3 s sub (λa o e=>(g a o e).imp_right .inl) k
theorem a0j {p:Addr}{o:HO}(h:H p=none):Same H (upd H p o):=λa u e=>by rw[a0e (a0t e h)];exact e
theorem Iv.new (I:Iv K c md L σ S H){p:Addr}(h:H p=none)(o:HO):Iv K c md L σ (upd S p o) (upd H p o) :=
 I.go (a0j (I.sn h)) (λa u e=>by
  by_cases z:a=p
  ·subst z;rw[a0d] at e ⊢;exact e
  ·rw[a0e z] at e ⊢;exact I.sub a u e) (λa u e=>by
  by_cases z:a=p
  ·subst z;exact .inr h
  ·rw[a0e z] at e;exact .inl e) (a0j h)
theorem Iv.lay (I:Iv K c md L σ S H){p:Addr}(h:H p=none)(o:HO):Iv K c md L σ S (upd H p o) :=
 I.go (Same.refl S) (I.sub.trans (a0j h)) (λa u e=>.inl e) (a0j h)
theorem Iv.back4 (I:Iv K c md L σ S H){i:Nat}{v w:FV}{a:Addr}(m:(a0g md i).w=true)(e:L[i]?=some (some v))(e1:σ[i]?=some (some (.ref a)))(s:Same S S')(sub:Same S' H')(g:∀ a o,S' a=some o->S a=some o ∨ H a=none ∨ a6x o=true)
  (k:∀ b o,H b=some o->b≠a->H' b=some o)(new:a3m K S' H' a w)(ht:∀ j x C dx fs u,a0g md j=.gst i x->a0g md i=.ob->w=.obj C dx fs->L[j]?=some (some u)->∃ u,fs.lookup x=some u/\σ[j]?=some (some u)):Iv K c md (L.set i (some w)) σ S' H':=by
 have mi:=Mo.w_imm m
 have hi:=(List.getElem?_eq_some_iff.mp e).1
 obtain⟨a',e1',⟨h1,qs,ys,_,h2,h3⟩,h4⟩:=I.own i v mi e
 rw[e1] at e1';cases e1'
 have look:∀ j u,(L.set i (some w))[j]?=some (some u)->(j=i/\u=w) ∨ (j≠i/\L[j]?=some (some u)):=λj u z=>by
  by_cases q:j=i
  ·subst q;rw[List.getElem?_set_self hi] at z;cases z;exact .inl ⟨rfl,rfl⟩
  ·rw[List.getElem?_set_ne (Ne.symm q)] at z;exact .inr ⟨q,z⟩
 have lookx:∀ j,(∃ u,L[j]?=some (some u))->∃ u,(L.set i (some w))[j]?=some (some u):=λj h=>by
  obtain⟨u,z⟩:=h
  by_cases q:j=i
  ·subst q;exact⟨_,List.getElem?_set_self hi⟩
  ·exact⟨u,by rw[List.getElem?_set_ne (Ne.symm q)];exact z⟩
 have old:∀ j u,(L.set i (some w))[j]?=some (some u)->∃ u,L[j]?=some (some u):=λj u z=>(look j u z).elim (λq=>⟨v,by rw[q.1];exact e⟩) λq=>⟨u,q.2⟩
 refine⟨by rw[List.length_set];exact I.len,λj u hm z=>?_,λj u hm z=>?_,λj k u u2 b m1 m2 z1 z2=>?_,sub,λb o z n n1=>?_,I.s0.trans s,λb o z=>(g b o z).elim (I.grow b o) λz=>z.elim (λz=>.inr (.inl (I.h0 z))) λz=>.inr (.inr z),λb z=>?_,λp hp=>?_,λj u hm z=>?_,I.fzp,λp hp=>?_,I.ntp,λq hq=>?_,λj i' x C dx fs u h1 h2 h3 h4=>?_⟩
 ·rcases look j u z with⟨q,_⟩|⟨_,z⟩
  ·rw[q] at hm;exact absurd hm mi
  ·obtain⟨x,f1,f2⟩:=I.imm j u hm z
   exact⟨x,f1,f2.mono s⟩
 ·rcases look j u z with⟨rfl,rfl⟩|⟨q,z⟩
  ·exact⟨a,e1,new,h4⟩
  ·obtain⟨b,f1,⟨g1,rs,zs,g2,g3,g4⟩,g5⟩:=I.own j u hm z
   have hb:b≠a:=λy=>by subst y;exact q (I.dis j i u v b hm mi z e f1 e1)
   refine⟨b,f1,⟨?_,rs,zs,g2,k b _ g3 hb,g4.mono s⟩,g5⟩
   cases q':S' b with
   | none=>rfl
   | some o =>
    rcases g b o q' with z|z|z
    ·rw[g1] at z;cases z
    ·rw[g3] at z;cases z
    ·have:=sub b o q'
     rw[k b _ g3 hb] at this
     rw[<- Option.some.inj this,a5a] at z;cases z
 ·obtain⟨w',z1⟩:=old j u z1
  obtain⟨u',z2⟩:=old k u2 z2
  exact I.dis j k w' u' b m1 m2 z1 z2
 ·refine k b o (I.frame b o z n n1) λy=>?_
  subst y
  rcases h4 with y|y|⟨j,y⟩
  ·exact n y
  ·rw[z] at y;cases y
  ·exact n1 j y
 ·obtain⟨g1,g2,g3⟩:=I.lent b z
  exact⟨g1,g2,lookx 0 g3⟩
 ·obtain⟨g1,g2,g4⟩:=I.fzs p hp
  exact⟨g1,g2,lookx _ g4⟩
 ·rcases look j u z with⟨q,_⟩|⟨_,z⟩
  ·rw[q] at hm;exact absurd hm (Mo.w_frz m)
  ·exact I.fzm j u hm z
 ·obtain⟨g1,g2,g3⟩:=I.prs p hp
  have kp:=k _ _ g1 λy=>g3 i v m e (by rw[y];exact e1)
  refine⟨kp,?_,λj u hm z=>let ⟨u',z'⟩:=old j u z;g3 j u' hm z'⟩
  cases q':S' p.1 with
  | none=>rfl
  | some o =>
   rcases g _ o q' with z|z|z
   ·rw[g2] at z;cases z
   ·rw[g1] at z;cases z
   ·have:=sub _ o q'
    rw[kp] at this
    rw[<- Option.some.inj this,I.ntp p hp] at z;cases z
 ·obtain⟨g1,g2,g3⟩:=I.lnt1 q hq
  exact⟨g1,g2,lookx _ g3⟩
 ·obtain⟨u',h4'⟩:=old j u h4
  rcases look i' _ h3 with⟨rfl,e9⟩|⟨_,h3⟩
  ·exact ht j x C dx fs u' h1 h2 e9.symm h4'
  ·exact I.tie j i' x C dx fs u' h1 h2 h3 h4'
theorem Iv.back3 (I:Iv K c md L σ S H){i:Nat}{v w:FV}{a:Addr}(m:a0g md i=.own)(e:L[i]?=some (some v))(e1:σ[i]?=some (some (.ref a)))(s:Same S S')(sub:Same S' H')(g:∀ a o,S' a=some o->S a=some o ∨ H a=none ∨ a6x o=true)
  (k:∀ b o,H b=some o->b≠a->H' b=some o)(new:a3m K S' H' a w):Iv K c md (L.set i (some w)) σ S' H':=I.back4 (Mo.w_own m) e e1 s sub g k new λ_ _ _ _ _ _ _ z=>by rw[m] at z;cases z
theorem Iv.back (I:Iv K c md L σ S H){i:Nat}{v w:FV}{a:Addr}(m:a0g md i=.own)(e:L[i]?=some (some v))(e1:σ[i]?=some (some (.ref a)))(s:Same S S')(sub:Same S' H')(g:∀ a o,S' a=some o->S a=some o ∨ H a=none)
  (k:∀ b o,H b=some o->b≠a->H' b=some o)(new:a3m K S' H' a w):Iv K c md (L.set i (some w)) σ S' H':=I.back3 m e e1 s sub (λa o e=>(g a o e).imp_right .inl) k new
theorem Iv.write (I:Iv K c md L σ S H){i:Nat}{v:FV}{a:Addr}{ps:List FV}{xs:List V}(m:a0g md i=.own)(e:L[i]?=some (some v))(e1:σ[i]?=some (some (.ref a)))(r:RVs K S ps xs) :
  Iv K c md (L.set i (some (.lst ps))) σ S (upd H a (.lst xs)):=by
 obtain⟨a',e1',⟨h1,_⟩,_⟩:=I.own i v (λz=>by rw[m] at z;cases z) e
 rw[e1] at e1';cases e1'
 exact I.back m e e1 (Same.refl S) (λb o z=>by rw[a0e λy=>by subst y;rw[h1] at z;cases z];exact I.sub b o z) (λb o z=>.inl z) (λb o z n=>by rw[a0e n];exact z) ⟨h1,ps,xs,rfl,a0d,r⟩
theorem Iv.set (I:Iv K c md L σ S H){i:Nat}{v:FV}{x:V}(ni:∀ a,c.P0=some a->i≠0)(nf:a0g md i≠.frz)(h:(a0g md i=.imm/\RV K S v x) ∨ (a0g md i=.own/\∃ a,x=.ref a/\a3m K S H a v/\c.H0 a=none/\(∀ p∈c.pr,p.1≠a)/\∀ j w,j≠i->a0g md j≠.imm->L[j]?=some (some w)->σ[j]?≠some (some (.ref a)))) :
  Iv K c md (L.set i (some v)) (σ.set i (some x)) S H:=by
 have look:∀ j w,(L.set i (some v))[j]?=some (some w)->(j=i/\w=v/\(σ.set i (some x))[j]?=some (some x)) ∨ (j≠i/\L[j]?=some (some w)/\(σ.set i (some x))[j]?=σ[j]?):=λj w z=>by
  by_cases q:j=i
  ·subst q
   have hj:j<L.length:=by have:=(List.getElem?_eq_some_iff.mp z).1;rwa [List.length_set] at this
   rw[List.getElem?_set_self hj] at z;cases z
   exact .inl ⟨rfl,rfl,by rw[List.getElem?_set_self (by rw[<- I.len];exact hj)]⟩
  ·rw[List.getElem?_set_ne (Ne.symm q)] at z
   exact .inr ⟨q,z,List.getElem?_set_ne (Ne.symm q)⟩
 have far:∀ j,j≠i->(L.set i (some v))[j]?=L[j]?/\(σ.set i (some x))[j]?=σ[j]?:=λj q=>⟨List.getElem?_set_ne (Ne.symm q),List.getElem?_set_ne (Ne.symm q)⟩
 refine⟨by rw[List.length_set,List.length_set];exact I.len,λj w hm z=>?_,λj w hm z=>?_,λj k w u b m1 m2 z1 z2 y1 y2=>?_,I.sub,I.frame,I.s0,I.grow,λb z=>?_,λp hp=>?_,λj w hm z=>?_,I.fzp,λp hp=>?_,I.ntp,λq hq=>?_,λj k y C dx fs u h1 h2 h3 h4=>?_⟩
 ·rcases look j w z with⟨rfl,rfl,y⟩|⟨q,z,y⟩
  ·rcases h with⟨_,r⟩|⟨hm',_⟩
   ·exact⟨x,y,r⟩
   ·rw[hm] at hm';cases hm'
  ·rw[y];exact I.imm j w hm z
 ·rcases look j w z with⟨rfl,rfl,y⟩|⟨q,z,y⟩
  ·rcases h with⟨hm',_⟩|⟨_,a,rfl,o,h0,_,_⟩
   ·exact absurd hm' hm
   ·exact⟨a,y,o,.inr (.inl h0)⟩
  ·rw[y];exact I.own j w hm z
 ·rcases look j w z1 with⟨p1,p2,p3⟩|⟨p1,p2,p3⟩
  ·rcases look k u z2 with⟨q1,q2,q3⟩|⟨q1,q2,q3⟩
   ·rw[p1,q1]
   ·rcases h with⟨hm',_⟩|⟨_,a,rfl,_,_,_,n⟩
    ·rw[p1] at m1;exact absurd hm' m1
    ·rw[p3] at y1;cases y1
     rw[q3] at y2
     exact absurd y2 (n k u q1 m2 q2)
  ·rw[p3] at y1
   rcases look k u z2 with⟨q1,q2,q3⟩|⟨q1,q2,q3⟩
   ·rcases h with⟨hm',_⟩|⟨_,a,rfl,_,_,_,n⟩
    ·rw[q1] at m2;exact absurd hm' m2
    ·rw[q3] at y2;cases y2
     exact absurd y1 (n j w p1 m1 p2)
   ·rw[q3] at y2
    exact I.dis j k w u b m1 m2 p2 q2 y1 y2
 ·obtain⟨g1,g2,g3⟩:=I.lent b z
  obtain⟨f1,f2⟩:=far 0 (Ne.symm (ni b z))
  rw[f1,f2];exact⟨g1,g2,g3⟩
 ·obtain⟨g1,g2,g4⟩:=I.fzs p hp
  obtain⟨f1,f2⟩:=far p.1 λy=>nf (by rw[<- y];exact g1)
  rw[f1,f2];exact⟨g1,g2,g4⟩
 ·rcases look j w z with⟨rfl,_,_⟩|⟨_,z,_⟩
  ·exact absurd hm nf
  ·exact I.fzm j w hm z
 ·obtain⟨g1,g2,g3⟩:=I.prs p hp
  refine⟨g1,g2,λj w hm z=>?_⟩
  rcases look j w z with⟨q1,q2,q3⟩|⟨q1,q2,q3⟩
  ·rcases h with⟨hm',_⟩|⟨_,a,rfl,_,_,n,_⟩
   ·rw[q1,hm'] at hm;cases hm
   ·rw[q3];exact λy=>n p hp (by cases y;rfl)
  ·rw[q3];exact g3 j w hm q2
 ·obtain⟨g1,g2,g3⟩:=I.lnt1 q hq
  obtain⟨f1,f2⟩:=far q.1 λy=>by
   rw[y] at g1
   rcases h with⟨hm',_⟩|⟨hm',_⟩<;>rw[hm'] at g1<;>cases g1
  rw[f1,f2];exact⟨g1,g2,g3⟩
 ·have n1:j≠i:=λy=>by
   rw[y] at h1
   rcases h with⟨hm',_⟩|⟨hm',_⟩<;>rw[hm'] at h1<;>cases h1
  have n2:k≠i:=λy=>by
   rw[y] at h2
   rcases h with⟨hm',_⟩|⟨hm',_⟩<;>rw[hm'] at h2<;>cases h2
  rw[(far j n1).1] at h4
  rw[(far k n2).1] at h3
  rw[(far j n1).2]
  exact I.tie j k y C dx fs u h1 h2 h3 h4
theorem Iv.tup (I:Iv K c md L σ S H){b:Addr}{xs:List V}(h:H b=some (.tup xs)):Iv K c md L σ (upd S b (.tup xs)) H/\Same S (upd S b (.tup xs)):=by
 have s:Same S (upd S b (.tup xs)):=λa o e=>by
  by_cases z:a=b
  ·subst z;rw[I.sub _ _ e] at h;rw[h,a0d]
  ·rw[a0e z];exact e
 refine⟨I.go3 s (λa o e=>?_) (λa o e=>?_) λa o e=>e,s⟩
 ·by_cases z:a=b
  ·subst z;rw[a0d] at e;rw[<- e];exact h
  ·rw[a0e z] at e;exact I.sub a o e
 ·by_cases z:a=b
  ·subst z;rw[a0d] at e;cases e;exact .inr (.inr rfl)
  ·rw[a0e z] at e;exact .inl e
end
end Kq
end
section
namespace Kq
noncomputable def a8v {α β:Type}(f:α->Option β):List α->Option (List β)
 | []=>some []
 | x :: xs=>(f x).bind λy=>(a8v f xs).map (y :: ·)
noncomputable def fD:Nat->FV->Option D
 | 0,_=>none
 | n+1,v=>match v with
  | .non=>some .non
  | .bl b=>some (.bl b)
  | .int i=>some (.int i)
  | .str x=>some (.str x)
  | .tup xs=>(a8v (fD n) xs).map .tup
  | .lst xs=>(a8v (fD n) xs).map .lst
  | .scr _=>none
  | .shn _=>none
  | .dct _ _=>none
  | .dci _ _=>none
  | .dcz _ _ _=>none
  | .obj _ _ _=>none|.dcn _ _ _=>none
noncomputable def a0y:Nat:=40
noncomputable def b4w:FV->Option Bool
 | .non=>some false
 | .bl b=>some b
 | .int i=>some (i != 0)
 | .str _=>none
 | .tup xs=>some (!xs.isEmpty)
 | .lst xs=>some (!xs.isEmpty)
 | .scr xs=>some (!xs.isEmpty)
 | .shn _=>none
 | .dct _ _=>none
 | .dci _ _=>none
 | .dcz _ _ _=>none
 | .obj _ _ _=>none|.dcn _ _ _=>none
noncomputable def a3w:FV->Option Int|.int i=>some i|_=>none
noncomputable def blF:FV->Option Bool|.bl b=>some b|_=>none
noncomputable def a6q:FV->Option (List FV)|.tup xs=>some xs|_=>none
noncomputable def a5n:FV->Option (List FV)|.lst xs=>some xs|_=>none
noncomputable def a2d (i:Int):Bool:=decide (-(2 ^ 64)<i/\i<2 ^ 64)
noncomputable def a2b (i:Int):Bool:=decide (-(2 ^ 62)<=i/\i<2 ^ 62)
noncomputable def b1b (i:Int):Bool:=decide (-(2 ^ 40)<=i/\i<=2 ^ 40)
noncomputable def eqD (a b:FV):Option Bool:=(fD a0y a).bind λx=>(fD a0y b).bind λy=>some (D.eqv x y)
noncomputable def eqF (a b:FV):Option Bool:=match a,b with
 | .shn x,.shn y=>open Classical in if x=y then some true else none
 | a,b=>eqD a b
noncomputable def inD:D->D->Option Bool
 | x,.lst xs=>some (xs.any λy=>D.eqv y x)
 | x,.tup xs=>some (xs.any λy=>D.eqv y x)
 | _,_=>none
noncomputable def inF (a b:FV):Option Bool:=(fD a0y a).bind λx=>(fD a0y b).bind λy=>inD x y
noncomputable def a0u:List FV->Option (List Int)
 | []=>some []
 | .int i :: r=>(a0u r).map (i :: ·)
 | _=>none
noncomputable def a4u:List FV->Option (List Bool)
 | []=>some []
 | .bl b :: r=>(a4u r).map (b :: ·)
 | _=>none
noncomputable def c6s:List FV->Option (List (List Int))
 | []=>some []
 | .tup xs :: r=>(a0u xs).bind λt=>(c6s r).map (t :: ·)
 | _=>none
noncomputable def lexLt:List Int->List Int->Bool
 | [],[]=>false
 | [],_ :: _=>true
 | _ :: _,[]=>false
 | a :: r,b :: q=>if a=b then lexLt r q else decide (a<b)
noncomputable def lexLe:List Int->List Int->Bool
 | [],[]=>true
 | [],_ :: _=>true
 | _ :: _,[]=>false
 | a :: r,b :: q=>if a=b then lexLe r q else decide (a<=b)
noncomputable def a3i (f:Int->Int->Option FV)(v w:FV):Option FV:=(a3w v).bind λi=>(a3w w).bind λj=>f i j
noncomputable def a5t (v w:FV):Option FV:=match v with
 | .tup xs=>(a6q w).bind λys=>if xs.length+ys.length<=big then some (.tup (xs++ys)) else none
 | .lst xs=>(a5n w).bind λys=>if xs.length+ys.length<=big then some (.lst (xs++ys)) else none
 | v=>a3i (λi j=>some (.int (i+j))) v w
noncomputable def d1l:FV->FV->Option FV:=a3i λi j=>some (.int (i-j))
noncomputable def b1g (v w:FV):Option FV:=match v with
 | .lst xs=>(a3w w).bind λk=>if -(2 ^ 63)<=k/\k<2 ^ 63/\xs.length*k.toNat<=big then some (.lst (Γj k.toNat xs).flatten) else none
 | v=>a3i (λi j=>if (a2d i || a2d j)=true then some (.int (i*j)) else none) v w
noncomputable def b7m:FV->FV->Option FV:=a3i λi j=>if 0<j/\j<1073741824 then some (.int (i / j)) else none
noncomputable def b8w:FV->FV->Option FV:=a3i λi j=>if 0<j then some (.int (i % j)) else none
noncomputable def c8c:FV->FV->Option FV:=a3i λi j=>if 0<=j/\j<=1000/\a2d i=true then some (.int (i ^ j.toNat)) else none
noncomputable def eqB (a b:FV):Option FV:=(eqF a b).map .bl
noncomputable def neB (a b:FV):Option FV:=(eqF a b).map λr=>.bl (!r)
noncomputable def inB (a b:FV):Option FV:=(inF a b).map .bl
noncomputable def niB (a b:FV):Option FV:=(inF a b).map λr=>.bl (!r)
noncomputable def ltB (v w:FV):Option FV:=match v with
 | .tup xs=>(a6q w).bind λys=>(a0u xs).bind λa=>(a0u ys).bind λb=>some (.bl (lexLt a b))
 | v=>a3i (λi j=>some (.bl (decide (i<j)))) v w
noncomputable def leB (v w:FV):Option FV:=match v with
 | .tup xs=>(a6q w).bind λys=>(a0u xs).bind λa=>(a0u ys).bind λb=>some (.bl (lexLe a b))
 | v=>a3i (λi j=>some (.bl (decide (i<=j)))) v w
noncomputable def gtB:FV->FV->Option FV:=a3i λi j=>some (.bl (decide (j<i)))
noncomputable def geB:FV->FV->Option FV:=a3i λi j=>some (.bl (decide (j<=i)))
noncomputable def ixN (n:Nat) (i:Int):Option Nat:=if 0<=i then (if i<n then some i.toNat else none) else if -(n:Int)<=i then some (i+n).toNat else none
noncomputable def atF (xs:List FV) (i:Int):Option FV:=(ixN xs.length i).bind λj=>xs[j]?
noncomputable def ixF (v w:FV):Option FV:=(a3w w).bind λj=>(a4z v).bind λxs=>atF xs j
noncomputable def min2F:FV->FV->Option FV:=a3i λi j=>some (.int (if j<i then j else i))
noncomputable def b6g:FV->FV->Option FV:=a3i λi j=>some (.int (if j > i then j else i))
noncomputable def a2c:FV->Option FV|.non=>some (.bl true)|_=>some (.bl false)
noncomputable def a0v:FV->Option FV|.non=>some (.bl false)|_=>some (.bl true)
noncomputable def isBlF (c:Bool):FV->Option FV|.bl b=>some (.bl (b == c))|_=>some (.bl false)
noncomputable def notBlF (c:Bool):FV->Option FV|.bl b=>some (.bl (b != c))|_=>some (.bl true)
noncomputable def d5e (v:FV):Option FV:=(blF v).map λb=>.bl (!b)
noncomputable def d1v (v:FV):Option FV:=(a3w v).map λi=>.int (-i)
noncomputable def turnF (v:FV):Option FV:=(a6q v).map λxs=>.tup xs.reverse
noncomputable def b1l (v:FV):Option FV:=(a4z v).map λxs=>.int xs.length
noncomputable def d1h (v:FV):Option FV:=(a3w v).map λi=>.int (if i<0 then -i else i)
noncomputable def a3y:FV->Option FV|.int i=>some (.int i)|.bl b=>some (.int (if b then 1 else 0))|_=>none
noncomputable def c7a (xs:List FV):Option Int:=(a0u xs).bind λns=>if ns.length<=big/\ns.all b1b=true then some ns.sum else none
noncomputable def c2y (v:FV):Option FV:=(a1q v).bind λxs=>(c7a xs).map .int
noncomputable def d1g (v:FV):Option FV:=(a1q v).bind λxs=>(a4u xs).map λbs=>.bl (bs.all id)
noncomputable def d1f (v:FV):Option FV:=(a1q v).bind λxs=>(a4u xs).map λbs=>.bl (bs.any id)
noncomputable def a1r (b:Int):List Int->Int
 | []=>b
 | x :: r=>a1r (if x<b then x else b) r
noncomputable def c2l (b:List Int):List (List Int)->List Int
 | []=>b
 | x :: r=>c2l (if lexLt x b=true then x else b) r
noncomputable def d1w (xs:List FV):Option FV:=(a0u xs).bind λns=>match ns with
 | n :: r=>some (.int (a1r n r))
 | []=>none
noncomputable def minT (xs:List FV):Option FV:=(c6s xs).bind λns=>match ns with
 | n :: r=>some (.tup ((c2l n r).map .int))
 | []=>none
noncomputable def c0d (v:FV):Option FV:=(a1q v).bind d1w
noncomputable def minTF (v:FV):Option FV:=(a1q v).bind minT
noncomputable def a3f (v:FV):Option FV:=(a4z v).map .tup
noncomputable def a4e (v:FV):Option FV:=(a4z v).map .lst
noncomputable def d3q (v:FV):Option FV:=(fD a0y v).bind λd=>if d.fit=true/\d.wt<=big then some (.shn d) else none
noncomputable def c7c (v:FV):Option FV:=match v with
 | .non=>some (.str "None")
 | .bl b=>some (.str (if b then "True" else "False"))
 | .str x=>some (.str x)
 | .int i=>if -(2 ^ 150)<i/\i<2 ^ 150 then some (.str (toString i)) else none
 | .tup xs=>d3q (.tup xs)
 | .lst xs=>d3q (.lst xs)
 | .scr _=>none|.shn _=>none|.dct _ _=>none|.dci _ _=>none|.dcz _ _ _=>none|.obj _ _ _=>none|.dcn _ _ _=>none
inductive Ty where|int|bool|str|list|tuple
 deriving DecidableEq
noncomputable def a9u:FV->Ty->Option Bool
 | .non,_=>some false
 | .bl _,t=>some (t == .int || t == .bool)
 | .int _,t=>some (t == .int)
 | .str _,t=>some (t == .str)
 | .tup _,t=>some (t == .tuple)
 | .lst _,t=>some (t == .list)
 | .scr _,_=>none
 | .shn _,t=>some (t == .str)
 | .dct _ _,_=>none
 | .dci _ _,_=>none
 | .dcz _ _ _,_=>none
 | .obj _ _ _,_=>none
 | .dcn _ _ _,_=>none
noncomputable def c4w (t:Ty)(v:FV):Option FV:=(a9u v t).map .bl
noncomputable def isi2F (t u:Ty)(v:FV):Option FV:=(a9u v t).bind λa=>(a9u v u).map λb=>.bl (a || b)
noncomputable def sIx (n d:Nat):Option Int->Nat
 | none=>d
 | some v=>if v<0 then (v+n).toNat else min v.toNat n
noncomputable def b0f {α:Type}(xs:List α)(lo hi:Option Int):List α:=(xs.drop (sIx xs.length 0 lo)).take (sIx xs.length xs.length hi-sIx xs.length 0 lo)
noncomputable def c1t (v:FV)(lo hi:Option Int):Option FV:=match v with
 | .tup xs=>some (.tup (b0f xs lo hi))
 | .lst xs=>some (.lst (b0f xs lo hi))
 | _=>none
abbrev EW:=a0c->(FV->a0c->Prop)->Prop
abbrev BW:=a0c->(Bool->a0c->Prop)->Prop
abbrev AW:=a0c->(List FV->a0c->Prop)->Prop
abbrev OW:=a0c->(Option Int->a0c->Prop)->Prop
noncomputable def a0b (i:Nat):EW:=λL Q=>wp (lk L i) λx=>Q x L
noncomputable def eC (v:FV):EW:=λL Q=>Q v L
noncomputable def eUn (f:FV->Option FV)(a:EW):EW:=λL Q=>a L λx L1=>wp (f x) λz=>Q z L1
noncomputable def eOp (f:FV->FV->Option FV)(a b:EW):EW:=λL Q=>a L λx L1=>b L1 λy L2=>wp (f x y) λz=>Q z L2
noncomputable def a6i (f:FV->FV->Option FV) (i:Nat)(b:EW):EW:=λL Q=>wp (lk L i) λ_=>b L λy L1=>wp (lk L1 i) λx=>wp (f x y) λz=>Q z L1
noncomputable def eChain (f g:FV->FV->Option FV)(a b c:EW):EW:=λL Q=>a L λx L1=>b L1 λy L2=>wp (f x y) λr=>wp (blF r) λr=>if r=true then c L2 λz L3=>wp (g y z) λq=>Q q L3 else Q (.bl false) L2
noncomputable def d0p (a b:EW):EW:=λL Q=>a L λx L1=>wp (b4w x) λr=>if r=true then b L1 Q else Q x L1
noncomputable def eOr (a b:EW):EW:=λL Q=>a L λx L1=>wp (b4w x) λr=>if r=true then Q x L1 else b L1 Q
noncomputable def eIf (c:BW)(a b:EW):EW:=λL Q=>c L λr L1=>if r=true then a L1 Q else b L1 Q
noncomputable def a1i (a:EW):BW:=λL Q=>a L λx L1=>wp (b4w x) λb=>Q b L1
noncomputable def b8p (a b:BW):BW:=λL Q=>a L λr L1=>if r=true then b L1 Q else Q false L1
noncomputable def bOr (a b:BW):BW:=λL Q=>a L λr L1=>if r=true then Q true L1 else b L1 Q
noncomputable def c1i (a:BW):BW:=λL Q=>a L λr L1=>Q (!r) L1
noncomputable def a2x:BW:=λL Q=>Q true L
noncomputable def a0p:AW:=λL Q=>Q [] L
noncomputable def a0a (a:EW)(r:AW):AW:=λL Q=>a L λx L1=>r L1 λxs L2=>Q (x :: xs) L2
noncomputable def a6h (a:AW):EW:=λL Q=>a L λxs L1=>xs.length<=big/\Q (.tup xs) L1
noncomputable def a6j (a:AW):EW:=λL Q=>a L λxs L1=>xs.length<=big/\Q (.lst xs) L1
noncomputable def c4g:OW:=λL Q=>Q none L
noncomputable def b6c (a:EW):OW:=λL Q=>a L λx L1=>wp (a3w x) λi=>Q (some i) L1
noncomputable def eSl (a:EW)(l h:OW):EW:=λL Q=>a L λx L1=>l L1 λi L2=>h L2 λj L3=>wp (c1t x i j) λz=>Q z L3
noncomputable def eSlN (k:Nat)(l h:OW):EW:=λL Q=>wp (lk L k) λ_=>l L λi L2=>h L2 λj L3=>wp (lk L3 k) λx=>wp (c1t x i j) λz=>Q z L3
abbrev CW:=Nat->List FV->(FV×FV->Prop)->Prop
noncomputable def a2w (call:CW) (f:Nat)(a:AW):EW:=λL Q=>a L λxs L1=>call f xs λz=>Q z.1 L1
noncomputable def a1g (call:CW) (f i:Nat)(a:AW):EW:=λL Q=>wp (lk L i) λ_=>a L λxs L1=>wp (lk L1 i) λx=>call f (x :: xs) λz=>Q z.1 (L1.set i (some z.2))
noncomputable def c6f (v y:FV):Option FV:=(a5n v).bind λxs=>if xs.length<big then some (.lst (xs++[y])) else none
noncomputable def nscF:FV->Option (List FV)|.tup xs=>some xs|.lst xs=>some xs|_=>none
noncomputable def extF (v y:FV):Option FV:=(a5n v).bind λxs=>(nscF y).bind λys=>if xs.length+ys.length<=big then some (.lst (xs++ys)) else none
noncomputable def b1r (f:FV->FV->Option FV) (i:Nat)(a:EW):EW:=λL Q=>wp (lk L i) λv=>wp (a5n v) λ_=>a L λy L1=>wp (lk L1 i) λx=>wp (f x y) λz=>Q .non (L1.set i (some z))
noncomputable def upF (lo:Int):Nat->List FV
 | 0=>[]
 | n+1=>.int lo :: upF (lo+1) n
noncomputable def a2f (xs ys:List FV):List FV:=xs.zipWith (λp q=>.tup [p,q]) ys
noncomputable def a6y (a:EW):AW:=λL Q=>a L λx L1=>wp (a4z x) λxs=>Q xs L1
noncomputable def b4d (a:EW):AW:=λL Q=>a L λx L1=>wp (a3w x) λj=>a2b j=true/\Q (upF 0 j.toNat) L1
noncomputable def iRng2 (a b:EW):AW:=λL Q=>a L λx L1=>b L1 λy L2=>wp (a3w x) λi=>wp (a3w y) λj=>(a2b i && a2b j)=true/\Q (upF i (j-i).toNat) L2
noncomputable def iZip (a b:EW):AW:=λL Q=>a L λx L1=>b L1 λy L2=>wp (a4z x) λxs=>wp (a4z y) λys=>Q (a2f xs ys) L2
noncomputable def a6z (a:EW):AW:=λL Q=>a L λx L1=>wp (a4z x) λxs=>Q (a2f (upF 0 xs.length) xs) L1
inductive Tg where|nm (i:Nat)|tp (is:List Nat)|tn (i:Nat)(is:List Nat)
noncomputable def d4w:List FV->Option (FV×FV)|[a,b]=>some (a,b)|_=>none
noncomputable def a7z:a0c->List Nat->List FV->Option a0c
 | L,[],[]=>some L
 | L,i :: is,v :: vs=>a7z (L.set i (some v)) is vs
 | _,_,_=>none
noncomputable def gW (tg:Tg)(v:FV)(L:a0c)(Q:a0c->Prop):Prop:=match tg with
 | .nm i=>Q (L.set i (some v))
 | .tp is=>wp (a6q v) λxs=>wp (a7z L is xs) Q
 | .tn i is=>wp (a6q v) λxs=>wp (d4w xs) λp=>wp (a6q p.2) λys=>wp (a7z (L.set i (some p.1)) is ys) Q
noncomputable def a5k (n m:Nat)(tg:Tg)(t:BW)(e:EW):List FV->List FV->a0c->(List FV->a0c->Prop)->Prop
 | [],acc,L,Q=>Q acc L
 | x :: xs,acc,L,Q=>gW tg x (L++Γj m none) λL1=>t L1 λb L2=>if b=true then e L2 λv L3=>a5k n m tg t e xs (acc++[v]) (L3.take n) Q else a5k n m tg t e xs acc (L2.take n) Q
noncomputable def a1z (n m:Nat)(it:AW)(tg:Tg)(t:BW)(e:EW):EW:=λL Q=>it L λxs L1=>L1.length=n/\xs.length<=big/\a5k n m tg t e xs [] L1 λys L2=>Q (.lst ys) L2
inductive FFl where|next|ret (v:FV)|brk|cont
abbrev SW:=a0c->(FFl->a0c->Prop)->Prop
noncomputable def aft (k:a0c->Prop)(Q:FFl->a0c->Prop):FFl->a0c->Prop
 | .next,L=>k L
 | .ret v,L=>Q (.ret v) L
 | .brk,L=>Q .brk L
 | .cont,L=>Q .cont L
noncomputable def a6s:SW:=λL Q=>Q .next L
noncomputable def a0q (s r:SW):SW:=λL Q=>s L (aft (λL1=>r L1 Q) Q)
noncomputable def a1l (e:EW)(tg:Tg):SW:=λL Q=>e L λx L1=>gW tg x L1 λL2=>Q .next L2
noncomputable def d3r (v j x:FV):Option FV:=(a5n v).bind λxs=>(a3w j).bind λn=>(ixN xs.length n).map λp=>.lst (xs.set p x)
noncomputable def c3e (k:Nat)(i e:EW):SW:=λL Q=>wp (lk L k) λ_=>e L λx L1=>i L1 λj L2=>wp (lk L2 k) λy=>wp (d3r y j x) λz=>Q .next (L2.set k (some z))
noncomputable def d1q (f:FV->FV->Option FV) (i:Nat)(e:EW):SW:=λL Q=>wp (lk L i) λa=>e L λx L1=>wp (f a x) λz=>Q .next (L1.set i (some z))
noncomputable def a3c (e:EW):SW:=λL Q=>e L λx L1=>Q (.ret x) L1
noncomputable def sRetN:SW:=λL Q=>Q (.ret .non) L
noncomputable def b9h (e:EW):SW:=λL Q=>e L λ_ L1=>Q .next L1
noncomputable def sIf (c:BW)(a b:SW):SW:=λL Q=>c L λr L1=>if r=true then a L1 Q else b L1 Q
noncomputable def sBrk:SW:=λL Q=>Q .brk L
noncomputable def sCont:SW:=λL Q=>Q .cont L
noncomputable def b0w (k:a0c->Prop)(Q:FFl->a0c->Prop):FFl->a0c->Prop
 | .next,L=>k L
 | .cont,L=>k L
 | .brk,L=>Q .next L
 | .ret v,L=>Q (.ret v) L
noncomputable def c5e (tg:Tg)(b:SW):List FV->a0c->(FFl->a0c->Prop)->Prop
 | [],L,Q=>Q .next L
 | x :: xs,L,Q=>gW tg x L λL1=>b L1 (b0w (λL2=>c5e tg b xs L2 Q) Q)
noncomputable def a9c (it:AW)(tg:Tg)(b:SW):SW:=λL Q=>it L λxs L1=>c5e tg b xs L1 Q
noncomputable def c6j (c:BW)(b:SW):Nat->a0c->(FFl->a0c->Prop)->Prop
 | 0,_,_=>False
 | n+1,L,Q=>c L λr L1=>if r=true then b L1 (b0w (λL2=>c6j c b n L2 Q) Q) else Q .next L1
noncomputable def c3b (c:BW)(b:SW):SW:=λL Q=>∃ n,c6j c b n L Q
structure FD where
 np:Nat
 ns:Nat
 body:CW->SW
 io:Bool
 fr:Bool
noncomputable def b8x (io fr:Bool)(Q:FV×FV->Prop):FFl->a0c->Prop
 | .ret v,L=>match io with
  | true=>wp (lk L 0) λx=>Q (v,x)
  | false=>Q (v,.non)
 | .next,L=>match fr with
  | true=>False
  | false=>match io with
   | true=>wp (lk L 0) λx=>Q (.non,x)
   | false=>Q (.non,.non)
 | _,_=>False
noncomputable def callW (tb:List FD):Nat->CW
 | 0,_,_,_=>False
 | d+1,f,args,Q=>match tb[f]? with
  | none=>False
  | some fd=>args.length=fd.np/\fd.body (callW tb d) (args.map some++Γj (fd.ns-fd.np) none) (b8x fd.io fd.fr Q)
end Kq
end
section
namespace Kq
open PySem PySem.Spec PyProof.Rows L2
theorem a9j {x y:String}(h:Γe x=Γe y):x=y:=by
 rw[Str.ofString_eq_toList,Str.ofString_eq_toList] at h
 have h2:x.toList.map Char.toNat=y.toList.map Char.toNat:=by
  injection h with h
  simpa using congrArg Array.toList h
 have inj:∀ (a b:List Char),a.map Char.toNat=b.map Char.toNat->a=b:=by
  intro a
  induction a with
  | nil=>intro b hb;cases b<;>simp_all
  | cons c a ih =>
   intro b hb
   cases b with
   | nil=>simp at hb
   | cons d b =>
    simp only[List.map_cons,List.cons.injEq] at hb
    rw[ih b hb.2,Char.toNat_inj.mp hb.1]
 exact String.toList_inj.mp (inj _ _ h2)
theorem c7d (a b:String):(Γe a == Γe b)=(a == b):=by
 rw[Bool.eq_iff_iff]
 simp only[beq_iff_eq]
 exact⟨a9j,λh=>by rw[h]⟩
theorem a3g (x:String):PyData.strOk (Γe x)=true:=by
 rw[Str.ofString_eq_toList]
 unfold PyData.strOk
 simp only[List.all_toArray,List.all_map,List.all_eq_true,Function.comp_apply,decide_eq_true_eq]
 intro c _
 have h:c.val.toNat<0xd800 ∨ (0xdfff<c.val.toNat/\c.val.toNat<0x110000):=c.valid
 show c.val.toNat<1114112
 lia
mutual
theorem a5j:∀ d:D,(dPy d).canLay0=true
 | .non=>rfl
 | .bl _=>rfl
 | .int _=>rfl
 | .str x=>by simp only[dPy,PyData.canLay0];exact a3g x
 | .tup xs=>by simp only[dPy,PyData.canLay0];exact a6m xs
 | .lst xs=>by simp only[dPy,PyData.canLay0];exact a6m xs
theorem a6m:∀ xs:List D,PyData.canLayAll0 (a4a xs)=true
 | []=>rfl
 | x :: xs=>by simp only[a4a,PyData.canLayAll0,a5j x,a6m xs,Bool.and_self]
end
mutual
theorem b8e:∀ a b:D,PyData.eqv (dPy a) (dPy b)=D.eqv a b
 | .non,b=>by cases b<;>simp only[dPy,PyData.eqv,D.eqv]
 | .bl _,b=>by cases b<;>simp only[dPy,PyData.eqv,D.eqv]
 | .int _,b=>by cases b<;>simp only[dPy,PyData.eqv,D.eqv]
 | .str x,b=>by cases b<;>simp only[dPy,PyData.eqv,D.eqv,c7d]
 | .tup xs,b=>by cases b<;>simp only[dPy,PyData.eqv,D.eqv,b8d]
 | .lst xs,b=>by cases b<;>simp only[dPy,PyData.eqv,D.eqv,b8d]
theorem b8d:∀ a b:List D,PyData.eqvAll (a4a a) (a4a b)=D.eqvs a b
 | [],b=>by cases b<;>simp only[a4a,PyData.eqvAll,D.eqvs]
 | x :: xs,b=>by cases b<;>simp only[a4a,PyData.eqvAll,D.eqvs,b8e,b8d]
end
theorem b8f (x:D):∀ xs:List D,((a4a xs).any λy=>PyData.eqv y (dPy x))=xs.any λy=>D.eqv y x
 | []=>rfl
 | y :: r=>by simp only[a4a,List.any_cons,b8e,b8f x r]
mutual
theorem b3g:∀ d:D,(dPy d).hasDict=false
 | .non=>rfl
 | .bl _=>rfl
 | .int _=>rfl
 | .str x=>rfl
 | .tup xs=>by simp only[dPy,PyData.hasDict];exact a6l xs
 | .lst xs=>by simp only[dPy,PyData.hasDict];exact a6l xs
theorem a6l:∀ xs:List D,PyData.hasDictAll (a4a xs)=false
 | []=>rfl
 | x :: xs=>by simp only[a4a,PyData.hasDictAll,b3g x,a6l xs,Bool.or_self]
end
theorem log2_lt {i:Int}{k:Nat}(hk:0<k)(h:-(2 ^ k:Int)<i/\i<2 ^ k):i.natAbs.log2<k:=by
 by_cases h0:i.natAbs=0
 ·rw[h0];simpa using hk
 ·rw[Nat.log2_lt h0]
  have e:((2 ^ k:Nat):Int)=(2:Int) ^ k:=by rw[Int.natCast_pow];rfl
  lia
mutual
theorem c5u:∀ d:D,d.fit=true->(dPy d).showable=true/\(dPy d).intsShort 160=true/\(dPy d).weight<=d.wt
 | .non,_=>⟨rfl,rfl,Γi _⟩
 | .bl _,_=>⟨rfl,rfl,Γi _⟩
 | .int i,h=>by
  have h:-(2 ^ 150:Int)<i/\i<2 ^ 150:=by simpa[D.fit] using h
  have l1:=log2_lt (k:=150) (by decide) h
  refine⟨?_,?_,?_⟩
  ·simp only[dPy,PyData.showable,decide_eq_true_eq];lia
  ·simp only[dPy,PyData.intsShort,decide_eq_true_eq]
   have e:=int_text_length_le (k:=150) (by decide) l1
   show (Γe (toString i)).length<=160
   rw[PySem.ofString_length];lia
  ·simp only[dPy,PyData.weight,D.wt]
   split
   ·lia
   ·split
    ·rename_i hs
     have l2:=log2_lt (k:=40) (by decide) hs
     lia
    ·lia
 | .str x,_=>by
  refine⟨rfl,rfl,?_⟩
  simp only[dPy,PyData.weight,D.wt]
  have:(Γe x).length=x.length:=PySem.ofString_length x
  exact Nat.le_of_eq this
 | .tup xs,h=>by
  obtain⟨h1,h2,h3⟩:=b8c xs (by simpa only[D.fit] using h)
  exact⟨by simpa only[dPy,PyData.showable] using h1,by simpa only[dPy,PyData.intsShort] using h2,by simpa only[dPy,PyData.weight,D.wt] using h3⟩
 | .lst xs,h=>by
  obtain⟨h1,h2,h3⟩:=b8c xs (by simpa only[D.fit] using h)
  exact⟨by simpa only[dPy,PyData.showable] using h1,by simpa only[dPy,PyData.intsShort] using h2,by simpa only[dPy,PyData.weight,D.wt] using h3⟩
theorem b8c:∀ xs:List D,D.fits xs=true->PyData.showableAll (a4a xs)=true/\PyData.intsShortAll 160 (a4a xs)=true/\PyData.weightAll (a4a xs)<=D.wts xs
 | [],_=>⟨rfl,rfl,Γi _⟩
 | x :: xs,h=>by
  have h:x.fit=true/\D.fits xs=true:=by simpa only[D.fits,Bool.and_eq_true] using h
  obtain⟨a1,a2,a3⟩:=c5u x h.1
  obtain⟨b1,b2,b3⟩:=b8c xs h.2
  refine⟨?_,?_,?_⟩
  ·simp only[a4a,PyData.showableAll,a1,b1,Bool.and_self]
  ·simp only[a4a,PyData.intsShortAll,a2,b2,Bool.and_self]
  ·simp only[a4a,PyData.weightAll,D.wts];lia
end
theorem c5t {d:D}(h:d.fit=true)(hw:d.wt<=big):(dPy d).shown.length<=sizeLine:=by
 obtain⟨_,h2,h3⟩:=c5u d h
 have:=PyData.shown_le 160 (by decide) (dPy d) (PyData.leavesShort_of_canLay0 160 _ (a5j d) h2)
 unfold big at hw
 have e:sizeLine=16777216:=rfl
 lia
theorem bnd {α β:Type}{o:Option α}{f:α->Option β}{z:β}(h:o.bind f=some z):∃ a,o=some a/\f a=some z:=Option.bind_eq_some_iff.mp h
theorem mpd {α β:Type}{o:Option α}{f:α->β}{z:β}(h:o.map f=some z):∃ a,o=some a/\f a=z:=Option.map_eq_some_iff.mp h
theorem itd {α:Type}{c:Prop} [Decidable c] {a b:α}(h:(if c then some a else none)=some b):c/\a=b:=by
 by_cases z:c
 ·rw[if_pos z] at h;exact⟨z,Option.some.inj h⟩
 ·rw[if_neg z] at h;cases h
theorem a5q:∀ {n:Nat}{p:FV}{d:D},fD n p=some d->(dPy d).depth<=n
 | 0,p,d,h=>by cases h
 | n+1,p,d,h=>by
  have ds:∀ {ps:List FV}{ds:List D},a8v (fD n) ps=some ds->PyData.depthAll (a4a ds)<=n:=by
   intro ps
   induction ps with
   | nil=>intro ds h;cases h;simp[a4a,PyData.depthAll]
   | cons q ps ih =>
    intro ds h
    obtain⟨y,e1,h⟩:=bnd h
    obtain⟨zs,e2,rfl⟩:=mpd h
    simp only[a4a,PyData.depthAll]
    exact Nat.max_le.mpr ⟨a5q e1,ih e2⟩
  cases p with
  | tup ps=>obtain⟨zs,e,rfl⟩:=mpd (show (a8v (fD n) ps).map D.tup=some d from h);simp only[dPy,PyData.depth];have:=ds e;lia
  | lst ps=>obtain⟨zs,e,rfl⟩:=mpd (show (a8v (fD n) ps).map D.lst=some d from h);simp only[dPy,PyData.depth];have:=ds e;lia
  | non=>cases h;simp[dPy,PyData.depth]
  | bl _=>cases h;simp[dPy,PyData.depth]
  | int _=>cases h;simp[dPy,PyData.depth]
  | str _=>cases h;simp[dPy,PyData.depth]
  | scr _=>cases h
  | shn _=>cases h
  | dct _ _=>cases h
  | dci _ _=>cases h
  | dcz _ _ _=>cases h
  | obj _ _ _=>cases h
  | dcn _ _ _=>cases h
section
variable {X:Cx}{pins:List (Addr×Obj)}{σ:L2.St}{S H:Hp}{s:Shared}
noncomputable def d9c (X:Cx)(S:Hp)(s:Shared) (n:Nat):Prop:=∀ (p:FV)(v:V)(u:Value)(d:D),RV X.K S p v->RelV v u->fD n p=some d->∃ as,Reads s.heap u (dPy d) as
theorem a5w {n:Nat}(R:d9c X S s n):∀ {ps:List FV}{vs:List V}{us:List Value}{ds:List D},RVs X.K S ps vs->Vals vs us->a8v (fD n) ps=some ds->∃ as,ReadsAll s.heap us (a4a ds) as
 | [],vs,us,ds,r,q,h=>by
  cases (show vs=[] from r)
  cases q
  cases h
  exact⟨[],.nil⟩
 | p :: ps,vs,us,ds,r,rq,h=>by
  obtain⟨v1,vr,rfl,r1,r2⟩:=r
  cases rq with
  | cons q1 q2 =>
   obtain⟨y,e1,h⟩:=bnd h
   obtain⟨zs,e2,rfl⟩:=mpd h
   obtain⟨as,ra⟩:=R _ _ _ _ r1 q1 e1
   obtain⟨bs,rb⟩:=a5w R r2 q2 e2
   exact⟨as++bs,.cons ra rb⟩
theorem a9e {n:Nat}(I:Inv X pins σ H s)(R:d9c X S s n){a:Addr}{xs:List V}{ps:List FV}{d:D}(h1:H a=some (.lst xs))(h2:RVs X.K S ps xs)(h:(a8v (fD n) ps).map D.lst=some d):∃ as,Reads s.heap (.ref a) (dPy d) as:=by
 obtain⟨zs,e,rfl⟩:=mpd h
 obtain⟨its,rr,⟨o,k,e1,e2,e2',e3⟩,_⟩:=I.list (SqL.of h1)
 obtain⟨as,ra⟩:=a5w R h2 rr e
 exact⟨a :: as,.list e1 e2 e3 (by simpa using ra)⟩
theorem a8a (I:Inv X pins σ H s)(hs:Same S H):∀ n,d9c X S s n
 | 0,p,v,u,d,_,_,h=>by cases h
 | n+1,p,v,u,d,rp,rv,h=>by
  have R:=a8a I hs n
  cases p with
  | tup ps =>
   obtain⟨a,xs,rfl,h1,h2⟩:=rp
   cases (show u=Value.ref a from rv)
   obtain⟨zs,e,rfl⟩:=mpd (show (a8v (fD n) ps).map D.tup=some d from h)
   obtain⟨its,rr,⟨o,e1,e2,k,e3⟩,_⟩:=I.tuple (SqT.of (hs _ _ h1))
   obtain⟨as,ra⟩:=a5w R h2 rr e
   exact⟨as,.tuple e1 e2 e3 (by simpa using ra)⟩
  | lst ps =>
   obtain⟨a,xs,rfl,h1,h2⟩:=rp
   cases (show u=Value.ref a from rv)
   exact a9e I R (hs _ _ h1) h2 h
  | non=>cases h;cases (show v=_ from rp);cases (show u=_ from rv);exact⟨_,.none⟩
  | bl _=>cases h;cases (show v=_ from rp);cases (show u=_ from rv);exact⟨_,.bool _⟩
  | int _=>cases h;cases (show v=_ from rp);obtain⟨t,rfl⟩:=rv;exact⟨_,.int _ _⟩
  | str _=>cases h;cases (show v=_ from rp);obtain⟨t,rfl⟩:=rv;exact⟨_,.str _ _⟩
  | scr _=>cases h
  | shn _=>cases h
  | dct _ _=>cases h
  | dci _ _=>cases h
  | dcz _ _ _=>cases h
  | obj _ _ _=>cases h
  | dcn _ _ _=>cases h
theorem a4m (I:Inv X pins σ H s)(hs:Same S H){n:Nat}{p:FV}{v:V}{u:Value}{d:D}(rp:RH X.K S H p v)(rv:RelV v u)(h:fD n p=some d):∃ as,Reads s.heap u (dPy d) as:=by
 rcases rp with rp|⟨a,rfl,_,ps,xs,e,h1,h2⟩
 ·exact a8a I hs n p v u d rp rv h
 ·cases (show u=Value.ref a from rv)
  cases n with
  | zero=>cases h
  | succ n =>
   cases p with
   | lst qs=>cases e;exact a9e I (a8a I hs n) h1 h2 h
   | dct _ _=>cases h
   | dci _ _=>cases h
   | dcz _ _ _=>cases h
   | obj _ _ _=>cases h
   | dcn _ _ _=>cases h
   | _=>cases e
end
theorem a1b:big<=sizeLine:=by decide
theorem a1c {v:FV}{i:Int}(h:a3w v=some i):v=.int i:=by cases v<;>cases h;rfl
theorem d1b {v:FV}{i:Bool}(h:blF v=some i):v=.bl i:=by cases v<;>cases h;rfl
theorem a1o {v:FV}{i:List FV}(h:a6q v=some i):v=.tup i:=by cases v<;>cases h;rfl
theorem a2t {v:FV}{i:List FV}(h:a5n v=some i):v=.lst i:=by cases v<;>cases h;rfl
structure NewOr (K:Γd)(S H:Hp)(Q:VK)(z:FV):Prop where
 old:∀ x,(∀ ps,z≠.lst ps)->RV K S z x->Q x H
 tup:∀ ps xs p,z=.tup ps->RVs K S ps xs->H p=none->Q (.ref p) (upd H p (.tup xs))
 lst:∀ ps xs p,z=.lst ps->RVs K S ps xs->H p=none->Q (.ref p) (upd H p (.lst xs))
section
variable {X:Cx}{K:Γd}{S H:Hp}{Q:VK}
theorem NewOr.bl {b:Bool}(k:NewOr K S H Q (.bl b)):Q (.bl b) H:=k.old _ (λ_ z=>nomatch z) rfl
theorem NewOr.int {b:Int}(k:NewOr K S H Q (.int b)):Q (.int b) H:=k.old _ (λ_ z=>nomatch z) rfl
theorem NewOr.str {b:String}(k:NewOr K S H Q (.str b)):Q (.str (Γe b)) H:=k.old _ (λ_ z=>nomatch z) rfl
theorem RH.int {i:Int}{x:V}(h:RH K S H (.int i) x):x=.int i:=h.val rfl
theorem RH.bl {i:Bool}{x:V}(h:RH K S H (.bl i) x):x=.bl i:=h.val rfl
noncomputable def Rq (K:Γd)(f:FV->FV->Option FV):R2:=λx y H Q=>∃ S v w z,Same S H/\RH K S H v x/\RH K S H w y/\f v w=some z/\NewOr K S H Q z
theorem a8b {g:Value->Value->Sem Value}{f:Int->Int->Option FV}{r:R2}(o:OpR X g r)(h:∀ i j z H Q,f i j=some z->(∀ x,(∀ S,RV X.K S z x)->Q x H)->r (.int i) (.int j) H Q)(n:∀ i j z,f i j=some z->∀ ps,z≠.lst ps):OpR X g (Rq X.K (a3i f)):=by
 intro pins s σ H x y u1 u2 Q I rx ry ⟨S,v,w,z,hs,hv,hw,e,k⟩
 obtain⟨i,e1,e⟩:=bnd e
 obtain⟨j,e2,e⟩:=bnd e
 cases a1c e1;cases a1c e2
 obtain rfl:=hv.int
 obtain rfl:=hw.int
 exact o pins s σ H _ _ u1 u2 Q I rx ry (h i j z H Q e λx hx=>k.old x (n i j z e) (hx S))
theorem d4j:OpR X (binaryOp .Sub) (Rq X.K d1l):=a8b c8r (λi j z H Q e k=>⟨i,j,rfl,rfl,k _ λS=>by cases e;rfl⟩) λi j z e ps=>by cases e;exact λz=>nomatch z
theorem c7r:OpR X (binaryOp .FloorDiv) (Rq X.K b7m):=a8b c4d (λi j z H Q e k=>⟨i,j,rfl,rfl,(itd e).1,k _ λS=>by cases (itd e).2;rfl⟩) λi j z e ps=>by cases (itd e).2;exact λz=>nomatch z
theorem d4m:OpR X (binaryOp .Mod) (Rq X.K b8w):=a8b c8v (λi j z H Q e k=>⟨i,j,rfl,rfl,(itd e).1,k _ λS=>by cases (itd e).2;rfl⟩) λi j z e ps=>by cases (itd e).2;exact λz=>nomatch z
theorem d4l:OpR X (binaryOp .Pow) (Rq X.K c8c):=a8b c8t (λi j z H Q e k=>⟨i,j,rfl,rfl,by
 obtain⟨h1,h2,h3⟩:=(itd e).1
 have:-(2 ^ 64)<i/\i<2 ^ 64:=by simpa[a2d] using h3
 exact⟨h1,by lia,by lia⟩,k _ λS=>by cases (itd e).2;rfl⟩) λi j z e ps=>by cases (itd e).2;exact λz=>nomatch z
theorem q_gt:OpR X (compareOp .Gt) (Rq X.K gtB):=a8b d5a (λi j z H Q e k=>⟨i,j,rfl,rfl,k _ λS=>by cases e;rfl⟩) λi j z e ps=>by cases e;exact λz=>nomatch z
theorem q_ge:OpR X (compareOp .GtE) (Rq X.K geB):=a8b d5b (λi j z H Q e k=>⟨i,j,rfl,rfl,k _ λS=>by cases e;rfl⟩) λi j z e ps=>by cases e;exact λz=>nomatch z
theorem c7u:OpR X (binaryOp .Add) (Rq X.K (a3i λi j=>some (.int (i+j)))):=a8b c8y (λi j z H Q e k=>⟨i,j,rfl,rfl,k _ λS=>by cases e;rfl⟩) λi j z e ps=>by cases e;exact λz=>nomatch z
theorem c7o:OpR X (binaryOp .Mult) (Rq X.K (a3i λi j=>if (a2d i || a2d j)=true then some (.int (i*j)) else none)):=a8b c8u (λi j z H Q e k=>⟨i,j,rfl,rfl,by
 have:=(itd e).1
 simp only[a2d,Bool.or_eq_true,decide_eq_true_eq] at this
 exact this,k _ λS=>by cases (itd e).2;rfl⟩) λi j z e ps=>by cases (itd e).2;exact λz=>nomatch z
theorem d4n:OpR X (compareOp .Lt) (Rq X.K (a3i λi j=>some (.bl (decide (i<j))))):=a8b d4z (λi j z H Q e k=>⟨i,j,rfl,rfl,k _ λS=>by cases e;rfl⟩) λi j z e ps=>by cases e;exact λz=>nomatch z
theorem c7t {xs ys:List FV}{x y:V}{z:FV}{pins:List (Addr×Obj)}{σ:L2.St}{s:Shared}{u1 u2:Value}(I:Inv X pins σ H s)(rx:RelV x u1)(ry:RelV y u2)(hs:Same S H)(hv:RH X.K S H (.tup xs) x)(hw:RH X.K S H (.tup ys) y)
  (e:(if xs.length+ys.length<=big then some (FV.tup (xs++ys)) else none)=some z)(k:NewOr X.K S H Q z):wpAny (model X.prog X.w) X.A (binaryOp .Add u1 u2) (EP X pins σ Q) X.xe s:=by
 obtain⟨hc,rfl⟩:=itd e
 have rv:=hv.val rfl
 have rw':=hw.val rfl
 obtain⟨a,as,rfl,ha,ra⟩:=hv.tup hs
 obtain⟨b,bs,rfl,hb,rb⟩:=hw.tup hs
 have l1:=ra.length
 have l2:=rb.length
 have hl:=a1b
 by_cases h0:as=[]
 ·subst h0
  have z2:xs=[]:=List.eq_nil_of_length_eq_zero (by simpa using l1)
  subst z2
  exact b9z pins s σ H _ _ u1 u2 Q I rx ry ⟨a,b,bs,rfl,rfl,SqT.of ha,SqT.of hb,k.old _ (λ_ z=>nomatch z) rw'⟩
 refine c4e pins s σ H _ _ u1 u2 Q I rx ry ⟨a,b,as,bs,rfl,rfl,SqT.of ha,SqT.of hb,h0,by lia,λz=>?_,λ_ p hp=>k.tup _ _ p rfl (ra.append rb) hp⟩
 subst z
 have z2:ys=[]:=List.eq_nil_of_length_eq_zero (by simpa using l2)
 subst z2
 exact k.old _ (λ_ z=>nomatch z) (by rw[List.append_nil];exact rv)
theorem d4p:OpR X (binaryOp .Add) (Rq X.K a5t):=by
 intro pins s σ H x y u1 u2 Q I rx ry ⟨S,v,w,z,hs,hv,hw,e,k⟩
 cases v with
 | tup xs =>
  obtain⟨ys,e1,e⟩:=bnd e
  cases a1o e1
  exact c7t I rx ry hs hv hw e k
 | lst xs =>
  obtain⟨ys,e1,e⟩:=bnd e
  cases a2t e1
  obtain⟨hc,rfl⟩:=itd e
  obtain⟨a,as,rfl,ha,ra⟩:=hv.lst hs
  obtain⟨b,bs,rfl,hb,rb⟩:=hw.lst hs
  have l1:=ra.length
  have l2:=rb.length
  have hl:=a1b
  exact c8x pins s σ H _ _ u1 u2 Q I rx ry ⟨a,b,as,bs,rfl,rfl,ha,hb,by lia,λp hp=>k.lst _ _ p rfl (ra.append rb) hp⟩
 | _=>exact c7u pins s σ H x y u1 u2 Q I rx ry ⟨S,_,w,z,hs,hv,hw,e,k⟩
theorem c7p:OpR X (binaryOp .Mult) (Rq X.K b1g):=by
 intro pins s σ H x y u1 u2 Q I rx ry ⟨S,v,w,z,hs,hv,hw,e,k⟩
 cases v with
 | lst xs =>
  obtain⟨j,e1,e⟩:=bnd e
  cases a1c e1
  obtain⟨hc,rfl⟩:=itd e
  obtain⟨a,as,rfl,ha,ra⟩:=hv.lst hs
  obtain rfl:=hw.int
  have l1:=ra.length
  have hl:=a1b
  exact c8s pins s σ H _ _ u1 u2 Q I rx ry ⟨a,j,as,rfl,rfl,ha,hc.1,hc.2.1,by rw[<- l1];lia,λp hp=>k.lst _ _ p rfl (ra.rep _) hp⟩
 | _=>exact c7o pins s σ H x y u1 u2 Q I rx ry ⟨S,_,w,z,hs,hv,hw,e,k⟩
theorem a1y:∀ {ps:List FV}{xs:List V}{ns:List Int},RVs K S ps xs->a0u ps=some ns->xs=ns.map V.int
 | [],xs,ns,r,e=>by cases (show xs=[] from r);cases e;rfl
 | p :: ps,xs,ns,r,e=>by
  obtain⟨v,q,rfl,h1,h2⟩:=r
  cases p with
  | int i =>
   obtain⟨ms,z,rfl⟩:=mpd (show (a0u ps).map (i :: ·)=some ns from e)
   rw[a1y h2 z,List.map_cons,show v=.int i from h1]
  | _=>cases e
theorem a5f:∀ {ps:List FV}{xs:List V}{ns:List Bool},RVs K S ps xs->a4u ps=some ns->xs=ns.map V.bl
 | [],xs,ns,r,e=>by cases (show xs=[] from r);cases e;rfl
 | p :: ps,xs,ns,r,e=>by
  obtain⟨v,q,rfl,h1,h2⟩:=r
  cases p with
  | bl i =>
   obtain⟨ms,z,rfl⟩:=mpd (show (a4u ps).map (i :: ·)=some ns from e)
   rw[a5f h2 z,List.map_cons,show v=.bl i from h1]
  | _=>cases e
theorem c2j:∀ a b:List Int,Kq.lexLt a b=HT.lexLt a b
 | [],[]=>by simp[Kq.lexLt,HT.lexLt]
 | [],_ :: _=>by simp[Kq.lexLt,HT.lexLt]
 | _ :: _,[]=>by simp[Kq.lexLt,HT.lexLt]
 | a :: r,b :: q=>by
  simp only[Kq.lexLt,HT.lexLt,c2j r q]
  try (by_cases h:a=b<;>simp[h])
theorem q_lt (hu:X.A.units+64<cLine):OpR X (compareOp .Lt) (Rq X.K ltB):=by
 intro pins s σ H x y u1 u2 Q I rx ry ⟨S,v,w,z,hs,hv,hw,e,k⟩
 cases v with
 | tup xs =>
  obtain⟨ys,e1,e⟩:=bnd e
  cases a1o e1
  obtain⟨ns,e2,e⟩:=bnd e
  obtain⟨ms,e3,e⟩:=bnd e
  cases e
  obtain⟨a,as,rfl,ha,ra⟩:=hv.tup hs
  obtain⟨b,bs,rfl,hb,rb⟩:=hw.tup hs
  cases a1y ra e2;cases a1y rb e3
  exact c8w (by lia) pins s σ H _ _ u1 u2 Q I rx ry ⟨a,b,ns,ms,rfl,rfl,SqT.of ha,SqT.of hb,by rw[<- c2j];exact k.bl⟩
 | _=>exact d4n pins s σ H x y u1 u2 Q I rx ry ⟨S,_,w,z,hs,hv,hw,e,k⟩
theorem d0g {p q:FV}{b:Bool}(e:eqF p q=some b):(∃ d,p=.shn d/\q=.shn d/\b=true) ∨ ∃ x y,fD a0y p=some x/\fD a0y q=some y/\b=D.eqv x y:=by
 have gen:eqD p q=some b->∃ x y,fD a0y p=some x/\fD a0y q=some y/\b=D.eqv x y:=λe=>by
  obtain⟨x,e1,e⟩:=bnd e
  obtain⟨y,e2,e⟩:=bnd e
  cases e
  exact⟨x,y,e1,e2,rfl⟩
 unfold eqF at e
 split at e
 ·obtain⟨rfl,rfl⟩:=@itd _ _ (Classical.propDecidable _) _ _ e
  exact .inl ⟨_,rfl,rfl,rfl⟩
 ·exact .inr (gen e)
theorem c7s (hu:X.A.units+64<cLine)(neg:Bool):OpR X (compareOp (if neg then .NotEq else .Eq)) (Rq X.K λp q=>(eqF p q).map λr=>.bl (neg != r)):=by
 intro pins s σ H x y v u Q I rx ry ⟨S,p,q,z,hs,rp,rq,e,k⟩
 obtain⟨b,e',rfl⟩:=mpd (show (eqF p q).map (λr=>FV.bl (neg != r))=some z from e)
 have fin:=k.bl
 rcases d0g e' with⟨d,rfl,rfl,rfl⟩|⟨dx,dy,e1,e2,rfl⟩
 ·obtain rfl:x=.str (dPy d).shown:=rp.val rfl
  obtain rfl:y=.str (dPy d).shown:=rq.val rfl
  cases neg with
  | false=>exact d5c pins s σ H _ _ v u Q I rx ry ⟨rfl,by simpa using fin⟩
  | true=>exact d4y pins s σ H _ _ v u Q I rx ry ⟨rfl,by simpa using fin⟩
 ·obtain⟨as,ra⟩:=a4m I hs rp rx e1
  obtain⟨bs,rb⟩:=a4m I hs rq ry e2
  have hd:X.A.units+min (dPy dx).depth (dPy dy).depth<cLine:=by
   have h1:=a5q e1
   unfold a0y at h1
   lia
  cases neg with
  | false=>exact PySem.SeqAt.compareEq_reads ra rb (a5j dx) (a5j dy) hd ⟨.bl _,H,I,rfl,by rw[b8e];simpa using fin⟩
  | true=>exact PySem.SeqAt.compareNe_reads ra rb (a5j dx) (a5j dy) hd ⟨.bl _,H,I,rfl,by rw[b8e];simpa using fin⟩
theorem q_eq (hu:X.A.units+64<cLine):OpR X (compareOp .Eq) (Rq X.K eqB):=λpins s σ H x y v u Q I rx ry ⟨S,p,q,z,hs,rp,rq,e,k⟩=>c7s hu false pins s σ H x y v u Q I rx ry ⟨S,p,q,z,hs,rp,rq,by
 obtain⟨b,e1,rfl⟩:=mpd e
 show (eqF p q).map _=_
 rw[e1];cases b<;>rfl,k⟩
theorem q_ne (hu:X.A.units+64<cLine):OpR X (compareOp .NotEq) (Rq X.K neB):=λpins s σ H x y v u Q I rx ry ⟨S,p,q,z,hs,rp,rq,e,k⟩=>c7s hu true pins s σ H x y v u Q I rx ry ⟨S,p,q,z,hs,rp,rq,by
 obtain⟨b,e1,rfl⟩:=mpd e
 show (eqF p q).map _=_
 rw[e1];cases b<;>rfl,k⟩
theorem c7q (hu:X.A.units+64<cLine)(neg:Bool):OpR X (compareOp (if neg then .NotIn else .In)) (Rq X.K λp q=>(inF p q).map λr=>.bl (neg != r)):=by
 intro pins s σ H x y v u Q I rx ry ⟨S,p,q,z,hs,rp,rq,e,k⟩
 obtain⟨b,e',rfl⟩:=mpd (show (inF p q).map (λr=>FV.bl (neg != r))=some z from e)
 have fin:=k.bl
 obtain⟨dx,e1,e'⟩:=bnd e'
 obtain⟨dy,e2,e'⟩:=bnd e'
 obtain⟨as,ra⟩:=a4m I hs rp rx e1
 obtain⟨bs,rb⟩:=a4m I hs rq ry e2
 have hd:∀ ys,X.A.units+1+min (PyData.depthAll (a4a ys)) (dPy dx).depth<cLine:=λys=>by
  have h1:=a5q e1
  unfold a0y at h1
  lia
 cases dy with
 | lst ys =>
  cases e'
  simp only[dPy] at rb
  cases neg with
  | false=>exact PySem.SeqAt.in_list_reads rb ra (a6m ys) (a5j dx) (hd ys) ⟨.bl _,H,I,rfl,by rw[b8f];simpa using fin⟩
  | true=>exact PySem.SeqAt.notIn_list_reads rb ra (a6m ys) (a5j dx) (hd ys) ⟨.bl _,H,I,rfl,by rw[b8f];simpa using fin⟩
 | tup ys =>
  cases e'
  simp only[dPy] at rb
  cases neg with
  | false=>exact PySem.SeqAt.in_tuple_reads rb ra (a6m ys) (a5j dx) (hd ys) ⟨.bl _,H,I,rfl,by rw[b8f];simpa using fin⟩
  | true=>exact PySem.SeqAt.notIn_tuple_reads rb ra (a6m ys) (a5j dx) (hd ys) ⟨.bl _,H,I,rfl,by rw[b8f];simpa using fin⟩
 | _=>cases e'
theorem q_in (hu:X.A.units+64<cLine):OpR X (compareOp .In) (Rq X.K inB):=λpins s σ H x y v u Q I rx ry ⟨S,p,q,z,hs,rp,rq,e,k⟩=>c7q hu false pins s σ H x y v u Q I rx ry ⟨S,p,q,z,hs,rp,rq,by
 obtain⟨b,e1,rfl⟩:=mpd e
 show (inF p q).map _=_
 rw[e1];cases b<;>rfl,k⟩
theorem q_ni (hu:X.A.units+64<cLine):OpR X (compareOp .NotIn) (Rq X.K niB):=λpins s σ H x y v u Q I rx ry ⟨S,p,q,z,hs,rp,rq,e,k⟩=>c7q hu true pins s σ H x y v u Q I rx ry ⟨S,p,q,z,hs,rp,rq,by
 obtain⟨b,e1,rfl⟩:=mpd e
 show (inF p q).map _=_
 rw[e1];cases b<;>rfl,k⟩
theorem c6d {ps:List FV}{xs:List V}{i:Int}{p:FV}(r:RVs K S ps xs)(e:atF ps i=some p):∃ v,L2.atI xs i=some v/\RV K S p v:=by
 obtain⟨j,e1,e2⟩:=bnd e
 obtain⟨v,h1,h2⟩:=r.get e2
 refine⟨v,?_,h2⟩
 show (L2.ixN xs.length i).bind (λj=>xs[j]?)=some v
 rw[<- r.length,show L2.ixN ps.length i=some j from e1]
 exact h1
noncomputable def Ri (K:Γd):R2:=λx y H Q=>∃ S v w z,Same S H/\RH K S H v x/\RH K S H w y/\ixF v w=some z/\∀ u,RV K S z u->Q u H
theorem q_ix:IxR X (Ri X.K):=by
 intro value slice pins s σ H x y v u Q I rx ry ⟨S,p,q,z,hs,rp,rq,e,k⟩ hsl
 obtain⟨j,e1,e3⟩:=bnd e
 obtain⟨ps,e2,e4⟩:=bnd e3
 cases a1c e1
 obtain rfl:=rq.int
 obtain⟨a,xs,rfl,hq,r⟩:=rp.seq hs e2
 obtain⟨w,h1,h2⟩:=c6d r e4
 cases hb:isL p with
 | true=>rw[hb] at hq;exact c4t value slice pins s σ H _ _ v u Q I rx ry ⟨a,xs,j,w,rfl,rfl,hq,h1,k w h2⟩ hsl
 | false=>rw[hb] at hq;exact c9u value slice pins s σ H _ _ v u Q I rx ry ⟨a,xs,j,w,rfl,rfl,hq,h1,k w h2⟩ hsl
theorem c1u (n d:Nat)(o:Option Int):Kq.sIx n d o=HT.sIx n d o:=by
 cases o with
 | none=>rfl
 | some v=>simp only[Kq.sIx,HT.sIx];try (split<;>split<;>lia)
theorem c5w {ps:List FV}{xs:List V}{lo hi:Option Int}(r:RVs K S ps xs):RVs K S (b0f ps lo hi) (c6m xs lo hi):=by
 unfold b0f c6m
 rw[c1u,c1u,r.length]
 exact (r.drop _).take _
end
section
variable {X:Cx}{K:Γd}{S H:Hp}{Q:VK}
noncomputable def Rc (K:Γd)(f:FV->Option FV):List V->Hp->VK->Prop:=λxs H Q=>∃ S v x z,xs=[x]/\Same S H/\RH K S H v x/\f v=some z/\NewOr K S H Q z
noncomputable def Rc2 (K:Γd)(f:FV->FV->Option FV):List V->Hp->VK->Prop:=λxs H Q=>∃ S v w x y z,xs=[x,y]/\Same S H/\RH K S H v x/\RH K S H w y/\f v w=some z/\NewOr K S H Q z
theorem c7f {b:Bool}{a:Addr}{xs:List V}(h:SqB b K H a xs):SqL K H a xs ∨ SqT K H a xs:=by cases b;exact .inr h;exact .inl h
theorem d8h:a1j X (.builtin "len") (Rc X.K b1l):=by
 rintro pins s σ H xs us Q I r ⟨S,v,x,z,rfl,hs,rv,e,k⟩
 obtain⟨ps,e1,rfl⟩:=mpd e
 obtain⟨a,ys,rfl,hq,ry⟩:=rv.seq hs e1
 refine b0m pins s σ H _ us Q I r ⟨a,ys,rfl,c7f hq,?_⟩
 rw[<- ry.length]
 exact k.int
theorem d8l:a1j X (.builtin "abs") (Rc X.K d1h):=by
 rintro pins s σ H xs us Q I r ⟨S,v,x,z,rfl,hs,rv,e,k⟩
 obtain⟨i,e1,rfl⟩:=mpd e
 cases a1c e1
 obtain rfl:=rv.int
 exact c1g pins s σ H _ us Q I r ⟨i,rfl,k.int⟩
theorem d8i:a1j X (.type "int") (Rc X.K a3y):=by
 rintro pins s σ H xs us Q I r ⟨S,v,x,z,rfl,hs,rv,e,k⟩
 cases v with
 | int i =>
  cases e
  obtain rfl:=rv.int
  exact b0n pins s σ H _ us Q I r (.inl ⟨i,rfl,k.int⟩)
 | bl b =>
  cases e
  obtain rfl:=rv.bl
  exact b0n pins s σ H _ us Q I r (.inr ⟨b,rfl,k.int⟩)
 | _=>cases e
theorem c5z:a1j X (.type "tuple") (Rc X.K a3f):=by
 rintro pins s σ H xs us Q I r ⟨S,v,x,z,rfl,hs,rv,e,k⟩
 obtain⟨ps,e1,rfl⟩:=mpd e
 obtain⟨a,ys,rfl,hq,ry⟩:=rv.seq hs e1
 cases v with
 | tup qs=>cases e1;exact a3b pins s σ H _ us Q I r ⟨a,ys,rfl,.inr ⟨hq,k.old _ (λ_ z=>nomatch z) (rv.val rfl)⟩⟩
 | lst qs=>exact a3b pins s σ H _ us Q I r ⟨a,ys,rfl,.inl ⟨hq,λl hl=>k.tup _ _ l rfl ry hl⟩⟩
 | scr qs=>exact a3b pins s σ H _ us Q I r ⟨a,ys,rfl,.inl ⟨hq,λl hl=>k.tup _ _ l rfl ry hl⟩⟩
 | _=>cases e1
theorem c2p:a1j X (.type "list") (Rc X.K a4e):=by
 rintro pins s σ H xs us Q I r ⟨S,v,x,z,rfl,hs,rv,e,k⟩
 obtain⟨ps,e1,rfl⟩:=mpd e
 obtain⟨a,ys,rfl,hq,ry⟩:=rv.seq hs e1
 exact b0l pins s σ H _ us Q I r ⟨a,ys,rfl,c7f hq,λl hl=>k.lst _ _ l rfl ry hl⟩
theorem d0y (hc:X.calm=true):a1j X (.builtin "max") (Rc2 X.K b6g):=by
 rintro pins s σ H xs us Q I r ⟨S,v,w,x,y,z,rfl,hs,rv,rw',e,k⟩
 obtain⟨i,e1,e2⟩:=bnd e
 obtain⟨j,e3,e4⟩:=bnd e2
 cases a1c e1;cases a1c e3;cases e4
 obtain rfl:=rv.int
 obtain rfl:=rw'.int
 exact b8n hc pins s σ H _ us Q I r ⟨i,j,rfl,k.int⟩
theorem Vals.mapInt {ns:List Int}:∀ {us:List Value},Vals (ns.map V.int) us->∀ i:Nat,i<ns.length->∃ t,us[i]?=some (.int (ns.getD i 0) t):=λ{us} r i hi=>by
 obtain⟨u,e,t,rfl⟩:=r.get (i:=i) (x:=.int (ns.getD i 0)) (by simp[hi])
 exact⟨t,e⟩
theorem a4c (ns:List Int):∀ j,j<=ns.length->preSum (λi=>ns.getD i 0) j=(ns.take j).sum
 | 0,_=>by simp[preSum]
 | j+1,h=>by
  have hj:j<ns.length:=h
  show preSum _ j+ns.getD j 0=_
  rw[a4c ns j (by lia),List.take_succ_eq_append_getElem hj,List.sum_append]
  simp[List.getD,hj]
theorem c1s (B:Int)(hB:0<=B):∀ ns:List Int,(∀ n∈ns,-B<=n/\n<=B)->-(B*ns.length)<=ns.sum/\ns.sum<=B*ns.length
 | [],_=>by simp
 | n :: r,h=>by
  have ih:=c1s B hB r λm hm=>h m (Γh _ hm)
  have hn:=h n Γn
  rw[List.sum_cons,List.length_cons]
  have e:B*((r.length+1:Nat):Int)=B*(r.length:Int)+B:=by rw[Int.natCast_add,Int.mul_add];simp
  rw[e]
  lia
theorem b4l (hc:X.calm=true):a1j X (.builtin "sum") (λxs H Q=>∃ (a:Addr)(ns:List Int),xs=[.ref a]/\SqL X.K H a (ns.map V.int)/\ns.length<=big/\(∀ n∈ns,-(2 ^ 40)<=n/\n<=2 ^ 40)/\Q (.int ns.sum) H):=by
 intro pins s σ H xs us Q I r h
 obtain⟨a,ns,rfl,hq,hz,hb,q⟩:=h
 obtain⟨u,rfl,rx⟩:=a3e r
 cases rx
 obtain⟨its,r',pl,hz'⟩:=I.list hq
 have hlen:ns.length=its.length:=by have:=r'.length;simpa using this
 have alt:a<s.heap.objs.size:=by obtain⟨_,e,_⟩:=pl.isList;exact Γl e
 have hh:X.A.in1.handled=none:=I.ok.hd hc
 refine call_sum_walk (wpAny_pyIter_list pl.isList ?_)
 refine⟨s.heap.objs.size,_,_,_,_,_,λi=>ns.getD i 0,rfl,Walks.list hh s.heap.objs.size a (Γo alt) its.toArray,⟨⟨_,Γm _ rfl,rfl,rfl⟩,pl.isList.at λo e=>Γc _ e⟩,?_,?_,?_,?_⟩
 ·intro b hb'
  simp at hb'
  rcases hb' with rfl|rfl
  ·show _<(s.heap.push _).objs.size;rw[Heap.size_push];exact Nat.lt_succ_self _
  ·show _<(s.heap.push _).objs.size;rw[Heap.size_push];exact Nat.lt_succ_of_lt alt
 ·intro i v hv
  have hv:its.toArray[i]?=some v:=hv
  have hi:i<ns.length:=by rw[hlen];simpa using (Array.getElem?_eq_some_iff.mp hv).1
  obtain⟨t,e⟩:=Vals.mapInt r' i hi
  refine⟨t,?_⟩
  have e':its.toArray[i]?=some (.int (ns.getD i 0) t):=by simpa using e
  rw[hv] at e'
  exact Option.some.inj e'
 ·intro j hj
  have hj':j<ns.length:=by rw[hlen];simpa using hj
  have hm:ns.getD j 0∈ns:=by simp[List.getD,hj']
  refine⟨?_,?_⟩
  ·have:=hb _ hm
   show -(2 ^ 63)<=ns.getD j 0/\ns.getD j 0<2 ^ 63
   lia
  ·rw[a4c ns (j+1) hj']
   have b2:=c1s 1099511627776 (by decide) (ns.take (j+1)) λn hn=>by have:=hb n (List.mem_of_mem_take hn);lia
   have l2:(ns.take (j+1)).length<=100000:=by rw[List.length_take];unfold big at hz;lia
   unfold InLong;lia
 ·intro h' tk t' hk
  have e:preSum (λi=>ns.getD i 0) its.toArray.size=ns.sum:=by
   rw[List.size_toArray,<- hlen,a4c ns _ (Γi _),List.take_length]
  rw[e]
  refine⟨.int ns.sum,H,?_,⟨t',rfl⟩,q⟩
  exact I.kept (t':=tk) λb o e=>hk b o (by simp;exact Γo (Γl e)) (Γc _ e)
theorem b2d {prog:Program}{w:World}{A:Around}{its:List Value}{bs:List Bool}(r:Vals (bs.map V.bl) its):TruthOf prog w A (λi v=>its.toArray[i]?=some v) (λi=>bs.getD i false):=by
 intro i v s Q E hv hq
 have hlen:bs.length=its.length:=by have:=r.length;simpa using this
 have hi:i<bs.length:=by rw[hlen];simpa using (Array.getElem?_eq_some_iff.mp hv).1
 obtain⟨u,e,ru⟩:=r.get (i:=i) (x:=.bl (bs.getD i false)) (by simp[hi])
 have e':its.toArray[i]?=some u:=by simpa using e
 rw[hv] at e'
 cases e'
 cases ru
 exact Γb hq
theorem b5f (bs:List Bool):(List.range bs.length).all (λi=>bs.getD i false)=bs.all id:=by
 rw[Bool.eq_iff_iff]
 simp only[List.all_eq_true,List.mem_range,id]
 constructor
 ·intro h b hb
  obtain⟨i,hi,e⟩:=List.mem_iff_getElem.mp hb
  have:=h i hi
  simpa[List.getD,hi,e] using this
 ·intro h i hi
  have:=h bs[i] (List.getElem_mem hi)
  simpa[List.getD,hi] using this
theorem b5e (bs:List Bool):(List.range bs.length).any (λi=>bs.getD i false)=bs.any id:=by
 rw[Bool.eq_iff_iff]
 simp only[List.any_eq_true,List.mem_range,id]
 constructor
 ·rintro⟨i,hi,e⟩
  exact⟨bs[i],List.getElem_mem hi,by simpa[List.getD,hi] using e⟩
 ·rintro⟨b,hb,e⟩
  obtain⟨i,hi,e'⟩:=List.mem_iff_getElem.mp hb
  exact⟨i,hi,by simpa[List.getD,hi,e'] using e⟩
theorem b4p (hc:X.calm=true):a1j X (.builtin "all") (λxs H Q=>∃ (a:Addr)(bs:List Bool),xs=[.ref a]/\SqL X.K H a (bs.map V.bl)/\Q (.bl (bs.all id)) H):=by
 intro pins s σ H xs us Q I r h
 obtain⟨a,bs,rfl,hq,q⟩:=h
 obtain⟨u,rfl,rx⟩:=a3e r
 cases rx
 obtain⟨its,r',pl,hz'⟩:=I.list hq
 have hlen:bs.length=its.length:=by have:=r'.length;simpa using this
 have alt:a<s.heap.objs.size:=by obtain⟨_,e,_⟩:=pl.isList;exact Γl e
 have hh:X.A.in1.handled=none:=I.ok.hd hc
 refine call_all_walk (wpAny_pyIter_list pl.isList ?_)
 refine⟨s.heap.objs.size,_,_,_,_,_,λi=>bs.getD i false,rfl,Walks.list hh s.heap.objs.size a (Γo alt) its.toArray,⟨⟨_,Γm _ rfl,rfl,rfl⟩,pl.isList.at λo e=>Γc _ e⟩,b2d r',?_⟩
 intro h' tk hk
 rw[List.size_toArray,<- hlen,b5f]
 exact⟨.bl _,H,I.kept (t':=tk) λb o e=>hk b o (by simp;exact Γo (Γl e)) (Γc _ e),rfl,q⟩
theorem b4o (hc:X.calm=true):a1j X (.builtin "any") (λxs H Q=>∃ (a:Addr)(bs:List Bool),xs=[.ref a]/\SqL X.K H a (bs.map V.bl)/\Q (.bl (bs.any id)) H):=by
 intro pins s σ H xs us Q I r h
 obtain⟨a,bs,rfl,hq,q⟩:=h
 obtain⟨u,rfl,rx⟩:=a3e r
 cases rx
 obtain⟨its,r',pl,hz'⟩:=I.list hq
 have hlen:bs.length=its.length:=by have:=r'.length;simpa using this
 have alt:a<s.heap.objs.size:=by obtain⟨_,e,_⟩:=pl.isList;exact Γl e
 have hh:X.A.in1.handled=none:=I.ok.hd hc
 refine call_any_walk (wpAny_pyIter_list pl.isList ?_)
 refine⟨s.heap.objs.size,_,_,_,_,_,λi=>bs.getD i false,rfl,Walks.list hh s.heap.objs.size a (Γo alt) its.toArray,⟨⟨_,Γm _ rfl,rfl,rfl⟩,pl.isList.at λo e=>Γc _ e⟩,b2d r',?_⟩
 intro h' tk hk
 rw[List.size_toArray,<- hlen,b5e]
 exact⟨.bl _,H,I.kept (t':=tk) λb o e=>hk b o (by simp;exact Γo (Γl e)) (Γc _ e),rfl,q⟩
theorem d8f (hc:X.calm=true):a1j X (.builtin "sum") (Rc X.K c2y):=by
 rintro pins s σ H xs us Q I r ⟨S,v,x,z,rfl,hs,rv,e,k⟩
 obtain⟨ps,e1,e2⟩:=bnd e
 obtain⟨n,e3,rfl⟩:=mpd e2
 obtain⟨ns,e4,e5⟩:=bnd e3
 obtain⟨hb,rfl⟩:=itd e5
 obtain⟨a,ys,rfl,hq,ry⟩:=rv.list hs e1
 cases a1y ry e4
 refine b4l hc pins s σ H _ us Q I r ⟨a,ns,rfl,hq,hb.1,λn hn=>?_,k.int⟩
 have:=List.all_eq_true.mp hb.2 n hn
 simpa[b1b] using this
theorem d8k (hc:X.calm=true):a1j X (.builtin "all") (Rc X.K d1g):=by
 rintro pins s σ H xs us Q I r ⟨S,v,x,z,rfl,hs,rv,e,k⟩
 obtain⟨ps,e1,e2⟩:=bnd e
 obtain⟨bs,e3,rfl⟩:=mpd e2
 obtain⟨a,ys,rfl,hq,ry⟩:=rv.list hs e1
 cases a5f ry e3
 exact b4p hc pins s σ H _ us Q I r ⟨a,bs,rfl,hq,k.bl⟩
theorem d8j (hc:X.calm=true):a1j X (.builtin "any") (Rc X.K d1f):=by
 rintro pins s σ H xs us Q I r ⟨S,v,x,z,rfl,hs,rv,e,k⟩
 obtain⟨ps,e1,e2⟩:=bnd e
 obtain⟨bs,e3,rfl⟩:=mpd e2
 obtain⟨a,ys,rfl,hq,ry⟩:=rv.list hs e1
 cases a5f ry e3
 exact b4o hc pins s σ H _ us Q I r ⟨a,bs,rfl,hq,k.bl⟩
theorem a7h:∀ (xs:List Int) (b x:Int),a1r b (xs++[x])=if x<a1r b xs then x else a1r b xs
 | [],b,x=>rfl
 | y :: ys,b,x=>by
  show a1r (if y<b then y else b) (ys++[x])=_
  rw[a7h ys];rfl
theorem a9q (n:Int)(r:List Int):∀ k,k<=r.length->(n :: r)[argBest (λi j=>decide ((n :: r).getD i 0<(n :: r).getD j 0)) k]?=some (a1r n (r.take k))
 | 0,_=>by simp[argBest,a1r]
 | k+1,h=>by
  have ih:=a9q n r k (by lia)
  have hk:k<r.length:=h
  have e1:(n :: r).getD (argBest (λi j=>decide ((n :: r).getD i 0<(n :: r).getD j 0)) k) 0=a1r n (r.take k):=by rw[List.getD_eq_getElem?_getD,ih];rfl
  have e2:(n :: r).getD (k+1) 0=r[k]:=by simp[List.getD,hk]
  rw[List.take_succ_eq_append_getElem hk,a7h]
  simp only[argBest,e1,e2,decide_eq_true_eq]
  split
  ·simp[hk]
  ·exact ih
theorem d0x (hc:X.calm=true):a1j X (.builtin "min") (Rc X.K c0d):=by
 rintro pins s σ H xs us Q I r ⟨S,v,x,z,rfl,hs,rv,e,k⟩
 obtain⟨ps,e1,e2⟩:=bnd e
 obtain⟨ns,e3,e4⟩:=bnd e2
 obtain⟨a,ys,rfl,hq,ry⟩:=rv.list hs e1
 obtain⟨u,rfl,ru⟩:=a3e r
 cases (show u=Value.ref a from ru)
 obtain⟨its,r',pl,hz'⟩:=I.list hq
 have hh:X.A.in1.handled=none:=I.ok.hd hc
 have hlen:ys.length=its.length:=r'.length
 cases a1y ry e3
 cases ns with
 | nil=>cases e4
 | cons n r =>
  cases e4
  have hl2:its.length=r.length+1:=by rw[<- hlen];simp
  have it:∀ (i:Nat)(v:Value),its.toArray[i]?=some v->∃ t,v=Value.int ((n :: r).getD i 0) t:=λi v hv=>by
   have hv:its[i]?=some v:=by simpa using hv
   have hi:=(List.getElem?_eq_some_iff.mp hv).1
   obtain⟨t,e⟩:=Vals.mapInt r' i (by simp;lia)
   rw[hv] at e
   exact⟨t,Option.some.inj e⟩
  refine b4m (bt:=λi j=>decide ((n :: r).getD i 0<(n :: r).getD j 0)) hh pl.isList (by simp;lia) (λi j u v s1 Q1 E1 _ hi hj q1=>?_) λv h' tk hv hk=>?_
  ·obtain⟨t1,rfl⟩:=it i u hi
   obtain⟨t2,rfl⟩:=it j v hj
   exact PyProof.Rows.lt_int q1
  ·have hv:its[argBest (λi j=>decide ((n :: r).getD i 0<(n :: r).getD j 0)) (its.toArray.size-1)]?=some v:=by simpa using hv
   have hb:=a9q n r r.length (Γi _)
   rw[List.take_length] at hb
   have hsz:its.toArray.size-1=r.length:=by simp;lia
   rw[hsz] at hv
   generalize argBest (λi j=>decide ((n :: r).getD i 0<(n :: r).getD j 0)) r.length=z at hv hb
   obtain⟨t,rfl⟩:=it z v (by simpa using hv)
   rw[List.getD_eq_getElem?_getD,hb]
   exact⟨.int (a1r n r),H,I.kept (t':=tk) hk,⟨t,rfl⟩,k.int⟩
theorem b2e (hu:X.A.units+64<cLine)(hg:X.A.guards=some []){pins:List (Addr×Obj)}{s:Shared}{σ:L2.St}{v z:FV}{a:Addr}(I:Inv X pins σ H s)(hs:Same S H)(rv:RH X.K S H v (.ref a))(e:d3q v=some z)(k:NewOr X.K S H Q z):wpAny (model X.prog X.w) X.A (PySem.call (.type "str") [.ref a]) (EP X pins σ Q) X.xe s:=by
 obtain⟨d,e1,e2⟩:=bnd e
 obtain⟨hf,rfl⟩:=itd e2
 obtain⟨as,ra⟩:=a4m I hs rv (show RelV (.ref a) (.ref a) from rfl) e1
 have hdp:=a5q e1
 unfold a0y at hdp
 refine str_of_reads (h₀:=s.heap) ra (c5u d hf.1).1 (λz=>by rw[b3g] at z;cases z) hg (by lia) (λ_ _ h=>h) (λh' u' tk hk=>?_) (c5t hf.1 hf.2)
 exact⟨.str (dPy d).shown,H,I.kept (t':=tk) hk,⟨u',rfl⟩,k.old _ (λ_ z=>nomatch z) rfl⟩
theorem d8g (hu:X.A.units+64<cLine)(hg:X.A.guards=some []):a1j X (.type "str") (Rc X.K c7c):=by
 rintro pins s σ H xs us Q I r ⟨S,v,x,z,rfl,hs,rv,e,k⟩
 obtain⟨u,rfl,ru⟩:=a3e r
 cases v with
 | int i =>
  obtain⟨hc,rfl⟩:=itd e
  obtain rfl:=rv.int
  exact b0k pins s σ H _ _ Q I r ⟨i,rfl,by have:=log2_lt (k:=150) (by decide) hc;lia,k.str⟩
 | non =>
  cases e
  cases (show x=.non from rv.val rfl);cases (show u=_ from ru)
  exact PySem.P.str_of_none ⟨.str _,H,I.tok _,⟨_,rfl⟩,k.str⟩
 | bl b =>
  cases e
  obtain rfl:=rv.bl
  cases (show u=_ from ru)
  exact PySem.P.str_of_bool ⟨.str (Γe (if b then "True" else "False")),H,I.tok _,⟨_,by cases b<;>rfl⟩,k.str⟩
 | str x =>
  cases e
  cases (show _=V.str _ from rv.val rfl);obtain⟨t,rfl⟩:=ru
  exact PySem.P.str_of_str ⟨.str _,H,I,⟨_,rfl⟩,k.str⟩
 | tup xs =>
  obtain⟨a,ys,rfl,_⟩:=rv.tup hs
  cases (show u=_ from ru)
  exact b2e hu hg I hs rv e k
 | lst xs =>
  obtain⟨a,ys,rfl,_⟩:=rv.lst hs
  cases (show u=_ from ru)
  exact b2e hu hg I hs rv e k
 | _=>cases e
end
structure CC where
 N:List Str
 sc:List (Str×NameKind)
 fns:List Str
 md:Md
 top:Bool
 oc:List (Str×NameKind)
noncomputable def CC.vis (C:CC)(x:Str):Bool:=match C.sc.lookup x with
 | some .local=>true
 | some .cell=>true
 | some .free=>true
 | _=>false
noncomputable def CC.gl (C:CC)(x:Str):Bool:=decide (C.sc.lookup x=some .globalImplicit)
noncomputable def CC.loc (C:CC)(x:Str):Bool:=match C.sc.lookup x with
 | some .local=>true
 | some .cell=>C.top || C.oc.lookup x == some .cell
 | _=>false
noncomputable def CC.nm (C:CC) (i:Nat)(x:Str):Bool:=decide (C.N[i]?=some x) && C.vis x && !(x == ("__debug__":Str)) && !(x == ("__classdict__":Str))
noncomputable def bltNames:List String:=["len","abs","int","sum","all","any","min","max","tuple","list","isinstance","range","zip","bool","str","enumerate","reversed","sorted","dict","set"]
structure Good (X:Cx)(C:CC) (n:Nat)(sp:Γd->Nat->Sp):Prop where
 N:X.N=C.N
 sc:X.env.scope.names=C.sc
 kind:X.env.scope.kind=.function
 nd:C.N.Nodup
 calm:X.calm=true
 fn:∀ x,(C.top || C.oc.lookup x == some .cell)=true->X.fn x=true
 room:Room n X.A
 fns:∀ (f:Nat)(x:Str),C.fns[f]?=some x->∃ fa fd ps,X.mg x=some (.ref fa)/\PySem.W.keepIn X.K (.ref fa)=true/\Binds X.K fd ps []/\FnOk X.prog X.w X.K X.mg X.base CX0 n fa fd ps (sp X.K f)
 blt:∀ b∈bltNames,X.mg (Γe b)=none
theorem b2 {a b:Bool}(h:(a && b)=true):a=true/\b=true:=by simpa using h
theorem nb {a:Bool}(h:(!a)=true):a=false:=by simpa using h
theorem de {p:Prop} [Decidable p] (h:decide p=true):p:=by simpa using h
noncomputable def lv (K:Γd)(md:Md)(e:EW):TE:=λσ H Q=>∃ c L S Q0,Iv K c md L σ S H/\e L Q0/\∀ v L',Q0 v L'->∀ x S' H',RV K S' v x->Iv K c md L' σ S' H'->Same S S'->Q x H'
noncomputable def lr (K:Γd)(md:Md)(e:EW):TE:=λσ H Q=>∃ c L S Q0,Iv K c md L σ S H/\e L Q0/\∀ v L',Q0 v L'->∀ x S' H',RH K S' H' v x->Iv K c md L' σ S' H'->Same S S'->Q x H'
noncomputable def b0t (c:Cn)(md:Md)(L:a0c)(σ:L2.St)(a:Addr):Prop:=c.H0 a=none/\(∀ p∈c.pr,p.1≠a)/\∀ j w,a0g md j≠.imm->L[j]?=some (some w)->σ[j]?≠some (some (.ref a))
noncomputable def lf (K:Γd)(md:Md)(e:EW):TE:=λσ H Q=>∃ c L S Q0,Iv K c md L σ S H/\e L Q0/\∀ v L',Q0 v L'->∀ a S' H',a3m K S' H' a v->b0t c md L' σ a->Iv K c md L' σ S' H'->Same S S'->Q (.ref a) H'
noncomputable def lb (K:Γd)(md:Md)(e:BW):TT:=λσ H Q=>∃ c L S Q0,Iv K c md L σ S H/\e L Q0/\∀ v L',Q0 v L'->∀ S' H',Iv K c md L' σ S' H'->Same S S'->Q v H'
noncomputable def la (K:Γd)(md:Md)(e:AW):TA:=λσ H Q=>∃ c L S Q0,Iv K c md L σ S H/\e L Q0/\∀ v L',Q0 v L'->∀ x S' H',RVs K S' v x->Iv K c md L' σ S' H'->Same S S'->Q x H'
noncomputable def lo (K:Γd)(md:Md)(e:OW):TO:=λσ H Q=>∃ c L S Q0,Iv K c md L σ S H/\e L Q0/\∀ v L',Q0 v L'->∀ S' H',Iv K c md L' σ S' H'->Same S S'->Q v H'
noncomputable def FE (X:Cx)(C:CC)(x:Expr)(e:EW):Prop:=PE X.nox x (lv X.K C.md e)
noncomputable def FR (X:Cx)(C:CC)(x:Expr)(e:EW):Prop:=PE X.nox x (lr X.K C.md e)
noncomputable def FF (X:Cx)(C:CC)(x:Expr)(e:EW):Prop:=PE X.nox x (lf X.K C.md e)
noncomputable def FB (X:Cx)(C:CC)(x:Expr)(e:BW):Prop:=PT X.nox x (lb X.K C.md e)
noncomputable def FW (X:Cx)(C:CC)(x:Expr)(e:BW):Prop:=PW X.nox x (lb X.K C.md e)
noncomputable def FA (X:Cx)(C:CC)(x:List Expr)(e:AW):Prop:=PA X.nox x (la X.K C.md e)
noncomputable def FO (X:Cx)(C:CC)(x:Option Expr)(e:OW):Prop:=L2.PO X.nox x (lo X.K C.md e)
section
variable {X:Cx}
theorem PE.imp {e:Expr}{t u:TE}(h:PE X e t)(f:∀ σ H Q,u σ H Q->t σ H Q):PE X e u:=λpins s σ H Q I hu=>h pins s σ H Q I (f σ H Q hu)
theorem PT.imp {e:Expr}{t u:TT}(h:PT X e t)(f:∀ σ H Q,u σ H Q->t σ H Q):PT X e u:=λpins s σ H Q I hu=>h pins s σ H Q I (f σ H Q hu)
theorem PW.imp {e:Expr}{t u:TT}(h:PW X e t)(f:∀ σ H Q,u σ H Q->t σ H Q):PW X e u:=λw pins s σ H Q I hu=>h w pins s σ H Q I (f σ H Q hu)
theorem PA.imp {e:List Expr}{t u:TA}(h:PA X e t)(f:∀ σ H Q,u σ H Q->t σ H Q):PA X e u:=λp pins s σ H Q I hu=>h p pins s σ H Q I (f σ H Q hu)
theorem PO.imp {e:Option Expr}{t u:TO}(h:L2.PO X e t)(f:∀ σ H Q,u σ H Q->t σ H Q):L2.PO X e u:=λpins s σ H Q I hu=>h pins s σ H Q I (f σ H Q hu)
end
section
variable {X:Cx}{C:CC}{n:Nat}{sp:Γd->Nat->Sp}
theorem Good.vis (G:Good X C n sp){x:Str}(h:C.vis x=true):Vis X.env.scope x:=by
 unfold CC.vis at h
 unfold Vis
 rw[G.sc]
 split at h
 ·rename_i e;exact .inl e
 ·rename_i e;exact .inr (.inl e)
 ·rename_i e;exact .inr (.inr e)
 ·cases h
theorem Good.gl (G:Good X C n sp){x:Str}(h:C.gl x=true):Gl X x:=by
 show X.env.scope.names.lookup x=_
 rw[G.sc];exact de h
theorem Good.loc (G:Good X C n sp){x:Str}(h:C.loc x=true):L2.Loc X.env.scope x/\(X.fn x=true ∨ X.env.scope.names.lookup x=some .local):=by
 unfold CC.loc at h
 unfold L2.Loc
 rw[G.sc]
 split at h
 ·rename_i e;exact⟨.inl e,.inr e⟩
 ·rename_i e;exact⟨.inr e,.inl (G.fn x h)⟩
 ·cases h
variable {K:Γd}{c:Cn}{md:Md}{L:a0c}{σ:L2.St}{S H:Hp}
theorem Iv.rd (I:Iv K c md L σ S H){i:Nat}{v:FV}(e:lk L i=some v):∃ x,σ[i]?=some (some x)/\RH K S H v x:=by
 rw[a1m] at e
 by_cases m:a0g md i=.imm
 ·obtain⟨x,h1,h2⟩:=I.imm i v m e
  exact⟨x,h1,.inl h2⟩
 ·obtain⟨a,h1,h2,_⟩:=I.own i v m e
  exact⟨_,h1,.inr ⟨a,rfl,h2⟩⟩
theorem b3v {Q:VK}{z:FV}(I:Iv K c md L σ S H)(k:∀ x S' H',RV K S' z x->Iv K c md L σ S' H'->Same S S'->Q x H'):NewOr K S H Q z where
 old:=λx _ r=>k x S H r I (Same.refl S)
 tup:=λps xs p e r hp=>k _ _ _ (by rw[e];exact⟨p,xs,rfl,a0d,r.mono (a0j (I.sn hp))⟩) (I.new hp _) (a0j (I.sn hp))
 lst:=λps xs p e r hp=>k _ _ _ (by rw[e];exact⟨p,xs,rfl,a0d,r.mono (a0j (I.sn hp))⟩) (I.new hp _) (a0j (I.sn hp))
theorem Iv.fresh (I:Iv K c md L σ S H){p:Addr}(h:H p=none):b0t c md L σ p:=by
 refine⟨I.h0 h,λq hq z=>?_,λj w m e z=>?_⟩
 ·rw[<- z,(I.prs q hq).1] at h;cases h
 ·obtain⟨a,e1,⟨_,_,_,_,e2,_⟩,_⟩:=I.own j w m e
  rw[z] at e1;cases e1
  rw[h] at e2;cases e2
theorem c4i {Q:VK}{z:FV}(I:Iv K c md L σ S H)(hz:∃ ps,z=.lst ps)(k:∀ a S' H',a3m K S' H' a z->b0t c md L σ a->Iv K c md L σ S' H'->Same S S'->Q (.ref a) H'):NewOr K S H Q z where
 old:=λx n _=>let ⟨ps,e⟩:=hz;absurd e (n ps)
 tup:=λps xs p e r hp=>by obtain⟨qs,e2⟩:=hz;rw[e2] at e;cases e
 lst:=λps xs p e r hp=>by subst e;exact k p S _ ⟨I.sn hp,ps,xs,rfl,a0d,r⟩ (I.fresh hp) (I.lay hp _) (Same.refl S)
theorem fe_var (G:Good X C n sp){i:Nat}{x:Str}{pos:Pos}(h:C.nm i x=true)(m:a0g C.md i=.imm):FE X C (.Name x pos) (a0b i):=by
 have h:=b2 h;have h1:=b2 h.1;have h2:=b2 h1.1
 refine PE.imp (b5q (by show X.N[i]?=_;rw[G.N];exact de h2.1) (G.vis h2.2) (nb h1.2) (nb h.2)) λσ H Q ⟨c,L,S,Q0,I,h,k⟩=>?_
 obtain⟨v,e,q⟩:=wpx h
 obtain⟨x,e1,r⟩:=I.imm i v m ((a1m _ _ _).mp e)
 exact⟨x,e1,k v L q x S H r I (Same.refl S)⟩
theorem fr_var (G:Good X C n sp){i:Nat}{x:Str}{pos:Pos}(h:C.nm i x=true):FR X C (.Name x pos) (a0b i):=by
 have h:=b2 h;have h1:=b2 h.1;have h2:=b2 h1.1
 refine PE.imp (b5q (by show X.N[i]?=_;rw[G.N];exact de h2.1) (G.vis h2.2) (nb h1.2) (nb h.2)) λσ H Q ⟨c,L,S,Q0,I,h,k⟩=>?_
 obtain⟨v,e,q⟩:=wpx h
 obtain⟨x,e1,r⟩:=I.rd e
 exact⟨x,e1,k v L q x S H r I (Same.refl S)⟩
theorem fr_of {x:Expr}{e:EW}(h:FE X C x e):FR X C x e:=PE.imp h λσ H Q ⟨c,L,S,Q0,I,h,k⟩=>⟨c,L,S,Q0,I,h,λv L' q x S' H' r=>k v L' q x S' H' (.inl r)⟩
theorem d7b {x:Expr}{v:FV}{u:V}(h:PE X.nox x (tC u))(r:∀ S,RV X.K S v u):FE X C x (eC v):=PE.imp h λσ H Q ⟨c,L,S,Q0,I,h,k⟩=>k v L h u S H (r S) I (Same.refl S)
theorem fe_int {i j pos}:FE X C (.Constant (.int i) j pos) (eC (.int i)):=d7b c8m λ_=>rfl
theorem fe_bl {i j pos}:FE X C (.Constant (.bool i) j pos) (eC (.bl i)):=d7b d4t λ_=>rfl
theorem fe_non {j pos}:FE X C (.Constant .none j pos) (eC .non):=d7b c8k λ_=>rfl
section
variable {f:FV->FV->Option FV}{a b:Expr}{ea eb:EW}{pos:Pos}{i:Nat}{x:Str}
theorem a1f (G:Good X C n sp)(h:C.nm i x=true):PE X.nox (.Name x pos) (c6w i):=by
 have h:=b2 h;have h1:=b2 h.1;have h2:=b2 h1.1
 exact b5q (by show X.N[i]?=_;rw[G.N];exact de h2.1) (G.vis h2.2) (nb h1.2) (nb h.2)
theorem go2 {r:R2}{σ:L2.St}{H:Hp}{Q:VK}(hh:∃ (c:Cn)(L:a0c)(S:Hp)(Q0:FV->FV->a0c->Prop),Iv K c md L σ S H/\ea L (λx L1=>eb L1 λy L2=>Q0 x y L2)/\∀ v w L' S' H' x y,Q0 v w L'->RV K S' v x->RH K S' H' w y->Iv K c md L' σ S' H'->Same S S'->r x y H' Q):tOp r (lv K md ea) (lr K md eb) σ H Q:=by
 obtain⟨c,L,S,Q0,I,h,k⟩:=hh
 exact⟨c,L,S,_,I,h,λv L1 hv x S1 H1 r1 I1 s1=>⟨c,L1,S1,_,I1,hv,λw L2 hw y S2 H2 r2 I2 s2=>k v w L2 S2 H2 x y hw (r1.mono s2) r2 I2 (s1.trans s2)⟩⟩
theorem go2N {r:R2}{σ:L2.St}{H:Hp}{Q:VK}(hh:∃ (c:Cn)(L:a0c)(S:Hp)(Q0:FV->FV->a0c->Prop),Iv K c md L σ S H/\(wp (lk L i) λ_=>eb L λy L1=>wp (lk L1 i) λx=>Q0 x y L1)/\∀ v w L' S' H' x y,Q0 v w L'->RH K S' H' v x->RH K S' H' w y->Iv K c md L' σ S' H'->Same S S'->r x y H' Q):tOp r (c6w i) (lr K md eb) σ H Q:=by
 obtain⟨c,L,S,Q0,I,h,k⟩:=hh
 obtain⟨_,e,h⟩:=wpx h
 obtain⟨x,e1,_⟩:=I.rd e
 refine⟨x,e1,c,L,S,_,I,h,λw L2 hw y S2 H2 r2 I2 s2=>?_⟩
 obtain⟨v,e2,q⟩:=wpx hw
 obtain⟨x',e3,r1⟩:=I2.rd e2
 rw[e1] at e3;cases e3
 exact k v w L2 S2 H2 x y q r1 r2 I2 s2
theorem rq_v {Q0:FV->a0c->Prop}{Q:VK}{v w:FV}{x y:V}(I:Iv K c md L σ S H)(rv:RH K S H v x)(rw':RH K S H w y)(h:wp (f v w) λz=>Q0 z L)(k:∀ z,Q0 z L->∀ x S' H',RV K S' z x->Iv K c md L σ S' H'->Same S S'->Q x H'):Rq K f x y H Q:=by
 obtain⟨z,e,q⟩:=wpx h
 exact⟨S,v,w,z,I.sub,rv,rw',e,b3v I (k z q)⟩
theorem op_v (h:PE X.nox a (tOp (Rq X.K f) (lv X.K C.md ea) (lr X.K C.md eb))):FE X C a (eOp f ea eb):=PE.imp h λσ H Q ⟨c,L,S,Q0,I,h,k⟩ =>
 go2 ⟨c,L,S,λx y L2=>wp (f x y) λz=>Q0 z L2,I,h,λv w L' S' H' x y q r1 r2 I' s'=>rq_v I' (.inl r1) r2 q λz qz x S2 H2 r I2 s2=>k z L' qz x S2 H2 r I2 (s'.trans s2)⟩
variable {op:Operator}
theorem b4e (ho:OpR X.nox (binaryOp op) (Rq X.K f))(ha:FE X C a ea)(hb:FR X C b eb):FE X C (.BinOp a op b pos) (eOp f ea eb):=op_v (c8h ho ha hb)
theorem fe_add (ha:FE X C a ea)(hb:FR X C b eb):FE X C (.BinOp a .Add b pos) (eOp a5t ea eb):=b4e d4p ha hb
theorem fe_sub (ha:FE X C a ea)(hb:FR X C b eb):FE X C (.BinOp a .Sub b pos) (eOp d1l ea eb):=b4e d4j ha hb
theorem fe_mul (ha:FE X C a ea)(hb:FR X C b eb):FE X C (.BinOp a .Mult b pos) (eOp b1g ea eb):=b4e c7p ha hb
theorem d6w (ha:FE X C a ea)(hb:FR X C b eb):FE X C (.BinOp a .FloorDiv b pos) (eOp b7m ea eb):=b4e c7r ha hb
theorem fe_mod (ha:FE X C a ea)(hb:FR X C b eb):FE X C (.BinOp a .Mod b pos) (eOp b8w ea eb):=b4e d4m ha hb
theorem fe_pow (ha:FE X C a ea)(hb:FR X C b eb):FE X C (.BinOp a .Pow b pos) (eOp c8c ea eb):=b4e d4l ha hb
noncomputable def a5b (f:FV->FV->Option FV)(v w:FV):Option FV:=(f v w).bind λz=>(a5n z).map λxs=>.lst xs
theorem d6n (ho:OpR X.nox (binaryOp op) (Rq X.K f))(ha:FE X C a ea)(hb:FR X C b eb):FF X C (.BinOp a op b pos) (eOp (a5b f) ea eb):=PE.imp (c8h ho ha hb) λσ H Q ⟨c,L,S,Q0,I,h,k⟩ =>
 go2 ⟨c,L,S,λx y L2=>wp (a5b f x y) λz=>Q0 z L2,I,h,λv w L' S' H' x y q r1 r2 I' s'=>by
  obtain⟨z,e,q⟩:=wpx q
  obtain⟨z',e1,e2⟩:=bnd e
  obtain⟨xs,e3,rfl⟩:=mpd e2
  cases a2t e3
  exact⟨S',v,w,_,I'.sub,.inl r1,r2,e1,c4i I' ⟨xs,rfl⟩ λa S2 H2 o fr I2 s2=>k _ L' q a S2 H2 o fr I2 (s'.trans s2)⟩⟩
theorem ff_mul (ha:FE X C a ea)(hb:FR X C b eb):FF X C (.BinOp a .Mult b pos) (eOp (a5b b1g) ea eb):=d6n c7p ha hb
variable {cop:CmpOp}
theorem a9x (ho:OpR X.nox (compareOp cop) (Rq X.K f))(ha:FE X C a ea)(hb:FR X C b eb)(hm:behindInMarks cop b=false):FE X C (.Compare a [cop] [b] pos) (eOp f ea eb):=op_v (c3x ho ha hb hm)
noncomputable def a6p (f:FV->FV->Option FV):Prop:=∀ v w z,f v w=some z->∃ b,z=.bl b
theorem c6t {Q0:Bool->a0c->Prop}{Q:Bool->Hp->Prop}{v w:FV}{x y:V}(tb:a6p f)(I:Iv K c md L σ S H)(rv:RH K S H v x)(rw':RH K S H w y)(h:wp (f v w) λz=>wp (b4w z) λb=>Q0 b L)(k:∀ z,Q0 z L->Q z H):Rq K f x y H (λx H'=>∃ k,x=.bl k/\Q k H'):=by
 obtain⟨z,e,q⟩:=wpx h
 obtain⟨b,rfl⟩:=tb v w z e
 exact⟨S,v,w,_,I.sub,rv,rw',e,⟨λx _ r=>⟨b,r,k b q⟩,λ_ _ _ e=>(nomatch e),λ_ _ _ e=>(nomatch e)⟩⟩
theorem a7m (tb:a6p f)(ho:OpR X.nox (compareOp cop) (Rq X.K f))(ha:FE X C a ea)(hb:FR X C b eb)(hm:behindInMarks cop b=false):FB X C (.Compare a [cop] [b] pos) (a1i (eOp f ea eb)):=PT.imp (c3m ho ha hb hm) λσ H Q ⟨c,L,S,Q0,I,h,k⟩ =>
 go2 ⟨c,L,S,λx y L2=>wp (f x y) λz=>wp (b4w z) λb=>Q0 b L2,I,h,λv w L' S' H' x y q r1 r2 I' s'=>c6t tb I' (.inl r1) r2 q λz qz=>k z L' qz S' H' I' s'⟩
end
end
noncomputable def a0h:Expr->Bool|.Starred ..=>true|_=>false
noncomputable def a2l:Expr->Bool|.Slice ..=>true|_=>false
noncomputable def c1y:Expr->Bool
 | .UnaryOp .Not _ _=>false
 | .BoolOp ..=>false
 | .IfExp ..=>false
 | .Compare ..=>false
 | _=>true
section
variable {X:Cx}{C:CC}{n:Nat}{sp:Γd->Nat->Sp}{a b d x y z:Expr}{ea eb ec:EW}{pos:Pos}
theorem a0f {xs:List Expr}{env:Env}(h:a0h x=false):starEach (x :: xs) env=(false,eval x env) :: starEach xs env:=by
 cases x<;>first|rfl|(cases h;done)
theorem a5l (h:a2l y=false):b8u y:=by
 intro o i
 cases y<;>first|rfl|(cases h;done)
theorem a9f {env:Env}(h:c1y x=true):∀ whole,isTrue x env whole=(do let v <- whole;standAt x.pos;holding [v] (PySem.truthy v)):=by
 intro whole
 cases x<;>first|rfl|(cases h;done)|(rename_i op x pos;cases op<;>first|rfl|(cases h;done))
theorem fe_eq (G:Good X C n sp)(ha:FE X C a ea)(hb:FR X C b eb):FE X C (.Compare a [.Eq] [b] pos) (eOp eqB ea eb):=a9x (q_eq G.room.units) ha hb (a1w _ (by decide) (by decide))
theorem fe_ne (G:Good X C n sp)(ha:FE X C a ea)(hb:FR X C b eb):FE X C (.Compare a [.NotEq] [b] pos) (eOp neB ea eb):=a9x (q_ne G.room.units) ha hb (a1w _ (by decide) (by decide))
theorem fe_lt (G:Good X C n sp)(ha:FE X C a ea)(hb:FR X C b eb):FE X C (.Compare a [.Lt] [b] pos) (eOp ltB ea eb):=a9x (q_lt G.room.units) ha hb (a1w _ (by decide) (by decide))
theorem fe_ge (ha:FE X C a ea)(hb:FR X C b eb):FE X C (.Compare a [.GtE] [b] pos) (eOp geB ea eb):=a9x q_ge ha hb (a1w _ (by decide) (by decide))
theorem c1p {f:FV->FV->Option Bool}{g:Bool->FV}(h:∀ b,∃ c,g b=.bl c):a6p λv w=>(f v w).map g:=λv w z e=>by
 obtain⟨b,_,rfl⟩:=mpd e
 exact h b
theorem c1q {f:Int->Int->Bool}:a6p (a3i λi j=>some (.bl (f i j))):=λv w z e=>by
 obtain⟨i,_,e⟩:=bnd e
 obtain⟨j,_,e⟩:=bnd e
 cases e;exact⟨_,rfl⟩
theorem d3d:a6p ltB:=λv w z e=>by
 cases v with
 | tup xs =>
  obtain⟨_,_,e⟩:=bnd e
  obtain⟨_,_,e⟩:=bnd e
  obtain⟨_,_,e⟩:=bnd e
  cases e;exact⟨_,rfl⟩
 | _=>exact c1q _ w z e
theorem fb_eq (G:Good X C n sp)(ha:FE X C a ea)(hb:FR X C b eb):FB X C (.Compare a [.Eq] [b] pos) (a1i (eOp eqB ea eb)):=a7m (c1p λb=>⟨b,rfl⟩) (q_eq G.room.units) ha hb (a1w _ (by decide) (by decide))
theorem fb_ne (G:Good X C n sp)(ha:FE X C a ea)(hb:FR X C b eb):FB X C (.Compare a [.NotEq] [b] pos) (a1i (eOp neB ea eb)):=a7m (c1p λb=>⟨!b,rfl⟩) (q_ne G.room.units) ha hb (a1w _ (by decide) (by decide))
theorem fb_lt (G:Good X C n sp)(ha:FE X C a ea)(hb:FR X C b eb):FB X C (.Compare a [.Lt] [b] pos) (a1i (eOp ltB ea eb)):=a7m d3d (q_lt G.room.units) ha hb (a1w _ (by decide) (by decide))
theorem fb_gt (ha:FE X C a ea)(hb:FR X C b eb):FB X C (.Compare a [.Gt] [b] pos) (a1i (eOp gtB ea eb)):=a7m c1q q_gt ha hb (a1w _ (by decide) (by decide))
variable {i:Nat}{nx:Str}{p:Pos}
section
variable {cop cop':CmpOp}{f g:FV->FV->Option FV}
end
end
section
variable {X:Cx}{C:CC}{n:Nat}{sp:Γd->Nat->Sp}{a b d x y z:Expr}{ea eb ec:EW}{ba bb:BW}{pos p:Pos}
variable {K:Γd}{c:Cn}{md:Md}{L:a0c}{σ:L2.St}{S H:Hp}
theorem b2m {v:FV}{x:V}(r1:RH K S H v x):a2c v=some (.bl (decide (x=V.non)))/\a0v v=some (.bl (!decide (x=V.non))):=by
 rcases r1 with r1|⟨a,rfl,_,ps,xs,e9,_⟩
 ·cases v<;>first|(cases (show x=_ from r1);simp[a2c,a0v];done)|(obtain⟨a,_,rfl,_⟩:=r1;simp[a2c,a0v];done)|(obtain⟨a,rfl,_⟩:=r1;simp[a2c,a0v];done)
 ·cases v<;>first|(cases e9;done)|simp[a2c,a0v]
theorem fe_isN {j pos'}(ha:FR X C a ea):FE X C (.Compare a [.Is] [.Constant .none j pos'] pos) (eUn a2c ea):=PE.imp (c2b (c2c ha)) λσ H Q ⟨c,L,S,Q0,I,h,k⟩ =>
 ⟨c,L,S,_,I,h,λv L1 hv x S1 H1 r1 I1 s1=>by
  obtain⟨z,e3,q⟩:=wpx hv
  rw[(b2m r1).1] at e3;cases e3
  exact k _ L1 q _ S1 H1 rfl I1 s1⟩
theorem fb_isN {j pos'}(ha:FR X C a ea):FB X C (.Compare a [.Is] [.Constant .none j pos'] pos) (a1i (eUn a2c ea)):=PT.imp (c1v (c2c ha)) λσ H Q ⟨c,L,S,Q0,I,h,k⟩ =>
 ⟨c,L,S,_,I,h,λv L1 hv x S1 H1 r1 I1 s1=>by
  obtain⟨z,e3,q⟩:=wpx hv
  rw[(b2m r1).1] at e3;cases e3
  exact⟨_,rfl,k _ L1 q S1 H1 I1 s1⟩⟩
theorem d6r {j pos'}(ha:FR X C a ea):FE X C (.Compare a [.IsNot] [.Constant .none j pos'] pos) (eUn a0v ea):=PE.imp (c2b (b5s ha)) λσ H Q ⟨c,L,S,Q0,I,h,k⟩ =>
 ⟨c,L,S,_,I,h,λv L1 hv x S1 H1 r1 I1 s1=>by
  obtain⟨z,e3,q⟩:=wpx hv
  rw[(b2m r1).2] at e3;cases e3
  exact k _ L1 q _ S1 H1 rfl I1 s1⟩
theorem d7n {j pos'}(ha:FR X C a ea):FB X C (.Compare a [.IsNot] [.Constant .none j pos'] pos) (a1i (eUn a0v ea)):=PT.imp (c1v (b5s ha)) λσ H Q ⟨c,L,S,Q0,I,h,k⟩ =>
 ⟨c,L,S,_,I,h,λv L1 hv x S1 H1 r1 I1 s1=>by
  obtain⟨z,e3,q⟩:=wpx hv
  rw[(b2m r1).2] at e3;cases e3
  exact⟨_,rfl,k _ L1 q S1 H1 I1 s1⟩⟩
theorem fe_not (ha:FE X C a ea):FE X C (.UnaryOp .Not a pos) (eUn d5e ea):=PE.imp (c8j ha) λσ H Q ⟨c,L,S,Q0,I,h,k⟩ =>
 ⟨c,L,S,_,I,h,λv L1 hv x S1 H1 r1 I1 s1=>by
  obtain⟨z,e,q⟩:=wpx hv
  obtain⟨b,e1,rfl⟩:=mpd e
  cases d1b e1
  exact⟨b,r1,k _ L1 q _ S1 H1 rfl I1 s1⟩⟩
theorem fe_neg (ha:FE X C a ea):FE X C (.UnaryOp .USub a pos) (eUn d1v ea):=PE.imp (d4s c6q ha) λσ H Q ⟨c,L,S,Q0,I,h,k⟩ =>
 ⟨c,L,S,_,I,h,λv L1 hv x S1 H1 r1 I1 s1=>by
  obtain⟨z,e,q⟩:=wpx hv
  obtain⟨b,e1,rfl⟩:=mpd e
  cases a1c e1
  exact⟨b,r1,k _ L1 q _ S1 H1 rfl I1 s1⟩⟩
theorem b4v {v:FV}{u:V}{t:Bool}(s:Same S H)(r:RH K S H v u)(e:b4w v=some t):d3b K u H t:=by
 have em:∀ {ps:List FV}{xs:List V},RVs K S ps xs->(!ps.isEmpty) = !xs.isEmpty:=λ{ps xs} h=>by cases ps<;>cases xs<;>first|rfl|(have:=h.length;simp at this)
 cases v with
 | non=>cases (show u=V.non from r.val rfl);cases e;exact rfl
 | bl c=>cases r.bl;cases e;exact rfl
 | int c=>cases r.int;cases e;exact rfl
 | str c=>cases e
 | shn c=>cases e
 | dct _ _=>cases e
 | dci _ _=>cases e
 | dcz _ _ _=>cases e
 | obj _ _ _=>cases e
 | dcn _ _ _=>cases e
 | tup ps =>
  obtain⟨a,xs,rfl,h1,h2⟩:=r.tup s
  cases e
  exact .inr (.inl ⟨xs,SqT.of h1,em h2⟩)
 | lst l =>
  obtain⟨a,xs,rfl,h1,h2⟩:=r.lst s
  cases e
  exact .inl ⟨xs,SqL.of h1,em h2⟩
 | scr ns =>
  cases e
  obtain⟨a,xs,rfl,h1,h2⟩:=r.list s (show a1q (.scr ns)=_ from rfl)
  refine .inl ⟨_,h1,?_⟩
  rw[<- em h2];cases ns<;>rfl
theorem c4a {rest:List Expr}{ta tb:TE}(ha:PE X a ta)(hb:PE X (.BoolOp .And (b :: rest) pos) tb) :
  PE X (.BoolOp .And (a :: b :: rest) pos) (λσ H Q=>ta σ H λx H1=>∃ c,d3b X.K x H1 c/\(if c=true then tb σ H1 Q else Q x H1)):=by
 intro pins s σ H Q I h
 refine BoolOp_and (thn (ha pins s σ H _ I h) λv s1 ⟨x,H1,I1,r1,c,tv,q1⟩=>?_)
 refine thn (c1o pins s1 σ H1 x v (λc' H'=>c'=c/\H'=H1) I1 r1 ⟨c,tv,rfl,rfl⟩) λb s2 ⟨H2,I2,e1,e2⟩=>?_
 subst e1 e2
 cases b with
 | true=>exact hb pins s2 σ H2 Q I2 (by simpa using q1)
 | false=>exact⟨x,H2,I2,r1,by simpa using q1⟩
theorem fe_one {op:BoolOp}(ha:FE X C a ea):FE X C (.BoolOp op [a] pos) ea:=c8i ha
theorem fe_and {rest:List Expr}(ha:FE X C a ea)(hb:FE X C (.BoolOp .And (b :: rest) pos) eb):FE X C (.BoolOp .And (a :: b :: rest) pos) (d0p ea eb):=PE.imp (c4a ha hb) λσ H Q ⟨c,L,S,Q0,I,h,k⟩ =>
 ⟨c,L,S,_,I,h,λv L1 hv x S1 H1 r1 I1 s1=>by
  obtain⟨t,e,q⟩:=wpx hv
  refine⟨t,b4v I1.sub (.inl r1) e,?_⟩
  cases t with
  | true=>exact⟨c,L1,S1,Q0,I1,q,λv L' q x S' H' r I' s'=>k v L' q x S' H' r I' (s1.trans s')⟩
  | false=>exact k v L1 q x S1 H1 r1 I1 s1⟩
theorem fe_if (hc:FB X C d ba)(ha:FE X C a ea)(hb:FE X C b eb):FE X C (.IfExp d a b pos) (eIf ba ea eb):=PE.imp (b9v hc ha hb) λσ H Q ⟨c,L,S,Q0,I,h,k⟩ =>
 ⟨c,L,S,_,I,h,λt L1 hv S1 H1 I1 s1=>by
  cases t with
  | true=>exact⟨c,L1,S1,Q0,I1,hv,λv L' q x S' H' r I' s'=>k v L' q x S' H' r I' (s1.trans s')⟩
  | false=>exact⟨c,L1,S1,Q0,I1,hv,λv L' q x S' H' r I' s'=>k v L' q x S' H' r I' (s1.trans s')⟩⟩
theorem fb_val (hp:c1y a=true)(ha:FR X C a ea):FB X C a (a1i ea):=PT.imp (b9p ha (a9f hp)) λσ H Q ⟨c,L,S,Q0,I,h,k⟩ =>
 ⟨c,L,S,_,I,h,λv L1 hv x S1 H1 r1 I1 s1=>by
  obtain⟨t,e,q⟩:=wpx hv
  exact⟨t,b4v I1.sub r1 e,k t L1 q S1 H1 I1 s1⟩⟩
theorem fb_not (ha:FB X C a ba):FB X C (.UnaryOp .Not a pos) (c1i ba):=PT.imp (c7y ha) λσ H Q ⟨c,L,S,Q0,I,h,k⟩=>⟨c,L,S,_,I,h,λt L1 hv S1 H1 I1 s1=>k _ L1 hv S1 H1 I1 s1⟩
theorem d5w (ha:FB X C a ba):FW X C (.BoolOp .And [a] pos) ba:=c3k ha
theorem fw_or1 (ha:FB X C a ba):FW X C (.BoolOp .Or [a] pos) ba:=c7v ha
theorem fw_and {rest:List Expr}(ha:FB X C a ba)(hb:FW X C (.BoolOp .And (b :: rest) pos) bb):FW X C (.BoolOp .And (a :: b :: rest) pos) (b8p ba bb):=PW.imp (c7w ha hb) λσ H Q ⟨c,L,S,Q0,I,h,k⟩ =>
 ⟨c,L,S,_,I,h,λt L1 hv S1 H1 I1 s1=>by
  cases t with
  | true=>exact⟨c,L1,S1,Q0,I1,hv,λv L' q S' H' I' s'=>k v L' q S' H' I' (s1.trans s')⟩
  | false=>exact k _ L1 hv S1 H1 I1 s1⟩
theorem fw_or {rest:List Expr}(ha:FB X C a ba)(hb:FW X C (.BoolOp .Or (b :: rest) pos) bb):FW X C (.BoolOp .Or (a :: b :: rest) pos) (bOr ba bb):=PW.imp (d4q ha hb) λσ H Q ⟨c,L,S,Q0,I,h,k⟩ =>
 ⟨c,L,S,_,I,h,λt L1 hv S1 H1 I1 s1=>by
  cases t with
  | false=>exact⟨c,L1,S1,Q0,I1,hv,λv L' q S' H' I' s'=>k v L' q S' H' I' (s1.trans s')⟩
  | true=>exact k _ L1 hv S1 H1 I1 s1⟩
theorem fb_w (h:FW X C a ba):FB X C a ba:=PW.pt h
theorem fa_nil:FA X C [] a0p:=PA.imp a2q λσ H Q ⟨c,L,S,Q0,I,h,k⟩=>k [] L h [] S H rfl I (Same.refl S)
theorem d7p {xs:List Expr}{as:AW}(hs:a0h a=false)(ha:FE X C a ea)(hr:FA X C xs as):FA X C (a :: xs) (a0a ea as):=PA.imp (a0s ha hr (a0f hs)) λσ H Q ⟨c,L,S,Q0,I,h,k⟩ =>
 ⟨c,L,S,_,I,h,λv L1 hv x S1 H1 r1 I1 s1=>⟨c,L1,S1,_,I1,hv,λvs L2 hvs us S2 H2 r2 I2 s2=>k _ L2 hvs _ S2 H2 ⟨x,us,rfl,r1.mono s2,r2⟩ I2 (s1.trans s2)⟩⟩
theorem fe_tup {xs:List Expr}{as:AW}{m:Nat}(h:FA X C xs as):FE X C (.Tuple xs m pos) (a6h as):=PE.imp (c8g h) λσ H Q ⟨c,L,S,Q0,I,h,k⟩ =>
 ⟨c,L,S,_,I,h,λvs L1 hv us S1 H1 r1 I1 s1=>⟨by have:=a1b;rw[<- r1.length];exact Nat.le_trans hv.1 this,λp hp=>(b3v I1 λx S' H' r I' s'=>k _ L1 hv.2 x S' H' r I' (s1.trans s')).tup _ _ p rfl r1 hp⟩⟩
theorem fe_lst {xs:List Expr}{as:AW}(h:FA X C xs as):FE X C (.List xs pos) (a6j as):=PE.imp (c2a h) λσ H Q ⟨c,L,S,Q0,I,h,k⟩ =>
 ⟨c,L,S,_,I,h,λvs L1 hv us S1 H1 r1 I1 s1=>⟨by have:=a1b;rw[<- r1.length];exact Nat.le_trans hv.1 this,λp hp=>(b3v I1 λx S' H' r I' s'=>k _ L1 hv.2 x S' H' r I' (s1.trans s')).lst _ _ p rfl r1 hp⟩⟩
theorem ff_lst {xs:List Expr}{as:AW}(h:FA X C xs as):FF X C (.List xs pos) (a6j as):=PE.imp (c2a h) λσ H Q ⟨c,L,S,Q0,I,h,k⟩ =>
 ⟨c,L,S,_,I,h,λvs L1 hv us S1 H1 r1 I1 s1=>⟨by have:=a1b;rw[<- r1.length];exact Nat.le_trans hv.1 this,λp hp=>(c4i I1 ⟨vs,rfl⟩ λa S' H' o fr I' s'=>k _ L1 hv.2 a S' H' o fr I' (s1.trans s')).lst _ _ p rfl r1 hp⟩⟩
theorem fe_ix (hs:a2l b=false)(ha:FE X C a ea)(hb:FR X C b eb):FE X C (.Subscript a b pos) (eOp ixF ea eb):=PE.imp (c8l q_ix ha hb (a5l hs)) λσ H Q ⟨c,L,S,Q0,I,h,k⟩ =>
 go2 ⟨c,L,S,λx y L2=>wp (ixF x y) λz=>Q0 z L2,I,h,λv w L' S' H' x y q r1 r2 I' s'=>by
  obtain⟨z,e,q⟩:=wpx q
  exact⟨S',v,w,z,I'.sub,.inl r1,r2,e,λu r=>k z L' q u S' H' r I' s'⟩⟩
theorem fe_ixN (G:Good X C n sp){i:Nat}{nx:Str}(hs:a2l b=false)(h:C.nm i nx=true)(hb:FR X C b eb):FE X C (.Subscript (.Name nx p) b pos) (a6i ixF i eb):=PE.imp (c8l q_ix (a1f G h) hb (a5l hs)) λσ H Q ⟨c,L,S,Q0,I,h,k⟩ =>
 go2N ⟨c,L,S,λx y L2=>wp (ixF x y) λz=>Q0 z L2,I,h,λv w L' S' H' x y q r1 r2 I' s'=>by
  obtain⟨z,e,q⟩:=wpx q
  exact⟨S',v,w,z,I'.sub,r1,r2,e,λu r=>k z L' q u S' H' r I' s'⟩⟩
theorem d6h:FO X C none c4g:=PO.imp c3t λσ H Q ⟨c,L,S,Q0,I,h,k⟩=>k none L h S H I (Same.refl S)
theorem d6g (h:FE X C a ea):FO X C (some a) (b6c ea):=PO.imp (c3s h) λσ H Q ⟨c,L,S,Q0,I,h,k⟩ =>
 ⟨c,L,S,_,I,h,λv L1 hv x S1 H1 r1 I1 s1=>by
  obtain⟨i,e,q⟩:=wpx hv
  cases a1c e
  exact⟨i,r1,k _ L1 q S1 H1 I1 s1⟩⟩
variable {xl xh:Option Expr}{wl wh:OW}{p2:Pos}
end
section
variable {X:Cx}{C:CC}{n:Nat}{sp:Γd->Nat->Sp}{a b d x y z:Expr}{ea eb ec:EW}{ba bb:BW}{pos p:Pos}
variable {K:Γd}{c:Cn}{md:Md}{L:a0c}{σ:L2.St}{S H:Hp}{i:Nat}{nx:Str}
variable {xl xh:Option Expr}{wl wh:OW}{p2:Pos}
noncomputable def sliceL (k:Nat)(l h:OW):EW:=λL Q=>eSlN k l h L λz L'=>isL z=true/\(∃ ps,z=.lst ps)/\Q z L'
theorem d0w {f:FV->Option FV}{Q:VK}(hh:lv K md (eUn f ea) σ H Q):tCB (Rc K f) (b8z (lr K md ea) tNil) σ H Q:=by
 obtain⟨c,L,S,Q0,I,h,k⟩:=hh
 refine⟨c,L,S,_,I,h,λv L1 hv x S1 H1 r1 I1 s1=>?_⟩
 obtain⟨z,e,q⟩:=wpx hv
 exact⟨S1,v,x,z,rfl,I1.sub,r1,e,b3v I1 λx S' H' r I' s'=>k z L1 q x S' H' r I' (s1.trans s')⟩
theorem b1p {id nm:String}{f:FV->Option FV}(hc:a1j X.nox (.builtin id) (Rc X.K f))(G:Good X C n sp)(hb:nm∈bltNames)(hv:bootBuiltins (Γe nm)=some (.builtin id))(h1:Γe nm≠"__name__")(h2:(Γe nm == ("__debug__":Str))=false)(hg:C.gl (Γe nm)=true)(hs:a0h a=false)(ha:FR X C a ea) :
  FE X C (.Call (.Name (Γe nm) p) [a] [] pos) (eUn f ea):=PE.imp (a4o hc (G.gl hg) (G.blt nm hb) hv (a0s ha a2q (a0f hs)) h1 h2 (a0f hs) rfl) λσ H Q h=>d0w h
theorem c0v {T nm:String}{f:FV->Option FV}(hc:a1j X.nox (.type T) (Rc X.K f))(G:Good X C n sp)(hb:nm∈bltNames)(hv:bootBuiltins (Γe nm)=some (.type T))(h1:Γe nm≠"__name__")(h2:(Γe nm == ("__debug__":Str))=false)(hg:C.gl (Γe nm)=true)(hs:a0h a=false)(ha:FR X C a ea) :
  FE X C (.Call (.Name (Γe nm) p) [a] [] pos) (eUn f ea):=PE.imp (a5z hc (G.gl hg) (G.blt nm hb) hv (a0s ha a2q (a0f hs)) h1 h2 (a0f hs) rfl) λσ H Q h=>d0w h
theorem fe_len (G:Good X C n sp)(hg:C.gl (Γe "len")=true)(hs:a0h a=false)(ha:FR X C a ea):FE X C (.Call (.Name (Γe "len") p) [a] [] pos) (eUn b1l ea):=b1p d8h G (by decide) (by nofun) (by nofun) (by nofun) hg hs ha
theorem fe_abs (G:Good X C n sp)(hg:C.gl (Γe "abs")=true)(hs:a0h a=false)(ha:FR X C a ea):FE X C (.Call (.Name (Γe "abs") p) [a] [] pos) (eUn d1h ea):=b1p d8l G (by decide) (by nofun) (by nofun) (by nofun) hg hs ha
theorem fe_sum (G:Good X C n sp)(hg:C.gl (Γe "sum")=true)(hs:a0h a=false)(ha:FR X C a ea):FE X C (.Call (.Name (Γe "sum") p) [a] [] pos) (eUn c2y ea):=b1p (d8f G.calm) G (by decide) (by nofun) (by nofun) (by nofun) hg hs ha
theorem fe_all (G:Good X C n sp)(hg:C.gl (Γe "all")=true)(hs:a0h a=false)(ha:FR X C a ea):FE X C (.Call (.Name (Γe "all") p) [a] [] pos) (eUn d1g ea):=b1p (d8k G.calm) G (by decide) (by nofun) (by nofun) (by nofun) hg hs ha
theorem fe_any (G:Good X C n sp)(hg:C.gl (Γe "any")=true)(hs:a0h a=false)(ha:FR X C a ea):FE X C (.Call (.Name (Γe "any") p) [a] [] pos) (eUn d1f ea):=b1p (d8j G.calm) G (by decide) (by nofun) (by nofun) (by nofun) hg hs ha
theorem d6s (G:Good X C n sp)(hg:C.gl (Γe "min")=true)(hs:a0h a=false)(ha:FR X C a ea):FE X C (.Call (.Name (Γe "min") p) [a] [] pos) (eUn c0d ea):=b1p (d0x G.calm) G (by decide) (by nofun) (by nofun) (by nofun) hg hs ha
theorem d2m (G:Good X C n sp)(hg:C.gl (Γe "int")=true)(hs:a0h a=false)(ha:FR X C a ea):FE X C (.Call (.Name (Γe "int") p) [a] [] pos) (eUn a3y ea):=c0v d8i G (by decide) (by nofun) (by nofun) (by nofun) hg hs ha
theorem d2k (G:Good X C n sp)(hg:C.gl (Γe "tuple")=true)(hs:a0h a=false)(ha:FR X C a ea):FE X C (.Call (.Name (Γe "tuple") p) [a] [] pos) (eUn a3f ea):=c0v c5z G (by decide) (by nofun) (by nofun) (by nofun) hg hs ha
theorem d6u (G:Good X C n sp)(hg:C.gl (Γe "list")=true)(hs:a0h a=false)(ha:FR X C a ea):FE X C (.Call (.Name (Γe "list") p) [a] [] pos) (eUn a4e ea):=c0v c2p G (by decide) (by nofun) (by nofun) (by nofun) hg hs ha
theorem d2l (G:Good X C n sp)(hg:C.gl (Γe "str")=true)(hs:a0h a=false)(ha:FR X C a ea):FE X C (.Call (.Name (Γe "str") p) [a] [] pos) (eUn c7c ea):=c0v (d8g G.room.units G.room.gd) G (by decide) (by nofun) (by nofun) (by nofun) hg hs ha
theorem d6p (G:Good X C n sp)(hg:C.gl (Γe "list")=true)(hs:a0h a=false)(ha:FR X C a ea):FF X C (.Call (.Name (Γe "list") p) [a] [] pos) (eUn a4e ea) :=
 PE.imp (a5z c2p (G.gl hg) (G.blt "list" (by decide)) (by nofun) (a0s ha a2q (a0f hs)) (by nofun) (by nofun) (a0f hs) rfl) λσ H Q ⟨c,L,S,Q0,I,h,k⟩ =>
 ⟨c,L,S,_,I,h,λv L1 hv x S1 H1 r1 I1 s1=>by
  obtain⟨z,e,q⟩:=wpx hv
  obtain⟨ps,e1,rfl⟩:=mpd e
  exact⟨S1,v,x,_,rfl,I1.sub,r1,e,c4i I1 ⟨ps,rfl⟩ λa S' H' o fr I' s'=>k _ L1 q a S' H' o fr I' (s1.trans s')⟩⟩
theorem d7c {id nm:String}{f:FV->FV->Option FV}(hc:a1j X.nox (.builtin id) (Rc2 X.K f))(G:Good X C n sp)(hb:nm∈bltNames)(hv:bootBuiltins (Γe nm)=some (.builtin id))(h1:Γe nm≠"__name__")(h2:(Γe nm == ("__debug__":Str))=false)(hg:C.gl (Γe nm)=true)(hs:a0h a=false)(hs2:a0h b=false)(ha:FE X C a ea)(hb':FR X C b eb) :
  FE X C (.Call (.Name (Γe nm) p) [a,b] [] pos) (eOp f ea eb):=PE.imp (a4o hc (G.gl hg) (G.blt nm hb) hv (a0s ha (a0s hb' a2q (a0f hs2)) (a0f hs)) h1 h2 (a0f hs) (by rw[a0f hs2];rfl)) λσ H Q ⟨c,L,S,Q0,I,h,k⟩ =>
 ⟨c,L,S,_,I,h,λv L1 hv x S1 H1 r1 I1 s1=>⟨c,L1,S1,_,I1,hv,λw L2 hw y S2 H2 r2 I2 s2=>by
  obtain⟨z,e,q⟩:=wpx hw
  exact⟨S2,v,w,x,y,z,rfl,I2.sub,.inl (r1.mono s2),r2,e,b3v I2 λx S' H' r I' s'=>k z L2 q x S' H' r I' (s1.trans (s2.trans s'))⟩⟩⟩
theorem d6t (G:Good X C n sp)(hg:C.gl (Γe "max")=true)(hs:a0h a=false)(hs2:a0h b=false)(ha:FE X C a ea)(hb':FR X C b eb):FE X C (.Call (.Name (Γe "max") p) [a,b] [] pos) (eOp b6g ea eb):=d7c (d0y G.calm) G (by decide) (by nofun) (by nofun) (by nofun) hg hs hs2 ha hb'
noncomputable def b2c:Ty->String|.int=>"int" | .bool=>"bool" | .str=>"str" | .list=>"list" | .tuple=>"tuple"
theorem b8y {v:FV}{u:V}{t:Ty}{r:Bool}(s:Same S H)(rv:RH K S H v u)(e:a9u v t=some r):∃ T,TyOf K H u (.type T)/\PySem.W.kitOne K (.type T) (.type (b2c t))=some r:=by
 cases v with
 | non=>cases (show u=V.non from rv.val rfl);exact⟨_,.non,by cases e;cases t<;>rfl⟩
 | bl c=>cases rv.bl;exact⟨_,.bl _,by cases e;cases t<;>rfl⟩
 | int c=>cases rv.int;exact⟨_,.int _,by cases e;cases t<;>rfl⟩
 | str c=>cases (show u=V.str _ from rv.val rfl);exact⟨_,.str _,by cases e;cases t<;>rfl⟩
 | tup ps =>
  obtain⟨a,xs,rfl,h1,h2⟩:=rv.tup s
  exact⟨_,.tup h1,by cases e;cases t<;>rfl⟩
 | lst l =>
  obtain⟨a,xs,rfl,h1,h2⟩:=rv.lst s
  exact⟨_,.lst h1,by cases e;cases t<;>rfl⟩
 | scr ns=>cases e
 | dct _ _=>cases e
 | dci _ _=>cases e
 | dcz _ _ _=>cases e
 | obj _ _ _=>cases e
 | dcn _ _ _=>cases e
 | shn d=>cases (show u=V.str _ from rv.val rfl);exact⟨_,.str _,by cases e;cases t<;>rfl⟩
theorem fe_isi {t:Ty}{tn:Str}(G:Good X C n sp)(hg:C.gl (Γe "isinstance")=true)(ht:tn=Γe (b2c t))(hg2:C.gl tn=true)(hs:a0h a=false)(ha:FR X C a ea) :
  FE X C (.Call (.Name (Γe "isinstance") p) [a,.Name tn p2] [] pos) (eUn (c4w t) ea):=by
 subst ht
 have cc:a1j X.nox (.builtin "isinstance") (λxs H Q=>∃ v c b T,xs=[v,.ty c]/\TyOf X.K H v (.type T)/\PySem.W.kitOne X.K (.type T) (.type c)=some b/\Q (.bl b) H):=by
  rintro pins s σ H xs us Q I r ⟨v,c,b,T,rfl,h1,h2,q⟩
  obtain⟨u,u',rfl,ru,ru'⟩:=c6p r
  obtain rfl:u'=.type c:=ru'
  exact b6y I ru h1 h2 λtk=>⟨.bl b,H,I.tok _,rfl,q⟩
 have tt:PE X.nox (.Name (Γe (b2c t)) p2) (tC (.ty (b2c t))):=by
  cases t<;>exact c3z (G.gl hg2) (G.blt _ (by decide)) (by nofun) rfl (by nofun) (by nofun)
 refine PE.imp (a4o cc (G.gl hg) (G.blt "isinstance" (by decide)) (by nofun) (a0s ha (a0s tt a2q rfl) (a0f hs)) (by nofun) (by nofun) (a0f hs) rfl) λσ H Q ⟨c,L,S,Q0,I,h,k⟩ =>
  ⟨c,L,S,_,I,h,λv L1 hv x S1 H1 r1 I1 s1=>?_⟩
 obtain⟨z,e,q⟩:=wpx hv
 obtain⟨r,e1,rfl⟩:=mpd e
 obtain⟨T,t1,t2⟩:=b8y I1.sub r1 e1
 exact⟨x,_,_,T,rfl,t1,t2,k _ L1 q _ S1 H1 rfl I1 s1⟩
noncomputable def bmOk (apos cpos:Pos):Bool:=apos.endLine == cpos.line
theorem fe_app (G:Good X C n sp){apos cpos:Pos}(h:C.nm i nx=true)(m:a0g C.md i=.own)(hl:bmOk apos cpos=true)(hs:a0h a=false)(ha:FE X C a ea):FE X C (.Call (.Attribute (.Name nx p) (Γe "append") apos) [a] [] cpos) (b1r c6f i ea):=by
 refine PE.imp (c8n PySem.F.plainAttrs_list PySem.F.slot_list_append PySem.F.type_list_append a9k (a1f G h) (a0s ha a2q (a0f hs)) rfl (by rw[a0f hs];rfl) hl (a0f hs) rfl) λσ H Q ⟨c,L,S,Q0,I,h,k⟩=>?_
 obtain⟨v,e,h⟩:=wpx h
 obtain⟨v9,e9,h⟩:=wpx h
 cases a2t e9
 have e':=(a1m _ _ _).mp e
 have mi:a0g C.md i≠.imm:=λz=>by rw[m] at z;cases z
 obtain⟨l,e1,⟨_,ps,xs,e8,h1,_⟩,_⟩:=I.own i _ mi e'
 refine⟨_,e1,.inl ⟨rfl,xs,SqL.of h1⟩,c,L,S,_,I,h,λw L1 hw y S1 H1 r1 I1 s1=>?_⟩
 obtain⟨v1,e2,hw⟩:=wpx hw
 obtain⟨z,e3,q⟩:=wpx hw
 have e2':=(a1m _ _ _).mp e2
 obtain⟨qs,e4,e5⟩:=bnd e3
 cases a2t e4
 obtain⟨hb,rfl⟩:=itd e5
 obtain⟨l',f1,⟨f2,rs,zs,f3,f4,f5⟩,_⟩:=I1.own i _ mi e2'
 rw[e1] at f1;cases f1
 cases f3
 have:=a1b
 exact⟨l,zs,y,rfl,rfl,f4,by rw[<- f5.length];lia,k _ _ q .non S1 _ rfl (I1.write m e2' e1 (f5.append (RVs.one r1))) s1⟩
end
noncomputable def ArgsOk (K:Γd)(S H:Hp)(args:List FV)(vs:List V):Bool->Prop
 | false=>RVs K S args vs
 | true=>∃ v r a us,args=v :: r/\vs=.ref a :: us/\a3m K S H a v/\RVs K S r us
noncomputable def c6h (K:Γd)(S' H' H:Hp)(v:FV)(x:V):Bool->Prop
 | false=>RV K S' v x
 | true=>∃ a,x=.ref a/\a3m K S' H' a v/\H a=none
noncomputable def b2r (vs:List V):Bool->Option Addr
 | false=>none
 | true=>match vs with
  | .ref a :: _=>some a
  | _=>none
structure Kept (K:Γd)(S H S' H':Hp)(P:Option Addr)(w:FV):Prop where
 same:Same S S'
 sub:Same S' H'
 grow:∀ a o,S' a=some o->S a=some o ∨ H a=none ∨ a6x o=true
 keep:∀ a o,H a=some o->P≠some a->H' a=some o
 back:∀ a,P=some a->a3m K S' H' a w
noncomputable def spQ (K:Γd)(call:CW)(io fr:Bool) (f:Nat):Sp:=λvs H Q E=>∃ S args Q0,Same S H/\ArgsOk K S H args vs io/\call f args Q0/\∀ z,Q0 z->∀ x S' H',Kept K S H S' H' (b2r vs io) z.2->c6h K S' H' H z.1 x fr->Q x H'
section
variable {X:Cx}{C:CC}{n:Nat}{sp:Γd->Nat->Sp}{a b d x y z:Expr}{ea eb ec:EW}{pos p:Pos}{call:CW}
variable {K:Γd}{c:Cn}{md:Md}{L:a0c}{σ:L2.St}{S H S' H':Hp}{i f:Nat}{nx:Str}{xs:List Expr}{as:AW}
noncomputable def a1u (xs:List Expr):Bool:=xs.all λx=>!a0h x
theorem b2f:∀ {xs:List Expr}{env:Env},a1u xs=true->(backTo pos (starEach xs env)).any (·.1)=false
 | [],_,_=>rfl
 | x :: xs,env,h=>by
  have h:=b2 (show (!a0h x && a1u xs)=true from h)
  rw[a0f (nb h.1)]
  show (false || (backTo pos (starEach xs env)).any (·.1))=false
  rw[b2f h.2];rfl
theorem Kept.iv (I:Iv K c md L σ S H){w:FV}(k:Kept K S H S' H' none w):Iv K c md L σ S' H':=I.go3 k.same k.sub k.grow λa o e=>k.keep a o e (by simp)
theorem a6n (G:Good X C n sp){t:TA}(hf:C.fns[f]?=some nx)(hg:C.gl nx=true)(hd:(nx == ("__debug__":Str))=false)(hs:a1u (a :: xs)=true)(ha:PA X.nox (a :: xs) t):PE X.nox (.Call (.Name nx p) (a :: xs) [] pos) (λσ H Q=>t σ H λvs H1=>sp X.K f vs H1 Q E0):=by
 obtain⟨fa,fd,ps,h1,h2,h3,h4⟩:=G.fns f nx hf
 have h:=b2 (show (!a0h a && a1u xs)=true from hs)
 refine PE.imp (c3y (X:=X.nox) h4 G.room (G.gl hg) h1 h2 h3 .nil d4u ha hd (a0f (nb h.1)) (b2f h.2)) λσ H Q q=>?_
 show t σ H λvs H1=>sp X.K f (vs++[]) H1 Q E0
 have e:(λvs H1=>sp X.K f (vs++[]) H1 Q E0)=λvs H1=>sp X.K f vs H1 Q E0:=by funext vs H1;rw[List.append_nil]
 rw[e];exact q
theorem d7a (G:Good X C n sp)(e:sp X.K f=spQ X.K call false false f)(hf:C.fns[f]?=some nx)(hg:C.gl nx=true)(hd:(nx == ("__debug__":Str))=false)(hs:a1u (a :: xs)=true)(ha:FA X C (a :: xs) as):FE X C (.Call (.Name nx p) (a :: xs) [] pos) (a2w call f as) :=
 PE.imp (a6n G hf hg hd hs ha) λσ H Q ⟨c,L,S,Q0,I,h,k⟩=>⟨c,L,S,_,I,h,λvs L1 hv us S1 H1 r1 I1 s1=>by
  rw[e]
  exact⟨S1,vs,_,I1.sub,r1,hv,λz q x S' H' kp r=>k _ L1 q x S' H' r (kp.iv I1) (s1.trans kp.same)⟩⟩
theorem d6q (G:Good X C n sp)(e:sp X.K f=spQ X.K call false true f)(hf:C.fns[f]?=some nx)(hg:C.gl nx=true)(hd:(nx == ("__debug__":Str))=false)(hs:a1u (a :: xs)=true)(ha:FA X C (a :: xs) as):FF X C (.Call (.Name nx p) (a :: xs) [] pos) (a2w call f as) :=
 PE.imp (a6n G hf hg hd hs ha) λσ H Q ⟨c,L,S,Q0,I,h,k⟩=>⟨c,L,S,_,I,h,λvs L1 hv us S1 H1 r1 I1 s1=>by
  rw[e]
  refine⟨S1,vs,_,I1.sub,r1,hv,λz q x S' H' kp r=>?_⟩
  obtain⟨a,rfl,o,hn⟩:=r
  exact k _ L1 q a S' H' o (I1.fresh hn) (kp.iv I1) (s1.trans kp.same)⟩
theorem b6d {v:FV}{q:Addr}(I:Iv K c md L σ S H)(o:a3m K S H q v)(fr:b0t c md L σ q):∃ u,H q=some u/\Iv K c md L σ (upd S q u) H/\RV K (upd S q u) v (.ref q):=by
 obtain⟨h1,ps,us,e0,h2,h3⟩:=o
 have s:=a0j (o:=b9y v us) h1
 refine⟨_,h2,⟨I.len,λi v h e=>let ⟨x,e1,r⟩:=I.imm i v h e;⟨x,e1,r.mono s⟩,λi v h e=>?_,I.dis,λa u e=>?_,I.frame,I.s0.trans s,λa u e=>?_,I.lent,I.fzs,I.fzm,I.fzp,λp hp=>let ⟨g1,g2,g3⟩:=I.prs p hp;⟨g1,by rw[a0e (fr.2.1 p hp)];exact g2,g3⟩,I.ntp,I.lnt1,I.tie⟩,?_⟩
 ·obtain⟨b,e1,⟨g1,rs,zs,g2,g3,g4⟩,g5⟩:=I.own i v h e
  have hb:b≠q:=λz=>by subst z;exact fr.2.2 i v h e e1
  exact⟨b,e1,⟨by rw[a0e hb];exact g1,rs,zs,g2,g3,g4.mono s⟩,g5⟩
 ·by_cases z:a=q
  ·subst z;rw[a0d] at e;cases e;exact h2
  ·rw[a0e z] at e;exact I.sub a u e
 ·by_cases z:a=q
  ·subst z;exact .inr (.inl fr.1)
  ·rw[a0e z] at e;exact I.grow a u e
 ·cases v with
  | lst qs=>cases e0;exact⟨q,us,rfl,a0d,h3.mono s⟩
  | dct ks vs=>obtain⟨hl,rfl⟩:=itd e0;exact⟨q,us,rfl,hl,a0d,h3.mono s⟩
  | dci ks vs=>obtain⟨hl,rfl⟩:=itd e0;exact⟨q,us,rfl,hl,a0d,h3.mono s⟩
  | dcz o ks vs=>obtain⟨hl,rfl⟩:=itd e0;exact⟨q,us,rfl,hl,a0d,h3.mono s⟩
  | obj C dx fs=>cases e0;exact⟨q,rfl,a0d⟩
  | dcn z ks vs=>obtain⟨hl,rfl⟩:=itd e0;exact⟨q,us,rfl,hl,a0d,h3.mono s⟩
  | _=>cases e0
theorem a2v (h:FF X C a ea):FE X C a ea:=PE.imp h λσ H Q ⟨c,L,S,Q0,I,h,k⟩=>⟨c,L,S,Q0,I,h,λv L' q a S' H' o fr I' s'=>by
 obtain⟨u,hu,I2,r⟩:=b6d I' o fr
 exact k v L' q _ _ H' r I2 (s'.trans (a0j o.1))⟩
theorem c4c (G:Good X C n sp){t:TA}(h:C.nm i nx=true)(hr:PA X.nox xs t):PA X.nox (.Name nx p :: xs) (b8z (c6w i) t):=a0s (a1f G h) hr rfl
theorem c1h {Q:VK}{fr:Bool}{Q1:FV->a0c->Prop}(I:Iv K c md L σ S H)(m:a0g md i=.own)(h:a1g call f i as L Q1)
  (k:∀ v L' x H1 S' H',Q1 v L'->c6h K S' H' H1 v x fr->Iv K c md L' σ S' H'->Same S S'->(∀ a,H1 a=none->b0t c md L' σ a)->Q x H'):b8z (c6w i) (la K md as) σ H λvs H1=>spQ K call true fr f vs H1 Q E0:=by
 obtain⟨v0,e,h⟩:=wpx h
 have mi:a0g md i≠.imm:=λz=>by rw[m] at z;cases z
 obtain⟨l,e1,_⟩:=I.own i v0 mi ((a1m _ _ _).mp e)
 refine⟨_,e1,c,L,S,_,I,h,λvs L1 hv us S1 H1 r1 I1 s1=>?_⟩
 obtain⟨v1,e2,q⟩:=wpx hv
 have e2:=(a1m _ _ _).mp e2
 obtain⟨l',f1,o,_⟩:=I1.own i v1 mi e2
 rw[e1] at f1;cases f1
 refine⟨S1,v1 :: vs,_,I1.sub,⟨v1,vs,l,us,rfl,rfl,o,r1⟩,q,λz q x S' H' kp r=>?_⟩
 have I2:=I1.back3 m e2 e1 kp.same kp.sub kp.grow (λb o e n=>kp.keep b o e λz=>n (by cases z;rfl)) (kp.back l rfl)
 refine k _ _ x H1 S' H' q r I2 (s1.trans kp.same) λa ha=>⟨I1.h0 ha,(I1.fresh ha).2.1,λj w mj ej z=>?_⟩
 obtain⟨_,_,g2⟩:=I1.fresh ha
 by_cases hj:j=i
 ·subst hj;exact g2 j v1 mj e2 z
 ·rw[List.getElem?_set_ne (Ne.symm hj)] at ej;exact g2 j w mj ej z
theorem d2p (G:Good X C n sp){np:Str}{pp:Pos}(e:sp X.K f=spQ X.K call true false f)(hf:C.fns[f]?=some np)(hg:C.gl np=true)(hd:(np == ("__debug__":Str))=false)(h:C.nm i nx=true)(m:a0g C.md i=.own)(hs:a1u xs=true)(ha:FA X C xs as):FE X C (.Call (.Name np pp) (.Name nx p :: xs) [] pos) (a1g call f i as) :=
 PE.imp (a6n G hf hg hd (show (true && a1u xs)=true by rw[hs];rfl) (c4c G h ha)) λσ H Q ⟨c,L,S,Q0,I,h,k⟩=>by
  rw[e]
  exact c1h I m h λv L' x H1 S' H' q r I' s' _=>k v L' q x S' H' r I' s'
end
section
variable {K:Γd}{c:Cn}{md:Md}{L:a0c}{σ:L2.St}{S H:Hp}{i:Nat}{v:FV}{x:V}{a:Addr}
theorem Iv.setI (I:Iv K c md L σ S H)(m:a0g md i=.imm)(r:RV K S v x):Iv K c md (L.set i (some v)) (σ.set i (some x)) S H :=
 I.set (λa h z=>by subst z;exact (I.lent a h).1 m) (λz=>by rw[m] at z;cases z) (.inl ⟨m,r⟩)
theorem Iv.prot (I:Iv K c md L σ S H){o:HO}(h:H a=some o)(hs:S a=none)(ho:∀ i v,(a0g md i).w=true->L[i]?=some (some v)->σ[i]?≠some (some (.ref a)))(nt:a6x o=false:=by first|rfl|exact a5a _ _):Iv K { c with pr:=(a,o) :: c.pr } md L σ S H :=
 ⟨I.len,I.imm,I.own,I.dis,I.sub,I.frame,I.s0,I.grow,I.lent,I.fzs,I.fzm,λp hp=>let ⟨xs,h⟩:=I.fzp p hp;⟨xs,Γh _ h⟩,λp hp=>(List.mem_cons.mp hp).elim (λe=>e ▸ ⟨h,hs,ho⟩) (I.prs p),λp hp=>(List.mem_cons.mp hp).elim (λe=>e ▸ nt) (I.ntp p),I.lnt1,I.tie⟩
theorem b2p:∀ {md:Md}{i j:Nat}{m:Mo},i<md.length->a0g (md.set i m) j=if j=i then m else a0g md j
 | [],i,j,m,h=>absurd h (Nat.not_lt_zero _)
 | a :: md,0,0,m,h=>rfl
 | a :: md,0,j+1,m,h=>by simp[a0g]
 | a :: md,i+1,0,m,h=>by simp[a0g]
 | a :: md,i+1,j+1,m,h=>by
  have:=b2p (md:=md) (i:=i) (j:=j) (m:=m) (by simpa using h)
  simpa[a0g] using this
theorem c2f:∀ {md:Md}{i:Nat},a0g md i=.own->i<md.length
 | [],i,h=>by simp[a0g] at h
 | a :: md,0,h=>by simp
 | a :: md,i+1,h=>by simpa using c2f (md:=md) (i:=i) h
theorem Iv.frz (I:Iv K c md L σ S H){ob:HO}(m:a0g md i=.own)(e:L[i]?=some (some v))(e1:σ[i]?=some (some (.ref a)))(h:H a=some ob) :
  Iv K { c with fz:=(i,a) :: c.fz,pr:=(a,ob) :: c.pr } (md.set i .frz) L σ S H/\∀ L σ S H,Iv K { c with fz:=(i,a) :: c.fz,pr:=(a,ob) :: c.pr } (md.set i .frz) L σ S H->Iv K c md L σ S H:=by
 have hl:=c2f m
 have mi:a0g md i≠.imm:=λz=>by rw[m] at z;cases z
 have M:∀ j,a0g (md.set i .frz) j=if j=i then .frz else a0g md j:=λj=>b2p hl
 have im:∀ {j},a0g (md.set i .frz) j=.imm↔a0g md j=.imm:=λ{j}=>by
  rw[M]
  by_cases q:j=i
  ·subst q;rw[if_pos rfl,m];simp
  ·rw[if_neg q]
 have gm:∀ {j},(a0g md j).g=true->a0g (md.set i .frz) j=a0g md j:=λ{j} h=>by
  rw[M,if_neg λq=>by rw[q,m] at h;cases h]
 have gm':∀ {j k x},a0g (md.set i .frz) j=.gst k x->a0g md j=.gst k x:=λ{j k x} h=>by
  rw[M] at h
  split at h
  ·cases h
  ·exact h
 have om:∀ {j},a0g (md.set i .frz) j=.ob->a0g md j=.ob:=λ{j} h=>by
  rw[M] at h
  split at h
  ·cases h
  ·exact h
 have nfz:∀ p∈c.fz,p.1≠i:=λp hp z=>by have:=(I.fzs p hp).1;rw[z,m] at this;cases this
 have npr:∀ p∈c.pr,p.1≠a:=λp hp z=>(I.prs p hp).2.2 i v (Mo.w_own m) e (by rw[z];exact e1)
 obtain⟨a',f1,o,_⟩:=I.own i v mi e
 rw[e1] at f1;cases f1
 have nt:a6x ob=false:=by
  obtain⟨_,_,_,_,h5,_⟩:=o
  rw[h] at h5;rw[Option.some.inj h5,a5a]
 constructor
 ·refine⟨I.len,λj w h=>I.imm j w (im.mp h),λj w h=>I.own j w (λz=>h (im.mpr z)),λj k w u b h1 h2=>I.dis j k w u b (λz=>h1 (im.mpr z)) (λz=>h2 (im.mpr z)),I.sub,I.frame,I.s0,I.grow,λb hb=>let ⟨g1,g2⟩:=I.lent b hb;⟨λz=>g1 (im.mp z),g2⟩,λp hp=>?_,λj w hm hj=>?_,λp hp=>?_,λp hp=>?_,λp hp=>(List.mem_cons.mp hp).elim (λz=>by rw[z];exact nt) (I.ntp p),λq hq=>let ⟨g1,g2⟩:=I.lnt1 q hq;⟨by rw[gm g1];exact g1,g2⟩,λj k x C dx fs w h1 h2=>I.tie j k x C dx fs w (gm' h1) (om h2)⟩
  ·rcases List.mem_cons.mp hp with rfl|hp
   ·exact⟨by rw[M,if_pos rfl],e1,v,e⟩
   ·obtain⟨g1,g2⟩:=I.fzs p hp
    exact⟨by rw[M,if_neg (nfz p hp)];exact g1,g2⟩
  ·by_cases q:j=i
   ·subst q;exact⟨a,Γn⟩
   ·rw[M,if_neg q] at hm
    obtain⟨b,g1⟩:=I.fzm j w hm hj
    exact⟨b,Γh _ g1⟩
  ·rcases List.mem_cons.mp hp with rfl|hp
   ·exact⟨_,Γn⟩
   ·obtain⟨ys,g⟩:=I.fzp p hp
    exact⟨ys,Γh _ g⟩
  ·have own':∀ {j},(a0g (md.set i .frz) j).w=true->j≠i/\(a0g md j).w=true:=λ{j} z=>by
    by_cases q:j=i
    ·subst q;rw[M,if_pos rfl] at z;cases z
    ·rw[M,if_neg q] at z;exact⟨q,z⟩
   rcases List.mem_cons.mp hp with rfl|hp
   ·exact⟨h,o.1,λj w hm hj hz=>(own' hm).1 (I.dis j i w v a (Mo.w_imm (own' hm).2) mi hj e hz e1)⟩
   ·obtain⟨g1,g2,g3⟩:=I.prs p hp
    exact⟨g1,g2,λj w hm=>g3 j w (own' hm).2⟩
 ·intro L σ S H J
  obtain⟨_,j1,_⟩:=J.fzs (i,a) Γn
  refine⟨J.len,λj w h=>J.imm j w (im.mpr h),λj w h=>J.own j w (λz=>h (im.mp z)),λj k w u b h1 h2=>J.dis j k w u b (λz=>h1 (im.mp z)) (λz=>h2 (im.mp z)),J.sub,J.frame,J.s0,J.grow,λb hb=>let ⟨g1,g2⟩:=J.lent b hb;⟨λz=>g1 (im.mpr z),g2⟩,λp hp=>?_,λj w hm hj=>?_,I.fzp,λp hp=>?_,I.ntp,λq hq=>?_,λj k x C dx fs w h1 h2=>?_⟩
  ·obtain⟨g1,g2⟩:=J.fzs p (Γh _ hp)
   rw[M,if_neg (nfz p hp)] at g1
   exact⟨g1,g2⟩
  ·have q:j≠i:=λz=>by rw[z,m] at hm;cases hm
   obtain⟨b,g1⟩:=J.fzm j w (by rw[M,if_neg q];exact hm) hj
   rcases List.mem_cons.mp g1 with z|g1
   ·exact absurd (Prod.mk.inj z).1 q
   ·exact⟨b,g1⟩
  ·obtain⟨g1,g2,g3⟩:=J.prs p (Γh _ hp)
   refine⟨g1,g2,λj w hm hj=>?_⟩
   by_cases q:j=i
   ·subst q;rw[j1];exact λz=>npr p hp (by cases z;rfl)
   ·exact g3 j w (by rw[M,if_neg q];exact hm) hj
  ·obtain⟨g1,g2⟩:=J.lnt1 q hq
   refine⟨?_,g2⟩
   rw[M] at g1
   split at g1
   ·cases g1
   ·exact g1
  ·have n1:j≠i:=λz=>by rw[z,m] at h1;cases h1
   have n2:k≠i:=λz=>by rw[z,m] at h2;cases h2
   exact J.tie j k x C dx fs w (by rw[M,if_neg n1];exact h1) (by rw[M,if_neg n2];exact h2)
end
noncomputable def ItR (K:Γd)(c:Cn)(md:Md)(J:It)(xs:List FV)(S1:Hp):Prop :=
 ∀ (i:Nat)(L:a0c)(σ:L2.St)(S H:Hp),Iv K c md L σ S H->Same S1 S->(xs[i]?=none->J.stop i H)/\∀ p,xs[i]?=some p->J.go i H/\∀ v H',J.yld i H v H'->∃ S',Same S S'/\(∀ c md L σ,Iv K c md L σ S H->Iv K c md L σ S' H')/\RV K S' p v
noncomputable def li (K:Γd)(md md':Md)(it:AW):TI:=λσ H R=>∃ c L S Q0,Iv K c md L σ S H/\it L Q0/\∀ xs L',Q0 xs L'->∀ J c' S' H',Iv K c' md' L' σ S' H'->(∀ L σ S H,Iv K c' md' L σ S H->Iv K c md L σ S H)->c'.H0=c.H0->ItR K c' md' J xs S'->Same S S'->R J H'
noncomputable def FI (X:Cx)(C:CC)(md':Md)(tg iter:Expr)(it:AW):Prop:=PI X.nox tg iter (li X.K C.md md' it)
section
variable {X:Cx}{C:CC}{n:Nat}{sp:Γd->Nat->Sp}{a b d x y z tg:Expr}{ea eb ec:EW}{pos p:Pos}
variable {K:Γd}{c:Cn}{md:Md}{L:a0c}{σ:L2.St}{S H:Hp}{i:Nat}{nx:Str}
theorem PI.imp {X:Cx}{tg it:Expr}{t u:TI}(h:PI X tg it t)(f:∀ σ H R,u σ H R->t σ H R):PI X tg it u:=λpins s σ H R I hu=>h pins s σ H R I (f σ H R hu)
noncomputable def Its (K:Γd):Bool->Addr->It
 | true,a=>Itl K a
 | false,a=>Itt K a
theorem c1z {X:Cx}{tg it:Expr}{te:TE}(h:PE X it te):PI X tg it (λσ H R=>te σ H λv H1=>∃ b a xs,v=.ref a/\SqB b X.K H1 a xs/\R (Its X.K b a) H1):=by
 intro pins s σ H R I hh
 refine thn (h pins s σ H _ I hh) λv s1 ⟨x,H1,I1,r1,b,a,xs,e,hq,q⟩=>?_
 subst e
 cases r1
 cases b with
 | true =>
  obtain⟨its,rv,p,hz⟩:=I1.list hq
  refine wpAny_pyIter_list p.isList ?_
  refine⟨s1.heap.objs.size,[s1.heap.objs.size],_,_,H1,rfl,I1.kept (t':=s1.toks) λb o e=>Γc _ e,b4t a _,⟨_,Γm _ rfl,rfl,rfl⟩,λb hb=>?_,q⟩
  have e:b=s1.heap.objs.size:=by simpa using hb
  subst e
  exact I1.fpOk (Γi _) (I1.hok.fresh (Γi _))
 | false =>
  obtain⟨its,rv,p,hz⟩:=I1.tuple hq
  refine wpAny_pyIter_tuple p ?_
  refine⟨s1.heap.objs.size,[s1.heap.objs.size],_,_,H1,rfl,I1.kept (t':=s1.toks) λb o e=>Γc _ e,b3n a _,⟨_,Γm _ rfl,rfl,rfl⟩,λb hb=>?_,q⟩
  have e:b=s1.heap.objs.size:=by simpa using hb
  subst e
  exact I1.fpOk (Γi _) (I1.hok.fresh (Γi _))
theorem c2m {t:Bool}{q:Addr}{ps:List FV}{S1:Hp}(h:∀ L σ S H,Iv K c md L σ S H->Same S1 S->∃ vs,SqB t K H q vs/\RVs K S ps vs):ItR K c md (Its K t q) ps S1:=by
 intro i L σ S H I s
 obtain⟨vs,h1,h2⟩:=h L σ S H I s
 cases t with
 | true =>
  refine⟨λe=>⟨vs,h1,by rw[<- h2.length];exact List.getElem?_eq_none_iff.mp e⟩,λp ep=>?_⟩
  obtain⟨v,e1,r1⟩:=h2.get ep
  refine⟨⟨vs,v,h1,e1⟩,λw H' ⟨eh,y⟩=>?_⟩
  have:=y vs h1
  rw[e1] at this;cases this
  subst eh
  exact⟨S,Same.refl S,λ_ _ _ _ I=>I,r1⟩
 | false =>
  refine⟨λe=>⟨vs,h1,by rw[<- h2.length];exact List.getElem?_eq_none_iff.mp e⟩,λp ep=>?_⟩
  obtain⟨v,e1,r1⟩:=h2.get ep
  refine⟨⟨vs,v,h1,e1⟩,λw H' ⟨eh,y⟩=>?_⟩
  have:=y vs h1
  rw[e1] at this;cases this
  subst eh
  exact⟨S,Same.refl S,λ_ _ _ _ I=>I,r1⟩
theorem RV.stays {v:FV}{ps:List FV}{u:V}{S1:Hp}(r:RV K S1 v u)(e:a4z v=some ps):∃ q,u=.ref q/\∀ S H,Same S1 S->Same S H->∃ vs,SqB (isL v) K H q vs/\RVs K S ps vs:=by
 cases v with
 | tup qs=>cases e;obtain⟨q,vs,rfl,h1,h2⟩:=r;exact⟨q,rfl,λS H s s'=>⟨vs,SqT.of (s' _ _ (s _ _ h1)),h2.mono s⟩⟩
 | lst qs=>cases e;obtain⟨q,vs,rfl,h1,h2⟩:=r;exact⟨q,rfl,λS H s s'=>⟨vs,SqL.of (s' _ _ (s _ _ h1)),h2.mono s⟩⟩
 | scr ns=>cases e;obtain⟨q,rfl,h⟩:=r;exact⟨q,rfl,λS H s s'=>⟨_,h.sq (s.trans s'),RVs.ns ns⟩⟩
 | _=>cases e
theorem fi_seq (ha:FE X C a ea):FI X C C.md tg a (a6y ea):=PI.imp (c1z ha) λσ H R ⟨c,L,S,Q0,I,h,k⟩ =>
 ⟨c,L,S,_,I,h,λv L1 hv x S1 H1 r1 I1 s1=>by
  obtain⟨ps,e,q⟩:=wpx hv
  obtain⟨l,rfl,st⟩:=r1.stays e
  obtain⟨vs,h1,h2⟩:=st S1 H1 (Same.refl _) I1.sub
  exact⟨isL v,l,vs,rfl,h1,k ps L1 q _ c S1 H1 I1 (λ_ _ _ _ I=>I) rfl (c2m λL σ S H I s=>st S H s I.sub) s1⟩⟩
theorem b5v {v:FV}{qs ps:List FV}(e2:c8q v=some qs)(e0:a4z v=some ps):v=.lst ps/\qs=ps:=by
 cases v<;>first|(cases e2;cases e0;exact⟨rfl,rfl⟩)|(cases e0;done)|(cases e2;done)
theorem fi_own (G:Good X C n sp)(h:C.nm i nx=true)(m:a0g C.md i=.own):FI X C (C.md.set i .frz) tg (.Name nx p) (a6y (a0b i)):=PI.imp (c1z (a1f G h)) λσ H R ⟨c,L,S,Q0,I,h,k⟩=>by
 obtain⟨v,e,h⟩:=wpx h
 obtain⟨ps,e0,q⟩:=wpx h
 have e:=(a1m _ _ _).mp e
 obtain⟨l,e1,⟨o1,qs,vs,e2,o2,o3⟩,o4⟩:=I.own i v (λz=>by rw[m] at z;cases z) e
 obtain⟨e3,e4⟩:=b5v e2 e0
 subst e3 e4
 obtain⟨I',un⟩:=I.frz m e e1 o2
 exact⟨_,e1,true,l,vs,rfl,SqL.of o2,k _ L q _ _ S H I' un rfl (c2m (t:=true) λL σ S' H I s=>⟨vs,SqL.of (I.prs (l,.lst vs) Γn).1,o3.mono s⟩) (Same.refl S)⟩
theorem b0v:∀ (n:Nat) (lo:Int) (i:Nat),(upF lo n)[i]?=if i<n then some (.int (lo+i)) else none
 | 0,lo,i=>by simp[upF]
 | n+1,lo,0=>by simp[upF]
 | n+1,lo,i+1=>by
  show (upF (lo+1) n)[i]?=_
  rw[b0v n (lo+1) i]
  have e:lo+1+(i:Int)=lo+((i+1:Nat):Int):=by lia
  rw[e]
  simp
theorem c9v {lo:Int}{m:Nat}{S1:Hp}:ItR K c md (Itr lo m) (upF lo m) S1:=by
 intro i L σ S H I s
 rw[b0v]
 by_cases h:i<m
 ·rw[if_pos h]
  refine⟨λe=>(nomatch e),λp e=>?_⟩
  cases e
  exact⟨h,λv H' ⟨e1,e2⟩=>⟨S,Same.refl S,by rw[e1];exact λ_ _ _ _ I=>I,e2⟩⟩
 ·rw[if_neg h]
  exact⟨λ_=>show m<=i by lia,λp e=>(nomatch e)⟩
theorem fi_rng (G:Good X C n sp)(hg:C.gl (Γe "range")=true)(hs:a0h a=false)(ha:FE X C a ea):FI X C C.md tg (.Call (.Name (Γe "range") p) [a] [] pos) (b4d ea):=PI.imp (b5p (G.gl hg) (G.blt "range" (by decide)) (a0s ha a2q (a0f hs)) (a0f hs)) λσ H R ⟨c,L,S,Q0,I,h,k⟩ =>
 ⟨c,L,S,_,I,h,λv L1 hv x S1 H1 r1 I1 s1=>by
  obtain⟨j,e,hb,q⟩:=wpx hv
  cases a1c e
  have hb:=de hb
  exact⟨j,by rw[show x=.int j from r1],hb.1,hb.2,k _ L1 q _ c S1 H1 I1 (λ_ _ _ _ I=>I) rfl c9v s1⟩⟩
theorem c0c {P Q:FV}{u w:V}{pp:Addr}(I:Iv K c md L σ S H)(hp:H pp=none)(r1:RV K S P u)(r2:RV K S Q w):∃ S',Same S S'/\(∀ c md L σ,Iv K c md L σ S H->Iv K c md L σ S' (upd H pp (.tup [u,w])))/\RV K S' (.tup [P,Q]) (.ref pp) :=
 ⟨upd S pp (.tup [u,w]),a0j (I.sn hp),λ_ _ _ _ I=>I.new hp _,pp,[u,w],rfl,a0d,u,[w],rfl,r1.mono (a0j (I.sn hp)),w,[],rfl,r2.mono (a0j (I.sn hp)),rfl⟩
theorem b6x {t:Bool}{q:Addr}{ps:List FV}{S1:Hp}(h:∀ L σ S H,Iv K c md L σ S H->Same S1 S->∃ vs,SqB t K H q vs/\RVs K S ps vs):ItR K c md (Ien K t q) (a2f (upF 0 ps.length) ps) S1:=by
 intro i L σ S H I s
 obtain⟨vs,h1,h2⟩:=h L σ S H I s
 unfold a2f
 rw[List.getElem?_zipWith,b0v]
 refine⟨λz=>⟨vs,h1,?_⟩,λy ey=>?_⟩
 ·rw[<- h2.length]
  by_cases hi:i<ps.length
  ·rw[if_pos hi,List.getElem?_eq_getElem hi] at z;cases z
  ·lia
 ·by_cases hi:i<ps.length
  ·rw[if_pos hi,List.getElem?_eq_getElem hi] at ey
   cases ey
   obtain⟨v,f1,f2⟩:=h2.get (List.getElem?_eq_getElem hi)
   refine⟨⟨vs,v,h1,f1⟩,λz H' ⟨pp,hp,ez,yy⟩=>?_⟩
   have:=yy vs v h1 f1
   subst this ez
   exact c0c I hp (show RV K S (.int (0+i)) (.int i) by show V.int i=V.int (0+i);rw[Int.zero_add]) f2
  ·rw[if_neg hi] at ey;cases ey
variable {elts:List Expr}{kk:Nat}{tp:Pos}
theorem d6j (G:Good X C n sp)(hg:C.gl (Γe "enumerate")=true)(hs:a0h a=false)(ha:FE X C a ea):FI X C C.md (.Tuple elts kk tp) (.Call (.Name (Γe "enumerate") p) [a] [] pos) (a6z ea) :=
 PI.imp (c8d (G.gl hg) (G.blt "enumerate" (by decide)) (a0s ha a2q (a0f hs)) (a0f hs)) λσ H R ⟨c,L,S,Q0,I,h,k⟩ =>
 ⟨c,L,S,_,I,h,λv L1 hv x S1 H1 r1 I1 s1=>by
  obtain⟨ps,e,q⟩:=wpx hv
  obtain⟨l,rfl,st⟩:=r1.stays e
  obtain⟨vs,h1,_⟩:=st S1 H1 (Same.refl _) I1.sub
  exact⟨_,l,rfl,⟨vs,h1⟩,k _ L1 q _ c S1 H1 I1 (λ_ _ _ _ I=>I) rfl (b6x λL σ S H I s=>st S H s I.sub) s1⟩⟩
end
noncomputable def gTs:List Nat->TGs
 | []=>d5v
 | i :: is=>c0t (a5c i) (gTs is)
noncomputable def gT (K:Γd):Tg->TG
 | .nm i=>a5c i
 | .tp is=>d2b K is.length (gTs is)
 | .tn i is=>d2b K 2 (c0t (a5c i) (c0t (d2b K is.length (gTs is)) d5v))
noncomputable def a4i (md:Md):Tg->Bool
 | .nm i=>decide (a0g md i=.imm)
 | .tp is=>is.all λi=>decide (a0g md i=.imm)
 | .tn i is=>decide (a0g md i=.imm) && is.all λi=>decide (a0g md i=.imm)
noncomputable def a7t (n:Nat):Tg->Bool
 | .nm i=>decide (n<=i)
 | .tp is=>is.all λi=>decide (n<=i)
 | .tn i is=>decide (n<=i) && is.all λi=>decide (n<=i)
noncomputable def FG (X:Cx)(t:Expr)(tg:Tg):Prop:=PG X.nox t (gT X.K tg)
section
variable {K:Γd}{c:Cn}{md:Md}{L:a0c}{σ:L2.St}{S H:Hp}
theorem a7y:∀ {is:List Nat}{ps:List FV}{vs:List V}{L L':a0c}{σ:L2.St},(is.all λi=>decide (a0g md i=.imm))=true->Iv K c md L σ S H->RVs K S ps vs->a7z L is ps=some L' ->
  ∃ σ',(∀ Q:L2.St->Hp->Prop,Q σ' H->gTs is vs σ H Q)/\Iv K c md L' σ' S H/\σ'.length=σ.length/\is.length=vs.length/\∀ n,(is.all λi=>decide (n<=i))=true->∀ j,j<n->σ'[j]?=σ[j]?
 | [],[],vs,L,L',σ,_,I,r,e=>by cases (show vs=[] from r);cases e;exact⟨σ,λQ q=>⟨rfl,q⟩,I,rfl,rfl,λ_ _ _ _=>rfl⟩
 | i :: is,p :: ps,vs,L,L',σ,hm,I,r,e=>by
  obtain⟨v,q,rfl,h1,h2⟩:=r
  have hm:=b2 (show (decide (a0g md i=.imm) && is.all λi=>decide (a0g md i=.imm))=true from hm)
  obtain⟨σ',g,I',l1,l2,far⟩:=a7y (is:=is) (ps:=ps) (vs:=q) hm.2 (I.setI (de hm.1) h1) h2 e
  refine⟨σ',λQ q'=>⟨v,q,rfl,g Q q'⟩,I',by rw[l1,List.length_set],by rw[List.length_cons,List.length_cons,l2],λn hn j hj=>?_⟩
  have hn:=b2 (show (decide (n<=i) && is.all λi=>decide (n<=i))=true from hn)
  have:=de hn.1
  rw[far n hn.2 j hj,List.getElem?_set_ne (by lia)]
 | [],p :: ps,_,_,_,_,_,_,_,e=>by cases e
 | i :: is,[],_,_,_,_,_,_,_,e=>by cases e
theorem a7l {tg:Tg}{v:FV}{x:V}{Q:a0c->Prop}(hm:a4i md tg=true)(I:Iv K c md L σ S H)(r:RV K S v x)(h:gW tg v L Q) :
  ∃ σ' L',(∀ Q':L2.St->Hp->Prop,Q' σ' H->gT K tg x σ H Q')/\Q L'/\Iv K c md L' σ' S H/\σ'.length=σ.length/\∀ n,a7t n tg=true->∀ j,j<n->σ'[j]?=σ[j]?:=by
 cases tg with
 | nm i =>
  refine⟨σ.set i (some x),L.set i (some v),λQ q=>q,h,I.setI (de hm) r,List.length_set ..,λn hn j hj=>?_⟩
  have:n<=i:=de hn
  exact List.getElem?_set_ne (by lia)
 | tp is =>
  obtain⟨ps,e,h⟩:=wpx h
  obtain⟨L',e1,q⟩:=wpx h
  cases a1o e
  obtain⟨a,vs,rfl,h1,h2⟩:=r
  obtain⟨σ',g,I',l1,l2,far⟩:=a7y hm I h2 e1
  exact⟨σ',L',λQ q=>⟨a,vs,rfl,SqT.of (I.sub _ _ h1),l2.symm,g Q q⟩,q,I',l1,far⟩
 | tn i is =>
  have hm:=b2 hm
  obtain⟨ps,e,h⟩:=wpx h
  obtain⟨p,e1,h⟩:=wpx h
  obtain⟨qs,e2,h⟩:=wpx h
  obtain⟨L',e3,q⟩:=wpx h
  cases a1o e
  obtain⟨p1,p2⟩:=p
  obtain rfl:ps=[p1,p2]:=by
   rcases ps with _|⟨a,_|⟨b,_|⟨c,r⟩⟩⟩<;>first|(cases e1;done)|(cases e1;rfl)
  obtain⟨a,vs,rfl,h1,h2⟩:=r
  obtain⟨u,w,rfl,r1,r2⟩:=h2.two_of
  cases a1o e2
  obtain⟨b,ws,rfl,h3,h4⟩:=r2
  obtain⟨σ',g,I',l1,l2,far⟩:=a7y hm.2 (I.setI (de hm.1) r1) h4 e3
  refine⟨σ',L',λQ q=>⟨a,_,rfl,SqT.of (I.sub _ _ h1),rfl,_,_,rfl,_,_,rfl,b,ws,rfl,SqT.of (I.sub _ _ h3),l2.symm,g _ ⟨rfl,q⟩⟩,q,I',by rw[l1,List.length_set],λn hn j hj=>?_⟩
  have hn:=b2 hn
  have:=de hn.1
  rw[far n hn.2 j hj,List.getElem?_set_ne (by lia)]
theorem Iv.regrow {a:Addr}{o o':HO}(I:Iv K { c with pr:=(a,o) :: c.pr } md L σ S H)(h0:c.H0 a=none)(hp:∀ p∈c.pr,p.1≠a)(hz:∀ p∈c.fz,∃ o,(p.2,o)∈c.pr)(nt:a6x o'=false:=by first|rfl|exact a5a _ _):Iv K { c with pr:=(a,o') :: c.pr } md L σ S (upd H a o'):=by
 obtain⟨_,sa,na⟩:=I.prs (a,o) Γn
 have oa:∀ j w b,a0g md j≠.imm->L[j]?=some (some w)->σ[j]?=some (some (.ref b))->b≠a:=λj w b hm hj hs z=>by
  subst z
  by_cases m:(a0g md j).w=true
  ·exact na j w m hj hs
  ·have m:a0g md j=.frz:=by cases q:a0g md j with|imm=>exact absurd q hm|frz=>rfl|_=>rw[q] at m;exact absurd rfl m
   obtain⟨b',g1⟩:=I.fzm j w m hj
   obtain⟨_,g2,_⟩:=I.fzs _ g1
   rw[hs] at g2;cases g2
   obtain⟨xs,g3⟩:=hz _ g1
   exact hp _ g3 rfl
 refine⟨I.len,I.imm,λj w hm hj=>?_,I.dis,λb u e=>?_,λb u e n n1=>?_,I.s0,I.grow,I.lent,I.fzs,I.fzm,λp hpz=>let ⟨xs,g⟩:=hz p hpz;⟨xs,Γh _ g⟩,λp hpr=>?_,λp hpr=>(List.mem_cons.mp hpr).elim (λz=>by rw[z];exact nt) λz=>I.ntp p (Γh _ z),I.lnt1,I.tie⟩
 ·obtain⟨b,e1,⟨g1,ps,xs,g2,g3,g4⟩,g5⟩:=I.own j w hm hj
  exact⟨b,e1,⟨g1,ps,xs,g2,by rw[a0e (oa j w b hm hj e1)];exact g3,g4⟩,g5⟩
 ·rw[a0e λz=>by subst z;rw[sa] at e;cases e];exact I.sub b u e
 ·rw[a0e λz=>by subst z;rw[h0] at e;cases e];exact I.frame b u e n n1
 ·rcases List.mem_cons.mp hpr with rfl|hpr
  ·exact⟨a0d,sa,na⟩
  ·obtain⟨g1,g2,g3⟩:=I.prs p (Γh _ hpr)
   exact⟨by rw[a0e (hp p hpr)];exact g1,g2,g3⟩
theorem Iv.unprot {a:Addr}{o:HO}(I:Iv K { c with pr:=(a,o) :: c.pr } md L σ S H)(hz:∀ p∈c.fz,∃ o,(p.2,o)∈c.pr):Iv K c md L σ S H :=
 ⟨I.len,I.imm,I.own,I.dis,I.sub,I.frame,I.s0,I.grow,I.lent,I.fzs,I.fzm,hz,λp hp=>I.prs p (Γh _ hp),λp hp=>I.ntp p (Γh _ hp),I.lnt1,I.tie⟩
theorem c2g:∀ {md:Md}{i:Nat},md.length<=i->a0g md i=.imm
 | [],i,_=>rfl
 | a :: md,0,h=>absurd h (by simp)
 | a :: md,i+1,h=>c2g (md:=md) (i:=i) (by simpa using h)
theorem Iv.more (I:Iv K c md L σ S H) (m:Nat):Iv K c md (L++Γj m none) (σ++Γj m none) S H:=by
 have look:∀ j w,(L++Γj m none)[j]?=some (some w)->L[j]?=some (some w)/\(σ++Γj m none)[j]?=σ[j]?:=λj w z=>by
  by_cases h:j<L.length
  ·rw[List.getElem?_append_left h] at z
   exact⟨z,List.getElem?_append_left (by rw[<- I.len];exact h)⟩
  ·rw[List.getElem?_append_right (by lia),List.getElem?_replicate] at z
   split at z<;>cases z
 have up:∀ j w,L[j]?=some (some w)->(L++Γj m none)[j]?=some (some w)/\(σ++Γj m none)[j]?=σ[j]?:=λj w z=>by
  have h:=(List.getElem?_eq_some_iff.mp z).1
  exact⟨by rw[List.getElem?_append_left h];exact z,List.getElem?_append_left (by rw[<- I.len];exact h)⟩
 refine⟨by simp[I.len],λj w hm z=>?_,λj w hm z=>?_,λj k w u b m1 m2 z1 z2 y1 y2=>?_,I.sub,I.frame,I.s0,I.grow,λb hb=>?_,λp hp=>?_,λj w hm z=>I.fzm j w hm (look j w z).1,I.fzp,λp hp=>?_,I.ntp,λq hq=>?_,λj k x C dx fs w h1 h2 h3 h4=>?_⟩
 ·obtain⟨z,y⟩:=look j w z;rw[y];exact I.imm j w hm z
 ·obtain⟨z,y⟩:=look j w z;rw[y];exact I.own j w hm z
 ·obtain⟨z1,q1⟩:=look j w z1
  obtain⟨z2,q2⟩:=look k u z2
  rw[q1] at y1;rw[q2] at y2
  exact I.dis j k w u b m1 m2 z1 z2 y1 y2
 ·obtain⟨g1,g2,w,g3⟩:=I.lent b hb
  obtain⟨f1,f2⟩:=up 0 w g3
  exact⟨g1,by rw[f2];exact g2,w,f1⟩
 ·obtain⟨g1,g2,w,g3⟩:=I.fzs p hp
  obtain⟨f1,f2⟩:=up p.1 w g3
  exact⟨g1,by rw[f2];exact g2,w,f1⟩
 ·obtain⟨g1,g2,g3⟩:=I.prs p hp
  refine⟨g1,g2,λj w hm z=>?_⟩
  obtain⟨z,y⟩:=look j w z
  rw[y];exact g3 j w hm z
 ·obtain⟨g1,g2,w,g3⟩:=I.lnt1 q hq
  obtain⟨f1,f2⟩:=up q.1 w g3
  exact⟨g1,by rw[f2];exact g2,w,f1⟩
 ·obtain⟨z4,y4⟩:=look j w h4
  rw[y4]
  exact I.tie j k x C dx fs w h1 h2 (look k _ h3).1 z4
theorem Iv.take {n:Nat}{σ2:L2.St}(I:Iv K c md L σ2 S H)(hmd:md.length<=n)(hs:σ.length=n)(hl:n<=σ2.length)(e:∀ j,j<n->σ2[j]?=σ[j]?):Iv K c md (L.take n) σ S H:=by
 have look:∀ j w,(L.take n)[j]?=some (some w)->L[j]?=some (some w)/\σ[j]?=σ2[j]?:=λj w z=>by
  have h:=(List.getElem?_eq_some_iff.mp z).1
  rw[List.length_take] at h
  rw[List.getElem?_take_of_lt (by lia)] at z
  exact⟨z,(e j (by lia)).symm⟩
 have up:∀ j w,a0g md j≠.imm->L[j]?=some (some w)->(L.take n)[j]?=some (some w)/\σ[j]?=σ2[j]?:=λj w hm z=>by
  have h:j<n:=by
   by_cases h:j<n
   ·exact h
   ·exact absurd (c2g (by lia)) hm
  exact⟨by rw[List.getElem?_take_of_lt h];exact z,(e j h).symm⟩
 refine⟨by rw[List.length_take,I.len,hs];lia,λj w hm z=>?_,λj w hm z=>?_,λj k w u b m1 m2 z1 z2 y1 y2=>?_,I.sub,I.frame,I.s0,I.grow,λb hb=>?_,λp hp=>?_,λj w hm z=>I.fzm j w hm (look j w z).1,I.fzp,λp hp=>?_,I.ntp,λq hq=>?_,λj k x C dx fs w h1 h2 h3 h4=>?_⟩
 ·obtain⟨z,y⟩:=look j w z;rw[y];exact I.imm j w hm z
 ·obtain⟨z,y⟩:=look j w z;rw[y];exact I.own j w hm z
 ·obtain⟨z1,q1⟩:=look j w z1
  obtain⟨z2,q2⟩:=look k u z2
  rw[q1] at y1;rw[q2] at y2
  exact I.dis j k w u b m1 m2 z1 z2 y1 y2
 ·obtain⟨g1,g2,w,g3⟩:=I.lent b hb
  obtain⟨f1,f2⟩:=up 0 w g1 g3
  exact⟨g1,by rw[f2];exact g2,w,f1⟩
 ·obtain⟨g1,g2,w,g3⟩:=I.fzs p hp
  obtain⟨f1,f2⟩:=up p.1 w (λz=>by rw[g1] at z;cases z) g3
  exact⟨g1,by rw[f2];exact g2,w,f1⟩
 ·obtain⟨g1,g2,g3⟩:=I.prs p hp
  refine⟨g1,g2,λj w hm z=>?_⟩
  obtain⟨z,y⟩:=look j w z
  rw[y];exact g3 j w hm z
 ·obtain⟨g1,g2,w,g3⟩:=I.lnt1 q hq
  obtain⟨f1,f2⟩:=up q.1 w (λz=>by rw[z] at g1;cases g1) g3
  exact⟨g1,by rw[f2];exact g2,w,f1⟩
 ·obtain⟨z4,y4⟩:=look j w h4
  rw[y4]
  exact I.tie j k x C dx fs w h1 h2 (look k _ h3).1 z4
theorem c1e {J:It}{xs:List FV}{n m:Nat}{tg:Tg}{t:BW}{e:EW}{Q:VK}{Q1:List FV->a0c->Prop}(I:Iv K c md L σ S H)(hJ:ItR K c md J xs S)(hL:L.length=n)(hmd:md.length<=n)(ht:a4i md tg=true)(hg:a7t n tg=true)(hb:xs.length<=big)(h:a5k n m tg t e xs [] L Q1)
  (k:∀ acc ps L' S' H',H acc=none->Q1 ps L'->a3m K S' H' acc (.lst ps)->b0t c md L' σ acc->Iv K c md L' σ S' H'->Same S S'->Q (.ref acc) H') :
  ∀ acc,H acc=none->∃ W:Nat->Nat->Hp->Prop,(∃ m,W 0 m (upd H acc (.lst [])))/\∀ i j H,W i j H ->
   (J.stop i H/\Q (.ref acc) H) ∨ (J.go i H/\∀ x H',J.yld i H x H'->gT K tg x (σ++Γj m none) H' λσ2 H2=>Wk (σ++Γj m none) σ2/\lb K md t σ2 H2 λb H3 =>
    if b=true then lv K md e σ2 H3 λv H4=>∃ ys,H4 acc=some (.lst ys)/\ys.length<sizeLine/\∃ m',m'<j/\W (i+1) m' (upd H4 acc (.lst (ys++[v]))) else ∃ m',m'<j/\W (i+1) m' H3):=by
 intro acc hacc
 have h0:=I.h0 hacc
 have hp:∀ p∈c.pr,p.1≠acc:=(I.fresh hacc).2.1
 have hz:=I.fzp
 have hl:σ.length=n:=by rw[<- I.len];exact hL
 have hbl:=a1b
 let W:Nat->Nat->Hp->Prop:=λi j H1=>∃ L S1 ps us,j=(xs.drop i).length/\Iv K { c with pr:=(acc,.lst us) :: c.pr } md L σ S1 H1/\RVs K S1 ps us/\Same S S1/\L.length=n/\ps.length<=i/\a5k n m tg t e (xs.drop i) ps L Q1
 have I1:Iv K { c with pr:=(acc,.lst []) :: c.pr } md L σ S (upd H acc (.lst [])):=(I.lay hacc _).prot a0d (I.sn hacc) λj w hm hj=>(I.fresh hacc).2.2 j w (Mo.w_imm hm) hj
 refine⟨W,⟨_,L,S,[],[],rfl,I1,rfl,Same.refl S,hL,Γi _,by rw[List.drop_zero];exact h⟩,?_⟩
 rintro i j H1 ⟨L,S1,ps,us,rfl,I,r,s,hL,hps,hc⟩
 have I0:=I.unprot hz
 obtain⟨j1,j2⟩:=hJ i L σ S1 H1 I0 s
 obtain⟨g1,g2,g3⟩:=I.prs (acc,.lst us) Γn
 cases hd:xs.drop i with
 | nil =>
  left
  rw[hd] at hc
  refine⟨j1 (List.getElem?_eq_none_iff.mpr (List.drop_eq_nil_iff.mp hd)),k acc ps L S1 H1 hacc hc ⟨g2,ps,us,rfl,g1,r⟩ ⟨h0,hp,λq w hm hq hs=>?_⟩ I0 s⟩
  by_cases mo:(a0g md q).w=true
  ·exact g3 q w mo hq hs
  ·have mo:a0g md q=.frz:=by cases z:a0g md q with|imm=>exact absurd z hm|frz=>rfl|_=>rw[z] at mo;exact absurd rfl mo
   obtain⟨b,f1⟩:=I0.fzm q w mo hq
   obtain⟨_,f2,_⟩:=I0.fzs _ f1
   rw[hs] at f2;cases f2
   obtain⟨ys,f3⟩:=hz _ f1
   exact hp _ f3 rfl
 | cons p rest =>
  right
  rw[hd] at hc
  have hi:xs[i]?=some p:=by
   have:=congrArg (·[0]?) hd
   simpa using this
  have hd':xs.drop (i+1)=rest:=by
   have:=congrArg List.tail hd
   simpa[List.tail_drop] using this
  have hix:i<xs.length:=(List.getElem?_eq_some_iff.mp hi).1
  obtain⟨go,yl⟩:=j2 p hi
  refine⟨go,λx H2 y=>?_⟩
  obtain⟨S2,s2,tr,rx⟩:=yl x H2 y
  have I2:=(tr _ _ _ _ I).more m
  obtain⟨σ2,L2,gq,q2,I2,len2,far⟩:=a7l ht I2 rx hc
  have l2:n<=σ2.length:=by rw[len2,List.length_append,hl];lia
  have far':∀ q,q<n->σ2[q]?=σ[q]?:=λq hq=>by rw[far n hg q hq,List.getElem?_append_left (by rw[hl];exact hq)]
  refine gq _ ⟨⟨len2,λq v hv=>?_⟩,?_⟩
  ·have hq:q<n:=by
    by_cases h:q<σ.length
    ·rw[<- hl];exact h
    ·rw[List.getElem?_append_right (by lia),List.getElem?_replicate] at hv
     split at hv<;>cases hv
   rw[far n hg q hq];exact hv
  ·refine⟨_,L2,S2,_,I2,q2,λb L3 hb3 S3 H3 I3 s3=>?_⟩
   cases b with
   | false =>
    rw[if_neg Γk] at hb3 ⊢
    exact⟨rest.length,by simp,L3.take n,S3,ps,us,by rw[hd'],I3.take hmd hl l2 far',r.mono (s2.trans s3),s.trans (s2.trans s3),by rw[List.length_take,I3.len];lia,by lia,by rw[hd'];exact hb3⟩
   | true =>
    rw[if_pos rfl] at hb3 ⊢
    refine⟨_,L3,S3,_,I3,hb3,λv L4 hv u S4 H4 r4 I4 s4=>?_⟩
    obtain⟨k1,_⟩:=I4.prs (acc,.lst us) Γn
    have lr:=r.length
    exact⟨us,k1,by lia,rest.length,by simp,L4.take n,S4,ps++[v],us++[u],by rw[hd'],(I4.take hmd hl l2 far').regrow h0 hp hz,(r.mono (s2.trans (s3.trans s4))).append (RVs.one r4),s.trans (s2.trans (s3.trans s4)),by rw[List.length_take,I4.len];lia,by simp;lia,by rw[hd'];exact hv⟩
end
noncomputable def b6z:Expr->Bool
 | .Set ..=>true
 | _=>false
theorem b3a {x:Expr}{env:Env}(h:b6z x=false):∀ v,foldedSetIterable x env v=pure v:=by
 intro v
 cases x<;>first|rfl|(cases h;done)
noncomputable def CC.tn (C:CC) (i:Nat)(x:Str):Bool:=decide (C.N[i]?=some x) && C.loc x
noncomputable def d4f (outer:List (Str×NameKind))(names:List (Str×NameKind)):List (Str×NameKind) :=
 names.map λ(n,k)=>if (k == NameKind.free && outer.lookup n == some .cell) then (n,NameKind.cell) else (n,k)
noncomputable def CC.sub (C:CC)(scope:Scope)(own:List Str)(md:Md):CC:=⟨C.N.map (a8e own)++own,d4f C.sc scope.names,C.fns,md,false,scope.names⟩
noncomputable def CC.scOk (C:CC)(scope:Scope)(own:List Str):Bool :=
 decide (scope.kind=.function) && scope.names.all (λp=>decide (p.2=.cell->scope.names.lookup p.1=some .cell)) && scope.names.all (λp=>decide (p.2=.local->scope.names.lookup p.1=some .local)) &&
 scope.names.all (λp=>decide (p.2=.free->(C.sc.lookup p.1=some .cell ∨ C.sc.lookup p.1=some .free))) && C.N.all (λx=>if own.contains x then decide (scope.names.lookup (d2a x)=none) else decide (scope.names.lookup x≠some .local/\scope.names.lookup x≠some .cell)) && decide ((C.N.map (a8e own)++own).Nodup)
noncomputable def c9j:Md->Md->Bool
 | [],_=>true
 | a :: md,[]=>decide (a=.imm) && c9j md []
 | a :: md,b :: md'=>(decide (a=.imm) || !decide (b=.imm)) && c9j md md'
theorem a6a:∀ {md md':Md},c9j md md'=true->∀ j,a0g md j≠.imm->a0g md' j≠.imm
 | [],_,_,j,h=>absurd rfl h
 | a :: md,[],h,0,h0=>absurd (de (b2 h).1) h0
 | a :: md,[],h,j+1,h0=>a6a (md:=md) (md':=[]) (b2 h).2 j h0
 | a :: md,b :: md',h,0,h0=>λz=>by
  have h:=(b2 h).1
  have h0:a≠.imm:=h0
  have z:b=.imm:=z
  simp[h0,z] at h
 | a :: md,b :: md',h,j+1,h0=>a6a (md:=md) (md':=md') (b2 h).2 j h0
noncomputable def FGs (X:Cx)(es:List Expr)(is:List Nat):Prop:=PGs X.nox es (gTs is)/\(assignEach es X.env).length=is.length/\(assignEach es X.env).findIdx? (·.1)=none
noncomputable def FTs (X:Cx)(C:CC)(xs:List Expr)(t:BW):Prop:=PTs X.nox xs (lb X.K C.md t)
section
variable {X:Cx}{C:CC}{n:Nat}{sp:Γd->Nat->Sp}{a b x:Expr}{xs:List Expr}{pos p:Pos}{i k:Nat}{nx:Str}{is:List Nat}{t u:BW}
theorem Good.ix (G:Good X C n sp){y:Str}(h:decide (C.N[i]?=some y)=true):X.N[i]?=some y:=by rw[G.N];exact de h
theorem Good.nd' (G:Good X C n sp):X.N.Nodup:=by rw[G.N];exact G.nd
theorem d6m (G:Good X C n sp)(h:C.tn i nx=true):FG X (.Name nx p) (.nm i):=by
 have h:=b2 h
 obtain⟨l1,l2⟩:=G.loc h.2
 exact c3w (X:=X.nox) G.nd' (G.ix h.1) l1 l2
theorem d6k:FGs X [] []:=⟨c3v,rfl,rfl⟩
theorem d2h (G:Good X C n sp)(h:C.tn i nx=true)(r:FGs X xs is):FGs X (.Name nx p :: xs) (i :: is):=by
 obtain⟨h1,h2,h3⟩:=r
 refine⟨b9t (d6m G h) h1 rfl,?_,?_⟩
 ·show (assignEach xs X.env).length+1=is.length+1
  rw[h2]
 ·show ((false,assign (.Name nx p) X.env) :: assignEach xs X.env).findIdx? (·.1)=none
  rw[List.findIdx?_cons]
  simp[h3]
theorem d6l (G:Good X C n sp)(r:FGs X xs is):FG X (.Tuple xs k p) (.tp is):=c8e (X:=X.nox) G.calm r.1 r.2.1 r.2.2
theorem PTs.imp {e:List Expr}{t u:TT}(h:PTs X e t)(f:∀ σ H Q,u σ H Q->t σ H Q):PTs X e u:=λpins s σ H Q I hu=>h pins s σ H Q I (f σ H Q hu)
theorem d5y:FTs X C [] a2x:=PTs.imp b5i λσ H Q ⟨c,L,S,Q0,I,h,k⟩=>k true L h S H I (Same.refl S)
theorem d5x (h1:FB X C a t):FTs X C [a] t:=PTs.imp (b9o h1 (b5i (X:=X.nox))) λσ H Q ⟨c,L,S,Q0,I,h,k⟩ =>
 ⟨c,L,S,_,I,h,λr L1 q S1 H1 I1 s1=>by
  cases r with
  | true=>rw[if_pos rfl];exact k true L1 q S1 H1 I1 s1
  | false=>rw[if_neg Γk];exact k false L1 q S1 H1 I1 s1⟩
theorem Good.sub (G:Good X C n sp){scope:Scope}{own:List Str}(h:C.scOk scope own=true)(md:Md):CScope X scope own/\∀ fp D s H,Good (cxC X scope own fp D s H) (C.sub scope own md) n sp:=by
 simp only[CC.scOk,Bool.and_eq_true,decide_eq_true_eq,List.all_eq_true] at h
 obtain⟨⟨⟨⟨⟨h1,h2⟩,h3⟩,h4⟩,h5⟩,h6⟩:=h
 refine⟨⟨h1,λp hp=>by simpa using h2 p hp,λp hp=>by simpa using h3 p hp,λp hp hk=>?_,λx hx hw=>?_,λx hx hw=>?_⟩,λfp D s H=>⟨?_,?_,h1,h6,G.calm,(λx z=>z),G.room,G.fns,G.blt⟩⟩
 ·have:=h4 p hp
  show X.env.scope.names.lookup p.1=_ ∨ X.env.scope.names.lookup p.1=_
  rw[G.sc];exact this hk
 ·have:=h5 x (by rw[<- G.N];exact hx)
  rw[if_neg (by rw[hw];exact Γk)] at this
  exact de this
 ·have:=h5 x (by rw[<- G.N];exact hx)
  rw[if_pos hw] at this
  exact de this
 ·show X.N.map (a8e own)++own=C.N.map (a8e own)++own
  rw[G.N]
 ·show (relabel scope X.env).names=d4f C.sc scope.names
  unfold relabel d4f
  simp only
  refine List.map_congr_left λp hp=>?_
  obtain⟨nm,kd⟩:=p
  show (if (kd == NameKind.free && X.env.scope.kind == .function && X.env.scope.names.lookup nm == some .cell)=true then (nm,NameKind.cell) else (nm,kd))=_
  rw[G.kind,G.sc]
  simp
variable {scope:Scope}{own:List Str}{elt tgx iter:Expr}{ifs:List Expr}{it:AW}{tg:Tg}{e:EW}{nn m:Nat}{md':Md}
structure CompOk (X:Cx)(C:CC) (n:Nat)(sp:Γd->Nat->Sp)(scope:Scope)(own:List Str)(elt tgx iter:Expr)(ifs:List Expr) (nn m:Nat)(md':Md)(it:AW)(tg:Tg)(t:BW)(e:EW):Prop where
 st:(C.scOk scope own && decide (C.N.length=nn) && decide (own.length=m) && decide (md'.length<=nn) && c9j C.md md' && a4i md' tg && a7t nn tg && !b6z iter)=true
 it:FI X C md' tgx iter it
 tg:∀ X',Good X' (C.sub scope own md') n sp->FG X' tgx tg
 ts:∀ X',Good X' (C.sub scope own md') n sp->FTs X' (C.sub scope own md') ifs t
 el:∀ X',Good X' (C.sub scope own md') n sp->FE X' (C.sub scope own md') elt e
theorem CompOk.run (G:Good X C n sp)(h:CompOk X C n sp scope own elt tgx iter ifs nn m md' it tg t e){σ:L2.St}{H:Hp}{Q:VK}(hq:lf X.K C.md (a1z nn m it tg t e) σ H Q):c2w (li X.K C.md md' it) (gT X.K tg) (lb X.K md' t) (lv X.K md' e) own.length σ H Q:=by
 have h0:=b2 h.st;have h1:=b2 h0.1;have h2:=b2 h1.1;have h3:=b2 h2.1;have h4:=b2 h3.1;have h5:=b2 h4.1;have h6:=b2 h5.1
 obtain⟨c,L,S,Q0,I,hh,k⟩:=hq
 refine⟨c,L,S,_,I,hh,λxs L1 hx J c' S1 H1 I1 un e0 hJ s1=>?_⟩
 obtain⟨hl,hb,hc⟩:=hx
 rw[de h5.2]
 refine c1e I1 hJ hl (de h4.2) h2.2 h1.2 hb hc λacc ps L' S' H' hn q o fr I' s'=>k _ L' q acc S' H' o ⟨by rw[<- e0];exact fr.1,((un _ _ _ _ I1).fresh hn).2.1,λj w hm=>fr.2.2 j w (a6a h3.2 j hm)⟩ (un _ _ _ _ I') (s1.trans s')
theorem CompOk.blk (G:Good X C n sp)(h:CompOk X C n sp scope own elt tgx iter ifs nn m md' it tg t e):CScope X scope own/\(∀ fp D s H,PG (cxC X scope own fp D s H) tgx (gT X.K tg)/\PTs (cxC X scope own fp D s H) ifs (lb X.K md' t)/\PE (cxC X scope own fp D s H) elt (lv X.K md' e))/\∀ v,foldedSetIterable iter X.env v=pure v:=by
 have h0:=b2 h.st;have h1:=b2 h0.1;have h2:=b2 h1.1;have h3:=b2 h2.1;have h4:=b2 h3.1;have h5:=b2 h4.1;have h6:=b2 h5.1
 obtain⟨s1,s2⟩:=G.sub h6.1 md'
 exact⟨s1,λfp D s H=>⟨h.tg _ (s2 fp D s H),h.ts _ (s2 fp D s H),h.el _ (s2 fp D s H)⟩,b3a (nb h0.2)⟩
theorem a0x (G:Good X C n sp)(h:CompOk X C n sp scope own elt tgx iter ifs nn m md' it tg t e):FF X C (.ListComp elt [⟨tgx,iter,ifs,0⟩] scope pos) (a1z nn m it tg t e):=by
 obtain⟨s1,s2,s3⟩:=h.blk G
 exact PE.imp (b5r G.calm s1 h.it s2 s3) λσ H Q q=>h.run G q
end
noncomputable def d9b (K:Γd)(c:Cn)(S H:Hp)(v:FV)(x:V):Bool->Prop
 | false=>RV K S v x
 | true=>∃ a,x=.ref a/\a3m K S H a v/\c.H0 a=none
noncomputable def EndQ (K:Γd)(c:Cn)(fr:Bool)(D:Ends)(σ:L2.St)(S H:Hp):FFl->Prop
 | .next=>D.nx σ H
 | .brk=>D.bk σ H
 | .cont=>D.ct σ H
 | .ret v=>∀ x,d9b K c S H v x fr->D.rt x H
noncomputable def ls (K:Γd)(md:Md)(fr:Bool)(s:SW):TS:=λD σ H=>∃ c L S Q0,Iv K c md L σ S H/\s L Q0/\∀ fl L',Q0 fl L'->∀ σ' S' H',Iv K c md L' σ' S' H'->Same S S'->EndQ K c fr D σ' S' H' fl
noncomputable def FS (X:Cx)(C:CC)(fr:Bool)(x:Stmt)(s:SW):Prop:=PS X.nox x (ls X.K C.md fr s)
noncomputable def FSs (X:Cx)(C:CC)(fr:Bool)(x:List Stmt)(s:SW):Prop:=PSs X.nox x (ls X.K C.md fr s)
noncomputable def CC.wmd (C:CC)(md:Md):CC:=⟨C.N,C.sc,C.fns,md,C.top,C.oc⟩
section
variable {X:Cx}{C:CC}{n:Nat}{sp:Γd->Nat->Sp}{fr:Bool}{a b x y:Expr}{e ea eb:EW}{pos p px py:Pos}{i j k:Nat}{nx ny:Str}{is:List Nat}{st:Stmt}{sts:List Stmt}{s r:SW}
variable {K:Γd}{c:Cn}{md:Md}{L:a0c}{σ:L2.St}{S H:Hp}
theorem Good.wmd (G:Good X C n sp)(md:Md):Good X (C.wmd md) n sp:=⟨G.N,G.sc,G.kind,G.nd,G.calm,G.fn,G.room,G.fns,G.blt⟩
theorem PS.imp {e:Stmt}{t u:TS}(h:PS X e t)(f:∀ D σ H,u D σ H->t D σ H):PS X e u:=λpins s σ H D I hu=>h pins s σ H D I (f D σ H hu)
theorem PSs.imp {e:List Stmt}{t u:TS}(h:PSs X e t)(f:∀ D σ H,u D σ H->t D σ H):PSs X e u:=λpins s σ H D I hu=>h pins s σ H D I (f D σ H hu)
theorem fs_nil:FSs X C fr [] a6s:=PSs.imp c3o λD σ H ⟨c,L,S,Q0,I,h,k⟩=>k .next L h σ S H I (Same.refl S)
theorem b7k (h:FS X C fr st s):FSs X C fr [st] s:=c3n h
theorem a1d (h:FS X C fr st s)(h2:FSs X C fr sts r):FSs X C fr (st :: sts) (a0q s r):=PSs.imp (b9q h h2) λD σ H ⟨c,L,S,Q0,I,h,k⟩ =>
 ⟨c,L,S,_,I,h,λfl L1 q σ1 S1 H1 I1 s1=>by
  cases fl with
  | next=>exact⟨c,L1,S1,_,I1,q,λfl L2 q σ2 S2 H2 I2 s2=>k fl L2 q σ2 S2 H2 I2 (s1.trans s2)⟩
  | brk=>exact k _ L1 q σ1 S1 H1 I1 s1
  | cont=>exact k _ L1 q σ1 S1 H1 I1 s1
  | ret v=>exact k _ L1 q σ1 S1 H1 I1 s1⟩
noncomputable def a6c:Expr->Bool
 | .ListComp ..=>true
 | .SetComp ..=>true
 | .DictComp ..=>true
 | _=>false
theorem a3p {e:Expr}{t:Option Expr}{n:Nat}{env:Env}(h:a6c e=false):swapsWith e t n env=pure false:=by
 cases e<;>first|rfl|(cases h;done)
theorem d6c (hc:a6c a=false)(h:FE X C a e):FS X C fr (.Expr a pos) (b9h e):=PS.imp (c3q h (a3p hc)) λD σ H ⟨c,L,S,Q0,I,h,k⟩ =>
 ⟨c,L,S,_,I,h,λv L1 q x S1 H1 r I1 s1=>k .next L1 q σ S1 H1 I1 s1⟩
theorem fs_ret (h:FE X C a e):FS X C false (.Return (some a) pos) (a3c e):=PS.imp (b5j h) λD σ H ⟨c,L,S,Q0,I,h,k⟩ =>
 ⟨c,L,S,_,I,h,λv L1 q x S1 H1 r I1 s1=>k (.ret v) L1 q σ S1 H1 I1 s1 x r⟩
theorem d6b (h:FF X C a e):FS X C true (.Return (some a) pos) (a3c e):=PS.imp (b5j h) λD σ H ⟨c,L,S,Q0,I,h,k⟩ =>
 ⟨c,L,S,_,I,h,λv L1 q l S1 H1 o fr I1 s1=>k (.ret v) L1 q σ S1 H1 I1 s1 _ ⟨l,rfl,o,fr.1⟩⟩
theorem Iv.mine (I:Iv K c md L σ S H){v:FV}{a:Addr}(hi:i≠0)(m:a0g md i≠.imm)(e:L[i]?=some (some v))(e1:σ[i]?=some (some (.ref a)))(ng:(a0g md i).g=false:=by first|rfl|(simp only[*];rfl)):c.H0 a=none:=by
 obtain⟨b,e2,_,h⟩:=I.own i v m e
 rw[e1] at e2;cases e2
 rcases h with h|h|⟨j,h⟩
 ·obtain⟨g1,g2,w,g3⟩:=I.lent a h
  exact absurd (I.dis i 0 v w a m g1 e g3 e1 g2) hi
 ·exact h
 ·obtain⟨g1,g2,w,g3⟩:=I.lnt1 _ h
  have:=I.dis i j v w a m (λz=>by rw[z] at g1;cases g1) e g3 e1 g2
  subst this
  rw[ng] at g1;cases g1
theorem d6a (G:Good X C n sp)(h:C.nm i nx=true)(m:(decide (a0g C.md i=.own) && decide (i≠0))=true):FS X C true (.Return (some (.Name nx p)) pos) (a3c (a0b i)):=PS.imp (b5j (a1f G h)) λD σ H ⟨c,L,S,Q0,I,h,k⟩=>by
 have m:=b2 m
 have mi:a0g C.md i≠.imm:=λz=>by rw[de m.1] at z;cases z
 obtain⟨v,e,q⟩:=wpx h
 have e:=(a1m _ _ _).mp e
 obtain⟨l,e1,o,_⟩:=I.own i v mi e
 exact⟨_,e1,k (.ret v) L q σ S H I (Same.refl S) _ ⟨l,rfl,o,I.mine (de m.2) mi e e1 (by rw[de m.1];rfl)⟩⟩
theorem fs_if {t:BW}{xa xb:List Stmt}(h:FB X C a t)(ha:FSs X C fr xa s)(hb:FSs X C fr xb r):FS X C fr (.If a xa xb pos) (sIf t s r):=PS.imp (d4r h ha hb) λD σ H ⟨c,L,S,Q0,I,h,k⟩ =>
 ⟨c,L,S,_,I,h,λv L1 q S1 H1 I1 s1=>by
  cases v with
  | true=>rw[if_pos rfl] at q ⊢;exact⟨c,L1,S1,_,I1,q,λfl L2 q σ2 S2 H2 I2 s2=>k fl L2 q σ2 S2 H2 I2 (s1.trans s2)⟩
  | false=>rw[if_neg Γk] at q ⊢;exact⟨c,L1,S1,_,I1,q,λfl L2 q σ2 S2 H2 I2 s2=>k fl L2 q σ2 S2 H2 I2 (s1.trans s2)⟩⟩
theorem b8r {tg:Tg}{te:TE}(ht:a4i C.md tg=true)(hte:∀ σ H Q,lv X.K C.md e σ H Q->te σ H Q)(h:PS X.nox st (b9a te (gT X.K tg))):FS X C fr st (a1l e tg):=PS.imp h λD σ H ⟨c,L,S,Q0,I,h,k⟩=>hte _ _ _
 ⟨c,L,S,_,I,h,λv L1 q x S1 H1 r I1 s1=>by
  obtain⟨σ',L',g,q,I2,_⟩:=a7l ht I1 r q
  exact g _ (k .next L' q σ' S1 H1 I2 s1)⟩
theorem c6e {te:TE}(m:a0g C.md i=.imm)(hte:∀ σ H Q,lf X.K C.md e σ H Q->te σ H Q)(h:PS X.nox st (b9a te (a5c i))):FS X C fr st (a1l e (.nm i)):=PS.imp h λD σ H ⟨c,L,S,Q0,I,h,k⟩=>hte _ _ _
 ⟨c,L,S,_,I,h,λv L1 q l S1 H1 o f I1 s1=>by
  obtain⟨u,hu,I2,r⟩:=b6d I1 o f
  exact k .next _ q _ _ H1 (I2.setI m r) (s1.trans (a0j o.1))⟩
theorem b1y {te:TE}(m:(decide (a0g C.md i=.own) && decide (i≠0))=true)(hte:∀ σ H Q,lf X.K C.md e σ H Q->te σ H Q)(h:PS X.nox st (b9a te (a5c i))):FS X C fr st (a1l e (.nm i)):=PS.imp h λD σ H ⟨c,L,S,Q0,I,h,k⟩=>hte _ _ _
 ⟨c,L,S,_,I,h,λv L1 q l S1 H1 o f I1 s1=>by
  have m:=b2 m
  exact k .next _ q _ _ H1 (I1.set (λ_ _=>de m.2) (λz=>by rw[de m.1] at z;cases z) (.inr ⟨de m.1,l,rfl,o,f.1,f.2.1,λj w _ hm hj=>f.2.2 j w hm hj⟩)) s1⟩
theorem b9s (G:Good X C n sp){te:TE}(ht:C.tn i nx=true)(hs:swapsWith a (some (.Name nx px)) pos.line X.env=pure false)(h:PE X.nox a te):PS X.nox (.Assign [.Name nx px] a pos) (b9a te (a5c i)):=by
 have ht:=b2 ht
 obtain⟨l1,l2⟩:=G.loc ht.2
 exact c7z (X:=X.nox) G.nd' (G.ix ht.1) l1 h hs l2
theorem fs_set (G:Good X C n sp)(ht:C.tn i nx=true)(m:a0g C.md i=.imm)(hc:a6c a=false)(h:FE X C a e):FS X C fr (.Assign [.Name nx px] a pos) (a1l e (.nm i)) :=
 b8r (tg:=.nm i) (by simpa[a4i] using m) (λ_ _ _ z=>z) (b9s G ht (a3p hc) h)
theorem d5z (G:Good X C n sp)(ht:C.tn i nx=true)(m:(decide (a0g C.md i=.own) && decide (i≠0))=true)(hc:a6c a=false)(h:FF X C a e):FS X C fr (.Assign [.Name nx px] a pos) (a1l e (.nm i)) :=
 b1y m (λ_ _ _ z=>z) (b9s G ht (a3p hc) h)
noncomputable def swC (C:CC)(x:Str)(px:Pos)(scope:Scope)(p:Pos):Bool:=decide (C.sc.lookup x=some .local) && (px.line == p.line) && !(scope.names.any λ(n,k)=>n == x && (k == .local || k == .cell))
theorem c2x {elt:Expr}{gs:List Comprehension}{scope:Scope}{p px:Pos}{x:Str}{n:Nat}{env:Env}(hk:env.scope.kind=.function) :
  swapsWith (.ListComp elt gs scope p) (some (.Name x px)) n env=pure (decide (env.scope.names.lookup x=some .local) && (px.line == p.line) && !(scope.names.any λ(n,k)=>n == x && (k == .local || k == .cell))):=by
 have hb:env.blockKind=.function:=by unfold Env.blockKind;rw[hk];rfl
 have:(env.kindOf x == some .local)=decide (env.scope.names.lookup x=some .local):=by
  rw[Bool.eq_iff_iff];simp[Env.kindOf]
 unfold swapsWith
 simp only[hb,this]
 rfl
variable {scope:Scope}{own:List Str}{elt tgx iter:Expr}{ifs:List Expr}{it:AW}{tg:Tg}{t:BW}{nn m:Nat}{md':Md}
theorem c1d (G:Good X C n sp)(ht:C.tn i nx=true)(h:CompOk X C n sp scope own elt tgx iter ifs nn m md' it tg t e):∃ te:TE,(∀ σ H Q,lf X.K C.md (a1z nn m it tg t e) σ H Q->te σ H Q)/\PS X.nox (.Assign [.Name nx px] (.ListComp elt [⟨tgx,iter,ifs,0⟩] scope p) pos) (b9a te (a5c i)):=by
 have hsw:swapsWith (.ListComp elt [⟨tgx,iter,ifs,0⟩] scope p) (some (.Name nx px)) pos.line X.env=pure (swC C nx px scope p):=by rw[c2x G.kind,G.sc];rfl
 obtain⟨s1,s2,s3⟩:=h.blk G
 cases hb:swC C nx px scope p with
 | false =>
  rw[hb] at hsw
  exact⟨_,λσ H Q q=>h.run G q,b9s G ht hsw (b5r G.calm s1 h.it s2 s3)⟩
 | true =>
  rw[hb] at hsw
  have hlo:X.env.scope.names.lookup nx=some .local:=by
   rw[G.sc]
   have hb:=b2 hb
   exact de (b2 hb.1).1
  exact⟨_,λσ H Q q=>h.run G q,b3s G.calm s1 G.nd' (G.ix (b2 ht).1) hlo h.it s2 hsw s3⟩
theorem b7j (G:Good X C n sp)(ht:C.tn i nx=true)(hm:a0g C.md i=.imm)(h:CompOk X C n sp scope own elt tgx iter ifs nn m md' it tg t e):FS X C fr (.Assign [.Name nx px] (.ListComp elt [⟨tgx,iter,ifs,0⟩] scope p) pos) (a1l (a1z nn m it tg t e) (.nm i)) :=
 let ⟨te,h1,h2⟩:=c1d G ht h
 c6e hm h1 h2
noncomputable def tupX:Expr->Bool
 | .Tuple ..=>true
 | _=>false
noncomputable def b3p:Expr->Bool
 | .Starred ..=>true
 | _=>false
theorem fs_tup (G:Good X C n sp){ts:List Expr}(hm:a4i C.md (.tp is)=true)(hn:tupX a=false)(hg:FGs X ts is)(h:FE X C a e):FS X C fr (.Assign [.Tuple ts k p] a pos) (a1l e (.tp is)) :=
 b8r (tg:=.tp is) hm (λ_ _ _ z=>z) (c1x (X:=X.nox) h (d6l G hg) (by cases a<;>rfl) (by cases a<;>first|rfl|(cases hn;done)) rfl)
theorem sw2 {x y:Str}{px py pt pt2:Pos}{kt k2:Nat}{a b:Expr}{env:Env}(hk:env.scope.kind=.function)(hx:env.scope.names.lookup x=some .local)(hy:env.scope.names.lookup y=some .local)(hxy:x≠y)(hl:(py.line == px.line)=true)
  (sa:b3p a=false)(sb:b3p b=false)(hf:(foldedForSure 8 a && foldedForSure 8 b)=false)(hc:(constantsAlone 8 a && constantsAlone 8 b)=false) :
  swappedStores [.Tuple [.Name x px,.Name y py] kt pt] (.Tuple [a,b] k2 pt2) env=pure (some [x,y]):=by
 have hb:env.blockKind=.function:=by unfold Env.blockKind;rw[hk];rfl
 have kx:env.kindOf x=some .local:=hx
 have ky:env.kindOf y=some .local:=hy
 unfold swappedStores
 have hyx:¬ y=x:=λz=>hxy z.symm
 have hs:([a,b].any fun|.Starred ..=>true|_=>false)=false:=by
  show (b3p a || (b3p b || false))=false
  rw[sa,sb];rfl
 have hf':[a,b].all (foldedForSure 8)=false:=by simpa using hf
 have hc':[a,b].all (constantsAlone 8)=false:=by simpa using hc
 have hlx:((some (Expr.Name x px)).map (·.pos.line)).getD 0=px.line:=rfl
 simp only[List.length_cons,List.length_nil,hb,hs,hf',hc',List.head?_cons,hlx,List.filterMap_cons,List.filterMap_nil,kx,ky,hl,beq_self_eq_true,Bool.and_self,if_true]
 simp[List.eraseDups_cons,hyx,bne,hxy]
 intro h
 exfalso
 rcases h with h|h
 ·cases a<;>first|(cases h;done)|(cases sa;done)
 ·cases b<;>first|(cases h;done)|(cases sb;done)
noncomputable def c4b (C:CC) (i j:Nat)(x y:Str)(px py:Pos)(a b:Expr):Bool:=decide (C.N[i]?=some x) && decide (C.N[j]?=some y) && decide (i≠j) && decide (x≠y) && decide (C.sc.lookup x=some .local) && decide (C.sc.lookup y=some .local) && (py.line == px.line) && !b3p a && !b3p b && !(foldedForSure 8 a && foldedForSure 8 b) && !(constantsAlone 8 a && constantsAlone 8 b)
theorem b9f {xo xi : Expr} {p : Pos} {env : Env} (h : a2l xi = false) : ∀ v, assign (.Subscript xo xi p) env v = (do
      let ov <- holding [v] (eval xo env)
      let iv <- holding [v,ov] (eval xi env)
      standAt p
      holding [v,ov,iv] (setItem ov iv v)
      release [v,ov,iv] []):=by
  intro v
  cases xi<;>first|rfl|(cases h;done)
theorem fs_ix (G:Good X C n sp)(hn:C.nm i nx=true)(m:a0g C.md i=.own)(hc:(!a6c a && !a2l b)=true)(ha:FE X C a ea)(hb:FE X C b eb):FS X C fr (.Assign [.Subscript (.Name nx px) b p] a pos) (c3e i eb ea):=by
 have hc:=b2 hc
 refine PS.imp (c1x (X:=X.nox) ha (c8f (a1f (pos:=px) G hn) hb b9g (b9f (nb hc.2))) (by simp only[swapsWithSole];exact a3p (nb hc.1)) rfl rfl) λD σ H ⟨c,L,S,Q0,I,h,k⟩=>?_
 have mi:a0g C.md i≠.imm:=λz=>by rw[m] at z;cases z
 obtain⟨v0,e,h⟩:=wpx h
 obtain⟨l,e1,_⟩:=I.own i v0 mi ((a1m _ _ _).mp e)
 refine⟨c,L,S,_,I,h,λv L1 q x S1 H1 r1 I1 s1=>⟨_,e1,c,L1,S1,_,I1,q,λw L2 q y S2 H2 r2 I2 s2=>?_⟩⟩
 obtain⟨v1,e2,q2⟩:=wpx q
 obtain⟨z,e3,q3⟩:=wpx q2
 have e2:=(a1m _ _ _).mp e2
 obtain⟨l',f1,⟨o1,ps,us,e9,o2,o3⟩,_⟩:=I2.own i v1 mi e2
 rw[e1] at f1;cases f1
 obtain⟨xs,g1,e3⟩:=bnd e3
 obtain⟨nn,g2,e3⟩:=bnd e3
 obtain⟨pp,g3,rfl⟩:=mpd e3
 cases a2t g1
 cases e9
 obtain rfl:w=.int nn:=by cases w<;>cases g2;rfl
 obtain rfl:y=.int nn:=r2
 refine⟨l,us,nn,pp,rfl,rfl,o2,by rw[<- o3.length];exact g3,?_⟩
 exact k .next _ q3 σ S2 _ (I2.write m e2 e1 (o3.set pp (r1.mono s2))) (s1.trans s2)
noncomputable def d1e (f:Int->Int->Int):FV->FV->Option FV
 | .int a,.int b=>some (.int (f a b))
 | _,_=>none
theorem c6c {f:Int->Int->Int}{v w z:FV}(h:d1e f v w=some z):∃ a b,v=.int a/\w=.int b/\z=.int (f a b):=by
 obtain⟨a,rfl⟩:∃ a,v=.int a:=by cases v<;>first|exact⟨_,rfl⟩|cases h
 cases w<;>first|(cases h;exact⟨_,_,rfl,rfl,rfl⟩)|cases h
theorem d1c {f:Int->Int->Int}(m:a0g C.md i=.imm)(h:PS X.nox st (tAug i (lv X.K C.md e) (ipI f))):FS X C fr st (d1q (d1e f) i e):=PS.imp h λD σ H ⟨c,L,S,Q0,I,h,k⟩=>by
 obtain⟨v,e0,h⟩:=wpx h
 obtain⟨x,e1,r⟩:=I.imm i v m ((a1m _ _ _).mp e0)
 refine⟨x,e1,c,L,S,_,I,h,λw L1 q y S1 H1 r1 I1 s1=>?_⟩
 obtain⟨z,e2,q⟩:=wpx q
 obtain⟨a,b,rfl,rfl,rfl⟩:=c6c e2
 exact⟨a,b,r,r1,k .next _ q _ S1 H1 (I1.setI (v:=.int _) m rfl) s1⟩
theorem fs_add (G:Good X C n sp)(ht:C.tn i nx=true)(m:a0g C.md i=.imm)(h:FE X C a e):FS X C fr (.AugAssign (.Name nx px) .Add a pos) (d1q (d1e λi j=>i+j) i e):=by
 have ht:=b2 ht
 obtain⟨l1,l2⟩:=G.loc ht.2
 exact d1c m (c1w (X:=X.nox) G.nd' (G.ix ht.1) l1 h c9x l2)
theorem c5d {J:It}{xs:List FV}{D:Ends}{Q0:FFl->a0c->Prop}(I:Iv K c md L σ S H)(hJ:ItR K c md J xs S)(ht:a4i md tg=true)(h:c5e tg s xs L Q0)
  (k:∀ fl L',Q0 fl L'->∀ σ' S' H',Iv K c md L' σ' S' H'->Same S S'->EndQ K c fr D σ' S' H' fl) :
  ∃ W:Nat->Nat->L2.St->Hp->Prop,(∃ m,W 0 m σ H)/\∀ i m σ H,W i m σ H ->
   (J.stop i H/\D.nx σ H) ∨ (J.go i H/\∃ N:L2.St->Hp->Prop,(∀ σ' H',N σ' H'->∃ m',m'<m/\W (i+1) m' σ' H')/\∀ x H',J.yld i H x H'->gT K tg x σ H' λσ2 H2=>ls K md fr s { D with nx:=N,ct:=N,bk:=D.nx } σ2 H2):=by
 let W:Nat->Nat->L2.St->Hp->Prop:=λi j σ1 H1=>∃ L S1,j=(xs.drop i).length/\Iv K c md L σ1 S1 H1/\Same S S1/\c5e tg s (xs.drop i) L Q0
 refine⟨W,⟨_,L,S,rfl,I,Same.refl S,by rw[List.drop_zero];exact h⟩,?_⟩
 rintro i m σ1 H1 ⟨L,S1,rfl,I,s1,h⟩
 obtain⟨j1,j2⟩:=hJ i L σ1 S1 H1 I s1
 cases hd:xs.drop i with
 | nil =>
  rw[hd] at h
  exact .inl ⟨j1 (List.getElem?_eq_none_iff.mpr (List.drop_eq_nil_iff.mp hd)),k .next L h σ1 S1 H1 I s1⟩
 | cons p rest =>
  right
  rw[hd] at h
  have hi:xs[i]?=some p:=by
   have:=congrArg (·[0]?) hd
   simpa using this
  have hd':xs.drop (i+1)=rest:=by
   have:=congrArg List.tail hd
   simpa[List.tail_drop] using this
  obtain⟨go,yl⟩:=j2 p hi
  refine⟨go,λσ' H'=>∃ m',m'<rest.length+1/\W (i+1) m' σ' H',λσ' H' h=>h,λx H2 y=>?_⟩
  obtain⟨S2,s2,tr,rx⟩:=yl x H2 y
  have I2:=tr _ _ _ _ I
  obtain⟨σ2,L2,g,q,I3,_⟩:=a7l ht I2 rx h
  refine g _ ⟨c,L2,S2,_,I3,q,λfl L3 q σ3 S3 H3 I4 s3=>?_⟩
  have ss:=s1.trans (s2.trans s3)
  cases fl with
  | next=>exact⟨_,Nat.lt_succ_self _,L3,S3,by rw[hd'],I4,ss,by rw[hd'];exact q⟩
  | cont=>exact⟨_,Nat.lt_succ_self _,L3,S3,by rw[hd'],I4,ss,by rw[hd'];exact q⟩
  | brk=>exact k .next L3 q σ3 S3 H3 I4 ss
  | ret v=>exact k (.ret v) L3 q σ3 S3 H3 I4 ss
theorem a2m (G:Good X C n sp){body:List Stmt}(hc:(a4i md' tg && !b6z iter)=true)(hi:FI X C md' tgx iter it)(hg:FG X tgx tg)(hb:Good X (C.wmd md') n sp->FSs X (C.wmd md') fr body s):FS X C fr (.For tgx iter body [] pos) (a9c it tg s):=by
 have hc:=b2 hc
 refine PS.imp (c8b (X:=X.nox) PassesOwn.never G.calm hi hg (hb (G.wmd md')) (b3a (nb hc.2))) λD σ H ⟨c,L,S,Q0,I,h,k⟩=>?_
 refine⟨c,L,S,_,I,h,λxs L1 q J c' S1 H1 I1 un e0 hJ s1=>?_⟩
 refine c5d I1 hJ hc.1 q λfl L2 q σ2 S2 H2 I2 s2=>?_
 have:=k fl L2 q σ2 S2 H2 (un _ _ _ _ I2) (s1.trans s2)
 cases fl with
 | next=>exact this
 | brk=>exact this
 | cont=>exact this
 | ret v =>
  intro x r
  refine this x ?_
  cases fr with
  | false=>exact r
  | true =>
   obtain⟨a,r1,r2,r3⟩:=r
   exact⟨a,r1,r2,by rw[<- e0];exact r3⟩
theorem fs_whl {body:List Stmt}(hc:FB X C a t)(hb:FSs X C fr body s):FS X C fr (.While a body [] pos) (c3b t s):=by
 refine PS.imp (b9r (X:=X.nox) PassesOwn.never hc hb) λD σ H ⟨c,L,S,Q0,I,⟨m,h⟩,k⟩=>?_
 refine⟨λm σ1 H1=>∃ L S1,Iv X.K c C.md L σ1 S1 H1/\Same S S1/\c6j t s m L Q0,⟨m,L,S,I,Same.refl S,h⟩,?_⟩
 rintro m σ1 H1 ⟨L,S1,I1,s1,h⟩
 cases m with
 | zero=>exact h.elim
 | succ m =>
  refine⟨c,L,S1,_,I1,h,λv L1 q S2 H2 I2 s2=>?_⟩
  cases v with
  | false =>
   rw[if_neg Γk] at q ⊢
   exact k .next L1 q σ1 S2 H2 I2 (s1.trans s2)
  | true =>
   rw[if_pos rfl] at q ⊢
   refine⟨λσ' H'=>∃ m',m'<m+1/\∃ L S1,Iv X.K c C.md L σ' S1 H'/\Same S S1/\c6j t s m' L Q0,λσ' H' h=>h,c,L1,S2,_,I2,q,λfl L3 q σ3 S3 H3 I4 s3=>?_⟩
   have ss:=s1.trans (s2.trans s3)
   cases fl with
   | next=>exact⟨m,Nat.lt_succ_self _,L3,S3,I4,ss,q⟩
   | cont=>exact⟨m,Nat.lt_succ_self _,L3,S3,I4,ss,q⟩
   | brk=>exact k .next L3 q σ3 S3 H3 I4 ss
   | ret v=>exact k (.ret v) L3 q σ3 S3 H3 I4 ss
end
structure Df where
 name:String
 st:Stmt
 ps:List Str
 N:List Str
 md:Md
noncomputable def Df.cc (d:Df)(fns:List Str):CC:=⟨d.N,(a0l d.st).names,fns,d.md,true,[]⟩
noncomputable def d4v (io:Bool)(md:Md) (np:Nat):Bool:=(List.range np).all λi=>decide (a0g md i=if (io && decide (i=0))=true then .own else .imm)
noncomputable def Df.ok (d:Df) (np ns:Nat)(io:Bool):Bool :=
 decide ((a0l d.st).kind=.function) && !(a0l d.st).isCoroutine && !(a0l d.st).isGenerator && decide (d.N.Nodup) && decide (d.N.take d.ps.length=d.ps) && d.ps.all (λx=>decide ((a0l d.st).names.lookup x=some .local ∨ (a0l d.st).names.lookup x=some .cell)) &&
 (a0l d.st).names.all (λp=>decide (p.2≠.free)) && decide (np=d.ps.length) && decide (ns=d.N.length) && d4v io d.md np
noncomputable def spT (K:Γd)(tb:List FD)(call:CW) (f:Nat):Sp:=match tb[f]? with
 | some fd=>spQ K call fd.io fd.fr f
 | none=>λ_ _ _ _=>False
noncomputable def spK (tb:List FD)(call:CW)(K:Γd):Nat->Sp:=spT K tb call
theorem Df.sc {d:Df}{np ns:Nat}{io:Bool}(h:d.ok np ns io=true):FnScope d.N d.ps (a0l d.st)/\np=d.ps.length/\ns=d.N.length/\∀ i,i<np->a0g d.md i=if (io && decide (i=0))=true then .own else .imm:=by
 have h0:=b2 h;have h1:=b2 h0.1;have h2:=b2 h1.1;have h3:=b2 h2.1;have h4:=b2 h3.1;have h5:=b2 h4.1;have h6:=b2 h5.1;have h7:=b2 h6.1;have h8:=b2 h7.1
 exact⟨⟨de h8.1,nb h8.2,nb h7.2,de h6.2,de h5.2,λx hx=>de (List.all_eq_true.mp h4.2 x hx),λy hy=>de (List.all_eq_true.mp h3.2 y hy)⟩,de h2.2,de h1.2,λi hi=>de (List.all_eq_true.mp h0.2 i (List.mem_range.mpr hi))⟩
section
variable {P:Program}{w:World}{K:Γd}{mg:Str->Option Value}{base:Heap}{tb:List FD}{fns:List Str}
theorem ArgsOk.len {S H:Hp}{args:List FV}{vs:List V}{io:Bool}(h:ArgsOk K S H args vs io):args.length=vs.length:=by
 cases io with
 | false=>exact RVs.length h
 | true =>
  obtain⟨v,r,a,us,rfl,rfl,_,h⟩:=h
  rw[List.length_cons,List.length_cons,h.length]
theorem c0j {S H:Hp}{args:List FV}{vs:List V}{io:Bool}{md:Md}{N:List Str}{np ns:Nat}(h:ArgsOk K S H args vs io)(hs:Same S H)(hn:args.length=np)(hN:ns=N.length)(hm:∀ i,i<np->a0g md i=if (io && decide (i=0))=true then .own else .imm) :
  Iv K ⟨H,S,b2r vs io,[],[],[]⟩ md (args.map some++Γj (ns-np) none) (L2.start N vs) S H:=by
 have hl:=h.len
 have look:∀ i v,(args.map some++Γj (ns-np) none)[i]?=some (some v)->args[i]?=some v/\i<np:=λi v e=>by
  by_cases hi:i<args.length
  ·rw[List.getElem?_append_left (by rw[List.length_map];exact hi),List.getElem?_map] at e
   cases ea:args[i]? with
   | none=>rw[ea] at e;cases e
   | some q=>rw[ea] at e;cases e;exact⟨rfl,by lia⟩
  ·rw[List.getElem?_append_right (by rw[List.length_map];lia),List.getElem?_replicate] at e
   split at e<;>cases e
 have st:∀ i,i<np->(L2.start N vs)[i]?=vs[i]?.map some:=λi hi=>by
  unfold L2.start
  rw[List.getElem?_append_left (by rw[List.length_map];lia),List.getElem?_map]
 have own:∀ i v,a0g md i≠.imm->(args.map some++Γj (ns-np) none)[i]?=some (some v)->i=0/\io=true/\a0g md 0=.own:=λi v hm' e=>by
  obtain⟨_,hi⟩:=look i v e
  have:=hm i hi
  cases io with
  | false=>exact absurd (by simpa using this) hm'
  | true =>
   by_cases h0:i=0
   ·subst h0;exact⟨rfl,rfl,by simpa using this⟩
   ·exact absurd (by simpa[h0] using this) hm'
 have lent:∀ a,b2r vs io=some a->io=true/\0<np/\a0g md 0=.own/\vs[0]?=some (.ref a)/\∃ v,args[0]?=some v/\a3m K S H a v:=λa e=>by
  cases io with
  | false=>cases e
  | true =>
   obtain⟨v,r,a',us,rfl,rfl,o,_⟩:=h
   cases e
   have hp:0<np:=by rw[<- hn];exact Nat.succ_pos _
   exact⟨rfl,hp,by simpa using hm 0 hp,rfl,v,rfl,o⟩
 refine⟨?_,λi v hm' e=>?_,λi v hm' e=>?_,λi j v w a m1 m2 e1 e2 _ _=>?_,hs,λa o e _ _=>e,Same.refl S,λa o e=>.inl e,λa e=>?_,λp hp=>absurd hp List.not_mem_nil,λi v hf e=>?_,λp hp=>absurd hp List.not_mem_nil,λp hp=>absurd hp List.not_mem_nil,λp hp=>absurd hp List.not_mem_nil,λq hq=>absurd hq List.not_mem_nil,λj i x C dx fs v h1 h2 h3 h4=>?_⟩
 ·unfold L2.start
  rw[List.length_append,List.length_append,List.length_map,List.length_map,List.length_replicate,List.length_replicate,hN]
  lia
 ·obtain⟨ea,hi⟩:=look i v e
  rw[st i hi]
  cases io with
  | false =>
   obtain⟨x,e1,r⟩:=RVs.get (show RVs K S args vs from h) ea
   exact⟨x,by rw[e1];rfl,r⟩
  | true =>
   obtain⟨v0,r,a',us,rfl,rfl,o,hr⟩:=h
   cases i with
   | zero=>rw[show a0g md 0=.own by simpa using hm 0 hi] at hm';cases hm'
   | succ i =>
    obtain⟨x,e1,r1⟩:=RVs.get hr (by simpa using ea)
    exact⟨x,by simp[e1],r1⟩
 ·obtain⟨rfl,rfl,m0⟩:=own i v hm' e
  obtain⟨ea,hi⟩:=look 0 v e
  obtain⟨v0,r,a',us,rfl,rfl,o,hr⟩:=h
  cases ea
  exact⟨a',by rw[st 0 hi];rfl,o,.inl rfl⟩
 ·rw[(own i v m1 e1).1,(own j w m2 e2).1]
 ·obtain⟨rfl,hp,m0,e1,v,ea,_⟩:=lent a e
  refine⟨λz=>(nomatch (m0.symm.trans z)),by rw[st 0 hp,e1];rfl,v,?_⟩
  rw[List.getElem?_append_left (by rw[List.length_map];lia),List.getElem?_map,ea];rfl
 ·have:=own i v (λz=>by rw[z] at hf;cases hf) e
  rw[this.1,this.2.2] at hf;cases hf
 ·have:=own j v (λz=>by rw[z] at h1;cases h1) h4
  rw[this.1,this.2.2] at h1;cases h1
theorem b7l {d f:Nat}{fa:Addr}{fdd:FuncData}{df:Df}{fd:FD}(F:Fun K (Γe df.name) (Γe df.name) df.st fa fdd)(hf:tb[f]?=some fd)(hok:df.ok fd.np fd.ns fd.io=true)
  (hb:∀ X call n,Good X (df.cc fns) n (spK tb call)->FSs X (df.cc fns) fd.fr (a2n df.st) (fd.body call))
  (fnsOk:∀ (f:Nat)(x:Str),fns[f]?=some x->∃ fa fd ps,mg x=some (.ref fa)/\PySem.W.keepIn K (.ref fa)=true/\Binds K fd ps []/\FnOk P w K mg base CX0 d fa fd ps (spT K tb (callW tb d) f))
  (blt:∀ b∈bltNames,mg (Γe b)=none):FnOk P w K mg base CX0 (d+1) fa fdd df.ps (spT K tb (callW tb (d+1)) f):=by
 obtain⟨S,hnp,hns,hmd⟩:=Df.sc hok
 have e0:spT K tb (callW tb (d+1)) f=spQ K (callW tb (d+1)) fd.io fd.fr f:=by unfold spT;rw[hf]
 have run:∀ {args:List FV}{Q:FV×FV->Prop},callW tb (d+1) f args Q->args.length=fd.np/\fd.body (callW tb d) (args.map some++Γj (fd.ns-fd.np) none) (b8x fd.io fd.fr Q):=λ{args Q} h=>by
  have h:(match tb[f]? with
   | none=>False
   | some fd=>args.length=fd.np/\fd.body (callW tb d) (args.map some++Γj (fd.ns-fd.np) none) (b8x fd.io fd.fr Q)):=h
  rw[hf] at h;exact h
 rw[e0]
 refine F.ok S (λvs H Q E h=>?_) (λcdv A outer s H vs Q E hr h=>?_)
 ·obtain⟨S0,args,Q0,_,ao,hc,_⟩:=h
  rw[<- ao.len,(run hc).1,hnp]
 ·obtain⟨S0,args,Q0,hs,ao,hc,k⟩:=h
  obtain⟨hl,hc⟩:=run hc
  have G:Good (c5v CX0 P w K mg base df.N (Γe df.name) (a0l df.st) fa cdv A outer s H E) (df.cc fns) d (spK tb (callW tb d)) :=
   ⟨rfl,rfl,S.kind,S.nd,rfl,λ_ _=>rfl,hr,fnsOk,blt⟩
  refine⟨_,hb _ _ _ G,_,_,S0,_,c0j ao hs hl hns hmd,hc,λfl L' q σ' S' H' I s'=>?_⟩
  have kp:∀ w,(fd.io=true->lk L' 0=some w)->Kept K S0 H S' H' (b2r vs fd.io) w:=λw hw=>⟨s',I.sub,I.grow,λa o e n=>I.frame a o e n (λ_=>List.not_mem_nil),λa e=>by
   have hio:fd.io=true:=by
    cases z:fd.io with
    | true=>rfl
    | false=>rw[z] at e;cases e
   obtain⟨m0,e1,v,e2⟩:=I.lent a e
   obtain⟨b,e3,o,_⟩:=I.own 0 v m0 e2
   rw[e1] at e3;cases e3
   have:=(a1m _ _ _).mp (hw hio)
   rw[e2] at this;cases this
   exact o⟩
  have fin:∀ v x,b8x fd.io fd.fr Q0 (.ret v) L'->c6h K S' H' H v x fd.fr->Q x H':=λv x q r=>by
   cases hio:fd.io with
   | true =>
    rw[hio] at q
    obtain⟨w,e1,q⟩:=wpx q
    exact k _ q x S' H' (kp w λ_=>e1) r
   | false =>
    rw[hio] at q
    exact k (v,.non) q x S' H' (kp .non λz=>by rw[hio] at z;cases z) r
  cases fl with
  | next =>
   cases hfr:fd.fr with
   | true=>rw[hfr] at q;exact q.elim
   | false=>rw[hfr] at q;exact fin .non .non (by rw[hfr];exact q) (by rw[hfr];exact rfl)
  | ret v =>
   intro x r
   refine fin v x q ?_
   cases hfr:fd.fr with
   | true=>rw[hfr] at r;exact r
   | false=>rw[hfr] at r;exact r
  | brk=>exact q.elim
  | cont=>exact q.elim
theorem b8t (blt:∀ b∈bltNames,mg (Γe b)=none)
  (D:∀ (f:Nat)(x:Str),fns[f]?=some x->∃ df fd fa fdd,tb[f]?=some fd/\Df.ok df fd.np fd.ns fd.io=true/\(∀ X call n,Good X (df.cc fns) n (spK tb call)->FSs X (df.cc fns) fd.fr (a2n df.st) (fd.body call))/\Fun K (Γe df.name) (Γe df.name) df.st fa fdd/\mg x=some (.ref fa)/\Binds K fdd df.ps []) :
  ∀ (d f:Nat)(x:Str),fns[f]?=some x->∃ fa fd ps,mg x=some (.ref fa)/\PySem.W.keepIn K (.ref fa)=true/\Binds K fd ps []/\FnOk P w K mg base CX0 d fa fd ps (spT K tb (callW tb d) f)
 | 0,f,x,h=>by
  obtain⟨df,fd,fa,fdd,h1,h2,h6,h3,h4,h5⟩:=D f x h
  have no:∀ vs H Q E,¬ spT K tb (callW tb 0) f vs H Q E:=λvs H Q E z=>by
   unfold spT at z
   rw[h1] at z
   obtain⟨_,_,_,_,_,k,_⟩:=z
   exact k
  exact⟨fa,fdd,df.ps,h4,h3.kp,h5,λvs H Q E z=>absurd z (no vs H Q E),λA outer s H args us vs Q E _ _ _ _ z=>absurd z (no vs H Q E)⟩
 | d+1,f,x,h=>by
  obtain⟨df,fd,fa,fdd,h1,h2,h6,h3,h4,h5⟩:=D f x h
  exact⟨fa,fdd,df.ps,h4,h3.kp,h5,b7l h3 h1 h2 h6 (b8t blt D d) blt⟩
theorem law_sp {d f:Nat}{H:Hp}{a:Addr}{ns:List Int}{fd:FD}(hf:tb[f]?=some fd)(hio:fd.io=false)(hfr:fd.fr=false)(hO:d1j H)(hS:SqL K H a (ns.map V.int))(h:callW tb d f [.scr ns] λz=>z.1=.bl true) :
  spT K tb (callW tb d) f [.ref a] H (λv _=>v=.bl true) λ_ _ _=>False:=by
 have e0:spT K tb (callW tb d) f=spQ K (callW tb d) false false f:=by unfold spT;rw[hf];show spQ K (callW tb d) fd.io fd.fr f=_;rw[hio,hfr]
 rw[e0]
 refine⟨H,[.scr ns],_,Same.refl H,RVs.one ⟨a,rfl,?_⟩,h,λz e x S' H' _ r=>?_⟩
 ·rcases hS with (h|⟨o,h⟩)|h
  ·rcases hO a with z|⟨o,xs,z⟩
   ·rw[z] at h;cases h
   ·rw[z] at h;cases h
  ·exact .inl ⟨o,h⟩
  ·exact .inr (.inr h)
 ·have r:RV K S' z.1 x:=r
  rw[e] at r;exact r
end
noncomputable def EachI {α:Type}(P:Nat->α->Prop):Nat->List α->Prop
 | _,[]=>True
 | i,x :: xs=>P i x/\EachI P (i+1) xs
theorem EachI.get {α:Type}{P:Nat->α->Prop}:∀ {xs:List α}{k:Nat},EachI P k xs->∀ (f:Nat)(x:α),xs[f]?=some x->P (k+f) x
 | _ :: _,_,h,0,x,e=>(Option.some.inj e) ▸ h.1
 | _ :: xs,k,h,f+1,x,e=>by
  have:=EachI.get h.2 f x e
  rw[Nat.add_assoc,Nat.add_comm 1 f] at this
  exact this
theorem us1 {P:List Value->Prop}{us:List Value}(h:us.length=1)(H:∀ a,P [a]):P us:=match us,h with|[_],_=>H _
theorem us2 {P:List Value->Prop}{us:List Value}(h:us.length=2)(H:∀ a b,P [a,b]):P us:=match us,h with|[_,_],_=>H _ _
theorem us3 {P:List Value->Prop}{us:List Value}(h:us.length=3)(H:∀ a b c,P [a,b,c]):P us:=match us,h with|[_,_,_],_=>H _ _ _
end Kq
end
section
namespace Kq
open PySem PySem.Spec PySem.Calls PyProof.Rows L2 PySem.W
theorem a8f:∀ {K:Frag}{a:Addr}{o:Obj},K.lookup a=some o->(a,o)∈K
 | [],a,o,h=>by simp at h
 | (b,u) :: K,a,o,h=>by
  rw[List.lookup_cons] at h
  split at h
  ·rename_i e;cases h;rw[beq_iff_eq.mp e];exact Γn
  ·exact Γh _ (a8f h)
theorem b6h {K:Frag}{a:Addr}{o:Obj}(h:(a,o)∈K):∃ u,K.lookup a=some u:=by
 induction K with
 | nil=>exact absurd h List.not_mem_nil
 | cons p K ih =>
  obtain⟨b,u⟩:=p
  rw[List.lookup_cons]
  split
  ·exact⟨_,rfl⟩
  ·rename_i e
   rcases List.mem_cons.mp h with z|z
   ·rw[(Prod.mk.inj z).1,beq_self_eq_true] at e;cases e
   ·exact ih z
noncomputable def AllIn (K:Frag)(h:Heap):Prop:=∀ p∈K,h.get? p.1=some p.2
theorem AllIn.to {K:Frag}{h:Heap}(x:AllIn K h):K.In h:=λa o e=>x _ (a8f e)
theorem AllIn.look {K:Frag}{h:Heap}(x:AllIn K h){a:Addr}{o:Obj}(m:(a,o)∈K):K.lookup a=some o:=by
 obtain⟨u,e⟩:=b6h m
 have h1:=x _ (a8f e)
 rw[show h.get? a=some o from x _ m] at h1
 cases h1;exact e
noncomputable def CIn (K:Frag)(cd:Value)(q:Str):Prop:=∃ c oc vs t,cd=.ref c/\(c,oc)∈K/\oc.data=.fields vs/\vs[1]?=some (.str q t)
noncomputable def DIn (K:Frag)(mg:Str->Option Value)(d:DefRec):Prop:=∃ fa o pm cd doc,mg d.name=some (.ref fa)/\(fa,o)∈K/\o.data=.func (docDef d.name d.params d.body d.scope pm cd doc)/\CIn K cd d.name
theorem DIn.more {K K':Frag}{mg:Str->Option Value}{d:DefRec}(s:∀ p∈K,p∈K')(x:DIn K mg d):DIn K' mg d:=by
 obtain⟨fa,o,pm,cd,doc,h1,h2,h3,c,oc,vs,t,h4,h5,h6⟩:=x
 exact⟨fa,o,pm,cd,doc,h1,s _ h2,h3,c,oc,vs,t,h4,s _ h5,h6⟩
theorem b7x {q:Program}{loose:List Str}{mean:ExcName->Option Value}{mg mb:Str->Option Value}{h:Heap}(T:Top q loose mean mg mb h):∀ ds:List DefRec,(∀ d∈ds,d∈recsOf q)->∃ K:Frag,AllIn K h/\∀ d∈ds,DIn K mg d
 | [],_=>⟨[],λ_ m=>absurd m List.not_mem_nil,λ_ m=>absurd m List.not_mem_nil⟩
 | d :: ds,hm=>by
  obtain⟨K,h1,h2⟩:=b7x T ds λe m=>hm e (Γh _ m)
  obtain⟨a,o,pm,cd,doc,g1,g2,g3,c,oc,vs,t,g4,g5,g6⟩:=T.fn d (hm d Γn)
  refine⟨(a,o) :: (c,oc) :: K,λp m=>?_,λe m=>?_⟩
  ·rcases List.mem_cons.mp m with z|z
   ·cases z;exact g2
   ·rcases List.mem_cons.mp z with z|z
    ·cases z;exact g5
    ·exact h1 p z
  ·rcases List.mem_cons.mp m with z|z
   ·cases z
    exact⟨a,o,pm,cd,doc,g1,Γn,g3,c,oc,vs,t,g4,Γh _ Γn,g6⟩
   ·exact (h2 e z).more λp m=>Γh _ (Γh _ m)
theorem DIn.fn {K:Frag}{h:Heap}(A:AllIn K h){mg:Str->Option Value}{x:Str}{st:Stmt}{pos:Pos}(D:DIn K mg ⟨x,a5e st,a2n st,a0l st,pos⟩):∃ fa fd,mg x=some (.ref fa)/\Fun K x x st fa fd:=by
 obtain⟨fa,o,pm,cd,doc,h1,h2,h3,c,oc,vs,t,rfl,h5,h6,h7⟩:=D
 have l:=A.look h2
 have lc:=A.look h5
 obtain⟨k1,k2,k3,k4⟩:=o
 obtain⟨j1,j2,j3,j4⟩:=oc
 cases h3;cases h6
 refine⟨fa,_,h1,d0e (kV:=.none) (doc:=doc) (pm:=pm) (an:=none) (cdv:=.ref c) (ct:=.none) l ?_ ?_⟩
 ·show (match K.lookup c with|some ⟨_,_,.fields vs,_⟩=>_|_=>_)=true
  rw[lc]
  obtain⟨l⟩:=vs
  match l,h7 with
  | [],h7=>simp at h7
  | [a],h7=>simp at h7
  | a :: b :: r,h7 =>
   simp at h7;subst h7
   exact beq_self_eq_true _
 ·show (match K.lookup fa with|some ⟨_,_,.func _,_⟩=>true|some ⟨_,_,.cls _,_⟩=>_|_=>false)=true
  rw[l]
noncomputable def d0u:Stmt->Pos
 | .FunctionDef _ _ _ _ _ _ _ _ _ p=>p
 | _=>⟨0,0,0,0⟩
noncomputable def d5r:Stmt->Bool
 | .FunctionDef ..=>true
 | _=>false
noncomputable def c6o (p:Program):Program:={ p with main:={ p.main with body:=p.main.body.filter d5r } }
noncomputable def freeIn (q:Program)(loose:List Str)(x:Str):Bool:=!startupNames.contains x && !loose.contains x && !((recsOf q).map (·.name)).contains x && !((litsOf q).map (·.1)).contains x && !((clssOf q loose).map (·.name)).contains x
theorem c5c {q:Program}{loose:List Str}{mean:ExcName->Option Value}{mg mb:Str->Option Value}{h:Heap}(T:Top q loose mean mg mb h){x:Str}(e:freeIn q loose x=true):mg x=none:=by
 unfold freeIn at e
 simp only[Bool.and_eq_true,Bool.not_eq_true',List.contains_eq_mem,decide_eq_false_iff_not] at e
 exact T.free x e.1.1.1.1 e.1.1.1.2 e.1.1.2 e.1.2 e.2
theorem walk2 {l:OpenLaw}{n k:Nat}{q:Program}{XP:(Str->Option Value)->Heap->Prop}{YP:World->Heap->Prop}{d:DefRec}{ds:List DefRec}{x:Str}{sp:Frag->Sp}
  (hn:l.most=some n)(hn2:n<=sizeLine)(hdf:d.params.defaults=[])(hr:Room k callerA)(hds:ds=recsOf q)(hfree:(bltNames.all λb=>freeIn q (looseW q []) (Γe b))=true)
  (F:∀ (w:World)(K:Frag)(mg:Str->Option Value)(fa:Addr)(h:Heap),AllIn K h->(∀ d∈ds,DIn K mg d)->(∀ b∈bltNames,mg (Γe b)=none)->mg d.name=some (.ref fa) ->
   ∃ fd:FuncData,(∀ (s:Shared)(u:Value),BindsTo s fd ⟨[u],[]⟩ [(x,u)])/\∀ base:Heap,FnOk l.prog w K mg base CX0 k fa fd [x] (sp K))
  (hsp:∀ (K:Frag)(H:Hp)(a:Addr)(ns:List Int),ns.length<=n->d1j H->SqL K H a (ns.map V.int)->sp K [.ref a] H (λv _=>v=.bl true) λ_ _ _=>False) :
  WalkO q [] XP YP l.row.toRowW d [] (λf vs=>PySem.call f vs):=by
 refine Att.attach_call hn hdf λw s₀ s₁ mg mb fa o pm cd doc a vs ns G Y ho hd hcd hmg hobj hints hlen hg=>?_
 obtain⟨K,hK,hD⟩:=b7x G.T ds λd m=>hds ▸ m
 obtain⟨fd,hb,hF⟩:=F w K mg fa _ hK hD (λb hb=>c5c G.T (List.all_eq_true.mp hfree b hb)) hmg
 exact b2s hK.to G.T.g G.T.b G.T.builtins G.T.nolimit hg hobj hints (Nat.le_trans hlen hn2) hr (λbase _ _=>hF base) hb (λH hO hS=>hsp K H a ns hlen hO hS) λH e s' z=>z
theorem row_holds {l:OpenLaw}{q:Program}{d:DefRec}{N:Nat}(said:l.wellSaid=true)(left:LeftO l.prog q [] (λs=>xlAt q [] s && recOk (RowW.records l.row.toRowW) s) (λ_=>()) (λ_=>()) N)
  (hdef:defOf q l.name=some (d,[]))(hp:l.prog.theDef l.name=some (d.params,d.body,d.scope))(hk:kwWritten? d.params.kwonlyargs d.params.kw_defaults=some [])(hwr:(!l.writes || l.row.records.isEmpty)=true)
  (ok:(chainsOk q && opensWell l.prog && (frees l.row.toRowW && l.row.within.isEmpty))=true)(hb:l.prog.bare)(hw:l.row.toRowW.promised)
  (call:WalkO q [] (XL q []) (λ_ _=>True) l.row.toRowW d [] λf vs=>PySem.call f vs):l.Holds :=
 holds_law said λk1=>holds_open (r:=l.row) left (λ_ _ _=>trivial) (λ_ _ _ _ _=>trivial) (λs e=>xl_of s (Bool.and_eq_true_iff.mp e).1) XL.keeps hdef hp hk (λs e=>recFacts_of (Bool.and_eq_true_iff.mp e).2) hwr k1 ok hb hw call
end Kq
end
set_option maxHeartbeats 1000000
section
namespace Kq
@[scoped simp ↓] theorem a1t {α:Type}(x:α)(Q:α->Prop):wp (some x) Q=Q x:=propext Iff.rfl
@[scoped simp ↓] theorem d3c {α:Type}(Q:α->Prop):wp (none:Option α) Q=False:=propext Iff.rfl
theorem a2a {α β:Type}(r:Option α)(f:α->Option β)(Q:β->Prop):wp (r.bind f) Q↔wp r (λx=>wp (f x) Q):=by cases r<;>rfl
@[scoped simp ↓] theorem a1n {α β:Type}(r:Option α)(f:α->β)(Q:β->Prop):wp (r.map f) Q↔wp r (λx=>Q (f x)):=by cases r<;>rfl
@[scoped simp ↓] theorem a3x {α:Type}(c:Prop) [Decidable c] (a:α)(Q:α->Prop):wp (if c then some a else none) Q↔c/\Q a:=by
 by_cases h:c<;>simp[h]
@[scoped simp ↓] theorem d7s (i:Nat)(L:a0c)(Q:FV->a0c->Prop):a0b i L Q=(wp (lk L i) λx=>Q x L):=propext Iff.rfl
@[scoped simp ↓] theorem eC_eq (v:FV)(L:a0c)(Q:FV->a0c->Prop):eC v L Q=(Q v L):=propext Iff.rfl
@[scoped simp ↓] theorem eUn_eq (f:FV->Option FV)(a:EW)(L:a0c)(Q:FV->a0c->Prop):eUn f a L Q=(a L λx L1=>wp (f x) λz=>Q z L1):=propext Iff.rfl
@[scoped simp ↓] theorem eOp_eq (f:FV->FV->Option FV)(a b:EW)(L:a0c)(Q:FV->a0c->Prop):eOp f a b L Q=(a L λx L1=>b L1 λy L2=>wp (f x y) λz=>Q z L2):=propext Iff.rfl
@[scoped simp ↓] theorem d7y (f:FV->FV->Option FV) (i:Nat)(b:EW)(L:a0c)(Q:FV->a0c->Prop):a6i f i b L Q=(wp (lk L i) λ_=>b L λy L1=>wp (lk L1 i) λx=>wp (f x y) λz=>Q z L1):=propext Iff.rfl
@[scoped simp ↓] theorem d8a (a b:EW)(L:a0c)(Q:FV->a0c->Prop):d0p a b L Q=(a L λx L1=>wp (b4w x) λr=>if r=true then b L1 Q else Q x L1):=propext Iff.rfl
@[scoped simp ↓] theorem eIf_eq (c:BW)(a b:EW)(L:a0c)(Q:FV->a0c->Prop):eIf c a b L Q=(c L λr L1=>if r=true then a L1 Q else b L1 Q):=propext Iff.rfl
@[scoped simp ↓] theorem d8u (a:EW)(L:a0c)(Q:Bool->a0c->Prop):a1i a L Q=(a L λx L1=>wp (b4w x) λb=>Q b L1):=propext Iff.rfl
@[scoped simp ↓] theorem d8w (a b:BW)(L:a0c)(Q:Bool->a0c->Prop):b8p a b L Q=(a L λr L1=>if r=true then b L1 Q else Q false L1):=propext Iff.rfl
@[scoped simp ↓] theorem bOr_eq (a b:BW)(L:a0c)(Q:Bool->a0c->Prop):bOr a b L Q=(a L λr L1=>if r=true then Q true L1 else b L1 Q):=propext Iff.rfl
@[scoped simp ↓] theorem d8v (a:BW)(L:a0c)(Q:Bool->a0c->Prop):c1i a L Q=(a L λr L1=>Q (!r) L1):=propext Iff.rfl
@[scoped simp ↓] theorem d8z (L:a0c)(Q:List FV->a0c->Prop):a0p  L Q=(Q [] L):=propext Iff.rfl
@[scoped simp ↓] theorem d3a (a:EW)(r:AW)(L:a0c)(Q:List FV->a0c->Prop):a0a a r L Q=(a L λx L1=>r L1 λxs L2=>Q (x :: xs) L2):=propext Iff.rfl
@[scoped simp ↓] theorem d7t (a:AW)(L:a0c)(Q:FV->a0c->Prop):a6h a L Q=(a L λxs L1=>xs.length<=big/\Q (.tup xs) L1):=propext Iff.rfl
@[scoped simp ↓] theorem d7z (a:AW)(L:a0c)(Q:FV->a0c->Prop):a6j a L Q=(a L λxs L1=>xs.length<=big/\Q (.lst xs) L1):=propext Iff.rfl
@[scoped simp ↓] theorem d1t (L:a0c)(Q:Option Int->a0c->Prop):c4g  L Q=(Q none L):=propext Iff.rfl
@[scoped simp ↓] theorem d1s (a:EW)(L:a0c)(Q:Option Int->a0c->Prop):b6c a L Q=(a L λx L1=>wp (a3w x) λi=>Q (some i) L1):=propext Iff.rfl
@[scoped simp ↓] theorem d2v (call:CW) (f:Nat)(a:AW)(L:a0c)(Q:FV->a0c->Prop):a2w call f a L Q=(a L λxs L1=>call f xs λz=>Q z.1 L1):=propext Iff.rfl
@[scoped simp ↓] theorem d0m (call:CW) (f i:Nat)(a:AW)(L:a0c)(Q:FV->a0c->Prop):a1g call f i a L Q=(wp (lk L i) λ_=>a L λxs L1=>wp (lk L1 i) λx=>call f (x :: xs) λz=>Q z.1 (L1.set i (some z.2))):=propext Iff.rfl
@[scoped simp ↓] theorem d2t (f:FV->FV->Option FV) (i:Nat)(a:EW)(L:a0c)(Q:FV->a0c->Prop):b1r f i a L Q=(wp (lk L i) λv=>wp (a5n v) λ_=>a L λy L1=>wp (lk L1 i) λx=>wp (f x y) λz=>Q .non (L1.set i (some z))):=propext Iff.rfl
@[scoped simp ↓] theorem d5s (a:EW)(L:a0c)(Q:List FV->a0c->Prop):a6y a L Q=(a L λx L1=>wp (a4z x) λxs=>Q xs L1):=propext Iff.rfl
@[scoped simp ↓] theorem d5t (a:EW)(L:a0c)(Q:List FV->a0c->Prop):b4d a L Q=(a L λx L1=>wp (a3w x) λj=>a2b j=true/\Q (upF 0 j.toNat) L1):=propext Iff.rfl
@[scoped simp ↓] theorem d1z (a:EW)(L:a0c)(Q:List FV->a0c->Prop):a6z a L Q=(a L λx L1=>wp (a4z x) λxs=>Q (a2f (upF 0 xs.length) xs) L1):=propext Iff.rfl
@[scoped simp ↓] theorem d2u (n m:Nat)(it:AW)(tg:Tg)(t:BW)(e:EW)(L:a0c)(Q:FV->a0c->Prop):a1z n m it tg t e L Q=(it L λxs L1=>L1.length=n/\xs.length<=big/\a5k n m tg t e xs [] L1 λys L2=>Q (.lst ys) L2):=propext Iff.rfl
@[scoped simp ↓] theorem d3y (L:a0c)(Q:FFl->a0c->Prop):a6s  L Q=(Q .next L):=propext Iff.rfl
@[scoped simp ↓] theorem d3w (s r:SW)(L:a0c)(Q:FFl->a0c->Prop):a0q s r L Q=(s L (aft (λL1=>r L1 Q) Q)):=propext Iff.rfl
@[scoped simp ↓] theorem d4e (e:EW)(tg:Tg)(L:a0c)(Q:FFl->a0c->Prop):a1l e tg L Q=(e L λx L1=>gW tg x L1 λL2=>Q .next L2):=propext Iff.rfl
@[scoped simp ↓] theorem d3v (k:Nat)(i e:EW)(L:a0c)(Q:FFl->a0c->Prop):c3e k i e L Q=(wp (lk L k) λ_=>e L λx L1=>i L1 λj L2=>wp (lk L2 k) λy=>wp (d3r y j x) λz=>Q .next (L2.set k (some z))):=propext Iff.rfl
@[scoped simp ↓] theorem d4d (f:FV->FV->Option FV) (i:Nat)(e:EW)(L:a0c)(Q:FFl->a0c->Prop):d1q f i e L Q=(wp (lk L i) λa=>e L λx L1=>wp (f a x) λz=>Q .next (L1.set i (some z))):=propext Iff.rfl
@[scoped simp ↓] theorem d3x (e:EW)(L:a0c)(Q:FFl->a0c->Prop):a3c e L Q=(e L λx L1=>Q (.ret x) L1):=propext Iff.rfl
@[scoped simp ↓] theorem d4a (e:EW)(L:a0c)(Q:FFl->a0c->Prop):b9h e L Q=(e L λ_ L1=>Q .next L1):=propext Iff.rfl
@[scoped simp ↓] theorem sIf_eq (c:BW)(a b:SW)(L:a0c)(Q:FFl->a0c->Prop):sIf c a b L Q=(c L λr L1=>if r=true then a L1 Q else b L1 Q):=propext Iff.rfl
@[scoped simp ↓] theorem d3z (it:AW)(tg:Tg)(b:SW)(L:a0c)(Q:FFl->a0c->Prop):a9c it tg b L Q=(it L λxs L1=>c5e tg b xs L1 Q):=propext Iff.rfl
@[scoped simp ↓] theorem d3s (c:BW)(b:SW)(L:a0c)(Q:FFl->a0c->Prop):c3b c b L Q=(∃ n,c6j c b n L Q):=propext Iff.rfl
@[scoped simp ↓] theorem lk_z (x:Option FV)(L:a0c)(Q:FV->Prop):wp (lk (x :: L) 0) Q=wp x Q:=propext Iff.rfl
@[scoped simp ↓] theorem gw_nm (i:Nat)(v:FV)(L:a0c)(Q:a0c->Prop):gW (.nm i) v L Q=Q (L.set i (some v)):=propext Iff.rfl
@[scoped simp ↓] theorem gw_tp (is:List Nat)(v:FV)(L:a0c)(Q:a0c->Prop):gW (.tp is) v L Q=wp (a6q v) λxs=>wp (a7z L is xs) Q:=propext Iff.rfl
@[scoped simp ↓] theorem sa_n (L:a0c)(Q:a0c->Prop):wp (a7z L [] []) Q=Q L:=propext Iff.rfl
@[scoped simp ↓] theorem sa_c (L:a0c) (i:Nat)(is:List Nat)(v:FV)(vs:List FV)(Q:a0c->Prop):wp (a7z L (i :: is) (v :: vs)) Q=wp (a7z (L.set i (some v)) is vs) Q:=propext Iff.rfl
section
variable (L:a0c)(k:a0c->Prop)(Q:FFl->a0c->Prop)
@[scoped simp ↓] theorem d8x:aft k Q .next L=k L:=propext Iff.rfl
@[scoped simp ↓] theorem af_ret (v:FV):aft k Q (.ret v) L=Q (.ret v) L:=propext Iff.rfl
@[scoped simp ↓] theorem tq_n:b0w k Q .next L=k L:=propext Iff.rfl
@[scoped simp ↓] theorem tq_r (v:FV):b0w k Q (.ret v) L=Q (.ret v) L:=propext Iff.rfl
end
@[scoped simp ↓] theorem en_rt (fr:Bool)(Q:FV×FV->Prop)(v:FV)(L:a0c):b8x true fr Q (.ret v) L=wp (lk L 0) λx=>Q (v,x):=propext Iff.rfl
@[scoped simp ↓] theorem en_rf (fr:Bool)(Q:FV×FV->Prop)(v:FV)(L:a0c):b8x false fr Q (.ret v) L=Q (v,.non):=propext Iff.rfl
section
variable (Q:FV->Prop)(B:Bool->Prop) (i j:Int)
@[scoped simp ↓] theorem tr_b (b:Bool):wp (b4w (.bl b)) B=B b:=propext Iff.rfl
@[scoped simp ↓] theorem tr_t (xs:List FV):wp (b4w (.tup xs)) B=B (!xs.isEmpty):=propext Iff.rfl
@[scoped simp ↓] theorem tr_l (xs:List FV):wp (b4w (.lst xs)) B=B (!xs.isEmpty):=propext Iff.rfl
@[scoped simp ↓] theorem in_i (Q:Int->Prop):wp (a3w (.int i)) Q=Q i:=propext Iff.rfl
@[scoped simp ↓] theorem tp_t (xs:List FV)(Q:List FV->Prop):wp (a6q (.tup xs)) Q=Q xs:=propext Iff.rfl
@[scoped simp ↓] theorem ls_l (xs:List FV)(Q:List FV->Prop):wp (a5n (.lst xs)) Q=Q xs:=propext Iff.rfl
@[scoped simp ↓] theorem sq_t (xs:List FV)(Q:List FV->Prop):wp (a4z (.tup xs)) Q=Q xs:=propext Iff.rfl
@[scoped simp ↓] theorem sq_l (xs:List FV)(Q:List FV->Prop):wp (a4z (.lst xs)) Q=Q xs:=propext Iff.rfl
@[scoped simp ↓] theorem li_l (xs:List FV)(Q:List FV->Prop):wp (a1q (.lst xs)) Q=Q xs:=propext Iff.rfl
@[scoped simp ↓] theorem b_add:wp (a5t (.int i) (.int j)) Q=Q (.int (i+j)):=propext Iff.rfl
@[scoped simp ↓] theorem b_sub:wp (d1l (.int i) (.int j)) Q=Q (.int (i-j)):=propext Iff.rfl
@[scoped simp ↓] theorem b_mul:wp (b1g (.int i) (.int j)) Q↔(a2d i || a2d j)=true/\Q (.int (i*j)):=a3x _ _ _
@[scoped simp ↓] theorem b_fdiv:wp (b7m (.int i) (.int j)) Q↔(0<j/\j<1073741824)/\Q (.int (i / j)):=a3x _ _ _
@[scoped simp ↓] theorem b_mod:wp (b8w (.int i) (.int j)) Q↔0<j/\Q (.int (i % j)):=a3x _ _ _
@[scoped simp ↓] theorem b_pow:wp (c8c (.int i) (.int j)) Q↔(0<=j/\j<=1000/\a2d i=true)/\Q (.int (i ^ j.toNat)):=a3x _ _ _
@[scoped simp ↓] theorem b_addl (xs ys:List FV):wp (a5t (.lst xs) (.lst ys)) Q↔xs.length+ys.length<=big/\Q (.lst (xs++ys)):=a3x _ _ _
@[scoped simp ↓] theorem b_rep (xs:List FV) (k:Int):wp (b1g (.lst xs) (.int k)) Q↔(-(2 ^ 63)<=k/\k<2 ^ 63/\xs.length*k.toNat<=big)/\Q (.lst (Γj k.toNat xs).flatten):=a3x _ _ _
@[scoped simp ↓] theorem d5p {f:FV->FV->Option FV}(v w:FV):wp (a5b f v w) Q↔wp (f v w) λz=>wp (a5n z) λxs=>Q (.lst xs):=by unfold a5b;rw[a2a];simp only[a1n]
@[scoped simp ↓] theorem k_eq (a b:FV):wp (eqB a b) Q↔wp (eqF a b) λr=>Q (.bl r):=a1n _ _ _
@[scoped simp ↓] theorem k_ne (a b:FV):wp (neB a b) Q↔wp (eqF a b) λr=>Q (.bl (!r)):=a1n _ _ _
@[scoped simp ↓] theorem k_lt:wp (ltB (.int i) (.int j)) Q=Q (.bl (decide (i<j))):=propext Iff.rfl
@[scoped simp ↓] theorem k_gt:wp (gtB (.int i) (.int j)) Q=Q (.bl (decide (j<i))):=propext Iff.rfl
@[scoped simp ↓] theorem k_ge:wp (geB (.int i) (.int j)) Q=Q (.bl (decide (j<=i))):=propext Iff.rfl
@[scoped simp ↓] theorem e_ii:wp (eqF (.int i) (.int j)) B=B (i == j):=propext Iff.rfl
@[scoped simp ↓] theorem e_ss (a b:String):wp (eqF (.str a) (.str b)) B=B (a == b):=propext Iff.rfl
@[scoped simp ↓] theorem e_sh (d:D):wp (eqF (.shn d) (.shn d)) B=B true:=by simp[eqF]
@[scoped simp ↓] theorem ix_eq (v:FV):wp (ixF v (.int i)) Q↔wp (a4z v) λxs=>wp (atF xs i) Q:=by
 show wp ((a4z v).bind _) Q↔_;rw[a2a]
@[scoped simp ↓] theorem f_max:wp (b6g (.int i) (.int j)) Q=Q (.int (if j > i then j else i)):=propext Iff.rfl
@[scoped simp ↓] theorem f_not (b:Bool):wp (d5e (.bl b)) Q=Q (.bl (!b)):=propext Iff.rfl
@[scoped simp ↓] theorem f_neg:wp (d1v (.int i)) Q=Q (.int (-i)):=propext Iff.rfl
@[scoped simp ↓] theorem f_len (v:FV):wp (b1l v) Q↔wp (a4z v) λxs=>Q (.int xs.length):=a1n _ _ _
@[scoped simp ↓] theorem f_abs:wp (d1h (.int i)) Q=Q (.int (if i<0 then -i else i)):=propext Iff.rfl
@[scoped simp ↓] theorem f_intb (b:Bool):wp (a3y (.bl b)) Q=Q (.int (if b then 1 else 0)):=propext Iff.rfl
@[scoped simp ↓] theorem f_sum (v:FV):wp (c2y v) Q↔wp (a1q v) λxs=>wp (c7a xs) λn=>Q (.int n):=by
 show wp ((a1q v).bind _) Q↔_;rw[a2a];simp only[a1n]
@[scoped simp ↓] theorem f_all (v:FV):wp (d1g v) Q↔wp (a1q v) λxs=>wp (a4u xs) λbs=>Q (.bl (bs.all id)):=by
 show wp ((a1q v).bind _) Q↔_;rw[a2a];simp only[a1n]
@[scoped simp ↓] theorem f_any (v:FV):wp (d1f v) Q↔wp (a1q v) λxs=>wp (a4u xs) λbs=>Q (.bl (bs.any id)):=by
 show wp ((a1q v).bind _) Q↔_;rw[a2a];simp only[a1n]
@[scoped simp ↓] theorem f_minI (v:FV):wp (c0d v) Q↔wp (a1q v) λxs=>wp (d1w xs) Q:=a2a _ _ _
@[scoped simp ↓] theorem d7q (v:FV):wp (a3f v) Q↔wp (a4z v) λxs=>Q (.tup xs):=a1n _ _ _
@[scoped simp ↓] theorem f_list (v:FV):wp (a4e v) Q↔wp (a4z v) λxs=>Q (.lst xs):=a1n _ _ _
@[scoped simp ↓] theorem f_isi (t:Ty)(v:FV):wp (c4w t v) Q↔wp (a9u v t) λb=>Q (.bl b):=a1n _ _ _
@[scoped simp ↓] theorem y_int (t:Ty):wp (a9u (.int i) t) B=B (t == .int):=propext Iff.rfl
@[scoped simp ↓] theorem y_tup (b:List FV)(t:Ty):wp (a9u (.tup b) t) B=B (t == .tuple):=propext Iff.rfl
@[scoped simp ↓] theorem y_lst (b:List FV)(t:Ty):wp (a9u (.lst b) t) B=B (t == .list):=propext Iff.rfl
@[scoped simp ↓] theorem iN_n:wp (a2c .non) Q=Q (.bl true):=propext Iff.rfl
@[scoped simp ↓] theorem iN_i:wp (a2c (.int i)) Q=Q (.bl false):=propext Iff.rfl
@[scoped simp ↓] theorem nN_n:wp (a0v .non) Q=Q (.bl false):=propext Iff.rfl
@[scoped simp ↓] theorem nN_i:wp (a0v (.int i)) Q=Q (.bl true):=propext Iff.rfl
@[scoped simp ↓] theorem m_app (xs:List FV)(v:FV):wp (c6f (.lst xs) v) Q↔xs.length<big/\Q (.lst (xs++[v])):=a3x _ _ _
@[scoped simp ↓] theorem st_l (xs:List FV)(v:FV):wp (d3r (.lst xs) (.int j) v) Q↔wp (ixN xs.length j) λp=>Q (.lst (xs.set p v)):=a1n _ _ _
@[scoped simp ↓] theorem au_f (f:Int->Int->Int):wp (d1e f (.int i) (.int j)) Q=Q (.int (f i j)):=propext Iff.rfl
end
theorem a4b {xs:List FV}{i:Int}{n:Nat}{v:FV}{Q:FV->Prop}(h:i=n)(hv:xs[n]?=some v):wp (atF xs i) Q↔Q v:=by
 subst h
 have:=(List.getElem?_eq_some_iff.mp hv).1
 simp only[atF,ixN,Int.natCast_nonneg,if_true,Int.ofNat_lt,this,Option.bind_some,Int.toNat_natCast,hv,a1t]
@[scoped simp ↓] theorem at_0 (x:FV)(r:List FV)(Q:FV->Prop):wp (atF (x :: r) 0) Q↔Q x:=a4b (n:=0) rfl rfl
@[scoped simp ↓] theorem at_1 (x y:FV)(r:List FV)(Q:FV->Prop):wp (atF (x :: y :: r) 1) Q↔Q y:=a4b (n:=1) rfl rfl
@[scoped simp ↓] theorem at_2 (x y z:FV)(r:List FV)(Q:FV->Prop):wp (atF (x :: y :: z :: r) 2) Q↔Q z:=a4b (n:=2) rfl rfl
theorem b6t {n:Nat}{i:Int}{j:Nat}{Q:Nat->Prop}(h:i=j)(hj:j<n):wp (ixN n i) Q↔Q j:=by
 subst h;simp[ixN,hj]
theorem b3l {xs:List FV}{u:Int}{Q:FV->Prop}(h0:0<=u)(h1:u<xs.length)(h:∀ x∈xs,Q x):wp (atF xs u) Q:=by
 have hu:u.toNat<xs.length:=by lia
 rw[a4b (show u=u.toNat by lia) (List.getElem?_eq_getElem hu)]
 exact h _ (List.getElem_mem hu)
theorem a3l {α:Type}(p:α->Bool):∀ xs:List α,a4u (xs.map λx=>.bl (p x))=some (xs.map p)
 | []=>rfl
 | x :: r=>by simp only[List.map_cons,a4u,a3l p r,Option.map_some]
theorem a8j:∀ ns:List Int,a0u (ns.map .int)=some ns
 | []=>rfl
 | x :: r=>by simp only[List.map_cons,a0u,a8j r,Option.map_some]
@[scoped simp] theorem ty_10:(Ty.bool == Ty.int)=false:=by decide
theorem a1a {tb:List FD}{d f:Nat}{args:List FV}{fd:FD}{Q:FV×FV->Prop}(h:tb[f]?=some fd)(hl:args.length=fd.np)
  (H:fd.body (callW tb d) (args.map some++Γj (fd.ns-fd.np) none) (b8x fd.io fd.fr Q)):callW tb (d+1) f args Q:=by
 show (match tb[f]? with
  | none=>False
  | some fd=>args.length=fd.np/\fd.body (callW tb d) (args.map some++Γj (fd.ns-fd.np) none) (b8x fd.io fd.fr Q))
 rw[h];exact⟨hl,H⟩
theorem c1f {tb:List FD}{d f:Nat}{args:List FV}{fd:FD}{Q:FV×FV->Prop}(h:tb[f]?=some fd)(hl:args.length=fd.np) :
  callW tb (d+1) f args Q↔fd.body (callW tb d) (args.map some++Γj (fd.ns-fd.np) none) (b8x fd.io fd.fr Q):=by
 show (match tb[f]? with
  | none=>False
  | some fd=>args.length=fd.np/\fd.body (callW tb d) (args.map some++Γj (fd.ns-fd.np) none) (b8x fd.io fd.fr Q))↔_
 rw[h];exact⟨λz=>z.2,λz=>⟨hl,z⟩⟩
theorem a2s {α:Type}{tg:Tg}{b:SW}{f:α->FV}{I:List α->a0c->Prop}{Q:FFl->a0c->Prop}(all:List α) :
  ∀ (rest done:List α)(L:a0c),all=done++rest->I done L ->
  (∀ d x r L (K:a0c->Prop),all=d++x :: r->I d L->(∀ L',I (d++[x]) L'->K L')->gW tg (f x) L λL1=>b L1 (b0w K Q)) ->
  (∀ L,I all L->Q .next L)->c5e tg b (rest.map f) L Q
 | [],done,L,e,h,_,E=>by
  rw[List.append_nil] at e
  exact E L (e ▸ h)
 | x :: rest,done,L,e,h,B,E=>B done x rest L _ e h λL' h'=>a2s all rest (done++[x]) L' (by simp[e]) h' B E
theorem a2g {tg:Tg}{b:SW}{I:Nat->a0c->Prop}{Q:FFl->a0c->Prop}:∀ (n i:Nat)(L:a0c),I i L ->
  (∀ j L (K:a0c->Prop),i<=j->j<i+n->I j L->(∀ L',I (j+1) L'->K L')->gW tg (.int (j:Int)) L λL1=>b L1 (b0w K Q)) ->
  (∀ L,I (i+n) L->Q .next L)->c5e tg b (upF (i:Int) n) L Q
 | 0,i,L,h,_,E=>E L h
 | n+1,i,L,h,B,E=>B i L _ (Γi _) (by lia) h λL' h'=>by
  have:=a2g n (i+1) L' h' (λj L K hj hj'=>B j L K (by lia) (by lia)) (λL h=>E L (by rw[show i+(n+1)=i+1+n by lia];exact h))
  simpa using this
theorem while_by {c:BW}{b:SW}{I:Nat->a0c->Prop}{Q:FFl->a0c->Prop}(B:∀ m L (K:a0c->Prop),I m L->(∀ m' L',m'<m->I m' L'->K L')->c L λt L1=>if t=true then b L1 (b0w K Q) else Q .next L1){m:Nat}{L:a0c}(h:I m L):c3b c b L Q:=by
 have go:∀ n m L,m<n->I m L->c6j c b n L Q:=by
  intro n
  induction n with
  | zero=>intro m L hm;lia
  | succ n ih=>intro m L hm h;exact B m L _ h λm' L' h1 h2=>ih m' L' (by lia) h2
 exact⟨m+1,go _ m L (Nat.lt_succ_self _) h⟩
theorem a1e {α:Type}{tg:Tg}{n m:Nat}{e:EW}{f:α->FV}{g:α->FV}{Q:List FV->a0c->Prop}{L:a0c}:∀ (xs:List α)(acc:List FV),
  (∀ x∈xs,∀ K:FV->a0c->Prop,K (g x) L->gW tg (f x) (L++Γj m none) λL1=>e L1 λv L3=>K v (L3.take n))->Q (acc++xs.map g) L->a5k n m tg a2x e (xs.map f) acc L Q
 | [],acc,_,E=>by
  show Q acc L
  simpa using E
 | x :: xs,acc,B,E=>B x Γn (λv L'=>a5k n m tg a2x e (xs.map f) (acc++[v]) L' Q) (a1e xs (acc++[g x]) (λy hy=>B y (Γh _ hy)) (by simpa using E))
theorem a0o {α:Type}{tg:Tg}{n m:Nat}{t:BW}{e:EW}{f:α->FV}{g:α->FV}{p:α->Bool}{Q:List FV->a0c->Prop}{L:a0c}:∀ (xs:List α)(acc:List FV),
  (∀ x∈xs,∀ (K:FV->a0c->Prop)(N:a0c->Prop),(p x=true->K (g x) L)->(p x=false->N L)->gW tg (f x) (L++Γj m none) λL1=>t L1 λb L2=>if b=true then e L2 λv L3=>K v (L3.take n) else N (L2.take n))->Q (acc++(xs.filter p).map g) L->a5k n m tg t e (xs.map f) acc L Q
 | [],acc,_,E=>by
  show Q acc L
  simpa using E
 | x :: xs,acc,B,E=>B x Γn (λv L'=>a5k n m tg t e (xs.map f) (acc++[v]) L' Q) (λL'=>a5k n m tg t e (xs.map f) acc L' Q)
   (λhp=>a0o xs (acc++[g x]) (λy hy=>B y (Γh _ hy)) (by rw[List.filter_cons_of_pos hp] at E;simpa using E))
   (λhp=>a0o xs acc (λy hy=>B y (Γh _ hy)) (by rw[List.filter_cons_of_neg (by simp[hp])] at E;exact E))
theorem c1m:∀ n lo:Nat,upF (lo:Int) n=(List.range' lo n).map λi:Nat=>FV.int i
 | 0,lo=>rfl
 | n+1,lo=>by simp only[upF,List.range'_succ,List.map_cons];rw[<- c1m n (lo+1)];simp
theorem a1h (n:Nat):upF 0 n=(List.range n).map λi:Nat=>FV.int i:=by
 have:=c1m n 0
 rw[List.range_eq_range'];exact_mod_cast this
theorem ite2 {c A B:Prop} [Decidable c] (h1:c->A)(h2:¬ c->B):if c then A else B:=by
 by_cases h:c
 ·rw[if_pos h];exact h1 h
 ·rw[if_neg h];exact h2 h
end Kq
end
set_option maxHeartbeats 4000000
section
namespace Kq
open PySem PySem.Spec PyProof.Rows L2
section
variable {X:Cx}{C:CC}{n:Nat}{sp:Γd->Nat->Sp}{a:Expr}{ea:EW}{p p2 p3 p4 pos:Pos}
end
section
variable {X:Cx}{C:CC}{n:Nat}{sp:Γd->Nat->Sp}{fr:Bool}{a b:Expr}{ea eb:EW}{pos px py pt p2:Pos}{i j kt k2:Nat}{nx ny:Str}
theorem c8p (G:Good X C n sp){ta:TA}(h:c4b C i j nx ny px py a b=true)(ha:PA X.nox [a,b] ta):PS X.nox (.Assign [.Tuple [.Name nx px,.Name ny py] kt pt] (.Tuple [a,b] k2 p2) pos) (tPar i j ta):=by
 have g0:=b2 h;have g1:=b2 g0.1;have g2:=b2 g1.1;have g3:=b2 g2.1;have g4:=b2 g3.1;have g5:=b2 g4.1;have g6:=b2 g5.1;have g7:=b2 g6.1;have g8:=b2 g7.1;have g9:=b2 g8.1
 have lx:X.env.scope.names.lookup nx=some .local:=by rw[G.sc];exact de g6.2
 have ly:X.env.scope.names.lookup ny=some .local:=by rw[G.sc];exact de g5.2
 exact c8a (X:=X.nox) G.calm G.nd' (G.ix g9.1) (G.ix g9.2) (de g8.2) lx ly ha (sw2 (env:=X.env) G.kind lx ly (de g7.2) g4.2 (nb g3.2) (nb g2.2) (nb g1.2) (nb g0.2))
theorem c8o (h:c4b C i j nx ny px py a b=true):a0h a=false/\a0h b=false/\i≠j:=by
 have g0:=b2 h;have g1:=b2 g0.1;have g2:=b2 g1.1;have g3:=b2 g2.1;have g4:=b2 g3.1;have g5:=b2 g4.1;have g6:=b2 g5.1;have g7:=b2 g6.1;have g8:=b2 g7.1
 exact⟨by cases a<;>first|rfl|(exact nb g3.2),by cases b<;>first|rfl|(exact nb g2.2),de g8.2⟩
end
section
variable {X:Cx}{tg:Expr}
end
noncomputable def c5m (hi:Int):Nat->List FV
 | 0=>[]
 | n+1=>.int hi :: c5m (hi-1) n
noncomputable def iDown (a b:EW):AW:=λL Q=>a L λx L1=>b L1 λy L2=>wp (a3w x) λi=>wp (a3w y) λj=>(a2b i && a2b j)=true/\Q (c5m i (i-j).toNat) L2
section
variable {X:Cx}{C:CC}{n:Nat}{sp:Γd->Nat->Sp}{a b tg:Expr}{ea eb:EW}{p p3 p4 pos:Pos}{kk:Nat}
variable {K:Γd}{c:Cn}{md:Md}
end
end Kq
end
section
namespace PySem
open PySem.Spec
section
variable {prog:Program}{w:World}{A:Around}{E:Value->Shared->Prop}{s:Shared}
end
end PySem
end
section
namespace Kq
open PySem PySem.Spec PyProof.Rows L2
section
variable {X:Cx}{tg:Expr}
end
noncomputable def iRevr (a:EW):AW:=λL Q=>a L λx L1=>wp (a3w x) λj=>a2b j=true/\Q (c5m ((j.toNat:Int)-1) j.toNat) L1
section
variable {P:Program}{w:World}{A:Around}{R:Result->Shared->Prop}{it S N:Addr}{fp wr:List Addr}{n:Nat}{V:Nat->Value->Prop}{St:Nat->Heap->Prop}{bt:Nat->Nat->Bool}{h0:Heap}{kw:List (Str×Value)}
end
section
variable {P:Program}{w:World}{A:Around}{E:Value->Shared->Prop}{s:Shared}
end
section
variable {P:Program}{w:World}{A:Around}{E:Value->Shared->Prop}{s:Shared}
end
noncomputable def c4j (b:Int):List Int->Int
 | []=>b
 | x :: r=>c4j (if b<x then x else b) r
noncomputable def mostD (d:Int):List Int->Int
 | []=>d
 | n :: r=>c4j n r
section
variable {X:Cx}
variable {x:Str}{p pos kp:Pos}{e v:Expr}{t:TA}{tv:TE}{id:String}{kn:Str}{r:V->V->Hp->VK->Prop}
end
section
variable {X:Cx}{C:CC}{n:Nat}{sp:Γd->Nat->Sp}{a b:Expr}{ea eb:EW}{pos p kp:Pos}
end
section
variable (Q:FV->Prop)
end
section
variable {P:Program}{w:World}{A:Around}{E:Value->Shared->Prop}
end
section
variable {X:Cx}{pos:Pos}
end
noncomputable def sUnp (e:EW)(is:List Nat):SW:=λL Q=>e L λx L1=>wp (a5n x) λxs=>wp (a7z L1 is xs) λL2=>Q .next L2
section
variable {X:Cx}{C:CC}{n:Nat}{sp:Γd->Nat->Sp}{fr:Bool}{a:Expr}{e:EW}{pos p:Pos}{is:List Nat}{k:Nat}
end
section
variable {prog:Program}{w:World}{A:Around}{E:Value->Shared->Prop}{s:Shared}
end
section
variable {X:Cx}{S H:Hp}{Q:VK}
noncomputable def tmulF (v w:FV):Option FV:=(a6q v).bind λxs=>(a3w w).bind λk=>if -(2 ^ 63)<=k/\k<2 ^ 63/\xs.length*k.toNat<=big then some (.tup (Γj k.toNat xs).flatten) else none
end
section
variable {X:Cx}{C:CC}{a b:Expr}{ea eb:EW}{pos:Pos}
end
end Kq
end
section
namespace PySem
section
variable {prog:Program}{w:World}{A:Around}{E:Value->Shared->Prop}{s:Shared}
end
end PySem
end
section
namespace Kq
open PySem PySem.Spec PyProof.Rows L2
section
variable {X:Cx}
variable {a b:Expr}{ta:TA}{p p2 pos pos2:Pos}{T:Str}{Tn:String}{ho:List V->HO}
end
noncomputable def rngF (c:List FV->FV)(v:FV):Option FV:=(a3w v).bind λj=>if a2b j=true/\j.toNat<=big then some (c (upF 0 j.toNat)) else none
noncomputable def rng2F (c:List FV->FV)(v w:FV):Option FV:=(a3w v).bind λi=>(a3w w).bind λj=>if (a2b i && a2b j)=true/\(j-i).toNat<=big then some (c (upF i (j-i).toNat)) else none
section
variable {X:Cx}{C:CC}{n:Nat}{sp:Γd->Nat->Sp}{a b:Expr}{ea eb:EW}{pos p p2 pos2:Pos}
end
end Kq
end
section
namespace PySem
noncomputable def d9d (A:Around)(s:Shared)(x y:Value)(b:Bool):Prop :=
 ∀ (prog:Program)(w:World)(E:Value->Shared->Prop)(Q:Value->Shared->Prop),Q (.bool b) s->wpAny (model prog w) A (richCompare .Lt x y) Q E s
inductive LexAt (A:Around)(s:Shared):List Value->List Value->Bool->Prop
 | nn:LexAt A s [] [] false
 | nc {y ys}:LexAt A s [] (y :: ys) true
 | cn {x xs}:LexAt A s (x :: xs) [] false
 | eq {x y xs ys r}:SeqAt.EqAt A s x y true->LexAt A s xs ys r->LexAt A s (x :: xs) (y :: ys) r
 | ne {x y xs ys r}:SeqAt.EqAt A s x y false->d9d A s x y r->LexAt A s (x :: xs) (y :: ys) r
section
open PySem.SeqAt
open PySem.AutoSeq1 (wpAny_loadPart')
open PySem.MeetsSeq PySem.MeetsSeq2 PySem.MeetsSeq3
theorem a9a (l b:Addr)(items items2:Array Value) (n n2:Nat)(dd dd2:Option Addr)(sl sl2:Array (Option Value)) :
  Meets (Builtin.«tuple.__lt__» ⟨[.ref l,.ref b],[]⟩)
   (λA R s=>s.heap.get? l=some { cls:=.type "tuple",dict:=dd,data:=.seq items n,slots:=sl }/\s.heap.get? b=some { cls:=.type "tuple",dict:=dd2,data:=.seq items2 n2,slots:=sl2 } /\
    ∃ r,LexAt A.in1 s items.toList items2.toList r/\R (.ok (.ret (.bool r))) s) :=
 .of_wp λprog w A R s h=>by
  obtain⟨hp,g,d,tk,os⟩:=s;obtain⟨hl,hb,r,hlex,h⟩:=h
  have f2:=AutoSeq1.sub_tuple_tuple
  wp_walk using wpAny_loadPart' hl,wpAny_loadPart' hb,wpAny_forIn_list _ (λrest b s'=>b.1=none/\s'=⟨hp,g,d,tk,os⟩/\∃ (vs ws:List Value),rest=vs.zip ws /\
   LexAt A.in1 ⟨hp,g,d,tk,os⟩ vs ws r/\vs.length+items2.size=ws.length+items.size) _
  case turn =>
   rintro⟨y,x⟩ rest b s' ⟨hb',rfl,vs,ws,hz,hlx,hlen⟩
   cases hlx with
   | nn=>cases hz
   | nc=>cases hz
   | cn=>rw[List.zip_nil_right] at hz;cases hz
   | eq he hr =>
    rw[List.zip_cons_cons] at hz
    injection hz with hyx hrest
    injection hyx with hy hx
    subst hy hx
    simp only[List.length_cons] at hlen
    refine Γa (he prog w _ _ ?_)
    wp_walk
    exact⟨rfl,rfl,_,_,hrest,hr,by lia⟩
   | ne he hr =>
    rw[List.zip_cons_cons] at hz
    injection hz with hyx hrest
    injection hyx with hy hx
    subst hy hx
    refine Γa (he prog w _ _ ?_)
    have hri:=hr prog w
    wp_walk using hri
    exact⟨_,rfl,by simpa using h⟩
  case fin =>
   rintro⟨b1,b2⟩ s' ⟨hb',rfl,vs,ws,hz,hlx,hlen⟩
   simp only at hb'
   subst hb'
   have hv:r=decide (items.size<items2.size):=by
    cases hlx with
    | nn=>simp only[List.length_nil] at hlen;exact (decide_eq_false (by lia)).symm
    | nc=>simp only[List.length_nil,List.length_cons] at hlen;exact (decide_eq_true (by lia)).symm
    | cn=>simp only[List.length_nil,List.length_cons] at hlen;exact (decide_eq_false (by lia)).symm
    | eq=>rw[List.zip_cons_cons] at hz;cases hz
    | ne=>rw[List.zip_cons_cons] at hz;cases hz
   rw[hv] at h
   wp_walk
   exact⟨_,rfl,by simpa[Builtin.Tuple.tupleCompareSizes] using h⟩
  case h =>
   exact⟨rfl,rfl,items.toList,items2.toList,rfl,hlex,by simp;lia⟩
end
theorem c0e {A:Around}{s:Shared}{l b:Addr}{o o2:Obj}{items items2:Array Value}{n n2:Nat}{r:Bool}(h1:s.heap.get? l=some o)(h2:o.cls=.type "tuple")(h3:o.data=.seq items n)(g1:s.heap.get? b=some o2)(g2:o2.cls=.type "tuple")(g3:o2.data=.seq items2 n2)
  (hlex:LexAt A.in1 s items.toList items2.toList r)(hu:A.units<cLine):d9d A s (.ref l) (.ref b) r:=by
 intro prog w E Q h
 obtain⟨cls,dd,data,sl⟩:=o
 obtain⟨cls2,dd2,data2,sl2⟩:=o2
 simp only at h2 h3 g2 g3
 subst h2 h3 g2 g3
 exact richCompare_meets_room (op:=.Lt) ⟨_,h1,rfl⟩ ⟨_,g1,rfl⟩ PySem.F.slot_tuple_lt PySem.F.entry_tuple_lt (PySem.F.args_tuple_lt_2 _ _) (a9a l b items items2 n n2 dd dd2 sl sl2)
  ⟨h1,g1,r,hlex,show Value.bool r≠Value.notImplemented/\Q (.bool r) s from ⟨(λx=>nomatch x),h⟩⟩ hu
end PySem
namespace Kq
open PySem PySem.Spec PyProof.Rows L2
noncomputable def d3n (a b:String):Bool:=decide ((Γe a).cps.toList<(Γe b).cps.toList)
mutual
noncomputable def ltD:D->D->Option Bool
 | .int a,.int b=>some (decide (a<b))
 | .str a,.str b=>some (d3n a b)
 | .tup a,.tup b=>d1x a b
 | _,_=>none
noncomputable def d1x:List D->List D->Option Bool
 | [],[]=>some false
 | [],_ :: _=>some true
 | _ :: _,[]=>some false
 | a :: r,b :: q=>if D.eqv a b=true then d1x r q else ltD a b
end
mutual
theorem c9p:∀ (x y:D)(A:Around)(s:Shared)(v u:Value)(as bs:List Addr)(r:Bool),Reads s.heap v (dPy x) as->Reads s.heap u (dPy y) bs->ltD x y=some r->A.units+(dPy x).depth<cLine->d9d A s v u r
 | .int a,y,A,s,v,u,as,bs,r,h1,h2,e,hu=>by
  cases y with
  | int b =>
   cases e
   simp only[dPy] at h1 h2
   cases h1;cases h2
   exact λprog w E Q h=>PyProof.Rows.lt_int h
  | _=>cases e
 | .str a,y,A,s,v,u,as,bs,r,h1,h2,e,hu=>by
  cases y with
  | str b =>
   cases e
   simp only[dPy] at h1 h2
   cases h1;cases h2
   exact λprog w E Q h=>PySem.P.lt_str h
  | _=>cases e
 | .tup xs,y,A,s,v,u,as,bs,r,h1,h2,e,hu=>by
  cases y with
  | tup ys =>
   simp only[dPy] at h1 h2
   simp only[dPy,PyData.depth] at hu
   cases h1 with
   | tuple a1 a2 a3 a4 =>
    cases h2 with
    | tuple b1 b2 b3 b4 =>
     exact c0e a1 a2 a3 b1 b2 b3 (b6l xs ys A.in1 s _ _ _ _ r a4 b4 e (by show A.units+1+_<_;lia)) (by lia)
  | _=>cases e
 | .non,y,A,s,v,u,as,bs,r,h1,h2,e,hu=>by cases y<;>cases e
 | .bl _,y,A,s,v,u,as,bs,r,h1,h2,e,hu=>by cases y<;>cases e
 | .lst _,y,A,s,v,u,as,bs,r,h1,h2,e,hu=>by cases y<;>cases e
theorem b6l:∀ (xs ys:List D)(A:Around)(s:Shared)(vs us:List Value)(as bs:List Addr)(r:Bool),ReadsAll s.heap vs (a4a xs) as->ReadsAll s.heap us (a4a ys) bs->d1x xs ys=some r->A.units+PyData.depthAll (a4a xs)<cLine->LexAt A s vs us r
 | [],[],A,s,vs,us,as,bs,r,h1,h2,e,hu=>by cases h1;cases h2;cases e;exact .nn
 | [],y :: ys,A,s,vs,us,as,bs,r,h1,h2,e,hu=>by cases h1;cases h2;cases e;exact .nc
 | x :: xs,[],A,s,vs,us,as,bs,r,h1,h2,e,hu=>by cases h1;cases h2;cases e;exact .cn
 | x :: xs,y :: ys,A,s,vs,us,as,bs,r,h1,h2,e,hu=>by
  simp only[a4a] at h1 h2
  simp only[a4a,PyData.depthAll] at hu
  cases h1 with
  | cons a1 a2 =>
   cases h2 with
   | cons b1 b2 =>
    have he:=PySem.SeqAt.eqAt_reads _ _ A s _ _ _ _ a1 b1 (a5j x) (a5j y) (by lia)
    rw[b8e] at he
    simp only[d1x] at e
    split at e
    ·rename_i hq
     rw[hq] at he
     exact .eq he (b6l xs ys A s _ _ _ _ r a2 b2 e (by lia))
    ·rename_i hq
     have hq:D.eqv x y=false:=by simpa using hq
     rw[hq] at he
     exact .ne he (c9p x y A s _ _ _ _ r a1 b1 e (by lia))
end
end Kq
end
section
namespace Kq
open PySem PySem.Spec PyProof.Rows L2
noncomputable def btD (ds:List D) (i j:Nat):Bool:=(ltD (ds.getD i .non) (ds.getD j .non)).getD false
open Classical in
noncomputable def minDF (v:FV):Option FV:=(a1q v).bind λxs=>(a8v (fD a0y) xs).bind λds =>
 if 0<ds.length/\(∀ x∈ds,∀ y∈ds,(ltD x y).isSome=true)/\∀ ps,xs[argBest (btD ds) (ds.length-1)]?≠some (.lst ps) then xs[argBest (btD ds) (ds.length-1)]? else none
section
variable {X:Cx}
end
section
variable {X:Cx}{C:CC}{n:Nat}{sp:Γd->Nat->Sp}{a:Expr}{ea:EW}{pos p:Pos}
end
noncomputable def a1s {κ α:Type} [DecidableEq κ] (ks:List κ)(vs:List α)(k:κ)(v:α):List κ×List α :=
 if k∈ks then (ks,List.zipWith (λk' v'=>if k'=k then v else v') ks vs) else (ks++[k],vs++[v])
noncomputable def a2r {κ α:Type} [DecidableEq κ]:List κ->List α->κ->Option α
 | k' :: ks,v :: vs,k=>if k'=k then some v else a2r ks vs k
 | _,_,_=>none
theorem b7b {a b:List Int}(h:a.map (Sum.inl:Int->Int ⊕ Option Str)=b.map Sum.inl):a=b:=by
 induction a generalizing b with
 | nil=>cases b with|nil=>rfl|cons=>cases h
 | cons x r ih=>cases b with
  | nil=>cases h
  | cons y q =>
   simp only[List.map_cons,List.cons.injEq,Sum.inl.injEq] at h
   rw[h.1,ih h.2]
theorem a6e:∀ (ks:List (List Int))(us:List V)(k:List Int),a8u ((a2o ks).zip us) (k.map Sum.inl)=a2r ks us k
 | [],us,k=>by cases us<;>rfl
 | k' :: ks,[],k=>rfl
 | k' :: ks,u :: us,k=>by
  show a8u ((k'.map Sum.inl,u) :: (a2o ks).zip us) (k.map Sum.inl)=if k'=k then some u else a2r ks us k
  by_cases e:k'=k
  ·subst e;rw[a3n rfl,if_pos rfl]
  ·rw[a3o λz=>e (b7b z),if_neg e];exact a6e ks us k
theorem a1x {κ α:Type} [DecidableEq κ]:∀ {ks:List κ}{vs:List α}(k:κ),ks.length=vs.length->((a2r ks vs k).isSome=true↔k∈ks)
 | [],vs,k,h=>by simp[a2r]
 | k' :: ks,[],k,h=>by simp at h
 | k' :: ks,v :: vs,k,h=>by
  simp only[a2r]
  by_cases e:k'=k
  ·simp[e]
  ·simp only[e,if_false,List.mem_cons,Ne.symm e,false_or]
   rw[a1x k (by simpa using h)]
theorem b5g (ks:List (List Int))(us:List V)(k:List Int)(u:V)(hl:ks.length=us.length):a3z ((a2o ks).zip us) (k.map Sum.inl) u=(a2o (a1s ks us k u).1).zip (a1s ks us k u).2:=by
 have hany:(((a2o ks).zip us).any λkv=>decide (kv.1=k.map Sum.inl))=true↔k∈ks:=by
  rw[a4h,a6e,a1x k hl]
 unfold a3z a1s
 by_cases e:k∈ks
 ·rw[if_pos (hany.mpr e),if_pos e]
  clear e hany
  induction ks generalizing us with
  | nil=>cases us<;>rfl
  | cons k' ks ih=>cases us with
   | nil=>rfl
   | cons u' us =>
    have:=ih us (by simpa using hl)
    show (if k'.map Sum.inl=k.map Sum.inl then (k'.map Sum.inl,u) else (k'.map Sum.inl,u')) :: ((a2o ks).zip us).map _=(k'.map Sum.inl,if k'=k then u else u') :: (a2o ks).zip _
    rw[this]
    congr 1
    by_cases e:k'=k
    ·subst e;simp
    ·rw[if_neg λz=>e (b7b z),if_neg e]
 ·rw[if_neg λz=>e (hany.mp z),if_neg e]
  show _=(a2o (ks++[k])).zip (us++[u])
  have:a2o (ks++[k])=a2o ks++[k.map Sum.inl]:=by simp[a2o]
  rw[this,List.zip_append (by simpa[a2o] using hl)];rfl
theorem a3q {κ α:Type} [DecidableEq κ] (ks:List κ)(vs:List α)(k:κ)(v:α)(h:ks.length=vs.length):(a1s ks vs k v).1.length=(a1s ks vs k v).2.length/\(a1s ks vs k v).1.length<=ks.length+1:=by
 unfold a1s
 split
 ·simp[h]
 ·simp[h]
section
variable {K:Γd}{S H:Hp}
theorem b5h {κ:Type} [DecidableEq κ] {k:κ}{v:FV}{u:V}(r2:RV K S v u):∀ {ks:List κ}{vs:List FV}{us:List V},RVs K S vs us->RVs K S (List.zipWith (λk' v'=>if k'=k then v else v') ks vs) (List.zipWith (λk' v'=>if k'=k then u else v') ks us)
 | [],vs,us,_=>rfl
 | k' :: ks,[],us,r=>by cases (show us=[] from r);rfl
 | k' :: ks,p :: vs,us,⟨x,q,e,h1,h2⟩=>by
  subst e
  refine⟨_,_,rfl,?_,b5h r2 h2⟩
  by_cases e:k'=k
  ·simp only[e,if_true];exact r2
  ·simp only[e,if_false];exact h1
theorem a4n {κ:Type} [DecidableEq κ] {ks:List κ}{vs:List FV}{us:List V}{k:κ}{v:FV}{u:V}(r:RVs K S vs us)(r2:RV K S v u):(a1s ks vs k v).1=(a1s ks us k u).1/\RVs K S (a1s ks vs k v).2 (a1s ks us k u).2:=by
 unfold a1s
 split
 ·exact⟨rfl,b5h r2 r⟩
 ·exact⟨rfl,r.append (RVs.one r2)⟩
theorem a5p {κ:Type} [DecidableEq κ]:∀ {ks:List κ}{vs:List FV}{us:List V}{k:κ}{v:FV},RVs K S vs us->a2r ks vs k=some v->∃ u,a2r ks us k=some u/\RV K S v u
 | [],vs,us,k,v,r,e=>by simp[a2r] at e
 | k' :: ks,[],us,k,v,r,e=>by simp[a2r] at e
 | k' :: ks,p :: vs,us,k,v,⟨x,q,e',h1,h2⟩,e=>by
  subst e'
  simp only[a2r] at e ⊢
  by_cases e0:k'=k
  ·rw[if_pos e0] at e ⊢;cases e;exact⟨x,rfl,h1⟩
  ·rw[if_neg e0] at e ⊢;exact a5p h2 e
theorem a9s {ps:List FV}{k:List Int}{x:V}(r:RV K S (.tup ps) x)(e:a0u ps=some k):∃ b,x=.ref b/\S b=some (.tup ((k.map (Sum.inl:Int->Int ⊕ Option Str)).map kV)):=by
 obtain⟨b,xs,rfl,h1,h2⟩:=r
 refine⟨b,rfl,?_⟩
 rw[h1,a1y h2 e,List.map_map];rfl
variable {c:Cn}{md:Md}{L:a0c}{σ:L2.St}
end
noncomputable def b8m (n m:Nat)(tg:Tg)(t:BW)(ek ev:EW):List FV->List (List Int)->List FV->a0c->(List (List Int)->List FV->a0c->Prop)->Prop
 | [],ks,vs,L,Q=>Q ks vs L
 | x :: xs,ks,vs,L,Q=>gW tg x (L++Γj m none) λL1=>t L1 λb L2=>if b=true then ek L2 λkx L3=>wp (a6q kx) λps=>wp (a0u ps) λk=>ev L3 λv L4=>b8m n m tg t ek ev xs (a1s ks vs k v).1 (a1s ks vs k v).2 (L4.take n) Q else b8m n m tg t ek ev xs ks vs (L2.take n) Q
noncomputable def eCompD (n m:Nat)(it:AW)(tg:Tg)(t:BW)(ek ev:EW):EW:=λL Q=>it L λxs L1=>L1.length=n/\xs.length<=big/\b8m n m tg t ek ev xs [] [] L1 λks vs L2=>Q (.dct ks vs) L2
section
variable {K:Γd}{c:Cn}{md:Md}{L:a0c}{σ:L2.St}{S H:Hp}
end
section
variable {X:Cx}{C:CC}{n:Nat}{sp:Γd->Nat->Sp}{pos:Pos}{scope:Scope}{own:List Str}{kx vx tgx iter:Expr}{ifs:List Expr}{it:AW}{tg:Tg}{t:BW}{ek ev:EW}{nn m:Nat}{md':Md}
end
noncomputable def b4r (a b:FV):Option FV:=match b with
 | .dct ks _=>(a6q a).bind λps=>(a0u ps).bind λk=>some (.bl (decide (k∈ks)))
 | .dci ks _=>(a3w a).bind λk=>some (.bl (decide (k∈ks)))
 | b=>inB a b
noncomputable def b0u (a b:FV):Option FV:=match b with
 | .dct ks _=>(a6q a).bind λps=>(a0u ps).bind λk=>some (.bl (!decide (k∈ks)))
 | .dci ks _=>(a3w a).bind λk=>some (.bl (!decide (k∈ks)))
 | b=>niB a b
noncomputable def c5q (v w:FV):Option FV:=match v with
 | .dct ks vs=>(a6q w).bind λps=>(a0u ps).bind λk=>a2r ks vs k
 | _=>none
section
variable {X:Cx}
theorem RH.dct {K:Γd}{S H:Hp}{ks:List (List Int)}{vs:List FV}{y:V}(hs:Same S H)(rq:RH K S H (.dct ks vs) y):∃ a us,y=.ref a/\ks.length=vs.length/\H a=some (.dT ((a2o ks).zip us))/\RVs K S vs us:=by
 rcases rq with⟨a,us,e,hl,h1,h2⟩|⟨a,e,_,ps,us,e9,h1,h2⟩
 ·exact⟨a,us,e,hl,hs _ _ h1,h2⟩
 ·obtain⟨hl,rfl⟩:=itd e9
  exact⟨a,us,e,hl,h1,h2⟩
theorem a8q {S H:Hp}{ks:List (List Int)}{vs:List FV}{ps:List FV}{k:List Int}{x y:V}(hs:Same S H)(rp:RH X.K S H (.tup ps) x)(rq:RH X.K S H (.dct ks vs) y)(e:a0u ps=some k):∃ a us,y=.ref a/\ks.length=us.length/\RVs X.K S vs us/\L2.DGet H a x (a2r ks us k):=by
 obtain⟨a,us,rfl,hl,h1,h2⟩:=rq.dct hs
 obtain⟨b,rfl,hb⟩:=a9s (rp.val rfl) e
 refine⟨a,us,rfl,by rw[hl,h2.length],h2,?_⟩
 rw[<- a6e]
 exact .t h1 (hs _ _ hb)
theorem a5o:∀ (ks:List Int)(us:List V) (k:Int),a8u ((a3d ks).zip us) (Sum.inl k)=a2r ks us k
 | [],us,k=>by cases us<;>rfl
 | k' :: ks,[],k=>rfl
 | k' :: ks,u :: us,k=>by
  show a8u ((Sum.inl k',u) :: (a3d ks).zip us) (Sum.inl k)=if k'=k then some u else a2r ks us k
  by_cases e:k'=k
  ·subst e;rw[a3n rfl,if_pos rfl]
  ·rw[a3o λz=>e (Sum.inl.inj z),if_neg e];exact a5o ks us k
theorem RH.dci {K:Γd}{S H:Hp}{ks:List Int}{vs:List FV}{y:V}(hs:Same S H)(rq:RH K S H (.dci ks vs) y):∃ a us,y=.ref a/\ks.length=vs.length/\H a=some (.dK ((a3d ks).zip us))/\RVs K S vs us:=by
 rcases rq with⟨a,us,e,hl,h1,h2⟩|⟨a,e,_,ps,us,e9,h1,h2⟩
 ·exact⟨a,us,e,hl,hs _ _ h1,h2⟩
 ·obtain⟨hl,rfl⟩:=itd e9
  exact⟨a,us,e,hl,h1,h2⟩
theorem b0c {S H:Hp}{ks:List Int}{vs:List FV}{k:Int}{y:V}(hs:Same S H)(rq:RH X.K S H (.dci ks vs) y):∃ a us,y=.ref a/\ks.length=us.length/\RVs X.K S vs us/\L2.DGet H a (.int k) (a2r ks us k):=by
 obtain⟨a,us,rfl,hl,h1,h2⟩:=rq.dci hs
 refine⟨a,us,rfl,by rw[hl,h2.length],h2,?_⟩
 rw[<- a5o]
 exact .k (k:=Sum.inl k) h1
theorem d4o (hu:X.A.units+64<cLine):OpR X (compareOp .In) (Rq X.K b4r):=by
 intro pins s σ H x y v u Q I rx ry ⟨S,p,q,z,hs,rp,rq,e,k⟩
 cases q with
 | dct ks vs =>
  obtain⟨ps,e1,e2⟩:=bnd e
  obtain⟨kk,e3,e4⟩:=bnd e2
  cases a1o e1
  cases e4
  obtain⟨a,us,rfl,hl,h2,g⟩:=a8q hs rp rq e3
  cases (show u=Value.ref a from ry)
  refine d_in (by lia) I g rx λs' I'=>⟨.bl _,H,I',rfl,?_⟩
  have:(a2r ks us kk).isSome=decide (kk∈ks):=by rw[Bool.eq_iff_iff,a1x kk hl];simp
  rw[this]
  exact k.bl
 | dci ks vs =>
  obtain⟨kk,e1,e4⟩:=bnd e
  cases a1c e1
  cases e4
  cases rp.int
  obtain⟨a,us,rfl,hl,h2,g⟩:=b0c (k:=kk) hs rq
  cases (show u=Value.ref a from ry)
  refine d_in (by lia) I g rx λs' I'=>⟨.bl _,H,I',rfl,?_⟩
  have:(a2r ks us kk).isSome=decide (kk∈ks):=by rw[Bool.eq_iff_iff,a1x kk hl];simp
  rw[this]
  exact k.bl
 | _=>exact q_in hu pins s σ H x y v u Q I rx ry ⟨S,p,_,z,hs,rp,rq,e,k⟩
theorem c7n (hu:X.A.units+64<cLine):OpR X (compareOp .NotIn) (Rq X.K b0u):=by
 intro pins s σ H x y v u Q I rx ry ⟨S,p,q,z,hs,rp,rq,e,k⟩
 cases q with
 | dct ks vs =>
  obtain⟨ps,e1,e2⟩:=bnd e
  obtain⟨kk,e3,e4⟩:=bnd e2
  cases a1o e1
  cases e4
  obtain⟨a,us,rfl,hl,h2,g⟩:=a8q hs rp rq e3
  cases (show u=Value.ref a from ry)
  refine b8b (by lia) I g rx λs' I'=>⟨.bl _,H,I',rfl,?_⟩
  have:(a2r ks us kk).isSome=decide (kk∈ks):=by rw[Bool.eq_iff_iff,a1x kk hl];simp
  rw[this]
  exact k.bl
 | dci ks vs =>
  obtain⟨kk,e1,e4⟩:=bnd e
  cases a1c e1
  cases e4
  cases rp.int
  obtain⟨a,us,rfl,hl,h2,g⟩:=b0c (k:=kk) hs rq
  cases (show u=Value.ref a from ry)
  refine b8b (by lia) I g rx λs' I'=>⟨.bl _,H,I',rfl,?_⟩
  have:(a2r ks us kk).isSome=decide (kk∈ks):=by rw[Bool.eq_iff_iff,a1x kk hl];simp
  rw[this]
  exact k.bl
 | _=>exact q_ni hu pins s σ H x y v u Q I rx ry ⟨S,p,_,z,hs,rp,rq,e,k⟩
end
theorem c6v:a6p b4r:=by
 intro v w z e
 cases w with
 | dct ks vs =>
  obtain⟨ps,_,e⟩:=bnd e
  obtain⟨k,_,e⟩:=bnd e
  cases e;exact⟨_,rfl⟩
 | dci ks vs =>
  obtain⟨k,_,e⟩:=bnd e
  cases e;exact⟨_,rfl⟩
 | _ =>
  obtain⟨b,_,rfl⟩:=mpd (show (inF v _).map FV.bl=some z from e)
  exact⟨_,rfl⟩
theorem c6u:a6p b0u:=by
 intro v w z e
 cases w with
 | dct ks vs =>
  obtain⟨ps,_,e⟩:=bnd e
  obtain⟨k,_,e⟩:=bnd e
  cases e;exact⟨_,rfl⟩
 | dci ks vs =>
  obtain⟨k,_,e⟩:=bnd e
  cases e;exact⟨_,rfl⟩
 | _ =>
  obtain⟨b,_,rfl⟩:=mpd (show (inF v _).map (λr=>FV.bl (!r))=some z from e)
  exact⟨_,rfl⟩
section
variable {X:Cx}{C:CC}{n:Nat}{sp:Γd->Nat->Sp}{a b:Expr}{ea eb:EW}{pos p:Pos}
theorem fe_ni2 (G:Good X C n sp)(ha:FE X C a ea)(hb:FR X C b eb)(hm:behindInMarks .NotIn b=false):FE X C (.Compare a [.NotIn] [b] pos) (eOp b0u ea eb):=a9x (c7n G.room.units) ha hb hm
theorem fb_in2 (G:Good X C n sp)(ha:FE X C a ea)(hb:FR X C b eb)(hm:behindInMarks .In b=false):FB X C (.Compare a [.In] [b] pos) (a1i (eOp b4r ea eb)):=a7m c6v (d4o G.room.units) ha hb hm
theorem fb_ni2 (G:Good X C n sp)(ha:FE X C a ea)(hb:FR X C b eb)(hm:behindInMarks .NotIn b=false):FB X C (.Compare a [.NotIn] [b] pos) (a1i (eOp b0u ea eb)):=a7m c6u (c7n G.room.units) ha hb hm
variable {es:List Expr}{k:Nat}{p2:Pos}
theorem d6z (G:Good X C n sp)(ha:FE X C a ea)(hb:FE X C (.Tuple es k p2) eb):FE X C (.Subscript a (.Tuple es k p2) pos) (eOp c5q ea eb) :=
 PE.imp (b1e (X:=X.nox) (by have:=G.room.units;show X.A.units+1<cLine;lia) ha hb λ_ _=>rfl) λσ H Q ⟨c,L,S,Q0,I,h,k⟩ =>
 ⟨c,L,S,_,I,h,λv L1 hv x S1 H1 r1 I1 s1=>⟨c,L1,S1,_,I1,hv,λw L2 hw y S2 H2 r2 I2 s2=>by
  obtain⟨z,e,q⟩:=wpx hw
  cases v with
  | dct ks vs =>
   obtain⟨ps,e1,e2⟩:=bnd e
   obtain⟨kk,e3,e4⟩:=bnd e2
   cases a1o e1
   obtain⟨a,us,rfl,hl,h2,g⟩:=a8q (X:=X) I2.sub (.inl r2) (.inl (r1.mono s2)) e3
   obtain⟨u,e5,r5⟩:=a5p h2 e4
   rw[e5] at g
   exact⟨a,u,rfl,g,k z L2 q u S2 H2 r5 I2 (s1.trans s2)⟩
  | _=>cases e⟩⟩
end
section
variable (Q:FV->Prop)
@[scoped simp ↓] theorem k_in2i (k:Int)(ks:List Int)(vs:List FV):wp (b4r (.int k) (.dci ks vs)) Q=Q (.bl (decide (k∈ks))):=propext Iff.rfl
@[scoped simp ↓] theorem k_ni2i (k:Int)(ks:List Int)(vs:List FV):wp (b0u (.int k) (.dci ks vs)) Q=Q (.bl (!decide (k∈ks))):=propext Iff.rfl
@[scoped simp ↓] theorem k_in2t (a:FV)(xs:List FV):wp (b4r a (.tup xs)) Q↔wp (inF a (.tup xs)) λr=>Q (.bl r):=a1n _ _ _
@[scoped simp ↓] theorem k_in2l (a:FV)(xs:List FV):wp (b4r a (.lst xs)) Q↔wp (inF a (.lst xs)) λr=>Q (.bl r):=a1n _ _ _
@[scoped simp ↓] theorem k_ni2d (ps:List FV)(ks:List (List Int))(vs:List FV):wp (b0u (.tup ps) (.dct ks vs)) Q↔wp (a0u ps) λk=>Q (.bl (!decide (k∈ks))):=by
 show wp ((a0u ps).bind _) Q↔_;rw[a2a];rfl
@[scoped simp ↓] theorem k_ni2t (a:FV)(xs:List FV):wp (b0u a (.tup xs)) Q↔wp (inF a (.tup xs)) λr=>Q (.bl (!r)):=a1n _ _ _
@[scoped simp ↓] theorem k_ni2l (a:FV)(xs:List FV):wp (b0u a (.lst xs)) Q↔wp (inF a (.lst xs)) λr=>Q (.bl (!r)):=a1n _ _ _
@[scoped simp ↓] theorem k_dget (ps:List FV)(ks:List (List Int))(vs:List FV):wp (c5q (.dct ks vs) (.tup ps)) Q↔wp (a0u ps) λk=>wp (a2r ks vs k) Q:=by
 show wp ((a0u ps).bind _) Q↔_;rw[a2a]
@[scoped simp ↓] theorem ints_n (Q:List Int->Prop):wp (a0u []) Q=Q []:=propext Iff.rfl
@[scoped simp ↓] theorem ints_c (i:Int)(r:List FV)(Q:List Int->Prop):wp (a0u (.int i :: r)) Q↔wp (a0u r) λns=>Q (i :: ns):=by
 show wp ((a0u r).map (i :: ·)) Q↔_;rw[a1n]
end
end Kq
end
section
namespace PySem
section
variable {prog:Program}{w:World}{A:Around}{E:Value->Shared->Prop}{s:Shared}
end
end PySem
namespace Kq
open PySem PySem.Spec PyProof.Rows L2
section
variable {P:Program}{w:World}{A:Around}{E:Value->Shared->Prop}{s:Shared}
end
noncomputable def maxIF (v:FV):Option FV:=(a1q v).bind λxs=>(a0u xs).bind λns=>match ns with
 | n :: r=>some (.int (c4j n r))
 | []=>none
section
variable {X:Cx}
end
section
variable {X:Cx}{C:CC}{n:Nat}{sp:Γd->Nat->Sp}{a:Expr}{ea:EW}{pos p:Pos}
end
end Kq
end
section
namespace PySem
section
variable {prog:Program}{w:World}{A:Around}{E:Value->Shared->Prop}{s:Shared}
end
end PySem
namespace Kq
open PySem PySem.Spec PyProof.Rows L2
section
variable {X:Cx}{a:Expr}{ta:TA}{p p2 pos pos2:Pos}
end
noncomputable def revTF (v:FV):Option FV:=(a1q v).map λxs=>.tup xs.reverse
end Kq
end
section
namespace Kq
open PySem PySem.Spec PyProof.Rows L2
section
variable {P:Program}{w:World}{A:Around}{E:Value->Shared->Prop}{s:Shared}
end
section
variable {X:Cx}
end
section
variable {X:Cx}{C:CC}{n:Nat}{sp:Γd->Nat->Sp}{a:Expr}{ea:EW}{pos p:Pos}
end
noncomputable def b4c {α:Type}(xs:List α) (k:Nat)(y:α):List α:=xs.take k++y :: xs.drop k
noncomputable def d1y (v:FV)(ys:List FV):Option FV:=match ys with
 | [i,y]=>(a5n v).bind λxs=>(a3w i).bind λk=>if 0<=k/\k<4611686018427387904/\xs.length<big then some (.lst (b4c xs k.toNat y)) else none
 | _=>none
noncomputable def b3d (f:FV->List FV->Option FV) (i:Nat)(as:AW):EW:=λL Q=>wp (lk L i) λv=>wp (a5n v) λ_=>as L λys L1=>wp (lk L1 i) λx=>wp (f x ys) λz=>Q .non (L1.set i (some z))
section
variable {X:Cx}
noncomputable def c3i:V->List V->Hp->VK->Prop:=λx vs H Q=>∃ (l:Addr)(xs:List V) (k:Int)(y:V),x=.ref l/\vs=[.int k,y]/\H l=some (.lst xs)/\(0<=k/\k<4611686018427387904)/\xs.length<sizeLine/\Q .non (upd H l (.lst (b4c xs k.toNat y)))
theorem Vals.take:∀ {xs:List V}{us:List Value} (k:Nat),Vals xs us->Vals (xs.take k) (us.take k)
 | _,_,0,_=>.nil
 | _,_,k+1,.nil=>.nil
 | _,_,k+1,.cons r t=>.cons r (Vals.take k t)
theorem Vals.drop:∀ {xs:List V}{us:List Value} (k:Nat),Vals xs us->Vals (xs.drop k) (us.drop k)
 | _,_,0,h=>h
 | _,_,k+1,.nil=>.nil
 | _,_,k+1,.cons r t=>Vals.drop k t
theorem b6e:MtM X "list.insert" c3i:=by
 intro pins s σ H x vs v us Q I rx rv h
 obtain⟨l,xs,k,y,rfl,rfl,hH,hk,hz,q⟩:=h
 cases rx
 obtain⟨u1,u2,rfl,ru1,ru2⟩:=rv.two
 obtain⟨t,rfl⟩:=ru1
 obtain⟨z,its,n,r,hl,e⟩:=I.lstM hH
 have hf:Builtin.List.listFitsIndex k=true:=by
  unfold Builtin.List.listFitsIndex
  rw[Bool.and_eq_true]
  exact⟨decide_eq_true (by lia),decide_eq_true (by lia)⟩
 refine call_meets F.slot_list_insert ⟨_,e,rfl⟩ F.entry_list_insert (F.args_list_insert_3 _ _ _) (AutoSeq1.list_insert_list_int_val_1 l its.toArray n k t u2 (by simp[hf]) (by rw[List.size_toArray];lia)) ⟨e,?_⟩
 have e1:its.take (min k.toNat its.length)=its.take k.toNat:=by rw[List.take_eq_take_iff];lia
 have e2:its.drop (min k.toNat its.length)=its.drop k.toNat:=by
  by_cases c:k.toNat<=its.length
  ·rw[Nat.min_eq_left c]
  ·rw[Nat.min_eq_right (by lia),List.drop_of_length_le (Γi _),List.drop_of_length_le (by lia)]
 refine⟨.non,_,I.lset (its':=b4c its k.toNat u2) hH e ?_ ((Vals.take k.toNat r).append (.cons ru2 (Vals.drop k.toNat r))) ?_,rfl,q⟩
 ·show (its.toArray.extract 0 (if k<0 then (k+(its.toArray.size:Int)).toNat else min k.toNat its.toArray.size)).push u2++its.toArray.extract (if k<0 then (k+(its.toArray.size:Int)).toNat else min k.toNat its.toArray.size)=(b4c its k.toNat u2).toArray
  rw[if_neg (by lia),PySem.W.kl_ins_eq,List.size_toArray,e1,e2];rfl
 ·simp only[List.length_append,List.length_cons,List.length_take,List.length_drop];lia
end
section
variable {K:Γd}{S:Hp}
theorem RVs.ins {ps:List FV}{vs:List V}{p:FV}{v:V} (k:Nat)(h:RVs K S ps vs)(hp:RV K S p v):RVs K S (b4c ps k p) (b4c vs k v) :=
 (h.take k).append (show RVs K S (p :: ps.drop k) (v :: vs.drop k) from ⟨v,_,rfl,hp,h.drop k⟩)
end
section
variable {X:Cx}{C:CC}{n:Nat}{sp:Γd->Nat->Sp}{a b:Expr}{as:AW}{nx:Str}{p:Pos}{i:Nat}
theorem fe_ins (G:Good X C n sp){apos cpos:Pos}(h:C.nm i nx=true)(m:a0g C.md i=.own)(hl:bmOk apos cpos=true)(hs:a1u [a,b]=true)(ha:FA X C [a,b] as):FE X C (.Call (.Attribute (.Name nx p) (Γe "insert") apos) [a,b] [] cpos) (b3d d1y i as):=by
 have hs1:a0h a=false:=by simp[a1u] at hs;exact hs.1
 have hs2:a0h b=false:=by simp[a1u] at hs;exact hs.2
 refine PE.imp (c8n PySem.F.plainAttrs_list PySem.F.slot_list_insert PySem.F.type_list_insert b6e (a1f G h) ha rfl (by rw[a0f hs1,a0f hs2];rfl) hl (a0f hs1) (by rw[a0f hs2];rfl)) λσ H Q ⟨c,L,S,Q0,I,h,k⟩=>?_
 obtain⟨v,e,h⟩:=wpx h
 obtain⟨v9,e9,h⟩:=wpx h
 cases a2t e9
 have e':=(a1m _ _ _).mp e
 have mi:a0g C.md i≠.imm:=λz=>by rw[m] at z;cases z
 obtain⟨l,e1,⟨_,ps,xs,e8,h1,_⟩,_⟩:=I.own i _ mi e'
 refine⟨_,e1,.inl ⟨rfl,xs,SqL.of h1⟩,c,L,S,_,I,h,λw L1 hw y S1 H1 r1 I1 s1=>?_⟩
 obtain⟨v1,e2,hw⟩:=wpx hw
 obtain⟨z,e3,q⟩:=wpx hw
 have e2':=(a1m _ _ _).mp e2
 rcases w with _|⟨w1,_|⟨w2,_|⟨w3,w⟩⟩⟩
 ·cases e3
 ·cases e3
 ·obtain⟨qs,e4,e5⟩:=bnd e3
  obtain⟨j,e6,e7⟩:=bnd e5
  cases a2t e4
  cases a1c e6
  obtain⟨hb,rfl⟩:=itd e7
  obtain⟨u1,u2,rfl,g1,g2⟩:=r1.two_of
  cases (show u1=V.int j from g1)
  obtain⟨l',f1,⟨f2,rs,zs,f3,f4,f5⟩,_⟩:=I1.own i _ mi e2'
  rw[e1] at f1;cases f1
  cases f3
  have:=a1b
  exact⟨l,zs,j,u2,rfl,rfl,f4,⟨hb.1,hb.2.1⟩,by rw[<- f5.length];lia,k _ _ q .non S1 _ rfl (I1.write m e2' e1 (f5.ins j.toNat g2)) s1⟩
 ·cases e3
end
@[scoped simp ↓] theorem d0j (f:FV->List FV->Option FV) (i:Nat)(as:AW)(L:a0c)(Q:FV->a0c->Prop):b3d f i as L Q=(wp (lk L i) λv=>wp (a5n v) λ_=>as L λys L1=>wp (lk L1 i) λx=>wp (f x ys) λz=>Q .non (L1.set i (some z))):=propext Iff.rfl
@[scoped simp ↓] theorem k_ins (xs:List FV) (k:Int)(y:FV)(Q:FV->Prop):wp (d1y (.lst xs) [.int k,y]) Q↔(0<=k/\k<4611686018427387904/\xs.length<big)/\Q (.lst (b4c xs k.toNat y)):=by
 show wp (if _ then some _ else none) Q↔_
 exact a3x _ _ _
end Kq
end
section
namespace PySem
open Sem (wp)
theorem a6t:typeLookup (.type "list") (Γe "keys")=pure none:=by rw[typeLookup_type,builtinLookup_eq_fast];kernel_rfl
theorem a4r {prog:Program}{w:World}{A:Around}{E:Value->Shared->Prop}{s:Shared}{a:Addr}{o:Obj}{xs:Array Value}{k:Nat}{name:Str}{Q:Option Value->Shared->Prop}
  (hx:s.heap.get? a=some o)(hc:o.cls=.type "list")(hdat:o.data=.seq xs k)(hd:o.dict=none)(hmiss:typeLookup (.type "list") name=pure none)(hname:(["__module__","__name__","__qualname__","__doc__","__annotations__"]:List Str).contains name=false)(hA:A.handled=none)
  (h:∀ h' tk e,Heap.NewExcOf s.heap h' e "AttributeError"->Q none { s with heap:=h',toks:=tk })(hsz:name.length+100<=sizeLine:=by size_fits) :
  wpAny (model prog w) A (getAttr? (.ref a) name) Q E s:=by
 obtain⟨c,dct,dat,sl⟩:=o
 simp only at hc hdat hd
 subst hc hdat hd
 obtain⟨hp,g,d,tk,os⟩:=s
 have hT:∀ tk',(⟨hp,g,d,tk',os⟩:Shared).TypeIs (.ref a) "list":=λ_=>⟨_,hx,rfl⟩
 have f1:=sub_AttributeError
 have f3:=F.slot_list_getattribute.lookup
 have f4:=F.slot_list_getattribute.bind (.ref a)
 have f5:=am_list_getattr_none
 unfold getAttr? getAttrBy? getAttrBy
 repeat (any_goals (first|assumption|exact hT _|((with_reducible show wpAny _ _ (call (Value.builtin "list.__getattribute__") _ _) _ _ _);refine call_meets F.slot_list_getattribute (hT _) am_entry_list_getattribute (F.args_list_getattribute_2 _ _) (meets_getattribute_miss_list a xs k sl name _ hmiss hname hsz) ⟨hx,hA,λh' tk' e hx'=>?_⟩)|wp_step))
 obtain⟨t',u',he⟩:=hx'.there
 show wpAny _ _ (getattributeRaised _ _ _ _ _ _ _) _ _ _
 unfold getattributeRaised
 repeat (any_goals (first|assumption|wp_step))
 exact h _ _ _ hx'.of
end PySem
namespace Kq
open PySem PySem.Spec PyProof.Rows L2
theorem F.entry_dict_update_loop:entryFor table "dict.update.loop" = some Builtin.«dict.update.loop»:=entryFor_of_tree (by kernel_rfl)
theorem F.plain_dict_update_loop:plainId "dict.update.loop" = true:=by nofun
abbrev b0s (H:Hp):List V->List (List Key×V)->Prop:=Paired λy p=>∃ b kb:Addr,y=.ref b/\H b=some (.tup [.ref kb,p.2])/\H kb=some (.tup (p.1.map kV))
noncomputable def a8t (P:Program)(w:World)(h:Heap)(D:Addr)(xs:List (List Key×Addr×Value)):Prop :=
 ∃ o es ep,h.get? D=some o/\o.ExactDict/\o.data=.dict es ep/\es.toList=xs.map (entryOfKey (tupleKind (a0k P w)))/\(xs.map (·.1)).Nodup
section
variable {P:Program}{w:World}{A:Around}{R:Result->Shared->Prop}{H:Hp}{h0:Heap}{it l D:Addr}{items:Array Value}
theorem b6p (ok:HOk P w H h0){h:Heap}(kp:L2.Kept h0 h h0.objs.size){a:Addr}{ks:List Key}(e:H a=some (.tup (ks.map kV))):(tupleKind (a0k P w)).is h ks a:=by
 obtain⟨o,its,n,h1,h2⟩:=a6b ok e
 exact⟨o,its,n,kp a o (Γl h1) h1,h2⟩
theorem b9l (ok:HOk P w H h0){h:Heap}(kp:L2.Kept h0 h h0.objs.size){kvs:List (List Key×V)}{xs:List (List Key×Addr×Value)}(r:KT H kvs xs)(d:a8t P w h D xs):h.DictOfH (tupleKind (a0k P w)) D xs:=by
 obtain⟨o,es,ep,h1,h2,h3,h4,h5⟩:=d
 refine⟨o,es,ep,h1,h2,h3,h4,λx hx=>?_,h5⟩
 have all:∀ {l:List (List Key×V)}{m:List (List Key×Addr×Value)},KT H l m->∀ x∈m,(tupleKind (a0k P w)).is h x.1 x.2.1:=by
  intro l m q
  induction q with
  | nil=>intro x hx;exact nomatch hx
  | @cons p q ps qs hq t ih =>
   intro x hx
   rcases List.mem_cons.mp hx with e|hx
   ·subst e
    exact b6p ok kp (by rw[<- hq.1];exact hq.2.1)
   ·exact ih x hx
 exact all r x hx
theorem c5l (ok:HOk P w H h0)(hu:A.in1.units<cLine)(hh:A.in1.handled=none)(hl:h0.IsList l items)(hit:h0.objs.size<=it)(hD:h0.objs.size<=D)(hne:D≠it) :
  ∀ (rest:List (List Key×V))(ys:List V)(us:List Value) (i:Nat)(s:Shared)(kvs:List (List Key×V))(xs:List (List Key×Addr×Value)),items.toList.drop i=us->i<=items.size->Vals ys us->b0s H ys rest->s.heap.IsListIter it l i->L2.Kept h0 s.heap h0.objs.size->KT H kvs xs->a8t P w s.heap D xs->kvs.length+rest.length<=sizeLine ->
  (∀ h' tk xs',KT H (rest.foldl (λk p=>a3z k p.1 p.2) kvs) xs'->a8t P w h' D xs'->L2.Kept h0 h' h0.objs.size->R (.ok (.ret .none)) { s with heap:=h',toks:=tk }) ->
  codeAny (model P w) A (.builtin "dict.update.loop" ⟨[.ref D,.ref it,.int (i:Int) 0,.none],[]⟩) R s:=by
 have ll:l<h0.objs.size:=by obtain⟨_,e,_⟩:=hl;exact Γl e
 have W:=Walks.list (prog:=P) (w:=w) (A:=A.in1) hh it l (Γo (Nat.lt_of_lt_of_le ll hit)) items
 have lst:∀ {h:Heap},L2.Kept h0 h h0.objs.size->h.IsList l items:=λ{h} kp=>hl.at λo e=>kp l o ll e
 intro rest
 induction rest with
 | nil =>
  intro ys us i s kvs xs hd hi hv hp hst kp hk hr hz hR
  cases hp
  cases hv
  have en:i=items.size:=by
   have:=congrArg List.length hd
   simp at this
   lia
  refine codeAny_builtin F.entry_dict_update_loop ?_;rw[PySem.Around.under_plainId F.plain_dict_update_loop _]
  show wpAny _ A.in1 (pyNext (.ref it) >>= _) _ _ s
  refine Γa (W.done s _ _ (by rw[<- en];exact⟨hst,lst kp⟩) λg tk kk=>?_)
  show wpAny _ A.in1 (Builtin.Dict.addKeywords D [] >>= _) _ _ _
  refine Γa (Γb (Γb ?_))
  have low:∀ {b:Addr},b<h0.objs.size->b ∉ [it]:=λ{b} hb=>by simp;exact Γo (Nat.lt_of_lt_of_le hb hit)
  obtain⟨o,es,ep,h1,h2⟩:=hr
  exact hR g tk xs hk ⟨o,es,ep,kk D o (by simp;exact hne) h1,h2⟩ λb o hb e=>kk b o (low hb) (kp b o hb e)
 | cons p rest ih =>
  intro ys us i s kvs xs hd hi hv hp hst kp hk hr hz hR
  cases hp with
  | @cons y _ ys' _ hpq hp' =>
  obtain⟨b,kb,rfl,hb,hkb⟩:=hpq
  cases hv with
  | @cons _ u _ us' ru hv' =>
  cases (show u=Value.ref b from ru)
  have hi':items[i]?=some (.ref b):=by
   have:=congrArg (λl:List Value=>l[0]?) hd
   simpa using this
  have lt:i<items.size:=(Array.getElem?_eq_some_iff.mp hi').1
  have hd':items.toList.drop (i+1)=us':=by
   have:=congrArg List.tail hd
   simpa using this
  obtain⟨_,its,rt,o,e1,e2,n,e3⟩:=(show ObjOk P w H h0 b (.tup [.ref kb,p.2]) from ok b _ hb)
  cases rt with
  | @cons _ u1 _ t1 r1 rt =>
  cases (show u1=Value.ref kb from r1)
  cases rt with
  | @cons _ u2 _ t2 r2 rt =>
  cases rt
  have low:∀ {b:Addr},b<h0.objs.size->b ∉ [it]:=λ{b} hb=>by simp;exact Γo (Nat.lt_of_lt_of_le hb hit)
  refine codeAny_builtin F.entry_dict_update_loop ?_;rw[PySem.Around.under_plainId F.plain_dict_update_loop _]
  show wpAny _ A.in1 (pyNext (.ref it) >>= _) _ _ s
  refine Γa (W.item i s _ _ lt ⟨hst,lst kp⟩ λv g tk vP st1 kk=>?_)
  have vP:items[i]?=some v:=vP
  rw[hi'] at vP
  cases vP
  have kp1:L2.Kept h0 g h0.objs.size:=λb o hb e=>kk b o (low hb) (kp b o hb e)
  have hr1:a8t P w g D xs:=by
   obtain⟨o,es,ep,h1,h2⟩:=hr
   exact⟨o,es,ep,kk D o (by simp;exact hne) h1,h2⟩
  have eb:g.get? b=some o:=kp1 b o (Γl e1) e1
  show wpAny _ A.in1 (holding [Value.ref b] _ >>= _) _ _ _
  refine Γa (Γg (Γa (wpAny_tryCatch ?_)))
  unfold Builtin.Dict.pairItems
  refine Γa (wpAny_typeOf (show Shared.TypeIs _ (.ref b) "tuple" from ⟨o,eb,e2⟩) ?_)
  rw[if_pos (by decide)]
  refine Γa (wpAny_seqItems eb e3 (Γb ?_))
  show wpAny _ A.in1 (holding [Value.ref kb,u2] (dictSet D (.ref kb) u2)) _ _ _
  have hz1:xs.length<=sizeLine:=by
   have:=Paired.length hk
   simp only[List.length_cons] at hz
   lia
  refine Γg (wpAny_dictSet_heap (knd:=tupleKind (a0k P w)) (hsz:=hz1) hu (b6p ok kp1 hkb) (b9l ok kp1 hk hr1) λh' dd' hs=>?_)
  obtain⟨q,es,ep,hq,h2',h3',h4',h5',h6'⟩:=dd'
  have kp2:L2.Kept h0 h' h0.objs.size:=λb o hb e=>(hs.2 b (λz=>absurd hb (by rw[z];exact Nat.not_lt.mpr hD))).trans (kp1 b o hb e)
  have hit':h'.IsListIter it l (i+1):=by
   obtain⟨o,x1,x2⟩:=st1.1
   exact⟨o,(hs.2 it (Ne.symm hne)).trans x1,x2⟩
  have en:(i:Int)+1=((i+1:Nat):Int):=by lia
  show wpAny _ A.in1 (again (.builtin "dict.update.loop" ⟨[.ref D,.ref it,rawInt ((i:Int)+1),.none],[]⟩)) _ _ _
  rw[en]
  refine Γb ⟨plainId_quiet F.plain_dict_update_loop _,ih ys' us' (i+1) _ (a3z kvs p.1 p.2) _ hd' lt hv' hp' hit' kp2 (hk.put p.1 hkb r2) ⟨q,es,ep,hq,h2',h3',h4',h6'⟩ ?_ λh'' tk' xs' x1 x2 x3=>hR h'' tk' xs' x1 x2 x3⟩
  have:=a2k kvs p.1 p.2
  simp only[List.length_cons] at hz
  lia
end
section
variable {X:Cx}{pins:List (Addr×Obj)}{σ:L2.St}{H:Hp}{s:Shared}{A:Around}{E:Value->Shared->Prop}
theorem a6o {l:Addr}{ys:List V}{ps:List (List Key×V)}{Q:Value->Shared->Prop}(hu:A.in1.in1.units<cLine)(hh:A.in1.in1.handled=none)(I:Inv X pins σ H s)(hl:SqL X.K H l ys)(hp:b0s H ys ps)
  (h:∀ p s',H p=none->Inv X pins σ (upd H p (.dT (ps.foldl (λk q=>a3z k q.1 q.2) []))) s'->Q (.ref p) s'):wpAny (model X.prog X.w) A (call (.type "dict") [.ref l]) Q E s:=by
 obtain⟨its,rv,pl,hz⟩:=I.list hl
 have hll:=pl.isList
 have lp:ys.length=ps.length:=Paired.length hp
 have ll:l<s.heap.objs.size:=by obtain⟨_,e,_⟩:=hll;exact Γl e
 refine callType_codes (Q₁:=λobj s₁=>obj=.ref s.heap.objs.size/\s₁ = { s with heap:=s.heap.push { cls:=.type "dict",data:=.dict #[] } }) PySem.F.kt_called_dict (PySem.F.kt_typeCall_dict_1 _) PySem.F.entry_dict_init (kt_code_dict_new _ ⟨rfl,rfl⟩) ?_
 rintro obj s₁ ⟨rfl,rfl⟩
 have nD:(s.heap.push { cls:=.type "dict",data:=.dict #[] }).get? s.heap.objs.size=some { cls:=.type "dict",data:=.dict #[] }:=Γm _ rfl
 have hT:Shared.TypeIs { s with heap:=s.heap.push { cls:=.type "dict",data:=.dict #[] } } (.ref s.heap.objs.size) "dict":=⟨_,nD,rfl⟩
 refine⟨hT,PySem.F.args_dict_init_2 _ _,?_⟩
 unfold Builtin.«dict.__init__»
 refine Γa ?_
 unfold Builtin.Dict.selfAndRest
 refine Γa (wpAny_notOrdered_dict hT ?_)
 show wpAny _ _ (pure (s.heap.objs.size,[Value.ref l])) _ _ _
 refine Γb ?_
 show wpAny _ _ (Builtin.Dict.updateFrom "dict.__init__" s.heap.objs.size (.ref l) [] .none) _ _ _
 unfold Builtin.Dict.updateFrom
 have hl1:(s.heap.push { cls:=.type "dict",data:=.dict #[] }).IsList l its.toArray:=hll.push _
 refine Γa (wpAny_typeOf hl1.typeIs ?_)
 rw[if_pos (by decide)]
 obtain⟨o,n,f1,f2,f3,f4⟩:=pl
 refine Γa (a4r (Γc _ f1) f2 f4 f3 a6t (by nofun) hh (λh' tk e hx=>?_) (by nofun))
 rw[if_pos (show (none:Option Value).isNone=true from rfl)]
 refine Γa (wpAny_rule (Γa (wpAny_pyIter_list (hl1.at λo e=>hx.keeps _ _ e) (Γb ⟨plainId_quiet F.plain_dict_update_loop _,?_⟩))))
 have kp:∀ b o,s.heap.get? b=some o->(h'.push { cls:=.type "list_iterator",data:=.fields #[.ref l,.int 0 0] }).get? b=some o:=λb o e=>Γc _ (hx.keeps _ _ (Γc _ e))
 have d1:=hx.keeps _ _ nD
 have lD:s.heap.objs.size<h'.objs.size:=Γl d1
 refine c5l (P:=X.prog) (w:=X.w) (A:=A.in1) (h0:=s.heap) (H:=H) I.hok hu hh hll (Nat.le_of_lt lD) (Γi _) (Γo lD) ps ys its 0 _ [] [] (by simp) (Nat.zero_le _) rv hp ⟨_,Γm _ rfl,rfl,rfl⟩ (λb o _ e=>kp b o e) .nil
  ⟨_,#[],0,Γc _ d1,⟨rfl,rfl,rfl⟩,rfl,rfl,List.nodup_nil⟩ (by simp;lia) λh'' tk' xs' x1 x2 x3=>⟨rfl,h _ _ (I.hok.fresh (Γi _)) ?_⟩
 obtain⟨q,es,ep,hq,h2',h3',h4',h6'⟩:=x2
 refine I.laid (a:=s.heap.objs.size) (t':=tk') (λb u e=>x3 b u (Γl e) e) (Γi _) ⟨?_,beq_eq_false_iff_ne.mpr (Ne.symm (Γo I.big)),xs',x1.keeps λc ys ec=>?_,q,es,ep,hq,h2',h3',h4',h6'⟩
 ·have:∀ (ps kvs:List (List Key×V)),(ps.foldl (λk q=>a3z k q.1 q.2) kvs).length<=kvs.length+ps.length:=by
   intro ps
   induction ps with
   | nil=>intro kvs;exact Γi _
   | cons p r ih =>
    intro kvs
    have a:=ih (a3z kvs p.1 p.2)
    have b:=a2k kvs p.1 p.2
    simp only[List.foldl_cons,List.length_cons]
    lia
  have:=this ps []
  simp only[List.length_nil] at this
  lia
 ·have:c≠s.heap.objs.size:=λz=>by rw[z,I.hok.fresh (Γi _)] at ec;cases ec
  rw[a0e this];exact ec
end
end Kq
end
section
namespace Kq
open PySem PySem.Spec PyProof.Rows L2
noncomputable def b5u:FV->Option (List Int×FV)
 | .tup [.tup ks,v]=>(a0u ks).map λk=>(k,v)
 | _=>none
noncomputable def a7e:List FV->Option (List (List Int×FV))
 | []=>some []
 | x :: r=>(b5u x).bind λp=>(a7e r).map λq=>p :: q
noncomputable def a1k {α:Type}:List (List Int×α)->List (List Int)->List α->List (List Int)×List α
 | [],ks,vs=>(ks,vs)
 | p :: r,ks,vs=>a1k r (a1s ks vs p.1 p.2).1 (a1s ks vs p.1 p.2).2
noncomputable def c5n (v:FV):Option FV:=(a1q v).bind λxs=>(a7e xs).bind λps=>some (.dct (a1k ps [] []).1 (a1k ps [] []).2)
section
variable {K:Γd}{S:Hp}
theorem b5t {x:FV}{p:List Int×FV}(e:b5u x=some p):∃ ks,x=.tup [.tup ks,p.2]/\a0u ks=some p.1:=by
 unfold b5u at e
 split at e
 ·obtain⟨k,e1,rfl⟩:=mpd e
  exact⟨_,rfl,e1⟩
 ·cases e
theorem a9h:∀ {xs:List FV}{ys:List V}{ps:List (List Int×FV)},RVs K S xs ys->a7e xs=some ps->∃ qs:List (List Int×V),b0s S ys (qs.map λq=>(q.1.map Sum.inl,q.2))/\qs.map (·.1)=ps.map (·.1)/\RVs K S (ps.map (·.2)) (qs.map (·.2))
 | [],ys,ps,r,e=>by
  cases (show ys=[] from r)
  cases e
  exact⟨[],.nil,rfl,rfl⟩
 | x :: xs,ys,ps,⟨v,r,e0,h1,h2⟩,e=>by
  subst e0
  obtain⟨p,e1,e2⟩:=bnd e
  obtain⟨q,e3,rfl⟩:=mpd e2
  obtain⟨ks,rfl,e4⟩:=b5t e1
  obtain⟨qs,g1,g2,g3⟩:=a9h h2 e3
  obtain⟨b,zs,rfl,hb,hz⟩:=h1
  obtain⟨u1,u2,rfl,r1,r2⟩:=hz.two_of
  obtain⟨kb,rfl,hk⟩:=a9s r1 e4
  exact⟨(p.1,u2) :: qs,.cons ⟨b,kb,rfl,hb,hk⟩ g1,by simp[g2],⟨u2,_,rfl,r2,g3⟩⟩
theorem a7d {α:Type}:∀ (ps:List (List Int×α))(ks:List (List Int))(vs:List α),ks.length=vs.length->(a1k ps ks vs).1.length=(a1k ps ks vs).2.length
 | [],ks,vs,h=>h
 | p :: r,ks,vs,h=>a7d r _ _ (a3q ks vs p.1 p.2 h).1
theorem a7a:∀ (qs:List (List Int×V))(ks:List (List Int))(us:List V),ks.length=us.length->(qs.map λq=>((q.1.map Sum.inl:List Key),q.2)).foldl (λk q=>a3z k q.1 q.2) ((a2o ks).zip us)=(a2o (a1k qs ks us).1).zip (a1k qs ks us).2
 | [],ks,us,h=>rfl
 | q :: r,ks,us,h=>by
  rw[List.map_cons,List.foldl_cons,b5g ks us q.1 q.2 h]
  exact a7a r _ _ (a3q ks us q.1 q.2 h).1
theorem a7b:∀ {ps:List (List Int×FV)}{qs:List (List Int×V)}{ks:List (List Int)}{vs:List FV}{us:List V},qs.map (·.1)=ps.map (·.1)->RVs K S (ps.map (·.2)) (qs.map (·.2))->RVs K S vs us->(a1k ps ks vs).1=(a1k qs ks us).1/\RVs K S (a1k ps ks vs).2 (a1k qs ks us).2
 | [],[],ks,vs,us,_,_,r=>⟨rfl,r⟩
 | [],q :: qs,ks,vs,us,e,_,_=>by cases e
 | p :: ps,[],ks,vs,us,e,_,_=>by cases e
 | p :: ps,q :: qs,ks,vs,us,e,⟨v,r',e0,h1,h2⟩,r=>by
  simp only[List.map_cons,List.cons.injEq] at e e0
  obtain⟨e1,e2⟩:=e
  obtain⟨e3,e4⟩:=e0
  subst e3
  rw[<- e4] at h2
  obtain⟨g1,g2⟩:=a4n (ks:=ks) (k:=p.1) r h1
  have:=a7b (ks:=(a1s ks vs p.1 p.2).1) e2 h2 g2
  show (a1k ps (a1s ks vs p.1 p.2).1 (a1s ks vs p.1 p.2).2).1=(a1k qs (a1s ks us q.1 q.2).1 (a1s ks us q.1 q.2).2).1/\RVs K S (a1k ps (a1s ks vs p.1 p.2).1 (a1s ks vs p.1 p.2).2).2 (a1k qs (a1s ks us q.1 q.2).1 (a1s ks us q.1 q.2).2).2
  rw[e1,<- g1]
  exact this
end
section
variable {X:Cx}
noncomputable def d4h (X:Cx):List V->Hp->VK->Prop:=λxs H Q=>∃ (a:Addr)(ys:List V)(ps:List (List Key×V)),xs=[.ref a]/\SqL X.K H a ys/\b0s H ys ps/\∀ p,H p=none->Q (.ref p) (upd H p (.dT (ps.foldl (λk q=>a3z k q.1 q.2) [])))
theorem d1a (hc:X.calm=true)(hu:X.A.units+64<cLine):a1j X (.type "dict") (d4h X):=by
 rintro pins s σ H xs us Q I r ⟨a,ys,ps,rfl,hl,hp,k⟩
 obtain⟨u,rfl,ru⟩:=a3e r
 cases (show u=Value.ref a from ru)
 have h1:X.A.in1.handled=none:=I.ok.hd hc
 refine a6o ?_ ?_ I hl hp λp s' hp' I'=>⟨.ref p,_,I',rfl,k p hp'⟩
 ·show X.A.units+1+1<cLine
  lia
 ·exact h1
end
section
variable {X:Cx}{C:CC}{n:Nat}{sp:Γd->Nat->Sp}{a b:Expr}{ea eb:EW}{pos p:Pos}
theorem d6x (G:Good X C n sp)(hg:C.gl (Γe "dict")=true)(hs:a0h a=false)(ha:FR X C a ea):FE X C (.Call (.Name (Γe "dict") p) [a] [] pos) (eUn c5n ea) :=
 PE.imp (a5z (d1a G.calm G.room.units) (G.gl hg) (G.blt "dict" (by decide)) (by nofun) (a0s ha a2q (a0f hs)) (by nofun) (by nofun) (a0f hs) rfl) λσ H Q ⟨c,L,S,Q0,I,h,k⟩ =>
 ⟨c,L,S,_,I,h,λv L1 hv x S1 H1 r1 I1 s1=>by
  obtain⟨z,e,q⟩:=wpx hv
  obtain⟨xs,e1,e2⟩:=bnd e
  obtain⟨ps,e3,e4⟩:=bnd e2
  cases e4
  obtain⟨a,ys,rfl,hq,ry⟩:=r1.list I1.sub e1
  obtain⟨qs,g1,g2,g3⟩:=a9h ry e3
  have hp:b0s H1 ys (qs.map λq=>(q.1.map Sum.inl,q.2)):=Paired.mapP g1 λ_ _ ⟨b,kb,f1,f2,f3⟩=>⟨b,kb,f1,I1.sub _ _ f2,I1.sub _ _ f3⟩
  refine⟨a,ys,_,rfl,hq,hp,λp hp0=>?_⟩
  have ev:=a7a qs [] [] rfl
  obtain⟨h1,h2⟩:=a7b (ks:=[]) (vs:=[]) (us:=[]) g2 g3 (show RVs X.K S1 [] [] from rfl)
  rw[show (a2o []).zip ([]:List V)=[] from rfl] at ev
  rw[ev]
  refine k _ L1 q _ _ _ ?_ (I1.new hp0 _) (s1.trans (a0j (I1.sn hp0)))
  exact⟨p,_,rfl,a7d ps [] [] rfl,by rw[h1];exact a0d,h2.mono (a0j (I1.sn hp0))⟩⟩
end
@[scoped simp ↓] theorem f_dict (v:FV)(Q:FV->Prop):wp (c5n v) Q↔wp (a1q v) λxs=>wp (a7e xs) λps=>Q (.dct (a1k ps [] []).1 (a1k ps [] []).2):=by
 show wp ((a1q v).bind _) Q↔_
 simp only[a2a];rfl
noncomputable def iZipN (i:Nat)(eb:EW):AW:=λL Q=>wp (lk L i) λ_=>eb L λy L1=>wp (lk L1 i) λx=>wp (a4z x) λxs=>wp (a4z y) λys=>Q (a2f xs ys) L1
section
variable {X:Cx}{C:CC}{n:Nat}{sp:Γd->Nat->Sp}{b:Expr}{eb:EW}{pos p p2 tp:Pos}{i kk:Nat}{nx:Str}{elts:List Expr}
theorem d2g (G:Good X C n sp)(hg:C.gl (Γe "enumerate")=true)(h:C.nm i nx=true)(m:a0g C.md i=.own):FI X C (C.md.set i .frz) (.Tuple elts kk tp) (.Call (.Name (Γe "enumerate") p) [.Name nx p2] [] pos) (a6z (a0b i)) :=
 PI.imp (c8d (G.gl hg) (G.blt "enumerate" (by decide)) (a0s (a1f G h) a2q (a0f rfl)) (a0f rfl)) λσ H R ⟨c,L,S,Q0,I,h,k⟩=>by
 obtain⟨v,e,h⟩:=wpx h
 obtain⟨ps,e0,q⟩:=wpx h
 have e:=(a1m _ _ _).mp e
 obtain⟨l,e1,⟨o1,qs,vs,e2,o2,o3⟩,o4⟩:=I.own i v (λz=>by rw[m] at z;cases z) e
 obtain⟨e3,e4⟩:=b5v e2 e0
 subst e3 e4
 obtain⟨I',un⟩:=I.frz m e e1 o2
 exact⟨_,e1,true,l,rfl,⟨vs,SqL.of o2⟩,k _ L q _ _ S H I' un rfl (b6x (t:=true) λL σ S' H I s=>⟨vs,SqL.of (I.prs (l,.lst vs) Γn).1,o3.mono s⟩) (Same.refl S)⟩
end
end Kq
end
section
namespace L2
open PySem PySem.Spec PyProof.Rows
noncomputable def d1k (h:Heap)(z TI TO:Addr)(f m:Value):Prop:=h.get? z=some { cls:=.type "zip",data:=.fields #[f,m,.bool false,.ref TI,.ref TO] }
section
variable {P:Program}{w:World}{A:Around}{E:Value->Shared->Prop}{s:Shared}{z TI TO:Addr}{f m:Value}
end
section
variable {P:Program}{w:World}{A:Around}{E:Value->Shared->Prop}{s:Shared}{p q:Bool}{z TI TO i1 i2 l1 l2:Addr}{k1 k2:Nat}{xs ys:Array Value}{x y a b f m:Value}
end
section
variable {X:Cx}
end
end L2
end
section
namespace Kq
open PySem PySem.Spec PyProof.Rows L2
section
variable {X:Cx}{C:CC}{n:Nat}{sp:Γd->Nat->Sp}{a b:Expr}{ea eb:EW}{pos p tp:Pos}{nt:Str}
end
noncomputable def a8d (o:HO):Prop:=∀ xs,o≠.tup xs
theorem b5w {v:FV}{xs:List V}:a8d (b9y v xs):=λys z=>by
 have:=a5a v xs
 rw[show b9y v xs=.tup ys from z] at this
 cases this
mutual
noncomputable def noL:FV->Bool
 | .lst _=>false
 | .scr _=>false
 | .tup xs=>b1f xs
 | .dct _ _=>false
 | .dci _ _=>false
 | .dcz _ _ _=>false
 | .obj _ _ _=>false|.dcn _ _ _=>false
 | _=>true
noncomputable def b1f:List FV->Bool
 | []=>true
 | x :: r=>noL x && b1f r
end
noncomputable def c2r (i:Nat)(r:AW):AW:=λL Q=>wp (lk L i) λ_=>r L λxs L1=>wp (lk L1 i) λx=>Q (x :: xs) L1
noncomputable def a6k (call:CW) (f:Nat)(a:AW):EW:=λL Q=>a L λxs L1=>call f xs λz=>noL z.1=true/\Q z.1 L1
noncomputable def b7s (call:CW) (f:Nat)(a:AW):EW:=λL Q=>a L λxs L1=>call f xs λz=>wp (a5n z.1) λps=>b1f ps=true/\Q z.1 L1
noncomputable def RHs (K:Γd)(S H:Hp)(os:List Addr):List FV->List V->Prop
 | [],vs=>vs=[]
 | p :: ps,vs=>∃ v r,vs=v :: r/\(RV K S p v ∨ ∃ a,v=.ref a/\a∈os/\a3m K S H a p)/\RHs K S H os ps r
noncomputable def lah (K:Γd)(md:Md)(e:AW):TA:=λσ H Q=>∃ c L S Q0,Iv K c md L σ S H/\e L Q0/\∀ v L',Q0 v L'->∀ x S' H' os,RHs K S' H' os v x->(∀ a∈os,S' a=none/\∃ o,H' a=some o/\a8d o)->Iv K c md L' σ S' H'->Same S S'->Q x H'
noncomputable def FAh (X:Cx)(C:CC)(x:List Expr)(e:AW):Prop:=PA X.nox x (lah X.K C.md e)
section
variable {K:Γd}{S H S' H':Hp}{os os':List Addr}
theorem RHs.more:∀ {ps:List FV}{vs:List V},RHs K S H os ps vs->(∀ a∈os,a∈os')->RHs K S H os' ps vs
 | [],vs,h,_=>h
 | p :: ps,vs,⟨v,r,e,h1,h2⟩,k=>⟨v,r,e,h1.imp_right λ⟨a,e,m,o⟩=>⟨a,e,k a m,o⟩,RHs.more h2 k⟩
noncomputable def a4x (S H:Hp)(os:List Addr):Hp:=λa=>if a∈os then H a else S a
theorem a4w (h:∀ a∈os,S a=none/\∃ o,H a=some o/\a8d o):Same S (a4x S H os):=λa o e=>by
 unfold a4x
 by_cases m:a∈os
 ·rw[(h a m).1] at e;cases e
 ·rw[if_neg m];exact e
theorem a8x (s:Same S H):Same (a4x S H os) H:=λa o e=>by
 unfold a4x at e
 by_cases m:a∈os
 ·rw[if_pos m] at e;exact e
 ·rw[if_neg m] at e;exact s a o e
theorem RHs.vals (h:∀ a∈os,S a=none/\∃ o,H a=some o/\a8d o):∀ {ps:List FV}{vs:List V},RHs K S H os ps vs->RVs K (a4x S H os) ps vs
 | [],vs,e=>e
 | p :: ps,vs,⟨v,r,e,h1,h2⟩=>by
  refine⟨v,r,e,?_,RHs.vals h h2⟩
  rcases h1 with h1|⟨a,rfl,m,o1,qs,xs,e9,o2,o3⟩
  ·exact h1.mono (a4w h)
  ·have o4:a4x S H os a=some (b9y p xs):=by unfold a4x;rw[if_pos m];exact o2
   have o5:=o3.mono (a4w h)
   cases p with
   | lst ps=>cases e9;exact⟨a,xs,rfl,o4,o5⟩
   | dct ks ws=>obtain⟨hl,rfl⟩:=itd e9;exact⟨a,xs,rfl,hl,o4,o5⟩
   | dci ks ws=>obtain⟨hl,rfl⟩:=itd e9;exact⟨a,xs,rfl,hl,o4,o5⟩
   | dcz o ks ws=>obtain⟨hl,rfl⟩:=itd e9;exact⟨a,xs,rfl,hl,o4,o5⟩
   | obj C dx fs=>cases e9;exact⟨a,rfl,o4⟩
   | dcn z ks ws=>obtain⟨hl,rfl⟩:=itd e9;exact⟨a,xs,rfl,hl,o4,o5⟩
   | _=>cases e9
noncomputable def a6w (S:Hp)(os:List Addr):Hp:=λa=>if a∈os then none else S a
mutual
theorem RV.less {K:Γd}{S:Hp}{os:List Addr}(h:∀ a∈os,∃ o,S a=some o/\a8d o):∀ {p:FV}{v:V},noL p=true->RV K S p v->RV K (a6w S os) p v
 | .non,v,_,e=>e
 | .bl b,v,_,e=>e
 | .int i,v,_,e=>e
 | .str _,v,_,e=>e
 | .shn _,v,_,e=>e
 | .tup ps,v,n,⟨a,xs,e,h1,h2⟩=>⟨a,xs,e,by
   unfold a6w
   rw[if_neg λm=>by obtain⟨zs,z,n⟩:=h a m;rw[z] at h1;cases h1;exact n _ rfl];exact h1,RVs.less h (by simpa[noL] using n) h2⟩
 | .dct ks vs,v,n,_=>by simp[noL] at n
 | .dci ks vs,v,n,_=>by simp[noL] at n
 | .dcz _ ks vs,v,n,_=>by simp[noL] at n
 | .obj _ _ _,v,n,_=>by simp[noL] at n
 | .dcn _ _ _,v,n,_=>by simp[noL] at n
 | .lst ps,v,n,_=>by simp[noL] at n
 | .scr ps,v,n,_=>by simp[noL] at n
theorem RVs.less {K:Γd}{S:Hp}{os:List Addr}(h:∀ a∈os,∃ o,S a=some o/\a8d o):∀ {ps:List FV}{vs:List V},b1f ps=true->RVs K S ps vs->RVs K (a6w S os) ps vs
 | [],vs,_,e=>e
 | p :: ps,vs,n,⟨v,r,e,h1,h2⟩=>by
  have n:noL p=true/\b1f ps=true:=by simpa[b1f] using n
  exact⟨v,r,e,RV.less h n.1 h1,RVs.less h n.2 h2⟩
end
variable {c:Cn}{md:Md}{L:a0c}{σ:L2.St}
theorem b6m (I:Iv K c md L σ S H)(h:∀ a∈os,S a=none/\∃ o,H a=some o/\a8d o){w:FV}(k:Kept K (a4x S H os) H S' H' none w):Iv K c md L σ (a6w S' os) H'/\Same S (a6w S' os):=by
 have s:Same S (a6w S' os):=λa o e=>by
  unfold a6w
  by_cases m:a∈os
  ·rw[(h a m).1] at e;cases e
  ·rw[if_neg m];exact k.same a o (a4w h a o e)
 refine⟨I.go3 s (λa o e=>?_) (λa o e=>?_) λa o e=>k.keep a o e (by simp),s⟩
 ·unfold a6w at e
  by_cases m:a∈os
  ·rw[if_pos m] at e;cases e
  ·rw[if_neg m] at e;exact k.sub a o e
 ·unfold a6w at e
  by_cases m:a∈os
  ·rw[if_pos m] at e;cases e
  ·rw[if_neg m] at e
   rcases k.grow a o e with e2|e2
   ·unfold a4x at e2
    rw[if_neg m] at e2
    exact .inl e2
   ·exact .inr e2
theorem b6n (h:∀ a∈os,S a=none/\∃ o,H a=some o/\a8d o){w:FV}(k:Kept K (a4x S H os) H S' H' none w):∀ a∈os,∃ o,S' a=some o/\a8d o:=λa m=>by
 obtain⟨o,e,n⟩:=(h a m).2
 exact⟨o,k.same a _ (by unfold a4x;rw[if_pos m];exact e),n⟩
end
section
variable {X:Cx}{C:CC}{n:Nat}{sp:Γd->Nat->Sp}{a:Expr}{ea:EW}{pos p:Pos}{call:CW}{f i:Nat}{nx:Str}{xs:List Expr}{as:AW}
theorem fah_of (h:FA X C xs as):FAh X C xs as:=PA.imp h λσ H Q ⟨c,L,S,Q0,I,h,k⟩=>⟨c,L,S,Q0,I,h,λv L' q x S' H' r I' s=>by
 have:∀ {ps:List FV}{vs:List V},RVs X.K S' ps vs->RHs X.K S' H' [] ps vs:=by
  intro ps
  induction ps with
  | nil=>intro vs h;exact h
  | cons p ps ih=>intro vs ⟨v,r,e,h1,h2⟩;exact⟨v,r,e,.inl h1,ih h2⟩
 exact k v L' q x S' H' [] (this r) (λa h=>by simp at h) I' s⟩
theorem d2r (hs:a0h a=false)(ha:FE X C a ea)(hr:FAh X C xs as):FAh X C (a :: xs) (a0a ea as):=PA.imp (a0s ha hr (a0f hs)) λσ H Q ⟨c,L,S,Q0,I,h,k⟩ =>
 ⟨c,L,S,_,I,h,λv L1 hv x S1 H1 r1 I1 s1=>⟨c,L1,S1,_,I1,hv,λvs L2 hvs us S2 H2 os r2 ho I2 s2=>k _ L2 hvs _ S2 H2 os ⟨x,us,rfl,.inl (r1.mono s2),r2⟩ ho I2 (s1.trans s2)⟩⟩
theorem d7o (G:Good X C n sp)(h:C.nm i nx=true)(m:a0g C.md i≠.imm)(hr:FAh X C xs as):FAh X C (.Name nx p :: xs) (c2r i as):=PA.imp (a0s (a1f G h) hr (a0f rfl)) λσ H Q ⟨c,L,S,Q0,I,h,k⟩=>by
 obtain⟨v,e,h⟩:=wpx h
 have e:=(a1m _ _ _).mp e
 obtain⟨l,e1,_,_⟩:=I.own i v m e
 refine⟨_,e1,c,L,S,_,I,h,λvs L2 hvs us S2 H2 os r2 ho I2 s2=>?_⟩
 obtain⟨v2,e2,q⟩:=wpx hvs
 have e2:=(a1m _ _ _).mp e2
 obtain⟨l2,f1,o,_⟩:=I2.own i v2 m e2
 rw[e1] at f1;cases f1
 refine k _ L2 q _ S2 H2 (l :: os) ⟨.ref l,us,rfl,.inr ⟨l,rfl,Γn,o⟩,r2.more λa h=>Γh _ h⟩ (λa ha=>?_) I2 s2
 rcases List.mem_cons.mp ha with rfl|ha
 ·obtain⟨o1,qs,zs,_,o2,_⟩:=o
  exact⟨o1,_,o2,b5w⟩
 ·exact ho a ha
theorem d2q (G:Good X C n sp)(e:sp X.K f=spQ X.K call false false f)(hf:C.fns[f]?=some nx)(hg:C.gl nx=true)(hd:(nx == ("__debug__":Str))=false)(hs:a1u (a :: xs)=true)(ha:FAh X C (a :: xs) as):FE X C (.Call (.Name nx p) (a :: xs) [] pos) (a6k call f as) :=
 PE.imp (a6n G hf hg hd hs ha) λσ H Q ⟨c,L,S,Q0,I,h,k⟩=>⟨c,L,S,_,I,h,λvs L1 hv us S1 H1 os r1 ho I1 s1=>by
  rw[e]
  refine⟨a4x S1 H1 os,vs,_,a8x I1.sub,r1.vals ho,hv,λz q x S' H' kp r=>?_⟩
  obtain⟨I2,s2⟩:=b6m I1 ho kp
  exact k _ L1 q.2 x _ H' (RV.less (b6n ho kp) q.1 r) I2 (s1.trans s2)⟩
theorem d2j (G:Good X C n sp)(e:sp X.K f=spQ X.K call false true f)(hf:C.fns[f]?=some nx)(hg:C.gl nx=true)(hd:(nx == ("__debug__":Str))=false)(hs:a1u (a :: xs)=true)(ha:FAh X C (a :: xs) as):FF X C (.Call (.Name nx p) (a :: xs) [] pos) (b7s call f as) :=
 PE.imp (a6n G hf hg hd hs ha) λσ H Q ⟨c,L,S,Q0,I,h,k⟩=>⟨c,L,S,_,I,h,λvs L1 hv us S1 H1 os r1 ho I1 s1=>by
  rw[e]
  refine⟨a4x S1 H1 os,vs,_,a8x I1.sub,r1.vals ho,hv,λz q x S' H' kp r=>?_⟩
  obtain⟨z1,z2⟩:=z
  obtain⟨a,rfl,⟨o1,ps,zs,ez,o2,o3⟩,hn⟩:=r
  obtain⟨ps',e1,e2,q⟩:=wpx q
  cases a2t e1
  cases ez
  obtain⟨I2,s2⟩:=b6m I1 ho kp
  have ha':a ∉ os:=λm=>by obtain⟨_,zs,e,_⟩:=ho a m;rw[hn] at e;cases e
  exact k _ L1 q a _ H' ⟨by unfold a6w;rw[if_neg ha'];exact o1,_,zs,rfl,o2,RVs.less (b6n ho kp) e2 o3⟩ (I1.fresh hn) I2 (s1.trans s2)⟩
end
@[scoped simp ↓] theorem d8y (i:Nat)(r:AW)(L:a0c)(Q:List FV->a0c->Prop):c2r i r L Q=(wp (lk L i) λ_=>r L λxs L1=>wp (lk L1 i) λx=>Q (x :: xs) L1):=propext Iff.rfl
@[scoped simp ↓] theorem d0o (call:CW) (f:Nat)(a:AW)(L:a0c)(Q:FV->a0c->Prop):a6k call f a L Q=(a L λxs L1=>call f xs λz=>noL z.1=true/\Q z.1 L1):=propext Iff.rfl
@[scoped simp ↓] theorem d0n (call:CW) (f:Nat)(a:AW)(L:a0c)(Q:FV->a0c->Prop):b7s call f a L Q=(a L λxs L1=>call f xs λz=>wp (a5n z.1) λps=>b1f ps=true/\Q z.1 L1):=propext Iff.rfl
@[scoped simp] theorem d5h (b:Int):noL (.int b)=true:=by simp[noL]
@[scoped simp] theorem d5g:noL .non=true:=by simp[noL]
@[scoped simp] theorem d5f (xs:List FV):noL (.tup xs)=b1f xs:=by simp[noL]
@[scoped simp] theorem d1u:b1f []=true:=by simp[b1f]
@[scoped simp] theorem c9c (x:FV)(r:List FV):b1f (x :: r)=(noL x && b1f r):=by simp[b1f]
theorem a5m {α:Type}(f:α->FV)(h:∀ x,noL (f x)=true):∀ xs:List α,b1f (xs.map f)=true
 | []=>by simp
 | x :: r=>by simp[h x,a5m f h r]
noncomputable def revF (v:FV):Option FV:=(a5n v).map λxs=>.lst xs.reverse
noncomputable def eMeth0 (f:FV->Option FV) (i:Nat):EW:=λL Q=>wp (lk L i) λx=>wp (f x) λz=>Q .non (L.set i (some z))
section
variable {X:Cx}{C:CC}{n:Nat}{sp:Γd->Nat->Sp}{pos p:Pos}{call:CW}{f i:Nat}{nx:Str}
end
end Kq
end
section
namespace Kq
open PySem PySem.Spec PyProof.Rows L2 PySem.W
noncomputable def Lv {α:Type} (n:Nat)(P:α->Prop):KasT α->Prop
 | .ret a=>P a
 | .ask i j k=>i<n/\j<n/\∀ b,Lv n P (k b)
theorem Lv.mono {α:Type}{n:Nat}{P P':α->Prop}(h:∀ a,P a->P' a):∀ {t:KasT α},Lv n P t->Lv n P' t
 | .ret a,x=>h a x
 | .ask i j k,x=>⟨x.1,x.2.1,λb=>Lv.mono h (x.2.2 b)⟩
theorem Lv.bind {α β:Type}{n:Nat}{P:α->Prop}{P':β->Prop}{f:α->KasT β}(h:∀ a,P a->Lv n P' (f a)):∀ {t:KasT α},Lv n P t->Lv n P' (t.bind f)
 | .ret a,x=>h a x
 | .ask i j k,x=>⟨x.1,x.2.1,λb=>Lv.bind h (x.2.2 b)⟩
section
variable {n:Nat}
end
noncomputable def IntTup (h:Heap)(v:Value):Prop:=∃ (a:Addr)(o:Obj)(us:List Value) (n:Nat) (k:Int)(ks:List Int),v=.ref a/\h.get? a=some o/\o.cls=.type "tuple"/\o.data=.seq us.toArray n/\Vals ((k :: ks).map V.int) us
theorem IntTup.keep {h h':Heap}{v:Value}(x:IntTup h v)(k:∀ b o,h.get? b=some o->h'.get? b=some o):IntTup h' v:=by
 obtain⟨a,o,us,n,i,ks,e,h1,h2⟩:=x
 exact⟨a,o,us,n,i,ks,e,k _ _ h1,h2⟩
section
variable {prog:Program}{w:World}{A:Around}{E:Value->Shared->Prop}{s:Shared}{vs:List Value}
theorem b2t {h:Heap}:∀ {vs:List Value},(∀ v∈vs,IntTup h v)->∃ fs:List Value,KatTups h vs fs/\fs.length=vs.length/\∀ f∈fs,∃ k t,f=.int k t
 | [],_=>⟨[],trivial,rfl,by simp⟩
 | v :: vs,hv=>by
  obtain⟨a,o,us,n,k,ks,rfl,h1,h2,h3,h4⟩:=hv v (by simp)
  obtain⟨fs,g1,g2,g3⟩:=b2t λx hx=>hv x (Γh _ hx)
  cases h4 with
  | @cons _ u _ us' r1 h4 =>
  obtain⟨t1,rfl⟩:=r1
  exact⟨.int k t1 :: fs,KatTups.cons h1 h2 h3 (by simp) g1,by simp[g2],λf hf=>by
   rcases List.mem_cons.mp hf with rfl|hf
   ·exact⟨_,_,rfl⟩
   ·exact g3 f hf⟩
end
end Kq
end
section
namespace Kq
open PySem PySem.Spec PyProof.Rows L2
noncomputable def a2p:List FV->Bool
 | []=>true
 | .tup ps :: r=>(match a0u ps with|some (_ :: _)=>true|_=>false) && a2p r
 | _=>false
noncomputable def d7u (a:EW):EW:=λL Q=>a L λv L1=>wp (a1q v) λxs=>a2p xs=true/\2<=xs.length/\xs.length<64/\∀ ys:List FV,ys.Perm xs->Q (.lst ys) L1
theorem Vals.perm {us us':List Value}(p:us'.Perm us):∀ {ys:List V},Vals ys us->∃ zs,zs.Perm ys/\Vals zs us':=by
 induction p with
 | nil=>intro ys h;exact⟨ys,.refl _,h⟩
 | cons x p ih =>
  intro ys h
  cases h with
  | @cons y _ ys' _ r h =>
  obtain⟨zs,e,g⟩:=ih h
  exact⟨y :: zs,e.cons y,.cons r g⟩
 | swap x y l =>
  intro ys h
  cases h with
  | @cons a _ ys' _ r h =>
  cases h with
  | @cons b _ ys'' _ r' h =>
  exact⟨b :: a :: ys'',.swap a b ys'',.cons r' (.cons r h)⟩
 | trans p q ih1 ih2 =>
  intro ys h
  obtain⟨zs,e,g⟩:=ih2 h
  obtain⟨ws,e',g'⟩:=ih1 g
  exact⟨ws,e'.trans e,g'⟩
section
variable {K:Γd}{S:Hp}
theorem RVs.perm {vs vs':List V}(p:vs'.Perm vs):∀ {ps:List FV},RVs K S ps vs->∃ qs,qs.Perm ps/\RVs K S qs vs':=by
 induction p with
 | nil=>intro ps h;exact⟨ps,.refl _,h⟩
 | cons x p ih =>
  intro ps h
  cases ps with
  | nil=>cases h
  | cons q ps =>
   obtain⟨v,r,e,h1,h2⟩:=h
   cases e
   obtain⟨zs,e,g⟩:=ih h2
   exact⟨q :: zs,e.cons q,_,_,rfl,h1,g⟩
 | swap x y l =>
  intro ps h
  cases ps with
  | nil=>cases h
  | cons a ps =>
   obtain⟨v,r,e,h1,h2⟩:=h
   cases e
   cases ps with
   | nil=>cases h2
   | cons b ps =>
    obtain⟨v2,r2,e2,h3,h4⟩:=h2
    cases e2
    exact⟨b :: a :: ps,.swap a b ps,_,_,rfl,h3,_,_,rfl,h1,h4⟩
 | trans p q ih1 ih2 =>
  intro ps h
  obtain⟨zs,e,g⟩:=ih2 h
  obtain⟨ws,e',g'⟩:=ih1 g
  exact⟨ws,e'.trans e,g'⟩
end
section
variable {X:Cx}
end
section
variable {X:Cx}{C:CC}{n:Nat}{sp:Γd->Nat->Sp}{a:Expr}{ea:EW}{pos p:Pos}
end
theorem b9n (ks:List Int)(us:List V) (k:Int)(u:V)(hl:ks.length=us.length):a3z ((a3d ks).zip us) (Sum.inl k) u=(a3d (a1s ks us k u).1).zip (a1s ks us k u).2:=by
 have hany:(((a3d ks).zip us).any λkv=>decide (kv.1=Sum.inl k))=true↔k∈ks:=by
  rw[a4h,a5o,a1x k hl]
 unfold a3z a1s
 by_cases e:k∈ks
 ·rw[if_pos (hany.mpr e),if_pos e]
  clear e hany
  induction ks generalizing us with
  | nil=>cases us<;>rfl
  | cons k' ks ih=>cases us with
   | nil=>rfl
   | cons u' us =>
    have:=ih us (by simpa using hl)
    show (if (Sum.inl k':Int ⊕ Option Str)=Sum.inl k then (Sum.inl k',u) else (Sum.inl k',u')) :: ((a3d ks).zip us).map _=(Sum.inl k',if k'=k then u else u') :: (a3d ks).zip _
    rw[this]
    congr 1
    by_cases e:k'=k
    ·subst e;simp
    ·rw[if_neg λz=>e (Sum.inl.inj z),if_neg e]
 ·rw[if_neg λz=>e (hany.mp z),if_neg e]
  show _=(a3d (ks++[k])).zip (us++[u])
  have:a3d (ks++[k])=a3d ks++[Sum.inl k]:=by simp[a3d]
  rw[this,List.zip_append (by simpa[a3d] using hl)];rfl
theorem b7i {κ α β:Type} [DecidableEq κ] {ks:List κ}{vs:List α}{us:List β}{k:κ}(h1:ks.length=vs.length)(h2:ks.length=us.length)(h:a2r ks vs k=none):a2r ks us k=none:=by
 have a:=a1x (α:=α) k h1
 have b:=a1x (α:=β) k h2
 cases e:a2r ks us k with
 | none=>rfl
 | some u =>
  rw[e] at b
  have:=a.mpr (b.mp rfl)
  rw[h] at this;cases this
noncomputable def d8c (v w:FV):Option (Option FV):=match v with
 | .dct ks vs=>(a6q w).bind λps=>(a0u ps).bind λk=>some (a2r ks vs k)
 | .dci ks vs=>(a3w w).bind λk=>some (a2r ks vs k)
 | .dcz _ ks vs=>(a6q w).bind λps=>(a0u ps).bind λk=>some (a2r ks vs k)
 | _=>none
noncomputable def dgF (v w:FV):Option FV:=(d8c v w).bind id
noncomputable def dget1F (v w:FV):Option FV:=(d8c v w).map λo=>o.getD .non
noncomputable def isDF:FV->Option Unit
 | .dct _ _=>some ()
 | .dci _ _=>some ()
 | _=>none
noncomputable def c1a (v j x:FV):Option FV:=match v with
 | .dct ks vs=>(a6q j).bind λps=>(a0u ps).bind λk=>if ks.length<big then some (.dct (a1s ks vs k x).1 (a1s ks vs k x).2) else none
 | .dci ks vs=>(a3w j).bind λk=>if ks.length<big then some (.dci (a1s ks vs k x).1 (a1s ks vs k x).2) else none
 | _=>none
noncomputable def RO (K:Γd)(S:Hp):Option FV->Option V->Prop
 | none,o=>o=none
 | some p,o=>∃ u,o=some u/\RV K S p u
section
variable {X:Cx}{K:Γd}{S H:Hp}
theorem b5d {κ:Type} [DecidableEq κ] {ks:List κ}{vs:List FV}{us:List V}{k:κ}(h1:ks.length=vs.length)(r:RVs K S vs us):RO K S (a2r ks vs k) (a2r ks us k):=by
 cases e:a2r ks vs k with
 | none=>exact b7i h1 (by rw[h1,r.length]) e
 | some p=>exact a5p r e
theorem RH.dcz {o:Obj}{ks:List (List Int)}{vs:List FV}{x:V}(hs:Same S H)(r:RH K S H (.dcz o ks vs) x):∃ a us,x=.ref a/\ks.length=vs.length/\H a=some (.frz o (.dT ((a2o ks).zip us)))/\RVs K S vs us:=by
 rcases r with⟨a,xs,e,h0,h1,h2⟩|⟨a,e,_,qs,xs,e2,h1,h2⟩
 ·exact⟨a,xs,e,h0,hs _ _ h1,h2⟩
 ·obtain⟨hl,rfl⟩:=itd e2
  exact⟨a,xs,e,hl,h1,h2⟩
theorem c5o {v w:FV}{x y:V}{o:Option FV}(hs:Same S H)(rv:RH K S H v x)(rw':RH K S H w y)(e:d8c v w=some o):∃ a o',x=.ref a/\L2.DGet H a y o'/\RO K S o o':=by
 cases v with
 | dct ks vs =>
  obtain⟨ps,e1,e2⟩:=bnd e
  obtain⟨k,e3,e4⟩:=bnd e2
  cases a1o e1
  cases e4
  obtain⟨a,us,rfl,hl,h1,h2⟩:=rv.dct hs
  obtain⟨b,rfl,hb⟩:=a9s (rw'.val rfl) e3
  refine⟨a,a2r ks us k,rfl,?_,b5d hl h2⟩
  rw[<- a6e]
  exact .t h1 (hs _ _ hb)
 | dci ks vs =>
  obtain⟨k,e3,e4⟩:=bnd e
  cases a1c e3
  cases e4
  cases rw'.int
  obtain⟨a,us,rfl,hl,h1,h2⟩:=rv.dci hs
  refine⟨a,a2r ks us k,rfl,?_,b5d hl h2⟩
  rw[<- a5o]
  exact .k (k:=Sum.inl k) h1
 | dcz o ks vs =>
  obtain⟨ps,e1,e2⟩:=bnd e
  obtain⟨k,e3,e4⟩:=bnd e2
  cases a1o e1
  cases e4
  obtain⟨a,us,rfl,hl,h1,h2⟩:=rv.dcz hs
  obtain⟨b,rfl,hb⟩:=a9s (rw'.val rfl) e3
  refine⟨a,a2r ks us k,rfl,?_,b5d hl h2⟩
  rw[<- a6e]
  exact .inr ⟨_,_,b,.inr ⟨o,h1⟩,rfl,hs _ _ hb,rfl⟩
 | _=>cases e
end
noncomputable def c3d (k:Nat)(i e:EW):SW:=λL Q=>wp (lk L k) λ_=>e L λx L1=>i L1 λj L2=>wp (lk L2 k) λy=>wp (c1a y j x) λz=>Q .next (L2.set k (some z))
section
variable {K:Γd}{c:Cn}{md:Md}{L:a0c}{σ:L2.St}{S H:Hp}
theorem Iv.writeV (I:Iv K c md L σ S H){i:Nat}{v w:FV}{a:Addr}{ps:List FV}{xs:List V}(m:a0g md i=.own)(e:L[i]?=some (some v))(e1:σ[i]?=some (some (.ref a)))(hw:c8q w=some ps)(r:RVs K S ps xs) :
  Iv K c md (L.set i (some w)) σ S (upd H a (b9y w xs)):=by
 obtain⟨a',e1',⟨h1,_⟩,_⟩:=I.own i v (λz=>by rw[m] at z;cases z) e
 rw[e1] at e1';cases e1'
 exact I.back m e e1 (Same.refl S) (λb o z=>by rw[a0e λy=>by subst y;rw[h1] at z;cases z];exact I.sub b o z) (λb o z=>.inl z) (λb o z n=>by rw[a0e n];exact z) ⟨h1,ps,xs,hw,a0d,r⟩
theorem c0z {i:Nat}{v j x z:FV}{a:Addr}{y u:V}(I:Iv K c md L σ S H)(m:a0g md i=.own)(e:L[i]?=some (some v))(e1:σ[i]?=some (some (.ref a)))(rj:RV K S j y)(rx:RV K S x u)(h:c1a v j x=some z):∃ H',L2.DPut H a y u H'/\Iv K c md (L.set i (some z)) σ S H':=by
 obtain⟨a',f1,⟨o1,ps,us,e9,o2,o3⟩,_⟩:=I.own i v (λz=>by rw[m] at z;cases z) e
 rw[e1] at f1;cases f1
 have hbl:=a1b
 cases v with
 | dct ks vs =>
  obtain⟨qs,g1,h⟩:=bnd h
  obtain⟨k,g2,h⟩:=bnd h
  obtain⟨hb,rfl⟩:=itd h
  obtain⟨hl,rfl⟩:=itd e9
  cases a1o g1
  obtain⟨b,rfl,hkb⟩:=a9s rj g2
  have hu:ks.length=us.length:=by rw[hl,o3.length]
  obtain⟨p1,p2⟩:=a4n (ks:=ks) (k:=k) o3 rx
  refine⟨_,.t o2 (I.sub _ _ hkb) (by simp[a2o];lia),?_⟩
  rw[b5g ks us k u hu,<- p1]
  exact I.writeV (w:=.dct _ _) m e e1 (if_pos (a3q ks _ k x hl).1) p2
 | dci ks vs =>
  obtain⟨k,g2,h⟩:=bnd h
  obtain⟨hb,rfl⟩:=itd h
  obtain⟨hl,rfl⟩:=itd e9
  cases a1c g2
  cases (show y=V.int k from rj)
  have hu:ks.length=us.length:=by rw[hl,o3.length]
  obtain⟨p1,p2⟩:=a4n (ks:=ks) (k:=k) o3 rx
  refine⟨_,.k (k:=Sum.inl k) o2 (by simp[a3d];lia),?_⟩
  rw[b9n ks us k u hu,<- p1]
  exact I.writeV (w:=.dci _ _) m e e1 (if_pos (a3q ks _ k x hl).1) p2
 | _=>cases h
end
section
variable {X:Cx}{C:CC}{n:Nat}{sp:Γd->Nat->Sp}{fr:Bool}{a b:Expr}{ea eb:EW}{pos p px:Pos}{i:Nat}{nx:Str}
theorem d2i:FF X C (.Dict [] [] pos) (eC (.dci [] [])):=PE.imp b9w λσ H Q ⟨c,L,S,Q0,I,h,k⟩=>λp hp=>k _ L h p S _ ⟨I.sn hp,[],[],rfl,a0d,rfl⟩ (I.fresh hp) (I.lay hp _) (Same.refl S)
theorem fe_dgN (G:Good X C n sp)(hs:a2l b=false)(h:C.nm i nx=true)(hb:FR X C b eb):FE X C (.Subscript (.Name nx p) b pos) (a6i dgF i eb):=PE.imp (b1e (X:=X.nox) (by have:=G.room.units;show X.A.units+1<cLine;lia) (a1f G h) hb (a5l hs)) λσ H Q ⟨c,L,S,Q0,I,h,k⟩=>by
 obtain⟨v0,e,h⟩:=wpx h
 obtain⟨x,e1,_⟩:=I.rd e
 refine⟨x,e1,c,L,S,_,I,h,λw L2 hw y S2 H2 r2 I2 s2=>?_⟩
 obtain⟨v,e2,q⟩:=wpx hw
 obtain⟨x',e3,r1⟩:=I2.rd e2
 rw[e1] at e3;cases e3
 obtain⟨z,e4,q⟩:=wpx q
 obtain⟨o,e5,e6⟩:=bnd e4
 obtain⟨a,o',rfl,g,ro⟩:=c5o I2.sub r1 r2 e5
 cases (show o=some z from e6)
 obtain⟨u,rfl,r5⟩:=ro
 exact⟨a,u,rfl,g,k z L2 q u S2 H2 r5 I2 s2⟩
theorem d6d (G:Good X C n sp)(hn:C.nm i nx=true)(m:a0g C.md i=.own)(hc:(!a6c a && !a2l b)=true)(ha:FE X C a ea)(hb:FE X C b eb):FS X C fr (.Assign [.Subscript (.Name nx px) b p] a pos) (c3d i eb ea):=by
 have hc:=b2 hc
 refine PS.imp (b5k (X:=X.nox) (by have:=G.room.units;show X.A.units+1<cLine;lia) (a1f (pos:=px) G hn) hb ha (a3p (nb hc.1))) λD σ H ⟨c,L,S,Q0,I,h,k⟩=>?_
 have mi:a0g C.md i≠.imm:=λz=>by rw[m] at z;cases z
 obtain⟨v0,e,h⟩:=wpx h
 obtain⟨l,e1,_⟩:=I.own i v0 mi ((a1m _ _ _).mp e)
 refine⟨c,L,S,_,I,h,λv L1 q x S1 H1 r1 I1 s1=>⟨_,e1,c,L1,S1,_,I1,q,λw L2 q y S2 H2 r2 I2 s2=>?_⟩⟩
 obtain⟨v1,e2,q2⟩:=wpx q
 obtain⟨z,e3,q3⟩:=wpx q2
 have e2:=(a1m _ _ _).mp e2
 obtain⟨H3,g,I3⟩:=c0z I2 m e2 e1 r2 (r1.mono s2) e3
 exact⟨l,H3,rfl,g,k .next _ q3 σ S2 _ I3 (s1.trans s2)⟩
end
section
variable (Q:FV->Prop) (i:Nat)(L:a0c)
@[scoped simp ↓] theorem d1n (k:Nat)(i e:EW)(Q:FFl->a0c->Prop):c3d k i e L Q=(wp (lk L k) λ_=>e L λx L1=>i L1 λj L2=>wp (lk L2 k) λy=>wp (c1a y j x) λz=>Q .next (L2.set k (some z))):=propext Iff.rfl
@[scoped simp ↓] theorem k_dgi (ks:List Int)(vs:List FV) (k:Int):wp (dgF (.dci ks vs) (.int k)) Q=wp (a2r ks vs k) Q:=propext Iff.rfl
@[scoped simp ↓] theorem d5q (ks:List Int)(vs:List FV) (k:Int)(x:FV):wp (c1a (.dci ks vs) (.int k) x) Q↔ks.length<big/\Q (.dci (a1s ks vs k x).1 (a1s ks vs k x).2):=a3x _ _ _
end
section
variable {P:Program}{w:World}{A:Around}{E:Value->Shared->Prop}{s:Shared}
end
section
variable {X:Cx}
theorem d0b:∀ {ns:List Int}{us:List Value},Vals (ns.map V.int) us->IntsAre us ns
 | [],us,h=>by cases h;exact .nil
 | n :: ns,us,h=>by
  cases h with
  | cons r h=>obtain⟨t,rfl⟩:=r;exact .cons n t (d0b h)
theorem c8z:∀ {us:List Value}{ns:List Int},IntsAre us ns->Vals (ns.map V.int) us
 | _,_,.nil=>.nil
 | _,_,.cons n t h=>.cons ⟨t,rfl⟩ (c8z h)
theorem c6b:a1j X (.builtin "sorted") (λxs H Q=>∃ (a:Addr)(ns:List Int),xs=[.ref a]/\SqL X.K H a (ns.map V.int)/\ns.length<64/\∀ p (ms:List Int),H p=none->ms.Perm ns->ms.Pairwise (·<=·)->Q (.ref p) (upd H p (.lst (ms.map V.int)))):=by
 rintro pins s σ H xs us Q I r ⟨a,ns,rfl,hl,h64,k⟩
 obtain⟨u,rfl,ru⟩:=a3e r
 cases (show u=Value.ref a from ru)
 obtain⟨its,rv,pl,hz⟩:=I.list hl
 have ll:ns.length=its.length:=by have:=rv.length;simpa using this
 refine sorted_ints pl.isList (d0b rv) (by lia) λout ns' hI hp hs=>?_
 obtain⟨e,he⟩:=sortedAll_at s.heap its out
 refine⟨.ref (s.heap.objs.size+1),_,I.laid (a:=s.heap.objs.size+1) (o:=.lst (ns'.map V.int)) (t':=s.toks) (λb o q=>sortedAll_old q) (Nat.le_succ _) ⟨?_,out.toList,e,c8z hI,he⟩,rfl,k _ ns' (I.hok.fresh (Nat.le_succ _)) hp hs⟩
 rw[List.length_map,hp.length_eq,sizeLine_eq];lia
end
noncomputable def b7r (a:EW):EW:=λL Q=>a L λv L1=>wp (a1q v) λxs=>wp (a0u xs) λns=>ns.length<64/\∀ ms:List Int,ms.Perm ns->ms.Pairwise (·<=·)->Q (.lst (ms.map .int)) L1
section
variable {X:Cx}{C:CC}{n:Nat}{sp:Γd->Nat->Sp}{a:Expr}{ea:EW}{pos p:Pos}
theorem d2o (G:Good X C n sp)(hg:C.gl (Γe "sorted")=true)(hs:a0h a=false)(ha:FR X C a ea):FE X C (.Call (.Name (Γe "sorted") p) [a] [] pos) (b7r ea) :=
 PE.imp (a4o c6b (G.gl hg) (G.blt "sorted" (by decide)) (by nofun) (a0s ha a2q (a0f hs)) (by nofun) (by nofun) (a0f hs) rfl) λσ H Q ⟨c,L,S,Q0,I,h,k⟩ =>
 ⟨c,L,S,_,I,h,λv L1 hv x S1 H1 r1 I1 s1=>by
  obtain⟨xs,e1,hv⟩:=wpx hv
  obtain⟨ns,e2,t2,q⟩:=wpx hv
  obtain⟨a,ys,rfl,hq,ry⟩:=r1.list I1.sub e1
  cases a1y ry e2
  refine⟨a,ns,rfl,hq,t2,λp ms hp hm hs=>?_⟩
  exact k _ L1 (q ms hm hs) _ _ _ ⟨p,_,rfl,a0d,RVs.ns ms⟩ (I1.new hp _) (s1.trans (a0j (I1.sn hp)))⟩
end
@[scoped simp ↓] theorem d0h (a:EW)(L:a0c)(Q:FV->a0c->Prop):b7r a L Q=(a L λv L1=>wp (a1q v) λxs=>wp (a0u xs) λns=>ns.length<64/\∀ ms:List Int,ms.Perm ns->ms.Pairwise (·<=·)->Q (.lst (ms.map .int)) L1):=propext Iff.rfl
section
variable {X:Cx}
end
section
variable {X:Cx}{C:CC}{n:Nat}{sp:Γd->Nat->Sp}{a:Expr}{ea:EW}{pos p:Pos}
end
end Kq
end
section
namespace L2
open PySem PySem.Spec PyProof.Rows
noncomputable def ZSt (p q:Bool)(z TI TO i1 i2 a b:Addr) (i:Nat)(h:Heap):Prop:=(∃ f m,(f=.none ∨ ∃ n,f=.int n 0)/\(∃ c,m=.bool c)/\d1k h z TI TO f m)/\IsPair h TI (.ref i1) (.ref i2)/\(∃ c d,IsPair h TO c d)/\IterB p h i1 a i/\IterB q h i2 b i
theorem ZSt.keep {p q:Bool}{z TI TO i1 i2 a b:Addr}{i:Nat}{h h':Heap}(st:ZSt p q z TI TO i1 i2 a b i h)(kk:∀ c∈[z,TO,i1,i2,TI],∀ o,h.get? c=some o->h'.get? c=some o):ZSt p q z TI TO i1 i2 a b i h':=by
 obtain⟨⟨f,m,hf0,hm0,zz⟩,zi,⟨x,y,zo⟩,t1,t2⟩:=st
 exact⟨⟨f,m,hf0,hm0,kk z (by simp) _ zz⟩,kk TI (by simp) _ zi,⟨x,y,kk TO (by simp) _ zo⟩,t1.to λo e=>kk i1 (by simp) o e,t2.to λo e=>kk i2 (by simp) o e⟩
section
variable {X:Cx}{pins:List (Addr×Obj)}{σ:St}{A:Around}{R:Result->Shared->Prop}
end
end L2
end
section
namespace L2
open PySem PySem.Spec PyProof.Rows
section
variable {X:Cx}{pins:List (Addr×Obj)}{σ:St}
variable {e1 e2:Expr}{ta:TA}{pp p2 pos pos2:Pos}
end
end L2
end
section
namespace Kq
open PySem PySem.Spec PyProof.Rows L2
section
variable {X:Cx}{C:CC}{n:Nat}{sp:Γd->Nat->Sp}{a b:Expr}{ea eb:EW}{p p2 pos pos2:Pos}
end
noncomputable def inW (tg:Tg)(t:BW)(e:EW):List FV->List FV->a0c->(List FV->a0c->Prop)->Prop
 | [],acc,L,Q=>Q acc L
 | y :: r,acc,L,Q=>gW tg y L λL1=>t L1 λb L2=>if b=true then e L2 λv L3=>inW tg t e r (acc++[v]) L3 Q else inW tg t e r acc L2 Q
noncomputable def b0j (n m:Nat)(tg:Tg)(t:BW)(it2:AW)(tg2:Tg)(t2:BW)(e:EW):List FV->List FV->a0c->(List FV->a0c->Prop)->Prop
 | [],acc,L,Q=>Q acc L
 | x :: xs,acc,L,Q=>gW tg x (L++Γj m none) λL1=>t L1 λb L2=>if b=true then it2 L2 λys L3=>acc.length+ys.length<=big/\inW tg2 t2 e ys acc L3 λacc' L4=>b0j n m tg t it2 tg2 t2 e xs acc' (L4.take n) Q else b0j n m tg t it2 tg2 t2 e xs acc (L2.take n) Q
noncomputable def d0l (n m:Nat)(it:AW)(tg:Tg)(t:BW)(it2:AW)(tg2:Tg)(t2:BW)(e:EW):EW:=λL Q=>it L λxs L1=>L1.length=n/\b0j n m tg t it2 tg2 t2 e xs [] L1 λys L2=>Q (.lst ys) L2
noncomputable def liv (K:Γd)(md:Md)(it:AW):TI:=λσ H R=>∃ c L S Q0,Iv K c md L σ S H/\it L Q0/\∀ xs L',Q0 xs L'->∀ J S' H',Iv K c md L' σ S' H'->(∀ c md,ItR K c md J xs S')->Same S S'->R J H'
noncomputable def FIv (X:Cx)(C:CC)(tg iter:Expr)(it:AW):Prop:=PI X.nox tg iter (liv X.K C.md it)
section
variable {X:Cx}{C:CC}{n:Nat}{sp:Γd->Nat->Sp}{a b tg:Expr}{ea eb:EW}{pos p:Pos}
end
section
variable {K:Γd}{c:Cn}{md:Md}{L:a0c}{σ:L2.St}{S H:Hp}
theorem c9z {n:Nat}{it2:AW}{tg:Tg}{t:BW}{e:EW}{acc:Addr}{us:List V}{ps:List FV}{Q1:List FV->a0c->Prop}{R:L2.St->Hp->Prop}(I:Iv K { c with pr:=(acc,.lst us) :: c.pr } md L σ S H)
  (h0:c.H0 acc=none)(hp:∀ p∈c.pr,p.1≠acc)(hz:∀ p∈c.fz,∃ o,(p.2,o)∈c.pr)(r:RVs K S ps us)(ht:a4i md tg=true)(hg:a7t n tg=true)
  (hh:it2 L λys L1=>ps.length+ys.length<=big/\inW tg t e ys ps L1 Q1)
  (k:∀ ps' us' L' σ' S' H',Q1 ps' L'->Iv K { c with pr:=(acc,.lst us') :: c.pr } md L' σ' S' H'->RVs K S' ps' us'->Same S S'->σ'.length=σ.length->(∀ q,q<n->σ'[q]?=σ[q]?)->R σ' H') :
  tIn (liv K md it2) (gT K tg) (lb K md t) (lv K md e) acc σ H R:=by
 have hbl:=a1b
 refine⟨_,L,S,_,I,hh,λys L1 hx J S1 H1 I1 hJ s1=>?_⟩
 obtain⟨hb,hc⟩:=hx
 let W:Nat->Nat->L2.St->Hp->Prop:=λi j σ' H'=>∃ L' S' ps' us',j=(ys.drop i).length/\Iv K { c with pr:=(acc,.lst us') :: c.pr } md L' σ' S' H'/\RVs K S' ps' us'/\Same S1 S'/\σ'.length=σ.length/\(∀ q,q<n->σ'[q]?=σ[q]?)/\ps'.length<=ps.length+i/\inW tg t e (ys.drop i) ps' L' Q1
 refine⟨W,⟨_,L1,S1,ps,us,rfl,I1,r.mono s1,Same.refl _,rfl,λ_ _=>rfl,Γi _,by rw[List.drop_zero];exact hc⟩,?_⟩
 rintro i j σ' H' ⟨L',S',ps',us',rfl,I',r',s',hl,far0,hps,hc⟩
 obtain⟨j1,j2⟩:=hJ _ _ i L' σ' S' H' I' s'
 cases hd:ys.drop i with
 | nil =>
  left
  rw[hd] at hc
  exact⟨j1 (List.getElem?_eq_none_iff.mpr (List.drop_eq_nil_iff.mp hd)),k ps' us' L' σ' S' H' hc I' r' (s1.trans s') hl far0⟩
 | cons p rest =>
  right
  rw[hd] at hc
  have hi:ys[i]?=some p:=by
   have:=congrArg (·[0]?) hd
   simpa using this
  have hd':ys.drop (i+1)=rest:=by
   have:=congrArg List.tail hd
   simpa[List.tail_drop] using this
  have hix:i<ys.length:=(List.getElem?_eq_some_iff.mp hi).1
  obtain⟨go,yl⟩:=j2 p hi
  refine⟨go,λx H2 y=>?_⟩
  obtain⟨S2,s2,tr,rx⟩:=yl x H2 y
  have I2:=tr _ _ _ _ I'
  obtain⟨σ2,L2,gq,q2,I2,len2,far⟩:=a7l ht I2 rx hc
  refine gq _ ?_
  refine⟨_,L2,S2,_,I2,q2,λb L3 hb3 S3 H3 I3 s3=>?_⟩
  cases b with
  | false =>
   rw[if_neg Γk] at hb3 ⊢
   exact⟨rest.length,by simp,L3,S3,ps',us',by rw[hd'],I3,r'.mono (s2.trans s3),s'.trans (s2.trans s3),len2.trans hl,λq hq=>(far n hg q hq).trans (far0 q hq),by lia,by rw[hd'];exact hb3⟩
  | true =>
   rw[if_pos rfl] at hb3 ⊢
   refine⟨_,L3,S3,_,I3,hb3,λv L4 hv u S4 H4 r4 I4 s4=>?_⟩
   obtain⟨k1,_⟩:=I4.prs (acc,.lst us') Γn
   have lr:=r'.length
   exact⟨us',k1,by lia,rest.length,by simp,L4,S4,ps'++[v],us'++[u],by rw[hd'],I4.regrow h0 hp hz,(r'.mono (s2.trans (s3.trans s4))).append (RVs.one r4),s'.trans (s2.trans (s3.trans s4)),len2.trans hl,λq hq=>(far n hg q hq).trans (far0 q hq),by simp;lia,by rw[hd'];exact hv⟩
theorem b8l {J:It}{xs:List FV}{n m:Nat}{tg:Tg}{t:BW}{it2:AW}{tg2:Tg}{t2:BW}{e:EW}{Q:VK}{Q1:List FV->a0c->Prop}(I:Iv K c md L σ S H)(hJ:ItR K c md J xs S)(hL:L.length=n)(hmd:md.length<=n)(ht:a4i md tg=true)(hg:a7t n tg=true)(ht2:a4i md tg2=true)(hg2:a7t n tg2=true)(h:b0j n m tg t it2 tg2 t2 e xs [] L Q1)
  (k:∀ acc ps L' S' H',H acc=none->Q1 ps L'->a3m K S' H' acc (.lst ps)->b0t c md L' σ acc->Iv K c md L' σ S' H'->Same S S'->Q (.ref acc) H') :
  ∀ acc,H acc=none->∃ W:Nat->Nat->Hp->Prop,(∃ m,W 0 m (upd H acc (.lst [])))/\∀ i j H,W i j H ->
   (J.stop i H/\Q (.ref acc) H) ∨ (J.go i H/\∀ x H',J.yld i H x H'->gT K tg x (σ++Γj m none) H' λσ2 H2=>Wk (σ++Γj m none) σ2/\lb K md t σ2 H2 λb H3 =>
    if b=true then tIn (liv K md it2) (gT K tg2) (lb K md t2) (lv K md e) acc σ2 H3 λσ3 H4=>Wk (σ++Γj m none) σ3/\∃ m',m'<j/\W (i+1) m' H4 else ∃ m',m'<j/\W (i+1) m' H3):=by
 intro acc hacc
 have h0:=I.h0 hacc
 have hp:∀ p∈c.pr,p.1≠acc:=(I.fresh hacc).2.1
 have hz:=I.fzp
 have hl:σ.length=n:=by rw[<- I.len];exact hL
 let W:Nat->Nat->Hp->Prop:=λi j H1=>∃ L S1 ps us,j=(xs.drop i).length/\Iv K { c with pr:=(acc,.lst us) :: c.pr } md L σ S1 H1/\RVs K S1 ps us/\Same S S1/\L.length=n/\b0j n m tg t it2 tg2 t2 e (xs.drop i) ps L Q1
 have I1:Iv K { c with pr:=(acc,.lst []) :: c.pr } md L σ S (upd H acc (.lst [])):=(I.lay hacc _).prot a0d (I.sn hacc) λj w hm hj=>(I.fresh hacc).2.2 j w (Mo.w_imm hm) hj
 refine⟨W,⟨_,L,S,[],[],rfl,I1,rfl,Same.refl S,hL,by rw[List.drop_zero];exact h⟩,?_⟩
 rintro i j H1 ⟨L,S1,ps,us,rfl,I,r,s,hL,hc⟩
 have I0:=I.unprot hz
 obtain⟨j1,j2⟩:=hJ i L σ S1 H1 I0 s
 obtain⟨g1,g2,g3⟩:=I.prs (acc,.lst us) Γn
 cases hd:xs.drop i with
 | nil =>
  left
  rw[hd] at hc
  refine⟨j1 (List.getElem?_eq_none_iff.mpr (List.drop_eq_nil_iff.mp hd)),k acc ps L S1 H1 hacc hc ⟨g2,ps,us,rfl,g1,r⟩ ⟨h0,hp,λq w hm hq hs=>?_⟩ I0 s⟩
  by_cases mo:(a0g md q).w=true
  ·exact g3 q w mo hq hs
  ·have mo:a0g md q=.frz:=by cases z:a0g md q with|imm=>exact absurd z hm|frz=>rfl|_=>rw[z] at mo;exact absurd rfl mo
   obtain⟨b,f1⟩:=I0.fzm q w mo hq
   obtain⟨_,f2,_⟩:=I0.fzs _ f1
   rw[hs] at f2;cases f2
   obtain⟨ys,f3⟩:=hz _ f1
   exact hp _ f3 rfl
 | cons p rest =>
  right
  rw[hd] at hc
  have hi:xs[i]?=some p:=by
   have:=congrArg (·[0]?) hd
   simpa using this
  have hd':xs.drop (i+1)=rest:=by
   have:=congrArg List.tail hd
   simpa[List.tail_drop] using this
  have hix:i<xs.length:=(List.getElem?_eq_some_iff.mp hi).1
  obtain⟨go,yl⟩:=j2 p hi
  refine⟨go,λx H2 y=>?_⟩
  obtain⟨S2,s2,tr,rx⟩:=yl x H2 y
  have I2:=(tr _ _ _ _ I).more m
  obtain⟨σ2,L2,gq,q2,I2,len2,far⟩:=a7l ht I2 rx hc
  have l2:n<=σ2.length:=by rw[len2,List.length_append,hl];lia
  have far':∀ q,q<n->σ2[q]?=σ[q]?:=λq hq=>by rw[far n hg q hq,List.getElem?_append_left (by rw[hl];exact hq)]
  have wk:∀ {σ3:List (Option V)},σ3.length=(σ++Γj m none).length->(∀ q,q<n->σ3[q]?=σ[q]?)->Wk (σ++Γj m none) σ3:=λ{σ3} hl3 f3=>⟨hl3,λq v hv=>by
   have hq:q<n:=by
    by_cases h:q<σ.length
    ·rw[<- hl];exact h
    ·rw[List.getElem?_append_right (by lia),List.getElem?_replicate] at hv
     split at hv<;>cases hv
   rw[List.getElem?_append_left (by rw[hl];exact hq)] at hv
   rw[f3 q hq];exact hv⟩
  refine gq _ ⟨wk len2 far',?_⟩
  refine⟨_,L2,S2,_,I2,q2,λb L3 hb3 S3 H3 I3 s3=>?_⟩
  cases b with
  | false =>
   rw[if_neg Γk] at hb3 ⊢
   exact⟨rest.length,by simp,L3.take n,S3,ps,us,by rw[hd'],I3.take hmd hl l2 far',r.mono (s2.trans s3),s.trans (s2.trans s3),by rw[List.length_take,I3.len];lia,by rw[hd'];exact hb3⟩
  | true =>
   rw[if_pos rfl] at hb3 ⊢
   refine c9z (n:=n) I3 h0 hp hz (r.mono (s2.trans s3)) ht2 hg2 hb3 λps' us' L' σ' S' H' q' I' r' s' hl' f'=>?_
   have f'':∀ q,q<n->σ'[q]?=σ[q]?:=λq hq=>(f' q hq).trans (far' q hq)
   exact⟨wk (hl'.trans len2) f'',rest.length,by simp,L'.take n,S',ps',us',by rw[hd'],I'.take hmd hl (by rw[hl'];exact l2) f'',r',s.trans (s2.trans (s3.trans s')),by rw[List.length_take,I'.len,hl'];lia,by rw[hd'];exact q'⟩
end
section
variable {X:Cx}{C:CC}{n:Nat}{sp:Γd->Nat->Sp}{pos p px:Pos}{i:Nat}{nx:Str}{fr:Bool}
variable {scope:Scope}{own:List Str}{elt tgx iter tgx2 iter2:Expr}{ifs ifs2:List Expr}{it it2:AW}{tg tg2:Tg}{t t2:BW}{e:EW}{nn m:Nat}{md':Md}
structure CompOk2 (X:Cx)(C:CC) (n:Nat)(sp:Γd->Nat->Sp)(scope:Scope)(own:List Str)(elt tgx iter:Expr)(ifs:List Expr)(tgx2 iter2:Expr)(ifs2:List Expr) (nn m:Nat)(md':Md)(it:AW)(tg:Tg)(t:BW)(it2:AW)(tg2:Tg)(t2:BW)(e:EW):Prop where
 st:(C.scOk scope own && decide (C.N.length=nn) && decide (own.length=m) && decide (md'.length<=nn) && c9j C.md md' && a4i md' tg && a7t nn tg && !b6z iter)=true
 st2:(a4i md' tg2 && a7t nn tg2 && !b6z iter2)=true
 it:FI X C md' tgx iter it
 tg:∀ X',Good X' (C.sub scope own md') n sp->FG X' tgx tg
 ts:∀ X',Good X' (C.sub scope own md') n sp->FTs X' (C.sub scope own md') ifs t
 it2:∀ X',Good X' (C.sub scope own md') n sp->FIv X' (C.sub scope own md') tgx2 iter2 it2
 tg2:∀ X',Good X' (C.sub scope own md') n sp->FG X' tgx2 tg2
 ts2:∀ X',Good X' (C.sub scope own md') n sp->FTs X' (C.sub scope own md') ifs2 t2
 el:∀ X',Good X' (C.sub scope own md') n sp->FE X' (C.sub scope own md') elt e
theorem CompOk2.run (G:Good X C n sp)(h:CompOk2 X C n sp scope own elt tgx iter ifs tgx2 iter2 ifs2 nn m md' it tg t it2 tg2 t2 e){σ:L2.St}{H:Hp}{Q:VK}(hq:lf X.K C.md (d0l nn m it tg t it2 tg2 t2 e) σ H Q):c6y (li X.K C.md md' it) (gT X.K tg) (lb X.K md' t) (liv X.K md' it2) (gT X.K tg2) (lb X.K md' t2) (lv X.K md' e) own.length σ H Q:=by
 have h0:=b2 h.st;have h1:=b2 h0.1;have h2:=b2 h1.1;have h3:=b2 h2.1;have h4:=b2 h3.1;have h5:=b2 h4.1;have h6:=b2 h5.1
 have g0:=b2 h.st2;have g1:=b2 g0.1
 obtain⟨c,L,S,Q0,I,hh,k⟩:=hq
 refine⟨c,L,S,_,I,hh,λxs L1 hx J c' S1 H1 I1 un e0 hJ s1=>?_⟩
 obtain⟨hl,hc⟩:=hx
 rw[de h5.2]
 refine b8l I1 hJ hl (de h4.2) h2.2 h1.2 g1.1 g1.2 hc λacc ps L' S' H' hn q o fr I' s'=>k _ L' q acc S' H' o ⟨by rw[<- e0];exact fr.1,((un _ _ _ _ I1).fresh hn).2.1,λj w hm=>fr.2.2 j w (a6a h3.2 j hm)⟩ (un _ _ _ _ I') (s1.trans s')
end
noncomputable def ePop (i:Nat):EW:=λL Q=>wp (lk L i) λv=>wp (a5n v) λxs=>wp (xs[xs.length-1]?) λy=>Q y (L.set i (some (.lst xs.dropLast)))
noncomputable def popI (xs:List FV) (k:Int):Option FV:=if 0<=k/\k<4611686018427387904 then xs[k.toNat]? else none
noncomputable def ePopAt (i:Nat)(a:EW):EW:=λL Q=>wp (lk L i) λv=>wp (a5n v) λ_=>a L λw L1=>wp (a3w w) λk=>wp (lk L1 i) λx=>wp (a5n x) λxs=>wp (popI xs k) λy=>Q y (L1.set i (some (.lst (xs.eraseIdx k.toNat))))
section
variable {K:Γd}{S:Hp}
end
section
variable {X:Cx}{C:CC}{n:Nat}{sp:Γd->Nat->Sp}{a:Expr}{ea:EW}{pos p:Pos}{i:Nat}{nx:Str}
end
end Kq
end
section
namespace L2
open PySem PySem.Spec PyProof.Rows
section
variable {X:Cx}{a e k:Expr}{ta te tk:TE}{pos p2:Pos}
end
end L2
namespace Kq
open PySem PySem.Spec PyProof.Rows L2
noncomputable def turnLF (v:FV):Option FV:=(a5n v).map λxs=>.lst xs.reverse
section
variable {X:Cx}{C:CC}{a:Expr}{ea:EW}{pos:Pos}
end
end Kq
end
section
namespace L2
open PySem PySem.Spec PyProof.Rows
section
variable {X:Cx}{pos:Pos}
end
end L2
namespace Kq
open PySem PySem.Spec PyProof.Rows L2
section
variable {X:Cx}{C:CC}{n:Nat}{sp:Γd->Nat->Sp}{a b d:Expr}{ea eb ed:EW}{pos px py pz:Pos}{i j l:Nat}{nx ny nz:Str}{fr:Bool}
end
end Kq
end
section
namespace Kq
open PySem PySem.Spec PyProof.Rows L2
noncomputable def eMv (j:Nat):EW:=λL Q=>wp (lk L j) λv=>Q v (L.set j none)
@[scoped simp ↓] theorem eMv_eq (j:Nat)(L:a0c)(Q:FV->a0c->Prop):eMv j L Q=wp (lk L j) λv=>Q v (L.set j none):=propext Iff.rfl
noncomputable def eCallT (call:CW) (f:Nat)(ea:EW)(as:AW):EW:=λL Q=>ea L λv L1=>as L1 λvs L2=>call f (v :: vs) λz=>Q z.1 L2
section
variable {X:Cx}{C:CC}{n:Nat}{sp:Γd->Nat->Sp}{a b:Expr}{ea eb:EW}{pos p:Pos}{call:CW}
variable {K:Γd}{c:Cn}{md:Md}{L:a0c}{σ:L2.St}{S H S' H':Hp}{i j f:Nat}{nx:Str}{xs:List Expr}{as:AW}
theorem a2e {L:a0c}{j i:Nat}{v:FV}(z:(L.set j none)[i]?=some (some v)):i≠j/\L[i]?=some (some v):=by
 by_cases q:i=j
 ·subst q
  have hj:i<L.length:=by have:=(List.getElem?_eq_some_iff.mp z).1;rwa [List.length_set] at this
  rw[List.getElem?_set_self hj] at z;cases z
 ·rw[List.getElem?_set_ne (Ne.symm q)] at z;exact⟨q,z⟩
theorem Iv.drop (I:Iv K c md L σ S H)(hm:a0g md j=.own)(hj:j≠0):Iv K c md (L.set j none) σ S H where
 len:=by rw[List.length_set];exact I.len
 imm:=λi v h e=>I.imm i v h (a2e e).2
 own:=λi v h e=>I.own i v h (a2e e).2
 dis:=λi k v w a h1 h2 e1 e2=>I.dis i k v w a h1 h2 (a2e e1).2 (a2e e2).2
 sub:=I.sub
 frame:=I.frame
 s0:=I.s0
 grow:=I.grow
 lent:=λa h=>by
  obtain⟨g1,g2,g3⟩:=I.lent a h
  rw[List.getElem?_set_ne hj];exact⟨g1,g2,g3⟩
 fzs:=λp hp=>by
  obtain⟨g1,g2,g3⟩:=I.fzs p hp
  have:p.1≠j:=λz=>by rw[z,hm] at g1;cases g1
  rw[List.getElem?_set_ne (Ne.symm this)];exact⟨g1,g2,g3⟩
 fzm:=λi v h e=>I.fzm i v h (a2e e).2
 fzp:=I.fzp
 prs:=λp hp=>let ⟨g1,g2,g3⟩:=I.prs p hp;⟨g1,g2,λi v h e=>g3 i v h (a2e e).2⟩
 ntp:=I.ntp
 lnt1:=λq hq=>by
  obtain⟨g1,g2,g3⟩:=I.lnt1 q hq
  have:q.1≠j:=λz=>by rw[z,hm] at g1;cases g1
  rw[List.getElem?_set_ne (Ne.symm this)];exact⟨g1,g2,g3⟩
 tie:=λy k x C dx fs w h1 h2 h3 h4=>I.tie y k x C dx fs w h1 h2 (a2e h3).2 (a2e h4).2
theorem d6o (G:Good X C n sp)(h:C.nm j nx=true)(m:a0g C.md j=.own)(hj:j≠0):FF X C (.Name nx p) (eMv j) :=
 PE.imp (a1f G h) λσ H Q ⟨c,L,S,Q0,I,h,k⟩=>by
  obtain⟨v,e,h⟩:=wpx h
  have e:=(a1m _ _ _).mp e
  have mi:a0g C.md j≠.imm:=λz=>by rw[m] at z;cases z
  obtain⟨l,e1,o,h0⟩:=I.own j v mi e
  refine⟨_,e1,k v _ h l S H o ⟨?_,λp hp z=>?_,λy w my ey z=>?_⟩ (I.drop m hj) (Same.refl S)⟩
  ·exact I.mine hj mi e e1 (by rw[m];rfl)
  ·obtain⟨_,_,g3⟩:=I.prs p hp
   exact g3 j v (Mo.w_own m) e (by rw[z];exact e1)
  ·obtain⟨q,ey⟩:=a2e ey
   exact q (I.dis y j w v l my mi ey e z e1)
end
noncomputable def sFrz (j:Nat)(r:SW):SW:=λL Q=>wp (lk L j) λ_=>r L λfl L'=>Q fl (L'.set j none)
section
variable {X:Cx}{C:CC}{n:Nat}{sp:Γd->Nat->Sp}{fr:Bool}{sts:List Stmt}{r:SW}
variable {K:Γd}{c:Cn}{md md':Md}{L:a0c}{σ:L2.St}{S H:Hp}{j:Nat}
end
end Kq
end
set_option maxHeartbeats 1000000
set_option maxHeartbeats 4000000
section
namespace Kq
open PySem PySem.Spec PyProof.Rows L2 PySem.W
noncomputable def gA (a:Array Keyed) (i:Nat):Keyed:=a.getD i (.none,.none)
theorem a3j {a:Array Keyed}{i:Nat}(h:i<a.size):a[i]?=some (gA a i):=by
 simp[gA,Array.getD_eq_getD_getElem?,getElem?_pos a i h]
theorem a3a {a b:Array Keyed}{i j:Nat}(h:a[i]?=b[j]?):gA a i=gA b j:=by
 simp only[gA,Array.getD_eq_getD_getElem?,h]
structure Cmp (prog:Program)(w:World)(A:Around)(E:Value->Shared->Prop)(s:Shared)(kd:SortKind)(Ok:Keyed->Prop)(lt:Keyed->Keyed->Bool):Prop where
 run:∀ x y,Ok x->Ok y->∀ (st:SortSt)(Q:Option Bool->SortSt->Prop),kindOf st=kd->Q (some (lt x y)) st->wpS (model prog w) A E s (lt' x y) Q st
 refl:∀ x,lt x x=false
 trans:∀ x y z,lt y x=false->lt z y=false->lt z x=false
 asym:∀ x y,lt x y=true->lt y x=false
noncomputable def Srt (lt:Keyed->Keyed->Bool)(a:Array Keyed) (lo hi:Nat):Prop:=∀ i j,lo<=i->i<=j->j<hi->lt (gA a j) (gA a i)=false
noncomputable def Dsc (lt:Keyed->Keyed->Bool)(a:Array Keyed) (lo hi:Nat):Prop:=∀ i j,lo<=i->i<=j->j<hi->lt (gA a i) (gA a j)=false
noncomputable def Out (a b:Array Keyed) (lo hi:Nat):Prop:=b.Perm a/\∀ k,k<lo ∨ hi<=k->gA b k=gA a k
theorem Out.refl (a:Array Keyed) (lo hi:Nat):Out a a lo hi:=⟨Array.Perm.refl _,λ_ _=>rfl⟩
theorem Out.trans {a b c:Array Keyed}{lo hi:Nat}(h:Out a b lo hi)(g:Out b c lo hi):Out a c lo hi:=⟨g.1.trans h.1,λk hk=>(g.2 k hk).trans (h.2 k hk)⟩
theorem Out.size {a b:Array Keyed}{lo hi:Nat}(h:Out a b lo hi):b.size=a.size:=h.1.size_eq
theorem Out.wide {a b:Array Keyed}{lo hi lo' hi':Nat}(h:Out a b lo hi)(h1:lo'<=lo)(h2:hi<=hi'):Out a b lo' hi':=⟨h.1,λk hk=>h.2 k (by lia)⟩
noncomputable def AllOk (Ok:Keyed->Prop)(a:Array Keyed):Prop:=∀ x∈a.toList,Ok x
theorem AllOk.at {Ok:Keyed->Prop}{a:Array Keyed}(h:AllOk Ok a){i:Nat}(hi:i<a.size):Ok (gA a i):=by
 refine h _ ?_
 have:=a3j hi
 rw[<- Array.getElem?_toList] at this
 exact List.mem_of_getElem? this
theorem AllOk.perm {Ok:Keyed->Prop}{a b:Array Keyed}(h:AllOk Ok a)(p:b.Perm a):AllOk Ok b:=λx hx=>h x ((Array.perm_iff_toList_perm.mp p).mem_iff.mp hx)
theorem Srt.out {lt:Keyed->Keyed->Bool}{a b:Array Keyed}{lo hi l h:Nat}(s:Srt lt a l h)(o:Out a b lo hi)(d:h<=lo ∨ hi<=l):Srt lt b l h:=λi j h1 h2 h3=>by
 rw[o.2 i (by lia),o.2 j (by lia)];exact s i j h1 h2 h3
theorem a4s {a:Array Keyed}{i j:Nat}(hj:j<=a.size) (k:Nat):gA (mirror a i j ((j-i) / 2)) k=if i<=k/\k<j then gA a (i+j-1-k) else gA a k:=by
 have e:=getElem?_mirror_all (i:=i) hj k
 split
 ·rename_i h;rw[if_pos h] at e;exact a3a e
 ·rename_i h;rw[if_neg h] at e;exact a3a e
theorem a2u {a:Array Keyed}{i j:Nat}(hj:j<=a.size):Out a (mirror a i j ((j-i) / 2)) i j:=⟨mirror_perm _ _ _ _,λk hk=>by rw[a4s hj,if_neg (by lia)]⟩
section
variable {prog:Program}{w:World}{A:Around}{E:Value->Shared->Prop}{s:Shared}{kd:SortKind}{Ok:Keyed->Prop}{lt:Keyed->Keyed->Bool}
abbrev stA (kd:SortKind)(a:Array Keyed)(p:Array (Nat×Nat×Nat)) (g:Nat):SortSt:=SortSt.mk' kd a p g none
theorem ask (C:Cmp prog w A E s kd Ok lt){a:Array Keyed}{p:Array (Nat×Nat×Nat)}{g i j:Nat}{Q:Option Bool->SortSt->Prop}(ho:AllOk Ok a)(hi:i<a.size)(hj:j<a.size)(h:Q (some (lt (gA a i) (gA a j))) (stA kd a p g)):wpS (model prog w) A E s (ltAt' i j) Q (stA kd a p g):=by
 rw[ltAt'_eq]
 refine wpS_bind (wpS_get ?_)
 show wpS _ _ _ _ (do let x <- elem' a i;let y <- elem' a j;lt' x y) Q _
 rw[elem'_eq,elem'_eq,a3j hi,a3j hj]
 exact wpS_bind (wpS_pure (wpS_bind (wpS_pure (C.run _ _ (ho.at hi) (ho.at hj) _ _ rfl h))))
theorem turned {a:Array Keyed}{p:Array (Nat×Nat×Nat)}{g i j:Nat}{Q:Unit->SortSt->Prop}(h:Q () (stA kd (mirror a i j ((j-i) / 2)) p g)):wpS (model prog w) A E s (reverseSlice' i j) Q (stA kd a p g):=by
 rw[reverseSlice'_eq];exact wpS_modify h
theorem d5m {a:Array Keyed}{p:Array (Nat×Nat×Nat)}{g i j:Nat}{Q:Unit->SortSt->Prop}(h:Q () (stA kd (bubble a i (i-j)) p g)):wpS (model prog w) A E s (moveDown' i j) Q (stA kd a p g):=by
 rw[moveDown'_eq];exact wpS_modify h
noncomputable def Eqv (lt:Keyed->Keyed->Bool)(a:Array Keyed) (lo hi:Nat):Prop:=∀ i j,lo<=i->i<hi->lo<=j->j<hi->lt (gA a i) (gA a j)=false
theorem a4p {a:Array Keyed}{l hi k:Nat}(hj:hi<=a.size)(hk:k<hi):∃ k',k'<hi/\gA (mirror a l hi ((hi-l) / 2)) k=gA a k'/\(k<l->k'=k)/\(l<=k->l<=k'):=by
 rw[a4s hj]
 split
 ·exact⟨l+hi-1-k,by lia,rfl,by lia,by lia⟩
 ·exact⟨k,hk,rfl,λ_=>rfl,λh=>h⟩
theorem a5d (C:Cmp prog w A E s kd Ok lt){a:Array Keyed}{lo l hi:Nat}(hj:hi<=a.size)(hd:Dsc lt a lo hi)(he:Eqv lt a l hi)(hl:lo<=l):Dsc lt (mirror a l hi ((hi-l) / 2)) lo hi:=by
 intro i j h1 h2 h3
 obtain⟨i',i1,i2,i3,i4⟩:=a4p (l:=l) hj (show i<hi by lia)
 obtain⟨j',j1,j2,j3,j4⟩:=a4p (l:=l) hj h3
 rw[i2,j2]
 by_cases hi':i<l
 ·have e:=i3 hi'
  subst e
  by_cases hj':j<l
  ·have e:=j3 hj'
   subst e
   exact hd _ _ h1 h2 h3
  ·exact hd _ _ h1 (by have:=j4 (by lia);lia) j1
 ·exact he _ _ (i4 (by lia)) i1 (j4 (by lia)) j1
theorem b3q {a:Array Keyed}{lo hi:Nat}(hj:hi<=a.size)(hd:Dsc lt a lo hi):Srt lt (mirror a lo hi ((hi-lo) / 2)) lo hi:=by
 intro i j h1 h2 h3
 rw[a4s hj,a4s hj,if_pos ⟨by lia,h3⟩,if_pos ⟨h1,by lia⟩]
 exact hd _ _ (by lia) (by lia) (by lia)
theorem b2g (C:Cmp prog w A E s kd Ok lt){b:Array Keyed}{lo x:Nat}(hs:Srt lt b lo (lo+x))(hx:1<=x)(hl:lt (gA b (lo+x)) (gA b (lo+x-1))=false):Srt lt b lo (lo+(x+1)):=by
 intro i j h1 h2 h3
 by_cases hj:j<lo+x
 ·exact hs i j h1 h2 hj
 ·have:j=lo+x:=by lia
  subst this
  by_cases hi:i=lo+x
  ·rw[hi];exact C.refl _
  ·exact C.trans _ _ _ (hs i (lo+x-1) h1 (by lia) (by lia)) hl
theorem a4t (C:Cmp prog w A E s kd Ok lt){b:Array Keyed}{lo x:Nat}(hs:Dsc lt b lo (lo+x))(hx:1<=x)(hl:lt (gA b (lo+x-1)) (gA b (lo+x))=false):Dsc lt b lo (lo+(x+1)):=by
 intro i j h1 h2 h3
 by_cases hj:j<lo+x
 ·exact hs i j h1 h2 hj
 ·have:j=lo+x:=by lia
  subst this
  by_cases hi:i=lo+x
  ·rw[hi];exact C.refl _
  ·exact C.trans _ _ _ hl (hs i (lo+x-1) h1 (by lia) (by lia))
theorem c7i (C:Cmp prog w A E s kd Ok lt){a:Array Keyed}{p:Array (Nat×Nat×Nat)}{g lo n:Nat}{Q:Option Nat->SortSt->Prop}(ho:AllOk Ok a)(h1:1<=n)(hn:lo+n<=a.size)
  (h:∀ m b,1<=m->m<=n->Out a b lo (lo+n)->Srt lt b lo (lo+m)->Q (some m) (stA kd b p g)):wpS (model prog w) A E s (countRun' lo n) Q (stA kd a p g):=by
 rw[countRun'_eq]
 refine wpS_bind (wpS_mono (wpS_forRange (I:=λx c st'=>st'=stA kd a p g/\c=(none,x)/\Srt lt a lo (lo+x))
  (Q:=λc st'=>∃ m,st'=stA kd a p g/\c=(none,m)/\1<=m/\m<=n/\Srt lt a lo (lo+m)/\(m=n ∨ lt (gA a (lo+m)) (gA a (lo+m-1))=true)) ?_ ?_ ⟨rfl,rfl,λi j h1 h2 h3=>?_⟩) ?_)
 ·rintro x c st' hx hxn ⟨rfl,rfl,hs⟩
  dsimp only
  refine wpS_bind (ask C ho (by lia) (by lia) ?_)
  cases e:lt (gA a (lo+x)) (gA a (lo+x-1)) with
  | true=>exact wpS_pure ⟨x,rfl,rfl,hx,by lia,hs,.inr e⟩
  | false=>exact wpS_pure ⟨rfl,rfl,b2g C hs hx e⟩
 ·rintro c st' ⟨rfl,rfl,hs⟩
  rw[show max 1 n=n by lia] at hs ⊢
  exact⟨n,rfl,rfl,h1,Γi _,hs,.inl rfl⟩
 ·have:i=j:=by lia
  subst this;exact C.refl _
 rintro c st' ⟨m,rfl,rfl,hm1,hmn,hs,hor⟩
 dsimp only
 by_cases hm:m=n
 ·rw[if_pos (by simpa using hm)]
  exact wpS_pure (h m a hm1 hmn (Out.refl _ _ _) hs)
 rw[if_neg (by simpa using hm)]
 have hlt:=C.asym _ _ (hor.resolve_left hm)
 have one:m=1->Dsc lt a lo (lo+(m+1)):=λe=>a4t C (by
  intro i j h1 h2 h3
  have:i=j:=by lia
  subst this;exact C.refl _) hm1 hlt
 have two:lt (gA a lo) (gA a (lo+m-1))=false->Out a (mirror a lo (lo+m) ((lo+m-lo) / 2)) lo (lo+n)/\Dsc lt (mirror a lo (lo+m) ((lo+m-lo) / 2)) lo (lo+(m+1)):=by
  intro hr
  have hall:Eqv lt a lo (lo+m):=by
   intro i j h1 h2 h3 h4
   exact C.trans _ _ _ (C.trans _ _ _ (hs j (lo+m-1) h3 (by lia) (by lia)) hr) (hs lo i (Γi _) h1 h2)
  have hsz:lo+m<=a.size:=by lia
  refine⟨(a2u hsz).wide (Γi _) (by lia),?_⟩
  refine a4t C (a5d C hsz (λi j h1 h2 h3=>hall i j h1 (by lia) (by lia) h3) hall (Γi _)) hm1 ?_
  rw[(a2u (i:=lo) hsz).2 (lo+m) (by lia)]
  obtain⟨k',k1,k2,-,k4⟩:=a4p (l:=lo) hsz (show lo+m-1<lo+m by lia)
  rw[k2]
  exact C.trans _ _ _ hlt (hall _ _ (k4 (by lia)) k1 (by lia) (by lia))
 by_cases hgt:m > 1
 rw[if_pos hgt]
 refine wpS_bind (ask C ho (by lia) (by lia) ?_)
 rcases Bool.eq_false_or_eq_true (lt (gA a lo) (gA a (lo+m-1))) with hr|hr
 rw[hr]
 exact wpS_pure (h m a hm1 hmn (Out.refl _ _ _) hs)
 rw[hr]
 refine wpS_bind (turned ?_)
 obtain⟨hb,hd⟩:=two hr
 generalize mirror a lo (lo+m) ((lo+m-lo) / 2)=b at hb hd ⊢
 rotate_left
 rw[if_neg hgt]
 have hd:=one (by lia)
 have hb:=Out.refl a lo (lo+n)
 revert hb hd
 generalize hab:stA kd a p g=sa
 suffices h:∀ b,sa=stA kd b p g->Out a b lo (lo+n)->Dsc lt b lo (lo+(m+1))->_ from λhd hb=>h a hab.symm hb hd
 rintro b rfl hb hd
 all_goals
  clear hs hor hlt one two
  have hsz:=hb.size
  refine wpS_bind (wpS_lift (wpAny_rule ⟨rfl,?_⟩))
  refine wpS_bind (wpS_mono (wpS_forRange (I:=λx c st'=>∃ b q,st'=stA kd b p g/\c=(none,x,q)/\Out a b lo (lo+n)/\Dsc lt b lo (lo+x)/\q+1<=x/\Eqv lt b (lo+x-(q+1)) (lo+x))
   (Q:=λc st'=>∃ x b q,st'=stA kd b p g/\c=(none,x,q)/\1<=x/\x<=n/\Out a b lo (lo+n)/\Dsc lt b lo (lo+x)/\q+1<=x/\Eqv lt b (lo+x-(q+1)) (lo+x)) ?_ ?_ ⟨b,0,rfl,rfl,hb,hd,by lia,?_⟩) ?_)
  ·rintro x c st' hx hxn ⟨b,q,rfl,rfl,hb,hd,hq,he⟩
   have hsz:=hb.size
   have hok:=ho.perm hb.1
   dsimp only
   refine wpS_bind (ask C hok (by lia) (by lia) ?_)
   rcases Bool.eq_false_or_eq_true (lt (gA b (lo+x)) (gA b (lo+x-1))) with hr|hr
   ·rw[hr]
    have hr':=C.asym _ _ hr
    have e0:∀ b':Array Keyed,Eqv lt b' (lo+(x+1)-(0+1)) (lo+(x+1)):=λb' i j h1 h2 h3 h4=>by
     have:i=j:=by lia
     subst this;exact C.refl _
    simp only[if_true]
    by_cases h0:q > 0
    ·rw[if_pos h0]
     refine wpS_bind (turned (wpS_pure ?_))
     have hs2:lo+x<=b.size:=by lia
     have hom:=a2u (i:=lo+x-(q+1)) hs2
     refine⟨_,0,rfl,rfl,hb.trans (hom.wide (by lia) (by lia)),?_,by lia,e0 _⟩
     refine a4t C (a5d C hs2 hd he (by lia)) (by lia) ?_
     rw[hom.2 (lo+x) (by lia)]
     obtain⟨k',k1,k2,-,k4⟩:=a4p (l:=lo+x-(q+1)) hs2 (show lo+x-1<lo+x by lia)
     rw[k2]
     exact C.trans _ _ _ hr' (hd _ _ (by have:=k4 (by lia);lia) (by lia) (by lia))
    ·rw[if_neg h0]
     exact wpS_pure ⟨b,0,rfl,rfl,hb,a4t C hd (by lia) hr',by lia,e0 _⟩
   ·rw[hr]
    simp only[Γp,if_false]
    refine wpS_bind (ask C hok (by lia) (by lia) ?_)
    rcases Bool.eq_false_or_eq_true (lt (gA b (lo+x-1)) (gA b (lo+x))) with hr2|hr2
    ·rw[hr2]
     exact wpS_pure ⟨x,b,q,rfl,rfl,by lia,by lia,hb,hd,hq,he⟩
    ·rw[hr2]
     refine wpS_pure ⟨b,q+1,rfl,rfl,hb,a4t C hd (by lia) hr2,by lia,λi j h1 h2 h3 h4=>?_⟩
     by_cases hi:i=lo+x
     ·by_cases hj:j=lo+x
      ·rw[hi,hj];exact C.refl _
      ·rw[hi]
       exact C.trans _ _ _ (he (lo + x - 1) j (by lia) (by lia) (by lia) (by lia)) hr
     ·by_cases hj:j=lo+x
      ·rw[hj]
       exact C.trans _ _ _ hr2 (he i (lo + x - 1) (by lia) (by lia) (by lia) (by lia))
      ·exact he i j (by lia) (by lia) (by lia) (by lia)
  ·rintro c st' ⟨b,q,rfl,rfl,hb,hd,hq,he⟩
   rw[show max (m+1) n=n by lia] at *
   exact⟨n,b,q,rfl,rfl,h1,Γi _,hb,hd,hq,he⟩
  ·intro i j h1 h2 h3 h4
   have:i=j:=by lia
   subst this;exact C.refl _
  rintro c st' ⟨x,b,q,rfl,rfl,hx1,hxn,hb,hd,hq,he⟩
  have hsz:=hb.size
  have hs2:lo+x<=b.size:=by lia
  dsimp only
  by_cases h0:q > 0
  rw[if_pos h0]
  refine wpS_bind (turned ?_)
  have hb2:=hb.trans ((a2u (i:=lo+x-(q+1)) hs2).wide (show lo<=lo+x-(q+1) by lia) (show lo+x<=lo+n by lia))
  have hd2:=a5d C hs2 hd he (show lo<=lo+x-(q+1) by lia)
  clear hb hd he hsz hs2
  generalize mirror b (lo+x-(q+1)) (lo+x) ((lo+x-(lo+x-(q+1))) / 2)=b2 at hb2 hd2 ⊢
  rotate_left
  rw[if_neg h0]
  have hb2:=hb
  have hd2:=hd
  clear hb hd he hsz hs2
  generalize b=b2 at hb2 hd2 ⊢
  all_goals
   have hsz:=hb2.size
   have hs2:lo+x<=b2.size:=by lia
   refine wpS_bind (turned ?_)
   have hb3:=hb2.trans ((a2u (i:=lo) hs2).wide (Γi lo) (show lo+x<=lo+n by lia))
   have hs3:=b3q hs2 hd2
   generalize mirror b2 lo (lo+x) ((lo+x-lo) / 2)=b3 at hb3 hs3 ⊢
   have hok:=ho.perm hb3.1
   have hsz3:=hb3.size
   refine wpS_bind (wpS_mono (wpS_forRange (I:=λx c st'=>st'=stA kd b3 p g/\c=(none,x)/\Srt lt b3 lo (lo+x))
    (Q:=λc st'=>∃ m,st'=stA kd b3 p g/\c=(none,m)/\1<=m/\m<=n/\Srt lt b3 lo (lo+m)) ?_ ?_ ⟨rfl,rfl,hs3⟩) ?_)
   ·rintro y c st' hy hyn ⟨rfl,rfl,hs⟩
    dsimp only
    refine wpS_bind (ask C hok (by lia) (by lia) ?_)
    rcases Bool.eq_false_or_eq_true (lt (gA b3 (lo+y)) (gA b3 (lo+y-1))) with e|e
    ·rw[e];exact wpS_pure ⟨y,rfl,rfl,by lia,by lia,hs⟩
    ·rw[e];exact wpS_pure ⟨rfl,rfl,b2g C hs (by lia) e⟩
   ·rintro c st' ⟨rfl,rfl,hs⟩
    rw[show max x n=n by lia] at hs ⊢
    exact⟨n,rfl,rfl,h1,Γi _,hs⟩
   ·rintro c st' ⟨y,rfl,rfl,hy1,hyn,hs⟩
    exact wpS_pure (h y b3 hy1 hyn hb3 hs)
end
section
variable {prog:Program}{w:World}{A:Around}{E:Value->Shared->Prop}{s:Shared}{kd:SortKind}{Ok:Keyed->Prop}{lt:Keyed->Keyed->Bool}
theorem a6f {a:Array Keyed}{i d:Nat}(hi:i<a.size)(hd:d<=i) (k:Nat):gA (bubble a i d) k=if k=i-d then gA a i else if i-d<k/\k<=i then gA a (k-1) else gA a k:=by
 have e:=getElem?_bubble hi d hd k
 split
 ·rename_i h;rw[if_pos h] at e;exact a3a e
 ·rename_i h
  rw[if_neg h] at e
  split
  ·rename_i h2;rw[if_pos h2] at e;exact a3a e
  ·rename_i h2;rw[if_neg h2] at e;exact a3a e
theorem c9y (C:Cmp prog w A E s kd Ok lt){a:Array Keyed}{p:Array (Nat×Nat×Nat)}{g lo n ok:Nat}{Q:Bool->SortSt->Prop}(ho:AllOk Ok a)(h1:1<=ok)(hk:ok<=n)(hn:lo+n<=a.size)(hs:Srt lt a lo (lo+ok))
  (h:∀ b,Out a b lo (lo+n)->Srt lt b lo (lo+n)->Q true (stA kd b p g)):wpS (model prog w) A E s (binarySort' lo n ok) Q (stA kd a p g):=by
 rw[binarySort'_eq]
 refine wpS_bind (wpS_mono (wpS_forRange (I:=λk c st'=>∃ b,st'=stA kd b p g/\c=(none,())/\Out a b lo (lo+n)/\Srt lt b lo (lo+k))
  (Q:=λc st'=>∃ b,st'=stA kd b p g/\c=(none,())/\Out a b lo (lo+n)/\Srt lt b lo (lo+n)) ?_ ?_ ⟨a,rfl,rfl,Out.refl _ _ _,by rw[show max ok 1=ok by lia];exact hs⟩) ?_)
 ·rintro k c st' hk1 hkn ⟨b,rfl,rfl,hb,hs⟩
  have hsz:=hb.size
  have hok:=ho.perm hb.1
  dsimp only
  refine wpS_bind (wpS_mono (wpS_forRange (I:=λj c st'=>∃ l r,st'=stA kd b p g/\c=(none,l,r)/\l<=r/\r<=k/\r-l<=k-j/\(∀ i,i<l->lt (gA b (lo+k)) (gA b (lo+i))=false)/\∀ i,r<=i->i<k->lt (gA b (lo+i)) (gA b (lo+k))=false)
   (Q:=λc st'=>∃ l r,st'=stA kd b p g/\c=(none,l,r)/\l<=k/\(∀ i,i<l->lt (gA b (lo+k)) (gA b (lo+i))=false)/\∀ i,l<=i->i<k->lt (gA b (lo+i)) (gA b (lo+k))=false) ?_ ?_ ⟨0,k,rfl,rfl,by lia,by lia,by lia,λi hi=>by lia,λi h1 h2=>by lia⟩) ?_)
  ·rintro j c st'-hj ⟨l,r,rfl,rfl,hlr,hrk,hm,g1,g2⟩
   dsimp only
   by_cases hge:l ≥ r
   ·rw[if_pos hge]
    exact wpS_pure ⟨l,r,rfl,rfl,by lia,g1,λi h1 h2=>g2 i (by lia) h2⟩
   ·rw[if_neg hge]
    refine wpS_bind (ask C hok (by lia) (by lia) ?_)
    rcases Bool.eq_false_or_eq_true (lt (gA b (lo+k)) (gA b (lo+(l+r) / 2))) with e|e
    ·rw[e]
     have e':=C.asym _ _ e
     refine wpS_pure ⟨l,(l+r) / 2,rfl,rfl,by lia,by lia,by lia,g1,λi h1 h2=>?_⟩
     exact C.trans _ _ _ e' (hs _ _ (by lia) (by lia) (by lia))
    ·rw[e]
     refine wpS_pure ⟨(l+r) / 2+1,r,rfl,rfl,by lia,by lia,by lia,λi hi=>?_,g2⟩
     exact C.trans _ _ _ (hs (lo+i) (lo+(l+r) / 2) (by lia) (by lia) (by lia)) e
  ·rintro c st' ⟨l,r,rfl,rfl,hlr,hrk,hm,g1,g2⟩
   rw[show max 0 k=k by lia] at hm
   exact⟨l,r,rfl,rfl,by lia,g1,λi h1 h2=>g2 i (by lia) h2⟩
  ·rintro c st' ⟨l,r,rfl,rfl,hlk,g1,g2⟩
   dsimp only
   refine wpS_bind (d5m (wpS_pure ?_))
   have hi:lo+k<b.size:=by lia
   have hd:lo+k-(lo+l)<=lo+k:=by lia
   refine⟨_,rfl,rfl,hb.trans ⟨bubble_perm _ _ _,λx hx=>?_⟩,λi j h1 h2 h3=>?_⟩
   ·rw[a6f hi hd,if_neg (by lia),if_neg (by lia)]
   ·rw[a6f hi hd,a6f hi hd]
    have el:lo+k-(lo+k-(lo+l))=lo+l:=by lia
    rw[el]
    by_cases j1:j=lo+l
    ·rw[if_pos j1]
     by_cases i1:i=lo+l
     ·rw[if_pos i1];exact C.refl _
     ·rw[if_neg i1,if_neg (by lia)]
      have:=g1 (i-lo) (by lia)
      rwa [show lo+(i-lo)=i by lia] at this
    ·rw[if_neg j1]
     by_cases i1:i=lo+l
     ·rw[if_pos i1,if_pos (by lia)]
      have:=g2 (j-1-lo) (by lia) (by lia)
      rwa [show lo+(j-1-lo)=j-1 by lia] at this
     ·rw[if_neg i1]
      by_cases j2:lo+l<j/\j<=lo+k
      ·rw[if_pos j2]
       by_cases i2:lo + l < i/\i<=lo + k
       ·rw [if_pos i2]; exact hs _ _ (by lia) (by lia) (by lia)
       ·rw [if_neg i2]; exact hs _ _ (by lia) (by lia) (by lia)
      ·rw[if_neg j2,if_neg (by lia)]
       exact hs _ _ (by lia) (by lia) (by lia)
 ·rintro c st' ⟨b,rfl,rfl,hb,hs⟩
  rw[show max (max ok 1) n=n by lia] at hs
  exact⟨b,rfl,rfl,hb,hs⟩
 ·rintro c st' ⟨b,rfl,rfl,hb,hs⟩
  exact wpS_pure (h b hb hs)
end
noncomputable def gal:Bool->Keyed->Array Keyed->Nat->Nat->Nat->StateT SortSt Sem (Option Nat):=sortPriv% PySem.Builtin.gallop
theorem d0d (f:Bool)(k:Keyed)(r:Array Keyed) (b n h:Nat):gal f k r b n h=(do
 let yon (i:Nat):StateT SortSt Sem (Option Bool):=do
  let x <- elem' r (b+i);if f then lt' x k else return (<- lt' k x).map (!·)
 let mut z:=0;let mut o:=1;let mut u:=0;let mut v:=0
 let some c <- yon h|return none
 if c then
  let m:=n-h
  for _ in [0:n] do
   if o ≥ m then break
   let some t <- yon (h+o)|return none
   if !t then break
   z:=o;o:=2*o+1
  u:=h+z+1;v:=h+min o m
 else
  let m:=h+1
  for _ in [0:n] do
   if o ≥ m then break
   let some t <- yon (h-o)|return none
   if t then break
   z:=o;o:=2*o+1
  u:=h+1-min o m;v:=h-z
 for _ in [0:n] do
  if u ≥ v then break
  let m:=u+(v-u) / 2
  let some t <- yon m|return none
  if t then u:=m+1 else v:=m
 return some v):=rfl
section
variable {prog:Program}{w:World}{A:Around}{E:Value->Shared->Prop}{s:Shared}{kd:SortKind}{Ok:Keyed->Prop}{lt:Keyed->Keyed->Bool}
noncomputable def a2y (lt:Keyed->Keyed->Bool)(f:Bool)(k:Keyed)(r:Array Keyed) (b i:Nat):Bool:=if f=true then lt (gA r (b+i)) k else !lt k (gA r (b+i))
theorem a7k (C:Cmp prog w A E s kd Ok lt){f:Bool}{k:Keyed}{r:Array Keyed}{b n h:Nat}{st:SortSt}{Q:Option Nat->SortSt->Prop}(hst:kindOf st=kd)(ho:AllOk Ok r)(hk:Ok k)(hn:b+n<=r.size)(hh:h<n)
  (hm:∀ i j,i<=j->j<n->a2y lt f k r b j=true->a2y lt f k r b i=true)
  (q:∀ t,t<=n->(∀ i,i<t->a2y lt f k r b i=true)->(∀ i,t<=i->i<n->a2y lt f k r b i=false)->Q (some t) st):wpS (model prog w) A E s (gal f k r b n h) Q st:=by
 have yon:∀ i,i<n->∀ {Q:Option Bool->SortSt->Prop},Q (some (a2y lt f k r b i)) st->wpS (model prog w) A E s (do let x <- elem' r (b+i);if f=true then lt' x k else do let y <- lt' k x;pure (y.map (!·))) Q st:=by
  intro i hi Q q
  rw[elem'_eq,a3j (show b+i<r.size by lia)]
  refine wpS_bind (wpS_pure ?_)
  have hx:=ho.at (show b+i<r.size by lia)
  unfold a2y at q
  cases f with
  | true=>simp only[if_true] at q ⊢;exact C.run _ _ hx hk _ _ hst q
  | false =>
   simp only[Γp,if_false] at q ⊢
   exact wpS_bind (C.run _ _ hk hx _ _ hst (wpS_pure q))
 rw[d0d]
 dsimp only
 refine wpS_bind (yon h hh ?_)
 have low:∀ i j,i<=j->j<n->a2y lt f k r b i=false->a2y lt f k r b j=false:=λi j h1 h2 h3=>by
  cases e:a2y lt f k r b j with
  | false=>rfl
  | true=>rw[hm i j h1 h2 e] at h3;cases h3
 rcases Bool.eq_false_or_eq_true (a2y lt f k r b h) with c|c
 rw[c]
 simp only[if_true]
 refine wpS_bind (wpS_mono (wpS_forRange (I:=λj c st'=>∃ z o,st'=st/\c=(none,z,o)/\z<o/\j+1<=o/\h+z<n/\a2y lt f k r b (h+z)=true)
  (Q:=λc st'=>∃ z o,st'=st/\c=(none,z,o)/\z<o/\h+z<n/\a2y lt f k r b (h+z)=true/\(n-h<=o ∨ a2y lt f k r b (h+o)=false)) ?_ ?_ ⟨0,1,rfl,rfl,by lia,by lia,by lia,c⟩) ?_)
 ·rintro j c st'-hj ⟨z,o,rfl,rfl,h1,h2,h3,h4⟩
  dsimp only
  by_cases hge:o ≥ n-h
  ·rw[if_pos hge]
   exact wpS_pure ⟨z,o,rfl,rfl,h1,h3,h4,.inl hge⟩
  ·rw[if_neg hge]
   refine wpS_bind (yon (h+o) (by lia) ?_)
   rcases Bool.eq_false_or_eq_true (a2y lt f k r b (h+o)) with e|e
   ·rw[e]
    exact wpS_pure ⟨o,2*o+1,rfl,rfl,by lia,by lia,by lia,e⟩
   ·rw[e]
    exact wpS_pure ⟨z,o,rfl,rfl,h1,h3,h4,.inr e⟩
 ·rintro c st' ⟨z,o,rfl,rfl,h1,h2,h3,h4⟩
  exact⟨z,o,rfl,rfl,h1,h3,h4,.inl (by lia)⟩
 rintro c' st' ⟨z,o,hse,rfl,h1,h3,h4,h5⟩
 rw[hse]
 clear hse
 dsimp only
 obtain⟨u,hu⟩:∃ u,u=h+z+1:=⟨_,rfl⟩
 obtain⟨v,hv⟩:∃ v,v=h+min o (n-h):=⟨_,rfl⟩
 have huv:u<=v:=by lia
 have hvn:v<=n:=by lia
 have hlo:∀ i,i<u->a2y lt f k r b i=true:=λi hi=>hm i (h+z) (by lia) h3 h4
 have hhi:∀ i,v<=i->i<n->a2y lt f k r b i=false:=λi h6 h7=>by
  rcases h5 with h5|h5
  ·lia
  ·exact low (h+o) i (by lia) h7 h5
 rw[<- hu,<- hv]
 clear hu hv h1 h3 h4 h5 c
 rotate_left
 rw[c]
 simp only[Γp,if_false]
 refine wpS_bind (wpS_mono (wpS_forRange (I:=λj c st'=>∃ z o,st'=st/\c=(none,z,o)/\z<o/\j+1<=o/\z<=h/\a2y lt f k r b (h-z)=false)
  (Q:=λc st'=>∃ z o,st'=st/\c=(none,z,o)/\z<o/\z<=h/\a2y lt f k r b (h-z)=false/\(h+1<=o ∨ o<=h/\a2y lt f k r b (h-o)=true)) ?_ ?_ ⟨0,1,rfl,rfl,by lia,by lia,by lia,c⟩) ?_)
 ·rintro j c st'-hj ⟨z,o,rfl,rfl,h1,h2,h3,h4⟩
  dsimp only
  by_cases hge:o ≥ h+1
  ·rw[if_pos hge]
   exact wpS_pure ⟨z,o,rfl,rfl,h1,h3,h4,.inl hge⟩
  ·rw[if_neg hge]
   refine wpS_bind (yon (h-o) (by lia) ?_)
   rcases Bool.eq_false_or_eq_true (a2y lt f k r b (h-o)) with e|e
   ·rw[e]
    exact wpS_pure ⟨z,o,rfl,rfl,h1,h3,h4,.inr ⟨by lia,e⟩⟩
   ·rw[e]
    exact wpS_pure ⟨o,2*o+1,rfl,rfl,by lia,by lia,by lia,e⟩
 ·rintro c st' ⟨z,o,rfl,rfl,h1,h2,h3,h4⟩
  exact⟨z,o,rfl,rfl,h1,h3,h4,.inl (by lia)⟩
 rintro c' st' ⟨z,o,hse,rfl,h1,h3,h4,h5⟩
 rw[hse]
 clear hse
 dsimp only
 obtain⟨u,hu⟩:∃ u,u=h+1-min o (h+1):=⟨_,rfl⟩
 obtain⟨v,hv⟩:∃ v,v=h-z:=⟨_,rfl⟩
 have huv:u<=v:=by lia
 have hvn:v<=n:=by lia
 have hlo:∀ i,i<u->a2y lt f k r b i=true:=λi hi=>by
  rcases h5 with h5|h5
  ·lia
  ·exact hm i (h-o) (by lia) (by lia) h5.2
 have hhi:∀ i,v<=i->i<n->a2y lt f k r b i=false:=λi h6 h7=>low (h-z) i (by lia) h7 h4
 rw[<- hu,<- hv]
 clear hu hv h1 h3 h4 h5 c
 all_goals
  refine wpS_bind (wpS_mono (wpS_forRange (I:=λj c st'=>∃ u v,st'=st/\c=(none,u,v)/\u<=v/\v<=n/\v-u<=n-j/\(∀ i,i<u->a2y lt f k r b i=true)/\∀ i,v<=i->i<n->a2y lt f k r b i=false)
   (Q:=λc st'=>∃ v,st'=st/\c=(none,v,v)/\v<=n/\(∀ i,i<v->a2y lt f k r b i=true)/\∀ i,v<=i->i<n->a2y lt f k r b i=false) ?_ ?_ ⟨u,v,rfl,rfl,huv,hvn,by lia,hlo,hhi⟩) ?_)
  ·rintro j c st'-hj ⟨u,v,rfl,rfl,huv,hvn,hme,hlo,hhi⟩
   dsimp only
   by_cases hge:u ≥ v
   ·rw[if_pos hge]
    have:u=v:=by lia
    subst this
    exact wpS_pure ⟨u,rfl,rfl,hvn,hlo,hhi⟩
   ·rw[if_neg hge]
    refine wpS_bind (yon (u+(v-u) / 2) (by lia) ?_)
    rcases Bool.eq_false_or_eq_true (a2y lt f k r b (u+(v-u) / 2)) with e|e
    ·rw[e]
     exact wpS_pure ⟨_,v,rfl,rfl,by lia,hvn,by lia,λi hi=>hm i _ (by lia) (by lia) e,hhi⟩
    ·rw[e]
     exact wpS_pure ⟨u,_,rfl,rfl,by lia,by lia,by lia,hlo,λi h1 h2=>low _ i h1 h2 e⟩
  ·rintro c st' ⟨u,v,rfl,rfl,huv,hvn,hme,hlo,hhi⟩
   have:u=v:=by lia
   subst this
   exact⟨u,rfl,rfl,hvn,hlo,hhi⟩
  ·rintro c st' ⟨v,rfl,rfl,hvn,hlo,hhi⟩
   exact wpS_pure (q v hvn hlo hhi)
end
abbrev Asc {α:Type}(lt:α->α->Bool)(l:List α):Prop:=l.Pairwise λx y=>lt y x=false
structure MI {α:Type}(lt:α->α->Bool)(X Y O:List α) (i j:Nat):Prop where
 perm:O.Perm (X.take i++Y.take j)
 srt:Asc lt O
 bef:∀ x∈O,∀ y∈X.drop i++Y.drop j,lt y x=false
section
variable {α:Type}{lt:α->α->Bool}{X Y O:List α}{i j k:Nat}
noncomputable def Hid (p:Prop):Prop:=p
theorem c6k {T g:Prop}(rest:Hid T->g)(pf:T):g:=rest pf
theorem MI.swap (h:MI lt X Y O i j):MI lt Y X O j i:=⟨h.perm.trans List.perm_append_comm,h.srt,λx hx y hy=>h.bef x hx y (by simpa[or_comm] using hy)⟩
theorem MI.more (h:MI lt X Y O i j)(hX:Asc lt X)(hc:∀ x∈(X.drop i).take k,∀ y∈Y.drop j,lt y x=false):MI lt X Y (O++(X.drop i).take k) (i+k) j:=by
 have hsub:X.drop i=(X.drop i).take k++X.drop (i+k):=by rw[<- List.drop_drop,List.take_append_drop]
 have hXd:Asc lt (X.drop i):=hX.sublist (List.drop_sublist _ _)
 rw[hsub] at hXd
 obtain⟨s1,s2,s3⟩:=List.pairwise_append.mp hXd
 refine⟨?_,?_,λx hx y hy=>?_⟩
 ·rw[List.take_add,List.append_assoc]
  refine (h.perm.append_right _).trans ?_
  rw[List.append_assoc]
  exact List.Perm.append_left _ List.perm_append_comm
 ·refine List.pairwise_append.mpr ⟨h.srt,s1,λx hx y hy=>h.bef x hx y (List.mem_append_left _ (List.mem_of_mem_take hy))⟩
 ·rcases List.mem_append.mp hx with hx|hx
  ·refine h.bef x hx y ?_
   rcases List.mem_append.mp hy with hy|hy
   ·rw[hsub];exact List.mem_append_left _ (List.mem_append_right _ hy)
   ·exact List.mem_append_right _ hy
  ·rcases List.mem_append.mp hy with hy|hy
   ·exact s3 x hx y hy
   ·exact hc x hx y hy
theorem a7v (h:i<X.length):(X.drop i).take 1=[X[i]]:=by rw[List.drop_eq_getElem_cons h,List.take_succ_cons,List.take_zero]
noncomputable def Mrg (lt:α->α->Bool)(X Y R:List α):Prop:=R.Perm (X++Y)/\Asc lt R
theorem MI.fin (h:MI lt X Y O i j)(hX:Asc lt X)(hY:Asc lt Y)(hc:∀ x∈X.drop i,∀ y∈Y.drop j,lt y x=false):Mrg lt X Y (O++X.drop i++Y.drop j):=by
 refine⟨?_,?_⟩
 ·have h1:=(h.perm.append_right (X.drop i)).append_right (Y.drop j)
  refine h1.trans ?_
  have:(X.take i++Y.take j++X.drop i++Y.drop j).Perm (X.take i++X.drop i++(Y.take j++Y.drop j)):=by
   rw[List.append_assoc (X.take i),List.append_assoc (X.take i),List.append_assoc (X.take i)]
   refine List.Perm.append_left _ ?_
   rw[<- List.append_assoc (X.drop i)]
   exact List.perm_append_comm.append_right _
  rwa [List.take_append_drop,List.take_append_drop] at this
 ·refine List.pairwise_append.mpr ⟨List.pairwise_append.mpr ⟨h.srt,hX.sublist (List.drop_sublist _ _),λx hx y hy=>h.bef x hx y (List.mem_append_left _ hy)⟩,hY.sublist (List.drop_sublist _ _),λx hx y hy=>?_⟩
  rcases List.mem_append.mp hx with hx|hx
  ·exact h.bef x hx y (List.mem_append_right _ hy)
  ·exact hc x hx y hy
theorem Mrg.swap {R:List α}(h:Mrg lt X Y R):Mrg lt Y X R:=⟨h.1.trans List.perm_append_comm,h.2⟩
theorem a2z {x:α}(h:x∈X.drop i):∃ k,∃ hk:k<X.length,i<=k/\X[k]=x:=by
 obtain⟨m,hm,e⟩:=List.mem_iff_getElem.mp h
 rw[List.getElem_drop] at e
 exact⟨i+m,by simp at hm;lia,by lia,e⟩
theorem a3r {x:α}(h:x∈(X.drop i).take k):∃ m,∃ hm:m<X.length,i<=m/\m<i+k/\X[m]=x:=by
 obtain⟨m,hm,e⟩:=List.mem_iff_getElem.mp h
 rw[List.getElem_take,List.getElem_drop] at e
 simp at hm
 exact⟨i+m,by lia,by lia,by lia,e⟩
end
theorem a0i {a:Array Keyed}{i:Nat}(h:i<a.toList.length):gA a i=a.toList[i]:=by
 have:=a3j (a:=a) (i:=i) (by simpa using h)
 rw[<- Array.getElem?_toList,List.getElem?_eq_getElem h] at this
 exact (Option.some.inj this).symm
section
variable {lt:Keyed->Keyed->Bool}{x y o:Array Keyed}{i j k:Nat}
abbrev MA (lt:Keyed->Keyed->Bool)(x y o:Array Keyed) (i j:Nat):Prop:=MI lt x.toList y.toList o.toList i j
theorem a2h (x:Array Keyed) (i j:Nat):(x.extract i j).toList=(x.toList.drop i).take (j-i):=by
 rw[Array.toList_extract,List.extract_eq_take_drop]
theorem b3b (x:Array Keyed) (i:Nat):(x.extract i x.size).toList=x.toList.drop i:=by
 rw[a2h,List.take_of_length_le (by simp)]
theorem MA.moreX (h:MA lt x y o i j)(hX:Asc lt x.toList)(hc:∀ m m',i<=m->m<i+k->m<x.size->j<=m'->m'<y.size->lt (gA y m') (gA x m)=false):MA lt x y (o++x.extract i (i+k)) (i+k) j:=by
 have:=MI.more (k:=k) h hX λu hu v hv=>by
  obtain⟨m,hm,m1,m2,rfl⟩:=a3r hu
  obtain⟨m',hm',n1,rfl⟩:=a2z hv
  rw[<- a0i hm,<- a0i hm']
  exact hc m m' m1 m2 (by simpa using hm) n1 (by simpa using hm')
 unfold MA
 rw[Array.toList_append,a2h,show i+k-i=k by lia]
 exact this
theorem MA.swap (h:MA lt x y o i j):MA lt y x o j i:=MI.swap h
theorem MA.pushX (h:MA lt x y o i j)(hX:Asc lt x.toList)(hi:i<x.size)(hc:∀ m',j<=m'->m'<y.size->lt (gA y m') (gA x i)=false):MA lt x y (o.push (gA x i)) (i+1) j:=by
 have hl:i<x.toList.length:=by simpa using hi
 have:=MI.more (k:=1) h hX λu hu v hv=>by
  rw[a7v hl] at hu
  rw[List.mem_singleton] at hu
  subst hu
  obtain⟨m',hm',n1,rfl⟩:=a2z hv
  rw[<- a0i hl,<- a0i hm']
  exact hc m' n1 (by simpa using hm')
 unfold MA
 rw[Array.toList_push,a0i hl,<- a7v hl]
 exact this
theorem MA.pushY (h:MA lt x y o i j)(hY:Asc lt y.toList)(hj:j<y.size)(hc:∀ m',i<=m'->m'<x.size->lt (gA x m') (gA y j)=false):MA lt x y (o.push (gA y j)) i (j+1):=(h.swap.pushX hY hj hc).swap
theorem MA.moreY (h:MA lt x y o i j)(hY:Asc lt y.toList)(hc:∀ m m',j<=m->m<j+k->m<y.size->i<=m'->m'<x.size->lt (gA x m') (gA y m)=false):MA lt x y (o++y.extract j (j+k)) i (j+k):=(h.swap.moreX hY hc).swap
theorem MA.fin (h:MA lt x y o i j)(hX:Asc lt x.toList)(hY:Asc lt y.toList)(hc:∀ m m',i<=m->m<x.size->j<=m'->m'<y.size->lt (gA y m') (gA x m)=false):Mrg lt x.toList y.toList (o++x.extract i x.size++y.extract j y.size).toList:=by
 rw[Array.toList_append,Array.toList_append,b3b,b3b]
 refine MI.fin h hX hY λu hu v hv=>?_
 obtain⟨m,hm,m1,rfl⟩:=a2z hu
 obtain⟨m',hm',n1,rfl⟩:=a2z hv
 rw[<- a0i hm,<- a0i hm']
 exact hc m m' m1 (by simpa using hm) n1 (by simpa using hm')
theorem MA.fin2 (h:MA lt x y o i j)(hX:Asc lt x.toList)(hY:Asc lt y.toList)(hc:∀ m m',i<=m->m<x.size->j<=m'->m'<y.size->lt (gA x m) (gA y m')=false):Mrg lt x.toList y.toList (o++y.extract j y.size++x.extract i x.size).toList:=(h.swap.fin hY hX λm m' h1 h2 h3 h4=>hc m' m h3 h4 h1 h2).swap
theorem b3m (hX:Asc lt x.toList)(hr:∀ u,lt u u=false)(hij:i<=j)(hj:j<x.size):lt (gA x j) (gA x i)=false:=by
 by_cases e:i=j
 ·subst e;exact hr _
 ·have hl:j<x.toList.length:=by simpa using hj
  rw[a0i hl,a0i (show i<x.toList.length by lia)]
  exact List.pairwise_iff_getElem.mp hX i j (by lia) hl (by lia)
end
noncomputable def mLo:Array Keyed->Array Keyed->StateT SortSt Sem (Array Keyed):=sortPriv% PySem.Builtin.mergeLo
noncomputable def c7h:Nat->StateT SortSt Sem Unit:=sortPriv% PySem.Builtin.setMinGallop
theorem a4y (n:Nat):c7h n=modify λs=>SortSt.mk' (kindOf s) (arrOf s) (pendingOf s) n (failedOf s):=rfl
theorem c9l (x y:Array Keyed):mLo x y=(do
 rule "list.sort.merge-lo"
 let N:=x.size+y.size
 let fin (o:Array Keyed) (i j:Nat):=o++x.extract i x.size++y.extract j y.size
 let lst (o:Array Keyed) (i j:Nat):=o++y.extract j y.size++x.extract i x.size
 let mut o:Array Keyed:=#[<- elem' y 0]
 let mut i:=0;let mut j:=1
 if j == y.size then return fin o i j
 if i+1 == x.size then return lst o i j
 let mut G:=gallopOf (<- get)
 for _ in [0:N] do
  let mut c:=0;let mut d:=0
  for _ in [0:N] do
   let some t <- lt' (<- elem' y j) (<- elem' x i)|return fin o i j
   if t then
    o:=o.push (<- elem' y j);j:=j+1;d:=d+1;c:=0
    if j == y.size then return fin o i j
    if d ≥ G then break
   else
    o:=o.push (<- elem' x i);i:=i+1;c:=c+1;d:=0
    if i+1 == x.size then return lst o i j
    if c ≥ G then break
  rule "list.sort.gallop"
  G:=G+1
  for _ in [0:N] do
   if G > 1 then G:=G-1
   c7h G
   let some k <- gal false (<- elem' y j) x i (x.size-i) 0|return fin o i j
   c:=k
   if k > 0 then
    o:=o++x.extract i (i+k);i:=i+k
    if i+1 == x.size then return lst o i j
    if i == x.size then return fin o i j
   o:=o.push (<- elem' y j);j:=j+1
   if j == y.size then return fin o i j
   let some k <- gal true (<- elem' x i) y j (y.size-j) 0|return fin o i j
   d:=k
   if k > 0 then
    o:=o++y.extract j (j+k);j:=j+k
    if j == y.size then return fin o i j
   o:=o.push (<- elem' x i);i:=i+1
   if i+1 == x.size then return lst o i j
   if c<7 && d<7 then break
  G:=G+1
  c7h G
 unsupported "internal:list.sort.merge-bound"):=rfl
section
variable {prog:Program}{w:World}{A:Around}{E:Value->Shared->Prop}{s:Shared}{kd:SortKind}{Ok:Keyed->Prop}{lt:Keyed->Keyed->Bool}
theorem c9k (C:Cmp prog w A E s kd Ok lt){a x y:Array Keyed}{p:Array (Nat×Nat×Nat)}{g:Nat}{Q:Array Keyed->SortSt->Prop}(hx:AllOk Ok x)(hy:AllOk Ok y)(nx:1<=x.size)(ny:1<=y.size)(sx:Asc lt x.toList)(sy:Asc lt y.toList)
  (hf:lt (gA x 0) (gA y 0)=false)(hl:∀ j,j<y.size->lt (gA x (x.size-1)) (gA y j)=false)
  (q:∀ r g',Mrg lt x.toList y.toList r.toList->Q r (stA kd a p g')):wpS (model prog w) A E s (mLo x y) Q (stA kd a p g):=by
 rw[c9l]
 refine wpS_bind (wpS_lift (wpAny_rule ⟨rfl,?_⟩))
 dsimp only
 rw[elem'_eq,a3j (show 0<y.size by lia)]
 refine wpS_bind (wpS_pure ?_)
 have ax:∀ {i j},i<=j->j<x.size->lt (gA x j) (gA x i)=false:=λh1 h2=>b3m sx C.refl h1 h2
 have ay:∀ {i j},i<=j->j<y.size->lt (gA y j) (gA y i)=false:=λh1 h2=>b3m sy C.refl h1 h2
 have M0:MA lt x y #[gA y 0] 0 1:=by
  have:MA lt x y #[] 0 0:=⟨by simp,by simp,by simp⟩
  exact this.pushY sy (by lia) λm' _ h2=>C.trans _ _ _ hf (ax (Nat.zero_le _) h2)
 have finJ:∀ {o i j},MA lt x y o i j->j=y.size->Mrg lt x.toList y.toList (o++x.extract i x.size++y.extract j y.size).toList:=λh e=>h.fin sx sy λm m' _ _ h3 h4=>by lia
 have finI:∀ {o i j},MA lt x y o i j->i=x.size->Mrg lt x.toList y.toList (o++x.extract i x.size++y.extract j y.size).toList:=λh e=>h.fin sx sy λm m' h1 h2 _ _=>by lia
 have lstI:∀ {o i j},MA lt x y o i j->i+1=x.size->Mrg lt x.toList y.toList (o++y.extract j y.size++x.extract i x.size).toList:=λh e=>h.fin2 sx sy λm m' h1 h2 h3 h4=>by
  have:m=x.size-1:=by lia
  rw[this];exact hl m' h4
 by_cases hj1:1=y.size
 ·rw[if_pos (by simpa using hj1)]
  exact wpS_pure (q _ g (finJ M0 hj1))
 rw[if_neg (by simpa using hj1)]
 by_cases hi1:0+1=x.size
 ·rw[if_pos (by simpa using hi1)]
  exact wpS_pure (q _ g (lstI M0 hi1))
 rw[if_neg (by simpa using hi1)]
 refine wpS_bind (wpS_get ?_)
 let Go:=λ(o:Array Keyed) (i j T:Nat)=>MA lt x y o i j/\i+1<x.size/\j<y.size/\T<=i+j
 refine wpS_bind (wpS_mono (wpS_forRange (I:=λn c st'=>∃ g',st'=stA kd a p g'/\c.1=none/\Go c.2.1 c.2.2.1 c.2.2.2.1 n)
  (Q:=λc st'=>∃ g' r,st'=stA kd a p g'/\c.1=some r/\Mrg lt x.toList y.toList r.toList) ?_ ?_ ⟨g,rfl,rfl,M0,by first|lia|(dsimp only;lia),by first|lia|(dsimp only;lia),by first|lia|(dsimp only;lia)⟩) ?_)
 ·rintro n c st'-hn ⟨g1,rfl,hc,hgo⟩
  obtain⟨r,o,i,j,G⟩:=c
  dsimp only at hc hgo ⊢
  subst hc
  refine wpS_bind (wpS_mono (wpS_forRange (I:=λn' c st'=>∃ g',st'=stA kd a p g'/\c.1=none/\Go c.2.1 c.2.2.1 c.2.2.2.1 (n+n'))
   (Q:=λc st'=>∃ g',st'=stA kd a p g'/\((∃ r,c.1=some r/\Mrg lt x.toList y.toList r.toList) ∨ c.1=none/\Go c.2.1 c.2.2.1 c.2.2.2.1 (n+1))) ?_ ?_ ⟨g1,rfl,rfl,hgo⟩) ?_)
  ·rintro n' c st'-hn' ⟨g2,rfl,hc,hgo⟩
   obtain⟨r,o,i,j,cc,dd⟩:=c
   dsimp only at hc hgo ⊢
   subst hc
   obtain⟨hM,hi,hj,hT⟩:=hgo
   rw[elem'_eq,a3j hj,elem'_eq,a3j (show i<x.size by first|lia|(dsimp only;lia))]
   refine wpS_bind (wpS_pure (wpS_bind (wpS_pure (wpS_bind (C.run _ _ (hy.at hj) (hx.at (by first|lia|(dsimp only;lia))) _ _ rfl ?_)))))
   rcases Bool.eq_false_or_eq_true (lt (gA y j) (gA x i)) with e|e
   ·rw[e]
    have e':=C.asym _ _ e
    simp only[if_true]
    refine wpS_bind (wpS_pure ?_)
    have hM2:=hM.pushY sy hj λm' h1 h2=>C.trans _ _ _ e' (ax h1 h2)
    by_cases hb:j+1=y.size
    ·rw[if_pos (by simpa using hb)]
     exact wpS_pure ⟨g2,rfl,.inl ⟨_,rfl,finJ hM2 hb⟩⟩
    ·rw[if_neg (by simpa using hb)]
     split
     ·exact wpS_pure ⟨g2,rfl,.inr ⟨rfl,hM2,hi,by first|lia|(dsimp only;lia),by first|lia|(dsimp only;lia)⟩⟩
     ·exact wpS_pure ⟨g2,rfl,rfl,hM2,hi,by first|lia|(dsimp only;lia),by first|lia|(dsimp only;lia)⟩
   ·rw[e]
    simp only[Γp,if_false]
    refine wpS_bind (wpS_pure ?_)
    have hM2:=hM.pushX sx (by first|lia|(dsimp only;lia)) λm' h1 h2=>C.trans _ _ _ e (ay h1 h2)
    by_cases hb:i+1+1=x.size
    ·rw[if_pos (by simpa using hb)]
     exact wpS_pure ⟨g2,rfl,.inl ⟨_,rfl,lstI hM2 hb⟩⟩
    ·rw[if_neg (by simpa using hb)]
     split
     ·exact wpS_pure ⟨g2,rfl,.inr ⟨rfl,hM2,by first|lia|(dsimp only;lia),hj,by first|lia|(dsimp only;lia)⟩⟩
     ·exact wpS_pure ⟨g2,rfl,rfl,hM2,by first|lia|(dsimp only;lia),hj,by first|lia|(dsimp only;lia)⟩
  ·rintro c st' ⟨g2,rfl,hc,hM,hi,hj,hT⟩
   exfalso;lia
  ·rintro c st' ⟨g2,rfl,hc⟩
   obtain⟨r,o,i,j,cc,dd⟩:=c
   dsimp only at hc ⊢
   rcases hc with⟨r',rfl,hr⟩|⟨rfl,hgo⟩
   ·exact wpS_pure ⟨g2,r',rfl,rfl,hr⟩
   dsimp only
   refine wpS_bind (wpS_lift (wpAny_rule ⟨rfl,?_⟩))
   refine wpS_bind (wpS_mono (wpS_forRange (I:=λn' c st'=>∃ g',st'=stA kd a p g'/\c.1=none/\Go c.2.1 c.2.2.1 c.2.2.2.1 (n+1+n'))
    (Q:=λc st'=>∃ g',st'=stA kd a p g'/\((∃ r,c.1=some r/\Mrg lt x.toList y.toList r.toList) ∨ c.1=none/\Go c.2.1 c.2.2.1 c.2.2.2.1 (n+1))) ?_ ?_ ⟨g2,rfl,rfl,hgo⟩) ?_)
   ·rintro n' c st'-hn' ⟨g3,rfl,hc,hgo⟩
    obtain⟨r,o,i,j,G,cc,dd⟩:=c
    dsimp only at hc hgo ⊢
    subst hc
    obtain⟨hM,hi,hj,hT⟩:=hgo
    apply c6k
    ·intro key
     by_cases hG:G > 1
     ·rw[if_pos hG,a4y]
      refine wpS_bind (wpS_modify ?_)
      generalize G-1=G1
      revert G1
      exact key
     ·rw[if_neg hG,a4y]
      refine wpS_bind (wpS_modify ?_)
      exact key G
    ·intro G
     rw[elem'_eq,a3j hj]
     refine wpS_bind (wpS_pure ?_)
     refine wpS_bind (a7k C (kd:=kd) rfl hx (hy.at hj) (by lia) (by lia) ?_ ?_)
     ·intro u v huv hv h
      simp only[a2y,Γp,if_false,Bool.not_eq_true'] at h ⊢
      exact C.trans _ _ _ (ax (by lia) (by lia)) h
     intro k hk kl kr
     simp only[a2y,Γp,if_false,Bool.not_eq_true',Bool.not_eq_false'] at kl kr
     dsimp only
     apply c6k
     ·intro cont
      have key:∀ m,i+k<=m->m<x.size->lt (gA x m) (gA y j)=false:=λm h1 h2=>by
       have:=kr (m - i) (by lia) (by lia)
       rw [show i + (m - i)=m by lia] at this
       exact C.asym _ _ this
      have hM1:MA lt x y (o++x.extract i (i+k)) (i+k) j:=hM.moreX sx λm m' h1 h2 h3 h4 h5=>by
       have:=kl (m - i) (by lia)
       rw [show i + (m - i)=m by lia] at this
       exact C.trans _ _ _ this (ay h4 h5)
      by_cases hk0:k > 0
      rw[if_pos hk0]
      by_cases hb1:i+k+1=x.size
      rw[if_pos (by simpa using hb1)]
      exact wpS_pure ⟨_,rfl,.inl ⟨_,rfl,lstI hM1 hb1⟩⟩
      rw[if_neg (by simpa using hb1)]
      by_cases hb2:i+k=x.size
      rw[if_pos (by simpa using hb2)]
      exact wpS_pure ⟨_,rfl,.inl ⟨_,rfl,finI hM1 hb2⟩⟩
      rw[if_neg (by simpa using hb2)]
      have hi2:i+k+1<x.size:=by lia
      have hT2:n+1+n'<=i+k+j:=by lia
      generalize i+k=i1 at hM1 key hi2 hT2 ⊢
      generalize o++x.extract i i1=o1 at hM1 ⊢
      revert hM1 key hi2 hT2
      revert o1 i1
      exact cont
      rw[if_neg hk0]
      have hk0:k=0:=by lia
      rw[hk0] at key hM1
      rw[show o++x.extract i (i+0)=o by simp;lia] at hM1
      have hi2:i+0+1<x.size:=by lia
      have hT2:n+1+n'<=i+0+j:=by lia
      rw[Nat.add_zero] at key hM1 hi2 hT2
      generalize i=i1 at hM1 key hi2 hT2 ⊢
      generalize o=o1 at hM1 ⊢
      exact cont _ _ key hi2 hT2 hM1
     intro i1 o1 key hi2 hT2 hM1
     refine wpS_bind (wpS_pure ?_)
     have hM2:=hM1.pushY sy hj key
     by_cases hb3:j+1=y.size
     ·rw[if_pos (by simpa using hb3)]
      exact wpS_pure ⟨_,rfl,.inl ⟨_,rfl,finJ hM2 hb3⟩⟩
     rw[if_neg (by simpa using hb3),elem'_eq,a3j (show i1<x.size by lia)]
     refine wpS_bind (wpS_pure ?_)
     refine wpS_bind (a7k C (kd:=kd) rfl hy (hx.at (show i1<x.size by lia)) (by lia) (by lia) ?_ ?_)
     ·intro u v huv hv h
      simp only[a2y,if_true] at h ⊢
      cases e:lt (gA y (j+1+u)) (gA x i1) with
      | true=>rfl
      | false =>
       have:=C.trans _ _ _ e (ay (show j + 1 + u<=j + 1 + v by lia) (by lia))
       rw [h] at this; cases this
     intro k hk kl kr
     simp only[a2y,if_true] at kl kr
     dsimp only
     apply c6k
     ·intro cont
      have key2:∀ m,j+1+k<=m->m<y.size->lt (gA y m) (gA x i1)=false:=λm h1 h2=>by
       have:=kr (m - (j + 1)) (by lia) (by lia)
       rwa [show j + 1 + (m - (j + 1))=m by lia] at this
      have hM3:=hM2.moreY (k:=k) sy λm m' h1 h2 h3 h4 h5=>by
       have:=C.asym _ _ (kl (m - (j + 1)) (by lia))
       rw [show j + 1 + (m - (j + 1))=m by lia] at this
       exact C.trans _ _ _ this (ax h4 h5)
      by_cases hk0:k > 0
      rw[if_pos hk0]
      by_cases hb4:j+1+k=y.size
      rw[if_pos (by simpa using hb4)]
      exact wpS_pure ⟨_,rfl,.inl ⟨_,rfl,finJ hM3 hb4⟩⟩
      rw[if_neg (by simpa using hb4)]
      have hj2:j+1+k<y.size:=by lia
      have hT3:n+1+n'+1<=i1+(j+1+k):=by lia
      generalize (o1.push (gA y j))++y.extract (j+1) (j+1+k)=o2 at hM3 ⊢
      generalize j+1+k=j1 at hM3 key2 hj2 hT3 ⊢
      revert hM3 key2 hj2 hT3
      revert o2 j1
      exact cont
      rw[if_neg hk0]
      have hk0:k=0:=by lia
      rw[hk0] at key2 hM3
      rw[show o1.push (gA y j)++y.extract (j+1) (j+1+0)=o1.push (gA y j) by simp;lia] at hM3
      have hj2:j+1+0<y.size:=by lia
      have hT3:n+1+n'+1<=i1+(j+1+0):=by lia
      rw[Nat.add_zero] at key2 hM3 hj2 hT3
      generalize (o1.push (gA y j))=o2 at hM3 ⊢
      generalize j+1=j1 at hM3 key2 hj2 hT3 ⊢
      exact cont _ _ hM3 key2 hj2 hT3
     intro j1 o2 hM3 key2 hj2 hT3
     refine wpS_bind (wpS_pure ?_)
     have hM4:=hM3.pushX sx (show i1<x.size by lia) key2
     by_cases hb5:i1+1+1=x.size
     ·rw[if_pos (by simpa using hb5)]
      exact wpS_pure ⟨_,rfl,.inl ⟨_,rfl,lstI hM4 hb5⟩⟩
     rw[if_neg (by simpa using hb5)]
     split
     ·exact wpS_pure ⟨_,rfl,.inr ⟨rfl,hM4,by first|lia|(dsimp only;lia),hj2,by first|lia|(dsimp only;lia)⟩⟩
     ·exact wpS_pure ⟨_,rfl,rfl,hM4,by first|lia|(dsimp only;lia),hj2,by first|lia|(dsimp only;lia)⟩
   ·rintro c st' ⟨g3,rfl,hc,hM,hi,hj,hT⟩
    exfalso;lia
   ·rintro c st' ⟨g3,rfl,hc⟩
    obtain⟨r,o,i,j,G,cc,dd⟩:=c
    dsimp only at hc ⊢
    rcases hc with⟨r',rfl,hr⟩|⟨rfl,hgo⟩
    ·exact wpS_pure ⟨g3,r',rfl,rfl,hr⟩
    ·dsimp only
     rw[a4y]
     exact wpS_bind (wpS_modify (wpS_pure ⟨_,rfl,rfl,hgo⟩))
 ·rintro c st' ⟨g2,rfl,hc,hM,hi,hj,hT⟩
  exfalso;lia
 ·rintro c st' ⟨g2,r,rfl,hc,hr⟩
  obtain⟨r',o,i,j,cc⟩:=c
  dsimp only at hc ⊢
  subst hc
  exact wpS_pure (q _ _ hr)
end
abbrev rv (lt:Keyed->Keyed->Bool):Keyed->Keyed->Bool:=λu v=>lt v u
noncomputable def MH (lt:Keyed->Keyed->Bool)(x y o:Array Keyed) (i j:Nat):Prop:=MI (rv lt) x.toList.reverse y.toList.reverse o.toList (x.size-i) (y.size-j)
section
variable {lt:Keyed->Keyed->Bool}{x y o:Array Keyed}{i j t:Nat}
theorem b1z {l:List Keyed}(h:Asc lt l):Asc (rv lt) l.reverse:=List.pairwise_reverse.mpr h
theorem a3u (hi:i<=x.size):x.toList.reverse.drop (x.size-i)=(x.toList.take i).reverse:=by
 rw[List.drop_reverse];congr 2;simp;lia
theorem b8g (hi:i<=x.size)(ht:t<=i):(x.toList.reverse.drop (x.size-i)).take (i-t)=(x.extract t i).toList.reverse:=by
 rw[a3u hi,List.take_reverse,a2h,List.drop_take]
 congr 2
 ·simp;lia
 ·congr 1;simp;lia
theorem a4d {α:Type}{X:List α}{u:α}{i:Nat}(h:u∈X.take i):∃ k,∃ hk:k<X.length,k<i/\X[k]=u:=by
 obtain⟨m,hm,e⟩:=List.mem_iff_getElem.mp h
 rw[List.getElem_take] at e
 simp at hm
 exact⟨m,by lia,by lia,e⟩
theorem MH.swap (h:MH lt x y o i j):MH lt y x o j i:=MI.swap h
theorem MH.moreX (h:MH lt x y o i j)(hX:Asc lt x.toList)(hi:i<=x.size)(hj:j<=y.size)(ht:t<=i)(hc:∀ m m',t<=m->m<i->m'<j->lt (gA x m) (gA y m')=false):MH lt x y (o++(x.extract t i).reverse) t j:=by
 have:=MI.more (k:=i-t) h (b1z hX) λu hu v hv=>by
  rw[b8g hi ht,List.mem_reverse,a2h] at hu
  rw[a3u hj,List.mem_reverse] at hv
  obtain⟨m,hm,m1,m2,rfl⟩:=a3r hu
  obtain⟨m',hm',n1,rfl⟩:=a4d hv
  rw[<- a0i hm,<- a0i hm']
  exact hc m m' m1 (by lia) n1
 unfold MH
 rw[Array.toList_append,Array.toList_reverse,<- b8g hi ht]
 rwa [show x.size-i+(i-t)=x.size-t by lia] at this
theorem c5x (hi:i<x.size):(x.extract i (i+1)).toList=[gA x i]:=by
 have hl:i<x.toList.length:=by simpa using hi
 rw[a2h,show i+1-i=1 by lia,a7v hl,a0i hl]
theorem MH.pushX (h:MH lt x y o (i+1) j)(hX:Asc lt x.toList)(hi:i<x.size)(hj:j<=y.size)(hc:∀ m',m'<j->lt (gA x i) (gA y m')=false):MH lt x y (o.push (gA x i)) i j:=by
 have:=h.moreX hX (show i+1<=x.size by lia) hj (Nat.le_succ i) λm m' h1 h2 h3=>by
  have:m=i:=by lia
  subst this;exact hc m' h3
 unfold MH at this ⊢
 rw[Array.toList_append,Array.toList_reverse,c5x hi] at this
 rw[Array.toList_push]
 simpa using this
theorem MH.pushY (h:MH lt x y o i (j+1))(hY:Asc lt y.toList)(hj:j<y.size)(hi:i<=x.size)(hc:∀ m',m'<i->lt (gA y j) (gA x m')=false):MH lt x y (o.push (gA y j)) i j:=(h.swap.pushX hY hj hi hc).swap
theorem MH.moreY (h:MH lt x y o i j)(hY:Asc lt y.toList)(hi:i<=x.size)(hj:j<=y.size)(ht:t<=j)(hc:∀ m m',t<=m->m<j->m'<i->lt (gA y m) (gA x m')=false):MH lt x y (o++(y.extract t j).reverse) i t:=(h.swap.moreX hY hj hi ht hc).swap
theorem Mrg.rev {X Y R:List Keyed}(h:Mrg (rv lt) X.reverse Y.reverse R):Mrg lt X Y R.reverse:=by
 refine⟨?_,?_⟩
 ·refine R.reverse_perm.trans (h.1.trans ?_)
  exact (X.reverse_perm.append_right _).trans (Y.reverse_perm.append_left _)
 ·exact List.pairwise_reverse.mpr h.2
theorem MH.fin2 (h:MH lt x y o i j)(hX:Asc lt x.toList)(hY:Asc lt y.toList)(hi:i<=x.size)(hj:j<=y.size)(hc:∀ m m',m<i->m'<j->lt (gA x m) (gA y m')=false):Mrg lt x.toList y.toList (y.extract 0 j++x.extract 0 i++o.reverse).toList:=by
 have:=MI.fin h (b1z hX) (b1z hY) λu hu v hv=>by
  rw[a3u hi,List.mem_reverse] at hu
  rw[a3u hj,List.mem_reverse] at hv
  obtain⟨m,hm,m1,rfl⟩:=a4d hu
  obtain⟨m',hm',n1,rfl⟩:=a4d hv
  rw[<- a0i hm,<- a0i hm']
  exact hc m m' m1 n1
 have:=this.rev
 rw[a3u hi,a3u hj] at this
 rw[Array.toList_append,Array.toList_append,Array.toList_reverse,a2h,a2h]
 simpa using this
theorem MH.fin (h:MH lt x y o i j)(hX:Asc lt x.toList)(hY:Asc lt y.toList)(hi:i<=x.size)(hj:j<=y.size)(hc:∀ m m',m<i->m'<j->lt (gA y m') (gA x m)=false):Mrg lt x.toList y.toList (x.extract 0 i++y.extract 0 j++o.reverse).toList:=(h.swap.fin2 hY hX hj hi λm m' h1 h2=>hc m' m h2 h1).swap
end
noncomputable def mHi:Array Keyed->Array Keyed->StateT SortSt Sem (Array Keyed):=sortPriv% PySem.Builtin.mergeHi
theorem c9n (x y:Array Keyed):mHi x y=(do
 rule "list.sort.merge-hi"
 let N:=x.size+y.size
 let fin (o:Array Keyed) (i j:Nat):=x.extract 0 i++y.extract 0 j++o.reverse
 let fst (o:Array Keyed) (i j:Nat):=y.extract 0 j++x.extract 0 i++o.reverse
 let mut i:=x.size-1;let mut j:=y.size
 let mut o:Array Keyed:=#[<- elem' x i]
 if i == 0 then return fin o i j
 if j == 1 then return fst o i j
 let mut G:=gallopOf (<- get)
 for _ in [0:N] do
  let mut c:=0;let mut d:=0
  for _ in [0:N] do
   let some t <- lt' (<- elem' y (j-1)) (<- elem' x (i-1))|return fin o i j
   if t then
    i:=i-1;o:=o.push (<- elem' x i);c:=c+1;d:=0
    if i == 0 then return fin o i j
    if c ≥ G then break
   else
    j:=j-1;o:=o.push (<- elem' y j);d:=d+1;c:=0
    if j == 1 then return fst o i j
    if d ≥ G then break
  rule "list.sort.gallop"
  G:=G+1
  for _ in [0:N] do
   if G > 1 then G:=G-1
   c7h G
   let some t <- gal false (<- elem' y (j-1)) x 0 i (i-1)|return fin o i j
   let k:=i-t;c:=k
   if k > 0 then
    o:=o++(x.extract t i).reverse;i:=t
    if i == 0 then return fin o i j
   j:=j-1;o:=o.push (<- elem' y j)
   if j == 1 then return fst o i j
   let some t <- gal true (<- elem' x (i-1)) y 0 j (j-1)|return fin o i j
   let k:=j-t;d:=k
   if k > 0 then
    o:=o++(y.extract t j).reverse;j:=t
    if j == 1 then return fst o i j
    if j == 0 then return fin o i j
   i:=i-1;o:=o.push (<- elem' x i)
   if i == 0 then return fin o i j
   if c<7 && d<7 then break
  G:=G+1
  c7h G
 unsupported "internal:list.sort.merge-bound"):=rfl
section
variable {prog:Program}{w:World}{A:Around}{E:Value->Shared->Prop}{s:Shared}{kd:SortKind}{Ok:Keyed->Prop}{lt:Keyed->Keyed->Bool}
theorem c9m (C:Cmp prog w A E s kd Ok lt){a x y:Array Keyed}{p:Array (Nat×Nat×Nat)}{g:Nat}{Q:Array Keyed->SortSt->Prop}(hx:AllOk Ok x)(hy:AllOk Ok y)(nx:1<=x.size)(ny:1<=y.size)(sx:Asc lt x.toList)(sy:Asc lt y.toList)
  (hf:lt (gA x 0) (gA y 0)=false)(hl:∀ j,j<y.size->lt (gA x (x.size-1)) (gA y j)=false)
  (q:∀ r g',Mrg lt x.toList y.toList r.toList->Q r (stA kd a p g')):wpS (model prog w) A E s (mHi x y) Q (stA kd a p g):=by
 rw[c9n]
 refine wpS_bind (wpS_lift (wpAny_rule ⟨rfl,?_⟩))
 dsimp only
 rw[elem'_eq,a3j (show x.size-1<x.size by lia)]
 refine wpS_bind (wpS_pure ?_)
 have ax:∀ {i j},i<=j->j<x.size->lt (gA x j) (gA x i)=false:=λh1 h2=>b3m sx C.refl h1 h2
 have ay:∀ {i j},i<=j->j<y.size->lt (gA y j) (gA y i)=false:=λh1 h2=>b3m sy C.refl h1 h2
 have M0:MH lt x y #[gA x (x.size-1)] (x.size-1) y.size:=by
  have h0:MH lt x y #[] (x.size-1+1) y.size:=by
   refine⟨?_,by simp,by simp⟩
   rw[show x.size-(x.size-1+1)=0 by lia];simp
  exact h0.pushX sx (by lia) (Γi _) λm' h2=>hl m' h2
 have finI:∀ {o i j},MH lt x y o i j->i=0->j<=y.size->Mrg lt x.toList y.toList (x.extract 0 i++y.extract 0 j++o.reverse).toList:=λh e hj=>h.fin sx sy (by lia) hj λm m' h1 _=>by lia
 have finJ:∀ {o i j},MH lt x y o i j->j=0->i<=x.size->Mrg lt x.toList y.toList (x.extract 0 i++y.extract 0 j++o.reverse).toList:=λh e hi=>h.fin sx sy hi (by lia) λm m' _ h2=>by lia
 have fstJ:∀ {o i j},MH lt x y o i j->j=1->i<=x.size->Mrg lt x.toList y.toList (y.extract 0 j++x.extract 0 i++o.reverse).toList:=λh e hi=>h.fin2 sx sy hi (by lia) λm m' h1 h2=>by
  have:m'=0:=by lia
  subst this
  exact C.trans _ _ _ hf (ax (Nat.zero_le _) (by lia))
 by_cases hi1:x.size-1=0
 ·rw[if_pos (by simpa using hi1)]
  exact wpS_pure (q _ g (finI M0 hi1 (Γi _)))
 rw[if_neg (by simpa using hi1)]
 by_cases hj1:y.size=1
 ·rw[if_pos (by simpa using hj1)]
  exact wpS_pure (q _ g (fstJ M0 hj1 (by lia)))
 rw[if_neg (by simpa using hj1)]
 refine wpS_bind (wpS_get ?_)
 let Go:=λ(o:Array Keyed) (i j T:Nat)=>MH lt x y o i j/\1<=i/\i<x.size/\2<=j/\j<=y.size/\T+i+j<=x.size+y.size
 refine wpS_bind (wpS_mono (wpS_forRange (I:=λn c st'=>∃ g',st'=stA kd a p g'/\c.1=none/\Go c.2.2.2.1 c.2.1 c.2.2.1 n)
  (Q:=λc st'=>∃ g' r,st'=stA kd a p g'/\c.1=some r/\Mrg lt x.toList y.toList r.toList) ?_ ?_ ⟨g,rfl,rfl,M0,by first|lia|(dsimp only;lia),by first|lia|(dsimp only;lia),by first|lia|(dsimp only;lia),by first|lia|(dsimp only;lia),by first|lia|(dsimp only;lia)⟩) ?_)
 ·rintro n c st'-hn ⟨g1,rfl,hc,hgo⟩
  obtain⟨r,i,j,o,G⟩:=c
  dsimp only at hc hgo ⊢
  subst hc
  refine wpS_bind (wpS_mono (wpS_forRange (I:=λn' c st'=>∃ g',st'=stA kd a p g'/\c.1=none/\Go c.2.2.2.1 c.2.1 c.2.2.1 (n+n'))
   (Q:=λc st'=>∃ g',st'=stA kd a p g'/\((∃ r,c.1=some r/\Mrg lt x.toList y.toList r.toList) ∨ c.1=none/\Go c.2.2.2.1 c.2.1 c.2.2.1 (n+1))) ?_ ?_ ⟨g1,rfl,rfl,hgo⟩) ?_)
  ·rintro n' c st'-hn' ⟨g2,rfl,hc,hgo⟩
   obtain⟨r,i,j,o,cc,dd⟩:=c
   dsimp only at hc hgo ⊢
   subst hc
   obtain⟨hM,h1,h2,h3,h4,hT⟩:=hgo
   obtain⟨i,rfl⟩:∃ m,i=m+1:=⟨i-1,by lia⟩
   obtain⟨j,rfl⟩:∃ m,j=m+1:=⟨j-1,by lia⟩
   simp only[Nat.add_sub_cancel]
   rw[elem'_eq,a3j (show j<y.size by lia),elem'_eq,a3j (show i<x.size by lia)]
   refine wpS_bind (wpS_pure (wpS_bind (wpS_pure (wpS_bind (C.run _ _ (hy.at (by lia)) (hx.at (by lia)) _ _ rfl ?_)))))
   rcases Bool.eq_false_or_eq_true (lt (gA y j) (gA x i)) with e|e
   ·rw[e]
    have e':=C.asym _ _ e
    simp only[if_true]
    refine wpS_bind (wpS_pure ?_)
    have hM2:=hM.pushX sx (by lia) h4 λm' hm'=>C.trans _ _ _ (ay (show m'<=j by lia) (by lia)) e'
    by_cases hb:i=0
    ·rw[if_pos (by simpa using hb)]
     exact wpS_pure ⟨g2,rfl,.inl ⟨_,rfl,finI hM2 hb h4⟩⟩
    ·rw[if_neg (by simpa using hb)]
     split
     ·exact wpS_pure ⟨g2,rfl,.inr ⟨rfl,hM2,by first|lia|(dsimp only;lia),by first|lia|(dsimp only;lia),h3,h4,by first|lia|(dsimp only;lia)⟩⟩
     ·exact wpS_pure ⟨g2,rfl,rfl,hM2,by first|lia|(dsimp only;lia),by first|lia|(dsimp only;lia),h3,h4,by first|lia|(dsimp only;lia)⟩
   ·rw[e]
    simp only[Γp,if_false]
    refine wpS_bind (wpS_pure ?_)
    have hM2:=hM.pushY sy (by lia) (by lia) λm' hm'=>C.trans _ _ _ (ax (show m'<=i by lia) (by lia)) e
    by_cases hb:j=1
    ·rw[if_pos (by simpa using hb)]
     exact wpS_pure ⟨g2,rfl,.inl ⟨_,rfl,fstJ hM2 hb (by lia)⟩⟩
    ·rw[if_neg (by simpa using hb)]
     split
     ·exact wpS_pure ⟨g2,rfl,.inr ⟨rfl,hM2,h1,h2,by first|lia|(dsimp only;lia),by first|lia|(dsimp only;lia),by first|lia|(dsimp only;lia)⟩⟩
     ·exact wpS_pure ⟨g2,rfl,rfl,hM2,h1,h2,by first|lia|(dsimp only;lia),by first|lia|(dsimp only;lia),by first|lia|(dsimp only;lia)⟩
  ·rintro c st' ⟨g2,rfl,hc,hM,h1,h2,h3,h4,hT⟩
   exfalso;lia
  ·rintro c st' ⟨g2,rfl,hc⟩
   obtain⟨r,i,j,o,cc,dd⟩:=c
   dsimp only at hc ⊢
   rcases hc with⟨r',rfl,hr⟩|⟨rfl,hgo⟩
   ·exact wpS_pure ⟨g2,r',rfl,rfl,hr⟩
   dsimp only
   refine wpS_bind (wpS_lift (wpAny_rule ⟨rfl,?_⟩))
   refine wpS_bind (wpS_mono (wpS_forRange (I:=λn' c st'=>∃ g',st'=stA kd a p g'/\c.1=none/\Go c.2.2.2.1 c.2.1 c.2.2.1 (n+1+n'))
    (Q:=λc st'=>∃ g',st'=stA kd a p g'/\((∃ r,c.1=some r/\Mrg lt x.toList y.toList r.toList) ∨ c.1=none/\Go c.2.2.2.1 c.2.1 c.2.2.1 (n+1))) ?_ ?_ ⟨g2,rfl,rfl,hgo⟩) ?_)
   ·rintro n' c st'-hn' ⟨g3,rfl,hc,hgo⟩
    obtain⟨r,i,j,o,G,cc,dd⟩:=c
    dsimp only at hc hgo ⊢
    subst hc
    obtain⟨hM,h1,h2,h3,h4,hT⟩:=hgo
    obtain⟨j,rfl⟩:∃ m,j=m+1:=⟨j-1,by lia⟩
    simp only[Nat.add_sub_cancel]
    have hj:j<y.size:=by lia
    apply c6k
    ·intro key
     by_cases hG:G > 1
     ·rw[if_pos hG,a4y]
      refine wpS_bind (wpS_modify ?_)
      generalize G-1=G1
      revert G1
      exact key
     ·rw[if_neg hG,a4y]
      refine wpS_bind (wpS_modify ?_)
      exact key G
    ·intro G
     rw[elem'_eq,a3j hj]
     refine wpS_bind (wpS_pure ?_)
     refine wpS_bind (a7k C (kd:=kd) rfl hx (hy.at hj) (by lia) (by lia) ?_ ?_)
     ·intro u v huv hv h
      simp only[a2y,Γp,if_false,Bool.not_eq_true',Nat.zero_add] at h ⊢
      exact C.trans _ _ _ (ax (by lia) (by lia)) h
     intro t ht kl kr
     simp only[a2y,Γp,if_false,Bool.not_eq_true',Bool.not_eq_false',Nat.zero_add] at kl kr
     dsimp only
     apply c6k
     ·intro cont
      have hM1:=hM.moreX (t:=t) sx (by lia) h4 ht λm m' g1 g2 g3=>C.trans _ _ _ (ay (show m'<=j by lia) hj) (C.asym _ _ (kr m g1 g2))
      by_cases hk0:i-t > 0
      rw[if_pos hk0]
      by_cases hb1:t=0
      rw[if_pos (by simpa using hb1)]
      exact wpS_pure ⟨_,rfl,.inl ⟨_,rfl,finI hM1 hb1 h4⟩⟩
      rw[if_neg (by simpa using hb1)]
      have hT2:n+1+n'+t+(j+1)<=x.size+y.size:=by lia
      have h5:1<=t:=by lia
      have h6:t<x.size:=by lia
      generalize o++(x.extract t i).reverse=o1 at hM1 ⊢
      generalize i-t=ck
      have kl2:=kl
      revert hM1 hT2 h5 h6 kl2
      generalize t=t1
      revert o1 ck t1
      exact cont
      rw[if_neg hk0]
      have hk0:t=i:=by lia
      subst hk0
      rw[show o++(x.extract t t).reverse=o by simp;lia] at hM1
      have hT2:n+1+n'+t+(j+1)<=x.size+y.size:=by lia
      have h5:1<=t:=by lia
      have h6:t<x.size:=by lia
      generalize o=o1 at hM1 ⊢
      generalize t-t=ck
      exact cont _ _ _ hT2 h5 h6 hM1 kl
     intro o1 ck t hT2 h5 h6 hM1 kl
     obtain⟨t,rfl⟩:∃ m,t=m+1:=⟨t-1,by lia⟩
     simp only[Nat.add_sub_cancel]
     refine wpS_bind (wpS_pure ?_)
     have hM2:=hM1.pushY sy hj (by lia) λm' hm'=>kl m' hm'
     by_cases hb3:j=1
     ·rw[if_pos (by simpa using hb3)]
      exact wpS_pure ⟨_,rfl,.inl ⟨_,rfl,fstJ hM2 hb3 (by lia)⟩⟩
     rw[if_neg (by simpa using hb3),elem'_eq,a3j (show t<x.size by lia)]
     refine wpS_bind (wpS_pure ?_)
     refine wpS_bind (a7k C (kd:=kd) rfl hy (hx.at (show t<x.size by lia)) (by lia) (by lia) ?_ ?_)
     ·intro u v huv hv h
      simp only[a2y,if_true,Nat.zero_add] at h ⊢
      cases e:lt (gA y u) (gA x t) with
      | true=>rfl
      | false =>
       have:=C.trans _ _ _ e (ay huv (by lia))
       rw [h] at this; cases this
     intro b hb kl2 kr2
     simp only[a2y,if_true,Nat.zero_add] at kl2 kr2
     dsimp only
     apply c6k
     ·intro cont
      have hM3:=hM2.moreY (t:=b) sy (by lia) (by lia) hb λm m' g1 g2 g3=>C.trans _ _ _ (ax (show m'<=t by lia) (by lia)) (kr2 m g1 g2)
      by_cases hk1:j-b > 0
      rw[if_pos hk1]
      by_cases hb4:b=1
      rw[if_pos (by simpa using hb4)]
      exact wpS_pure ⟨_,rfl,.inl ⟨_,rfl,fstJ hM3 hb4 (by lia)⟩⟩
      rw[if_neg (by simpa using hb4)]
      by_cases hb5:b=0
      rw[if_pos (by simpa using hb5)]
      exact wpS_pure ⟨_,rfl,.inl ⟨_,rfl,finJ hM3 hb5 (by lia)⟩⟩
      rw[if_neg (by simpa using hb5)]
      have h7:2<=b:=by lia
      have h8:b<=y.size:=by lia
      have hT3:n+1+n'+1+t+b<=x.size+y.size:=by lia
      generalize (o1.push (gA y j))++(y.extract b j).reverse=o2 at hM3 ⊢
      generalize j-b=dk
      have kl3:=kl2
      revert hM3 h7 h8 hT3 kl3
      generalize b=b1
      revert o2 dk b1
      exact cont
      rw[if_neg hk1]
      have hk1:b=j:=by lia
      subst hk1
      rw[show o1.push (gA y b)++(y.extract b b).reverse=o1.push (gA y b) by simp;lia] at hM3
      have h7:2<=b:=by lia
      have h8:b<=y.size:=by lia
      have hT3:n+1+n'+1+t+b<=x.size+y.size:=by lia
      generalize (o1.push (gA y b))=o2 at hM3 ⊢
      generalize b-b=dk
      exact cont _ _ _ h7 h8 hT3 hM3 kl2
     intro o2 dk b h7 h8 hT3 hM3 kl2
     refine wpS_bind (wpS_pure ?_)
     have hM4:=hM3.pushX sx (show t<x.size by lia) h8 λm' hm'=>C.asym _ _ (kl2 m' hm')
     by_cases hb6:t=0
     ·rw[if_pos (by simpa using hb6)]
      exact wpS_pure ⟨_,rfl,.inl ⟨_,rfl,finI hM4 hb6 h8⟩⟩
     rw[if_neg (by simpa using hb6)]
     split
     ·exact wpS_pure ⟨_,rfl,.inr ⟨rfl,hM4,by first|lia|(dsimp only;lia),by first|lia|(dsimp only;lia),h7,h8,by first|lia|(dsimp only;lia)⟩⟩
     ·exact wpS_pure ⟨_,rfl,rfl,hM4,by first|lia|(dsimp only;lia),by first|lia|(dsimp only;lia),h7,h8,by first|lia|(dsimp only;lia)⟩
   ·rintro c st' ⟨g3,rfl,hc,hM,h1,h2,h3,h4,hT⟩
    exfalso;lia
   ·rintro c st' ⟨g3,rfl,hc⟩
    obtain⟨r,i,j,o,G,cc,dd⟩:=c
    dsimp only at hc ⊢
    rcases hc with⟨r',rfl,hr⟩|⟨rfl,hgo⟩
    ·exact wpS_pure ⟨g3,r',rfl,rfl,hr⟩
    ·dsimp only
     rw[a4y]
     exact wpS_bind (wpS_modify (wpS_pure ⟨_,rfl,rfl,hgo⟩))
 ·rintro c st' ⟨g2,rfl,hc,hM,h1,h2,h3,h4,hT⟩
  exfalso;lia
 ·rintro c st' ⟨g2,r,rfl,hc,hr⟩
  obtain⟨r',i,j,o,cc⟩:=c
  dsimp only at hc ⊢
  subst hc
  exact wpS_pure (q _ _ hr)
end
theorem b0z {lt:Keyed->Keyed->Bool}(hr:∀ u,lt u u=false){a:Array Keyed}{lo hi:Nat}(hh:hi<=a.size):Srt lt a lo hi↔Asc lt ((a.toList.drop lo).take (hi-lo)):=by
 rw[Asc,List.pairwise_iff_getElem]
 constructor
 ·intro h i j hi' hj hij
  simp at hi' hj
  simp only[List.getElem_take,List.getElem_drop]
  have:=h (lo+i) (lo+j) (by lia) (by lia) (by lia)
  rwa [a0i (show lo+i<a.toList.length by simp;lia),a0i (show lo+j<a.toList.length by simp;lia)] at this
 ·intro h i j h1 h2 h3
  by_cases e:i=j
  ·subst e;exact hr _
  ·have:=h (i-lo) (j-lo) (by simp;lia) (by simp;lia) (by lia)
   simp only[List.getElem_take,List.getElem_drop,show lo+(i-lo)=i by lia,show lo+(j-lo)=j by lia] at this
   rw[a0i (show i<a.toList.length by simp;lia),a0i (show j<a.toList.length by simp;lia)]
   exact this
noncomputable def back (r:Array Keyed) (s:Nat)(a:Array Keyed):Array Keyed:=r.toList.zipIdx.foldl (λa q=>a.setIfInBounds (s+q.2) q.1) a
theorem a9w (s:Nat):∀ (l:List Keyed) (k:Nat)(a:Array Keyed),s+k+l.length<=a.size->((l.zipIdx k).foldl (λa q=>a.setIfInBounds (s+q.2) q.1) a).toList=a.toList.take (s+k)++l++a.toList.drop (s+k+l.length)
 | [],k,a,_=>by simp
 | x :: l,k,a,h=>by
  rw[List.zipIdx_cons,List.foldl_cons,a9w s l (k+1) _ (by simp at h ⊢;lia)]
  have hk:s+k<a.toList.length:=by simp at h ⊢;lia
  have e:(a.setIfInBounds (s+k) x).toList=a.toList.take (s+k)++x :: a.toList.drop (s+k+1):=by
   rw[Array.toList_setIfInBounds,List.set_eq_take_append_cons_drop,if_pos hk]
  show (a.setIfInBounds (s+k) x).toList.take (s+(k+1))++l++(a.setIfInBounds (s+k) x).toList.drop (s+(k+1)+l.length)=_
  have hl:(a.toList.take (s+k)).length=s+k:=by rw[List.length_take];lia
  have e1:(a.setIfInBounds (s+k) x).toList.take (s+(k+1))=a.toList.take (s+k)++[x]:=by
   rw[e,List.take_append,List.take_of_length_le (by rw[hl];lia),hl,show s+(k+1)-(s+k)=1 by lia];rfl
  have e2:(a.setIfInBounds (s+k) x).toList.drop (s+(k+1)+l.length)=a.toList.drop (s+k+(x :: l).length):=by
   rw[e,List.drop_append,List.drop_of_length_le (by rw[hl];lia),hl,show s+(k+1)+l.length-(s+k)=l.length+1 by lia,List.nil_append,List.drop_succ_cons,List.drop_drop,List.length_cons]
   congr 1;lia
  rw[e1,e2];simp
theorem b8o {r a:Array Keyed}{s:Nat}(h:s+r.size<=a.size):(back r s a).toList=a.toList.take s++r.toList++a.toList.drop (s+r.size):=by
 have:=a9w s r.toList 0 a (by simpa using h)
 simpa[back] using this
theorem b3w (i:Nat):mergeAt' i=(do
 let z <- get
 let (some (u,m,e),some (v,n,_)):=((pendingOf z)[i]?,(pendingOf z)[i+1]?)|unsupported "internal:list.sort.pending"
 set (SortSt.mk' (kindOf z) (arrOf z) (((pendingOf z).setIfInBounds i (u,m+n,e)).eraseIdxIfInBounds (i+1)) (gallopOf z) (failedOf z))
 let some k <- gal false (<- elem' (arrOf z) v) (arrOf z) u m 0|return false
 let (u,m):=(u+k,m-k)
 if m == 0 then return true
 let some n <- gal true (<- elem' (arrOf z) (u+m-1)) (arrOf z) v n (n-1)|return false
 if n == 0 then return true
 let x:=(arrOf z).extract u v
 let y:=(arrOf z).extract v (v+n)
 let r <- if m<=n then mLo x y else mHi x y
 modify λz=>setArr z (r.toList.zipIdx.foldl (λa (p,j)=>a.setIfInBounds (u+j) p) (arrOf z))
 return (failedOf (<- get)).isNone):=rfl
section
variable {prog:Program}{w:World}{A:Around}{E:Value->Shared->Prop}{s:Shared}{kd:SortKind}{Ok:Keyed->Prop}{lt:Keyed->Keyed->Bool}
theorem c2s {Q:PUnit->SortSt->Prop}{st st':SortSt}(h:Q ⟨⟩ st'):wpS (model prog w) A E s (set st':StateT SortSt Sem PUnit) Q st:=by
 unfold wpS;rw[StateT.run_set];exact Γb ⟨rfl,h⟩
theorem b2z {a:Array Keyed}{i j k:Nat}(hj:j<=a.size)(hk:i+k<j):gA (a.extract i j) k=gA a (i+k):=by
 apply a3a
 rw[Array.getElem?_extract,if_pos (by lia)]
theorem c9o (C:Cmp prog w A E s kd Ok lt){a:Array Keyed}{p:Array (Nat×Nat×Nat)}{g i u m e n f:Nat}{Q:Bool->SortSt->Prop}(ho:AllOk Ok a)(h1:p[i]?=some (u,m,e))(h2:p[i+1]?=some (u+m,n,f))(hm:1<=m)(hn:1<=n)(hz:u+m+n<=a.size)(s1:Srt lt a u (u+m))(s2:Srt lt a (u+m) (u+m+n))
  (q:∀ b g',Out a b u (u+m+n)->Srt lt b u (u+m+n)->Q true (stA kd b ((p.setIfInBounds i (u,m+n,e)).eraseIdxIfInBounds (i+1)) g')):wpS (model prog w) A E s (mergeAt' i) Q (stA kd a p g):=by
 rw[b3w]
 refine wpS_bind (wpS_get ?_)
 show wpS _ _ _ _ (match (p[i]?,p[i+1]?) with|(some (u,m,e),some (v,n,_))=>_|_=>_) _ _
 rw[h1,h2]
 refine wpS_bind (c2s ?_)
 generalize ((p.setIfInBounds i (u,m+n,e)).eraseIdxIfInBounds (i+1))=p' at q ⊢
 rw[show arrOf (stA kd a p g)=a from rfl,show SortSt.mk' (kindOf (stA kd a p g)) a p' (gallopOf (stA kd a p g)) (failedOf (stA kd a p g))=stA kd a p' g from rfl,elem'_eq,a3j (show u+m<a.size by lia)]
 refine wpS_bind (wpS_pure ?_)
 refine wpS_bind (a7k C (kd:=kd) rfl ho (ho.at (by lia)) (by lia) (by lia) ?_ ?_)
 ·intro x y hxy hy h
  simp only[a2y,Γp,if_false,Bool.not_eq_true'] at h ⊢
  exact C.trans _ _ _ (s1 _ _ (by lia) (by lia) (by lia)) h
 intro k hk kl kr
 simp only[a2y,Γp,if_false,Bool.not_eq_true',Bool.not_eq_false'] at kl kr
 dsimp only
 -- where all of the first row is ahead of the second
 have whole:(∀ i j,u<=i->i<u+m->u+m<=j->j<u+m+n->lt (gA a j) (gA a i)=false)->Srt lt a u (u+m+n):=by
  intro h i j h1 h2 h3
  by_cases hj:j<u+m
  ·exact s1 i j h1 h2 hj
  ·by_cases hi:i<u+m
   ·exact h i j h1 hi (by lia) h3
   ·exact s2 i j (by lia) h2 h3
 by_cases hb:m-k=0
 ·rw[if_pos (by simpa using hb)]
  refine wpS_pure (q a g (Out.refl _ _ _) (whole λi j h1 h2 h3 h4=>?_))
  have:=kl (i-u) (by lia)
  rw[show u+(i-u)=i by lia] at this
  exact C.trans _ _ _ this (s2 _ _ (Γi _) h3 h4)
 rw[if_neg (by simpa using hb),elem'_eq,a3j (show u+k+(m-k)-1<a.size by lia)]
 refine wpS_bind (wpS_pure ?_)
 rw[show u+k+(m-k)-1=u+m-1 by lia]
 refine wpS_bind (a7k C (kd:=kd) rfl ho (ho.at (by lia)) (by lia) (by lia) ?_ ?_)
 ·intro x y hxy hy h
  simp only[a2y,if_true] at h ⊢
  cases e:lt (gA a (u+m+x)) (gA a (u+m-1)) with
  | true=>rfl
  | false =>
   have:=C.trans _ _ _ e (s2 (u+m+x) (u+m+y) (by lia) (by lia) (by lia))
   rw[h] at this;cases this
 intro t ht kl2 kr2
 simp only[a2y,if_true] at kl2 kr2
 dsimp only
 by_cases hb2:t=0
 ·rw[if_pos (by simpa using hb2)]
  refine wpS_pure (q a g (Out.refl _ _ _) (whole λi j h1 h2 h3 h4=>?_))
  have:=kr2 (j-(u+m)) (by lia) (by lia)
  rw[show u+m+(j-(u+m))=j by lia] at this
  exact C.trans _ _ _ (s1 i (u+m-1) h1 (by lia) (by lia)) this
 rw[if_neg (by simpa using hb2)]
 have xs:(a.extract (u+k) (u+m)).size=m-k:=by rw[Array.size_extract];lia
 have ys:(a.extract (u+m) (u+m+t)).size=t:=by rw[Array.size_extract];lia
 have xl:(a.extract (u+k) (u+m)).toList=(a.toList.drop (u+k)).take (m-k):=by rw[a2h];congr 1;lia
 have yl:(a.extract (u+m) (u+m+t)).toList=(a.toList.drop (u+m)).take t:=by rw[a2h];congr 1;lia
 have hx:AllOk Ok (a.extract (u+k) (u+m)):=λz hz=>ho z (by rw[xl] at hz;exact List.mem_of_mem_drop (List.mem_of_mem_take hz))
 have hy:AllOk Ok (a.extract (u+m) (u+m+t)):=λz hz=>ho z (by rw[yl] at hz;exact List.mem_of_mem_drop (List.mem_of_mem_take hz))
 have sx:Asc lt (a.extract (u+k) (u+m)).toList:=by
  rw[xl]
  have:Srt lt a (u+k) (u+m):=λi j h1 h2 h3=>s1 i j (by lia) h2 h3
  have:=(b0z C.refl (by lia)).mp this
  rwa [show u+m-(u+k)=m-k by lia] at this
 have sy:Asc lt (a.extract (u+m) (u+m+t)).toList:=by
  rw[yl]
  have:Srt lt a (u+m) (u+m+t):=λi j h1 h2 h3=>s2 i j h1 h2 (by lia)
  have:=(b0z C.refl (by lia)).mp this
  rwa [show u+m+t-(u+m)=t by lia] at this
 have hf:lt (gA (a.extract (u+k) (u+m)) 0) (gA (a.extract (u+m) (u+m+t)) 0)=false:=by
  rw[b2z (by lia) (by lia),b2z (by lia) (by lia)]
  exact C.asym _ _ (kr k (Γi _) (by lia))
 have hl:∀ j,j<(a.extract (u+m) (u+m+t)).size->lt (gA (a.extract (u+k) (u+m)) ((a.extract (u+k) (u+m)).size-1)) (gA (a.extract (u+m) (u+m+t)) j)=false:=by
  intro j hj
  rw[ys] at hj
  rw[xs,b2z (by lia) (by lia),b2z (by lia) (by lia),show u+k+(m-k-1)=u+m-1 by lia]
  exact C.asym _ _ (kl2 j hj)
 have last:∀ r g',Mrg lt (a.extract (u+k) (u+m)).toList (a.extract (u+m) (u+m+t)).toList r.toList->Q true (stA kd (back r (u+k) a) p' g'):=by
  intro r g' hr
  rw[xl,yl] at hr
  have rs:r.size=m-k+t:=by
   have:=hr.1.length_eq
   simp at this;lia
  have bl:=b8o (r:=r) (a:=a) (s:=u+k) (by lia)
  have pm:(back r (u+k) a).Perm a:=by
   rw[Array.perm_iff_toList_perm,bl,rs]
   have:a.toList=a.toList.take (u+k)++((a.toList.drop (u+k)).take (m-k)++(a.toList.drop (u+m)).take t)++a.toList.drop (u+k+(m-k+t)):=by
    have e1:(a.toList.drop (u+k)).take (m-k)++(a.toList.drop (u+m)).take t=(a.toList.drop (u+k)).take (m-k+t):=by
     rw[List.take_add,List.drop_drop,show u+k+(m-k)=u+m by lia]
    rw[e1,<- List.take_add,List.take_append_drop]
   conv=>rhs;rw[this]
   exact (hr.1.append_left _).append_right _
  have bsz:(back r (u+k) a).size=a.size:=pm.size_eq
  have hlen:(a.toList.take (u+k)).length=u+k:=by simp;lia
  -- an item behind,by its place
  have out1:∀ i,i<u+k->gA (back r (u+k) a) i=gA a i:=λi hi=>by
   rw[a0i (show i<(back r (u+k) a).toList.length by simp;lia),a0i (show i<a.toList.length by simp;lia)]
   simp only[bl]
   rw[List.getElem_append_left (by simp;lia),List.getElem_append_left (by simp;lia),List.getElem_take]
  have out2:∀ i,u+m+t<=i->gA (back r (u+k) a) i=gA a i:=λi hi=>by
   by_cases hs:i<a.size
   ·rw[a0i (show i<(back r (u+k) a).toList.length by simp;lia),a0i (show i<a.toList.length by simp;lia)]
    simp only[bl]
    rw[List.getElem_append_right (by simp;lia),List.getElem_drop]
    congr 1
    simp
    lia
   ·apply a3a
    rw[Array.getElem?_eq_none (by lia),Array.getElem?_eq_none (by lia)]
  have inr:∀ i,(h1:u+k<=i)->(h2:i<u+m+t)->gA (back r (u+k) a) i=r.toList[i-(u+k)]'(by simp;lia):=λi h1 h2=>by
   rw[a0i (show i<(back r (u+k) a).toList.length by simp;lia)]
   simp only[bl]
   rw[List.getElem_append_left (by simp;lia),List.getElem_append_right (by simp;lia)]
   congr 1
   simp;lia
  have inn:∀ i,u+k<=i->i<u+m+t->gA (back r (u+k) a) i∈r.toList:=λi h1 h2=>by
   rw[a0i (show i<(back r (u+k) a).toList.length by simp;lia)]
   simp only[bl]
   rw[List.getElem_append_left (by simp;lia),List.getElem_append_right (by simp;lia)]
   exact List.getElem_mem _
  have mem:∀ z∈r.toList,(∃ i,u+k<=i/\i<u+m/\z=gA a i) ∨ ∃ i,u+m<=i/\i<u+m+t/\z=gA a i:=λz hz=>by
   rcases List.mem_append.mp (hr.1.mem_iff.mp hz) with hz|hz
   ·obtain⟨i,hi,i1,i2,e⟩:=a3r hz
    exact .inl ⟨i,i1,by lia,by rw[a0i hi,e]⟩
   ·obtain⟨i,hi,i1,i2,e⟩:=a3r hz
    exact .inr ⟨i,i1,by lia,by rw[a0i hi,e]⟩
  refine q _ g' ⟨pm,λi hi=>?_⟩ λi j h1 h2 h3=>?_
  ·rcases hi with hi|hi
   ·exact out1 i (by lia)
   ·exact out2 i (by lia)
  ·by_cases hi1:i<u+k
   ·rw[out1 i hi1]
    have low:=kl (i-u) (by lia)
    rw[show u+(i-u)=i by lia] at low
    by_cases hj1:j<u+k
    ·rw[out1 j hj1];exact s1 i j h1 h2 (by lia)
    ·by_cases hj2:j<u+m+t
     ·rcases mem _ (inn j (by lia) hj2) with⟨j',a1,a2,e⟩|⟨j',a1,a2,e⟩
      ·rw[e];exact s1 i j' h1 (by lia) (by lia)
      ·rw[e];exact C.trans _ _ _ low (s2 _ _ (Γi _) a1 (by lia))
     ·rw[out2 j (by lia)]
      exact C.trans _ _ _ low (s2 _ _ (Γi _) (by lia) h3)
   ·by_cases hj2:j<u+m+t
    ·by_cases e:i=j
     ·subst e;exact C.refl _
     ·have ha:=List.pairwise_iff_getElem.mp hr.2
      have:=ha (i-(u+k)) (j-(u+k)) (by simp;lia) (by simp;lia) (by lia)
      rw[inr i (by lia) (by lia),inr j (by lia) hj2]
      exact this
    ·rw[out2 j (by lia)]
     by_cases hi2:i<u+m+t
     ·have up:=kr2 (j-(u+m)) (by lia) (by lia)
      rw[show u+m+(j-(u+m))=j by lia] at up
      rcases mem _ (inn i (by lia) hi2) with⟨i',a1,a2,e⟩|⟨i',a1,a2,e⟩
      ·rw[e];exact C.trans _ _ _ (s1 i' (u+m-1) (by lia) (by lia) (by lia)) up
      ·rw[e];exact s2 i' j a1 (by lia) h3
     ·rw[out2 i (by lia)]
      exact s2 i j (by lia) h2 h3
 by_cases hmn:m-k<=t
 ·rw[if_pos hmn]
  refine wpS_bind (c9k C hx hy (by lia) (by lia) sx sy hf hl λr g' hr=>?_)
  refine wpS_bind (wpS_modify (wpS_bind (wpS_get (wpS_pure ?_))))
  exact last r g' hr
 ·rw[if_neg hmn]
  refine wpS_bind (c9m C hx hy (by lia) (by lia) sx sy hf hl λr g' hr=>?_)
  refine wpS_bind (wpS_modify (wpS_bind (wpS_get (wpS_pure ?_))))
  exact last r g' hr
end
noncomputable def Cov (lt:Keyed->Keyed->Bool)(a:Array Keyed):List (Nat×Nat×Nat)->Nat->Nat->Prop
 | [],s,e=>s=e
 | (u,n,_) :: r,s,e=>u=s/\1<=n/\Srt lt a s (s+n)/\Cov lt a r (s+n) e
section
variable {lt:Keyed->Keyed->Bool}{a b:Array Keyed}
theorem Cov.le:∀ {l:List (Nat×Nat×Nat)}{s e:Nat},Cov lt a l s e->s+l.length<=e
 | [],s,e,h=>by cases (show s=e from h);simp
 | (u,n,_) :: r,s,e,⟨_,h2,_,h4⟩=>by have:=h4.le;simp;lia
theorem Cov.out:∀ {l:List (Nat×Nat×Nat)}{s e lo hi:Nat},Cov lt a l s e->Out a b lo hi->e<=lo ∨ hi<=s->Cov lt b l s e
 | [],s,e,lo,hi,h,o,d=>h
 | (u,n,_) :: r,s,e,lo,hi,⟨h1,h2,h3,h4⟩,o,d=>⟨h1,h2,h3.out o (by have:=h4.le;lia),h4.out o (by lia)⟩
theorem Cov.snoc:∀ {l:List (Nat×Nat×Nat)}{s e n f:Nat},Cov lt a l s e->1<=n->Srt lt a e (e+n)->Cov lt a (l++[(e,n,f)]) s (e+n)
 | [],s,e,n,f,h,h1,h2=>by cases (show s=e from h);exact⟨rfl,h1,h2,rfl⟩
 | (u,m,_) :: r,s,e,n,f,⟨g1,g2,g3,g4⟩,h1,h2=>⟨g1,g2,g3,g4.snoc h1 h2⟩
theorem Cov.join : ∀ {l : List (Nat × Nat × Nat)} {i s e : Nat}, Cov lt a l s e -> i + 1 < l.length -> ∃ u m f n f', l[i]? = some (u, m, f) /\ l[i + 1]? = some (u + m, n, f') /\ 1 <= m /\ 1 <= n /\ s <= u /\ u + m + n <= e /\ Srt lt a u (u + m) /\ Srt lt a (u + m) (u + m + n) /\
      ∀ b,Out a b u (u+m+n)->Srt lt b u (u+m+n)->Cov lt b ((l.set i (u,m+n,f)).eraseIdx (i+1)) s e
  | [],i,s,e,h,hi=>by simp at hi
  | [_],i,s,e,h,hi=>by simp at hi
  | (u,m,f) :: (v,n,f') :: r,0,s,e,⟨g1,g2,g3,g4,g5,g6,g7⟩,hi=>by
    subst g1;subst g4
    refine⟨u,m,f,n,f',rfl,rfl,g2,g5,Γi _,by have:=g7.le;lia,g3,g6,λb o hs=>?_⟩
    refine⟨rfl,by lia,by rw[<- Nat.add_assoc];exact hs,?_⟩
    rw[<- Nat.add_assoc]
    exact g7.out o (.inr (Γi _))
  | (u,m,f) :: q :: r,i+1,s,e,⟨g1,g2,g3,g4⟩,hi=>by
    obtain⟨u',m',f1,n',f2,e1,e2,h1,h2,h3,h4,h5,h6,h7⟩:=Cov.join (i:=i) g4 (by simpa using hi)
    refine⟨u',m',f1,n',f2,by simpa using e1,by simpa using e2,h1,h2,by lia,h4,h5,h6,λb o hs=>?_⟩
    have:=h7 b o hs
    rw[List.set_cons_succ,List.eraseIdx_cons_succ]
    exact⟨g1,g2,g3.out o (.inl h3),this⟩
theorem Cov.pow:∀ {l:List (Nat×Nat×Nat)}{i s e:Nat}(f:Nat×Nat×Nat->Nat×Nat×Nat),(∀ x,(f x).1=x.1/\(f x).2.1=x.2.1)->Cov lt a l s e->Cov lt a (l.modify i f) s e
 | [],i,s,e,f,hf,h=>by simpa using h
 | (u,n,w) :: r,0,s,e,f,hf,⟨h1,h2,h3,h4⟩=>by
  obtain⟨e1,e2⟩:=hf (u,n,w)
  rw[List.modify_zero_cons]
  rcases e0:f (u,n,w) with⟨u',n',w'⟩
  rw[e0] at e1 e2
  dsimp only at e1 e2
  subst e1;subst e2
  exact⟨h1,h2,h3,h4⟩
 | q :: r,i+1,s,e,f,hf,h=>by
  obtain⟨u,n,w⟩:=q
  rw[List.modify_succ_cons]
  exact⟨h.1,h.2.1,h.2.2.1,h.2.2.2.pow f hf⟩
end
section
variable {prog:Program}{w:World}{A:Around}{E:Value->Shared->Prop}{s:Shared}{kd:SortKind}{Ok:Keyed->Prop}{lt:Keyed->Keyed->Bool}
theorem b2o (C:Cmp prog w A E s kd Ok lt){a:Array Keyed}{p:Array (Nat×Nat×Nat)}{g i e:Nat}{Q:Bool->SortSt->Prop}(ho:AllOk Ok a)(hc:Cov lt a p.toList 0 e)(hh:e<=a.size)(hi:i+1<p.size)
  (q:∀ b p' g',Out a b 0 e->Cov lt b p'.toList 0 e->p'.size+1=p.size->Q true (stA kd b p' g')):wpS (model prog w) A E s (mergeAt' i) Q (stA kd a p g):=by
 obtain⟨u,m,f,n,f',e1,e2,h1,h2,h3,h4,h5,h6,h7⟩:=hc.join (i:=i) (by simpa using hi)
 rw[Array.getElem?_toList] at e1 e2
 refine c9o C ho e1 e2 h1 h2 (by lia) h5 h6 λb g' o hs=>?_
 have hl:((p.setIfInBounds i (u,m+n,f)).eraseIdxIfInBounds (i+1)).toList=(p.toList.set i (u,m+n,f)).eraseIdx (i+1):=by
  simp
 refine q b _ g' (o.wide (by lia) h4) (by rw[hl];exact h7 b o hs) ?_
 rw[<- Array.length_toList,hl,List.length_eraseIdx_of_lt (by simpa using hi),List.length_set,Array.length_toList]
 lia
theorem c3f (C:Cmp prog w A E s kd Ok lt){a:Array Keyed}{g:Nat}{Q:Unit->SortSt->Prop}(ho:AllOk Ok a)(h2:2<=a.size)
  (q:∀ b p g',b.Perm a->Srt lt b 0 a.size->Q () (stA kd b p g')):wpS (model prog w) A E s sortRuns' Q (stA kd a #[] g):=by
 rw[sortRuns'_eq]
 refine wpS_bind (wpS_get ?_)
 dsimp only
 rw[show arrOf (stA kd a #[] g)=a from rfl]
 generalize minRun' a.size a.size 0=mr
 refine wpS_bind (wpS_mono (wpS_forRange (I:=λn c st'=>∃ b p g' lo,st'=stA kd b p g'/\c=(none,lo)/\b.Perm a/\Cov lt b p.toList 0 lo/\lo<=a.size/\(lo=a.size ∨ n<=lo))
  (Q:=λc st'=>∃ b p g',st'=stA kd b p g'/\c=(none,a.size)/\b.Perm a/\Cov lt b p.toList 0 a.size) ?_ ?_ ⟨a,#[],g,0,rfl,rfl,Array.Perm.refl _,rfl,by lia,by lia⟩) ?_)
 ·rintro x c st'-hx ⟨b,p,g',lo,rfl,rfl,hp,hc,hlo,hor⟩
  dsimp only
  by_cases hge:lo ≥ a.size
  ·rw[if_pos hge]
   have:lo=a.size:=by lia
   subst this
   exact wpS_pure ⟨b,p,g',rfl,rfl,hp,hc⟩
  rw[if_neg hge]
  have hbz:=hp.size_eq
  have hob:=ho.perm hp
  refine wpS_bind (c7i C hob (by lia) (by lia) λm b1 m1 m2 o1 s1=>?_)
  dsimp only
  have hp1:=o1.1.trans hp
  have hc1:=hc.out o1 (.inl (Γi _))
  have hob1:=ho.perm hp1
  have hb1:=hp1.size_eq
  by_cases hmr:m<mr
  rw[if_pos hmr]
  refine wpS_bind (wpS_lift (wpAny_rule ⟨rfl,?_⟩))
  refine wpS_bind (c9y C (n:=min (a.size-lo) mr) hob1 m1 (by lia) (by lia) s1 λb2 o2 s2=>?_)
  simp only[Bool.not_true,Γp,if_false]
  have hp2:=o2.1.trans hp1
  have hc2:=hc1.out o2 (.inl (Γi _))
  have hn1:1<=min (a.size-lo) mr:=by lia
  have hn2:lo+min (a.size-lo) mr<=a.size:=by lia
  generalize min (a.size-lo) mr=n at s2 hn1 hn2 ⊢
  clear s1 o1 o2 hp1 hc1 hob1 hb1 hob hbz hc hp
  rotate_left
  rw[if_neg hmr]
  have hp2:=hp1
  have hc2:=hc1
  have s2:=s1
  have hn1:=m1
  have hn2:lo+m<=a.size:=by lia
  clear s1 o1 hp1 hc1 hob1 hb1 hob hbz hc hp m2
  generalize b1=b2 at hp2 hc2 s2 ⊢
  generalize m=n at s2 hn1 hn2 ⊢
  all_goals
   have fin:∀ (b3:Array Keyed)(p3:Array (Nat×Nat×Nat)) (g3:Nat),b3.Perm a->Cov lt b3 p3.toList 0 lo->Srt lt b3 lo (lo+n)->∃ (b:Array Keyed)(p:Array (Nat×Nat×Nat)) (g' lo':Nat),stA kd b3 (p3.push (lo,n,0)) g3=stA kd b p g'/\((none,lo+n):Option Unit×Nat)=(none,lo')/\b.Perm a/\Cov lt b p.toList 0 lo'/\lo'<=a.size/\(lo'=a.size ∨ x+1<=lo'):=by
    intro b3 p3 g3 i1 i2 i3
    refine⟨b3,_,g3,lo+n,rfl,rfl,i1,?_,hn2,by lia⟩
    rw[Array.toList_push]
    exact i2.snoc hn1 i3
   refine wpS_bind (wpS_get ?_)
   rw[show pendingOf (stA kd b2 p g')=p from rfl]
   rcases hbk:p.back? with _|⟨s1,n1,w1⟩
   ·exact wpS_bind (wpS_modify (wpS_pure (fin b2 p g' hp2 hc2 s2)))
   ·dsimp only
    generalize power' a.size (2*s1+n1) (2*s1+n1+n1+n) a.size=pw
    refine wpS_bind (wpS_mono (wpS_forRange (I:=λ_ c st'=>∃ b p g',st'=stA kd b p g'/\c=(none,())/\b.Perm a/\Cov lt b p.toList 0 lo/\Srt lt b lo (lo+n))
     (Q:=λc st'=>∃ b p g',st'=stA kd b p g'/\c=(none,())/\b.Perm a/\Cov lt b p.toList 0 lo/\Srt lt b lo (lo+n)) ?_ (λ_ _ h=>h) ⟨b2,p,g',rfl,rfl,hp2,hc2,s2⟩) ?_)
    ·rintro x' c st'-hx' ⟨b3,p3,g3,rfl,rfl,i1,i2,i3⟩
     refine wpS_bind (wpS_get ?_)
     rw[show pendingOf (stA kd b3 p3 g3)=p3 from rfl]
     have hb3:=i1.size_eq
     by_cases hz:p3.size > 1
     ·rw[if_pos hz]
      rcases hq:p3[p3.size-2]? with _|⟨t1,t2,t3⟩
      ·exact wpS_pure ⟨b3,p3,g3,rfl,rfl,i1,i2,i3⟩
      ·dsimp only
       by_cases ht:t3<=pw
       ·rw [if_pos ht]; exact wpS_pure ⟨b3,p3,g3,rfl,rfl,i1,i2,i3⟩
       ·rw [if_neg ht]
        refine wpS_bind (b2o C (ho.perm i1) i2 (by lia) (by lia) fun b4 p4 g4 o4 c4 _=>?_)
        simp only [Bool.not_true,Γp,if_false]
        exact wpS_pure ⟨b4,p4,g4,rfl,rfl,o4.1.trans i1,c4,i3.out o4 (.inr (Γi _))⟩
     ·rw[if_neg hz]
      exact wpS_pure ⟨b3,p3,g3,rfl,rfl,i1,i2,i3⟩
    ·rintro c st' ⟨b3,p3,g3,rfl,rfl,i1,i2,i3⟩
     dsimp only
     refine wpS_bind (wpS_modify (wpS_bind (wpS_modify (wpS_pure (fin b3 _ g3 i1 ?_ i3)))))
     show Cov lt b3 (p3.modify (p3.size-1) _).toList 0 lo
     rw[Array.toList_modify]
     exact i2.pow _ λz=>⟨rfl,rfl⟩
 ·rintro c st' ⟨b,p,g',lo,rfl,rfl,hp,hc,hlo,hor⟩
  have:lo=a.size:=by lia
  subst this
  exact⟨b,p,g',rfl,rfl,hp,hc⟩
 ·rintro c st' ⟨b,p,g',rfl,rfl,hp,hc⟩
  dsimp only
  have hbz:=hp.size_eq
  refine wpS_bind (wpS_mono (wpS_forRange (I:=λn c st'=>∃ b p g',st'=stA kd b p g'/\c=(none,())/\b.Perm a/\Cov lt b p.toList 0 a.size/\p.size<=max 1 (a.size-n))
   (Q:=λc st'=>∃ b p g',st'=stA kd b p g'/\c=(none,())/\b.Perm a/\Cov lt b p.toList 0 a.size/\p.size<=1) ?_ ?_ ⟨b,p,g',rfl,rfl,hp,hc,by have:=hc.le;simp at this;lia⟩) ?_)
  ·rintro x c st'-hx ⟨b,p,g',rfl,rfl,hp,hc,hz⟩
   refine wpS_bind (wpS_get ?_)
   rw[show pendingOf (stA kd b p g')=p from rfl]
   have hbz:=hp.size_eq
   by_cases h1:p.size<=1
   ·rw[if_pos h1]
    exact wpS_pure ⟨b,p,g',rfl,rfl,hp,hc,h1⟩
   rw[if_neg h1]
   generalize hi0:(if ((if p.size-2 > 0 then Option.map (λx=>x.2.1) p[p.size-2-1]? else none).any λx=>decide (x<p[p.size-2+1]?.elim 0 λx=>x.2.1))=true then p.size-2-1 else p.size-2)=i0
   have two:∀ c:Bool,(if c=true then p.size-2-1 else p.size-2)+1<p.size:=by
    intro c
    cases c
    ·rw[if_neg Γk];lia
    ·rw[if_pos rfl];lia
   have hi:i0+1<p.size:=by rw[<- hi0];exact two _
   refine wpS_bind (b2o C (ho.perm hp) hc (by lia) hi λb4 p4 g4 o4 c4 hz4=>?_)
   simp only[Bool.not_true,Γp,if_false]
   exact wpS_pure ⟨b4,p4,g4,rfl,rfl,o4.1.trans hp,c4,by lia⟩
  ·rintro c st' ⟨b,p,g',rfl,rfl,hp,hc,hz⟩
   exact⟨b,p,g',rfl,rfl,hp,hc,by lia⟩
  ·rintro c st' ⟨b,p,g',rfl,rfl,hp,hc,hz⟩
   refine wpS_pure (q b p g' hp ?_)
   rcases hl:p.toList with _|⟨⟨u,n,w⟩,_|⟨y,r⟩⟩
   ·rw[hl] at hc
    have:(0:Nat)=a.size:=hc
    lia
   ·rw[hl] at hc
    obtain⟨h1,h2,h3,h4⟩:=hc
    have:0+n=a.size:=h4
    rwa [this] at h3
   ·have:=congrArg List.length hl
    simp at this;lia
end
theorem a8h:∀ a:List Int,lexLt a a=false
 | []=>rfl
 | x :: r=>by rw[lexLt,if_pos rfl,a8h r]
theorem b2q:∀ a b:List Int,lexLt a b=true->lexLt b a=false
 | [],[],h=>by cases h
 | [],_ :: _,_=>rfl
 | _ :: _,[],h=>by cases h
 | x :: r,y :: q,h=>by
  rw[lexLt] at h ⊢
  by_cases e:x=y
  ·rw[if_pos e] at h;rw[if_pos e.symm];exact b2q r q h
  ·rw[if_neg e] at h;rw[if_neg (Ne.symm e)]
   simp only[decide_eq_true_eq,decide_eq_false_iff_not] at h ⊢;lia
theorem a9n:∀ a b c:List Int,lexLt b a=false->lexLt c b=false->lexLt c a=false
 | [],b,c,h1,h2=>by cases c<;>rfl
 | x :: r,[],c,h1,h2=>by cases h1
 | x :: r,y :: q,[],h1,h2=>by cases h2
 | x :: r,y :: q,z :: t,h1,h2=>by
  rw[lexLt] at h1 h2 ⊢
  by_cases e1:y=x
  ·rw[if_pos e1] at h1
   by_cases e2:z=y
   ·rw[if_pos e2] at h2;rw[if_pos (e2.trans e1)];exact a9n r q t h1 h2
   ·rw[if_neg e2] at h2;rw[if_neg (by rw[<- e1];exact e2),<- e1];exact h2
  ·rw[if_neg e1] at h1
   by_cases e2:z=y
   ·rw[if_pos e2] at h2;rw[if_neg (by rw[e2];exact e1),e2];exact h1
   ·rw[if_neg e2] at h2
    simp only[decide_eq_false_iff_not] at h1 h2
    rw[if_neg (by lia)]
    simp only[decide_eq_false_iff_not];lia
noncomputable def a7o (m:Nat):Prop:=∀ (prog:Program)(w:World)(A:Around)(E:Value->Shared->Prop)(s:Shared)(kd:SortKind)(Ok:Keyed->Prop)(lt:Keyed->Keyed->Bool),Cmp prog w A E s kd Ok lt->∀ (a:Array Keyed) (g:Nat)(Q:Unit->SortSt->Prop),AllOk Ok a->2<=a.size->a.size<=m ->
 (∀ b p g',b.Perm a->Srt lt b 0 a.size->Q () (stA kd b p g'))->wpS (model prog w) A E s sortRuns' Q (stA kd a #[] g)
theorem c3g:a7o 100000:=λ_ _ _ _ _ _ _ _ C _ _ _ ho h2 _ q=>c3f C ho h2 q
section
variable {prog:Program}{w:World}{A:Around}{E:Value->Shared->Prop}{s:Shared}{vs:List Value}{kd:SortKind}{kf:Value->List Int}
theorem d0v (hc:∀ x∈vs,∀ y∈vs,∀ Q:Bool->Shared->Prop,∀ E':Value->Shared->Prop,Q (lexLt (kf x) (kf y)) s->wpAny (model prog w) A (keyLt' kd x y) Q E' s):Cmp prog w A E s kd (λp=>p.1∈vs) (λp q=>lexLt (kf p.1) (kf q.1)) where
 run:=λx y hx hy st Q hk q=>by
  rw[lt'_eq]
  refine wpS_bind (wpS_get ?_)
  rw[hk]
  refine wpS_bind (wpS_lift (wpAny_attempt (hc _ hx _ hy _ _ ⟨rfl,?_⟩)))
  exact wpS_pure q
 refl:=λx=>a8h _
 trans:=λx y z h1 h2=>a9n _ _ _ h1 h2
 asym:=λx y h=>b2q _ _ h
theorem d5o {m:Nat}(RT:a7o m)(hm:m<=100000){a:Addr}{n:Nat}{P:PySem.Fin->Shared->Prop}(ho:s.heap.get? a=some (seqObj "list" vs.toArray n))(hb:vs.length<=m)
  (hk:2<=vs.length->∀ h3:Heap,(∀ b o,b≠a->s.heap.get? b=some o->h3.get? b=some o)->∀ Q:SortKind->Shared->Prop,Q kd { s with heap:=h3 }->wpAny (model prog w) A (keyKind' vs.toArray) Q E { s with heap:=h3 })
  (hc:∀ h3:Heap,(∀ b o,b≠a->s.heap.get? b=some o->h3.get? b=some o)->∀ x∈vs,∀ y∈vs,∀ Q:Bool->Shared->Prop,∀ E':Value->Shared->Prop,Q (lexLt (kf x) (kf y)) { s with heap:=h3 }->wpAny (model prog w) A (keyLt' kd x y) Q E' { s with heap:=h3 })
  (K:∀ (vs':List Value)(h':Heap) (c tk:Nat),vs'.Perm vs->(vs'.Pairwise λx y=>lexLt (kf y) (kf x)=false)->h'.get? a=some (seqObj "list" vs'.toArray c)->(∀ b o,b≠a->s.heap.get? b=some o->h'.get? b=some o)->P (.done (.ret .none)) { s with heap:=h',toks:=tk }) :
  wpAny (model prog w) A (Builtin.«list.sort» ⟨[.ref a],[]⟩) P E s:=by
 obtain⟨e1,ho1⟩:∃ e1,(s.heap.update a (Obj.mapSeq λ_=>(#[]:Array Value))).get? a=some (seqObj "list" #[] e1):=⟨_,get?_update_seq ho λ_=>#[]⟩
 have kp:∀ b o,b≠a->s.heap.get? b=some o->(((s.heap.update a (Obj.mapSeq λ_=>(#[]:Array Value))).push (seqObj "tuple" vs.toArray 0)).push (seqObj "list" #[] 0)).get? b=some o:=λb o hb e =>
  Γc _ (Γc _ ((Γf _ _ (Ne.symm hb)).trans e))
 have ho2:(((s.heap.update a (Obj.mapSeq λ_=>(#[]:Array Value))).push (seqObj "tuple" vs.toArray 0)).push (seqObj "list" #[] 0)).get? a=some (seqObj "list" #[] e1):=Γc _ (Γc _ ho1)
 rw[list_sort_plain]
 refine Γa (listItems_at ho rfl ?_)
 refine Γa (listUpdate_at ho rfl ?_ (by rw[List.size_toArray,sizeLine_eq];lia) (Nat.zero_le _))
 refine Γa (seqEpoch_at ho1 rfl ?_)
 refine Γa (wpAny_newTuple ?_ (by show vs.length<=_;rw[sizeLine_eq];lia))
 refine Γa (wpAny_newList ?_ (Nat.zero_le _))
 refine Γg ?_
 show wpAny (model prog w) A _ P E { s with heap:=((s.heap.update a (Obj.mapSeq λ_=>(#[]:Array Value))).push (seqObj "tuple" vs.toArray 0)).push (seqObj "list" #[] 0) }
 dsimp only
 generalize ((s.heap.update a (Obj.mapSeq λ_=>(#[]:Array Value))).push (seqObj "tuple" vs.toArray 0)).push (seqObj "list" #[] 0)=h3 at kp ho2
 -- what comes behind the sorting
 have fin:∀ b:Array Keyed,b.Perm (pairsOf vs)->Srt (λp q=>lexLt (kf p.1) (kf q.1)) b 0 b.size->∀ st:SortSt,arrOf st=b->failedOf st=none->wpAny (model prog w) A (do
   let touched:=(<- seqEpoch a) != e1
   Builtin.List.listUpdate (.ref a) λ_=>(arrOf st).map (·.2)
   if let some e:=failedOf st then rule "list.sort.comparison-raised";throw e
   if touched then rule "list.sort.modified";raiseError "ValueError" "list modified during sort"
   ret .none) P E { s with heap:=h3 }:=by
  intro b hp hs st hst hf
  have hpl:b.toList.Perm (vs.zip vs):=by rw[<- pairsOf_toList];exact Array.perm_iff_toList_perm.mp hp
  have hself:∀ p∈b.toList,p.1=p.2/\p.1∈vs:=λp hp=>mem_zip_self (hpl.mem_iff.mp hp)
  have hperm:((b.map (·.2)).toList).Perm vs:=by
   rw[Array.toList_map]
   have:=hpl.map (·.2)
   rwa [show (vs.zip vs).map (·.2)=vs by rw[List.map_snd_zip (Γi _)]] at this
  have hord:(b.map (·.2)).toList.Pairwise λx y=>lexLt (kf y) (kf x)=false:=by
   rw[Array.toList_map,List.pairwise_map]
   have h1:=(b0z (lt:=λp q=>lexLt (kf p.1) (kf q.1)) (λu=>a8h _) (Γi _)).mp hs
   rw[List.drop_zero,List.take_of_length_le (by simp)] at h1
   refine List.Pairwise.imp_of_mem (λ{x y} hx hy h=>?_) h1
   rw[<- (hself x hx).1,<- (hself y hy).1];exact h
  have hsz:(b.map (·.2)).size=vs.length:=by rw[<- Array.length_toList];exact hperm.length_eq
  obtain⟨c2,hc2⟩:∃ c2,(h3.update a (Obj.mapSeq λ_=>b.map (·.2))).get? a=some (seqObj "list" (b.map (·.2)) c2):=⟨_,get?_update_seq ho2 λ_=>b.map (·.2)⟩
  refine Γa (seqEpoch_at ho2 rfl ?_)
  rw[hst]
  refine Γa (listUpdate_at ho2 rfl ?_ (Nat.zero_le _) (Nat.le_trans (Nat.le_of_eq hsz) (by rw[sizeLine_eq];lia)))
  rw[hf]
  simp only[bne_self_eq_false,Γp,if_false]
  exact Γb (K (b.map (·.2)).toList _ c2 _ hperm hord (by rw[Array.toArray_toList];exact hc2) λb' o hb' e=>(Γf _ _ (Ne.symm hb')).trans (kp b' o hb' e))
 by_cases h2:vs.toArray.size<2
 ·rw[if_pos h2,if_pos h2]
  refine Γa (Γb ?_)
  rw[StateT.run_pure]
  refine Γa (Γb ?_)
  refine fin (pairsOf vs) (Array.Perm.refl _) (λi j i1 i2 i3=>?_) _ rfl rfl
  rw[pairsOf_size] at i3
  have:vs.length<2:=by simpa using h2
  have:i=j:=by lia
  subst this;exact a8h _
 ·rw[if_neg h2,if_neg h2]
  have h2':2<=vs.length:=by simpa using h2
  refine Γa (hk h2' h3 kp _ ?_)
  refine Γa (wpAny_mono (RT _ _ _ E _ _ _ _ (d0v (E:=E) (hc h3 kp)) (pairsOf vs) 7 (λ_ st'=>∃ b,b.Perm (pairsOf vs)/\Srt (λp q=>lexLt (kf p.1) (kf q.1)) b 0 (pairsOf vs).size/\arrOf st'=b/\failedOf st'=none)
   (λp hp=>by rw[pairsOf_toList] at hp;exact (mem_zip_self hp).2) (by rw[pairsOf_size];exact h2') (by rw[pairsOf_size];exact hb) λb p g' q1 q2=>⟨b,q1,q2,rfl,rfl⟩) ?_ λ_ _ e=>e)
  rintro⟨⟨⟩,st'⟩ s' ⟨rfl,b,q1,q2,q3,q4⟩
  rw[<- q1.size_eq] at q2
  exact fin b q1 q2 st' q3 q4
noncomputable def SqH (h:Heap)(l:Addr)(vs:Array Value):Prop:=∃ (o:Obj)(T:String) (n:Nat),h.get? l=some o/\(T = "list" ∨ T = "tuple")/\o.cls=.type T/\o.data=.seq vs n
theorem b4k {l:Addr}{us:List Value}{Q:List Value->Shared->Prop}(hl:SqH s.heap l us.toArray)
  (h:Q us { s with heap:=(s.heap.push (seqObj "list" #[] 0)).update s.heap.objs.size (Obj.mapSeq (·++us.toArray)) })(hsz:us.length<=sizeLine) :
  wpAny (model prog w) A (collect (.ref l)) Q E s:=by
 obtain⟨o,T,n,ho,hT,hc,hd⟩:=hl
 unfold collect
 refine Γa (wpAny_runValue (codeAny_builtin F.entry_proto_collect ?_))
 rw[Around.under_plainId F.plain_proto_collect _]
 show wpAny _ A.in1 (newList [] >>= λl'=>again (.builtin "list.__iadd__" ⟨[l',.ref l],[]⟩)) _ _ s
 refine Γa (wpAny_newObj_type (Γb ⟨plainId_quiet F.plain_list_iadd _,codeAny_builtin F.entry_list_iadd ?_⟩))
 rw[Around.under_plainId F.plain_list_iadd _]
 show wpAny _ A.in1 (Builtin.List.listExtendWith (.ref s.heap.objs.size) (.ref l) (.ref s.heap.objs.size)) _ _ { s with heap:=s.heap.push (seqObj "list" #[] 0) }
 have hS:(s.heap.push (seqObj "list" #[] 0)).get? s.heap.objs.size=some (seqObj "list" #[] 0):=Γm _ rfl
 have last:wpAny (model prog w) A (do
   let o <- load s.heap.objs.size
   match o.data with
   | .seq xs _=>pure xs.toList
   | _=>unsupported "internal:collect") Q E { s with heap:=(s.heap.push (seqObj "list" #[] 0)).update s.heap.objs.size (Obj.mapSeq (·++us.toArray)) }:=by
  refine Γa (wpAny_load (Heap.get?_update_self (Obj.mapSeq (·++us.toArray)) hS rfl) ?_)
  show wpAny _ _ (pure ((#[]:Array Value)++us.toArray).toList) Q E _
  rw[show ((#[]:Array Value)++us.toArray).toList=us by simp]
  exact Γb h
 refine wpAny_mono (wpAny_extend_seq (hsz:=by simpa using hsz) (A:=A) (R:=λr s'=>r=.ok (.ret (.ref s.heap.objs.size))/\s' = { s with heap:=(s.heap.push (seqObj "list" #[] 0)).update s.heap.objs.size (Obj.mapSeq (·++us.toArray)) }) (s:={ s with heap:=s.heap.push (seqObj "list" #[] 0) }) _ l _ 0 hT hS (Γc _ ho) hc hd ⟨rfl,rfl⟩) (λr s' q=>?_) (λe s' q=>absurd q.1 (by simp))
 cases r with
 | done f =>
  obtain⟨e,rfl⟩:=q
  cases e
  exact last
 | again c'=>exact⟨q.1,codeAny_mono q.2 λr s'' hr=>by obtain⟨rfl,rfl⟩:=hr;exact last⟩
theorem b3r {m:Nat}(RT:a7o m)(hm:m<=100000){l:Addr}{Q:Value->Shared->Prop}(hl:SqH s.heap l vs.toArray)(hb:vs.length<=m)
  (hk:∀ A':Around,2<=vs.length->∀ h3:Heap,(∀ b o,s.heap.get? b=some o->h3.get? b=some o)->∀ Q:SortKind->Shared->Prop,Q kd { s with heap:=h3 }->wpAny (model prog w) A' (keyKind' vs.toArray) Q E { s with heap:=h3 })
  (hc:∀ A':Around,∀ h3:Heap,(∀ b o,s.heap.get? b=some o->h3.get? b=some o)->∀ x∈vs,∀ y∈vs,∀ Q:Bool->Shared->Prop,∀ E':Value->Shared->Prop,Q (lexLt (kf x) (kf y)) { s with heap:=h3 }->wpAny (model prog w) A' (keyLt' kd x y) Q E' { s with heap:=h3 })
  (K:∀ (D:Addr)(vs':List Value)(h':Heap) (c tk:Nat),vs'.Perm vs->(vs'.Pairwise λx y=>lexLt (kf y) (kf x)=false)->s.heap.objs.size<=D->h'.get? D=some (seqObj "list" vs'.toArray c)->(∀ b o,s.heap.get? b=some o->h'.get? b=some o)->Q (.ref D) { s with heap:=h',toks:=tk }) :
  wpAny (model prog w) A (call (.builtin "sorted") [.ref l]) Q E s:=by
 refine Calls.call_function_entry kind_sorted plain_sorted entry_sorted (args_sorted1 _) ?_
 unfold Builtin.«sorted»
 refine Γa (m:=checkCount "sorted" 1 1 _) (Γb ?_)
 refine Γa (b4k hl ?_ (by rw[sizeLine_eq];lia))
 refine Γa (wpAny_newList ?_ (by rw[sizeLine_eq];lia))
 have hsz:((s.heap.push (seqObj "list" #[] 0)).update s.heap.objs.size (Obj.mapSeq (·++vs.toArray))).objs.size=s.heap.objs.size+1:=by
  rw[Heap.size_update,size_push']
 have hoL:(((s.heap.push (seqObj "list" #[] 0)).update s.heap.objs.size (Obj.mapSeq (·++vs.toArray))).push (seqObj "list" vs.toArray 0)).get? (s.heap.objs.size+1)=some (seqObj "list" vs.toArray 0):=by
  rw[<- hsz];exact Γm _ rfl
 have keep:∀ b o,s.heap.get? b=some o->(((s.heap.push (seqObj "list" #[] 0)).update s.heap.objs.size (Obj.mapSeq (·++vs.toArray))).push (seqObj "list" vs.toArray 0)).get? b=some o:=λb o q=>by
  have hlt:b<s.heap.objs.size:=Γl q
  rw[Heap.get?_push_ne _ _ _ (by rw[hsz];exact Γo (Nat.lt_succ_of_lt hlt)),Heap.get?_update_ne _ _ _ _ (Γo hlt),Heap.get?_push_ne _ _ _ (Γo hlt)]
  exact q
 have old:∀ b o,s.heap.get? b=some o->b≠s.heap.objs.size+1:=λb o e=>Γo (Nat.lt_succ_of_lt (Γl e))
 show wpAny _ _ _ _ _ { s with heap:=((s.heap.push (seqObj "list" #[] 0)).update s.heap.objs.size (Obj.mapSeq (·++vs.toArray))).push (seqObj "list" vs.toArray 0) }
 rw[hsz]
 refine Γa (Γg (wpAny_call_entry slot_list_sort ⟨_,hoL,rfl⟩ entry_list_sort (d5o RT hm (kd:=kd) (kf:=kf) hoL hb (λh2 h3 kp=>hk _ h2 h3 λb o e=>kp b o (old b o e) (keep b o e)) (λh3 kp=>hc _ h3 λb o e=>kp b o (old b o e) (keep b o e)) λvs' h' c tk a1 a2 a3 a4=>⟨_,rfl,?_⟩) (args_list_sort _)))
 exact Γb ⟨_,rfl,K _ vs' h' c tk a1 a2 (Nat.le_succ _) a3 λb o e=>a4 b o (old b o e) (keep b o e)⟩
end
noncomputable def a7f (h:Heap):Value->List Int
 | .ref a=>match h.get? a with
  | some o=>match o.data with
   | .seq us _=>us.toList.map numOf
   | _=>[]
  | none=>[]
 | _=>[]
theorem a8y:∀ {ks:List Int}{us:List Value},Vals (ks.map V.int) us->us.map numOf=ks
 | [],us,h=>by cases h;rfl
 | k :: ks,us,h=>by
  cases h with
  | @cons _ u _ us' r1 h =>
  obtain⟨t,rfl⟩:=r1
  rw[List.map_cons,a8y h];rfl
noncomputable def c2k (fin:Bool):List Int->List Int->Bool
 | [],_=>fin
 | _ :: _,[]=>fin
 | k :: ks,j :: js=>if k=j then c2k fin ks js else decide (k<j)
theorem b6k:∀ (ks js:List Int),c2k (decide (ks.length<js.length)) ks js=lexLt ks js
 | [],[]=>by simp[c2k,lexLt]
 | [],j :: js=>by simp[c2k,lexLt]
 | k :: ks,[]=>by simp[c2k,lexLt]
 | k :: ks,j :: js=>by
  rw[c2k,lexLt]
  have:=b6k ks js
  simp only[List.length_cons,Nat.add_lt_add_iff_right]
  rw[this]
section
variable {prog:Program}{w:World}{A:Around}{E:Value->Shared->Prop}{s:Shared}{vs:List Value}
theorem c2i {b fin:Bool}{Q:Bool->Shared->Prop}:∀ (ks js:List Int)(us ws:List Value) (i:Nat),Vals (ks.map V.int) us->Vals (js.map V.int) ws->Q (c2k fin ks js) s->KatLex prog w A b fin Q (us.zip ws) i s
 | [],js,us,ws,i,h1,h2,q=>by
  cases h1
  rw[List.zip_nil_left]
  exact q
 | k :: ks,[],us,ws,i,h1,h2,q=>by
  cases h2
  rw[List.zip_nil_right]
  exact q
 | k :: ks,j :: js,us,ws,i,h1,h2,q=>by
  cases h1 with
  | @cons _ u _ us' r1 h1 =>
  cases h2 with
  | @cons _ x _ ws' r2 h2 =>
  obtain⟨t1,rfl⟩:=r1
  obtain⟨t2,rfl⟩:=r2
  rw[List.zip_cons_cons]
  rw[c2k] at q
  refine kat_cons (wpAny_eqBool_int (kat_go (λe=>kat_yes (c2i ks js us' ws' (i+1) h1 h2 ?_)) λe=>kat_no ?_))
  ·have e:k=j:=by simpa using e
   rwa [if_pos e] at q
  ·have e:k≠j:=by simpa using e
   rw[if_neg e] at q
   cases b && i == 0
   ·exact kat_one _ _ (PyProof.Rows.lt_int q)
   ·exact oneLt_int q
noncomputable def NumTup (h:Heap)(v:Value)(ks:List Int):Prop:=∃ (a:Addr)(o:Obj)(us:List Value) (n:Nat),v=.ref a/\h.get? a=some o/\o.cls=.type "tuple"/\o.data=.seq us.toArray n/\Vals (ks.map V.int) us/\ks≠[]
theorem NumTup.keep {h h':Heap}{v:Value}{ks:List Int}(x:NumTup h v ks)(k:∀ b o,h.get? b=some o->h'.get? b=some o):NumTup h' v ks:=by
 obtain⟨a,o,us,n,e,h1,h2⟩:=x
 exact⟨a,o,us,n,e,k _ _ h1,h2⟩
theorem NumTup.nums {h:Heap}{v:Value}{ks:List Int}(x:NumTup h v ks):a7f h v=ks:=by
 obtain⟨a,o,us,n,rfl,h1,h2,h3,h4,_⟩:=x
 simp only[a7f,h1,h3]
 exact a8y h4
theorem NumTup.it {h:Heap}{v:Value}{ks:List Int}(x:NumTup h v ks):IntTup h v:=by
 obtain⟨a,o,us,n,rfl,h1,h2,h3,h4,h5⟩:=x
 cases ks with
 | nil=>exact absurd rfl h5
 | cons k ks=>exact⟨a,o,us,n,k,ks,rfl,h1,h2,h3,h4⟩
theorem d5n {b:Bool}{x y:Value}{ks js:List Int}{Q:Bool->Shared->Prop}(hx:NumTup s.heap x ks)(hy:NumTup s.heap y js)(q:Q (lexLt ks js) s):wpAny (model prog w) A (keyLt' (tuples' b) x y) Q E s:=by
 obtain⟨a,o,us,n,rfl,h1,h2,h3,h4,_⟩:=hx
 obtain⟨a',o',us',n',rfl,g1,g2,g3,g4,_⟩:=hy
 refine kat_lt h1 h3 g1 g3 (c2i ks js _ _ 0 h4 g4 ?_)
 have e1:ks.length=us.length:=by have:=h4.length;simpa using this
 have e2:js.length=us'.length:=by have:=g4.length;simpa using this
 rw[List.size_toArray,List.size_toArray,<- e1,<- e2,b6k];exact q
theorem b1a {m:Nat}(RT:a7o m)(hm:m<=100000){l:Addr}{Q:Value->Shared->Prop}(hl:SqH s.heap l vs.toArray)(hb:vs.length<=m)(ht:∀ v∈vs,∃ ks,NumTup s.heap v ks)
  (K:∀ (D:Addr)(vs':List Value)(h':Heap) (c tk:Nat),vs'.Perm vs->(vs'.Pairwise λx y=>lexLt (a7f s.heap y) (a7f s.heap x)=false)->s.heap.objs.size<=D->h'.get? D=some (seqObj "list" vs'.toArray c)->(∀ b o,s.heap.get? b=some o->h'.get? b=some o)->Q (.ref D) { s with heap:=h',toks:=tk }) :
  wpAny (model prog w) A (call (.builtin "sorted") [.ref l]) Q E s:=by
 refine b3r RT hm (kd:=tuples' true) (kf:=a7f s.heap) hl hb (λA' h2 h3 kp Q q=>?_) (λA' h3 kp x hx y hy Q E' q=>?_) K
 ·obtain⟨fs,t1,t2,t3⟩:=b2t (h:=h3) (vs:=vs) λv hv=>by
   obtain⟨ks,hk⟩:=ht v hv
   exact (hk.keep kp).it
  refine kat_kind (T:=.type "int") t1 (by lia) (λv hv=>?_) (by decide) q
  obtain⟨k,t,rfl⟩:=t3 v hv
  exact .now
 ·obtain⟨ks,hk⟩:=ht x hx
  obtain⟨js,hj⟩:=ht y hy
  rw[hk.nums,hj.nums] at q
  exact d5n (hk.keep kp) (hj.keep kp) q
end
noncomputable def vNum:V->Int
 | .int i=>i
 | _=>0
noncomputable def c1l (H:Hp):V->List Int
 | .ref b=>match H b with
  | some (.tup xs)=>xs.map vNum
  | _=>[]
 | _=>[]
noncomputable def c5g:FV->List Int
 | .tup ps=>(a0u ps).getD []
 | _=>[]
theorem a7p:∀ ks:List Int,(ks.map V.int).map vNum=ks
 | []=>rfl
 | k :: ks=>by rw[List.map_cons,List.map_cons,a7p ks];rfl
noncomputable def b3c (m:Nat)(a:EW):EW:=λL Q=>a L λv L1=>wp (a4z v) λxs=>a2p xs=true/\xs.length<=m/\∀ ys:List FV,ys.Perm xs->(ys.Pairwise λx y=>lexLt (c5g y) (c5g x)=false)->Q (.lst ys) L1
@[scoped simp ↓] theorem d0i (m:Nat)(a:EW)(L:a0c)(Q:FV->a0c->Prop):b3c m a L Q=(a L λv L1=>wp (a4z v) λxs=>a2p xs=true/\xs.length<=m/\∀ ys:List FV,ys.Perm xs->(ys.Pairwise λx y=>lexLt (c5g y) (c5g x)=false)->Q (.lst ys) L1):=propext Iff.rfl
section
variable {K:Γd}{S:Hp}
theorem a7q:∀ {xs:List FV}{ys:List V},a2p xs=true->RVs K S xs ys->(∀ y∈ys,∃ (b:Addr)(ks:List Int),y=.ref b/\ks≠[]/\S b=some (.tup (ks.map V.int)))/\ys.map (c1l S)=xs.map c5g
 | [],ys,_,h=>by cases (show ys=[] from h);simp
 | x :: xs,ys,t,⟨v,r,e,h1,h2⟩=>by
  subst e
  cases x with
  | tup ps =>
   have t:((match a0u ps with|some (_ :: _)=>true|_=>false) && a2p xs)=true:=t
   obtain⟨t1,t2⟩:=Bool.and_eq_true_iff.mp t
   obtain⟨i1,i2⟩:=a7q t2 h2
   cases e:a0u ps with
   | none=>rw[e] at t1;cases t1
   | some ns =>
    cases ns with
    | nil=>rw[e] at t1;cases t1
    | cons k ks =>
     obtain⟨a,us,rfl,g1,g2⟩:=h1
     cases a1y g2 e
     refine⟨λy hy=>?_,?_⟩
     ·rcases List.mem_cons.mp hy with rfl|hy
      ·exact⟨a,k :: ks,rfl,by simp,g1⟩
      ·exact i1 y hy
     ·rw[List.map_cons,List.map_cons,i2]
      congr 1
      simp only[c1l,g1,c5g,e,Option.getD_some]
      exact a7p _
  | _=>cases t
end
section
variable {X:Cx}
noncomputable def c7m (X:Cx) (m:Nat):List V->Hp->VK->Prop:=λxs H Q=>∃ (a:Addr)(ys:List V),xs=[.ref a]/\(SqL X.K H a ys ∨ SqT X.K H a ys)/\ys.length<=m/\(∀ y∈ys,∃ (b:Addr)(ks:List Int),y=.ref b/\ks≠[]/\H b=some (.tup (ks.map V.int)))/\∀ p zs,H p=none->zs.Perm ys->(zs.Pairwise λx y=>lexLt (c1l H y) (c1l H x)=false)->Q (.ref p) (upd H p (.lst zs))
theorem Vals.keyed {H:Hp}{h:Heap}(hk:∀ (b:Addr)(ks:List Int),H b=some (.tup (ks.map V.int))->ks≠[]->NumTup h (.ref b) ks):∀ {zs:List V}{us:List Value},Vals zs us->(∀ z∈zs,∃ (b:Addr)(ks:List Int),z=.ref b/\ks≠[]/\H b=some (.tup (ks.map V.int)))->us.map (a7f h)=zs.map (c1l H)
 | [],us,r,_=>by cases r;rfl
 | z :: zs,us,r,hz=>by
  cases r with
  | @cons _ u _ us' r1 r =>
  obtain⟨b,ks,rfl,h1,h2⟩:=hz z (by simp)
  cases (show u=Value.ref b from r1)
  rw[List.map_cons,List.map_cons,Vals.keyed hk r λy hy=>hz y (Γh _ hy),(hk b ks h2 h1).nums]
  simp only[c1l,h2,a7p]
theorem b2j {α β γ:Type}{R:γ->γ->Prop}{f:α->γ}{g:β->γ}{xs:List α}{ys:List β}(e:xs.map f=ys.map g)(h:xs.Pairwise λx y=>R (f y) (f x)):ys.Pairwise λx y=>R (g y) (g x):=by
 have h1:=List.pairwise_map (f:=f) (R:=λx y=>R y x) |>.mpr h
 rw[e] at h1
 exact List.pairwise_map.mp h1
theorem c6a {m:Nat}(RT:a7o m)(hm:m<=100000):a1j X (.builtin "sorted") (c7m X m):=by
 rintro pins s σ H xs us Q I r ⟨a,ys,rfl,hl,hb,ht,k⟩
 obtain⟨u,rfl,ru⟩:=a3e r
 cases (show u=Value.ref a from ru)
 obtain⟨its,rv,pl,hz⟩:∃ its:List Value,Vals ys its/\SqH s.heap a its.toArray/\ys.length<=sizeLine:=by
  rcases hl with hl|hl
  ·obtain⟨its,rv,pl,hz⟩:=I.list hl
   obtain⟨o,ho,hc,n,hd⟩:=pl.isList
   exact⟨its,rv,⟨o,_,n,ho,.inl rfl,hc,hd⟩,hz⟩
  ·obtain⟨its,rv,⟨o,ho,hc,n,hd⟩,hz⟩:=I.tuple hl
   exact⟨its,rv,⟨o,_,n,ho,.inr rfl,hc,hd⟩,hz⟩
 have ll:ys.length=its.length:=rv.length
 have nt:∀ (b:Addr)(ks:List Int),H b=some (.tup (ks.map V.int))->ks≠[]->NumTup s.heap (.ref b) ks:=by
  intro b ks hb hn
  obtain⟨_,jts,rr,o,e1,e2,n,e3⟩:=(show ObjOk X.prog X.w H s.heap b (.tup (ks.map V.int)) from I.hok b _ hb)
  exact⟨b,o,jts,n,rfl,e1,e2,e3,rr,hn⟩
 have tv:∀ v∈its,∃ ks,NumTup s.heap v ks:=by
  intro v hv
  obtain⟨i,hi⟩:=List.mem_iff_getElem?.mp hv
  have hil:i<ys.length:=by rw[ll];exact (List.getElem?_eq_some_iff.mp hi).1
  obtain⟨u,e,ru⟩:=rv.get (i:=i) (x:=ys[i]) (by simp[hil])
  rw[hi] at e;cases e
  obtain⟨b,ks,e,hn,hb⟩:=ht _ (List.getElem_mem hil)
  rw[e] at ru
  cases (show v=Value.ref b from ru)
  exact⟨ks,nt b ks hb hn⟩
 refine b1a RT hm pl (by lia) tv λD vs' h' c tk p1 po p2 p3 p4=>?_
 obtain⟨zs,e,g⟩:=Vals.perm p1 rv
 have hn:H D=none:=I.hok.fresh p2
 have hkey:=Vals.keyed nt g λz hz=>ht z (e.mem_iff.mp hz)
 refine⟨.ref D,_,I.laid (a:=D) (o:=.lst zs) (t':=tk) p4 p2 ⟨by rw[e.length_eq];exact hz,vs',c,g,p3⟩,rfl,k D zs hn e ?_⟩
 exact b2j (R:=λu v=>lexLt u v=false) hkey po
end
section
variable {X:Cx}{C:CC}{n:Nat}{sp:Γd->Nat->Sp}{a:Expr}{ea:EW}{pos p:Pos}
theorem b9e {m:Nat}(RT:a7o m)(hm:m<=100000)(G:Good X C n sp)(hg:C.gl (Γe "sorted")=true)(hs:a0h a=false)(ha:FR X C a ea):FE X C (.Call (.Name (Γe "sorted") p) [a] [] pos) (b3c m ea) :=
 PE.imp (a4o (c6a RT hm) (G.gl hg) (G.blt "sorted" (by decide)) (by nofun) (a0s ha a2q (a0f hs)) (by nofun) (by nofun) (a0f hs) rfl) λσ H Q ⟨c,L,S,Q0,I,h,k⟩ =>
 ⟨c,L,S,_,I,h,λv L1 hv x S1 H1 r1 I1 s1=>by
  obtain⟨xs,e1,t1,t2,q⟩:=wpx hv
  obtain⟨a,ys,rfl,hq,ry⟩:=r1.seq I1.sub e1
  have hl:=ry.length
  obtain⟨i1,i2⟩:=a7q t1 ry
  have hq2:SqL X.K H1 a ys ∨ SqT X.K H1 a ys:=by
   revert hq
   cases isL v with
   | true=>exact .inl
   | false=>exact .inr
  refine⟨a,ys,rfl,hq2,by lia,λy hy=>?_,λp zs hp hz ho=>?_⟩
  ·obtain⟨b,ks,e,hn,hb⟩:=i1 y hy
   exact⟨b,ks,e,hn,I1.sub _ _ hb⟩
  ·obtain⟨qs,e,g⟩:=RVs.perm hz ry
   have tq:a2p qs=true:=by
    have mem:∀ (l:List FV),a2p l=true↔∀ x∈l,a2p [x]=true:=by
     intro l
     induction l with
     | nil=>simp[a2p]
     | cons x r ih =>
      cases x with
      | tup ps=>simp only[a2p,Bool.and_eq_true,ih,List.forall_mem_cons,and_true]
      | _=>simp[a2p]
    exact (mem qs).mpr λx hx=>(mem xs).mp t1 x (e.mem_iff.mp hx)
   obtain⟨j1,j2⟩:=a7q tq g
   have hkk:zs.map (c1l H1)=qs.map c5g:=by
    rw[<- j2]
    apply List.map_congr_left
    intro z hz'
    obtain⟨b,ks,rfl,hn,hb⟩:=j1 z hz'
    simp only[c1l,hb,I1.sub _ _ hb]
   refine k _ L1 (q qs e (b2j (R:=λu v=>lexLt u v=false) hkk ho)) _ _ _ ⟨p,zs,rfl,a0d,g.mono (a0j (I1.sn hp))⟩ (I1.new hp _) (s1.trans (a0j (I1.sn hp)))⟩
theorem d2n (G:Good X C n sp)(hg:C.gl (Γe "sorted")=true)(hs:a0h a=false)(ha:FR X C a ea):FE X C (.Call (.Name (Γe "sorted") p) [a] [] pos) (b3c big ea):=b9e c3g (by decide) G hg hs ha
end
noncomputable def EntAt (h:Heap)(d:Addr)(es:Array DictEntry) (ep:Nat):Prop:=∃ o,h.get? d=some o/\o.ExactDict/\o.data=.dict es ep
section
variable {prog:Program}{w:World}{A:Around}{E:Value->Shared->Prop}{s:Shared}{it d:Addr}{i n ep:Nat}{es:Array DictEntry}
theorem EntAt.ty (x:EntAt s.heap d es ep):s.TypeIs (.ref d) "dict":=by
 obtain⟨o,ho,hc,_⟩:=x
 exact⟨o,ho,hc.1⟩
theorem EntAt.keep {h h':Heap}(x:EntAt h d es ep)(k:∀ o,h.get? d=some o->h'.get? d=some o):EntAt h' d es ep:=by
 obtain⟨o,ho,r⟩:=x
 exact⟨o,k o ho,r⟩
theorem c0k {Q:Value->Shared->Prop}(hd:(d == sysModules)=false)(hm:EntAt s.heap d es ep)
  (q:Q (.ref s.heap.objs.size) { s with heap:=s.heap.push { cls:=.type "dict_keyiterator",data:=.fields #[.ref d,.int 0 0,.int es.size 0,.int ep 0] } }):wpAny (model prog w) A (pyIter (.ref d)) Q E s:=by
 have hT:=hm.ty
 obtain⟨o,ho,hc,hdat⟩:=hm
 refine wpAny_pyIter_slot hT F.slot_dict_iter (wpAny_call_entry F.slot_dict_iter hT F.entry_dict_iter ?_ (F.args_dict_iter_1 _));unfold Builtin.«dict.__iter__»;refine Γa ?_;unfold Builtin.Dict.dictSlotNone
 refine Γa (wpAny_notOrdered_dict hT ?_);show wpAny _ _ (pure (Value.ref d)) _ _ s;refine Γb ?_;show wpAny _ _ (Builtin.Dict.showsAll d >>= _) _ _ s;unfold Builtin.Dict.showsAll
 rw[if_neg (by rw[hd];exact Γk)];refine Γa (Γb (Γa (wpAny_dictEntries ho hdat (Γa (wpAny_dictEpoch ho hdat ?_)))))
 refine Γa (wpAny_newObj_type (Γb ⟨_,rfl,"dict_keyiterator",_,⟨_,Γm _ rfl,rfl⟩,F.slot_dict_keyiterator_next.lookup,?_⟩));simpa[rawInt] using q
theorem c0b {Q:Option Value->Shared->Prop}(hit:s.heap.IsKeyIter it d i es.size ep)(hm:EntAt s.heap d es ep)(hi:i<es.size)
  (q:∀ h',h'.IsKeyIter it d (i+1) es.size ep->Heap.SameBut it s.heap h'->Q (some es[i].key) { s with heap:=h' }):wpAny (model prog w) A (pyNext (.ref it)) Q E s:=by
 have hT:=hit.typeIs
 obtain⟨o,ho,hc,hd⟩:=id hit
 obtain⟨od,hod,_,hdd⟩:=hm
 have hown:Builtin.Dict_items.ownsTuple "dict_keyiterator" = false:=by decide
 unfold pyNext;refine Γa (wpAny_attempt (wpAny_callSpecial?_slot (name:=Γe "__next__") hT F.slot_dict_keyiterator_next (wpAny_call_entry F.slot_dict_keyiterator_next hT F.entry_dict_keyiterator_next ?_ (F.args_dict_keyiterator_next_1 _))))
 refine Γa (Γb (Γa (Γa ?_)));first|refine Γa (wpAny_typeNameOfWhole_keyiter hT (Γb ?_))|refine Γa (wpAny_typeNameOf_keyiter hT (Γb ?_))
 refine Γa (wpAny_fieldsOf ho hd ?_);simp only[hown,Γp,if_false];show wpAny _ _ (if (Value.ref d == Value.none)=true then _ else _) _ _ s;rw[if_neg (show ¬ ((Value.ref d == Value.none)=true) from Γk)]
 refine Γa (Γb (Γa (wpAny_dictEntries hod hdd ?_)));rw[if_neg (by simp)]
 refine Γa (Γb (Γa (wpAny_dictEpoch hod hdd ?_)));rw[if_neg (by simp)];refine Γb ?_
 simp only[show ¬ ((i:Int)<0) from by lia,if_false,Int.toNat_natCast,Array.getElem?_eq_getElem hi];refine Γa ?_
 first|refine Γa (wpAny_typeNameOfWhole_keyiter hT (Γb (Γa (wpAny_isOneOf_keyiter hT ?_))))|refine Γa (wpAny_typeNameOf_keyiter hT (Γb (Γa (wpAny_isOneOf_keyiter hT ?_))))
 show wpAny _ _ (setField (.ref it) 1 (rawInt ((i:Int)+1)) >>= _) _ _ s;refine Γa (wpAny_setField ho hd (by simp) ?_)
 have hit':(s.heap.update it (Obj.mapFields (·.setIfInBounds 1 (rawInt ((i:Int)+1))))).IsKeyIter it d (i+1) es.size ep:=⟨_,Heap.get?_update_self _ ho (Obj.isFreed_of_fields (Obj.data_mapFields hd _)),(Obj.cls_mapFields ..).trans hc,by rw[Obj.data_mapFields hd];simp[rawInt]⟩
 refine Γa (Γg (Γa (wpAny_isOneOf_keyiter (s:={ s with heap:=s.heap.update it (Obj.mapFields (·.setIfInBounds 1 (rawInt ((i:Int)+1)))) }) hit'.typeIs ?_)));show wpAny _ _ (pure es[i].key) _ _ _
 exact Γb (Γb ⟨_,rfl,Γb (q _ hit' (Heap.SameBut.update ..))⟩)
theorem c5j {Q:Option Value->Shared->Prop}(hh:A.handled=none)(hit:s.heap.IsKeyIter it d i es.size ep)(hm:EntAt s.heap d es ep)(hi:es.size<=i)
  (q:∀ h',Heap.ExtBut it s.heap h'->Q none { s with heap:=h' }):wpAny (model prog w) A (pyNext (.ref it)) Q E s:=by
 have hT:=hit.typeIs
 obtain⟨o,ho,hc,hd⟩:=id hit
 obtain⟨od,hod,_,hdd⟩:=hm
 have hown:Builtin.Dict_items.ownsTuple "dict_keyiterator" = false:=by decide
 unfold pyNext;refine Γa (wpAny_attempt (wpAny_callSpecial?_slot (name:=Γe "__next__") hT F.slot_dict_keyiterator_next (wpAny_call_entry F.slot_dict_keyiterator_next hT F.entry_dict_keyiterator_next ?_ (F.args_dict_keyiterator_next_1 _))))
 refine Γa (Γb (Γa (Γa ?_)));first|refine Γa (wpAny_typeNameOfWhole_keyiter hT (Γb ?_))|refine Γa (wpAny_typeNameOf_keyiter hT (Γb ?_))
 refine Γa (wpAny_fieldsOf ho hd ?_);simp only[hown,Γp,if_false];show wpAny _ _ (if (Value.ref d == Value.none)=true then _ else _) _ _ s;rw[if_neg (show ¬ ((Value.ref d == Value.none)=true) from Γk)]
 refine Γa (Γb (Γa (wpAny_dictEntries hod hdd ?_)));rw[if_neg (by simp)]
 refine Γa (Γb (Γa (wpAny_dictEpoch hod hdd ?_)));rw[if_neg (by simp)];refine Γb ?_
 simp only[show ¬ ((i:Int)<0) from by lia,if_false,Int.toNat_natCast,Array.getElem?_eq_none hi];refine Γa ?_
 first|refine Γa (wpAny_typeNameOfWhole_keyiter hT (Γb ?_))|refine Γa (wpAny_typeNameOf_keyiter hT (Γb ?_))
 show wpAny _ _ (setField (.ref it) 0 .none >>= _) _ _ s;refine Γa (wpAny_setField ho hd (by simp) ?_);show wpAny _ _ (newExc (.type "StopIteration") [] >>= _) _ _ _;refine Γa ?_;simp only[newExc,newTuple]
 refine Γa (wpAny_newObj_type ?_ (by size_fits));refine Γa (m:=firstArgMember _ _) (wpAny_of_eq (a:=Value.none) (by first|rfl|(simp only[firstArgMember];rfl)) ?_);refine wpAny_newObj_type ?_ (by size_fits);simp only[raiseNew]
 refine Γa (wpAny_handled ?_);rw[show A.in1.handled=none from hh];refine Γa (Γb (wpAny_throw ?_))
 refine Γa (wpAny_isInstance (T:="StopIteration") (b:=true) ⟨_,Γm _ rfl,rfl⟩ isSubtype_stop ?_);exact Γb (q _ (((Heap.SameBut.update ..).extBut.push _).push _))
end
section
variable {X:Cx}{pins:List (Addr×Obj)}{σ:L2.St}{H:Hp}{s:Shared}{a:Addr}
theorem b2v {kvs:List (List (Int ⊕ Option Str)×V)}{o:Obj}(I:Inv X pins σ H s)(h:H a=some (.dT kvs))(ho:s.heap.get? a=some o):Inv X pins σ (upd H a (.frz o (.dT kvs))) s:=by
 have ne:∀ {b:Addr}{u:HO},H b=some u->u≠.dT kvs->b≠a:=λe n z=>by subst z;rw[h] at e;exact n (Option.some.inj e).symm
 have ow:∀ b c,H b=some (.own c)->upd H a (.frz o (.dT kvs)) b=some (.own c):=λb c e=>by rw[a0e (ne e (λz=>nomatch z))];exact e
 have tu:∀ b xs,H b=some (.tup xs)->upd H a (.frz o (.dT kvs)) b=some (.tup xs):=λb xs e=>by rw[a0e (ne e (λz=>nomatch z))];exact e
 refine I.un (t':=s.toks) (h':=s.heap) ⟨λb o' e _ _ _=>e,λb o' e _ _ _=>⟨o'.slots,e⟩,λb o' e n _=>?_,λb o' e _=>⟨o',e⟩,tu,λb o' u e=>?_,λb ps e=>?_⟩ λb u e=>?_
 ·rw[a0e (λz=>by subst z;rw[h] at n;cases n)];exact n
 ·rw[a0e (ne e (λz=>nomatch z))];exact e
 ·exact⟨#[],by rw[a0e (ne e (λz=>nomatch z)),Array.append_empty];exact e⟩
 ·by_cases z:b=a
  ·subst z
   rw[a0d] at e;cases e
   exact⟨ho,(I.hok b _ h).stay (λ_ _ _ q=>q) (λc e=>ow c b e) tu⟩
  ·rw[a0e z] at e
   exact (I.hok b u e).stay (λ_ _ _ q=>q) (λc e=>ow c b e) tu
end
noncomputable def Itk (a:Addr)(o:Obj)(kvs:List (List (Int ⊕ Option Str)×V)):It :=
 ⟨λi H=>H a=some (.frz o (.dT kvs))/\i<kvs.length,λi H v H'=>H'=H/\∃ b p,v=.ref b/\kvs[i]?=some p/\H b=some (.tup (p.1.map kV)),λi H=>H a=some (.frz o (.dT kvs))/\kvs.length<=i⟩
theorem a9y {P:Program}{w:World}{H:Hp}{h:Heap}{a:Addr}{kvs:List (List (Int ⊕ Option Str)×V)}(x:ObjOk P w H h a (.dT kvs)):∃ o es ep,h.get? a=some o/\o.data=.dict es ep/\EntAt h a es ep/\es.size=kvs.length/\(a == sysModules)=false/\∀ (i:Nat)(hi:i<es.size) p,kvs[i]?=some p->∃ b,es[i].key=.ref b/\H b=some (.tup (p.1.map kV)):=by
 obtain⟨_,y,xs,r,o,es,ep,h1,h2,h3,h4,_⟩:=x
 have hl:kvs.length=xs.length:=r.length
 have hs:es.size=xs.length:=by rw[<- Array.length_toList,h4,List.length_map]
 refine⟨o,es,ep,h1,h3,⟨o,h1,h2,h3⟩,by lia,y,λi hi p hp=>?_⟩
 have hx:i<xs.length:=by lia
 have key:∀ {l:List (List (Int ⊕ Option Str)×V)}{m:List (List (Int ⊕ Option Str)×Addr×Value)},Paired (λ(p:List (Int ⊕ Option Str)×V)(q:List (Int ⊕ Option Str)×Addr×Value)=>p.1=q.1/\H q.2.1=some (.tup (p.1.map kV))/\RelV p.2 q.2.2) l m->∀ (i:Nat) p q,l[i]?=some p->m[i]?=some q->H q.2.1=some (.tup (p.1.map kV)):=by
  intro l m z
  induction z with
  | nil=>intro i p q h;simp at h
  | @cons p0 q0 ps qs hq t ih =>
   intro i p q e1 e2
   cases i with
   | zero=>simp at e1 e2;subst e1;subst e2;exact hq.2.1
   | succ i=>simp at e1 e2;exact ih i p q e1 e2
 refine⟨xs[i].2.1,?_,key r i p xs[i] hp (by simp[hx])⟩
 have e:es.toList[i]'(by simpa using hi)=entryOfKey (tupleKind (a0k P w)) xs[i]:=by simp only[h4,List.getElem_map]
 rw[<- Array.getElem_toList (h:=hi),e];rfl
theorem b4u {P:Program}{w:World}{K:Γd}{tg:Expr}{o:Obj}{kvs:List (List (Int ⊕ Option Str)×V)}{es:Array DictEntry}{ep:Nat}(a it:Addr)(hd:o.data=.dict es ep)(hz:es.size=kvs.length):Turn P w K tg (Itk a o kvs) [it] it (λi h=>h.IsKeyIter it a i es.size ep) where
 mem:=by simp
 obj:=λi h st b hb=>by
  have e:b=it:=by simpa using hb
  subst e
  obtain⟨o,e,c,d⟩:=st
  exact⟨o,e,λv z=>by rw[d] at z;cases z⟩
 keep:=λi h h' st k=>st.at λo e=>k it (by simp) o e
 item:=by
  intro X hP hw hK hc i pins s σ H E I hf st hg
  subst hP hw hK
  obtain⟨e0,hi⟩:=hg
  obtain⟨q1,q2⟩:=(show ObjOk X.prog X.w H s.heap a (.frz o (.dT kvs)) from I.hok a _ e0)
  obtain⟨o',es',ep',f1,f2,f3,f4,f5,f6⟩:=a9y q2
  rw[q1] at f1;cases f1
  rw[hd] at f2;cases f2
  obtain⟨f0,g1,g2,g3,g4,g5⟩:=hf it (by simp)
  have hi':i<es.size:=by lia
  obtain⟨b,k1,k2⟩:=f6 i hi' kvs[i] (by simp[hi])
  refine c0b st f3 hi' λh' st' sb=>?_
  have I1:Inv X pins σ H { s with heap:=h' }:=I.turned (t':=s.toks) (λb o hb e=>(sb.2 b hb).trans e) f0 g1 g3 g4 g5
  obtain⟨o2,e,c,d⟩:=id st'
  rw[k1]
  exact⟨_,rfl,c0s (s:={ s with heap:=h' }) e c d (by decide) ⟨.ref b,H,I1,rfl,⟨rfl,b,kvs[i],rfl,by simp[hi],k2⟩,st',λb hb=>(hf b hb).1⟩⟩
 done:=by
  intro X hP hw hK hc i pins s σ H E I hf st hg
  subst hP hw hK
  obtain⟨e0,hi⟩:=hg
  obtain⟨q1,q2⟩:=(show ObjOk X.prog X.w H s.heap a (.frz o (.dT kvs)) from I.hok a _ e0)
  obtain⟨o',es',ep',f1,f2,f3,f4,f5,f6⟩:=a9y q2
  rw[q1] at f1;cases f1
  rw[hd] at f2;cases f2
  obtain⟨f0,g1,g2,g3,g4,g5⟩:=hf it (by simp)
  exact c5j (I.ok.hd hc) st f3 (by lia) λh' eb=>⟨rfl,I.turned (t':=s.toks) (λb o hb e=>eb b o hb e) f0 g1 g3 g4 g5⟩
 self:=λ_ _ _ _ _ st h=>wpAny_pyIter_keyiter st h
theorem c3u {X:Cx}{tg it:Expr}{te:TE}(h:PE X it te):PI X tg it (λσ H R=>te σ H λv H1=>∃ a kvs,v=.ref a/\((H1 a=some (.dT kvs)/\∀ o,R (Itk a o kvs) (upd H1 a (.frz o (.dT kvs)))) ∨ ∃ o,H1 a=some (.frz o (.dT kvs))/\R (Itk a o kvs) H1)):=by
 intro pins s σ H R I hh
 refine thn (h pins s σ H _ I hh) λv s1 ⟨x,H1,I1,r1,a,kvs,e,q⟩=>?_
 subst e
 cases r1
 have one:∀ (o:Obj)(H2:Hp),Inv X pins σ H2 s1->H2 a=some (.frz o (.dT kvs))->R (Itk a o kvs) H2->wpAny (model X.prog X.w) X.A (pyIter (.ref a)) (PIE X pins σ tg R) X.xe s1:=by
  intro o H2 I2 e2 q
  obtain⟨q1,q2⟩:=(show ObjOk X.prog X.w H2 s1.heap a (.frz o (.dT kvs)) from I2.hok a _ e2)
  obtain⟨o',es,ep,f1,f2,f3,f4,f5,f6⟩:=a9y q2
  rw[q1] at f1;cases f1
  refine c0k f5 f3 ?_
  refine⟨s1.heap.objs.size,[s1.heap.objs.size],_,_,H2,rfl,I2.kept (t':=s1.toks) λb o e=>Γc _ e,b4u a _ f2 f4,⟨_,Γm _ rfl,rfl,rfl⟩,λb hb=>?_,q⟩
  have e:b=s1.heap.objs.size:=by simpa using hb
  subst e
  exact I2.fpOk (Γi _) (I2.hok.fresh (Γi _))
 rcases q with⟨e1,q⟩|⟨o,e1,q⟩
 ·obtain⟨o,es,ep,f1,f2,_⟩:=a9y (show ObjOk X.prog X.w H1 s1.heap a (.dT kvs) from I1.hok a _ e1)
  exact one o _ (b2v I1 e1 f1) a0d (q o)
 ·exact one o H1 I1 e1 q
noncomputable def keyF (k:List Int):FV:=.tup (k.map .int)
section
variable {X:Cx}{C:CC}{n:Nat}{sp:Γd->Nat->Sp}{tg:Expr}{p:Pos}{i:Nat}{nx:Str}
variable {K:Γd}{c:Cn}{md:Md}
end
section
variable {prog:Program}{w:World}{A:Around}{E:Value->Shared->Prop}{s:Shared}{d:Addr}{es:Array DictEntry}{ep:Nat}
end
section
variable {X:Cx}
theorem a9g {α β:Type}{f:α->β}:∀ {l':List β}{m:List β},l'.Perm m->∀ l:List α,m=l.map f->∃ l2:List α,l2.Perm l/\l'=l2.map f:=by
 intro l' m h
 induction h with
 | nil=>intro l e;exact⟨[],by cases l with|nil=>exact .refl _|cons=>simp at e,rfl⟩
 | @cons x l1 l2 p ih =>
  intro l e
  cases l with
  | nil=>simp at e
  | cons a r =>
   simp at e
   obtain⟨q,h1,h2⟩:=ih r e.2
   exact⟨a :: q,h1.cons a,by rw[List.map_cons,<- e.1,<- h2]⟩
 | swap x y t =>
  intro l e
  rcases l with _|⟨a,_|⟨b,r⟩⟩
  ·simp at e
  ·simp at e
  ·simp at e
   obtain⟨rfl,rfl,rfl⟩:=e
   exact⟨b :: a :: r,.swap a b r,rfl⟩
 | trans p q ih1 ih2 =>
  intro l e
  obtain⟨m2,h1,h2⟩:=ih2 l e
  obtain⟨m3,h3,h4⟩:=ih1 m2 h2
  exact⟨m3,h3.trans h1,h4⟩
end
noncomputable def d0s:FV->Option (List (List Int))
 | .dct ks _=>some ks
 | .dcz _ ks _=>some ks
 | _=>none
noncomputable def eSortE (m j:Nat):EW:=λL Q=>wp (lk L j) λv=>wp (d0s v) λks=>ks.length<=m/\(∀ k∈ks,k≠[])/\∀ ys:List (List Int),ys.Perm ks->(ys.Pairwise λx y=>lexLt y x=false)->Q (.lst (ys.map keyF)) L
section
variable {X:Cx}{C:CC}{n:Nat}{sp:Γd->Nat->Sp}{pos p p':Pos}{i:Nat}{nx:Str}
theorem Iv.tups {K:Γd}{c:Cn}{md:Md}{L:a0c}{σ:L2.St}{H:Hp}:∀ {ys:List (List Int)}{zs:List V}{S:Hp},Iv K c md L σ S H->Paired (λ(k:List Int)(z:V)=>∃ b:Addr,z=V.ref b/\H b=some (.tup (k.map V.int))) ys zs->∃ S',Iv K c md L σ S' H/\Same S S'/\RVs K S' (ys.map keyF) zs
 | _,_,S,I,.nil=>⟨S,I,Same.refl S,rfl⟩
 | _,_,S,I,.cons (a:=k) (b:=z) ⟨b,e,hb⟩ t=>by
  subst e
  obtain⟨S',I',s',r⟩:=Iv.tups I t
  obtain⟨I2,s2⟩:=I'.tup hb
  exact⟨_,I2,s'.trans s2,V.ref b,_,rfl,⟨b,_,rfl,a0d,RVs.ns k⟩,r.mono s2⟩
end
noncomputable def b4q (xs:Array Nat):Prop:=∀ i j (hi:i<xs.size)(hj:j<xs.size),i<j->xs[i]<xs[j]
noncomputable def d1i (xs:Array Nat) (j r:Nat):Prop:=r<=xs.size/\(∀ k (h:k<xs.size),k<r->xs[k]<j)/\∀ k (h:k<xs.size),r<=k->j<=xs[k]
theorem a8s {xs:Array Nat}{j:Nat}(rs:b4q xs):∀ (f lo hi:Nat),hi<=xs.size->lo<=hi->hi-lo<=f->(∀ k (h:k<xs.size),k<lo->xs[k]<j)->(∀ k (h:k<xs.size),hi<=k->j<=xs[k])->d1i xs j (SetTable.below.go xs j f lo hi)
 | 0,lo,hi,h1,h2,h3,a,b=>by
  have e:lo=hi:=by lia
  subst e
  exact⟨h1,a,b⟩
 | f+1,lo,hi,h1,h2,h3,a,b=>by
  unfold SetTable.below.go
  by_cases h:lo<hi
  ·rw[if_pos h]
   have hm:(lo+hi) / 2<xs.size:=by lia
   dsimp only
   rw[Array.getD_eq_getD_getElem?,Array.getElem?_eq_getElem hm,Option.getD_some]
   by_cases q:xs[(lo+hi) / 2]<j
   ·rw[if_pos q]
    refine a8s rs f _ _ h1 (by lia) (by lia) (λk hk hl=>?_) b
    by_cases e:k=(lo+hi) / 2
    ·subst e;exact q
    ·exact Nat.lt_trans (rs k _ hk hm (by lia)) q
   ·rw[if_neg q]
    refine a8s rs f _ _ (by lia) (by lia) (by lia) a λk hk hl=>?_
    by_cases e:k=(lo+hi) / 2
    ·subst e;lia
    ·have:=rs _ k hm hk (by lia);lia
  ·rw[if_neg h]
   have e:lo=hi:=by lia
   subst e
   exact⟨h1,a,b⟩
theorem b1w {xs:Array Nat}(rs:b4q xs) (j:Nat):d1i xs j (SetTable.below xs j):=by
 unfold SetTable.below
 exact a8s rs _ _ _ (Γi _) (Nat.zero_le _) (by lia) (λk _ h=>absurd h (Nat.not_lt_zero _)) λk h1 h2=>absurd h1 (by lia)
theorem a8l {α:Type}(xs:Array α) (p:Nat)(x:α)(hp:p<=xs.size):(SetTable.insertAt xs p x).toList=xs.toList.take p++x :: xs.toList.drop p:=by
 unfold SetTable.insertAt
 simp
 exact List.take_of_length_le (by simp)
theorem rise_list {xs:Array Nat}:b4q xs↔xs.toList.Pairwise (· < ·):=by
 rw[List.pairwise_iff_getElem]
 constructor
 ·intro h i j hi hj l
  simpa using h i j (by simpa using hi) (by simpa using hj) l
 ·intro h i j hi hj l
  have:=h i j (by simpa using hi) (by simpa using hj) l
  rwa [Array.getElem_toList,Array.getElem_toList] at this
theorem b1o {xs:Array Nat}{j:Nat}(rs:b4q xs)(ne:xs[SetTable.below xs j]?≠some j):b4q (SetTable.insertAt xs (SetTable.below xs j) j):=by
 obtain⟨h1,h2,h3⟩:=b1w rs j
 rw[rise_list,a8l _ _ _ h1,List.pairwise_append]
 have rl:=rise_list.mp rs
 refine⟨rl.sublist (List.take_sublist _ _),List.pairwise_cons.mpr ⟨λy hy=>?_,rl.sublist (List.drop_sublist _ _)⟩,λx hx y hy=>?_⟩
 ·obtain⟨i,hi,e⟩:=List.mem_iff_getElem.mp hy
  simp at hi e
  have hb:SetTable.below xs j+i<xs.size:=by lia
  have g:=h3 _ hb (by lia)
  rw[e] at g
  rcases Nat.lt_or_ge j y with l|l
  ·exact l
  ·have e2:y=j:=by lia
   exfalso
   by_cases z:i=0
   ·subst z
    apply ne
    rw[Array.getElem?_eq_getElem (by lia)]
    simp at e
    rw[e,e2]
   ·have hb0:SetTable.below xs j<xs.size:=by lia
    have g0:=h3 _ hb0 (Γi _)
    have g1:=rs _ _ hb0 hb (by lia)
    rw[e] at g1;lia
 ·obtain⟨i,hi,e⟩:=List.mem_iff_getElem.mp hx
  simp at hi e
  have gx:=h2 i (by lia) (by lia)
  rw[e] at gx
  rcases List.mem_cons.mp hy with rfl|hy
  ·exact gx
  ·obtain⟨k,hk,e'⟩:=List.mem_iff_getElem.mp hy
   simp at hk e'
   have g:=h3 _ (show SetTable.below xs j+k<xs.size by lia) (by lia)
   rw[e'] at g;lia
noncomputable def TabOk (t:SetTable)(l:Bool):Prop:=t.led=l/\t.dummies = #[]/\(t.plain=true->b4q t.place)
theorem TabOk.fresh (f m:Nat)(l:Bool):TabOk (.fresh f m l) l:=⟨rfl,rfl,λ_ i j hi=>absurd hi (Nat.not_lt_zero _)⟩
theorem c0r (j:Nat):SetTable.has #[] j=false:=by
 unfold SetTable.has
 rfl
theorem TabOk.put {t:SetTable}{l:Bool}(h:TabOk t l){j:Nat}(e:t.slot j=.empty):TabOk (t.put j).1 l:=by
 refine⟨h.1,?_,λp=>?_⟩
 ·show (if SetTable.has t.dummies j then _ else t.dummies) = #[]
  rw[h.2.1,c0r];rfl
 ·refine b1o (h.2.2 p) λz=>?_
  unfold SetTable.slot at e
  rw[if_pos (by rw[z];simp)] at e
  cases e
noncomputable def NumEs (l:List (Int×Value)):Prop:=∀ e∈l,∃ k tk,e=(hashInt k,Value.int k tk)
theorem NumEs.perm {l l':List (Int×Value)}(h:NumEs l)(p:l'.Perm l):NumEs l':=λe he=>h e (p.mem_iff.mp he)
noncomputable def b7o (l:List (Int×Value)):List Int:=l.map λe=>numOf e.2
structure SetData (w:World)(o:Obj)(ns:List Int)(es:Array (Int×Value)) (ep:Nat)(t:SetTable):Prop where
 ex:o.ExactSet
 dat:o.data=.set es ep t
 num:NumEs es.toList
 perm:(b7o es.toList).Perm ns
 a2d:ns.length<scanBound
 fits:t.fits es.size=true
 tab:TabOk t (!w.params.followText "set-order")
noncomputable def SetN (w:World)(h:Heap)(a:Addr)(ns:List Int):Prop:=ns.Nodup/\∃ o es ep t,h.get? a=some o/\SetData w o ns es ep t
theorem SetData.size {w:World}{o:Obj}{ns:List Int}{es:Array (Int×Value)}{ep:Nat}{t:SetTable}(d:SetData w o ns es ep t):es.size=ns.length:=by
 have:=d.perm.length_eq
 rw[b7o,List.length_map,Array.length_toList] at this
 exact this
section
variable {prog:Program}{w:World}{A:Around}{E:Value->Shared->Prop}{s:Shared}{a:Addr}
theorem SetData.put {o:Obj}{ns ms:List Int}{es es':Array (Int×Value)}{ep:Nat}{t t':SetTable}{h:Heap}(d:SetData w o ns es ep t)(ho:h.get? a=some o)(n':NumEs es'.toList)(p':(b7o es'.toList).Perm ms)(s':ms.length<scanBound)(f':t'.fits es'.size=true)(t2:TabOk t' (!w.params.followText "set-order")) :
  ∃ o',(h.update a (Obj.putSet es' t')).get? a=some o'/\SetData w o' ms es' (ep+1) t':=by
 refine⟨_,Heap.get?_update_self (Obj.putSet es' t') ho (by rw[putSet_of es' t' d.dat];rfl),?_⟩
 rw[putSet_of es' t' d.dat]
 exact⟨d.ex,rfl,n',p',s',f',t2⟩
end
theorem a7n {α:Type}:∀ {l:List α}{i:Nat}(h:i<l.length),(l[i] :: l.eraseIdx i).Perm l
 | x :: l,0,_=>by simp
 | x :: l,i+1,h=>by
  have:=a7n (l:=l) (i:=i) (by simpa using h)
  simp only[List.getElem_cons_succ,List.eraseIdx_cons_succ]
  exact (List.Perm.swap x _ _).trans (this.cons x)
theorem b5o {α:Type}(f:Nat->Nat):∀ (n k:Nat)(l:List α)(out:Array α),n=l.length->(pickOrder.go f n k l out).toList.Perm (out.toList++l)
 | 0,k,l,out,h=>by
  cases l with
  | nil=>unfold pickOrder.go;simp
  | cons=>simp at h
 | n+1,k,l,out,h=>by
  unfold pickOrder.go
  have hp:0<l.length:=by lia
  have hm:f k % l.length<l.length:=Nat.mod_lt _ hp
  rw[List.getElem?_eq_getElem hm]
  dsimp only
  refine (b5o f n (k+1) (l.eraseIdx (f k % l.length)) _ (by rw[List.length_eraseIdx_of_lt hm];lia)).trans ?_
  rw[Array.toList_push,List.append_assoc]
  refine List.Perm.append_left _ ?_
  exact a7n hm
theorem b5n {α:Type}(f:Nat->Nat)(xs:Array α):(pickOrder f xs).toList.Perm xs.toList:=by
 unfold pickOrder
 simpa using b5o f xs.size 0 xs.toList #[] (by simp)
section
variable {prog:Program}{w:World}{A:Around}{E:Value->Shared->Prop}{s:Shared}{a:Addr}
end
section
variable {prog:Program}{w:World}{A:Around}{E:Value->Shared->Prop}{s:Shared}{a:Addr}
noncomputable def SetIt (h:Heap)(it a:Addr)(f:Value) (i n ep:Nat):Prop:=∃ o,h.get? it=some o/\o.cls=.type "set_iterator"/\o.data=.fields #[f,.int i 0,.ref a,.int n 0,.int ep 0]
theorem SetIt.keep {h h':Heap}{it a:Addr}{f:Value}{i n ep:Nat}(x:SetIt h it a f i n ep)(k:∀ o,h.get? it=some o->h'.get? it=some o):SetIt h' it a f i n ep:=let ⟨o,ho,r⟩:=x;⟨o,k o ho,r⟩
inductive Goes (w:World)(h:Heap)(a:Addr)(es:Array (Int×Value)) (ep:Nat)(t:SetTable):List Value->Nat->Value->Prop
 | text {i:Nat}{sl:Nat}:w.params.followText "set-order" = true->Goes w h a es ep t ((pickOrder (w.params.setOrder a ep) es).toList.map (·.2)) i (.int sl 0)
 | table {i:Nat}:w.params.followText "set-order" = false->(!t.plain && decide (es.size > 1))=false->Goes w h a es ep t (es.toList.map (·.2)) i (.int ((if i=0 then 0 else t.place.getD (i-1) 0+1:Nat):Int) 0)
 | drawn {i:Nat}{p:Addr}{od:List Nat}:w.params.followText "set-order" = false->h.IsTuple p (od.map λ(n:Nat)=>rawInt n).toArray->od.Perm (List.range es.size)->Goes w h a es ep t (od.map λn=>(es.getD n (0,.none)).2) i (.ref p)
theorem Goes.keep {h h':Heap}{es:Array (Int×Value)}{ep:Nat}{t:SetTable}{vs:List Value}{i:Nat}{f:Value}(g:Goes w h a es ep t vs i f)(k:∀ p,f=.ref p->∀ o,h.get? p=some o->h'.get? p=some o):Goes w h' a es ep t vs i f:=by
 cases g with
 | text hb=>exact .text hb
 | table hb hd=>exact .table hb hd
 | @drawn _ p od hb ht pm =>
  obtain⟨ot,o1,r⟩:=ht
  exact .drawn hb ⟨ot,k p rfl ot o1,r⟩ pm
theorem Goes.perm {ns:List Int}{o:Obj}{h:Heap}{es:Array (Int×Value)}{ep:Nat}{t:SetTable}{vs:List Value}{i:Nat}{f:Value}(d:SetData w o ns es ep t)(g:Goes w h a es ep t vs i f):vs.Perm (es.toList.map (·.2)):=by
 cases g with
 | text hb=>exact (b5n _ _).map _
 | table hb hd=>exact .refl _
 | @drawn _ p od hb ht pm =>
  refine (pm.map _).trans (.of_eq ?_)
  apply List.ext_getElem
  ·simp
  ·intro i i1 i2
   simp at i1
   simp[Array.getD_eq_getD_getElem?,i1]
end
section
variable {prog:Program}{w:World}{A:Around}{E:Value->Shared->Prop}{s:Shared}{a:Addr}{ns:List Int}{o:Obj}{es:Array (Int×Value)}{ep:Nat}{t:SetTable}
end
theorem SetN.none {w:World}{h:Heap}{a:Addr}(e:h.get? a=some { cls:=.type "set",dict:=none,data:=.set #[] 0 (.fresh 0 0 (!w.params.followText "set-order")) }):SetN w h a [] :=
 ⟨List.nodup_nil,_,#[],0,_,e,⟨⟨rfl,rfl,rfl⟩,rfl,λe he=>by simp at he,.refl _,by decide,rfl,TabOk.fresh _ _ _⟩⟩
theorem SetN.keep {w:World}{h h':Heap}{a:Addr}{ns:List Int}(x:SetN w h a ns)(k:∀ o,h.get? a=some o->h'.get? a=some o):SetN w h' a ns:=by
 obtain⟨nd,o,es,ep,t,ho,d⟩:=x
 exact⟨nd,o,es,ep,t,k o ho,d⟩
section
variable {prog:Program}{w:World}{A:Around}{R:Result->Shared->Prop}{E:Value->Shared->Prop}{s:Shared}{I:Addr}{fp wr:List Addr}{G:Array GenState->Array GenState->Prop}{n:Nat}{P:Nat->Value->Prop}{St:Nat->Shared->Prop}
end
section
variable {prog:Program}{w:World}{A:Around}{E:Value->Shared->Prop}{s:Shared}
structure NumSrc (prog:Program)(w:World)(s:Shared)(l:Addr)(T:String)(ks:List Int):Prop where
 ty:s.TypeIs (.ref l) T
 su:isSubtype (.type T) (.type "set")=pure false
 sf:isSubtype (.type T) (.type "frozenset")=pure false
 nd:(Value.type T == Value.type "dict")=false
 it:∀ h:Heap,(∀ b o,s.heap.get? b=some o->h.get? b=some o)->∃ (oI:Obj)(P:Nat->Value->Prop)(St:Nat->Heap->Prop),(∀ (A':Around)(E':Value->Shared->Prop)(Q:Value->Shared->Prop),Q (.ref h.objs.size) { s with heap:=h.push oI }->wpAny (model prog w) A' (pyIter (.ref l)) Q E' { s with heap:=h })/\(∀ A':Around,A'.handled=none->Walks prog w A' h.objs.size [h.objs.size,l] [h.objs.size] ks.length P St)/\St 0 (h.push oI)/\∀ i v,P i v->∃ t,v=.int (ks.getD i 0) t
end
section
variable {X:Cx}
noncomputable def SetO (w:World)(a:Addr)(ns:List Int):HO:=.ext λh=>SetN w h a ns
end
section
variable {X:Cx}{C:CC}{n:Nat}{sp:Γd->Nat->Sp}{a:Expr}{ea:EW}{pos pos' p p':Pos}
end
end Kq
end
section
namespace L2
open PySem PySem.Spec PyProof.Rows
section
variable {prog:Program}{w:World}{A:Around}{R:Result->Shared->Prop}{s:Shared}
end
section
variable {X:Cx}{elt tg iter tg2 iter2:Expr}{ifs ifs2:List Expr}{scope:Scope}{own:List Str}{pos:Pos}{wi wi2:TI}{g g2:TG}{tt tt2:TT}{te:TE}
end
end L2
end
section
namespace Kq
open PySem PySem.Spec PyProof.Rows L2
noncomputable def inS (tg:Tg)(t:BW)(e:EW):List FV->List Int->a0c->(List Int->a0c->Prop)->Prop
 | [],acc,L,Q=>Q acc L
 | y :: r,acc,L,Q=>gW tg y L λL1=>t L1 λb L2=>if b=true then e L2 λv L3=>wp (a3w v) λk=>inS tg t e r (acc++[k]) L3 Q else inS tg t e r acc L2 Q
noncomputable def b3i (n m:Nat)(tg:Tg)(t:BW)(it2:AW)(tg2:Tg)(t2:BW)(e:EW):List FV->List Int->a0c->(List Int->a0c->Prop)->Prop
 | [],acc,L,Q=>Q acc L
 | x :: xs,acc,L,Q=>gW tg x (L++Γj m none) λL1=>t L1 λb L2=>if b=true then it2 L2 λys L3=>acc.length+ys.length<=4000/\inS tg2 t2 e ys acc L3 λacc' L4=>b3i n m tg t it2 tg2 t2 e xs acc' (L4.take n) Q else b3i n m tg t it2 tg2 t2 e xs acc (L2.take n) Q
noncomputable def d7w (n m:Nat)(it:AW)(tg:Tg)(t:BW)(it2:AW)(tg2:Tg)(t2:BW)(e:EW):EW:=λL Q=>it L λxs L1=>L1.length=n/\b3i n m tg t it2 tg2 t2 e xs [] L1 λns L2=>ns.length<=4000/\∀ ms:List Int,(∀ x,x∈ms↔x∈ns)->ms.Pairwise (· < ·)->Q (.lst (ms.map .int)) L2
section
variable {X:Cx}{C:CC}{n:Nat}{sp:Γd->Nat->Sp}{a b tg:Expr}{ea eb:EW}{pos p:Pos}
end
section
variable {K:Γd}{c:Cn}{md:Md}{L:a0c}{σ:L2.St}{S H:Hp}
end
section
variable {X:Cx}{C:CC}{n:Nat}{sp:Γd->Nat->Sp}{pos pos' p:Pos}
variable {scope:Scope}{own:List Str}{elt tgx iter tgx2 iter2:Expr}{ifs ifs2:List Expr}{it it2:AW}{tg tg2:Tg}{t t2:BW}{e:EW}{nn m:Nat}{md':Md}
end
noncomputable def dsF:FV->Option (List D):=λv=>(fD a0y v).bind λd=>match d with|.lst ys=>some ys|_=>none
noncomputable def idxD (x:D):List D->Option Nat
 | []=>none
 | y :: r=>if D.eqv y x=true then some 0 else (idxD x r).map (· + 1)
noncomputable def indexF (v w:FV):Option FV:=(dsF v).bind λys=>(fD a0y w).bind λx=>(idxD x ys).bind λj=>if j<big then some (.int (j:Int)) else none
noncomputable def countF (v w:FV):Option FV:=(dsF v).bind λys=>(fD a0y w).bind λx=>some (.int ((ys.countP λy=>D.eqv y x:Nat):Int))
noncomputable def eMRN (f:FV->FV->Option FV) (i:Nat)(b:EW):EW:=λL Q=>wp (lk L i) λv=>wp (a5n v) λ_=>b L λy L1=>wp (lk L1 i) λx=>wp (f x y) λz=>Q z L1
section
variable {X:Cx}{pins:List (Addr×Obj)}{s:Shared}{σ:L2.St}{H S:Hp}
end
section
variable {X:Cx}{C:CC}{n:Nat}{sp:Γd->Nat->Sp}{a b:Expr}{ea eb:EW}{p:Pos}{i:Nat}{nx:Str}
end
noncomputable def d7v (n m:Nat)(it:AW)(tg:Tg)(t:BW)(it2:AW)(tg2:Tg)(t2:BW)(e:EW):EW:=λL Q=>it L λxs L1=>L1.length=n/\b3i n m tg t it2 tg2 t2 e xs [] L1 λns L2=>ns.length<=63/\∀ ms:List Int,(∀ x,x∈ms↔x∈ns)->ms.Pairwise (· < ·)->Q (.lst (ms.map .int)) L2
section
variable {X:Cx}{C:CC}{n:Nat}{sp:Γd->Nat->Sp}{pos pos' p:Pos}
variable {scope:Scope}{own:List Str}{elt tgx iter tgx2 iter2:Expr}{ifs ifs2:List Expr}{it it2:AW}{tg tg2:Tg}{t t2:BW}{e:EW}{nn m:Nat}{md':Md}
end
noncomputable def a2j:List FV->Option (List (Option Int))
 | []=>some []
 | .int i :: r=>(a2j r).map (some i :: ·)
 | .non :: r=>(a2j r).map (none :: ·)
 | _=>none
noncomputable def oV:Option Int->V
 | some i=>.int i
 | none=>.non
theorem c9a (x:Option Int):kV (oK x)=oV x:=by cases x<;>rfl
theorem c9b {a b:Option Int}(h:oK a=oK b):a=b:=by
 cases a<;>cases b<;>first|rfl|cases h
 rfl
theorem c2d {a b:List (Option Int)}(h:a.map oK=b.map oK):a=b:=by
 induction a generalizing b with
 | nil=>cases b with|nil=>rfl|cons=>cases h
 | cons x r ih=>cases b with
  | nil=>cases h
  | cons y q =>
   simp only[List.map_cons,List.cons.injEq] at h
   rw[c9b h.1,ih h.2]
theorem b5x {K:Γd}{S:Hp}{ps:List FV}:∀ {xs:List V}{k:List (Option Int)},RVs K S ps xs->a2j ps=some k->xs=k.map oV:=by
 induction ps with
 | nil=>intro xs k r e;cases e;exact r
 | cons p ps ih =>
  intro xs k r e
  obtain⟨v,q,rfl,h1,h2⟩:=r
  cases p with
  | int i =>
   obtain⟨k',e1,rfl⟩:=mpd (show (a2j ps).map (some i :: ·)=some k from e)
   cases (show v=.int i from h1)
   rw[ih h2 e1];rfl
  | non =>
   obtain⟨k',e1,rfl⟩:=mpd (show (a2j ps).map (none :: ·)=some k from e)
   cases (show v=.non from h1)
   rw[ih h2 e1];rfl
  | _=>exact absurd (show (none:Option (List (Option Int)))=some k from e) (by simp)
theorem a8m:∀ (ks:List (List (Option Int)))(us:List V)(k:List (Option Int)),a8u ((a1v ks).zip us) (k.map oK)=a2r ks us k
 | [],us,k=>by cases us<;>rfl
 | k' :: ks,[],k=>rfl
 | k' :: ks,u :: us,k=>by
  show a8u ((k'.map oK,u) :: (a1v ks).zip us) (k.map oK)=if k'=k then some u else a2r ks us k
  by_cases e:k'=k
  ·subst e;rw[a3n rfl,if_pos rfl]
  ·rw[a3o λz=>e (c2d z),if_neg e];exact a8m ks us k
theorem b2h (ks:List (List (Option Int)))(us:List V)(k:List (Option Int))(u:V)(hl:ks.length=us.length):a3z ((a1v ks).zip us) (k.map oK) u=(a1v (a1s ks us k u).1).zip (a1s ks us k u).2:=by
 have hany:(((a1v ks).zip us).any λkv=>decide (kv.1=k.map oK))=true↔k∈ks:=by
  rw[a4h,a8m,a1x k hl]
 unfold a3z a1s
 by_cases e:k∈ks
 ·rw[if_pos (hany.mpr e),if_pos e]
  clear e hany
  induction ks generalizing us with
  | nil=>cases us<;>rfl
  | cons k' ks ih=>cases us with
   | nil=>rfl
   | cons u' us =>
    have:=ih us (by simpa using hl)
    show (if k'.map oK=k.map oK then (k'.map oK,u) else (k'.map oK,u')) :: ((a1v ks).zip us).map _=(k'.map oK,if k'=k then u else u') :: (a1v ks).zip _
    rw[this]
    congr 1
    by_cases e:k'=k
    ·subst e;simp
    ·rw[if_neg λz=>e (c2d z),if_neg e]
 ·rw[if_neg λz=>e (hany.mp z),if_neg e]
  show _=(a1v (ks++[k])).zip (us++[u])
  have:a1v (ks++[k])=a1v ks++[k.map oK]:=by simp[a1v]
  rw[this,List.zip_append (by simpa[a1v] using hl)];rfl
theorem b1n {K:Γd}{S:Hp}{ps:List FV}{k:List (Option Int)}{x:V}(r:RV K S (.tup ps) x)(e:a2j ps=some k):∃ b,x=.ref b/\S b=some (.tup ((k.map oK).map kV)):=by
 obtain⟨b,xs,rfl,h1,h2⟩:=r
 refine⟨b,rfl,?_⟩
 rw[h1,b5x h2 e,List.map_map]
 congr 2
 exact List.map_congr_left λx _=>(c9a x).symm
noncomputable def a5i (n m:Nat)(tg:Tg)(t:BW)(ek ev:EW):List FV->List (List (Option Int))->List FV->a0c->(List (List (Option Int))->List FV->a0c->Prop)->Prop
 | [],ks,vs,L,Q=>Q ks vs L
 | x :: xs,ks,vs,L,Q=>gW tg x (L++Γj m none) λL1=>t L1 λb L2=>if b=true then ek L2 λkx L3=>wp (a6q kx) λps=>wp (a2j ps) λk=>ev L3 λv L4=>a5i n m tg t ek ev xs (a1s ks vs k v).1 (a1s ks vs k v).2 (L4.take n) Q else a5i n m tg t ek ev xs ks vs (L2.take n) Q
noncomputable def b3e (n m:Nat)(it:AW)(tg:Tg)(t:BW)(ek ev:EW):EW:=λL Q=>it L λxs L1=>L1.length=n/\xs.length<=big/\a5i n m tg t ek ev xs [] [] L1 λks vs L2=>Q (.dcn none ks vs) L2
section
variable {K:Γd}{c:Cn}{md:Md}{L:a0c}{σ:L2.St}{S H:Hp}
theorem b8k {J:It}{xs:List FV}{n m:Nat}{tg:Tg}{t:BW}{ek ev:EW}{Q:VK}{Q1:List (List (Option Int))->List FV->a0c->Prop}(I:Iv K c md L σ S H)(hJ:ItR K c md J xs S)(hL:L.length=n)(hmd:md.length<=n)(ht:a4i md tg=true)(hg:a7t n tg=true)(hb:xs.length<=big)(h:a5i n m tg t ek ev xs [] [] L Q1)
  (k:∀ acc ks vs us L' S' H',H acc=none->Q1 ks vs L'->S' acc=none->H' acc=some (.dT ((a1v ks).zip us))->ks.length=vs.length->RVs K S' vs us->b0t c md L' σ acc->Iv K c md L' σ S' H'->Same S S'->Q (.ref acc) H') :
  ∀ acc,H acc=none->∃ W:Nat->Nat->Hp->Prop,(∃ m,W 0 m (upd H acc (.dT [])))/\∀ i j H,W i j H ->
   (J.stop i H/\Q (.ref acc) H) ∨ (J.go i H/\∀ x H',J.yld i H x H'->gT K tg x (σ++Γj m none) H' λσ2 H2=>Wk (σ++Γj m none) σ2/\lb K md t σ2 H2 λb H3 =>
    if b=true then lv K md ek σ2 H3 λy H4=>lv K md ev σ2 H4 λv H5=>∃ kvs k b,H5 acc=some (.dT kvs)/\y=.ref b/\H5 b=some (.tup (k.map kV))/\kvs.length<sizeLine/\∃ m',m'<j/\W (i+1) m' (upd H5 acc (.dT (a3z kvs k v))) else ∃ m',m'<j/\W (i+1) m' H3):=by
 intro acc hacc
 have h0:=I.h0 hacc
 have hp:∀ p∈c.pr,p.1≠acc:=(I.fresh hacc).2.1
 have hz:=I.fzp
 have hl:σ.length=n:=by rw[<- I.len];exact hL
 have hbl:=a1b
 let W:Nat->Nat->Hp->Prop:=λi j H1=>∃ L S1 ks vs us,j=(xs.drop i).length/\Iv K { c with pr:=(acc,.dT ((a1v ks).zip us)) :: c.pr } md L σ S1 H1/\ks.length=vs.length/\RVs K S1 vs us/\Same S S1/\L.length=n/\ks.length<=i/\a5i n m tg t ek ev (xs.drop i) ks vs L Q1
 have I1:Iv K { c with pr:=(acc,.dT []) :: c.pr } md L σ S (upd H acc (.dT [])):=(I.lay hacc _).prot a0d (I.sn hacc) λj w hm hj=>(I.fresh hacc).2.2 j w (Mo.w_imm hm) hj
 refine⟨W,⟨_,L,S,[],[],[],rfl,I1,rfl,rfl,Same.refl S,hL,Γi _,by rw[List.drop_zero];exact h⟩,?_⟩
 rintro i j H1 ⟨L,S1,ks,vs,us,rfl,I,hkl,r,s,hL,hps,hc⟩
 have I0:=I.unprot hz
 obtain⟨j1,j2⟩:=hJ i L σ S1 H1 I0 s
 obtain⟨g1,g2,g3⟩:=I.prs (acc,.dT ((a1v ks).zip us)) Γn
 cases hd:xs.drop i with
 | nil =>
  left
  rw[hd] at hc
  refine⟨j1 (List.getElem?_eq_none_iff.mpr (List.drop_eq_nil_iff.mp hd)),k acc ks vs us L S1 H1 hacc hc g2 g1 hkl r ⟨h0,hp,λq w hm hq hs=>?_⟩ I0 s⟩
  by_cases mo:(a0g md q).w=true
  ·exact g3 q w mo hq hs
  ·have mo:a0g md q=.frz:=by cases z:a0g md q with|imm=>exact absurd z hm|frz=>rfl|_=>rw[z] at mo;exact absurd rfl mo
   obtain⟨b,f1⟩:=I0.fzm q w mo hq
   obtain⟨_,f2,_⟩:=I0.fzs _ f1
   rw[hs] at f2;cases f2
   obtain⟨ys,f3⟩:=hz _ f1
   exact hp _ f3 rfl
 | cons p rest =>
  right
  rw[hd] at hc
  have hi:xs[i]?=some p:=by
   have:=congrArg (·[0]?) hd
   simpa using this
  have hd':xs.drop (i+1)=rest:=by
   have:=congrArg List.tail hd
   simpa[List.tail_drop] using this
  have hix:i<xs.length:=(List.getElem?_eq_some_iff.mp hi).1
  obtain⟨go,yl⟩:=j2 p hi
  refine⟨go,λx H2 y=>?_⟩
  obtain⟨S2,s2,tr,rx⟩:=yl x H2 y
  have I2:=(tr _ _ _ _ I).more m
  obtain⟨σ2,L2,gq,q2,I2,len2,far⟩:=a7l ht I2 rx hc
  have l2:n<=σ2.length:=by rw[len2,List.length_append,hl];lia
  have far':∀ q,q<n->σ2[q]?=σ[q]?:=λq hq=>by rw[far n hg q hq,List.getElem?_append_left (by rw[hl];exact hq)]
  refine gq _ ⟨⟨len2,λq v hv=>?_⟩,?_⟩
  ·have hq:q<n:=by
    by_cases h:q<σ.length
    ·rw[<- hl];exact h
    ·rw[List.getElem?_append_right (by lia),List.getElem?_replicate] at hv
     split at hv<;>cases hv
   rw[far n hg q hq];exact hv
  ·refine⟨_,L2,S2,_,I2,q2,λb L3 hb3 S3 H3 I3 s3=>?_⟩
   cases b with
   | false =>
    rw[if_neg Γk] at hb3 ⊢
    exact⟨rest.length,by simp,L3.take n,S3,ks,vs,us,by rw[hd'],I3.take hmd hl l2 far',hkl,r.mono (s2.trans s3),s.trans (s2.trans s3),by rw[List.length_take,I3.len];lia,by lia,by rw[hd'];exact hb3⟩
   | true =>
    rw[if_pos rfl] at hb3 ⊢
    refine⟨_,L3,S3,_,I3,hb3,λkx L4 hk u S4 H4 r4 I4 s4=>?_⟩
    obtain⟨ps,e1,hk1⟩:=wpx hk
    obtain⟨kk,e2,hk2⟩:=wpx hk1
    cases a1o e1
    obtain⟨b,rfl,hb4⟩:=b1n r4 e2
    refine⟨_,L4,S4,_,I4,hk2,λv L5 hv u S5 H5 r5 I5 s5=>?_⟩
    obtain⟨k1,_⟩:=I5.prs (acc,.dT ((a1v ks).zip us)) Γn
    have lr:=r.length
    have r':=r.mono (s2.trans (s3.trans (s4.trans s5)))
    obtain⟨pe,pr⟩:=a4n (ks:=ks) (k:=kk) r' r5
    obtain⟨pl1,pl2⟩:=a3q ks vs kk v hkl
    refine⟨_,kk.map oK,b,k1,rfl,I5.sub _ _ (s5 _ _ hb4),by rw[List.length_zip,show (a1v ks).length=ks.length by simp[a1v]];lia,rest.length,by simp,L5.take n,S5,(a1s ks vs kk v).1,(a1s ks vs kk v).2,(a1s ks us kk u).2,by rw[hd'],?_,pl1,pr,s.trans (s2.trans (s3.trans (s4.trans s5))),by rw[List.length_take,I5.len];lia,by lia,by rw[hd'];exact hv⟩
    rw[b2h ks us kk u (by lia),pe]
    exact (I5.take hmd hl l2 far').regrow h0 hp hz
end
section
variable {X:Cx}{C:CC}{n:Nat}{sp:Γd->Nat->Sp}{pos:Pos}{scope:Scope}{own:List Str}{kx vx tgx iter:Expr}{ifs:List Expr}{it:AW}{tg:Tg}{t:BW}{ek ev:EW}{nn m:Nat}{md':Md}
end
noncomputable def c5p (v w:FV):Option FV:=match v with
 | .dcn _ ks vs=>(a6q w).bind λps=>(a2j ps).bind λk=>a2r ks vs k
 | _=>none
noncomputable def c6l (v j x:FV):Option FV:=match v with
 | .dcn none ks vs=>(a6q j).bind λps=>(a2j ps).bind λk=>if ks.length<big then some (.dcn none (a1s ks vs k x).1 (a1s ks vs k x).2) else none
 | _=>none
noncomputable def c3c (k:Nat)(i e:EW):SW:=λL Q=>wp (lk L k) λ_=>e L λx L1=>i L1 λj L2=>wp (lk L2 k) λy=>wp (c6l y j x) λz=>Q .next (L2.set k (some z))
noncomputable def b9i (f:Int->Int->Int) (k:Nat)(i e:EW):SW:=λL Q=>wp (lk L k) λ_=>i L λj L1=>wp (lk L1 k) λv=>wp (c5p v j) λx0=>wp (a3w x0) λa=>e L1 λx L2=>wp (a3w x) λb=>wp (lk L2 k) λw=>wp (c6l w j (.int (f a b))) λz=>Q .next (L2.set k (some z))
section
variable {K:Γd}{S H:Hp}{c:Cn}{md:Md}{L:a0c}{σ:L2.St}
theorem RH.dcn {z:Option Obj}{ks:List (List (Option Int))}{vs:List FV}{x:V}(hs:Same S H)(r:RH K S H (.dcn z ks vs) x):∃ a us,x=.ref a/\ks.length=vs.length/\H a=some (hoN (.dT ((a1v ks).zip us)) z)/\RVs K S vs us:=by
 rcases r with⟨a,xs,e,h0,h1,h2⟩|⟨a,e,_,qs,xs,e2,h1,h2⟩
 ·exact⟨a,xs,e,h0,hs _ _ h1,h2⟩
 ·obtain⟨hl,rfl⟩:=itd e2
  exact⟨a,xs,e,hl,h1,h2⟩
theorem c7l {H:Hp}{a:Addr}{u:HO}{z:Option Obj}(h:H a=some (hoN u z)):Rd H a u:=by
 cases z with
 | none=>exact .inl h
 | some o=>exact .inr ⟨o,h⟩
theorem b7w {v w z:FV}{x y:V}(hs:Same S H)(rv:RH K S H v x)(rw':RH K S H w y)(e:c5p v w=some z):∃ a u,x=.ref a/\L2.DGet H a y (some u)/\RV K S z u:=by
 cases v with
 | dcn o ks vs =>
  obtain⟨ps,e1,e2⟩:=bnd e
  obtain⟨k,e3,e4⟩:=bnd e2
  cases a1o e1
  obtain⟨a,us,rfl,hl,h1,h2⟩:=rv.dcn hs
  obtain⟨b,rfl,hb⟩:=b1n (rw'.val rfl) e3
  obtain⟨u,g1,g2⟩:=a5p h2 e4
  refine⟨a,u,rfl,?_,g2⟩
  rw[<- g1,<- a8m]
  exact .inr ⟨_,_,b,c7l h1,rfl,hs _ _ hb,rfl⟩
 | _=>cases e
theorem b7v {i:Nat}{v j x z:FV}{a:Addr}{y u:V}(I:Iv K c md L σ S H)(m:a0g md i=.own)(e:L[i]?=some (some v))(e1:σ[i]?=some (some (.ref a)))(rj:RV K S j y)(rx:RV K S x u)(h:c6l v j x=some z):∃ H',L2.DPut H a y u H'/\Iv K c md (L.set i (some z)) σ S H':=by
 obtain⟨a',f1,⟨o1,ps,us,e9,o2,o3⟩,_⟩:=I.own i v (λz=>by rw[m] at z;cases z) e
 rw[e1] at f1;cases f1
 have hbl:=a1b
 cases v with
 | dcn o ks vs =>
  cases o with
  | some o=>cases h
  | none =>
   obtain⟨qs,g1,h⟩:=bnd h
   obtain⟨k,g2,h⟩:=bnd h
   obtain⟨hb,rfl⟩:=itd h
   obtain⟨hl,rfl⟩:=itd e9
   cases a1o g1
   obtain⟨b,rfl,hkb⟩:=b1n rj g2
   have hu:ks.length=us.length:=by rw[hl,o3.length]
   obtain⟨p1,p2⟩:=a4n (ks:=ks) (k:=k) o3 rx
   refine⟨_,.t o2 (I.sub _ _ hkb) (by simp[a1v];lia),?_⟩
   rw[b2h ks us k u hu,<- p1]
   exact I.writeV (w:=.dcn none _ _) m e e1 (if_pos (a3q ks _ k x hl).1) p2
 | _=>cases h
end
section
variable {X:Cx}{C:CC}{n:Nat}{sp:Γd->Nat->Sp}{fr:Bool}{a b:Expr}{ea eb:EW}{pos p px:Pos}{i:Nat}{nx:Str}
theorem d6y (G:Good X C n sp)(hs:a2l b=false)(h:C.nm i nx=true)(hb:FR X C b eb):FE X C (.Subscript (.Name nx p) b pos) (a6i c5p i eb):=PE.imp (b1e (X:=X.nox) (by have:=G.room.units;show X.A.units+1<cLine;lia) (a1f G h) hb (a5l hs)) λσ H Q ⟨c,L,S,Q0,I,h,k⟩=>by
 obtain⟨v0,e,h⟩:=wpx h
 obtain⟨x,e1,_⟩:=I.rd e
 refine⟨x,e1,c,L,S,_,I,h,λw L2 hw y S2 H2 r2 I2 s2=>?_⟩
 obtain⟨v,e2,q⟩:=wpx hw
 obtain⟨x',e3,r1⟩:=I2.rd e2
 rw[e1] at e3;cases e3
 obtain⟨z,e4,q⟩:=wpx q
 obtain⟨a,u,rfl,g,r5⟩:=b7w I2.sub r1 r2 e4
 exact⟨a,u,rfl,g,k z L2 q u S2 H2 r5 I2 s2⟩
theorem d2d (G:Good X C n sp)(hn:C.nm i nx=true)(m:a0g C.md i=.own)(hc:(!a6c a && !a2l b)=true)(ha:FE X C a ea)(hb:FE X C b eb):FS X C fr (.Assign [.Subscript (.Name nx px) b p] a pos) (c3c i eb ea):=by
 have hc:=b2 hc
 refine PS.imp (b5k (X:=X.nox) (by have:=G.room.units;show X.A.units+1<cLine;lia) (a1f (pos:=px) G hn) hb ha (a3p (nb hc.1))) λD σ H ⟨c,L,S,Q0,I,h,k⟩=>?_
 have mi:a0g C.md i≠.imm:=λz=>by rw[m] at z;cases z
 obtain⟨v0,e,h⟩:=wpx h
 obtain⟨l,e1,_⟩:=I.own i v0 mi ((a1m _ _ _).mp e)
 refine⟨c,L,S,_,I,h,λv L1 q x S1 H1 r1 I1 s1=>⟨_,e1,c,L1,S1,_,I1,q,λw L2 q y S2 H2 r2 I2 s2=>?_⟩⟩
 obtain⟨v1,e2,q2⟩:=wpx q
 obtain⟨z,e3,q3⟩:=wpx q2
 have e2:=(a1m _ _ _).mp e2
 obtain⟨H3,g,I3⟩:=b7v I2 m e2 e1 r2 (r1.mono s2) e3
 exact⟨l,H3,rfl,g,k .next _ q3 σ S2 _ I3 (s1.trans s2)⟩
theorem d1d {op:Operator}{f:Int->Int->Int}(hop:InOp X.nox op (ipI f))(G:Good X C n sp)(hn:C.nm i nx=true)(m:a0g C.md i=.own)(hs:a2l b=false)(hb:FE X C b eb)(ha:FE X C a ea):FS X C fr (.AugAssign (.Subscript (.Name nx px) b p) op a pos) (b9i f i eb ea):=by
 refine PS.imp (c3r (X:=X.nox) (by have:=G.room.units;show X.A.units+1<cLine;lia) (a1f (pos:=px) G hn) hb ha hop (by cases b<;>first|(intros;rfl)|cases hs)) λD σ H ⟨c,L,S,Q0,I,h,k⟩=>?_
 have mi:a0g C.md i≠.imm:=λz=>by rw[m] at z;cases z
 obtain⟨v0,e,h⟩:=wpx h
 obtain⟨l,e1,_⟩:=I.own i v0 mi ((a1m _ _ _).mp e)
 refine⟨_,e1,c,L,S,_,I,h,λj L1 q y S1 H1 r1 I1 s1=>?_⟩
 obtain⟨v1,e2,q⟩:=wpx q
 obtain⟨x0,e3,q⟩:=wpx q
 obtain⟨a0,e4,q⟩:=wpx q
 obtain⟨x',f1,rv⟩:=I1.rd e2
 rw[e1] at f1;cases f1
 obtain⟨a',u,ea',g,r3⟩:=b7w I1.sub rv (.inl r1) e3
 cases ea'
 refine⟨_,u,rfl,g,c,L1,S1,_,I1,q,λx L2 q y2 S2 H2 r2 I2 s2=>?_⟩
 obtain⟨b0,e5,q5⟩:=wpx q
 obtain⟨w,e6,q6⟩:=wpx q5
 obtain⟨z,e7,q7⟩:=wpx q6
 clear q
 cases a1c e4
 cases a1c e5
 cases (show u=V.int a0 from r3)
 cases (show y2=V.int b0 from r2)
 refine⟨a0,b0,rfl,rfl,?_⟩
 obtain⟨H3,g3,I3⟩:=b7v I2 m ((a1m _ _ _).mp e6) e1 (r1.mono s2) (x:=.int (f a0 b0)) (u:=V.int (f a0 b0)) rfl e7
 exact⟨H3,g3,k .next _ q7 σ S2 _ I3 (s1.trans s2)⟩
theorem d6e (G:Good X C n sp)(hn:C.nm i nx=true)(m:a0g C.md i=.own)(hs:a2l b=false)(hb:FE X C b eb)(ha:FE X C a ea):FS X C fr (.AugAssign (.Subscript (.Name nx px) b p) .Sub a pos) (b9i (λi j=>i-j) i eb ea):=d1d c9w G hn m hs hb ha
end
section
variable {X:Cx}{pins pins0:List (Addr×Obj)}{σ σ0:L2.St}{H H0:Hp}{s s0:Shared}{a:Addr}
theorem c0m {kvs kvs0:List (List (Int ⊕ Option Str)×V)}{o:Obj}(I0:Inv X pins0 σ0 H0 s0)(h0:H0 a=some (.dT kvs0))(I:Inv X pins σ H s)(h:H a=some (.frz o (.dT kvs))):Inv X pins σ (upd H a (.dT kvs)) s:=by
 have ne:∀ {b:Addr}{u:HO},H b=some u->u≠.frz o (.dT kvs)->b≠a:=λe n z=>by subst z;rw[h] at e;exact n (Option.some.inj e).symm
 have none':∀ {b:Addr},H b=none->upd H a (.dT kvs) b=none:=λ{b} e=>by rw[a0e (λz=>by subst z;rw[h] at e;cases e)];exact e
 have ow:∀ b c,H b=some (.own c)->upd H a (.dT kvs) b=some (.own c):=λb c e=>by rw[a0e (ne e (λz=>nomatch z))];exact e
 have tu:∀ b xs,H b=some (.tup xs)->upd H a (.dT kvs) b=some (.tup xs):=λb xs e=>by rw[a0e (ne e (λz=>nomatch z))];exact e
 refine⟨I.ok,I.os,I.bare,⟨I.base.keep,I.base.slot,λb o e n hx=>none' (I.base.free b o e n hx),I.base.there,λb xs e=>tu b xs (I.base.tups b xs e),λb o' u e=>?_,λb ps e=>?_⟩,I.loc,I.cell,none' I.free,λx c e=>none' (I.freeC x c e),λp hp=>?_,λb u e=>?_,I.len⟩
 ·have g:=I.base.frzs b o' u e
  rw[a0e λz=>by subst z;rw[I0.base.frzs b o' u e] at h0;cases h0];exact g
 ·obtain⟨more,g⟩:=I.base.tbls b ps e
  exact⟨more,by rw[a0e (ne g (λz=>nomatch z))];exact g⟩
 ·obtain⟨g1,g2,g3⟩:=I.pin p hp
  exact⟨g1,none' g2,g3⟩
 ·by_cases z:b=a
  ·subst z
   rw[a0d] at e;cases e
   obtain⟨_,q⟩:=(show ObjOk X.prog X.w H s.heap b (.frz o (.dT kvs)) from I.hok b _ h)
   exact q.stay (λ_ _ _ q=>q) (λc e=>ow c b e) tu
  ·rw[a0e z] at e
   exact (I.hok b u e).stay (λ_ _ _ q=>q) (λc e=>ow c b e) tu
theorem c3p {st:Stmt}{t:TS}(hs:PS X st t):PS X st (λD σ H=>∃ a kvs,H a=some (.dT kvs)/\∀ o,t ⟨λσ' H2=>∃ kvs2,H2 a=some (.frz o (.dT kvs2))/\D.nx σ' (upd H2 a (.dT kvs2)),λ_ _=>False,λ_ _=>False,λ_ _=>False⟩ σ (upd H a (.frz o (.dT kvs)))):=by
 intro pins s σ H D I ⟨a,kvs,h,hh⟩
 obtain⟨o,es,ep,f1,f2,_⟩:=a9y (show ObjOk X.prog X.w H s.heap a (.dT kvs) from I.hok a _ h)
 refine wpAny_mono (hs pins s σ _ _ (b2v I h f1) (hh o)) (λfl s1 q=>?_) λ_ _ z=>z
 cases fl with
 | next =>
  obtain⟨σ',H2,I2,kvs2,h2,q⟩:=q
  exact⟨σ',_,c0m I h I2 h2,q⟩
 | brk=>obtain⟨_,_,_,z⟩:=q;exact z.elim
 | cont=>obtain⟨_,_,_,z⟩:=q;exact z.elim
 | ret u=>obtain⟨_,_,_,_,_,z⟩:=q;exact z.elim
end
noncomputable def d3u (j:Nat)(s:SW):SW:=λL Q=>wp (lk L j) λv=>match v with
 | .dcn none ks vs=>∀ o,s (L.set j (some (.dcn (some o) ks vs))) λfl L1=>match fl with
  | .next=>wp (lk L1 j) λw=>match w with
   | .dcn (some _) ks' vs'=>Q .next (L1.set j (some (.dcn none ks' vs')))
   | _=>False
  | _=>False
 | _=>False
noncomputable def oF:Option Int->FV
 | some i=>.int i
 | none=>.non
noncomputable def c9t (k:List (Option Int)):FV:=.tup (k.map oF)
noncomputable def b7f (j:Nat):AW:=λL Q=>wp (lk L j) λv=>match v with
 | .dcn (some _) ks _=>Q (ks.map c9t) L
 | _=>False
section
variable {X:Cx}{C:CC}{n:Nat}{sp:Γd->Nat->Sp}{tg:Expr}{p:Pos}{i j:Nat}{nx:Str}{fr:Bool}{st:Stmt}{s:SW}
variable {K:Γd}{c:Cn}{md:Md}{S:Hp}
theorem RVs.os:∀ (k:List (Option Int)),RVs K S (k.map oF) (k.map oV)
 | []=>rfl
 | some i :: k=>⟨_,_,rfl,rfl,RVs.os k⟩
 | none :: k=>⟨_,_,rfl,rfl,RVs.os k⟩
theorem c0l {a:Addr}{o:Obj}{ks:List (List (Option Int))}{us:List V}{S1:Hp}(hl:ks.length=us.length)(hp:(a,HO.frz o (.dT ((a1v ks).zip us)))∈c.pr):ItR K c md (Itk a o ((a1v ks).zip us)) (ks.map c9t) S1:=by
 intro i L σ S H I s
 have ha:=(I.prs _ hp).1
 have hz:((a1v ks).zip us).length=ks.length:=by rw[List.length_zip];simp[a1v];lia
 refine⟨λe=>⟨ha,?_⟩,λp ep=>?_⟩
 ·have:=List.getElem?_eq_none_iff.mp e
  rw[List.length_map] at this;lia
 ·rw[List.getElem?_map] at ep
  obtain⟨k,ek,rfl⟩:=Option.map_eq_some_iff.mp ep
  have hi:=(List.getElem?_eq_some_iff.mp ek).1
  refine⟨⟨ha,by lia⟩,λv H' ⟨eh,b,q,ev,eq,hb⟩=>?_⟩
  subst eh;subst ev
  have hq:q.1=k.map oK:=by
   obtain⟨q1,q2⟩:=q
   have:=(List.getElem?_zip_eq_some.mp eq).1
   rw[a1v,List.getElem?_map,ek] at this
   simpa using this.symm
  rw[hq,List.map_map] at hb
  have hb:H' b=some (.tup (k.map oV)):=by rw[hb];congr 2;exact List.map_congr_left λx _=>c9a x
  exact⟨_,(I.tup hb).2,λc md L σ J=>(J.tup hb).1,b,_,rfl,a0d,RVs.os k⟩
theorem d2f (G:Good X C n sp)(h:C.nm i nx=true)(m:a0g C.md i=.frz):FI X C C.md tg (.Name nx p) (b7f i):=PI.imp (c3u (a1f G h)) λσ H R ⟨c,L,S,Q0,I,h,k⟩=>by
 obtain⟨v,e,h⟩:=wpx h
 have e:=(a1m _ _ _).mp e
 obtain⟨l,e1,⟨o1,qs,us,e2,o2,o3⟩,o4⟩:=I.own i v (λz=>by rw[m] at z;cases z) e
 obtain⟨b,g1⟩:=I.fzm i _ m e
 obtain⟨ys,g2⟩:=I.fzp _ g1
 obtain⟨_,g3,_⟩:=I.fzs _ g1
 rw[e1] at g3;cases g3
 have g4:=(I.prs _ g2).1
 rw[o2] at g4;cases g4
 cases v with
 | dcn o ks vs =>
  cases o with
  | none=>exact h.elim
  | some o =>
   obtain⟨hl,rfl⟩:=itd e2
   have hlu:=o3.length
   exact⟨_,e1,_,_,rfl,.inr ⟨o,o2,k _ _ h _ _ S _ I (λ_ _ _ _ J=>J) rfl (c0l (by lia) g2) (Same.refl S)⟩⟩
 | _=>exact h.elim
theorem fs_thw (G:Good X C n sp)(m:a0g C.md j=.own)(hr:Good X (C.wmd (C.md.set j .frz)) n sp->FS X (C.wmd (C.md.set j .frz)) fr st s):FS X C fr st (d3u j s):=PS.imp (c3p (hr (G.wmd _))) λD σ H ⟨c,L,S,Q0,I,hh,k⟩=>by
 obtain⟨v,e,hh⟩:=wpx hh
 have e:=(a1m _ _ _).mp e
 have mi:a0g C.md j≠.imm:=λz=>by rw[m] at z;cases z
 obtain⟨l,e1,⟨o1,qs,us,e2,o2,o3⟩,o4⟩:=I.own j v mi e
 cases v with
 | dcn z ks vs =>
  cases z with
  | some o=>exact hh.elim
  | none =>
   obtain⟨hl,rfl⟩:=itd e2
   refine⟨l,_,o2,λo=>?_⟩
   have I1:=I.writeV (w:=.dcn (some o) ks vs) m e e1 (if_pos hl) o3
   have hi:=(List.getElem?_eq_some_iff.mp e).1
   obtain⟨I2,un⟩:=I1.frz m (List.getElem?_set_self hi) e1 a0d
   refine⟨_,_,S,_,I2,hh o,λfl L1 q σ1 S1 H1 J s1=>?_⟩
   cases fl with
   | next =>
    obtain⟨w,e5,q⟩:=wpx q
    have e5:=(a1m _ _ _).mp e5
    have J0:=un _ _ _ _ J
    obtain⟨_,g1,_⟩:=J.fzs (j,l) Γn
    have g2:=(J.prs (l,_) Γn).1
    obtain⟨l',f1,⟨p1,qs',us',p2,p3,p4⟩,_⟩:=J0.own j w mi e5
    rw[g1] at f1;cases f1
    cases w with
    | dcn z ks' vs' =>
     cases z with
     | none=>exact q.elim
     | some o' =>
      rw[g2] at p3
      obtain⟨hl',rfl⟩:=itd p2
      refine⟨_,g2,?_⟩
      have e6:=Option.some.inj p3
      injection e6 with e7 e8
      rw[e8]
      exact k .next _ q σ1 S1 _ (J0.writeV (w:=.dcn none ks' vs') m e5 g1 (if_pos hl') p4) s1
    | _=>exact q.elim
   | _=>exact q.elim
 | _=>exact hh.elim
end
theorem b7e {M:Model}{A:Around}{E:Value->Shared->Prop}{s:Shared}{a b:Value}{T id:String}{Q:Value->Shared->Prop}(ha:s.TypeIs a T)(hb:s.TypeIs b T)
  (hyes:typeLookup (.type T) (dunderI "add")=pure (some (.builtin id)))(hq:isSeqSlot (some (.builtin id))=true)(hfill:fillsNumberSlot (.type T) "add" = pure false)
  (hc:wpAny M A (call (.builtin id) [a,b]) Q E s):wpAny M A (inplaceOp .Add a b) Q E s:=by
 unfold inplaceOp
 refine Γg ?_
 have hfi:fillsInplaceSlot (.type T) "add" (Operator.Add == .Add)=pure false:=by
  unfold fillsInplaceSlot
  show (typeLookup (.type T) (dunderI "add") >>= λfi=>pure (fi.isSome && !isSeqSlot fi))=pure false
  rw[hyes]
  show (pure ((some (Value.builtin id)).isSome && !isSeqSlot (some (.builtin id))):Sem Bool)=_
  rw[hq];rfl
 have hsi:seqSlot? (.type T) (dunderI "add")=pure (some (.builtin id)):=by
  unfold seqSlot?
  rw[hyes]
  show (if (!isSeqSlot (some (Value.builtin id)))=true then _ else _)=_
  rw[hq];rfl
 refine Γa (wpAny_typeOf ha (Γa (wpAny_of_eq hfi ?_)))
 show wpAny M A (if false=true then _ else _) Q E s
 rw[if_neg Γk]
 refine Γa (wpAny_binaryOp1_none (nm:="add") ha hb hfill ?_)
 refine Γa (wpAny_of_eq hsi ?_)
 exact Γa (wpAny_rule hc)
noncomputable def ipL:TIp:=λx y H Q=>∃ l b xs zs,x=.ref l/\y=.ref b/\H l=some (.lst xs)/\H b=some (.lst zs)/\xs.length+zs.length<=sizeLine/\Q (.ref l) (upd H l (.lst (xs++zs)))
section
variable {X:Cx}
theorem c4x:PIp X .Add ipL:=by
 intro pins s σ H x y v u Q I rx ry h
 obtain⟨l,b,xs,zs,rfl,rfl,hH,hB,hz,q⟩:=h
 cases rx
 cases ry
 obtain⟨z,its,n,r,hl,e⟩:=I.lstM hH
 obtain⟨z2,its2,n2,r2,hl2,e2⟩:=I.lstM hB
 have hsz:its.toArray.size+its2.toArray.size<=sizeLine:=by rw[List.size_toArray,List.size_toArray];lia
 have hlong:¬ (!its.toArray.isEmpty && Builtin.List.listTooLong (its.toArray.size+its2.toArray.size))=true:=by
  rw[b2l hsz,Bool.and_false]
  exact Γk
 refine b7e (T:="list") (id:="list.__iadd__") ⟨_,e,rfl⟩ ⟨_,e2,rfl⟩ F.slot_list_iadd.lookup (by nofun) noFill_list_add ?_
 refine call_meets F.slot_list_iadd ⟨_,e,rfl⟩ F.entry_list_iadd (F.args_list_iadd_2 _ _)
  (AutoSeq1.list___iadd___list_list_0 l its.toArray n b its2.toArray n2 hlong (by rw[List.size_toArray];lia) (by lia)) ⟨e,e2,?_⟩
 refine⟨.ref l,_,I.lset (its':=its++its2) hH e (by simp) (r.append r2) ?_,rfl,q⟩
 rw[List.length_append]
 lia
end
noncomputable def c5h (x y:FV):Option FV:=(a5n x).bind λxs=>(a5n y).bind λys=>if xs.length+ys.length<=big then some (.lst (xs++ys)) else none
noncomputable def b9j (i:Nat)(e:EW):SW:=λL Q=>wp (lk L i) λ_=>e L λy L1=>wp (lk L1 i) λx=>wp (c5h x y) λz=>Q .next (L1.set i (some z))
section
variable {X:Cx}{C:CC}{n:Nat}{sp:Γd->Nat->Sp}{fr:Bool}{a:Expr}{e:EW}{pos px:Pos}{i:Nat}{nx:Str}
theorem d6f (G:Good X C n sp)(ht:C.tn i nx=true)(m:a0g C.md i=.own)(h:FE X C a e):FS X C fr (.AugAssign (.Name nx px) .Add a pos) (b9j i e):=by
 have ht:=b2 ht
 obtain⟨l1,l2⟩:=G.loc ht.2
 refine PS.imp (c1w (X:=X.nox) G.nd' (G.ix ht.1) l1 h c4x l2) λD σ H ⟨c,L,S,Q0,I,h,k⟩=>?_
 have mi:a0g C.md i≠.imm:=λz=>by rw[m] at z;cases z
 obtain⟨v0,e0,h⟩:=wpx h
 obtain⟨l,e1,_⟩:=I.own i v0 mi ((a1m _ _ _).mp e0)
 refine⟨_,e1,c,L,S,_,I,h,λy L1 q u S1 H1 r1 I1 s1=>?_⟩
 obtain⟨x,e2,q2⟩:=wpx q
 obtain⟨z,e3,q3⟩:=wpx q2
 obtain⟨xs,e4,e5⟩:=bnd e3
 obtain⟨ys,e6,e7⟩:=bnd e5
 obtain⟨hb,rfl⟩:=itd e7
 cases a2t e4
 cases a2t e6
 have e2:=(a1m _ _ _).mp e2
 obtain⟨l',f1,⟨g1,ps,us,g2,g3,g4⟩,_⟩:=I1.own i _ mi e2
 rw[e1] at f1;cases f1
 cases g2
 obtain⟨b,ws,rfl,h1,h2⟩:=r1
 have hbl:=a1b
 have p1:=g4.length
 have p2:=h2.length
 refine⟨l,b,us,ws,rfl,rfl,g3,I1.sub _ _ h1,by lia,?_⟩
 have es:σ.set i (some (V.ref l))=σ:=by
  apply List.ext_getElem?
  intro j
  by_cases hj:j=i
  ·subst hj
   rw[List.getElem?_set_self (List.getElem?_eq_some_iff.mp e1).1,e1]
  ·rw[List.getElem?_set_ne (Ne.symm hj)]
 show D.nx (σ.set i (some (V.ref l))) _
 rw[es]
 exact k .next _ q3 σ S1 _ (I1.write m e2 e1 (g4.append h2)) s1
end
section
variable {X:Cx}{C:CC}{n:Nat}{sp:Γd->Nat->Sp}{fr:Bool}{a b:Expr}{ea eb:EW}{pos px py pt p2:Pos}{i j kt k2:Nat}{nx ny:Str}
theorem d2c (G:Good X C n sp)(hm:((decide (a0g C.md i=.own) && decide (i≠0)) && (decide (a0g C.md j=.own) && decide (j≠0)))=true)(h:c4b C i j nx ny px py a b=true)(ha:FF X C a ea)(hb:FF X C b eb):FS X C fr (.Assign [.Tuple [.Name nx px,.Name ny py] kt pt] (.Tuple [a,b] k2 p2) pos) (a1l (a6h (a0a ea (a0a eb a0p))) (.tp [i,j])):=by
 obtain⟨sa,sb,hij⟩:=c8o h
 refine PS.imp (c8p G h (a0s ha (a0s hb a2q (a0f sb)) (a0f sa))) λD σ H ⟨c,L,S,Q0,I,h,k⟩=>?_
 have hm:=b2 hm;have hm1:=b2 hm.1;have hm2:=b2 hm.2
 refine⟨c,L,S,_,I,h,λv L1 q l S1 H1 o f I1 s1=>?_⟩
 obtain⟨o1,ps,us,e9,o2,o3⟩:=o
 have I2:=I1.prot o2 o1 λy u hy hu=>f.2.2 y u (Mo.w_imm hy) hu
 refine⟨_,L1,S1,_,I2,q,λw L2 q l2 S2 H2 ow f2 I3 s2=>⟨.ref l,.ref l2,rfl,?_⟩⟩
 have nl:l≠l2:=f2.2.1 (l,b9y v us) Γn
 obtain⟨g1,g2,g3⟩:=I3.prs (l,b9y v us) Γn
 have I4:=I3.unprot I1.fzp
 have nf:∀ y u,a0g C.md y≠.imm->L2[y]?=some (some u)->σ[y]?≠some (some (.ref l)):=λy u hy hu hs=>by
  by_cases mo:(a0g C.md y).w=true
  ·exact g3 y u mo hu hs
  ·have mo:a0g C.md y=.frz:=by cases z:a0g C.md y with|imm=>exact absurd z hy|frz=>rfl|_=>rw[z] at mo;exact absurd rfl mo
   obtain⟨b',f1⟩:=I4.fzm y u mo hu
   obtain⟨_,f2,_⟩:=I4.fzs _ f1
   rw[hs] at f2;cases f2
   obtain⟨ys,f3⟩:=I1.fzp _ f1
   exact f.2.1 _ f3 rfl
 have I5:=I4.set (x:=.ref l) (v:=v) (λ_ _=>de hm1.2) (λz=>by rw[de hm1.1] at z;cases z) (.inr ⟨de hm1.1,l,rfl,⟨g2,ps,us,e9,g1,o3.mono s2⟩,f.1,f.2.1,λy u _ hy hu=>nf y u hy hu⟩)
 refine k .next _ q.2 _ S2 H2 (I5.set (x:=.ref l2) (v:=w) (λ_ _=>de hm2.2) (λz=>by rw[de hm2.1] at z;cases z) (.inr ⟨de hm2.1,l2,rfl,ow,f2.1,λp hp=>f2.2.1 p (Γh _ hp),λy u _ hy hu=>?_⟩)) (s1.trans s2)
 by_cases hyi:y=i
 ·subst hyi
  intro z
  have hl:y<σ.length:=by
   have:=(List.getElem?_eq_some_iff.mp z).1
   rwa [List.length_set] at this
  rw[List.getElem?_set_self hl] at z
  cases z
  exact nl rfl
 ·rw[List.getElem?_set_ne (Ne.symm hyi)] at hu ⊢
  exact f2.2.2 y u hy hu
end
section
variable (Q:FV->Prop)(L:a0c)
@[scoped simp ↓] theorem k_dgn (z:Option Obj)(ks:List (List (Option Int)))(vs ps:List FV):wp (c5p (.dcn z ks vs) (.tup ps)) Q↔wp (a2j ps) λk=>wp (a2r ks vs k) Q:=by
 show wp ((a2j ps).bind _) Q↔_;rw[a2a]
@[scoped simp ↓] theorem k_dpn (ks:List (List (Option Int)))(vs ps:List FV)(x:FV):wp (c6l (.dcn none ks vs) (.tup ps) x) Q↔wp (a2j ps) λk=>ks.length<big/\Q (.dcn none (a1s ks vs k x).1 (a1s ks vs k x).2):=by
 show wp ((a2j ps).bind _) Q↔_
 rw[a2a]
 cases a2j ps with
 | none=>exact Iff.rfl
 | some k =>
  show wp (if _ then _ else _) Q↔_
  split
  ·rename_i h;exact⟨λq=>⟨h,q⟩,λq=>q.2⟩
  ·rename_i h;exact⟨λq=>q.elim,λq=>absurd q.1 h⟩
@[scoped simp ↓] theorem opts_n (Q:List (Option Int)->Prop):wp (a2j []) Q=Q []:=propext Iff.rfl
@[scoped simp ↓] theorem opts_i (i:Int)(r:List FV)(Q:List (Option Int)->Prop):wp (a2j (.int i :: r)) Q↔wp (a2j r) λns=>Q (some i :: ns):=by
 show wp ((a2j r).map _) Q↔_;rw[a1n]
@[scoped simp ↓] theorem opts_o (r:List FV)(Q:List (Option Int)->Prop):wp (a2j (.non :: r)) Q↔wp (a2j r) λns=>Q (none :: ns):=by
 show wp ((a2j r).map _) Q↔_;rw[a1n]
@[scoped simp ↓] theorem d1m (k:Nat)(i e:EW)(Q:FFl->a0c->Prop):c3c k i e L Q=(wp (lk L k) λ_=>e L λx L1=>i L1 λj L2=>wp (lk L2 k) λy=>wp (c6l y j x) λz=>Q .next (L2.set k (some z))):=propext Iff.rfl
@[scoped simp ↓] theorem d1o (f:Int->Int->Int) (k:Nat)(i e:EW)(Q:FFl->a0c->Prop):b9i f k i e L Q=(wp (lk L k) λ_=>i L λj L1=>wp (lk L1 k) λv=>wp (c5p v j) λx0=>wp (a3w x0) λa=>e L1 λx L2=>wp (a3w x) λb=>wp (lk L2 k) λw=>wp (c6l w j (.int (f a b))) λz=>Q .next (L2.set k (some z))):=propext Iff.rfl
@[scoped simp ↓] theorem d1p (i:Nat)(e:EW)(Q:FFl->a0c->Prop):b9j i e L Q=(wp (lk L i) λ_=>e L λy L1=>wp (lk L1 i) λx=>wp (c5h x y) λz=>Q .next (L1.set i (some z))):=propext Iff.rfl
@[scoped simp ↓] theorem k_extL (xs ys:List FV):wp (c5h (.lst xs) (.lst ys)) Q↔xs.length+ys.length<=big/\Q (.lst (xs++ys)):=by
 show wp (if _ then _ else _) Q↔_
 split
 ·rename_i h;exact⟨λq=>⟨h,q⟩,λq=>q.2⟩
 ·rename_i h;exact⟨λq=>q.elim,λq=>absurd q.1 h⟩
@[scoped simp ↓] theorem d3t (j:Nat)(s:SW)(Q:FFl->a0c->Prop):d3u j s L Q=(wp (lk L j) λv=>match v with
 | .dcn none ks vs=>∀ o,s (L.set j (some (.dcn (some o) ks vs))) λfl L1=>match fl with
  | .next=>wp (lk L1 j) λw=>match w with
   | .dcn (some _) ks' vs'=>Q .next (L1.set j (some (.dcn none ks' vs')))
   | _=>False
  | _=>False
 | _=>False):=propext Iff.rfl
@[scoped simp ↓] theorem d0c (j:Nat)(Q:List FV->a0c->Prop):b7f j L Q=(wp (lk L j) λv=>match v with
 | .dcn (some _) ks _=>Q (ks.map c9t) L
 | _=>False):=propext Iff.rfl
@[scoped simp ↓] theorem d0k (n m:Nat)(it:AW)(tg:Tg)(t:BW)(ek ev:EW)(Q:FV->a0c->Prop):b3e n m it tg t ek ev L Q=(it L λxs L1=>L1.length=n/\xs.length<=big/\a5i n m tg t ek ev xs [] [] L1 λks vs L2=>Q (.dcn none ks vs) L2):=propext Iff.rfl
end
theorem b0i {α:Type}{tg:Tg}{n m:Nat}{ek ev:EW}{f:α->FV}{g:α->List (Option Int)}{h:α->FV}{Q:List (List (Option Int))->List FV->a0c->Prop}{L:a0c}:∀ (xs:List α)(ks:List (List (Option Int)))(vs:List FV),
  (∀ x∈xs,g x ∉ ks)->(xs.map g).Nodup ->
  (∀ x∈xs,∀ K:List (Option Int)->FV->a0c->Prop,K (g x) (h x) L->gW tg (f x) (L++Γj m none) λL1=>ek L1 λkx L3=>wp (a6q kx) λps=>wp (a2j ps) λk=>ev L3 λv L4=>K k v (L4.take n))->Q (ks++xs.map g) (vs++xs.map h) L->a5i n m tg a2x ek ev (xs.map f) ks vs L Q
 | [],ks,vs,_,_,_,E=>by
  show Q ks vs L
  simpa using E
 | x :: xs,ks,vs,hn,hd,B,E=>by
  refine B x Γn (λk v L'=>a5i n m tg a2x ek ev (xs.map f) (a1s ks vs k v).1 (a1s ks vs k v).2 L' Q) ?_
  have hk:=hn x Γn
  simp only[List.map_cons,List.nodup_cons] at hd
  have e:a1s ks vs (g x) (h x)=(ks++[g x],vs++[h x]):=by simp[a1s,hk]
  rw[e]
  refine b0i xs _ _ (λy hy hm=>?_) hd.2 (λy hy=>B y (Γh _ hy)) (by simpa using E)
  rcases List.mem_append.mp hm with hm|hm
  ·exact hn y (Γh _ hy) hm
  ·simp at hm
   exact hd.1 (by rw[<- hm];exact List.mem_map_of_mem hy)
section
variable {X:Cx}{C:CC}{n:Nat}{sp:Γd->Nat->Sp}{fr:Bool}{pos p px:Pos}{scope:Scope}{own:List Str}{kx vx tgx iter:Expr}{ifs:List Expr}{it:AW}{tg:Tg}{t:BW}{ek ev:EW}{nn m:Nat}{md':Md}{i:Nat}{nx:Str}
theorem b9b {gs:List Comprehension}{x:Str}{n:Nat}{env:Env}(hk:env.scope.kind=.function) :
  swapsWith (.DictComp kx vx gs scope p) (some (.Name x px)) n env=pure (decide (env.scope.names.lookup x=some .local) && (px.line == p.line) && !(scope.names.any λ(n,k)=>n == x && (k == .local || k == .cell))):=by
 have hb:env.blockKind=.function:=by unfold Env.blockKind;rw[hk];rfl
 have:(env.kindOf x == some .local)=decide (env.scope.names.lookup x=some .local):=by
  rw[Bool.eq_iff_iff];simp[Env.kindOf]
 unfold swapsWith
 simp only[hb,this]
 rfl
theorem b0h (h:CompOk X C n sp scope own kx tgx iter ifs nn m md' it tg t ek){σ:L2.St}{H:Hp}{Q:VK}:lf X.K C.md (b3e nn m it tg t ek ev) σ H Q->b4y (li X.K C.md md' it) (gT X.K tg) (lb X.K md' t) (lv X.K md' ek) (lv X.K md' ev) own.length σ H Q:=by
 have h0:=b2 h.st;have h1:=b2 h0.1;have h2:=b2 h1.1;have h3:=b2 h2.1;have h4:=b2 h3.1;have h5:=b2 h4.1;have h6:=b2 h5.1
 rintro⟨c,L,S,Q0,I,hh,k⟩
 refine⟨c,L,S,_,I,hh,λxs L1 hx J c' S1 H1 I1 un e0 hJ s1=>?_⟩
 obtain⟨hl,hb,hc⟩:=hx
 rw[de h5.2]
 refine b8k I1 hJ hl (de h4.2) h2.2 h1.2 hb hc λacc ks vs us L' S' H' hn q g1 g2 g3 g4 fr I' s'=>?_
 exact k _ L' q acc S' H' ⟨g1,vs,us,if_pos g3,g2,g4⟩ ⟨by rw[<- e0];exact fr.1,((un _ _ _ _ I1).fresh hn).2.1,λj w hm=>fr.2.2 j w (a6a h3.2 j hm)⟩ (un _ _ _ _ I') (s1.trans s')
theorem c0u (G:Good X C n sp)(ht:C.tn i nx=true)(hm:(decide (a0g C.md i=.own) && decide (i≠0))=true)(h:CompOk X C n sp scope own kx tgx iter ifs nn m md' it tg t ek)(hv:∀ X',Good X' (C.sub scope own md') n sp->FE X' (C.sub scope own md') vx ev):FS X C fr (.Assign [.Name nx px] (.DictComp kx vx [⟨tgx,iter,ifs,0⟩] scope p) pos) (a1l (b3e nn m it tg t ek ev) (.nm i)):=by
 have h0:=b2 h.st;have h1:=b2 h0.1;have h2:=b2 h1.1;have h3:=b2 h2.1;have h4:=b2 h3.1;have h5:=b2 h4.1;have h6:=b2 h5.1
 obtain⟨s1,s2⟩:=G.sub h6.1 md'
 have hu:X.A.units+1<cLine:=by have:=G.room.units;lia
 have blk:∀ fp D s H,PG (cxC X scope own fp D s H) tgx (gT X.K tg)/\PTs (cxC X scope own fp D s H) ifs (lb X.K md' t)/\PE (cxC X scope own fp D s H) kx (lv X.K md' ek)/\PE (cxC X scope own fp D s H) vx (lv X.K md' ev):=λfp D s H=>⟨h.tg _ (s2 fp D s H),h.ts _ (s2 fp D s H),h.el _ (s2 fp D s H),hv _ (s2 fp D s H)⟩
 have hsw:swapsWith (.DictComp kx vx [⟨tgx,iter,ifs,0⟩] scope p) (some (.Name nx px)) pos.line X.env=pure (swC C nx px scope p):=by rw[b9b G.kind,G.sc];rfl
 cases hb:swC C nx px scope p with
 | false =>
  rw[hb] at hsw
  exact b1y hm (λσ H Q=>b0h h) (b9s G ht hsw (b9x (X:=X) hu G.calm s1 h.it blk (b3a (nb h0.2))))
 | true =>
  rw[hb] at hsw
  have hlo:X.env.scope.names.lookup nx=some .local:=by
   rw[G.sc]
   have hb:=b2 hb
   exact de (b2 hb.1).1
  exact b1y hm (λσ H Q=>b0h h) (b1d hu G.calm s1 G.nd' (G.ix (b2 ht).1) hlo h.it blk hsw (b3a (nb h0.2)))
end
noncomputable def c0g (v:FV):Option FV:=match v with
 | .dci ks _=>some (.int ks.length)
 | _=>none
section
variable {X:Cx}{C:CC}{n:Nat}{sp:Γd->Nat->Sp}{a:Expr}{ea:EW}{pos p:Pos}
theorem d0z:a1j X (.builtin "len") (Rc X.K c0g):=by
 rintro pins s σ H xs us Q I r ⟨S,v,x,z,rfl,hs,rv,e,k⟩
 cases v with
 | dci ks vs =>
  cases e
  obtain⟨a,us',rfl,hl,h1,h2⟩:=rv.dci hs
  have:=h2.length
  obtain⟨u,rfl,ru⟩:=a3e r
  cases ru
  have e:((a3d ks).zip us').length=ks.length:=by rw[List.length_zip];simp[a3d];lia
  exact d8d I (.inl h1) λt s' I'=>⟨.int _,H,I',⟨t,rfl⟩,by rw[e];exact k.old _ (λ_ z=>nomatch z) rfl⟩
 | _=>cases e
theorem d6v (G:Good X C n sp)(hg:C.gl (Γe "len")=true)(hs:a0h a=false)(ha:FR X C a ea):FE X C (.Call (.Name (Γe "len") p) [a] [] pos) (eUn c0g ea):=b1p d0z G (by decide) (by nofun) (by nofun) (by nofun) hg hs ha
end
@[scoped simp ↓] theorem k_lenD (ks:List Int)(vs:List FV)(Q:FV->Prop):wp (c0g (.dci ks vs)) Q=Q (.int ks.length):=propext Iff.rfl
noncomputable def a7x (v:FV)(lo hi:Option Int):Option FV:=(a1q v).map λxs=>.lst (b0f xs lo hi)
noncomputable def d2s (a:EW)(l h:OW):EW:=λL Q=>a L λx L1=>l L1 λi L2=>h L2 λj L3=>wp (a7x x i j) λz=>Q z L3
noncomputable def RslL (K:Γd):V->Option Int->Option Int->Hp->VK->Prop:=λx lo hi H Q=>∃ S v z,Same S H/\RH K S H v x/\a7x v lo hi=some z/\NewOr K S H Q z
section
variable {X:Cx}{C:CC}{n:Nat}{sp:Γd->Nat->Sp}{a:Expr}{ea:EW}{pos:Pos}
theorem d4k:SlR X (RslL X.K):=by
 intro pins s σ H x v vl vu lo hi sl Q I rx hsl pl pu ⟨S,p,z,hs,rp,e,k⟩
 obtain⟨ps,e1,rfl⟩:=Option.map_eq_some_iff.mp e
 obtain⟨a,xs,rfl,ha,ra⟩:=rp.list hs e1
 exact c3a pins s σ H _ v vl vu lo hi sl Q I rx hsl pl pu ⟨a,xs,rfl,ha,λp hp=>k.lst _ _ p rfl (c5w ra) hp⟩
variable {xl xh:Option Expr}{wl wh:OW}{p2:Pos}
theorem fe_slL (ha:FE X C a ea)(hl:FO X C xl wl)(hh:FO X C xh wh):FE X C (.Subscript a (.Slice xl xh none p2) pos) (d2s ea wl wh):=PE.imp (b9u d4k ha hl hh) λσ H Q ⟨c,L,S,Q0,I,h,k⟩ =>
 ⟨c,L,S,_,I,h,λv L1 hv x S1 H1 r1 I1 s1=>⟨c,L1,S1,_,I1,hv,λo1 L2 h1 S2 H2 I2 s2=>⟨c,L2,S2,_,I2,h1,λo2 L3 h2 S3 H3 I3 s3=>by
  obtain⟨z,e,q⟩:=wpx h2
  exact⟨S3,v,z,I3.sub,.inl (r1.mono (s2.trans s3)),e,b3v I3 λx S' H' r I' s'=>k z L3 q x S' H' r I' (s1.trans (s2.trans (s3.trans s')))⟩⟩⟩⟩
end
@[scoped simp ↓] theorem d7x (a:EW)(l h:OW)(L:a0c)(Q:FV->a0c->Prop):d2s a l h L Q=(a L λx L1=>l L1 λi L2=>h L2 λj L3=>wp (a7x x i j) λz=>Q z L3):=propext Iff.rfl
@[scoped simp ↓] theorem k_slL (v:FV)(lo hi:Option Int)(Q:FV->Prop):wp (a7x v lo hi) Q↔wp (a1q v) λxs=>Q (.lst (b0f xs lo hi)):=a1n _ _ _
mutual
noncomputable def fla:FV->Bool
 | .non=>true
 | .bl _=>true
 | .int _=>true
 | .str _=>true
 | .shn _=>true
 | .scr _=>true
 | .tup xs=>d2e xs
 | .lst _=>false
 | .dct _ _=>false
 | .dci _ _=>false
 | .dcz _ _ _=>false
 | .dcn _ _ _=>false
 | .obj _ _ _=>false
noncomputable def d2e:List FV->Bool
 | []=>true
 | x :: xs=>fla x && d2e xs
end
noncomputable def d4x (v:FV):Bool:=match c8q v with
 | some ps=>d2e ps
 | none=>false
noncomputable def d1r:Md->a0c->Bool
 | _,[]=>true
 | ms,none :: L=>d1r ms.tail L
 | ms,some v :: L=>(if a0g ms 0=.imm then fla v else d4x v) && d1r ms.tail L
noncomputable def nl (S:Hp):Hp:=λa=>match S a with
 | some (.lst _)=>none
 | o=>o
section
variable {K:Γd}{S S' H:Hp}
theorem c9f {a:Addr}{o:HO}(h:S a=some o)(n:∀ xs,o≠.lst xs):nl S a=some o:=by
 unfold nl
 split
 ·rename_i xs z;rw[h] at z;exact absurd (Option.some.inj z) (n xs)
 ·exact h
mutual
theorem RV.nl:∀ {p:FV}{v:V},fla p=true->RV K S p v->RV K (nl S) p v
 | .non,v,_,h=>h
 | .bl b,v,_,h=>h
 | .int i,v,_,h=>h
 | .str _,v,_,h=>h
 | .shn _,v,_,h=>h
 | .tup ps,v,n,⟨a,xs,e,h1,h2⟩=>⟨a,xs,e,c9f h1 (λ_ z=>nomatch z),RVs.nl n h2⟩
 | .lst ps,v,n,h=>by cases n
 | .dct ks vs,v,n,h=>by cases n
 | .dci ks vs,v,n,h=>by cases n
 | .dcz o ks vs,v,n,h=>by cases n
 | .dcn z ks vs,v,n,h=>by cases n
 | .obj _ _ _,v,n,h=>by cases n
 | .scr ns,v,_,⟨a,e,h⟩=>⟨a,e,h.elim (λ⟨o,h⟩=>.inl ⟨o,c9f h (λ_ z=>nomatch z)⟩) .inr⟩
theorem RVs.nl:∀ {ps:List FV}{vs:List V},d2e ps=true->RVs K S ps vs->RVs K (nl S) ps vs
 | [],vs,_,h=>h
 | p :: ps,vs,n,⟨v,r,e,h1,h2⟩=>⟨v,r,e,RV.nl (b2 n).1 h1,RVs.nl (b2 n).2 h2⟩
end
variable {c:Cn}{md:Md}{L:a0c}{σ:L2.St}{j:Nat}
end
noncomputable def sScope (md:Md)(r:SW):SW:=λL Q=>d1r md L=true/\r L λfl L'=>d1r md L'=true/\(match fl with|.ret v=>fla v=true|_=>True)/\Q fl L'
section
variable {X:Cx}{C:CC}{n:Nat}{sp:Γd->Nat->Sp}{fr:Bool}{st:Stmt}{sts:List Stmt}{s r:SW}{o:Expr}{e:EW}{pos p:Pos}{j:Nat}
open Classical in
end
mutual
noncomputable def D.ns:D->Bool
 | .non=>true
 | .bl _=>true
 | .int _=>true
 | .str _=>false
 | .tup xs=>D.nss xs
 | .lst xs=>D.nss xs
noncomputable def D.nss:List D->Bool
 | []=>true
 | x :: xs=>D.ns x && D.nss xs
end
theorem a5g {a b:Str}(ha:PyData.strOk a=true)(hb:PyData.strOk b=true):PyData.strOk (a++b)=true:=by
 show Array.all (a.cps++b.cps) _=true
 rw[Array.all_append]
 exact Bool.and_eq_true_iff.mpr ⟨ha,hb⟩
theorem b5z {s:Str}(hs:PyData.strOk s=true):∀ {ts:List Str},(∀ t∈ts,PyData.strOk t=true)->PyData.strOk (Str.join s ts)=true
 | [],_=>a3g ""
 | [a],h=>h a (by simp)
 | a :: b :: r,h=>by
  simp only[Str.join]
  exact a5g (a5g (h a (by simp)) hs) (b5z hs λt ht=>h t (by simp[List.mem_cons.mp ht]))
theorem b6a:∀ {ts:List Str}{k:Nat}{acc:Str},PyData.strOk acc=true->(∀ t∈ts,PyData.strOk t=true)->PyData.strOk (textFrom k acc ts)=true
 | [],k,acc,ha,_=>ha
 | t :: r,k,acc,ha,h=>by
  unfold textFrom
  refine b6a ?_ λx hx=>h x (by simp[hx])
  split
  ·exact a5g (a5g ha (a3g _)) (h t (by simp))
  ·exact a5g ha (h t (by simp))
mutual
theorem c7g:∀ d:D,d.ns=true->PyData.strOk (dPy d).shown=true
 | .non,_=>by simp only[dPy,PyData.shown];exact a3g _
 | .bl b,_=>by simp only[dPy,PyData.shown];split<;>exact a3g _
 | .int i,_=>by simp only[dPy,PyData.shown];exact a3g _
 | .str _,h=>by cases h
 | .tup xs,h=>by
  simp only[dPy,PyData.shown,tupleText]
  exact a5g (a5g (a3g _) (b5z (a3g _) (b1c xs h))) (a3g _)
 | .lst xs,h=>by
  simp only[dPy,PyData.shown,listText]
  exact a5g (b6a (a3g _) (b1c xs h)) (a3g _)
theorem b1c:∀ ds:List D,D.nss ds=true->∀ t∈PyData.shownAll (a4a ds),PyData.strOk t=true
 | [],_,t,ht=>by simp[a4a,PyData.shownAll] at ht
 | d :: ds,h,t,ht=>by
  simp only[a4a,PyData.shownAll] at ht
  have h:=b2 h
  rcases List.mem_cons.mp ht with rfl|ht
  ·exact c7g d h.1
  ·exact b1c ds h.2 t ht
end
open Classical in
noncomputable def nePF (a b:FV):Option FV:=if ∃ i d,a=.tup [.int i,.shn d]/\b=a/\d.ns=true then some (.bl false) else none
section
variable {X:Cx}
variable {C:CC}{n:Nat}{sp:Γd->Nat->Sp}{a b:Expr}{ea eb:EW}{pos:Pos}
end
end Kq
end
set_option maxRecDepth 10000
set_option maxHeartbeats 1000000
section
namespace Kq
@[scoped simp ↓ high] theorem lk_1 (a0:Option FV)(v:FV)(L:a0c)(Q:FV->Prop):wp (lk (a0 :: some v :: L) 1) Q=Q v:=propext Iff.rfl
@[scoped simp ↓ high] theorem lk_2 (a0 a1:Option FV)(v:FV)(L:a0c)(Q:FV->Prop):wp (lk (a0 :: a1 :: some v :: L) 2) Q=Q v:=propext Iff.rfl
@[scoped simp ↓ high] theorem lk_3 (a0 a1 a2:Option FV)(v:FV)(L:a0c)(Q:FV->Prop):wp (lk (a0 :: a1 :: a2 :: some v :: L) 3) Q=Q v:=propext Iff.rfl
@[scoped simp ↓ high] theorem lk_4 (a0 a1 a2 a3:Option FV)(v:FV)(L:a0c)(Q:FV->Prop):wp (lk (a0 :: a1 :: a2 :: a3 :: some v :: L) 4) Q=Q v:=propext Iff.rfl
@[scoped simp ↓ high] theorem lk_5 (a0 a1 a2 a3 a4:Option FV)(v:FV)(L:a0c)(Q:FV->Prop):wp (lk (a0 :: a1 :: a2 :: a3 :: a4 :: some v :: L) 5) Q=Q v:=propext Iff.rfl
@[scoped simp ↓ high] theorem lk_6 (a0 a1 a2 a3 a4 a5:Option FV)(v:FV)(L:a0c)(Q:FV->Prop):wp (lk (a0 :: a1 :: a2 :: a3 :: a4 :: a5 :: some v :: L) 6) Q=Q v:=propext Iff.rfl
@[scoped simp ↓ high] theorem lk_7 (a0 a1 a2 a3 a4 a5 a6:Option FV)(v:FV)(L:a0c)(Q:FV->Prop):wp (lk (a0 :: a1 :: a2 :: a3 :: a4 :: a5 :: a6 :: some v :: L) 7) Q=Q v:=propext Iff.rfl
@[scoped simp ↓ high] theorem lk_8 (a0 a1 a2 a3 a4 a5 a6 a7:Option FV)(v:FV)(L:a0c)(Q:FV->Prop):wp (lk (a0 :: a1 :: a2 :: a3 :: a4 :: a5 :: a6 :: a7 :: some v :: L) 8) Q=Q v:=propext Iff.rfl
@[scoped simp ↓ high] theorem lk_9 (a0 a1 a2 a3 a4 a5 a6 a7 a8:Option FV)(v:FV)(L:a0c)(Q:FV->Prop):wp (lk (a0 :: a1 :: a2 :: a3 :: a4 :: a5 :: a6 :: a7 :: a8 :: some v :: L) 9) Q=Q v:=propext Iff.rfl
@[scoped simp ↓ high] theorem lk_10 (a0 a1 a2 a3 a4 a5 a6 a7 a8 a9:Option FV)(v:FV)(L:a0c)(Q:FV->Prop):wp (lk (a0 :: a1 :: a2 :: a3 :: a4 :: a5 :: a6 :: a7 :: a8 :: a9 :: some v :: L) 10) Q=Q v:=propext Iff.rfl
@[scoped simp ↓ high] theorem lk_11 (a0 a1 a2 a3 a4 a5 a6 a7 a8 a9 a10:Option FV)(v:FV)(L:a0c)(Q:FV->Prop):wp (lk (a0 :: a1 :: a2 :: a3 :: a4 :: a5 :: a6 :: a7 :: a8 :: a9 :: a10 :: some v :: L) 11) Q=Q v:=propext Iff.rfl
@[scoped simp ↓ high] theorem lk_12 (a0 a1 a2 a3 a4 a5 a6 a7 a8 a9 a10 a11:Option FV)(v:FV)(L:a0c)(Q:FV->Prop):wp (lk (a0 :: a1 :: a2 :: a3 :: a4 :: a5 :: a6 :: a7 :: a8 :: a9 :: a10 :: a11 :: some v :: L) 12) Q=Q v:=propext Iff.rfl
@[scoped simp ↓ high] theorem lk_13 (a0 a1 a2 a3 a4 a5 a6 a7 a8 a9 a10 a11 a12:Option FV)(v:FV)(L:a0c)(Q:FV->Prop):wp (lk (a0 :: a1 :: a2 :: a3 :: a4 :: a5 :: a6 :: a7 :: a8 :: a9 :: a10 :: a11 :: a12 :: some v :: L) 13) Q=Q v:=propext Iff.rfl
@[scoped simp ↓ high] theorem lk_14 (a0 a1 a2 a3 a4 a5 a6 a7 a8 a9 a10 a11 a12 a13:Option FV)(v:FV)(L:a0c)(Q:FV->Prop):wp (lk (a0 :: a1 :: a2 :: a3 :: a4 :: a5 :: a6 :: a7 :: a8 :: a9 :: a10 :: a11 :: a12 :: a13 :: some v :: L) 14) Q=Q v:=propext Iff.rfl
@[scoped simp ↓ high] theorem lk_15 (a0 a1 a2 a3 a4 a5 a6 a7 a8 a9 a10 a11 a12 a13 a14:Option FV)(v:FV)(L:a0c)(Q:FV->Prop):wp (lk (a0 :: a1 :: a2 :: a3 :: a4 :: a5 :: a6 :: a7 :: a8 :: a9 :: a10 :: a11 :: a12 :: a13 :: a14 :: some v :: L) 15) Q=Q v:=propext Iff.rfl
@[scoped simp ↓ high] theorem lk_16 (a0 a1 a2 a3 a4 a5 a6 a7 a8 a9 a10 a11 a12 a13 a14 a15:Option FV)(v:FV)(L:a0c)(Q:FV->Prop):wp (lk (a0 :: a1 :: a2 :: a3 :: a4 :: a5 :: a6 :: a7 :: a8 :: a9 :: a10 :: a11 :: a12 :: a13 :: a14 :: a15 :: some v :: L) 16) Q=Q v:=propext Iff.rfl
@[scoped simp ↓ high] theorem lk_17 (a0 a1 a2 a3 a4 a5 a6 a7 a8 a9 a10 a11 a12 a13 a14 a15 a16:Option FV)(v:FV)(L:a0c)(Q:FV->Prop):wp (lk (a0 :: a1 :: a2 :: a3 :: a4 :: a5 :: a6 :: a7 :: a8 :: a9 :: a10 :: a11 :: a12 :: a13 :: a14 :: a15 :: a16 :: some v :: L) 17) Q=Q v:=propext Iff.rfl
noncomputable def bd0 (call:CW):SW:=a0q (a1l (eUn b1l (eOp ixF (a0b 0) (eC (.int 0)))) (.nm 1)) (a0q (a1l (a2w call 1 (a0a (a0b 0) a0p)) (.nm 2)) (a0q (a1l (a6j a0p) (.nm 3)) (a0q (a1l (a6j a0p) (.nm 4)) (a0q (a1l (a6k call 2 (a0a (a0b 1) (c2r 3 a0p))) (.nm 5)) (a0q (c3b (a1i (a0b 5)) (a0q (d3u 2 (a1l (a1z 9 2 (b7f 2) (.tp [9,10]) (b8p (a1i (eOp b4r (a0b 10) (a0b 5))) (a1i (eOp b0u (a0b 9) (a0b 5)))) (a6h (a0a (a0b 9) (a0a (a0b 10) a0p)))) (.nm 6))) (a0q (a1l (eUn c0d (a1z 9 1 (a6y (a0b 6)) (.nm 9) a2x (a6i c5p 2 (a0b 9)))) (.nm 7)) (a0q (b9h (b1r c6f 4 (a6h (a0a (a0b 5) (a0a (a0b 7) a0p))))) (a0q (a9c (a6y (a0b 6)) (.nm 8) (b9i (λi j=>i-j) 2 (a0b 8) (a0b 7))) (a0q (b9j 3 (a1z 9 1 (a6y (a0b 6)) (.nm 9) (a1i (eOp eqB (a6i c5p 2 (a0b 9)) (eC (.int 0)))) (a0b 9))) (a1l (a6k call 2 (a0a (a0b 1) (c2r 3 a0p))) (.nm 5)))))))) (a3c (a6h (a0a (eUn c2y (a1z 9 1 (a6y (a0b 4)) (.nm 9) a2x (eOp ixF (a0b 9) (eC (.int 1))))) (a0a (a6k call 4 (a0a (a0b 1) (c2r 3 a0p))) (a0a (eMv 4) a0p))))))))))
noncomputable def bd1 (call:CW):SW:=a0q (a1l (b3e 5 2 (a6z (eOp ixF (a0b 0) (eC (.int 0)))) (.tp [5,6]) a2x (a6h (a0a (eC .non) (a0a (a0b 5) a0p))) (a0b 6)) (.nm 1)) (a0q (a9c (a6y (eOp ixF (a0b 0) (eC (.int 1)))) (.tp [2,3,4]) (c3c 1 (a6h (a0a (a0b 2) (a0a (a0b 3) a0p))) (a0b 4))) (a3c (a0b 1)))
noncomputable def bd2 (call:CW):SW:=a0q (a1l (a6j a0p) (.nm 2)) (a0q (a9c (b4d (a0b 0)) (.nm 3) (a0q (a1l (a2w call 3 (a0a (a0b 1) (a0a (a0b 3) a0p))) (.nm 4)) (sIf (b8p (a1i (eOp b0u (eC .non) (a0b 4))) (bOr (c1i (a1i (a0b 2))) (a1i (eOp ltB (eUn b1l (a0b 4)) (eUn b1l (a0b 2)))))) (a1l (a0b 4) (.nm 2)) a6s))) (a3c (eUn a3f (b7r (a0b 2)))))
noncomputable def bd3 (call:CW):SW:=a0q (a1l (a6j (a0a (a0b 1) a0p)) (.nm 2)) (a0q (a1l (eC (.int 0)) (.nm 3)) (a0q (c3b (a1i (eOp ltB (a0b 3) (eUn b1l (a0b 2)))) (a0q (b9j 2 (a1z 4 2 (a6y (a0b 0)) (.tp [4,5]) (b8p (a1i (eOp eqB (a0b 5) (a6i ixF 2 (a0b 3)))) (a1i (eOp b0u (a0b 4) (a0b 2)))) (a0b 4))) (d1q (d1e λi j=>i+j) 3 (eC (.int 1))))) (a3c (a0b 2))))
noncomputable def bd4 (call:CW):SW:=a0q (a1l (eC (.dci [] [])) (.nm 2)) (a0q (c3b (a1i (eOp ltB (eUn c0g (a0b 2)) (a0b 0))) (a0q (a1l (eOp ixF (a1z 5 1 (a6y (a0b 1)) (.nm 5) (b8p (a1i (eOp b0u (eOp ixF (a0b 5) (eC (.int 1))) (a0b 2))) (bOr (a1i (eUn a2c (eOp ixF (a0b 5) (eC (.int 0))))) (a1i (eOp b4r (eOp ixF (a0b 5) (eC (.int 0))) (a0b 2))))) (a0b 5)) (eC (.int 0))) (.tp [3,4])) (c3d 2 (a0b 4) (a0b 3)))) (a3c (eUn a3f (a1z 5 1 (b4d (a0b 0)) (.nm 5) a2x (a6i dgF 2 (a0b 5))))))
noncomputable def bd5 (call:CW):SW:=a0q (a1l (eOp b8w (eOp b1g (eOp a5t (eOp a5t (eOp b8w (a0b 0) (eC (.int 2147483629))) (eOp b1g (eOp b1g (a0b 1) (a0b 1)) (eC (.int 7919)))) (eC (.int 11))) (eC (.int 48271))) (eC (.int 2147483647))) (.nm 2)) (a3c (eOp b8w (eOp b1g (a0b 2) (a0b 2)) (eC (.int 1999999973))))
noncomputable def bd6 (call:CW):SW:=a0q (a1l (eIf (a1i (eOp ltB (a0b 1) (eUn b1l (a0b 0)))) (eOp ixF (a0b 0) (a0b 1)) (eC (.int 0))) (.nm 2)) (a3c (a6j (a0a (eOp b1g (eUn d1h (a0b 2)) (eUn a3y (eOp geB (eUn d1h (a0b 2)) (eOp c8c (eC (.int 10)) (eC (.int 18)))))) (a0a (eOp a5t (a0b 2) (eOp b1g (eC (.int 1000003)) (a0b 1))) (a0a (eC (.int 0)) a0p)))))
noncomputable def bd7 (call:CW):SW:=a0q (c3e 0 (eC (.int 2)) (eOp a5t (a6i ixF 0 (eC (.int 2))) (eC (.int 1)))) (a0q (sIf (a1i (eOp gtB (a6i ixF 0 (eC (.int 0))) (eC (.int 0)))) (a0q (a1l (eOp b8w (a6i ixF 0 (eC (.int 0))) (a0b 1)) (.nm 2)) (a0q (c3e 0 (eC (.int 0)) (eOp b7m (a6i ixF 0 (eC (.int 0))) (a0b 1))) (a3c (a0b 2)))) a6s) (a3c (eOp b8w (eOp b7m (a2w call 5 (a0a (a2w call 5 (a0a (a6i ixF 0 (eC (.int 1))) (a0a (a6i ixF 0 (eC (.int 2))) a0p))) (a0a (eOp a5t (a6i ixF 0 (eC (.int 2))) (eC (.int 64))) a0p))) (eC (.int 64))) (a0b 1))))
noncomputable def bd8 (call:CW):SW:=a0q (a1l (eUn a4e (d2s (a0b 0) c4g (b6c (a0b 1)))) (.nm 2)) (a0q (a9c (a6z (d2s (a0b 0) (b6c (a0b 1)) (b6c (eC (.int 63))))) (.tp [3,4]) (c3e 2 (eOp b8w (a0b 3) (a0b 1)) (eOp a5t (a6i ixF 2 (eOp b8w (a0b 3) (a0b 1))) (eOp b1g (a0b 4) (eOp a5t (a0b 3) (eC (.int 2))))))) (a3c (a0b 2)))
noncomputable def bd9 (call:CW):SW:=a0q (sIf (a1i (eOp eqB (a1g call 7 0 (a0a (eC (.int 8)) a0p)) (eC (.int 0)))) (a3c (eOp a5t (eC (.int 7)) (a1g call 7 0 (a0a (eOp d1l (a0b 1) (eC (.int 6))) a0p)))) a6s) (a3c (eOp ixF (a6j (a0a (eC (.int 0)) (a0a (eC (.int 1)) (a0a (eC (.int 2)) (a0a (eC (.int 3)) (a0a (eC (.int 4)) (a0a (eC (.int 5)) (a0a (eC (.int 6)) (a0a (eC (.int 4)) (a0a (eC (.int 5)) (a0a (eC (.int 3)) a0p))))))))))) (a1g call 7 0 (a0a (eC (.int 10)) a0p))))
noncomputable def d2z (call:CW):SW:=a3c (eUn d1g (a1z 1 1 (a6y (a0b 0)) (.nm 1) a2x (d0p (eUn (c4w .int) (a0b 1)) (eUn d5e (eUn (c4w .bool) (a0b 1))))))
noncomputable def d2y (call:CW):SW:=a3c (eUn c5n (a1z 1 3 (a6y (eOp ixF (a0b 0) (eC (.int 1)))) (.tp [1,2,3]) a2x (a6h (a0a (a6h (a0a (a0b 1) (a0a (a0b 2) a0p))) (a0a (a0b 3) a0p)))))
noncomputable def d8t (call:CW):SW:=a0q (a1l (a6j (a0a (a0b 1) a0p)) (.nm 2)) (a0q (c3b (a1i (eUn a0v (eOp ixF (a0b 0) (a6i ixF 2 (eC (.int 0)))))) (b9h (b3d d1y 2 (a0a (eC (.int 0)) (a0a (eOp ixF (a0b 0) (a6i ixF 2 (eC (.int 0)))) a0p))))) (a3c (a0b 2)))
noncomputable def d8s (call:CW):SW:=a0q (a1l (a2w call 11 (a0a (a0b 0) a0p)) (.nm 2)) (a0q (a1l (eC (.int 0)) (.nm 3)) (a0q (a9c (a6z (a0b 1)) (.tp [4,5]) (a1l (eOp a5t (a0b 3) (eIf (a1i (eUn a2c (a0b 5))) (eOp ixF (eOp ixF (a0b 0) (eC (.int 0))) (a0b 4)) (eOp c5q (a0b 2) (a6h (a0a (a0b 5) (a0a (a0b 4) a0p)))))) (.nm 3))) (a3c (a0b 3))))
noncomputable def d8r (call:CW):SW:=a0q (a1l (a2w call 11 (a0a (a0b 0) a0p)) (.nm 2)) (a0q (sIf (a1i (eUn d1f (a1z 6 2 (a6z (a0b 1)) (.tp [6,7]) a2x (d0p (eUn a0v (a0b 7)) (eOp b0u (a6h (a0a (a0b 7) (a0a (a0b 6) a0p))) (a0b 2)))))) (a3c (eC (.bl false))) a6s) (a0q (a9c (b4d (eUn b1l (a0b 1))) (.nm 3) (a0q (a1l (a0b 3) (.nm 4)) (a0q (a9c (b4d (eUn b1l (a0b 1))) (.nm 5) (sIf (a1i (eUn a0v (a0b 4))) (a1l (eOp ixF (a0b 1) (a0b 4)) (.nm 4)) a6s)) (sIf (a1i (eUn a0v (a0b 4))) (a3c (eC (.bl false))) a6s)))) (a3c (eC (.bl true)))))
noncomputable def d2x (call:CW):SW:=a3c (eUn c2y (a1z 3 2 (a6y (a0b 0)) (.tp [3,4]) (b8p (a1i (eOp b4r (a0b 2) (a0b 3))) (a1i (eOp b0u (a0b 1) (a0b 3)))) (a0b 4)))
noncomputable def d8q (call:CW):SW:=a0q (sIf (c1i (a1i (eUn (c4w .list) (a0b 1)))) (a3c (eC (.bl false))) a6s) (a0q (a1l (a6j a0p) (.nm 2)) (a0q (a9c (a6y (a0b 1)) (.nm 3) (a0q (sIf (bOr (c1i (a1i (eUn (c4w .tuple) (a0b 3)))) (bOr (a1i (eOp neB (eUn b1l (a0b 3)) (eC (.int 2)))) (bOr (c1i (a1i (eUn (c4w .tuple) (eOp ixF (a0b 3) (eC (.int 0)))))) (a1i (eOp eqB (eOp ixF (a0b 3) (eC (.int 0))) (a6h a0p)))))) (a3c (eC (.bl false))) a6s) (a0q (a1l (a0b 3) (.tp [4,5])) (a0q (sIf (bOr (c1i (a1i (a2w call 10 (a0a (eOp a5t (eUn a4e (a0b 4)) (a6j (a0a (a0b 5) a0p))) a0p)))) (bOr (a1i (eOp ltB (a0b 5) (eC (.int 1)))) (a1i (eOp b4r (a0b 4) (a0b 2))))) (a3c (eC (.bl false))) a6s) (a0q (sIf (a1i (eOp neB (eUn a4e (a0b 4)) (a1z 6 1 (b4d (eUn b1l (eOp ixF (a0b 0) (eC (.int 0))))) (.nm 6) (a1i (eOp b4r (a0b 6) (a0b 4))) (a0b 6)))) (a3c (eC (.bl false))) a6s) (b9h (b1r c6f 2 (a0b 4)))))))) (a0q (sIf (a1i (eUn d1f (a1z 6 2 (a6z (eOp ixF (a0b 0) (eC (.int 0)))) (.tp [6,7]) a2x (eOp ltB (a0b 7) (a2w call 15 (a0a (a0b 1) (a0a (eUn d1v (eC (.int 1))) (a0a (a0b 6) a0p)))))))) (a3c (eC (.bl false))) a6s) (a3c (eUn d1g (a1z 6 3 (a6y (eOp ixF (a0b 0) (eC (.int 1)))) (.tp [6,7,8]) a2x (eOp geB (a0b 8) (a2w call 15 (a0a (a0b 1) (a0a (a0b 6) (a0a (a0b 7) a0p)))))))))))
noncomputable def d8p (call:CW):SW:=a0q (a1l (eOp (a5b b1g) (a6j (a0a (eC .non) a0p)) (a0b 1)) (.nm 2)) (a0q (a1l (a6j a0p) (.nm 3)) (a0q (a9c (b4d (a0b 1)) (.nm 4) (b9h (b3d d1y 3 (a0a (a1g call 7 0 (a0a (eOp a5t (a0b 4) (eC (.int 1))) a0p)) (a0a (a0b 4) a0p))))) (a0q (a9c (a6z (a0b 3)) (.tp [5,6]) (sIf (b8p (a1i (eOp gtB (a0b 5) (eC (.int 0)))) (a1i (eOp gtB (a1g call 7 0 (a0a (eC (.int 4)) a0p)) (eC (.int 0))))) (c3e 2 (a0b 6) (a6i ixF 3 (a1g call 7 0 (a0a (a0b 5) a0p)))) a6s)) (a0q (a1l (a6j a0p) (.nm 7)) (a0q (a9c (b4d (a0b 1)) (.nm 6) (a0q (a1l (a1z 17 1 (b4d (a0b 1)) (.nm 17) (a1i (eOp b4r (a0b 6) (b7s call 12 (c2r 2 (a0a (a0b 17) a0p))))) (a0b 17)) (.nm 8)) (a9c (a6y (a6j (a0a (a6h (a0a (a0b 6) a0p)) (a0a (eUn a3f (a0b 8)) a0p)))) (.nm 9) (a0q (a1l (eOp ixF (a6j (a0a (eC (.int 1)) (a0a (eC (.int 0)) (a0a (eC (.int 3)) (a0a (eOp a5t (eC (.int 1)) (a1g call 7 0 (a0a (eC (.int 40)) a0p))) (a0a (eOp a5t (eC (.int 1)) (a1g call 7 0 (a0a (eOp c8c (eC (.int 10)) (eC (.int 7))) a0p))) a0p)))))) (a1g call 7 0 (a0a (eC (.int 5)) a0p))) (.nm 10)) (a0q (a1l (eOp b6g (a0b 10) (eUn a3y (eOp eqB (eUn b1l (a0b 9)) (eC (.int 1))))) (.nm 10)) (sIf (b8p (a1i (eOp gtB (a0b 10) (eC (.int 0)))) (a1i (eOp b0u (a0b 9) (a1z 17 2 (a6y (a0b 7)) (.tp [17,18]) a2x (a0b 17))))) (b9h (b1r c6f 7 (a6h (a0a (a0b 9) (a0a (a0b 10) a0p))))) a6s)))))) (a0q (a1l (a6h (a0a (a6j a0p) (a0a (a6j a0p) a0p))) (.tp [11,12])) (a0q (a9c (b4d (a0b 1)) (.nm 13) (a0q (a1l (a1g call 7 0 (a0a (eOp ixF (a6j (a0a (eC (.int 1)) (a0a (eC (.int 2)) (a0a (eC (.int 9)) a0p)))) (a1g call 7 0 (a0a (eC (.int 3)) a0p))) a0p)) (.nm 14)) (a0q (b9h (b1r c6f 11 (eOp a5t (a6k call 15 (c2r 7 (a0a (eUn d1v (eC (.int 1))) (a0a (a0b 13) a0p)))) (eOp b1g (eUn a3y (eUn a0v (a6i ixF 2 (a0b 13)))) (a0b 14))))) (a9c (b4d (a0b 1)) (.nm 15) (a0q (a1l (a1g call 7 0 (a0a (eOp ixF (a6j (a0a (eC (.int 1)) (a0a (eC (.int 2)) (a0a (eC (.int 9)) a0p)))) (a1g call 7 0 (a0a (eC (.int 3)) a0p))) a0p)) (.nm 14)) (a0q (a1l (eOp a5t (a6k call 15 (c2r 7 (a0a (a0b 15) (a0a (a0b 13) a0p)))) (eOp b1g (eUn a3y (eOp neB (a6i ixF 2 (a0b 13)) (a0b 15))) (a0b 14))) (.nm 16)) (sIf (b8p (a1i (eOp neB (a0b 15) (a0b 13))) (b8p (a1i (eOp gtB (a0b 16) (eC (.int 0)))) (bOr (a1i (eOp eqB (a6i ixF 2 (a0b 13)) (a0b 15))) (a1i (eOp gtB (a1g call 7 0 (a0a (eC (.int 3)) a0p)) (eC (.int 0))))))) (b9h (b1r c6f 12 (a6h (a0a (a0b 15) (a0a (a0b 13) (a0a (a0b 16) a0p)))))) a6s))))))) (a3c (a6h (a0a (a6h (a0a (eUn a3f (a0b 11)) (a0a (eUn a3f (b3c big (a0b 12))) a0p))) (a0a (eUn a3f (a0b 2)) (a0a (eMv 7) a0p))))))))))))
noncomputable def d8o (call:CW):SW:=a0q (a1l (eUn a3f (a1z 4 2 (a6z (eOp ixF (a0b 0) (eC (.int 0)))) (.tp [4,5]) a2x (eOp a5t (a0b 5) (eUn a3y (d0p (eUn a2c (a0b 1)) (eOp eqB (a0b 4) (a0b 2))))))) (.nm 3)) (a3c (a6h (a0a (a0b 3) (a0a (eUn a3f (a1z 4 3 (a6y (eOp ixF (a0b 0) (eC (.int 1)))) (.tp [4,5,6]) a2x (a6h (a0a (a0b 4) (a0a (a0b 5) (a0a (eOp a5t (a0b 6) (eUn a3y (eOp eqB (a6h (a0a (a0b 4) (a0a (a0b 5) a0p))) (a6h (a0a (a0b 1) (a0a (a0b 2) a0p)))))) a0p)))))) a0p))))
noncomputable def d8n (call:CW):SW:=a0q (a1l (a2w call 8 (a0a (a0b 0) (a0a (eC (.int 6)) a0p))) (.nm 1)) (a0q (a9c (b4d (eOp b6g (eC (.int 2)) (eUn b1l (a0b 1)))) (.nm 2) (a0q (a1l (a2w call 6 (a0a (a0b 1) (a0a (a0b 2) a0p))) (.nm 3)) (a0q (c3e 3 (eC (.int 1)) (eOp a5t (a6i ixF 3 (eC (.int 1))) (eC (.int 200)))) (a0q (a1l (a1g call 9 3 (a0a (eC (.int 12)) a0p)) (.nm 4)) (a0q (a1l (a1g call 17 3 (a0a (a0b 4) a0p)) (.tp [5,6,7])) (a0q (a1l (eUn c7c (a0b 5)) (.nm 8)) (a0q (a1l (eUn c2y (a1z 16 2 (a6y (a0b 7)) (.tp [16,17]) a2x (a0b 17))) (.nm 9)) (a0q (a1l (a2w call 0 (a0a (a0b 5) a0p)) (.tp [10,11,12])) (a0q (sIf (bOr (a1i (eOp neB (a0b 10) (a0b 9))) (bOr (c1i (a1i (a2w call 14 (a0a (a0b 5) (a0a (a0b 11) a0p))))) (a1i (eOp neB (a2w call 13 (a0a (a0b 5) (a0a (a0b 11) a0p))) (a0b 9))))) (a3c (eC (.bl false))) a6s) (a0q (sIf (a1i (eOp neB (eUn c7c (a0b 5)) (a0b 8))) (a3c (eC (.bl false))) a6s) (a0q (sIf (bOr (c1i (a1i (a2w call 16 (a0a (a0b 5) (a0a (a0b 12) a0p))))) (a1i (eOp neB (eUn c2y (a1z 16 2 (a6y (a0b 12)) (.tp [16,17]) a2x (a0b 17))) (a0b 9)))) (a3c (eC (.bl false))) a6s) (sIf (a1i (eOp gtB (a0b 4) (eC (.int 0)))) (a0q (a1l (a1g call 7 3 (a0a (a0b 4) a0p)) (.nm 13)) (a0q (a1l (eOp a5t (a6j (a0a (eC .non) a0p)) (a1z 16 3 (a6y (eOp ixF (a0b 5) (eC (.int 1)))) (.tp [16,17,18]) (a1i (eOp eqB (a0b 17) (a0b 13))) (a0b 16))) (.nm 14)) (a0q (a1l (eOp ixF (a0b 14) (a1g call 7 3 (a0a (eUn b1l (a0b 14)) a0p))) (.nm 14)) (a0q (a1l (eOp ixF (a2w call 0 (a0a (a2w call 18 (a0a (a0b 5) (a0a (a0b 14) (a0a (a0b 13) a0p)))) a0p)) (eC (.int 0))) (.nm 15)) (sIf (a1i (eOp b0u (a0b 15) (a6j (a0a (a0b 9) (a0a (eOp a5t (a0b 9) (eUn a3y (eOp eqB (a0b 14) (eOp ixF (a0b 6) (a0b 13))))) a0p))))) (a3c (eC (.bl false))) a6s))))) a6s)))))))))))) (a3c (eC (.bl true))))
noncomputable def fd0:FD:=⟨1,9,bd0,false,false⟩
noncomputable def fd1:FD:=⟨1,5,bd1,false,true⟩
noncomputable def fd2:FD:=⟨2,5,bd2,false,false⟩
noncomputable def fd3:FD:=⟨2,4,bd3,false,true⟩
noncomputable def fd4:FD:=⟨2,5,bd4,false,false⟩
noncomputable def fd5:FD:=⟨2,3,bd5,false,false⟩
noncomputable def fd6:FD:=⟨2,3,bd6,false,true⟩
noncomputable def fd7:FD:=⟨2,3,bd7,true,false⟩
noncomputable def fd8:FD:=⟨2,5,bd8,false,true⟩
noncomputable def fd9:FD:=⟨2,2,bd9,true,false⟩
noncomputable def d7m:FD:=⟨1,1,d2z,false,false⟩
noncomputable def d7l:FD:=⟨1,1,d2y,false,false⟩
noncomputable def d7k:FD:=⟨2,3,d8t,false,true⟩
noncomputable def d7j:FD:=⟨2,6,d8s,false,false⟩
noncomputable def d7i:FD:=⟨2,6,d8r,false,false⟩
noncomputable def d7h:FD:=⟨3,3,d2x,false,false⟩
noncomputable def d7g:FD:=⟨2,6,d8q,false,false⟩
noncomputable def d7f:FD:=⟨2,17,d8p,true,false⟩
noncomputable def d7e:FD:=⟨3,4,d8o,false,false⟩
noncomputable def d7d:FD:=⟨1,16,d8n,false,false⟩
noncomputable def tb:List FD:=[fd0,fd1,fd2,fd3,fd4,fd5,fd6,fd7,fd8,fd9,d7m,d7l,d7k,d7j,d7i,d7h,d7g,d7f,d7e,d7d]
noncomputable def mixV (a k:Int):Int:=((a % 2147483629+k*k*7919+11)*48271 % 2147483647)*((a % 2147483629+k*k*7919+11)*48271 % 2147483647) % 1999999973
theorem b5b (x:Int):a2d (x % 2147483647)=true:=by
 have:=Int.emod_nonneg x (show (2147483647:Int)≠0 by decide)
 have:=Int.emod_lt_of_pos x (show (0:Int)<2147483647 by decide)
 simp only[a2d,decide_eq_true_eq];lia
theorem a4k {i:Int}(h:0<=i)(h':i<2 ^ 60):a2d i=true:=by
 simp only[a2d,decide_eq_true_eq];lia
theorem a0r {i:Int}(h:0<=i)(h':i<2 ^ 60):a2b i=true:=by
 simp only[a2b,decide_eq_true_eq];lia
theorem c9h (d:Nat) (a k:Int)(hk:a2d k=true)(Q:FV×FV->Prop):callW tb (d+1) 5 [.int a,.int k] Q↔Q (.int (mixV a k),.non):=by
 have h2:a2d 48271=true:=by decide
 have h3:a2d 7919=true:=by decide
 rw[c1f (fd:=fd5) rfl rfl]
 simp[fd5,bd5,h2,h3,hk,b5b,mixV]
noncomputable def Lf (n:Int)(v:FV):Prop:=∃ a b c,v=.lst [.int a,.int b,.int c]/\0<=c/\c<=n
theorem Lf.mono {n m:Int}{v:FV}(h:Lf n v)(k:n<=m):Lf m v:=by
 obtain⟨a,b,c,h,h1,h2⟩:=h
 exact⟨a,b,c,h,h1,by lia⟩
theorem a1p (d:Nat){many n:Int}{v:FV}{Q:FV×FV->Prop}(hs:Lf n v)(hn:n<1000000)(h1:0<many)(h2:many<1073741824)
  (q:∀ u v',0<=u->u<many->Lf (n+1) v'->Q (.int u,v')):callW tb (d+2) 7 [v,.int many] Q:=by
 obtain⟨a,b,c,rfl,h3,h4⟩:=hs
 refine a1a (fd:=fd7) rfl rfl ?_
 have s1:a2d (c+1)=true:=a4k (by lia) (by lia)
 have s2:a2d (c+1+64)=true:=a4k (by lia) (by lia)
 by_cases ha:0<a
 ·simp[fd7,bd7,ixN,ha,h1,h2]
  exact q _ _ (Int.emod_nonneg _ (by lia)) (Int.emod_lt_of_pos _ h1) ⟨_,_,_,rfl,by lia,by lia⟩
 ·simp[fd7,bd7,ixN,ha,h1,h2,c9h,s1,s2]
  exact q _ _ (Int.emod_nonneg _ (by lia)) (Int.emod_lt_of_pos _ h1) ⟨_,_,_,rfl,by lia,by lia⟩
mutual
noncomputable def dF:D->FV
 | .non=>.non
 | .bl b=>.bl b
 | .int i=>.int i
 | .str x=>.str x
 | .tup xs=>.tup (dFs xs)
 | .lst xs=>.lst (dFs xs)
noncomputable def dFs:List D->List FV
 | []=>[]
 | x :: r=>dF x :: dFs r
end
mutual
noncomputable def dep:D->Nat
 | .tup xs=>c5r xs+1
 | .lst xs=>c5r xs+1
 | .non=>0|.bl _=>0|.int _=>0|.str _=>0
noncomputable def c5r:List D->Nat
 | []=>0
 | x :: r=>max (dep x) (c5r r)
end
mutual
theorem d0f:∀ (x:D) (n:Nat),dep x<n->fD n (dF x)=some x
 | .non,0,h=>by lia
 | .non,n+1,h=>rfl
 | .bl _,0,h=>by lia
 | .bl _,n+1,h=>rfl
 | .int _,0,h=>by lia
 | .int _,n+1,h=>rfl
 | .str _,0,h=>by lia
 | .str _,n+1,h=>rfl
 | .tup xs,0,h=>by lia
 | .tup xs,n+1,h=>by simp only[dF,fD];rw[b7n xs n (by simp only[dep] at h;lia)];rfl
 | .lst xs,0,h=>by lia
 | .lst xs,n+1,h=>by simp only[dF,fD];rw[b7n xs n (by simp only[dep] at h;lia)];rfl
theorem b7n:∀ (xs:List D) (n:Nat),c5r xs<n->a8v (fD n) (dFs xs)=some xs
 | [],n,h=>rfl
 | x :: r,n,h=>by
  simp only[c5r] at h
  simp only[dFs,a8v,d0f x n (by lia),b7n r n (by lia),Option.bind_some,Option.map_some]
end
noncomputable def Vl (k p:Nat)(x:FV):Prop:=∃ d,x=dF d/\dep d<=p/\d.fit=true/\d.wt<=k
theorem Vl.mono {k k' p p':Nat}{x:FV}(h:Vl k p x)(hk:k<=k')(hp:p<=p'):Vl k' p' x:=by
 obtain⟨d,e,h1,h2,h3⟩:=h
 exact⟨d,e,by lia,h2,by lia⟩
theorem Vl.all {k p:Nat}:∀ {xs:List FV},(∀ x∈xs,Vl k p x)->∃ ds:List D,xs=dFs ds/\c5r ds<=p/\D.fits ds=true/\D.wts ds<=ds.length*(k+1)/\ds.length=xs.length
 | [],_=>⟨[],rfl,Nat.zero_le _,rfl,by simp[D.wts],rfl⟩
 | x :: r,h=>by
  obtain⟨d,e,h1,h2,h3⟩:=h x (Γn ..)
  obtain⟨ds,e',h1',h2',h3',h4'⟩:=Vl.all (xs:=r) λy hy=>h y (Γh _ hy)
  refine⟨d :: ds,by rw[e,e'];rfl,by simp only[c5r];lia,by simp only[D.fits,h2,h2',Bool.and_self],?_,by simp[h4']⟩
  simp only[D.wts,List.length_cons,Nat.add_mul,Nat.one_mul];lia
theorem Vl.tup {k p m:Nat}{xs:List FV}(h:∀ x∈xs,Vl k p x)(hl:xs.length<=m):Vl (m*(k+1)) (p+1) (.tup xs):=by
 obtain⟨ds,e,h1,h2,h3,h4⟩:=Vl.all h
 refine⟨.tup ds,by rw[e];rfl,by simp only[dep];lia,by simp only[D.fit,h2],?_⟩
 simp only[D.wt]
 exact Nat.le_trans h3 (Nat.mul_le_mul_right _ (by lia))
theorem Vl.lst {k p m:Nat}{xs:List FV}(h:∀ x∈xs,Vl k p x)(hl:xs.length<=m):Vl (m*(k+1)) (p+1) (.lst xs):=by
 obtain⟨ds,e,h1,h2,h3,h4⟩:=Vl.all h
 refine⟨.lst ds,by rw[e];rfl,by simp only[dep];lia,by simp only[D.fit,h2],?_⟩
 simp only[D.wt]
 exact Nat.le_trans h3 (Nat.mul_le_mul_right _ (by lia))
theorem Vl.int {i:Int}(h:-(2 ^ 40)<i)(h':i<2 ^ 40):Vl 41 0 (.int i):=⟨.int i,rfl,Γi _,by simp only[D.fit,decide_eq_true_eq];lia,by simp only[D.wt];rw[if_pos ⟨h,h'⟩];exact Γi _⟩
theorem Vl.bl {b:Bool}:Vl 0 0 (.bl b):=⟨.bl b,rfl,Γi _,rfl,Γi _⟩
theorem c7b {k p:Nat}{x:FV}(h:Vl k p x)(hk:k<=big)(hp:p<40):∃ y,c7c x=some y/\∀ R:Bool->Prop,wp (eqF y y) R=R true:=by
 obtain⟨d,rfl,h1,h2,h3⟩:=h
 have big':∀ e:D,dep e<40->e.fit=true->e.wt<=big->(fD a0y (dF e)).bind (λd=>if d.fit=true/\d.wt<=big then some (FV.shn d) else none)=some (.shn e):=λe h1 h2 h3=>by
  rw[d0f e a0y h1]
  show (if e.fit=true/\e.wt<=big then some (FV.shn e) else none)=_
  rw[if_pos ⟨h2,h3⟩]
 cases d with
 | non=>exact⟨_,rfl,λR=>by simp⟩
 | bl b=>exact⟨_,rfl,λR=>by simp⟩
 | str x=>exact⟨_,rfl,λR=>by simp⟩
 | int i =>
  simp only[D.fit,decide_eq_true_eq] at h2
  exact⟨_,(show (if -(2 ^ 150)<i/\i<2 ^ 150 then some (FV.str (toString i)) else none)=some (.str (toString i)) by rw[if_pos h2]),λR=>by simp⟩
 | tup xs=>exact⟨_,big' (.tup xs) (by lia) h2 (by lia),λR=>by simp⟩
 | lst xs=>exact⟨_,big' (.lst xs) (by lia) h2 (by lia),λR=>by simp⟩
theorem b2i {α β:Type}(f:α->FV)(g:β->FV):∀ (xs:List α)(ys:List β),a2f (xs.map f) (ys.map g)=(xs.zip ys).map λp=>.tup [f p.1,g p.2]
 | [],ys=>rfl
 | x :: xs,[]=>rfl
 | x :: xs,y :: ys=>by
  show FV.tup [f x,g y] :: a2f (xs.map f) (ys.map g)=_
  rw[b2i f g xs ys];rfl
abbrev Chg:=Nat×Nat×Int
noncomputable def a6r (c:Chg):FV:=.tup [.int c.1,.int c.2.1,.int c.2.2]
structure Gst (ws:List Int)(cs:List Chg):Prop where
 w:∀ x∈ws,1<=x
 c:∀ x∈cs,x.1<ws.length/\x.2.1<ws.length/\x.1≠x.2.1/\1<=x.2.2
 s:∀ x∈cs.zip (cs.drop 1),lexLt [(x.1.1:Int),x.1.2.1] [(x.2.1:Int),x.2.2.1]=true
noncomputable def a5r (ws:List Int)(cs:List Chg):FV:=.tup [.tup (ws.map .int),.tup (cs.map a6r)]
noncomputable def keyH (c:Chg):List Int:=[c.1,c.2.1]
noncomputable def a0n:Option Nat->FV|none=>.non|some a=>.int a
theorem a9p:∀ (xs:List Int) (b:Int),a1r b xs∈b :: xs
 | [],b=>by simp[a1r]
 | x :: r,b=>by
  have:=a9p r (if x<b then x else b)
  show a1r (if x<b then x else b) r∈_
  split at this<;>rename_i h
  ·rw[if_pos h];exact Γh _ this
  ·rw[if_neg h]
   rcases List.mem_cons.mp this with e|e
   ·rw[e];simp
   ·exact Γh _ (Γh _ e)
theorem a9o:∀ (xs:List Int) (b:Int),a1r b xs<=b/\∀ x∈xs,a1r b xs<=x
 | [],b=>⟨Int.le_refl _,by simp⟩
 | x :: r,b=>by
  have:=a9o r (if x<b then x else b)
  show a1r (if x<b then x else b) r<=b/\∀ y∈x :: r,a1r (if x<b then x else b) r<=y
  refine⟨by have:=this.1;split at this<;>lia,λy hy=>?_⟩
  rcases List.mem_cons.mp hy with rfl|hy
  ·have:=this.1;split at this<;>lia
  ·exact this.2 y hy
theorem a7c {α:Type}:∀ (ps:List (List Int×α))(ks:List (List Int))(vs:List α),(ks++ps.map (·.1)).Nodup->a1k ps ks vs=(ks++ps.map (·.1),vs++ps.map (·.2))
 | [],ks,vs,_=>by simp[a1k]
 | p :: r,ks,vs,h=>by
  have hp:p.1 ∉ ks:=λz=>by
   rw[List.nodup_append] at h
   exact h.2.2 p.1 z p.1 (by simp) rfl
  have e:a1s ks vs p.1 p.2=(ks++[p.1],vs++[p.2]):=by rw[a1s,if_neg hp]
  rw[a1k,e,a7c r _ _ (by simpa using h)]
  simp
theorem a9i:∀ cs:List Chg,a7e (cs.map λc=>FV.tup [.tup [.int c.1,.int c.2.1],.int c.2.2])=some (cs.map λc=>(keyH c,FV.int c.2.2))
 | []=>rfl
 | c :: r=>by
  rw[List.map_cons,a7e,a9i r];rfl
theorem c1n:∀ cs:List Chg,a2p (cs.map a6r)=true
 | []=>rfl
 | c :: r=>by
  rw[List.map_cons]
  show ((match a0u [FV.int c.1,FV.int c.2.1,FV.int c.2.2] with|some (_ :: _)=>true|_=>false) && a2p (r.map a6r))=true
  rw[c1n r];rfl
theorem b8i {α β:Type}(f:α->β)(xs:List α)(lo hi:Option Int):b0f (xs.map f) lo hi=(b0f xs lo hi).map f:=by simp[b0f,List.map_drop,List.map_take]
theorem c5y {α:Type}(xs:List α) (i t:Nat):b0f xs (some (i:Int)) (some ((i:Int)+(t:Int)))=(xs.drop i).take t:=by
 have h1:sIx xs.length 0 (some (i:Int))=min i xs.length:=by simp only[sIx];rw[if_neg (by lia)];simp
 have h2:sIx xs.length xs.length (some ((i:Int)+(t:Int)))=min (i+t) xs.length:=by simp only[sIx];rw[if_neg (by lia)];congr 1
 unfold b0f
 rw[h1,h2]
 by_cases hi:i<=xs.length
 ·rw[Nat.min_eq_left hi,List.take_eq_take_iff,List.length_drop];lia
 ·rw[Nat.min_eq_right (show xs.length<=i by lia),List.drop_of_length_le (Γi _),List.drop_of_length_le (by lia)];simp
theorem b8h {α:Type}(xs:List α){i j:Nat}(h:i<=j):b0f xs (some (i:Int)) (some (j:Int))=(xs.drop i).take (j-i):=by
 obtain⟨t,rfl⟩:∃ t,j=i+t:=⟨j-i,by lia⟩
 rw[Nat.add_sub_cancel_left,<- c5y];simp
theorem c4k {xs:List Int}{x:Int}{r:List Int}(h:xs=x :: r)(Q:FV->Prop):wp (d1w (xs.map .int)) Q↔Q (.int (a1r x r)):=by
 subst h
 simp only[d1w,a8j,Option.bind_some];rfl
theorem b0x {xs:List Int}(hl:xs.length<=1000)(h:∀ x∈xs,0<=x/\x<=100000000000){Q:Int->Prop}(q:Q xs.sum):wp (c7a (xs.map .int)) Q:=by
 simp only[c7a,a2a,a8j,a1t]
 rw[a3x]
 refine⟨⟨by simp only[big];lia,?_⟩,q⟩
 rw[List.all_eq_true]
 intro x hx
 have:=h x hx
 simp only[b1b,decide_eq_true_eq];lia
abbrev Ent:=Option Nat×Nat
inductive Anc (fr:List Ent) (m:Nat):Option Nat->Prop
 | refl:Anc fr m (some m)
 | step {on:Option Nat}{t:Nat}:Anc fr m (some t)->(on,t)∈fr->Anc fr m on
noncomputable def ent (S:List Nat)(e:Ent):Bool:=decide (e.2∈S) && (match e.1 with
 | none=>true
 | some a=>!decide (a∈S))
theorem ent_iff {S:List Nat}{on:Option Nat}{t:Nat}:ent S (on,t)=true↔t∈S/\∀ a,on=some a->a ∉ S:=by
 cases on with
 | none=>simp[ent]
 | some a=>simp[ent]
structure Prc where
 S:List Nat
 p:Int
 t:Nat
noncomputable def due (ps:List Prc)(e:Ent):Int:=((ps.filter λq=>ent q.S e).map (·.p)).sum
structure Lrm (n:Nat)(E:List Ent)(sz:Ent->Int)(fr:List Ent)(ps:List Prc):Prop where
 sub:∀ e∈fr,e∈E
 nd:fr.Nodup
 low:∀ e∈E,due ps e<=sz e
 free:∀ e∈E,e∈fr↔due ps e=sz e
 pos:∀ q∈ps,0<q.p
 ne:∀ q∈ps,q.S≠[]
 up:∀ q∈ps,q.S.Pairwise (· < ·)
 lt:∀ q∈ps,∀ m∈q.S,m<n
 tl:∀ q∈ps,q.t<=fr.length
 shut:∀ q∈ps,∀ e∈fr.take q.t,ent q.S e=false
 cut:∀ q∈ps,∀ A:Nat->Prop,(∃ a∈q.S,A a)->(∃ b∈q.S,¬ A b)->∃ a b,(some a,b)∈fr.take q.t/\a∈q.S/\b∈q.S/\A a/\¬ A b
 hit:∀ q∈ps,∃ e∈fr,ent q.S e=true
 dst:(ps.map (·.S)).Nodup
structure Src (n:Nat)(fr:List Ent)(S:List Nat):Prop where
 ne:S≠[]
 up:S.Pairwise (· < ·)
 lt:∀ m∈S,m<n
 all:∀ m∈S,∀ x,Anc fr m x↔∃ a∈S,x=some a
theorem Src.shut {n:Nat}{fr:List Ent}{S:List Nat}(h:Src n fr S){e:Ent}(he:e∈fr):ent S e=false:=by
 obtain⟨on,t⟩:=e
 cases z:ent S (on,t) with
 | false=>rfl
 | true =>
  obtain⟨ht,hn⟩:=ent_iff.mp z
  obtain⟨a,ha,e⟩:=(h.all t ht on).mp (.step .refl he)
  exact absurd ha (hn a e)
theorem b8s {fr:List Ent}{m:Nat}{A:Nat->Prop}(hm:¬ A m):∀ {x:Option Nat},Anc fr m x->∀ a,x=some a->A a->∃ a b,(some a,b)∈fr/\Anc fr m (some a)/\Anc fr m (some b)/\A a/\¬ A b:=by
 intro x h
 induction h with
 | refl=>intro a e ha;cases e;exact absurd ha hm
 | @step on t h1 h2 ih =>
  intro a e ha
  subst e
  by_cases ht:A t
  ·exact ih t rfl ht
  ·exact⟨a,t,h2,.step h1 h2,h1,ha,ht⟩
theorem Src.cut {n:Nat}{fr:List Ent}{S:List Nat}(h:Src n fr S)(A:Nat->Prop)(h1:∃ a∈S,A a)(h2:∃ b∈S,¬ A b):∃ a b,(some a,b)∈fr/\a∈S/\b∈S/\A a/\¬ A b:=by
 obtain⟨a,ha,pa⟩:=h1
 obtain⟨b,hb,pb⟩:=h2
 obtain⟨c,d,g1,g2,g3,g4,g5⟩:=b8s pb ((h.all b hb (some a)).mpr ⟨a,ha,rfl⟩) a rfl pa
 obtain⟨c',hc,e1⟩:=(h.all b hb _).mp g2
 obtain⟨d',hd,e2⟩:=(h.all b hb _).mp g3
 cases e1;cases e2
 exact⟨c,d,g1,hc,hd,g4,g5⟩
theorem a5s (ps:List Prc)(S:List Nat) (p:Int) (t:Nat)(e:Ent):due (ps++[⟨S,p,t⟩]) e=due ps e+if ent S e=true then p else 0:=by
 unfold due
 rw[List.filter_append,List.map_append,List.sum_append]
 by_cases h:ent S e=true<;>simp[h]
theorem Lrm.start {n:Nat}{E:List Ent}{sz:Ent->Int}(h:∀ e∈E,0<sz e):Lrm n E sz [] [] where
 sub:=by simp
 nd:=List.nodup_nil
 low:=λe he=>by have:=h e he;simp[due];lia
 free:=λe he=>by have:=h e he;simp[due];lia
 pos:=by simp
 ne:=by simp
 up:=by simp
 lt:=by simp
 tl:=by simp
 shut:=by simp
 cut:=by simp
 hit:=by simp
 dst:=by simp
theorem Lrm.step {n:Nat}{E:List Ent}{sz:Ent->Int}{fr:List Ent}{ps:List Prc}{S:List Nat}{p:Int}(h:Lrm n E sz fr ps)(hS:Src n fr S)(hE:E.Nodup)
  (h1:∀ e∈E,ent S e=true->p<=sz e-due ps e)(h2:∃ e∈E,ent S e=true/\sz e-due ps e=p) :
  0<p/\Lrm n E sz (fr++E.filter λe=>ent S e && decide (sz e-due ps e=p)) (ps++[⟨S,p,fr.length⟩]):=by
 have nf:∀ e∈E,ent S e=true->e ∉ fr:=λe _ he z=>by rw[hS.shut z] at he;cases he
 have hp:0<p:=by
  obtain⟨e,he,g1,g2⟩:=h2
  have:=h.low e he
  have n1:due ps e≠sz e:=λz=>nf e he g1 ((h.free e he).mpr z)
  lia
 refine⟨hp,?_⟩
 have tk:∀ t,t<=fr.length->∀ l:List Ent,(fr++l).take t=fr.take t:=λt ht l=>by rw[List.take_append_of_le_length ht]
 refine⟨λe he=>?_,?_,λe he=>?_,λe he=>?_,λq hq=>?_,λq hq=>?_,λq hq=>?_,λq hq=>?_,λq hq=>?_,λq hq e he=>?_,λq hq=>?_,λq hq=>?_,?_⟩
 ·rcases List.mem_append.mp he with he|he
  ·exact h.sub e he
  ·exact (List.mem_filter.mp he).1
 ·refine List.nodup_append.mpr ⟨h.nd,hE.filter _,λa ha b hb e=>?_⟩
  subst e
  obtain⟨g1,g2⟩:=List.mem_filter.mp hb
  simp only[Bool.and_eq_true] at g2
  exact nf a g1 g2.1 ha
 ·rw[a5s]
  have:=h.low e he
  split
  ·rename_i g
   have:=h1 e he g
   lia
  ·lia
 ·rw[a5s]
  constructor
  ·intro z
   rcases List.mem_append.mp z with z|z
   ·rw[if_neg (by rw[hS.shut z];exact Γk)]
    have:=(h.free e he).mp z
    lia
   ·obtain⟨_,g⟩:=List.mem_filter.mp z
    simp only[Bool.and_eq_true,decide_eq_true_eq] at g
    rw[if_pos g.1]
    lia
  ·intro z
   by_cases g:ent S e=true
   ·rw[if_pos g] at z
    refine List.mem_append_right _ (List.mem_filter.mpr ⟨he,?_⟩)
    simp only[Bool.and_eq_true,decide_eq_true_eq]
    exact⟨g,by lia⟩
   ·rw[if_neg g] at z
    exact List.mem_append_left _ ((h.free e he).mpr (by lia))
 all_goals first|skip
 ·rcases List.mem_append.mp hq with hq|hq
  ·exact h.pos q hq
  ·simp at hq;subst hq;exact hp
 ·rcases List.mem_append.mp hq with hq|hq
  ·exact h.ne q hq
  ·simp at hq;subst hq;exact hS.ne
 ·rcases List.mem_append.mp hq with hq|hq
  ·exact h.up q hq
  ·simp at hq;subst hq;exact hS.up
 ·rcases List.mem_append.mp hq with hq|hq
  ·exact h.lt q hq
  ·simp at hq;subst hq;exact hS.lt
 ·rcases List.mem_append.mp hq with hq|hq
  ·have:=h.tl q hq
   simp;lia
  ·simp at hq;subst hq;simp
 ·rcases List.mem_append.mp hq with hq|hq
  ·rw[tk _ (h.tl q hq)] at he
   exact h.shut q hq e he
  ·simp at hq;subst hq
   rw[show (⟨S,p,fr.length⟩:Prc).t=fr.length from rfl,tk _ (Γi _),List.take_length] at he
   exact hS.shut he
 ·rcases List.mem_append.mp hq with hq|hq
  ·rw[tk _ (h.tl q hq)]
   exact h.cut q hq
  ·simp at hq;subst hq
   dsimp only
   rw[tk _ (Γi _),List.take_length]
   exact hS.cut
 ·rcases List.mem_append.mp hq with hq|hq
  ·obtain⟨e,g1,g2⟩:=h.hit q hq
   exact⟨e,List.mem_append_left _ g1,g2⟩
  ·simp at hq;subst hq
   obtain⟨e,he,g1,g2⟩:=h2
   refine⟨e,List.mem_append_right _ (List.mem_filter.mpr ⟨he,?_⟩),g1⟩
   simp only[Bool.and_eq_true,decide_eq_true_eq]
   exact⟨g1,g2⟩
 ·rw[List.map_append]
  refine List.nodup_append.mpr ⟨h.dst,by simp,λa ha b hb e=>?_⟩
  simp at hb
  subst hb e
  obtain⟨q,hq,e⟩:=List.mem_map.mp ha
  obtain⟨e',g1,g2⟩:=h.hit q hq
  rw[e,hS.shut g1] at g2;cases g2
noncomputable def may (D:List Nat)(e:Ent):Bool:=!decide (e.2∈D) && (match e.1 with
 | none=>true
 | some a=>decide (a∈D))
structure Lay (fr:List Ent)(us:List Ent):Prop where
 sub:∀ e∈us,e∈fr
 nd:(us.map (·.2)).Nodup
 on:∀ l e r,us=l++e :: r->∀ a,e.1=some a->a∈l.map (·.2)
noncomputable def a7s (D:List Nat)(S:List Nat):Bool:=S.any λm=>decide (m∈D)
structure Cnt (fr:List Ent)(ps:List Prc)(us:List Ent):Prop extends Lay fr us where
 one:∀ q∈ps,us.countP (ent q.S)=if a7s (us.map (·.2)) q.S=true then 1 else 0
theorem touch_iff {D S:List Nat}:a7s D S=true↔∃ m∈S,m∈D:=by simp[a7s]
theorem Cnt.step {n:Nat}{E:List Ent}{sz:Ent->Int}{fr:List Ent}{ps:List Prc}{us:List Ent}(h:Lrm n E sz fr ps)(c:Cnt fr ps us){e:Ent}(he:fr.find? (may (us.map (·.2)))=some e):Cnt fr ps (us++[e]):=by
 obtain⟨on,m⟩:=e
 have hm:=List.find?_some he
 have hin:=List.mem_of_find?_eq_some he
 have m1:m ∉ us.map (·.2):=by
  simp only[may,Bool.and_eq_true,Bool.not_eq_true',decide_eq_false_iff_not] at hm
  exact hm.1
 have m2:∀ a,on=some a->a∈us.map (·.2):=λa z=>by
  subst z
  simp only[may,Bool.and_eq_true,decide_eq_true_eq] at hm
  exact hm.2
 refine⟨⟨λe' he'=>?_,?_,λl e' r z a ea=>?_⟩,λq hq=>?_⟩
 ·rcases List.mem_append.mp he' with z|z
  ·exact c.sub e' z
  ·simp at z;subst z;exact hin
 ·rw[List.map_append]
  refine List.nodup_append.mpr ⟨c.nd,by simp,λa ha b hb z=>?_⟩
  simp at hb;subst hb z
  exact m1 ha
 ·rcases List.append_eq_append_iff.mp z with⟨x,h1,h2⟩|⟨x,h1,h2⟩
  ·cases x with
   | nil =>
    simp at h1 h2
    obtain⟨h2,_⟩:=h2
    subst h2 h1
    exact m2 a ea
   | cons y x =>
    have:=congrArg List.length h2
    simp at this
  ·cases x with
   | nil =>
    simp at h1 h2
    obtain⟨h2,_⟩:=h2
    subst h2 h1
    exact m2 a ea
   | cons y x =>
    simp at h2
    obtain⟨rfl,h2⟩:=h2
    exact c.on l e' x h1 a ea
 ·have old:=c.one q hq
  rw[List.countP_append,List.map_append]
  have tch:a7s (us.map (·.2)++[(on,m)].map (·.2)) q.S=(a7s (us.map (·.2)) q.S || decide (m∈q.S)):=by
   rw[Bool.eq_iff_iff]
   simp only[touch_iff,Bool.or_eq_true,decide_eq_true_eq,List.mem_append,List.map_cons,List.map_nil,List.mem_singleton]
   constructor
   ·rintro⟨x,h1,h2|rfl⟩
    ·exact .inl ⟨x,h1,h2⟩
    ·exact .inr h1
   ·rintro (⟨x,h1,h2⟩|h1)
    ·exact⟨x,h1,.inl h2⟩
    ·exact⟨m,h1,.inr rfl⟩
  rw[tch]
  by_cases hmS:m∈q.S
  ·by_cases ht:a7s (us.map (·.2)) q.S=true
   ·rw[if_pos ht] at old
    have:ent q.S (on,m)=false:=by
     cases z:ent q.S (on,m) with
     | false=>rfl
     | true =>
      obtain⟨a,b,g1,g2,g3,g4,g5⟩:=h.cut q hq (λx=>x∈us.map (·.2)) (touch_iff.mp ht) ⟨m,hmS,m1⟩
      have hb:may (us.map (·.2)) (some a,b)=true:=by
       simp only [may,Bool.and_eq_true,Bool.not_eq_true',decide_eq_false_iff_not,decide_eq_true_eq]
       exact ⟨g5,g4⟩
      have hf:(fr.take q.t).find? (may (us.map (·.2)))=some (on,m):=by
       rw [<- List.take_append_drop q.t fr,List.find?_append] at he
       cases z2:(fr.take q.t).find? (may (us.map (·.2))) with
       | none=>exact absurd hb (List.find?_eq_none.mp z2 _ g1)
       | some e2=>rw [z2] at he; simpa using he
      have:=h.shut q hq _ (List.mem_of_find?_eq_some hf)
      rw[this] at z;cases z
    simp[ht,old,this]
   ·have ht':a7s (us.map (·.2)) q.S=false:=by simpa using ht
    rw[if_neg ht] at old
    have:ent q.S (on,m)=true:=ent_iff.mpr ⟨hmS,λa ea z=>ht (touch_iff.mpr ⟨a,z,m2 a ea⟩)⟩
    simp[ht',old,this,hmS]
  ·have:ent q.S (on,m)=false:=by simp[ent,hmS]
   simp[old,this,hmS]
theorem b0b (ps:List Prc)(e:Ent):due ps e=(ps.map λq=>if ent q.S e=true then q.p else 0).sum:=by
 unfold due
 induction ps with
 | nil=>rfl
 | cons q r ih =>
  by_cases h:ent q.S e=true
  ·simp[List.filter_cons,h,<- ih]
  ·simp[List.filter_cons,h,<- ih]
theorem b0y {α:Type}(f g:α->Int):∀ l:List α,(l.map λx=>f x+g x).sum=(l.map f).sum+(l.map g).sum
 | []=>rfl
 | x :: r=>by simp only[List.map_cons,List.sum_cons,b0y f g r];lia
theorem a8p (ps:List Prc):∀ us:List Ent,(us.map (due ps)).sum=(ps.map λq=>q.p*(us.countP (ent q.S):Int)).sum
 | []=>by
  have:(ps.map λq=>q.p*(([]:List Ent).countP (ent q.S):Int))=ps.map λ_=>(0:Int):=List.map_congr_left λq _=>by simp
  rw[this]
  induction ps with
  | nil=>rfl
  | cons q r ih=>simpa using ih (by simp)
 | e :: us=>by
  rw[List.map_cons,List.sum_cons,a8p ps us,b0b,<- b0y]
  congr 1
  apply List.map_congr_left
  intro q _
  rw[List.countP_cons]
  by_cases h:ent q.S e=true
  ·simp[h,Int.mul_add];lia
  ·simp[h]
theorem Cnt.room {n:Nat}{E:List Ent}{sz:Ent->Int}{fr:List Ent}{ps:List Prc}{us:List Ent}(h:Lrm n E sz fr ps)(c:Cnt fr ps us)(ha:∀ m,m<n->m∈us.map (·.2)):(us.map sz).sum=(ps.map (·.p)).sum:=by
 have e1:us.map sz=us.map (due ps):=List.map_congr_left λe he=>((h.free e (h.sub e (c.sub e he))).mp (c.sub e he)).symm
 rw[e1,a8p]
 congr 1
 apply List.map_congr_left
 intro q hq
 have:a7s (us.map (·.2)) q.S=true:=by
  cases z:q.S with
  | nil=>exact absurd z (h.ne q hq)
  | cons m r=>exact touch_iff.mpr ⟨m,by simp,ha m (h.lt q hq m (by rw[z];simp))⟩
 rw[c.one q hq,if_pos this]
 simp
theorem c0i {fr:List Ent}{D:List Nat}{m:Nat}(hm:m ∉ D)(h:Anc fr m none):∃ e,fr.find? (may D)=some e:=by
 have go:∀ {x:Option Nat},Anc fr m x->(x=none ∨ ∃ a,x=some a/\a∈D)->∃ e∈fr,may D e=true:=by
  intro x hx
  induction hx with
  | refl =>
   rintro (z|⟨a,z,ha⟩)
   ·cases z
   ·cases z;exact absurd ha hm
  | @step on t h1 h2 ih =>
   intro z
   by_cases ht:t∈D
   ·exact ih (.inr ⟨t,rfl,ht⟩)
   ·refine⟨_,h2,?_⟩
    rcases z with rfl|⟨a,rfl,ha⟩<;>simp[*,may]
 obtain⟨e,h1,h2⟩:=go h (.inl rfl)
 cases z:fr.find? (may D) with
 | none=>exact absurd h2 (List.find?_eq_none.mp z e h1)
 | some e=>exact⟨e,rfl⟩
theorem a5x {sz:Ent->Int}{ps:List Prc}{us:List Ent}(low:∀ e∈us,due ps e<=sz e)(pos:∀ q∈ps,0<q.p)(he:∀ q∈ps,∃ e∈us,ent q.S e=true):(ps.map (·.p)).sum<=(us.map sz).sum:=by
 have a:(us.map (due ps)).sum<=(us.map sz).sum:=by
  clear he
  induction us with
  | nil=>exact Int.le_refl _
  | cons e r ih =>
   have:=low e (by simp)
   have:=ih λx hx=>low x (by simp[hx])
   simp only[List.map_cons,List.sum_cons];lia
 rw[a8p] at a
 have b:(ps.map (·.p)).sum<=(ps.map λq=>q.p*(us.countP (ent q.S):Int)).sum:=by
  have hq:∀ q∈ps,q.p<=q.p*(us.countP (ent q.S):Int):=λq hq=>by
   obtain⟨e,h1,h2⟩:=he q hq
   have h3:1<=us.countP (ent q.S):=List.one_le_countP_iff.mpr ⟨e,h1,h2⟩
   have h4:=pos q hq
   have:q.p*1<=q.p*(us.countP (ent q.S):Int):=Int.mul_le_mul_of_nonneg_left (by lia) (by lia)
   lia
  clear a low pos he
  induction ps with
  | nil=>exact Int.le_refl _
  | cons q r ih =>
   have:=hq q (by simp)
   have:=ih λx hx=>hq x (by simp[hx])
   simp only[List.map_cons,List.sum_cons];lia
 lia
theorem b5l {sz:Ent->Int}{ps:List Prc}{us:List Ent}(h:∀ e∈us,sz e=due ps e)(one:∀ q∈ps,us.countP (ent q.S)=1):(us.map sz).sum=(ps.map (·.p)).sum:=by
 rw[List.map_congr_left h,a8p]
 congr 1
 apply List.map_congr_left
 intro q hq
 rw[one q hq]
 simp
noncomputable def ens (ls:List (Option Nat)):List Ent:=(List.range ls.length).map λm=>(ls.getD m none,m)
structure Rk (ls:List (Option Nat))(r:Nat->Nat):Prop where
 lt:∀ m,m<ls.length->r m<ls.length
 on:∀ m a,m<ls.length->ls.getD m none=some a->a<ls.length/\r a<r m
theorem mem_ens {ls:List (Option Nat)}{e:Ent}:e∈ens ls↔e.2<ls.length/\ls.getD e.2 none=e.1:=by
 unfold ens
 rw[List.mem_map]
 constructor
 ·rintro⟨m,hm,rfl⟩;exact⟨List.mem_range.mp hm,rfl⟩
 ·rintro⟨h1,h2⟩;exact⟨e.2,List.mem_range.mpr h1,by rw[h2]⟩
theorem Rk.enter {ls:List (Option Nat)}{r:Nat->Nat}(h:Rk ls r){S:List Nat}(hne:S≠[])(hlt:∀ m∈S,m<ls.length):∃ e∈ens ls,ent S e=true:=by
 obtain⟨m,hm⟩:=List.exists_mem_of_ne_nil S hne
 have go:∀ k m,r m<k->m∈S->∃ e∈ens ls,ent S e=true:=by
  intro k
  induction k with
  | zero=>intro m h;lia
  | succ k ih =>
   intro m hk hm
   by_cases g:∃ a,ls.getD m none=some a/\a∈S
   ·obtain⟨a,g1,g2⟩:=g
    have:=(h.on m a (hlt m hm) g1).2
    exact ih a (by lia) g2
   ·exact⟨(ls.getD m none,m),mem_ens.mpr ⟨hlt m hm,rfl⟩,ent_iff.mpr ⟨hm,λa e z=>g ⟨a,e,z⟩⟩⟩
 exact go _ m (Nat.lt_succ_self _) hm
theorem b8j {n m:Nat}(hm:m<n):(List.range n).countP (λb=>decide (b=m))=1:=by
 have:=List.count_range (n:=n) (a:=m)
 rw[if_pos hm] at this
 rw[<- this,List.count]
 exact List.countP_congr λb _=>by simp
theorem b7q {ls:List (Option Nat)}{S:List Nat}{m:Nat}(hm:m<ls.length)(h:∀ b,b<ls.length->ent S (ls.getD b none,b)=decide (b=m)):(ens ls).countP (ent S)=1:=by
 unfold ens
 rw[List.countP_map,<- b8j hm]
 refine List.countP_congr λb hb=>?_
 rw[Function.comp,h b (List.mem_range.mp hb)]
theorem b3u {ls:List (Option Nat)}{r:Nat->Nat}(h:Rk ls r){m:Nat}(hm:m<ls.length):(ens ls).countP (ent [m])=1:=by
 refine b7q hm λb hb=>?_
 rw[Bool.eq_iff_iff,ent_iff,decide_eq_true_eq]
 constructor
 ·rintro⟨h1,_⟩;simpa using h1
 ·rintro rfl
  refine⟨by simp,λa e z=>?_⟩
  have:=(h.on b a hb e).2
  simp at z
  subst z;lia
inductive Und (ls:List (Option Nat)) (m:Nat):Nat->Prop
 | refl:Und ls m m
 | step {o a:Nat}:ls.getD o none=some a->Und ls m a->Und ls m o
theorem Und.le {ls:List (Option Nat)}{r:Nat->Nat}(h:Rk ls r){m o:Nat}(u:Und ls m o):o<ls.length->r m<=r o:=by
 induction u with
 | refl=>intro _;exact Γi _
 | step e _ ih =>
  intro ho
  have:=h.on _ _ ho e
  have:=ih this.1
  lia
theorem b5y {ls:List (Option Nat)}{r:Nat->Nat}(h:Rk ls r){m:Nat}(hm:m<ls.length){B:List Nat}(hB:∀ o,o∈B↔o<ls.length/\Und ls m o):(ens ls).countP (ent B)=1:=by
 refine b7q hm λb hb=>?_
 rw[Bool.eq_iff_iff,ent_iff,decide_eq_true_eq]
 constructor
 ·rintro⟨h1,h2⟩
  have u:=((hB b).mp h1).2
  cases u with
  | refl=>rfl
  | step e u=>exact absurd ((hB _).mpr ⟨(h.on b _ hb e).1,u⟩) (h2 _ e)
 ·rintro rfl
  refine⟨(hB b).mpr ⟨hb,.refl⟩,λa e z=>?_⟩
  have h1:=h.on b a hb e
  have:=((hB a).mp z).2.le h h1.1
  lia
theorem b9c {l l':List Int}(h:l.Perm l'):l.sum=l'.sum:=by
 induction h with
 | nil=>rfl
 | cons x _ ih=>simp only[List.sum_cons,ih]
 | swap x y l=>simp only[List.sum_cons];lia
 | trans _ _ h1 h2=>exact h1.trans h2
theorem a9z (ls:List (Option Nat)):(ens ls).Nodup:=by
 unfold ens
 rw[List.Nodup,List.pairwise_map]
 exact List.nodup_range.imp λh e=>h (congrArg Prod.snd e)
theorem Cnt.lay {n:Nat}{fr:List Ent}{ps:List Prc}{us:List Ent}{ls:List (Option Nat)}(c:Cnt fr ps us)(hb:∀ e∈fr,e.2<n/\∀ a,e.1=some a->a<n)(hl:ls.length=n)(hat:∀ m,m<n->∃ e∈us,e.2=m/\ls[m]?=some e.1):(∃ r,Rk ls r)/\(ens ls).Perm us:=by
 have lt:∀ x∈us.map (·.2),x<n:=λx hx=>by
  obtain⟨e,he,rfl⟩:=List.mem_map.mp hx
  exact (hb e (c.sub e he)).1
 have inj:∀ {e f:Ent},e∈us->f∈us->e.2=f.2->e=f:=by
  have nd:=c.nd
  rw[List.Nodup,List.pairwise_map] at nd
  intro e f he hf z
  refine Classical.byContradiction λw=>?_
  obtain⟨l,r,rfl⟩:=List.append_of_mem he
  rw[List.pairwise_append] at nd
  rcases List.mem_append.mp hf with g|g
  ·exact nd.2.2 f g e (by simp) z.symm
  ·rcases List.mem_cons.mp g with g|g
   ·exact w g.symm
   ·exact (List.pairwise_cons.mp nd.2.1).1 f g z
 have at':∀ e,e∈us->ls.getD e.2 none=e.1:=λe he=>by
  obtain⟨f,hf,e1,e2⟩:=hat e.2 ((hb e (c.sub e he)).1)
  have:=inj hf he e1
  subst this
  rw[List.getD_eq_getElem?_getD,e2];rfl
 have mem:∀ e,e∈ens ls↔e∈us:=λe=>by
  rw[mem_ens]
  constructor
  ·rintro⟨h1,h2⟩
   obtain⟨f,hf,e1,e2⟩:=hat e.2 (by lia)
   have h3:=at' f hf
   rw[e1,h2] at h3
   have:e=f:=Prod.ext h3 e1.symm
   rw[this];exact hf
  ·intro he
   exact⟨by rw[hl];exact (hb e (c.sub e he)).1,at' e he⟩
 have ndu:us.Nodup:=by
  have:=c.nd
  rw[List.Nodup,List.pairwise_map] at this
  exact this.imp λh e=>h (congrArg Prod.snd e)
 refine⟨⟨λm=>(us.map (·.2)).idxOf m,λm hm=>?_,λm a hm e=>?_⟩,(List.perm_ext_iff_of_nodup (a9z ls) ndu).mpr mem⟩
 ·obtain⟨f,hf,e1,_⟩:=hat m (by lia)
  have h1:(us.map (·.2)).idxOf m<(us.map (·.2)).length:=List.idxOf_lt_length_of_mem (List.mem_map.mpr ⟨f,hf,e1⟩)
  have h2:=c.nd.length_le_of_subset (l₂:=List.range n) λx hx=>List.mem_range.mpr (lt x hx)
  rw[List.length_range] at h2
  rw[hl];lia
 ·have hu:((some a,m):Ent)∈us:=(mem _).mp (mem_ens.mpr ⟨hm,e⟩)
  refine⟨by rw[hl];exact (hb _ (c.sub _ hu)).2 a rfl,?_⟩
  obtain⟨l,r,el⟩:=List.append_of_mem hu
  have ha:=c.on l _ r el a rfl
  have nd:=c.nd
  rw[el,List.map_append] at nd ⊢
  have hm':m ∉ l.map (·.2):=λz=>(List.nodup_append.mp nd).2.2 _ z m (by simp) rfl
  rw[List.idxOf_append,if_pos ha,List.idxOf_append,if_neg hm']
  have:=List.idxOf_lt_length_of_mem ha
  lia
noncomputable def Found (fr:List Ent) (m:Nat)(fs:List (Option Nat)):Prop:=fs.Nodup/\∀ x,x∈fs↔Anc fr m x
theorem Anc.trans {fr:List Ent}{m t:Nat}(h:Anc fr m (some t)):∀ {x:Option Nat},Anc fr t x->Anc fr m x:=by
 intro x hx
 induction hx with
 | refl=>exact h
 | step _ h2 ih=>exact .step ih h2
theorem c7e {n:Nat}{fr:List Ent}{F:Nat->List (Option Nat)}(hF:∀ m,m<n->Found fr m (F m))(hfr:∀ a t,(some a,t)∈fr->a<n){m:Nat}(hm:m<n)(h0:none ∉ F m)(hmin:∀ k,k<n->none ∉ F k->(F m).length<=(F k).length)
  {S:List Nat}(hup:S.Pairwise (· < ·))(hS:∀ a,a∈S↔some a∈F m):Src n fr S:=by
 have lt:∀ {x:Option Nat},Anc fr m x->∀ a,x=some a->a<n:=by
  intro x hx
  induction hx with
  | refl=>intro a e;cases e;exact hm
  | step _ h2 _=>intro a e;subst e;exact hfr _ _ h2
 refine⟨λz=>?_,hup,λa ha=>lt (((hF m hm).2 _).mp ((hS a).mp ha)) a rfl,λb hb x=>?_⟩
 ·have:=(hS m).mpr (((hF m hm).2 _).mpr .refl)
  rw[z] at this;cases this
 ·have ab:=((hF m hm).2 _).mp ((hS b).mp hb)
  have hbn:=lt ab b rfl
  have sub:∀ y,y∈F b->y∈F m:=λy hy=>((hF m hm).2 _).mpr (ab.trans (((hF b hbn).2 _).mp hy))
  have hlen:=hmin b hbn λz=>h0 (sub _ z)
  have sup:∀ y,y∈F m->y∈F b:=by
   have nd:=(hF b hbn).1
   intro y hy
   refine Classical.byContradiction λz=>?_
   have nd2:(y :: F b).Nodup:=List.nodup_cons.mpr ⟨z,nd⟩
   have:=nd2.length_le_of_subset (l₂:=F m) λw hw=>(List.mem_cons.mp hw).elim (λe=>e ▸ hy) (sub w)
   simp at this
   lia
  constructor
  ·intro hx
   have hx':=sub x (((hF b hbn).2 _).mpr hx)
   cases x with
   | none=>exact absurd hx' h0
   | some a=>exact⟨a,(hS a).mpr hx',rfl⟩
  ·rintro⟨a,ha,rfl⟩
   exact ((hF b hbn).2 _).mp (sup _ ((hS a).mp ha))
theorem a4q {α:Type}{f:α->FV}{g:α->D}{h:FV->Option D}(hf:∀ x,h (f x)=some (g x)):∀ xs:List α,a8v h (xs.map f)=some (xs.map g)
 | []=>rfl
 | x :: r=>by
  show ((h (f x)).bind λy=>(a8v h (r.map f)).map (y :: ·))=_
  rw[hf,a4q hf r];rfl
structure Cod {α:Type} [DecidableEq α] (f:α->FV)(g:α->D):Prop where
 d:∀ k x,fD (k+3) (f x)=some (g x)
 e:∀ x y,D.eqv (g x) (g y)=decide (x=y)
section
variable {α:Type} [DecidableEq α] {f:α->FV}{g:α->D}
theorem Cod.any (h:Cod f g)(x:α)(xs:List α):((xs.map g).any λy=>D.eqv y (g x))=decide (x∈xs):=by
 rw[List.any_map,Bool.eq_iff_iff]
 simp only[List.any_eq_true,Function.comp,h.e,decide_eq_true_eq]
 exact⟨λ⟨y,h1,h2⟩=>h2 ▸ h1,λh1=>⟨x,h1,rfl⟩⟩
theorem Cod.inL (h:Cod f g)(x:α)(xs:List α) [i:Decidable (x∈xs)] (R:Bool->Prop):wp (inF (f x) (.lst (xs.map f))) R↔R (decide (x∈xs)):=by
 have e:inF (f x) (.lst (xs.map f))=some (decide (x∈xs)):=by
  show ((fD (37+3) (f x)).bind λx=>((a8v (fD (36+3)) (xs.map f)).map D.lst).bind λy=>inD x y)=_
  rw[h.d,a4q (h.d 36)]
  exact congrArg some ((h.any x xs).trans (decide_eq_decide.mpr Iff.rfl))
 rw[e];exact Iff.rfl
theorem Cod.inT (h:Cod f g)(x:α)(xs:List α) [i:Decidable (x∈xs)] (R:Bool->Prop):wp (inF (f x) (.tup (xs.map f))) R↔R (decide (x∈xs)):=by
 have e:inF (f x) (.tup (xs.map f))=some (decide (x∈xs)):=by
  show ((fD (37+3) (f x)).bind λx=>((a8v (fD (36+3)) (xs.map f)).map D.tup).bind λy=>inD x y)=_
  rw[h.d,a4q (h.d 36)]
  exact congrArg some ((h.any x xs).trans (decide_eq_decide.mpr Iff.rfl))
 rw[e];exact Iff.rfl
theorem c5i {a b:FV}{x:D}(h:fD a0y a=some x):eqF a b=eqD a b:=by
 cases a with
 | shn y=>cases h
 | _=>rfl
theorem Cod.eq (h:Cod f g)(x y:α) [i:Decidable (x=y)] (R:Bool->Prop):wp (eqF (f x) (f y)) R↔R (decide (x=y)):=by
 have e:eqF (f x) (f y)=some (decide (x=y)):=by
  rw[c5i (h.d 37 x)]
  show ((fD (37+3) (f x)).bind λx=>(fD (37+3) (f y)).bind λy=>some (D.eqv x y))=_
  rw[h.d,h.d]
  exact congrArg some ((h.e x y).trans (decide_eq_decide.mpr Iff.rfl))
 rw[e];exact Iff.rfl
end
noncomputable def a3t (e:Ent):FV:=.tup [a0n e.1,.int e.2]
noncomputable def Rng (n:Nat)(fr:List Ent):Prop:=∀ e∈fr,e.2<n/\∀ a,e.1=some a->a<n
noncomputable def inR (n:Nat)(x:Option Nat):Prop:=∀ a,x=some a->a<n
theorem b1k {n:Nat}{fs:List (Option Nat)}(nd:fs.Nodup)(h:∀ x∈fs,inR n x):fs.length<=n+1:=by
 have:=nd.length_le_of_subset (l₂:=none :: (List.range n).map some) λx hx=>by
  cases x with
  | none=>simp
  | some a=>simp[h _ hx a rfl]
 simpa using this
theorem b2a {n:Nat}{fr:List Ent}(hb:Rng n fr){m:Nat}(hm:m<n){x:Option Nat}(h:Anc fr m x):inR n x:=by
 cases h with
 | refl=>intro a e;cases e;exact hm
 | step _ h2=>exact (hb _ h2).2
structure Ldg (fr:List Ent) (m:Nat)(fs:List (Option Nat)) (at':Nat):Prop where
 nd:fs.Nodup
 me:some m∈fs
 anc:∀ x∈fs,Anc fr m x
 le:at'<=fs.length
 cl:∀ t,some t∈fs.take at'->∀ on,(on,t)∈fr->on∈fs
theorem Ldg.done {fr:List Ent}{m:Nat}{fs:List (Option Nat)}(h:Ldg fr m fs fs.length):Found fr m fs:=by
 refine⟨h.nd,λx=>⟨h.anc x,λhx=>?_⟩⟩
 induction hx with
 | refl=>exact h.me
 | step _ h2 ih=>exact h.cl _ (by rw[List.take_length];exact ih) _ h2
noncomputable def c2q (fr:List Ent)(fs:List (Option Nat))(x:Option Nat):List (Option Nat):=(fr.filter λe=>decide (some e.2=x) && !decide (e.1∈fs)).map (·.1)
theorem Ldg.step {fr:List Ent}(nd:fr.Nodup){m:Nat}{fs:List (Option Nat)}{k:Nat}(h:Ldg fr m fs k){x:Option Nat}(hx:fs[k]?=some x):Ldg fr m (fs++c2q fr fs x) (k+1):=by
 obtain⟨hk,ex⟩:=List.getElem?_eq_some_iff.mp hx
 have mem:∀ on,on∈c2q fr fs x↔(∃ t,x=some t/\(on,t)∈fr)/\on ∉ fs:=by
  intro on
  unfold c2q
  simp only[List.mem_map,List.mem_filter,Bool.and_eq_true,decide_eq_true_eq,Bool.not_eq_true',decide_eq_false_iff_not]
  constructor
  ·rintro⟨⟨o,t⟩,⟨h1,h2,h3⟩,rfl⟩;exact⟨⟨t,h2.symm,h1⟩,h3⟩
  ·rintro⟨⟨t,h1,h2⟩,h3⟩;exact⟨(on,t),⟨h2,h1.symm,h3⟩,rfl⟩
 refine⟨?_,by simp[h.me],λy hy=>?_,by simp;lia,λt ht on ho=>?_⟩
 ·refine List.nodup_append.mpr ⟨h.nd,?_,λa ha b hb e=>((mem b).mp hb).2 (e ▸ ha)⟩
  unfold c2q
  rw[List.Nodup,List.pairwise_map]
  refine (nd.filter _).imp_of_mem λ{a b} ha hb hne e=>hne ?_
  have h1:=(List.mem_filter.mp ha).2
  have h2:=(List.mem_filter.mp hb).2
  simp only[Bool.and_eq_true,decide_eq_true_eq] at h1 h2
  have:=h1.1.trans h2.1.symm
  exact Prod.ext e (by simpa using this)
 ·rcases List.mem_append.mp hy with hy|hy
  ·exact h.anc y hy
  ·obtain⟨⟨t,e,h2⟩,_⟩:=(mem y).mp hy
   exact .step (h.anc _ (by rw[<- e,<- ex];exact List.getElem_mem hk)) h2
 ·rw[List.take_append_of_le_length (by lia),<- List.take_append_getElem hk] at ht
  by_cases hf:on∈fs
  ·exact List.mem_append_left _ hf
  ·rcases List.mem_append.mp ht with ht|ht
   ·exact List.mem_append_left _ (h.cl t ht on ho)
   ·rw[ex] at ht
    simp at ht
    exact List.mem_append_right _ ((mem on).mpr ⟨⟨t,ht.symm,ho⟩,hf⟩)
noncomputable def dLo:Option Nat->D|none=>.non|some a=>.int a
theorem codL:Cod a0n dLo:=⟨λk x=>by cases x<;>rfl,λx y=>by
 cases x<;>cases y<;>simp[dLo,D.eqv]
 rw[Bool.eq_iff_iff];simp;lia⟩
theorem c4p (d n:Nat){fr:List Ent}(nd:fr.Nodup)(hl:fr.length<=1000)(hb:Rng n fr)(hn:n<=60){m:Nat}(hm:m<n){Q:FV×FV->Prop}(q:∀ fs,Found fr m fs->Q (.lst (fs.map a0n),.non)):callW tb (d+1) 3 [.lst (fr.map a3t),.int m] Q:=by
 refine a1a (fd:=fd3) rfl rfl ?_
 simp[fd3,bd3]
 refine⟨by decide,?_⟩
 refine while_by (I:=λk L=>∃ fs at',k=n+1-at'/\Ldg fr m fs at'/\L=[some (.lst (fr.map a3t)),some (.int m),some (.lst (fs.map a0n)),some (.int (at':Nat))]) (λk L K h hK=>?_) (m:=n+1) ⟨[some m],0,rfl,⟨by simp,by simp,by simp;exact .refl,by simp,by simp⟩,rfl⟩
 obtain⟨fs,at',rfl,h,rfl⟩:=h
 have hle:=b1k h.nd λx hx=>b2a hb hm (h.anc x hx)
 simp
 refine ite2 (λhk=>?_) λhk=>?_
 ·obtain⟨x,hx⟩:∃ x,fs[at']?=some x:=⟨_,List.getElem?_eq_getElem hk⟩
  have h2:=h.step nd hx
  have hle2:=b1k h2.nd λx hx=>b2a hb hm (h2.anc x hx)
  refine⟨by simp only[big];lia,?_⟩
  refine a0o (f:=a3t) (g:=λe=>a0n e.1) (p:=λe=>decide (some e.2=x) && !decide (e.1∈fs)) fr [] (λe he K N k1 k2=>?_) ?_
  ·simp[a3t]
   rw[a4b rfl (v:=a0n x) (by rw[List.getElem?_map,hx];rfl),show FV.int (e.2:Int)=a0n (some e.2) from rfl,codL.eq]
   refine ite2 (λg1=>?_) λg1=>?_
   ·rw[codL.inL]
    refine ite2 (λg2=>?_) λg2=>?_
    ·exact k2 (by simp[of_decide_eq_true g2])
    ·exact k1 (by rw[g1];simp[of_decide_eq_false (Bool.eq_false_iff.mpr g2)])
   ·exact k2 (by have g1:=Bool.eq_false_iff.mpr g1;rw[g1];rfl)
  ·simp
   have el:(c2q fr fs x).length=(List.filter (λe=>decide (some e.snd=x) && !decide (e.fst∈fs)) fr).length:=by simp[c2q]
   refine⟨by rw[<- el];simp only[List.length_append] at hle2;simp only[big];lia,?_⟩
   refine hK _ _ ?_ ⟨fs++c2q fr fs x,at'+1,rfl,h2,by simp[c2q,Function.comp_def]⟩
   lia
 ·have:at'=fs.length:=by have:=h.le;lia
  subst this
  exact q fs h.done
structure Few (fr:List Ent) (j:Nat)(fs:List (Option Nat))(F:Nat->List (Option Nat)):Prop where
 f:∀ k,k<j->Found fr k (F k)
 c:(fs=[]/\∀ k,k<j->none∈F k) ∨ ∃ m,m<j/\fs=F m/\none ∉ F m/\∀ k,k<j->none ∉ F k->(F m).length<=(F k).length
theorem Found.ne {fr:List Ent}{m:Nat}{fs:List (Option Nat)}(h:Found fr m fs):fs≠[]:=λz=>by
 have:=(h.2 (some m)).mpr .refl
 rw[z] at this;cases this
theorem Few.step {fr:List Ent}{j:Nat}{fs gs:List (Option Nat)}{F:Nat->List (Option Nat)}(h:Few fr j fs F)(hg:Found fr j gs):Few fr (j+1) (if none ∉ gs/\(fs=[] ∨ gs.length<fs.length) then gs else fs) λk=>if k=j then gs else F k:=by
 refine⟨λk hk=>?_,?_⟩
 ·by_cases e:k=j
  ·subst e;simp only[if_pos];exact hg
  ·rw[if_neg e];exact h.f k (by lia)
 ·have gj:∀ k,k<j->(if k=j then gs else F k)=F k:=λk hk=>if_neg (by lia)
  by_cases h0:none ∉ gs
  ·rcases h.c with⟨e,hz⟩|⟨m,hm,e,hn,hl⟩
   ·rw[if_pos ⟨h0,.inl e⟩]
    refine .inr ⟨j,by lia,by simp,by simpa using h0,λk hk hkn=>?_⟩
    by_cases ek:k=j
    ·subst ek;exact Γi _
    ·exact absurd (hz k (by lia)) (by rw[gj k (by lia)] at hkn;exact hkn)
   ·have hne:fs≠[]:=e ▸ (h.f m hm).ne
    by_cases hlt:gs.length<fs.length
    ·rw[if_pos ⟨h0,.inr hlt⟩]
     refine .inr ⟨j,by lia,by simp,by simpa using h0,λk hk hkn=>?_⟩
     by_cases ek:k=j
     ·subst ek;exact Γi _
     ·rw[gj k (by lia)] at hkn ⊢
      have:=hl k (by lia) hkn
      rw[if_pos rfl]
      rw[e] at hlt;lia
    ·rw[if_neg (by rintro⟨_,z|z⟩;exact hne z;exact hlt z)]
     refine .inr ⟨m,by lia,by rw[gj m hm];exact e,by rw[gj m hm];exact hn,λk hk hkn=>?_⟩
     rw[gj m hm]
     by_cases ek:k=j
     ·rw[if_pos ek,<- e];lia
     ·rw[gj k (by lia)] at hkn ⊢
      exact hl k (by lia) hkn
  ·rw[if_neg λz=>h0 z.1]
   have hin:none∈gs:=Classical.byContradiction h0
   rcases h.c with⟨e,hz⟩|⟨m,hm,e,hn,hl⟩
   ·refine .inl ⟨e,λk hk=>?_⟩
    by_cases ek:k=j
    ·rw[if_pos ek];exact hin
    ·rw[if_neg ek];exact hz k (by lia)
   ·refine .inr ⟨m,by lia,by rw[gj m hm];exact e,by rw[gj m hm];exact hn,λk hk hkn=>?_⟩
    rw[gj m hm]
    by_cases ek:k=j
    ·rw[if_pos ek] at hkn;exact absurd hin hkn
    ·rw[gj k (by lia)] at hkn ⊢
     exact hl k (by lia) hkn
theorem b2k:∀ {fs:List (Option Nat)},none ∉ fs->∃ S:List Nat,fs=S.map some
 | [],_=>⟨[],rfl⟩
 | none :: r,h=>absurd (by simp) h
 | some a :: r,h=>let ⟨S,e⟩:=b2k (fs:=r) λz=>h (by simp[z]);⟨a :: S,by rw[e];rfl⟩
theorem c0n (S:List Nat):a0u (S.map λi:Nat=>FV.int i)=some (S.map λi:Nat=>(i:Int))
:=by
 induction S with
 | nil=>rfl
 | cons a r ih=>show (a0u (r.map λi:Nat=>FV.int i)).map ((a:Int) :: ·)=_;rw[ih];rfl
theorem b9d {S:List Nat}{ms:List Int}(nd:S.Nodup)(hp:ms.Perm (S.map λi:Nat=>(i:Int)))(hs:ms.Pairwise (·<=·)):∃ T:List Nat,ms=T.map (λi:Nat=>(i:Int))/\T.Pairwise (· < ·)/\∀ a,a∈T↔a∈S:=by
 refine⟨ms.map Int.toNat,?_,?_,λa=>?_⟩
 ·rw[List.map_map]
  conv=>lhs;rw[<- List.map_id ms]
  refine List.map_congr_left λx hx=>?_
  obtain⟨i,_,e⟩:=List.mem_map.mp (hp.mem_iff.mp hx)
  simp only[id,Function.comp];lia
 ·rw[List.pairwise_map]
  have n2:ms.Nodup:=hp.nodup_iff.mpr (by rw[List.Nodup,List.pairwise_map];exact nd.imp λh e=>h (by lia))
  refine (hs.and n2).imp_of_mem λ{a b} ha hb h=>?_
  obtain⟨i,_,e⟩:=List.mem_map.mp (hp.mem_iff.mp ha)
  obtain⟨j,_,e2⟩:=List.mem_map.mp (hp.mem_iff.mp hb)
  have h1:=h.1
  have h2:a≠b:=h.2
  lia
 ·rw[List.mem_map]
  constructor
  ·rintro⟨x,hx,rfl⟩
   obtain⟨i,hi,e⟩:=List.mem_map.mp (hp.mem_iff.mp hx)
   rw[<- e];simpa using hi
  ·intro h
   exact⟨(a:Int),hp.mem_iff.mpr (List.mem_map.mpr ⟨a,h,rfl⟩),by simp⟩
theorem c4h (d n:Nat){fr:List Ent}(nd:fr.Nodup)(hl:fr.length<=1000)(hb:Rng n fr)(hn:n<=60){Q:FV×FV->Prop}(q0:(∀ m,m<n->Anc fr m none)->Q (.tup [],.non))(q1:∀ S,Src n fr S->Q (.tup (S.map λi:Nat=>.int i),.non)):callW tb (d+2) 2 [.int n,.lst (fr.map a3t)] Q:=by
 refine a1a (fd:=fd2) rfl rfl ?_
 simp[fd2,bd2]
 refine⟨a0r (by lia) (by lia),?_⟩
 refine a2g (I:=λj L=>∃ fs F x y,Few fr j fs F/\L=[some (FV.int n),some (FV.lst (fr.map a3t)),some (.lst (fs.map a0n)),x,y]) n 0 _ ⟨[],λ_=>[],none,none,⟨λk hk=>by lia,.inl ⟨rfl,λk hk=>by lia⟩⟩,rfl⟩ (λj L K _ hj hI hK=>?_) λL hI=>?_
 ·obtain⟨fs,F,x,y,hF,rfl⟩:=hI
  simp
  refine c4p d n nd hl hb hn (by lia) λgs hg=>?_
  simp
  rw[show FV.non=a0n none from rfl,codL.inL]
  have hs:=hF.step hg
  have A:K [some (FV.int n),some (FV.lst (fr.map a3t)),some (.lst ((if none ∉ gs/\(fs=[] ∨ gs.length<fs.length) then gs else fs).map a0n)),some (FV.int j),some (.lst (gs.map a0n))]:=hK _ ⟨_,_,_,_,hs,rfl⟩
  refine ite2 (λg=>?_) λg=>?_
  ·rw[if_neg λz=>z.1 (of_decide_eq_true g)] at A;exact A
  ·have g:none ∉ gs:=of_decide_eq_false (Bool.eq_false_iff.mpr g)
   refine ite2 (λg2=>?_) λg2=>?_
   ·rw[if_pos ⟨g,.inl g2⟩] at A;exact A
   ·refine ite2 (λg3=>?_) λg3=>?_
    ·rw[if_pos ⟨g,.inr g3⟩] at A;exact A
    ·rw[if_neg (by rintro⟨_,z|z⟩;exact g2 z;exact g3 z)] at A;exact A
 ·obtain⟨fs,F,x,y,hF,rfl⟩:=hI
  simp only[Nat.zero_add] at hF
  have hS:∃ S:List Nat,fs=S.map some:=by
   rcases hF.c with⟨e,_⟩|⟨m,_,e,h0,_⟩
   ·exact⟨[],e⟩
   ·exact b2k (e ▸ h0)
  obtain⟨S,rfl⟩:=hS
  have ndS:S.Nodup:=by
   rcases hF.c with⟨e,_⟩|⟨m,hm,e,h0,_⟩
   ·rw[List.map_eq_nil_iff.mp e];exact List.nodup_nil
   ·have:=(hF.f m hm).1
    rw[<- e,List.Nodup,List.pairwise_map] at this
    exact this.imp λh z=>h (congrArg some z)
  have hlen:S.length<=n+1:=by
   have:=b1k (n:=n) (fs:=S.map some) (by rw[List.Nodup,List.pairwise_map];exact ndS.imp λh z=>h (Option.some.inj z)) λx hx=>by
    rcases hF.c with⟨e,_⟩|⟨m,hm,e,h0,_⟩
    ·rw[e] at hx;cases hx
    ·exact b2a hb hm (((hF.f m hm).2 x).mp (e ▸ hx))
   simpa using this
  simp
  rw[show List.map (a0n ∘ some) S=S.map λi:Nat=>FV.int i from rfl,c0n,a1t]
  refine⟨by simp;lia,λms hp hs=>?_⟩
  obtain⟨T,rfl,hup,hmem⟩:=b9d ndS hp hs
  rw[List.map_map]
  rcases hF.c with⟨e,hz⟩|⟨m,hm,e,h0,hmin⟩
  ·have hT:T=[]:=by
    cases T with
    | nil=>rfl
    | cons a r =>
     have:=(hmem a).mp (by simp)
     rw[List.map_eq_nil_iff.mp e] at this;cases this
   rw[hT]
   exact q0 λk hk=>((hF.f k hk).2 none).mp (hz k hk)
  ·exact q1 T (c7e hF.f (λa t h=>(hb _ h).2 a rfl) hm h0 hmin hup λa=>by rw[hmem a,<- e];simp)
noncomputable def kE (e:Ent):List (Option Int):=[e.1.map λa:Nat=>(a:Int),some (e.2:Int)]
theorem b2u {a b:Ent}(h:kE a=kE b):a=b:=by
 obtain⟨a1,a2⟩:=a
 obtain⟨b1,b2⟩:=b
 simp only[kE,List.cons.injEq,Option.some.injEq,and_true] at h
 obtain⟨h1,h2⟩:=h
 have:a2=b2:=by lia
 subst this
 cases a1<;>cases b1<;>simp at h1<;>first|rfl|(have:=h1;congr 2;lia)
noncomputable def dn (z:Option PySem.Obj)(E:List Ent)(f:Ent->Int):FV:=.dcn z (E.map kE) (E.map λe=>.int (f e))
theorem a8c (e:Ent)(Q:List (Option Int)->Prop):wp (a2j [a0n e.1,.int e.2]) Q↔Q (kE e):=by
 obtain⟨a,b⟩:=e
 cases a<;>simp[a0n,kE]
theorem c4s (e:Ent):c9t (kE e)=a3t e:=by
 obtain⟨a,b⟩:=e
 cases a<;>rfl
theorem b2y {f:Ent->Int}{e:Ent}:∀ {E:List Ent},e∈E->a2r (E.map kE) (E.map λe=>FV.int (f e)) (kE e)=some (.int (f e))
 | x :: r,h=>by
  show (if kE x=kE e then some (FV.int (f x)) else a2r (r.map kE) (r.map λe=>FV.int (f e)) (kE e))=_
  by_cases z:x=e
  ·subst z;rw[if_pos rfl]
  ·rw[if_neg λh=>z (b2u h)]
   exact b2y ((List.mem_cons.mp h).resolve_left λy=>z y.symm)
open Classical in
theorem c7x {f:Ent->Int}{e:Ent}{v:Int}{E:List Ent}(h:e∈E):a1s (E.map kE) (E.map λe=>FV.int (f e)) (kE e) (.int v)=(E.map kE,E.map λx=>FV.int (if x=e then v else f x)):=by
 unfold a1s
 rw[if_pos (List.mem_map_of_mem h)]
 congr 1
 clear h
 induction E with
 | nil=>rfl
 | cons x r ih =>
  simp only[List.map_cons,List.zipWith_cons_cons,ih]
  by_cases z:x=e
  ·subst z;simp
  ·rw[if_neg λh=>z (b2u h),if_neg z]
theorem c3l {f:Ent->Int}{e:Ent}{E:List Ent}(h:e ∉ E):a1s (E.map kE) (E.map λe=>FV.int (f e)) (kE e) (.int (f e))=((E++[e]).map kE,(E++[e]).map λx=>FV.int (f x)):=by
 unfold a1s
 rw[if_neg λz=>by obtain⟨y,h1,h2⟩:=List.mem_map.mp z;exact h (b2u h2 ▸ h1)]
 simp
noncomputable def a4f (n:Nat)(cs:List Chg):List Ent:=(List.range n).map (λm=>(none,m))++cs.map λc=>(some c.1,c.2.1)
theorem c0x (d:Nat){ws:List Int}{cs:List Chg}{sz:Ent->Int}(hn:ws.length<=60)(hc:cs.length<=500)(nd:(a4f ws.length cs).Nodup)(h1:∀ m (h:m<ws.length),sz (none,m)=ws[m])(h2:∀ c∈cs,sz (some c.1,c.2.1)=c.2.2){Q:FV×FV->Prop}(q:Q (dn none (a4f ws.length cs) sz,.non)):callW tb (d+1) 1 [a5r ws cs] Q:=by
 refine a1a (fd:=fd1) rfl rfl ?_
 simp[fd1,bd1,a5r]
 have ep:a2f (upF 0 ws.length) (ws.map .int)=(List.range ws.length).map λm:Nat=>FV.tup [.int (m:Int),.int (sz (none,m))]:=by
  rw[a1h]
  apply List.ext_getElem
  ·simp[a2f]
  ·intro i g1 g2
   simp[a2f] at g2 ⊢
   exact (h1 i g2).symm
 rw[ep]
 refine⟨by simp[big];lia,?_⟩
 have n1:((List.range ws.length).map λm=>((none,m):Ent)).Nodup:=(List.nodup_append.mp nd).1
 refine b0i (f:=λm:Nat=>FV.tup [.int (m:Int),.int (sz (none,m))]) (g:=λm=>kE (none,m)) (h:=λm=>FV.int (sz (none,m))) (List.range ws.length) [] [] (by simp) ?_ (λm hm K k=>?_) ?_
 ·rw[List.Nodup,List.pairwise_map] at n1 ⊢
  exact n1.imp λh z=>h (b2u z)
 ·simp
  exact⟨by decide,k⟩
 ·simp
  refine a2s (f:=a6r) (I:=λdone L=>∃ x y z,L=[some (FV.tup [FV.tup (ws.map .int),FV.tup (cs.map a6r)]),some (dn none (a4f ws.length done) sz),x,y,z]) cs cs [] _ rfl ⟨none,none,none,by simp[a4f,dn,Function.comp_def]⟩ (λdd c r L K e hI hK=>?_) λL hI=>?_
  ·obtain⟨x,y,z,rfl⟩:=hI
   have hin:c∈cs:=by rw[e];simp
   have hne:((some c.1,c.2.1):Ent) ∉ a4f ws.length dd:=by
    rw[e,a4f,List.map_append,List.map_cons,<- List.append_assoc] at nd
    exact λz=>(List.nodup_append.mp nd).2.2 _ z _ (by simp) rfl
   have hl:(a4f ws.length dd).length<big:=by
    have:dd.length<=cs.length:=by rw[e];simp
    simp[a4f,big];lia
   have hp:=c3l (f:=sz) hne
   rw[h2 c hin] at hp
   simp[a6r,dn]
   refine⟨by decide,by simpa using hl,?_⟩
   rw[show [some ((c.1:Nat):Int),some ((c.2.1:Nat):Int)]=kE (some c.1,c.2.1) from rfl,hp]
   exact hK _ ⟨some (FV.int c.1),some (FV.int c.2.1),some (FV.int c.2.2),by simp[a4f,dn]⟩
  ·obtain⟨x,y,z,rfl⟩:=hI
   simp
   exact q
noncomputable def c9q (us:List Ent):FV:=.dci (us.map λe=>(e.2:Int)) (us.map λe=>a0n e.1)
theorem b2x {e:Ent}:∀ {us:List Ent},(us.map (·.2)).Nodup->e∈us->a2r (us.map λe=>(e.2:Int)) (us.map λe=>a0n e.1) (e.2:Int)=some (a0n e.1)
 | x :: r,nd,h=>by
  show (if (x.2:Int)=e.2 then some (a0n x.1) else a2r (r.map λe=>(e.2:Int)) (r.map λe=>a0n e.1) (e.2:Int))=_
  simp only[List.map_cons,List.nodup_cons] at nd
  rcases List.mem_cons.mp h with rfl|h
  ·rw[if_pos rfl]
  ·rw[if_neg λz=>nd.1 (List.mem_map.mpr ⟨e,h,by lia⟩)]
   exact b2x nd.2 h
theorem b6o {n:Nat}{D:List Nat}(nd:D.Nodup)(h:∀ x∈D,x<n):D.length<=n:=by
 have:=nd.length_le_of_subset (l₂:=List.range n) λx hx=>List.mem_range.mpr (h x hx)
 simpa using this
theorem c1j {n:Nat}{D:List Nat}(nd:D.Nodup)(h:∀ x∈D,x<n)(hl:n<=D.length){m:Nat}(hm:m<n):m∈D:=by
 refine Classical.byContradiction λz=>?_
 have:=b6o (n:=n) (D:=m :: D) (List.nodup_cons.mpr ⟨z,nd⟩) λx hx=>(List.mem_cons.mp hx).elim (λe=>e ▸ hm) (h x)
 simp at this;lia
theorem c4r (d n:Nat){E:List Ent}{sz:Ent->Int}{fr:List Ent}{ps:List Prc}(H:Lrm n E sz fr ps)(hl:fr.length<=1000)(hb:Rng n fr)(hn:n<=60)(ha:∀ m,m<n->Anc fr m none){Q:FV×FV->Prop}(q:∀ us,Cnt fr ps us->(∀ m,m<n->m∈us.map (·.2))->(∀ ls:List (Option Nat),ls.length=n->(∀ m,m<n->∃ e∈us,e.2=m/\ls[m]?=some e.1)->Q (.tup (ls.map a0n),.non))):callW tb (d+1) 4 [.int n,.lst (fr.map a3t)] Q:=by
 refine a1a (fd:=fd4) rfl rfl ?_
 simp[fd4,bd4]
 refine while_by (I:=λk L=>∃ us x y,k=n-us.length/\Cnt fr ps us/\L=[some (.int n),some (.lst (fr.map a3t)),some (c9q us),x,y]) (λk L K h hK=>?_) (m:=n) ⟨[],none,none,rfl,⟨⟨by simp,by simp,by simp⟩,λq hq=>by simp[a7s]⟩,rfl⟩
 obtain⟨us,x,y,rfl,h,rfl⟩:=h
 have lt:∀ x∈us.map (·.2),x<n:=λx hx=>by
  obtain⟨e,he,rfl⟩:=List.mem_map.mp hx
  exact (hb e (h.sub e he)).1
 have hle:=b6o h.nd lt
 simp[c9q]
 refine ite2 (λhk=>?_) λhk=>?_
 ·obtain⟨m,hm,hmD⟩:∃ m,m<n/\m ∉ us.map (·.2):=by
   refine Classical.byContradiction λz=>?_
   have:∀ m∈List.range n,m∈us.map (·.2):=λm hm=>Classical.byContradiction λw=>z ⟨m,List.mem_range.mp hm,w⟩
   have:=List.nodup_range.length_le_of_subset this
   simp at this;lia
  obtain⟨e,he⟩:=c0i hmD (ha m hm)
  have hstep:=h.step H he
  have m1:e.2 ∉ us.map (·.2):=by
   have:=List.find?_some he
   simp only[may,Bool.and_eq_true,Bool.not_eq_true',decide_eq_false_iff_not] at this
   exact this.1
  have memI:∀ a:Nat,(a:Int)∈us.map (λe=>(e.2:Int))↔a∈us.map (·.2):=λa=>by
   simp only[List.mem_map]
   exact⟨λ⟨e,h1,h2⟩=>⟨e,h1,by lia⟩,λ⟨e,h1,h2⟩=>⟨e,h1,by lia⟩⟩
  refine⟨by simp only[big];lia,?_⟩
  refine a0o (f:=a3t) (g:=a3t) (p:=may (us.map (·.2))) fr [] (λc hc K N k1 k2=>?_) ?_
  ·obtain⟨on,t⟩:=c
   cases on with
   | none =>
    show gW _ (FV.tup [.non,.int (t:Int)]) _ _
    simp
    refine ite2 (λg=>k1 ?_) λg=>k2 ?_
    ·simp only[Bool.not_eq_true',decide_eq_false_iff_not,memI] at g
     simp only[may,g];simp
    ·simp only[Bool.not_eq_true',decide_eq_false_iff_not,memI,Classical.not_not] at g
     simp only[may,g];simp
   | some a =>
    show gW _ (FV.tup [.int (a:Int),.int (t:Int)]) _ _
    simp
    refine ite2 (λg=>ite2 (λg'=>k1 ?_) λg'=>k2 ?_) λg=>k2 ?_
    ·simp only[Bool.not_eq_true',decide_eq_false_iff_not,memI] at g
     simp only[decide_eq_true_eq,memI] at g'
     simp only[may,g,g'];simp
    ·simp only[decide_eq_true_eq,memI] at g'
     simp only[may,g'];simp
    ·simp only[Bool.not_eq_true',decide_eq_false_iff_not,memI,Classical.not_not] at g
     simp only[may,g];simp
  ·obtain⟨r,er⟩:∃ r,fr.filter (may (us.map (·.2)))=e :: r:=by
    have:=List.head?_filter (p:=may (us.map (·.2))) (l:=fr)
    rw[he] at this
    cases z:fr.filter (may (us.map (·.2))) with
    | nil=>rw[z] at this;cases this
    | cons x r=>rw[z] at this;cases this;exact⟨r,rfl⟩
   rw[er]
   simp[a3t]
   have hp:a1s (us.map λe=>(e.2:Int)) (us.map λe=>a0n e.1) (e.2:Int) (a0n e.1)=((us++[e]).map (λe=>(e.2:Int)),(us++[e]).map λe=>a0n e.1):=by
    unfold a1s
    rw[if_neg λz=>m1 ((memI e.2).mp z)]
    simp
   rw[hp]
   refine⟨by simp only[big];lia,hK _ _ ?_ ⟨us++[e],some (a0n e.1),some (.int e.2),rfl,hstep,rfl⟩⟩
   simp;lia
 ·have hall:∀ m,m<n->m∈us.map (·.2):=λm hm=>c1j h.nd lt (by simp;lia) hm
  refine⟨a0r (by lia) (by lia),by simp[a1h,big];lia,?_⟩
  rw[a1h]
  have at':∀ m,m<n->∃ e∈us,e.2=m/\(us.find? λe=>decide (e.2=m))=some e:=λm hm=>by
   obtain⟨e,he,em⟩:=List.mem_map.mp (hall m hm)
   cases z:us.find? λe=>decide (e.2=m) with
   | none=>exact absurd (decide_eq_true em) (List.find?_eq_none.mp z e he)
   | some e'=>exact⟨e',List.mem_of_find?_eq_some z,by simpa using List.find?_some z,rfl⟩
  refine a1e (f:=λm:Nat=>FV.int (m:Int)) (g:=λm=>a0n (((us.find? λe=>decide (e.2=m)).map (·.1)).getD none)) (List.range n) [] (λm hm K k=>?_) ?_
  ·obtain⟨e,he,em,ef⟩:=at' m (List.mem_range.mp hm)
   rw[ef] at k
   simp
   rw[<- em,b2x h.nd he,a1t]
   exact k
  ·have:=q us h hall ((List.range n).map λm=>((us.find? λe=>decide (e.2=m)).map (·.1)).getD none) (by simp) λm hm=>by
    obtain⟨e,he,em,ef⟩:=at' m hm
    exact⟨e,he,em,by simp[hm,ef]⟩
   simpa[Function.comp_def] using this
theorem codI:Cod FV.int D.int:=⟨λk x=>rfl,λx y=>by rw[Bool.eq_iff_iff];simp[D.eqv]⟩
noncomputable def a4v (q:Prc):FV:=.tup [.tup (q.S.map λi:Nat=>.int i),.int q.p]
theorem b7c {S:List Nat}{x:Option Nat}{R:Bool->Prop}:wp (inF (a0n x) (.tup (S.map λi:Nat=>FV.int i))) R↔R (decide (x∈S.map some)):=by
 have:=codL.inT x (S.map some) R
 rw[List.map_map] at this
 exact this
theorem a8o (S:List Nat)(e:Ent):ent S e=(decide (some e.2∈S.map some) && !decide (e.1∈S.map some)):=by
 obtain⟨on,t⟩:=e
 cases on<;>simp[ent]
noncomputable def Nxt (n:Nat)(fr:List Ent)(S:List Nat):Prop:=(S=[]/\∀ m,m<n->Anc fr m none) ∨ Src n fr S
structure Est (n:Nat)(E:List Ent)(sz:Ent->Int):Prop where
 nd:E.Nodup
 rg:Rng n E
 who:∀ m,m<n->(none,m)∈E
 pos:∀ e∈E,0<sz e
 bd:∀ e∈E,sz e<=100000000000
 le:E.length<=560
theorem c2n {ps:List Prc}(h:∀ q∈ps,0<q.p)(e:Ent):0<=due ps e:=by
 rw[b0b]
 induction ps with
 | nil=>simp
 | cons q r ih =>
  have:=ih λx hx=>h x (by simp[hx])
  have:=h q (by simp)
  simp only[List.map_cons,List.sum_cons]
  split<;>lia
theorem c1b {z:Option PySem.Obj}{E:List Ent}{f g:Ent->Int}(h:∀ e∈E,f e=g e):dn z E f=dn z E g:=by
 unfold dn
 congr 1
 exact List.map_congr_left λe he=>by rw[h e he]
theorem b3f {e:Ent}{q:Prc}(he:ent q.S e=true):∀ {ps:List Prc},(∀ q∈ps,0<q.p)->q∈ps->q.p<=due ps e
 | r :: ps,h,hq=>by
  have e0:due (r :: ps) e=(if ent r.S e=true then r.p else 0)+due ps e:=by rw[b0b,b0b];rfl
  have h1:=c2n (λx hx=>h x (by simp[hx]):∀ x∈ps,0<x.p) e
  have h2:=h r (by simp)
  rw[e0]
  rcases List.mem_cons.mp hq with rfl|hq
  ·rw[if_pos he];lia
  ·have:=b3f he (λx hx=>h x (by simp[hx])) hq
   split<;>lia
theorem c9e (S:List Nat):noL (.tup (S.map λi:Nat=>.int i))=true:=by
 have:=a5m (f:=λi:Nat=>FV.int i) (λi=>by simp) S
 simp only[noL,this]
theorem c9d (S:List (Option Nat)):noL (.tup (S.map a0n))=true:=by
 have:=a5m (f:=a0n) (λi=>by cases i<;>simp[a0n,noL]) S
 simp only[noL,this]
theorem c2e (d n:Nat){fr:List Ent}(nd:fr.Nodup)(hl:fr.length<=1000)(hb:Rng n fr)(hn:n<=60){Q:FV×FV->Prop}(q:∀ S,Nxt n fr S->Q (.tup (S.map λi:Nat=>.int i),.non)):callW tb (d+2) 2 [.int n,.lst (fr.map a3t)] Q:=c4h d n nd hl hb hn (λh=>q [] (.inl ⟨rfl,h⟩)) λS h=>q S (.inr h)
theorem c3h (d:Nat){ws:List Int}{cs:List Chg}{sz:Ent->Int}(hn:ws.length<=60)(hc:cs.length<=500)(h1:∀ m (h:m<ws.length),sz (none,m)=ws[m])(h2:∀ c∈cs,sz (some c.1,c.2.1)=c.2.2)(G:Est ws.length (a4f ws.length cs) sz){Q:FV×FV->Prop}
  (q:∀ (fr:List Ent)(ps:List Prc)(us:List Ent)(ls:List (Option Nat)),Lrm ws.length (a4f ws.length cs) sz fr ps->Cnt fr ps us->(∀ m,m<ws.length->m∈us.map (·.2))->ls.length=ws.length->(∀ m,m<ws.length->∃ e∈us,e.2=m/\ls[m]?=some e.1)->ps.length<=(a4f ws.length cs).length->Q (.tup [.int (ps.map (·.p)).sum,.tup (ls.map a0n),.lst (ps.map a4v)],.non)):callW tb (d+3) 0 [a5r ws cs] Q:=by
 refine a1a (fd:=fd0) rfl rfl ?_
 simp[fd0,bd0]
 rw[show ∀ Q:List FV->Prop,wp (a4z (a5r ws cs)) Q↔Q [.tup (ws.map .int),.tup (cs.map a6r)] from λ_=>Iff.rfl]
 simp
 refine c0x (d+1) hn hc G.nd h1 h2 ?_
 generalize eE:a4f ws.length cs=E at G q
 generalize en:ws.length=n at hn G q
 have gle:=G.le
 simp
 refine c2e d n (fr:=[]) (by simp) (by simp) (λe he=>nomatch he) hn λS0 hS0=>?_
 simp
 refine⟨c9e S0,?_⟩
 refine while_by (I:=λk L=>∃ fr ps S x y z,k=E.length-fr.length/\Lrm n E sz fr ps/\Nxt n fr S/\ps.length<=fr.length/\L=[some (a5r ws cs),some (.int n),some (dn none E λe=>sz e-due ps e),some (.lst (fr.map a3t)),some (.lst (ps.map a4v)),some (.tup (S.map λi:Nat=>.int i)),x,y,z]) (λk L K h hK=>?_) (m:=E.length) ⟨[],[],S0,none,none,none,rfl,.start G.pos,hS0,by simp,by simp[due]⟩
 obtain⟨fr,ps,S,x,y,z,rfl,h,hS,hpf,rfl⟩:=h
 have hfl:fr.length<=E.length:=h.nd.length_le_of_subset h.sub
 simp
 refine ite2 (λhz=>?_) λhz=>?_
 ·have ha:∀ m,m<n->Anc fr m none:=by
   rcases hS with⟨_,h⟩|h
   ·exact h
   ·exact absurd hz h.ne
  refine⟨by simp only[big];lia,?_⟩
  refine a1e (f:=a4v) (g:=λq=>.int q.p) ps [] (λq hq K k=>?_) ?_
  ·simp[a4v]
   exact k
  ·rw[List.nil_append,show (ps.map λq=>FV.int q.p)=(ps.map (·.p)).map .int by rw[List.map_map];rfl]
   refine b0x (by simp;lia) (λx hx=>?_) ?_
   ·obtain⟨q,hq,rfl⟩:=List.mem_map.mp hx
    obtain⟨e,g1,g2⟩:=h.hit q hq
    have:=b3f g2 h.pos hq
    have:=h.pos q hq
    have:=(h.free e (h.sub e g1)).mp g1
    have:=G.bd e (h.sub e g1)
    lia
   ·simp
    refine c4r (d+1) n h (by lia) (λe he=>G.rg e (h.sub e he)) hn ha λus c hall ls hls hat=>?_
    exact⟨c9d ls,by decide,q fr ps us ls h c hall hls hat (by lia)⟩
 ·have hS:Src n fr S:=hS.resolve_left λz=>hz z.1
  obtain⟨m0,hm0⟩:∃ m,m∈S:=List.exists_mem_of_ne_nil S hz
  rw[show (dn none E λe=>sz e-due ps e)=.dcn none (E.map kE) (E.map λe=>.int (sz e-due ps e)) from rfl]
  dsimp only
  intro o
  refine⟨by simp[big];lia,?_⟩
  rw[List.map_map,show (c9t ∘ kE)=a3t from funext c4s]
  refine a0o (f:=a3t) (g:=a3t) (p:=ent S) E [] (λe he K N k1 k2=>?_) ?_
  ·simp[a3t]
   rw[show FV.int (e.2:Int)=a0n (some e.2) from rfl,b7c]
   refine ite2 (λg1=>?_) λg1=>?_
   ·rw[b7c]
    refine ite2 (λg2=>k2 ?_) λg2=>⟨by decide,k1 ?_⟩
    ·rw[a8o,g1,g2];rfl
    ·rw[a8o,g1,Bool.eq_false_iff.mpr g2];rfl
   ·exact k2 (by rw[a8o,Bool.eq_false_iff.mpr g1];rfl)
  ·have hEs:∀ e,e∈E.filter (ent S)↔e∈E/\ent S e=true:=λe=>List.mem_filter
   have ndEs:(E.filter (ent S)).Nodup:=G.nd.filter _
   have lEs:(E.filter (ent S)).length<=E.length:=List.length_filter_le _ _
   have neEs:(none,m0)∈E.filter (ent S):=(hEs _).mpr ⟨G.who m0 (hS.lt m0 hm0),ent_iff.mpr ⟨hm0,λa e=>nomatch e⟩⟩
   have fEs:∀ p,(E.filter λe=>ent S e && decide (sz e-due ps e=p))=(E.filter (ent S)).filter λe=>decide (sz e-due ps e=p):=λp=>by
    rw[List.filter_filter]
    congr 1
    funext e
    exact Bool.and_comm _ _
   have hst:=λp h1 h2=>h.step (p:=p) hS G.nd h1 h2
   simp only[fEs] at hst
   simp
   generalize E.filter (ent S)=Es at hEs ndEs lEs neEs hst ⊢
   refine⟨by simp only[big];lia,?_⟩
   refine a1e (f:=a3t) (g:=λe=>.int (sz e-due ps e)) Es [] (λe he K k=>?_) ?_
   ·simp[a3t]
    rw[a8c,b2y ((hEs e).mp he).1,a1t]
    exact k
   ·obtain⟨e0,r0,e1⟩:∃ e0 r0,Es=e0 :: r0:=by
     cases Es with
     | nil=>cases neEs
     | cons a b=>exact⟨a,b,rfl⟩
    rw[List.nil_append,show (Es.map λe=>FV.int (sz e-due ps e))=(Es.map λe=>sz e-due ps e).map .int by rw[List.map_map];rfl,c4k (x:=sz e0-due ps e0) (r:=r0.map λe=>sz e-due ps e) (by rw[e1];rfl)]
    have hin:=a9p (r0.map λe=>sz e-due ps e) (sz e0-due ps e0)
    have hle:=a9o (r0.map λe=>sz e-due ps e) (sz e0-due ps e0)
    generalize a1r (sz e0-due ps e0) (r0.map λe=>sz e-due ps e)=p at hin hle ⊢
    have hle':∀ e∈Es,p<=sz e-due ps e:=λe he=>by
     rw[e1] at he
     rcases List.mem_cons.mp he with rfl|he
     ·exact hle.1
     ·exact hle.2 _ (List.mem_map.mpr ⟨e,he,rfl⟩)
    have hin':∃ e∈Es,sz e-due ps e=p:=by
     rcases List.mem_cons.mp hin with z|z
     ·exact⟨e0,by rw[e1];simp,z.symm⟩
     ·obtain⟨e,g1,g2⟩:=List.mem_map.mp z
      exact⟨e,by rw[e1];simp[g1],g2⟩
    obtain⟨hp,h'⟩:=hst p (λe he g=>hle' e ((hEs e).mpr ⟨he,g⟩)) (by
     obtain⟨e,g1,g2⟩:=hin'
     exact⟨e,((hEs e).mp g1).1,((hEs e).mp g1).2,g2⟩)
    simp
    refine⟨by decide,by simp only[big];lia,?_⟩
    have dl:(E.map kE).length<big:=by simp[big];lia
    refine a2s (f:=a3t) (I:=λdone L=>∃ z,L=[some (a5r ws cs),some (FV.int n),some (dn none E λe=>sz e-due ps e-if e∈done then p else 0),some (FV.lst (fr.map a3t)),some (FV.lst ((ps++[(⟨S,p,fr.length⟩:Prc)]).map a4v)),some (FV.tup (S.map λi:Nat=>FV.int i)),some (FV.lst (Es.map a3t)),some (FV.int p),z]) Es Es [] _ rfl ⟨z,by simp[dn,a4v]⟩ (λdd e r L K e2 hI hK=>?_) λL hI=>?_
    ·obtain⟨z,rfl⟩:=hI
     have heE:e∈E:=((hEs e).mp (by rw[e2];simp)).1
     have hed:e ∉ dd:=by
      rw[e2] at ndEs
      exact λz=>(List.nodup_append.mp ndEs).2.2 _ z _ (by simp) rfl
     simp[a3t,dn]
     rw[a8c,b2y heE,a1t]
     simp
     rw[a8c,c7x heE]
     refine⟨by simpa using dl,hK _ ⟨some (a3t e),?_⟩⟩
     simp[dn,a3t]
     intro a b _
     by_cases g:(a,b)=e
     ·subst g
      rw[if_pos rfl,if_neg hed,if_pos (.inr rfl)];lia
     ·rw[if_neg g]
      congr 1
      by_cases g2:(a,b)∈dd
      ·rw[if_pos g2,if_pos (.inl g2)]
      ·rw[if_neg g2,if_neg λz=>z.elim g2 g]
    ·obtain⟨z,rfl⟩:=hI
     have ed:(dn none E λe=>sz e-due ps e-if e∈Es then p else 0)=dn none E λe=>sz e-due (ps++[⟨S,p,fr.length⟩]) e:=c1b λe he=>by
      rw[a5s]
      by_cases g:ent S e=true
      ·rw[if_pos ((hEs e).mpr ⟨he,g⟩),if_pos g];lia
      ·rw[if_neg λz=>g ((hEs e).mp z).2,if_neg g];lia
     rw[ed]
     simp
     refine⟨by simp only[big];lia,?_⟩
     refine a0o (f:=a3t) (g:=a3t) (p:=λe=>decide (sz e-due ps e=p)) Es [] (λe he K N k1 k2=>?_) ?_
     ·simp[a3t,dn]
      rw[a8c,b2y ((hEs e).mp he).1,a1t,a5s,if_pos ((hEs e).mp he).2]
      rw[codI.eq]
      refine ite2 (λg=>k1 ?_) λg=>k2 ?_
      ·have g:=of_decide_eq_true g
       exact decide_eq_true (by lia)
      ·have g:=of_decide_eq_false (Bool.eq_false_iff.mpr g)
       exact decide_eq_false (by lia)
     ·have hfp:1<=(Es.filter λe=>decide (sz e-due ps e=p)).length:=by
       obtain ⟨e,g1,g2⟩:=hin'
       exact List.length_pos_of_mem (List.mem_filter.mpr ⟨g1,decide_eq_true g2⟩)
      have hl2:=h'.nd.length_le_of_subset h'.sub
      simp
      simp only[List.length_append] at hl2
      refine⟨by simp only[big];lia,?_⟩
      rw[<- List.map_append]
      refine c2e d n h'.nd (by simp only[List.length_append];lia) (λe he=>G.rg e (h'.sub e he)) hn λS' hS'=>⟨c9e S',hK _ _ ?_ ⟨_,_,S',some (FV.lst (Es.map a3t)),some (FV.int p),z,rfl,h',hS',?_,by simp⟩⟩
      ·simp only[List.length_append];lia
      ·simp only[List.length_append,List.length_cons,List.length_nil];lia
noncomputable def d2w:Option Nat->Int|none=>-1|some a=>a
theorem b7d {S:List Nat}{i:Int}{R:Bool->Prop}:wp (inF (.int i) (.tup (S.map λj:Nat=>FV.int j))) R↔R (decide (i∈S.map λj:Nat=>(j:Int))):=by
 have:=codI.inT i (S.map λj:Nat=>(j:Int)) R
 rw[List.map_map] at this
 exact this
theorem b1q (S:List Nat)(e:Ent):ent S e=(decide ((e.2:Int)∈S.map λj:Nat=>(j:Int)) && !decide (d2w e.1∈S.map λj:Nat=>(j:Int))):=by
 obtain⟨on,t⟩:=e
 have h:∀ a:Nat,((a:Int)∈S.map λj:Nat=>(j:Int))↔a∈S:=λa=>by
  rw[List.mem_map]
  exact⟨λ⟨x,h1,h2⟩=>by rwa [<- show x=a by lia],λh=>⟨a,h,rfl⟩⟩
 cases on with
 | none =>
  have:(-1:Int) ∉ S.map λj:Nat=>(j:Int):=λz=>by
   obtain⟨x,_,h2⟩:=List.mem_map.mp z
   lia
  simp[ent,d2w,h,this]
 | some a=>simp[ent,d2w,h]
theorem a8k (d:Nat){ps:List Prc}(e:Ent)(hl:ps.length<=1000)(hp:∀ q∈ps,0<=q.p/\q.p<=100000000000){Q:FV×FV->Prop}(q:Q (.int (due ps e),.non)):callW tb (d+1) 15 [.lst (ps.map a4v),.int (d2w e.1),.int e.2] Q:=by
 refine a1a (fd:=d7h) rfl rfl ?_
 simp[d7h,d2x]
 refine⟨by simp only[big];lia,?_⟩
 refine a0o (f:=a4v) (g:=λq=>.int q.p) (p:=λq=>ent q.S e) ps [] (λc hc K N k1 k2=>?_) ?_
 ·simp[a4v]
  rw[b7d]
  refine ite2 (λg1=>?_) λg1=>?_
  ·rw[b7d]
   refine ite2 (λg2=>k2 ?_) λg2=>k1 ?_
   ·rw[b1q,g1,g2];rfl
   ·rw[b1q,g1,Bool.eq_false_iff.mpr g2];rfl
  ·exact k2 (by rw[b1q,Bool.eq_false_iff.mpr g1];rfl)
 ·rw[List.nil_append,show ((ps.filter λq=>ent q.S e).map λq=>FV.int q.p)=((ps.filter λq=>ent q.S e).map (·.p)).map .int by rw[List.map_map];rfl]
  refine b0x (by have:=List.length_filter_le (λq:Prc=>ent q.S e) ps;simp;lia) (λx hx=>?_) q
  obtain⟨c,hc,rfl⟩:=List.mem_map.mp hx
  exact hp c (List.mem_filter.mp hc).1
structure Sto (ws:List Int)(cs:List Chg)(sz:Ent->Int):Prop where
 n:ws.length<=12
 l:cs.length<=144
 w:∀ m (h:m<ws.length),sz (none,m)=ws[m]
 c:∀ c∈cs,sz (some c.1,c.2.1)=c.2.2
 r:∀ c∈cs,c.1<ws.length/\c.2.1<ws.length/\c.1≠c.2.1
 k:(cs.map λc=>(c.1,c.2.1)).Nodup
 p:∀ e∈a4f ws.length cs,0<sz e/\sz e<=2000000000
theorem Sto.nd {ws:List Int}{cs:List Chg}{sz:Ent->Int}(h:Sto ws cs sz):(a4f ws.length cs).Nodup:=by
 have hk:=h.k
 unfold a4f
 refine List.nodup_append.mpr ⟨?_,?_,λa ha b hb e=>?_⟩
 ·rw[List.Nodup,List.pairwise_map]
  exact List.nodup_range.imp λh e=>h (congrArg Prod.snd e)
 ·rw[List.Nodup,List.pairwise_map] at hk ⊢
  exact hk.imp λh e=>h (by
   have h1:=congrArg Prod.fst e
   have h2:=congrArg Prod.snd e
   exact Prod.ext (Option.some.inj h1) h2)
 ·obtain⟨m,_,rfl⟩:=List.mem_map.mp ha
  obtain⟨c,_,rfl⟩:=List.mem_map.mp hb
  cases e
theorem Sto.est {ws:List Int}{cs:List Chg}{sz:Ent->Int}(h:Sto ws cs sz):Est ws.length (a4f ws.length cs) sz:=by
 refine⟨h.nd,λe he=>?_,λm hm=>?_,λe he=>(h.p e he).1,λe he=>by have:=(h.p e he).2;lia,?_⟩
 ·rcases List.mem_append.mp he with he|he
  ·obtain⟨m,hm,rfl⟩:=List.mem_map.mp he
   exact⟨List.mem_range.mp hm,λa z=>nomatch z⟩
  ·obtain⟨c,hc,rfl⟩:=List.mem_map.mp he
   have:=h.r c hc
   exact⟨this.2.1,λa z=>by cases z;exact this.1⟩
 ·exact List.mem_append_left _ (List.mem_map.mpr ⟨m,List.mem_range.mpr hm,rfl⟩)
 ·have:=h.n
  have:=h.l
  simp[a4f];lia
structure Told (ws:List Int)(cs:List Chg)(sz:Ent->Int)(ps:List Prc)(ls:List (Option Nat)):Prop where
 len:ls.length=ws.length
 rk:∃ r,Rk ls r
 ent:∀ e∈ens ls,e∈a4f ws.length cs
 sum:((ens ls).map sz).sum=(ps.map (·.p)).sum
 low:∀ e∈a4f ws.length cs,due ps e<=sz e
 pos:∀ q∈ps,0<q.p
 bd:∀ q∈ps,q.p<=2000000000
 ne:∀ q∈ps,q.S≠[]
 up:∀ q∈ps,q.S.Pairwise (· < ·)
 lt:∀ q∈ps,∀ m∈q.S,m<ws.length
 dst:(ps.map (·.S)).Nodup
 pl:ps.length<=156
theorem b4x (d:Nat){ws:List Int}{cs:List Chg}{sz:Ent->Int}(h:Sto ws cs sz){Q:FV×FV->Prop}(q:∀ ps ls,Told ws cs sz ps ls->Q (.tup [.int (ps.map (·.p)).sum,.tup (ls.map a0n),.lst (ps.map a4v)],.non)):callW tb (d+3) 0 [a5r ws cs] Q:=by
 have G:=h.est
 refine c3h d (by have:=h.n;lia) (by have:=h.l;lia) h.w h.c G λfr ps us ls H c hall hls hat hp=>q ps ls ?_
 have rg:Rng ws.length fr:=λe he=>G.rg e (H.sub e he)
 obtain⟨hr,hperm⟩:=c.lay rg hls hat
 refine⟨hls,hr,λe he=>H.sub e (c.sub e (hperm.mem_iff.mp he)),?_,H.low,H.pos,λq hq=>?_,H.ne,H.up,H.lt,H.dst,by have:=h.n;have:=h.l;simp[a4f] at hp;lia⟩
 ·rw[b9c (hperm.map sz)]
  exact c.room H hall
 ·obtain⟨e,g1,g2⟩:=H.hit q hq
  have:=b3f g2 H.pos hq
  have:=(H.free e (H.sub e g1)).mp g1
  have:=(h.p e (H.sub e g1)).2
  lia
theorem Told.least {ws:List Int}{cs:List Chg}{sz:Ent->Int}{ps:List Prc}{ls ls':List (Option Nat)}(h:Told ws cs sz ps ls){r:Nat->Nat}(hl:ls'.length=ws.length)(hr:Rk ls' r)(he:∀ e∈ens ls',e∈a4f ws.length cs):(ps.map (·.p)).sum<=((ens ls').map sz).sum :=
 a5x (λe hx=>h.low e (he e hx)) h.pos λq hq=>hr.enter (h.ne q hq) λm hm=>by rw[hl];exact h.lt q hq m hm
theorem Sto.keys {ws:List Int}{cs:List Chg}{sz:Ent->Int}(h:Sto ws cs sz):(cs.map keyH).Nodup:=by
 have:=h.k
 rw[List.Nodup,List.pairwise_map] at this ⊢
 exact this.imp λh e=>h (by simp[keyH] at e;exact Prod.ext (by dsimp only;lia) (by dsimp only;lia))
theorem c2h (d:Nat){ws:List Int}{cs:List Chg}{sz:Ent->Int}(h:Sto ws cs sz){Q:FV×FV->Prop}(q:Q (.dct (cs.map keyH) (cs.map λc=>.int c.2.2),.non)):callW tb (d+1) 11 [a5r ws cs] Q:=by
 have hc:=h.l
 refine a1a (fd:=d7l) rfl rfl ?_
 simp[d7l,d2y,a5r]
 refine⟨by simp[big];lia,?_⟩
 refine a1e (f:=a6r) (g:=λc=>FV.tup [.tup [.int c.1,.int c.2.1],.int c.2.2]) cs [] (λx hx K k=>?_) ?_
 ·simp[a6r,big]
  exact k
 ·rw[List.nil_append,a9i,a1t,a7c _ [] [] (by simpa[List.map_map,Function.comp_def] using h.keys)]
  simpa[List.map_map,Function.comp_def] using q
structure Lyg (ws:List Int)(cs:List Chg)(ls:List (Option Nat)):Prop where
 len:ls.length=ws.length
 rk:∃ r,Rk ls r
 ent:∀ e∈ens ls,e∈a4f ws.length cs
theorem Lyg.on {ws:List Int}{cs:List Chg}{ls:List (Option Nat)}(h:Lyg ws cs ls){m a:Nat}(hm:m<ls.length)(e:ls.getD m none=some a):a<ls.length/\∃ c∈cs,c.1=a/\c.2.1=m:=by
 obtain⟨r,hr⟩:=h.rk
 refine⟨(hr.on m a hm e).1,?_⟩
 rcases List.mem_append.mp (h.ent (some a,m) (mem_ens.mpr ⟨hm,e⟩)) with z|z
 ·obtain⟨x,_,z⟩:=List.mem_map.mp z;cases z
 ·obtain⟨c,hc,z⟩:=List.mem_map.mp z
  cases z;exact⟨c,hc,rfl,rfl⟩
theorem c1k (ls:List (Option Nat)):a2f (upF 0 (ls.map a0n).length) (ls.map a0n)=(List.range ls.length).map λm:Nat=>FV.tup [.int (m:Int),a0n (ls.getD m none)]:=by
 rw[a1h]
 apply List.ext_getElem
 ·simp[a2f]
 ·intro i g1 g2
  simp[a2f] at g2 ⊢
  rw[List.getElem?_eq_getElem g2];rfl
theorem b1x {ls:List (Option Nat)}{i:Nat}(hi:i<ls.length)(Q:FV->Prop):wp (atF (ls.map a0n) (i:Int)) Q↔Q (a0n (ls.getD i none)) :=
 a4b rfl (by rw[List.getElem?_map,List.getElem?_eq_getElem hi];simp[hi])
noncomputable def stp (ls:List (Option Nat)):Option Nat->Option Nat
 | none=>none
 | some a=>ls.getD a none
noncomputable def itr (ls:List (Option Nat))(o:Option Nat):Nat->Option Nat
 | 0=>o
 | k+1=>stp ls (itr ls o k)
theorem b6v {ls:List (Option Nat)}{r:Nat->Nat}(h:Rk ls r){m:Nat}(hm:m<ls.length):∀ k,(∀ a,itr ls (some m) k=some a->a<ls.length/\r a+k<=r m)
 | 0=>λa e=>by cases e;exact⟨hm,Γi _⟩
 | k+1=>λa e=>by
  rw[itr] at e
  cases g:itr ls (some m) k with
  | none=>rw[g] at e;cases e
  | some b =>
   rw[g] at e
   obtain⟨h1,h2⟩:=b6v h hm k b g
   have:=h.on b a h1 e
   lia
theorem c4u {ls:List (Option Nat)}{r:Nat->Nat}(h:Rk ls r){m:Nat}(hm:m<ls.length):itr ls (some m) ls.length=none:=by
 cases g:itr ls (some m) ls.length with
 | none=>rfl
 | some a =>
  have h1:=(b6v h hm _ a g).2
  have h2:=h.lt m hm
  lia
theorem c4n (d:Nat){ws:List Int}{cs:List Chg}{sz:Ent->Int}(h:Sto ws cs sz){ls:List (Option Nat)}(hl:Lyg ws cs ls){Q:FV×FV->Prop}(q:Q (.bl true,.non)):callW tb (d+2) 14 [a5r ws cs,.tup (ls.map a0n)] Q:=by
 have hn:=h.n
 have hll:=hl.len
 obtain⟨r,hr⟩:=hl.rk
 refine a1a (fd:=d7i) rfl rfl ?_
 simp[d7i,d8r]
 refine c2h d h ?_
 simp
 rw[<- List.length_map (f:=a0n),c1k]
 refine⟨by simp[big];lia,?_⟩
 refine a1e (f:=λm:Nat=>FV.tup [.int (m:Int),a0n (ls.getD m none)]) (g:=λ_=>.bl false) (List.range ls.length) [] (λm hm K k=>?_) ?_
 ·have hm:=List.mem_range.mp hm
  cases e:ls.getD m none with
  | none=>simpa[a0n] using k
  | some a =>
   obtain⟨_,c,hc,e1,e2⟩:=hl.on hm e
   have:[(a:Int),(m:Int)]∈cs.map keyH:=List.mem_map.mpr ⟨c,hc,by rw[<- e1,<- e2];rfl⟩
   simp[a0n]
   refine⟨by decide,?_⟩
   rw[decide_eq_true this]
   exact k
 ·rw[List.nil_append]
  simp[a3l (λ_=>false)]
  refine⟨a0r (by lia) (by lia),?_⟩
  refine a2g (I:=λj L=>∃ a b c,L=[some (a5r ws cs),some (.tup (ls.map a0n)),some (.dct (cs.map keyH) (cs.map λc=>.int c.2.2)),a,b,c]) ls.length 0 _ ⟨_,_,_,rfl⟩ ?_ ?_
  ·rintro m L K-hm ⟨a,b,c,rfl⟩ k
   simp
   refine⟨a0r (by lia) (by lia),?_⟩
   refine a2g (I:=λj L=>∃ c,L=[some (a5r ws cs),some (.tup (ls.map a0n)),some (.dct (cs.map keyH) (cs.map λc=>.int c.2.2)),some (.int m),some (a0n (itr ls (some m) j)),c]) ls.length 0 _ ⟨_,rfl⟩ ?_ ?_
   ·rintro j L K2-hj ⟨c,rfl⟩ k2
    cases e:itr ls (some m) j with
    | none =>
     simp[a0n]
     exact k2 _ ⟨_,by rw[itr,e];rfl⟩
    | some p =>
     have hp:=(b6v hr (by lia) _ p e).1
     simp[a0n]
     rw[b1x hp]
     exact k2 _ ⟨_,by rw[itr,e];rfl⟩
   ·rintro L ⟨c,rfl⟩
    rw[Nat.zero_add,c4u hr (by lia)]
    simp[a0n]
    exact k _ ⟨_,_,_,rfl⟩
  ·rintro L ⟨a,b,c,rfl⟩
   simp
   exact q
theorem c5b {ws:List Int}{cs:List Chg}{sz:Ent->Int}(h:Sto ws cs sz){c:Chg}(hc:c∈cs):a2r (cs.map keyH) (cs.map λc=>FV.int c.2.2) (keyH c)=some (.int (sz (some c.1,c.2.1))):=by
 have hk:=h.keys
 have hz:=h.c
 clear h
 induction cs with
 | nil=>cases hc
 | cons x r ih =>
  show (if keyH x=keyH c then some (FV.int x.2.2) else a2r (r.map keyH) (r.map λc=>FV.int c.2.2) (keyH c))=_
  simp only[List.map_cons,List.nodup_cons] at hk
  rcases List.mem_cons.mp hc with rfl|hc
  ·rw[if_pos rfl,hz c (by simp)]
  ·rw[if_neg λz:keyH x=keyH c=>hk.1 (by rw[z];exact List.mem_map_of_mem hc)]
   exact ih hc hk.2 λy hy=>hz y (by simp[hy])
theorem b7p (ls:List (Option Nat))(sz:Ent->Int):((ens ls).map sz)=(List.range ls.length).map λm=>sz (ls.getD m none,m):=by
 unfold ens;rw[List.map_map];rfl
theorem c0f (d:Nat){ws:List Int}{cs:List Chg}{sz:Ent->Int}(h:Sto ws cs sz){ls:List (Option Nat)}(hl:Lyg ws cs ls){Q:FV×FV->Prop}(q:Q (.int ((ens ls).map sz).sum,.non)):callW tb (d+2) 13 [a5r ws cs,.tup (ls.map a0n)] Q:=by
 have hn:=h.n
 have hll:=hl.len
 refine a1a (fd:=d7j) rfl rfl ?_
 simp[d7j,d8s]
 refine c2h d h ?_
 simp
 rw[<- List.length_map (f:=a0n),c1k]
 refine a2s (f:=λm:Nat=>FV.tup [.int (m:Int),a0n (ls.getD m none)]) (I:=λdone L=>∃ x y,L=[some (a5r ws cs),some (.tup (ls.map a0n)),some (.dct (cs.map keyH) (cs.map λc=>.int c.2.2)),some (.int (done.map λm=>sz (ls.getD m none,m)).sum),x,y]) (List.range ls.length) (List.range ls.length) [] _ rfl ⟨_,_,rfl⟩ (λdd m r L K e hI hK=>?_) λL hI=>?_
 ·obtain⟨x,y,rfl⟩:=hI
  have hm:m<ls.length:=List.mem_range.mp (by rw[e];simp)
  cases g:ls.getD m none with
  | none =>
   simp[a0n,a5r]
   rw[a4b rfl (v:=.int (sz (none,m))) (by rw[List.getElem?_map,List.getElem?_eq_getElem (by lia),h.w m (by lia)];rfl)]
   simp
   rw[List.getD_eq_getElem?_getD] at g
   exact hK _ ⟨some (.int m),some .non,by simp[a5r,g]⟩
  | some a =>
   obtain⟨_,c,hc,e1,e2⟩:=hl.on hm g
   have hg:=c5b h hc
   rw[show keyH c=[(c.1:Int),(c.2.1:Int)] from rfl,e1,e2] at hg
   simp[a0n]
   refine⟨by decide,?_⟩
   rw[hg,a1t]
   simp
   rw[List.getD_eq_getElem?_getD] at g
   exact hK _ ⟨some (.int m),some (.int a),by simp[g]⟩
 ·obtain⟨x,y,rfl⟩:=hI
  simp
  rw[b7p] at q
  exact q
theorem c0a (d:Nat)(xs:List Int)(hl:xs.length<=1000){Q:FV×FV->Prop}(q:Q (.bl true,.non)):callW tb (d+1) 10 [.lst (xs.map .int)] Q:=by
 refine a1a (fd:=d7m) rfl rfl ?_
 simp[d7m,d2z]
 refine⟨by simp[big];lia,?_⟩
 refine a1e (f:=FV.int) (g:=λ_=>.bl true) xs [] (λx hx K k=>?_) ?_
 ·simp
  exact k
 ·rw[List.nil_append,a3l (λ_=>true),a1t,show ((xs.map λ_=>true).all id)=true by simp]
  exact q
noncomputable def b0a (S:List Nat):FV:=.tup (S.map λi:Nat=>.int i)
noncomputable def dM (S:List Nat):D:=.tup (S.map λi:Nat=>.int i)
theorem a8n:∀ S T:List Nat,D.eqvs (S.map λi:Nat=>D.int i) (T.map λi:Nat=>D.int i)=decide (S=T)
 | [],[]=>by simp[D.eqvs]
 | [],b :: T=>by simp[D.eqvs]
 | a :: S,[]=>by simp[D.eqvs]
 | a :: S,b :: T=>by
  simp only[List.map_cons,D.eqvs,D.eqv,a8n S T]
  rw[Bool.eq_iff_iff]
  simp
  lia
theorem codM:Cod b0a dM:=⟨λk S=>by
 show (a8v (fD (k+2)) (S.map λi:Nat=>FV.int i)).map D.tup=_
 rw[a4q (g:=λi:Nat=>D.int i) λx=>rfl];rfl,λS T=>by
 show D.eqvs _ _=_
 exact a8n S T⟩
noncomputable def encG (S:List Nat):FV:=.lst (S.map λi:Nat=>.int i)
theorem codG:Cod encG (λS=>.lst (S.map λi:Nat=>.int i)):=⟨λk S=>by
 show (a8v (fD (k+2)) (S.map λi:Nat=>FV.int i)).map D.lst=_
 rw[a4q (g:=λi:Nat=>D.int i) λx=>rfl];rfl,λS T=>by
 show D.eqvs _ _=_
 exact a8n S T⟩
theorem mem_natI {S:List Nat}{m:Nat}:((m:Int)∈S.map λj:Nat=>(j:Int))↔m∈S:=by
 rw[List.mem_map]
 exact⟨λ⟨x,h1,h2⟩=>by rwa [<- show x=m by lia],λh=>⟨m,h,rfl⟩⟩
theorem a3s (ws:List Int)(cs:List Chg)(Q:List FV->Prop):wp (a4z (a5r ws cs)) Q↔Q [.tup (ws.map .int),.tup (cs.map a6r)]:=Iff.rfl
theorem b4s {n:Nat}{S:List Nat}(hu:S.Pairwise (· < ·))(hl:∀ m∈S,m<n):((List.range n).filter λm=>decide (m∈S))=S:=by
 refine List.Perm.eq_of_pairwise (le:=(· < ·)) (λa b _ _ h1 h2=>by lia) (List.pairwise_lt_range.filter _) hu ?_
 refine (List.perm_ext_iff_of_nodup (List.nodup_range.filter _) (hu.imp λh=>by lia)).mpr λa=>?_
 simp
 exact hl a
theorem c4m (d:Nat) {ws:List Int} {cs:List Chg} {sz:Ent->Int} (h:Sto ws cs sz) {ps:List Prc} {ls:List (Option Nat)} (t:Told ws cs sz ps ls) {Q:FV×FV->Prop} (q:Q (.bl true,.non)):callW tb (d+2) 16 [a5r ws cs,.lst (ps.map a4v)] Q:=by
  have hn:=h.n
  have hpl:=t.pl
  refine a1a (fd:=d7g) rfl rfl ?_
  simp[d7g,d8q]
  refine a2s (f:=a4v) (I:=λdone L=>∃ x y z,L=[some (a5r ws cs),some (.lst (ps.map a4v)),some (.lst ((done.map (·.S)).map b0a)),x,y,z]) ps ps [] _ rfl ⟨_,_,_,rfl⟩ (λdd c r L K e hI hK=>?_) λL hI=>?_
  · obtain⟨x,y,z,rfl⟩:=hI
    have hc:c∈ps:=by rw[e];simp
    have hne:=t.ne c hc
    have hlen:c.S.length<=12:=by
      have:=(t.up c hc).imp (S:=(·≠·)) λh=>by lia
      have:=List.Nodup.length_le_of_subset (l₂:=List.range ws.length) this λx hx=>List.mem_range.mpr (t.lt c hc x hx)
      simp at this;lia
    have hnd:c.S ∉ dd.map (·.S):=λz=>by
      have:=t.dst
      rw[e,List.map_append,List.map_cons] at this
      exact (List.nodup_append.mp this).2.2 _ z _ (by simp) rfl
    have hpos:=t.pos c hc
    simp[a4v]
    rw[show FV.tup (c.S.map λi:Nat=>FV.int i)=b0a c.S from rfl,show FV.tup []=b0a [] from rfl,codM.eq]
    rw[if_neg (by simpa using hne)]
    refine⟨by decide,by simp only[big];lia,?_⟩
    rw[show (c.S.map (λi:Nat=>FV.int i)++[FV.int c.p])=((c.S.map λi:Nat=>(i:Int))++[c.p]).map .int by simp[Function.comp_def]]
    refine c0a d _ (by simp;lia) ?_
    simp
    rw[if_neg (by lia),show List.map (b0a ∘ λx:Prc=>x.S) dd=(dd.map (·.S)).map b0a by rw[List.map_map],codM.inL]
    rw[if_neg (by simpa using hnd),a3s]
    simp
    refine⟨a0r (by lia) (by lia),by simp[a1h,big];lia,?_⟩
    rw[a1h]
    refine a0o (f:=λi:Nat=>FV.int i) (g:=λi:Nat=>FV.int i) (p:=λm=>decide (m∈c.S)) (List.range ws.length) [] (λm hm K N k1 k2=>?_) ?_
    · simp[b0a]
      rw[b7d]
      refine ite2 (λg=>k1 ?_) λg=>k2 ?_
      · exact decide_eq_true (mem_natI.mp (of_decide_eq_true g))
      · exact decide_eq_false λz=>g (decide_eq_true (mem_natI.mpr z))
    · rw[List.nil_append,b4s (t.up c hc) (t.lt c hc),show FV.lst (c.S.map λi:Nat=>FV.int i)=encG c.S from rfl,codG.eq]
      simp
      refine ⟨by have : dd.length <= ps.length := by rw [e]; simp
                 simp only [big]; lia, hK _ ⟨some (.tup [b0a c.S, .int c.p]), some (b0a c.S), some (.int c.p), by simp⟩⟩
  · obtain⟨x,y,z,rfl⟩:=hI
    simp
    rw[a3s]
    simp
    have ep:a2f (upF 0 ws.length) (ws.map .int)=(List.range ws.length).map λm:Nat=>FV.tup [.int (m:Int),.int (sz (none,m))]:=by
      rw[a1h]
      apply List.ext_getElem
      · simp[a2f]
      · intro i g1 g2
        simp [a2f] at g2 ⊢
        exact (h.w i g2).symm
    have hpb:∀ q∈ps,0<=q.p/\q.p<=100000000000:=λq hq=>by
      have:=t.pos q hq
      have:=t.bd q hq
      lia
    rw[ep]
    refine⟨by simp[big];lia,?_⟩
    refine a1e (f:=λm:Nat=>FV.tup [.int (m:Int),.int (sz (none,m))]) (g:=λ_=>.bl false) (List.range ws.length) [] (λm hm K k=>?_) ?_
    · have hm:=List.mem_range.mp hm
      simp
      refine a8k (ps:=ps) d (none,m) (by lia) hpb ?_
      have:=t.low (none,m) (List.mem_append_left _ (List.mem_map.mpr ⟨m,List.mem_range.mpr hm,rfl⟩))
      simp
      rw[decide_eq_false (by lia)]
      exact k
    · rw[List.nil_append]
      simp[a3l (λ_=>false)]
      rw[a3s]
      simp
      refine⟨by have:=h.l;simp only[big];lia,?_⟩
      refine a1e (f:=a6r) (g:=λ_=>.bl true) cs [] (λc hc K k=>?_) ?_
      · simp[a6r]
        refine a8k (ps := ps) d (some c.1, c.2.1) (by lia) hpb ?_
        have := t.low (some c.1, c.2.1) (List.mem_append_right _ (List.mem_map.mpr ⟨c, hc, rfl⟩))
        rw [h.c c hc] at this
        simp
        rw [decide_eq_true (by lia)]
        exact k
      · rw[List.nil_append,a3l (λ_=>true),a1t,show ((cs.map λ_=>true).all id)=true by simp]
        exact q
theorem c4y {α β:Type}(f:α->β)(xs:List α) (k:Nat)(y:α):b4c (xs.map f) k (f y)=(b4c xs k y).map f:=by simp[b4c,List.map_take,List.map_drop]
theorem c0o {α:Type}(xs:List α) (k:Nat)(y:α):(b4c xs k y).Perm (y :: xs):=by
 have:=List.perm_middle (a:=y) (l₁:=xs.take k) (l₂:=xs.drop k)
 rwa [List.take_append_drop] at this
noncomputable def a6g (l:List Nat):List FV:=l.map λi:Nat=>FV.int i
noncomputable def Ord (n:Nat)(os:List Nat)(ls:List (Option Nat)):Prop:=ls.length=n/\∀ m a,ls[m]?=some (some a)->a<n/\os.idxOf a<os.idxOf m
theorem Und.trans {ls:List (Option Nat)}{a b c:Nat}(h:Und ls a b)(k:Und ls b c):Und ls a c:=by
 induction k with
 | refl=>exact h
 | step e _ ih=>exact .step e ih
theorem c6n (d:Nat){ls:List (Option Nat)}{r:Nat->Nat}(hr:Rk ls r)(hn:ls.length<=12){m:Nat}(hm:m<ls.length){Q:FV×FV->Prop}(q:∀ l,(∀ a,a∈l↔Und ls a m)->Q (.lst (a6g l),.non)):callW tb (d+1) 12 [.lst (ls.map a0n),.int m] Q:=by
 have hrm:=hr.lt m hm
 refine a1a (fd:=d7k) rfl rfl ?_
 simp[d7k,d8t]
 refine⟨by decide,?_⟩
 refine while_by (I:=λk L=>∃ h t,k=r h/\h<ls.length/\t.length+r h<=r m/\(∀ a∈h :: t,Und ls a m)/\(∀ a,Und ls a m->a∈t ∨ Und ls a h)/\L=[some (.lst (ls.map a0n)),some (.int m),some (.lst (a6g (h :: t)))]) (λk L K h hK=>?_) (m:=r m) ⟨m,[],rfl,hm,by simp,by simp;exact .refl,λa h=>.inr h,rfl⟩
 obtain⟨h,t,rfl,hh,hl,h1,h2,rfl⟩:=h
 simp[a6g]
 rw[b1x hh]
 cases g:ls.getD h none with
 | none =>
  simp[a0n]
  refine q (h :: t) λa=>⟨h1 a,λu=>?_⟩
  rcases h2 a u with z|z
  ·exact Γh _ z
  ·cases z with
   | refl=>simp
   | step e _=>rw[g] at e;cases e
 | some b =>
  have hb:=hr.on h b hh g
  simp[a0n]
  rw[b1x hh,g]
  simp[a0n]
  refine⟨by simp only[big];lia,hK _ _ hb.2 ⟨b,h :: t,rfl,hb.1,by simp;lia,λa ha=>?_,λa u=>?_,by simp[b4c,a6g]⟩⟩
  ·rcases List.mem_cons.mp ha with rfl|ha
   ·exact Und.trans (.step g .refl) (h1 h (by simp))
   ·exact h1 a ha
  ·rcases h2 a u with z|z
   ·exact .inl (Γh _ z)
   ·cases z with
    | refl=>exact .inl (by simp)
    | step e u=>rw[g] at e;cases e;exact .inr u
theorem Ord.rk {n:Nat}{os:List Nat}{ls:List (Option Nat)}(hp:os.Perm (List.range n))(h:Ord n os ls):Rk ls os.idxOf:=by
 refine⟨λm hm=>?_,λm a hm e=>?_⟩
 ·have:=List.idxOf_lt_length_of_mem (hp.mem_iff.mpr (List.mem_range.mpr (by rw[<- h.1];exact hm)))
  rw[hp.length_eq,List.length_range] at this
  rw[h.1];exact this
 ·rw[List.getD_eq_getElem?_getD] at e
  have:=h.2 m a (by
   rw[List.getElem?_eq_getElem hm] at e ⊢
   exact congrArg some e)
  rw[h.1];exact this
noncomputable def c2t (ls:List (Option Nat)) (m o:Nat):Bool:=open Classical in decide (Und ls m o)
theorem undB_iff {ls:List (Option Nat)}{m o:Nat}:c2t ls m o=true↔Und ls m o:=by simp[c2t]
theorem c5a {l:List Nat}{k:Nat}{R:Bool->Prop}:wp (inF (.int k) (.lst (a6g l))) R↔R (decide (k∈l)):=by
 have:=codL.inL (some k) (l.map some) R
 rw[List.map_map,show decide (some k∈l.map some)=decide (k∈l) by simp] at this
 exact this
theorem d5i (l:List Nat):b1f (a6g l)=true:=a5m _ (λi=>by simp) l
structure Pln (ls:List (Option Nat)) (b:Nat)(T:Nat->Prop)(ps:List Prc):Prop where
 one:∀ q∈ps,(ens ls).countP (ent q.S)=1
 ne:∀ q∈ps,q.S≠[]
 lt:∀ q∈ps,∀ m∈q.S,m<ls.length
 pos:∀ q∈ps,0<q.p/\q.p<=10000000
 len:ps.length<=b
 sgl:∀ m,T m->∃ q∈ps,q.S=[m]
theorem Pln.mono {ls:List (Option Nat)}{b b':Nat}{T T':Nat->Prop}{ps:List Prc}(h:Pln ls b T ps)(hb:b<=b')(hT:∀ m,T' m->T m ∨ ∃ q∈ps,q.S=[m]):Pln ls b' T' ps :=
 ⟨h.one,h.ne,h.lt,h.pos,Nat.le_trans h.len hb,λm hm=>(hT m hm).elim (h.sgl m) id⟩
theorem Pln.add {ls:List (Option Nat)}{b:Nat}{T:Nat->Prop}{ps:List Prc}{S:List Nat}{p:Int}(h:Pln ls b T ps)(h1:(ens ls).countP (ent S)=1)(h2:S≠[])(h3:∀ m∈S,m<ls.length)(h4:0<p/\p<=10000000):Pln ls (b+1) (λm=>T m ∨ S=[m]) (ps++[⟨S,p,0⟩]):=by
 have cs:∀ {P:Prc->Prop},(∀ q∈ps,P q)->P ⟨S,p,0⟩->∀ q∈ps++[⟨S,p,0⟩],P q:=λa b q hq=>by
  rcases List.mem_append.mp hq with hq|hq
  ·exact a q hq
  ·simp at hq;subst hq;exact b
 refine⟨cs h.one h1,cs h.ne h2,cs h.lt h3,cs h.pos h4,by have:=h.len;simp;lia,λm hm=>?_⟩
 rcases hm with hm|hm
 ·obtain⟨q,g1,g2⟩:=h.sgl m hm
  exact⟨q,by simp[g1],g2⟩
 ·exact⟨⟨S,p,0⟩,by simp,hm⟩
theorem b7t {ps:List Prc}(h:∀ q∈ps,0<q.p/\q.p<=10000000)(e:Ent):due ps e<=10000000*ps.length:=by
 rw[b0b]
 induction ps with
 | nil=>simp
 | cons q r ih =>
  have:=ih λx hx=>h x (by simp[hx])
  have:=h q (by simp)
  simp only[List.map_cons,List.sum_cons,List.length_cons]
  split<;>(push_cast;lia)
theorem Pln.due {ls:List (Option Nat)}{b:Nat}{T:Nat->Prop}{ps:List Prc}(h:Pln ls b T ps){e:Ent}(ht:T e.2)(hne:e.1≠some e.2):0<due ps e:=by
 obtain⟨q,g1,g2⟩:=h.sgl e.2 ht
 have:=b3f (e:=e) (q:=q) (by
  rw[g2]
  obtain⟨on,t⟩:=e
  exact ent_iff.mpr ⟨by simp,λa ea z=>hne (by simp at z;rw[ea,z])⟩) (λq hq=>(h.pos q hq).1) g1
 have:=(h.pos q g1).1
 lia
structure Szs (n:Nat)(ls:List (Option Nat))(ps:List Prc)(T:Nat->Nat->Prop) (l:Nat)(cs:List Chg):Prop where
 c:∀ c∈cs,T c.2.1 c.1/\c.1<n/\c.2.1<n/\c.1≠c.2.1/\0<c.2.2/\due ps (some c.1,c.2.1)<=c.2.2/\c.2.2<=due ps (some c.1,c.2.1)+9/\(ls.getD c.2.1 none=some c.1->c.2.2=due ps (some c.1,c.2.1))
 k:(cs.map λc=>(c.1,c.2.1)).Nodup
 h:∀ m a,T m a->ls.getD m none=some a->∃ c∈cs,c.1=a/\c.2.1=m
 l:cs.length<=l
theorem Szs.mono {n:Nat}{ls:List (Option Nat)}{ps:List Prc}{T T':Nat->Nat->Prop}{l l':Nat}{cs:List Chg}(h:Szs n ls ps T l cs)(h1:∀ m a,T m a->T' m a)(h2:∀ m a,T' m a->T m a ∨ ls.getD m none≠some a)(hl:l<=l'):Szs n ls ps T' l' cs :=
 ⟨λc hc=>⟨h1 _ _ (h.c c hc).1,(h.c c hc).2⟩,h.k,λm a t e=>(h2 m a t).elim (λt=>h.h m a t e) λz=>absurd e z,Nat.le_trans h.l hl⟩
theorem Szs.add {n:Nat}{ls:List (Option Nat)}{ps:List Prc}{T:Nat->Nat->Prop}{l:Nat}{cs:List Chg}(h:Szs n ls ps T l cs){a b:Nat}{s:Int}(hT:¬ T b a)(ha:a<n)(hb:b<n)(hne:a≠b)(h0:0<s)(h1:due ps (some a,b)<=s)(h2:s<=due ps (some a,b)+9)(h3:ls.getD b none=some a->s=due ps (some a,b)):Szs n ls ps (λm x=>T m x ∨ m=b/\x=a) (l+1) (cs++[(a,b,s)]):=by
 refine⟨λc hc=>?_,?_,λm x t e=>?_,by have:=h.l;simp;lia⟩
 ·rcases List.mem_append.mp hc with hc|hc
  ·exact⟨.inl (h.c c hc).1,(h.c c hc).2⟩
  ·simp at hc;subst hc
   exact⟨.inr ⟨rfl,rfl⟩,ha,hb,hne,h0,h1,h2,h3⟩
 ·rw[List.map_append]
  refine List.nodup_append.mpr ⟨h.k,by simp,λx hx y hy e=>?_⟩
  obtain⟨c,hc,rfl⟩:=List.mem_map.mp hx
  simp at hy
  subst hy
  have e1:=congrArg Prod.fst e
  have e2:=congrArg Prod.snd e
  dsimp only at e1 e2
  have:=(h.c c hc).1
  rw[e1,e2] at this
  exact hT this
 ·rcases t with t|⟨rfl,rfl⟩
  ·obtain⟨c,hc,g⟩:=h.h m x t e
   exact⟨c,by simp[hc],g⟩
  ·exact⟨(x,m,s),by simp,rfl,rfl⟩
structure Whs (ls:List (Option Nat))(ps:List Prc) (b:Nat)(ws:List Int):Prop where
 l:ws.length=b
 w:∀ m x,ws[m]?=some x->due ps (none,m)<=x/\x<=due ps (none,m)+9/\(ls.getD m none=none->x=due ps (none,m))
theorem Whs.add {ls:List (Option Nat)}{ps:List Prc}{b:Nat}{ws:List Int}(h:Whs ls ps b ws){x:Int}(h1:due ps (none,b)<=x)(h2:x<=due ps (none,b)+9)(h3:ls.getD b none=none->x=due ps (none,b)):Whs ls ps (b+1) (ws++[x]):=by
 refine⟨by simp[h.l],λm y e=>?_⟩
 rw[List.getElem?_append] at e
 split at e
 ·exact h.w m y e
 ·rename_i g
  rw[h.l] at g e
  rw[List.getElem?_singleton] at e
  split at e
  ·cases e
   have:m=b:=by lia
   subst this
   exact⟨h1,h2,h3⟩
  ·cases e
theorem b6f (d:Nat){N:Int}{v:FV}(hs:Lf N v)(hN:N<900000){R:FV×FV->Prop}(q:∀ u v',0<=u->u<9->Lf (N+2) v'->R (.int u,v')):callW tb (d+2) 7 [v,.int 3] λz1=>wp (ixF (.lst [.int 1,.int 2,.int 9]) z1.1) λz2=>callW tb (d+2) 7 [z1.2,z2] R:=by
 refine a1p d hs (by lia) (by lia) (by lia) λu v' u0 u1 hv'=>?_
 simp
 refine b3l u0 (by simpa using u1) λx hx=>?_
 obtain⟨k,rfl,k1,k2⟩:∃ k:Int,x=.int k/\1<=k/\k<=9:=by
  simp at hx
  rcases hx with rfl|rfl|rfl<;>exact⟨_,rfl,by lia,by lia⟩
 refine a1p d hv' (by lia) (by lia) (by lia) λw v2 w0 w1 hv2=>q w v2 w0 (by lia) (hv2.mono (by lia))
theorem d5j (o:Option Nat)(Q:FV->Prop):wp (a0v (a0n o)) Q↔Q (.bl o.isSome):=by
 cases o<;>simp[a0n]
theorem d0a (c:Prop) [Decidable c] {s:Int}(h0:0<=s)(h1:s<9):0<=(if c then 1 else 0)*s/\(if c then 1 else 0)*s<=9/\(¬ c->(if c then 1 else 0)*s=0):=by
 by_cases h:c
 ·rw[if_pos h];exact⟨by lia,by lia,λz=>absurd h z⟩
 ·rw[if_neg h];exact⟨by lia,by lia,λ_=>by lia⟩
theorem Szs.perm {n:Nat}{ls:List (Option Nat)}{ps:List Prc}{T:Nat->Nat->Prop}{l:Nat}{cs cs':List Chg}(h:Szs n ls ps T l cs)(hp:cs'.Perm cs):Szs n ls ps T l cs' :=
 ⟨λc hc=>h.c c (hp.mem_iff.mp hc),(hp.map _).nodup_iff.mpr h.k,λm a t e=>let ⟨c,hc,g⟩:=h.h m a t e;⟨c,hp.mem_iff.mpr hc,g⟩,by rw[hp.length_eq];exact h.l⟩
structure Pls (n:Nat)(ws:List Int)(cs:List Chg)(ls:List (Option Nat))(ps:List Prc):Prop where
 le:n<=12
 r:∃ r,Rk ls r
 l:ls.length=n
 p:Pln ls (2*n) (· < n) ps
 w:Whs ls ps n ws
 s:Szs n ls ps (λm _=>m<n) (n*n) cs
theorem b3t (d:Nat){N:Int}{v:FV}{n:Nat}(hs:Lf N v)(h0:0<=N)(hN:N<10000)(hn:n<=12){Q:FV×FV->Prop}(q:∀ ws cs ls ps v',Pls n ws cs ls ps->Lf (N+2000) v'->Q (.tup [a5r ws cs,.tup (ls.map a0n),.lst (ps.map a4v)],v')):callW tb (d+4) 17 [v,.int n] Q:=by
 refine a1a (fd:=d7f) rfl rfl ?_
 simp[d7f,d8p]
 refine⟨by decide,⟨by lia,by simp only[big];lia⟩,a0r (by lia) (by lia),?_⟩
 rw[show Γj n FV.non=(Γj n (none:Option Nat)).map a0n by simp[a0n]]
 refine a2g (I:=λk L=>∃ os v x,os.Perm (List.range k)/\Lf (N+k) v/\L=[some v,some (.int n),some (.lst ((Γj n (none:Option Nat)).map a0n)),some (.lst (a6g os)),x,none,none,none,none,none,none,none,none,none,none,none,none]) n 0 _ ⟨[],v,none,by simp,by simpa using hs,rfl⟩ (λk L K _ hk hI hK=>?_) λL hI=>?_
 ·obtain⟨os,v,x,hp,hv,rfl⟩:=hI
  have hol:=hp.length_eq
  simp at hol
  simp
  refine a1p (d+1) hv (by lia) (by lia) (by lia) λu v' u0 u1 hv'=>?_
  simp
  refine⟨⟨u0,by lia,by simp[a6g,big];lia⟩,hK _ ⟨b4c os u.toNat k,v',some (.int k),?_,hv'.mono (by push_cast;lia),by simp[a6g,c4y (λi:Nat=>FV.int i)]⟩⟩
  rw[List.range_succ]
  exact ((c0o os _ k).trans (hp.cons k)).trans (List.perm_append_singleton k (List.range k)).symm
 ·obtain⟨os,v,x,hp,hv,rfl⟩:=hI
  rw[Nat.zero_add] at hp hv
  have hol:=hp.length_eq
  simp at hol
  have ndo:os.Nodup:=hp.nodup_iff.mpr List.nodup_range
  have ltO:∀ a∈os,a<n:=λa ha=>List.mem_range.mp (hp.mem_iff.mp ha)
  have inO:∀ a,a<n->a∈os:=λa ha=>hp.mem_iff.mpr (List.mem_range.mpr ha)
  simp
  rw[show a2f (upF 0 (a6g os).length) (a6g os)=(List.range n).map λi:Nat=>FV.tup [.int (i:Int),.int ((os.getD i 0:Nat):Int)] by
   rw[a1h]
   apply List.ext_getElem
   ·simp[a2f,a6g,hol]
   ·intro i g1 g2
    simp[a2f,a6g] at g1 ⊢
    rw[List.getElem?_eq_getElem g1];rfl]
  rw[show Γj n (a0n none)=(Γj n (none:Option Nat)).map a0n by simp]
  refine a2s (f:=λi:Nat=>FV.tup [.int (i:Int),.int ((os.getD i 0:Nat):Int)]) (I:=λdone L=>∃ ls v y z,Ord n os ls/\Lf (N+n+2*(done.length:Int)) v/\L=[some v,some (.int n),some (.lst (ls.map a0n)),some (.lst (a6g os)),x,y,z,none,none,none,none,none,none,none,none,none,none]) (List.range n) (List.range n) [] _ rfl ⟨_,v,none,none,⟨by simp,λm a e=>by simp[List.getElem?_replicate] at e⟩,by simpa using hv,rfl⟩ (λdd i r L K e hI hK=>?_) λL hI=>?_
  ·obtain⟨ls,v,y,z,hO,hv,rfl⟩:=hI
   have hi:i<n:=List.mem_range.mp (by rw[e];simp)
   have hd:dd.length<12:=by
    have:=congrArg List.length e
    simp at this;lia
   have keep:∀ v',Lf (N+n+2*(dd.length:Int)+2) v'->K [some v',some (.int n),some (.lst (ls.map a0n)),some (.lst (a6g os)),x,some (.int i),some (.int ((os.getD i 0:Nat):Int)),none,none,none,none,none,none,none,none,none,none]:=λv' hv'=>hK _ ⟨ls,v',_,_,hO,hv'.mono (by simp;lia),rfl⟩
   obtain⟨p,hpi⟩:∃ p,os[i]?=some p:=⟨_,List.getElem?_eq_getElem (by lia)⟩
   have at':∀ {k a:Nat},os[k]?=some a->a<n/\os.idxOf a=k:=λ{k a} h=>by
    obtain⟨h1,rfl⟩:=List.getElem?_eq_some_iff.mp h
    exact⟨ltO _ (List.getElem_mem _),ndo.idxOf_getElem _ h1⟩
   have hoi:os.getD i 0=p:=by rw[List.getD_eq_getElem?_getD,hpi];rfl
   rw[hoi] at keep ⊢
   simp
   refine ite2 (λg1=>?_) λ_=>keep _ (hv.mono (by lia))
   refine a1p (d+1) hv (by lia) (by lia) (by lia) λu v' u0 u1 hv'=>?_
   simp
   refine ite2 (λg2=>?_) λ_=>keep _ (hv'.mono (by lia))
   refine a1p (d+1) hv' (by lia) (by lia) (by lia) λw v2 w0 w1 hv2=>?_
   obtain⟨j,rfl⟩:∃ j:Nat,w=j:=⟨w.toNat,by lia⟩
   have hj:j<i:=by lia
   obtain⟨o,hoj⟩:∃ o,os[j]?=some o:=⟨_,List.getElem?_eq_getElem (by lia)⟩
   simp
   rw[a4b rfl (v:=a0n (some o)) (by rw[a6g,List.getElem?_map,hoj];rfl)]
   rw[b6t rfl (by rw[hO.1];exact (at' hpi).1),<- List.map_set]
   refine hK _ ⟨ls.set p (some o),v2,some (.int i),some (.int p),⟨by rw[List.length_set];exact hO.1,λm a ha=>?_⟩,hv2.mono (by simp;lia),rfl⟩
   rw[List.getElem?_set] at ha
   split at ha
   ·rename_i em
    split at ha
    ·cases ha
     refine⟨(at' hoj).1,?_⟩
     rw[<- em,(at' hpi).2,(at' hoj).2];exact hj
    ·cases ha
   ·exact hO.2 m a ha
  ·obtain⟨ls,v,y,z,hO,hv,rfl⟩:=hI
   rw[List.length_range] at hv
   have hr:=hO.rk hp
   have hll:=hO.1
   simp
   refine⟨a0r (by lia) (by lia),?_⟩
   refine a2g (I:=λk L=>∃ ps v x y z w u w3,Pln ls (2*k) (· < k) ps/\Lf (N+3*n+20*k) v/\L=[some v,some (.int n),some (.lst (ls.map a0n)),some (.lst (a6g os)),x,y,z,some (.lst (ps.map a4v)),w,u,w3,none,none,none,none,none,none]) n 0 _ ⟨[],v,_,_,_,none,none,none,⟨by simp,by simp,by simp,by simp,by simp,by lia⟩,hv.mono (by simp;lia),rfl⟩ (λk L K _ hk hI hK=>?_) λL hI=>?_
   ·obtain⟨ps,v,x,y,z,w,u,w3,hP,hv,rfl⟩:=hI
    simp
    refine⟨a0r (by lia) (by lia),by simp[a1h,big];lia,?_⟩
    rw[a1h]
    refine a0o (f:=λi:Nat=>FV.int i) (g:=λi:Nat=>FV.int i) (p:=c2t ls k) (List.range n) [] (λo ho K N k1 k2=>?_) ?_
    ·have ho:=List.mem_range.mp ho
     simp
     refine c6n (d+2) hr (by lia) (by lia) λl hl=>?_
     simp
     refine⟨d5i l,?_⟩
     rw[c5a]
     refine ite2 (λg=>k1 ?_) λg=>k2 ?_
     ·exact undB_iff.mpr ((hl k).mp (of_decide_eq_true g))
     ·exact Bool.eq_false_iff.mpr λz=>g (decide_eq_true ((hl k).mpr (undB_iff.mp z)))
    ·have hB:∀ o,o∈(List.range n).filter (c2t ls k)↔o<ls.length/\Und ls k o:=λo=>by
      rw[List.mem_filter,undB_iff,List.mem_range,hll]
     have lB:((List.range n).filter (c2t ls k)).length<=n:=by
      have:=List.length_filter_le (c2t ls k) (List.range n)
      simpa using this
     simp
     generalize (List.range n).filter (c2t ls k)=B at hB lB ⊢
     refine⟨by decide,by decide,?_⟩
     have good:∀ S∈[[k],B],(ens ls).countP (ent S)=1/\S≠[]/\(∀ m∈S,m<ls.length)/\S.length<=12:=λS hS=>by
      rcases List.mem_cons.mp hS with rfl|hS
      ·exact⟨b3u hr (by lia),by simp,λm hm=>by simp at hm;lia,by simp⟩
      ·simp at hS
       subst hS
       exact ⟨b5y hr (by lia) hB,fun z=>(by have:=(hB k).mpr ⟨by lia,.refl⟩; rw [z] at this; cases this),fun m hm=>((hB m).mp hm).1,by lia⟩
     refine a2s (f:=b0a) (I:=λdone L=>∃ ps v u w2,Pln ls (2*k+done.length) (λm=>m<k ∨ [m]∈done/\m=k) ps/\Lf (N+3*n+20*k+4*(done.length:Int)) v/\L=[some v,some (.int n),some (.lst (ls.map a0n)),some (.lst (a6g os)),x,y,some (.int k),some (.lst (ps.map a4v)),some (.lst (B.map λi:Nat=>FV.int i)),u,w2,none,none,none,none,none,none]) [[k],B] [[k],B] [] _ rfl ⟨ps,v,u,w3,hP.mono (by simp) (λm hm=>.inl (by simpa using hm)),by simpa using hv,rfl⟩ (λdd S r L K2 e hI hK2=>?_) λL hI=>?_
     ·obtain⟨ps,v,u,w2,hP,hv,rfl⟩:=hI
      have hd:dd.length<=1:=by
       have:=congrArg List.length e
       simp at this; lia
      obtain⟨s1,s2,s3,s4⟩:=good S (by rw[e];simp)
      have hpl:=hP.len
      simp
      refine a1p (d+1) hv (by lia) (by lia) (by lia) λu1 v1 a0 a1 hv1=>?_
      simp
      refine⟨by decide,?_⟩
      refine a1p (d+1) hv1 (by lia) (by lia) (by lia) λu2 v2 b0 b1 hv2=>?_
      simp
      refine⟨by decide,?_⟩
      refine a1p (d+1) hv2 (by lia) (by lia) (by lia) λu3 v3 c0 c1 hv3=>?_
      have hv3:=hv3.mono (m:=N+3*n+20*k+4*((dd++[S]).length:Int)) (by simp;lia)
      simp
      refine b3l c0 (by simpa using c1) λx hx=>?_
      obtain⟨p0,rfl,p1,p2⟩:∃ p0,x=FV.int p0/\0<=p0/\p0<=10000000:=by
       simp at hx
       rcases hx with rfl | rfl | rfl | rfl | rfl <;> exact ⟨_,rfl,by lia,by lia⟩
      rw[show ∀ Q:List FV->Prop,wp (a4z (b0a S)) Q↔Q (S.map λi:Nat=>FV.int i) from λ_=>Iff.rfl]
      simp
      generalize hpe:(if p0<if (S.length:Int)=1 then 1 else 0 then if (S.length:Int)=1 then 1 else 0 else p0)=p
      have hp3:0<=p/\p<=10000000/\(S.length=1->1<=p):=by
       rw [<- hpe]
       by_cases c:(S.length:Int)=1
       ·simp only [if_pos c]
        split <;> lia
       ·simp only [if_neg c]
        split <;> lia
      have inT:∀ m,(m<k ∨ [m]∈dd++[S]/\m=k)->(m<k ∨ [m]∈dd/\m=k) ∨ S=[m]:=λm hm=>by
       rcases hm with hm | ⟨hm,e⟩
       ·exact .inl (.inl hm)
       ·rcases List.mem_append.mp hm with hm | hm
        ·exact .inl (.inr ⟨hm,e⟩)
        ·simp at hm; exact .inr hm.symm
      have stay:(∀ m,S=[m]->∃ q∈ps,q.S=[m])->K2 [some v3,some (.int n),some (.lst (ls.map a0n)),some (.lst (a6g os)),x,y,some (.int k),some (.lst (ps.map a4v)),some (.lst (B.map λi:Nat=>FV.int i)),some (b0a S),some (.int p),none,none,none,none,none,none]:=λh=>hK2 _ ⟨ps,v3,_,_,hP.mono (by simp) λm hm=>(inT m hm).imp id (h m),hv3,rfl⟩
      refine ite2 (λg=>?_) λg=>stay λm z=>by rw[z] at hp3;have:=hp3.2.2 rfl;lia
      refine⟨by simp only[big];lia,?_⟩
      refine a1e (f:=a4v) (g:=λq=>b0a q.S) ps [] (λq hq K k=>?_) ?_
      ·simp[a4v]
       exact k
      ·rw[List.nil_append,show (ps.map λq=>b0a q.S)=(ps.map (·.S)).map b0a by rw[List.map_map];rfl,codM.inL]
       refine ite2 (fun g2=>?_) fun g2=>?_
       ·obtain ⟨q,g3,g4⟩:=List.mem_map.mp (of_decide_eq_true g2)
        exact stay fun m z=>⟨q,g3,g4.trans z⟩
       ·simp
        refine ⟨by decide,by simp only [big]; lia,hK2 _ ⟨ps++[⟨S,p,0⟩],v3,some (b0a S),some (.int p),(hP.add s1 s2 s3 ⟨g,hp3.2.1⟩).mono (by simp; lia) fun m hm=>.inl (inT m hm),hv3,?_⟩⟩
        simp [a4v,b0a]
     ·obtain⟨ps,v,u,w2,hP,hv,rfl⟩:=hI
      refine hK _ ⟨ps,v,_,_,_,_,_,_,hP.mono (by simp;lia) λm hm=>.inl ?_,hv.mono (by simp;lia),rfl⟩
      by_cases c:m=k
      ·subst c;exact .inr ⟨by simp,rfl⟩
      ·exact .inl (by lia)
   ·obtain⟨ps,v,x,y,z,w,u,w3,hP,hv,rfl⟩:=hI
    rw[Nat.zero_add] at hP hv
    have hpl:=hP.len
    have dl:∀ e,due ps e<=240000000:=λe=>by have:=b7t hP.pos e;lia
    have dnn:∀ e,0<=due ps e:=c2n λq hq=>(hP.pos q hq).1
    have hpb:∀ q∈ps,0<=q.p/\q.p<=100000000000:=λq hq=>by have:=hP.pos q hq;lia
    simp
    refine⟨by decide,a0r (by lia) (by lia),?_⟩
    refine a2g (I:=λb L=>∃ ws cs v w4 w5 w6 w7,Whs ls ps b ws/\Szs n ls ps (λm _=>m<b) (b*n) cs/\Lf (N+23*n+50*b) v/\L=[some v,some (.int n),some (.lst (ls.map a0n)),some (.lst (a6g os)),x,y,z,some (.lst (ps.map a4v)),w,u,w3,some (.lst (ws.map .int)),some (.lst (cs.map a6r)),w4,w5,w6,w7]) n 0 _ ⟨[],[],v,none,none,none,none,⟨rfl,by simp⟩,⟨by simp,by simp,by simp,by simp⟩,hv.mono (by simp;lia),rfl⟩ (λb L K _ hb hI hK=>?_) λL hI=>?_
    ·obtain⟨ws,cs,v,w4,w5,w6,w7,hW,hS,hv,rfl⟩:=hI
     have hbl:b<ls.length:=by lia
     have hwl:=hW.l
     have hcl:=hS.l
     have hbn:b*n<=12*12:=Nat.mul_le_mul (by lia) hn
     simp
     refine⟨by decide,?_⟩
     refine b6f (d+1) hv (by lia) λs v s0 s1 hv=>?_
     simp
     refine a8k (ps:=ps) (d+2) (none,b) (by lia) hpb ?_
     simp
     rw[b1x hbl]
     rw[d5j]
     simp
     obtain⟨t0,t1,t2⟩:=d0a ((ls.getD b none).isSome=true) s0 s1
     rw[List.getD_eq_getElem?_getD] at t0 t1 t2
     generalize (if (ls[b]?.getD none).isSome=true then (1:Int) else 0)=f at t0 t1 t2 ⊢
     refine⟨.inr (a4k (by lia) (by lia)),by simp only[big];lia,a0r (by lia) (by lia),?_⟩
     have hW':Whs ls ps (b+1) (ws++[due ps (none,b)+f*s]):=hW.add (by lia) (by lia) λz=>by
      rw[List.getD_eq_getElem?_getD] at z
      have:=t2 (by rw[z];simp)
      lia
     rw[show ws.map FV.int++[FV.int (due ps (none,b)+f*s)]=(ws++[due ps (none,b)+f*s]).map .int by simp]
     refine a2g (I:=λj L=>∃ cs v w5 w6 w7,Szs n ls ps (λm x=>m<b ∨ m=b/\x<j) (b*n+j) cs/\Lf (N+23*n+50*b+2+3*j) v/\L=[some v,some (.int n),some (.lst (ls.map a0n)),some (.lst (a6g os)),x,y,z,some (.lst (ps.map a4v)),w,u,w3,some (.lst ((ws++[due ps (none,b)+f*s]).map .int)),some (.lst (cs.map a6r)),some (.int b),w5,w6,w7]) n 0 _ ⟨cs,v,some (.int s),w6,w7,hS.mono (λm a h=>.inl h) (λm a h=>.inl (by lia)) (by lia),hv.mono (by simp),rfl⟩ (λa L K2 _ ha hI hK2=>?_) λL hI=>?_
     ·obtain⟨cs,v,w5,w6,w7,hS,hv,rfl⟩:=hI
      have hcl:=hS.l
      simp
      refine⟨by decide,?_⟩
      refine b6f (d+1) hv (by lia) λs2 v s3 s4 hv=>?_
      simp
      refine a8k (ps:=ps) (d+2) (some a,b) (by lia) hpb ?_
      simp
      rw[b1x hbl,show eqF (a0n (ls.getD b none)) (FV.int (a:Int))=eqF (a0n (ls.getD b none)) (a0n (some a)) from rfl,codL.eq]
      refine⟨.inr (a4k (by lia) (by lia)),?_⟩
      obtain⟨p0,p1,p2⟩:=d0a (decide (ls.getD b none=some a)=false) s3 s4
      generalize hg:due ps (some a,b)+(if decide (ls.getD b none=some a)=false then 1 else 0)*s2=t
      have q0:due ps (some a,b)<=t:=by lia
      have q1:t<=due ps (some a,b)+9:=by lia
      have q2:ls.getD b none=some a->t=due ps (some a,b):=λz=>by
       have:=p2 (by simpa using z)
       lia
      have stay:∀ v',Lf (N+23*n+50*b+2+3*a+3) v'->ls.getD b none≠some a->K2 [some v',some (.int n),some (.lst (ls.map a0n)),some (.lst (a6g os)),x,y,z,some (.lst (ps.map a4v)),w,u,w3,some (.lst (ws.map .int++[FV.int (due ps (none,b)+f*s)])),some (.lst (cs.map a6r)),some (.int b),some (.int s2),some (.int a),some (.int t)]:=λv' hv' hne=>hK2 _ ⟨cs,v',some (.int s2),some (.int a),some (.int t),hS.mono (λm x h=>by lia) (λm x h=>?_) (by lia),hv'.mono (by push_cast;lia),by simp⟩
      ·have put:∀ v',Lf (N+23*n+50*b+2+3*a+3) v'->a≠b->0<t->K2 [some v',some (.int n),some (.lst (ls.map a0n)),some (.lst (a6g os)),x,y,z,some (.lst (ps.map a4v)),w,u,w3,some (.lst (ws.map .int++[FV.int (due ps (none,b)+f*s)])),some (.lst (cs.map a6r++[FV.tup [.int a,.int b,.int t]])),some (.int b),some (.int s2),some (.int a),some (.int t)]:=λv' hv' hne h0=>hK2 _ ⟨cs++[(a,b,t)],v',some (.int s2),some (.int a),some (.int t),(hS.add (a:=a) (b:=b) (s:=t) (by lia) (by lia) (by lia) hne h0 q0 q1 q2).mono (λm x h=>by lia) (λm x h=>.inl (by lia)) (by lia),hv'.mono (by push_cast;lia),by simp[a6r]⟩
       refine ite2 (fun g=>stay v (hv.mono (by lia)) fun z=>?_) fun g=>?_
       ·have:=(hr.on b a hbl z).2
        rw [show a=b by lia] at this; lia
       ·have hab:a≠b:=fun z=>g (by rw [z])
        refine ite2 (fun g0=>?_) fun g0=>stay v (hv.mono (by lia)) fun z=>?_
        ·rw [b1x hbl,show eqF (a0n (ls.getD b none)) (FV.int (a:Int))=eqF (a0n (ls.getD b none)) (a0n (some a)) from rfl,codL.eq]
         refine ite2 (fun g1=>⟨by decide,by simp only [big]; lia,put v (hv.mono (by lia)) hab g0⟩) fun g1=>?_
         refine a1p (d + 1) hv (by lia) (by lia) (by lia) fun u1 v1 c0 c1 hv1=>?_
         simp
         refine ite2 (fun g2=>⟨by decide,by simp only [big]; lia,put v1 (hv1.mono (by lia)) hab g0⟩) fun g2=>stay v1 (hv1.mono (by lia)) fun z=>g1 (by simpa using z)
        ·have:=hP.due (e:=(some a,b)) (by lia) (fun z=>hab (Option.some.inj z))
         lia
      ·by_cases c:m<b ∨ m=b/\x<a
       ·exact .inl c
       ·have c1:m=b:=by lia
        have c2:x=a:=by lia
        rw [c1,c2]; exact .inr hne
     ·obtain⟨cs,v,w5,w6,w7,hS,hv,rfl⟩:=hI
      rw[Nat.zero_add] at hS hv
      refine hK _ ⟨_,cs,v,_,_,_,_,hW',hS.mono (λm a h=>by lia) (λm a h=>?_) (by rw[Nat.succ_mul];lia),hv.mono (by push_cast;lia),rfl⟩
      by_cases c:ls.getD m none=some a
      ·by_cases c2:m=b
       ·exact .inl (.inr ⟨c2,by have:=(hr.on m a (by lia) c).1; lia⟩)
       ·exact .inl (.inl (by lia))
      ·exact .inr c
    ·obtain⟨ws,cs,v,w4,w5,w6,w7,hW,hS,hv,rfl⟩:=hI
     rw[Nat.zero_add] at hW hS hv
     simp
     have hcl:=hS.l
     have hbn:n*n<=12*12:=Nat.mul_le_mul hn hn
     refine⟨c1n _,by simp only[big];lia,λys hy _=>⟨by decide,by decide,?_⟩⟩
     obtain⟨cs2,h2,rfl⟩:=a9g hy _ rfl
     exact q ws cs2 ls ps v ⟨hn,⟨_,hr⟩,hll,hP,hW,hS.perm h2⟩ (hv.mono (by lia))
noncomputable def szF (ws:List Int)(cs:List Chg)(e:Ent):Int:=match e.1 with
 | none=>ws.getD e.2 0
 | some a=>((cs.find? λc=>decide (c.1=a/\c.2.1=e.2)).map λc=>c.2.2).getD 0
theorem c6z {ws:List Int}{cs:List Chg}(hk:(cs.map λc=>(c.1,c.2.1)).Nodup){c:Chg}(hc:c∈cs):szF ws cs (some c.1,c.2.1)=c.2.2:=by
 show ((cs.find? λx=>decide (x.1=c.1/\x.2.1=c.2.1)).map λc=>c.2.2).getD 0=c.2.2
 induction cs with
 | nil=>cases hc
 | cons x r ih =>
  simp only[List.map_cons,List.nodup_cons] at hk
  by_cases z:x.1=c.1/\x.2.1=c.2.1
  ·rw[List.find?_cons_of_pos (by simpa using z)]
   rcases List.mem_cons.mp hc with rfl|hc
   ·rfl
   ·exact absurd (List.mem_map.mpr ⟨c,hc,by rw[z.1,z.2]⟩) hk.1
  ·rw[List.find?_cons_of_neg (by simpa using z)]
   rcases List.mem_cons.mp hc with rfl|hc
   ·exact absurd ⟨rfl,rfl⟩ z
   ·exact ih hk.2 hc
theorem Pls.sto {n:Nat}{ws:List Int}{cs:List Chg}{ls:List (Option Nat)}{ps:List Prc}(h:Pls n ws cs ls ps):Sto ws cs (szF ws cs)/\Lyg ws cs ls/\(∀ e∈a4f ws.length cs,due ps e<=szF ws cs e)/\∀ e∈ens ls,szF ws cs e=due ps e:=by
 obtain⟨r,hr⟩:=h.r
 have hn:=h.le
 have hl:=h.l
 have hwl:=h.w.l
 have hpl:=h.p.len
 have hcl:=h.s.l
 have hnn:n*n<=12*12:=Nat.mul_le_mul hn hn
 have dl:∀ e,due ps e<=240000000:=λe=>by have:=b7t h.p.pos e;lia
 have hw:∀ m (g:m<ws.length),szF ws cs (none,m)=ws[m]:=λm g=>by
  show ws.getD m 0=_
  simp[g]
 have hc:=λc hc=>c6z (ws:=ws) h.s.k (c:=c) hc
 have ww:∀ m (g:m<ws.length),due ps (none,m)<=szF ws cs (none,m)/\szF ws cs (none,m)<=due ps (none,m)+9/\(ls.getD m none=none->szF ws cs (none,m)=due ps (none,m)):=λm g=>by
  rw[hw m g];exact h.w.w m _ (List.getElem?_eq_getElem g)
 refine⟨⟨by lia,by lia,hw,hc,λc g=>?_,h.s.k,λe he=>?_⟩,⟨by lia,h.r,λe he=>?_⟩,λe he=>?_,λe he=>?_⟩
 ·have:=h.s.c c g
  rw[hwl];exact⟨this.2.1,this.2.2.1,this.2.2.2.1⟩
 ·rcases List.mem_append.mp he with he|he
  ·obtain⟨m,hm,rfl⟩:=List.mem_map.mp he
   have hm:=List.mem_range.mp hm
   have h1:=ww m hm
   have h2:=h.p.due (e:=(none,m)) (by lia) (λz=>nomatch z)
   have:=dl (none,m)
   lia
  ·obtain⟨c,g,rfl⟩:=List.mem_map.mp he
   rw[hc c g]
   have:=(h.s.c c g).2.2.2.2
   have:=dl (some c.1,c.2.1)
   lia
 ·obtain⟨h1,h2⟩:=mem_ens.mp he
  obtain⟨on,m⟩:=e
  cases on with
  | none=>exact List.mem_append_left _ (List.mem_map.mpr ⟨m,List.mem_range.mpr (by rw[hwl,<- hl];exact h1),rfl⟩)
  | some a =>
   obtain⟨c,g,e1,e2⟩:=h.s.h m a (by rw[<- hl];exact h1) h2
   exact List.mem_append_right _ (List.mem_map.mpr ⟨c,g,by rw[e1,e2]⟩)
 ·rcases List.mem_append.mp he with he|he
  ·obtain⟨m,hm,rfl⟩:=List.mem_map.mp he
   exact (ww m (List.mem_range.mp hm)).1
  ·obtain⟨c,g,rfl⟩:=List.mem_map.mp he
   rw[hc c g];exact (h.s.c c g).2.2.2.2.2.1
 ·obtain⟨h1,h2⟩:=mem_ens.mp he
  obtain⟨on,m⟩:=e
  cases on with
  | none=>exact (ww m (by rw[hwl,<- hl];exact h1)).2.2 h2
  | some a =>
   obtain⟨c,g,e1,e2⟩:=h.s.h m a (by rw[<- hl];exact h1) h2
   have:=(h.s.c c g).2.2.2.2.2.2.2 (by rw[e1,e2];exact h2)
   rw[<- hc c g,e1,e2] at this
   exact this
theorem c4l (d:Nat){N:Int}{v:FV}(hs:Lf N v)(hN:N<900000){Q:FV×FV->Prop}(q:∀ (n:Nat) v',n<=12->Lf (N+2) v'->Q (.int n,v')):callW tb (d+3) 9 [v,.int 12] Q:=by
 refine a1a (fd:=fd9) rfl rfl ?_
 simp[fd9,bd9]
 refine a1p d hs (by lia) (by lia) (by lia) λu v' u0 u1 hv'=>?_
 simp
 refine ite2 (λg=>?_) λg=>?_
 ·refine a1p d hv' (by lia) (by lia) (by lia) λw v2 w0 w1 hv2=>?_
  simp
  have:=q (7+w).toNat v2 (by lia) (hv2.mono (by lia))
  rwa [show (((7+w).toNat:Nat):Int)=7+w by lia] at this
 ·refine⟨by decide,?_⟩
  refine a1p d hv' (by lia) (by lia) (by lia) λw v2 w0 w1 hv2=>?_
  simp
  refine b3l w0 (by simpa using w1) λx hx=>?_
  obtain⟨n,rfl,hn⟩:∃ n:Nat,x=.int n/\n<=12:=by
   simp at hx
   rcases hx with rfl|rfl|rfl|rfl|rfl|rfl|rfl|rfl|rfl|rfl
   ·exact⟨0,rfl,by lia⟩
   ·exact⟨1,rfl,by lia⟩
   ·exact⟨2,rfl,by lia⟩
   ·exact⟨3,rfl,by lia⟩
   ·exact⟨4,rfl,by lia⟩
   ·exact⟨5,rfl,by lia⟩
   ·exact⟨6,rfl,by lia⟩
   ·exact⟨4,rfl,by lia⟩
   ·exact⟨5,rfl,by lia⟩
   ·exact⟨3,rfl,by lia⟩
  exact q n v2 hn (hv2.mono (by lia))
theorem c0h (d:Nat)(ns:List Int) (k:Nat){Q:FV×FV->Prop}(q:∀ v y,Lf 0 v->Q (v,y)):callW tb (d+1) 6 [.lst (ns.map .int),.int k] Q:=by
 refine a1a (fd:=fd6) rfl rfl ?_
 have h1:a2d 1000003=true:=by decide
 have h2:a2d 0=true:=by decide
 have h4:a2d 10=true:=by decide
 have h5:∀ r:Bool,a2d (if r=true then 1 else 0)=true:=by intro r;cases r<;>decide
 simp[fd6,bd6]
 split
 ·rename_i hk
  rw[a4b rfl (show (ns.map FV.int)[k]?=some (.int ns[k]) by simp[hk])]
  simp[h1,h4,h5,big]
  exact⟨.inr (by by_cases hh:1000000000000000000<=(if ns[k]<0 then -ns[k] else ns[k])<;>simp only[hh,if_true,if_false]<;>decide),q _ _ ⟨_,_,_,rfl,by lia,by lia⟩⟩
 ·simp[h1,h2,h4,big]
  exact q _ _ ⟨_,_,_,rfl,by lia,by lia⟩
theorem c5f (d:Nat)(ns:List Int){Q:FV×FV->Prop}(q:∀ ms:List Int,ms.length<=6->Q (.lst (ms.map .int),.non)):callW tb (d+1) 8 [.scr ns,.int 6] Q:=by
 refine a1a (fd:=fd8) rfl rfl ?_
 simp[fd8,bd8]
 rw[show ∀ Q:List FV->Prop,wp (a1q (.scr ns)) Q↔Q (ns.map .int) from λ_=>Iff.rfl,show ∀ Q:List FV->Prop,wp (a1q (.scr ns)) Q↔Q (ns.map .int) from λ_=>Iff.rfl]
 have c6:b0f ns none (some 6)=ns.take 6:=(show b0f ns none (some 6)=b0f ns (some (0:Nat)) (some (6:Nat)) by simp[b0f,sIx]).trans (b8h ns (i:=0) (j:=6) (by lia))
 rw[b8i,b8i,show b0f ns (some 6) (some 63)=(ns.drop 6).take 57 from b8h ns (i:=6) (j:=63) (by lia),c6,List.length_map]
 rw[show a2f (upF 0 ((ns.drop 6).take 57).length) (((ns.drop 6).take 57).map FV.int)=((List.range ((ns.drop 6).take 57).length).zip ((ns.drop 6).take 57)).map λp:Nat×Int=>FV.tup [.int p.1,.int p.2] by rw[a1h,b2i]]
 refine a2s (f:=λp:Nat×Int=>FV.tup [.int p.1,.int p.2]) (I:=λ_ L=>∃ (ms:List Int)(x y:Option FV),ms.length=(ns.take 6).length/\L=[some (.scr ns),some (.int 6),some (.lst (ms.map .int)),x,y]) _ _ [] _ rfl ⟨ns.take 6,_,_,rfl,rfl⟩ (λdd c r L K e hI hK=>?_) λL hI=>?_
 ·obtain⟨ms,x,y,hl,rfl⟩:=hI
  have hc:c∈(List.range ((ns.drop 6).take 57).length).zip ((ns.drop 6).take 57):=by rw[List.nil_append] at e;rw[e];simp
  have h1:c.1<((ns.drop 6).take 57).length:=List.mem_range.mp (List.of_mem_zip hc).1
  have h2:c.1<57/\6<ns.length:=by simp at h1;lia
  have h6:ms.length=6:=by rw[hl];simp;lia
  obtain⟨j,hj,ej⟩:∃ j:Nat,j<6/\(c.1:Int) % 6=j:=⟨c.1 % 6,by lia,by lia⟩
  simp
  rw[ej,a4b rfl (v:=.int (ms.getD j 0)) (by rw[List.getElem?_map,List.getElem?_eq_getElem (by lia)];simp[show j<ms.length by lia])]
  refine⟨.inr (a4k (by lia) (by lia)),?_⟩
  simp
  rw[b6t rfl (by lia),<- List.map_set]
  exact hK _ ⟨_,_,_,by rw[List.length_set];exact hl,rfl⟩
 ·obtain⟨ms,x,y,hl,rfl⟩:=hI
  simp
  exact q ms (by rw[hl];simp;lia)
noncomputable def dE (e:Ent):D:=.tup [dLo e.1,.int e.2]
theorem codE:Cod a3t dE:=⟨λk e=>by
 obtain⟨a,b⟩:=e
 cases a<;>rfl,λx y=>by
 have h1:=codL.e x.1 y.1
 show (D.eqv (dLo x.1) (dLo y.1) && (((x.2:Int) == (y.2:Int)) && true))=_
 rw[h1,Bool.eq_iff_iff]
 simp[Prod.ext_iff]
 lia⟩
theorem c5s (d:Nat){ws:List Int}{cs:List Chg}{sz:Ent->Int}(h:Sto ws cs sz)(o:Ent){Q:FV×FV->Prop}(q:Q (a5r ((List.range ws.length).map λm=>sz (none,m)+if (none,m)=o then 1 else 0) (cs.map λc=>(c.1,c.2.1,c.2.2+if (some c.1,c.2.1)=o then 1 else 0)),.non)):callW tb (d+1) 18 [a5r ws cs,a0n o.1,.int o.2] Q:=by
 have hn:=h.n
 have hl:=h.l
 refine a1a (fd:=d7e) rfl rfl ?_
 simp[d7e,d8o]
 rw[a3s]
 simp
 have ep:a2f (upF 0 ws.length) (ws.map .int)=(List.range ws.length).map λm:Nat=>FV.tup [.int (m:Int),.int (sz (none,m))]:=by
  rw[a1h]
  apply List.ext_getElem
  ·simp[a2f]
  ·intro i g1 g2
   simp[a2f] at g2 ⊢
   exact (h.w i g2).symm
 rw[ep]
 refine⟨by simp[big];lia,?_⟩
 refine a1e (f:=λm:Nat=>FV.tup [.int (m:Int),.int (sz (none,m))]) (g:=λm=>.int (sz (none,m)+if (none,m)=o then 1 else 0)) (List.range ws.length) [] (λm hm K k=>?_) ?_
 ·obtain⟨on,t⟩:=o
  cases on with
  | none =>
   simp[a0n] at k ⊢
   rw[show (if (m:Int)=(t:Int) then (1:Int) else 0)=if m=t then 1 else 0 by
    by_cases z:m=t
    ·rw[if_pos z,if_pos (by lia)]
    ·rw[if_neg z,if_neg (by lia)]]
   exact k
  | some a =>
   simp[a0n] at k ⊢
   exact k
 ·simp
  rw[a3s]
  simp
  refine⟨by simp[big];lia,?_⟩
  refine a1e (f:=a6r) (g:=λc=>a6r (c.1,c.2.1,c.2.2+if (some c.1,c.2.1)=o then 1 else 0)) cs [] (λc hc K k=>?_) ?_
  ·simp[a6r] at k ⊢
   refine⟨by decide,?_⟩
   rw[show eqF (FV.tup [FV.int (c.1:Int),FV.int (c.2.1:Int)]) (FV.tup [a0n o.1,FV.int (o.2:Int)])=eqF (a3t (some c.1,c.2.1)) (a3t o) from rfl,codE.eq]
   refine⟨by decide,?_⟩
   rw[show (if decide ((some c.1,c.2.1)=o)=true then (1:Int) else 0)=if (some c.1,c.2.1)=o then 1 else 0 by simp]
   exact k
  ·rw[List.nil_append]
   refine⟨by decide,?_⟩
   simpa[a5r,Function.comp_def] using q
theorem Sto.bdw {ws:List Int}{cs:List Chg}{sz:Ent->Int}(h:Sto ws cs sz){x:Int}(hx:x∈ws):0<x/\x<=2000000000:=by
 obtain⟨m,hm,rfl⟩:=List.mem_iff_getElem.mp hx
 rw[<- h.w m hm]
 exact h.p _ (List.mem_append_left _ (List.mem_map.mpr ⟨m,List.mem_range.mpr hm,rfl⟩))
theorem Sto.bdc {ws:List Int}{cs:List Chg}{sz:Ent->Int}(h:Sto ws cs sz){c:Chg}(hc:c∈cs):0<c.2.2/\c.2.2<=2000000000:=by
 rw[<- h.c c hc]
 exact h.p _ (List.mem_append_right _ (List.mem_map.mpr ⟨c,hc,rfl⟩))
theorem c5k {ws:List Int}{cs:List Chg}{sz:Ent->Int}(h:Sto ws cs sz):Vl 40000 3 (a5r ws cs):=by
 have hn:=h.n
 have hl:=h.l
 refine (Vl.tup (k:=18500) (p:=2) (m:=2) ?_ (by simp)).mono (by decide) (by decide)
 intro y hy
 simp only[List.mem_cons,List.not_mem_nil,or_false] at hy
 rcases hy with rfl|rfl
 ·refine (Vl.tup (k:=41) (p:=0) (m:=12) ?_ (by simp;lia)).mono (by decide) (by decide)
  intro x hx
  obtain⟨i,hi,rfl⟩:=List.mem_map.mp hx
  have:=h.bdw hi
  exact Vl.int (by lia) (by lia)
 ·refine (Vl.tup (k:=126) (p:=1) (m:=144) ?_ (by simp;lia)).mono (by decide) (by decide)
  intro x hx
  obtain⟨c,hc,rfl⟩:=List.mem_map.mp hx
  have:=h.bdc hc
  have:=h.r c hc
  have w:∀ i:Int,0<=i->i<=2000000000->Vl 41 0 (.int i):=λi h1 h2=>Vl.int (by lia) (by lia)
  refine (Vl.tup (k:=41) (p:=0) (m:=3) ?_ (by simp)).mono (by decide) (by decide)
  intro y hy
  simp only[List.mem_cons,List.not_mem_nil,or_false] at hy
  rcases hy with rfl|rfl|rfl
  ·exact w _ (by lia) (by lia)
  ·exact w _ (by lia) (by lia)
  ·exact w _ (by lia) (by lia)
theorem b5a {ps:List Prc}(hl:ps.length<=1000)(hb:∀ q∈ps,0<=q.p/\q.p<=100000000000){a b c d e f g h i j k l m n o p:Option FV}{R:Int->a0c->Prop}(q:R (ps.map (·.p)).sum [a,b,c,d,e,f,g,h,i,j,k,l,m,n,o,p]):a5k 16 2 (Tg.tp [16,17]) a2x (a0b 17) (ps.map a4v) [] [a,b,c,d,e,f,g,h,i,j,k,l,m,n,o,p] λys L2=>wp (c7a ys) λn=>R n L2:=by
 refine a1e (f:=a4v) (g:=λq=>.int q.p) ps [] (λq hq K k=>?_) ?_
 ·simp[a4v]
  exact k
 ·rw[List.nil_append,show (ps.map λq=>FV.int q.p)=(ps.map (·.p)).map .int by rw[List.map_map];rfl]
  refine b0x (by simpa using hl) (λx hx=>?_) q
  obtain⟨c,hc,rfl⟩:=List.mem_map.mp hx
  exact hb c hc
theorem Pls.bd {n:Nat}{ws:List Int}{cs:List Chg}{ls:List (Option Nat)}{ps:List Prc}(h:Pls n ws cs ls ps):∀ e∈a4f ws.length cs,szF ws cs e<=1000000000:=λe he=>by
 have hn:=h.le
 have hpl:=h.p.len
 have dl:=b7t h.p.pos e
 have hwl:=h.w.l
 rcases List.mem_append.mp he with he|he
 ·obtain⟨m,hm,rfl⟩:=List.mem_map.mp he
  have hm:=List.mem_range.mp hm
  have:=h.w.w m _ (List.getElem?_eq_getElem hm)
  rw[show szF ws cs (none,m)=ws[m] by show ws.getD m 0=_;simp[hm]]
  lia
 ·obtain⟨c,g,rfl⟩:=List.mem_map.mp he
  rw[c6z h.s.k g]
  have:=(h.s.c c g).2.2.2.2
  lia
theorem Sto.dear {ws:List Int}{cs:List Chg}{sz:Ent->Int}(h:Sto ws cs sz)(hb:∀ e∈a4f ws.length cs,sz e<=1000000000)(o:Ent):Sto ((List.range ws.length).map λm=>sz (none,m)+if (none,m)=o then 1 else 0) (cs.map λc=>(c.1,c.2.1,c.2.2+if (some c.1,c.2.1)=o then 1 else 0)) (λe=>sz e+if e=o then 1 else 0)/\a4f ((List.range ws.length).map λm=>sz (none,m)+if (none,m)=o then 1 else 0).length (cs.map λc=>(c.1,c.2.1,c.2.2+if (some c.1,c.2.1)=o then 1 else 0))=a4f ws.length cs:=by
 have hn:=h.n
 have hl:=h.l
 have ee:a4f ((List.range ws.length).map λm=>sz (none,m)+if (none,m)=o then 1 else 0).length (cs.map λc=>(c.1,c.2.1,c.2.2+if (some c.1,c.2.1)=o then 1 else 0))=a4f ws.length cs:=by
  simp[a4f,Function.comp_def]
 refine⟨⟨by simpa using hn,by simpa using hl,λm hm=>by simp,λc hc=>?_,λc hc=>?_,?_,λe he=>?_⟩,ee⟩
 ·obtain⟨c,g,rfl⟩:=List.mem_map.mp hc
  show sz (some c.1,c.2.1)+_=_
  rw[h.c c g]
 ·obtain⟨c,g,rfl⟩:=List.mem_map.mp hc
  simpa using h.r c g
 ·rw[List.map_map];exact h.k
 ·rw[ee] at he
  have h1:=h.p e he
  have h2:=hb e he
  show 0<sz e+_/\sz e+_<=_
  by_cases z:e=o
  ·rw[if_pos z];lia
  ·rw[if_neg z];lia
theorem b4z (o:Ent):∀ {l:List Ent},l.Nodup->(l.map λe=>if e=o then (1:Int) else 0).sum=if o∈l then 1 else 0
 | [],_=>by simp
 | x :: r,h=>by
  obtain⟨h1,h2⟩:=List.nodup_cons.mp h
  rw[List.map_cons,List.sum_cons,b4z o h2]
  by_cases z:x=o
  ·subst z
   rw[if_pos rfl,if_neg h1,if_pos (by simp)];rfl
  ·rw[if_neg z]
   by_cases w:o∈r
   ·rw[if_pos w,if_pos (by simp[w])];rfl
   ·rw[if_neg w,if_neg (by simp[w];exact λy=>z y.symm)];rfl
theorem law_val (ns:List Int):callW tb 14 19 [.scr ns] λz=>z.1=.bl true:=by
 refine a1a (fd:=d7d) rfl rfl ?_
 simp[d7d,d8n]
 refine c5f 12 ns λms hm=>?_
 simp
 have e0:∃ k:Nat,(if (2:Int)<(ms.length:Int) then (ms.length:Int) else 2)=k/\k<=6:=by
  by_cases z:(2:Int)<(ms.length:Int)
  ·exact⟨ms.length,by rw[if_pos z],hm⟩
  ·exact⟨2,by rw[if_neg z];rfl,by lia⟩
 obtain⟨k0,ek,hk0⟩:=e0
 rw[ek,Int.toNat_natCast]
 refine⟨a0r (by lia) (by lia),?_⟩
 refine a2g (I:=λ_ L=>∃ a b c d e f g h i j k l m n,L=[some (FV.scr ns),some (FV.lst (ms.map FV.int)),a,b,c,d,e,f,g,h,i,j,k,l,m,n]) k0 0 _ ⟨_,_,_,_,_,_,_,_,_,_,_,_,_,_,rfl⟩ (λk L K _ hk hI hK=>?_) λL hI=>?_
 ·obtain⟨x2,x3,x4,x5,x6,x7,x8,x9,x10,x11,x12,x13,x14,x15,rfl⟩:=hI
  simp
  refine c0h 12 ms k λv y hv=>?_
  obtain⟨b0,b1,b2,rfl,hc0,hc1⟩:=hv
  simp
  have hv:Lf 0 (.lst [.int b0,.int (b1+200),.int b2]):=⟨_,_,_,rfl,hc0,hc1⟩
  rw[b6t (n:=3) (i:=1) (j:=1) rfl (by lia)]
  simp
  refine c4l 10 hv (by lia) λn v hn hv=>?_
  simp
  refine b3t 9 hv (by lia) (by lia) hn λws cs ls ps v hp hv=>?_
  obtain⟨hS,hL,hlow,htight⟩:=hp.sto
  have hpl:=hp.p.len
  have hpb:∀ q∈ps,0<=q.p/\q.p<=100000000000:=λq hq=>by have:=hp.p.pos q hq;lia
  have room0:=b5l htight hp.p.one
  obtain⟨st,hst,hsq⟩:=c7b (c5k hS) (by decide) (by decide)
  simp
  rw[hst,a1t]
  try simp
  refine⟨by simp only[big];lia,?_⟩
  refine b5a (by lia) hpb ?_
  try simp
  refine b4x 10 hS λqs ts t=>?_
  try simp
  have hlen:ws.length=n:=hp.w.l
  obtain⟨r0,hr0⟩:=hL.rk
  obtain⟨r1,hr1⟩:=t.rk
  have hT:Lyg ws cs ts:=⟨t.len,t.rk,t.ent⟩
  have eN:(qs.map (·.p)).sum=(ps.map (·.p)).sum:=by
   have h1:=t.least hL.len hr0 hL.ent
   rw[room0] at h1
   have h2:=a5x (λe he=>hlow e (t.ent e he)) (λq hq=>(hp.p.pos q hq).1) λq hq=>hr1.enter (hp.p.ne q hq) λm hm=>by have:=hp.p.lt q hq m hm;rw[t.len,hlen,<- hp.l];exact this
   rw[t.sum] at h2
   lia
  have hqb:∀ q∈qs,0<=q.p/\q.p<=100000000000:=λq hq=>by
   have:=t.pos q hq
   have:=t.bd q hq
   lia
  refine⟨eN,c4n 11 hS hT ?_⟩
  simp
  refine c0f 11 hS hT ?_
  rw[t.sum,eN,codI.eq]
  refine⟨by simp,?_⟩
  rw[hst,a1t,hsq]
  refine⟨rfl,c4m 11 hS t ?_⟩
  simp
  refine⟨by have:=t.pl;simp only[big];lia,?_⟩
  refine b5a (by have:=t.pl;lia) hqb ?_
  rw[eN]
  simp
  refine ite2 (λg=>?_) λg=>hK _ ⟨_,_,_,_,_,_,_,_,_,_,_,_,_,_,rfl⟩
  refine a1p 11 hv (by lia) (by lia) (by lia) λu v u0 u1 hv=>?_
  obtain⟨m,rfl⟩:∃ m:Nat,u=m:=⟨u.toNat,by lia⟩
  have hmn:m<n:=by lia
  have hcl:=hS.l
  refine⟨by decide,?_⟩
  rw[a3s]
  simp
  refine⟨by simp only[big];lia,?_⟩
  refine a0o (f:=a6r) (g:=λc=>a0n (some c.1)) (p:=λc=>decide (c.2.1=m)) cs [] (λc hc K N k1 k2=>?_) ?_
  ·simp[a6r]
   refine ite2 (λz=>k1 (decide_eq_true (by lia))) λz=>k2 (decide_eq_false (by lia))
  ·rw[List.nil_append]
   have lf:=List.length_filter_le (λc:Chg=>decide (c.2.1=m)) cs
   refine⟨by simp only[big,List.length_map];lia,?_⟩
   simp
   refine a1p 11 hv (by lia) (by lia) (by lia) λw v w0 w1 hv=>?_
   simp
   refine b3l w0 (by simp;lia) λx hx=>?_
   obtain⟨o,rfl⟩:∃ o:Option Nat,x=a0n o:=by
    rcases List.mem_cons.mp hx with rfl|hx
    ·exact⟨none,rfl⟩
    ·obtain⟨c,_,rfl⟩:=List.mem_map.mp hx
     exact⟨some c.1,rfl⟩
   refine c5s 12 hS (o,m) ?_
   obtain⟨hS2,ee⟩:=hS.dear hp.bd (o,m)
   refine b4x 10 hS2 λqs2 ts2 t2=>?_
   obtain⟨r2,hr2⟩:=t2.rk
   have up:=t2.least (ls':=ls) (by rw[hL.len];simp) hr0 λe he=>by rw[ee];exact hL.ent e he
   have eo:((o,m)∈ens ls)↔ls.getD m none=o:=by
    rw[mem_ens];exact⟨λz=>z.2,λz=>⟨by show m<ls.length;rw[hp.l];exact hmn,z⟩⟩
   rw[b0y,room0,b4z _ (a9z ls)] at up
   have lw:=a5x (us:=ens ts2) (λe he=>by
    have:=hlow e (by rw[<- ee];exact t2.ent e he)
    show due ps e<=szF ws cs e+if e=(o,m) then 1 else 0
    split<;>lia) (λq hq=>(hp.p.pos q hq).1) λq hq=>hr2.enter (hp.p.ne q hq) λm hm=>by
     have:=hp.p.lt q hq m hm
     rw[t2.len,List.length_map,List.length_range,hlen,<- hp.l];exact this
   rw[t2.sum] at lw
   simp
   rw[b1x (by rw[hp.l];exact hmn),codL.eq]
   refine⟨by decide,?_⟩
   rw[show ∀ A B:Int,FV.lst [.int A,.int B]=.lst ([A,B].map .int) from λ_ _=>rfl,codI.inL]
   refine⟨decide_eq_true ?_,hK _ ⟨_,_,_,_,_,_,_,_,_,_,_,_,_,_,rfl⟩⟩
   by_cases z:ls.getD m none=o
   ·rw[if_pos (eo.mpr z)] at up
    rw[if_pos (decide_eq_true z.symm)]
    simp only[List.mem_cons,List.not_mem_nil,or_false]
    lia
   ·rw[if_neg λy=>z (eo.mp y)] at up
    simp only[List.mem_cons,List.not_mem_nil,or_false]
    lia
 ·obtain⟨x2,x3,x4,x5,x6,x7,x8,x9,x10,x11,x12,x13,x14,x15,rfl⟩:=hI
  simp
end Kq
end
set_option maxRecDepth 100000
set_option maxHeartbeats 4000000
section
namespace Kq
open PySem PySem.Spec PyProof.Rows L2 PySem.W
noncomputable def top (i:Nat):Stmt:=PySem.Challenge.pw_keepwhole_k16_known_least_rooms.main.body.getD i (.Pass ⟨0,0,0,0⟩)
noncomputable def d0:Df:=⟨"least_room",top 1,["stock"],["stock","many","left","free","paper","makes","entering","price","entry"],[.imm,.imm,.own,.own,.own]⟩
noncomputable def d1:Df:=⟨"entry_sizes",top 2,["stock"],["stock","sizes","a","b","size"],[.imm,.own]⟩
noncomputable def d2:Df:=⟨"next_makes",top 3,["many","free"],["many","free","fewest","make","found"],[]⟩
noncomputable def d3:Df:=⟨"leading_to",top 4,["free","make"],["free","make","found","at"],[.imm,.imm,.own]⟩
noncomputable def d4:Df:=⟨"laid_by",top 5,["many","free"],["many","free","laid","on","make"],[.imm,.imm,.own]⟩
noncomputable def d5:Df:=⟨"_law_mix",top 7,["_law_cell","_law_k"],["_law_cell","_law_k","_law_m"],[]⟩
noncomputable def d6:Df:=⟨"_law_left",top 8,["_law_script","_law_k"],["_law_script","_law_k","_law_cell"],[]⟩
noncomputable def d7:Df:=⟨"_law_pick",top 9,["_law_left_here","_law_many_here"],["_law_left_here","_law_many_here","_law_digit"],[.own]⟩
noncomputable def d8:Df:=⟨"_law_folded",top 10,["_law_script","_law_many_here"],["_law_script","_law_many_here","_law_cells","_law_k","_law_cell"],[.imm,.imm,.own]⟩
noncomputable def d9:Df:=⟨"_law_many",top 11,["_law_left_here","_law_most"],["_law_left_here","_law_most"],[.own]⟩
noncomputable def d10:Df:=⟨"_law_numbers",top 12,["_law_some"],["_law_some"],[]⟩
noncomputable def d11:Df:=⟨"_law_sizes",top 13,["_law_stock"],["_law_stock"],[]⟩
noncomputable def d12:Df:=⟨"_law_way",top 14,["_law_laying","_law_make"],["_law_laying","_law_make","_law_found"],[.imm,.imm,.own]⟩
noncomputable def d13:Df:=⟨"_law_room",top 15,["_law_stock","_law_laying"],["_law_stock","_law_laying","_law_sizes_here","_law_total","_law_make","_law_on"],[]⟩
noncomputable def d14:Df:=⟨"_law_is_laying",top 16,["_law_stock","_law_laying"],["_law_stock","_law_laying","_law_sizes_here","_law_make","_law_here","_law_turn"],[]⟩
noncomputable def d15:Df:=⟨"_law_into",top 17,["_law_paper","_law_begin","_law_make"],["_law_paper","_law_begin","_law_make"],[]⟩
noncomputable def d16:Df:=⟨"_law_is_paper",top 18,["_law_stock","_law_paper"],["_law_stock","_law_paper","_law_met","_law_pair","_law_makes","_law_price"],[.imm,.imm,.own]⟩
noncomputable def d17:Df:=⟨"_law_planted",top 19,["_law_left_here","_law_many_here"],["_law_left_here","_law_many_here","_law_laid","_law_order","_law_k","_law_at","_law_make","_law_paper","_law_below","_law_some","_law_price","_law_wholes","_law_changes","_law_b","_law_more","_law_a","_law_size"],[.own,.imm,.own,.own,.imm,.imm,.imm,.own,.imm,.imm,.imm,.own,.own]⟩
noncomputable def d18:Df:=⟨"_law_dearer",top 20,["_law_stock","_law_begin","_law_make"],["_law_stock","_law_begin","_law_make","_law_wholes"],[]⟩
noncomputable def d19:Df:=⟨"law",top 21,["_law_script"],["_law_script","_law_cells","_law_k","_law_left_here","_law_many_here","_law_stock","_law_laid","_law_paper","_law_kept","_law_due","_law_number","_law_found","_law_own","_law_make","_law_begin","_law_more"],[.imm,.imm,.imm,.own]⟩
noncomputable def fns:List Str:=[Γe "least_room",Γe "entry_sizes",Γe "next_makes",Γe "leading_to",Γe "laid_by",Γe "_law_mix",Γe "_law_left",Γe "_law_pick",Γe "_law_folded",Γe "_law_many",Γe "_law_numbers",Γe "_law_sizes",Γe "_law_way",Γe "_law_room",Γe "_law_is_laying",Γe "_law_into",Γe "_law_is_paper",Γe "_law_planted",Γe "_law_dearer",Γe "law"]
abbrev DB (d:Df)(fr:Bool)(b:CW->SW):Prop:=∀ (X:Cx)(call:CW) (n:Nat),Good X (d.cc fns) n (spK tb call)->FSs X (d.cc fns) fr (a2n d.st) (b call)
local macro_rules | `(tactic| ac_rfl)=>do
 let g:=Lean.mkIdent `G
 let mut ts:Array (Lean.TSyntax ``Lean.Parser.Tactic.tacticSeq):=#[]
 for r in ("§fe_var 12210;d7p 03110;fe_int 00010;fa_nil 00010;a1d 02010;fr_var 11110;b7k 01010;d2h 12110;fs_set 14310;fe_ix 03110;fs_ret 01010;d6k 00010;CompOk.mk 05110;fe_add 02010;fe_tup 01010;d6m 11110;fs_nil 00010;fs_if 03010;d6l 11010;d2p 18710;fe_ixN 13210;d5y 00010;d7a 16510;fe_bl 00010;fe_len 13210;d5z 14310;fw_or 02010;ff_lst 01010;fe_lst 01010;fw_and 02010;fe_mul 02010;d2r 03110;d5w 01010;d5x 01010;d2k 13210;fb_ni2 13010;d6c 02110;fw_or1 01010;fb_not 01010;fe_mod 02010;d2m 13210;fb_gt 02010;fb_ne 12010;d7o 13210;fb_in2 13010;fb_eq 12010;d2q 16510;fe_app 15410;fb_lt 12010;fs_ix 15310;fe_isi 15410;d6q 16510;fs_whl 02010;fe_sum 13210;fe_non 00010;d6a 12210;fe_eq 12010;d6g 01010;fe_one 01010;fe_and 02010;d7n 01010;d6y 13210;d6f 13210;d6o 13310;fb_isN 01010;fe_if 03010;fe_pow 02010;fe_abs 13210;fe_ge 02010;d6w 02010;fe_slL 03010;fe_all 13210;fe_ins 15410;d6r 01010;fe_any 13210;d6u 13210;fe_neg 01010;d6t 15310;d2l 13210;fs_thw 12110;d6s 13210;d6e 15310;d2d 15310;d2o 13210;fs_add 13210;d2i 00010;d6v 13210;d6d 15310;fe_dgN 13210;d6h 00010;d6p 13210;fe_sub 02010;fe_not 01010;d6x 13210;d6z 12010;fe_ni2 13010;fe_lt 12010;ff_mul 02010;d2j 16510;d2c 14210;fe_ne 12010;d2n 13210;fe_isN 01010;fs_tup 14210;fah_of 01010;d6b 01010;fr_of 01010;fb_val 02110;fb_w 01010;d6o 13311;d6q 16511;d2j 16511;fi_seq 01000;fi_rng 13200;d6j 13200;fi_own 12200;d2f 12200;d2g 13300;fe_int 00000;fe_bl 00000;fe_non 00000".drop 1).toString.splitOn ";" do
  let [n,c]:=r.splitOn " " | continue
  let [a,k,s,w,e]:=c.toList.map λx=>x.toNat-48|continue
  let f:=Lean.mkIdent n.toName
  let mut as:Array Lean.Term:=if a=1 then #[g] else #[]
  for _ in [0:k] do as:=as.push (<- `(?_))
  let mut t <- if as.isEmpty then `(tactic| exact $f) else `(tactic| refine $f $as*)
  if w=1 then t <- `(tactic| with_reducible $t:tactic)
  if e=1 then t <- `(tactic| ((with_reducible refine a2v ?_); $t:tactic))
  for _ in [0:s] do t <- `(tactic| (($t:tactic); first | decide +kernel | rfl))
  ts:=ts.push (<- `(Lean.Parser.Tactic.tacticSeq| $t:tactic))
 ts:=ts.push (<- `(Lean.Parser.Tactic.tacticSeq| first | decide +kernel))
 `(tactic| repeat' first $[| $ts]*)
local macro_rules | `(tactic| ac_nf)=>do
 let g:=Lean.mkIdent `G
 `(tactic| (intro _ $g:ident; ac_rfl))
local macro_rules | `(tactic| eq_refl)=>do
 let g:=Lean.mkIdent `G
 `(tactic| (intro $g:ident; ac_rfl))
local macro_rules | `(tactic| exists $e)=>`(tactic| (refine $e; ac_rfl))
local macro_rules | `(tactic| exists $e,$g:ident)=>`(tactic| (intro X call n $g:ident; refine $e; ac_rfl))
theorem db0:DB d0 false bd0:=by
 exists a1d ?_ ?_,G
 eq_refl
 exists b7j G (own:=["on","make"]) (md':=[.imm,.imm,.frz,.own,.own]) ?_ ?_ ?_
 ac_nf
 ac_nf
 ac_nf
 exists a2v (a0x G (own:=["entry"]) (md':=[.imm,.imm,.own,.own,.own]) ?_)
 ac_nf
 ac_nf
 ac_nf
 exists a2m G (md':=[.imm,.imm,.own,.own,.own]) ?_ ?_ ?_ ?_
 eq_refl
 exists a2v (a0x G (own:=["entry"]) (md':=[.imm,.imm,.own,.own,.own]) ?_)
 ac_nf
 ac_nf
 ac_nf
 exists a2v (a0x G (own:=["pair"]) (md':=[.imm,.imm,.own,.own,.frz]) ?_)
 ac_nf
 ac_nf
 ac_nf
theorem db1:DB d1 true bd1:=by
 exists a1d ?_ ?_,G
 exists c0u G (own:=["make","size"]) (md':=[.imm,.own]) ?_ ?_ ?_ ?_
 ac_nf
 ac_nf
 ac_nf
 ac_nf
 exists a2m G (md':=[.imm,.own]) ?_ ?_ ?_ ?_
 eq_refl
theorem db2:DB d2 false bd2:=by
 exists a1d ?_ ?_,G
 exists a2m G (md':=[]) ?_ ?_ ?_ ?_
 eq_refl
theorem db3:DB d3 true bd3:=by
 exists a1d ?_ ?_,G
 exists a2v (a0x G (own:=["on","to"]) (md':=[.imm,.imm,.own]) ?_)
 ac_nf
 ac_nf
 ac_nf
theorem db4:DB d4 false bd4:=by
 exists a1d ?_ ?_,G
 exists a2v (a0x G (own:=["entry"]) (md':=[.imm,.imm,.own]) ?_)
 ac_nf
 ac_nf
 ac_nf
 exists a2v (a0x G (own:=["make"]) (md':=[.imm,.imm,.own]) ?_)
 ac_nf
 ac_nf
 ac_nf
theorem db5:DB d5 false bd5:=by
 exists a1d ?_ ?_,G
theorem db6:DB d6 true bd6:=by
 exists a1d ?_ ?_,G
theorem db7:DB d7 false bd7:=by
 exists a1d ?_ ?_,G
theorem db8:DB d8 true bd8:=by
 exists a1d ?_ ?_,G
 exists a2m G (md':=[.imm,.imm,.own]) ?_ ?_ ?_ ?_
 eq_refl
theorem db9:DB d9 false bd9:=by
 exists a1d ?_ ?_,G
theorem db10:DB d10 false d2z:=by
 delta d2z
 exists b7k ?_,G
 exists a2v (a0x G (own:=["_law_one"]) (md':=[]) ?_)
 ac_nf
 ac_nf
 ac_nf
theorem db11:DB d11 false d2y:=by
 delta d2y
 exists b7k ?_,G
 exists a2v (a0x G (own:=["_law_a","_law_b","_law_size"]) (md':=[]) ?_)
 ac_nf
 ac_nf
 ac_nf
theorem db12:DB d12 true d8t:=by
 exists a1d ?_ ?_,G
theorem db13:DB d13 false d8s:=by
 exists a1d ?_ ?_,G
 exists a2m G (md':=[]) ?_ ?_ ?_ ?_
 eq_refl
theorem db14:DB d14 false d8r:=by
 exists a1d ?_ ?_,G
 exists a2v (a0x G (own:=["_law_make","_law_on"]) (md':=[]) ?_)
 ac_nf
 ac_nf
 ac_nf
 exists a2m G (md':=[]) ?_ ?_ ?_ ?_
 eq_refl
 exists a2m G (md':=[]) ?_ ?_ ?_ ?_
 eq_refl
theorem db15:DB d15 false d2x:=by
 delta d2x
 exists b7k ?_,G
 exists a2v (a0x G (own:=["_law_makes","_law_price"]) (md':=[]) ?_)
 ac_nf
 ac_nf
 ac_nf
theorem db16:DB d16 false d8q:=by
 exists a1d ?_ ?_,G
 exists a2m G (md':=[.imm,.imm,.own]) ?_ ?_ ?_ ?_
 eq_refl
 exists a2v (a0x G (own:=["_law_make"]) (md':=[.imm,.imm,.own]) ?_)
 ac_nf
 ac_nf
 ac_nf
 exists a2v (a0x G (own:=["_law_make","_law_size"]) (md':=[.imm,.imm,.own]) ?_)
 ac_nf
 ac_nf
 ac_nf
 exists a2v (a0x G (own:=["_law_a","_law_b","_law_size"]) (md':=[.imm,.imm,.own]) ?_)
 ac_nf
 ac_nf
 ac_nf
theorem db17:DB d17 false d8p:=by
 exists a1d ?_ ?_,G
 exists a2m G (md':=[.own,.imm,.own,.own,.imm,.imm,.imm,.own,.imm,.imm,.imm,.own,.own]) ?_ ?_ ?_ ?_
 eq_refl
 exists a2m G (md':=[.own,.imm,.own,.frz,.imm,.imm,.imm,.own,.imm,.imm,.imm,.own,.own]) ?_ ?_ ?_ ?_
 eq_refl
 exists a2m G (md':=[.own,.imm,.own,.own,.imm,.imm,.imm,.own,.imm,.imm,.imm,.own,.own]) ?_ ?_ ?_ ?_
 eq_refl
 exists b7j G (own:=["_law_other"]) (md':=[.own,.imm,.own,.own,.imm,.imm,.imm,.own,.imm,.imm,.imm,.own,.own]) ?_ ?_ ?_
 ac_nf
 ac_nf
 ac_nf
 exists a2m G (md':=[.own,.imm,.own,.own,.imm,.imm,.imm,.own,.imm,.imm,.imm,.own,.own]) ?_ ?_ ?_ ?_
 eq_refl
 exists a2v (a0x G (own:=["_law_makes","_law_own"]) (md':=[.own,.imm,.own,.own,.imm,.imm,.imm,.frz,.imm,.imm,.imm,.own,.own]) ?_)
 ac_nf
 ac_nf
 ac_nf
 exists a2m G (md':=[.own,.imm,.own,.own,.imm,.imm,.imm,.own,.imm,.imm,.imm,.own,.own]) ?_ ?_ ?_ ?_
 eq_refl
 exists a2m G (md':=[.own,.imm,.own,.own,.imm,.imm,.imm,.own,.imm,.imm,.imm,.own,.own]) ?_ ?_ ?_ ?_
 eq_refl
theorem db18:DB d18 false d8o:=by
 exists a1d ?_ ?_,G
 exists a2v (a0x G (own:=["_law_k","_law_size"]) (md':=[]) ?_)
 ac_nf
 ac_nf
 ac_nf
 exists a2v (a0x G (own:=["_law_a","_law_b","_law_size"]) (md':=[]) ?_)
 ac_nf
 ac_nf
 ac_nf
theorem db19:DB d19 false d8n:=by
 exists a1d ?_ ?_,G
 exists a2m G (md':=[.imm,.imm,.imm,.own]) ?_ ?_ ?_ ?_
 eq_refl
 exists a2v (a0x G (own:=["_law_makes","_law_price"]) (md':=[.imm,.imm,.imm,.own]) ?_)
 ac_nf
 ac_nf
 ac_nf
 exists a2v (a0x G (own:=["_law_makes","_law_price"]) (md':=[.imm,.imm,.imm,.own]) ?_)
 ac_nf
 ac_nf
 ac_nf
 exists a2v (a0x G (own:=["_law_a","_law_b","_law_size"]) (md':=[.imm,.imm,.imm,.own]) ?_)
 ac_nf
 ac_nf
 ac_nf
noncomputable def rc (d:Df):DefRec:=⟨Γe d.name,a5e d.st,a2n d.st,a0l d.st,d0u d.st⟩
noncomputable def recs:List DefRec:=[rc d0,rc d1,rc d2,rc d3,rc d4,rc d5,rc d6,rc d7,rc d8,rc d9,rc d10,rc d11,rc d12,rc d13,rc d14,rc d15,rc d16,rc d17,rc d18,rc d19]
noncomputable def view:Program:=c6o PySem.Challenge.pw_keepwhole_k16_known_least_rooms
theorem recs_eq:recs=recsOf view:=by kernel_rfl!
noncomputable def PD (K:Frag)(mg:Str->Option Value) (i:Nat)(x:Str):Prop:=∃ df fd fa fdd,tb[i]?=some fd/\Df.ok df fd.np fd.ns fd.io=true/\(∀ X call n,Good X (df.cc fns) n (spK tb call)->FSs X (df.cc fns) fd.fr (a2n df.st) (fd.body call))/\Fun K (Γe df.name) (Γe df.name) df.st fa fdd/\mg x=some (.ref fa)/\Binds K fdd df.ps []
local macro_rules | `(tactic| exists $d,$b,$j,$u)=>`(tactic| (refine And.intro (have ⟨fa,fd,m,F⟩:=DIn.fn (by assumption) ((by assumption:∀ d∈recs,DIn _ _ d) (rc $d) (List.mem_of_getElem? (i:=$j) rfl)); ⟨$d,_,fa,fd,rfl,by decide +kernel,$b,F,m,F.binds fun _ _ _ _ _ _ us hl=>$u (P:=fun us=>bindArgs _ ⟨us,[]⟩=pure (List.zip _ us)) hl (by intros; first | kernel_rfl! | rfl)⟩) ?_))
theorem d7r {K:Frag}{h:Heap}{mg:Str->Option Value}(A:AllIn K h)(D:∀ d∈recs,DIn K mg d):EachI (PD K mg) 0 fns:=by
 exists d0,db0,0,us1
 exists d1,db1,1,us1
 exists d2,db2,2,us2
 exists d3,db3,3,us2
 exists d4,db4,4,us2
 exists d5,db5,5,us2
 exists d6,db6,6,us2
 exists d7,db7,7,us2
 exists d8,db8,8,us2
 exists d9,db9,9,us2
 exists d10,db10,10,us1
 exists d11,db11,11,us1
 exists d12,db12,12,us2
 exists d13,db13,13,us2
 exists d14,db14,14,us2
 exists d15,db15,15,us3
 exists d16,db16,16,us2
 exists d17,db17,17,us2
 exists d18,db18,18,us3
 exists d19,db19,19,us1
 trivial
theorem law_fn (w:World)(K:Frag)(mg:Str->Option Value)(fa:Addr)(h:Heap)(A:AllIn K h)(D:∀ d∈recs,DIn K mg d)(blt:∀ b∈bltNames,mg (Γe b)=none)(hm:mg (Γe "law")=some (.ref fa)) :
  ∃ fd:FuncData,(∀ (s:Shared)(u:Value),BindsTo s fd ⟨[u],[]⟩ [(Γe "_law_script",u)])/\∀ base:Heap,FnOk PySem.Challenge.pw_keepwhole_k16_known_least_rooms w K mg base CX0 14 fa fd [Γe "_law_script"] (spT K tb (callW tb 14) 19):=by
 obtain⟨fa2,fd,m,F⟩:=DIn.fn A (D (rc d19) (List.mem_of_getElem? (i:=19) rfl))
 have e:=hm.symm.trans m
 cases e
 have E:∀ (f:Nat)(x:Str),fns[f]?=some x->PD K mg f x:=λf x hx=>by
  have:=EachI.get (d7r A D) f x hx
  rwa [Nat.zero_add] at this
 refine⟨fd,?_,λbase=>b7l (df:=d19) F rfl (by nofun) db19 (b8t blt E 13) blt⟩
 obtain⟨oc,od,kV,doc,pm,an,cdv,ct,osl,rfl,lk,hcd⟩:=F.ex
 exact λs v=>.of_eq rfl
end Kq
end
set_option maxHeartbeats 0
section
open PySem PySem.W PyProof.Rows
theorem Kq.said : PySem.Challenge.rw_keepwhole_k16_known_least_rooms.wellSaid = true := by nofun
theorem Kq.left : LeftO PySem.Challenge.rw_keepwhole_k16_known_least_rooms.prog Kq.view [] (fun s => xlAt Kq.view [] s && recOk (RowW.records PySem.Challenge.rw_keepwhole_k16_known_least_rooms.row.toRowW) s) (fun _ => ()) (fun _ => ()) 3000 := by
  intro w
  kernel_rfl!
theorem Kq.freeAll : (Kq.bltNames.all fun b => Kq.freeIn Kq.view (looseW Kq.view []) (Str.ofString b)) = true := by nofun
theorem Kq.hdef : defOf Kq.view PySem.Challenge.rw_keepwhole_k16_known_least_rooms.name = some (Kq.rc Kq.d19, []) := by kernel_rfl!
theorem Kq.hp : PySem.Challenge.rw_keepwhole_k16_known_least_rooms.prog.theDef PySem.Challenge.rw_keepwhole_k16_known_least_rooms.name = some ((Kq.rc Kq.d19).params, (Kq.rc Kq.d19).body, (Kq.rc Kq.d19).scope) := by kernel_rfl!
theorem Kq.okq : (chainsOk Kq.view && opensWell PySem.Challenge.rw_keepwhole_k16_known_least_rooms.prog && (frees PySem.Challenge.rw_keepwhole_k16_known_least_rooms.row.toRowW && PySem.Challenge.rw_keepwhole_k16_known_least_rooms.row.within.isEmpty)) = true := by nofun
theorem Kq.prom : PySem.Challenge.rw_keepwhole_k16_known_least_rooms.row.toRowW.promised := ⟨[.list []], by nofun, by nofun⟩
theorem PySem.Challenge.cw_keepwhole_k16_known_least_rooms_holds : PySem.Challenge.rw_keepwhole_k16_known_least_rooms.Holds :=
  Kq.row_holds Kq.said Kq.left Kq.hdef Kq.hp rfl rfl Kq.okq ⟨rfl, rfl, rfl, rfl, rfl, by nofun⟩ Kq.prom (Kq.walk2 (n := 63) (k := 14) (ds := Kq.recs) (x := Str.ofString "_law_script") (sp := fun K => Kq.spT K Kq.tb (Kq.callW Kq.tb 14) 19) rfl (by decide) rfl ⟨rfl, by decide, by decide, rfl⟩ Kq.recs_eq Kq.freeAll Kq.law_fn fun _ _ a ns hl hO hS => Kq.law_sp rfl rfl rfl hO hS (Kq.law_val ns))
end
