import PyProof.Rows.All
import Wide.All
import OpenK.AllK
import Wide.FinOn
import Lean
import PyProof.EqAt
import PyProof.EqKinds
import PyProof.TupleCall
import PySem.Challenge.RW_keepwhole_k07_stocks_or_not
section
set_option Elab.async false
set_option linter.all false
set_option maxRecDepth 100000
namespace L2
open PySem PySem.Spec PyProof.Rows
abbrev Key:=Sum Int Str
def keyIs:Key→Value→Bool
 | .inl k,v=>Value.isInt k v
 | .inr x,v=>Value.isStrOf x v
def keyH (w:World):Key→Int
 | .inl k=>hashInt k
 | .inr x=>hashStr w x
theorem keyIs_shape:∀ {k:Key} {v:Value},keyIs k v = true→(∃ i t,k = Sum.inl i∧v = Value.int i t) ∨ (∃ x t,k = Sum.inr x∧v = Value.str x t)
 | .inl i,v,h=>by
  obtain ⟨t,e⟩:=Value.isInt_shape (k:=i) (v:=v) h
  exact .inl ⟨i,t,rfl,e⟩
 | .inr x,v,h=>by
  obtain ⟨t,e⟩:=Value.isStrOf_shape (x:=x) (v:=v) h
  exact .inr ⟨x,t,rfl,e⟩
theorem key_ll (a b:Int):decide ((Sum.inl a:Key) = Sum.inl b) = (a == b):=by
 by_cases e:a = b
 ·subst e; simp
 ·have h:¬ (Sum.inl a:Key) = Sum.inl b:=fun q=>e (Sum.inl.inj q)
  rw [decide_eq_false h]
  exact (beq_eq_false_iff_ne.mpr e).symm
theorem key_rr (a b:Str):decide ((Sum.inr a:Key) = Sum.inr b) = decide (a = b):=by
 by_cases e:a = b
 ·subst e; simp
 ·have h:¬ (Sum.inr a:Key) = Sum.inr b:=fun q=>e (Sum.inr.inj q)
  rw [decide_eq_false h,decide_eq_false e]
theorem key_lr (a:Int) (b:Str):decide ((Sum.inl a:Key) = Sum.inr b) = false:=decide_eq_false (fun q=>nomatch q)
theorem key_rl (a:Str) (b:Int):decide ((Sum.inr a:Key) = Sum.inl b) = false:=decide_eq_false (fun q=>nomatch q)
def mixKind (prog:Program) (w:World):PySem.KeyKind prog w Key where
 is:=keyIs
 hash:=keyH w
 inj:=fun v a b ha hb=>by
  rcases keyIs_shape ha with ⟨i,t,rfl,rfl⟩ | ⟨x,t,rfl,rfl⟩
  ·rcases keyIs_shape hb with ⟨j,u,rfl,e⟩ | ⟨y,u,rfl,e⟩
   ·injection e with e1 _; rw [e1]
   ·exact nomatch e
  ·rcases keyIs_shape hb with ⟨j,u,rfl,e⟩ | ⟨y,u,rfl,e⟩
   ·exact nomatch e
   ·injection e with e1 _; rw [e1]
 byValue:=fun k v h=>by
  rcases keyIs_shape h with ⟨i,t,rfl,rfl⟩ | ⟨x,t,rfl,rfl⟩ <;> rfl
 pyHash:=fun hv h=>by
  rcases keyIs_shape hv with ⟨i,t,rfl,rfl⟩ | ⟨x,t,rfl,rfl⟩
  ·exact wpAny_pyHash_int h
  ·exact wpAny_pyHash_str h
 eqBool:=fun hu hv h=>by
  rcases keyIs_shape hu with ⟨i,t,rfl,rfl⟩ | ⟨x,t,rfl,rfl⟩
  ·rcases keyIs_shape hv with ⟨j,u,rfl,rfl⟩ | ⟨y,u,rfl,rfl⟩
   ·rw [key_ll] at h; exact wpAny_eqBool_int h
   ·rw [key_lr] at h; exact SeqAt.EqAt.int_str i t y u _ _ _ _ h
  ·rcases keyIs_shape hv with ⟨j,u,rfl,rfl⟩ | ⟨y,u,rfl,rfl⟩
   ·rw [key_rl] at h; exact SeqAt.EqAt.str_int x t j u _ _ _ _ h
   ·rw [key_rr] at h; exact wpAny_eqBool_str h
 «strs»:=fun k x t v h=>by
  rcases keyIs_shape h with ⟨i,u,rfl,e⟩ | ⟨y,u,rfl,e⟩
  ·exact nomatch e
  ·injection e with e1 _
   subst e1
   cases v <;> rfl
end L2
namespace L2
open PySem PySem.Spec PyProof.Rows
inductive V where
 | non | bl (b:Bool) | int (i:Int) | str (x:Str) | byt (b:Array UInt8) | flt (b:UInt64) | ref (a:Addr) | ty (n:String)
 deriving DecidableEq
def RelV:V→Value→Prop
 | .non,u=>u = Value.none
 | .bl b,u=>u = Value.bool b
 | .int i,u=>∃ t,u = Value.int i t
 | .str x,u=>∃ t,u = Value.str x t
 | .byt b,u=>∃ t,u = Value.bytes b t
 | .flt b,u=>∃ t,u = Value.float b t
 | .ref a,u=>u = Value.ref a
 | .ty n,u=>u = Value.type n
abbrev Vals:List V→List Value→Prop:=Paired RelV
theorem Vals.length {xs:List V} {us:List Value} (r:Vals xs us):xs.length = us.length:=Paired.length r
theorem Vals.get:∀ {xs:List V} {us:List Value} {i:Nat} {x:V},Vals xs us→xs[i]? = some x→∃ u,us[i]? = some u∧RelV x u
 | _,_,_,_,.nil,e=>by simp at e
 | _,_,0,_,.cons r _,e=>by simp at e; subst e; exact ⟨_,rfl,r⟩
 | _,_,i + 1,x,.cons _ t,e=>by
  obtain ⟨u,h1,h2⟩:=Vals.get (i:=i) (x:=x) t (by simpa using e)
  exact ⟨u,by simpa using h1,h2⟩
theorem Vals.set {x:V} {u:Value} (r:RelV x u):∀ {xs:List V} {us:List Value} (i:Nat),Vals xs us→Vals (xs.set i x) (us.set i u)
 | _,_,_,.nil=>.nil
 | _,_,0,.cons _ t=>.cons r t
 | _,_,i + 1,.cons q t=>.cons q (Vals.set r i t)
theorem Vals.append:∀ {xs ys:List V} {us ws:List Value},Vals xs us→Vals ys ws→Vals (xs ++ ys) (us ++ ws)
 | _,_,_,_,.nil,s=>s
 | _,_,_,_,.cons r t,s=>.cons r (Vals.append t s)
theorem Vals.take:∀ {xs:List V} {us:List Value} (n:Nat),Vals xs us→Vals (xs.take n) (us.take n)
 | _,_,0,_=>.nil
 | _,_,_ + 1,.nil=>.nil
 | _,_,n + 1,.cons r t=>.cons r (Vals.take n t)
theorem Vals.drop:∀ {xs:List V} {us:List Value} (n:Nat),Vals xs us→Vals (xs.drop n) (us.drop n)
 | _,_,0,r=>r
 | _,_,_ + 1,.nil=>.nil
 | _,_,n + 1,.cons _ t=>Vals.drop n t
def RelO:Option V→Option Value→Prop
 | some v,some u=>RelV v u
 | none,none=>True
 | _,_=>False
def KV {κ:Type}:List (κ×V)→List (κ×Value)→Prop:=Paired fun (p:κ×V) (q:κ×Value)=>p.1 = q.1∧RelV p.2 q.2
def kV:Key→V
 | .inl i=>.int i
 | .inr x=>.str x
inductive HO where
 | lst (xs:List V)
 | tup (xs:List V)
 | dK (kvs:List (Key×V)) | dT (kvs:List (List Key×V))
 | set (S:Int→Bool) (n:Nat)
 | ins (C dx:Addr) (fs:List (Str×V))
 | own (x:Addr)
 | xd (fs:List (Str×V))
 | met (f x:Addr)
 | rng (lo hi:Int)
 | frz (o:Obj) (u:HO)
 | tbl (ps:Array Value)
 | ext (φ:Heap→Prop)
abbrev Hp:=Addr→Option HO
def upd (H:Hp) (a:Addr) (o:HO):Hp:=fun b=>if b = a then some o else H b
theorem upd_same {H:Hp} {a:Addr} {o:HO}:upd H a o a = some o:=by unfold upd; rw [if_pos rfl]
theorem upd_ne {H:Hp} {a b:Addr} {o:HO} (h:b ≠ a):upd H a o b = H b:=by unfold upd; rw [if_neg h]
theorem ne_of {H:Hp} {a b:Addr} {o u:HO} (h:H a = some o) (h':H b = some u) (d:o ≠ u):a ≠ b:=by
 intro e; subst e; rw [h] at h'; exact d (Option.some.inj h')
theorem ne_of_none {H:Hp} {a b:Addr} {o:HO} (h:H a = some o) (h':H b = none):a ≠ b:=by
 intro e; subst e; rw [h] at h'; cases h'
section
variable (P:Program) (w:World)
def ObjOk (H:Hp) (h:Heap) (a:Addr):HO→Prop
 | .lst xs=>xs.length ≤ sizeLine∧∃ (its:List Value) (n:Nat),Vals xs its∧h.get? a = some { cls:=.type "list",data:=.seq its.toArray n }
 | .tup xs=>xs.length ≤ sizeLine∧∃ its:List Value,Vals xs its∧IsTup h a its.toArray
 | .dK kvs=>kvs.length ≤ sizeLine∧(a == sysModules) = false∧∃ vs,KV kvs vs∧h.DictOf (mixKind P w) a vs
 | .dT kvs=>kvs.length ≤ sizeLine∧(a == sysModules) = false∧∃ xs:List (List Key×Addr×Value),
   Paired (fun (p:List Key×V) (q:List Key×Addr×Value)=>p.1 = q.1∧H q.2.1 = some (.tup (p.1.map kV))∧RelV p.2 q.2.2) kvs xs ∧
   ∃ o es ep,h.get? a = some o∧o.ExactDict∧o.data = .dict es ep∧es.toList = xs.map (entryOfKey (tupleKind (mixKind P w)))∧(xs.map (·.1)).Nodup
 | .set S n=>h.SetOf (intKind P w) a S n
 | .ins C dx fs=>H dx = some (.own a)∧fs.length ≤ 1000∧dx ≠ a∧h.get? a = some (PySem.W.instObj C dx) ∧
   ∃ mA,h.Ns1 dx mA∧(∀ f,RelO (fs.lookup f) (mA f))∧PySem.Within mA (fs.map (·.1))
 | .own _=>∃ o,h.get? a = some o
 | .xd fs=>∃ mA,h.Ns1 a mA∧∀ f,RelO (fs.lookup f) (mA f)
 | .rng lo hi=>∃ t u v,h.get? a = some { cls:=.type "range",data:=.fields #[.int lo t,.int hi u,.int 1 v] }
 | .frz o u=>h.get? a = some o∧ObjOk H h a u
 | .tbl ps=>h.get? a = some { cls:=.none,data:=.fields ps }
 | .met f x=>h.get? a = some (PySem.W.methodObj (.ref f) (.ref x))
 | .ext φ=>φ h∧(∃ o,h.get? a = some o)∧∀ h1 h2:Heap,φ h1→(∀ o,h1.get? a = some o→h2.get? a = some o)→φ h2
def HOk (H:Hp) (h:Heap):Prop:=∀ a o,H a = some o→ObjOk P w H h a o
end
section
variable {P:Program} {w:World} {H H':Hp} {h h':Heap} {a:Addr} {o:HO}
theorem ObjOk.lt (x:ObjOk P w H h a o):a < h.objs.size:=by
 cases o with
 | lst xs=>obtain ⟨_,_,_,_,e⟩:=x; exact Heap.lt_size e
 | tup xs=>obtain ⟨_,_,_,p⟩:=x; exact p.lt
 | dK kvs=>obtain ⟨_,_,_,_,o,_,_,e,_⟩:=x; exact Heap.lt_size e
 | dT kvs=>obtain ⟨_,_,_,_,o,_,_,e,_⟩:=x; exact Heap.lt_size e
 | set S n=>obtain ⟨o,_,_,_,e,_⟩:=x; exact Heap.lt_size e
 | ins C dx fs=>obtain ⟨_,_,_,e,_⟩:=x; exact Heap.lt_size e
 | own y=>obtain ⟨_,e⟩:=x; exact Heap.lt_size e
 | xd fs=>obtain ⟨_,⟨_,_,_,e,_⟩,_⟩:=x; exact Heap.lt_size e
 | rng lo hi=>obtain ⟨_,_,_,e⟩:=x; exact Heap.lt_size e
 | frz ob u=>obtain ⟨e,_⟩:=x; exact Heap.lt_size e
 | tbl ps=>exact Heap.lt_size (show h.get? a = some _ from x)
 | met f y=>exact Heap.lt_size (show h.get? a = some _ from x)
 | ext φ=>obtain ⟨_,⟨_,e⟩,_⟩:=x; exact Heap.lt_size e
theorem Paired.mapP {α β:Type} {F G:α→β→Prop}:∀ {l₁:List α} {l₂:List β},Paired F l₁ l₂→(∀ a b,F a b→G a b)→Paired G l₁ l₂
 | _,_,.nil,_=>.nil
 | _,_,.cons r t,f=>.cons (f _ _ r) (Paired.mapP t f)
theorem ObjOk.stay (x:ObjOk P w H h a o) (k:∀ b u,(b = a ∨ H b = some (.own a))→h.get? b = some u→h'.get? b = some u)
  (ho:∀ b,H b = some (.own a)→H' b = some (.own a)) (ht:∀ b xs,H b = some (.tup xs)→H' b = some (.tup xs)):ObjOk P w H' h' a o:=by
 induction o with
 | lst xs=>obtain ⟨z,its,n,r,e⟩:=x; exact ⟨z,its,n,r,k _ _ (.inl rfl) e⟩
 | tup xs=>obtain ⟨z,its,r,ob,e,c⟩:=x; exact ⟨z,its,r,ob,k _ _ (.inl rfl) e,c⟩
 | dK kvs=>obtain ⟨z,y,vs,r,ob,es,ep,e,c⟩:=x; exact ⟨z,y,vs,r,ob,es,ep,k _ _ (.inl rfl) e,c⟩
 | dT kvs =>
  obtain ⟨z,y,xs,r,ob,es,ep,e,c⟩:=x
  exact ⟨z,y,xs,Paired.mapP r fun p q z=>⟨z.1,ht _ _ z.2.1,z.2.2⟩,ob,es,ep,k _ _ (.inl rfl) e,c⟩
 | set S n=>obtain ⟨ob,es,ep,t,e,c⟩:=x; exact ⟨ob,es,ep,t,k _ _ (.inl rfl) e,c⟩
 | ins C dx fs =>
  obtain ⟨d,z,ne,e,mA,⟨od,es,ep,e2,c⟩,r⟩:=x
  exact ⟨ho _ d,z,ne,k _ _ (.inl rfl) e,mA,⟨od,es,ep,k _ _ (.inr d) e2,c⟩,r⟩
 | own y=>obtain ⟨ob,e⟩:=x; exact ⟨ob,k _ _ (.inl rfl) e⟩
 | xd fs=>obtain ⟨mA,⟨od,es,ep,e,c⟩,r⟩:=x; exact ⟨mA,⟨od,es,ep,k _ _ (.inl rfl) e,c⟩,r⟩
 | rng lo hi=>obtain ⟨t,u,v,e⟩:=x; exact ⟨t,u,v,k _ _ (.inl rfl) e⟩
 | frz ob u ih=>obtain ⟨e,q⟩:=x; exact ⟨k _ _ (.inl rfl) e,ih q⟩
 | tbl ps =>
  have e:h.get? a = some { cls:=.none,data:=.fields ps }:=x
  show h'.get? a = some { cls:=.none,data:=.fields ps }
  exact k a _ (.inl rfl) e
 | met f y =>
  have e:h.get? a = some (PySem.W.methodObj (.ref f) (.ref y)):=x
  show h'.get? a = some (PySem.W.methodObj (.ref f) (.ref y))
  exact k a _ (.inl rfl) e
 | ext φ=>obtain ⟨p,⟨o,e⟩,st⟩:=x; exact ⟨st _ _ p fun o q=>k _ _ (.inl rfl) q,⟨o,k _ _ (.inl rfl) e⟩,st⟩
theorem HOk.lt (x:HOk P w H h) (e:H a = some o):a < h.objs.size:=(x a o e).lt
theorem HOk.fresh (x:HOk P w H h) (e:h.objs.size ≤ a):H a = none:=by
 cases q:H a with
 | none=>rfl
 | some u=>exact absurd (Nat.lt_of_lt_of_le (x.lt q) e) (Nat.lt_irrefl _)
theorem HOk.kept (x:HOk P w H h) (k:∀ b u,h.get? b = some u→h'.get? b = some u):HOk P w H h':=fun a o e =>
 (x a o e).stay (fun b u _ q=>k b u q) (fun _ q=>q) fun _ _ q=>q
theorem HOk.laid (x:HOk P w H h) (k:∀ b u,h.get? b = some u→h'.get? b = some u) (hp:h.objs.size ≤ a) (new:ObjOk P w (upd H a o) h' a o):HOk P w (upd H a o) h':=fun b u e=>by
 have hn:=x.fresh hp
 by_cases hb:b = a
 ·subst hb; rw [upd_same] at e; cases e; exact new
 ·rw [upd_ne hb] at e
  exact (x b u e).stay (fun c v _ q=>k c v q) (fun c q=>by rw [upd_ne (ne_of_none q hn)]; exact q) fun c xs q=>by rw [upd_ne (ne_of_none q hn)]; exact q
end
def Rd (H:Hp) (a:Addr) (u:HO):Prop:=H a = some u ∨ ∃ o,H a = some (.frz o u)
theorem Rd.of {H:Hp} {a:Addr} {u:HO} (h:H a = some u):Rd H a u:=.inl h
theorem Rd.ok {P:Program} {w:World} {H:Hp} {h:Heap} {a:Addr} {u:HO} (r:Rd H a u) (x:HOk P w H h):ObjOk P w H h a u:=by
 rcases r with r | ⟨o,r⟩
 ·exact x a u r
 ·obtain ⟨_,q⟩:=x a _ r
  exact q
def Mut:Option HO→Prop
 | some (.lst _)=>True
 | some (.dK _)=>True
 | some (.dT _)=>True
 | some (.set _ _)=>True
 | some (.ins _ _ _)=>True
 | some (.ext _)=>True
 | _=>False
section
variable {P:Program} {w:World} {H:Hp} {h h':Heap} {x e:Addr} {o':HO}
theorem HOk.write (ok:HOk P w H h) (mu:Mut (H x)) (he:e = x ∨ H e = some (.own x)) (k:∀ b u,b ≠ e→h.get? b = some u→h'.get? b = some u) (heo:∃ u,h'.get? e = some u)
  (new:ObjOk P w (upd H x o') h' x o'):HOk P w (upd H x o') h':=fun b u q=>by
 have nown:∀ c y,H c = some (.own y)→c ≠ x:=fun c y r z=>by subst z; rw [r] at mu; exact mu
 have ntup:∀ c xs,H c = some (.tup xs)→c ≠ x:=fun c xs r z=>by subst z; rw [r] at mu; exact mu
 by_cases hb:b = x
 ·subst hb; rw [upd_same] at q; cases q; exact new
 ·rw [upd_ne hb] at q
  by_cases hbe:b = e
  ·have q':H b = some (.own x):=by
    rcases he with z | z
    ·exact absurd (hbe.trans z) hb
    ·rw [hbe]; exact z
   rw [q] at q'; cases q'
   obtain ⟨v,hv⟩:=heo
   exact ⟨v,by rw [hbe]; exact hv⟩
  ·refine (ok b u q).stay (fun c v hc r=>k c v ?_ r) (fun c r=>by rw [upd_ne (nown c b r)]; exact r) fun c xs r=>by rw [upd_ne (ntup c xs r)]; exact r
   rcases hc with rfl | hc
   ·exact hbe
   ·rintro rfl
    rcases he with z | z
    ·exact nown c b hc z
    ·rw [hc] at z; cases z; exact hb rfl
end
structure Un (fs ex:List Addr) (H H':Hp) (h h':Heap):Prop where
 keep:∀ b o,h.get? b = some o→H b = none→b ∉ fs→b ∉ ex→h'.get? b = some o
 slot:∀ b o,h.get? b = some o→H b = none→b ∈ fs→b ∉ ex→∃ sl,h'.get? b = some { o with slots:=sl }
 free:∀ b o,h.get? b = some o→H b = none→b ∉ ex→H' b = none
 there:∀ b o,h.get? b = some o→b ∉ ex→∃ o',h'.get? b = some o'
 tups:∀ b xs,H b = some (.tup xs)→H' b = some (.tup xs)
 frzs:∀ b o u,H b = some (.frz o u)→H' b = some (.frz o u)
 tbls:∀ b ps,H b = some (.tbl ps)→∃ more,H' b = some (.tbl (ps ++ more))
section
variable {fs fs' ex ex':List Addr} {H H1 H2:Hp} {h h1 h2 h':Heap} {a x e:Addr} {o:HO}
theorem Un.any (u:Un fs ex H H1 h h1) {b:Addr} {ob:Obj} (q:h.get? b = some ob) (n:H b = none) (hx:b ∉ ex):∃ sl,h1.get? b = some { ob with slots:=sl }:=by
 by_cases hb:b ∈ fs
 ·exact u.slot b ob q n hb hx
 ·exact ⟨ob.slots,u.keep b ob q n hb hx⟩
theorem Un.trans (a:Un fs ex H H1 h h1) (b:Un fs ex H1 H2 h1 h2):Un fs ex H H2 h h2 where
 keep:=fun c ob q n hc hx=>b.keep c ob (a.keep c ob q n hc hx) (a.free c ob q n hx) hc hx
 slot:=fun c ob q n hc hx=>by
  obtain ⟨sl,e1⟩:=a.slot c ob q n hc hx
  obtain ⟨sl',e2⟩:=b.slot c _ e1 (a.free c ob q n hx) hc hx
  exact ⟨sl',e2⟩
 free:=fun c ob q n hx=>by
  obtain ⟨o',e1⟩:=a.there c ob q hx
  exact b.free c o' e1 (a.free c ob q n hx) hx
 there:=fun c ob q hx=>by
  obtain ⟨o',e1⟩:=a.there c ob q hx
  exact b.there c o' e1 hx
 tups:=fun c xs q=>b.tups c xs (a.tups c xs q)
 frzs:=fun c ob xs q=>b.frzs c ob xs (a.frzs c ob xs q)
 tbls:=fun c ps q=>by
  obtain ⟨m1,e1⟩:=a.tbls c ps q
  obtain ⟨m2,e2⟩:=b.tbls c _ e1
  exact ⟨m1 ++ m2,by rw [e2,Array.append_assoc]⟩
theorem Un.kept (k:∀ b u,h.get? b = some u→h'.get? b = some u):Un fs ex H H h h' :=
 ⟨fun b ob q _ _ _=>k b ob q,fun b ob q _ _ _=>⟨ob.slots,k b ob q⟩,fun _ _ _ n _=>n,fun b ob q _=>⟨ob,k b ob q⟩,fun _ _ q=>q,fun _ _ _ q=>q,fun _ ps q=>⟨#[],by rw [q]; simp⟩⟩
theorem Un.refl:Un fs ex H H h h:=Un.kept fun _ _ q=>q
theorem Un.laid (k:∀ b u,h.get? b = some u→h'.get? b = some u) (hp:h.objs.size ≤ a) (hn:H a = none):Un fs ex H (upd H a o) h h' where
 keep:=fun b u q _ _ _=>k b u q
 slot:=fun b u q _ _ _=>⟨u.slots,k b u q⟩
 free:=fun b u q n _=>by rw [upd_ne (Nat.ne_of_lt (Nat.lt_of_lt_of_le (Heap.lt_size q) hp))]; exact n
 there:=fun b u q _=>⟨u,k b u q⟩
 tups:=fun b xs q=>by rw [upd_ne (ne_of_none q hn)]; exact q
 frzs:=fun b u xs q=>by rw [upd_ne (ne_of_none q hn)]; exact q
 tbls:=fun b ps q=>⟨#[],by rw [upd_ne (ne_of_none q hn),q]; simp⟩
theorem Un.write (mu:Mut (H x)) (he:e = x ∨ H e = some (.own x)) (k:∀ b u,b ≠ e→h.get? b = some u→h'.get? b = some u) (heo:∃ u,h'.get? e = some u):Un fs ex H (upd H x o) h h':=by
 have hx:∀ b,H b = none→b ≠ x:=fun b n z=>by subst z; rw [n] at mu; exact mu
 have hb:∀ b,H b = none→b ≠ e:=fun b n z=>by
  subst z
  rcases he with r | r
  ·exact hx b n r
  ·rw [n] at r; cases r
 have hm:∀ b u,H b = some u→¬ Mut (some u)→b ≠ x:=fun b u q nm z=>by subst z; rw [q] at mu; exact nm mu
 refine ⟨fun b u q n _ _=>k b u (hb b n) q,fun b u q n _ _=>⟨u.slots,k b u (hb b n) q⟩,fun b u q n _=>by rw [upd_ne (hx b n)]; exact n,fun b u q _=>?_,
  fun b xs q=>by rw [upd_ne (hm b _ q fun z=>z)]; exact q,fun b u xs q=>by rw [upd_ne (hm b _ q fun z=>z)]; exact q,fun b ps q=>⟨#[],by rw [upd_ne (hm b _ q fun z=>z),q]; simp⟩⟩
 by_cases hbe:b = e
 ·subst hbe; exact heo
 ·exact ⟨u,k b u hbe q⟩
theorem Un.mono (u:Un fs ex H H1 h h1) (hs:∀ b ∈ fs,b ∈ fs') (hx:∀ b ∈ ex,b ∈ ex'):Un fs' ex' H H1 h h1 :=
 ⟨fun b ob q n hb he=>u.keep b ob q n (fun z=>hb (hs b z)) fun z=>he (hx b z),fun _ _ q n _ he=>u.any q n fun z=>he (hx _ z),fun b ob q n he=>u.free b ob q n fun z=>he (hx b z),fun b ob q he=>u.there b ob q fun z=>he (hx b z),u.tups,u.frzs,u.tbls⟩
end
def trk (h:Heap) (H:Hp):List Addr:=(List.range h.objs.size).filter fun a=>(H a).isSome
def hidT (h:Heap) (H:Hp):Heap:=PySem.W.hideAll h (trk h H)
theorem hidT_size (h:Heap) (H:Hp):(hidT h H).objs.size = h.objs.size:=PySem.W.hideAll_size _ _
theorem hidT_get {h:Heap} {H:Hp} {b:Addr} {o:Obj} (e:h.get? b = some o) (n:H b = none):(hidT h H).get? b = some o :=
 PySem.W.hideAll_get _ e fun hm=>by
  have q:(H b).isSome = true:=(List.mem_filter.mp hm).2
  rw [n] at q; simp at q
theorem of_hidT {h:Heap} {H:Hp} {b:Addr} {o:Obj} (e:(hidT h H).get? b = some o):h.get? b = some o∧H b = none:=by
 have e':h.get? b = some o:=PySem.W.of_hideAll (trk h H) e
 refine ⟨e',?_⟩
 cases q:H b with
 | none=>rfl
 | some x =>
  have hm:b ∈ trk h H:=List.mem_filter.mpr ⟨List.mem_range.mpr (Heap.lt_size e'),by simp [q]⟩
  have z:(hidT h H).get? b = none:=PySem.W.hideAll_none (trk h H) hm
  rw [z] at e; cases e
def allNews (g h:Heap) (L:Addr):List (Addr×Obj):=(List.range h.objs.size).filterMap fun a=>if a = L ∨ (g.get? a).isSome = true then none else (h.get? a).map fun o=>(a,o)
def rest (g h:Heap) (L d:Addr):List (Addr×Obj):=(allNews g h L).filter fun p=>decide (p.1 ≠ d)
end L2
namespace L2
open PySem PySem.Spec PyProof.Rows
structure Mod (K:PySem.W.Frag) (mg:Str→Option Value) (base:Heap):Prop where
 kin:K.In base
 glob:base.Ns mainGlobals mg
 blt:∃ mb,base.Ns builtinsNs mb∧∀ x:Str,x ≠ "__name__"→mb x = bootBuiltins x
 nolimit:base.NoLimit
structure Cx where
 prog:Program
 w:World
 K:PySem.W.Frag
 mg:Str→Option Value
 base:Heap
 A:Around
 N:List Str
 s₀:Shared
 H₀:Hp
 env:Env
 outer:List Env
 stack:List Env
 ex:List Addr
 fn:Str→Bool
 calm:Bool
 pn:List (Addr×Obj)
 xe:Value→Shared→Prop
def frs (l:List Env):List Addr:=l.filterMap (·.frame)
abbrev Cx.fs (X:Cx):List Addr:=frs X.outer
def Vis (sc:Scope) (x:Str):Prop:=sc.names.lookup x = some .local ∨ sc.names.lookup x = some .cell ∨ sc.names.lookup x = some .free
def Loc (sc:Scope) (x:Str):Prop:=sc.names.lookup x = some .local ∨ sc.names.lookup x = some .cell
def Look (env:Env) (h:Heap) (m:Str→Option Value) (x:Str) (u:Value):Prop :=
 (env.kindOf x = some .local∧m x = some u) ∨ ((env.kindOf x = some .cell ∨ env.kindOf x = some .free)∧∃ c,env.cells.lookup x = some c∧h.IsCell c (some u))
structure Cx.Ok (X:Cx):Prop where
 mod:Mod X.K X.mg X.base
 kind:X.env.scope.kind = .function
 glob:X.env.globals = mainGlobals
 blt:X.env.builtins = builtinsNs
 above:X.s₀.heap.objs.size ≤ X.env.locals
 inj:∀ x y c,X.env.cells.lookup x = some c→X.env.cells.lookup y = some c→x = y
 has:∀ x,(X.env.kindOf x = some .cell ∨ X.env.kindOf x = some .free)→∃ c,X.env.cells.lookup x = some c
 cab:∀ x c,X.fn x = true→X.env.cells.lookup x = some c→X.s₀.heap.objs.size ≤ c
 hd:X.calm = true→X.A.handled = none
 frames:X.A.frames = some X.stack
 stk:X.stack = X.outer ∨ (X.stack = X.env :: X.outer∧X.env.frame = some X.env.locals)
 exf:∀ b ∈ X.ex,b ≠ X.env.locals∧∀ x c,X.env.cells.lookup x = some c→c ≠ b
 bs:∀ b o,X.base.get? b = some o→X.s₀.heap.get? b = some o∧X.H₀ b = none
 bsz:X.base.objs.size ≤ X.s₀.heap.objs.size
 noex:∀ b o,X.base.get? b = some o→b ∉ X.ex
 exfs:∀ b ∈ X.ex,b ∉ X.fs
 funs:X.s₀.heap.FunFrames X.base X.outer
 frf:∀ b ∈ X.fs,X.H₀ b = none
structure Inv (X:Cx) (pins:List (Addr×Obj)) (σ:List (Option V)) (H:Hp) (s:Shared):Prop where
 ok:X.Ok
 os:s.os = X.s₀.os
 bare:AllBare s.gens
 base:Un X.fs X.ex X.H₀ H X.s₀.heap s.heap
 loc:∃ m,s.heap.Ns X.env.locals m∧∀ (i:Nat) (x:Str) (v:V),X.N[i]? = some x→σ[i]? = some (some v)→Vis X.env.scope x→∃ u,RelV v u∧Look X.env s.heap m x u
 cell:∀ x c,X.env.cells.lookup x = some c→∃ v,s.heap.IsCell c v
 free:H X.env.locals = none
 freeC:∀ x c,X.env.cells.lookup x = some c→H c = none
 pin:∀ p ∈ X.pn ++ pins,s.heap.get? p.1 = some p.2∧H p.1 = none∧p.1 ≠ X.env.locals∧p.1 ∉ X.fs∧∀ v,p.2.data ≠ .cell v
 hok:HOk X.prog X.w H s.heap
 len:σ.length = X.N.length
section
variable {X:Cx} {pins:List (Addr×Obj)} {σ:List (Option V)} {H H':Hp} {s:Shared} {h':Heap}
theorem Cx.Ok.nofr (ok:X.Ok) {b:Addr} {o:Obj} (e:X.base.get? b = some o):b ∉ X.fs:=fun hb=>by
 have:=(ok.funs.mem hb).1
 rw [e] at this; cases this
theorem Inv.bs (I:Inv X pins σ H s):∀ b o,X.base.get? b = some o→s.heap.get? b = some o∧H b = none:=fun b o e =>
 ⟨I.base.keep b o (I.ok.bs b o e).1 (I.ok.bs b o e).2 (I.ok.nofr e) (I.ok.noex b o e),I.base.free b o (I.ok.bs b o e).1 (I.ok.bs b o e).2 (I.ok.noex b o e)⟩
theorem Inv.bk (I:Inv X pins σ H s):∀ b o,X.base.get? b = some o→s.heap.get? b = some o:=fun b o e=>(I.bs b o e).1
theorem Inv.mod (I:Inv X pins σ H s):Mod X.K X.mg X.base:=I.ok.mod
theorem Inv.kIn (I:Inv X pins σ H s):X.K.In s.heap:=I.ok.mod.kin.keeps I.bk
theorem Inv.nolimit (I:Inv X pins σ H s):s.heap.NoLimit:=I.ok.mod.nolimit.keeps I.bk
theorem Inv.fr (I:Inv X pins σ H s):∃ m,Fr X.base X.env.locals s.heap m :=
 let ⟨m,hn,_⟩:=I.loc
 ⟨m,hn,I.bk,Nat.le_trans I.ok.bsz I.ok.above⟩
theorem Inv.lt (I:Inv X pins σ H s):X.env.locals < s.heap.objs.size:=let ⟨_,hn,_⟩:=I.loc; hn.lt
theorem Inv.sz (I:Inv X pins σ H s):X.s₀.heap.objs.size ≤ s.heap.objs.size:=Nat.le_trans I.ok.above (Nat.le_of_lt I.lt)
theorem Inv.nofs (I:Inv X pins σ H s) {a:Addr} (h:s.heap.objs.size ≤ a):a ∉ X.fs:=fun hb=>by
 obtain ⟨_,o,ho,_⟩:=I.ok.funs.mem hb
 exact absurd (Nat.lt_of_lt_of_le (Heap.lt_size ho) (Nat.le_trans I.sz h)) (Nat.lt_irrefl _)
theorem Inv.cne (I:Inv X pins σ H s):∀ x c,X.env.cells.lookup x = some c→c ≠ X.env.locals:=fun x c e z=>by
 obtain ⟨v,o,ho,hd⟩:=I.cell x c e
 obtain ⟨m,⟨o',es,ep,ho',hd',_⟩,_⟩:=I.loc
 rw [z,ho'] at ho; cases ho; rw [hd'] at hd; cases hd
theorem Inv.funs (I:Inv X pins σ H s):s.heap.FunFrames X.base X.outer:=by
 have all:∀ (l:List Env),(∀ b ∈ frs l,b ∈ X.fs)→X.s₀.heap.FunFrames X.base l→s.heap.FunFrames X.base l:=by
  intro l
  induction l with
  | nil=>intro _ _; trivial
  | cons env r ih =>
   intro hs hl
   obtain ⟨hk,⟨L,o,hf,hn,ho,hd⟩,hr⟩:=hl
   have hL:L ∈ X.fs:=hs L (by unfold frs; rw [List.filterMap_cons,hf]; exact List.mem_cons_self)
   obtain ⟨sl,e⟩:=I.base.slot L o ho (I.ok.frf L hL) hL fun z=>I.ok.exfs L z hL
   exact ⟨hk,⟨L,_,hf,hn,e,hd⟩,ih (fun b hb=>hs b (by unfold frs; rw [List.filterMap_cons,hf]; exact List.mem_cons_of_mem _ hb)) hr⟩
 exact all X.outer (fun _ hb=>hb) I.ok.funs
theorem Inv.stack (I:Inv X pins σ H s):s.heap.FunFrames X.base X.stack:=by
 rcases I.ok.stk with e | ⟨e,hf⟩
 ·rw [e]; exact I.funs
 ·rw [e]
  obtain ⟨m,hn,_⟩:=I.loc
  refine .cons (by rw [I.ok.kind]; decide) hf hn ?_ I.funs
  exact Heap.get?_none_of_le (Nat.le_trans I.ok.bsz I.ok.above)
theorem Inv.stkSub (I:Inv X pins σ H s):∀ b ∈ frs X.stack,b ∈ X.env.locals :: X.fs:=fun b hb=>by
 rcases I.ok.stk with e | ⟨e,hf⟩
 ·rw [e] at hb; exact List.mem_cons_of_mem _ hb
 ·rw [e] at hb
  unfold frs at hb
  rw [List.filterMap_cons,hf] at hb
  exact hb
theorem Inv.stkFree (I:Inv X pins σ H s):∀ b ∈ frs X.stack,H b = none:=fun b hb=>by
 rcases List.mem_cons.mp (I.stkSub b hb) with e | hb
 ·rw [e]; exact I.free
 ·obtain ⟨_,o,ho,_⟩:=I.ok.funs.mem hb
  exact I.base.free b o ho (I.ok.frf b hb) fun z=>I.ok.exfs b z hb
theorem Inv.step {g':Array GenState} {t':Nat} {d':Drawn} {ch:List Addr} (I:Inv X pins σ H s)
  (hch:∀ b ∈ ch,(b ∈ X.ex ∨ X.s₀.heap.objs.size ≤ b)∧b ≠ X.env.locals∧(∀ x c,X.env.cells.lookup x = some c→c ≠ b)∧∀ p ∈ X.pn ++ pins,p.1 ≠ b)
  (keep:∀ b o,b ≠ X.env.locals→b ∉ X.fs→b ∉ ch→s.heap.get? b = some o→H b = none→h'.get? b = some o)
  (slot:∀ b o,b ≠ X.env.locals→b ∈ X.fs→b ∉ ch→s.heap.get? b = some o→H b = none→∃ sl,h'.get? b = some { o with slots:=sl }) (free:∀ b o,b ∉ ch→s.heap.get? b = some o→H b = none→H' b = none)
  (there:∀ b o,b ∉ ch→s.heap.get? b = some o→∃ o',h'.get? b = some o')
  (tups:∀ b xs,H b = some (.tup xs)→H' b = some (.tup xs)) (frzs:∀ b o u,H b = some (.frz o u)→H' b = some (.frz o u)) (tbls:∀ b ps,H b = some (.tbl ps)→∃ more,H' b = some (.tbl (ps ++ more)))
  (ns:∀ m,s.heap.Ns X.env.locals m→h'.Ns X.env.locals m) (hok:HOk X.prog X.w H' h') (hg:AllBare g') :
  Inv X pins σ H' { s with heap:=h',gens:=g',drawn:=d',toks:=t' }:=by
 have neL:∀ b o,X.s₀.heap.get? b = some o→b ≠ X.env.locals:=fun b o e=>Nat.ne_of_lt (Nat.lt_of_lt_of_le (Heap.lt_size e) I.ok.above)
 have neC:∀ b o,X.s₀.heap.get? b = some o→b ∉ X.ex→b ∉ ch:=fun b o e hx hb=>by
  rcases (hch b hb).1 with z | z
  ·exact hx z
  ·exact absurd (Nat.lt_of_lt_of_le (Heap.lt_size e) z) (Nat.lt_irrefl _)
 have cellK:∀ x c,X.env.cells.lookup x = some c→∀ v,s.heap.IsCell c v→h'.IsCell c v:=fun x c e v ⟨o,ho,hd⟩=>by
  have nch:c ∉ ch:=fun z=>(hch c z).2.2.1 x c e rfl
  by_cases hc:c ∈ X.fs
  ·obtain ⟨sl,q⟩:=slot c o (I.cne x c e) hc nch ho (I.freeC x c e)
   exact ⟨_,q,hd⟩
  ·exact ⟨o,keep c o (I.cne x c e) hc nch ho (I.freeC x c e),hd⟩
 refine ⟨I.ok,I.os,hg,⟨fun b o e n hb hx=>?_,fun b o e n hb hx=>?_,fun b o e n hx=>?_,fun b o e hx=>?_,fun b xs e=>tups b xs (I.base.tups b xs e),fun b o xs e=>frzs b o xs (I.base.frzs b o xs e),fun b ps e=>?_⟩,?_,fun x c e=>?_,?_,fun x c e=>?_,fun p hp=>?_,hok,I.len⟩
 ·exact keep b o (neL b o e) hb (neC b o e hx) (I.base.keep b o e n hb hx) (I.base.free b o e n hx)
 ·obtain ⟨sl,e1⟩:=I.base.slot b o e n hb hx
  obtain ⟨sl',e2⟩:=slot b _ (neL b o e) hb (neC b o e hx) e1 (I.base.free b o e n hx)
  exact ⟨sl',e2⟩
 ·obtain ⟨o',e1⟩:=I.base.there b o e hx
  exact free b o' (neC b o e hx) e1 (I.base.free b o e n hx)
 ·obtain ⟨o',e1⟩:=I.base.there b o e hx
  exact there b o' (neC b o e hx) e1
 ·obtain ⟨m1,e1⟩:=I.base.tbls b ps e
  obtain ⟨m2,e2⟩:=tbls b _ e1
  exact ⟨m1 ++ m2,by rw [e2,Array.append_assoc]⟩
 ·obtain ⟨m,hn,hl⟩:=I.loc
  refine ⟨m,ns m hn,fun i x v e1 e2 e3=>?_⟩
  obtain ⟨u,r,l⟩:=hl i x v e1 e2 e3
  refine ⟨u,r,?_⟩
  rcases l with l | ⟨k,c,e,z⟩
  ·exact .inl l
  ·exact .inr ⟨k,c,e,cellK x c e _ z⟩
 ·obtain ⟨v,z⟩:=I.cell x c e
  exact ⟨v,cellK x c e v z⟩
 ·obtain ⟨m,⟨o,_,_,ho,_⟩,_⟩:=I.loc
  exact free _ o (fun z=>(hch _ z).2.1 rfl) ho I.free
 ·obtain ⟨v,o,ho,hd⟩:=I.cell x c e
  exact free c o (fun z=>(hch c z).2.2.1 x c e rfl) ho (I.freeC x c e)
 ·obtain ⟨e,n,ne,nf,d⟩:=I.pin p hp
  have nch:p.1 ∉ ch:=fun z=>(hch p.1 z).2.2.2 p hp rfl
  exact ⟨keep p.1 p.2 ne nf nch e n,free p.1 p.2 nch e n,ne,nf,d⟩
theorem Inv.un {t':Nat} (I:Inv X pins σ H s) (u:Un X.fs [] H H' s.heap h') (hok:HOk X.prog X.w H' h'):Inv X pins σ H' { s with heap:=h',toks:=t' }:=by
 obtain ⟨m,⟨o,es,ep,ho,r⟩,_⟩:=id I.loc
 obtain ⟨sl,hL⟩:=u.any ho I.free (by simp)
 exact I.step (g':=s.gens) (d':=s.drawn) (ch:=[]) (fun _ z=>nomatch z) (fun b o _ hb _ e n=>u.keep b o e n hb (by simp)) (fun b o _ hb _ e n=>u.slot b o e n hb (by simp)) (fun b o _ e n=>u.free b o e n (by simp)) (fun b o _ e=>u.there b o e (by simp)) u.tups u.frzs u.tbls (fun m' hm=>by
  obtain ⟨o',es',ep',ho',r'⟩:=hm
  rw [ho] at ho'; cases ho'
  exact ⟨_,es',ep',hL,r'⟩) hok I.bare
theorem Inv.call {g':Array GenState} {t':Nat} {d':Drawn} {ch:List Addr} (I:Inv X pins σ H s) (u:Un (frs X.stack) ch H H' s.heap h') (hok:HOk X.prog X.w H' h') (hg:AllBare g')
  (hch:∀ b ∈ ch,(b ∈ X.ex ∨ X.s₀.heap.objs.size ≤ b)∧b ≠ X.env.locals∧(∀ x c,X.env.cells.lookup x = some c→c ≠ b)∧∀ p ∈ X.pn ++ pins,p.1 ≠ b) :
  Inv X pins σ H' { s with heap:=h',gens:=g',drawn:=d',toks:=t' }:=by
 obtain ⟨m,⟨o,es,ep,ho,r⟩,_⟩:=id I.loc
 obtain ⟨sl,hL⟩:=u.any ho I.free fun z=>(hch _ z).2.1 rfl
 exact I.step (ch:=ch) hch (fun b o hL hb hc e n=>u.keep b o e n (fun z=>(List.mem_cons.mp (I.stkSub b z)).elim hL hb) hc) (fun b o _ _ hc e n=>u.any e n hc) (fun b o hc e n=>u.free b o e n hc) (fun b o hc e=>u.there b o e hc) u.tups u.frzs u.tbls (fun m' hm=>by
  obtain ⟨o',es',ep',ho',r'⟩:=hm
  rw [ho] at ho'; cases ho'
  exact ⟨_,es',ep',hL,r'⟩) hok hg
theorem Inv.turned {t':Nat} {it:Addr} (I:Inv X pins σ H s) (k:∀ b o,b ≠ it→s.heap.get? b = some o→h'.get? b = some o) (hn:H it = none) (hL:it ≠ X.env.locals)
  (h1:it ∈ X.ex ∨ X.s₀.heap.objs.size ≤ it) (h2:∀ x c,X.env.cells.lookup x = some c→c ≠ it) (h3:∀ p ∈ X.pn ++ pins,p.1 ≠ it):Inv X pins σ H { s with heap:=h',toks:=t' }:=by
 have nit:∀ b u,H b = some u→b ≠ it:=fun b u e z=>by rw [z,hn] at e; cases e
 refine I.step (g':=s.gens) (d':=s.drawn) (ch:=[it]) (fun b hb=>?_) (fun b o _ _ hc e _=>k b o (fun z=>hc (by simp [z])) e) (fun b o _ _ hc e _=>⟨o.slots,k b o (fun z=>hc (by simp [z])) e⟩) (fun _ _ _ _ n=>n)
  (fun b o hc e=>⟨o,k b o (fun z=>hc (by simp [z])) e⟩) (fun _ _ e=>e) (fun _ _ _ e=>e) (fun b ps e=>⟨#[],by rw [e]; simp⟩) (fun m hm=>?_) (fun b u e=>?_) I.bare
 ·have e:b = it:=by simpa using hb
  subst e
  exact ⟨h1,hL,h2,h3⟩
 ·obtain ⟨o,es,ep,ho,r⟩:=hm
  exact ⟨o,es,ep,k _ o (Ne.symm hL) ho,r⟩
 ·refine (I.hok b u e).stay (fun c v hc q=>k c v ?_ q) (fun _ q=>q) fun _ _ q=>q
  rcases hc with z | z
  ·rw [z]; exact nit b u e
  ·exact nit c _ z
theorem Inv.tok (I:Inv X pins σ H s) (t:Nat):Inv X pins σ H { s with toks:=t }:=I.un (h':=s.heap) (t':=t) Un.refl I.hok
theorem Inv.kept {t':Nat} (I:Inv X pins σ H s) (k:∀ b u,s.heap.get? b = some u→h'.get? b = some u):Inv X pins σ H { s with heap:=h',toks:=t' }:=I.un (Un.kept k) (I.hok.kept k)
theorem Inv.laid {a:Addr} {o:HO} {t':Nat} (I:Inv X pins σ H s) (k:∀ b u,s.heap.get? b = some u→h'.get? b = some u) (hp:s.heap.objs.size ≤ a) (new:ObjOk X.prog X.w (upd H a o) h' a o) :
  Inv X pins σ (upd H a o) { s with heap:=h',toks:=t' }:=I.un (Un.laid k hp (I.hok.fresh hp)) (I.hok.laid k hp new)
theorem Inv.write {x e:Addr} {o:HO} {t':Nat} (I:Inv X pins σ H s) (mu:Mut (H x)) (he:e = x ∨ H e = some (.own x)) (k:∀ b u,b ≠ e→s.heap.get? b = some u→h'.get? b = some u) (heo:∃ u,h'.get? e = some u)
  (new:ObjOk X.prog X.w (upd H x o) h' x o):Inv X pins σ (upd H x o) { s with heap:=h',toks:=t' }:=I.un (Un.write mu he k heo) (I.hok.write mu he k heo new)
theorem Inv.weak {σ':List (Option V)} (I:Inv X pins σ H s) (hl:σ'.length = σ.length) (w:∀ (i:Nat) v,σ'[i]? = some (some v)→σ[i]? = some (some v)):Inv X pins σ' H s :=
 ⟨I.ok,I.os,I.bare,I.base,let ⟨m,hn,hl'⟩:=I.loc; ⟨m,hn,fun i x v e1 e2 e3=>hl' i x v e1 (w i v e2) e3⟩,I.cell,I.free,I.freeC,I.pin,I.hok,hl.trans I.len⟩
theorem Inv.pins_of {pins':List (Addr×Obj)} (I:Inv X pins σ H s) (h:∀ p ∈ pins',s.heap.get? p.1 = some p.2∧H p.1 = none∧p.1 ≠ X.env.locals∧p.1 ∉ X.fs∧∀ v,p.2.data ≠ .cell v):Inv X pins' σ H s :=
 ⟨I.ok,I.os,I.bare,I.base,I.loc,I.cell,I.free,I.freeC,fun p hp=>(List.mem_append.mp hp).elim (fun z=>I.pin p (List.mem_append_left _ z)) (h p),I.hok,I.len⟩
theorem nodup_ix {N:List Str} (hN:N.Nodup) {i j:Nat} {x:Str} (a:N[i]? = some x) (b:N[j]? = some x):i = j:=by
 obtain ⟨h1,e1⟩:=List.getElem?_eq_some_iff.mp a
 obtain ⟨h2,e2⟩:=List.getElem?_eq_some_iff.mp b
 exact (List.getElem_inj hN).mp (e1.trans e2.symm)
theorem store_ok2 {M:Model} {A:Around} {E:Value→Shared→Prop} {i:Nat} {x:Str} {v:V} {u:Value} {Q:Unit→Shared→Prop} (I:Inv X pins σ H s) (hN:X.N.Nodup) (hi:X.N[i]? = some x) (hx:Loc X.env.scope x) (r:RelV v u)
  (h:∀ s',Inv X pins (σ.set i (some v)) H s'→(∃ a,Heap.SameBut a s.heap s'.heap∧(a = X.env.locals ∨ X.env.cells.lookup x = some a))→Q () s') (hf:X.fn x = true ∨ X.env.scope.names.lookup x = some .local:=by first | exact .inl rfl | exact .inr rfl | assumption):wpAny M A (storeName X.env x u) Q E s:=by
 obtain ⟨m,hn,hl⟩:=id I.loc
 have hcls:(X.env.scope.kind == .class || (X.env.scope.kind == .module && X.env.locals != X.env.globals)) = false:=by rw [I.ok.kind]; rfl
 have hiσ:i < σ.length:=by rw [I.len]; exact (List.getElem?_eq_some_iff.mp hi).1
 have cne:=I.cne
 have tracked:∀ {a:Addr} {h':Heap},(∃ o,s.heap.get? a = some o∧H a = none)→Heap.SameBut a s.heap h'→HOk X.prog X.w H h':=fun {a h'} ha hs b ob e=>by
  obtain ⟨_,_,hfree⟩:=ha
  refine (I.hok b ob e).stay (fun c w' hc q=>(hs.2 c ?_).trans q) (fun _ q=>q) fun _ _ q=>q
  rintro rfl
  rcases hc with rfl | hc
  ·rw [hfree] at e; cases e
  ·rw [hfree] at hc; cases hc
 rcases hx with hk | hk
 ·refine wpAny_storeName_local hk hn (fun h' hn' hs=>?_) hcls
  obtain ⟨oL,_,_,hoL,_⟩:=id hn
  refine h _ ⟨I.ok,I.os,I.bare,⟨fun b o e n hb hx=>?_,fun b o e n hb hx=>?_,I.base.free,fun b o e hx=>?_,I.base.tups,I.base.frzs,I.base.tbls⟩,⟨_,hn',fun j y v' e1 e2 e3=>?_⟩,fun y c e=>?_,I.free,I.freeC,fun p hp=>?_,tracked ⟨oL,hoL,I.free⟩ hs,by simpa using I.len⟩ ⟨_,hs,.inl rfl⟩
  ·exact (hs.2 b (Nat.ne_of_lt (Nat.lt_of_lt_of_le (Heap.lt_size e) I.ok.above))).trans (I.base.keep b o e n hb hx)
  ·obtain ⟨sl,e1⟩:=I.base.slot b o e n hb hx
   exact ⟨sl,(hs.2 b (Nat.ne_of_lt (Nat.lt_of_lt_of_le (Heap.lt_size e) I.ok.above))).trans e1⟩
  ·obtain ⟨o',e1⟩:=I.base.there b o e hx
   exact ⟨o',(hs.2 b (Nat.ne_of_lt (Nat.lt_of_lt_of_le (Heap.lt_size e) I.ok.above))).trans e1⟩
  ·by_cases hj:j = i
   ·subst hj
    rw [hi] at e1; cases e1
    rw [List.getElem?_set_self hiσ] at e2
    cases e2
    exact ⟨u,r,.inl ⟨hk,by simp⟩⟩
   ·rw [List.getElem?_set_ne (Ne.symm hj)] at e2
    obtain ⟨u',r',q⟩:=hl j y v' e1 e2 e3
    refine ⟨u',r',?_⟩
    rcases q with ⟨k,e⟩ | ⟨k,c,e,z⟩
    ·refine .inl ⟨k,?_⟩
     have:y ≠ x:=fun e=>hj (nodup_ix hN e1 (e ▸ hi))
     simp [this,e]
    ·exact .inr ⟨k,c,e,z.sameBut hs (cne y c e)⟩
  ·obtain ⟨w',z⟩:=I.cell y c e
   exact ⟨w',z.sameBut hs (cne y c e)⟩
  ·obtain ⟨e,n,ne,nf,d⟩:=I.pin p hp
   exact ⟨(hs.2 p.1 ne).trans e,n,ne,nf,d⟩
 ·have hfn:X.fn x = true:=by
   rcases hf with z | z
   ·exact z
   ·rw [z] at hk; cases hk
  obtain ⟨c,hc⟩:=I.ok.has x (.inl hk)
  obtain ⟨w',z⟩:=I.cell x c hc
  refine wpAny_storeName_cell I.ok.kind hk hc z (fun h' hc' hs=>?_)
  obtain ⟨oc,hoc,hocd⟩:=id z
  refine h { s with heap:=h' } ⟨I.ok,I.os,I.bare,⟨fun b o e n hb hx=>?_,fun b o e n hb hx=>?_,I.base.free,fun b o e hx=>?_,I.base.tups,I.base.frzs,I.base.tbls⟩,⟨m,hn.sameBut hs (Ne.symm (cne x c hc)),fun j y v' e1 e2 e3=>?_⟩,fun y c' e=>?_,I.free,I.freeC,fun p hp=>?_,tracked ⟨oc,hoc,I.freeC x c hc⟩ hs,by simpa using I.len⟩ ⟨c,hs,.inr hc⟩
  ·exact (hs.2 b (Nat.ne_of_lt (Nat.lt_of_lt_of_le (Heap.lt_size e) (I.ok.cab x c hfn hc)))).trans (I.base.keep b o e n hb hx)
  ·obtain ⟨sl,e1⟩:=I.base.slot b o e n hb hx
   exact ⟨sl,(hs.2 b (Nat.ne_of_lt (Nat.lt_of_lt_of_le (Heap.lt_size e) (I.ok.cab x c hfn hc)))).trans e1⟩
  ·obtain ⟨o',e1⟩:=I.base.there b o e hx
   exact ⟨o',(hs.2 b (Nat.ne_of_lt (Nat.lt_of_lt_of_le (Heap.lt_size e) (I.ok.cab x c hfn hc)))).trans e1⟩
  ·by_cases hj:j = i
   ·subst hj
    rw [hi] at e1; cases e1
    rw [List.getElem?_set_self hiσ] at e2
    cases e2
    exact ⟨u,r,.inr ⟨.inl hk,c,hc,hc'⟩⟩
   ·rw [List.getElem?_set_ne (Ne.symm hj)] at e2
    obtain ⟨u',r',q⟩:=hl j y v' e1 e2 e3
    refine ⟨u',r',?_⟩
    rcases q with q | ⟨k,c',e,z'⟩
    ·exact .inl q
    ·refine .inr ⟨k,c',e,z'.sameBut hs ?_⟩
     rintro rfl
     exact hj (nodup_ix hN e1 (I.ok.inj _ _ _ e hc ▸ hi))
  ·by_cases hcc:c' = c
   ·subst hcc; exact ⟨_,hc'⟩
   ·obtain ⟨w2,z2⟩:=I.cell y c' e
    exact ⟨w2,z2.sameBut hs hcc⟩
  ·obtain ⟨e,n,ne,nf,d⟩:=I.pin p hp
   refine ⟨(hs.2 p.1 ?_).trans e,n,ne,nf,d⟩
   intro q
   rw [q,hoc] at e
   have q':oc = p.2:=Option.some.inj e
   exact d w' (by rw [← q']; exact hocd)
theorem store_ok {M:Model} {A:Around} {E:Value→Shared→Prop} {i:Nat} {x:Str} {v:V} {u:Value} {Q:Unit→Shared→Prop} (I:Inv X pins σ H s) (hN:X.N.Nodup) (hi:X.N[i]? = some x) (hx:Loc X.env.scope x) (r:RelV v u)
  (h:∀ s',Inv X pins (σ.set i (some v)) H s'→Q () s') (hf:X.fn x = true ∨ X.env.scope.names.lookup x = some .local:=by first | exact .inl rfl | exact .inr rfl | assumption):wpAny M A (storeName X.env x u) Q E s :=
 store_ok2 I hN hi hx r (fun s' I' _=>h s' I') hf
theorem Inv.call' {s':Shared} {ch:List Addr} (I:Inv X pins σ H s) (ho:s'.os = s.os) (u:Un (frs X.stack) ch H H' s.heap s'.heap) (hok:HOk X.prog X.w H' s'.heap) (hg:AllBare s'.gens)
  (hch:∀ b ∈ ch,(b ∈ X.ex ∨ X.s₀.heap.objs.size ≤ b)∧b ≠ X.env.locals∧(∀ x c,X.env.cells.lookup x = some c→c ≠ b)∧∀ p ∈ X.pn ++ pins,p.1 ≠ b):Inv X pins σ H' s':=by
 obtain ⟨h',g',d',t',o'⟩:=s'
 have e:o' = s.os:=ho
 subst e
 exact I.call (g':=g') (t':=t') (d':=d') u hok hg hch
end
abbrev XK:=Value→Option Addr→Hp→Prop
abbrev St:=List (Option V)
abbrev VK:=V→Hp→Prop
abbrev TE:=St→Hp→VK→Prop
abbrev TT:=St→Hp→(Bool→Hp→Prop)→Prop
abbrev TA:=St→Hp→(List V→Hp→Prop)→Prop
structure Ends where
 nx:St→Hp→Prop
 rt:VK
 bk:St→Hp→Prop:=fun _ _=>False
 ct:St→Hp→Prop:=fun _ _=>False
abbrev TS:=Ends→St→Hp→Prop
def EP (X:Cx) (pins:List (Addr×Obj)) (σ:St) (Q:VK) (u:Value) (s':Shared):Prop:=∃ v H',Inv X pins σ H' s'∧RelV v u∧Q v H'
def TP (X:Cx) (pins:List (Addr×Obj)) (σ:St) (Q:Bool→Hp→Prop) (b:Bool) (s':Shared):Prop:=∃ H',Inv X pins σ H' s'∧Q b H'
def AP (X:Cx) (pins:List (Addr×Obj)) (σ:St) (Q:List V→Hp→Prop) (us:List Value) (s':Shared):Prop:=∃ vs H',Inv X pins σ H' s'∧Vals vs us∧Q vs H'
def SP (X:Cx) (pins:List (Addr×Obj)) (D:Ends) (f:Flow) (s':Shared):Prop :=
 match f with
 | .next=>∃ σ' H',Inv X pins σ' H' s'∧D.nx σ' H'
 | .brk=>∃ σ' H',Inv X pins σ' H' s'∧D.bk σ' H'
 | .cont=>∃ σ' H',Inv X pins σ' H' s'∧D.ct σ' H'
 | .ret u=>∃ v σ' H',Inv X pins σ' H' s'∧RelV v u∧D.rt v H'
def PE (X:Cx) (e:Expr) (t:TE):Prop :=
 ∀ (pins:List (Addr×Obj)) (s:Shared) (σ:St) (H:Hp) (Q:VK),Inv X pins σ H s→t σ H Q→wpAny (model X.prog X.w) X.A (eval e X.env) (EP X pins σ Q) X.xe s
def PT (X:Cx) (e:Expr) (t:TT):Prop :=
 ∀ (pins:List (Addr×Obj)) (s:Shared) (σ:St) (H:Hp) (Q:Bool→Hp→Prop),Inv X pins σ H s→t σ H Q→wpAny (model X.prog X.w) X.A (isTrue e X.env (eval e X.env)) (TP X pins σ Q) X.xe s
def PW (X:Cx) (e:Expr) (t:TT):Prop :=
 ∀ (whole:Sem Value) (pins:List (Addr×Obj)) (s:Shared) (σ:St) (H:Hp) (Q:Bool→Hp→Prop),Inv X pins σ H s→t σ H Q→wpAny (model X.prog X.w) X.A (isTrue e X.env whole) (TP X pins σ Q) X.xe s
theorem PW.pt {X:Cx} {e:Expr} {t:TT} (h:PW X e t):PT X e t:=h _
def PA (X:Cx) (es:List Expr) (t:TA):Prop :=
 ∀ (pos:Pos) (pins:List (Addr×Obj)) (s:Shared) (σ:St) (H:Hp) (Q:List V→Hp→Prop),Inv X pins σ H s→t σ H Q→wpAny (model X.prog X.w) X.A (spliced (backTo pos (starEach es X.env))) (AP X pins σ Q) X.xe s
def PS (X:Cx) (st:Stmt) (t:TS):Prop :=
 ∀ (pins:List (Addr×Obj)) (s:Shared) (σ:St) (H:Hp) (D:Ends),Inv X pins σ H s→t D σ H→wpAny (model X.prog X.w) X.A (exec st X.env) (SP X pins D) X.xe s
def PSs (X:Cx) (st:List Stmt) (t:TS):Prop :=
 ∀ (pins:List (Addr×Obj)) (s:Shared) (σ:St) (H:Hp) (D:Ends),Inv X pins σ H s→t D σ H→wpAny (model X.prog X.w) X.A (execs st X.env) (SP X pins D) X.xe s
theorem thn {α:Type} {t:Sem α} {Q Q':α→Shared→Prop} {M:Model} {A:Around} {E:Value→Shared→Prop} {s:Shared} (h:wpAny M A t Q E s) (hQ:∀ a s,Q a s→Q' a s):wpAny M A t Q' E s:=wpAny_mono h hQ fun _ _ x=>x
end L2
namespace L2
open PySem PySem.Spec PyProof.Rows
section
variable {X:Cx}
theorem bin {a b:Expr} {ta tb:TE} (ha:PE X a ta) (hb:PE X b tb) {pins:List (Addr×Obj)} {s:Shared} {σ:St} {H:Hp} {R:V→V→Hp→Prop} (I:Inv X pins σ H s) (h:ta σ H fun x H1=>tb σ H1 fun y H2=>R x y H2)
  {α:Type} {Q:α→Shared→Prop} {f:Value→Value→Sem α}
  (hf:∀ v u s2 x y H2,Inv X pins σ H2 s2→RelV x v→RelV y u→R x y H2→wpAny (model X.prog X.w) X.A (f v u) Q X.xe s2) :
  wpAny (model X.prog X.w) X.A (eval a X.env) (fun v s₁=>wpAny (model X.prog X.w) X.A (eval b X.env) (fun u s₂=>wpAny (model X.prog X.w) X.A (f v u) Q X.xe s₂) X.xe s₁) X.xe s:=by
 refine thn (ha pins s σ H _ I h) fun v s1 ⟨x,H1,I1,r1,q1⟩=>?_
 refine thn (hb pins s1 σ H1 _ I1 q1) fun u s2 ⟨y,H2,I2,r2,q2⟩=>?_
 exact hf v u s2 x y H2 I2 r1 r2 q2
def tVar (i:Nat):TE:=fun σ H Q=>∃ v,σ[i]? = some (some v)∧Q v H
def tC (v:V):TE:=fun _ H Q=>Q v H
theorem pe_var {i:Nat} {x:Str} {pos:Pos} (hN:X.N[i]? = some x) (hv:Vis X.env.scope x) (hd:(x == ("__debug__":Str)) = false:=by decide) (hcd:(x == ("__classdict__":Str)) = false:=by decide):PE X (.Name x pos) (tVar i):=by
 intro pins s σ H Q I h
 obtain ⟨v,e,h⟩:=h
 obtain ⟨m,hn,hl⟩:=I.loc
 obtain ⟨u,r,l⟩:=hl i x v hN e hv
 have fin:EP X pins σ Q u s:=⟨v,H,I,r,h⟩
 rcases l with ⟨hk,hm⟩ | ⟨hk,c,hc,hcell⟩
 ·exact wpAny_Name (wpAny_loadName_local I.ok.kind hk hn hm fin) hd
 ·rcases hk with hk | hk
  ·exact wpAny_Name (wpAny_loadName_cell I.ok.kind hk hc hcell fin) hd
  ·exact wpAny_Name (wpAny_loadName_free I.ok.kind hk hc hcell fin hcd) hd
theorem pe_int {i j pos}:PE X (.Constant (.int i) j pos) (tC (.int i)):=fun _ _ _ H _ I h=>wpAny_Constant_int ⟨.int i,H,I.tok _,⟨_,rfl⟩,h⟩
theorem pe_bl {b j pos}:PE X (.Constant (.bool b) j pos) (tC (.bl b)):=fun _ _ _ H _ I h=>Constant_bool ⟨.bl b,H,I,rfl,h⟩
theorem pe_non {j pos}:PE X (.Constant .none j pos) (tC .non):=fun _ _ _ H _ I h=>Constant_none ⟨.non,H,I,rfl,h⟩
theorem pe_str {x j pos}:PE X (.Constant (.str x) j pos) (tC (.str x)):=fun _ _ _ H _ I h=>Calls.Constant_str ⟨.str x,H,I.tok _,⟨_,rfl⟩,h⟩
def Gl (X:Cx) (x:Str):Prop:=X.env.kindOf x = some .globalImplicit
theorem ld_glob {E:Value→Shared→Prop} {pins:List (Addr×Obj)} {s:Shared} {σ:St} {H:Hp} {x:Str} {u:Value} {pos:Pos} {Q:Value→Shared→Prop} (I:Inv X pins σ H s) (hg:Gl X x) (hm:X.mg x = some u) (h:Q u s)
  (hd:(x == ("__debug__":Str)) = false:=by decide):wpAny (model X.prog X.w) X.A (eval (.Name x pos) X.env) Q E s :=
 Calls.Name_function_global I.ok.kind hg (Calls.loadGlobal_global (by rw [I.ok.glob]; exact I.mod.glob.keeps I.bk) hm h) hd
theorem ld_blt {E:Value→Shared→Prop} {pins:List (Addr×Obj)} {s:Shared} {σ:St} {H:Hp} {x:Str} {u:Value} {pos:Pos} {Q:Value→Shared→Prop} (I:Inv X pins σ H s) (hg:Gl X x) (hm:X.mg x = none) (hv:bootBuiltins x = some u) (h:Q u s)
  (hn:x ≠ "__name__":=by decide) (hd:(x == ("__debug__":Str)) = false:=by decide):wpAny (model X.prog X.w) X.A (eval (.Name x pos) X.env) Q E s:=by
 obtain ⟨mb,h1,h2⟩:=I.mod.blt
 exact Calls.Name_function_global I.ok.kind hg (Calls.loadGlobal_builtin (by rw [I.ok.glob]; exact I.mod.glob.keeps I.bk) hm (by rw [I.ok.blt]; exact h1.keeps I.bk) ((h2 x hn).trans hv) h) hd
theorem pe_bltn {x:Str} {v:V} {u:Value} {pos:Pos} (hg:Gl X x) (hm:X.mg x = none) (hv:bootBuiltins x = some u) (r:RelV v u) (hn:x ≠ "__name__":=by decide) (hd:(x == ("__debug__":Str)) = false:=by decide):PE X (.Name x pos) (tC v) :=
 fun _ _ _ H _ I h=>ld_blt I hg hm hv ⟨v,H,I,r,h⟩ hn hd
variable {a b:Expr} {ta tb:TE} {pos:Pos}
def PC (X:Cx) (op:CmpOp) (a b:Expr) (t:TE):Prop :=
 ∀ (pins:List (Addr×Obj)) (s:Shared) (σ:St) (H:Hp) (Q:VK),Inv X pins σ H s→t σ H Q →
  wpAny (model X.prog X.w) X.A (eval a X.env) (fun v s₁=>wpAny (model X.prog X.w) X.A (eval b X.env) (fun u s₂=>wpAny (model X.prog X.w) X.A (compareOp op v u) (EP X pins σ Q) X.xe s₂) X.xe s₁) X.xe s
theorem nobehind (b:Expr) {op:CmpOp} (h:op ≠ .In) (h2:op ≠ .NotIn):behindInMarks op b = false:=by
 have e1:(op == CmpOp.In) = false:=by cases op <;> first | rfl | exact absurd rfl h
 have e2:(op == CmpOp.NotIn) = false:=by cases op <;> first | rfl | exact absurd rfl h2
 cases b <;> simp [behindInMarks,e1,e2]
def tIsN (ta:TE):TE:=fun σ H Q=>ta σ H fun x H1=>Q (.bl (decide (x = .non))) H1
def tNotN (ta:TE):TE:=fun σ H Q=>ta σ H fun x H1=>Q (.bl (!decide (x = .non))) H1
theorem RelV.none_iff {x:V} {v:Value} (r:RelV x v):(v == Value.none) = decide (x = .non):=by
 cases x with
 | non=>cases r; rfl
 | bl _=>cases r; rfl
 | int _=>obtain ⟨t,rfl⟩:=r; rfl
 | str _=>obtain ⟨t,rfl⟩:=r; rfl
 | byt _=>obtain ⟨t,rfl⟩:=r; rfl
 | flt _=>obtain ⟨t,rfl⟩:=r; rfl
 | ref _=>cases r; rfl
 | ty _=>cases r; rfl
theorem pc_isN {j pos'} (ha:PE X a ta):PC X .Is a (.Constant .none j pos') (tIsN ta):=by
 intro pins s σ H Q I h
 refine thn (ha pins s σ H _ I h) fun v s1 ⟨x,H1,I1,r1,q1⟩=>?_
 exact Constant_none (is_none_gen ⟨.bl _,H1,I1,by rw [r1.none_iff]; rfl,q1⟩)
theorem pc_notN {j pos'} (ha:PE X a ta):PC X .IsNot a (.Constant .none j pos') (tNotN ta):=by
 intro pins s σ H Q I h
 refine thn (ha pins s σ H _ I h) fun v s1 ⟨x,H1,I1,r1,q1⟩=>?_
 exact Constant_none (isnot_none_gen ⟨.bl _,H1,I1,by rw [r1.none_iff]; rfl,q1⟩)
def tB (t:TE):TT:=fun σ H Q=>t σ H fun x H1=>∃ c,x = .bl c∧Q c H1
theorem pe_cmp {op:CmpOp} {t:TE} (h:PC X op a b t) (h1:behindInMarks op b = false:=by first | exact nobehind _ (by decide) (by decide) | rfl):PE X (.Compare a [op] [b] pos) t:=fun pins s σ H Q I hw=>wpAny_Compare1 (h pins s σ H Q I hw) h1
theorem pt_cmp {op:CmpOp} {t:TE} (h:PC X op a b t) (h1:behindInMarks op b = false:=by first | exact nobehind _ (by decide) (by decide) | rfl):PT X (.Compare a [op] [b] pos) (tB t):=by
 intro pins s σ H Q I hw
 refine wpAny_isTrue_Compare1 (thn (h pins s σ H _ I hw) fun v s1 h1=>thn h1 fun u s2 h2=>thn h2 fun c s3 ⟨x,H1,I1,r1,q1⟩=>?_) h1
 obtain ⟨d,rfl,q⟩:=q1
 cases r1
 exact wpAny_truthy_bool ⟨H1,I1,q⟩
variable {tA tB':TT} {rest:List Expr}
def tAnd (t u:TT):TT:=fun σ H Q=>t σ H fun c H1=>if c = true then u σ H1 Q else Q false H1
def tOr (t u:TT):TT:=fun σ H Q=>t σ H fun c H1=>if c = true then Q true H1 else u σ H1 Q
def tNot (t:TT):TT:=fun σ H Q=>t σ H fun c H1=>Q (!c) H1
theorem pw_and1 (ha:PT X a tA):PW X (.BoolOp .And [a] pos) tA:=by
 intro wh pins s σ H Q I h
 refine isTrue_and (thn (ha pins s σ H Q I h) fun c s1 e=>?_)
 cases c with
 | true=>exact isTrue_and_nil e
 | false=>exact e
theorem pw_or1 (ha:PT X a tA):PW X (.BoolOp .Or [a] pos) tA:=by
 intro wh pins s σ H Q I h
 refine isTrue_or (thn (ha pins s σ H Q I h) fun c s1 e=>?_)
 cases c with
 | false=>exact isTrue_or_nil e
 | true=>exact e
theorem pw_and (ha:PT X a tA) (hb:PW X (.BoolOp .And (b :: rest) pos) tB'):PW X (.BoolOp .And (a :: b :: rest) pos) (tAnd tA tB'):=by
 intro wh pins s σ H Q I h
 refine isTrue_and (thn (ha pins s σ H _ I h) fun c s1 ⟨H1,I1,q1⟩=>?_)
 cases c with
 | true=>exact hb wh pins s1 σ H1 Q I1 q1
 | false=>exact ⟨H1,I1,q1⟩
theorem pw_or (ha:PT X a tA) (hb:PW X (.BoolOp .Or (b :: rest) pos) tB'):PW X (.BoolOp .Or (a :: b :: rest) pos) (tOr tA tB'):=by
 intro wh pins s σ H Q I h
 refine isTrue_or (thn (ha pins s σ H _ I h) fun c s1 ⟨H1,I1,q1⟩=>?_)
 cases c with
 | true=>exact ⟨H1,I1,q1⟩
 | false=>exact hb wh pins s1 σ H1 Q I1 q1
theorem pt_not (ha:PT X a tA):PT X (.UnaryOp .Not a pos) (tNot tA):=by
 intro pins s σ H Q I h
 exact isTrue_not (ha pins s σ H (fun c H1=>Q (!c) H1) I h)
def tNotV (ta:TE):TE:=fun σ H Q=>ta σ H fun x H1=>∃ c,x = .bl c∧Q (.bl (!c)) H1
theorem pe_one {op} {t:TE} (h:PE X a t):PE X (.BoolOp op [a] pos) t:=fun pins s σ H Q I hw=>BoolOp_one (h pins s σ H Q I hw)
theorem pe_not (ha:PE X a ta):PE X (.UnaryOp .Not a pos) (tNotV ta):=by
 intro pins s σ H Q I h
 refine UnaryOp_ (thn (ha pins s σ H _ I h) fun v s1 ⟨x,H1,I1,r1,q1⟩=>?_)
 obtain ⟨c,rfl,q1⟩:=q1
 cases r1
 exact not_of (wpAny_truthy_bool ⟨.bl (!c),H1,I1,rfl,q1⟩)
def tIf (t:TT) (ta tb:TE):TE:=fun σ H Q=>t σ H fun c H1=>if c = true then ta σ H1 Q else tb σ H1 Q
theorem pe_ifExp {c:Expr} (hc:PT X c tA) (ha:PE X a ta) (hb:PE X b tb):PE X (.IfExp c a b pos) (tIf tA ta tb):=by
 intro pins s σ H Q I h
 refine wpAny_IfExp (thn (hc pins s σ H _ I h) fun d s1 ⟨H1,I1,q1⟩=>?_)
 cases d with
 | true=>exact ha pins s1 σ H1 Q I1 q1
 | false=>exact hb pins s1 σ H1 Q I1 q1
end
end L2
namespace L2
open PySem PySem.Spec PyProof.Rows
def SqL (K:PySem.W.Frag) (H:Hp) (a:Addr) (xs:List V):Prop :=
 Rd H a (.lst xs) ∨
  ∃ (o:Obj) (its:Array Value) (n:Nat),K.lookup a = some o∧o.cls = .type "list"∧o.dict = none∧o.data = .seq its n∧its.size ≤ sizeLine∧Vals xs its.toList
def SqT (K:PySem.W.Frag) (H:Hp) (a:Addr) (xs:List V):Prop :=
 Rd H a (.tup xs) ∨
  ∃ (o:Obj) (its:Array Value) (n:Nat),K.lookup a = some o∧o.cls = .type "tuple"∧o.data = .seq its n∧its.size ≤ sizeLine∧Vals xs its.toList
def absV:Value→Option V
 | .none=>some .non
 | .bool b=>some (.bl b)
 | .int i _=>some (.int i)
 | .str x _=>some (.str x)
 | .bytes b _=>some (.byt b)
 | .float b _=>some (.flt b)
 | .ref a=>some (.ref a)
 | .type n=>some (.ty n)
 | _=>none
theorem RelV.abs {x:V} {u:Value} (r:RelV x u):absV u = some x:=by
 cases x with
 | non=>cases r; rfl
 | bl _=>cases r; rfl
 | int _=>obtain ⟨t,rfl⟩:=r; rfl
 | str _=>obtain ⟨t,rfl⟩:=r; rfl
 | byt _=>obtain ⟨t,rfl⟩:=r; rfl
 | flt _=>obtain ⟨t,rfl⟩:=r; rfl
 | ref _=>cases r; rfl
 | ty _=>cases r; rfl
theorem RelV.inj {x y:V} {u:Value} (r:RelV x u) (q:RelV y u):x = y:=Option.some.inj (r.abs.symm.trans q.abs)
theorem Vals.inj:∀ {xs ys:List V} {us:List Value},Vals xs us→Vals ys us→xs = ys
 | _,_,_,.nil,.nil=>rfl
 | _,_,_,.cons r t,.cons r' t'=>by rw [r.inj r',Vals.inj t t']
section
variable {X:Cx} {pins:List (Addr×Obj)} {σ:St} {H:Hp} {s:Shared} {a:Addr} {xs ys:List V}
theorem SqL.of {K:PySem.W.Frag} (h:H a = some (.lst xs)):SqL K H a xs:=.inl (.inl h)
theorem SqT.of {K:PySem.W.Frag} (h:H a = some (.tup xs)):SqT K H a xs:=.inl (.inl h)
theorem Inv.list (I:Inv X pins σ H s) (h:SqL X.K H a xs):∃ its:List Value,Vals xs its∧PlainL s.heap a its.toArray∧xs.length ≤ sizeLine:=by
 rcases h with h | ⟨o,its,n,hk,hc,hd,hs,hz,r⟩
 ·obtain ⟨z,its,n,r,e⟩:=h.ok I.hok
  exact ⟨its,r,⟨_,n,e,rfl,rfl,rfl⟩,z⟩
 ·refine ⟨its.toList,r,⟨o,n,I.kIn a o hk,hc,hd,by simpa using hs⟩,?_⟩
  have e:=r.length
  simp only [Array.length_toList] at e
  omega
theorem Inv.tuple (I:Inv X pins σ H s) (h:SqT X.K H a xs):∃ its:List Value,Vals xs its∧IsTup s.heap a its.toArray∧xs.length ≤ sizeLine:=by
 rcases h with h | ⟨o,its,n,hk,hc,hs,hz,r⟩
 ·obtain ⟨z,its,r,p⟩:=h.ok I.hok
  exact ⟨its,r,p,z⟩
 ·refine ⟨its.toList,r,⟨o,I.kIn a o hk,hc,n,by simpa using hs⟩,?_⟩
  have e:=r.length
  simp only [Array.length_toList] at e
  omega
theorem Inv.list_inj (I:Inv X pins σ H s) (h:SqL X.K H a xs) (h':SqL X.K H a ys):xs = ys:=by
 obtain ⟨its,r,⟨o,n,e,_,_,d⟩,_⟩:=I.list h
 obtain ⟨its',r',⟨o',n',e',_,_,d'⟩,_⟩:=I.list h'
 rw [e] at e'; cases e'
 rw [d] at d'
 injection d' with d1 _
 have:its = its':=by simpa using congrArg Array.toList d1
 subst this
 exact r.inj r'
theorem Inv.tuple_inj (I:Inv X pins σ H s) (h:SqT X.K H a xs) (h':SqT X.K H a ys):xs = ys:=by
 obtain ⟨its,r,⟨o,e,_,n,d⟩,_⟩:=I.tuple h
 obtain ⟨its',r',⟨o',e',_,n',d'⟩,_⟩:=I.tuple h'
 rw [e] at e'; cases e'
 rw [d] at d'
 injection d' with d1 _
 have:its = its':=by simpa using congrArg Array.toList d1
 subst this
 exact r.inj r'
end
abbrev Cx.wish (X:Cx) (E:Value→Shared→Prop):Cx:={ X with xe:=E }
abbrev Cx.nox (X:Cx):Cx:=X.wish fun _ _=>False
theorem Cx.Ok.wish {X:Cx} (ok:X.Ok) (E:Value→Shared→Prop):(X.wish E).Ok :=
 ⟨ok.mod,ok.kind,ok.glob,ok.blt,ok.above,ok.inj,ok.has,ok.cab,ok.hd,ok.frames,ok.stk,ok.exf,ok.bs,ok.bsz,ok.noex,ok.exfs,ok.funs,ok.frf⟩
theorem Cx.Ok.unwish {X:Cx} {E:Value→Shared→Prop} (ok:(X.wish E).Ok):X.Ok :=
 ⟨ok.mod,ok.kind,ok.glob,ok.blt,ok.above,ok.inj,ok.has,ok.cab,ok.hd,ok.frames,ok.stk,ok.exf,ok.bs,ok.bsz,ok.noex,ok.exfs,ok.funs,ok.frf⟩
section
variable {X:Cx} {pins:List (Addr×Obj)} {σ:St} {H:Hp} {s:Shared} {E:Value→Shared→Prop}
theorem Inv.wish (I:Inv X pins σ H s) (E:Value→Shared→Prop):Inv (X.wish E) pins σ H s:=⟨I.ok.wish E,I.os,I.bare,I.base,I.loc,I.cell,I.free,I.freeC,I.pin,I.hok,I.len⟩
theorem Inv.unwish (I:Inv (X.wish E) pins σ H s):Inv X pins σ H s:=⟨I.ok.unwish,I.os,I.bare,I.base,I.loc,I.cell,I.free,I.freeC,I.pin,I.hok,I.len⟩
theorem SP.unwish {D:Ends} {f:Flow} {s':Shared} (h:SP (X.wish E) pins D f s'):SP X pins D f s':=by
 cases f with
 | next=>obtain ⟨σ',H',I,q⟩:=h; exact ⟨σ',H',I.unwish,q⟩
 | brk=>obtain ⟨σ',H',I,q⟩:=h; exact ⟨σ',H',I.unwish,q⟩
 | cont=>obtain ⟨σ',H',I,q⟩:=h; exact ⟨σ',H',I.unwish,q⟩
 | ret u=>obtain ⟨v,σ',H',I,r,q⟩:=h; exact ⟨v,σ',H',I.unwish,r,q⟩
theorem PE.nox {e:Expr} {t:TE} (h:PE X.nox e t):PE X e t:=fun pins s σ H Q I hw =>
 wpAny_mono (h pins s σ H Q (I.wish _) hw) (fun _ _ ⟨v,H',I',r,q⟩=>⟨v,H',I'.unwish,r,q⟩) fun _ _ z=>False.elim z
theorem PT.nox {e:Expr} {t:TT} (h:PT X.nox e t):PT X e t:=fun pins s σ H Q I hw =>
 wpAny_mono (h pins s σ H Q (I.wish _) hw) (fun _ _ ⟨H',I',q⟩=>⟨H',I'.unwish,q⟩) fun _ _ z=>False.elim z
theorem PSs.nox {st:List Stmt} {t:TS} (h:PSs X.nox st t):PSs X st t:=fun pins s σ H D I hw =>
 wpAny_mono (h pins s σ H D (I.wish _) hw) (fun _ _ q=>q.unwish) fun _ _ z=>False.elim z
end
section
variable {X:Cx} {st:Stmt} {rest:List Stmt} {t u:TS} {e:Expr} {te:TE} {pos:Pos}
def tNext:TS:=fun D σ H=>D.nx σ H
def tSeq (t u:TS):TS:=fun D σ H=>t { D with nx:=u D } σ H
theorem pss_nil:PSs X [] tNext:=fun _ _ σ H _ I h=>wpAny_execs_nil ⟨σ,H,I,h⟩
theorem pss_cons (h1:PS X st t) (h2:PSs X rest u):PSs X (st :: rest) (tSeq t u):=by
 intro pins s σ H D I h
 refine wpAny_execs_cons (thn (h1 pins s σ H { D with nx:=u D } I h) fun f s1 q=>?_)
 cases f with
 | next =>
  obtain ⟨σ',H',I',q⟩:=q
  exact h2 pins s1 σ' H' D I' q
 | ret v=>exact q
 | brk=>exact q
 | cont=>exact q
def tBreak:TS:=fun D σ H=>D.bk σ H
def tCont:TS:=fun D σ H=>D.ct σ H
theorem ps_pass:PS X (.Pass pos) tNext:=fun _ _ σ H _ I h=>wpAny_Pass ⟨σ,H,I,h⟩
theorem ps_break:PS X (.Break pos) tBreak:=fun _ _ σ H _ I h=>wpAny_Break ⟨σ,H,I,h⟩
theorem ps_continue:PS X (.Continue pos) tCont:=fun _ _ σ H _ I h=>wpAny_Continue ⟨σ,H,I,h⟩
theorem Inv.quiet {pins:List (Addr×Obj)} {σ:St} {H:Hp} {s:Shared} (I:Inv X pins σ H s):interactive X.env = false:=by simp [interactive,I.ok.kind]
def tDrop (te:TE):TS:=fun D σ H=>te σ H fun _ H1=>D.nx σ H1
theorem ps_expr (he:PE X e te) (hs:swapsWith e none pos.line X.env = pure false:=by rfl):PS X (.Expr e pos) (tDrop te):=by
 intro pins s σ H D I h
 exact wpAny_Expr_any (thn (he pins s σ H _ I h) fun v s1 ⟨x,H1,I1,r1,q1⟩=>⟨σ,H1,I1,q1⟩) I.quiet hs
def tRet (te:TE):TS:=fun D σ H=>te σ H D.rt
theorem ps_ret (he:PE X e te):PS X (.Return (some e) pos) (tRet te):=by
 intro pins s σ H D I h
 exact wpAny_Return_some (thn (he pins s σ H _ I h) fun v s1 ⟨x,H1,I1,r1,q1⟩=>⟨x,σ,H1,I1,r1,q1⟩)
def tRetN:TS:=fun D _ H=>D.rt .non H
theorem ps_retN:PS X (.Return none pos) tRetN:=fun _ _ σ H _ I h=>wpAny_Return_none ⟨.non,σ,H,I,rfl,h⟩
def tIfS (c:TT) (t u:TS):TS:=fun D σ H=>c σ H fun b H1=>if b = true then t D σ H1 else u D σ H1
theorem ps_if {c:Expr} {a b:List Stmt} {tc:TT} (hc:PT X c tc) (ha:PSs X a t) (hb:PSs X b u):PS X (.If c a b pos) (tIfS tc t u):=by
 intro pins s σ H D I h
 refine wpAny_If (thn (hc pins s σ H _ I h) fun d s1 ⟨H1,I1,q1⟩=>?_)
 cases d with
 | true=>exact ha pins s1 σ H1 D I1 q1
 | false=>exact hb pins s1 σ H1 D I1 q1
end
abbrev TG:=V→St→Hp→(St→Hp→Prop)→Prop
abbrev TGs:=List V→St→Hp→(St→Hp→Prop)→Prop
def PG (X:Cx) (target:Expr) (t:TG):Prop :=
 ∀ (pins:List (Addr×Obj)) (s:Shared) (σ:St) (H:Hp) (v:V) (u:Value) (Q:St→Hp→Prop),Inv X pins σ H s→RelV v u→t v σ H Q →
  wpAny (model X.prog X.w) X.A (assign target X.env u) (fun _ s'=>∃ σ' H',Inv X pins σ' H' s'∧Q σ' H') X.xe s
def PGs (X:Cx) (ts:List Expr) (t:TGs):Prop :=
 ∀ (pins:List (Addr×Obj)) (s:Shared) (σ:St) (H:Hp) (vs:List V) (us:List Value) (Q:St→Hp→Prop),Inv X pins σ H s→Vals vs us→t vs σ H Q →
  wpAny (model X.prog X.w) X.A (assignInOrder ((assignEach ts X.env).map (·.2)) us) (fun _ s'=>∃ σ' H',Inv X pins σ' H' s'∧Q σ' H') X.xe s
abbrev TSet:=V→V→V→Hp→(Hp→Prop)→Prop
def PSet (X:Cx) (t:TSet):Prop :=
 ∀ (pins:List (Addr×Obj)) (s:Shared) (σ:St) (H:Hp) (o i v:V) (ov iv u:Value) (Q:Hp→Prop),Inv X pins σ H s→RelV o ov→RelV i iv→RelV v u→t o i v H Q →
  wpAny (model X.prog X.w) X.A (setItem ov iv u) (fun _ s'=>∃ H',Inv X pins σ H' s'∧Q H') X.xe s
section
variable {X:Cx} {pos:Pos}
def gName (i:Nat):TG:=fun v σ H Q=>Q (σ.set i (some v)) H
theorem pg_name {i:Nat} {x:Str} (hN:X.N.Nodup) (hi:X.N[i]? = some x) (hx:Loc X.env.scope x) (hf:X.fn x = true ∨ X.env.scope.names.lookup x = some .local:=by first | exact .inl rfl | exact .inr rfl | assumption):PG X (.Name x pos) (gName i):=by
 intro pins s σ H v u Q I r h
 exact wpAny_assign_Name (store_ok I hN hi hx r (fun s' I'=>⟨_,H,I',h⟩) hf)
def gNil:TGs:=fun vs σ H Q=>vs = []∧Q σ H
def gCons (t:TG) (u:TGs):TGs:=fun vs σ H Q=>∃ v r,vs = v :: r∧t v σ H fun σ' H'=>u r σ' H' Q
theorem pgs_nil:PGs X [] gNil:=by
 intro pins s σ H vs us Q I r h
 obtain ⟨e,h⟩:=h
 subst e
 cases r
 exact assignInOrder_nil ⟨σ,H,I,h⟩
theorem pgs_cons {e:Expr} {es:List Expr} {t:TG} {u:TGs} (h1:PG X e t) (h2:PGs X es u)
  (hs:(assignEach (e :: es) X.env).map (·.2) = assign e X.env :: (assignEach es X.env).map (·.2):=by rfl):PGs X (e :: es) (gCons t u):=by
 intro pins s σ H vs us Q I r h
 obtain ⟨v,vr,e1,h⟩:=h
 subst e1
 cases r with
 | cons r rr =>
  rw [hs]
  refine assignInOrder_cons (thn (h1 pins s σ H _ _ _ I r h) fun _ s1 ⟨σ1,H1,I1,q1⟩=>?_)
  exact h2 pins s1 σ1 H1 _ _ Q I1 rr q1
def gTup (K:PySem.W.Frag) (n:Nat) (t:TGs):TG:=fun v σ H Q=>∃ a xs,v = .ref a∧SqT K H a xs∧xs.length = n∧t xs σ H Q
theorem pg_tup {es:List Expr} {k:Nat} {t:TGs} {n:Nat} (hc:X.calm = true) (h:PGs X es t)
  (hn:(assignEach es X.env).length = n:=by rfl) (hst:(assignEach es X.env).findIdx? (·.1) = none:=by rfl):PG X (.Tuple es k pos) (gTup X.K n t):=by
 intro pins s σ H v u Q I r hw
 obtain ⟨a,xs,e1,hq,hl,hw⟩:=hw
 subst e1
 cases r
 obtain ⟨its,rv,ht,hz⟩:=I.tuple hq
 refine assign_Tuple_tuple (I.ok.hd hc) ht (by simp [hn,← hl,rv.length]) hst fun h' hx=>?_
 have I1:Inv X pins σ H { s with heap:=h' }:=I.kept (t':=s.toks) fun b o e=>hx b o (Nat.ne_of_lt (Heap.lt_size e)) e
 exact h pins _ σ H xs _ Q I1 (by simpa using rv) hw
def gSub (to ti:TE) (t:TSet):TG:=fun v σ H Q=>to σ H fun o H1=>ti σ H1 fun i H2=>t o i v H2 fun H3=>Q σ H3
theorem pg_sub {o i:Expr} {to ti:TE} {t:TSet} (ho:PE X o to) (hi:PE X i ti) (hs:PSet X t)
  (ha:∀ v,assign (.Subscript o i pos) X.env v = (do
   let ov ← holding [v] (eval o X.env)
   let iv ← holding [v,ov] (eval i X.env)
   standAt pos
   holding [v,ov,iv] (setItem ov iv v)
   release [v,ov,iv] []):=by intro _; rfl):PG X (.Subscript o i pos) (gSub to ti t):=by
 intro pins s σ H v u Q I r h
 rw [ha]
 refine wpAny_bind (wpAny_holding (thn (ho pins s σ H _ I h) fun ov s1 ⟨x,H1,I1,r1,q1⟩=>?_))
 refine wpAny_bind (wpAny_holding (thn (hi pins s1 σ H1 _ I1 q1) fun iv s2 ⟨y,H2,I2,r2,q2⟩=>?_))
 refine wpAny_bind (wpAny_standAt (wpAny_bind (wpAny_holding (thn (hs pins s2 σ H2 x y v ov iv u _ I2 r1 r2 r q2) fun _ s3 ⟨H3,I3,q3⟩=>?_))))
 exact wpAny_release ⟨σ,H3,I3,q3⟩
def tAsg (te:TE) (g:TG):TS:=fun D σ H=>te σ H fun x H1=>g x σ H1 D.nx
theorem ps_asg {tg e:Expr} {te:TE} {g:TG} (he:PE X e te) (hg:PG X tg g) (hs:swapsWithSole [tg] e pos.line X.env = pure false:=by rfl) (hw:swappedStores [tg] e X.env = pure none:=by rfl)
  (h1:(assignEach [tg] X.env).map (·.2) = [assign tg X.env]:=by rfl):PS X (.Assign [tg] e pos) (tAsg te g):=by
 intro pins s σ H D I h
 refine wpAny_Assign_stores (thn (he pins s σ H _ I h) fun v s1 ⟨x,H1,I1,r1,q1⟩=>?_) hs hw
 rw [h1]
 exact thn (hg pins s1 σ H1 x v _ I1 r1 q1) fun _ s2 q=>q
theorem ps_set {i:Nat} {x:Str} {e:Expr} {te:TE} {pos':Pos} (hN:X.N.Nodup) (hi:X.N[i]? = some x) (hx:Loc X.env.scope x) (he:PE X e te) (hs:swapsWith e (some (.Name x pos')) pos.line X.env = pure false:=by rfl) (hf:X.fn x = true ∨ X.env.scope.names.lookup x = some .local:=by first | exact .inl rfl | exact .inr rfl | assumption) :
  PS X (.Assign [.Name x pos'] e pos) (tAsg te (gName i)):=by
 intro pins s σ H D I h
 refine wpAny_Assign_Name (thn (he pins s σ H _ I h) fun v s1 ⟨y,H1,I1,r1,q1⟩=>?_) hs
 exact store_ok I1 hN hi hx r1 (fun s2 I2=>⟨_,H1,I2,q1⟩) hf
def tPar (i j:Nat) (ta:TA):TS:=fun D σ H=>ta σ H fun vs H1=>∃ v w,vs = [v,w]∧D.nx ((σ.set i (some v)).set j (some w)) H1
theorem ps_par {i j:Nat} {x y:Str} {a b:Expr} {ta:TA} {px py pt:Pos} {kt k2 pt2} (hc:X.calm = true) (hN:X.N.Nodup) (hi:X.N[i]? = some x) (hj:X.N[j]? = some y) (hij:i ≠ j)
  (hx:X.env.scope.names.lookup x = some .local) (hy:X.env.scope.names.lookup y = some .local) (ha:PA X [a,b] ta)
  (hw:swappedStores [.Tuple [.Name x px,.Name y py] kt pt] (.Tuple [a,b] k2 pt2) X.env = pure (some [x,y]))
  (hs:swapsWithSole [.Tuple [.Name x px,.Name y py] kt pt] (.Tuple [a,b] k2 pt2) pos.line X.env = pure false:=by rfl) :
  PS X (.Assign [.Tuple [.Name x px,.Name y py] kt pt] (.Tuple [a,b] k2 pt2) pos) (tPar i j ta):=by
 intro pins s σ H D I h
 rw [exec_Assign_arm]
 refine wpAny_bind (wpAny_standAt ?_)
 rw [hs]
 refine wpAny_bind (wpAny_pure ?_)
 rw [if_neg (by decide)]
 refine wpAny_bind (Tuple_ (thn (ha _ pins s σ H _ I h) fun us s1 ⟨vs,H1,I1,r1,q1⟩=>?_))
 obtain ⟨v,w,e1,q1⟩:=q1
 subst e1
 obtain ⟨u1,u2,rfl,rv,rw'⟩:∃ u1 u2,us = [u1,u2]∧RelV v u1∧RelV w u2:=by
  cases r1 with
  | cons p q =>
   cases q with
   | cons p' q' =>
    cases q'
    exact ⟨_,_,rfl,p,p'⟩
 refine wpAny_newObj_type ?_ (by show 2 ≤ sizeLine; decide)
 have I2:Inv X pins σ H1 { s1 with heap:=s1.heap.push { cls:=.type "tuple",data:=.seq [u1,u2].toArray } }:=I1.kept (t':=s1.toks) fun b o e=>Heap.get?_push_of_some _ e
 rw [hw]
 refine wpAny_bind (wpAny_pure ?_)
 show wpAny (model X.prog X.w) X.A (do rule "assign.swapped-stores"; let items ← unpackItems (.ref s1.heap.objs.size) 2 none; assignInOrder [fun v=>bindName X.env y v,fun v=>bindName X.env x v] items.reverse; pure Flow.next) _ _ _
 refine wpAny_bind (wpAny_rule (wpAny_bind (unpackItems_tuple (items:=#[u1,u2]) (I.ok.hd hc) (IsTup.new s1.heap _) fun h' hx'=>?_)))
 have I3:=I2.kept (h':=h') (t':=s1.toks) fun b o e=>hx' b o (Nat.ne_of_lt (Heap.lt_size e)) e
 show wpAny _ _ (assignInOrder [fun v=>bindName X.env y v,fun v=>bindName X.env x v] [u2,u1] >>= fun _=>pure Flow.next) _ _ _
 refine wpAny_bind (assignInOrder_cons (wpAny_bindName (store_ok I3 hN hj (.inl hy) rw' (fun s2 I4=>?_) (.inr hy))))
 refine assignInOrder_cons (wpAny_bindName (store_ok I4 hN hi (.inl hx) rv (fun s3 I5=>assignInOrder_nil (wpAny_pure ?_)) (.inr hx)))
 rw [List.set_comm _ _ (Ne.symm hij)] at I5
 exact ⟨_,H1,I5,q1⟩
end
section
variable {X:Cx} {pos:Pos}
end
structure It where
 go:Nat→Hp→Prop
 yld:Nat→Hp→V→Hp→Prop
 stop:Nat→Hp→Prop
def FpOk (X:Cx) (pins:List (Addr×Obj)) (H:Hp) (b:Addr):Prop :=
 H b = none∧b ≠ X.env.locals∧b ∉ X.fs∧(b ∈ X.ex ∨ X.s₀.heap.objs.size ≤ b)∧(∀ x c,X.env.cells.lookup x = some c→c ≠ b)∧∀ p ∈ X.pn ++ pins,p.1 ≠ b
theorem Inv.fpOk {X:Cx} {pins:List (Addr×Obj)} {σ:St} {H H':Hp} {s:Shared} {b:Addr} (I:Inv X pins σ H s) (hb:s.heap.objs.size ≤ b) (hn:H' b = none):FpOk X pins H' b:=by
 refine ⟨hn,Nat.ne_of_gt (Nat.lt_of_lt_of_le I.lt hb),I.nofs hb,.inr (Nat.le_trans I.sz hb),fun x c e z=>?_,fun p hp z=>?_⟩
 ·obtain ⟨v,q⟩:=I.cell x c e
  exact absurd (Nat.lt_of_lt_of_le q.lt (by rw [z]; exact hb)) (Nat.lt_irrefl _)
 ·exact absurd (Nat.lt_of_lt_of_le (Heap.lt_size (I.pin p hp).1) (by rw [z]; exact hb)) (Nat.lt_irrefl _)
structure Turn (P:Program) (w:World) (K:PySem.W.Frag) (tg:Expr) (J:It) (fp:List Addr) (it:Addr) (tn:Nat→Heap→Prop):Prop where
 mem:it ∈ fp
 obj:∀ i h,tn i h→∀ b ∈ fp,∃ o,h.get? b = some o∧∀ v,o.data ≠ .cell v
 keep:∀ i h h',tn i h→(∀ b ∈ fp,∀ o,h.get? b = some o→h'.get? b = some o)→tn i h'
 item:∀ (X:Cx),X.prog = P→X.w = w→X.K = K→X.calm = true→∀ (i:Nat) (pins:List (Addr×Obj)) (s:Shared) (σ:St) (H:Hp) (E:Value→Shared→Prop),Inv X pins σ H s→(∀ b ∈ fp,FpOk X pins H b)→tn i s.heap→J.go i H →
  wpAny (model P w) X.A (pyNext (.ref it)) (fun r s1=>∃ u,r = some u ∧
   wpAny (model P w) X.A (letOwnedTupleGo tg (.ref it) u) (fun _ s2=>∃ x H',Inv X pins σ H' s2∧RelV x u∧J.yld i H x H'∧tn (i + 1) s2.heap∧∀ b ∈ fp,H' b = none) E s1) E s
 done:∀ (X:Cx),X.prog = P→X.w = w→X.K = K→X.calm = true→∀ (i:Nat) (pins:List (Addr×Obj)) (s:Shared) (σ:St) (H:Hp) (E:Value→Shared→Prop),Inv X pins σ H s→(∀ b ∈ fp,FpOk X pins H b)→tn i s.heap→J.stop i H →
  wpAny (model P w) X.A (pyNext (.ref it)) (fun r s1=>r = none∧Inv X pins σ H s1) E s
 self:∀ (A:Around) (i:Nat) (s:Shared) (Q:Value→Shared→Prop) (E:Value→Shared→Prop),tn i s.heap→Q (.ref it) s→wpAny (model P w) A (pyIter (.ref it)) Q E s
abbrev TI:=St→Hp→(It→Hp→Prop)→Prop
def PIE (X:Cx) (pins:List (Addr×Obj)) (σ:St) (tg:Expr) (R:It→Hp→Prop) (itv:Value) (s2:Shared):Prop :=
 ∃ (it:Addr) (fp:List Addr) (tn:Nat→Heap→Prop) (J:It) (H':Hp),itv = .ref it∧Inv X pins σ H' s2∧Turn X.prog X.w X.K tg J fp it tn∧tn 0 s2.heap∧(∀ b ∈ fp,FpOk X pins H' b)∧R J H'
def PI (X:Cx) (tg iter:Expr) (wi:TI):Prop :=
 ∀ (pins:List (Addr×Obj)) (s:Shared) (σ:St) (H:Hp) (R:It→Hp→Prop),Inv X pins σ H s→wi σ H R →
  wpAny (model X.prog X.w) X.A (eval iter X.env) (fun v s1=>wpAny (model X.prog X.w) X.A (pyIter v) (PIE X pins σ tg R) X.xe s1) X.xe s
theorem go_of {M : Model} {A : Around} {E : Value → Shared → Prop} {s : Shared} {tg : Expr} {it : Addr} {u : Value} {o : Obj} {n : String} {vs : Array Value} {Q : Unit → Shared → Prop} (ho : s.heap.get? it = some o) (hc : o.cls = .type n) (hd : o.data = .fields vs)
    (hn : ["enumerate", "zip", "dict_itemiterator", "dict_reverseitemiterator", "odict_iterator", "itertools.zip_longest", "itertools.pairwise"].contains n = false) (hQ : Q () s) : wpAny M A (letOwnedTupleGo tg (.ref it) u) Q E s := by
  unfold letOwnedTupleGo
  cases tg <;> first
    | exact wpAny_pure hQ
    | (cases u <;> first
        | exact wpAny_pure hQ
        | (refine wpAny_bind (wpAny_load ho ?_)
           rw [hc, hd]
           show wpAny M A (if (["enumerate", "zip", "dict_itemiterator", "dict_reverseitemiterator", "odict_iterator", "itertools.zip_longest", "itertools.pairwise"].contains n && vs[0]? == some (rawInt _)) = true then _ else _) Q E s
           rw [if_neg (by intro h; rw [hn, Bool.false_and] at h; cases h)]
           exact wpAny_pure hQ))
def Itl (K:PySem.W.Frag) (a:Addr):It :=
 ⟨fun i H=>∃ xs x,SqL K H a xs∧xs[i]? = some x,fun i H x H'=>H' = H∧∀ xs,SqL K H a xs→xs[i]? = some x,fun i H=>∃ xs,SqL K H a xs∧xs.length ≤ i⟩
def Itt (K:PySem.W.Frag) (a:Addr):It :=
 ⟨fun i H=>∃ xs x,SqT K H a xs∧xs[i]? = some x,fun i H x H'=>H' = H∧∀ xs,SqT K H a xs→xs[i]? = some x,fun i H=>∃ xs,SqT K H a xs∧xs.length ≤ i⟩
def Itr (lo:Int) (n:Nat):It:=⟨fun i _=>i < n,fun i H x H'=>H' = H∧x = .int (lo + i),fun i _=>n ≤ i⟩
theorem turn_list {P:Program} {w:World} {K:PySem.W.Frag} {tg:Expr} (a it:Addr):Turn P w K tg (Itl K a) [it] it (fun i h=>h.IsListIter it a i) where
 mem:=by simp
 obj:=fun i h st b hb=>by
  have e:b = it:=by simpa using hb
  subst e
  obtain ⟨o,e,c,d⟩:=st
  exact ⟨o,e,fun v z=>by rw [d] at z; cases z⟩
 keep:=fun i h h' st k=>st.at fun o e=>k it (by simp) o e
 item:=by
  intro X hP hw hK hc i pins s σ H E I hf st hg
  subst hP hw hK
  obtain ⟨xs,x,hq,hx⟩:=hg
  obtain ⟨its,rv,p,hz⟩:=I.list hq
  obtain ⟨u,hu,ru⟩:=rv.get hx
  obtain ⟨f0,f1,f2,f3,f4,f5⟩:=hf it (by simp)
  refine wpAny_pyNext_list_item st p.isList (x:=u) (by simpa using hu) fun h' st' sb=>?_
  have I1:Inv X pins σ H { s with heap:=h' }:=I.turned (t':=s.toks) (fun b o hb e=>(sb.2 b hb).trans e) f0 f1 f3 f4 f5
  obtain ⟨o,e,c,d⟩:=id st'
  exact ⟨u,rfl,go_of (s:={ s with heap:=h' }) e c d (by decide) ⟨x,H,I1,ru,⟨rfl,fun ys hy=>by rw [I.list_inj hy hq]; exact hx⟩,st',fun b hb=>(hf b hb).1⟩⟩
 done:=by
  intro X hP hw hK hc i pins s σ H E I hf st hg
  subst hP hw hK
  obtain ⟨xs,hq,hx⟩:=hg
  obtain ⟨its,rv,p,hz⟩:=I.list hq
  obtain ⟨f0,f1,f2,f3,f4,f5⟩:=hf it (by simp)
  have hl:=rv.length
  exact wpAny_pyNext_list_end (I.ok.hd hc) st p.isList (by simp; omega) fun h' eb=>⟨rfl,I.turned (t':=s.toks) (fun b o hb e=>eb b o hb e) f0 f1 f3 f4 f5⟩
 self:=fun _ _ _ _ _ st h=>wpAny_pyIter_listiter st h
theorem turn_tuple {P:Program} {w:World} {K:PySem.W.Frag} {tg:Expr} (a it:Addr):Turn P w K tg (Itt K a) [it] it (fun i h=>h.IsTupleIter it a i) where
 mem:=by simp
 obj:=fun i h st b hb=>by
  have e:b = it:=by simpa using hb
  subst e
  obtain ⟨o,e,c,d⟩:=st
  exact ⟨o,e,fun v z=>by rw [d] at z; cases z⟩
 keep:=fun i h h' st k=>st.at fun o e=>k it (by simp) o e
 item:=by
  intro X hP hw hK hc i pins s σ H E I hf st hg
  subst hP hw hK
  obtain ⟨xs,x,hq,hx⟩:=hg
  obtain ⟨its,rv,p,hz⟩:=I.tuple hq
  obtain ⟨u,hu,ru⟩:=rv.get hx
  obtain ⟨f0,f1,f2,f3,f4,f5⟩:=hf it (by simp)
  refine wpAny_pyNext_tuple_item st (show s.heap.IsTuple a its.toArray from p) (x:=u) (by simpa using hu) fun h' st' sb=>?_
  have I1:Inv X pins σ H { s with heap:=h' }:=I.turned (t':=s.toks) (fun b o hb e=>(sb.2 b hb).trans e) f0 f1 f3 f4 f5
  obtain ⟨o,e,c,d⟩:=id st'
  exact ⟨u,rfl,go_of (s:={ s with heap:=h' }) e c d (by decide) ⟨x,H,I1,ru,⟨rfl,fun ys hy=>by rw [I.tuple_inj hy hq]; exact hx⟩,st',fun b hb=>(hf b hb).1⟩⟩
 done:=by
  intro X hP hw hK hc i pins s σ H E I hf st hg
  subst hP hw hK
  obtain ⟨xs,hq,hx⟩:=hg
  obtain ⟨its,rv,p,hz⟩:=I.tuple hq
  obtain ⟨f0,f1,f2,f3,f4,f5⟩:=hf it (by simp)
  have hl:=rv.length
  exact wpAny_pyNext_tuple_end (I.ok.hd hc) st (show s.heap.IsTuple a its.toArray from p) (by simp; omega) fun h' eb=>⟨rfl,I.turned (t':=s.toks) (fun b o hb e=>eb b o hb e) f0 f1 f3 f4 f5⟩
 self:=fun _ _ _ _ _ st h=>wpAny_pyIter_tupleiter st h
theorem turn_range {P:Program} {w:World} {K:PySem.W.Frag} {tg:Expr} (it:Addr) (lo:Int) (n:Nat):Turn P w K tg (Itr lo n) [it] it (fun i h=>IsRangeIter h it (lo + (i:Nat) * 1) ((n:Int) - (i:Nat)) 1) where
 mem:=by simp
 obj:=fun i h st b hb=>by
  have e:b = it:=by simpa using hb
  subst e
  exact ⟨_,st,fun v z=>by
   have z':Data.fields _ = Data.cell v:=z
   cases z'⟩
 keep:=fun i h h' st k=>k it (by simp) _ st
 item:=by
  intro X hP hw hK hc i pins s σ H E I hf st hg
  subst hP hw hK
  obtain ⟨f0,f1,f2,f3,f4,f5⟩:=hf it (by simp)
  have W:=Walks.range (prog:=X.prog) (w:=X.w) (I.ok.hd hc) it lo 1 n
  refine W.item i s _ _ hg st fun v h' tk hv st' kk=>?_
  obtain ⟨t,rfl⟩:=hv
  have I1:Inv X pins σ H { s with heap:=h',toks:=tk }:=I.turned (fun b o hb e=>kk b o (by simpa using hb) e) f0 f1 f3 f4 f5
  refine ⟨_,rfl,go_of (s:={ s with heap:=h',toks:=tk }) (n:="range_iterator") st' rfl rfl (by decide) ⟨.int (lo + i),H,I1,⟨t,?_⟩,⟨rfl,rfl⟩,st',fun b hb=>(hf b hb).1⟩⟩
  rw [Int.mul_one]
 done:=by
  intro X hP hw hK hc i pins s σ H E I hf st hg
  subst hP hw hK
  obtain ⟨f0,f1,f2,f3,f4,f5⟩:=hf it (by simp)
  exact wpAny_pyNext_range_end (I.ok.hd hc) st (by have:n ≤ i:=hg; omega) fun h' eb=>⟨rfl,I.turned (t':=s.toks) (fun b o hb e=>eb b o hb e) f0 f1 f3 f4 f5⟩
 self:=fun _ _ _ _ _ st h=>wpAny_pyIter_rangeiter st h
end L2
namespace L2
open PySem PySem.Spec PyProof.Rows
section
variable {X:Cx} {tg:Expr}
theorem range_it {pins:List (Addr×Obj)} {σ:St} {H:Hp} {s:Shared} {R:It→Hp→Prop} {E:Value→Shared→Prop} {lo hi:Int} {t u v:Tok} {tk:Nat} (I:Inv X pins σ H s) (h1:-(2 ^ 62) ≤ lo) (h2:lo < 2 ^ 62) (h3:-(2 ^ 62) ≤ hi) (h4:hi < 2 ^ 62)
  (q:R (Itr lo (hi - lo).toNat) H):wpAny (model X.prog X.w) X.A (pyIter (.ref s.heap.objs.size)) (PIE X pins σ tg R) E { s with heap:=s.heap.push { cls:=.type "range",data:=.fields #[.int lo t,.int hi u,.int 1 v] },toks:=tk }:=by
 refine wpAny_pyIter_range (IsRange.new ..) (small_one h1 h2 h3 h4) ?_
 have I1:Inv X pins σ H { s with heap:=s.heap.push { cls:=.type "range",data:=.fields #[.int lo t,.int hi u,.int 1 v] },toks:=tk }:=I.kept fun b o e=>Heap.get?_push_of_some _ e
 refine ⟨(s.heap.push { cls:=.type "range",data:=.fields #[.int lo t,.int hi u,.int 1 v] }).objs.size,[(s.heap.push { cls:=.type "range",data:=.fields #[.int lo t,.int hi u,.int 1 v] }).objs.size],_,_,H,rfl,
  I1.kept (t':=tk) fun b o e=>Heap.get?_push_of_some _ e,turn_range _ lo (hi - lo).toNat,?_,fun b hb=>?_,q⟩
 ·have e1:lo + ((0:Nat):Int) * 1 = lo:=by simp
  have e2:(((hi - lo).toNat:Nat):Int) - ((0:Nat):Int) = Builtin.Range.rangeSize lo hi 1:=by rw [rangeSize_one]; split <;> omega
  show IsRangeIter _ _ (lo + ((0:Nat):Int) * 1) ((((hi - lo).toNat:Nat):Int) - ((0:Nat):Int)) 1
  rw [e1,e2]
  exact Heap.get?_push_size _ rfl
 ·have e:b = (s.heap.push { cls:=.type "range",data:=.fields #[.int lo t,.int hi u,.int 1 v] }).objs.size:=by simpa using hb
  subst e
  exact I1.fpOk (Nat.le_refl _) (I1.hok.fresh (Nat.le_refl _))
def iRng1 (ta:TA):TI:=fun σ H R=>ta σ H fun vs H1=>∃ j:Int,vs = [.int j]∧-(2 ^ 62) ≤ j∧j < 2 ^ 62∧R (Itr 0 j.toNat) H1
theorem pi_range1 {a:Expr} {ta:TA} {p pos:Pos} (hg:Gl X "range") (hm:X.mg "range" = none) (ha:PA X [a] ta) (hs:starEach [a] X.env = [(false,eval a X.env)]:=by rfl):PI X tg (.Call (.Name "range" p) [a] [] pos) (iRng1 ta):=by
 intro pins s σ H R I h
 refine Call_ (ld_blt I hg hm boot_range (PyProof.Rows.callWith_type1 (thn (ha pos pins s σ H _ I h) fun us s1 ⟨vs,H1,I1,r1,q1⟩=>?_) hs rfl))
 obtain ⟨j,e,q1,q2,q⟩:=q1
 subst e
 cases r1 with
 | cons r rr =>
  cases rr
  obtain ⟨t,rfl⟩:=r
  exact call_range_1 (range_it I1 (by omega) (by omega) q1 q2 (by simpa using q))
def tFor (wi:TI) (g:TG) (tb:TS):TS:=fun D σ H=>wi σ H fun J H1=>∃ W:Nat→Nat→St→Hp→Prop,(∃ m,W 0 m σ H1)∧∀ i m σ H,W i m σ H →
 (J.stop i H∧D.nx σ H) ∨ (J.go i H∧∃ N:St→Hp→Prop,(∀ σ' H',N σ' H'→∃ m',m' < m∧W (i + 1) m' σ' H')∧∀ x H',J.yld i H x H'→g x σ H' fun σ2 H2=>tb { D with nx:=N,ct:=N,bk:=D.nx } σ2 H2)
def pinsAt (fp:List Addr) (h:Heap):List (Addr×Obj):=fp.filterMap fun b=>(h.get? b).map fun o=>(b,o)
theorem mem_pinsAt {fp:List Addr} {h:Heap} {b:Addr} {o:Obj} (hb:b ∈ fp) (e:h.get? b = some o):(b,o) ∈ pinsAt fp h:=List.mem_filterMap.mpr ⟨b,hb,by rw [e]; rfl⟩
theorem of_pinsAt {fp:List Addr} {h:Heap} {p:Addr×Obj} (hp:p ∈ pinsAt fp h):p.1 ∈ fp∧h.get? p.1 = some p.2:=by
 obtain ⟨b,hb,e⟩:=List.mem_filterMap.mp hp
 cases q:h.get? b with
 | none=>rw [q] at e; cases e
 | some o =>
  rw [q] at e
  have e':(b,o) = p:=Option.some.inj e
  subst e'
  exact ⟨hb,q⟩
theorem Inv.pinned {pins:List (Addr×Obj)} {σ:St} {H:Hp} {s:Shared} {fp:List Addr} (I:Inv X pins σ H s) (hf:∀ b ∈ fp,FpOk X pins H b) (ho:∀ b ∈ fp,∃ o,s.heap.get? b = some o∧∀ v,o.data ≠ .cell v):Inv X (pins ++ pinsAt fp s.heap) σ H s :=
 I.pins_of fun p hp=>(List.mem_append.mp hp).elim (fun z=>I.pin p (List.mem_append_right _ z)) fun z=>by
  obtain ⟨hb,e⟩:=of_pinsAt z
  obtain ⟨f0,f1,f2,_⟩:=hf p.1 hb
  obtain ⟨o,e',d⟩:=ho p.1 hb
  rw [e] at e'; cases e'
  exact ⟨e,f0,f1,f2,d⟩
theorem Inv.unpinned {pins pl:List (Addr×Obj)} {σ:St} {H:Hp} {s:Shared} (I:Inv X (pins ++ pl) σ H s):Inv X pins σ H s:=I.pins_of fun p hp=>I.pin p (List.mem_append_right _ (List.mem_append_left _ hp))
theorem ps_for {iter:Expr} {body:List Stmt} {wi:TI} {g:TG} {tb:TS} {pos:Pos} (hp:PassesOwn (model X.prog X.w) X.A X.env X.xe) (hc:X.calm = true) (hi:PI X tg iter wi) (hg:PG X tg g) (hb:PSs X body tb)
  (hs:∀ x,foldedSetIterable iter X.env x = pure x:=by intro _; rfl):PS X (.For tg iter body [] pos) (tFor wi g tb):=by
 intro pins s σ H D I h
 refine wpAny_For (thn (hi pins s σ H _ I h) fun v s1 h1=>thn h1 fun itv s2 h2=>?_) hs
 obtain ⟨it,fp,tn,J,H2,e,I2,T,st2,f2,W,⟨m0,w0⟩,turn⟩:=h2
 subst e
 -- what stays true of the iterator's objects through the loop
 have stat:∀ {H':Hp},(∀ b ∈ fp,H' b = none)→∀ b ∈ fp,FpOk X pins H' b:=fun hn b hb=>⟨hn b hb,(f2 b hb).2⟩
 refine codeAny_forLoop_any (fun n s'=>∃ i σ' H',Inv X pins σ' H' s'∧tn i s'.heap∧(∀ b ∈ fp,H' b = none)∧W i n σ' H') ?_ m0 ⟨0,σ,H2,I2,st2,fun b hb=>(f2 b hb).1,w0⟩
 rintro n s3 ⟨i,σ3,H3,I3,st3,fr3,w3⟩
 rcases turn i n σ3 H3 w3 with ⟨stop,qn⟩ | ⟨go,N,hN,step⟩
 ·refine wpAny_passesOwn hp (thn (T.done X rfl rfl rfl hc i pins s3 σ3 H3 X.xe I3 (stat fr3) st3 stop) fun r s4 ⟨hr,I4⟩=>?_)
  subst hr
  exact wpAny_execs_nil ⟨σ3,H3,I4,qn⟩
 ·refine wpAny_passesOwn hp (thn (T.item X rfl rfl rfl hc i pins s3 σ3 H3 X.xe I3 (stat fr3) st3 go) fun r s4 ⟨u,hr,h4⟩=>?_)
  subst hr
  refine wpAny_passesOwn hp (thn h4 fun _ s5 ⟨x,H5,I5,r5,y5,st5,fr5⟩=>?_)
  have I5':=I5.pinned (stat fr5) (T.obj _ _ st5)
  refine wpAny_passesOwn hp (thn (hg _ s5 σ3 H5 x u _ I5' r5 (step x H5 y5)) fun _ s6 ⟨σ6,H6,I6,q6⟩=>?_)
  refine wpAny_passesOwn hp (thn (hb _ s6 σ6 H6 _ I6 q6) fun f s7 q7=>?_)
  have again:∀ {σ7:St} {H7:Hp},Inv X (pins ++ pinsAt fp s5.heap) σ7 H7 s7→N σ7 H7→∃ m,m < n∧∃ i σ' H',Inv X pins σ' H' s7∧tn i s7.heap∧(∀ b ∈ fp,H' b = none)∧W i m σ' H':=fun {σ7 H7} I7 n7=>by
   obtain ⟨m',hm,w7⟩:=hN σ7 H7 n7
   refine ⟨m',hm,i + 1,σ7,H7,I7.unpinned,T.keep _ _ _ st5 fun b hb o e=>(I7.pin (b,o) (List.mem_append_right _ (List.mem_append_right _ (mem_pinsAt hb e)))).1,fun b hb=>?_,w7⟩
   obtain ⟨o,e,d⟩:=T.obj _ _ st5 b hb
   exact (I7.pin (b,o) (List.mem_append_right _ (List.mem_append_right _ (mem_pinsAt hb e)))).2.1
  cases f with
  | next=>obtain ⟨σ7,H7,I7,n7⟩:=q7; exact again I7 n7
  | cont=>obtain ⟨σ7,H7,I7,n7⟩:=q7; exact again I7 n7
  | brk=>obtain ⟨σ7,H7,I7,q7⟩:=q7; exact ⟨σ7,H7,I7.unpinned,q7⟩
  | ret v=>obtain ⟨x7,σ7,H7,I7,r7,q7⟩:=q7; exact ⟨x7,σ7,H7,I7.unpinned,r7,q7⟩
end
end L2
namespace L2
open PySem PySem.Spec PyProof.Rows
abbrev R2:=V→V→Hp→VK→Prop
def OpR (X:Cx) (f:Value→Value→Sem Value) (r:R2):Prop :=
 ∀ (pins:List (Addr×Obj)) (s:Shared) (σ:St) (H:Hp) (x y:V) (v u:Value) (Q:VK),Inv X pins σ H s→RelV x v→RelV y u→r x y H Q →
  wpAny (model X.prog X.w) X.A (f v u) (EP X pins σ Q) X.xe s
def UnR (X:Cx) (f:Value→Sem Value) (r:V→Hp→VK→Prop):Prop :=
 ∀ (pins:List (Addr×Obj)) (s:Shared) (σ:St) (H:Hp) (x:V) (v:Value) (Q:VK),Inv X pins σ H s→RelV x v→r x H Q →
  wpAny (model X.prog X.w) X.A (f v) (EP X pins σ Q) X.xe s
def CallR (X:Cx) (f:Value) (r:List V→Hp→VK→Prop):Prop :=
 ∀ (pins:List (Addr×Obj)) (s:Shared) (σ:St) (H:Hp) (xs:List V) (us:List Value) (Q:VK),Inv X pins σ H s→Vals xs us→r xs H Q →
  wpAny (model X.prog X.w) X.A (call f us) (EP X pins σ Q) X.xe s
def TruR (X:Cx) (r:V→Hp→(Bool→Hp→Prop)→Prop):Prop :=
 ∀ (pins:List (Addr×Obj)) (s:Shared) (σ:St) (H:Hp) (x:V) (v:Value) (Q:Bool→Hp→Prop),Inv X pins σ H s→RelV x v→r x H Q →
  wpAny (model X.prog X.w) X.A (truthy v) (TP X pins σ Q) X.xe s
def tOp (r:R2) (ta tb:TE):TE:=fun σ H Q=>ta σ H fun x H1=>tb σ H1 fun y H2=>r x y H2 Q
def tUn (r:V→Hp→VK→Prop) (ta:TE):TE:=fun σ H Q=>ta σ H fun x H1=>r x H1 Q
def rI (C:Int→Int→Prop) (g:Int→Int→V):R2:=fun x y H Q=>∃ i j,x = .int i∧y = .int j∧C i j∧Q (g i j) H
def rI0 (g:Int→Int→V):R2:=fun x y H Q=>∃ i j,x = .int i∧y = .int j∧Q (g i j) H
def rU (g:Int→V):V→Hp→VK→Prop:=fun x H Q=>∃ i,x = .int i∧Q (g i) H
section
variable {X:Cx} {a b c:Expr} {ta tb tc:TE} {pos:Pos}
theorem binT (ha:PE X a ta) (hb:PE X b tb) {pins:List (Addr×Obj)} {s:Shared} {σ:St} {H:Hp} {R:V→V→Hp→Prop} (I:Inv X pins σ H s)
  (h:ta σ H fun x H1=>tb σ H1 fun y H2=>R x y H2) {Q:Value→Shared→Prop} {f:Value→Value→Sem Value}
  (hf:∀ v u s2 x y H2,Inv X pins σ H2 s2→RelV x v→RelV y u→R x y H2→wpAny (model X.prog X.w) X.A (f v u) Q X.xe s2) :
  wpAny (model X.prog X.w) X.A (eval a X.env) (fun v s₁=>wpAny (model X.prog X.w) X.A (eval b X.env) (fun u s₂=>wpAny (model X.prog X.w) X.A (f v u) Q X.xe s₂) X.xe s₁) X.xe s:=by
 refine thn (ha pins s σ H _ I h) fun v s1 ⟨x,H1,I1,r1,q1⟩=>?_
 refine thn (hb pins s1 σ H1 _ I1 q1) fun u s2 ⟨y,H2,I2,r2,q2⟩=>?_
 exact hf v u s2 x y H2 I2 r1 r2 q2
theorem pe_op {op:Operator} {r:R2} (ho:OpR X (binaryOp op) r) (ha:PE X a ta) (hb:PE X b tb):PE X (.BinOp a op b pos) (tOp r ta tb):=by
 intro pins s σ H Q I h
 exact wpAny_BinOp (binT ha hb I h fun v u s2 x y H2 I2 rx ry q=>ho pins s2 σ H2 x y v u Q I2 rx ry q)
theorem pe_un {op:UnaryOp} {r:V→Hp→VK→Prop} (ho:UnR X (unaryOp op) r) (ha:PE X a ta):PE X (.UnaryOp op a pos) (tUn r ta):=by
 intro pins s σ H Q I h
 exact UnaryOp_ (thn (ha pins s σ H _ I h) fun v s1 ⟨x,H1,I1,r1,q1⟩=>ho pins s1 σ H1 x v Q I1 r1 q1)
theorem opI {f:Value→Value→Sem Value} {C:Int→Int→Prop} {g:Int→Int→Int}
  (rule:∀ (i j:Int) (t u:Tok) (s:Shared) (Q:Value→Shared→Prop) (E:Value→Shared→Prop),C i j→Q (.int (g i j) s.toks) { s with toks:=s.toks + 1 }→wpAny (model X.prog X.w) X.A (f (.int i t) (.int j u)) Q E s) :
  OpR X f (rI C fun i j=>.int (g i j)):=by
 intro pins s σ H x y v u Q I rx ry h
 obtain ⟨i,j,rfl,rfl,hc,q⟩:=h
 obtain ⟨t,rfl⟩:=rx
 obtain ⟨t',rfl⟩:=ry
 exact rule i j t t' s _ _ hc ⟨.int (g i j),H,I.tok _,⟨_,rfl⟩,q⟩
theorem opI0 {f:Value→Value→Sem Value} {g:Int→Int→Int}
  (rule:∀ (i j:Int) (t u:Tok) (s:Shared) (Q:Value→Shared→Prop) (E:Value→Shared→Prop),Q (.int (g i j) s.toks) { s with toks:=s.toks + 1 }→wpAny (model X.prog X.w) X.A (f (.int i t) (.int j u)) Q E s) :
  OpR X f (rI0 fun i j=>.int (g i j)):=by
 intro pins s σ H x y v u Q I rx ry h
 obtain ⟨i,j,rfl,rfl,q⟩:=h
 obtain ⟨t,rfl⟩:=rx
 obtain ⟨t',rfl⟩:=ry
 exact rule i j t t' s _ _ ⟨.int (g i j),H,I.tok _,⟨_,rfl⟩,q⟩
theorem opB0 {f:Value→Value→Sem Value} {g:Int→Int→Bool}
  (rule:∀ (i j:Int) (t u:Tok) (s:Shared) (Q:Value→Shared→Prop) (E:Value→Shared→Prop),Q (.bool (g i j)) s→wpAny (model X.prog X.w) X.A (f (.int i t) (.int j u)) Q E s) :
  OpR X f (rI0 fun i j=>.bl (g i j)):=by
 intro pins s σ H x y v u Q I rx ry h
 obtain ⟨i,j,rfl,rfl,q⟩:=h
 obtain ⟨t,rfl⟩:=rx
 obtain ⟨t',rfl⟩:=ry
 exact rule i j t t' s _ _ ⟨.bl (g i j),H,I,rfl,q⟩
def CDiv (i j:Int):Prop:=0 < j∧j < 1073741824
def CPow (i j:Int):Prop:=0 ≤ j∧j ≤ 1000000∧i.natAbs < 2 ^ 64
def CMul (i j:Int):Prop:=(-(2 ^ 64) < i∧i < 2 ^ 64) ∨ (-(2 ^ 64) < j∧j < 2 ^ 64)
theorem CMul.ok {i j:Int} (h:CMul i j):IntMulOk i j:=by
 rcases h with ⟨h1,h2⟩ | ⟨h1,h2⟩
 ·exact .of_left (intBits_le_64 h1 h2)
 ·exact .of_right (intBits_le_64 h1 h2)
theorem op_add:OpR X (binaryOp .Add) (rI0 fun i j=>.int (i + j)):=opI0 fun _ _ _ _ _ _ _ q=>add_int q
theorem op_sub:OpR X (binaryOp .Sub) (rI0 fun i j=>.int (i - j)):=opI0 fun _ _ _ _ _ _ _ q=>sub_int q
theorem op_mul:OpR X (binaryOp .Mult) (rI CMul fun i j=>.int (i * j)):=opI fun _ _ _ _ _ _ _ hc q=>mul_int q hc.ok
theorem op_fdiv:OpR X (binaryOp .FloorDiv) (rI CDiv fun i j=>.int (i / j)):=opI fun i j _ _ _ _ _ hc q=>by
 have h1:(0:Int) < j:=hc.1
 have h2:j < 1073741824:=hc.2
 exact floordiv_int (by omega) (by rw [Int.fdiv_eq_ediv_of_nonneg i (by omega)]; exact q) (.inl (PyProof.noPylong_small (by omega)))
theorem op_mod:OpR X (binaryOp .Mod) (rI (fun _ j=>0 < j) fun i j=>.int (i % j)):=opI fun i j _ _ _ _ _ hc q=>by
 have h1:(0:Int) < j:=hc
 exact mod_int' (by omega) (by rw [Int.fmod_eq_emod_of_nonneg i (by omega)]; exact q)
theorem op_pow:OpR X (binaryOp .Pow) (rI CPow fun i j=>.int (i ^ j.toNat)):=opI fun _ _ _ _ _ _ _ hc q=>pow_int_small hc.1 hc.2.1 hc.2.2 q
theorem unI {f:Value→Sem Value} {g:Int→Int}
  (rule:∀ (i:Int) (t:Tok) (s:Shared) (Q:Value→Shared→Prop) (E:Value→Shared→Prop),Q (.int (g i) s.toks) { s with toks:=s.toks + 1 }→wpAny (model X.prog X.w) X.A (f (.int i t)) Q E s) :
  UnR X f (rU fun i=>.int (g i)):=by
 intro pins s σ H x v Q I rx h
 obtain ⟨i,rfl,q⟩:=h
 obtain ⟨t,rfl⟩:=rx
 exact rule i t s _ _ ⟨.int (g i),H,I.tok _,⟨_,rfl⟩,q⟩
theorem un_neg:UnR X (unaryOp .USub) (rU fun i=>.int (-i)):=unI fun _ _ _ _ _ q=>neg_int q
end
def scal:V→V→Bool
 | .non,.non=>true | .non,.int _=>true | .int _,.non=>true | .non,.bl _=>true | .bl _,.non=>true | .non,.str _=>true | .str _,.non=>true
 | .int _,.int _=>true | .bl _,.bl _=>true | .str _,.str _=>true | .byt _,.byt _=>true
 | .int _,.str _=>true | .str _,.int _=>true | .bl _,.str _=>true | .str _,.bl _=>true
 | _,_=>false
def rEq:R2:=fun x y H Q=>scal x y = true∧Q (.bl (decide (x = y))) H
def rNe:R2:=fun x y H Q=>scal x y = true∧Q (.bl (!decide (x = y))) H
theorem dec_int {i j:Int}:decide (V.int i = V.int j) = (i == j):=by
 rw [Bool.eq_iff_iff]
 simp
theorem dec_bl {i j:Bool}:decide (V.bl i = V.bl j) = (i == j):=by
 rw [Bool.eq_iff_iff]
 simp
theorem dec_str {i j:Str}:decide (V.str i = V.str j) = (i == j):=by
 rw [Bool.eq_iff_iff]
 simp
theorem dec_byt {i j:Array UInt8}:decide (V.byt i = V.byt j) = (i.toList == j.toList):=by
 rw [Bool.eq_iff_iff]
 cases i
 cases j
 simp
section
variable {X:Cx} {a b c:Expr} {ta tb tc:TE} {pos:Pos}
theorem fin_bl {pins:List (Addr×Obj)} {σ:St} {H:Hp} {s:Shared} {Q:VK} {k k':Bool} (I:Inv X pins σ H s) (q:Q (.bl k) H) (e:k = k'):EP X pins σ Q (.bool k') s:=by
 subst e
 exact ⟨.bl k,H,I,rfl,q⟩
theorem op_eq:OpR X (compareOp .Eq) rEq:=by
 intro pins s σ H x y v u Q I rx ry h
 obtain ⟨hs,q⟩:=h
 cases x with
 | non =>
  cases rx
  cases y with
  | non=>cases ry; exact PySem.EqNone.eq_none_none (fin_bl I q (by simp))
  | bl j=>cases ry; exact PySem.EqNone.eq_none_bool (fin_bl I q (by simp))
  | int j=>obtain ⟨t',rfl⟩:=ry; exact PySem.EqNone.eq_none_int (fin_bl I q (by simp))
  | str j=>obtain ⟨t',rfl⟩:=ry; exact PySem.EqNone.eq_none_str (fin_bl I q (by simp))
  | _=>exact absurd (show false = true from hs) Bool.false_ne_true
 | bl i =>
  cases rx
  cases y with
  | non=>cases ry; exact PySem.EqNone.eq_bool_none (fin_bl I q (by simp))
  | bl j=>cases ry; exact eq_bool (fin_bl I q dec_bl)
  | str j=>obtain ⟨t',rfl⟩:=ry; exact PySem.EqMixed.eq_bool_str (fin_bl I q (by simp))
  | _=>exact absurd (show false = true from hs) Bool.false_ne_true
 | int i =>
  obtain ⟨t,rfl⟩:=rx
  cases y with
  | non=>cases ry; exact PySem.EqNone.eq_int_none (fin_bl I q (by simp))
  | int j=>obtain ⟨t',rfl⟩:=ry; exact eq_int (fin_bl I q dec_int)
  | str j=>obtain ⟨t',rfl⟩:=ry; exact PySem.EqMixed.eq_int_str (fin_bl I q (by simp))
  | _=>exact absurd (show false = true from hs) Bool.false_ne_true
 | str i =>
  obtain ⟨t,rfl⟩:=rx
  cases y with
  | non=>cases ry; exact PySem.EqNone.eq_str_none (fin_bl I q (by simp))
  | bl j=>cases ry; exact PySem.EqMixed.eq_str_bool (fin_bl I q (by simp))
  | int j=>obtain ⟨t',rfl⟩:=ry; exact PySem.EqMixed.eq_str_int (fin_bl I q (by simp))
  | str j=>obtain ⟨t',rfl⟩:=ry; exact eq_str (fin_bl I q dec_str)
  | _=>exact absurd (show false = true from hs) Bool.false_ne_true
 | byt i =>
  obtain ⟨t,rfl⟩:=rx
  cases y with
  | byt j=>obtain ⟨t',rfl⟩:=ry; exact PySem.W.eq_bytes (fin_bl I q dec_byt)
  | _=>exact absurd (show false = true from hs) Bool.false_ne_true
 | _=>cases y <;> exact absurd (show false = true from hs) Bool.false_ne_true
theorem op_ne:OpR X (compareOp .NotEq) rNe:=by
 intro pins s σ H x y v u Q I rx ry h
 obtain ⟨hs,q⟩:=h
 cases x with
 | non =>
  cases rx
  cases y with
  | non=>cases ry; exact PySem.EqNone.ne_none_none (fin_bl I q (by simp))
  | bl j=>cases ry; exact PySem.EqNone.ne_none_bool (fin_bl I q (by simp))
  | int j=>obtain ⟨t',rfl⟩:=ry; exact PySem.EqNone.ne_none_int (fin_bl I q (by simp))
  | str j=>obtain ⟨t',rfl⟩:=ry; exact PySem.EqNone.ne_none_str (fin_bl I q (by simp))
  | _=>exact absurd (show false = true from hs) Bool.false_ne_true
 | bl i =>
  cases rx
  cases y with
  | non=>cases ry; exact PySem.EqNone.ne_bool_none (fin_bl I q (by simp))
  | bl j=>cases ry; exact ne_bool (fin_bl I q (congrArg not dec_bl))
  | str j=>obtain ⟨t',rfl⟩:=ry; exact PySem.EqMixed.ne_bool_str (fin_bl I q (by simp))
  | _=>exact absurd (show false = true from hs) Bool.false_ne_true
 | int i =>
  obtain ⟨t,rfl⟩:=rx
  cases y with
  | non=>cases ry; exact PySem.EqNone.ne_int_none (fin_bl I q (by simp))
  | int j=>obtain ⟨t',rfl⟩:=ry; exact ne_int (fin_bl I q (congrArg not dec_int))
  | str j=>obtain ⟨t',rfl⟩:=ry; exact PySem.EqMixed.ne_int_str (fin_bl I q (by simp))
  | _=>exact absurd (show false = true from hs) Bool.false_ne_true
 | str i =>
  obtain ⟨t,rfl⟩:=rx
  cases y with
  | non=>cases ry; exact PySem.EqNone.ne_str_none (fin_bl I q (by simp))
  | bl j=>cases ry; exact PySem.EqMixed.ne_str_bool (fin_bl I q (by simp))
  | int j=>obtain ⟨t',rfl⟩:=ry; exact PySem.EqMixed.ne_str_int (fin_bl I q (by simp))
  | str j=>obtain ⟨t',rfl⟩:=ry; exact ne_str (fin_bl I q (congrArg not dec_str))
  | _=>exact absurd (show false = true from hs) Bool.false_ne_true
 | byt i =>
  obtain ⟨t,rfl⟩:=rx
  cases y with
  | byt j=>obtain ⟨t',rfl⟩:=ry; exact PySem.W.ne_bytes (fin_bl I q (congrArg not dec_byt))
  | _=>exact absurd (show false = true from hs) Bool.false_ne_true
 | _=>cases y <;> exact absurd (show false = true from hs) Bool.false_ne_true
theorem op_lt:OpR X (compareOp .Lt) (rI0 fun i j=>.bl (decide (i < j))):=opB0 fun _ _ _ _ _ _ _ q=>lt_int q
theorem op_le:OpR X (compareOp .LtE) (rI0 fun i j=>.bl (decide (i ≤ j))):=opB0 fun _ _ _ _ _ _ _ q=>le_int q
theorem op_gt:OpR X (compareOp .Gt) (rI0 fun i j=>.bl (decide (j < i))):=opB0 fun _ _ _ _ _ _ _ q=>gt_int q
theorem op_ge:OpR X (compareOp .GtE) (rI0 fun i j=>.bl (decide (j ≤ i))):=opB0 fun _ _ _ _ _ _ _ q=>ge_int q
theorem OpR.or {f:Value→Value→Sem Value} {r r':R2} (h:OpR X f r) (h':OpR X f r'):OpR X f (fun x y H Q=>r x y H Q ∨ r' x y H Q):=by
 intro pins s σ H x y v u Q I rx ry q
 rcases q with q | q
 ·exact h pins s σ H x y v u Q I rx ry q
 ·exact h' pins s σ H x y v u Q I rx ry q
theorem nomark (b:Expr) {op:CmpOp} (h:op ≠ .In:=by decide) (h2:op ≠ .NotIn:=by decide):behindInMarks op b = false:=by
 have e1:(op == CmpOp.In) = false:=by cases op <;> first | rfl | exact absurd rfl h
 have e2:(op == CmpOp.NotIn) = false:=by cases op <;> first | rfl | exact absurd rfl h2
 cases b <;> simp [behindInMarks,e1,e2]
theorem pe_cmpR {op:CmpOp} {r:R2} (ho:OpR X (compareOp op) r) (ha:PE X a ta) (hb:PE X b tb) (hm:behindInMarks op b = false):PE X (.Compare a [op] [b] pos) (tOp r ta tb):=by
 intro pins s σ H Q I h
 exact wpAny_Compare1 (binT ha hb I h fun v u s2 x y H2 I2 rx ry q=>ho pins s2 σ H2 x y v u Q I2 rx ry q) hm
def tTest (t:TE):TT:=fun σ H Q=>t σ H fun x H'=>∃ k,x = .bl k∧Q k H'
theorem pt_cmpR {op:CmpOp} {r:R2} (ho:OpR X (compareOp op) r) (ha:PE X a ta) (hb:PE X b tb) (hm:behindInMarks op b = false):PT X (.Compare a [op] [b] pos) (tTest (tOp r ta tb)):=by
 intro pins s σ H Q I h
 refine wpAny_isTrue_Compare1 (thn (ha pins s σ H _ I h) fun v s1 ⟨x,H1,I1,r1,q1⟩=>thn (hb pins s1 σ H1 _ I1 q1) fun u s2 ⟨y,H2,I2,r2,q2⟩ =>
  thn (ho pins s2 σ H2 x y v u _ I2 r1 r2 q2) fun c s3 ⟨z,H3,I3,r3,k,e,q3⟩=>?_) hm
 subst e
 cases r3
 exact wpAny_truthy_bool ⟨H3,I3,q3⟩
def tChain (r r':R2) (ta tb tc:TE):TE:=fun σ H Q=>ta σ H fun x H1=>tb σ H1 fun y H2=>r x y H2 fun z H3=>∃ k,z = .bl k ∧
 (if k = true then tc σ H3 fun w' H4=>r' y w' H4 Q else Q (.bl false) H3)
theorem pe_chain {op op':CmpOp} {r r':R2} (ho:OpR X (compareOp op) r) (ho':OpR X (compareOp op') r') (ha:PE X a ta) (hb:PE X b tb) (hc:PE X c tc)
  (hm:lastMarks [op,op'] [b,c] = false:=by with_unfolding_all rfl):PE X (.Compare a [op,op'] [b,c] pos) (tChain r r' ta tb tc):=by
 intro pins s σ H Q I h
 refine Compare_chain (thn (ha pins s σ H _ I h) fun v s1 ⟨x,H1,I1,r1,q1⟩=>chain_link (thn (hb pins s1 σ H1 _ I1 q1) fun u s2 ⟨y,H2,I2,r2,q2⟩ =>
  thn (ho pins s2 σ H2 x y v u _ I2 r1 r2 q2) fun d s3 ⟨z,H3,I3,r3,k,e,q3⟩=>?_)) hm
 subst e
 cases r3
 refine wpAny_truthy_bool ?_
 cases k with
 | false=>exact ite_ff ⟨.bl false,H3,I3,rfl,q3⟩
 | true=>exact ite_tt (chain_last (thn (hc pins s3 σ H3 _ I3 q3) fun w' s4 ⟨z',H4,I4,r4,q4⟩=>ho' pins s4 σ H4 y z' u w' Q I4 r2 r4 q4))
theorem pt_chain {op op':CmpOp} {r r':R2} (ho:OpR X (compareOp op) r) (ho':OpR X (compareOp op') r') (ha:PE X a ta) (hb:PE X b tb) (hc:PE X c tc)
  (hm:lastMarks [op,op'] [b,c] = false:=by with_unfolding_all rfl):PT X (.Compare a [op,op'] [b,c] pos) (tTest (tChain r r' ta tb tc)):=by
 intro pins s σ H Q I h
 refine isTrue_chain (thn (ha pins s σ H _ I h) fun v s1 ⟨x,H1,I1,r1,q1⟩=>test_link (thn (hb pins s1 σ H1 _ I1 q1) fun u s2 ⟨y,H2,I2,r2,q2⟩ =>
  thn (ho pins s2 σ H2 x y v u _ I2 r1 r2 q2) fun d s3 ⟨z,H3,I3,r3,k,e,q3⟩=>?_)) hm
 subst e
 cases r3
 refine wpAny_truthy_bool ?_
 cases k with
 | false =>
  obtain ⟨k',e',q'⟩:=q3
  cases e'
  exact ite_ff ⟨H3,I3,q'⟩
 | true =>
  refine ite_tt (test_last (thn (hc pins s3 σ H3 _ I3 q3) fun w' s4 ⟨z',H4,I4,r4,q4⟩=>thn (ho' pins s4 σ H4 y z' u w' _ I4 r2 r4 q4) fun d' s5 ⟨z2,H5,I5,r5,k2,e2,q5⟩=>?_))
  subst e2
  cases r5
  exact wpAny_truthy_bool ⟨H5,I5,q5⟩
def TruV (K:PySem.W.Frag) (x:V) (H:Hp) (k:Bool):Prop :=
 match x with
 | .non=>k = false
 | .bl b=>k = b
 | .int i=>k = (i != 0)
 | .str y=>y.length ≤ sizeLine∧k = ((y.length:Int) != 0)
 | .byt y=>y.size ≤ sizeLine∧k = ((y.size:Int) != 0)
 | .ref p=>(∃ xs,SqL K H p xs∧k = !xs.isEmpty) ∨ (∃ xs,SqT K H p xs∧k = !xs.isEmpty) ∨ ∃ kvs,H p = some (.dK kvs)∧k = !kvs.isEmpty
 | _=>False
theorem isEmpty_kv {κ:Type} {kvs:List (κ×V)} {vs:List (κ×Value)} (r:KV kvs vs):(!vs.isEmpty) = !kvs.isEmpty:=by
 cases r <;> rfl
theorem isEmpty_of {xs:List V} {its:List Value} (r:Vals xs its):(!its.toArray.isEmpty) = !xs.isEmpty:=by
 cases r <;> simp
theorem line63:(sizeLine:Nat) < 2 ^ 63:=by rw [sizeLine_eq]; decide
theorem tru_ok:TruR X (fun x H Q=>∃ k,TruV X.K x H k∧Q k H):=by
 intro pins s σ H x v Q I rx h
 obtain ⟨k,e,q⟩:=h
 have hl:=line63
 have hs:sizeLine = 16777216:=sizeLine_eq
 cases x with
 | non =>
  cases rx
  have e':k = false:=e
  subst e'
  exact truthy_none ⟨H,I,q⟩
 | bl b =>
  cases rx
  have e':k = b:=e
  subst e'
  exact wpAny_truthy_bool ⟨H,I,q⟩
 | int i =>
  obtain ⟨t,rfl⟩:=rx
  have e':k = (i != 0):=e
  subst e'
  exact PySem.P.truthy_int ⟨H,I,q⟩
 | str y =>
  obtain ⟨t,rfl⟩:=rx
  obtain ⟨hy,e'⟩:y.length ≤ sizeLine∧k = ((y.length:Int) != 0):=e
  subst e'
  exact PySem.P.truthy_str (by omega) ⟨H,I.tok _,q⟩
 | byt y =>
  obtain ⟨t,rfl⟩:=rx
  obtain ⟨hy,e'⟩:y.size ≤ sizeLine∧k = ((y.size:Int) != 0):=e
  subst e'
  exact PySem.W.truthy_bytes (by omega) ⟨H,I.tok _,q⟩
 | ref p =>
  cases rx
  have e':(∃ xs,SqL X.K H p xs∧k = !xs.isEmpty) ∨ (∃ xs,SqT X.K H p xs∧k = !xs.isEmpty) ∨ ∃ kvs,H p = some (.dK kvs)∧k = !kvs.isEmpty:=e
  rcases e' with ⟨xs,hx,e'⟩ | ⟨xs,hx,e'⟩ | ⟨kvs,hx,e'⟩
  ·subst e'
   obtain ⟨its,r,pl,hz⟩:=I.list hx
   have hlen:=r.length
   exact wpAny_truthy_list pl.isList (by simp only [List.size_toArray]; omega) ⟨H,I.tok _,by rw [isEmpty_of r]; exact q⟩
  ·subst e'
   obtain ⟨its,r,pl,hz⟩:=I.tuple hx
   have hlen:=r.length
   exact truthy_tuple pl (by simp only [List.size_toArray]; omega) ⟨H,I.tok _,by rw [isEmpty_of r]; exact q⟩
  ·subst e'
   obtain ⟨hz,hS,vs,r,m⟩:kvs.length ≤ sizeLine∧(p == sysModules) = false∧∃ vs,KV kvs vs∧s.heap.DictOf (mixKind X.prog X.w) p vs:=I.hok p _ hx
   have hlen:kvs.length = vs.length:=Paired.length r
   exact wpAny_truthy_dict hS m (by omega) ⟨H,I.tok _,by rw [isEmpty_kv r]; exact q⟩
 | _=>exact (show False from e).elim
theorem pt_truth (ha:PE X a ta) (he:∀ whole,isTrue a X.env whole = (do let v ← whole; standAt a.pos; holding [v] (truthy v))) :
  PT X a (fun σ H Q=>ta σ H fun x H'=>∃ k,TruV X.K x H' k∧Q k H'):=by
 intro pins s σ H Q I h
 exact isTrue_plain (thn (ha pins s σ H _ I h) fun v s1 ⟨x,H1,I1,r1,q1⟩=>tru_ok pins s1 σ H1 x v Q I1 r1 q1) (he _)
theorem vals1 {x:V} {us:List Value} (r:Vals [x] us):∃ u,us = [u]∧RelV x u:=by
 cases r with
 | cons r1 r2=>cases r2; exact ⟨_,rfl,r1⟩
theorem vals2 {x y:V} {us:List Value} (r:Vals [x,y] us):∃ u w',us = [u,w']∧RelV x u∧RelV y w':=by
 cases r with
 | cons r1 r2 =>
  cases r2 with
  | cons r3 r4=>cases r4; exact ⟨_,_,rfl,r1,r3⟩
theorem call_abs:CallR X (.builtin "abs") (fun xs H Q=>∃ i,xs = [.int i]∧Q (.int (if i < 0 then -i else i)) H):=by
 intro pins s σ H xs us Q I r h
 obtain ⟨i,rfl,q⟩:=h
 obtain ⟨u,rfl,t,rfl⟩:=vals1 r
 exact call_abs_int fun u tk=>⟨.int (if i < 0 then -i else i),H,I.tok _,⟨_,rfl⟩,q⟩
theorem call_max2 (hc:X.calm = true):CallR X (.builtin "max") (fun xs H Q=>∃ i j,xs = [.int i,.int j]∧Q (.int (if j > i then j else i)) H):=by
 intro pins s σ H xs us Q I r h
 obtain ⟨i,j,rfl,q⟩:=h
 obtain ⟨u,w',rfl,⟨t,rfl⟩,⟨t',rfl⟩⟩:=vals2 r
 refine max_two_ints (I.ok.hd hc) fun h' tk k=>⟨_,H,I.kept k,?_,q⟩
 by_cases hj:j > i
 ·rw [if_pos hj,if_pos hj]; exact ⟨_,rfl⟩
 ·rw [if_neg hj,if_neg hj]; exact ⟨_,rfl⟩
theorem call_min2 (hc:X.calm = true):CallR X (.builtin "min") (fun xs H Q=>∃ i j,xs = [.int i,.int j]∧Q (.int (if j < i then j else i)) H):=by
 intro pins s σ H xs us Q I r h
 obtain ⟨i,j,rfl,q⟩:=h
 obtain ⟨u,w',rfl,⟨t,rfl⟩,⟨t',rfl⟩⟩:=vals2 r
 refine min_two_ints (I.ok.hd hc) fun h' tk k=>⟨_,H,I.kept k,?_,q⟩
 by_cases hj:j < i
 ·rw [if_pos hj,if_pos hj]; exact ⟨_,rfl⟩
 ·rw [if_neg hj,if_neg hj]; exact ⟨_,rfl⟩
theorem call_int1:CallR X (.type "int") (fun xs H Q=>(∃ i,xs = [.int i]∧Q (.int i) H) ∨ ∃ k,xs = [.bl k]∧Q (.int (if k then 1 else 0)) H):=by
 intro pins s σ H xs us Q I r h
 rcases h with ⟨i,rfl,q⟩ | ⟨k,rfl,q⟩
 ·obtain ⟨u,rfl,t,rfl⟩:=vals1 r
  exact call_int_int ⟨.int i,H,I,⟨_,rfl⟩,q⟩
 ·obtain ⟨u,rfl,r1⟩:=vals1 r
  cases r1
  exact call_int_bool ⟨.int (if k then 1 else 0),H,I.tok _,⟨_,rfl⟩,q⟩
theorem call_str_int:CallR X (.type "str") (fun xs H Q=>∃ i,xs = [.int i]∧i.natAbs.log2 < 1920∧Q (.str (toString i)) H):=by
 intro pins s σ H xs us Q I r h
 obtain ⟨i,rfl,hz,q⟩:=h
 obtain ⟨u,rfl,t,rfl⟩:=vals1 r
 exact PySem.P.str_of_int hz ⟨.str _,H,I.tok _,⟨_,rfl⟩,q⟩
end
end L2
namespace L2
open PySem PySem.Spec PyProof.Rows
structure ObjM (h:Heap) (x dx C:Addr) (mA:Str→Option Value):Prop where
 obj:h.get? x = some (PySem.W.instObj C dx)
 ns:h.Ns1 dx mA
 ne:dx ≠ x
theorem lookIn_ns {h:Heap} {dx:Addr} {mA:Str→Option Value} (n:h.Ns1 dx mA):∃ od,h.get? dx = some od∧∀ name,PySem.W.lookIn name od = some (mA name):=by
 obtain ⟨o,es,ep,ho,hd,hk,_,hm⟩:=n
 refine ⟨o,ho,fun name=>?_⟩
 have e:=hm name
 unfold nsFind findBy at e
 rw [← Array.find?_toList] at e
 unfold PySem.W.lookIn
 rw [hd]
 dsimp only
 split
 ·rename_i y q
  rw [q] at e
  exact congrArg some e
 ·rename_i q
  rw [q] at e
  have a:es.toList.any (·.refKey) = false:=by
   rw [List.any_eq_false]
   intro y hy
   obtain ⟨z,t,hkey⟩:=hk y (Array.mem_toList_iff.mp hy)
   simp [DictEntry.refKey,hkey]
  have a':¬ es.toList.any (·.refKey) = true:=by rw [a]; exact Bool.false_ne_true
  rw [if_neg a']
  exact congrArg some e
theorem ObjM.look {h:Heap} {x dx C:Addr} {mA:Str→Option Value} (I:ObjM h x dx C mA):∃ od,PySem.W.InstAt h x (PySem.W.instObj C dx) C (some od)∧∀ name,PySem.W.lookIn name od = some (mA name) :=
 let ⟨od,ho,hl⟩:=lookIn_ns I.ns
 ⟨od,⟨I.obj,rfl,rfl,ho⟩,hl⟩
section
variable {prog:Program} {w:World} {A:Around} {E:Value→Shared→Prop} {s:Shared} {K:PySem.W.Frag} {x dx C f:Addr} {mA:Str→Option Value} {name:Str} {v:Value}
end
section
variable {P:Program} {w:World} {H H':Hp} {h h':Heap} {a C dx:Addr} {fs fs':List (Str×V)}
theorem ins_get (hok:HOk P w H h) (e:H a = some (.ins C dx fs)):∃ mA,ObjM h a dx C mA∧(∀ f,RelO (fs.lookup f) (mA f))∧PySem.Within mA (fs.map (·.1))∧fs.length ≤ 1000∧H dx = some (.own a):=by
 obtain ⟨d,z,ne,ob,mA,n,r,q⟩:=(show ObjOk P w H h a (.ins C dx fs) from hok a _ e)
 exact ⟨mA,⟨ob,n,ne⟩,r,q,z,d⟩
end
structure Cls (K:PySem.W.Frag) (C:Addr):Prop where
 pg:PySem.W.plainGet K C Str.empty = true
 hd:PySem.W.hasDictIn K C = true
 po:PySem.W.plainOver K C = true
 sa:PySem.W.findIn K (.ref C) "__setattr__" = some (some (.builtin "object.__setattr__"))
theorem Cls.get {K:PySem.W.Frag} {C:Addr} (c:Cls K C) (f:Str):PySem.W.plainGet K C f = true:=c.pg
structure Con (K:PySem.W.Frag) (C:Addr) (f:Str) (v:V) (u:Value):Prop where
 at_:PySem.W.findIn K (.ref C) f = some (some u)
 rel:RelV v u
 get:PySem.W.specialIn K u "__get__" = some none
 cp:PySem.W.copiedNames.contains f = false
structure Meth (K:PySem.W.Frag) (C:Addr) (m:Str) (f:Addr):Prop where
 at_:PySem.W.findIn K (.ref C) m = some (some (.ref f))
 fn:PySem.W.isFn K (.ref f) = true
 kp:PySem.W.keepIn K (.ref f) = true
section
variable {X:Cx} {pins:List (Addr×Obj)} {σ:St} {H:Hp} {s:Shared} {a C dx:Addr} {fs:List (Str×V)} {f:Str} {v:V} {A:Around} {E:Value→Shared→Prop}
end
section
variable {X:Cx} {o e value:Expr} {f:Str} {pos pos' tpos:Pos} {ta tv:TE}
end
section
variable {X:Cx} {pins:List (Addr×Obj)} {σ:St} {H:Hp} {s:Shared} {A:Around} {E:Value→Shared→Prop} {Q:Value→Shared→Prop} {c:Value} {b:Bool}
inductive TyOf (K:PySem.W.Frag) (H:Hp):V→Value→Prop where
 | non:TyOf K H .non (.type "NoneType")
 | bl (x:Bool):TyOf K H (.bl x) (.type "bool")
 | int (i:Int):TyOf K H (.int i) (.type "int")
 | str (x:Str):TyOf K H (.str x) (.type "str")
 | flt (x:UInt64):TyOf K H (.flt x) (.type "float")
 | lst {a:Addr} {xs:List V} (e:H a = some (.lst xs)):TyOf K H (.ref a) (.type "list")
 | frz {a:Addr} {o:Obj} {xs:List V} (e:H a = some (.frz o (.lst xs))):TyOf K H (.ref a) (.type "list")
 | tup {a:Addr} {xs:List V} (e:H a = some (.tup xs)):TyOf K H (.ref a) (.type "tuple")
 | dK {a:Addr} {kvs:List (Key×V)} (e:H a = some (.dK kvs)):TyOf K H (.ref a) (.type "dict")
 | dT {a:Addr} {kvs:List (List Key×V)} (e:H a = some (.dT kvs)):TyOf K H (.ref a) (.type "dict")
 | ins {a C dx:Addr} {fs:List (Str×V)} (e:H a = some (.ins C dx fs)) (cl:Cls K C) (ha:PySem.W.findIn K (.ref C) "__class__" = some (some (.builtin "object.__class__")))
   (hn:PySem.W.specialIn K (.builtin "object.__class__") "__get__" = some (some (.builtin "getset_descriptor.__get__"))) (htk:PySem.W.takesIn K (.builtin "object.__class__") = some true)
   (hm:PySem.W.mroIn K C (.type "object") = some true):TyOf K H (.ref a) (.ref C)
theorem isinst_ok {x:V} {u t:Value} (I:Inv X pins σ H s) (rx:RelV x u) (ty:TyOf X.K H x t) (e:PySem.W.kitOne X.K t c = some b) (h:∀ tk,Q (.bool b) { s with toks:=tk }) :
  wpAny (model X.prog X.w) A (call (.builtin "isinstance") [u,c]) Q E s:=by
 cases ty with
 | non=>cases (show u = Value.none from rx); exact PySem.W.kia_one PySem.W.kitx_none I.kIn True.intro e (fun z=>nomatch z) h
 | bl y=>cases (show u = Value.bool y from rx); exact PySem.W.kia_one PySem.W.kitx_bool I.kIn True.intro e (fun z=>nomatch z) h
 | int i=>obtain ⟨t,q⟩:=(show ∃ t,u = Value.int i t from rx); cases q; exact PySem.W.kia_one PySem.W.kitx_int I.kIn True.intro e (fun z=>nomatch z) h
 | str y=>obtain ⟨t,q⟩:=(show ∃ t,u = Value.str y t from rx); cases q; exact PySem.W.kia_one PySem.W.kitx_str I.kIn True.intro e (fun z=>nomatch z) h
 | flt y=>obtain ⟨t,q⟩:=(show ∃ t,u = Value.float y t from rx); cases q; exact PySem.W.kia_one PySem.W.kitx_float I.kIn True.intro e (fun z=>nomatch z) h
 | @lst a xs ea =>
  cases (show u = Value.ref a from rx)
  obtain ⟨_,_,n,_,h1⟩:=(show ObjOk X.prog X.w H s.heap a (.lst xs) from I.hok a _ ea)
  exact PySem.W.kia_one PySem.W.kitx_list I.kIn ⟨_,h1,rfl⟩ e (fun z=>nomatch z) h
 | @frz a ob xs ea =>
  cases (show u = Value.ref a from rx)
  obtain ⟨_,_,_,n,_,h1⟩:=(show ObjOk X.prog X.w H s.heap a (.frz ob (.lst xs)) from I.hok a _ ea)
  exact PySem.W.kia_one PySem.W.kitx_list I.kIn ⟨_,h1,rfl⟩ e (fun z=>nomatch z) h
 | @tup a xs ea =>
  cases (show u = Value.ref a from rx)
  obtain ⟨_,_,_,p⟩:=(show ObjOk X.prog X.w H s.heap a (.tup xs) from I.hok a _ ea)
  obtain ⟨o,h1,h2,_⟩:=p
  exact PySem.W.kia_one PySem.W.kitx_tuple I.kIn ⟨o,h1,h2⟩ e (fun z=>nomatch z) h
 | @dK a kvs ea =>
  cases (show u = Value.ref a from rx)
  obtain ⟨_,_,vs,_,p⟩:=(show ObjOk X.prog X.w H s.heap a (.dK kvs) from I.hok a _ ea)
  obtain ⟨o,es,ep,h1,h2,_⟩:=p
  exact PySem.W.kia_one PySem.W.kitx_dict I.kIn ⟨o,h1,h2.1⟩ e (fun z=>nomatch z) h
 | @dT a kvs ea =>
  cases (show u = Value.ref a from rx)
  obtain ⟨_,_,xs,_,o,es,ep,h1,h2,_⟩:=(show ObjOk X.prog X.w H s.heap a (.dT kvs) from I.hok a _ ea)
  exact PySem.W.kia_one PySem.W.kitx_dict I.kIn ⟨o,h1,h2.1⟩ e (fun z=>nomatch z) h
 | @ins a C dx fs ea cl ha hn htk hm =>
  cases (show u = Value.ref a from rx)
  obtain ⟨mA,O,_⟩:=ins_get I.hok ea
  obtain ⟨od,J,_⟩:=O.look
  exact PySem.W.kia_one (PySem.W.kitx_own (cl.get _) cl.hd ha hn htk hm) I.kIn J e (fun z=>nomatch z) h
end
end L2
namespace L2
open PySem PySem.Spec PyProof.Rows
structure Room (k:Nat) (A:Around):Prop where
 hd:A.handled = none
 dp:A.depth + 3 * k + 5 < recursionLimit
 un:A.units + 16 * k + 200 < cLine
 gd:A.guards = some []
theorem Room.mono {j k:Nat} {A:Around} (r:Room k A) (h:j ≤ k):Room j A:=⟨r.hd,by have:=r.dp; omega,by have:=r.un; omega,r.gd⟩
theorem Room.deeper {k:Nat} {A:Around} (r:Room (k + 1) A) (env:Env):Room k (A.deeper env) :=
 ⟨r.hd,by have:=r.dp; show A.depth + 1 + 3 * k + 5 < _; omega,by have:=r.un; show A.units + 3 + 16 * k + 200 < _; omega,r.gd⟩
theorem Room.in1 {k:Nat} {A:Around} (r:Room (k + 1) A):Room k A.in1 :=
 ⟨r.hd,by have:=r.dp; show A.depth + 3 * k + 5 < _; omega,by have:=r.un; show A.units + 1 + 16 * k + 200 < _; omega,r.gd⟩
theorem Room.depth {k:Nat} {A:Around} (r:Room k A):A.depth < recursionLimit:=by have:=r.dp; omega
theorem Room.units {k:Nat} {A:Around} (r:Room k A):A.units + 64 < cLine:=by have:=r.un; omega
def tNil:TA:=fun _ H Q=>Q [] H
def tCons (ta:TE) (tr:TA):TA:=fun σ H Q=>ta σ H fun x H1=>tr σ H1 fun xs H2=>Q (x :: xs) H2
section
variable {X:Cx} {e:Expr} {es:List Expr} {te:TE} {t:TA} {pos:Pos}
theorem pa_nil:PA X [] tNil:=fun _ _ _ _ H Q I h=>Calls.spliced_nil ⟨[],H,I,.nil,h⟩
theorem pa_cons (ha:PE X e te) (hr:PA X es t) (hs:starEach (e :: es) X.env = (false,eval e X.env) :: starEach es X.env:=by rfl):PA X (e :: es) (tCons te t):=by
 intro pos pins s σ H Q I h
 rw [hs]
 show wpAny _ _ (spliced ((false,eval e X.env) :: backTo pos (starEach es X.env))) _ _ s
 refine Calls.spliced_cons (thn (ha pins s σ H _ I h) fun u s1 ⟨x,H1,I1,r1,q1⟩=>?_)
 exact thn (hr pos pins s1 σ H1 _ I1 q1) fun us s2 ⟨xs,H2,I2,r2,q2⟩=>⟨x :: xs,H2,I2,.cons r1 r2,q2⟩
def tTup (t:TA):TE:=fun σ H Q=>t σ H fun xs H1=>xs.length ≤ sizeLine∧∀ p,H1 p = none→Q (.ref p) (upd H1 p (.tup xs))
def tLst (t:TA):TE:=fun σ H Q=>t σ H fun xs H1=>xs.length ≤ sizeLine∧∀ p,H1 p = none→Q (.ref p) (upd H1 p (.lst xs))
theorem pe_tup {x1} (h:PA X es t):PE X (.Tuple es x1 pos) (tTup t):=by
 intro pins s σ H Q I hq
 refine wpAny_Tuple_spliced (thn (h pos pins s σ H _ I hq) fun us s1 ⟨xs,H1,I1,r,z,q⟩=>⟨by rw [← r.length]; exact z,?_⟩)
 have hf:H1 s1.heap.objs.size = none:=I1.hok.fresh (Nat.le_refl _)
 refine ⟨.ref s1.heap.objs.size,upd H1 s1.heap.objs.size (.tup xs),I1.laid (t':=s1.toks) (fun b u e=>Heap.get?_push_of_some _ e) (Nat.le_refl _) ?_,rfl,q _ hf⟩
 exact ⟨z,us,r,⟨_,Heap.get?_push_size _ rfl,rfl,_,rfl⟩⟩
theorem pe_lst (h:PA X es t):PE X (.List es pos) (tLst t):=by
 intro pins s σ H Q I hq
 refine wpAny_List_spliced (thn (h pos pins s σ H _ I hq) fun us s1 ⟨xs,H1,I1,r,z,q⟩=>⟨by rw [← r.length]; exact z,?_⟩)
 have hf:H1 s1.heap.objs.size = none:=I1.hok.fresh (Nat.le_refl _)
 refine ⟨.ref s1.heap.objs.size,upd H1 s1.heap.objs.size (.lst xs),I1.laid (t':=s1.toks) (fun b u e=>Heap.get?_push_of_some _ e) (Nat.le_refl _) ?_,rfl,q _ hf⟩
 exact ⟨z,us,0,r,Heap.get?_push_size _ rfl⟩
end
abbrev Sp:=List V→Hp→VK→XK→Prop
abbrev CXT:=List Env→Hp→Shared→XK→Value→Shared→Prop
structure Env0 (P:Program) (w:World) (K:PySem.W.Frag) (mg:Str→Option Value) (base:Heap) (A:Around) (outer:List Env) (s:Shared) (H:Hp):Prop where
 frames:A.frames = some outer
 mod:Mod K mg base
 bs:∀ b o,base.get? b = some o→s.heap.get? b = some o∧H b = none
 bsz:base.objs.size ≤ s.heap.objs.size
 funs:s.heap.FunFrames base outer
 frf:∀ b ∈ frs outer,H b = none
 hok:HOk P w H s.heap
 bare:AllBare s.gens
def CE (outer:List Env) (P:Program) (w:World) (H:Hp) (s:Shared) (Q:VK) (u:Value) (s':Shared):Prop :=
 ∃ v H',s'.os = s.os∧AllBare s'.gens∧Un (frs outer) [] H H' s.heap s'.heap∧HOk P w H' s'.heap∧RelV v u∧Q v H'
def CR (CX:CXT) (outer:List Env) (P:Program) (w:World) (H:Hp) (s:Shared) (Q:VK) (E:XK) (r:Result) (s':Shared):Prop :=
 match r with
 | .ok (.ret u)=>CE outer P w H s Q u s'
 | .ok _=>False
 | .error e=>CX outer H s E e s'
structure FnOk (P:Program) (w:World) (K:PySem.W.Frag) (mg:Str→Option Value) (base:Heap) (CX:CXT) (k:Nat) (f:Addr) (fd:FuncData) (ps:List Str) (sp:Sp):Prop where
 len:∀ vs H Q E,sp vs H Q E→vs.length = ps.length
 run:∀ (A:Around) (outer:List Env) (s:Shared) (H:Hp) (args:Args) (us:List Value) (vs:List V) (Q:VK) (E:XK),Room k A→Env0 P w K mg base A outer s H→BindsTo s fd args (ps.zip us)→Vals vs us→sp vs H Q E →
  codeAny (model P w) A (.call (.ref f) args) (CR CX outer P w H s Q E) s
theorem FnOk.mono {P:Program} {w:World} {K:PySem.W.Frag} {mg:Str→Option Value} {base:Heap} {CX:CXT} {j k:Nat} {f:Addr} {fd:FuncData} {ps:List Str} {sp:Sp} (F:FnOk P w K mg base CX j f fd ps sp) (h:j ≤ k) :
  FnOk P w K mg base CX k f fd ps sp:=⟨F.len,fun A outer s H args us vs Q E hr=>F.run A outer s H args us vs Q E (hr.mono h)⟩
theorem FnOk.imp {P:Program} {w:World} {K:PySem.W.Frag} {mg:Str→Option Value} {base:Heap} {CX:CXT} {k:Nat} {f:Addr} {fd:FuncData} {ps:List Str} {sp sp':Sp} (F:FnOk P w K mg base CX k f fd ps sp)
  (h:∀ vs H Q E,sp' vs H Q E→sp vs H Q E):FnOk P w K mg base CX k f fd ps sp' :=
 ⟨fun vs H Q E q=>F.len vs H Q E (h _ _ _ _ q),fun A outer s H args us vs Q E hr he hb hv hs=>F.run A outer s H args us vs Q E hr he hb hv (h _ _ _ _ hs)⟩
theorem Env0.in1 {P:Program} {w:World} {K:PySem.W.Frag} {mg:Str→Option Value} {base:Heap} {A:Around} {outer:List Env} {s:Shared} {H:Hp} (e:Env0 P w K mg base A outer s H) :
  Env0 P w K mg base A.in1 outer s H:=⟨e.frames,e.mod,e.bs,e.bsz,e.funs,e.frf,e.hok,e.bare⟩
section
variable {X:Cx} {pins:List (Addr×Obj)} {σ:St} {H:Hp} {s s':Shared}
theorem Inv.env0 (I:Inv X pins σ H s):Env0 X.prog X.w X.K X.mg X.base X.A X.stack s H :=
 ⟨I.ok.frames,I.ok.mod,I.bs,Nat.le_trans I.ok.bsz I.sz,I.stack,I.stkFree,I.hok,I.bare⟩
theorem Inv.after {Q:VK} {u:Value} (I:Inv X pins σ H s) (h:CE X.stack X.prog X.w H s Q u s'):EP X pins σ Q u s':=by
 obtain ⟨v,H',os,bare,un,hok,r,q⟩:=h
 obtain ⟨hh,g,d,t,os'⟩:=s'
 obtain rfl:os' = s.os:=os
 exact ⟨v,H',I.call (h':=hh) (g':=g) (d':=d) (t':=t) (ch:=[]) un hok bare (fun b z=>absurd z (by simp)),r,q⟩
end
def tCall (sp:Sp) (dvs:List V) (E:XK) (t:TA):TE:=fun σ H Q=>t σ H fun vs H1=>sp (vs ++ dvs) H1 Q E
def Binds (K:PySem.W.Frag) (fd:FuncData) (ps:List Str) (ds:List Value):Prop :=
 ∀ (s:Shared) (us:List Value),K.In s.heap→(us ++ ds).length = ps.length→BindsTo s fd ⟨us,[]⟩ (ps.zip (us ++ ds))
theorem Binds.all {K:PySem.W.Frag} {fd:FuncData} {ps:List Str} (h:∀ us:List Value,us.length = ps.length→bindArgs fd ⟨us,[]⟩ = pure (ps.zip us)):Binds K fd ps []:=fun s us _ hl=>by
 rw [List.append_nil] at hl ⊢
 exact .of_eq (h us hl)
def Passes (CX:CXT) (X:Cx) (E:XK):Prop:=∀ (pins:List (Addr×Obj)) (σ:St) (H:Hp) (s:Shared) (e:Value) (s':Shared),Inv X pins σ H s→CX X.stack H s E e s'→X.xe e s'
section
variable {X:Cx} {CX:CXT} {k:Nat} {f C:Addr} {fd:FuncData} {ps:List Str} {sp:Sp} {dvs:List V} {ds:List Value} {E:XK} {x m:Str} {p pos apos:Pos} {e o:Expr} {es:List Expr} {ta:TE} {t:TA}
theorem run_fn {pins:List (Addr×Obj)} {σ:St} {H:Hp} {s:Shared} {Q:VK} {us:List Value} {vs:List V} (F:FnOk X.prog X.w X.K X.mg X.base CX k f fd ps sp) (hr:Room k X.A) (hb:Binds X.K fd ps ds) (hd:Vals dvs ds) (hx:Passes CX X E)
  (I:Inv X pins σ H s) (r:Vals vs us) (h:sp (vs ++ dvs) H Q E):wpAny (model X.prog X.w) X.A (call (.ref f) us) (EP X pins σ Q) X.xe s:=by
 have r2:Vals (vs ++ dvs) (us ++ ds):=r.append hd
 have hl:(us ++ ds).length = ps.length:=by rw [← r2.length]; exact F.len _ _ _ _ h
 refine wpAny_call (codeAny_mono (F.run X.A X.stack s H ⟨us,[]⟩ (us ++ ds) (vs ++ dvs) Q E hr I.env0 (hb s us I.kIn hl) r2 h) fun r s' hq=>?_)
 cases r with
 | error e=>exact hx pins σ H s e s' I hq
 | ok fl =>
  cases fl with
  | ret u=>exact I.after hq
  | next=>exact False.elim hq
  | brk=>exact False.elim hq
  | cont=>exact False.elim hq
theorem pe_call (F:FnOk X.prog X.w X.K X.mg X.base CX k f fd ps sp) (hr:Room k X.A) (hg:Gl X x) (hm:X.mg x = some (.ref f)) (hk:PySem.W.keepIn X.K (.ref f) = true) (hb:Binds X.K fd ps ds) (hd:Vals dvs ds) (hx:Passes CX X E)
  (ha:PA X (e :: es) t) (hdb:(x == ("__debug__":Str)) = false:=by decide) (he:starEach (e :: es) X.env = (false,eval e X.env) :: starEach es X.env:=by rfl) (hpl:(backTo pos (starEach es X.env)).any (·.1) = false:=by rfl) :
  PE X (.Call (.Name x p) (e :: es) [] pos) (tCall sp dvs E t):=by
 intro pins s σ H Q I h
 refine wpAny_Call_Name_kw (ld_glob I hg hm ?_ hdb)
 refine PySem.W.callWith_K (h₀:=X.base) I.ok.mod.kin hk (thn (ha pos pins s σ H _ I h) fun us s1 ⟨vs,H1,I1,r,q⟩=>⟨I1.kIn,?_⟩) he hpl
 exact run_fn F hr hb hd hx I1 r q
structure Mk (K:PySem.W.Frag) (C f:Addr):Prop where
 makes:PySem.W.makesIn K C = true
 init:PySem.W.findIn K (.ref C) "__init__" = some (some (.ref f))
 fn:PySem.W.isFn K (.ref f) = true
 kp:PySem.W.keepIn K (.ref C) = true
end
section
variable {X:Cx} {CX:CXT} {k:Nat} {f C:Addr} {fd:FuncData} {ps ks:List Str} {sp:Sp} {E:XK} {x m:Str} {p pos apos kpos:Pos} {e o:Expr} {es:List Expr} {kws:List Keyword} {te ta:TE} {t tk:TA} {nm:Option Str}
structure KBinds (K:PySem.W.Frag) (fd:FuncData) (ps ks:List Str) (g:List Value→List Value→List Value) (gV:List V→List V→List V):Prop where
 to:∀ (s:Shared) (us ws:List Value),K.In s.heap→(g us ws).length = ps.length→BindsTo s fd ⟨us,ks.zip ws⟩ (ps.zip (g us ws))
 rel:∀ {vs:List V} {us:List Value} {zs:List V} {ws:List Value},Vals vs us→Vals zs ws→Vals (gV vs zs) (g us ws)
variable {g:List Value→List Value→List Value} {gV:List V→List V→List V}
end
structure FnScope (N P:List Str) (sc:Scope):Prop where
 kind:sc.kind = .function
 co:sc.isCoroutine = false
 gen:sc.isGenerator = false
 nd:N.Nodup
 pre:N.take P.length = P
 par:∀ x ∈ P,sc.names.lookup x = some .local ∨ sc.names.lookup x = some .cell
 nofree:∀ y ∈ sc.names,y.2 ≠ .free
theorem bindL_out {kindOf:Str→Option NameKind} {x:Str}:∀ {binds:List (Str×Value)} {m:Str→Option Value},(∀ v,(x,v) ∉ binds)→bindL kindOf binds m x = m x
 | [],_,_=>rfl
 | (n,v) :: r,m,h=>by
  unfold bindL
  rw [bindL_out fun w hw=>h w (List.mem_cons_of_mem _ hw)]
  split
  ·have:x ≠ n:=by rintro rfl; exact h v List.mem_cons_self
   simp [this]
  ·rfl
theorem bindC_out {kindOf:Str→Option NameKind} {x:Str}:∀ {binds:List (Str×Value)} {m:Str→Option Value},(∀ v,(x,v) ∉ binds)→bindC kindOf binds m x = m x
 | [],_,_=>rfl
 | (n,v) :: r,m,h=>by
  unfold bindC
  rw [bindC_out fun w hw=>h w (List.mem_cons_of_mem _ hw)]
  split
  ·rfl
  ·have:x ≠ n:=by rintro rfl; exact h v List.mem_cons_self
   simp [this]
theorem bindL_get {kindOf:Str→Option NameKind} {x:Str} {v:Value}:∀ {P:List Str} {vs:List Value} {i:Nat} {m:Str→Option Value},P.Nodup→P[i]? = some x→vs[i]? = some v→kindOf x = some .local →
  bindL kindOf (P.zip vs) m x = some v
 | [],_,_,_,_,h,_,_=>by simp at h
 | _ :: _,[],_,_,_,_,h,_=>by simp at h
 | p :: P,w :: vs,0,m,nd,h1,h2,hk=>by
  simp at h1 h2; subst h1; subst h2
  show bindL kindOf ((p,w) :: P.zip vs) m p = _
  unfold bindL
  rw [bindL_out fun v hv=>(List.nodup_cons.mp nd).1 (List.of_mem_zip hv).1,if_pos hk]
  simp
 | p :: P,w :: vs,i + 1,m,nd,h1,h2,hk=>by
  show bindL kindOf ((p,w) :: P.zip vs) m x = _
  unfold bindL
  exact bindL_get (i:=i) (List.nodup_cons.mp nd).2 (by simpa using h1) (by simpa using h2) hk
theorem bindC_get {kindOf:Str→Option NameKind} {x:Str} {v:Value}:∀ {P:List Str} {vs:List Value} {i:Nat} {m:Str→Option Value},P.Nodup→P[i]? = some x→vs[i]? = some v→kindOf x ≠ some .local →
  bindC kindOf (P.zip vs) m x = some v
 | [],_,_,_,_,h,_,_=>by simp at h
 | _ :: _,[],_,_,_,_,h,_=>by simp at h
 | p :: P,w :: vs,0,m,nd,h1,h2,hk=>by
  simp at h1 h2; subst h1; subst h2
  show bindC kindOf ((p,w) :: P.zip vs) m p = _
  unfold bindC
  rw [bindC_out fun v hv=>(List.nodup_cons.mp nd).1 (List.of_mem_zip hv).1,if_neg hk]
  simp
 | p :: P,w :: vs,i + 1,m,nd,h1,h2,hk=>by
  show bindC kindOf ((p,w) :: P.zip vs) m x = _
  unfold bindC
  exact bindC_get (i:=i) (List.nodup_cons.mp nd).2 (by simpa using h1) (by simpa using h2) hk
def start (N:List Str) (vs:List V):St:=vs.map some ++ List.replicate (N.length - vs.length) none
def cxOf (CX:CXT) (P:Program) (w:World) (K:PySem.W.Frag) (mg:Str→Option Value) (base:Heap) (N:List Str) (qual:Str) (scope:Scope) (f:Addr) (cd:Value) (A:Around) (outer:List Env) (s:Shared) (H:Hp) (E:XK):Cx where
 prog:=P
 w:=w
 K:=K
 mg:=mg
 base:=base
 A:=A.deeper (envOfC qual scope s.heap.objs.size f cd)
 N:=N
 s₀:=s
 H₀:=H
 env:=envOfC qual scope s.heap.objs.size f cd
 outer:=outer
 stack:=envOfC qual scope s.heap.objs.size f cd :: outer
 ex:=[]
 calm:=true
 fn:=fun _=>true
 pn:=[]
 xe:=fun e s'=>wpAny (model P w) (A.deeper (envOfC qual scope s.heap.objs.size f cd)) (leaving (envOfC qual scope s.heap.objs.size f cd) e) (fun _ s''=>CX outer H s E e s'') (fun e' s''=>CX outer H s E e' s'') s'
theorem cell_has {sc:Scope} {n:Nat} {x:Str} (h:sc.names.lookup x = some .cell):∃ c,(cellsFrom n sc.names []).lookup x = some c:=by
 have q:=PySem.W.cellsFrom_some sc.names n [] (.inl h)
 exact Option.isSome_iff_exists.mp q
theorem inv_start {CX:CXT} {P:Program} {w:World} {K:PySem.W.Frag} {mg:Str→Option Value} {base:Heap} {N ps:List Str} {qual:Str} {scope:Scope} {f:Addr} {cd:Value} {A:Around} {outer:List Env} {s s1:Shared} {H:Hp} {E:XK} {us:List Value} {vs:List V}
  (S:FnScope N ps scope) (hd:A.handled = none) (e0:Env0 P w K mg base A outer s H) (hl:vs.length = ps.length) (r:Vals vs us)
  (x:InCallC s s.heap.objs.size (bindL (envOfC qual scope s.heap.objs.size f cd).kindOf (ps.zip us) fun _=>none) (cellsFrom (s.heap.objs.size + 1) scope.names []) (bindC (envOfC qual scope s.heap.objs.size f cd).kindOf (ps.zip us) fun _=>none) s1) :
  Inv (cxOf CX P w K mg base N qual scope f cd A outer s H E) [] (start N vs) H s1:=by
 have hpl:ps.length ≤ N.length:=by have:=congrArg List.length S.pre; rw [List.length_take] at this; omega
 obtain ⟨h1,tk,rfl,hk⟩:=x.done
 have noA:∀ b:Addr,b ∉ (cxOf CX P w K mg base N qual scope f cd A outer s H E).ex:=fun b z=>absurd (show b ∈ ([]:List Addr) from z) (by simp)
 refine ⟨⟨e0.mod,S.kind,rfl,rfl,Nat.le_refl _,fun y z c h1 h2=>?_,fun y hy=>?_,fun y c _ h=>?_,fun _=>hd,Around.frames_deeper e0.frames,.inr ⟨rfl,rfl⟩,fun b z=>absurd z (noA b),e0.bs,e0.bsz,fun b _ _=>noA b,fun b z=>absurd z (noA b),e0.funs,e0.frf⟩,
  rfl,e0.bare,Un.kept hk,⟨_,x.toInCall.ns,fun i y v h1 h2 h3=>?_⟩,fun y c h=>⟨_,x.cell y c h⟩,e0.hok.fresh (Nat.le_refl _),fun y c h=>?_,fun p hp=>absurd (show p ∈ ([]:List (Addr×Obj)) from hp) (by simp),e0.hok.kept hk,?_⟩
 ·exact name_of_addr x.apart (PySem.mem_of_lookup h1) (PySem.mem_of_lookup h2)
 ·have hy:scope.names.lookup y = some .cell ∨ scope.names.lookup y = some .free:=hy
  rcases hy with hy | hy
  ·exact cell_has hy
  ·exact absurd rfl (S.nofree _ (PySem.mem_of_lookup hy))
 ·exact Nat.le_of_lt (x.above y c (PySem.mem_of_lookup h))
 ·have hi:i < vs.length:=by
   unfold start at h2
   by_cases hi:i < vs.length
   ·exact hi
   ·rw [List.getElem?_append_right (by simpa using hi)] at h2
    rw [List.getElem?_replicate] at h2
    split at h2 <;> cases h2
  have ha:vs[i]? = some v:=by
   unfold start at h2
   rw [List.getElem?_append_left (by simpa using hi),List.getElem?_map] at h2
   cases e:vs[i]? with
   | none=>rw [e] at h2; cases h2
   | some a=>rw [e] at h2; cases h2; rfl
  obtain ⟨u,hu,rv⟩:=r.get ha
  have hp:ps[i]? = some y:=by
   rw [← S.pre,List.getElem?_take_of_lt (by omega)]; exact h1
  have ndP:ps.Nodup:=by rw [← S.pre]; exact S.nd.sublist (List.take_sublist _ _)
  refine ⟨u,rv,?_⟩
  rcases S.par y (List.mem_of_getElem? hp) with k | k
  ·exact .inl ⟨k,bindL_get ndP hp hu k⟩
  ·obtain ⟨c,e⟩:=cell_has (n:=s.heap.objs.size + 1) k
   refine .inr ⟨.inl k,c,e,?_⟩
   have q:=x.cell y c e
   rw [bindC_get ndP hp hu (by show scope.names.lookup y ≠ _; rw [k]; decide)] at q
   exact q
 ·exact e0.hok.fresh (Nat.le_of_lt (x.above y c (PySem.mem_of_lookup h)))
 ·unfold start
  show _ = N.length
  rw [List.length_append,List.length_map,List.length_replicate]
  omega
theorem fn_of {CX:CXT} {P:Program} {w:World} {K:PySem.W.Frag} {mg:Str→Option Value} {base:Heap} {k:Nat} {f:Addr} {name qual:Str} {params:Arguments} {body:List Stmt} {scope:Scope} {dV kV doc pm cdv ct oc:Value} {an od:Option Addr}
  {osl:Array (Option Value)} {N ps:List Str} {sp:Sp} (lk:K.lookup f = some ⟨oc,od,.func (PySem.W.fnOf name qual params body scope dV kV doc pm an cdv ct),osl⟩) (hcd:PySem.W.codeIn K cdv qual = true) (S:FnScope N ps scope)
  (len:∀ vs H Q E,sp vs H Q E→vs.length = ps.length)
  (hbody:∀ (A:Around) (outer:List Env) (s:Shared) (H:Hp) (vs:List V) (Q:VK) (E:XK),Room k (A.deeper (envOfC qual scope s.heap.objs.size f cdv))→sp vs H Q E →
   ∃ t,PSs (cxOf CX P w K mg base N qual scope f cdv A outer s H E) body t∧t { nx:=fun _ H'=>Q .non H',rt:=Q } (start N vs) H) :
  FnOk P w K mg base CX (k + 1) f (PySem.W.fnOf name qual params body scope dV kV doc pm an cdv ct) ps sp:=by
 refine ⟨len,fun A outer s H args us vs Q E hr e0 hb r hsp=>?_⟩
 have hl:=len _ _ _ _ hsp
 have KX:K.In s.heap:=e0.mod.kin.keeps fun b o e=>(e0.bs b o e).1
 have lim:s.heap.NoLimit:=e0.mod.nolimit.keeps fun b o e=>(e0.bs b o e).1
 have hkind:∀ y ∈ ps.zip us,scope.names.lookup y.1 = some .local ∨ (scope.names.lookup y.1 = some .cell∧((cellsFrom (s.heap.objs.size + 1) scope.names []).lookup y.1).isSome = true):=fun ⟨n,v⟩ hy=>by
  rcases S.par n (List.of_mem_zip hy).1 with q | q
  ·exact .inl q
  ·exact .inr ⟨q,PySem.W.cellsFrom_some _ _ _ (.inl q)⟩
 refine codeAny_call_function hr.depth (KX _ _ lk) rfl S.co S.gen rfl (PySem.W.codeRec_of KX hcd) (hb _ _ _ _ ?_)
 refine wpAny_newFunctionEnv_cells S.kind hkind fun env he s1 x=>?_
 subst he
 refine ⟨lim.keeps x.toInCall.keep,codeAny_func ?_⟩
 obtain ⟨t,ht,hq⟩:=hbody A outer s H vs Q E (hr.deeper _) hsp
 have I:Inv (cxOf CX P w K mg base N qual scope f cdv A outer s H E) [] (start N vs) H s1:=inv_start S hr.hd e0 hl r x
 refine wpAny_mono (ht [] s1 (start N vs) H _ I hq) (fun fl s' hs=>?_) fun e s' hs=>hs
 have fin:∀ {σ':St} {H':Hp} {v:V} {u:Value},Inv (cxOf CX P w K mg base N qual scope f cdv A outer s H E) [] σ' H' s'→RelV v u→Q v H'→CE outer P w H s Q u s' :=
  fun {σ' H' v u} J rv q=>⟨v,H',J.os,J.bare,J.base,J.hok,rv,q⟩
 cases fl with
 | ret u =>
  obtain ⟨v,σ',H',J,rv,q⟩:=hs
  exact fin J rv q
 | next =>
  obtain ⟨σ',H',J,q⟩:=hs
  exact fin (v:=V.non) (u:=Value.none) J rfl q
 | brk =>
  obtain ⟨_,_,_,q⟩:=hs
  exact False.elim q
 | cont =>
  obtain ⟨_,_,_,q⟩:=hs
  exact False.elim q
end L2
namespace L2
open PySem PySem.Spec PyProof.Rows
section
variable {X:Cx} {x:Str} {p pos:Pos} {e:Expr} {es:List Expr} {t:TA} {id T:String} {r:List V→Hp→VK→Prop}
def tCB (r:List V→Hp→VK→Prop) (t:TA):TE:=fun σ H Q=>t σ H fun vs H1=>r vs H1 Q
theorem pe_callB (hc:CallR X (.builtin id) r) (hg:Gl X x) (hm:X.mg x = none) (hv:bootBuiltins x = some (.builtin id)) (ha:PA X (e :: es) t) (hn:x ≠ "__name__":=by decide) (hdb:(x == ("__debug__":Str)) = false:=by decide)
  (he:starEach (e :: es) X.env = (false,eval e X.env) :: starEach es X.env:=by rfl) (hpl:(backTo pos (starEach es X.env)).any (·.1) = false:=by rfl):PE X (.Call (.Name x p) (e :: es) [] pos) (tCB r t):=by
 intro pins s σ H Q I h
 refine wpAny_Call_Name_kw (ld_blt I hg hm hv ?_ hn hdb)
 exact PyProof.Rows.callWith_builtin1 (thn (ha pos pins s σ H _ I h) fun us s1 ⟨vs,H1,I1,r1,q1⟩=>hc pins s1 σ H1 vs us Q I1 r1 q1) he hpl
theorem pe_callTy (hc:CallR X (.type T) r) (hg:Gl X x) (hm:X.mg x = none) (hv:bootBuiltins x = some (.type T)) (ha:PA X (e :: es) t) (hn:x ≠ "__name__":=by decide) (hdb:(x == ("__debug__":Str)) = false:=by decide)
  (he:starEach (e :: es) X.env = (false,eval e X.env) :: starEach es X.env:=by rfl) (hpl:(backTo pos (starEach es X.env)).any (·.1) = false:=by rfl):PE X (.Call (.Name x p) (e :: es) [] pos) (tCB r t):=by
 intro pins s σ H Q I h
 refine wpAny_Call_Name_kw (ld_blt I hg hm hv ?_ hn hdb)
 exact PyProof.Rows.callWith_type1 (thn (ha pos pins s σ H _ I h) fun us s1 ⟨vs,H1,I1,r1,q1⟩=>hc pins s1 σ H1 vs us Q I1 r1 q1) he hpl
end
end L2
namespace HT
open PySem PyProof.Rows
def lexLt:List Int→List Int→Bool
 | [],[]=>false
 | [],_ :: _=>true
 | _ :: _,[]=>false
 | x :: xs,y :: ys=>if x = y then lexLt xs ys else decide (x < y)
theorem lexLt_cons (x y:Int) (xs ys:List Int):lexLt (x :: xs) (y :: ys) = if x = y then lexLt xs ys else decide (x < y):=rfl
theorem lexLt_nil_nil:lexLt [] [] = false:=rfl
theorem lexLt_nil_cons (y:Int) (ys:List Int):lexLt [] (y :: ys) = true:=rfl
theorem lexLt_cons_nil (x:Int) (xs:List Int):lexLt (x :: xs) [] = false:=rfl
theorem eqAt_int (A:Around) (s:Shared) (a:Int) (t:Tok) (c:Int) (u:Tok):∃ e,SeqAt.EqAt A s (.int a t) (.int c u) e∧(e = true↔a = c) :=
 ⟨(a == c),SeqAt.EqAt.int_int a t c u,by simp⟩
theorem rcLt_int (A:Around) (s:Shared) (a:Int) (t:Tok) (c:Int) (u:Tok) (prog:Program) (w:World) (E:Value→Shared→Prop) (Q:Value→Shared→Prop) (h:Q (.bool (decide (a < c))) s) :
  wpAny (model prog w) A (richCompare .Lt (.int a t) (.int c u)) Q E s :=
 (PyProof.Rows.lt_int h:wpAny (model prog w) A (compareOp .Lt (.int a t) (.int c u)) Q E s)
section
open PySem.SeqAt
open PySem.AutoSeq1 (wpAny_loadPart')
open PySem.MeetsSeq PySem.MeetsSeq2 PySem.MeetsSeq3
theorem tuple_lt_ints (l b:Addr) (items items2:Array Value) (n n2:Nat) (dd dd2:Option Addr) (sl sl2:Array (Option Value)) (ns ms:List Int) (hi:IntsAre items.toList ns) (hj:IntsAre items2.toList ms) :
  Meets (Builtin.«tuple.__lt__» ⟨[.ref l,.ref b],[]⟩)
   (fun _ R s=>s.heap.get? l = some { cls:=.type "tuple",dict:=dd,data:=.seq items n,slots:=sl }∧s.heap.get? b = some { cls:=.type "tuple",dict:=dd2,data:=.seq items2 n2,slots:=sl2 } ∧
    R (.ok (.ret (.bool (lexLt ns ms)))) s) :=
 .of_wp fun prog w A R s h=>by
  obtain ⟨hp,g,d,tk,os⟩:=s; obtain ⟨hl,hb,h⟩:=h
  have f2:=AutoSeq1.sub_tuple_tuple
  have z1:items.size = ns.length:=by rw [← hi.length]; simp
  have z2:items2.size = ms.length:=by rw [← hj.length]; simp
  wp_walk using wpAny_loadPart' hl,wpAny_loadPart' hb,wpAny_forIn_list _ (fun rest b s'=>b.1 = none∧s' = ⟨hp,g,d,tk,os⟩∧∃ (vs ws:List Value) (ns' ms':List Int),rest = vs.zip ws ∧
   IntsAre vs ns'∧IntsAre ws ms'∧ns'.length + items2.size = ms'.length + items.size∧R (.ok (.ret (.bool (lexLt ns' ms')))) ⟨hp,g,d,tk,os⟩) _
  case turn =>
   rintro ⟨y,x⟩ rest b s' ⟨hb',rfl,vs,ws,ns',ms',hz,hvi,hwi,hlen,hR⟩
   cases hvi with
   | nil=>rw [List.zip_nil_left] at hz; cases hz
   | cons a t hvi' =>
    cases hwi with
    | nil=>rw [List.zip_nil_right] at hz; cases hz
    | cons c u hwi' =>
     rw [List.zip_cons_cons] at hz
     injection hz with hyx hrest
     injection hyx with hy hx
     subst hy hx
     rw [lexLt_cons] at hR
     simp only [List.length_cons] at hlen
     obtain ⟨e,he,hiff⟩:=eqAt_int A.in1 ⟨hp,g,d,tk,os⟩ a t c u
     refine wpAny_bind (he prog w _ _ ?_)
     cases e with
     | true =>
      rw [if_pos (hiff.mp rfl)] at hR
      wp_walk
      exact ⟨rfl,rfl,_,_,_,_,hrest,hvi',hwi',by omega,hR⟩
     | false =>
      rw [if_neg (fun q=>absurd (hiff.mpr q) Bool.false_ne_true)] at hR
      have hri:=rcLt_int A.in1 ⟨hp,g,d,tk,os⟩ a t c u prog w
      wp_walk using hri
      exact ⟨_,rfl,by simpa using hR⟩
  case fin =>
   rintro ⟨b1,b2⟩ s' ⟨hb',rfl,vs,ws,ns',ms',hz,hvi,hwi,hlen,hR⟩
   simp only at hb'
   subst hb'
   have hv:lexLt ns' ms' = decide (items.size < items2.size):=by
    cases hvi with
    | nil =>
     cases hwi with
     | nil =>
      simp only [List.length_nil] at hlen
      rw [lexLt_nil_nil]
      exact (decide_eq_false (by omega)).symm
     | cons c u hw =>
      simp only [List.length_nil,List.length_cons] at hlen
      rw [lexLt_nil_cons]
      exact (decide_eq_true (by omega)).symm
    | cons a t hv =>
     cases hwi with
     | nil =>
      simp only [List.length_nil,List.length_cons] at hlen
      rw [lexLt_cons_nil]
      exact (decide_eq_false (by omega)).symm
     | cons c u hw =>
      rw [List.zip_cons_cons] at hz
      cases hz
   rw [hv] at hR
   wp_walk
   exact ⟨_,rfl,by simpa [Builtin.Tuple.tupleCompareSizes] using hR⟩
  case h =>
   exact ⟨rfl,rfl,items.toList,items2.toList,ns,ms,rfl,hi,hj,by omega,h⟩
end
section
variable {prog:Program} {w:World} {A:Around} {E:Value→Shared→Prop} {s:Shared}
theorem lt_tupInts {l b:Addr} {items items2:Array Value} {ns ms:List Int} {Q:Value→Shared→Prop} (hl:IsTup s.heap l items) (hb:IsTup s.heap b items2) (hi:IntsAre items.toList ns) (hj:IntsAre items2.toList ms)
  (hu:A.units < cLine) (h:Q (.bool (lexLt ns ms)) s):wpAny (model prog w) A (compareOp .Lt (.ref l) (.ref b)) Q E s:=by
 obtain ⟨⟨cls,dd,data,sl⟩,ho,hc,n,hd⟩:=id hl
 obtain ⟨⟨cls2,dd2,data2,sl2⟩,ho2,hc2,n2,hd2⟩:=id hb
 simp only at hc hd hc2 hd2
 subst hc hd hc2 hd2
 exact richCompare_meets_room (op:=.Lt) ⟨_,ho,rfl⟩ ⟨_,ho2,rfl⟩ PySem.F.slot_tuple_lt PySem.F.entry_tuple_lt (PySem.F.args_tuple_lt_2 _ _) (tuple_lt_ints l b items items2 n n2 dd dd2 sl sl2 ns ms hi hj)
  ⟨ho,ho2,show Value.bool (lexLt ns ms) ≠ Value.notImplemented∧Q (.bool (lexLt ns ms)) s from ⟨(fun x=>nomatch x),h⟩⟩ hu
theorem cat_tup {t b:Addr} {vs ws:List Value} {Q:Value→Shared→Prop} (ht:IsTup s.heap t vs.toArray) (hb:IsTup s.heap b ws.toArray) (hv:vs ≠ [])
  (h1:ws = []→Q (.ref t) s) (h2:ws ≠ []→Q (.ref s.heap.objs.size) { s with heap:=s.heap.push { cls:=.type "tuple",data:=.seq (vs ++ ws).toArray } })
  (hsz:vs.length + ws.length ≤ sizeLine):wpAny (model prog w) A (binaryOp .Add (.ref t) (.ref b)) Q E s:=by
 obtain ⟨⟨cls,dd,data,sl⟩,ho,hc,n,hd⟩:=id ht
 obtain ⟨⟨cls2,dd2,data2,sl2⟩,ho2,hc2,n2,hd2⟩:=id hb
 simp only at hc hd hc2 hd2
 subst hc hd hc2 hd2
 have e:vs.toArray ++ ws.toArray = (vs ++ ws).toArray:=by simp
 by_cases hw:ws = []
 ·exact concat_meets ⟨_,ho,rfl⟩ ⟨_,ho2,rfl⟩ noFill_tuple_add seq_tuple_add PySem.F.slot_tuple_add PySem.F.entry_tuple_add (PySem.F.args_tuple_add_2 _ _)
   (tuple_addW1 t b vs.toArray ws.toArray n n2 dd dd2 sl sl2 (by simpa using hv) (by simp [hw])) ⟨ho,ho2,h1 hw⟩
 ·refine concat_meets ⟨_,ho,rfl⟩ ⟨_,ho2,rfl⟩ noFill_tuple_add seq_tuple_add PySem.F.slot_tuple_add PySem.F.entry_tuple_add (PySem.F.args_tuple_add_2 _ _)
   (tuple_addW2 t b vs.toArray ws.toArray n n2 dd dd2 sl sl2 (by simpa using hv) (by simpa using hw) (by rw [List.size_toArray,List.size_toArray]; exact hsz)) ⟨ho,ho2,?_⟩
  rw [e]
  exact h2 hw
def sIx (n d:Nat):Option Int→Nat
 | none=>d
 | some v=>if v < 0 then (v + (n:Int)).toNat else min v.toNat n
theorem sIx_le (n d:Nat) (hd:d ≤ n) (o:Option Int):sIx n d o ≤ n:=by
 cases o with
 | none=>exact hd
 | some v =>
  show (if v < 0 then (v + (n:Int)).toNat else min v.toNat n) ≤ n
  by_cases hv:v < 0
  ·rw [if_pos hv]; omega
  ·rw [if_neg hv]; exact Nat.min_le_right _ _
theorem clip_eq (v:Int) (n d:Nat):(if v < 0 then max (v + (n:Int)) 0 else min v (n:Int)) = ((sIx n d (some v):Nat):Int):=by
 show (if v < 0 then max (v + (n:Int)) 0 else min v (n:Int)) = (((if v < 0 then (v + (n:Int)).toNat else min v.toNat n):Nat):Int)
 by_cases hv:v < 0
 ·simp only [if_pos hv]; omega
 ·simp only [if_neg hv]; omega
theorem adjust_gen (lo hi:Option Int) (n:Nat):Builtin.Slice.sliceAdjust lo hi 1 (n:Int) = (((sIx n 0 lo:Nat):Int),((sIx n n hi:Nat):Int)):=by
 have h1:¬ ((1:Int) < 0):=by omega
 unfold Builtin.Slice.sliceAdjust
 simp only [h1,if_false]
 refine Prod.ext ?_ ?_
 ·cases lo with
  | none=>rfl
  | some v=>exact clip_eq v n 0
 ·cases hi with
  | none=>rfl
  | some v=>exact clip_eq v n n
theorem places_gen (i j:Nat):Builtin.Slice.slicePlaces (i:Int) (j:Int) 1 = j - i:=by
 unfold Builtin.Slice.slicePlaces
 have h1:(1:Int) > 0:=by omega
 simp only [h1,if_true,Int.ediv_one]
 split <;> omega
theorem slicePart_ {v:Value} {o:Option Int} {Q:Option Int→Shared→Prop} (p:IsPart v o) (h:Q o s):wpAny (model prog w) A (Builtin.Slice.slicePartIndex v) Q E s:=by
 cases p with
 | none=>exact slicePart_none h
 | int i t=>exact slicePart_int h
theorem sliceApplied_gen {sl:Addr} {vl vu:Value} {lo hi:Option Int} {n:Nat} {Q:Int×Int×Nat→Shared→Prop} (hs:s.heap.IsSliceOf sl vl vu .none) (pl:IsPart vl lo) (pu:IsPart vu hi)
  (h:Q (((sIx n 0 lo:Nat):Int),1,sIx n n hi - sIx n 0 lo) s):wpAny (model prog w) A (Builtin.Slice.sliceApplied (.ref sl) (pure (n:Int))) Q E s:=by
 obtain ⟨os,hos,hcs,hds⟩:=id hs
 unfold Builtin.Slice.sliceApplied Builtin.Slice.sliceFields
 refine wpAny_bind (wpAny_bind (wpAny_field hos hds (x:=vl) rfl (wpAny_bind (wpAny_field hos hds (x:=vu) rfl (wpAny_bind (wpAny_field hos hds (x:=.none) rfl (wpAny_pure ?_)))))))
 refine wpAny_bind (slicePart_none ?_)
 show wpAny _ _ (if ((1:Int) == 0) = true then _ else _) _ _ s
 rw [if_neg (by decide)]
 refine wpAny_bind (slicePart_ pl (wpAny_bind (slicePart_ pu (wpAny_bind (wpAny_pure ?_)))))
 show wpAny _ _ (match Builtin.Slice.sliceAdjust lo hi 1 (n:Int) with | (lo,hi)=>pure (lo,(1:Int),Builtin.Slice.slicePlaces lo hi 1)) _ _ s
 rw [adjust_gen lo hi n]
 show wpAny _ _ (pure (((sIx n 0 lo:Nat):Int),(1:Int),Builtin.Slice.slicePlaces ((sIx n 0 lo:Nat):Int) ((sIx n n hi:Nat):Int) 1)) _ _ s
 rw [places_gen]
 exact wpAny_pure h
theorem pick_gen (xs:Array Value) (i k:Nat):((List.range k).filterMap fun (m:Nat)=>xs[((i:Int) + (m:Int) * 1).toNat]?).toArray = ((xs.toList.drop i).take k).toArray:=by
 have e:(fun (m:Nat)=>xs[((i:Int) + (m:Int) * 1).toNat]?) = fun m=>xs[i + m]?:=by
  funext m
  have:((i:Int) + (m:Int) * 1).toNat = i + m:=by omega
  rw [this]
 rw [e]
 have:=pick_run xs i k
 rw [List.filterMap_map] at this
 have e2:((fun x=>xs[x]?) ∘ fun x=>i + x) = fun m=>xs[i + m]?:=rfl
 rw [e2] at this
 rw [this]
theorem getItem_tuple_cut {t sl:Addr} {items:Array Value} {vl vu:Value} {lo hi:Option Int} {Q:Value→Shared→Prop} (ht:IsTup s.heap t items) (hs:s.heap.IsSliceOf sl vl vu .none) (pl:IsPart vl lo) (pu:IsPart vu hi)
  (hw:¬ (sIx items.size 0 lo = 0∧sIx items.size items.size hi = items.size))
  (h:Q (.ref s.heap.objs.size) { s with heap:=s.heap.push { cls:=.type "tuple",data:=.seq ((items.toList.drop (sIx items.size 0 lo)).take (sIx items.size items.size hi - sIx items.size 0 lo)).toArray } })
  (hsz:items.size ≤ sizeLine):wpAny (model prog w) A (getItem (.ref t) (.ref sl)) Q E s:=by
 have htake:sizeOk (.seq ((items.toList.drop (sIx items.size 0 lo)).take (sIx items.size items.size hi - sIx items.size 0 lo)).toArray):=by
  show ((items.toList.drop (sIx items.size 0 lo)).take (sIx items.size items.size hi - sIx items.size 0 lo)).toArray.size ≤ sizeLine
  rw [List.size_toArray,List.length_take,List.length_drop,Array.length_toList]
  omega
 have hj:sIx items.size items.size hi ≤ items.size:=sIx_le _ _ (Nat.le_refl _) hi
 obtain ⟨os,hos,hcs,hds⟩:=id hs
 have hTs:s.TypeIs (.ref sl) "slice":=⟨os,hos,hcs⟩
 unfold getItem
 try with_reducible refine wpAny_holding ?_
 first | refine wpAny_bind (wpAny_pure ?_) | skip
 refine wpAny_bind (wpAny_sequenceKey ht.typeIs (by decide) ?_)
 refine wpAny_bind (wpAny_callSpecial?_slot (name:=Str.ofString "__getitem__") ht.typeIs PyProof.Rows.slot_tuple_getitem
  (wpAny_call_entry PyProof.Rows.slot_tuple_getitem ht.typeIs entry_tuple_getitem ?_ (args_tuple_getitem _ _)))
 show wpAny _ _ (Builtin.Tuple.tupleItemsOf (.ref t) >>= _) _ _ s
 refine wpAny_bind (tupleItemsOf_ ht ?_)
 refine wpAny_bind (wpAny_typeOf hTs ?_)
 rw [if_pos (by decide)]
 refine wpAny_bind (sliceApplied_gen hs pl pu ?_)
 have hno:¬ ((((sIx items.size 0 lo:Nat):Int) == 0 && (1:Int) == 1 && (sIx items.size items.size hi - sIx items.size 0 lo) == items.size) = true):=by
  intro q
  rw [Bool.and_eq_true,Bool.and_eq_true] at q
  have q1:((sIx items.size 0 lo:Nat):Int) = 0:=eq_of_beq q.1.1
  have q2:sIx items.size items.size hi - sIx items.size 0 lo = items.size:=eq_of_beq q.2
  exact hw ⟨by omega,by omega⟩
 show wpAny _ _ (if (((sIx items.size 0 lo:Nat):Int) == 0 && (1:Int) == 1 && (sIx items.size items.size hi - sIx items.size 0 lo) == items.size) = true then _ else _) _ _ s
 rw [if_neg hno,pick_gen]
 first
  | exact wpAny_bind (m:=Builtin.Tuple.tupleExact _) (wpAny_newObj_type (wpAny_pure ⟨_,rfl,wpAny_pure h⟩) htake)
  | exact wpAny_bind (m:=Builtin.Tuple.tupleExact _) (wpAny_newObj_type (wpAny_bind (wpAny_pure (wpAny_pure ⟨_,rfl,wpAny_pure h⟩))) htake)
  | exact wpAny_bind (wpAny_bind (m:=Builtin.Tuple.tupleExact _) (wpAny_newObj_type (wpAny_pure (wpAny_pure ⟨_,rfl,wpAny_pure h⟩)) htake))
  | exact wpAny_bind (wpAny_bind (m:=Builtin.Tuple.tupleExact _) (wpAny_newObj_type (wpAny_pure ⟨_,rfl,wpAny_pure h⟩) htake))
end
end HT
namespace L2
open PySem PySem.Spec PyProof.Rows
abbrev TO:=St→Hp→(Option Int→Hp→Prop)→Prop
def PO (X:Cx) (e:Option Expr) (t:TO):Prop :=
 ∀ (pins:List (Addr×Obj)) (s:Shared) (σ:St) (H:Hp) (Q:Option Int→Hp→Prop),Inv X pins σ H s→t σ H Q →
  wpAny (model X.prog X.w) X.A (evalPart e X.env) (fun u s'=>∃ o H',Inv X pins σ H' s'∧IsPart u o∧Q o H') X.xe s
def tNoPart:TO:=fun _ H Q=>Q none H
def tPart (t:TE):TO:=fun σ H Q=>t σ H fun x H1=>∃ i,x = .int i∧Q (some i) H1
theorem intsAre_of {ns:List Int}:∀ {us:List Value},Vals (ns.map V.int) us→IntsAre us ns:=by
 induction ns with
 | nil=>intro us r; rw [List.map_nil] at r; cases r; exact .nil
 | cons n ns ih =>
  intro us r
  rw [List.map_cons] at r
  cases r with
  | cons r1 r2 =>
   obtain ⟨t,e⟩:=r1
   subst e
   exact .cons n t (ih r2)
section
variable {X:Cx} {e:Expr} {te:TE} {lo hi:Option Expr} {tl th:TO} {pos p2:Pos}
theorem po_none:PO X none tNoPart:=by
 intro pins s σ H Q I h
 rw [evalPart_none]
 exact wpAny_pure ⟨none,H,I,.none,h⟩
theorem po_some (h:PE X e te):PO X (some e) (tPart te):=by
 intro pins s σ H Q I hw
 rw [evalPart_some]
 refine thn (h pins s σ H _ I hw) fun u s1 ⟨x,H1,I1,r1,q1⟩=>?_
 obtain ⟨i,rfl,q⟩:=q1
 obtain ⟨t,rfl⟩:=r1
 exact ⟨some i,H1,I1,.int i t,q⟩
def SlR (X:Cx) (r:V→Option Int→Option Int→Hp→VK→Prop):Prop :=
 ∀ (pins:List (Addr×Obj)) (s:Shared) (σ:St) (H:Hp) (x:V) (v vl vu:Value) (lo hi:Option Int) (sl:Addr) (Q:VK),Inv X pins σ H s→RelV x v→s.heap.IsSliceOf sl vl vu .none→IsPart vl lo→IsPart vu hi→r x lo hi H Q →
  ∃ T id,typeLookup (.type T) "__getitem__" = pure (some (.builtin id))∧s.TypeIs v T∧wpAny (model X.prog X.w) X.A (getItem v (.ref sl)) (EP X pins σ Q) X.xe s
theorem SlR.or {r r':V→Option Int→Option Int→Hp→VK→Prop} (h:SlR X r) (h':SlR X r'):SlR X (fun x lo hi H Q=>r x lo hi H Q ∨ r' x lo hi H Q):=by
 intro pins s σ H x v vl vu lo hi sl Q I rx hs pl pu q
 rcases q with q | q
 ·exact h pins s σ H x v vl vu lo hi sl Q I rx hs pl pu q
 ·exact h' pins s σ H x v vl vu lo hi sl Q I rx hs pl pu q
def tSl (r:V→Option Int→Option Int→Hp→VK→Prop) (te:TE) (tl th:TO):TE:=fun σ H Q=>te σ H fun x H1=>tl σ H1 fun l H2=>th σ H2 fun u H3=>r x l u H3 Q
theorem pe_slice {r:V→Option Int→Option Int→Hp→VK→Prop} (hr:SlR X r) (he:PE X e te) (hl:PO X lo tl) (hu:PO X hi th):PE X (.Subscript e (.Slice lo hi none p2) pos) (tSl r te tl th):=by
 intro pins s σ H Q I h
 refine Subscript_ (thn (he pins s σ H _ I h) fun v s1 ⟨x,H1,I1,r1,q1⟩=>?_)
 refine wpAny_Slice (thn (hl pins s1 σ H1 _ I1 q1) fun vl s2 ⟨l,H2,I2,pl,q2⟩=>thn (hu pins s2 σ H2 _ I2 q2) fun vu s3 ⟨u,H3,I3,pu,q3⟩=>?_)
 rw [evalPart_none]
 refine wpAny_pure ?_
 have I4:Inv X pins σ H3 { s3 with heap:=s3.heap.push { cls:=.type "slice",data:=.fields #[vl,vu,.none] } }:=I3.kept (t':=s3.toks) fun b ob q=>Heap.get?_push_of_some _ q
 obtain ⟨T,id,hT,ht,hg⟩:=hr pins { s3 with heap:=s3.heap.push { cls:=.type "slice",data:=.fields #[vl,vu,.none] } } σ H3 x v vl vu l u s3.heap.objs.size Q I4 r1 (Heap.IsSliceOf.new ..) pl pu q3
 show wpAny (model X.prog X.w) X.A (subscriptTail e (.Slice lo hi none p2) v (.ref s3.heap.objs.size)) (EP X pins σ Q) X.xe { s3 with heap:=s3.heap.push { cls:=.type "slice",data:=.fields #[vl,vu,.none] } }
 exact tail_any (ops:=[.ref s3.heap.objs.size,v]) ht hT hg (by with_unfolding_all rfl)
def cutV (xs:List V) (lo hi:Option Int):List V:=(xs.drop (HT.sIx xs.length 0 lo)).take (HT.sIx xs.length xs.length hi - HT.sIx xs.length 0 lo)
theorem cutV_length (xs:List V) (lo hi:Option Int):(cutV xs lo hi).length ≤ xs.length:=by
 unfold cutV
 rw [List.length_take,List.length_drop]
 omega
def rSlT (K:PySem.W.Frag):V→Option Int→Option Int→Hp→VK→Prop:=fun x lo hi H Q=>∃ a xs,x = .ref a∧SqT K H a xs ∧
 ¬ (HT.sIx xs.length 0 lo = 0∧HT.sIx xs.length xs.length hi = xs.length)∧∀ p,H p = none→Q (.ref p) (upd H p (.tup (cutV xs lo hi)))
theorem sl_tup:SlR X (rSlT X.K):=by
 intro pins s σ H x v vl vu lo hi sl Q I rx hs pl pu h
 obtain ⟨a,xs,rfl,hx,hw,q⟩:=h
 cases rx
 obtain ⟨its,r,ht,hz⟩:=I.tuple hx
 have hlen:its.toArray.size = xs.length:=by rw [List.size_toArray]; exact r.length.symm
 refine ⟨"tuple",_,PyProof.Rows.slot_tuple_getitem.lookup,ht.typeIs,?_⟩
 refine HT.getItem_tuple_cut ht hs pl pu (by rw [hlen]; exact hw) ?_ (by rw [hlen]; exact hz)
 rw [hlen]
 refine ⟨.ref s.heap.objs.size,_,I.laid (t':=s.toks) (o:=.tup (cutV xs lo hi)) (fun b ob q=>Heap.get?_push_of_some _ q) (Nat.le_refl _) ?_,rfl,q _ (I.hok.fresh (Nat.le_refl _))⟩
 exact ⟨Nat.le_trans (cutV_length xs lo hi) hz,_,(r.drop (HT.sIx xs.length 0 lo)).take (HT.sIx xs.length xs.length hi - HT.sIx xs.length 0 lo),IsTup.new _ _⟩
def rLtT (K:PySem.W.Frag):R2:=fun x y H Q=>∃ a b ns ms,x = .ref a∧y = .ref b∧SqT K H a (ns.map V.int)∧SqT K H b (ms.map V.int)∧Q (.bl (HT.lexLt ns ms)) H
theorem op_ltT (hu:X.A.units < cLine):OpR X (compareOp .Lt) (rLtT X.K):=by
 intro pins s σ H x y v u Q I rx ry h
 obtain ⟨a,b,ns,ms,rfl,rfl,ha,hb,q⟩:=h
 cases rx
 cases ry
 obtain ⟨its,r1,p1,_⟩:=I.tuple ha
 obtain ⟨its2,r2,p2,_⟩:=I.tuple hb
 have i1:IntsAre its.toArray.toList ns:=intsAre_of r1
 have i2:IntsAre its2.toArray.toList ms:=intsAre_of r2
 exact HT.lt_tupInts p1 p2 i1 i2 hu ⟨.bl (HT.lexLt ns ms),H,I,rfl,q⟩
def rCatT (K:PySem.W.Frag):R2:=fun x y H Q=>∃ a b xs ys,x = .ref a∧y = .ref b∧SqT K H a xs∧SqT K H b ys∧xs ≠ []∧xs.length + ys.length ≤ sizeLine ∧
 (ys = []→Q (.ref a) H)∧(ys ≠ []→∀ p,H p = none→Q (.ref p) (upd H p (.tup (xs ++ ys))))
theorem Vals.nil_iff {xs:List V} {us:List Value} (r:Vals xs us):us = []↔xs = []:=by
 cases r with
 | nil=>simp
 | cons _ _=>simp
theorem op_catT:OpR X (binaryOp .Add) (rCatT X.K):=by
 intro pins s σ H x y v u Q I rx ry h
 obtain ⟨a,b,xs,ys,rfl,rfl,ha,hb,hx,hz,q1,q2⟩:=h
 cases rx
 cases ry
 obtain ⟨its,r1,p1,_⟩:=I.tuple ha
 obtain ⟨its2,r2,p2,_⟩:=I.tuple hb
 refine HT.cat_tup p1 p2 (fun z=>hx (r1.nil_iff.mp z)) (fun z=>⟨.ref a,H,I,rfl,q1 (r2.nil_iff.mp z)⟩) (fun z=>?_) (by rw [← r1.length,← r2.length]; exact hz)
 refine ⟨.ref s.heap.objs.size,_,I.laid (t':=s.toks) (o:=.tup (xs ++ ys)) (fun b ob q=>Heap.get?_push_of_some _ q) (Nat.le_refl _) ?_,rfl,q2 (fun w=>z (r2.nil_iff.mpr w)) _ (I.hok.fresh (Nat.le_refl _))⟩
 exact ⟨by rw [List.length_append]; exact hz,_,r1.append r2,IsTup.new _ _⟩
end
end L2
namespace L2
open PySem PySem.Spec PyProof.Rows
def ixN (n:Nat) (i:Int):Option Nat:=if 0 ≤ i then (if i < n then some i.toNat else none) else if -(n:Int) ≤ i then some (i + n).toNat else none
def atI {α:Type} (xs:List α) (i:Int):Option α:=(ixN xs.length i).bind fun j=>xs[j]?
theorem ixN_seq {n:Nat} {i:Int} {j:Nat} (h:ixN n i = some j):seqIndex? i n = some j∧j < n∧-(n:Int) ≤ i∧i < n:=by
 unfold ixN at h
 by_cases h0:0 ≤ i
 ·rw [if_pos h0] at h
  by_cases h1:i < n
  ·rw [if_pos h1] at h
   have e:i.toNat = j:=Option.some.inj h
   exact ⟨by rw [seqIndex_of h0 h1,e],by omega,by omega,h1⟩
  ·rw [if_neg h1] at h; cases h
 ·rw [if_neg h0] at h
  by_cases h1:-(n:Int) ≤ i
  ·rw [if_pos h1] at h
   have e:(i + n).toNat = j:=Option.some.inj h
   exact ⟨by rw [seqIndex_neg (by omega) h1,e],by omega,h1,by omega⟩
  ·rw [if_neg h1] at h; cases h
theorem atI_get {α:Type} {xs:List α} {i:Int} {v:α} (h:atI xs i = some v):∃ j,seqIndex? i xs.length = some j∧xs[j]? = some v∧j < xs.length∧-(xs.length:Int) ≤ i∧i < xs.length:=by
 unfold atI at h
 cases e:ixN xs.length i with
 | none=>rw [e] at h; cases h
 | some j =>
  rw [e] at h
  obtain ⟨h1,h2,h3,h4⟩:=ixN_seq e
  exact ⟨j,h1,h,h2,h3,h4⟩
def PlainIx (b:Expr):Prop:=∀ o i,subscripted b false o i = operate [o,i] (getItem o i)
def IxR (X:Cx) (r:R2):Prop :=
 ∀ (value slice:Expr) (pins:List (Addr×Obj)) (s:Shared) (σ:St) (H:Hp) (x y:V) (v u:Value) (Q:VK),Inv X pins σ H s→RelV x v→RelV y u→r x y H Q →
  subscripted slice false v u = operate [v,u] (getItem v u)→wpAny (model X.prog X.w) X.A (subscriptTail value slice v u) (EP X pins σ Q) X.xe s
def MtR (X:Cx) (id:String) (r:V→List V→Hp→VK→Prop):Prop :=
 ∀ (pins:List (Addr×Obj)) (s:Shared) (σ:St) (H:Hp) (x:V) (xs:List V) (v:Value) (us:List Value) (Q:VK),Inv X pins σ H s→RelV x v→Vals xs us→r x xs H Q →
  wpAny (model X.prog X.w) X.A (call (.builtin id) (v :: us)) (EP X pins σ Q) X.xe s
section
variable {X:Cx} {a b:Expr} {ta tb:TE} {pos:Pos}
theorem IxR.or {r r':R2} (h:IxR X r) (h':IxR X r'):IxR X (fun x y H Q=>r x y H Q ∨ r' x y H Q):=by
 intro value slice pins s σ H x y v u Q I rx ry q hs
 rcases q with q | q
 ·exact h value slice pins s σ H x y v u Q I rx ry q hs
 ·exact h' value slice pins s σ H x y v u Q I rx ry q hs
theorem MtR.or {id:String} {r r':V→List V→Hp→VK→Prop} (h:MtR X id r) (h':MtR X id r'):MtR X id (fun x xs H Q=>r x xs H Q ∨ r' x xs H Q):=by
 intro pins s σ H x xs v us Q I rx rs q
 rcases q with q | q
 ·exact h pins s σ H x xs v us Q I rx rs q
 ·exact h' pins s σ H x xs v us Q I rx rs q
theorem pe_ix {r:R2} (hr:IxR X r) (ha:PE X a ta) (hb:PE X b tb) (hs:PlainIx b):PE X (.Subscript a b pos) (tOp r ta tb):=by
 intro pins s σ H Q I h
 exact Subscript_ (binT ha hb I h fun v u s2 x y H2 I2 rx ry q=>hr a b pins s2 σ H2 x y v u Q I2 rx ry q (hs _ _))
def rIxL (K:PySem.W.Frag):R2:=fun x y H Q=>∃ p xs i v,x = .ref p∧y = .int i∧SqL K H p xs∧atI xs i = some v∧Q v H
def rIxT (K:PySem.W.Frag):R2:=fun x y H Q=>∃ p xs i v,x = .ref p∧y = .int i∧SqT K H p xs∧atI xs i = some v∧Q v H
theorem ix_list:IxR X (rIxL X.K):=by
 intro value slice pins s σ H x y v u Q I rx ry h hs
 obtain ⟨p,xs,i,z,rfl,rfl,hq,he,q⟩:=h
 cases rx
 obtain ⟨t,rfl⟩:=ry
 obtain ⟨its,r,pl,hz⟩:=I.list hq
 obtain ⟨j,h1,h2,h3,h4,h5⟩:=atI_get he
 obtain ⟨w,ew,rw'⟩:=r.get h2
 have hl:=r.length
 have hn:=line63
 have fin:EP X pins σ Q w s:=⟨z,H,I,rw',q⟩
 by_cases h0:0 ≤ i
 ·have hj:i.toNat = j:=by
   rw [seqIndex_of h0 h5] at h1
   exact Option.some.inj h1
  exact item_listR pl.isList h0 (by omega) (by rw [hj]; simpa using ew) fin hs
 ·have hj:(i + (its.toArray.size:Int)).toNat = j:=by
   rw [seqIndex_neg (by omega) h4] at h1
   rw [List.size_toArray,← hl]
   exact Option.some.inj h1
  exact subscriptTail_builtinR (x:=w) pl.isList.typeIs slot_list_getitem.lookup
   (wpAny_getItem_list_neg (Q:=fun r s'=>r = w∧EP X pins σ Q r s') pl.isList (by omega) (by rw [List.size_toArray] <;> omega) (by omega) (by rw [hj]; simpa using ew) ⟨rfl,fin⟩) hs
theorem ix_tup:IxR X (rIxT X.K):=by
 intro value slice pins s σ H x y v u Q I rx ry h hs
 obtain ⟨p,xs,i,z,rfl,rfl,hq,he,q⟩:=h
 cases rx
 obtain ⟨t,rfl⟩:=ry
 obtain ⟨its,r,pl,hz⟩:=I.tuple hq
 obtain ⟨j,h1,h2,h3,h4,h5⟩:=atI_get he
 obtain ⟨w,ew,rw'⟩:=r.get h2
 have hl:=r.length
 have hn:=line63
 have fin:EP X pins σ Q w s:=⟨z,H,I,rw',q⟩
 exact subscriptTail_builtinR (x:=w) pl.typeIs slot_tuple_getitem.lookup
  (getItem_tuple (j:=j) (Q:=fun r s'=>r = w∧EP X pins σ Q r s') pl (by omega) (by omega) (by rw [List.size_toArray,← hl]; exact h1) (by simpa using ew) ⟨rfl,fin⟩) hs
theorem mapSeq_set (its:List Value) (n j:Nat) (u:Value):Obj.mapSeq (·.setIfInBounds j u) { cls:=.type "list",data:=.seq its.toArray n } = { cls:=.type "list",data:=.seq (its.set j u).toArray n }:=by
 simp [Obj.mapSeq]
theorem Inv.lst {pins:List (Addr×Obj)} {σ:St} {H:Hp} {s:Shared} {p:Addr} {xs:List V} (I:Inv X pins σ H s) (h:H p = some (.lst xs)) :
  ∃ (its:List Value) (n:Nat),Vals xs its∧s.heap.get? p = some { cls:=.type "list",data:=.seq its.toArray n }∧xs.length ≤ sizeLine:=by
 obtain ⟨z,its,n,r,e⟩:=I.hok p _ h
 exact ⟨its,n,r,e,z⟩
theorem Inv.lstUpd {pins:List (Addr×Obj)} {σ:St} {H:Hp} {s:Shared} {p:Addr} {xs ys:List V} {its its':List Value} {n n':Nat} {f:Obj→Obj} (I:Inv X pins σ H s) (h:H p = some (.lst xs))
  (ho:s.heap.get? p = some { cls:=.type "list",data:=.seq its.toArray n }) (hf:f { cls:=.type "list",data:=.seq its.toArray n } = { cls:=.type "list",data:=.seq its'.toArray n' }) (r:Vals ys its') (hz:ys.length ≤ sizeLine) (t:Nat) :
  Inv X pins σ (upd H p (.lst ys)) { s with heap:=s.heap.update p f,toks:=t }:=by
 have e:(s.heap.update p f).get? p = some { cls:=.type "list",data:=.seq its'.toArray n' }:=by
  rw [Heap.get?_update_self f ho (by rw [hf] <;> rfl),hf]
 refine I.write (x:=p) (e:=p) (by rw [h]; trivial) (.inl rfl) (fun b u hb q=>(Heap.get?_update_other _ _ (Ne.symm hb)).trans q) ⟨_,e⟩ ?_
 exact ⟨hz,its',n',r,e⟩
def rSetL:V→V→V→Hp→(Hp→Prop)→Prop:=fun o i v H Q=>∃ p xs k j,o = .ref p∧i = .int k∧H p = some (.lst xs)∧ixN xs.length k = some j∧Q (upd H p (.lst (xs.set j v)))
theorem set_list:PSet X rSetL:=by
 intro pins s σ H o i v ov iv u Q I ro ri rv h
 obtain ⟨p,xs,k,j,rfl,rfl,hp,hj,q⟩:=h
 cases ro
 obtain ⟨t,rfl⟩:=ri
 obtain ⟨its,n,r,ho,hz⟩:=I.lst hp
 obtain ⟨h1,h2,h3,h4⟩:=ixN_seq hj
 have hl:=r.length
 have hn:=line63
 have I':Inv X pins σ (upd H p (.lst (xs.set j v))) { s with heap:=s.heap.update p (Obj.mapSeq (·.setIfInBounds j u)) } :=
  I.lstUpd hp ho (mapSeq_set its n j u) (r.set rv j) (by rw [List.length_set]; exact hz) s.toks
 by_cases h0:0 ≤ k
 ·have hk:k.toNat = j:=by
   rw [seqIndex_of h0 h4] at h1
   exact Option.some.inj h1
  exact PySem.W.ki_setAt ho h0 (by omega) (by rw [List.size_toArray,← hl]; exact h4) (by rw [hk]; exact ⟨_,I',q⟩)
 ·have hk:(k + (its.toArray.size:Int)).toNat = j:=by
   rw [seqIndex_neg (by omega) h3] at h1
   rw [List.size_toArray,← hl]
   exact Option.some.inj h1
  exact PySem.W.ki_setBack ho (by omega) (by rw [List.size_toArray,← hl]; exact h3) (by omega) (by rw [hk]; exact ⟨_,I',q⟩)
theorem slice_bounds (lo hi:Option Int) (n:Nat):(sliceBounds lo hi none n).1 = ((HT.sIx n 0 lo:Nat):Int)∧(sliceBounds lo hi none n).2.1 = ((HT.sIx n n hi:Nat):Int)∧(sliceBounds lo hi none n).2.2 = 1:=by
 refine ⟨?_,?_,rfl⟩
 ·cases lo with
  | none=>simp [sliceBounds,HT.sIx]
  | some i =>
   simp only [sliceBounds,HT.sIx,Option.getD_none,show (1:Int) > 0 by decide,if_true]
   by_cases h:i < 0
   ·simp only [h,if_true] <;> omega
   ·simp only [h,if_false] <;> omega
 ·cases hi with
  | none=>simp [sliceBounds,HT.sIx]
  | some i =>
   simp only [sliceBounds,HT.sIx,Option.getD_none,show (1:Int) > 0 by decide,if_true]
   by_cases h:i < 0
   ·simp only [h,if_true] <;> omega
   ·simp only [h,if_false] <;> omega
theorem slicePick_cut (its:List Value) (lo hi:Option Int):slicePick its.toArray lo hi none = ((its.drop (HT.sIx its.length 0 lo)).take (HT.sIx its.length its.length hi - HT.sIx its.length 0 lo)).toArray:=by
 obtain ⟨h1,h2,h3⟩:=slice_bounds lo hi its.toArray.size
 unfold slicePick
 rw [h1,h2,h3]
 simp only [sliceRange_one,pick_run,List.size_toArray] <;> rfl
def rSlL (K:PySem.W.Frag):V→Option Int→Option Int→Hp→VK→Prop:=fun x lo hi H Q=>∃ a xs,x = .ref a∧SqL K H a xs∧∀ p,H p = none→Q (.ref p) (upd H p (.lst (cutV xs lo hi)))
theorem sl_list:SlR X (rSlL X.K):=by
 intro pins s σ H x v vl vu lo hi sl Q I rx hs pl pu h
 obtain ⟨a,xs,rfl,hx,q⟩:=h
 cases rx
 obtain ⟨its,r,ht,hz⟩:=I.list hx
 have hlen:=r.length
 refine ⟨"list",_,slot_list_getitem.lookup,ht.isList.typeIs,?_⟩
 refine wpAny_getItem_list_slice ht.isList hs pl pu .none (by simp) ?_ (by rw [List.size_toArray] <;> omega)
 rw [slicePick_cut,← hlen]
 refine ⟨.ref s.heap.objs.size,_,I.laid (t':=s.toks) (o:=.lst (cutV xs lo hi)) (fun b ob q=>Heap.get?_push_of_some _ q) (Nat.le_refl _) ?_,rfl,q _ (I.hok.fresh (Nat.le_refl _))⟩
 exact ⟨Nat.le_trans (cutV_length xs lo hi) hz,_,0,(r.drop (HT.sIx xs.length 0 lo)).take (HT.sIx xs.length xs.length hi - HT.sIx xs.length 0 lo),Heap.get?_push_size _ rfl⟩
theorem call_len_seq:CallR X (.builtin "len") (fun xs H Q=>∃ p ys,xs = [.ref p]∧(SqL X.K H p ys ∨ SqT X.K H p ys)∧Q (.int ys.length) H):=by
 intro pins s σ H xs us Q I r h
 obtain ⟨p,ys,rfl,hq,q⟩:=h
 obtain ⟨u,rfl,rx⟩:=vals1 r
 cases rx
 have hn:=line63
 rcases hq with hq | hq
 ·obtain ⟨its,r',pl,hz⟩:=I.list hq
  have hlen:=r'.length
  exact Calls.call_len_list pl.isList (by simp only [List.size_toArray] <;> omega) ⟨.int ys.length,H,I.tok _,⟨s.toks + 1,by rw [List.size_toArray,hlen]⟩,q⟩
 ·obtain ⟨its,r',pl,hz⟩:=I.tuple hq
  have hlen:=r'.length
  exact len_tuple pl (by simp only [List.size_toArray] <;> omega) ⟨.int ys.length,H,I.tok _,⟨s.toks + 1,by rw [List.size_toArray,hlen]⟩,q⟩
theorem CallR.or {f:Value} {r r':List V→Hp→VK→Prop} (h:CallR X f r) (h':CallR X f r'):CallR X f (fun xs H Q=>r xs H Q ∨ r' xs H Q):=by
 intro pins s σ H xs us Q I rs q
 rcases q with q | q
 ·exact h pins s σ H xs us Q I rs q
 ·exact h' pins s σ H xs us Q I rs q
theorem call_list_of:CallR X (.type "list") (fun xs H Q=>∃ p ys,xs = [.ref p]∧(SqL X.K H p ys ∨ SqT X.K H p ys)∧∀ l,H l = none→Q (.ref l) (upd H l (.lst ys))):=by
 intro pins s σ H xs us Q I r h
 obtain ⟨p,ys,rfl,hq,q⟩:=h
 obtain ⟨u,rfl,rx⟩:=vals1 r
 cases rx
 have fin:∀ (its:List Value),Vals ys its→ys.length ≤ sizeLine→∀ (h':Heap) (c':Nat),(∀ b o',s.heap.get? b = some o'→h'.get? b = some o') →
   h'.get? s.heap.objs.size = some { cls:=.type "list",dict:=none,data:=.seq its.toArray c',slots:=#[] }→EP X pins σ Q (.ref s.heap.objs.size) { s with heap:=h' }:=fun its r' hz h' c' kp e =>
  ⟨.ref s.heap.objs.size,_,I.laid (t':=s.toks) kp (Nat.le_refl _) (show ObjOk X.prog X.w _ h' _ (.lst ys) from ⟨hz,its,c',r',e⟩),rfl,q _ (I.hok.fresh (Nat.le_refl _))⟩
 rcases hq with hq | hq
 ·obtain ⟨its,r',pl,hz⟩:=I.list hq
  have hlen:=r'.length
  obtain ⟨o,ho,hc,n,hd⟩:=pl.isList
  exact call_list_seq p (.inl rfl) ho hc hd (fun h' c' kp e=>fin its r' hz h' c' kp e) (by simp only [List.size_toArray] <;> omega)
 ·obtain ⟨its,r',pl,hz⟩:=I.tuple hq
  have hlen:=r'.length
  obtain ⟨o,ho,hc,n,hd⟩:=pl
  exact call_list_seq p (.inr rfl) ho hc hd (fun h' c' kp e=>fin its r' hz h' c' kp e) (by simp only [List.size_toArray] <;> omega)
theorem call_tuple_of:CallR X (.type "tuple") (fun xs H Q=>∃ p ys,xs = [.ref p]∧((SqL X.K H p ys∧∀ l,H l = none→Q (.ref l) (upd H l (.tup ys))) ∨ (SqT X.K H p ys∧Q (.ref p) H))):=by
 intro pins s σ H xs us Q I r h
 obtain ⟨p,ys,rfl,h⟩:=h
 obtain ⟨u,rfl,rx⟩:=vals1 r
 cases rx
 rcases h with ⟨hq,q⟩ | ⟨hq,q⟩
 ·obtain ⟨its,r',pl,hz⟩:=I.list hq
  have hlen:=r'.length
  refine call_tuple_list pl.isList (fun h' kp=>?_) (by simp only [List.size_toArray] <;> omega)
  have I1:Inv X pins σ H { s with heap:=h' }:=I.kept (t':=s.toks) kp
  have I2:Inv X pins σ (upd H h'.objs.size (.tup ys)) { s with heap:=h'.push { cls:=.type "tuple",data:=.seq its.toArray } } :=
   I1.laid (t':=s.toks) (fun b o e=>Heap.get?_push_of_some _ e) (Nat.le_refl _) (show ObjOk X.prog X.w _ _ _ (.tup ys) from ⟨hz,its,r',IsTup.new _ _⟩)
  exact ⟨.ref h'.objs.size,_,I2,rfl,q _ (I1.hok.fresh (Nat.le_refl _))⟩
 ·obtain ⟨its,r',pl,hz⟩:=I.tuple hq
  exact call_tuple_same pl ⟨.ref p,H,I,rfl,q⟩
def tyV (K:PySem.W.Frag) (T:String) (x:V) (H:Hp):Prop:=match x with
 | .str _=>T = "str"
 | .int _=>T = "int"
 | .ref p=>(T = "list"∧∃ xs,SqL K H p xs) ∨ (T = "tuple"∧∃ o,K.lookup p = some o∧o.cls = .type "tuple"∧o.dict = none) ∨
   (T = "dict"∧((∃ kvs,H p = some (.dK kvs)) ∨ ∃ kvs,H p = some (.dT kvs))) ∨ (T = "set"∧∃ S n,H p = some (.set S n))
 | _=>False
theorem tyV_is {pins:List (Addr×Obj)} {σ:St} {H:Hp} {s:Shared} {T:String} {x:V} {v:Value} (I:Inv X pins σ H s) (r:RelV x v) (ty:tyV X.K T x H) :
  s.TypeIs v T∧∀ a,v = .ref a→∃ ob,s.heap.get? a = some ob∧ob.dict = none:=by
 cases x with
 | str z =>
  obtain ⟨t,rfl⟩:=r
  cases (show T = "str" from ty)
  exact ⟨typeIs_str s z t,fun _ e=>nomatch e⟩
 | int i =>
  obtain ⟨t,rfl⟩:=r
  cases (show T = "int" from ty)
  exact ⟨typeIs_int s i t,fun _ e=>nomatch e⟩
 | ref p =>
  cases r
  rcases ty with ⟨rfl,xs,hq⟩ | ⟨rfl,o,hk,hc,hd⟩ | ⟨rfl,hk⟩ | ⟨rfl,S,n,hk⟩
  ·obtain ⟨its,_,pl,_⟩:=I.list hq
   refine ⟨pl.isList.typeIs,fun a e=>?_⟩
   cases e
   obtain ⟨o,n,e,c,hd,_⟩:=pl
   exact ⟨o,e,hd⟩
  ·refine ⟨⟨o,I.kIn p o hk,hc⟩,fun a e=>?_⟩
   cases e
   exact ⟨o,I.kIn _ o hk,hd⟩
  ·have z:∃ o,s.heap.get? p = some o∧o.ExactDict:=by
    rcases hk with ⟨kvs,hk⟩ | ⟨kvs,hk⟩
    ·obtain ⟨_,_,_,_,o,_,_,e,ex,_⟩:=I.hok p _ hk
     exact ⟨o,e,ex⟩
    ·obtain ⟨_,_,_,_,o,_,_,e,ex,_⟩:=I.hok p _ hk
     exact ⟨o,e,ex⟩
   obtain ⟨o,e,ex⟩:=z
   refine ⟨⟨o,e,ex.1⟩,fun a e2=>?_⟩
   cases e2
   exact ⟨o,e,ex.2.1⟩
  ·obtain ⟨o,_,_,_,e,ex,_⟩:=I.hok p _ hk
   refine ⟨⟨o,e,ex.1⟩,fun a e2=>?_⟩
   cases e2
   exact ⟨o,e,ex.2.1⟩
 | _=>exact False.elim ty
def tBM (K:PySem.W.Frag) (T:String) (r:V→List V→Hp→VK→Prop) (to:TE) (t:TA):TE:=fun σ H Q=>to σ H fun x H1=>tyV K T x H1∧t σ H1 fun xs H2=>r x xs H2 Q
variable {o e:Expr} {es:List Expr} {to:TE} {t:TA} {name:Str} {apos cpos:Pos} {T id:String} {r:V→List V→Hp→VK→Prop}
theorem pe_bm (pa:PlainAttrs T) (slot:Slot T name id) (hty:typeOf (.builtin id) = pure (.type "method_descriptor")) (hm:MtR X id r) (ho:PE X o to) (ha:PA X (e :: es) t)
  (hbase:attributeBase o name X.env (eval o X.env) = eval o X.env:=by rfl)
  (hfew:((backTo cpos (starEach (e :: es) X.env)).all (fun x=>!x.1) && (backToKw cpos (keywordEach [] X.env)).all (fun x=>x.1.isSome)
   && decide ((e :: es).length + ([]:List Keyword).length + (if ([]:List Keyword).isEmpty then 0 else 1) < 30)) = true:=by rfl)
  (hline:(apos.endLine == cpos.line) = true:=by rfl) (hs:starEach (e :: es) X.env = (false,eval e X.env) :: starEach es X.env:=by rfl) (hplain:(backTo cpos (starEach es X.env)).any (·.1) = false:=by rfl) :
  PE X (.Call (.Attribute o name apos) (e :: es) [] cpos) (tBM X.K T r to t):=by
 intro pins s σ H Q I h
 refine wpAny_Call_method_late hbase hfew hline rfl (thn (ho pins s σ H _ I h) fun v s1 ⟨x,H1,I1,r1,ty,q1⟩=>?_)
 obtain ⟨h1,h2⟩:=tyV_is I1 r1 ty
 refine ⟨T,id,pa,slot,hty,h1,h2,?_⟩
 have hA:=ha cpos pins s1 σ H1 _ I1 q1
 rw [hs] at hA ⊢
 refine Calls.callWith_builtin (by show (false || (backTo cpos (starEach es X.env)).any (·.1)) = false; rw [hplain] <;> rfl) (Calls.evalArgs_plain ?_)
 exact thn hA fun us s2 ⟨vs,H2,I2,r2,q2⟩=>hm pins s2 σ H2 x vs v us Q I2 r1 r2 q2
/- xs.append(e),list.index on a module's tuple .. are MtR facts of 06m -/
end
end L2
namespace L2
open PySem PySem.Spec PyProof.Rows
def MtM (X:Cx) (id:String) (r:V→List V→Hp→VK→Prop):Prop :=
 ∀ (pins:List (Addr×Obj)) (s:Shared) (σ:St) (H:Hp) (x:V) (xs:List V) (v:Value) (us:List Value) (Q:VK),Inv X pins σ H s→RelV x v→Vals xs us→r x xs H Q →
  wpAny (model X.prog X.w) X.A (call (.builtin id) (v :: us)) (EP X pins σ Q) X.xe s
theorem Vals.one:∀ {x:V} {us:List Value},Vals [x] us→∃ u,us = [u]∧RelV x u
 | _,_,.cons r .nil=>⟨_,rfl,r⟩
theorem Vals.reverse {xs:List V} {us:List Value} (h:Vals xs us):Vals xs.reverse us.reverse:=by
 induction h with
 | nil=>exact .nil
 | cons r t ih=>rw [List.reverse_cons,List.reverse_cons]; exact Vals.append ih (.cons r .nil)
theorem Vals.rep {xs:List V} {us:List Value} (h:Vals xs us):∀ k:Nat,Vals (List.replicate k xs).flatten (List.replicate k us).flatten
 | 0=>.nil
 | k + 1=>by
  rw [List.replicate_succ,List.replicate_succ,List.flatten_cons,List.flatten_cons]
  exact Vals.append h (Vals.rep h k)
theorem foldl_rep (its:List Value):∀ (k:Nat) (acc:List Value),
  List.foldl (fun x1 x2=>x1 ++ x2) acc.toArray (List.replicate k its.toArray) = (acc ++ (List.replicate k its).flatten).toArray
 | 0,acc=>by simp
 | k + 1,acc=>by
  have e:acc.toArray ++ its.toArray = (acc ++ its).toArray:=by simp
  have e2:(acc ++ its) ++ (List.replicate k its).flatten = acc ++ (List.replicate (k + 1) its).flatten:=by
   rw [List.replicate_succ,List.flatten_cons,List.append_assoc]
  rw [← e2,← foldl_rep its k (acc ++ its),← e,List.replicate_succ,List.foldl_cons]
section
variable {X:Cx} {pins:List (Addr×Obj)} {σ:St} {H:Hp} {s:Shared} {l b:Addr} {xs ys zs:List V}
theorem Inv.lset {its its':List Value} {n:Nat} {f:Array Value→Array Value} {t':Nat} (I:Inv X pins σ H s) (hH:H l = some (.lst xs))
  (e:s.heap.get? l = some { cls:=.type "list",data:=.seq its.toArray n }) (hf:f its.toArray = its'.toArray) (hv:Vals ys its') (hz:ys.length ≤ sizeLine) :
  Inv X pins σ (upd H l (.lst ys)) { s with heap:=s.heap.update l (Obj.mapSeq f),toks:=t' }:=by
 have q:=PySem.IsL.update e f
 rw [hf] at q
 refine I.write (x:=l) (e:=l) (by rw [hH]; exact trivial) (.inl rfl) (fun b' u hb hu=>(Heap.get?_update_other s.heap (Obj.mapSeq f) (Ne.symm hb)).trans hu) ⟨_,q⟩ ?_
 exact ⟨hz,its',_,hv,q⟩
theorem Inv.lnew {its:List Value} {t':Nat} (I:Inv X pins σ H s) (hv:Vals ys its) (hz:ys.length ≤ sizeLine) :
  Inv X pins σ (upd H s.heap.objs.size (.lst ys)) { s with heap:=s.heap.push { cls:=.type "list",data:=.seq its.toArray },toks:=t' } :=
 I.laid (fun _ _ q=>Heap.get?_push_of_some _ q) (Nat.le_refl _) ⟨hz,its,0,hv,Heap.get?_push_size _ rfl⟩
theorem Inv.fresh (I:Inv X pins σ H s):H s.heap.objs.size = none:=I.hok.fresh (Nat.le_refl _)
theorem Inv.lstM (I:Inv X pins σ H s) (hH:H l = some (.lst xs)):xs.length ≤ sizeLine∧∃ (its:List Value) (n:Nat),Vals xs its∧xs.length = its.length∧s.heap.get? l = some { cls:=.type "list",data:=.seq its.toArray n }:=by
 obtain ⟨z,its,n,r,e⟩:=I.hok l _ hH
 exact ⟨z,its,n,r,r.length,e⟩
theorem notLongL {n:Nat} (h:n ≤ sizeLine):Builtin.List.listTooLong n = false:=by
 unfold Builtin.List.listTooLong
 exact decide_eq_false (by omega)
end
section
variable {X:Cx}
def rAppend:V→List V→Hp→VK→Prop:=fun x vs H Q=>∃ l xs y,x = .ref l∧vs = [y]∧H l = some (.lst xs)∧xs.length < sizeLine∧Q .non (upd H l (.lst (xs ++ [y])))
theorem mt_append:MtM X "list.append" rAppend:=by
 intro pins s σ H x vs v us Q I rx rv h
 obtain ⟨l,xs,y,rfl,rfl,hH,hz,q⟩:=h
 cases rx
 obtain ⟨u,rfl,ru⟩:=rv.one
 obtain ⟨z,its,n,r,hl,e⟩:=I.lstM hH
 refine call_meets F.slot_list_append ⟨_,e,rfl⟩ F.entry_list_append (F.args_list_append_2 _ _) (PySem.list_append l its.toArray n u (by rw [List.size_toArray]; omega)) ⟨e,?_⟩
 refine ⟨.non,_,I.lset (its':=its ++ [u]) hH e (by simp) (r.append (.cons ru .nil)) ?_,rfl,q⟩
 rw [List.length_append,List.length_singleton]
 omega
def rExtend:V→List V→Hp→VK→Prop:=fun x vs H Q=>∃ l b xs zs,x = .ref l∧vs = [.ref b]∧H l = some (.lst xs)∧H b = some (.lst zs)∧xs.length + zs.length ≤ sizeLine∧Q .non (upd H l (.lst (xs ++ zs)))
theorem mt_extend:MtM X "list.extend" rExtend:=by
 intro pins s σ H x vs v us Q I rx rv h
 obtain ⟨l,b,xs,zs,rfl,rfl,hH,hB,hz,q⟩:=h
 cases rx
 obtain ⟨u,rfl,ru⟩:=rv.one
 cases ru
 obtain ⟨z,its,n,r,hl,e⟩:=I.lstM hH
 obtain ⟨z2,its2,n2,r2,hl2,e2⟩:=I.lstM hB
 have hsz:its.toArray.size + its2.toArray.size ≤ sizeLine:=by rw [List.size_toArray,List.size_toArray]; omega
 have hlong:¬ (!its.toArray.isEmpty && Builtin.List.listTooLong (its.toArray.size + its2.toArray.size)) = true:=by
  rw [notLongL hsz,Bool.and_false]
  exact Bool.false_ne_true
 refine call_meets F.slot_list_extend ⟨_,e,rfl⟩ F.entry_list_extend (F.args_list_extend_2 _ _)
  (AutoSeq1.list_extend_list_list_0 l its.toArray n b its2.toArray n2 hlong (by rw [List.size_toArray]; omega) (by omega)) ⟨e,e2,?_⟩
 refine ⟨.non,_,I.lset (its':=its ++ its2) hH e (by simp) (r.append r2) ?_,rfl,q⟩
 rw [List.length_append]
 omega
def rCat:R2:=fun x y H Q=>∃ l b xs zs,x = .ref l∧y = .ref b∧H l = some (.lst xs)∧H b = some (.lst zs)∧xs.length + zs.length ≤ sizeLine∧∀ p,H p = none→Q (.ref p) (upd H p (.lst (xs ++ zs)))
theorem op_cat:OpR X (binaryOp .Add) rCat:=by
 intro pins s σ H x y v u Q I rx ry h
 obtain ⟨l,b,xs,zs,rfl,rfl,hH,hB,hz,q⟩:=h
 cases rx
 cases ry
 obtain ⟨z,its,n,r,hl,e⟩:=I.lstM hH
 obtain ⟨z2,its2,n2,r2,hl2,e2⟩:=I.lstM hB
 refine PySem.P.add_list e e2 ?_ (by rw [List.size_toArray,List.size_toArray]; omega)
 have ea:its.toArray ++ its2.toArray = (its ++ its2).toArray:=by simp
 rw [ea]
 exact ⟨.ref _,_,I.lnew (t':=s.toks) (r.append r2) (by rw [List.length_append]; omega),rfl,q _ I.fresh⟩
def rRep:R2:=fun x y H Q=>∃ l k xs,x = .ref l∧y = .int k∧H l = some (.lst xs)∧-(2 ^ 63) ≤ k∧k < 2 ^ 63∧xs.length * k.toNat ≤ sizeLine ∧
 ∀ p,H p = none→Q (.ref p) (upd H p (.lst (List.replicate k.toNat xs).flatten))
theorem len_rep {α:Type} (xs:List α) (k:Nat):(List.replicate k xs).flatten.length = k * xs.length:=by
 induction k with
 | zero=>simp
 | succ k ih=>rw [List.replicate_succ,List.flatten_cons,List.length_append,ih,Nat.succ_mul,Nat.add_comm]
theorem op_rep:OpR X (binaryOp .Mult) rRep:=by
 intro pins s σ H x y v u Q I rx ry h
 obtain ⟨l,k,xs,rfl,rfl,hH,h1,h2,hz,q⟩:=h
 cases rx
 obtain ⟨t,rfl⟩:=ry
 obtain ⟨z,its,n,r,hl,e⟩:=I.lstM hH
 have hlen:its.toArray.size * k.toNat ≤ sizeLine:=by rw [List.size_toArray,← hl]; exact hz
 have hcap:¬ its.toArray.size * k.toNat > (2 ^ 63 - 1) / 8:=by
  have:(sizeLine:Nat) ≤ (2 ^ 63 - 1) / 8:=by decide
  omega
 have hfit:¬ (!Builtin.List.listFitsIndex k) = true:=by
  rw [fitsIndex_both h1 h2]
  exact Bool.false_ne_true
 have hlong:¬ Builtin.List.listTooLong (its.toArray.size * k.toNat) = true:=by
  rw [notLongL hlen]
  exact Bool.false_ne_true
 have hnew:List.foldl (fun x1 x2=>x1 ++ x2) #[] (List.replicate (if its.toArray.isEmpty = true then 0 else k.toNat) its.toArray) = (List.replicate k.toNat its).flatten.toArray:=by
  have f0:∀ m:Nat,List.foldl (fun x1 x2=>x1 ++ x2) #[] (List.replicate m its.toArray) = (List.replicate m its).flatten.toArray:=fun m=>by
   have:=foldl_rep its m []
   rw [List.nil_append] at this
   exact this
  rw [f0]
  cases its with
  | nil=>simp
  | cons a r'=>rw [if_neg (by simp)]
 refine wpAny_binaryOp_repeat_ref (T:="list") (U:="int") (by decide) ⟨_,e,rfl⟩ (fun s'=>typeIs_int s' k t) noFill_list_mul F.fills_int_mul F.slot_int_rmul repeat_list F.slot_int_index.lookup
  (call_meets F.slot_int_rmul (typeIs_int s k t) F.entry_int_rmul (F.args_int_rmul_2 _ _) (int___rmul___int_list k t l its.toArray n)
   ⟨e,rfl,⟨_,e,rfl⟩,call_meets F.slot_list_mul ⟨_,e,rfl⟩ F.entry_list_mul (F.args_list_mul_2 _ _) (AutoListH.list___mul___list_int_3 l its.toArray n k t hfit hcap hlong) ⟨e,?_⟩⟩)
 rw [hnew]
 exact ⟨.ref _,_,I.lnew (t':=s.toks) (r.rep k.toNat) (by rw [len_rep,Nat.mul_comm]; exact hz),rfl,q _ I.fresh⟩
end
section
variable {prog:Program} {w:World} {A:Around} {E:Value→Shared→Prop} {s:Shared}
set_option maxRecDepth 100000 in
end
section
variable {X:Cx}
end
end L2
namespace Att
open PySem PySem.W PySem.Calls PyProof.Rows
theorem ints_of_wellAll {P:Params} {h:Heap}:∀ (ns:List Int) (vs:List Value),WellAll P h vs (ns.map WData.int)→IntsAre vs ns:=by
 intro ns
 induction ns with
 | nil =>
  intro vs w
  rw [List.map_nil] at w
  cases w
  exact .nil
 | cons n ns ih =>
  intro vs w
  rw [List.map_cons] at w
  cases w with
  | cons a b =>
   cases a
   exact .cons _ _ (ih _ b)
theorem script_of {l:OpenLaw} {n:Nat} (hn:l.most = some n) {P:Params} {h:Heap} {args:List WData} {vals:List Value}
  (hpre:l.row.toRowW.claim.pre args = true) (hwl:WellAll P h vals args) :
  ∃ a vs ns,vals = [Value.ref a]∧args = [WData.list (ns.map WData.int)]∧h.get? a = some { cls:=.type "list",data:=.seq vs.toArray }∧IntsAre vs ns∧ns.length ≤ n:=by
 have hsh:WShape.hasAll [] args [.list .int] = true:=(pre_splitW hpre).1
 have hc:l.pre.holds [] { args:=args } = true:=(pre_splitW hpre).2
 obtain ⟨d,r,rfl,h1,h2⟩:=hasAllW_cons hsh
 obtain rfl:=hasAllW_nil h2
 obtain ⟨xs,rfl,h3⟩:=hasW_list h1
 obtain ⟨ns,rfl⟩:=items_int h3
 have hlen:ns.length ≤ n:=by
  unfold OpenLaw.pre at hc
  have h4:(WTm.not (.lt (.lit (.int (n:Int))) (.len (.arg 0)))).holds [] { args:=[.list (ns.map .int)] } = true:=by
   have h4:=(holds_andW hc).1
   rw [hn] at h4
   exact h4
  have h5:=condW_of h4 (w_not (w_lt w_lit (w_len_list (w_arg rfl))))
  rw [List.length_map] at h5
  refine Nat.le_of_not_lt fun q=>?_
  have q':(n:Int) < ((ns.length:Nat):Int):=by omega
  first
   | (rw [decide_eq_true q'] at h5; exact absurd h5 (by decide))
   | (simp at h5; omega)
 cases hwl with
 | cons w1 w2 =>
  cases w2
  cases w1 with
  | list ho hall=>exact ⟨_,_,ns,rfl,rfl,ho,ints_of_wellAll ns _ hall,hlen⟩
theorem post_true (l:OpenLaw) (args:List WData):l.row.toRowW.claim.post args (.bool true) args = true :=
 postW_of (r:=l.row.toRowW) (X:=(true == true))
  (show WShape.has [] (.bool true) .bool = true by first | rfl | decide | simp [WShape.has,WShape.arms,WShape.armsAll])
  (show (WTm.eq .res (.lit (.bool true))).value [] { args:=args,res:=some (.bool true),after:=args } = some (.bool (true == true)) from w_eq_bool (w_res rfl) w_lit) rfl
theorem attach_call {l:OpenLaw} {n:Nat} {q:Program} {loose:List Str} {XP:(Str→Option Value)→Heap→Prop} {YP:World→Heap→Prop} {d:DefRec}
  (hn:l.most = some n) (hdf:d.params.defaults = [])
  (call:∀ (w:World) (s₀ s₁:Shared) (mg mb:Str→Option Value) (fa:Addr) (o:Obj) (pm cd doc:Value) (a:Addr) (vs:List Value) (ns:List Int),
   Ground q loose [] XP w s₀ mg mb s₁.heap→YP w s₁.heap →
   s₁.heap.get? fa = some o→o.data = .func (docDef d.name d.params d.body d.scope pm cd doc)→s₁.heap.CodeRec cd d.name→mg d.name = some (.ref fa) →
   s₁.heap.get? a = some { cls:=.type "list",data:=.seq vs.toArray }→IntsAre vs ns→ns.length ≤ n→s₁.gens = #[] →
   codeAny (model l.prog w) callerA (.call (.ref fa) ⟨[.ref a],[]⟩) (fun r s'=>r = .ok (.ret (.bool true))∧OldK s₁.heap s'.heap∧s'.os = s₁.os∧AllBare s'.gens) s₁) :
  WalkO q loose XP YP l.row.toRowW d [] (fun f vs=>PySem.call f vs):=by
 intro w s₀ s₁ mg mb G Y fa o pm cd doc dV kV ho hd hcd hD hmg hg args vals as hpre hlay hrd hwl hlo
 obtain rfl:dV = .none:=Dflts.none hD hdf
 obtain rfl:kV = .none:=Dflts.noKw hD
 obtain ⟨a,vs,ns,rfl,rfl,hobj,hints,hlen⟩:=script_of hn hpre hwl
 refine enter_call (codeAny_mono (call w s₀ s₁ mg mb fa o pm cd doc a vs ns G Y ho (fd_plain hd) hcd hmg hobj hints hlen hg) fun r s' hq=>?_)
 obtain ⟨rfl,h2,h3,h4⟩:=hq
 exact ⟨.inl ⟨.bool true,.bool true,[],rfl,fun _=>rfl,.bool true,post_true l _,fun _=>⟨List.Pairwise.nil,fun _ hm=>(nomatch hm)⟩⟩,h2,h3,h4⟩
section
variable {prog:Program} {w:World} {A:Around} {E:Value→Shared→Prop} {s:Shared} {K:Frag}
theorem call_fn {R:Result→Shared→Prop} {name qual:Str} {params:Arguments} {body:List Stmt} {scope:Scope} {dV kV doc pm cdv ct oc:Value} {an od:Option Addr} {osl:Array (Option Value)} {f:Addr} {args:Args} {binds:List (Str×Value)}
  (X:K.In s.heap) (hlim:s.heap.NoLimit) (ho:K.lookup f = some ⟨oc,od,.func (fnOf name qual params body scope dV kV doc pm an cdv ct),osl⟩) (hcd:codeIn K cdv qual = true) (hroom:A.depth < recursionLimit)
  (hbind:BindsTo s (fnOf name qual params body scope dV kV doc pm an cdv ct) args binds)
  (hkind:(binds.all fun y=>scope.names.lookup y.1 == some .local || scope.names.lookup y.1 == some .cell) = true)
  (h:∀ s₁,InCallC s s.heap.objs.size (bindL (envOfC qual scope s.heap.objs.size f cdv).kindOf binds fun _=>none) (cellsFrom (s.heap.objs.size + 1) scope.names [])
    (bindC (envOfC qual scope s.heap.objs.size f cdv).kindOf binds fun _=>none) s₁ →
   wpAny (model prog w) (A.deeper (envOfC qual scope s.heap.objs.size f cdv)) (execs body (envOfC qual scope s.heap.objs.size f cdv))
    (fun fl s'=>R (.ok (.ret (match fl with | .ret v=>v | _=>.none))) s')
    (fun e s'=>wpAny (model prog w) (A.deeper (envOfC qual scope s.heap.objs.size f cdv)) (leaving (envOfC qual scope s.heap.objs.size f cdv) e) (fun _ s''=>R (.error e) s'') (fun e' s''=>R (.error e') s'') s') s₁)
  (hco:scope.isCoroutine = false) (hgen:scope.isGenerator = false) (hk:scope.kind = .function):codeAny (model prog w) A (.call (.ref f) args) R s:=by
 refine codeAny_call_function hroom (X _ _ ho) rfl hco hgen rfl (codeRec_of X hcd) (hbind _ _ _ _ ?_)
 refine wpAny_newFunctionEnv_cells hk (kindsX hkind _) fun env he s₁ x=>?_
 subst he
 exact ⟨hlim.keeps x.toInCall.keep,codeAny_func (h s₁ x)⟩
def ledger (h:Heap) (L d:Addr):List (Addr×Obj):=(List.range h.objs.size).filterMap fun a=>if a = L ∨ a = d then none else (h.get? a).map fun o=>(a,o)
end
end Att
namespace L2
open PySem PySem.Spec PyProof.Rows
theorem vals_ints:∀ {vs:List Value} {ns:List Int},IntsAre vs ns→Vals (ns.map V.int) vs
 | _,_,.nil=>.nil
 | _,_,.cons n t h=>.cons ⟨t,rfl⟩ (vals_ints h)
def Only (H:Hp):Prop:=∀ b,H b = none ∨ ∃ o xs,H b = some (.frz o (.lst xs))
theorem law_call {P:Program} {w:World} {K:PySem.W.Frag} {mg mb:Str→Option Value} {CX:CXT} {k:Nat} {fa a:Addr} {fd:FuncData} {x:Str} {sp:Sp} {s₁:Shared} {vs:List Value} {ns:List Int}
  (KX:K.In s₁.heap) (hns:s₁.heap.Ns mainGlobals mg) (hb:s₁.heap.Ns builtinsNs mb) (hbb:∀ x:Str,x ≠ "__name__"→mb x = bootBuiltins x) (hlim:s₁.heap.NoLimit) (hg:s₁.gens = #[])
  (ha:s₁.heap.get? a = some { cls:=.type "list",data:=.seq vs.toArray }) (hi:IntsAre vs ns) (hl:ns.length ≤ sizeLine) (hr:Room k callerA)
  (F:∀ base:Heap,K.In base→base.Ns mainGlobals mg→FnOk P w K mg base CX k fa fd [x] sp) (hbind:∀ (s:Shared) (u:Value),BindsTo s fd ⟨[u],[]⟩ [(x,u)])
  (hsp:∀ H:Hp,Only H→SqL K H a (ns.map V.int)→sp [.ref a] H (fun v _=>v = .bl true) fun _ _ _=>False)
  (hCX:∀ H e s',CX [] H s₁ (fun _ _ _=>False) e s'→False) :
  codeAny (model P w) callerA (.call (.ref fa) ⟨[.ref a],[]⟩) (fun r s'=>r = .ok (.ret (.bool true))∧OldK s₁.heap s'.heap∧s'.os = s₁.os∧AllBare s'.gens) s₁:=by
 have rv:=vals_ints hi
 have lenV:=hi.length
 -- from an abstract heap in which nothing but the script may be tracked
 have core:∀ H:Hp,Only H→SqL K H a (ns.map V.int)→HOk P w H s₁.heap→(∀ b,H b ≠ none→b = a)→(H a ≠ none→K.lookup a = none) →
   codeAny (model P w) callerA (.call (.ref fa) ⟨[.ref a],[]⟩) (fun r s'=>r = .ok (.ret (.bool true))∧OldK s₁.heap s'.heap∧s'.os = s₁.os∧AllBare s'.gens) s₁:=by
  intro H hO hS hok hA hK
  have base_of:∀ {b:Addr} {o:Obj},s₁.heap.get? b = some o→H b = none→(hidT s₁.heap H).get? b = some o:=fun e n=>hidT_get e n
  have noA:∀ {b:Addr} {o:Obj} {es:Array DictEntry} {ep:Nat},s₁.heap.get? b = some o→o.data = .dict es ep→H b = none:=fun {b o es ep} e d=>by
   cases q:H b with
   | none=>rfl
   | some u =>
    have e':b = a:=hA b (by rw [q]; simp)
    subst e'
    rw [ha] at e; cases e
    have d':Data.seq vs.toArray _ = Data.dict es ep:=d
    cases d'
  have nsK:∀ {b:Addr} {m:Str→Option Value},s₁.heap.Ns b m→(hidT s₁.heap H).Ns b m:=fun {b m} ⟨o,es,ep,e,d,r⟩=>⟨o,es,ep,base_of e (noA e d),d,r⟩
  have hKb:K.In (hidT s₁.heap H):=fun b o e=>base_of (KX b o e) (by
   cases q:H b with
   | none=>rfl
   | some u =>
    have e':b = a:=hA b (by rw [q]; simp)
    subst e'
    rw [hK (by rw [q]; simp)] at e; cases e)
  have hM:Mod K mg (hidT s₁.heap H):=⟨hKb,nsK hns,⟨mb,nsK hb,hbb⟩,let ⟨mc,h1,h2⟩:=hlim; ⟨mc,nsK h1,h2⟩⟩
  have e0:Env0 P w K mg (hidT s₁.heap H) callerA [] s₁ H:=⟨rfl,hM,fun b o e=>of_hidT e,Nat.le_of_eq (hidT_size _ _),trivial,fun b hb=>absurd (show b ∈ ([]:List Addr) from hb) (by simp),hok,.of_eq hg⟩
  refine codeAny_mono ((F _ hKb (nsK hns)).run callerA [] s₁ H ⟨[.ref a],[]⟩ [.ref a] [.ref a] _ _ hr e0 (hbind s₁ (.ref a)) (.cons rfl .nil) (hsp H hO hS)) fun r s' h=>?_
  cases r with
  | error e=>exact (hCX H e s' h).elim
  | ok fl =>
   cases fl with
   | next=>exact False.elim h
   | brk=>exact False.elim h
   | cont=>exact False.elim h
   | ret u =>
    obtain ⟨v,H',os,bare,un,hok',r',q⟩:=h
    have q':v = .bl true:=q
    subst q'
    obtain rfl:u = Value.bool true:=r'
    refine ⟨rfl,OldK.of_keep fun b o e=>?_,os,bare⟩
    cases q:H b with
    | none=>exact un.keep b o e q (by intro z; exact absurd (show b ∈ ([]:List Addr) from z) (by simp)) (by simp)
    | some u =>
     rcases hO b with z | ⟨ob,xs,z⟩
     ·rw [q] at z; cases z
     ·have z2:=un.frzs b ob _ z
      obtain ⟨e1,_⟩:=hok b _ z
      obtain ⟨e2,_⟩:=hok' b _ z2
      rw [e] at e1; cases e1
      exact e2
 cases hk:K.lookup a with
 | some o =>
  -- the script is one of the module's own objects
  have e:=KX a o hk
  rw [ha] at e
  cases e
  refine core (fun _=>none) (fun _=>.inl rfl) (.inr ⟨_,vs.toArray,_,hk,rfl,rfl,rfl,by rw [List.size_toArray,lenV]; exact hl,by simpa using rv⟩) (fun b u z=>by have z':(none:Option HO) = some u:=z; cases z') (fun b z=>absurd rfl z) fun z=>absurd rfl z
 | none =>
  refine core (fun b=>if b = a then some (.frz { cls:=.type "list",data:=.seq vs.toArray } (.lst (ns.map V.int))) else none) (fun b=>?_) (.inl (.inr ⟨{ cls:=.type "list",data:=.seq vs.toArray },if_pos rfl⟩)) (fun b u z=>?_) (fun b z=>?_) fun _=>hk
  ·by_cases hb:b = a
   ·exact .inr ⟨_,_,if_pos hb⟩
   ·exact .inl (if_neg hb)
  ·by_cases hb:b = a
   ·have z':=(if_pos hb).symm.trans z
    cases z'
    subst hb
    exact ⟨ha,by rw [List.length_map]; exact hl,vs,_,rv,ha⟩
   ·have z':=(if_neg hb).symm.trans z
    cases z'
  ·by_cases hb:b = a
   ·exact hb
   ·exact absurd (if_neg hb) z
end L2
namespace L2
open PySem PySem.Spec PyProof.Rows
abbrev KOf {K:PySem.W.Frag} {h:Heap} (_:K.In h):PySem.W.Frag:=K
theorem walk_of {l:PySem.W.OpenLaw} {n k:Nat} {q:Program} {loose:List Str} {XP:(Str→Option Value)→Heap→Prop} {YP:World→Heap→Prop} {d:DefRec} {K:Params→PySem.W.Frag} {CX:World→CXT} {sp:World→Sp} {x:Str}
  (hn:l.most = some n) (hn2:n ≤ sizeLine) (hdf:d.params.defaults = []) (hr:Room k callerA)
  (hY:∀ (w:World) (h:Heap),YP w h→(K w.params).In h)
  (F:∀ (w:World) (mg:Str→Option Value) (fa:Addr) (h:Heap),(K w.params).In h→h.Ns mainGlobals mg→mg d.name = some (.ref fa) →
   ∃ fd:FuncData,(∀ (s:Shared) (u:Value),BindsTo s fd ⟨[u],[]⟩ [(x,u)]) ∧
    ∀ base:Heap,(K w.params).In base→base.Ns mainGlobals mg→FnOk l.prog w (K w.params) mg base (CX w) k fa fd [x] (sp w))
  (hsp:∀ (w:World) (H:Hp) (a:Addr) (ns:List Int),ns.length ≤ n→Only H→SqL (K w.params) H a (ns.map V.int)→sp w [.ref a] H (fun v _=>v = .bl true) fun _ _ _=>False)
  (hCX:∀ (w:World) (H:Hp) (s:Shared) (e:Value) (s':Shared),CX w [] H s (fun _ _ _=>False) e s'→False) :
  PySem.W.WalkO q loose XP YP l.row.toRowW d [] (fun f vs=>PySem.call f vs):=by
 refine Att.attach_call hn hdf fun w s₀ s₁ mg mb fa o pm cd doc a vs ns G Y ho hd hcd hmg hobj hints hlen hg=>?_
 have KX:=hY w _ Y
 obtain ⟨fd,hb,hF⟩:=F w mg fa _ KX G.T.g hmg
 exact law_call KX G.T.g G.T.b G.T.builtins G.T.nolimit hg hobj hints (Nat.le_trans hlen hn2) hr hF hb (fun H hO hS=>hsp w H a ns hlen hO hS) fun H e s'=>hCX w H s₁ e s'
end L2
/- THE LAST THEOREM (shape; LID, My.* are yours):
   My.Adr: a structure of the addresses that your layer names (classes, functions); My.Txt K t: a structure (Prop) of the equations over K;
   My.txt_mk : {K} {implicit addresses ..} (e1 : nsIn K mainGlobals "law" = some (some (.ref f))) (e2 : K.lookup f = some ⟨oc, od, .func (fnOf "law" "law" params body scope dV kV doc pm an cdv ct), sl⟩) (e3 : codeIn K cdv "law" = true) .. : ∃ t, My.Txt K t
set_option maxRecDepth 100000 in
set_option maxHeartbeats 0 in
theorem PySem.Challenge.cw_LID_holds:PySem.Challenge.rw_LID.Holds:=by
 w_on; o_law; k_head; (case hw=>w_witness2)
 k_fill
 refine L2.walk_of (l:=PySem.Challenge.rw_LID) (n:=63) (k:=40) (x:="script") (CX:=fun w=>..) (sp:=fun _=>My.sp_law) rfl (by decide) rfl ⟨rfl,by decide,by decide⟩ (fun w h Y=>PySem.W.kIn_of Y) ?F ?S ?C
 case F =>
  intro w mg fa h KX G hmg
  have T:∃ t,My.Txt (L2.KOf KX) t:=by
   dsimp only [L2.KOf]                          -- K must stand as «<heap const> w.params» for k_is
   refine' My.txt_mk ?e1 ?e2 ?e3 ..
   (case e1=>PySem.W.k_is)                    -- in the order: a name -> its address -> its object -> its parts
   (case e2=>PySem.W.k_is)
   ..
  obtain ⟨t,T⟩:=T
  have e0:=hmg.symm.trans (PySem.W.mg_of KX G T.law)
  cases e0                                       -- fa is the law's own address
  exact ⟨_,fun s u=>.of_eq rfl,fun base kb nb=>My.law_fn T kb nb⟩     -- if «.of_eq rfl» comes too early: refine' ⟨_,?b,fun base kb nb=>My.law_fn T kb nb⟩; exact fun s u=>.of_eq rfl
 case S=>exact fun w H a ns hl hO hS=>..
 case C=>exact ..
(the tactic k_is has no namespace: write k_is) -/
namespace L2
open PySem PySem.Spec PyProof.Rows
def defArgs (s:Stmt):Arguments:=match s with
 | .FunctionDef _ a _ _ _ _ _ _ _ _=>a
 | _=>{ posonlyargs:=[],args:=[],vararg:=none,kwonlyargs:=[],kw_defaults:=[],kwarg:=none,defaults:=[] }
def defBody (s:Stmt):List Stmt:=match s with
 | .FunctionDef _ _ b _ _ _ _ _ _ _=>b
 | _=>[]
def defScope (s:Stmt):Scope:=match s with
 | .FunctionDef _ _ _ _ _ _ sc _ _ _=>sc
 | _=>{ kind:=.function,names:=[],isGenerator:=false,isCoroutine:=false }
abbrev CX0:CXT:=fun _ _ _ _ _ _=>False
abbrev E0:XK:=fun _ _ _=>False
theorem pass0 {X:Cx}:Passes CX0 X E0:=fun _ _ _ _ _ _ _ h=>h.elim
structure Fun (K:PySem.W.Frag) (x qual:Str) (st:Stmt) (f:Addr) (fd:FuncData):Prop where
 ex:∃ (oc:Value) (od:Option Addr) (kV doc pm:Value) (an:Option Addr) (cdv ct:Value) (osl:Array (Option Value)),
  fd = PySem.W.fnOf x qual (defArgs st) (defBody st) (defScope st) .none kV doc pm an cdv ct∧K.lookup f = some ⟨oc,od,.func fd,osl⟩∧PySem.W.codeIn K cdv qual = true
 kp:PySem.W.keepIn K (.ref f) = true
section
variable {P:Program} {w:World} {K:PySem.W.Frag} {mg:Str→Option Value} {base:Heap}
theorem Fun.ok {x qual:Str} {st:Stmt} {f:Addr} {fd:FuncData} {N ps:List Str} {k:Nat} {sp:Sp} (F:Fun K x qual st f fd) (S:FnScope N ps (defScope st)) (len:∀ vs H Q E,sp vs H Q E→vs.length = ps.length)
  (hbody:∀ (cdv:Value) (A:Around) (outer:List Env) (s:Shared) (H:Hp) (vs:List V) (Q:VK) (E:XK),Room k (A.deeper (envOfC qual (defScope st) s.heap.objs.size f cdv))→sp vs H Q E →
   ∃ t,PSs (cxOf CX0 P w K mg base N qual (defScope st) f cdv A outer s H E).nox (defBody st) t∧t { nx:=fun _ H'=>Q .non H',rt:=Q } (start N vs) H):FnOk P w K mg base CX0 (k + 1) f fd ps sp:=by
 obtain ⟨oc,od,kV,doc,pm,an,cdv,ct,osl,rfl,lk,hcd⟩:=F.ex
 refine fn_of lk hcd S len fun A outer s H vs Q E hr hsp=>?_
 obtain ⟨t,h,q⟩:=hbody cdv A outer s H vs Q E hr hsp
 exact ⟨t,h.nox,q⟩
theorem Fun.binds {x qual:Str} {st:Stmt} {f:Addr} {fd:FuncData} {ps:List Str} (F:Fun K x qual st f fd)
  (h:∀ (kV doc pm:Value) (an:Option Addr) (cdv ct:Value) (us:List Value),us.length = ps.length→bindArgs (PySem.W.fnOf x qual (defArgs st) (defBody st) (defScope st) .none kV doc pm an cdv ct) ⟨us,[]⟩ = pure (ps.zip us)):Binds K fd ps []:=by
 obtain ⟨oc,od,kV,doc,pm,an,cdv,ct,osl,rfl,lk,hcd⟩:=F.ex
 exact .all (h kV doc pm an cdv ct)
theorem fun_mk {x qual:Str} {st:Stmt} {f:Addr} {oc:Value} {od an:Option Addr} {osl:Array (Option Value)} {kV doc pm cdv ct:Value} (l:K.lookup f = some ⟨oc,od,.func (PySem.W.fnOf x qual (defArgs st) (defBody st) (defScope st) .none kV doc pm an cdv ct),osl⟩)
  (c:PySem.W.codeIn K cdv qual = true) (k:PySem.W.keepIn K (.ref f) = true):Fun K x qual st f (PySem.W.fnOf x qual (defArgs st) (defBody st) (defScope st) .none kV doc pm an cdv ct):=⟨⟨oc,od,kV,doc,pm,an,cdv,ct,osl,rfl,l,c⟩,k⟩
end
section
variable {X:Cx}
theorem pv (i:Nat) {x:Str} {pos:Pos} (hN:X.N[i]? = some x:=by rfl) (hv:Vis X.env.scope x:=by first | exact Or.inl rfl | exact Or.inr (Or.inl rfl) | exact Or.inr (Or.inr rfl)) (hd:(x == ("__debug__":Str)) = false:=by decide)
  (hcd:(x == ("__classdict__":Str)) = false:=by decide):PE X (.Name x pos) (tVar i):=pe_var hN hv hd hcd
end
theorem ite2 {c A B:Prop} [Decidable c] (h1:c→A) (h2:¬ c→B):if c then A else B:=by
 by_cases h:c
 ·rw [if_pos h]
  exact h1 h
 ·rw [if_neg h]
  exact h2 h
def Same (H H':Hp):Prop:=∀ b o,H b = some o→H' b = some o
theorem Same.refl (H:Hp):Same H H:=fun _ _ h=>h
theorem Same.trans {H H1 H2:Hp} (a:Same H H1) (b:Same H1 H2):Same H H2:=fun c o h=>b c o (a c o h)
theorem Same.free {H H':Hp} (e:Same H H') {l:Addr} (h:H' l = Option.none):H l = Option.none:=by
 cases q:H l with
 | none=>rfl
 | some o =>
  rw [e l o q] at h
  cases h
theorem Same.seq {K:PySem.W.Frag} {H H':Hp} {a:Addr} {xs:List V} (e:Same H H') (h:SqL K H a xs):SqL K H' a xs:=by
 rcases h with (h | ⟨o,h⟩) | h
 ·exact .inl (.inl (e _ _ h))
 ·exact .inl (.inr ⟨o,e _ _ h⟩)
 ·exact .inr h
end L2
end
section
set_option Elab.async false
set_option linter.all false
set_option maxRecDepth 100000
namespace HT
open PySem PyProof.Rows
def lexLe:List Int→List Int→Bool
 | [],[]=>true
 | [],_ :: _=>true
 | _ :: _,[]=>false
 | x :: xs,y :: ys=>if x = y then lexLe xs ys else decide (x ≤ y)
theorem lexLe_cons (x y:Int) (xs ys:List Int):lexLe (x :: xs) (y :: ys) = if x = y then lexLe xs ys else decide (x ≤ y):=rfl
theorem lexLe_nil_nil:lexLe [] [] = true:=rfl
theorem lexLe_nil_cons (y:Int) (ys:List Int):lexLe [] (y :: ys) = true:=rfl
theorem lexLe_cons_nil (x:Int) (xs:List Int):lexLe (x :: xs) [] = false:=rfl
theorem eqAt_int2 (A:Around) (s:Shared) (a:Int) (t:Tok) (c:Int) (u:Tok):∃ e,SeqAt.EqAt A s (.int a t) (.int c u) e∧(e = true↔a = c) :=
 ⟨(a == c),SeqAt.EqAt.int_int a t c u,by simp⟩
theorem rcLe_int (A:Around) (s:Shared) (a:Int) (t:Tok) (c:Int) (u:Tok) (prog:Program) (w:World) (E:Value→Shared→Prop) (Q:Value→Shared→Prop) (h:Q (.bool (decide (a ≤ c))) s) :
  wpAny (model prog w) A (richCompare .LtE (.int a t) (.int c u)) Q E s :=
 (PyProof.Rows.le_int h:wpAny (model prog w) A (compareOp .LtE (.int a t) (.int c u)) Q E s)
section
open PySem.SeqAt
open PySem.AutoSeq1 (wpAny_loadPart')
open PySem.MeetsSeq PySem.MeetsSeq2 PySem.MeetsSeq3
theorem tuple_le_ints (l b:Addr) (items items2:Array Value) (n n2:Nat) (dd dd2:Option Addr) (sl sl2:Array (Option Value)) (ns ms:List Int) (hi:IntsAre items.toList ns) (hj:IntsAre items2.toList ms) :
  Meets (Builtin.«tuple.__le__» ⟨[.ref l,.ref b],[]⟩)
   (fun _ R s=>s.heap.get? l = some { cls:=.type "tuple",dict:=dd,data:=.seq items n,slots:=sl }∧s.heap.get? b = some { cls:=.type "tuple",dict:=dd2,data:=.seq items2 n2,slots:=sl2 } ∧
    R (.ok (.ret (.bool (lexLe ns ms)))) s) :=
 .of_wp fun prog w A R s h=>by
  obtain ⟨hp,g,d,tk,os⟩:=s; obtain ⟨hl,hb,h⟩:=h
  have f2:=AutoSeq1.sub_tuple_tuple
  have z1:items.size = ns.length:=by rw [← hi.length]; simp
  have z2:items2.size = ms.length:=by rw [← hj.length]; simp
  wp_walk using wpAny_loadPart' hl,wpAny_loadPart' hb,wpAny_forIn_list _ (fun rest b s'=>b.1 = none∧s' = ⟨hp,g,d,tk,os⟩∧∃ (vs ws:List Value) (ns' ms':List Int),rest = vs.zip ws ∧
   IntsAre vs ns'∧IntsAre ws ms'∧ns'.length + items2.size = ms'.length + items.size∧R (.ok (.ret (.bool (lexLe ns' ms')))) ⟨hp,g,d,tk,os⟩) _
  case turn =>
   rintro ⟨y,x⟩ rest b s' ⟨hb',rfl,vs,ws,ns',ms',hz,hvi,hwi,hlen,hR⟩
   cases hvi with
   | nil=>rw [List.zip_nil_left] at hz; cases hz
   | cons a t hvi' =>
    cases hwi with
    | nil=>rw [List.zip_nil_right] at hz; cases hz
    | cons c u hwi' =>
     rw [List.zip_cons_cons] at hz
     injection hz with hyx hrest
     injection hyx with hy hx
     subst hy hx
     rw [lexLe_cons] at hR
     simp only [List.length_cons] at hlen
     obtain ⟨e,he,hiff⟩:=eqAt_int2 A.in1 ⟨hp,g,d,tk,os⟩ a t c u
     refine wpAny_bind (he prog w _ _ ?_)
     cases e with
     | true =>
      rw [if_pos (hiff.mp rfl)] at hR
      wp_walk
      exact ⟨rfl,rfl,_,_,_,_,hrest,hvi',hwi',by omega,hR⟩
     | false =>
      rw [if_neg (fun q=>absurd (hiff.mpr q) Bool.false_ne_true)] at hR
      have hri:=rcLe_int A.in1 ⟨hp,g,d,tk,os⟩ a t c u prog w
      wp_walk using hri
      exact ⟨_,rfl,by simpa using hR⟩
  case fin =>
   rintro ⟨b1,b2⟩ s' ⟨hb',rfl,vs,ws,ns',ms',hz,hvi,hwi,hlen,hR⟩
   simp only at hb'
   subst hb'
   have hv:lexLe ns' ms' = decide (items.size ≤ items2.size):=by
    cases hvi with
    | nil =>
     cases hwi with
     | nil =>
      simp only [List.length_nil] at hlen
      rw [lexLe_nil_nil]
      exact (decide_eq_true (by omega)).symm
     | cons c u hw =>
      simp only [List.length_nil,List.length_cons] at hlen
      rw [lexLe_nil_cons]
      exact (decide_eq_true (by omega)).symm
    | cons a t hv =>
     cases hwi with
     | nil =>
      simp only [List.length_nil,List.length_cons] at hlen
      rw [lexLe_cons_nil]
      exact (decide_eq_false (by omega)).symm
     | cons c u hw =>
      rw [List.zip_cons_cons] at hz
      cases hz
   rw [hv] at hR
   wp_walk
   exact ⟨_,rfl,by simpa [Builtin.Tuple.tupleCompareSizes] using hR⟩
  case h =>
   exact ⟨rfl,rfl,items.toList,items2.toList,ns,ms,rfl,hi,hj,by omega,h⟩
end
section
variable {prog:Program} {w:World} {A:Around} {E:Value→Shared→Prop} {s:Shared}
theorem le_tupInts {l b:Addr} {items items2:Array Value} {ns ms:List Int} {Q:Value→Shared→Prop} (hl:IsTup s.heap l items) (hb:IsTup s.heap b items2) (hi:IntsAre items.toList ns) (hj:IntsAre items2.toList ms)
  (hu:A.units < cLine) (h:Q (.bool (lexLe ns ms)) s):wpAny (model prog w) A (compareOp .LtE (.ref l) (.ref b)) Q E s:=by
 obtain ⟨⟨cls,dd,data,sl⟩,ho,hc,n,hd⟩:=id hl
 obtain ⟨⟨cls2,dd2,data2,sl2⟩,ho2,hc2,n2,hd2⟩:=id hb
 simp only at hc hd hc2 hd2
 subst hc hd hc2 hd2
 exact richCompare_meets_room (op:=.LtE) ⟨_,ho,rfl⟩ ⟨_,ho2,rfl⟩ PySem.F.slot_tuple_le PySem.F.entry_tuple_le (PySem.F.args_tuple_le_2 _ _) (tuple_le_ints l b items items2 n n2 dd dd2 sl sl2 ns ms hi hj)
  ⟨ho,ho2,show Value.bool (lexLe ns ms) ≠ Value.notImplemented∧Q (.bool (lexLe ns ms)) s from ⟨(fun x=>nomatch x),h⟩⟩ hu
end
end HT
namespace L2
open PySem PySem.Spec PyProof.Rows
section
variable {X:Cx}
def rLeT (K:PySem.W.Frag):R2:=fun x y H Q=>∃ a b ns ms,x = .ref a∧y = .ref b∧SqT K H a (ns.map V.int)∧SqT K H b (ms.map V.int)∧Q (.bl (HT.lexLe ns ms)) H
theorem op_leT (hu:X.A.units < cLine):OpR X (compareOp .LtE) (rLeT X.K):=by
 intro pins s σ H x y v u Q I rx ry h
 obtain ⟨a,b,ns,ms,rfl,rfl,ha,hb,q⟩:=h
 cases rx
 cases ry
 obtain ⟨its,r1,p1,_⟩:=I.tuple ha
 obtain ⟨its2,r2,p2,_⟩:=I.tuple hb
 have i1:IntsAre its.toArray.toList ns:=intsAre_of r1
 have i2:IntsAre its2.toArray.toList ms:=intsAre_of r2
 exact HT.le_tupInts p1 p2 i1 i2 hu ⟨.bl (HT.lexLe ns ms),H,I,rfl,q⟩
end
end L2
end
section
set_option Elab.async false
set_option linter.all false
set_option maxRecDepth 100000
set_option maxHeartbeats 4000000
namespace L2
open PySem PySem.Spec PyProof.Rows
open AutoSeq1 (wpAny_loadPart')
theorem meets_extT (l b:Addr) (xs ys:Array Value) (n n2:Nat) (dd:Option Addr) (sl:Array (Option Value)) (h0:¬(!xs.isEmpty && Builtin.List.listTooLong (xs.size + ys.size)) = true) (h1:xs.size ≤ sizeLine) (h2:xs.size + ys.size ≤ sizeLine + 1) :
  Meets (Builtin.«list.extend» ⟨[.ref l,.ref b],[]⟩) (fun _ R s=>s.heap.get? l = some { cls:=.type "list",dict:=none,data:=.seq xs n,slots:=#[] }∧s.heap.get? b = some { cls:=.type "tuple",dict:=dd,data:=.seq ys n2,slots:=sl }∧R (.ok (.ret Value.none)) { s with heap:=s.heap.update l (Obj.mapSeq fun x=>x ++ ys),toks:=s.toks }) :=
 .of_wp fun prog w A R s h=>by
  obtain ⟨hp,g,d,tk,os⟩:=s; obtain ⟨hl,hb,h⟩:=h
  have f2:=AutoSeq1.sub_tuple_tuple; have f3:=AutoSeq1.sub_list_list; have f4:=AutoSeq1.sub_tuple_list; have f5:=AutoSeq1.sub_list_tuple
  have hz':(xs ++ ys).size ≤ sizeLine + 1:=by rw [Array.size_append]; exact h2
  wp_walk using (wpAny_updateSeq hl rfl (hz:=h1) (_hz':=hz')),wpAny_loadPart' hl,wpAny_loadPart' hb
  exact ⟨_,rfl,h⟩
section
variable {X:Cx}
def rExtT (K:PySem.W.Frag):V→List V→Hp→VK→Prop:=fun x vs H Q=>∃ l b xs zs,x = .ref l∧vs = [.ref b]∧H l = some (.lst xs)∧SqT K H b zs∧xs.length + zs.length ≤ sizeLine∧Q .non (upd H l (.lst (xs ++ zs)))
theorem mt_extT:MtM X "list.extend" (rExtT X.K):=by
 intro pins s σ H x vs v us Q I rx rv h
 obtain ⟨l,b,xs,zs,rfl,rfl,hH,hB,hz,q⟩:=h
 cases rx
 obtain ⟨u,rfl,ru⟩:=rv.one
 cases ru
 obtain ⟨z,its,n,r,hl,e⟩:=I.lstM hH
 obtain ⟨its2,r2,⟨⟨oc,od,odt,os⟩,e2,ec,n2,ed⟩,z2⟩:=I.tuple hB
 have hl2:=r2.length
 simp only at ec ed
 subst ec ed
 have hsz:its.toArray.size + its2.toArray.size ≤ sizeLine:=by rw [List.size_toArray,List.size_toArray]; omega
 have hlong:¬ (!its.toArray.isEmpty && Builtin.List.listTooLong (its.toArray.size + its2.toArray.size)) = true:=by
  rw [notLongL hsz,Bool.and_false]; exact Bool.false_ne_true
 refine call_meets F.slot_list_extend ⟨_,e,rfl⟩ F.entry_list_extend (F.args_list_extend_2 _ _) (meets_extT l b its.toArray its2.toArray n n2 _ _ hlong (by rw [List.size_toArray]; omega) (by omega)) ⟨e,e2,?_⟩
 refine ⟨.non,_,I.lset (its':=its ++ its2) hH e (by simp) (r.append r2) ?_,rfl,q⟩
 rw [List.length_append]; omega
theorem op_catT0:OpR X (binaryOp .Add) (fun x y H Q=>∃ a b ys,x = .ref a∧y = .ref b∧SqT X.K H a []∧SqT X.K H b ys∧Q (.ref b) H):=by
 intro pins s σ H x y v u Q I rx ry h
 obtain ⟨a,b,ys,rfl,rfl,ha,hb,q⟩:=h
 cases rx; cases ry
 obtain ⟨its,r1,⟨⟨oc,od,odt,os⟩,e1,ec,n,ed⟩,_⟩:=I.tuple ha
 obtain ⟨its2,r2,⟨⟨oc2,od2,odt2,os2⟩,e2,ec2,n2,ed2⟩,_⟩:=I.tuple hb
 simp only at ec ed ec2 ed2
 subst ec ed ec2 ed2
 cases r1
 exact concat_meets ⟨_,e1,rfl⟩ ⟨_,e2,rfl⟩ noFill_tuple_add seq_tuple_add F.slot_tuple_add F.entry_tuple_add (F.args_tuple_add_2 _ _) (tuple_addW0 a b #[] its2.toArray n n2 od od2 os os2 rfl) ⟨e1,e2,.ref b,H,I,rfl,q⟩
theorem sl_whole:SlR X (fun x lo hi H Q=>∃ a xs,x = .ref a∧SqT X.K H a xs∧HT.sIx xs.length 0 lo = 0∧HT.sIx xs.length xs.length hi = xs.length∧Q (.ref a) H):=by
 intro pins s σ H x v vl vu lo hi sl Q I rx hs pl pu h
 obtain ⟨t,xs,rfl,hx,h1,h2,q⟩:=h
 cases rx
 obtain ⟨its,r,ht,hz⟩:=I.tuple hx
 have hlen:its.toArray.size = xs.length:=by rw [List.size_toArray]; exact r.length.symm
 refine ⟨"tuple",_,PyProof.Rows.slot_tuple_getitem.lookup,ht.typeIs,?_⟩
 obtain ⟨os,eo,co,do'⟩:=id hs
 have ty:s.TypeIs (.ref sl) "slice":=⟨os,eo,co⟩
 rw [← hlen] at h1 h2
 unfold getItem
 try with_reducible refine wpAny_holding ?_
 first | refine wpAny_bind (wpAny_pure ?_) | skip
 refine wpAny_bind (wpAny_sequenceKey ht.typeIs (by decide) (wpAny_bind (wpAny_callSpecial?_slot (name:=Str.ofString "__getitem__") ht.typeIs PyProof.Rows.slot_tuple_getitem (wpAny_call_entry PyProof.Rows.slot_tuple_getitem ht.typeIs entry_tuple_getitem ?_ (args_tuple_getitem _ _)))))
 show wpAny _ _ (Builtin.Tuple.tupleItemsOf (.ref t) >>= _) _ _ s; refine wpAny_bind (tupleItemsOf_ ht (wpAny_bind (wpAny_typeOf ty ?_)))
 rw [if_pos (by decide)]; refine wpAny_bind (HT.sliceApplied_gen hs pl pu ?_)
 show wpAny _ _ (if (((HT.sIx its.toArray.size 0 lo:Nat):Int) == 0 && (1:Int) == 1 && (HT.sIx its.toArray.size its.toArray.size hi - HT.sIx its.toArray.size 0 lo) == its.toArray.size) = true then _ else _) _ _ s
 rw [if_pos (by rw [h1,h2]; simp)]
 refine wpAny_bind (m:=Builtin.Tuple.tupleIsExact (.ref t)) ?_
 unfold Builtin.Tuple.tupleIsExact
 refine wpAny_bind (wpAny_typeOf ht.typeIs (wpAny_pure ?_))
 rw [if_pos (by decide)]
 exact wpAny_bind (wpAny_rule (wpAny_pure ⟨_,rfl,wpAny_pure ⟨.ref t,H,I,rfl,q⟩⟩))
end
def Kept (h0 h:Heap) (N:Nat):Prop:=∀ b o,b < N→h0.get? b = some o→h.get? b = some o
def CmpAt (P:Program) (w:World) (A:Around) (I:Nat→Value→Prop) (bt:Nat→Nat→Bool) (h0:Heap) (N:Nat):Prop :=
 ∀ i j u v (s:Shared) (Q:Value→Shared→Prop) (E:Value→Shared→Prop),Kept h0 s.heap N→I i u→I j v→Q (.bool (bt i j)) s→wpAny (model P w) A (richCompare .Lt u v) Q E s
section
variable {P:Program} {w:World} {A:Around} {R:Result→Shared→Prop} {it S N:Addr} {fp wr:List Addr} {n:Nat} {V:Nat→Value→Prop} {St:Nat→Heap→Prop} {bt:Nat→Nat→Bool} {h0:Heap}
theorem least_loop (W:Walks P w A.in1 it fp wr n V St) (C:CmpAt P w A.in1 V bt h0 N) (sf:S ∉ fp) (nw:∀ b ∈ wr,N ≤ b) (nS:N ≤ S) :
  ∀ (k j:Nat) (s:Shared) (best:Value) (c:Nat),n - (j + 1) = k→j + 1 ≤ n→St (j + 1) s.heap→V (argBest bt j) best→Kept h0 s.heap N→s.heap.get? S = some { cls:=.type "list",dict:=none,data:=.seq #[best,best] c,slots:=#[] } →
  (∀ v h' tk,V (argBest bt (n - 1)) v→(∀ b o,b ∉ wr→b ≠ S→s.heap.get? b = some o→h'.get? b = some o)→R (.ok (.ret v)) { s with heap:=h',toks:=tk })→codeAny (model P w) A (.builtin "min.loop" ⟨[.ref it,.none,.ref S],[]⟩) R s:=by
 have sw:S ∉ wr:=fun h=>sf (W.sub _ h)
 have nm:(toString "min" ++ toString ".loop":String) = "min.loop":=by decide
 have low:∀ {b:Addr},b < N→b ∉ wr∧b ≠ S:=fun {b} hb=>⟨fun z=>absurd (nw b z) (Nat.not_le.mpr hb),fun z=>absurd nS (by rw [← z]; exact Nat.not_le.mpr hb)⟩
 intro k
 induction k with
 | zero =>
  intro j s best c hk hj hst hV kp hS hR
  have en:j + 1 = n:=by omega
  refine codeAny_builtin F.entry_min_loop ?_; rw [Around.under_plainId F.plain_min_loop _]
  show wpAny _ A.in1 (seqItems? (.ref S) >>= _) _ _ s; refine wpAny_bind (wpAny_seqItems hS rfl ?_)
  show wpAny _ A.in1 (tryCatch (pyNext (.ref it)) _ >>= _) _ _ s; refine wpAny_bind (wpAny_tryCatch (W.done s _ _ (en ▸ hst) fun g tk kk=>?_))
  have S1:=kk S _ sw hS
  show wpAny _ A.in1 (updateSeq S (fun _=>#[]) >>= _) _ _ _; refine wpAny_bind (wpAny_updateSeq S1 rfl (wpAny_bind (wpAny_letGo (wpAny_pure ?_))))
  exact hR best _ tk (by rw [← en]; exact hV) fun b o c1 c2 e=>(Heap.get?_update_other _ _ (Ne.symm c2)).trans (kk b o c1 e)
 | succ k ih =>
  intro j s best c hk hj hst hV kp hS hR
  have lt:j + 1 < n:=by omega
  refine codeAny_builtin F.entry_min_loop ?_; rw [Around.under_plainId F.plain_min_loop _]
  show wpAny _ A.in1 (seqItems? (.ref S) >>= _) _ _ s; refine wpAny_bind (wpAny_seqItems hS rfl ?_)
  show wpAny _ A.in1 (tryCatch (pyNext (.ref it)) _ >>= _) _ _ s; refine wpAny_bind (wpAny_tryCatch (W.item (j + 1) s _ _ lt hst fun v g tk vP st1 kk=>?_))
  have S1:=kk S _ sw hS
  have kp1:Kept h0 g N:=fun b o hb e=>kk b o (low hb).1 (kp b o hb e)
  show wpAny _ A.in1 (tryCatch (holding [v,v] (richCompare .Lt v best >>= _)) _ >>= _) _ _ _
  refine wpAny_bind (wpAny_tryCatch (wpAny_holding (wpAny_bind (C (j + 1) (argBest bt j) v best _ _ _ kp1 vP hV (wpAny_bind (wpAny_holding (wpAny_truthy_bool (wpAny_bind (wpAny_letGo (wpAny_pure ?_))))))))))
  cases hb:bt (j + 1) (argBest bt j) with
  | true =>
   simp only [if_true]; refine wpAny_bind (wpAny_updateSeq S1 rfl (wpAny_bind (wpAny_letGo ?_))); rw [nm]
   refine wpAny_pure ⟨plainId_quiet F.plain_min_loop _,ih (j + 1) _ v _ (by omega) lt (W.frame _ _ _ st1 fun b bf o e=>(Heap.get?_update_other _ _ (fun h:S = b=>sf (by rw [h]; exact bf))).trans e) (by simp only [argBest,hb,if_true]; exact vP)
    (fun b o l e=>(Heap.get?_update_other _ _ (Ne.symm (low l).2)).trans (kp1 b o l e)) (Heap.get?_update_self _ S1 rfl) fun v' g' tk' p' k'=>?_⟩
   exact hR v' g' tk' p' fun b o c1 c2 e=>k' b o c1 c2 ((Heap.get?_update_other _ _ (Ne.symm c2)).trans (kk b o c1 e))
  | false =>
   simp only [Bool.false_eq_true,if_false]; refine wpAny_bind (wpAny_letGo ?_); rw [nm]
   refine wpAny_pure ⟨plainId_quiet F.plain_min_loop _,ih (j + 1) _ best c (by omega) lt st1 (by simp only [argBest,hb,Bool.false_eq_true,if_false]; exact hV) kp1 S1 fun v' g' tk' p' k'=>?_⟩
   exact hR v' g' tk' p' fun b o c1 c2 e=>k' b o c1 c2 (kk b o c1 e)
theorem least_first (W:Walks P w A.in1 it fp wr n V St) (C:CmpAt P w A.in1 V bt h0 N) (sf:S ∉ fp) (nw:∀ b ∈ wr,N ≤ b) (nS:N ≤ S) (hn:0 < n) {s:Shared} {c:Nat} (hst:St 0 s.heap) (kp:Kept h0 s.heap N)
  (hS:s.heap.get? S = some { cls:=.type "list",dict:=none,data:=.seq #[] c,slots:=#[] })
  (hR:∀ v h' tk,V (argBest bt (n - 1)) v→(∀ b o,b ∉ wr→b ≠ S→s.heap.get? b = some o→h'.get? b = some o)→R (.ok (.ret v)) { s with heap:=h',toks:=tk }):codeAny (model P w) A (.builtin "min.loop" ⟨[.ref it,.none,.ref S],[]⟩) R s:=by
 have sw:S ∉ wr:=fun h=>sf (W.sub _ h)
 have nm:(toString "min" ++ toString ".loop":String) = "min.loop":=by decide
 have low:∀ {b:Addr},b < N→b ∉ wr∧b ≠ S:=fun {b} hb=>⟨fun z=>absurd (nw b z) (Nat.not_le.mpr hb),fun z=>absurd nS (by rw [← z]; exact Nat.not_le.mpr hb)⟩
 refine codeAny_builtin F.entry_min_loop ?_; rw [Around.under_plainId F.plain_min_loop _]
 show wpAny _ A.in1 (seqItems? (.ref S) >>= _) _ _ s; refine wpAny_bind (wpAny_seqItems hS rfl ?_)
 show wpAny _ A.in1 (tryCatch (pyNext (.ref it)) _ >>= _) _ _ s; refine wpAny_bind (wpAny_tryCatch (W.item 0 s _ _ hn hst fun v g tk vP st1 kk=>?_))
 have S1:=kk S _ sw hS
 show wpAny _ A.in1 (updateSeq S (fun _=>#[v,v]) >>= _) _ _ _; refine wpAny_bind (wpAny_updateSeq S1 rfl ?_); rw [nm]
 refine wpAny_pure ⟨plainId_quiet F.plain_min_loop _,least_loop W C sf nw nS _ 0 _ v _ rfl hn (W.frame _ _ _ st1 fun b bf o e=>(Heap.get?_update_other _ _ (fun h:S = b=>sf (by rw [h]; exact bf))).trans e) vP
  (fun b o l e=>(Heap.get?_update_other _ _ (Ne.symm (low l).2)).trans (kk b o (low l).1 (kp b o l e))) (Heap.get?_update_self _ S1 rfl) fun v' g' tk' p' k'=>?_⟩
 exact hR v' g' tk' p' fun b o c1 c2 e=>k' b o c1 c2 ((Heap.get?_update_other _ _ (Ne.symm c2)).trans (kk b o c1 e))
end
section
variable {P:Program} {w:World} {A:Around} {E:Value→Shared→Prop} {s:Shared}
theorem call_least {l:Addr} {xs:Array Value} {bt:Nat→Nat→Bool} {Q:Value→Shared→Prop} (hh:A.in1.handled = none) (hl:s.heap.IsList l xs) (hn:0 < xs.size) (C:CmpAt P w A.in1 (fun i v=>xs[i]? = some v) bt s.heap s.heap.objs.size)
  (K:∀ v h' tk,xs[argBest bt (xs.size - 1)]? = some v→(∀ b o,s.heap.get? b = some o→h'.get? b = some o)→Q v { s with heap:=h',toks:=tk }):wpAny (model P w) A (call (.builtin "min") [.ref l]) Q E s:=by
 have nm:(toString "min" ++ toString ".loop":String) = "min.loop":=by decide
 have ll:l < s.heap.objs.size:=by obtain ⟨_,e,_⟩:=hl; exact Heap.lt_size e
 refine call_function_tree F.kind_min F.plain_min F.entry_min (F.args_min1 _) ?_
 show wpAny _ A.in1 (Builtin.Builtins.bindParams "min" ["key","default"] 0 ⟨[],[]⟩ >>= _) _ _ s
 refine wpAny_bind (wpAny_of_eq (show Builtin.Builtins.bindParams "min" ["key","default"] 0 ⟨[],[]⟩ = pure [none,none] from rfl) (wpAny_bind (wpAny_pure (wpAny_bind (wpAny_pyIter_list hl ?_)))))
 have W:=Walks.list (prog:=P) (w:=w) hh s.heap.objs.size l (Nat.ne_of_lt ll) xs
 refine wpAny_bind (wpAny_newObj_type ?_)
 rw [nm]
 have z1:(s.heap.push { cls:=.type "list_iterator",data:=.fields #[.ref l,.int 0 0] }).objs.size = s.heap.objs.size + 1:=Heap.size_push ..
 refine wpAny_pure ⟨plainId_quiet F.plain_min_loop _,least_first (S:=(s.heap.push { cls:=.type "list_iterator",data:=.fields #[.ref l,.int 0 0] }).objs.size) W C ?_ ?_ ?_ hn ⟨⟨_,Heap.get?_push_of_some _ (Heap.get?_push_size _ rfl),rfl,rfl⟩,(hl.push _).push _⟩
  (fun b o hb e=>Heap.get?_push_of_some _ (Heap.get?_push_of_some _ e)) (Heap.get?_push_size _ rfl) fun v h' tk hv hk=>?_⟩
 ·rw [z1]; intro z; simp only [List.mem_cons,List.not_mem_nil,or_false] at z; rcases z with z | z
  ·exact absurd z (Nat.ne_of_gt (Nat.lt_succ_self _))
  ·exact absurd z (Nat.ne_of_gt (Nat.lt_succ_of_lt ll))
 ·intro b hb; simp at hb; rw [hb]; exact Nat.le_refl _
 ·rw [z1]; exact Nat.le_succ _
 ·refine K v h' tk hv fun b o e=>hk b o (by simp; exact Nat.ne_of_lt (Heap.lt_size e)) ?_ (Heap.get?_push_of_some _ (Heap.get?_push_of_some _ e))
  rw [z1]; exact Nat.ne_of_lt (Nat.lt_succ_of_lt (Heap.lt_size e))
end
end L2
end
section
set_option Elab.async false
set_option linter.all false
set_option maxRecDepth 100000
set_option maxHeartbeats 4000000
namespace L2
open PySem PySem.Spec PyProof.Rows
theorem fm_congr {α β:Type} {f g:α→Option β} {l:List α} (h:∀ x ∈ l,f x = g x):l.filterMap f = l.filterMap g:=by
 induction l with
 | nil=>rfl
 | cons a l ih =>
  rw [List.filterMap_cons,List.filterMap_cons,h a (List.mem_cons_self ..),ih fun x hx=>h x (List.mem_cons_of_mem _ hx)]
theorem turned_list {α:Type} (m:List α):(List.range m.length).filterMap (fun k=>m.reverse[m.length - 1 - k]?) = m:=by
 induction m with
 | nil=>rfl
 | cons a m ih =>
  rw [List.length_cons,List.range_succ_eq_map,List.filterMap_cons,List.filterMap_map]
  have e0:(a :: m).reverse[m.length + 1 - 1 - 0]? = some a:=by
   rw [List.reverse_cons,List.getElem?_append_right (by simp)]; simp
  rw [e0]
  refine congrArg (a :: ·) ?_
  refine Eq.trans ?_ ih
  refine fm_congr fun k hk=>?_
  have hk:k < m.length:=by simpa using hk
  show (a :: m).reverse[m.length + 1 - 1 - (k + 1)]? = _
  rw [List.reverse_cons,List.getElem?_append_left (by simp; omega)]
  congr 1
  omega
theorem turned_pick (xs:Array Value):((List.range xs.size).filterMap fun (m:Nat)=>xs[(((xs.size:Int) - 1) + (m:Int) * (-1)).toNat]?).toArray = xs.toList.reverse.toArray:=by
 have:=turned_list xs.toList.reverse
 rw [List.reverse_reverse,List.length_reverse,Array.length_toList] at this
 rw [← this]
 congr 1
 refine fm_congr fun k hk=>?_
 have hk:k < xs.size:=by simpa using hk
 rw [Array.getElem?_toList]
 congr 1
 omega
section
variable {prog:Program} {w:World} {A:Around} {E:Value→Shared→Prop} {s:Shared}
theorem turned_applied {sl:Addr} {t:Tok} {n:Nat} {Q:Int×Int×Nat→Shared→Prop} (hs:s.heap.IsSliceOf sl .none .none (.int (-1) t))
  (h:Q ((n:Int) - 1,-1,n) s):wpAny (model prog w) A (Builtin.Slice.sliceApplied (.ref sl) (pure (n:Int))) Q E s:=by
 obtain ⟨os,hos,hcs,hds⟩:=id hs
 unfold Builtin.Slice.sliceApplied Builtin.Slice.sliceFields
 refine wpAny_bind (wpAny_bind (wpAny_field hos hds (x:=.none) rfl (wpAny_bind (wpAny_field hos hds (x:=.none) rfl (wpAny_bind (wpAny_field hos hds (x:=.int (-1) t) rfl (wpAny_pure ?_)))))))
 refine wpAny_bind (slicePart_int ?_)
 show wpAny _ _ (if ((-1:Int) == 0) = true then _ else _) _ _ s
 rw [if_neg (by decide)]
 refine wpAny_bind (slicePart_none (wpAny_bind (slicePart_none (wpAny_bind (wpAny_pure ?_)))))
 show wpAny _ _ (pure ((n:Int) - 1,(-1:Int),Builtin.Slice.slicePlaces ((n:Int) - 1) (-1) (-1))) _ _ s
 have e:Builtin.Slice.slicePlaces ((n:Int) - 1) (-1) (-1) = n:=by
  unfold Builtin.Slice.slicePlaces
  rw [if_neg (by decide)]
  split
  ·rw [show (- -1:Int) = 1 by decide,Int.ediv_one]; omega
  ·omega
 rw [e]
 exact wpAny_pure h
theorem turned_item {t sl:Addr} {items:Array Value} {tk:Tok} {Q:Value→Shared→Prop} (ht:IsTup s.heap t items) (hs:s.heap.IsSliceOf sl .none .none (.int (-1) tk))
  (h:Q (.ref s.heap.objs.size) { s with heap:=s.heap.push { cls:=.type "tuple",data:=.seq items.toList.reverse.toArray } })
  (hsz:items.size ≤ sizeLine):wpAny (model prog w) A (getItem (.ref t) (.ref sl)) Q E s:=by
 have htake:sizeOk (.seq items.toList.reverse.toArray):=by
  show items.toList.reverse.toArray.size ≤ sizeLine
  rw [List.size_toArray,List.length_reverse,Array.length_toList]
  exact hsz
 obtain ⟨os,hos,hcs,hds⟩:=id hs
 have hTs:s.TypeIs (.ref sl) "slice":=⟨os,hos,hcs⟩
 unfold getItem
 try with_reducible refine wpAny_holding ?_
 first | refine wpAny_bind (wpAny_pure ?_) | skip
 refine wpAny_bind (wpAny_sequenceKey ht.typeIs (by decide) (wpAny_bind (wpAny_callSpecial?_slot (name:=Str.ofString "__getitem__") ht.typeIs PyProof.Rows.slot_tuple_getitem (wpAny_call_entry PyProof.Rows.slot_tuple_getitem ht.typeIs entry_tuple_getitem ?_ (args_tuple_getitem _ _)))))
 show wpAny _ _ (Builtin.Tuple.tupleItemsOf (.ref t) >>= _) _ _ s; refine wpAny_bind (tupleItemsOf_ ht (wpAny_bind (wpAny_typeOf hTs ?_)))
 rw [if_pos (by decide)]; refine wpAny_bind (turned_applied hs ?_)
 show wpAny _ _ (if (((items.size:Int) - 1) == 0 && (-1:Int) == 1 && items.size == items.size) = true then _ else _) _ _ s
 rw [if_neg (by simp),turned_pick]
 first
  | exact wpAny_bind (m:=Builtin.Tuple.tupleExact _) (wpAny_newObj_type (wpAny_pure ⟨_,rfl,wpAny_pure h⟩) htake)
  | exact wpAny_bind (m:=Builtin.Tuple.tupleExact _) (wpAny_newObj_type (wpAny_bind (wpAny_pure (wpAny_pure ⟨_,rfl,wpAny_pure h⟩))) htake)
  | exact wpAny_bind (wpAny_bind (m:=Builtin.Tuple.tupleExact _) (wpAny_newObj_type (wpAny_pure (wpAny_pure ⟨_,rfl,wpAny_pure h⟩)) htake))
  | exact wpAny_bind (wpAny_bind (m:=Builtin.Tuple.tupleExact _) (wpAny_newObj_type (wpAny_pure ⟨_,rfl,wpAny_pure h⟩) htake))
end
section
variable {X:Cx} {a e k:Expr} {ta te tk:TE} {pos p2:Pos}
theorem pe_turned (he:PE X e te) (hk:PE X k tk):PE X (.Subscript e (.Slice none none (some k) p2) pos) (fun σ H Q=>te σ H fun x H1=>tk σ H1 fun y H2=>y = .int (-1)∧∃ a xs,x = .ref a∧SqT X.K H2 a xs∧∀ p,H2 p = none→Q (.ref p) (upd H2 p (.tup xs.reverse))):=by
 intro pins s σ H Q I h
 refine Subscript_ (thn (he pins s σ H _ I h) fun v s1 ⟨x,H1,I1,r1,q1⟩=>?_)
 refine wpAny_Slice ?_
 rw [evalPart_none]
 refine wpAny_pure (wpAny_pure ?_)
 rw [evalPart_some]
 refine thn (hk pins s1 σ H1 _ I1 q1) fun vk s2 ⟨y,H2,I2,pk,q2⟩=>?_
 obtain ⟨rfl,a,xs,rfl,hx,q⟩:=q2
 obtain ⟨tk,rfl⟩:=pk
 cases r1
 have I3:Inv X pins σ H2 { s2 with heap:=s2.heap.push { cls:=.type "slice",data:=.fields #[.none,.none,.int (-1) tk] } }:=I2.kept (t':=s2.toks) fun b ob q=>Heap.get?_push_of_some _ q
 obtain ⟨its,r,ht,hz⟩:=I3.tuple hx
 have hlen:its.toArray.size = xs.length:=by rw [List.size_toArray]; exact r.length.symm
 refine tail_any (ops:=[.ref a,.ref s2.heap.objs.size]) ht.typeIs PyProof.Rows.slot_tuple_getitem.lookup (turned_item ht (Heap.IsSliceOf.new ..) ?_ (by rw [hlen]; exact hz)) (by with_unfolding_all rfl)
 refine ⟨.ref _,_,I3.laid (t':=s2.toks) (o:=.tup xs.reverse) (fun b ob q=>Heap.get?_push_of_some _ q) (Nat.le_refl _) ?_,rfl,q _ (I3.hok.fresh (Nat.le_refl _))⟩
 exact ⟨by rw [List.length_reverse]; exact hz,_,r.reverse,IsTup.new _ _⟩
theorem RelV.bool_iff {x:V} {v:Value} {b:Bool} (r:RelV x v):(v == Value.bool b) = decide (x = .bl b):=by
 cases x with
 | non=>cases r; rfl
 | bl c=>cases r; cases c <;> cases b <;> rfl
 | int _=>obtain ⟨t,rfl⟩:=r; rfl
 | str _=>obtain ⟨t,rfl⟩:=r; rfl
 | byt _=>obtain ⟨t,rfl⟩:=r; rfl
 | flt _=>obtain ⟨t,rfl⟩:=r; rfl
 | ref _=>cases r; rfl
 | ty _=>cases r; rfl
theorem is_bool_gen {M:Model} {A:Around} {E:Value→Shared→Prop} {s:Shared} {Q:Value→Shared→Prop} {x:V} {v:Value} {b:Bool} (r:RelV x v) (h:Q (.bool (decide (x = .bl b))) s):wpAny M A (compareOp .Is v (.bool b)) Q E s:=by
 rw [← r.bool_iff] at h
 cases x with
 | bl c=>cases r; exact wpAny_pure h
 | non=>cases r; exact wpAny_pure h
 | ref _=>cases r; exact wpAny_pure h
 | ty _=>cases r; exact wpAny_pure h
 | _=>obtain ⟨t,rfl⟩:=r; exact wpAny_pure h
theorem isnot_bool_gen {M:Model} {A:Around} {E:Value→Shared→Prop} {s:Shared} {Q:Value→Shared→Prop} {x:V} {v:Value} {b:Bool} (r:RelV x v) (h:Q (.bool (!decide (x = .bl b))) s):wpAny M A (compareOp .IsNot v (.bool b)) Q E s:=by
 rw [← r.bool_iff] at h
 cases x with
 | bl c=>cases r; exact wpAny_pure h
 | non=>cases r; exact wpAny_pure h
 | ref _=>cases r; exact wpAny_pure h
 | ty _=>cases r; exact wpAny_pure h
 | _=>obtain ⟨t,rfl⟩:=r; exact wpAny_pure h
theorem pc_isB {b:Bool} {j pos'} (ha:PE X a ta):PC X .Is a (.Constant (.bool b) j pos') (fun σ H Q=>ta σ H fun x H1=>Q (.bl (decide (x = .bl b))) H1):=by
 intro pins s σ H Q I h
 refine thn (ha pins s σ H _ I h) fun v s1 ⟨x,H1,I1,r1,q1⟩=>?_
 exact Constant_bool (is_bool_gen r1 ⟨.bl _,H1,I1,rfl,q1⟩)
theorem pc_notB {b:Bool} {j pos'} (ha:PE X a ta):PC X .IsNot a (.Constant (.bool b) j pos') (fun σ H Q=>ta σ H fun x H1=>Q (.bl (!decide (x = .bl b))) H1):=by
 intro pins s σ H Q I h
 refine thn (ha pins s σ H _ I h) fun v s1 ⟨x,H1,I1,r1,q1⟩=>?_
 exact Constant_bool (isnot_bool_gen r1 ⟨.bl _,H1,I1,rfl,q1⟩)
end
end L2
end
section
set_option Elab.async false
set_option linter.all false
set_option maxRecDepth 100000
set_option maxHeartbeats 4000000
namespace L2
open PySem PySem.Spec PyProof.Rows
def clGo (cells:List (Str×Addr)):List (Str×NameKind)→List (Str×Addr)→List (Str×Addr)
 | [],acc=>acc
 | (n,k) :: r,acc=>if (k == NameKind.free) = true then clGo cells r ((n,(cells.lookup n).getD 0) :: acc) else clGo cells r acc
theorem clGo_run {env:Env}:∀ (names:List (Str×NameKind)) (acc:List (Str×Addr)),(∀ p ∈ names,p.2 = .free→∃ c,env.cells.lookup p.1 = some c) →
  (forIn names acc fun (x:Str×NameKind) (cs:List (Str×Addr))=>if (x.2 == NameKind.free) = true then cellOf env x.1 >>= fun c=>pure (ForInStep.yield ((x.1,c) :: cs)) else pure (ForInStep.yield cs):Sem (List (Str×Addr))) = pure (clGo env.cells names acc)
 | [],acc,_=>rfl
 | (n,k) :: r,acc,h=>by
  have ih:=clGo_run (env:=env) r
  rw [List.forIn_cons]
  unfold clGo
  by_cases hk:(k == NameKind.free) = true
  ·obtain ⟨c,hc⟩:=h (n,k) List.mem_cons_self (by simpa using hk)
   have hcell:cellOf env n = pure c:=by
    have hc':env.cells.lookup n = some c:=hc
    unfold cellOf; rw [hc']
   have hc':env.cells.lookup n = some c:=hc
   simp only [hk,if_true,hcell,hc',Option.getD_some,pure_bind]
   exact ih _ fun p hp=>h p (List.mem_cons_of_mem _ hp)
  ·simp only [hk,if_false,pure_bind,Bool.false_eq_true]
   exact ih _ fun p hp=>h p (List.mem_cons_of_mem _ hp)
theorem closure_is {scope:Scope} {env:Env} (h:∀ p ∈ scope.names,p.2 = .free→∃ c,env.cells.lookup p.1 = some c):closureFor scope env = pure (clGo env.cells scope.names []):=by
 have q:=clGo_run (env:=env) scope.names [] h
 unfold closureFor
 first
  | exact (by rw [q]; rfl)
  | (simp only [bind_pure]; exact q)
theorem clGo_lookup {cells:List (Str×Addr)} {x:Str} {c:Addr}:∀ (names:List (Str×NameKind)) (acc:List (Str×Addr)),(∀ p ∈ names,p.2 = .free→∃ c,cells.lookup p.1 = some c)→(∀ y d,acc.lookup y = some d→cells.lookup y = some d) →
  (clGo cells names acc).lookup x = some c→cells.lookup x = some c
 | [],acc,_,ha,h=>ha x c h
 | (n,k) :: r,acc,hn,ha,h=>by
  unfold clGo at h
  split at h
  ·rename_i hk
   refine clGo_lookup r _ (fun p hp=>hn p (List.mem_cons_of_mem _ hp)) (fun y d hy=>?_) h
   rw [List.lookup_cons] at hy
   obtain ⟨c',hc'⟩:=hn (n,k) List.mem_cons_self (by simpa using hk)
   have hc'':cells.lookup n = some c':=hc'
   split at hy
   ·rename_i hyn
    have e:y = n:=by simpa using hyn
    subst e
    rw [hc''] at hy ⊢
    exact hy
   ·exact ha y d hy
  ·exact clGo_lookup r _ (fun p hp=>hn p (List.mem_cons_of_mem _ hp)) ha h
theorem clGo_has {cells:List (Str×Addr)} {x:Str}:∀ (names:List (Str×NameKind)) (acc:List (Str×Addr)),((x,NameKind.free) ∈ names ∨ ∃ c,acc.lookup x = some c)→∃ c,(clGo cells names acc).lookup x = some c
 | [],acc,h=>by
  rcases h with h | h
  ·simp at h
  ·exact h
 | (n,k) :: r,acc,h=>by
  unfold clGo
  split
  ·refine clGo_has r _ ?_
   by_cases hx:x = n
   ·subst hx
    exact .inr ⟨(cells.lookup x).getD 0,by rw [List.lookup_cons]; simp⟩
   ·rcases h with h | ⟨c,h⟩
    ·rcases List.mem_cons.mp h with h | h
     ·cases h; exact absurd rfl hx
     ·exact .inl h
    ·refine .inr ⟨c,?_⟩
     rw [List.lookup_cons]
     have:(x == n) = false:=by simpa using hx
     rw [this]
     exact h
  ·rename_i hk
   refine clGo_has r _ ?_
   rcases h with h | h
   ·rcases List.mem_cons.mp h with h | h
    ·cases h; simp at hk
    ·exact .inl h
   ·exact .inr h
theorem relabel_back {env : Env} {x : Str} : ∀ {names : List (Str × NameKind)}, (∀ p ∈ names, p.2 ≠ .cell) →
    ((names.map fun (n, k) => if (k == NameKind.free && env.scope.kind == .function && env.kindOf n == some .cell) then (n, NameKind.cell) else (n, k)).lookup x = some .cell ∨
     (names.map fun (n, k) => if (k == NameKind.free && env.scope.kind == .function && env.kindOf n == some .cell) then (n, NameKind.cell) else (n, k)).lookup x = some .free) → (x, NameKind.free) ∈ names
  | [], _, h => by rcases h with h | h <;> simp at h
  | (n, k) :: r, hc, h => by
    have ih := @relabel_back env x r fun p hp => hc p (List.mem_cons_of_mem _ hp)
    rw [List.map_cons] at h
    by_cases hk : (k == NameKind.free && env.scope.kind == .function && env.kindOf n == some .cell) = true
    · simp only [hk, if_true] at h
      cases hx : x == n with
      | true =>
        have e : x = n := by simpa using hx
        have : k = .free := by simp only [Bool.and_eq_true] at hk; simpa using hk.1.1
        rw [e, this]; exact List.mem_cons_self
      | false =>
        simp only [List.lookup_cons, hx] at h
        exact List.mem_cons_of_mem _ (ih h)
    · simp only [hk, if_false, Bool.false_eq_true] at h
      cases hx : x == n with
      | true =>
        have e : x = n := by simpa using hx
        simp only [List.lookup_cons, hx] at h
        rcases h with h | h
        · exact absurd (Option.some.inj h) (hc (n, k) List.mem_cons_self)
        · rw [e, ← Option.some.inj h]; exact List.mem_cons_self
      | false =>
        simp only [List.lookup_cons, hx] at h
        exact List.mem_cons_of_mem _ (ih h)
def hidN (x:Str):Str:=Str.ofString "#" ++ x
def maskN (own:List Str) (x:Str):Str:=if own.contains x then hidN x else x
def cxC (X:Cx) (scope:Scope) (own:List Str) (fp:List Addr) (C:Addr) (s:Shared) (H:Hp):Cx :=
 { X with N:=X.N.map (maskN own) ++ own,s₀:=s,H₀:=H,env:=compEnvC scope (clGo X.env.cells scope.names []) C X.env,outer:=X.stack,stack:=X.stack,ex:=fp,fn:=fun _=>false,pn:=[],xe:=fun _ _=>False }
structure CScope (X:Cx) (scope:Scope) (own:List Str):Prop where
 kind:scope.kind = .function
 nocell:∀ p ∈ scope.names,p.2 ≠ .cell
 names:∀ p ∈ scope.names,p.2 = .local→scope.names.lookup p.1 = some .local
 free:∀ p ∈ scope.names,p.2 = .free→X.env.kindOf p.1 = some .cell ∨ X.env.kindOf p.1 = some .free
 apart:∀ x ∈ X.N,own.contains x = false→scope.names.lookup x ≠ some .local
 hid:∀ x ∈ X.N,own.contains x = true→scope.names.lookup (hidN x) = none
section
variable {X:Cx}
theorem relabel_local {env:Env} {x:Str}:∀ {names:List (Str×NameKind)},
  (names.map fun (n,k)=>if (k == NameKind.free && env.scope.kind == .function && env.kindOf n == some .cell) then (n,NameKind.cell) else (n,k)).lookup x = some .local→names.lookup x = some .local
 | [],h=>by simp at h
 | (n,k) :: r,h=>by
  have ih:=@relabel_local env x r
  rw [List.map_cons] at h
  rw [List.lookup_cons]
  by_cases hk:(k == NameKind.free && env.scope.kind == .function && env.kindOf n == some .cell) = true
  ·simp only [hk,if_true] at h
   cases hx:x == n with
   | true=>simp [List.lookup_cons,hx] at h
   | false =>
    simp only [List.lookup_cons,hx] at h
    exact ih h
  ·simp only [hk,if_false,Bool.false_eq_true] at h
   cases hx:x == n with
   | true=>simpa [List.lookup_cons,hx] using h
   | false =>
    simp only [List.lookup_cons,hx] at h
    exact ih h
theorem relabel_none {env:Env} {scope:Scope} {x:Str} (h:scope.names.lookup x = none):(relabel scope env).names.lookup x = none:=by
 unfold relabel
 simp only
 generalize scope.names = l at h
 induction l with
 | nil=>rfl
 | cons p r ih =>
  obtain ⟨n,k⟩:=p
  rw [List.lookup_cons] at h
  cases e:(x == n) with
  | true=>rw [e] at h; cases h
  | false =>
   rw [e] at h
   rw [List.map_cons]
   split
   ·rw [List.lookup_cons,e]; exact ih h
   ·rw [List.lookup_cons,e]; exact ih h
theorem inv_comp {scope:Scope} {own:List Str} {fp:List Addr} {pins:List (Addr×Obj)} {σ:St} {H:Hp} {s:Shared} {h4:Heap} {t4:Nat} (I:Inv X pins σ H s) (SC:CScope X scope own) (hc:X.calm = true)
  (hf:∀ b ∈ fp,FpOk X pins H b) (hfo:∀ b ∈ fp,∃ o,s.heap.get? b = some o)
  (hns:h4.Ns s.heap.objs.size (fun _=>none)) (hk:∀ b o,s.heap.get? b = some o→h4.get? b = some o) :
  Inv (cxC X scope own fp s.heap.objs.size s H) [] (σ ++ List.replicate own.length none) H { s with heap:=h4,toks:=t4 }:=by
 have fr:∀ p ∈ scope.names,p.2 = .free→∃ c,X.env.cells.lookup p.1 = some c:=fun p hp hq=>I.ok.has p.1 (SC.free p hp hq)
 have cl:∀ {x:Str} {c:Addr},(clGo X.env.cells scope.names []).lookup x = some c→X.env.cells.lookup x = some c:=fun h=>clGo_lookup scope.names [] fr (fun y d hy=>by simp at hy) h
 have clt:∀ {x:Str} {c:Addr},X.env.cells.lookup x = some c→c < s.heap.objs.size:=fun h=>by obtain ⟨v,q⟩:=I.cell _ _ h; exact q.lt
 refine ⟨⟨I.ok.mod,SC.kind,I.ok.glob,I.ok.blt,Nat.le_refl _,fun x y c h1 h2=>I.ok.inj x y c (cl h1) (cl h2),fun x hx=>?_,fun x c h=>absurd h (by simp [cxC]),fun _=>I.ok.hd hc,I.ok.frames,.inl rfl,fun b hb=>?_,
   fun b o e=>I.bs b o e,Nat.le_trans I.ok.bsz I.sz,fun b o e hb=>?_,fun b hb hz=>?_,I.stack,I.stkFree⟩,
  rfl,I.bare,Un.kept hk,⟨_,hns,fun i x v e1 e2 e3=>?_⟩,fun x c h=>?_,I.fresh,fun x c h=>I.freeC x c (cl h),fun p hp=>absurd (show p ∈ ([]:List (Addr×Obj)) from hp) (by simp),I.hok.kept hk,?_⟩
 ·have hx:(relabel scope X.env).names.lookup x = some .cell ∨ (relabel scope X.env).names.lookup x = some .free:=hx
  exact clGo_has scope.names [] (.inl (relabel_back SC.nocell hx))
 ·have hb:b ∈ fp:=hb
  obtain ⟨o,ho⟩:=hfo b hb
  exact ⟨Nat.ne_of_lt (Heap.lt_size ho),fun x c h=>(hf b hb).2.2.2.2.1 x c (cl h)⟩
 ·have hb:b ∈ fp:=hb
  have e:X.base.get? b = some o:=e
  rcases (hf b hb).2.2.2.1 with z | z
  ·exact I.ok.noex b o e z
  ·exact absurd (Nat.lt_of_lt_of_le (Heap.lt_size e) (Nat.le_trans I.ok.bsz z)) (Nat.lt_irrefl _)
 ·have hb:b ∈ fp:=hb
  have hz:b ∈ frs X.stack:=hz
  rcases List.mem_cons.mp (I.stkSub b hz) with z | z
  ·exact (hf b hb).2.1 z
  ·exact (hf b hb).2.2.1 z
 ·have e1:(X.N.map (maskN own) ++ own)[i]? = some x:=e1
  have e3:Vis (relabel scope X.env) x:=e3
  have hi:i < σ.length:=by
   by_cases hi:i < σ.length
   ·exact hi
   ·rw [List.getElem?_append_right (by omega),List.getElem?_replicate] at e2
    split at e2 <;> cases e2
  rw [List.getElem?_append_left hi] at e2
  rw [List.getElem?_append_left (by rw [List.length_map,← I.len]; exact hi),List.getElem?_map] at e1
  obtain ⟨y,e1,ey⟩:=Option.map_eq_some_iff.mp e1
  have hny:own.contains y = false:=by
   cases hy:own.contains y with
   | false=>rfl
   | true =>
    exfalso
    have hh:=SC.hid y (List.mem_of_getElem? e1) hy
    have ex:x = hidN y:=by rw [← ey]; unfold maskN; rw [if_pos hy]
    rw [← ex] at hh
    have e4:(relabel scope X.env).names.lookup x = none:=relabel_none hh
    rcases e3 with z | z | z <;> (rw [e4] at z; cases z)
  have ex:x = y:=by rw [← ey]; unfold maskN; rw [if_neg (by rw [hny]; exact Bool.false_ne_true)]
  rw [← ex] at e1 hny
  have hnl:(relabel scope X.env).names.lookup x ≠ some .local:=fun z=>SC.apart x (List.mem_of_getElem? e1) hny (relabel_local z)
  have hv:(relabel scope X.env).names.lookup x = some .cell ∨ (relabel scope X.env).names.lookup x = some .free:=by
   rcases e3 with z | z | z
   ·exact absurd z hnl
   ·exact .inl z
   ·exact .inr z
  have hm:=relabel_back SC.nocell hv
  have hkx:=SC.free (x,.free) hm rfl
  obtain ⟨m,hn,hl⟩:=I.loc
  have hkx':X.env.scope.names.lookup x = some .cell ∨ X.env.scope.names.lookup x = some .free:=hkx
  obtain ⟨u,r,l⟩:=hl i x v e1 e2 (hkx'.elim (fun z=>.inr (.inl z)) fun z=>.inr (.inr z))
  refine ⟨u,r,.inr ⟨hv,?_⟩⟩
  obtain ⟨c,hcl⟩:=clGo_has (cells:=X.env.cells) scope.names [] (.inl hm)
  refine ⟨c,hcl,?_⟩
  rcases l with ⟨z,_⟩ | ⟨z,c',hc',q⟩
  ·rcases hkx with y | y <;> (rw [z] at y; cases y)
  ·have:=cl hcl
   rw [hc'] at this; cases this
   obtain ⟨o,ho,hd⟩:=q
   exact ⟨o,hk _ _ ho,hd⟩
 ·obtain ⟨v,o,ho,hd⟩:=I.cell x c (cl h)
  exact ⟨v,o,hk _ _ ho,hd⟩
 ·show (σ ++ List.replicate own.length none).length = (X.N.map (maskN own) ++ own).length
  rw [List.length_append,List.length_append,List.length_map,List.length_replicate,I.len]
end
def testsOf (ifs:List Expr) (env:Env):Sem Bool :=
 forIn ifs true fun c r=>if r = true then do let ok ← isTrue c env (eval c env); pure (ForInStep.yield ok) else pure (ForInStep.yield r)
def PTs (X:Cx) (ifs:List Expr) (t:TT):Prop :=
 ∀ (pins:List (Addr×Obj)) (s:Shared) (σ:St) (H:Hp) (Q:Bool→Hp→Prop),Inv X pins σ H s→t σ H Q→wpAny (model X.prog X.w) X.A (testsOf ifs X.env) (TP X pins σ Q) X.xe s
theorem tests_false {M:Model} {A:Around} {E:Value→Shared→Prop} {env:Env} {Q:Bool→Shared→Prop} {s:Shared} (h:Q false s):∀ ifs:List Expr,
  wpAny M A (forIn ifs false fun c r=>if r = true then do let ok ← isTrue c env (eval c env); pure (ForInStep.yield ok) else pure (ForInStep.yield r)) Q E s
 | []=>wpAny_pure h
 | c :: r=>by
  rw [List.forIn_cons]
  simp only [Bool.false_eq_true,if_false]
  exact wpAny_bind (wpAny_pure (tests_false h r))
section
variable {X:Cx}
def tTrue:TT:=fun _ H Q=>Q true H
theorem pts_nil:PTs X [] tTrue:=fun _ _ _ H _ I h=>wpAny_pure ⟨H,I,h⟩
theorem pts_cons {c:Expr} {r:List Expr} {t u:TT} (h1:PT X c t) (h2:PTs X r u):PTs X (c :: r) (fun σ H Q=>t σ H fun b H1=>if b = true then u σ H1 Q else Q false H1):=by
 intro pins s σ H Q I h
 unfold testsOf
 rw [List.forIn_cons]
 simp only [if_true]
 refine wpAny_bind (wpAny_bind (thn (h1 pins s σ H _ I h) fun b s1 ⟨H1,I1,q1⟩=>wpAny_pure ?_))
 cases b with
 | true =>
  rw [if_pos rfl] at q1
  exact h2 pins s1 σ H1 Q I1 q1
 | false =>
  rw [if_neg Bool.false_ne_true] at q1
  exact tests_false ⟨H1,I1,q1⟩ r
end
section
variable {prog:Program} {w:World} {A:Around} {R:Result→Shared→Prop} {s:Shared}
theorem comp_turns {elt target iter:Expr} {ifs:List Expr} {scope:Scope} {pos:Pos} {it acc:Value} {env:Env} (I:Nat→Shared→Prop)
  (turn:∀ n s,I n s→wpAny (model prog w) A (pyNext it) (fun r s1=>match r with
   | none=>R (.ok .next) s1
   | some v=>wpAny (model prog w) A (letOwnedTupleGo target it v) (fun _ s2=>wpAny (model prog w) A (assign target env v) (fun _ s3=>wpAny (model prog w) A (testsOf ifs env) (fun ok s4 =>
     if ok = true then wpAny (model prog w) A (eval elt env) (fun x s5=>wpAny (model prog w) A (call (.builtin "list.append") [acc,x]) (fun _ s6=>∃ m,m < n∧I m s6) (fun _ _=>False) s5) (fun _ _=>False) s4
     else ∃ m,m < n∧I m s4) (fun _ _=>False) s3) (fun _ _=>False) s2) (fun _ _=>False) s1) (fun _ _=>False) s)
  (n:Nat) (h:I n s):codeAny (model prog w) A (.compLoop (.ListComp elt [⟨target,iter,ifs,0⟩] scope pos) 0 it acc env) R s:=by
 refine codeAny_loop rfl I (fun n s hI=>?_) n h
 show wpAny _ A ((compTurn (.ListComp elt [⟨target,iter,ifs,0⟩] scope pos) 0 it acc env).onRaise (fun x=>do noteFrame x env; theTreesLotGoes x)) _ _ s
 refine wpAny_noted ?_
 rw [compTurn_list]
 have no:∀ (e:Value) (s':Shared),(fun (_:Value) (_:Shared)=>False) e s'→notedBy (model prog w) A env (fun e s'=>R (.error e) s') e s':=fun _ _ z=>z.elim
 refine wpAny_bind (wpAny_standAt (wpAny_bind (wpAny_mono (turn n s hI) (fun r s1 h1=>?_) no)))
 cases r with
 | none=>exact wpAny_pure h1
 | some v =>
  refine wpAny_bind (wpAny_mono h1 (fun _ s2 h2=>wpAny_bind (wpAny_mono h2 (fun _ s3 h3=>wpAny_bind (wpAny_mono h3 (fun ok s4 h4=>?_) no)) no)) no)
  cases ok with
  | true =>
   rw [if_pos rfl] at h4
   simp only [if_true]
   exact wpAny_bind (wpAny_bind (wpAny_mono h4 (fun x s5 h5=>wpAny_bind (wpAny_mono h5 (fun _ s6 h6=>wpAny_pure (wpAny_pure ⟨rfl,h6⟩)) no)) no))
  | false =>
   rw [if_neg Bool.false_ne_true] at h4
   simp only [Bool.false_eq_true,if_false]
   first
    | exact wpAny_pure ⟨rfl,h4⟩
    | exact wpAny_bind (wpAny_pure (wpAny_pure ⟨rfl,h4⟩))
end
def Wk (σ σ2:St):Prop:=σ2.length = σ.length∧∀ (j:Nat) (v:V),σ[j]? = some (some v)→σ2[j]? = some (some v)
def tComp (wi:TI) (g:TG) (tt:TT) (te:TE) (own:Nat):TE:=fun σ H Q=>wi σ H fun J H1=>∀ acc,H1 acc = none→∃ W:Nat→Nat→Hp→Prop,(∃ m,W 0 m (upd H1 acc (.lst [])))∧∀ i m H,W i m H →
 (J.stop i H∧Q (.ref acc) H) ∨ (J.go i H∧∀ x H',J.yld i H x H'→g x (σ ++ List.replicate own none) H' fun σ2 H2=>Wk (σ ++ List.replicate own none) σ2∧tt σ2 H2 fun b H3 =>
  if b = true then te σ2 H3 fun v H4=>∃ ys,H4 acc = some (.lst ys)∧ys.length < sizeLine∧∃ m',m' < m∧W (i + 1) m' (upd H4 acc (.lst (ys ++ [v]))) else ∃ m',m' < m∧W (i + 1) m' H3)
section
variable {X:Cx} {elt tg iter:Expr} {ifs:List Expr} {scope:Scope} {own:List Str} {pos:Pos} {wi:TI} {g:TG} {tt:TT} {te:TE}
theorem comp_run {pins:List (Addr×Obj)} {σ:St} {H2:Hp} {s2:Shared} {Q:VK} {it:Addr} {fp:List Addr} {tn:Nat→Heap→Prop} {J:It} {RR:Value→Addr→Result→Shared→Prop}
  (hc:X.calm = true) (SC:CScope X scope own)
  (hblock:∀ C s H,PG (cxC X scope own fp C s H) tg g∧PTs (cxC X scope own fp C s H) ifs tt∧PE (cxC X scope own fp C s H) elt te)
  (I2:Inv X pins σ H2 s2) (T:Turn X.prog X.w X.K tg J fp it tn) (st2:tn 0 s2.heap) (f2:∀ b ∈ fp,FpOk X pins H2 b)
  (h:∀ acc,H2 acc = none→∃ W:Nat→Nat→Hp→Prop,(∃ m,W 0 m (upd H2 acc (.lst [])))∧∀ i m H,W i m H →
   (J.stop i H∧Q (.ref acc) H) ∨ (J.go i H∧∀ x H',J.yld i H x H'→g x (σ ++ List.replicate own.length none) H' fun σ2 H2=>Wk (σ ++ List.replicate own.length none) σ2∧tt σ2 H2 fun b H3 =>
    if b = true then te σ2 H3 fun v H4=>∃ ys,H4 acc = some (.lst ys)∧ys.length < sizeLine∧∃ m',m' < m∧W (i + 1) m' (upd H4 acc (.lst (ys ++ [v]))) else ∃ m',m' < m∧W (i + 1) m' H3))
  (hRR:∀ acc C H' m s',Inv X pins σ H' s'→s'.heap.Ns C m→C ≠ X.env.locals→(∀ x c,X.env.cells.lookup x = some c→c ≠ C)→s2.heap.objs.size ≤ C→H' C = none→Q (.ref acc) H'→RR (.ref acc) C (.ok .next) s') {E:Value→Shared→Prop} :
  wpAny (model X.prog X.w) X.A (newList []) (fun acc s3=>wpAny (model X.prog X.w) X.A (newFunctionEnv scope X.env.globals (clGo X.env.cells scope.names []) [] X.env.qual none .none (some X.env)) (fun cenv s4 =>
   codeAny (model X.prog X.w) X.A (.compStart (.ListComp elt [⟨tg,iter,ifs,0⟩] scope pos) 0 (.ref it) acc { cenv with scope:=relabel scope X.env }) (RR acc cenv.locals) s4) E s3) E s2:=by
 have hacc:=I2.fresh
 have I3:Inv X pins σ (upd H2 s2.heap.objs.size (.lst [])) { s2 with heap:=s2.heap.push { cls:=.type "list",data:=.seq ([]:List Value).toArray },toks:=s2.toks }:=I2.lnew .nil (Nat.zero_le _)
 refine wpAny_newObj_type ?_
 obtain ⟨W,⟨m0,w0⟩,turn⟩:=h _ hacc
 generalize hs3:({ s2 with heap:=s2.heap.push { cls:=.type "list",data:=.seq ([]:List Value).toArray },toks:=s2.toks }:Shared) = s3 at I3
 have keep23:∀ b o,s2.heap.get? b = some o→s3.heap.get? b = some o:=fun b o e=>by rw [← hs3]; exact Heap.get?_push_of_some _ e
 have hf3:∀ b ∈ fp,FpOk X pins (upd H2 s2.heap.objs.size (.lst [])) b:=fun b hb=>by
  obtain ⟨o,ho,_⟩:=T.obj _ _ st2 b hb
  exact ⟨by rw [upd_ne (Nat.ne_of_lt (Heap.lt_size ho))]; exact (f2 b hb).1,(f2 b hb).2⟩
 have st3:tn 0 s3.heap:=T.keep _ _ _ st2 fun b hb o e=>keep23 b o e
 refine wpAny_newFunctionEnv SC.nocell (by intro y hy; simp at hy) (fun h4 hns hsb=>?_) SC.kind
 have hns':h4.Ns s3.heap.objs.size (fun _=>none):=by simpa using hns
 have keep34:∀ b o,s3.heap.get? b = some o→h4.get? b = some o:=fun b o e=>hsb.extBut b o (Nat.ne_of_lt (Heap.lt_size e)) (Heap.get?_push_of_some _ e)
 have I4:=inv_comp (t4:=s3.toks + ([]:List (Str×Value)).length) I3 SC hc hf3 (fun b hb=>by obtain ⟨o,ho,_⟩:=T.obj _ _ st3 b hb; exact ⟨o,ho⟩) hns' keep34
 have st4:tn 0 h4:=T.keep _ _ _ st3 fun b hb o e=>keep34 b o e
 obtain ⟨hg,ht,he⟩:=hblock s3.heap.objs.size s3 (upd H2 s2.heap.objs.size (.lst []))
 have e5:(cxC X scope own fp s3.heap.objs.size s3 (upd H2 s2.heap.objs.size (.lst []))).env = compEnvC scope (clGo X.env.cells scope.names []) s3.heap.objs.size X.env:=rfl
 generalize hY:cxC X scope own fp s3.heap.objs.size s3 (upd H2 s2.heap.objs.size (.lst [])) = Y at hg ht he I4 e5
 have fpY:∀ {H':Hp},(∀ b ∈ fp,H' b = none)→∀ b ∈ fp,FpOk Y [] H' b:=fun hn b hb=>by
  obtain ⟨o,ho,_⟩:=T.obj _ _ st3 b hb
  refine ⟨hn b hb,?_,?_,?_,?_,?_⟩
  ·rw [← hY]; exact Nat.ne_of_lt (Heap.lt_size ho)
  ·have:=I4.ok.exfs b (by rw [← hY]; exact hb)
   exact this
  ·exact .inl (by rw [← hY]; exact hb)
  ·exact fun x c h=>(I4.ok.exf b (by rw [← hY]; exact hb)).2 x c h
  ·intro p hp; rw [← hY] at hp; exact absurd (show p ∈ ([]:List (Addr×Obj)) from hp) (by simp)
 have hYp:Y.prog = X.prog∧Y.w = X.w∧Y.K = X.K∧Y.calm = true∧Y.A = X.A∧Y.xe = (fun _ _=>False)∧Y.s₀ = s3∧Y.H₀ = upd H2 s2.heap.objs.size (.lst [])∧Y.outer = X.stack∧Y.ex = fp:=by rw [← hY]; exact ⟨rfl,rfl,rfl,hc,rfl,rfl,rfl,rfl,rfl,rfl⟩
 obtain ⟨y1,y2,y3,y4,y5,y6,y7,y8,y9,y10⟩:=hYp
 have loop:∀ s5:Shared,s5 = { s3 with heap:=h4,toks:=s3.toks + ([]:List (Str×Value)).length } →
   codeAny (model X.prog X.w) X.A (.compLoop (.ListComp elt [⟨tg,iter,ifs,0⟩] scope pos) 0 (.ref it) (.ref s2.heap.objs.size) Y.env) (RR (.ref s2.heap.objs.size) s3.heap.objs.size) s5:=by
  rintro s5 rfl
  refine comp_turns (fun n s'=>∃ i H',Inv Y [] (σ ++ List.replicate own.length none) H' s'∧tn i s'.heap∧(∀ b ∈ fp,H' b = none)∧W i n H') ?_ m0 ⟨0,_,I4,st4,fun b hb=>(hf3 b hb).1,w0⟩
  rintro n s6 ⟨i,H6,I6,st6,fr6,w6⟩
  rcases turn i n H6 w6 with ⟨stop,q⟩ | ⟨go,step⟩
  ·have d:=T.done Y y1 y2 y3 y4 i [] s6 _ H6 (fun _ _=>False) I6 (fpY fr6) st6 stop
   rw [y5] at d
   refine thn d fun r s7 ⟨hr,I7⟩=>?_
   subst hr
   obtain ⟨m,hn,_⟩:=I7.loc
   have hL:Y.env.locals = s3.heap.objs.size:=by rw [e5]; rfl
   rw [hL] at hn
   have b7:=I7.base
   rw [y7,y8,y10] at b7
   have b7':Un (frs X.stack) fp (upd H2 s2.heap.objs.size (.lst [])) H6 s3.heap s7.heap:=by
    have z:Y.fs = frs X.stack:=by show frs Y.outer = _; rw [y9]
    rw [z] at b7
    exact b7
   have hok7:=I7.hok
   rw [y1,y2] at hok7
   have os7:=I7.os
   rw [y7] at os7
   have I8:Inv X pins σ H6 s7:=I3.call' os7 b7' hok7 I7.bare fun b hb=>⟨(hf3 b hb).2.2.2.1,(hf3 b hb).2.1,(hf3 b hb).2.2.2.2.1,(hf3 b hb).2.2.2.2.2⟩
   have hfree:=I7.free
   rw [hL] at hfree
   refine hRR _ _ H6 m s7 I8 hn (Nat.ne_of_gt I3.lt) (fun x c h z=>?_) ?_ hfree q
   ·obtain ⟨v,y⟩:=I3.cell x c h
    exact absurd y.lt (by rw [z]; exact Nat.lt_irrefl _)
   ·rw [← hs3,Heap.size_push]; exact Nat.le_succ _
  ·have d:=T.item Y y1 y2 y3 y4 i [] s6 _ H6 (fun _ _=>False) I6 (fpY fr6) st6 go
   rw [y5] at d
   refine thn d fun r s7 ⟨u,hr,h7⟩=>?_
   subst hr
   refine thn h7 fun _ s8 ⟨x,H8,I8,r8,y8',st8,fr8⟩=>?_
   have I8':=I8.pinned (fpY fr8) (T.obj _ _ st8)
   have pinK:∀ {σ':St} {H':Hp} {s':Shared},Inv Y ([] ++ pinsAt fp s8.heap) σ' H' s'→tn (i + 1) s'.heap∧∀ b ∈ fp,H' b = none:=fun {σ' H' s'} I' =>
    ⟨T.keep _ _ _ st8 fun b hb o e=>(I'.pin (b,o) (List.mem_append_right _ (List.mem_append_right _ (mem_pinsAt hb e)))).1,fun b hb=>by
     obtain ⟨o,e,_⟩:=T.obj _ _ st8 b hb
     exact (I'.pin (b,o) (List.mem_append_right _ (List.mem_append_right _ (mem_pinsAt hb e)))).2.1⟩
   have dg:=hg _ s8 _ H8 x u _ I8' r8 (step x H8 y8')
   rw [y1,y2,y5,y6] at dg
   refine thn dg fun _ s9 ⟨σ9,H9,I9,wk,q9⟩=>?_
   have dt:=ht _ s9 σ9 H9 _ I9 q9
   rw [y1,y2,y5,y6] at dt
   refine thn dt fun ok s10 ⟨H10,I10,q10⟩=>?_
   cases ok with
   | true =>
    rw [if_pos rfl] at q10 ⊢
    have de:=he _ s10 σ9 H10 _ I10 q10
    rw [y1,y2,y5,y6] at de
    refine thn de fun y s11 ⟨v11,H11,I11,r11,ys,hys,hz,m',hm,w11⟩=>?_
    have da:=mt_append (X:=Y) _ s11 σ9 H11 (.ref s2.heap.objs.size) [v11] (.ref s2.heap.objs.size) [y] (fun _ H'=>H' = upd H11 s2.heap.objs.size (.lst (ys ++ [v11]))) I11 rfl (.cons r11 .nil) ⟨_,ys,v11,rfl,rfl,hys,hz,rfl⟩
    rw [y1,y2,y5,y6] at da
    refine thn da fun _ s12 ⟨v12,H12,I12,r12,e12⟩=>?_
    subst e12
    obtain ⟨t12,f12⟩:=pinK I12
    exact ⟨m',hm,i + 1,_,(I12.unpinned).weak wk.1.symm wk.2,t12,f12,w11⟩
   | false =>
    rw [if_neg Bool.false_ne_true] at q10 ⊢
    obtain ⟨m',hm,w10⟩:=q10
    obtain ⟨t10,f10⟩:=pinK I10
    exact ⟨m',hm,i + 1,_,(I10.unpinned).weak wk.1.symm wk.2,t10,f10,w10⟩
 rw [e5] at loop
 exact codeAny_compStart_list (loop _ rfl) (T.self _ 0 _ _ _ st4 (loop _ rfl))
theorem pe_comp (hc:X.calm = true) (SC:CScope X scope own) (hi:PI X.nox tg iter wi)
  (hblock:∀ fp C s H,PG (cxC X scope own fp C s H) tg g∧PTs (cxC X scope own fp C s H) ifs tt∧PE (cxC X scope own fp C s H) elt te)
  (hs:∀ x,foldedSetIterable iter X.env x = pure x:=by intro _; rfl) :
  PE X.nox (.ListComp elt [⟨tg,iter,ifs,0⟩] scope pos) (tComp wi g tt te own.length):=by
 intro pins s σ H Q I h
 have fr:∀ p ∈ scope.names,p.2 = .free→∃ c,X.env.cells.lookup p.1 = some c:=fun p hp hq=>I.ok.has p.1 (SC.free p hp hq)
 rw [eval_ListComp]
 refine wpAny_comprehension_free (use:=none) rfl hs (closure_is fr) SC.kind SC.names (thn (hi pins s σ H _ I h) fun v s1 h1=>thn h1 fun itv s2 h2=>?_)
 obtain ⟨it,fp,tn,J,H2,e,I2,T,st2,f2,h2⟩:=h2
 subst e
 refine comp_run (X:=X.nox) (own:=own) (RR:=fun acc C=>compPost (model X.prog X.w) X.A (fun _ _=>False) none (EP X.nox pins σ Q) acc C) hc ⟨SC.kind,SC.nocell,SC.names,SC.free,SC.apart,SC.hid⟩ (fun C s H=>hblock fp C s H) I2 T st2 f2 h2 ?_
 intro acc C H' m s' I' hn hL hcl hC hH q
 obtain ⟨f0,f1,f2',f3,f4,f5⟩:=I2.fpOk hC hH
 refine ⟨m,hn,fun h' hsb=>⟨.ref acc,H',?_,rfl,q⟩⟩
 exact I'.turned (t':=s'.toks) (fun b o hb e=>(hsb.2 b hb).trans e) f0 f1 f3 f4 f5
theorem ps_setcomp {i:Nat} {x:Str} {px:Pos} {spos:Pos} (hc:X.calm = true) (SC:CScope X scope own) (hN:X.N.Nodup) (hx:X.N[i]? = some x) (hl:X.env.scope.names.lookup x = some .local) (hi:PI X.nox tg iter wi)
  (hblock:∀ fp C s H,PG (cxC X scope own fp C s H) tg g∧PTs (cxC X scope own fp C s H) ifs tt∧PE (cxC X scope own fp C s H) elt te)
  (hsw:swapsWith (.ListComp elt [⟨tg,iter,ifs,0⟩] scope pos) (some (.Name x px)) spos.line X.env = pure true)
  (hs:∀ x,foldedSetIterable iter X.env x = pure x:=by intro _; rfl) :
  PS X.nox (.Assign [.Name x px] (.ListComp elt [⟨tg,iter,ifs,0⟩] scope pos) spos) (tAsg (tComp wi g tt te own.length) (gName i)):=by
 intro pins s σ H D I h
 have fr:∀ p ∈ scope.names,p.2 = .free→∃ c,X.env.cells.lookup p.1 = some c:=fun p hp hq=>I.ok.has p.1 (SC.free p hp hq)
 show wpAny (model X.prog X.w) X.A (exec _ X.env) _ _ s
 rw [exec_Assign_Name_used _ _ _ _ hsw]
 refine wpAny_bind (wpAny_standAt (wpAny_bind ?_))
 show wpAny _ X.A (do let _ ← comprehension (.ListComp elt [⟨tg,iter,ifs,0⟩] scope pos) scope X.env _ (newList []) false (eval iter X.env) (some (assign (.Name x px) X.env))) _ _ s
 refine wpAny_bind (wpAny_mono (wpAny_comprehension_free (use:=some (assign (.Name x px) X.env)) (Q:=fun _ s'=>SP X.nox pins D .next s') rfl hs (closure_is fr) SC.kind SC.names
  (thn (hi pins s σ H _ I h) fun v s1 h1=>thn h1 fun itv s2 h2=>?_)) (fun _ s' hq=>wpAny_pure (wpAny_pure hq)) fun _ _ e=>e)
 obtain ⟨it,fp,tn,J,H2,e,I2,T,st2,f2,h2⟩:=h2
 subst e
 refine comp_run (X:=X.nox) (own:=own) (Q:=fun v H1=>gName i v σ H1 D.nx) (RR:=fun acc C=>compPost (model X.prog X.w) X.A (fun _ _=>False) (some (assign (.Name x px) X.env)) (fun _ s'=>SP X.nox pins D .next s') acc C) hc ⟨SC.kind,SC.nocell,SC.names,SC.free,SC.apart,SC.hid⟩ (fun C s H=>hblock fp C s H) I2 T st2 f2 h2 ?_
 intro acc C H' m s' I' hn hL hcl hC hH q
 obtain ⟨f0,f1,f2',f3,f4,f5⟩:=I2.fpOk hC hH
 show wpAny (model X.prog X.w) X.A (assign (.Name x px) X.env (.ref acc)) _ _ s'
 refine wpAny_assign_Name (store_ok2 (X:=X.nox) I' hN hx (.inl hl) (v:=.ref acc) rfl (fun s'' I'' hch=>?_) (.inr hl))
 obtain ⟨a,hsa,ha⟩:=hch
 have hCa:C ≠ a:=by
  rcases ha with z | z
  ·rw [z]; exact hL
  ·exact fun y=>hcl x a z y.symm
 refine ⟨m,hn.sameBut hsa hCa,fun h' hsb=>?_⟩
 exact ⟨_,H',I''.turned (t':=s''.toks) (fun b o hb e=>(hsb.2 b hb).trans e) f0 f1 f3 f4 f5,q⟩
end
end L2
end
section
set_option Elab.async false
set_option linter.all false
set_option maxRecDepth 100000
set_option maxHeartbeats 4000000
namespace L2
open PySem PySem.Spec PyProof.Rows
section
variable {X:Cx} {pins:List (Addr×Obj)} {σ:St} {H:Hp} {s:Shared} {h':Heap}
theorem Inv.turnedNew {t':Nat} {ch:List Addr} {p:Addr} {o:HO} (I:Inv X pins σ H s) (hp:s.heap.objs.size ≤ p) (k:∀ b ob,b ∉ ch→s.heap.get? b = some ob→h'.get? b = some ob) (hf:∀ b ∈ ch,FpOk X pins H b)
  (new:ObjOk X.prog X.w (upd H p o) h' p o):Inv X pins σ (upd H p o) { s with heap:=h',toks:=t' }:=by
 have hn:H p = none:=I.hok.fresh hp
 have nit:∀ b u,H b = some u→b ∉ ch:=fun b u e z=>by rw [(hf b z).1] at e; cases e
 have nep:∀ {b ob},s.heap.get? b = some ob→b ≠ p:=fun e=>Nat.ne_of_lt (Nat.lt_of_lt_of_le (Heap.lt_size e) hp)
 refine I.step (g':=s.gens) (d':=s.drawn) (ch:=ch) (fun b hb=>⟨(hf b hb).2.2.2.1,(hf b hb).2.1,(hf b hb).2.2.2.2.1,(hf b hb).2.2.2.2.2⟩) (fun b ob _ _ hc e _=>k b ob hc e) (fun b ob _ _ hc e _=>⟨ob.slots,k b ob hc e⟩)
  (fun b ob hc e n=>by rw [upd_ne (nep e)]; exact n) (fun b ob hc e=>⟨ob,k b ob hc e⟩) (fun b xs e=>by rw [upd_ne (ne_of_none e hn)]; exact e) (fun b u xs e=>by rw [upd_ne (ne_of_none e hn)]; exact e)
  (fun b ps e=>⟨#[],by rw [upd_ne (ne_of_none e hn),e]; simp⟩) (fun m hm=>?_) (fun b u e=>?_) I.bare
 ·obtain ⟨ob,es,ep,ho,r⟩:=hm
  exact ⟨ob,es,ep,k _ ob (fun z=>(hf _ z).2.1 rfl) ho,r⟩
 ·by_cases hb:b = p
  ·subst hb; rw [upd_same] at e; cases e; exact new
  ·rw [upd_ne hb] at e
   refine (I.hok b u e).stay (fun c v hc q=>k c v ?_ q) (fun c q=>by rw [upd_ne (ne_of_none q hn)]; exact q) fun c xs q=>by rw [upd_ne (ne_of_none q hn)]; exact q
   rcases hc with z | z
   ·rw [z]; exact nit b u e
   ·exact nit c _ z
theorem Inv.turnedL {t':Nat} {ch:List Addr} (I:Inv X pins σ H s) (k:∀ b ob,b ∉ ch→s.heap.get? b = some ob→h'.get? b = some ob) (hf:∀ b ∈ ch,FpOk X pins H b):Inv X pins σ H { s with heap:=h',toks:=t' }:=by
 have nit:∀ b u,H b = some u→b ∉ ch:=fun b u e z=>by rw [(hf b z).1] at e; cases e
 refine I.step (g':=s.gens) (d':=s.drawn) (ch:=ch) (fun b hb=>⟨(hf b hb).2.2.2.1,(hf b hb).2.1,(hf b hb).2.2.2.2.1,(hf b hb).2.2.2.2.2⟩) (fun b ob _ _ hc e _=>k b ob hc e) (fun b ob _ _ hc e _=>⟨ob.slots,k b ob hc e⟩)
  (fun _ _ _ _ n=>n) (fun b ob hc e=>⟨ob,k b ob hc e⟩) (fun _ _ e=>e) (fun _ _ _ e=>e) (fun b ps e=>⟨#[],by rw [e]; simp⟩) (fun m hm=>?_) (fun b u e=>?_) I.bare
 ·obtain ⟨ob,es,ep,ho,r⟩:=hm
  exact ⟨ob,es,ep,k _ ob (fun z=>(hf _ z).2.1 rfl) ho,r⟩
 ·refine (I.hok b u e).stay (fun c v hc q=>k c v ?_ q) (fun _ q=>q) fun _ _ q=>q
  rcases hc with z | z
  ·rw [z]; exact nit b u e
  ·exact nit c _ z
end
end L2
end
section
set_option Elab.async false
set_option linter.all false
set_option maxRecDepth 100000
set_option maxHeartbeats 4000000
namespace L2
open PySem PySem.Spec PyProof.Rows
def SeqB (b:Bool) (h:Heap) (l:Addr) (xs:Array Value):Prop:=match b with | true=>h.IsList l xs | false=>h.IsTuple l xs
def IterB (b:Bool) (h:Heap) (it l:Addr) (i:Nat):Prop:=match b with | true=>h.IsListIter it l i | false=>h.IsTupleIter it l i
def iterCls (b:Bool):String:=match b with | true=>"list_iterator" | false=>"tuple_iterator"
section
variable {b:Bool} {h h':Heap} {it l c:Addr} {i:Nat} {xs:Array Value}
theorem SeqB.move (x:SeqB b h l xs) (e:Heap.ExtBut c h h') (n:l ≠ c):SeqB b h' l xs:=by
 cases b
 ·exact Heap.IsTuple.extBut x e n
 ·exact Heap.IsList.extBut x e n
theorem SeqB.push {o:Obj} (x:SeqB b h l xs):SeqB b (h.push o) l xs:=by
 cases b
 ·exact Heap.IsTuple.push x o
 ·exact Heap.IsList.push x o
theorem SeqB.lt (x:SeqB b h l xs):l < h.objs.size:=by
 cases b <;> (obtain ⟨_,e,_⟩:=x; exact Heap.lt_size e)
theorem IterB.move (x:IterB b h it l i) (e:Heap.ExtBut c h h') (n:it ≠ c):IterB b h' it l i:=by
 cases b
 ·exact Heap.IsTupleIter.extBut x e n
 ·exact Heap.IsListIter.extBut x e n
theorem IterB.to (x:IterB b h it l i) (k:∀ o,h.get? it = some o→h'.get? it = some o):IterB b h' it l i:=by
 cases b <;> (obtain ⟨o,e,r⟩:=x; exact ⟨o,k o e,r⟩)
theorem IterB.obj (x:IterB b h it l i):∃ o,h.get? it = some o∧∀ v,o.data ≠ .cell v:=by
 cases b <;> (obtain ⟨o,e,_,d⟩:=x; exact ⟨o,e,fun v z=>by rw [d] at z; cases z⟩)
theorem IterB.lt (x:IterB b h it l i):it < h.objs.size:=let ⟨_,e,_⟩:=x.obj; Heap.lt_size e
end
section
variable {P:Program} {w:World} {A:Around} {E:Value→Shared→Prop} {s:Shared} {b:Bool} {it l:Addr} {i:Nat} {xs:Array Value} {Q:Value→Shared→Prop}
theorem iterB (x:SeqB b s.heap l xs) (q:Q (.ref s.heap.objs.size) { s with heap:=s.heap.push { cls:=.type (iterCls b),data:=.fields #[.ref l,.int 0 0] } }):wpAny (model P w) A (pyIter (.ref l)) Q E s:=by
 cases b
 ·exact wpAny_pyIter_tuple x q
 ·exact wpAny_pyIter_list x q
theorem nextT {x:Value} (hi:s.heap.IsTupleIter it l i) (hl:s.heap.IsTuple l xs) (hx:xs[i]? = some x) (q:∀ h',h'.IsTupleIter it l (i + 1)→Heap.SameBut it s.heap h'→Q x { s with heap:=h' }):wpAny (model P w) A (Builtin.SmallTypes.nextOf (.ref it)) Q E s:=by
 obtain ⟨oi,ei,ci,di⟩:=id hi
 obtain ⟨os,es,_,ns,ds⟩:=hl
 unfold Builtin.SmallTypes.nextOf
 refine wpAny_bind (wpAny_callSpecial?_slot (name:=Str.ofString "__next__") hi.typeIs F.slot_tuple_iterator_next (wpAny_call_entry F.slot_tuple_iterator_next hi.typeIs F.entry_tuple_iterator_next ?_ (F.args_tuple_iterator_next_1 _)))
 show wpAny _ _ (field (.ref it) 0 >>= _) _ _ s; refine wpAny_bind (wpAny_field ei di (x:=.ref l) rfl ?_)
 show wpAny _ _ (if (Value.ref l == Value.none) = true then _ else _) _ _ s; rw [if_neg (show ¬ ((Value.ref l == Value.none) = true) from Bool.false_ne_true)]
 show wpAny _ _ (field (.ref it) 1 >>= _) _ _ s; refine wpAny_bind (wpAny_field ei di (x:=.int i 0) rfl ?_)
 show wpAny _ _ (seqItems? (.ref l) >>= _) _ _ s; refine wpAny_bind (wpAny_seqItems es ds ?_)
 simp only [Int.toNat_natCast,hx]
 refine wpAny_bind (wpAny_setField ei di (by simp) (wpAny_pure ⟨x,rfl,wpAny_pure (q _ ⟨_,Heap.get?_update_self _ ei (Obj.isFreed_of_fields (Obj.data_mapFields di _)),(Obj.cls_mapFields ..).trans ci,?_⟩ (Heap.SameBut.update ..))⟩))
 rw [Obj.data_mapFields di]; simp [rawInt]
theorem stopT (hh:A.handled = none) (hi:s.heap.IsTupleIter it l i) (hl:s.heap.IsTuple l xs) (hx:xs[i]? = none)
  (q:∀ h' e,Heap.ExtBut it s.heap h'→(∃ o,h'.get? e = some o∧o.cls = .type "StopIteration")→E (.ref e) { s with heap:=h' }):wpAny (model P w) A (Builtin.SmallTypes.nextOf (.ref it)) Q E s:=by
 obtain ⟨oi,ei,ci,di⟩:=id hi
 obtain ⟨os,es,_,ns,ds⟩:=hl
 unfold Builtin.SmallTypes.nextOf
 refine wpAny_bind (wpAny_callSpecial?_slot (name:=Str.ofString "__next__") hi.typeIs F.slot_tuple_iterator_next (wpAny_call_entry F.slot_tuple_iterator_next hi.typeIs F.entry_tuple_iterator_next ?_ (F.args_tuple_iterator_next_1 _)))
 show wpAny _ _ (field (.ref it) 0 >>= _) _ _ s; refine wpAny_bind (wpAny_field ei di (x:=.ref l) rfl ?_)
 show wpAny _ _ (if (Value.ref l == Value.none) = true then _ else _) _ _ s; rw [if_neg (show ¬ ((Value.ref l == Value.none) = true) from Bool.false_ne_true)]
 show wpAny _ _ (field (.ref it) 1 >>= _) _ _ s; refine wpAny_bind (wpAny_field ei di (x:=.int i 0) rfl ?_)
 show wpAny _ _ (seqItems? (.ref l) >>= _) _ _ s; refine wpAny_bind (wpAny_seqItems es ds ?_)
 simp only [Int.toNat_natCast,hx]
 refine wpAny_bind (wpAny_rule (wpAny_bind (wpAny_setField ei di (by simp) ?_))); show wpAny _ _ (newExc (.type "StopIteration") [] >>= _) _ _ _
 refine wpAny_bind ?_; simp only [newExc,newTuple]
 refine wpAny_bind (wpAny_newObj_type ?_ (by size_fits)); refine wpAny_bind (m:=firstArgMember _ _) (wpAny_of_eq (a:=Value.none) (by first | rfl | (simp only [firstArgMember]; rfl)) ?_)
 refine wpAny_newObj_type ?_ (by size_fits); simp only [raiseNew]; refine wpAny_bind (wpAny_handled ?_)
 first | rw [show A.in1.handled = none from hh] | rw [hh]
 exact wpAny_bind (wpAny_pure (wpAny_throw (q _ _ (((Heap.SameBut.update ..).extBut.push _).push _) ⟨_,Heap.get?_push_size _ rfl,rfl⟩)))
theorem nextB {x:Value} (hi:IterB b s.heap it l i) (hl:SeqB b s.heap l xs) (hx:xs[i]? = some x) (q:∀ h',IterB b h' it l (i + 1)→Heap.SameBut it s.heap h'→Q x { s with heap:=h' }):wpAny (model P w) A (Builtin.SmallTypes.nextOf (.ref it)) Q E s:=by
 cases b
 ·exact nextT hi hl hx q
 ·exact wpAny_nextOf_list_item hi hl hx q
theorem stopB (hh:A.handled = none) (hi:IterB b s.heap it l i) (hl:SeqB b s.heap l xs) (hx:xs[i]? = none)
  (q:∀ h' e,Heap.ExtBut it s.heap h'→(∃ o,h'.get? e = some o∧o.cls = .type "StopIteration")→E (.ref e) { s with heap:=h' }):wpAny (model P w) A (Builtin.SmallTypes.nextOf (.ref it)) Q E s:=by
 cases b
 ·exact stopT hh hi hl hx q
 ·exact wpAny_nextOf_list_end hh hi hl hx q
end
section
variable {P:Program} {w:World} {A:Around} {E:Value→Shared→Prop} {s:Shared} {p q:Bool} {z TI TO i1 i2 l1 l2:Addr} {k1 k2:Nat} {xs ys:Array Value} {x y a b:Value}
theorem zipB_item {Q:Value→Shared→Prop} (D:ZipApart z TI TO i1 i2 l1 l2) (zz:IsZip s.heap z TI TO .none) (zi:IsPair s.heap TI (.ref i1) (.ref i2)) (zo:IsPair s.heap TO a b)
  (t1:IterB p s.heap i1 l1 k1) (t2:IterB q s.heap i2 l2 k2) (m1:SeqB p s.heap l1 xs) (m2:SeqB q s.heap l2 ys) (ex:xs[k1]? = some x) (ey:ys[k2]? = some y)
  (K:∀ h',IsZip h' z TI TO (rawInt s.heap.objs.size)→IsPair h' TO x y→IterB p h' i1 l1 (k1 + 1)→IterB q h' i2 l2 (k2 + 1)→IsPair h' s.heap.objs.size x y →
   (∀ c o,c ≠ z→c ≠ TO→c ≠ i1→c ≠ i2→s.heap.get? c = some o→h'.get? c = some o)→Q (.ref s.heap.objs.size) { s with heap:=h' }) :
  wpAny (model P w) A (Builtin.«zip.__next__» ⟨[.ref z],[]⟩) (fun fin s'=>∃ v,fin = .done (.ret v)∧Q v s') E s:=by
 show wpAny _ _ (field (.ref z) 2 >>= _) _ _ _; refine wpAny_bind (wpAny_field zz rfl (x:=.bool false) rfl ?_)
 show wpAny _ _ (field (.ref z) 3 >>= _) _ _ _; refine wpAny_bind (wpAny_field zz rfl (x:=.ref TI) rfl (wpAny_bind (wpAny_seqItems zi rfl ?_)))
 show wpAny _ _ (Builtin.SmallTypes.ownedTupleIsFree (.ref z) >>= _) _ _ _; refine wpAny_bind ?_; unfold Builtin.SmallTypes.ownedTupleIsFree
 refine wpAny_bind (wpAny_field zz rfl (x:=.none) rfl (wpAny_pure ?_)); simp only [if_true]
 refine wpAny_bind (wpAny_rule (wpAny_bind (wpAny_field zz rfl (x:=.ref TO) rfl (wpAny_bind (wpAny_setField_rec zz (by simp) fun g1 z1 b1=>?_)))))
 replace z1:IsZip g1 z TI TO .ellipsis:=z1
 refine wpAny_bind ?_; simp only [List.zipIdx_cons,List.zipIdx_nil,List.forIn_cons,List.forIn_nil]
 refine wpAny_bind (wpAny_bind (wpAny_onRaise ?_)); show wpAny _ _ (Builtin.SmallTypes.nextOf (.ref i1) >>= _) _ _ _
 refine wpAny_bind (nextB (t1.move b1.extBut D.i1z) (m1.move b1.extBut D.l1z) ex fun g2 t12 b2=>wpAny_pure ?_)
 have o2:IsPair g2 TO a b:=b2.extBut _ _ D.TOi1 (b1.extBut _ _ D.TOz zo)
 refine wpAny_bind (wpAny_seqItems o2 rfl (wpAny_bind (wpAny_updateSeq_pair o2 fun g3 o3 b3=>?_)))
 replace o3:IsPair g3 TO x b:=o3
 refine wpAny_bind (wpAny_letGo (wpAny_pure (wpAny_bind (wpAny_bind (wpAny_onRaise ?_))))); show wpAny _ _ (Builtin.SmallTypes.nextOf (.ref i2) >>= _) _ _ _
 refine wpAny_bind (nextB (((t2.move b1.extBut D.i2z).move b2.extBut D.i12.symm).move b3.extBut D.TOi2.symm) (((m2.move b1.extBut D.l2z).move b2.extBut D.l2i1).move b3.extBut D.l2TO) ey fun g4 t24 b4=>wpAny_pure ?_)
 have o4:IsPair g4 TO x b:=b4.extBut _ _ D.TOi2 o3
 refine wpAny_bind (wpAny_seqItems o4 rfl (wpAny_bind (wpAny_updateSeq_pair o4 fun g5 o5 b5=>?_)))
 replace o5:IsPair g5 TO x y:=o5
 refine wpAny_bind (wpAny_letGo (wpAny_pure (wpAny_pure (wpAny_bind (wpAny_seqItems o5 rfl (wpAny_bind (wpAny_newTuple ?_)))))))
 have sz:g5.objs.size = s.heap.objs.size:=by rw [b5.1,b4.1,b3.1,b2.1,b1.1]
 have z5:IsZip g5 z TI TO .ellipsis:=b5.extBut _ _ D.TOz.symm (b4.extBut _ _ D.i2z.symm (b3.extBut _ _ D.TOz.symm (b2.extBut _ _ D.i1z.symm z1)))
 have kk:∀ c o,c ≠ z→c ≠ TO→c ≠ i1→c ≠ i2→s.heap.get? c = some o→g5.get? c = some o:=fun c o c1 c2 c3 c4 e=>b5.extBut _ _ c2 (b4.extBut _ _ c4 (b3.extBut _ _ c2 (b2.extBut _ _ c3 (b1.extBut _ _ c1 e))))
 have t15:IterB p g5 i1 l1 (k1 + 1):=((t12.move b3.extBut D.TOi1.symm).move b4.extBut D.i12).move b5.extBut D.TOi1.symm
 have t25:IterB q g5 i2 l2 (k2 + 1):=t24.move b5.extBut D.TOi2.symm
 have zlt:z < g5.objs.size:=Heap.lt_size z5
 show wpAny _ _ (Builtin.SmallTypes.ownedTupleHandOut (.ref z) (.ref g5.objs.size) >>= _) _ _ _; refine wpAny_bind ?_; unfold Builtin.SmallTypes.ownedTupleHandOut
 have z6:IsZip (g5.push { cls:=.type "tuple",data:=.seq #[x,y] }) z TI TO .ellipsis:=Heap.get?_push_of_some _ z5
 refine wpAny_bind (wpAny_setField_rec z6 (by simp) fun g7 z7 b7=>?_); replace z7:IsZip g7 z TI TO (rawInt g5.objs.size):=z7
 refine wpAny_setField_rec z7 (by simp) fun g8 z8 b8=>?_; replace z8:IsZip g8 z TI TO (rawInt g5.objs.size):=z8
 have up:∀ c o,c ≠ z→g5.get? c = some o→g8.get? c = some o:=fun c o c1 e=>b8.extBut _ _ c1 (b7.extBut _ _ c1 (Heap.get?_push_of_some _ e))
 have tt:IsPair g8 g5.objs.size x y:=b8.extBut _ _ (Nat.ne_of_gt zlt) (b7.extBut _ _ (Nat.ne_of_gt zlt) (Heap.get?_push_size _ rfl))
 rw [sz] at z8 tt
 refine wpAny_pure ⟨_,rfl,?_⟩; show Q (.ref g5.objs.size) _; rw [sz]
 exact K g8 z8 (up _ _ D.TOz o5) (t15.to fun o e=>up _ o D.i1z e) (t25.to fun o e=>up _ o D.i2z e) tt fun c o c1 c2 c3 c4 e=>up c o c1 (kk c o c1 c2 c3 c4 e)
theorem zipB_end {Q:Fin→Shared→Prop} (hh:A.handled = none) (D:ZipApart z TI TO i1 i2 l1 l2) (zz:IsZip s.heap z TI TO .none) (zi:IsPair s.heap TI (.ref i1) (.ref i2)) (zo:IsPair s.heap TO a b)
  (t1:IterB p s.heap i1 l1 k1) (t2:IterB q s.heap i2 l2 k2) (m1:SeqB p s.heap l1 xs) (m2:SeqB q s.heap l2 ys) (en:xs[k1]? = none ∨ ys[k2]? = none)
  (K:∀ h' e,(∀ c o,c ≠ z→c ≠ TO→c ≠ i1→c ≠ i2→s.heap.get? c = some o→h'.get? c = some o)→(∃ o,h'.get? e = some o∧o.cls = .type "StopIteration")→E (.ref e) { s with heap:=h' }) :
  wpAny (model P w) A (Builtin.«zip.__next__» ⟨[.ref z],[]⟩) Q E s:=by
 show wpAny _ _ (field (.ref z) 2 >>= _) _ _ _; refine wpAny_bind (wpAny_field zz rfl (x:=.bool false) rfl ?_)
 show wpAny _ _ (field (.ref z) 3 >>= _) _ _ _; refine wpAny_bind (wpAny_field zz rfl (x:=.ref TI) rfl (wpAny_bind (wpAny_seqItems zi rfl ?_)))
 show wpAny _ _ (Builtin.SmallTypes.ownedTupleIsFree (.ref z) >>= _) _ _ _; refine wpAny_bind ?_; unfold Builtin.SmallTypes.ownedTupleIsFree
 refine wpAny_bind (wpAny_field zz rfl (x:=.none) rfl (wpAny_pure ?_)); simp only [if_true]
 refine wpAny_bind (wpAny_rule (wpAny_bind (wpAny_field zz rfl (x:=.ref TO) rfl (wpAny_bind (wpAny_setField_rec zz (by simp) fun g1 z1 b1=>?_)))))
 replace z1:IsZip g1 z TI TO .ellipsis:=z1
 refine wpAny_bind ?_; simp only [List.zipIdx_cons,List.zipIdx_nil,List.forIn_cons,List.forIn_nil]
 refine wpAny_bind (wpAny_bind (wpAny_onRaise ?_)); show wpAny _ _ (Builtin.SmallTypes.nextOf (.ref i1) >>= _) _ _ _
 have fin:∀ {g:Heap} {e:Addr} {o:Obj},IsZip g z TI TO .ellipsis→g.get? e = some o→o.cls = .type "StopIteration"→e ≠ z:=fun h1 h2 h3 x=>by subst x; rw [h1] at h2; cases h2; simp at h3
 cases hx:xs[k1]? with
 | none =>
  refine wpAny_bind (stopB hh (t1.move b1.extBut D.i1z) (m1.move b1.extBut D.l1z) hx fun g2 e b2 he=>?_)
  obtain ⟨oe,e1,e2⟩:=he
  have z2:IsZip g2 z TI TO .ellipsis:=b2 _ _ D.i1z.symm z1
  exact wpAny_setField_rec z2 (by simp) fun g3 _ b3=>K g3 e (fun c o c1 _ c3 _ x=>b3.extBut _ _ c1 (b2 _ _ c3 (b1.extBut _ _ c1 x))) ⟨oe,b3.extBut _ _ (fin z2 e1 e2) e1,e2⟩
 | some x =>
  have hy:ys[k2]? = none:=by rcases en with h | h; rw [hx] at h; cases h; exact h
  refine wpAny_bind (nextB (t1.move b1.extBut D.i1z) (m1.move b1.extBut D.l1z) hx fun g2 t12 b2=>wpAny_pure ?_)
  have o2:IsPair g2 TO a b:=b2.extBut _ _ D.TOi1 (b1.extBut _ _ D.TOz zo)
  refine wpAny_bind (wpAny_seqItems o2 rfl (wpAny_bind (wpAny_updateSeq_pair o2 fun g3 o3 b3=>wpAny_bind (wpAny_letGo (wpAny_pure (wpAny_bind (wpAny_bind (wpAny_onRaise ?_))))))))
  show wpAny _ _ (Builtin.SmallTypes.nextOf (.ref i2) >>= _) _ _ _
  refine wpAny_bind (stopB hh (((t2.move b1.extBut D.i2z).move b2.extBut D.i12.symm).move b3.extBut D.TOi2.symm) (((m2.move b1.extBut D.l2z).move b2.extBut D.l2i1).move b3.extBut D.l2TO) hy fun g4 e b4 he=>?_)
  obtain ⟨oe,e1,e2⟩:=he
  have z4:IsZip g4 z TI TO .ellipsis:=b4 _ _ D.i2z.symm (b3.extBut _ _ D.TOz.symm (b2.extBut _ _ D.i1z.symm z1))
  exact wpAny_setField_rec z4 (by simp) fun g5 _ b5=>K g5 e (fun c o c1 c2 c3 c4 x=>b5.extBut _ _ c1 (b4 _ _ c4 (b3.extBut _ _ c2 (b2.extBut _ _ c3 (b1.extBut _ _ c1 x))))) ⟨oe,b5.extBut _ _ (fin z4 e1 e2) e1,e2⟩
theorem zipB_next {Q:Option Value→Shared→Prop} (D:ZipApart z TI TO i1 i2 l1 l2) (zz:IsZip s.heap z TI TO .none) (zi:IsPair s.heap TI (.ref i1) (.ref i2)) (zo:IsPair s.heap TO a b)
  (t1:IterB p s.heap i1 l1 k1) (t2:IterB q s.heap i2 l2 k2) (m1:SeqB p s.heap l1 xs) (m2:SeqB q s.heap l2 ys) (ex:xs[k1]? = some x) (ey:ys[k2]? = some y)
  (K:∀ h',IsZip h' z TI TO (rawInt s.heap.objs.size)→IsPair h' TO x y→IterB p h' i1 l1 (k1 + 1)→IterB q h' i2 l2 (k2 + 1)→IsPair h' s.heap.objs.size x y →
   (∀ c o,c ≠ z→c ≠ TO→c ≠ i1→c ≠ i2→s.heap.get? c = some o→h'.get? c = some o)→Q (some (.ref s.heap.objs.size)) { s with heap:=h' }):wpAny (model P w) A (pyNext (.ref z)) Q E s:=by
 have ty:s.TypeIs (.ref z) "zip":=⟨_,zz,rfl⟩
 unfold pyNext
 exact wpAny_bind (wpAny_attempt (wpAny_callSpecial?_slot (name:=Str.ofString "__next__") ty F.slot_zip_next (wpAny_call_entry F.slot_zip_next ty F.entry_zip_next (zipB_item D zz zi zo t1 t2 m1 m2 ex ey fun h' a1 a2 a3 a4 a5 a6=>wpAny_pure (K h' a1 a2 a3 a4 a5 a6)) (F.args_zip_next_1 _))))
theorem zipB_stop {Q:Option Value→Shared→Prop} (hh:A.handled = none) (D:ZipApart z TI TO i1 i2 l1 l2) (zz:IsZip s.heap z TI TO .none) (zi:IsPair s.heap TI (.ref i1) (.ref i2)) (zo:IsPair s.heap TO a b)
  (t1:IterB p s.heap i1 l1 k1) (t2:IterB q s.heap i2 l2 k2) (m1:SeqB p s.heap l1 xs) (m2:SeqB q s.heap l2 ys) (en:xs[k1]? = none ∨ ys[k2]? = none)
  (K:∀ h',(∀ c o,c ≠ z→c ≠ TO→c ≠ i1→c ≠ i2→s.heap.get? c = some o→h'.get? c = some o)→Q none { s with heap:=h' }):wpAny (model P w) A (pyNext (.ref z)) Q E s:=by
 have ty:s.TypeIs (.ref z) "zip":=⟨_,zz,rfl⟩
 unfold pyNext
 refine wpAny_bind (wpAny_attempt (wpAny_callSpecial?_slot (name:=Str.ofString "__next__") ty F.slot_zip_next (wpAny_call_entry F.slot_zip_next ty F.entry_zip_next (zipB_end hh D zz zi zo t1 t2 m1 m2 en fun h' e hk he=>?_) (F.args_zip_next_1 _))))
 obtain ⟨o,e1,e2⟩:=he
 exact wpAny_bind (wpAny_isInstance (T:="StopIteration") (b:=true) ⟨o,e1,e2⟩ isSubtype_stop (wpAny_pure (K _ hk)))
end
abbrev zb1 (p:Bool) (h:Heap) (l1:Addr):Heap:=h.push { cls:=.type (iterCls p),data:=.fields #[.ref l1,.int 0 0] }
abbrev zb2 (p q:Bool) (h:Heap) (l1 l2:Addr):Heap:=(zb1 p h l1).push { cls:=.type (iterCls q),data:=.fields #[.ref l2,.int 0 0] }
abbrev zb3 (p q:Bool) (h:Heap) (l1 l2:Addr):Heap:=(zb2 p q h l1 l2).push { cls:=.type "tuple",data:=.seq #[.ref h.objs.size,.ref (zb1 p h l1).objs.size] }
abbrev zb4 (p q:Bool) (h:Heap) (l1 l2:Addr):Heap:=(zb3 p q h l1 l2).push { cls:=.type "tuple",data:=.seq #[.none,.none] }
abbrev zb5 (p q:Bool) (h:Heap) (l1 l2:Addr):Heap:=(zb4 p q h l1 l2).push { cls:=.type "zip",data:=.fields #[.none,.bool false,.bool false,.ref (zb2 p q h l1 l2).objs.size,.ref (zb3 p q h l1 l2).objs.size] }
theorem meets_zipB (p q:Bool) (l1 l2:Addr) (xs ys:Array Value) :
  Meets (Builtin.«zip.__new__» ⟨[.type "zip",.ref l1,.ref l2],[]⟩) (fun _ R s=>SeqB p s.heap l1 xs∧SeqB q s.heap l2 ys∧R (.ok (.ret (.ref (zb4 p q s.heap l1 l2).objs.size))) { s with heap:=zb5 p q s.heap l1 l2 }) :=
 .of_wp fun prog w A R s h=>by
  obtain ⟨hp,g,d,tk,os⟩:=s; obtain ⟨m1,m2,h⟩:=h
  have hsub:=sub_zip
  have M1:SeqB p (Shared.heap ⟨hp,g,d,tk,os⟩) l1 xs:=m1
  have M2:SeqB q (Shared.heap ⟨hp.push { cls:=.type (iterCls p),data:=.fields #[.ref l1,.int 0 0] },g,d,tk,os⟩) l2 ys:=SeqB.push m2
  wp_walk using iterB M1,iterB M2
  exact ⟨_,rfl,h⟩
section
variable {P:Program} {w:World} {A:Around} {E:Value→Shared→Prop} {s:Shared}
theorem call_zipB {p q:Bool} {l1 l2:Addr} {xs ys:Array Value} {Q:Value→Shared→Prop} (m1:SeqB p s.heap l1 xs) (m2:SeqB q s.heap l2 ys)
  (K:∀ h',IsZip h' (s.heap.objs.size + 4) (s.heap.objs.size + 2) (s.heap.objs.size + 3) .none→IsPair h' (s.heap.objs.size + 2) (.ref s.heap.objs.size) (.ref (s.heap.objs.size + 1)) →
   IsPair h' (s.heap.objs.size + 3) .none .none→IterB p h' s.heap.objs.size l1 0→IterB q h' (s.heap.objs.size + 1) l2 0→(∀ c o,s.heap.get? c = some o→h'.get? c = some o)→Q (.ref (s.heap.objs.size + 4)) { s with heap:=h' }) :
  wpAny (model P w) A (call (.type "zip") [.ref l1,.ref l2]) Q E s:=by
 refine callType_new F.called_zip (by decide) (F.typeCall_zip_2 _ _) (F.newCall_zip_2 _ _) (fun obj=>F.args_object_init_3 obj _ _) F.entry_zip_new (meets_zipB p q l1 l2 xs ys) ⟨m1,m2,?_⟩
 have z1:(zb1 p s.heap l1).objs.size = s.heap.objs.size + 1:=Heap.size_push ..
 have z2:(zb2 p q s.heap l1 l2).objs.size = s.heap.objs.size + 2:=by rw [Heap.size_push,z1]
 have z3:(zb3 p q s.heap l1 l2).objs.size = s.heap.objs.size + 3:=by rw [Heap.size_push,z2]
 have z4:(zb4 p q s.heap l1 l2).objs.size = s.heap.objs.size + 4:=by rw [Heap.size_push,z3]
 have f5:(zb5 p q s.heap l1 l2).get? (zb4 p q s.heap l1 l2).objs.size = some _:=Heap.get?_push_size _ rfl
 have f4:(zb5 p q s.heap l1 l2).get? (zb3 p q s.heap l1 l2).objs.size = some _:=Heap.get?_push_of_some _ (Heap.get?_push_size _ rfl)
 have f3:(zb5 p q s.heap l1 l2).get? (zb2 p q s.heap l1 l2).objs.size = some _:=Heap.get?_push_of_some _ (Heap.get?_push_of_some _ (Heap.get?_push_size _ rfl))
 have f2:(zb5 p q s.heap l1 l2).get? (zb1 p s.heap l1).objs.size = some _:=Heap.get?_push_of_some _ (Heap.get?_push_of_some _ (Heap.get?_push_of_some _ (Heap.get?_push_size _ rfl)))
 have f1:(zb5 p q s.heap l1 l2).get? s.heap.objs.size = some _:=Heap.get?_push_of_some _ (Heap.get?_push_of_some _ (Heap.get?_push_of_some _ (Heap.get?_push_of_some _ (Heap.get?_push_size _ rfl))))
 show _∧_
 rw [z2,z3,z4] at f5; rw [z1,z2] at f3; rw [z3] at f4; rw [z1] at f2; rw [z4]
 refine ⟨⟨_,f5,rfl⟩,K _ f5 f3 f4 ?_ ?_ fun c o x=>Heap.get?_push_of_some _ (Heap.get?_push_of_some _ (Heap.get?_push_of_some _ (Heap.get?_push_of_some _ (Heap.get?_push_of_some _ x))))⟩
 ·cases p <;> exact ⟨_,f1,rfl,rfl⟩
 ·cases q <;> exact ⟨_,f2,rfl,rfl⟩
end
end L2
end
section
set_option Elab.async false
set_option linter.all false
set_option maxRecDepth 100000
set_option maxHeartbeats 4000000
namespace L2
open PySem PySem.Spec PyProof.Rows
open AutoSeq1 (wpAny_loadPart')
section
variable {P:Program} {w:World} {A:Around} {E:Value→Shared→Prop} {s:Shared} {p:Bool} {e it l:Addr} {i:Nat} {xs:Array Value} {x old:Value}
end
section
variable {P:Program} {w:World} {A:Around} {E:Value→Shared→Prop} {s:Shared}
end
def SqB (b:Bool) (K:PySem.W.Frag) (H:Hp) (a:Addr) (xs:List V):Prop:=match b with | true=>SqL K H a xs | false=>SqT K H a xs
section
variable {X:Cx} {pins:List (Addr×Obj)} {σ:St} {H:Hp} {s:Shared} {a:Addr} {xs ys:List V} {b:Bool}
theorem Inv.seqB (I:Inv X pins σ H s) (h:SqB b X.K H a xs):∃ its:List Value,Vals xs its∧SeqB b s.heap a its.toArray∧xs.length = its.length:=by
 cases b
 ·obtain ⟨its,r,q,_⟩:=I.tuple h
  exact ⟨its,r,q,r.length⟩
 ·obtain ⟨its,r,q,_⟩:=I.list h
  exact ⟨its,r,q.isList,r.length⟩
theorem Inv.seqB_inj (I:Inv X pins σ H s) (h:SqB b X.K H a xs) (h':SqB b X.K H a ys):xs = ys:=by
 cases b
 ·exact I.tuple_inj h h'
 ·exact I.list_inj h h'
end
def Iz2 (K : PySem.W.Frag) (p q : Bool) (a b : Addr) : It :=
  ⟨fun i H => ∃ xs ys x y, SqB p K H a xs ∧ SqB q K H b ys ∧ xs[i]? = some x ∧ ys[i]? = some y,
   fun i H v H' => ∃ c, H c = none ∧ v = .ref c ∧ ∀ xs ys x y, SqB p K H a xs → SqB q K H b ys → xs[i]? = some x → ys[i]? = some y → H' = upd H c (.tup [x, y]),
   fun i H => ∃ xs ys, SqB p K H a xs ∧ SqB q K H b ys ∧ (xs.length ≤ i ∨ ys.length ≤ i)⟩
theorem turn_z2 {P:Program} {w:World} {K:PySem.W.Frag} {p q:Bool} {elts:List Expr} {k:Nat} {pos:Pos} {a b z TI TO i1 i2:Addr} (D:ZipApart z TI TO i1 i2 a b) :
  Turn P w K (.Tuple elts k pos) (Iz2 K p q a b) [z,TO,i1,i2,TI] z (fun i h=>IsZip h z TI TO .none∧IsPair h TI (.ref i1) (.ref i2)∧(∃ c d,IsPair h TO c d)∧IterB p h i1 a i∧IterB q h i2 b i) where
 mem:=by simp
 obj:=fun i h st c hc=>by
  obtain ⟨zz,zi,⟨x,y,zo⟩,t1,t2⟩:=st
  simp only [List.mem_cons,List.not_mem_nil,or_false] at hc
  rcases hc with rfl | rfl | rfl | rfl | rfl
  ·exact ⟨_,zz,fun v z=>by cases z⟩
  ·exact ⟨_,zo,fun v z=>by cases z⟩
  ·exact t1.obj
  ·exact t2.obj
  ·exact ⟨_,zi,fun v z=>by cases z⟩
 keep:=fun i h h' st kk=>by
  obtain ⟨zz,zi,⟨x,y,zo⟩,t1,t2⟩:=st
  exact ⟨kk z (by simp) _ zz,kk TI (by simp) _ zi,⟨x,y,kk TO (by simp) _ zo⟩,t1.to fun o e=>kk i1 (by simp) o e,t2.to fun o e=>kk i2 (by simp) o e⟩
 item:=by
  intro X hP hw hK hc i pins s σ H E I hf st hg
  subst hP hw hK
  obtain ⟨xs,ys,x,y,q1,q2,hx,hy⟩:=hg
  obtain ⟨zz,zi,⟨u0,v0,zo⟩,t1,t2⟩:=st
  obtain ⟨its,rv,m1,_⟩:=I.seqB q1
  obtain ⟨jts,rw',m2,_⟩:=I.seqB q2
  obtain ⟨u,hu,ru⟩:=rv.get hx
  obtain ⟨u',hu',ru'⟩:=rw'.get hy
  refine zipB_next D zz zi zo t1 t2 m1 m2 (x:=u) (y:=u') (by simpa using hu) (by simpa using hu') fun h' a1 a2 a3 a4 a5 hk=>?_
  refine ⟨_,rfl,wpAny_letOwnedTupleGo_zip a1 fun h'' z'' hs''=>?_⟩
  have szn:z ≠ s.heap.objs.size:=Nat.ne_of_lt (Heap.lt_size zz)
  have T'':IsPair h'' s.heap.objs.size u u':=hs''.extBut _ _ (Ne.symm szn) a5
  have I1:Inv X pins σ (upd H s.heap.objs.size (.tup [x,y])) { s with heap:=h'' }:=I.turnedNew (t':=s.toks) (ch:=[z,TO,i1,i2]) (Nat.le_refl _)
   (fun c ob hc e=>by simp only [List.mem_cons,List.not_mem_nil,or_false,not_or] at hc; exact hs''.extBut _ _ hc.1 (hk c ob hc.1 hc.2.1 hc.2.2.1 hc.2.2.2 e))
   (fun c hc=>hf c (by simp only [List.mem_cons,List.not_mem_nil,or_false] at hc ⊢; rcases hc with z | z | z | z <;> simp [z])) ⟨by show 2 ≤ sizeLine; decide,[u,u'],.cons ru (.cons ru' .nil),⟨_,T'',rfl,_,rfl⟩⟩
  refine ⟨.ref s.heap.objs.size,_,I1,rfl,⟨_,I.fresh,rfl,fun xs' ys' x' y' r1 r2 hx' hy'=>?_⟩,⟨z'',hs''.extBut _ _ D.TIz (hk _ _ D.TIz D.TITO D.TIi1 D.TIi2 zi),⟨_,_,hs''.extBut _ _ D.TOz a2⟩,a3.move hs''.extBut D.i1z,a4.move hs''.extBut D.i2z⟩,fun c hc=>?_⟩
  ·have e1:=I.seqB_inj r1 q1
   have e2:=I.seqB_inj r2 q2
   subst e1 e2
   rw [hx] at hx'; rw [hy] at hy'; cases hx'; cases hy'; rfl
  ·have:c ≠ s.heap.objs.size:=by
    have hlt:c < s.heap.objs.size:=by
     simp only [List.mem_cons,List.not_mem_nil,or_false] at hc
     rcases hc with rfl | rfl | rfl | rfl | rfl
     ·exact Heap.lt_size zz
     ·exact Heap.lt_size zo
     ·exact t1.lt
     ·exact t2.lt
     ·exact Heap.lt_size zi
    exact Nat.ne_of_lt hlt
   rw [upd_ne this]; exact (hf c hc).1
 done:=by
  intro X hP hw hK hc i pins s σ H E I hf st hg
  subst hP hw hK
  obtain ⟨xs,ys,q1,q2,hx⟩:=hg
  obtain ⟨zz,zi,⟨u0,v0,zo⟩,t1,t2⟩:=st
  obtain ⟨its,rv,m1,l1⟩:=I.seqB q1
  obtain ⟨jts,rw',m2,l2⟩:=I.seqB q2
  refine zipB_stop (I.ok.hd hc) D zz zi zo t1 t2 m1 m2 (hx.elim (fun z=>.inl (by simp; omega)) fun z=>.inr (by simp; omega)) fun h' hk=>⟨rfl,?_⟩
  exact I.turnedL (t':=s.toks) (ch:=[z,TO,i1,i2]) (fun c ob hc e=>by simp only [List.mem_cons,List.not_mem_nil,or_false,not_or] at hc; exact hk c ob hc.1 hc.2.1 hc.2.2.1 hc.2.2.2 e)
   (fun c hc=>hf c (by simp only [List.mem_cons,List.not_mem_nil,or_false] at hc ⊢; rcases hc with z | z | z | z <;> simp [z]))
 self:=fun _ _ _ _ _ st h=>wpAny_pyIter_zip st.1 h
section
variable {X:Cx}
def iZ2 (K:PySem.W.Frag) (ta:TA):TI:=fun σ H R=>ta σ H fun vs H1=>∃ p q a b,vs = [.ref a,.ref b]∧(∃ xs,SqB p K H1 a xs)∧(∃ ys,SqB q K H1 b ys)∧R (Iz2 K p q a b) H1
theorem pi_z2 {elts:List Expr} {k:Nat} {tp:Pos} {e1 e2:Expr} {ta:TA} {p pos:Pos} (hg:Gl X "zip") (hm:X.mg "zip" = none) (ha:PA X [e1,e2] ta)
  (hs:starEach [e1,e2] X.env = [(false,eval e1 X.env),(false,eval e2 X.env)]) (hs2:starEach [e2] X.env = [(false,eval e2 X.env)]):PI X (.Tuple elts k tp) (.Call (.Name "zip" p) [e1,e2] [] pos) (iZ2 X.K ta):=by
 intro pins s σ H R I h
 refine wpAny_Call_Name_kw (ld_blt I hg hm PyProof.Rows.boot_zip ?_ (by decide) (by decide))
 refine PyProof.Rows.callWith_type1 (thn (ha pos pins s σ H _ I h) fun us s1 ⟨vs,H1,I1,r1,q1⟩=>?_) (by rw [hs,hs2]) (by rw [hs2]; rfl)
 obtain ⟨p,q,a,b,e,⟨xs,hq1⟩,⟨ys,hq2⟩,kk⟩:=q1
 subst e
 obtain ⟨u1,u2,rfl,ra,rb⟩:=vals2 r1
 cases ra; cases rb
 obtain ⟨its,rv,m1,_⟩:=I1.seqB hq1
 obtain ⟨jts,rw',m2,_⟩:=I1.seqB hq2
 refine call_zipB m1 m2 fun h' zz zi zo t1 t2 hk=>wpAny_pyIter_zip (f0:=.none) zz ?_
 have I2:Inv X pins σ H1 { s1 with heap:=h' }:=I1.kept (t':=s1.toks) fun c o e=>hk c o e
 refine ⟨_,_,_,Iz2 X.K p q a b,H1,rfl,I2,turn_z2 (zipApart_new m1.lt m2.lt),⟨zz,zi,⟨_,_,zo⟩,t1,t2⟩,fun c hc=>?_,kk⟩
 have hge:s1.heap.objs.size ≤ c:=by
  simp only [List.mem_cons,List.not_mem_nil,or_false] at hc
  rcases hc with rfl | rfl | rfl | rfl | rfl <;> first | exact Nat.le_refl _ | exact Nat.le_add_right _ _
 exact I1.fpOk hge (I1.hok.fresh hge)
end
end L2
end
section
namespace Kw
inductive D where
 | non | bl (b:Bool) | int (i:Int) | str (x:String) | tup (xs:List D) | lst (xs:List D)
 deriving Inhabited
mutual
def D.beq:D→D→Bool
 | .non,.non=>true
 | .bl a,.bl b=>a == b
 | .int a,.int b=>a == b
 | .str a,.str b=>a == b
 | .tup a,.tup b=>D.beqs a b
 | .lst a,.lst b=>D.beqs a b
 | _,_=>false
def D.beqs:List D→List D→Bool
 | [],[]=>true
 | a :: r,b :: q=>D.beq a b && D.beqs r q
 | _,_=>false
end
mutual
theorem D.beq_eq:∀ {a b:D},D.beq a b = true→a = b
 | .non,b,h=>by cases b <;> simp_all [D.beq]
 | .bl _,b,h=>by cases b <;> simp_all [D.beq]
 | .int _,b,h=>by cases b <;> simp_all [D.beq]
 | .str _,b,h=>by cases b <;> simp_all [D.beq]
 | .tup xs,b,h=>by
  cases b <;> simp [D.beq] at h
  rw [D.beqs_eq h]
 | .lst xs,b,h=>by
  cases b <;> simp [D.beq] at h
  rw [D.beqs_eq h]
theorem D.beqs_eq:∀ {a b:List D},D.beqs a b = true→a = b
 | [],b,h=>by cases b <;> simp_all [D.beqs]
 | x :: r,b,h=>by
  cases b with
  | nil=>simp [D.beqs] at h
  | cons y q =>
   simp [D.beqs] at h
   rw [D.beq_eq h.1,D.beqs_eq h.2]
end
mutual
theorem D.beq_rfl:∀ a:D,D.beq a a = true
 | .non=>rfl
 | .bl _=>by simp [D.beq]
 | .int _=>by simp [D.beq]
 | .str _=>by simp [D.beq]
 | .tup xs=>by simp [D.beq,D.beqs_rfl xs]
 | .lst xs=>by simp [D.beq,D.beqs_rfl xs]
theorem D.beqs_rfl:∀ a:List D,D.beqs a a = true
 | []=>rfl
 | x :: r=>by simp [D.beqs,D.beq_rfl x,D.beqs_rfl r]
end
instance:DecidableEq D:=fun a b =>
 if h:D.beq a b = true then .isTrue (D.beq_eq h) else .isFalse (fun e=>h (e ▸ D.beq_rfl a))
mutual
def D.eqv:D→D→Bool
 | .non,.non=>true
 | .bl a,.bl b=>a == b
 | .bl a,.int j=>(if a then 1 else 0) == j
 | .int i,.bl b=>i == (if b then 1 else 0)
 | .int a,.int b=>a == b
 | .str a,.str b=>a == b
 | .tup a,.tup b=>D.eqvs a b
 | .lst a,.lst b=>D.eqvs a b
 | _,_=>false
def D.eqvs:List D→List D→Bool
 | [],[]=>true
 | a :: r,b :: q=>D.eqv a b && D.eqvs r q
 | _,_=>false
end
mutual
def D.wt:D→Nat
 | .non=>0 | .bl _=>0
 | .int i=>if -(2 ^ 40) < i∧i < 2 ^ 40 then 41 else 151
 | .str x=>x.length
 | .tup xs=>D.wts xs
 | .lst xs=>D.wts xs
def D.wts:List D→Nat
 | []=>0
 | a :: r=>D.wt a + 1 + D.wts r
end
mutual
def D.fit:D→Bool
 | .int i=>decide (-(2 ^ 150) < i∧i < 2 ^ 150)
 | .tup xs=>D.fits xs
 | .lst xs=>D.fits xs
 | _=>true
def D.fits:List D→Bool
 | []=>true
 | a :: r=>D.fit a && D.fits r
end
inductive PV where
 | non | bl (b:Bool) | int (i:Int) | str (x:String) | tup (xs:List PV) | ref (l:Nat)
 | scr (ns:List Int)
 | shn (d:D)
 deriving Inhabited
mutual
def PV.beq:PV→PV→Bool
 | .non,.non=>true
 | .bl a,.bl b=>a == b
 | .int a,.int b=>a == b
 | .str a,.str b=>a == b
 | .tup a,.tup b=>PV.beqs a b
 | .ref a,.ref b=>a == b
 | .scr a,.scr b=>a == b
 | .shn a,.shn b=>decide (a = b)
 | _,_=>false
def PV.beqs:List PV→List PV→Bool
 | [],[]=>true
 | a :: r,b :: q=>PV.beq a b && PV.beqs r q
 | _,_=>false
end
mutual
theorem PV.beq_eq:∀ {a b:PV},PV.beq a b = true→a = b
 | .non,b,h=>by cases b <;> simp_all [PV.beq]
 | .bl _,b,h=>by cases b <;> simp_all [PV.beq]
 | .int _,b,h=>by cases b <;> simp_all [PV.beq]
 | .str _,b,h=>by cases b <;> simp_all [PV.beq]
 | .ref _,b,h=>by cases b <;> simp_all [PV.beq]
 | .scr _,b,h=>by cases b <;> simp_all [PV.beq]
 | .shn _,b,h=>by cases b <;> simp_all [PV.beq]
 | .tup xs,b,h=>by
  cases b <;> simp [PV.beq] at h
  rw [PV.beqs_eq h]
theorem PV.beqs_eq:∀ {a b:List PV},PV.beqs a b = true→a = b
 | [],b,h=>by cases b <;> simp_all [PV.beqs]
 | x :: r,b,h=>by
  cases b with
  | nil=>simp [PV.beqs] at h
  | cons y q =>
   simp [PV.beqs] at h
   rw [PV.beq_eq h.1,PV.beqs_eq h.2]
end
mutual
theorem PV.beq_rfl:∀ a:PV,PV.beq a a = true
 | .non=>rfl
 | .bl _=>by simp [PV.beq]
 | .int _=>by simp [PV.beq]
 | .str _=>by simp [PV.beq]
 | .ref _=>by simp [PV.beq]
 | .scr _=>by simp [PV.beq]
 | .shn _=>by simp [PV.beq]
 | .tup xs=>by simp [PV.beq,PV.beqs_rfl xs]
theorem PV.beqs_rfl:∀ a:List PV,PV.beqs a a = true
 | []=>rfl
 | x :: r=>by simp [PV.beqs,PV.beq_rfl x,PV.beqs_rfl r]
end
instance:DecidableEq PV:=fun a b =>
 if h:PV.beq a b = true then .isTrue (PV.beq_eq h) else .isFalse (fun e=>h (e ▸ PV.beq_rfl a))
inductive PO where
 | lst (xs:List PV)
 deriving DecidableEq,Inhabited
abbrev Sto:=List PO
abbrev Loc:=List (Option PV)
def big:Nat:=100000
inductive BOp where | add | sub | mul | fdiv | mod | pow
 deriving DecidableEq,Inhabited
inductive COp where | eq | ne | lt | le | gt | ge | isin | notin
 deriving DecidableEq,Inhabited
inductive Tg where | nm (i:Nat) | tp (is:List Nat)
 deriving DecidableEq,Inhabited
inductive BF where | len | abs | int | sum | all | any | min | max | tuple | list | str
 deriving DecidableEq,Inhabited
inductive Ty where | int | bool | str | list | tuple
 deriving DecidableEq,Inhabited
inductive MF where | append | extend
 deriving DecidableEq,Inhabited
inductive E where
 | var (i:Nat) | int (i:Int) | bl (b:Bool) | non | str (x:String)
 | bin (op:BOp) (a b:E) | cmp (op:COp) (a b:E)
 | is (k:Bool) (a c:E)
 | chain (o p:COp) (a b c:E)
 | and (a b:E) | or (a b:E) | not (a:E) | neg (a:E) | ite (c a b:E)
 | tup (es:E) | lst (es:E) | nil | cons (e es:E)
 | ix (a i:E) | sl (a lo hi:E) | none
 | call (f:Nat) (args:E)
 | blt (f:BF) (args:E)
 | isi (a:E) (ts:List Ty)
 | meth (f:MF) (o a:E)
 | comp (elt:E) (tg:Tg) (n m:Nat) (it ifs:E)
 | rng (a:E) | rng2 (a b:E) | zip (a b:E) | enum (a:E) | revr (a:E) | rev (a:E)
 | turn (a:E)
 deriving Inhabited
inductive S where
 | nil | cons (s r:S)
 | asg (tg:Tg) (e:E) | setix (o i e:E) | aug (i:Nat) (op:BOp) (e:E)
 | ret (e:E) | retN | expr (e:E) | pass | ife (c:E) (a b:S) | whl (c:E) (b:S) | for_ (tg:Tg) (it:E) (b:S) | brk | cont
 deriving Inhabited
noncomputable abbrev R (α:Type):=Option (α×Sto)
noncomputable def listOf (st:Sto):PV→Option (List PV)
 | .ref l=>match st[l]? with
  | some (.lst xs)=>some xs
  | none=>none
 | .scr ns=>some (ns.map .int)
 | _=>none
noncomputable def seqOf (st:Sto):PV→Option (List PV)
 | .tup xs=>some xs
 | v=>listOf st v
noncomputable def truthy (st:Sto):PV→Option Bool
 | .non=>some false
 | .bl b=>some b
 | .int i=>some (i != 0)
 | .str _=>none
 | .tup xs=>some (!xs.isEmpty)
 | .shn _=>none
 | v=>(listOf st v).map fun xs=>!xs.isEmpty
noncomputable def mapO {α β:Type} (f:α→Option β):List α→Option (List β)
 | []=>some []
 | x :: xs=>(f x).bind fun y=>(mapO f xs).map (y :: ·)
noncomputable def toD (st:Sto):Nat→PV→Option D
 | 0,_=>none
 | n + 1,v=>match v with
  | .non=>some .non
  | .bl b=>some (.bl b)
  | .int i=>some (.int i)
  | .str x=>some (.str x)
  | .tup xs=>(mapO (toD st n) xs).map .tup
  | .ref l=>match st[l]? with
   | some (.lst xs)=>(mapO (toD st n) xs).map .lst
   | none=>none
  | .scr _=>none
  | .shn _=>none
noncomputable def deepest:Nat:=40
noncomputable def eqv (st:Sto) (a b:PV):Option Bool:=match a,b with
 | .shn x,.shn y=>if x = y then some true else none
 | a,b=>(toD st deepest a).bind fun x=>(toD st deepest b).bind fun y=>some (D.eqv x y)
noncomputable def inD:D→D→Option Bool
 | x,.lst xs=>some (xs.any fun y=>D.eqv y x)
 | x,.tup xs=>some (xs.any fun y=>D.eqv y x)
 | _,_=>none
noncomputable def inv (st:Sto) (a b:PV):Option Bool:=(toD st deepest a).bind fun x=>(toD st deepest b).bind fun y=>inD x y
noncomputable def small (i:Int):Bool:=decide (-(2 ^ 64) < i∧i < 2 ^ 64)
noncomputable def alloc (st:Sto) (xs:List PV):R PV:=if xs.length ≤ big then some (.ref st.length,st ++ [.lst xs]) else none
noncomputable def binop:BOp→PV→PV→Sto→R PV
 | .add,.int i,.int j,st=>some (.int (i + j),st)
 | .add,.tup xs,.tup ys,st=>if xs.length + ys.length ≤ big then some (.tup (xs ++ ys),st) else none
 | .add,.ref a,.ref b,st=>match st[a]?,st[b]? with
  | some (.lst xs),some (.lst ys)=>alloc st (xs ++ ys)
  | _,_=>none
 | .mul,.ref a,.int k,st=>match st[a]? with
  | some (.lst xs)=>if -(2 ^ 63) ≤ k∧k < 2 ^ 63∧xs.length * k.toNat ≤ big then some (.ref st.length,st ++ [.lst (List.replicate k.toNat xs).flatten]) else none
  | none=>none
 | .sub,.int i,.int j,st=>some (.int (i - j),st)
 | .mul,.int i,.int j,st=>if small i || small j then some (.int (i * j),st) else none
 | .fdiv,.int i,.int j,st=>if 0 < j∧j < 1073741824 then some (.int (i / j),st) else none
 | .mod,.int i,.int j,st=>if 0 < j then some (.int (i % j),st) else none
 | .pow,.int i,.int j,st=>if 0 ≤ j∧j ≤ 1000∧small i then some (.int (i ^ j.toNat),st) else none
 | _,_,_,_=>none
noncomputable def intsOf:List PV→Option (List Int)
 | []=>some []
 | .int i :: r=>(intsOf r).map (i :: ·)
 | _=>none
noncomputable def lexLt:List Int→List Int→Bool
 | [],[]=>false
 | [],_ :: _=>true
 | _ :: _,[]=>false
 | a :: r,b :: q=>if a = b then lexLt r q else decide (a < b)
noncomputable def lexLe:List Int→List Int→Bool
 | [],[]=>true
 | [],_ :: _=>true
 | _ :: _,[]=>false
 | a :: r,b :: q=>if a = b then lexLe r q else decide (a ≤ b)
noncomputable def cmpop:COp→PV→PV→Sto→Option Bool
 | .eq,a,b,st=>eqv st a b
 | .ne,a,b,st=>(eqv st a b).map (!·)
 | .lt,.int i,.int j,_=>some (decide (i < j))
 | .le,.int i,.int j,_=>some (decide (i ≤ j))
 | .gt,.int i,.int j,_=>some (decide (j < i))
 | .ge,.int i,.int j,_=>some (decide (j ≤ i))
 | .lt,.tup xs,.tup ys,_=>(intsOf xs).bind fun a=>(intsOf ys).bind fun b=>some (lexLt a b)
 | .le,.tup xs,.tup ys,_=>(intsOf xs).bind fun a=>(intsOf ys).bind fun b=>some (lexLe a b)
 | .isin,a,b,st=>inv st a b
 | .notin,a,b,st=>(inv st a b).map (!·)
 | _,_,_,_=>none
noncomputable def ixN (n:Nat) (i:Int):Option Nat:=if 0 ≤ i then (if i < n then some i.toNat else none) else if -(n:Int) ≤ i then some (i + n).toNat else none
noncomputable def atI (xs:List PV) (i:Int):Option PV:=(ixN xs.length i).bind fun j=>xs[j]?
noncomputable def sIx (n d:Nat):Option Int→Nat
 | none=>d
 | some v=>if v < 0 then (v + n).toNat else min v.toNat n
noncomputable def cut (xs:List PV) (lo hi:Option Int):List PV:=(xs.drop (sIx xs.length 0 lo)).take (sIx xs.length xs.length hi - sIx xs.length 0 lo)
noncomputable def slice (st:Sto) (v:PV) (lo hi:Option Int):R PV:=match v with
 | .tup xs=>some (.tup (cut xs lo hi),st)
 | .ref l=>match st[l]? with
  | some (.lst xs)=>some (.ref st.length,st ++ [.lst (cut xs lo hi)])
  | _=>none
 | _=>none
noncomputable def small40 (i:Int):Bool:=decide (-(2 ^ 40) ≤ i∧i ≤ 2 ^ 40)
noncomputable def sumI (xs:List PV):Option Int:=(intsOf xs).bind fun ns=>if ns.length ≤ big∧ns.all small40 then some ns.sum else none
noncomputable def bools:List PV→Option (List Bool)
 | []=>some []
 | .bl b :: r=>(bools r).map (b :: ·)
 | _=>none
noncomputable def tupsOf:List PV→Option (List (List Int))
 | []=>some []
 | .tup xs :: r=>(intsOf xs).bind fun t=>(tupsOf r).map (t :: ·)
 | _=>none
noncomputable def leastI (b:Int):List Int→Int
 | []=>b
 | x :: r=>leastI (if x < b then x else b) r
noncomputable def leastT (b:List Int):List (List Int)→List Int
 | []=>b
 | x :: r=>leastT (if lexLt x b then x else b) r
theorem leastI_app:∀ (xs:List Int) (b x:Int),leastI b (xs ++ [x]) = if x < leastI b xs then x else leastI b xs
 | [],b,x=>rfl
 | y :: ys,b,x=>by
  show leastI (if y < b then y else b) (ys ++ [x]) = _
  rw [leastI_app ys]; rfl
theorem leastT_app:∀ (xs:List (List Int)) (b x:List Int),leastT b (xs ++ [x]) = if lexLt x (leastT b xs) = true then x else leastT b xs
 | [],b,x=>rfl
 | y :: ys,b,x=>by
  show leastT (if lexLt y b = true then y else b) (ys ++ [x]) = _
  rw [leastT_app ys]; rfl
noncomputable def minL (xs:List PV):Option PV:=match intsOf xs with
 | some (n :: r)=>some (.int (leastI n r))
 | some []=>none
 | none=>match tupsOf xs with
  | some (t :: r)=>some (.tup ((leastT t r).map .int))
  | _=>none
noncomputable def bfun:BF→List PV→Sto→R PV
 | .len,[v],st=>(seqOf st v).bind fun xs=>some (.int xs.length,st)
 | .abs,[.int i],st=>some (.int (if i < 0 then -i else i),st)
 | .int,[.int i],st=>some (.int i,st)
 | .int,[.bl b],st=>some (.int (if b then 1 else 0),st)
 | .sum,[v],st=>(listOf st v).bind fun xs=>(sumI xs).bind fun n=>some (.int n,st)
 | .all,[v],st=>(listOf st v).bind fun xs=>(bools xs).bind fun bs=>some (.bl (bs.all id),st)
 | .any,[v],st=>(listOf st v).bind fun xs=>(bools xs).bind fun bs=>some (.bl (bs.any id),st)
 | .min,[v],st=>(listOf st v).bind fun xs=>(minL xs).bind fun m=>some (m,st)
 | .min,[.int i,.int j],st=>some (.int (if j < i then j else i),st)
 | .max,[.int i,.int j],st=>some (.int (if j > i then j else i),st)
 | .tuple,[v],st=>(seqOf st v).bind fun xs=>some (.tup xs,st)
 | .list,[v],st=>(seqOf st v).bind fun xs=>some (.ref st.length,st ++ [.lst xs])
 | .str,[v],st=>match v with
  | .non=>some (.str "None",st)
  | .bl b=>some (.str (if b then "True" else "False"),st)
  | .str x=>some (.str x,st)
  | .int i=>if -(2 ^ 150) < i∧i < 2 ^ 150 then some (.str (toString i),st) else none
  | .tup xs=>(toD st deepest (.tup xs)).bind fun d=>if d.fit∧d.wt ≤ big then some (.shn d,st) else none
  | .ref l=>(toD st deepest (.ref l)).bind fun d=>if d.fit∧d.wt ≤ big then some (.shn d,st) else none
  | _=>none
 | _,_,_=>none
noncomputable def isTy (st:Sto):PV→Ty→Option Bool
 | .non,_=>some false
 | .bl _,t=>some (t == .int || t == .bool)
 | .int _,t=>some (t == .int)
 | .str _,t=>some (t == .str)
 | .tup _,t=>some (t == .tuple)
 | .ref l,t=>match st[l]? with
  | some (.lst _)=>some (t == .list)
  | none=>none
 | .scr _,_=>none
 | .shn _,t=>some (t == .str)
noncomputable def isTys (st:Sto) (v:PV):List Ty→Option Bool
 | []=>some false
 | t :: r=>(isTy st v t).bind fun a=>(isTys st v r).bind fun b=>some (a || b)
noncomputable def extV (st:Sto) (l:Nat) (xs:List PV) (v:PV):R PV:=match v with
 | .tup ys=>if xs.length + ys.length ≤ big then some (.non,st.set l (.lst (xs ++ ys))) else none
 | .ref m=>match st[m]? with
  | some (.lst ys)=>if xs.length + ys.length ≤ big then some (.non,st.set l (.lst (xs ++ ys))) else none
  | none=>none
 | _=>none
noncomputable def mfun:MF→PV→PV→Sto→R PV
 | .append,.ref l,v,st=>match st[l]? with
  | some (.lst xs)=>if xs.length < big then some (.non,st.set l (.lst (xs ++ [v]))) else none
  | _=>none
 | .extend,.ref l,v,st=>match st[l]? with
  | some (.lst xs)=>extV st l xs v
  | none=>none
 | _,_,_,_=>none
noncomputable def setAll:Loc→List Nat→List PV→Option Loc
 | L,[],[]=>some L
 | L,i :: is,v :: vs=>setAll (L.set i (some v)) is vs
 | _,_,_=>none
noncomputable def asgT (tg:Tg) (v:PV) (L:Loc) (st:Sto):Option Loc:=match tg with
 | .nm i=>some (L.set i (some v))
 | .tp is=>match v with
  | .tup xs=>setAll L is xs
  | _=>none
noncomputable abbrev Gd:=List (Nat×List PV)
noncomputable def okG (st:Sto) (gs:Gd):Bool:=gs.all fun p=>decide (listOf st (.ref p.1) = some p.2)
noncomputable def gdOf:PV→List PV→Gd
 | .ref l,xs=>[(l,xs)]
 | _,_=>[]
noncomputable def upto (lo:Int):Nat→List PV
 | 0=>[]
 | n + 1=>.int lo :: upto (lo + 1) n
noncomputable def small62 (i:Int):Bool:=decide (-(2 ^ 62) ≤ i∧i < 2 ^ 62)
section
variable (call:Nat→List PV→Sto→R PV)
noncomputable def compItems (tg:Tg) (gs:Gd) (tst:Loc→Sto→R Bool) (el:Loc→Sto→R PV) (L:Loc):List PV→Sto→R (List PV)
 | [],st=>if okG st gs then some ([],st) else none
 | x :: xs,st=>if okG st gs then
   (asgT tg x L st).bind fun L1=>(tst L1 st).bind fun (b,st1) =>
    if b then (el L1 st1).bind fun (v,st2)=>(compItems tg gs tst el L xs st2).bind fun (vs,st3)=>some (v :: vs,st3)
    else compItems tg gs tst el L xs st1
  else none
structure ER where
 v:Loc→Sto→R PV
 t:Loc→Sto→R Bool
 ts:Loc→Sto→R Bool
 s:Loc→Sto→R (List PV)
 o:Loc→Sto→R (Option Int)
 i:Loc→Sto→Option (List PV×Gd×Sto)
noncomputable def tOfE (v:Loc→Sto→R PV) (L:Loc) (st:Sto):R Bool:=(v L st).bind fun (x,st1)=>(truthy st1 x).bind fun r=>some (r,st1)
noncomputable def oOfE (v:Loc→Sto→R PV) (L:Loc) (st:Sto):R (Option Int):=(v L st).bind fun (x,st1)=>match x with
  | .int i=>some (some i,st1)
  | _=>none
noncomputable def iOfE (v:Loc→Sto→R PV) (L:Loc) (st:Sto):Option (List PV×Gd×Sto):=(v L st).bind fun (x,st1)=>(seqOf st1 x).bind fun xs=>some (xs,gdOf x xs,st1)
noncomputable def nR {α:Type}:Loc→Sto→Option α:=fun _ _=>none
noncomputable def ER.te (v:Loc→Sto→R PV) (t:Loc→Sto→R Bool):ER:=⟨v,t,nR,nR,oOfE v,iOfE v⟩
noncomputable def ER.pl (v:Loc→Sto→R PV):ER:=.te v (tOfE v)
noncomputable def ER.wk (i:Loc→Sto→Option (List PV×Gd×Sto)):ER:=⟨nR,tOfE nR,nR,nR,oOfE nR,i⟩
noncomputable def evA:E→ER
 | .var i=>.pl fun L st=>match L[i]? with
  | some (some v)=>some (v,st)
  | _=>none
 | .int i=>.pl fun L st=>some (.int i,st)
 | .bl b=>.pl fun L st=>some (.bl b,st)
 | .non=>.pl fun L st=>some (.non,st)
 | .str x=>.pl fun L st=>some (.str x,st)
 | .bin op a b=>.pl fun L st=>((evA a).v L st).bind fun (x,st1)=>((evA b).v L st1).bind fun (y,st2)=>binop op x y st2
 | .cmp op a b=>.pl fun L st=>((evA a).v L st).bind fun (x,st1)=>((evA b).v L st1).bind fun (y,st2)=>(cmpop op x y st2).bind fun r=>some (.bl r,st2)
 | .is k a c=>.pl fun L st=>((evA a).v L st).bind fun (x,st1)=>match c with
  | .non=>some (.bl (k != decide (x = .non)),st1)
  | .bl b=>some (.bl (k != decide (x = .bl b)),st1)
  | _=>none
 | .chain o p a b c=>.pl fun L st=>((evA a).v L st).bind fun (x,st1)=>((evA b).v L st1).bind fun (y,st2)=>(cmpop o x y st2).bind fun r =>
   if r then ((evA c).v L st2).bind fun (z,st3)=>(cmpop p y z st3).bind fun q=>some (.bl q,st3) else some (.bl false,st2)
 | .and a b=>.te (fun L st=>((evA a).v L st).bind fun (x,st1)=>(truthy st1 x).bind fun r=>if r then (evA b).v L st1 else some (x,st1)) fun L st=>((evA a).t L st).bind fun (r,st1)=>if r then (evA b).t L st1 else some (false,st1)
 | .or a b=>.te (fun L st=>((evA a).v L st).bind fun (x,st1)=>(truthy st1 x).bind fun r=>if r then some (x,st1) else (evA b).v L st1) fun L st=>((evA a).t L st).bind fun (r,st1)=>if r then some (true,st1) else (evA b).t L st1
 | .not a=>.te (fun L st=>((evA a).v L st).bind fun (x,st1)=>match x with
  | .bl b=>some (.bl (!b),st1)
  | _=>none) fun L st=>((evA a).t L st).bind fun (b,st1)=>some (!b,st1)
 | .neg a=>.pl fun L st=>((evA a).v L st).bind fun (x,st1)=>match x with
  | .int i=>some (.int (-i),st1)
  | _=>none
 | .ite c a b=>.te (fun L st=>((evA c).t L st).bind fun (r,st1)=>if r then (evA a).v L st1 else (evA b).v L st1) fun L st=>((evA c).t L st).bind fun (r,st1)=>if r then (evA a).t L st1 else (evA b).t L st1
 | .tup es=>.pl fun L st=>((evA es).s L st).bind fun (xs,st1)=>if xs.length ≤ big then some (.tup xs,st1) else none
 | .lst es=>.pl fun L st=>((evA es).s L st).bind fun (xs,st1)=>alloc st1 xs
 | .ix a i=>.pl fun L st=>((evA a).v L st).bind fun (x,st1)=>((evA i).v L st1).bind fun (y,st2)=>match y with
  | .int j=>(seqOf st2 x).bind fun xs=>(atI xs j).bind fun v=>some (v,st2)
  | _=>none
 | .sl a lo hi=>.pl fun L st=>((evA a).v L st).bind fun (x,st1)=>((evA lo).o L st1).bind fun (l,st2)=>((evA hi).o L st2).bind fun (h,st3)=>slice st3 x l h
 | .turn a=>.pl fun L st=>((evA a).v L st).bind fun (x,st1)=>match x with
  | .tup xs=>some (.tup xs.reverse,st1)
  | _=>none
 | .call f args=>.pl fun L st=>((evA args).s L st).bind fun (xs,st1)=>call f xs st1
 | .blt f args=>.pl fun L st=>((evA args).s L st).bind fun (xs,st1)=>bfun f xs st1
 | .isi a ts=>.pl fun L st=>((evA a).v L st).bind fun (x,st1)=>(isTys st1 x ts).bind fun r=>some (.bl r,st1)
 | .meth f o a=>.pl fun L st=>((evA o).v L st).bind fun (x,st1)=>((evA a).v L st1).bind fun (y,st2)=>mfun f x y st2
 | .comp el tg n m it ifs=>.pl fun L st=>((evA it).i L st).bind fun (xs,gs,st1)=>if L.length = n then
   (compItems tg gs (fun L1 s1=>(evA ifs).ts L1 s1) (fun L1 s1=>(evA el).v L1 s1) (L ++ List.replicate m none) xs st1).bind fun (ys,st2)=>alloc st2 ys
  else none
 | .nil=>⟨nR,tOfE nR,fun _ st=>some (true,st),fun _ st=>some ([],st),oOfE nR,iOfE nR⟩
 | .cons e es=>⟨nR,tOfE nR,fun L st=>((evA e).t L st).bind fun (b,st1)=>if b then (evA es).ts L st1 else some (false,st1),
   fun L st=>((evA e).v L st).bind fun (x,st1)=>((evA es).s L st1).bind fun (xs,st2)=>some (x :: xs,st2),oOfE nR,iOfE nR⟩
 | .none=>⟨nR,tOfE nR,nR,nR,fun _ st=>some (none,st),iOfE nR⟩
 | .rng a=>.wk fun L st=>((evA a).v L st).bind fun (x,st1)=>match x with
  | .int j=>if small62 j then some (upto 0 j.toNat,[],st1) else none
  | _=>none
 | .rng2 a b=>.wk fun L st=>((evA a).v L st).bind fun (x,st1)=>((evA b).v L st1).bind fun (y,st2)=>match x,y with
  | .int i,.int j=>if small62 i && small62 j then some (upto i (j - i).toNat,[],st2) else none
  | _,_=>none
 | .zip a b=>.wk fun L st=>((evA a).v L st).bind fun (x,st1)=>((evA b).v L st1).bind fun (y,st2)=>(seqOf st2 x).bind fun xs=>(seqOf st2 y).bind fun ys=>some (xs.zipWith (fun p q=>.tup [p,q]) ys,gdOf x xs ++ gdOf y ys,st2)
 | .enum a=>.wk fun L st=>((evA a).v L st).bind fun (x,st1)=>(seqOf st1 x).bind fun xs=>some ((upto 0 xs.length).zipWith (fun p q=>.tup [p,q]) xs,gdOf x xs,st1)
 | .revr a=>.wk fun L st=>((evA a).v L st).bind fun (x,st1)=>match x with
  | .int j=>if small62 j then some ((upto 0 j.toNat).reverse,[],st1) else none
  | _=>none
 | .rev a=>.wk fun L st=>((evA a).v L st).bind fun (x,st1)=>match seqOf st1 x with
  | some xs=>some (xs.reverse,gdOf x xs,st1)
  | none=>none
noncomputable def ev (e:E) (L:Loc) (st:Sto):R PV:=(evA call e).v L st
noncomputable def evT (e:E) (L:Loc) (st:Sto):R Bool:=(evA call e).t L st
noncomputable def evTs (e:E) (L:Loc) (st:Sto):R Bool:=(evA call e).ts L st
noncomputable def evs (e:E) (L:Loc) (st:Sto):R (List PV):=(evA call e).s L st
noncomputable def evO (e:E) (L:Loc) (st:Sto):R (Option Int):=(evA call e).o L st
noncomputable def evI (e:E) (L:Loc) (st:Sto):Option (List PV×Gd×Sto):=(evA call e).i L st
theorem evR_var {call:Nat→List PV→Sto→R PV} (i:Nat) (L:Loc) (st:Sto):ev call (.var i) L st = match L[i]? with
  | some (some v)=>some (v,st)
  | _=>none:=rfl
theorem evR_int {call:Nat→List PV→Sto→R PV} (i:Int) (L:Loc) (st:Sto):ev call (.int i) L st = some (.int i,st):=rfl
theorem evR_bl {call:Nat→List PV→Sto→R PV} (b:Bool) (L:Loc) (st:Sto):ev call (.bl b) L st = some (.bl b,st):=rfl
theorem evR_non {call:Nat→List PV→Sto→R PV} (L:Loc) (st:Sto):ev call (.non) L st = some (.non,st):=rfl
theorem evR_str {call:Nat→List PV→Sto→R PV} (x:String) (L:Loc) (st:Sto):ev call (.str x) L st = some (.str x,st):=rfl
theorem evR_bin {call:Nat→List PV→Sto→R PV} (op:BOp) (a b:E) (L:Loc) (st:Sto):ev call (.bin op a b) L st = (ev call a L st).bind fun (x,st1)=>(ev call b L st1).bind fun (y,st2)=>binop op x y st2:=rfl
theorem evR_cmp {call:Nat→List PV→Sto→R PV} (op:COp) (a b:E) (L:Loc) (st:Sto):ev call (.cmp op a b) L st = (ev call a L st).bind fun (x,st1)=>(ev call b L st1).bind fun (y,st2)=>(cmpop op x y st2).bind fun r=>some (.bl r,st2):=rfl
theorem evR_is {call:Nat→List PV→Sto→R PV} (k:Bool) (a c:E) (L:Loc) (st:Sto):ev call (.is k a c) L st = (ev call a L st).bind fun (x,st1)=>match c with
  | .non=>some (.bl (k != decide (x = .non)),st1)
  | .bl b=>some (.bl (k != decide (x = .bl b)),st1)
  | _=>none:=rfl
theorem evR_chain {call : Nat → List PV → Sto → R PV} (o p : COp) (a b c : E) (L : Loc) (st : Sto) : ev call (.chain o p a b c) L st = (ev call a L st).bind fun (x, st1) => (ev call b L st1).bind fun (y, st2) => (cmpop o x y st2).bind fun r =>
      if r then (ev call c L st2).bind fun (z, st3) => (cmpop p y z st3).bind fun q => some (.bl q, st3) else some (.bl false, st2) := rfl
theorem evR_and {call:Nat→List PV→Sto→R PV} (a b:E) (L:Loc) (st:Sto):ev call (.and a b) L st = (ev call a L st).bind fun (x,st1)=>(truthy st1 x).bind fun r=>if r then ev call b L st1 else some (x,st1):=rfl
theorem evR_or {call:Nat→List PV→Sto→R PV} (a b:E) (L:Loc) (st:Sto):ev call (.or a b) L st = (ev call a L st).bind fun (x,st1)=>(truthy st1 x).bind fun r=>if r then some (x,st1) else ev call b L st1:=rfl
theorem evR_not {call:Nat→List PV→Sto→R PV} (a:E) (L:Loc) (st:Sto):ev call (.not a) L st = (ev call a L st).bind fun (x,st1)=>match x with
  | .bl b=>some (.bl (!b),st1)
  | _=>none:=rfl
theorem evR_neg {call:Nat→List PV→Sto→R PV} (a:E) (L:Loc) (st:Sto):ev call (.neg a) L st = (ev call a L st).bind fun (x,st1)=>match x with
  | .int i=>some (.int (-i),st1)
  | _=>none:=rfl
theorem evR_ite {call:Nat→List PV→Sto→R PV} (c a b:E) (L:Loc) (st:Sto):ev call (.ite c a b) L st = (evT call c L st).bind fun (r,st1)=>if r then ev call a L st1 else ev call b L st1:=rfl
theorem evR_tup {call:Nat→List PV→Sto→R PV} (es:E) (L:Loc) (st:Sto):ev call (.tup es) L st = (evs call es L st).bind fun (xs,st1)=>if xs.length ≤ big then some (.tup xs,st1) else none:=rfl
theorem evR_lst {call:Nat→List PV→Sto→R PV} (es:E) (L:Loc) (st:Sto):ev call (.lst es) L st = (evs call es L st).bind fun (xs,st1)=>alloc st1 xs:=rfl
theorem evR_ix {call:Nat→List PV→Sto→R PV} (a i:E) (L:Loc) (st:Sto):ev call (.ix a i) L st = (ev call a L st).bind fun (x,st1)=>(ev call i L st1).bind fun (y,st2)=>match y with
  | .int j=>(seqOf st2 x).bind fun xs=>(atI xs j).bind fun v=>some (v,st2)
  | _=>none:=rfl
theorem evR_sl {call:Nat→List PV→Sto→R PV} (a lo hi:E) (L:Loc) (st:Sto):ev call (.sl a lo hi) L st = (ev call a L st).bind fun (x,st1)=>(evO call lo L st1).bind fun (l,st2)=>(evO call hi L st2).bind fun (h,st3)=>slice st3 x l h:=rfl
theorem evR_turn {call:Nat→List PV→Sto→R PV} (a:E) (L:Loc) (st:Sto):ev call (.turn a) L st = (ev call a L st).bind fun (x,st1)=>match x with
  | .tup xs=>some (.tup xs.reverse,st1)
  | _=>none:=rfl
theorem evR_call {call:Nat→List PV→Sto→R PV} (f:Nat) (args:E) (L:Loc) (st:Sto):ev call (.call f args) L st = (evs call args L st).bind fun (xs,st1)=>call f xs st1:=rfl
theorem evR_blt {call:Nat→List PV→Sto→R PV} (f:BF) (args:E) (L:Loc) (st:Sto):ev call (.blt f args) L st = (evs call args L st).bind fun (xs,st1)=>bfun f xs st1:=rfl
theorem evR_isi {call:Nat→List PV→Sto→R PV} (a:E) (ts:List Ty) (L:Loc) (st:Sto):ev call (.isi a ts) L st = (ev call a L st).bind fun (x,st1)=>(isTys st1 x ts).bind fun r=>some (.bl r,st1):=rfl
theorem evR_meth {call:Nat→List PV→Sto→R PV} (f:MF) (o a:E) (L:Loc) (st:Sto):ev call (.meth f o a) L st = (ev call o L st).bind fun (x,st1)=>(ev call a L st1).bind fun (y,st2)=>mfun f x y st2:=rfl
theorem evR_comp {call : Nat → List PV → Sto → R PV} (el : E) (tg : Tg) (n m : Nat) (it ifs : E) (L : Loc) (st : Sto) : ev call (.comp el tg n m it ifs) L st = (evI call it L st).bind fun (xs, gs, st1) => if L.length = n then
      (compItems tg gs (fun L1 s1 => evTs call ifs L1 s1) (fun L1 s1 => ev call el L1 s1) (L ++ List.replicate m none) xs st1).bind fun (ys, st2) => alloc st2 ys
    else none := rfl
theorem evTR_bl {call:Nat→List PV→Sto→R PV} (b:Bool) (L:Loc) (st:Sto):evT call (.bl b) L st = (ev call (.bl b) L st).bind fun (x,st1)=>(truthy st1 x).bind fun r=>some (r,st1):=rfl
theorem evTR_cmp {call:Nat→List PV→Sto→R PV} (op:COp) (a b:E) (L:Loc) (st:Sto):evT call (.cmp op a b) L st = (ev call (.cmp op a b) L st).bind fun (x,st1)=>(truthy st1 x).bind fun r=>some (r,st1):=rfl
theorem evTR_chain {call:Nat→List PV→Sto→R PV} (o p:COp) (a b c:E) (L:Loc) (st:Sto):evT call (.chain o p a b c) L st = (ev call (.chain o p a b c) L st).bind fun (x,st1)=>(truthy st1 x).bind fun r=>some (r,st1):=rfl
theorem evTR_and {call:Nat→List PV→Sto→R PV} (a b:E) (L:Loc) (st:Sto):evT call (.and a b) L st = (evT call a L st).bind fun (r,st1)=>if r then evT call b L st1 else some (false,st1):=rfl
theorem evTR_or {call:Nat→List PV→Sto→R PV} (a b:E) (L:Loc) (st:Sto):evT call (.or a b) L st = (evT call a L st).bind fun (r,st1)=>if r then some (true,st1) else evT call b L st1:=rfl
theorem evTR_not {call:Nat→List PV→Sto→R PV} (a:E) (L:Loc) (st:Sto):evT call (.not a) L st = (evT call a L st).bind fun (b,st1)=>some (!b,st1):=rfl
theorem evTR_ite {call:Nat→List PV→Sto→R PV} (c a b:E) (L:Loc) (st:Sto):evT call (.ite c a b) L st = (evT call c L st).bind fun (r,st1)=>if r then evT call a L st1 else evT call b L st1:=rfl
theorem evOR_none {call:Nat→List PV→Sto→R PV} (L:Loc) (st:Sto):evO call .none L st = some (none,st):=rfl
theorem evIR_rng {call:Nat→List PV→Sto→R PV} (a:E) (L:Loc) (st:Sto):evI call (.rng a) L st = (ev call a L st).bind fun (x,st1)=>match x with
  | .int j=>if small62 j then some (upto 0 j.toNat,[],st1) else none
  | _=>none:=rfl
theorem evIR_rng2 {call:Nat→List PV→Sto→R PV} (a b:E) (L:Loc) (st:Sto):evI call (.rng2 a b) L st = (ev call a L st).bind fun (x,st1)=>(ev call b L st1).bind fun (y,st2)=>match x,y with
  | .int i,.int j=>if small62 i && small62 j then some (upto i (j - i).toNat,[],st2) else none
  | _,_=>none:=rfl
theorem evIR_zip {call:Nat→List PV→Sto→R PV} (a b:E) (L:Loc) (st:Sto):evI call (.zip a b) L st = (ev call a L st).bind fun (x,st1)=>(ev call b L st1).bind fun (y,st2)=>(seqOf st2 x).bind fun xs=>(seqOf st2 y).bind fun ys=>some (xs.zipWith (fun p q=>.tup [p,q]) ys,gdOf x xs ++ gdOf y ys,st2):=rfl
theorem evIR_enum {call:Nat→List PV→Sto→R PV} (a:E) (L:Loc) (st:Sto):evI call (.enum a) L st = (ev call a L st).bind fun (x,st1)=>(seqOf st1 x).bind fun xs=>some ((upto 0 xs.length).zipWith (fun p q=>.tup [p,q]) xs,gdOf x xs,st1):=rfl
theorem evTsR_nil {call:Nat→List PV→Sto→R PV} (L:Loc) (st:Sto):evTs call .nil L st = some (true,st):=rfl
theorem evTsR_cons {call:Nat→List PV→Sto→R PV} (e es:E) (L:Loc) (st:Sto):evTs call (.cons e es) L st = (evT call e L st).bind fun (b,st1)=>if b then evTs call es L st1 else some (false,st1):=rfl
theorem evsR_nil {call:Nat→List PV→Sto→R PV} (L:Loc) (st:Sto):evs call .nil L st = some ([],st):=rfl
theorem evsR_cons {call:Nat→List PV→Sto→R PV} (e es:E) (L:Loc) (st:Sto):evs call (.cons e es) L st = (ev call e L st).bind fun (x,st1)=>(evs call es L st1).bind fun (xs,st2)=>some (x :: xs,st2):=rfl
inductive Fl where | next | ret (v:PV) | brk | cont
noncomputable abbrev RS:=Option (Fl×Loc×Sto)
noncomputable def forItems (tg:Tg) (gs:Gd) (body:Loc→Sto→RS):List PV→Loc→Sto→RS
 | [],L,st=>if okG st gs then some (.next,L,st) else none
 | x :: xs,L,st=>if okG st gs then
   (asgT tg x L st).bind fun L1=>(body L1 st).bind fun (f,L2,st2)=>match f with
    | .next=>forItems tg gs body xs L2 st2
    | .cont=>forItems tg gs body xs L2 st2
    | .brk=>some (.next,L2,st2)
    | .ret v=>some (.ret v,L2,st2)
  else none
noncomputable def whileN (tst:Loc→Sto→R Bool) (body:Loc→Sto→RS):Nat→Loc→Sto→RS
 | 0,_,_=>none
 | n + 1,L,st=>(tst L st).bind fun (b,st1)=>if b then
   (body L st1).bind fun (f,L2,st2)=>match f with
    | .next=>whileN tst body n L2 st2
    | .cont=>whileN tst body n L2 st2
    | .brk=>some (.next,L2,st2)
    | .ret v=>some (.ret v,L2,st2)
  else some (.next,L,st1)
noncomputable def ex:S→Loc→Sto→RS
 | .nil,L,st=>some (.next,L,st)
 | .cons s r,L,st=>(ex s L st).bind fun (f,L1,st1)=>match f with
  | .next=>ex r L1 st1
  | g=>some (g,L1,st1)
 | .asg tg e,L,st=>(ev call e L st).bind fun (x,st1)=>(asgT tg x L st1).map fun L1=>(.next,L1,st1)
 | .setix o i e,L,st=>(ev call e L st).bind fun (x,st1)=>(ev call o L st1).bind fun (a,st2)=>(ev call i L st2).bind fun (j,st3)=>match a,j with
  | .ref l,.int k=>match st3[l]? with
   | some (.lst xs)=>(ixN xs.length k).map fun n=>(.next,L,st3.set l (.lst (xs.set n x)))
   | _=>none
  | _,_=>none
 | .aug i op e,L,st=>match L[i]? with
  | some (some (.int a))=>(ev call e L st).bind fun (x,st1)=>match op,x with
   | .add,.int b=>some (.next,L.set i (some (.int (a + b))),st1)
   | .sub,.int b=>some (.next,L.set i (some (.int (a - b))),st1)
   | _,_=>none
  | _=>none
 | .ret e,L,st=>(ev call e L st).map fun (x,st1)=>(.ret x,L,st1)
 | .retN,L,st=>some (.ret .non,L,st)
 | .expr e,L,st=>(ev call e L st).map fun (_,st1)=>(.next,L,st1)
 | .pass,L,st=>some (.next,L,st)
 | .ife c a b,L,st=>(evT call c L st).bind fun (r,st1)=>if r then ex a L st1 else ex b L st1
 | .whl c b,L,st=>whileN (fun L1 s1=>evT call c L1 s1) (fun L1 s1=>ex b L1 s1) big L st
 | .for_ tg it b,L,st=>(evI call it L st).bind fun (xs,gs,st1)=>forItems tg gs (fun L1 s1=>ex b L1 s1) xs L st1
 | .brk,L,st=>some (.brk,L,st)
 | .cont,L,st=>some (.cont,L,st)
theorem exR_nil {call:Nat→List PV→Sto→R PV} (L:Loc) (st:Sto):ex call (.nil) L st = some (.next,L,st):=rfl
theorem exR_cons {call:Nat→List PV→Sto→R PV} (s r:S) (L:Loc) (st:Sto):ex call (.cons s r) L st = (ex call s L st).bind fun (f,L1,st1)=>match f with
  | .next=>ex call r L1 st1
  | g=>some (g,L1,st1):=rfl
theorem exR_asg {call:Nat→List PV→Sto→R PV} (tg:Tg) (e:E) (L:Loc) (st:Sto):ex call (.asg tg e) L st = (ev call e L st).bind fun (x,st1)=>(asgT tg x L st1).map fun L1=>(.next,L1,st1):=rfl
theorem exR_setix {call:Nat→List PV→Sto→R PV} (o i e:E) (L:Loc) (st:Sto):ex call (.setix o i e) L st = (ev call e L st).bind fun (x,st1)=>(ev call o L st1).bind fun (a,st2)=>(ev call i L st2).bind fun (j,st3)=>match a,j with
  | .ref l,.int k=>match st3[l]? with
   | some (.lst xs)=>(ixN xs.length k).map fun n=>(.next,L,st3.set l (.lst (xs.set n x)))
   | _=>none
  | _,_=>none:=rfl
theorem exR_aug {call:Nat→List PV→Sto→R PV} (i:Nat) (op:BOp) (e:E) (L:Loc) (st:Sto):ex call (.aug i op e) L st = match L[i]? with
  | some (some (.int a))=>(ev call e L st).bind fun (x,st1)=>match op,x with
   | .add,.int b=>some (.next,L.set i (some (.int (a + b))),st1)
   | .sub,.int b=>some (.next,L.set i (some (.int (a - b))),st1)
   | _,_=>none
  | _=>none:=rfl
theorem exR_ret {call:Nat→List PV→Sto→R PV} (e:E) (L:Loc) (st:Sto):ex call (.ret e) L st = (ev call e L st).map fun (x,st1)=>(.ret x,L,st1):=rfl
theorem exR_retN {call:Nat→List PV→Sto→R PV} (L:Loc) (st:Sto):ex call (.retN) L st = some (.ret .non,L,st):=rfl
theorem exR_expr {call:Nat→List PV→Sto→R PV} (e:E) (L:Loc) (st:Sto):ex call (.expr e) L st = (ev call e L st).map fun (_,st1)=>(.next,L,st1):=rfl
theorem exR_pass {call:Nat→List PV→Sto→R PV} (L:Loc) (st:Sto):ex call (.pass) L st = some (.next,L,st):=rfl
theorem exR_ife {call:Nat→List PV→Sto→R PV} (c:E) (a b:S) (L:Loc) (st:Sto):ex call (.ife c a b) L st = (evT call c L st).bind fun (r,st1)=>if r then ex call a L st1 else ex call b L st1:=rfl
theorem exR_whl {call:Nat→List PV→Sto→R PV} (c:E) (b:S) (L:Loc) (st:Sto):ex call (.whl c b) L st = whileN (fun L1 s1=>evT call c L1 s1) (fun L1 s1=>ex call b L1 s1) big L st:=rfl
theorem exR_for_ {call:Nat→List PV→Sto→R PV} (tg:Tg) (it:E) (b:S) (L:Loc) (st:Sto):ex call (.for_ tg it b) L st = (evI call it L st).bind fun (xs,gs,st1)=>forItems tg gs (fun L1 s1=>ex call b L1 s1) xs L st1:=rfl
theorem exR_brk {call:Nat→List PV→Sto→R PV} (L:Loc) (st:Sto):ex call (.brk) L st = some (.brk,L,st):=rfl
theorem exR_cont {call:Nat→List PV→Sto→R PV} (L:Loc) (st:Sto):ex call (.cont) L st = some (.cont,L,st):=rfl
end
structure FDef where
 np:Nat
 ns:Nat
 body:S
noncomputable def callD (tab:List FDef):Nat→Nat→List PV→Sto→R PV
 | 0,_,_,_=>none
 | d + 1,f,args,st=>match tab[f]? with
  | none=>none
  | some fd=>if args.length = fd.np then
    (ex (callD tab d) fd.body (args.map some ++ List.replicate (fd.ns - fd.np) none) st).bind fun (fl,_,st1)=>match fl with
     | .ret v=>some (v,st1)
     | .next=>some (.non,st1)
     | _=>none
   else none
end Kw
end
section
set_option Elab.async false
set_option linter.all false
set_option maxRecDepth 100000
set_option maxHeartbeats 4000000
namespace Kw
open PySem PySem.Spec PyProof.Rows L2
mutual
noncomputable def dPy:D→PyData
 | .non=>.none
 | .bl b=>.bool b
 | .int i=>.int i
 | .str x=>.str (Str.ofString x)
 | .tup xs=>.tuple (dPys xs)
 | .lst xs=>.list (dPys xs)
noncomputable def dPys:List D→List PyData
 | []=>[]
 | a :: r=>dPy a :: dPys r
end
noncomputable def ScrAt (K:PySem.W.Frag) (H:Hp) (a:Addr) (ns:List Int):Prop:=SqL K H a (ns.map V.int)∧((∃ o,H a = some (.frz o (.lst (ns.map V.int)))) ∨ SqL K (fun _=>none) a (ns.map V.int))
mutual
noncomputable def RP (K:PySem.W.Frag) (μ:List Addr) (H:Hp):PV→V→Prop
 | .non,v=>v = .non
 | .bl b,v=>v = .bl b
 | .int i,v=>v = .int i
 | .str x,v=>v = .str (Str.ofString x)
 | .tup ps,v=>∃ a xs,v = .ref a∧H a = some (.tup xs)∧RPs K μ H ps xs
 | .ref l,v=>∃ a,v = .ref a∧μ[l]? = some a
 | .scr ns,v=>∃ a,v = .ref a∧ScrAt K H a ns
 | .shn d,v=>v = .str (dPy d).shown
noncomputable def RPs (K:PySem.W.Frag) (μ:List Addr) (H:Hp):List PV→List V→Prop
 | [],vs=>vs = []
 | p :: ps,vs=>∃ v r,vs = v :: r∧RP K μ H p v∧RPs K μ H ps r
end
structure Ext (μ:List Addr) (H:Hp) (μ':List Addr) (H':Hp):Prop where
 pre:∃ more,μ' = μ ++ more
 keep:∀ a o,a ∉ μ→H a = some o→H' a = some o
 tup:∀ a xs,H a = some (.tup xs)→H' a = some (.tup xs)
 frz:∀ a o u,H a = some (.frz o u)→H' a = some (.frz o u)
 new:∀ a,a ∈ μ'→a ∈ μ ∨ H a = none
structure Ext0 (μ:List Addr) (H:Hp) (μ':List Addr) (H':Hp):Prop where
 pre:∃ more,μ' = μ ++ more
 tup:∀ a xs,H a = some (.tup xs)→H' a = some (.tup xs)
 frz:∀ a o u,H a = some (.frz o u)→H' a = some (.frz o u)
theorem Ext.to0 {μ μ':List Addr} {H H':Hp} (x:Ext μ H μ' H'):Ext0 μ H μ' H':=⟨x.pre,x.tup,x.frz⟩
theorem Ext.refl (μ:List Addr) (H:Hp):Ext μ H μ H:=⟨⟨[],by simp⟩,fun _ _ _ h=>h,fun _ _ h=>h,fun _ _ _ h=>h,fun _ h=>.inl h⟩
theorem Ext.trans {μ μ1 μ2:List Addr} {H H1 H2:Hp} (a:Ext μ H μ1 H1) (b:Ext μ1 H1 μ2 H2):Ext μ H μ2 H2:=by
 obtain ⟨m1,e1⟩:=a.pre
 obtain ⟨m2,e2⟩:=b.pre
 refine ⟨⟨m1 ++ m2,by rw [e2,e1,List.append_assoc]⟩,fun c o hc h=>b.keep c o (fun z=>?_) (a.keep c o hc h),fun c xs h=>b.tup c xs (a.tup c xs h),fun c o u h=>b.frz c o u (a.frz c o u h),fun c h=>?_⟩
 ·rcases a.new c z with y | y
  ·exact hc y
  ·rw [y] at h; cases h
 ·rcases b.new c h with y | y
  ·exact a.new c y
  ·by_cases hc:c ∈ μ
   ·exact .inl hc
   ·right
    cases q:H c with
    | none=>rfl
    | some o=>rw [a.keep c o hc q] at y; cases y
theorem ScrAt.mono0 {K:PySem.W.Frag} {μ μ':List Addr} {H H':Hp} {a:Addr} {ns:List Int} (x:Ext0 μ H μ' H') (h:ScrAt K H a ns):ScrAt K H' a ns:=by
 obtain ⟨_,h⟩:=h
 rcases h with ⟨o,h⟩ | h
 ·have q:=x.frz a o _ h
  exact ⟨.inl (.inr ⟨o,q⟩),.inl ⟨o,q⟩⟩
 ·refine ⟨?_,.inr h⟩
  rcases h with (h | ⟨o,h⟩) | h
  ·cases h
  ·cases h
  ·exact .inr h
mutual
theorem RP.mono0 {K:PySem.W.Frag} {μ μ':List Addr} {H H':Hp} (x:Ext0 μ H μ' H'):∀ {p:PV} {v:V},RP K μ H p v→RP K μ' H' p v
 | .non,v,h=>h
 | .bl b,v,h=>h
 | .int i,v,h=>h
 | .str _,v,h=>h
 | .shn _,v,h=>h
 | .tup ps,v,h=>by
  obtain ⟨a,xs,e,h1,h2⟩:=h
  exact ⟨a,xs,e,x.tup a xs h1,RPs.mono0 x h2⟩
 | .ref l,v,h=>by
  obtain ⟨a,e,h⟩:=h
  obtain ⟨m,em⟩:=x.pre
  refine ⟨a,e,?_⟩
  rw [em,List.getElem?_append_left (List.getElem?_eq_some_iff.mp h).1]
  exact h
 | .scr ns,v,h=>by
  obtain ⟨a,e,h⟩:=h
  exact ⟨a,e,h.mono0 x⟩
theorem RPs.mono0 {K:PySem.W.Frag} {μ μ':List Addr} {H H':Hp} (x:Ext0 μ H μ' H'):∀ {ps:List PV} {vs:List V},RPs K μ H ps vs→RPs K μ' H' ps vs
 | [],vs,h=>h
 | p :: ps,vs,h=>by
  obtain ⟨v,r,e,h1,h2⟩:=h
  exact ⟨v,r,e,RP.mono0 x h1,RPs.mono0 x h2⟩
end
theorem RP.mono {K:PySem.W.Frag} {μ μ':List Addr} {H H':Hp} (x:Ext μ H μ' H') {p:PV} {v:V} (h:RP K μ H p v):RP K μ' H' p v:=RP.mono0 x.to0 h
theorem RPs.mono {K:PySem.W.Frag} {μ μ':List Addr} {H H':Hp} (x:Ext μ H μ' H') {p:List PV} {v:List V} (h:RPs K μ H p v):RPs K μ' H' p v:=RPs.mono0 x.to0 h
theorem ScrAt.mono {K:PySem.W.Frag} {μ μ':List Addr} {H H':Hp} {a:Addr} {ns:List Int} (x:Ext μ H μ' H') (h:ScrAt K H a ns):ScrAt K H' a ns:=ScrAt.mono0 x.to0 h
section
variable {K:PySem.W.Frag} {μ:List Addr} {H:Hp}
theorem RPs.length:∀ {ps:List PV} {vs:List V},RPs K μ H ps vs→ps.length = vs.length
 | [],vs,h=>by cases (show vs = [] from h); rfl
 | p :: ps,vs,h=>by
  obtain ⟨v,r,e,_,h2⟩:=h
  subst e
  rw [List.length_cons,List.length_cons,RPs.length h2]
theorem RPs.get:∀ {ps:List PV} {vs:List V} {i:Nat} {p:PV},RPs K μ H ps vs→ps[i]? = some p→∃ v,vs[i]? = some v∧RP K μ H p v
 | [],vs,i,p,_,e=>by simp at e
 | q :: ps,vs,0,p,h,e=>by
  obtain ⟨v,r,e',h1,_⟩:=h
  subst e'
  simp at e; subst e
  exact ⟨v,rfl,h1⟩
 | q :: ps,vs,i + 1,p,h,e=>by
  obtain ⟨v,r,e',_,h2⟩:=h
  subst e'
  simpa using RPs.get (i:=i) (p:=p) h2 (by simpa using e)
theorem RPs.append:∀ {ps qs:List PV} {vs us:List V},RPs K μ H ps vs→RPs K μ H qs us→RPs K μ H (ps ++ qs) (vs ++ us)
 | [],qs,vs,us,h,g=>by cases (show vs = [] from h); exact g
 | p :: ps,qs,vs,us,h,g=>by
  obtain ⟨v,r,e,h1,h2⟩:=h
  subst e
  exact ⟨v,r ++ us,rfl,h1,RPs.append h2 g⟩
theorem RPs.one {p:PV} {v:V} (h:RP K μ H p v):RPs K μ H [p] [v]:=⟨v,[],rfl,h,rfl⟩
theorem RPs.take:∀ {ps:List PV} {vs:List V} (n:Nat),RPs K μ H ps vs→RPs K μ H (ps.take n) (vs.take n)
 | [],vs,n,h=>by cases (show vs = [] from h); simp [RPs]
 | p :: ps,vs,0,h=>by simp [RPs]
 | p :: ps,vs,n + 1,h=>by
  obtain ⟨v,r,e,h1,h2⟩:=h
  subst e
  exact ⟨v,r.take n,rfl,h1,RPs.take n h2⟩
theorem RPs.drop:∀ {ps:List PV} {vs:List V} (n:Nat),RPs K μ H ps vs→RPs K μ H (ps.drop n) (vs.drop n)
 | [],vs,n,h=>by cases (show vs = [] from h); simp [RPs]
 | p :: ps,vs,0,h=>h
 | p :: ps,vs,n + 1,h=>by
  obtain ⟨v,r,e,h1,h2⟩:=h
  subst e
  exact RPs.drop n h2
theorem RPs.set:∀ {ps:List PV} {vs:List V} (n:Nat) {p:PV} {v:V},RPs K μ H ps vs→RP K μ H p v→RPs K μ H (ps.set n p) (vs.set n v)
 | [],vs,n,p,v,h,_=>by cases (show vs = [] from h); simp [RPs]
 | q :: ps,vs,0,p,v,h,g=>by
  obtain ⟨v',r,e,h1,h2⟩:=h
  subst e
  exact ⟨v,r,rfl,g,h2⟩
 | q :: ps,vs,n + 1,p,v,h,g=>by
  obtain ⟨v',r,e,h1,h2⟩:=h
  subst e
  exact ⟨v',r.set n v,rfl,h1,RPs.set n h2 g⟩
theorem RPs.ints:∀ (ns:List Int),RPs K μ H (ns.map .int) (ns.map V.int)
 | []=>rfl
 | n :: ns=>⟨_,_,rfl,rfl,RPs.ints ns⟩
end
structure RelS (K:PySem.W.Frag) (μ:List Addr) (H:Hp) (st:Sto):Prop where
 len:μ.length = st.length
 nd:μ.Nodup
 obj:∀ (l:Nat) (a:Addr) (ps:List PV),μ[l]? = some a→st[l]? = some (.lst ps)→∃ xs,H a = some (.lst xs)∧RPs K μ H ps xs
structure RelL (K:PySem.W.Frag) (μ:List Addr) (H:Hp) (L:Loc) (σ:L2.St):Prop where
 len:L.length = σ.length
 val:∀ (i:Nat) (p:PV),L[i]? = some (some p)→∃ v,σ[i]? = some (some v)∧RP K μ H p v
theorem RelL.mono {K:PySem.W.Frag} {μ μ':List Addr} {H H':Hp} {L:Loc} {σ:L2.St} (x:Ext μ H μ' H') (h:RelL K μ H L σ):RelL K μ' H' L σ :=
 ⟨h.len,fun i p e=>let ⟨v,e',r⟩:=h.val i p e; ⟨v,e',r.mono x⟩⟩
theorem RelL.set {K:PySem.W.Frag} {μ:List Addr} {H:Hp} {L:Loc} {σ:L2.St} (h:RelL K μ H L σ) (i:Nat) {p:PV} {v:V} (r:RP K μ H p v):RelL K μ H (L.set i (some p)) (σ.set i (some v)):=by
 refine ⟨by rw [List.length_set,List.length_set,h.len],fun j q e=>?_⟩
 by_cases hj:j = i
 ·subst hj
  have hl:j < L.length:=by have:=(List.getElem?_eq_some_iff.mp e).1; rwa [List.length_set] at this
  rw [List.getElem?_set_self hl] at e
  cases e
  exact ⟨v,by rw [List.getElem?_set_self (by rw [← h.len]; exact hl)],r⟩
 ·rw [List.getElem?_set_ne (Ne.symm hj)] at e ⊢
  exact h.val j q e
theorem RelL.more {K:PySem.W.Frag} {μ:List Addr} {H:Hp} {L:Loc} {σ:L2.St} (h:RelL K μ H L σ) (m:Nat):RelL K μ H (L ++ List.replicate m none) (σ ++ List.replicate m none):=by
 refine ⟨by rw [List.length_append,List.length_append,h.len,List.length_replicate,List.length_replicate],fun i p e=>?_⟩
 by_cases hi:i < L.length
 ·rw [List.getElem?_append_left hi] at e
  rw [List.getElem?_append_left (by rw [← h.len]; exact hi)]
  exact h.val i p e
 ·rw [List.getElem?_append_right (by omega),List.getElem?_replicate] at e
  split at e <;> cases e
section
variable {K:PySem.W.Frag} {μ:List Addr} {H:Hp} {st:Sto}
theorem RelS.at (h:RelS K μ H st) {l:Nat} {ps:List PV} (e:st[l]? = some (.lst ps)):∃ a xs,μ[l]? = some a∧H a = some (.lst xs)∧RPs K μ H ps xs:=by
 have hl:l < μ.length:=by rw [h.len]; exact (List.getElem?_eq_some_iff.mp e).1
 obtain ⟨xs,h1,h2⟩:=h.obj l _ ps (List.getElem?_eq_getElem hl) e
 exact ⟨_,xs,List.getElem?_eq_getElem hl,h1,h2⟩
theorem RelS.lst (h:RelS K μ H st) {a:Addr} (ha:a ∈ μ):∃ xs,H a = some (.lst xs):=by
 obtain ⟨l,hl,e⟩:=List.mem_iff_getElem.mp ha
 have hl':l < st.length:=by rw [← h.len]; exact hl
 cases e':st[l] with
 | lst ps =>
  obtain ⟨xs,h1,_⟩:=h.obj l a ps (by rw [List.getElem?_eq_getElem hl,e]) (by rw [List.getElem?_eq_getElem hl',e'])
  exact ⟨xs,h1⟩
theorem RelS.notin (h:RelS K μ H st) {p:Addr} (hp:H p = none):p ∉ μ:=fun z=>by
 obtain ⟨xs,e⟩:=h.lst z
 rw [hp] at e; cases e
theorem ext_new (h:RelS K μ H st) {p:Addr} (hp:H p = none) (o:HO):Ext μ H μ (upd H p o) :=
 ⟨⟨[],by simp⟩,fun a o' _ e=>by rw [upd_ne (ne_of_none e hp)]; exact e,fun a xs e=>by rw [upd_ne (ne_of_none e hp)]; exact e,fun a o' u e=>by rw [upd_ne (ne_of_none e hp)]; exact e,fun a h=>.inl h⟩
theorem RelS.new (h:RelS K μ H st) {p:Addr} (hp:H p = none) (o:HO):RelS K μ (upd H p o) st :=
 ⟨h.len,h.nd,fun l a ps e1 e2=>by
  obtain ⟨xs,h1,h2⟩:=h.obj l a ps e1 e2
  exact ⟨xs,by rw [upd_ne (ne_of_none h1 hp)]; exact h1,h2.mono (ext_new h hp o)⟩⟩
theorem ext_alloc (h:RelS K μ H st) {p:Addr} (hp:H p = none) (o:HO):Ext μ H (μ ++ [p]) (upd H p o) :=
 ⟨⟨[p],rfl⟩,fun a o' _ e=>by rw [upd_ne (ne_of_none e hp)]; exact e,fun a xs e=>by rw [upd_ne (ne_of_none e hp)]; exact e,fun a o' u e=>by rw [upd_ne (ne_of_none e hp)]; exact e,fun a z=>by
  rcases List.mem_append.mp z with z | z
  ·exact .inl z
  ·right; simp at z; subst z; exact hp⟩
theorem RelS.alloc (h:RelS K μ H st) {p:Addr} (hp:H p = none) {ps:List PV} {xs:List V} (r:RPs K μ H ps xs):RelS K (μ ++ [p]) (upd H p (.lst xs)) (st ++ [.lst ps]):=by
 have x:=ext_alloc h hp (.lst xs)
 refine ⟨by rw [List.length_append,List.length_append,h.len]; rfl,?_,fun l a qs e1 e2=>?_⟩
 ·refine List.nodup_append.mpr ⟨h.nd,by simp,fun a ha b hb=>?_⟩
  simp at hb; subst hb
  rintro rfl
  exact h.notin hp ha
 ·by_cases hl:l < st.length
  ·rw [List.getElem?_append_left hl] at e2
   rw [List.getElem?_append_left (by rw [h.len]; exact hl)] at e1
   obtain ⟨ys,h1,h2⟩:=h.obj l a qs e1 e2
   exact ⟨ys,by rw [upd_ne (ne_of_none h1 hp)]; exact h1,h2.mono x⟩
  ·have hlen:l < (st ++ [PO.lst ps]).length:=(List.getElem?_eq_some_iff.mp e2).1
   rw [List.length_append,List.length_singleton] at hlen
   have e:l = st.length:=by omega
   subst e
   rw [List.getElem?_append_right (Nat.le_refl _),Nat.sub_self] at e2
   rw [← h.len,List.getElem?_append_right (Nat.le_refl _),Nat.sub_self] at e1
   simp at e1 e2
   subst e1; subst e2
   exact ⟨xs,upd_same,r.mono x⟩
theorem ext_write (h:RelS K μ H st) {l:Nat} {a:Addr} (ha:μ[l]? = some a) (o:HO):Ext μ H μ (upd H a o):=by
 have hm:a ∈ μ:=List.mem_of_getElem? ha
 obtain ⟨ys,hy⟩:=h.lst hm
 exact ⟨⟨[],by simp⟩,fun b o' hb e=>by rw [upd_ne (fun z:b = a=>hb (by rw [z]; exact hm))]; exact e,fun b xs e=>by rw [upd_ne (ne_of e hy (by intro z; cases z))]; exact e,fun b o' u e=>by rw [upd_ne (ne_of e hy (by intro z; cases z))]; exact e,fun b z=>.inl z⟩
theorem RelS.write (h:RelS K μ H st) {l:Nat} {a:Addr} (ha:μ[l]? = some a) {ps:List PV} {xs:List V} (r:RPs K μ H ps xs):RelS K μ (upd H a (.lst xs)) (st.set l (.lst ps)):=by
 have x:=ext_write h ha (.lst xs)
 refine ⟨by rw [List.length_set,h.len],h.nd,fun j b qs e1 e2=>?_⟩
 by_cases hj:j = l
 ·subst hj
  rw [ha] at e1; cases e1
  have hl:j < st.length:=by have:=(List.getElem?_eq_some_iff.mp e2).1; rwa [List.length_set] at this
  rw [List.getElem?_set_self hl] at e2; cases e2
  exact ⟨xs,upd_same,r.mono x⟩
 ·rw [List.getElem?_set_ne (Ne.symm hj)] at e2
  obtain ⟨ys,h1,h2⟩:=h.obj j b qs e1 e2
  have hba:b ≠ a:=fun z=>hj (by
   obtain ⟨q1,q2⟩:=List.getElem?_eq_some_iff.mp e1
   obtain ⟨q3,q4⟩:=List.getElem?_eq_some_iff.mp ha
   exact (List.getElem_inj h.nd).mp (q2.trans (z.trans q4.symm)))
  exact ⟨ys,by rw [upd_ne hba]; exact h1,h2.mono x⟩
theorem ext0_side {acc:Addr} {vs:List V} (ha:H acc = some (.lst vs)) (o:HO):Ext0 μ H μ (upd H acc o) :=
 ⟨⟨[],by simp⟩,fun b xs e=>by rw [upd_ne (ne_of e ha (by intro z; cases z))]; exact e,fun b o' u e=>by rw [upd_ne (ne_of e ha (by intro z; cases z))]; exact e⟩
theorem RelS.side (h:RelS K μ H st) {acc:Addr} {vs:List V} (ha:H acc = some (.lst vs)) (hn:acc ∉ μ) (o:HO):RelS K μ (upd H acc o) st :=
 ⟨h.len,h.nd,fun l a ps e1 e2=>by
  obtain ⟨xs,h1,h2⟩:=h.obj l a ps e1 e2
  exact ⟨xs,by rw [upd_ne (fun z:a = acc=>hn (by rw [← z]; exact List.mem_of_getElem? e1))]; exact h1,h2.mono0 (ext0_side ha o)⟩⟩
theorem RelS.adopt (h:RelS K μ H st) {acc:Addr} {vs:List V} {ps:List PV} (ha:H acc = some (.lst vs)) (hn:acc ∉ μ) (r:RPs K μ H ps vs):RelS K (μ ++ [acc]) H (st ++ [.lst ps]):=by
 have x:Ext0 μ H (μ ++ [acc]) H:=⟨⟨[acc],rfl⟩,fun _ _ e=>e,fun _ _ _ e=>e⟩
 refine ⟨by rw [List.length_append,List.length_append,h.len]; rfl,?_,fun l a qs e1 e2=>?_⟩
 ·refine List.nodup_append.mpr ⟨h.nd,by simp,fun a hm b hb=>?_⟩
  simp at hb; subst hb
  rintro rfl
  exact hn hm
 ·by_cases hl:l < st.length
  ·rw [List.getElem?_append_left hl] at e2
   rw [List.getElem?_append_left (by rw [h.len]; exact hl)] at e1
   obtain ⟨ys,h1,h2⟩:=h.obj l a qs e1 e2
   exact ⟨ys,h1,h2.mono0 x⟩
  ·have hlen:l < (st ++ [PO.lst ps]).length:=(List.getElem?_eq_some_iff.mp e2).1
   rw [List.length_append,List.length_singleton] at hlen
   have e:l = st.length:=by omega
   subst e
   rw [List.getElem?_append_right (Nat.le_refl _),Nat.sub_self] at e2
   rw [← h.len,List.getElem?_append_right (Nat.le_refl _),Nat.sub_self] at e1
   simp at e1 e2
   subst e1; subst e2
   exact ⟨vs,ha,r.mono0 x⟩
theorem listOf_rel (h:RelS K μ H st) {p:PV} {v:V} {ps:List PV} (r:RP K μ H p v) (e:listOf st p = some ps):∃ a xs,v = .ref a∧SqL K H a xs∧RPs K μ H ps xs:=by
 cases p with
 | ref l =>
  obtain ⟨a,rfl,hm⟩:=r
  have e:(match st[l]? with | some (.lst xs)=>some xs | none=>none) = some ps:=e
  cases q:st[l]? with
  | none=>rw [q] at e; cases e
  | some o =>
   cases o with
   | lst qs =>
    rw [q] at e; cases e
    obtain ⟨xs,h1,h2⟩:=h.obj l a ps hm q
    exact ⟨a,xs,rfl,SqL.of h1,h2⟩
 | scr ns =>
  obtain ⟨a,rfl,hs,_⟩:=r
  cases e
  exact ⟨a,_,rfl,hs,RPs.ints ns⟩
 | _=>cases e
theorem seqOf_rel (h:RelS K μ H st) {p:PV} {v:V} {ps:List PV} (r:RP K μ H p v) (e:seqOf st p = some ps):∃ a xs,v = .ref a∧(SqL K H a xs ∨ SqT K H a xs)∧RPs K μ H ps xs:=by
 cases p with
 | tup qs =>
  obtain ⟨a,xs,rfl,h1,h2⟩:=r
  cases e
  exact ⟨a,xs,rfl,.inr (SqT.of h1),h2⟩
 | ref l=>obtain ⟨a,xs,e1,e2,e3⟩:=listOf_rel h r e; exact ⟨a,xs,e1,.inl e2,e3⟩
 | scr ns=>obtain ⟨a,xs,e1,e2,e3⟩:=listOf_rel h r e; exact ⟨a,xs,e1,.inl e2,e3⟩
 | _=>cases e
end
noncomputable def Kg {α β:Type} (RR:List Addr→Hp→α→β→Prop) (K:PySem.W.Frag) (μ:List Addr) (H:Hp) (res:Option (α×Sto)) (Q:β→Hp→Prop):Prop :=
 ∃ r st',res = some (r,st')∧∀ v H' μ',Ext μ H μ' H'→RelS K μ' H' st'→RR μ' H' r v→Q v H'
theorem Kg.shift {α β:Type} {RR:List Addr→Hp→α→β→Prop} {K:PySem.W.Frag} {μ μ1:List Addr} {H H1:Hp} {res:Option (α×Sto)} {Q:β→Hp→Prop} (x:Ext μ H μ1 H1) (h:Kg RR K μ H res Q):Kg RR K μ1 H1 res Q :=
 let ⟨r,st',e,q⟩:=h
 ⟨r,st',e,fun v H' μ' y=>q v H' μ' (x.trans y)⟩
theorem Kg.split {α β γ:Type} {RR:List Addr→Hp→α→β→Prop} {K:PySem.W.Frag} {μ:List Addr} {H:Hp} {res:Option (γ×Sto)} {f:γ×Sto→Option (α×Sto)} {Q:β→Hp→Prop} (h:Kg RR K μ H (res.bind f) Q) :
  ∃ p st1,res = some (p,st1)∧Kg RR K μ H (f (p,st1)) Q:=by
 obtain ⟨r,st',e,q⟩:=h
 cases res with
 | none=>cases e
 | some x=>exact ⟨x.1,x.2,rfl,r,st',e,q⟩
noncomputable abbrev K1 (K:PySem.W.Frag):=Kg (RP K) K
noncomputable abbrev KL (K:PySem.W.Frag):=Kg (RPs K) K
noncomputable abbrev KB (K:PySem.W.Frag):=Kg (fun _ _ (a b:Bool)=>a = b) K
noncomputable abbrev KO (K:PySem.W.Frag):=Kg (fun _ _ (a b:Option Int)=>a = b) K
theorem K1.done {K:PySem.W.Frag} {μ:List Addr} {H:Hp} {st:Sto} {p:PV} {v:V} {Q:VK} (k:K1 K μ H (some (p,st)) Q) (hs:RelS K μ H st) (r:RP K μ H p v):Q v H:=by
 obtain ⟨r',st',e,q⟩:=k
 cases e
 exact q v H μ (Ext.refl _ _) hs r
section
variable (K:PySem.W.Frag) (call:Nat→List PV→Sto→R PV)
noncomputable def tE (e:E):TE:=fun σ H Q=>∃ μ L st,RelL K μ H L σ∧RelS K μ H st∧K1 K μ H (ev call e L st) Q
noncomputable def tT (e:E):TT:=fun σ H Q=>∃ μ L st,RelL K μ H L σ∧RelS K μ H st∧KB K μ H (evT call e L st) Q
noncomputable def tTs (e:E):TT:=fun σ H Q=>∃ μ L st,RelL K μ H L σ∧RelS K μ H st∧KB K μ H (evTs call e L st) Q
noncomputable def tA (e:E):TA:=fun σ H Q=>∃ μ L st,RelL K μ H L σ∧RelS K μ H st∧KL K μ H (evs call e L st) Q
noncomputable def tO (e:E):TO:=fun σ H Q=>∃ μ L st,RelL K μ H L σ∧RelS K μ H st∧KO K μ H (evO call e L st) Q
noncomputable def spF (f:Nat):Sp:=fun vs H Q _=>∃ μ st args,RelS K μ H st∧RPs K μ H args vs∧K1 K μ H (call f args st) Q
end
end Kw
end
section
set_option Elab.async false
set_option linter.all false
set_option maxRecDepth 100000
set_option maxHeartbeats 4000000
namespace Kw
open PySem PySem.Spec PyProof.Rows L2
theorem ofString_inj {x y:String} (h:Str.ofString x = Str.ofString y):x = y:=by
 rw [Str.ofString_eq_toList,Str.ofString_eq_toList] at h
 have h2:x.toList.map Char.toNat = y.toList.map Char.toNat:=by
  injection h with h
  simpa using congrArg Array.toList h
 have inj:∀ (a b:List Char),a.map Char.toNat = b.map Char.toNat→a = b:=by
  intro a
  induction a with
  | nil=>intro b hb; cases b <;> simp_all
  | cons c a ih =>
   intro b hb
   cases b with
   | nil=>simp at hb
   | cons d b =>
    simp only [List.map_cons,List.cons.injEq] at hb
    rw [ih b hb.2,Char.toNat_inj.mp hb.1]
 exact String.toList_inj.mp (inj _ _ h2)
theorem strBeq (a b:String):(Str.ofString a == Str.ofString b) = (a == b):=by
 rw [Bool.eq_iff_iff]
 simp only [beq_iff_eq]
 exact ⟨ofString_inj,fun h=>by rw [h]⟩
theorem str_ok (x:String):PyData.strOk (Str.ofString x) = true:=by
 rw [Str.ofString_eq_toList]
 unfold PyData.strOk
 simp only [List.all_toArray,List.all_map,List.all_eq_true,Function.comp_apply,decide_eq_true_eq]
 intro c _
 have h:c.val.toNat < 0xd800 ∨ (0xdfff < c.val.toNat∧c.val.toNat < 0x110000):=c.valid
 show c.val.toNat < 1114112
 omega
mutual
theorem d_lay:∀ d:D,(dPy d).canLay0 = true
 | .non=>rfl
 | .bl _=>rfl
 | .int _=>rfl
 | .str x=>by simp only [dPy,PyData.canLay0]; exact str_ok x
 | .tup xs=>by simp only [dPy,PyData.canLay0]; exact d_lays xs
 | .lst xs=>by simp only [dPy,PyData.canLay0]; exact d_lays xs
theorem d_lays:∀ xs:List D,PyData.canLayAll0 (dPys xs) = true
 | []=>rfl
 | x :: xs=>by simp only [dPys,PyData.canLayAll0,d_lay x,d_lays xs,Bool.and_self]
end
mutual
theorem d_eqv:∀ a b:D,PyData.eqv (dPy a) (dPy b) = D.eqv a b
 | .non,b=>by cases b <;> simp only [dPy,PyData.eqv,D.eqv]
 | .bl _,b=>by cases b <;> simp only [dPy,PyData.eqv,D.eqv]
 | .int _,b=>by cases b <;> simp only [dPy,PyData.eqv,D.eqv]
 | .str x,b=>by cases b <;> simp only [dPy,PyData.eqv,D.eqv,strBeq]
 | .tup xs,b=>by cases b <;> simp only [dPy,PyData.eqv,D.eqv,d_eqvs]
 | .lst xs,b=>by cases b <;> simp only [dPy,PyData.eqv,D.eqv,d_eqvs]
theorem d_eqvs:∀ a b:List D,PyData.eqvAll (dPys a) (dPys b) = D.eqvs a b
 | [],b=>by cases b <;> simp only [dPys,PyData.eqvAll,D.eqvs]
 | x :: xs,b=>by cases b <;> simp only [dPys,PyData.eqvAll,D.eqvs,d_eqv,d_eqvs]
end
theorem d_any (x:D):∀ xs:List D,((dPys xs).any fun y=>PyData.eqv y (dPy x)) = xs.any fun y=>D.eqv y x
 | []=>rfl
 | y :: r=>by simp only [dPys,List.any_cons,d_eqv,d_any x r]
mutual
theorem d_nodict:∀ d:D,(dPy d).hasDict = false
 | .non=>rfl
 | .bl _=>rfl
 | .int _=>rfl
 | .str x=>rfl
 | .tup xs=>by simp only [dPy,PyData.hasDict]; exact d_nodicts xs
 | .lst xs=>by simp only [dPy,PyData.hasDict]; exact d_nodicts xs
theorem d_nodicts:∀ xs:List D,PyData.hasDictAll (dPys xs) = false
 | []=>rfl
 | x :: xs=>by simp only [dPys,PyData.hasDictAll,d_nodict x,d_nodicts xs,Bool.or_self]
end
theorem log2_lt {i:Int} {k:Nat} (hk:0 < k) (h:-(2 ^ k:Int) < i∧i < 2 ^ k):i.natAbs.log2 < k:=by
 by_cases h0:i.natAbs = 0
 ·rw [h0]; simpa using hk
 ·rw [Nat.log2_lt h0]
  have e:((2 ^ k:Nat):Int) = (2:Int) ^ k:=by rw [Int.natCast_pow]; rfl
  omega
mutual
theorem d_fit:∀ d:D,d.fit = true→(dPy d).showable = true∧(dPy d).intsShort 160 = true∧(dPy d).weight ≤ d.wt
 | .non,_=>⟨rfl,rfl,Nat.le_refl _⟩
 | .bl _,_=>⟨rfl,rfl,Nat.le_refl _⟩
 | .int i,h=>by
  have h:-(2 ^ 150:Int) < i∧i < 2 ^ 150:=by simpa [D.fit] using h
  have l1:=log2_lt (k:=150) (by decide) h
  refine ⟨?_,?_,?_⟩
  ·simp only [dPy,PyData.showable,decide_eq_true_eq]; omega
  ·simp only [dPy,PyData.intsShort,decide_eq_true_eq]
   have e:=int_text_length_le (k:=150) (by decide) l1
   show (Str.ofString (toString i)).length ≤ 160
   rw [PySem.ofString_length]; omega
  ·simp only [dPy,PyData.weight,D.wt]
   split
   ·omega
   ·split
    ·rename_i hs
     have l2:=log2_lt (k:=40) (by decide) hs
     omega
    ·omega
 | .str x,_=>by
  refine ⟨rfl,rfl,?_⟩
  simp only [dPy,PyData.weight,D.wt]
  have:(Str.ofString x).length = x.length:=PySem.ofString_length x
  exact Nat.le_of_eq this
 | .tup xs,h=>by
  obtain ⟨h1,h2,h3⟩:=d_fits xs (by simpa only [D.fit] using h)
  exact ⟨by simpa only [dPy,PyData.showable] using h1,by simpa only [dPy,PyData.intsShort] using h2,by simpa only [dPy,PyData.weight,D.wt] using h3⟩
 | .lst xs,h=>by
  obtain ⟨h1,h2,h3⟩:=d_fits xs (by simpa only [D.fit] using h)
  exact ⟨by simpa only [dPy,PyData.showable] using h1,by simpa only [dPy,PyData.intsShort] using h2,by simpa only [dPy,PyData.weight,D.wt] using h3⟩
theorem d_fits:∀ xs:List D,D.fits xs = true→PyData.showableAll (dPys xs) = true∧PyData.intsShortAll 160 (dPys xs) = true∧PyData.weightAll (dPys xs) ≤ D.wts xs
 | [],_=>⟨rfl,rfl,Nat.le_refl _⟩
 | x :: xs,h=>by
  have h:x.fit = true∧D.fits xs = true:=by simpa only [D.fits,Bool.and_eq_true] using h
  obtain ⟨a1,a2,a3⟩:=d_fit x h.1
  obtain ⟨b1,b2,b3⟩:=d_fits xs h.2
  refine ⟨?_,?_,?_⟩
  ·simp only [dPys,PyData.showableAll,a1,b1,Bool.and_self]
  ·simp only [dPys,PyData.intsShortAll,a2,b2,Bool.and_self]
  ·simp only [dPys,PyData.weightAll,D.wts]; omega
end
theorem d_shown {d:D} (h:d.fit = true) (hw:d.wt ≤ big):(dPy d).shown.length ≤ sizeLine:=by
 obtain ⟨_,h2,h3⟩:=d_fit d h
 have:=PyData.shown_le 160 (by decide) (dPy d) (PyData.leavesShort_of_canLay0 160 _ (d_lay d) h2)
 unfold big at hw
 have e:sizeLine = 16777216:=rfl
 omega
theorem toD_depth {st:Sto}:∀ {n:Nat} {p:PV} {d:D},toD st n p = some d→(dPy d).depth ≤ n
 | 0,p,d,h=>by cases h
 | n + 1,p,d,h=>by
  have ds:∀ {ps:List PV} {ds:List D},mapO (toD st n) ps = some ds→PyData.depthAll (dPys ds) ≤ n:=by
   intro ps
   induction ps with
   | nil=>intro ds h; cases h; simp [dPys,PyData.depthAll]
   | cons q ps ih =>
    intro ds h
    simp only [mapO] at h
    cases e1:toD st n q with
    | none=>rw [e1] at h; cases h
    | some y =>
     rw [e1] at h
     cases e2:mapO (toD st n) ps with
     | none=>simp only [Option.bind_some,e2] at h; cases h
     | some zs =>
      simp only [Option.bind_some,e2,Option.map_some] at h
      cases h
      simp only [dPys,PyData.depthAll]
      exact Nat.max_le.mpr ⟨toD_depth e1,ih e2⟩
  cases p with
  | tup ps =>
   have h:(mapO (toD st n) ps).map D.tup = some d:=h
   cases e:mapO (toD st n) ps with
   | none=>rw [e] at h; cases h
   | some zs=>rw [e] at h; cases h; simp only [dPy,PyData.depth]; have:=ds e; omega
  | ref l =>
   have h:(match st[l]? with | some (.lst xs)=>(mapO (toD st n) xs).map D.lst | none=>none) = some d:=h
   cases es:st[l]? with
   | none=>rw [es] at h; cases h
   | some o =>
    obtain ⟨ps⟩:=o
    rw [es] at h
    have h:(mapO (toD st n) ps).map D.lst = some d:=h
    cases e:mapO (toD st n) ps with
    | none=>rw [e] at h; cases h
    | some zs=>rw [e] at h; cases h; simp only [dPy,PyData.depth]; have:=ds e; omega
  | non=>cases h; simp [dPy,PyData.depth]
  | bl _=>cases h; simp [dPy,PyData.depth]
  | int _=>cases h; simp [dPy,PyData.depth]
  | str _=>cases h; simp [dPy,PyData.depth]
  | scr _=>cases h
  | shn _=>cases h
section
variable {X:Cx} {pins:List (Addr×Obj)} {σ:L2.St} {H:Hp} {s:Shared} {μ:List Addr} {st:Sto}
theorem reads_of (I:Inv X pins σ H s) (hs:RelS X.K μ H st):∀ {n:Nat} {p:PV} {v:V} {u:Value} {d:D},RP X.K μ H p v→RelV v u→toD st n p = some d→∃ as,Reads s.heap u (dPy d) as
 | 0,p,v,u,d,_,_,h=>by cases h
 | n + 1,p,v,u,d,rp,rv,h=>by
  have all:∀ {ps:List PV} {vs:List V} {us:List Value} {ds:List D},RPs X.K μ H ps vs→Vals vs us→mapO (toD st n) ps = some ds→∃ as,ReadsAll s.heap us (dPys ds) as:=by
   intro ps
   induction ps with
   | nil =>
    intro vs us ds r q h
    cases (show vs = [] from r)
    cases q
    cases h
    exact ⟨[],.nil⟩
   | cons q ps ih =>
    intro vs us ds r rq h
    obtain ⟨v1,vr,rfl,r1,r2⟩:=r
    cases rq with
    | cons q1 q2 =>
     simp only [mapO] at h
     cases e1:toD st n q with
     | none=>rw [e1] at h; cases h
     | some y =>
      rw [e1] at h
      cases e2:mapO (toD st n) ps with
      | none=>simp only [Option.bind_some,e2] at h; cases h
      | some zs =>
       simp only [Option.bind_some,e2,Option.map_some] at h
       cases h
       obtain ⟨as,ra⟩:=reads_of I hs r1 q1 e1
       obtain ⟨bs,rb⟩:=ih r2 q2 e2
       exact ⟨as ++ bs,.cons ra rb⟩
  cases p with
  | tup ps =>
   have h:(mapO (toD st n) ps).map D.tup = some d:=h
   obtain ⟨a,xs,rfl,h1,h2⟩:=rp
   cases (show u = Value.ref a from rv)
   cases e:mapO (toD st n) ps with
   | none=>rw [e] at h; cases h
   | some zs =>
    rw [e] at h; cases h
    obtain ⟨its,rr,⟨o,e1,e2,k,e3⟩,_⟩:=I.tuple (SqT.of h1)
    obtain ⟨as,ra⟩:=all h2 rr e
    exact ⟨as,.tuple e1 e2 e3 (by simpa using ra)⟩
  | ref l =>
   have h:(match st[l]? with | some (.lst xs)=>(mapO (toD st n) xs).map D.lst | none=>none) = some d:=h
   cases es:st[l]? with
   | none=>rw [es] at h; cases h
   | some o =>
    obtain ⟨ps⟩:=o
    rw [es] at h
    have h:(mapO (toD st n) ps).map D.lst = some d:=h
    obtain ⟨a',xs,m,h1,h2⟩:=hs.at es
    obtain ⟨a,rfl,m2⟩:=rp
    rw [m] at m2; cases m2
    cases (show u = Value.ref a' from rv)
    cases e:mapO (toD st n) ps with
    | none=>rw [e] at h; cases h
    | some zs =>
     rw [e] at h; cases h
     obtain ⟨its,rr,⟨o,k,e1,e2,e2',e3⟩,_⟩:=I.list (SqL.of h1)
     obtain ⟨as,ra⟩:=all h2 rr e
     exact ⟨a' :: as,.list e1 e2 e3 (by simpa using ra)⟩
  | non=>cases h; cases (show v = _ from rp); cases (show u = _ from rv); exact ⟨_,.none⟩
  | bl _=>cases h; cases (show v = _ from rp); cases (show u = _ from rv); exact ⟨_,.bool _⟩
  | int _=>cases h; cases (show v = _ from rp); obtain ⟨t,rfl⟩:=rv; exact ⟨_,.int _ _⟩
  | str _=>cases h; cases (show v = _ from rp); obtain ⟨t,rfl⟩:=rv; exact ⟨_,.str _ _⟩
  | scr _=>cases h
  | shn _=>cases h
end
end Kw
end
section
set_option Elab.async false
set_option linter.all false
set_option maxRecDepth 100000
set_option maxHeartbeats 4000000
namespace Kw
open PySem PySem.Spec PyProof.Rows L2
noncomputable def bopOf:BOp→Operator | .add=>.Add | .sub=>.Sub | .mul=>.Mult | .fdiv=>.FloorDiv | .mod=>.Mod | .pow=>.Pow
noncomputable def copOf:COp→CmpOp | .eq=>.Eq | .ne=>.NotEq | .lt=>.Lt | .le=>.LtE | .gt=>.Gt | .ge=>.GtE | .isin=>.In | .notin=>.NotIn
noncomputable def r2 (K:PySem.W.Frag) (f:PV→PV→Sto→R PV):R2:=fun x y H Q=>∃ μ st p q,RelS K μ H st∧RP K μ H p x∧RP K μ H q y∧K1 K μ H (f p q st) Q
noncomputable def r1 (K:PySem.W.Frag) (f:List PV→Sto→R PV):List V→Hp→VK→Prop:=fun xs H Q=>∃ μ st ps,RelS K μ H st∧RPs K μ H ps xs∧K1 K μ H (f ps st) Q
theorem big_line:big ≤ sizeLine:=by decide
theorem Kg.no {α β:Type} {RR:List Addr→Hp→α→β→Prop} {K:PySem.W.Frag} {μ:List Addr} {H:Hp} {Q:β→Hp→Prop} (k:Kg RR K μ H (none:Option (α×Sto)) Q):False:=by
 obtain ⟨_,_,e,_⟩:=k
 cases e
theorem RPs.rep {K:PySem.W.Frag} {μ:List Addr} {H:Hp} {ps:List PV} {vs:List V} (h:RPs K μ H ps vs):∀ k:Nat,RPs K μ H (List.replicate k ps).flatten (List.replicate k vs).flatten
 | 0=>rfl
 | k + 1=>by
  rw [List.replicate_succ,List.replicate_succ,List.flatten_cons,List.flatten_cons]
  exact h.append (h.rep k)
section
variable {X:Cx}
theorem small_mul {i j:Int} (h:(small i || small j) = true):CMul i j:=by
 simp only [small,Bool.or_eq_true,decide_eq_true_eq] at h
 exact h
theorem op_bin (op:BOp):OpR X (binaryOp (bopOf op)) (r2 X.K (binop op)):=by
 intro pins s σ H x y v u Q I rx ry h
 obtain ⟨μ,st,p,q,hs,rp,rq,k⟩:=h
 cases p with
 | int i =>
  cases q with
  | int j =>
   obtain rfl:x = .int i:=rp
   obtain rfl:y = .int j:=rq
   cases op with
   | add=>exact op_add pins s σ H _ _ v u Q I rx ry ⟨i,j,rfl,rfl,k.done hs rfl⟩
   | sub=>exact op_sub pins s σ H _ _ v u Q I rx ry ⟨i,j,rfl,rfl,k.done hs rfl⟩
   | mul =>
    have k:K1 X.K μ H (if (small i || small j) = true then some (.int (i * j),st) else none) Q:=k
    split at k
    ·rename_i hc
     exact op_mul pins s σ H _ _ v u Q I rx ry ⟨i,j,rfl,rfl,small_mul hc,k.done hs rfl⟩
    ·exact k.no.elim
   | fdiv =>
    have k:K1 X.K μ H (if 0 < j∧j < 1073741824 then some (.int (i / j),st) else none) Q:=k
    split at k
    ·rename_i hc
     exact op_fdiv pins s σ H _ _ v u Q I rx ry ⟨i,j,rfl,rfl,hc,k.done hs rfl⟩
    ·exact k.no.elim
   | mod =>
    have k:K1 X.K μ H (if 0 < j then some (.int (i % j),st) else none) Q:=k
    split at k
    ·rename_i hc
     exact op_mod pins s σ H _ _ v u Q I rx ry ⟨i,j,rfl,rfl,hc,k.done hs rfl⟩
    ·exact k.no.elim
   | pow =>
    have k:K1 X.K μ H (if 0 ≤ j∧j ≤ 1000∧small i = true then some (.int (i ^ j.toNat),st) else none) Q:=k
    split at k
    ·rename_i hc
     have hsm:-(2 ^ 64) < i∧i < 2 ^ 64:=by simpa [small] using hc.2.2
     exact op_pow pins s σ H _ _ v u Q I rx ry ⟨i,j,rfl,rfl,⟨hc.1,by omega,by omega⟩,k.done hs rfl⟩
    ·exact k.no.elim
  | _=>cases op <;> exact k.no.elim
 | tup as =>
  cases q with
  | tup bs =>
   cases op with
   | add =>
    have k:K1 X.K μ H (if as.length + bs.length ≤ big then some (.tup (as ++ bs),st) else none) Q:=k
    split at k
    ·rename_i hc
     obtain ⟨a,xs,rfl,ha,ra⟩:=rp
     obtain ⟨b,ys,rfl,hb,rb⟩:=rq
     have l1:=ra.length
     have l2:=rb.length
     have hl:=big_line
     by_cases h0:xs = []
     ·subst h0
      have z2:as = []:=List.eq_nil_of_length_eq_zero (by simpa using l1)
      subst z2
      exact op_catT0 pins s σ H _ _ v u Q I rx ry ⟨a,b,ys,rfl,rfl,SqT.of ha,SqT.of hb,k.done hs ⟨b,ys,rfl,hb,rb⟩⟩
     refine op_catT pins s σ H _ _ v u Q I rx ry ⟨a,b,xs,ys,rfl,rfl,SqT.of ha,SqT.of hb,h0,by omega,fun z=>?_,fun _ p hp=>?_⟩
     ·subst z
      have z2:bs = []:=List.eq_nil_of_length_eq_zero (by simpa using l2)
      subst z2
      rw [List.append_nil] at k
      exact k.done hs ⟨a,xs,rfl,ha,ra⟩
     ·have x':=ext_new hs hp (.tup (xs ++ ys))
      exact K1.done (k.shift x') (hs.new hp _) ⟨p,_,rfl,upd_same,(ra.append rb).mono x'⟩
    ·exact k.no.elim
   | _=>exact k.no.elim
  | _=>cases op <;> exact k.no.elim
 | ref a =>
  cases q with
  | ref b =>
   cases op with
   | add =>
    have k:K1 X.K μ H (match st[a]?,st[b]? with
     | some (.lst xs),some (.lst ys)=>alloc st (xs ++ ys)
     | _,_=>none) Q:=k
    cases ea:st[a]? with
    | none=>rw [ea] at k; exact k.no.elim
    | some oa =>
     cases eb:st[b]? with
     | none=>rw [ea,eb] at k; cases oa; exact k.no.elim
     | some ob =>
      obtain ⟨as⟩:=oa
      obtain ⟨bs⟩:=ob
      rw [ea,eb] at k
      have k:K1 X.K μ H (if (as ++ bs).length ≤ big then some (.ref st.length,st ++ [.lst (as ++ bs)]) else none) Q:=k
      split at k
      ·rename_i hc
       obtain ⟨a',xs,m1,h1,ra⟩:=hs.at ea
       obtain ⟨b',ys,m2,h2,rb⟩:=hs.at eb
       obtain ⟨a2,rfl,ma⟩:=rp
       obtain ⟨b2,rfl,mb⟩:=rq
       rw [m1] at ma; cases ma
       rw [m2] at mb; cases mb
       rw [List.length_append] at hc
       have l1:=ra.length
       have l2:=rb.length
       have hl:=big_line
       refine op_cat pins s σ H _ _ v u Q I rx ry ⟨a',b',xs,ys,rfl,rfl,h1,h2,by omega,fun p hp=>?_⟩
       have x':=ext_alloc hs hp (.lst (xs ++ ys))
       refine K1.done (k.shift x') (hs.alloc hp (ra.append rb)) ⟨p,rfl,?_⟩
       rw [← hs.len,List.getElem?_append_right (Nat.le_refl _),Nat.sub_self] <;> rfl
      ·exact k.no.elim
   | _=>exact k.no.elim
  | int j =>
   cases op with
   | mul =>
    have k:K1 X.K μ H (match st[a]? with
     | some (.lst xs)=>if -(2 ^ 63) ≤ j∧j < 2 ^ 63∧xs.length * j.toNat ≤ big then some (.ref st.length,st ++ [.lst (List.replicate j.toNat xs).flatten]) else none
     | none=>none) Q:=k
    cases ea:st[a]? with
    | none=>rw [ea] at k; exact k.no.elim
    | some oa =>
     obtain ⟨as⟩:=oa
     rw [ea] at k
     have k:K1 X.K μ H (if -(2 ^ 63) ≤ j∧j < 2 ^ 63∧as.length * j.toNat ≤ big then some (.ref st.length,st ++ [.lst (List.replicate j.toNat as).flatten]) else none) Q:=k
     split at k
     ·rename_i hc
      obtain ⟨a',xs,m1,h1,ra⟩:=hs.at ea
      obtain ⟨a2,rfl,ma⟩:=rp
      obtain rfl:y = .int j:=rq
      rw [m1] at ma; cases ma
      have l1:=ra.length
      have hl:=big_line
      refine op_rep pins s σ H _ _ v u Q I rx ry ⟨a',j,xs,rfl,rfl,h1,hc.1,hc.2.1,by rw [← l1]; omega,fun p hp=>?_⟩
      have x':=ext_alloc hs hp (.lst (List.replicate j.toNat xs).flatten)
      refine K1.done (k.shift x') (hs.alloc hp (ra.rep _)) ⟨p,rfl,?_⟩
      rw [← hs.len,List.getElem?_append_right (Nat.le_refl _),Nat.sub_self] <;> rfl
     ·exact k.no.elim
   | _=>exact k.no.elim
  | _=>cases op <;> exact k.no.elim
 | _=>cases op <;> cases q <;> exact k.no.elim
noncomputable def r2b (K:PySem.W.Frag) (f:PV→PV→Sto→Option Bool):R2:=r2 K fun p q st=>(f p q st).bind fun r=>some (.bl r,st)
theorem eqv_in {st:Sto} {p q:PV} {b:Bool} (e:eqv st p q = some b):(∃ d,p = .shn d∧q = .shn d∧b = true) ∨ ∃ x y,toD st deepest p = some x∧toD st deepest q = some y∧b = D.eqv x y:=by
 have gen:((toD st deepest p).bind fun x=>(toD st deepest q).bind fun y=>some (D.eqv x y)) = some b→∃ x y,toD st deepest p = some x∧toD st deepest q = some y∧b = D.eqv x y:=fun e=>by
  cases e1:toD st deepest p with
  | none=>rw [e1] at e; cases e
  | some x =>
   cases e2:toD st deepest q with
   | none=>rw [e1,e2] at e; cases e
   | some y=>rw [e1,e2] at e; cases e; exact ⟨x,y,rfl,rfl,rfl⟩
 cases p with
 | shn x =>
  cases q with
  | shn y =>
   have e:(if x = y then some true else none) = some b:=e
   split at e
   ·rename_i h; cases e; subst h; exact .inl ⟨x,rfl,rfl,rfl⟩
   ·cases e
  | _=>exact .inr (gen e)
 | _=>exact .inr (gen e)
theorem op_eqD (hu:X.A.units + 64 < cLine) (neg:Bool):OpR X (compareOp (if neg then .NotEq else .Eq)) (r2b X.K fun p q st=>(eqv st p q).map (neg != ·)):=by
 intro pins s σ H x y v u Q I rx ry h
 obtain ⟨μ,st,p,q,hs,rp,rq,k⟩:=h
 have k:K1 X.K μ H (((eqv st p q).map (neg != ·)).bind fun r=>some (.bl r,st)) Q:=k
 cases e:eqv st p q with
 | none=>rw [e] at k; exact k.no.elim
 | some b =>
  rw [e] at k
  have fin:=K1.done (p:=.bl (neg != b)) k hs rfl
  rcases eqv_in e with ⟨d,rfl,rfl,rfl⟩ | ⟨dx,dy,e1,e2,rfl⟩
  ·obtain rfl:x = .str (dPy d).shown:=rp
   obtain rfl:y = .str (dPy d).shown:=rq
   cases neg with
   | false=>exact op_eq pins s σ H _ _ v u Q I rx ry ⟨rfl,by simpa using fin⟩
   | true=>exact op_ne pins s σ H _ _ v u Q I rx ry ⟨rfl,by simpa using fin⟩
  ·obtain ⟨as,ra⟩:=reads_of I hs rp rx e1
   obtain ⟨bs,rb⟩:=reads_of I hs rq ry e2
   have hd:X.A.units + min (dPy dx).depth (dPy dy).depth < cLine:=by
    have h1:=toD_depth e1
    unfold deepest at h1
    omega
   cases neg with
   | false=>exact PySem.SeqAt.compareEq_reads ra rb (d_lay dx) (d_lay dy) hd ⟨.bl _,H,I,rfl,by rw [d_eqv]; simpa using fin⟩
   | true=>exact PySem.SeqAt.compareNe_reads ra rb (d_lay dx) (d_lay dy) hd ⟨.bl _,H,I,rfl,by rw [d_eqv]; simpa using fin⟩
theorem inv_in {st:Sto} {p q:PV} {b:Bool} (e:inv st p q = some b):∃ x ys,toD st deepest p = some x∧(toD st deepest q = some (.lst ys) ∨ toD st deepest q = some (.tup ys))∧b = ys.any fun y=>D.eqv y x:=by
 have e:((toD st deepest p).bind fun x=>(toD st deepest q).bind fun y=>inD x y) = some b:=e
 cases e1:toD st deepest p with
 | none=>rw [e1] at e; cases e
 | some x =>
  cases e2:toD st deepest q with
  | none=>rw [e1,e2] at e; cases e
  | some y =>
   rw [e1,e2] at e
   have e:inD x y = some b:=e
   cases y with
   | lst ys=>cases e; exact ⟨x,ys,rfl,.inl rfl,rfl⟩
   | tup ys=>cases e; exact ⟨x,ys,rfl,.inr rfl,rfl⟩
   | _=>cases e
theorem op_inD (hu:X.A.units + 64 < cLine) (neg:Bool):OpR X (compareOp (if neg then .NotIn else .In)) (r2b X.K fun p q st=>(inv st p q).map (neg != ·)):=by
 intro pins s σ H x y v u Q I rx ry h
 obtain ⟨μ,st,p,q,hs,rp,rq,k⟩:=h
 have k:K1 X.K μ H (((inv st p q).map (neg != ·)).bind fun r=>some (.bl r,st)) Q:=k
 cases e:inv st p q with
 | none=>rw [e] at k; exact k.no.elim
 | some b =>
  rw [e] at k
  have fin:=K1.done (p:=.bl (neg != b)) k hs rfl
  obtain ⟨dx,ys,e1,e2,rfl⟩:=inv_in e
  obtain ⟨as,ra⟩:=reads_of I hs rp rx e1
  have hd:X.A.units + 1 + min (PyData.depthAll (dPys ys)) (dPy dx).depth < cLine:=by
   have h1:=toD_depth e1
   unfold deepest at h1
   omega
  rcases e2 with e2 | e2
  ·obtain ⟨bs,rb⟩:=reads_of I hs rq ry e2
   simp only [dPy] at rb
   cases neg with
   | false=>exact PySem.SeqAt.in_list_reads rb ra (d_lays ys) (d_lay dx) hd ⟨.bl _,H,I,rfl,by rw [d_any]; simpa using fin⟩
   | true=>exact PySem.SeqAt.notIn_list_reads rb ra (d_lays ys) (d_lay dx) hd ⟨.bl _,H,I,rfl,by rw [d_any]; simpa using fin⟩
  ·obtain ⟨bs,rb⟩:=reads_of I hs rq ry e2
   simp only [dPy] at rb
   cases neg with
   | false=>exact PySem.SeqAt.in_tuple_reads rb ra (d_lays ys) (d_lay dx) hd ⟨.bl _,H,I,rfl,by rw [d_any]; simpa using fin⟩
   | true=>exact PySem.SeqAt.notIn_tuple_reads rb ra (d_lays ys) (d_lay dx) hd ⟨.bl _,H,I,rfl,by rw [d_any]; simpa using fin⟩
theorem intsOf_rel {K:PySem.W.Frag} {μ:List Addr} {H:Hp}:∀ {ps:List PV} {xs:List V} {ns:List Int},RPs K μ H ps xs→intsOf ps = some ns→xs = ns.map V.int
 | [],xs,ns,r,e=>by cases (show xs = [] from r); cases e; rfl
 | p :: ps,xs,ns,r,e=>by
  obtain ⟨v,q,rfl,h1,h2⟩:=r
  cases p with
  | int i =>
   have e:(intsOf ps).map (i :: ·) = some ns:=e
   cases z:intsOf ps with
   | none=>rw [z] at e; cases e
   | some ms =>
    rw [z] at e; cases e
    rw [intsOf_rel h2 z,List.map_cons,show v = .int i from h1]
  | _=>cases e
theorem intsOf_map:∀ {xs:List PV} {ns:List Int},intsOf xs = some ns→xs = ns.map .int
 | [],ns,h=>by cases h; rfl
 | x :: xs,ns,h=>by
  cases x with
  | int i =>
   have h:(intsOf xs).map (i :: ·) = some ns:=h
   cases e:intsOf xs with
   | none=>rw [e] at h; cases h
   | some ms=>rw [e] at h; cases h; rw [intsOf_map e]; rfl
  | _=>cases h
theorem lex_eq:∀ a b:List Int,Kw.lexLt a b = HT.lexLt a b
 | [],[]=>by simp [Kw.lexLt,HT.lexLt]
 | [],_ :: _=>by simp [Kw.lexLt,HT.lexLt]
 | _ :: _,[]=>by simp [Kw.lexLt,HT.lexLt]
 | a :: r,b :: q=>by
  simp only [Kw.lexLt,HT.lexLt,lex_eq r q]
  try (by_cases h:a = b <;> simp [h])
theorem op_ltP (hu:X.A.units + 64 < cLine):OpR X (compareOp .Lt) (r2b X.K (cmpop .lt)):=by
 intro pins s σ H x y v u Q I rx ry h
 obtain ⟨μ,st,p,q,hs,rp,rq,k⟩:=h
 cases p with
 | int i =>
  cases q with
  | int j =>
   obtain rfl:x = .int i:=rp
   obtain rfl:y = .int j:=rq
   exact op_lt pins s σ H _ _ v u Q I rx ry ⟨i,j,rfl,rfl,K1.done (p:=.bl _) k hs rfl⟩
  | _=>exact k.no.elim
 | tup ps =>
  cases q with
  | tup qs =>
   have k:K1 X.K μ H (((intsOf ps).bind fun a=>(intsOf qs).bind fun b=>some (Kw.lexLt a b)).bind fun r=>some (.bl r,st)) Q:=k
   cases e1:intsOf ps with
   | none=>rw [e1] at k; exact k.no.elim
   | some ns =>
    cases e2:intsOf qs with
    | none=>rw [e1,e2] at k; exact k.no.elim
    | some ms =>
     rw [e1,e2] at k
     obtain ⟨a,xs,rfl,ha,ra⟩:=rp
     obtain ⟨b,ys,rfl,hb,rb⟩:=rq
     have z1:=intsOf_rel ra e1
     have z2:=intsOf_rel rb e2
     subst z1 z2
     exact op_ltT (by omega) pins s σ H _ _ v u Q I rx ry ⟨a,b,ns,ms,rfl,rfl,SqT.of ha,SqT.of hb,by rw [← lex_eq]; exact K1.done (p:=.bl _) k hs rfl⟩
  | _=>exact k.no.elim
 | _=>cases q <;> exact k.no.elim
theorem lexle_eq:∀ a b:List Int,Kw.lexLe a b = HT.lexLe a b
 | [],[]=>by simp [Kw.lexLe,HT.lexLe]
 | [],_ :: _=>by simp [Kw.lexLe,HT.lexLe]
 | _ :: _,[]=>by simp [Kw.lexLe,HT.lexLe]
 | a :: r,b :: q=>by
  simp only [Kw.lexLe,HT.lexLe,lexle_eq r q]
  try (by_cases h:a = b <;> simp [h])
theorem op_leP (hu:X.A.units + 64 < cLine):OpR X (compareOp .LtE) (r2b X.K (cmpop .le)):=by
 intro pins s σ H x y v u Q I rx ry h
 obtain ⟨μ,st,p,q,hs,rp,rq,k⟩:=h
 cases p with
 | int i =>
  cases q with
  | int j =>
   obtain rfl:x = .int i:=rp
   obtain rfl:y = .int j:=rq
   exact op_le pins s σ H _ _ v u Q I rx ry ⟨i,j,rfl,rfl,K1.done (p:=.bl _) k hs rfl⟩
  | _=>exact k.no.elim
 | tup ps =>
  cases q with
  | tup qs =>
   have k:K1 X.K μ H (((intsOf ps).bind fun a=>(intsOf qs).bind fun b=>some (Kw.lexLe a b)).bind fun r=>some (.bl r,st)) Q:=k
   cases e1:intsOf ps with
   | none=>rw [e1] at k; exact k.no.elim
   | some ns =>
    cases e2:intsOf qs with
    | none=>rw [e1,e2] at k; exact k.no.elim
    | some ms =>
     rw [e1,e2] at k
     obtain ⟨a,xs,rfl,ha,ra⟩:=rp
     obtain ⟨b,ys,rfl,hb,rb⟩:=rq
     have z1:=intsOf_rel ra e1
     have z2:=intsOf_rel rb e2
     subst z1 z2
     exact op_leT (by omega) pins s σ H _ _ v u Q I rx ry ⟨a,b,ns,ms,rfl,rfl,SqT.of ha,SqT.of hb,by rw [← lexle_eq]; exact K1.done (p:=.bl _) k hs rfl⟩
  | _=>exact k.no.elim
 | _=>cases q <;> exact k.no.elim
theorem op_cmp (hu:X.A.units + 64 < cLine) (op:COp):OpR X (compareOp (copOf op)) (r2b X.K (cmpop op)):=by
 cases op with
 | eq =>
  intro pins s σ H x y v u Q I rx ry h
  obtain ⟨μ,st,p,q,hs,rp,rq,k⟩:=h
  refine op_eqD hu false pins s σ H x y v u Q I rx ry ⟨μ,st,p,q,hs,rp,rq,?_⟩
  have k:K1 X.K μ H ((eqv st p q).bind fun r=>some (.bl r,st)) Q:=k
  show K1 X.K μ H (((eqv st p q).map (false != ·)).bind fun r=>some (.bl r,st)) Q
  cases e:eqv st p q with
  | none=>rw [e] at k; exact k.no.elim
  | some b=>rw [e] at k; simpa using k
 | ne =>
  intro pins s σ H x y v u Q I rx ry h
  obtain ⟨μ,st,p,q,hs,rp,rq,k⟩:=h
  refine op_eqD hu true pins s σ H x y v u Q I rx ry ⟨μ,st,p,q,hs,rp,rq,?_⟩
  have k:K1 X.K μ H (((eqv st p q).map (!·)).bind fun r=>some (.bl r,st)) Q:=k
  show K1 X.K μ H (((eqv st p q).map (true != ·)).bind fun r=>some (.bl r,st)) Q
  cases e:eqv st p q with
  | none=>rw [e] at k; exact k.no.elim
  | some b=>rw [e] at k; cases b <;> exact k
 | isin =>
  intro pins s σ H x y v u Q I rx ry h
  obtain ⟨μ,st,p,q,hs,rp,rq,k⟩:=h
  refine op_inD hu false pins s σ H x y v u Q I rx ry ⟨μ,st,p,q,hs,rp,rq,?_⟩
  have k:K1 X.K μ H ((inv st p q).bind fun r=>some (.bl r,st)) Q:=by cases p <;> exact k
  show K1 X.K μ H (((inv st p q).map (false != ·)).bind fun r=>some (.bl r,st)) Q
  cases e:inv st p q with
  | none=>rw [e] at k; exact k.no.elim
  | some b=>rw [e] at k; simpa using k
 | notin =>
  intro pins s σ H x y v u Q I rx ry h
  obtain ⟨μ,st,p,q,hs,rp,rq,k⟩:=h
  refine op_inD hu true pins s σ H x y v u Q I rx ry ⟨μ,st,p,q,hs,rp,rq,?_⟩
  have k:K1 X.K μ H (((inv st p q).map (!·)).bind fun r=>some (.bl r,st)) Q:=by cases p <;> exact k
  show K1 X.K μ H (((inv st p q).map (true != ·)).bind fun r=>some (.bl r,st)) Q
  cases e:inv st p q with
  | none=>rw [e] at k; exact k.no.elim
  | some b=>rw [e] at k; cases b <;> exact k
 | lt=>exact op_ltP hu
 | le=>exact op_leP hu
 | gt =>
  intro pins s σ H x y v u Q I rx ry h
  obtain ⟨μ,st,p,q,hs,rp,rq,k⟩:=h
  cases p <;> cases q <;> first | exact k.no.elim | (rename_i i j; obtain rfl:x = .int i:=rp; obtain rfl:y = .int j:=rq; exact op_gt pins s σ H _ _ v u Q I rx ry ⟨i,j,rfl,rfl,K1.done (p:=.bl _) k hs rfl⟩)
 | ge =>
  intro pins s σ H x y v u Q I rx ry h
  obtain ⟨μ,st,p,q,hs,rp,rq,k⟩:=h
  cases p <;> cases q <;> first | exact k.no.elim | (rename_i i j; obtain rfl:x = .int i:=rp; obtain rfl:y = .int j:=rq; exact op_ge pins s σ H _ _ v u Q I rx ry ⟨i,j,rfl,rfl,K1.done (p:=.bl _) k hs rfl⟩)
theorem atI_rel {K:PySem.W.Frag} {μ:List Addr} {H:Hp} {ps:List PV} {xs:List V} {i:Int} {p:PV} (r:RPs K μ H ps xs) (e:Kw.atI ps i = some p):∃ v,L2.atI xs i = some v∧RP K μ H p v:=by
 have e:(Kw.ixN ps.length i).bind (fun j=>ps[j]?) = some p:=e
 show ∃ v,(L2.ixN xs.length i).bind (fun j=>xs[j]?) = some v∧RP K μ H p v
 have hx:L2.ixN xs.length i = Kw.ixN ps.length i:=by rw [r.length]; rfl
 rw [hx]
 cases q:Kw.ixN ps.length i with
 | none=>rw [q] at e; cases e
 | some j =>
  rw [q] at e
  obtain ⟨v,h1,h2⟩:=r.get (i:=j) e
  exact ⟨v,h1,h2⟩
noncomputable def fIx (p q:PV) (st:Sto):R PV:=match q with
 | .int j=>(seqOf st p).bind fun xs=>(Kw.atI xs j).bind fun v=>some (v,st)
 | _=>none
theorem ix_any:IxR X (r2 X.K fIx):=by
 intro value slice pins s σ H x y v u Q I rx ry h hsl
 obtain ⟨μ,st,p,q,hs,rp,rq,k⟩:=h
 cases q with
 | int j =>
  obtain rfl:y = .int j:=rq
  have k:K1 X.K μ H ((seqOf st p).bind fun xs=>(Kw.atI xs j).bind fun v=>some (v,st)) Q:=k
  cases e:seqOf st p with
  | none=>rw [e] at k; exact k.no.elim
  | some ps =>
   rw [e] at k
   have k:K1 X.K μ H ((Kw.atI ps j).bind fun v=>some (v,st)) Q:=k
   cases e2:Kw.atI ps j with
   | none=>rw [e2] at k; exact k.no.elim
   | some z =>
    rw [e2] at k
    obtain ⟨a,xs,rfl,hq,r⟩:=seqOf_rel hs rp e
    obtain ⟨w,h1,h2⟩:=atI_rel r e2
    rcases hq with hq | hq
    ·exact ix_list value slice pins s σ H _ _ v u Q I rx ry ⟨a,xs,j,w,rfl,rfl,hq,h1,K1.done k hs h2⟩ hsl
    ·exact ix_tup value slice pins s σ H _ _ v u Q I rx ry ⟨a,xs,j,w,rfl,rfl,hq,h1,K1.done k hs h2⟩ hsl
 | _=>exact k.no.elim
theorem sIx_eq (n d:Nat) (o:Option Int):Kw.sIx n d o = HT.sIx n d o:=by
 cases o with
 | none=>rfl
 | some v =>
  show (if v < 0 then (v + n).toNat else min v.toNat n) = HT.sIx n d (some v)
  have h:=HT.clip_eq v n d
  split
  ·rename_i hv; rw [if_pos hv] at h; omega
  ·rename_i hv; rw [if_neg hv] at h; omega
theorem cut_rel {K:PySem.W.Frag} {μ:List Addr} {H:Hp} {ps:List PV} {xs:List V} {lo hi:Option Int} (r:RPs K μ H ps xs):RPs K μ H (cut ps lo hi) (cutV xs lo hi):=by
 unfold cut cutV
 rw [r.length,sIx_eq,sIx_eq]
 exact (r.drop _).take _
noncomputable def rSl (K:PySem.W.Frag):V→Option Int→Option Int→Hp→VK→Prop:=fun x lo hi H Q=>∃ μ st p,RelS K μ H st∧RP K μ H p x∧K1 K μ H (slice st p lo hi) Q
theorem sl_any:SlR X (rSl X.K):=by
 intro pins s σ H x v vl vu lo hi sl Q I rx hsl pl pu h
 obtain ⟨μ,st,p,hs,rp,k⟩:=h
 cases p with
 | tup ps =>
  obtain ⟨a,xs,rfl,ha,ra⟩:=rp
  have k:K1 X.K μ H (some (.tup (cut ps lo hi),st)) Q:=k
  by_cases hc:HT.sIx xs.length 0 lo = 0∧HT.sIx xs.length xs.length hi = xs.length
  ·refine sl_whole pins s σ H _ v vl vu lo hi sl Q I rx hsl pl pu ⟨a,xs,rfl,SqT.of ha,hc.1,hc.2,?_⟩
   have e:cut ps lo hi = ps:=by
    unfold cut
    rw [sIx_eq,sIx_eq,ra.length,hc.1,hc.2,List.drop_zero,Nat.sub_zero,List.take_of_length_le (Nat.le_of_eq ra.length)]
   rw [e] at k
   exact k.done hs ⟨a,xs,rfl,ha,ra⟩
  ·refine sl_tup pins s σ H _ v vl vu lo hi sl Q I rx hsl pl pu ⟨a,xs,rfl,SqT.of ha,hc,fun p hp=>?_⟩
   exact K1.done (k.shift (ext_new hs hp _)) (hs.new hp _) ⟨p,_,rfl,upd_same,(cut_rel ra).mono (ext_new hs hp _)⟩
 | ref l =>
  have k:K1 X.K μ H (match st[l]? with
   | some (.lst xs)=>some (.ref st.length,st ++ [.lst (cut xs lo hi)])
   | _=>none) Q:=k
  cases e:st[l]? with
  | none=>rw [e] at k; exact k.no.elim
  | some o =>
   obtain ⟨ps⟩:=o
   rw [e] at k
   obtain ⟨a,xs,m,h1,ra⟩:=hs.at e
   obtain ⟨a2,rfl,ma⟩:=rp
   rw [m] at ma; cases ma
   refine sl_list pins s σ H _ v vl vu lo hi sl Q I rx hsl pl pu ⟨a,xs,rfl,SqL.of h1,fun p hp=>?_⟩
   refine K1.done (k.shift (ext_alloc hs hp _)) (hs.alloc hp (cut_rel ra)) ⟨p,rfl,?_⟩
   rw [← hs.len,List.getElem?_append_right (Nat.le_refl _),Nat.sub_self] <;> rfl
 | _=>exact k.no.elim
theorem RPs.one_of {K:PySem.W.Frag} {μ:List Addr} {H:Hp} {p:PV} {xs:List V} (h:RPs K μ H [p] xs):∃ v,xs = [v]∧RP K μ H p v:=by
 obtain ⟨v,r,e,h1,h2⟩:=h
 cases (show r = [] from h2)
 exact ⟨v,e,h1⟩
theorem RPs.two_of {K:PySem.W.Frag} {μ:List Addr} {H:Hp} {p q:PV} {xs:List V} (h:RPs K μ H [p,q] xs):∃ v u,xs = [v,u]∧RP K μ H p v∧RP K μ H q u:=by
 obtain ⟨v,r,e,h1,h2⟩:=h
 obtain ⟨u,e',h3⟩:=RPs.one_of h2
 subst e'
 exact ⟨v,u,e,h1,h3⟩
theorem bools_rel {K:PySem.W.Frag} {μ:List Addr} {H:Hp}:∀ {ps:List PV} {xs:List V} {bs:List Bool},RPs K μ H ps xs→bools ps = some bs→xs = bs.map V.bl
 | [],xs,ns,r,e=>by cases (show xs = [] from r); cases e; rfl
 | p :: ps,xs,ns,r,e=>by
  obtain ⟨v,q,rfl,h1,h2⟩:=r
  cases p with
  | bl i =>
   have e:(bools ps).map (i :: ·) = some ns:=e
   cases z:bools ps with
   | none=>rw [z] at e; cases e
   | some ms =>
    rw [z] at e; cases e
    rw [bools_rel h2 z,List.map_cons,show v = .bl i from h1]
  | _=>cases e
theorem Vals.mapInt {ns:List Int}:∀ {us:List Value},Vals (ns.map V.int) us→∀ i:Nat,i < ns.length→∃ t,us[i]? = some (.int (ns.getD i 0) t):=fun {us} r i hi=>by
 obtain ⟨u,e,t,rfl⟩:=r.get (i:=i) (x:=.int (ns.getD i 0)) (by simp [hi])
 exact ⟨t,e⟩
theorem preSum_take (ns:List Int):∀ j,j ≤ ns.length→preSum (fun i=>ns.getD i 0) j = (ns.take j).sum
 | 0,_=>by simp [preSum]
 | j + 1,h=>by
  have hj:j < ns.length:=h
  show preSum _ j + ns.getD j 0 = _
  rw [preSum_take ns j (by omega),List.take_succ_eq_append_getElem hj,List.sum_append]
  simp [List.getD,hj]
theorem sum_le (B:Int) (hB:0 ≤ B):∀ ns:List Int,(∀ n ∈ ns,-B ≤ n∧n ≤ B)→-(B * ns.length) ≤ ns.sum∧ns.sum ≤ B * ns.length
 | [],_=>by simp
 | n :: r,h=>by
  have ih:=sum_le B hB r fun m hm=>h m (List.mem_cons_of_mem _ hm)
  have hn:=h n List.mem_cons_self
  rw [List.sum_cons,List.length_cons]
  have e:B * ((r.length + 1:Nat):Int) = B * (r.length:Int) + B:=by rw [Int.natCast_add,Int.mul_add]; simp
  rw [e]
  omega
theorem call_sum_l (hc:X.calm = true):CallR X (.builtin "sum") (fun xs H Q=>∃ (a:Addr) (ns:List Int),xs = [.ref a]∧SqL X.K H a (ns.map V.int)∧ns.length ≤ big∧(∀ n ∈ ns,-(2 ^ 40) ≤ n∧n ≤ 2 ^ 40)∧Q (.int ns.sum) H):=by
 intro pins s σ H xs us Q I r h
 obtain ⟨a,ns,rfl,hq,hz,hb,q⟩:=h
 obtain ⟨u,rfl,rx⟩:=vals1 r
 cases rx
 obtain ⟨its,r',pl,hz'⟩:=I.list hq
 have hlen:ns.length = its.length:=by have:=r'.length; simpa using this
 have alt:a < s.heap.objs.size:=by obtain ⟨_,e,_⟩:=pl.isList; exact Heap.lt_size e
 have hh:X.A.in1.handled = none:=I.ok.hd hc
 refine call_sum_walk (wpAny_pyIter_list pl.isList ?_)
 refine ⟨s.heap.objs.size,_,_,_,_,_,fun i=>ns.getD i 0,rfl,Walks.list hh s.heap.objs.size a (Nat.ne_of_lt alt) its.toArray,⟨⟨_,Heap.get?_push_size _ rfl,rfl,rfl⟩,pl.isList.at fun o e=>Heap.get?_push_of_some _ e⟩,?_,?_,?_,?_⟩
 ·intro b hb'
  simp at hb'
  rcases hb' with rfl | rfl
  ·show _ < (s.heap.push _).objs.size; rw [Heap.size_push]; exact Nat.lt_succ_self _
  ·show _ < (s.heap.push _).objs.size; rw [Heap.size_push]; exact Nat.lt_succ_of_lt alt
 ·intro i v hv
  have hv:its.toArray[i]? = some v:=hv
  have hi:i < ns.length:=by rw [hlen]; simpa using (Array.getElem?_eq_some_iff.mp hv).1
  obtain ⟨t,e⟩:=Vals.mapInt r' i hi
  refine ⟨t,?_⟩
  have e':its.toArray[i]? = some (.int (ns.getD i 0) t):=by simpa using e
  rw [hv] at e'
  exact Option.some.inj e'
 ·intro j hj
  have hj':j < ns.length:=by rw [hlen]; simpa using hj
  have hm:ns.getD j 0 ∈ ns:=by simp [List.getD,hj']
  refine ⟨?_,?_⟩
  ·have:=hb _ hm
   show -(2 ^ 63) ≤ ns.getD j 0∧ns.getD j 0 < 2 ^ 63
   omega
  ·rw [preSum_take ns (j + 1) hj']
   have b2:=sum_le 1099511627776 (by decide) (ns.take (j + 1)) fun n hn=>by have:=hb n (List.mem_of_mem_take hn); omega
   have l2:(ns.take (j + 1)).length ≤ 100000:=by rw [List.length_take]; unfold big at hz; omega
   unfold InLong; omega
 ·intro h' tk t' hk
  have e:preSum (fun i=>ns.getD i 0) its.toArray.size = ns.sum:=by
   rw [List.size_toArray,← hlen,preSum_take ns _ (Nat.le_refl _),List.take_length]
  rw [e]
  refine ⟨.int ns.sum,H,?_,⟨t',rfl⟩,q⟩
  exact I.kept (t':=tk) fun b o e=>hk b o (by simp; exact Nat.ne_of_lt (Heap.lt_size e)) (Heap.get?_push_of_some _ e)
theorem truth_bl {prog:Program} {w:World} {A:Around} {its:List Value} {bs:List Bool} (r:Vals (bs.map V.bl) its):TruthOf prog w A (fun i v=>its.toArray[i]? = some v) (fun i=>bs.getD i false):=by
 intro i v s Q E hv hq
 have hlen:bs.length = its.length:=by have:=r.length; simpa using this
 have hi:i < bs.length:=by rw [hlen]; simpa using (Array.getElem?_eq_some_iff.mp hv).1
 obtain ⟨u,e,ru⟩:=r.get (i:=i) (x:=.bl (bs.getD i false)) (by simp [hi])
 have e':its.toArray[i]? = some u:=by simpa using e
 rw [hv] at e'
 cases e'
 cases ru
 exact wpAny_pure hq
theorem range_all (bs:List Bool):(List.range bs.length).all (fun i=>bs.getD i false) = bs.all id:=by
 rw [Bool.eq_iff_iff]
 simp only [List.all_eq_true,List.mem_range,id]
 constructor
 ·intro h b hb
  obtain ⟨i,hi,e⟩:=List.mem_iff_getElem.mp hb
  have:=h i hi
  simpa [List.getD,hi,e] using this
 ·intro h i hi
  have:=h bs[i] (List.getElem_mem hi)
  simpa [List.getD,hi] using this
theorem range_any (bs:List Bool):(List.range bs.length).any (fun i=>bs.getD i false) = bs.any id:=by
 rw [Bool.eq_iff_iff]
 simp only [List.any_eq_true,List.mem_range,id]
 constructor
 ·rintro ⟨i,hi,e⟩
  exact ⟨bs[i],List.getElem_mem hi,by simpa [List.getD,hi] using e⟩
 ·rintro ⟨b,hb,e⟩
  obtain ⟨i,hi,e'⟩:=List.mem_iff_getElem.mp hb
  exact ⟨i,hi,by simpa [List.getD,hi,e'] using e⟩
theorem call_all_l (hc:X.calm = true):CallR X (.builtin "all") (fun xs H Q=>∃ (a:Addr) (bs:List Bool),xs = [.ref a]∧SqL X.K H a (bs.map V.bl)∧Q (.bl (bs.all id)) H):=by
 intro pins s σ H xs us Q I r h
 obtain ⟨a,bs,rfl,hq,q⟩:=h
 obtain ⟨u,rfl,rx⟩:=vals1 r
 cases rx
 obtain ⟨its,r',pl,hz'⟩:=I.list hq
 have hlen:bs.length = its.length:=by have:=r'.length; simpa using this
 have alt:a < s.heap.objs.size:=by obtain ⟨_,e,_⟩:=pl.isList; exact Heap.lt_size e
 have hh:X.A.in1.handled = none:=I.ok.hd hc
 refine call_all_walk (wpAny_pyIter_list pl.isList ?_)
 refine ⟨s.heap.objs.size,_,_,_,_,_,fun i=>bs.getD i false,rfl,Walks.list hh s.heap.objs.size a (Nat.ne_of_lt alt) its.toArray,⟨⟨_,Heap.get?_push_size _ rfl,rfl,rfl⟩,pl.isList.at fun o e=>Heap.get?_push_of_some _ e⟩,truth_bl r',?_⟩
 intro h' tk hk
 rw [List.size_toArray,← hlen,range_all]
 exact ⟨.bl _,H,I.kept (t':=tk) fun b o e=>hk b o (by simp; exact Nat.ne_of_lt (Heap.lt_size e)) (Heap.get?_push_of_some _ e),rfl,q⟩
theorem call_any_l (hc:X.calm = true):CallR X (.builtin "any") (fun xs H Q=>∃ (a:Addr) (bs:List Bool),xs = [.ref a]∧SqL X.K H a (bs.map V.bl)∧Q (.bl (bs.any id)) H):=by
 intro pins s σ H xs us Q I r h
 obtain ⟨a,bs,rfl,hq,q⟩:=h
 obtain ⟨u,rfl,rx⟩:=vals1 r
 cases rx
 obtain ⟨its,r',pl,hz'⟩:=I.list hq
 have hlen:bs.length = its.length:=by have:=r'.length; simpa using this
 have alt:a < s.heap.objs.size:=by obtain ⟨_,e,_⟩:=pl.isList; exact Heap.lt_size e
 have hh:X.A.in1.handled = none:=I.ok.hd hc
 refine call_any_walk (wpAny_pyIter_list pl.isList ?_)
 refine ⟨s.heap.objs.size,_,_,_,_,_,fun i=>bs.getD i false,rfl,Walks.list hh s.heap.objs.size a (Nat.ne_of_lt alt) its.toArray,⟨⟨_,Heap.get?_push_size _ rfl,rfl,rfl⟩,pl.isList.at fun o e=>Heap.get?_push_of_some _ e⟩,truth_bl r',?_⟩
 intro h' tk hk
 rw [List.size_toArray,← hlen,range_any]
 exact ⟨.bl _,H,I.kept (t':=tk) fun b o e=>hk b o (by simp; exact Nat.ne_of_lt (Heap.lt_size e)) (Heap.get?_push_of_some _ e),rfl,q⟩
theorem leastI_at (n:Int) (r:List Int):∀ k,k ≤ r.length→(n :: r)[argBest (fun i j=>decide ((n :: r).getD i 0 < (n :: r).getD j 0)) k]? = some (leastI n (r.take k))
 | 0,_=>by simp [argBest,leastI]
 | k + 1,h=>by
  have ih:=leastI_at n r k (by omega)
  have hk:k < r.length:=h
  have e1:(n :: r).getD (argBest (fun i j=>decide ((n :: r).getD i 0 < (n :: r).getD j 0)) k) 0 = leastI n (r.take k):=by rw [List.getD_eq_getElem?_getD,ih]; rfl
  have e2:(n :: r).getD (k + 1) 0 = r[k]:=by simp [List.getD,hk]
  rw [List.take_succ_eq_append_getElem hk,leastI_app]
  simp only [argBest,e1,e2,decide_eq_true_eq]
  split
  ·simp [hk]
  ·exact ih
theorem leastT_at (n:List Int) (r:List (List Int)):∀ k,k ≤ r.length→(n :: r)[argBest (fun i j=>Kw.lexLt ((n :: r).getD i []) ((n :: r).getD j [])) k]? = some (leastT n (r.take k))
 | 0,_=>by simp [argBest,leastT]
 | k + 1,h=>by
  have ih:=leastT_at n r k (by omega)
  have hk:k < r.length:=h
  have e1:(n :: r).getD (argBest (fun i j=>Kw.lexLt ((n :: r).getD i []) ((n :: r).getD j [])) k) [] = leastT n (r.take k):=by rw [List.getD_eq_getElem?_getD,ih]; rfl
  have e2:(n :: r).getD (k + 1) [] = r[k]:=by simp [List.getD,hk]
  rw [List.take_succ_eq_append_getElem hk,leastT_app]
  simp only [argBest,e1,e2]
  split
  ·simp [hk]
  ·exact ih
theorem tupsOf_get:∀ {ps:List PV} {ts:List (List Int)},tupsOf ps = some ts→ts.length = ps.length∧∀ (i:Nat) (p:PV),ps[i]? = some p→∃ xs t,p = .tup xs∧ts[i]? = some t∧intsOf xs = some t
 | [],ts,h=>by cases h; exact ⟨rfl,fun i p e=>by simp at e⟩
 | q :: ps,ts,h=>by
  cases q with
  | tup xs =>
   have h:((intsOf xs).bind fun t=>(tupsOf ps).map (t :: ·)) = some ts:=h
   cases e1:intsOf xs with
   | none=>rw [e1] at h; cases h
   | some t =>
    cases e2:tupsOf ps with
    | none=>rw [e1,e2] at h; cases h
    | some ts' =>
     rw [e1,e2] at h; cases h
     obtain ⟨l1,l2⟩:=tupsOf_get e2
     refine ⟨by rw [List.length_cons,List.length_cons,l1],fun i p e=>?_⟩
     cases i with
     | zero=>simp at e; subst e; exact ⟨xs,t,rfl,rfl,e1⟩
     | succ i=>exact l2 i p (by simpa using e)
  | _=>cases h
theorem call_min_l (hc:X.calm = true) (hu:X.A.units + 64 < cLine) {pins:List (Addr×Obj)} {s:Shared} {σ:L2.St} {H:Hp} {μ:List Addr} {st:Sto} {qs:List PV} {a:Addr} {ys:List V} {m:PV} {Q:VK} (I:Inv X pins σ H s) (hs:RelS X.K μ H st) (hq:SqL X.K H a ys) (ry:RPs X.K μ H qs ys) (e:minL qs = some m)
  (q:∀ v,RP X.K μ H m v→Q v H):wpAny (model X.prog X.w) X.A (PySem.call (.builtin "min") [.ref a]) (EP X pins σ Q) X.xe s:=by
 obtain ⟨its,r',pl,hz'⟩:=I.list hq
 have hh:X.A.in1.handled = none:=I.ok.hd hc
 have hlen:ys.length = its.length:=r'.length
 have e:(match intsOf qs with | some (n :: r)=>some (.int (leastI n r)) | some []=>none | none=>match tupsOf qs with | some (t :: r)=>some (.tup ((leastT t r).map .int)) | _=>none) = some m:=e
 cases e1:intsOf qs with
 | some ns =>
  rw [e1] at e
  have hy:=intsOf_rel ry e1
  subst hy
  cases ns with
  | nil=>cases e
  | cons n r =>
   cases e
   have hl2:its.length = r.length + 1:=by rw [← hlen]; simp
   have it:∀ (i:Nat) (v:Value),its.toArray[i]? = some v→∃ t,v = Value.int ((n :: r).getD i 0) t:=fun i v hv=>by
    have hv:its[i]? = some v:=by simpa using hv
    have hi:=(List.getElem?_eq_some_iff.mp hv).1
    obtain ⟨t,e⟩:=Vals.mapInt r' i (by simp; omega)
    rw [hv] at e
    exact ⟨t,Option.some.inj e⟩
   refine call_least (bt:=fun i j=>decide ((n :: r).getD i 0 < (n :: r).getD j 0)) hh pl.isList (by simp; omega) (fun i j u v s1 Q1 E1 _ hi hj q1=>?_) fun v h' tk hv hk=>?_
   ·obtain ⟨t1,rfl⟩:=it i u hi
    obtain ⟨t2,rfl⟩:=it j v hj
    exact PyProof.Rows.lt_int q1
   ·have hv:its[argBest (fun i j=>decide ((n :: r).getD i 0 < (n :: r).getD j 0)) (its.toArray.size - 1)]? = some v:=by simpa using hv
    have hb:=leastI_at n r r.length (Nat.le_refl _)
    rw [List.take_length] at hb
    have hsz:its.toArray.size - 1 = r.length:=by simp; omega
    rw [hsz] at hv
    generalize argBest (fun i j=>decide ((n :: r).getD i 0 < (n :: r).getD j 0)) r.length = z at hv hb
    obtain ⟨t,rfl⟩:=it z v (by simpa using hv)
    rw [List.getD_eq_getElem?_getD,hb]
    exact ⟨.int (leastI n r),H,I.kept (t':=tk) hk,⟨t,rfl⟩,q _ rfl⟩
 | none =>
  rw [e1] at e
  have e:(match tupsOf qs with | some (t :: r)=>some (.tup ((leastT t r).map .int)) | _=>none) = some m:=e
  cases e2:tupsOf qs with
  | none=>rw [e2] at e; cases e
  | some ts =>
   rw [e2] at e
   cases ts with
   | nil=>cases e
   | cons n r =>
    cases e
    obtain ⟨tl,tg⟩:=tupsOf_get e2
    have hql:=ry.length
    have hl2:its.length = r.length + 1:=by rw [← hlen,← hql,← tl]; simp
    have it:∀ (i:Nat) (v:Value),its.toArray[i]? = some v→∃ (b:Addr) (p:PV) (xs:List PV),v = .ref b∧qs[i]? = some (.tup xs)∧intsOf xs = some ((n :: r).getD i [])∧RP X.K μ H (.tup xs) (.ref b)∧∃ vs,SqT X.K H b vs∧vs = ((n :: r).getD i []).map V.int:=fun i v hv=>by
     have hv:its[i]? = some v:=by simpa using hv
     have hi:=(List.getElem?_eq_some_iff.mp hv).1
     have hi':i < qs.length:=by omega
     obtain ⟨xs,t,e3,e4,e5⟩:=tg i qs[i] (List.getElem?_eq_getElem hi')
     obtain ⟨y,f1,f2⟩:=ry.get (i:=i) (List.getElem?_eq_getElem hi')
     obtain ⟨u,g1,g2⟩:=r'.get f1
     rw [hv] at g1; cases g1
     rw [e3] at f2
     obtain ⟨b,vs,rfl,h1,h2⟩:=id f2
     cases (show v = Value.ref b from g2)
     have et:(n :: r).getD i [] = t:=by rw [List.getD_eq_getElem?_getD,e4]; rfl
     rw [et]
     exact ⟨b,qs[i],xs,rfl,by rw [List.getElem?_eq_getElem hi',e3],e5,f2,vs,SqT.of h1,intsOf_rel h2 e5⟩
    refine call_least (bt:=fun i j=>Kw.lexLt ((n :: r).getD i []) ((n :: r).getD j [])) hh pl.isList (by simp; omega) (fun i j u v s1 Q1 E1 kp hi hj q1=>?_) fun v h' tk hv hk=>?_
    ·obtain ⟨b1,_,xs1,rfl,_,_,_,vs1,s1q,ev1⟩:=it i u hi
     obtain ⟨b2,_,xs2,rfl,_,_,_,vs2,s2q,ev2⟩:=it j v hj
     subst ev1 ev2
     obtain ⟨jt1,rr1,⟨o1,p1,p2⟩,_⟩:=I.tuple s1q
     obtain ⟨jt2,rr2,⟨o2,p3,p4⟩,_⟩:=I.tuple s2q
     exact HT.lt_tupInts (l:=b1) (b:=b2) ⟨o1,kp b1 o1 (Heap.lt_size p1) p1,p2⟩ ⟨o2,kp b2 o2 (Heap.lt_size p3) p3,p4⟩ (intsAre_of rr1) (intsAre_of rr2) (by show X.A.units + 1 < cLine; omega) (by rw [← lex_eq]; exact q1)
    ·have hv:its[argBest (fun i j=>Kw.lexLt ((n :: r).getD i []) ((n :: r).getD j [])) (its.toArray.size - 1)]? = some v:=by simpa using hv
     have hb:=leastT_at n r r.length (Nat.le_refl _)
     rw [List.take_length] at hb
     have hsz:its.toArray.size - 1 = r.length:=by simp; omega
     rw [hsz] at hv
     generalize argBest (fun i j=>Kw.lexLt ((n :: r).getD i []) ((n :: r).getD j [])) r.length = z at hv hb
     obtain ⟨b,_,xs,rfl,_,e5,rp,_⟩:=it z v (by simpa using hv)
     rw [List.getD_eq_getElem?_getD,hb] at e5
     have ex:xs = (leastT n r).map PV.int:=intsOf_map e5
     subst ex
     exact ⟨.ref b,H,I.kept (t':=tk) hk,rfl,q _ rp⟩
noncomputable def bfName:BF→String | .len=>"len" | .abs=>"abs" | .int=>"int" | .sum=>"sum" | .all=>"all" | .any=>"any" | .min=>"min" | .max=>"max" | .tuple=>"tuple" | .list=>"list" | .str=>"str"
noncomputable def bfIsTy:BF→Bool | .int=>true | .tuple=>true | .list=>true | .str=>true | _=>false
noncomputable def bfVal (f:BF):Value:=if bfIsTy f then .type (bfName f) else .builtin (bfName f)
theorem call_bf (hc : X.calm = true) (hu : X.A.units + 64 < cLine) (hg : X.A.guards = some []) (f : BF) : CallR X (bfVal f) (r1 X.K (bfun f)) := by
  intro pins s σ H xs us Q I r h
  obtain ⟨μ, st, ps, hs, rp, k⟩ := h
  have one : ∀ {v : PV} {g : List PV → R PV}, ps = [v] → K1 X.K μ H ((seqOf st v).bind g) Q → ∃ qs a ys, K1 X.K μ H (g qs) Q ∧ xs = [.ref a] ∧ ((SqL X.K H a ys ∧ ∀ zs, v ≠ .tup zs) ∨ (SqT X.K H a ys ∧ v = .tup qs)) ∧ RPs X.K μ H qs ys ∧ RP X.K μ H v (.ref a) := fun {v g} e k' => by
    subst e
    obtain ⟨w, rfl, rw'⟩ := RPs.one_of rp
    cases z : seqOf st v with
    | none => rw [z] at k'; exact k'.no.elim
    | some qs =>
      rw [z] at k'
      cases v with
      | tup zs =>
        cases z
        obtain ⟨a, ys, rfl, h1, h2⟩ := id rw'
        exact ⟨_, a, ys, k', rfl, .inr ⟨SqT.of h1, rfl⟩, h2, rw'⟩
      | ref l =>
        obtain ⟨a, ys, rfl, hq, ry⟩ := listOf_rel hs rw' z
        exact ⟨qs, a, ys, k', rfl, .inl ⟨hq, fun zs => by simp⟩, ry, rw'⟩
      | scr l =>
        obtain ⟨a, ys, rfl, hq, ry⟩ := listOf_rel hs rw' z
        exact ⟨qs, a, ys, k', rfl, .inl ⟨hq, fun zs => by simp⟩, ry, rw'⟩
      | _ => cases z
  have oneL : ∀ {v : PV} {g : List PV → R PV}, ps = [v] → K1 X.K μ H ((listOf st v).bind g) Q → ∃ qs a ys, K1 X.K μ H (g qs) Q ∧ xs = [.ref a] ∧ SqL X.K H a ys ∧ RPs X.K μ H qs ys := fun {v g} e k' => by
    subst e
    obtain ⟨w, rfl, rw'⟩ := RPs.one_of rp
    cases z : listOf st v with
    | none => rw [z] at k'; exact k'.no.elim
    | some qs =>
      rw [z] at k'
      obtain ⟨a, ys, rfl, hq, ry⟩ := listOf_rel hs rw' z
      exact ⟨qs, a, ys, k', rfl, hq, ry⟩
  cases f with
  | len =>
    rcases ps with _ | ⟨v, _ | ⟨v2, ps⟩⟩
    · exact k.no.elim
    · obtain ⟨qs, a, ys, k', rfl, hq, ry, _⟩ := one (g := fun xs => some (.int xs.length, st)) rfl k
      refine call_len_seq pins s σ H _ us Q I r ⟨a, ys, rfl, hq.elim (fun z => .inl z.1) fun z => .inr z.1, ?_⟩
      rw [← ry.length]
      exact K1.done (p := .int _) k' hs rfl
    · exact k.no.elim
  | abs =>
    rcases ps with _ | ⟨v, _ | ⟨v2, ps⟩⟩
    · exact k.no.elim
    · cases v with
      | int i =>
        obtain ⟨w, rfl, rw'⟩ := RPs.one_of rp
        obtain rfl : w = .int i := rw'
        exact call_abs pins s σ H _ us Q I r ⟨i, rfl, K1.done (p := .int _) k hs rfl⟩
      | _ => exact k.no.elim
    · cases v <;> exact k.no.elim
  | int =>
    rcases ps with _ | ⟨v, _ | ⟨v2, ps⟩⟩
    · exact k.no.elim
    · cases v with
      | int i =>
        obtain ⟨w, rfl, rw'⟩ := RPs.one_of rp
        obtain rfl : w = .int i := rw'
        exact call_int1 pins s σ H _ us Q I r (.inl ⟨i, rfl, K1.done (p := .int _) k hs rfl⟩)
      | bl b =>
        obtain ⟨w, rfl, rw'⟩ := RPs.one_of rp
        obtain rfl : w = .bl b := rw'
        exact call_int1 pins s σ H _ us Q I r (.inr ⟨b, rfl, K1.done (p := .int _) k hs rfl⟩)
      | _ => exact k.no.elim
    · cases v <;> exact k.no.elim
  | sum =>
    rcases ps with _ | ⟨v, _ | ⟨v2, ps⟩⟩
    · exact k.no.elim
    · obtain ⟨qs, a, ys, k', rfl, hq, ry⟩ := oneL (g := fun xs => (sumI xs).bind fun n => some (.int n, st)) rfl k
      have k' : K1 X.K μ H (((intsOf qs).bind fun ns => if ns.length ≤ big ∧ ns.all small40 = true then some ns.sum else none).bind fun n => some (.int n, st)) Q := k'
      cases e : intsOf qs with
      | none => rw [e] at k'; exact k'.no.elim
      | some ns =>
        rw [e] at k'
        have k' : K1 X.K μ H ((if ns.length ≤ big ∧ ns.all small40 = true then some ns.sum else none).bind fun n => some (.int n, st)) Q := k'
        by_cases hc' : ns.length ≤ big ∧ ns.all small40 = true
        · rw [if_pos hc'] at k'
          have := intsOf_rel ry e
          subst this
          refine call_sum_l hc pins s σ H _ us Q I r ⟨a, ns, rfl, hq, hc'.1, fun n hn => ?_, K1.done (p := .int _) k' hs rfl⟩
          have := List.all_eq_true.mp hc'.2 n hn
          simpa [small40] using this
        · rw [if_neg hc'] at k'; exact k'.no.elim
    · exact k.no.elim
  | all =>
    rcases ps with _ | ⟨v, _ | ⟨v2, ps⟩⟩
    · exact k.no.elim
    · obtain ⟨qs, a, ys, k', rfl, hq, ry⟩ := oneL (g := fun xs => (bools xs).bind fun bs => some (.bl (bs.all id), st)) rfl k
      cases e : bools qs with
      | none => rw [e] at k'; exact k'.no.elim
      | some bs =>
        rw [e] at k'
        have := bools_rel ry e
        subst this
        exact call_all_l hc pins s σ H _ us Q I r ⟨a, bs, rfl, hq, K1.done (p := .bl _) k' hs rfl⟩
    · exact k.no.elim
  | any =>
    rcases ps with _ | ⟨v, _ | ⟨v2, ps⟩⟩
    · exact k.no.elim
    · obtain ⟨qs, a, ys, k', rfl, hq, ry⟩ := oneL (g := fun xs => (bools xs).bind fun bs => some (.bl (bs.any id), st)) rfl k
      cases e : bools qs with
      | none => rw [e] at k'; exact k'.no.elim
      | some bs =>
        rw [e] at k'
        have := bools_rel ry e
        subst this
        exact call_any_l hc pins s σ H _ us Q I r ⟨a, bs, rfl, hq, K1.done (p := .bl _) k' hs rfl⟩
    · exact k.no.elim
  | min =>
    rcases ps with _ | ⟨v, _ | ⟨v2, _ | ⟨v3, ps⟩⟩⟩
    · exact k.no.elim
    · have k : K1 X.K μ H ((listOf st v).bind fun xs => (minL xs).bind fun m => some (m, st)) Q := by cases v <;> exact k
      obtain ⟨qs, a, ys, k', rfl, hq, ry⟩ := oneL (g := fun xs => (minL xs).bind fun m => some (m, st)) rfl k
      cases e : minL qs with
      | none => rw [e] at k'; exact k'.no.elim
      | some m =>
        rw [e] at k'
        obtain ⟨u, rfl, ru⟩ := vals1 r
        cases (show u = Value.ref a from ru)
        exact call_min_l hc hu I hs hq ry e fun v rv => K1.done k' hs rv
    · cases v <;> cases v2 <;> first
        | exact k.no.elim
        | (rename_i i j
           obtain ⟨w, w', rfl, rw', rw''⟩ := RPs.two_of rp
           obtain rfl : w = .int i := rw'
           obtain rfl : w' = .int j := rw''
           exact call_min2 hc pins s σ H _ us Q I r ⟨i, j, rfl, K1.done (p := .int _) k hs rfl⟩)
    · cases v <;> cases v2 <;> exact k.no.elim
  | max =>
    rcases ps with _ | ⟨v, _ | ⟨v2, _ | ⟨v3, ps⟩⟩⟩
    · exact k.no.elim
    · cases v <;> exact k.no.elim
    · cases v <;> cases v2 <;> first
        | exact k.no.elim
        | (rename_i i j
           obtain ⟨w, w', rfl, rw', rw''⟩ := RPs.two_of rp
           obtain rfl : w = .int i := rw'
           obtain rfl : w' = .int j := rw''
           exact call_max2 hc pins s σ H _ us Q I r ⟨i, j, rfl, K1.done (p := .int _) k hs rfl⟩)
    · cases v <;> cases v2 <;> exact k.no.elim
  | tuple =>
    rcases ps with _ | ⟨v, _ | ⟨v2, ps⟩⟩
    · exact k.no.elim
    · obtain ⟨qs, a, ys, k', rfl, hq, ry, rv⟩ := one (g := fun xs => some (.tup xs, st)) rfl k
      rcases hq with ⟨hq, _⟩ | ⟨hq, rfl⟩
      · refine call_tuple_of pins s σ H _ us Q I r ⟨a, ys, rfl, .inl ⟨hq, fun l hl => ?_⟩⟩
        exact K1.done (Kg.shift (ext_new hs hl _) k') (hs.new hl _) ⟨l, _, rfl, upd_same, ry.mono (ext_new hs hl _)⟩
      · exact call_tuple_of pins s σ H _ us Q I r ⟨a, ys, rfl, .inr ⟨hq, K1.done k' hs rv⟩⟩
    · exact k.no.elim
  | list =>
    rcases ps with _ | ⟨v, _ | ⟨v2, ps⟩⟩
    · exact k.no.elim
    · obtain ⟨qs, a, ys, k', rfl, hq, ry, _⟩ := one (g := fun (xs : List PV) => some (PV.ref st.length, st ++ [PO.lst xs])) rfl k
      refine call_list_of pins s σ H _ us Q I r ⟨a, ys, rfl, hq.elim (fun z => .inl z.1) fun z => .inr z.1, fun l hl => ?_⟩
      refine K1.done (Kg.shift (ext_alloc hs hl _) k') (hs.alloc hl ry) ⟨l, rfl, ?_⟩
      rw [← hs.len, List.getElem?_append_right (Nat.le_refl _), Nat.sub_self] <;> rfl
    · exact k.no.elim
  | str =>
    rcases ps with _ | ⟨v, _ | ⟨v2, ps⟩⟩
    · exact k.no.elim
    · obtain ⟨w, rfl, rw'⟩ := RPs.one_of rp
      obtain ⟨u, rfl, ru⟩ := vals1 r
      have deep : ∀ {a : Addr}, w = .ref a → K1 X.K μ H ((toD st deepest v).bind fun d => if d.fit = true ∧ d.wt ≤ big then some (.shn d, st) else none) Q → wpAny (model X.prog X.w) X.A (PySem.call (.type "str") [u]) (EP X pins σ Q) X.xe s := fun {a} ea k => by
        cases e : toD st deepest v with
        | none => rw [e] at k; exact k.no.elim
        | some d =>
          rw [e] at k
          have k : K1 X.K μ H (if d.fit = true ∧ d.wt ≤ big then some (.shn d, st) else none) Q := k
          split at k
          · rename_i hf
            subst ea
            obtain ⟨as, ra⟩ := reads_of I hs rw' ru e
            cases (show u = Value.ref a from ru)
            have hdp := toD_depth e
            unfold deepest at hdp
            refine str_of_reads (h₀ := s.heap) ra (d_fit d hf.1).1 (fun z => by rw [d_nodict] at z; cases z) hg (by omega) (fun _ _ h => h) (fun h' u' tk hk => ?_) (d_shown hf.1 hf.2)
            exact ⟨.str (dPy d).shown, H, I.kept (t' := tk) hk, ⟨u', rfl⟩, K1.done (p := .shn d) k hs rfl⟩
          · exact k.no.elim
      cases v with
      | int i =>
        have k : K1 X.K μ H (if -(2 ^ 150) < i ∧ i < 2 ^ 150 then some (.str (toString i), st) else none) Q := k
        split at k
        · rename_i hc
          obtain rfl : w = .int i := rw'
          exact call_str_int pins s σ H _ _ Q I r ⟨i, rfl, by have := log2_lt (k := 150) (by decide) hc; omega, K1.done (p := .str _) k hs rfl⟩
        · exact k.no.elim
      | non =>
        cases (show w = _ from rw'); cases (show u = _ from ru)
        exact PySem.P.str_of_none ⟨.str _, H, I.tok _, ⟨_, rfl⟩, K1.done (p := .str "None") k hs rfl⟩
      | bl b =>
        cases (show w = _ from rw'); cases (show u = _ from ru)
        exact PySem.P.str_of_bool ⟨.str (Str.ofString (if b then "True" else "False")), H, I.tok _, ⟨_, by cases b <;> rfl⟩, K1.done (p := .str _) k hs rfl⟩
      | str x =>
        cases (show w = _ from rw'); obtain ⟨t, rfl⟩ := ru
        exact PySem.P.str_of_str ⟨.str _, H, I, ⟨_, rfl⟩, K1.done (p := .str _) k hs rfl⟩
      | tup xs => obtain ⟨a, ys, e, _⟩ := id rw'; exact deep e k
      | ref l => obtain ⟨a, e, _⟩ := id rw'; exact deep e k
      | _ => exact k.no.elim
    · cases v <;> exact k.no.elim
end
end Kw
end
section
set_option Elab.async false
set_option linter.all false
set_option maxRecDepth 100000
set_option maxHeartbeats 4000000
namespace Kw
open PySem PySem.Spec PyProof.Rows L2
section
variable {X:Cx} {call:Nat→List PV→Sto→R PV}
theorem PE.imp {e:Expr} {t u:TE} (h:PE X e t) (f:∀ σ H Q,u σ H Q→t σ H Q):PE X e u:=fun pins s σ H Q I hu=>h pins s σ H Q I (f σ H Q hu)
theorem PT.imp {e:Expr} {t u:TT} (h:PT X e t) (f:∀ σ H Q,u σ H Q→t σ H Q):PT X e u:=fun pins s σ H Q I hu=>h pins s σ H Q I (f σ H Q hu)
theorem PTs.imp {e:List Expr} {t u:TT} (h:PTs X e t) (f:∀ σ H Q,u σ H Q→t σ H Q):PTs X e u:=fun pins s σ H Q I hu=>h pins s σ H Q I (f σ H Q hu)
theorem PW.imp {e:Expr} {t u:TT} (h:PW X e t) (f:∀ σ H Q,u σ H Q→t σ H Q):PW X e u:=fun w pins s σ H Q I hu=>h w pins s σ H Q I (f σ H Q hu)
theorem PA.imp {e:List Expr} {t u:TA} (h:PA X e t) (f:∀ σ H Q,u σ H Q→t σ H Q):PA X e u:=fun p pins s σ H Q I hu=>h p pins s σ H Q I (f σ H Q hu)
theorem PS.imp {e:Stmt} {t u:TS} (h:PS X e t) (f:∀ D σ H,u D σ H→t D σ H):PS X e u:=fun pins s σ H D I hu=>h pins s σ H D I (f D σ H hu)
theorem PSs.imp {e:List Stmt} {t u:TS} (h:PSs X e t) (f:∀ D σ H,u D σ H→t D σ H):PSs X e u:=fun pins s σ H D I hu=>h pins s σ H D I (f D σ H hu)
theorem go1 {K:PySem.W.Frag} {e:E} {σ:L2.St} {H:Hp} {μ:List Addr} {L:Loc} {st:Sto} {p:PV} {st1:Sto} {Q:VK} (hl:RelL K μ H L σ) (hs:RelS K μ H st) (e1:ev call e L st = some (p,st1))
  (q:∀ v H1 μ1,Ext μ H μ1 H1→RelL K μ1 H1 L σ→RelS K μ1 H1 st1→RP K μ1 H1 p v→Q v H1):tE K call e σ H Q :=
 ⟨μ,L,st,hl,hs,p,st1,e1,fun v H1 μ1 x s1 r=>q v H1 μ1 x (hl.mono x) s1 r⟩
theorem goT {K:PySem.W.Frag} {e:E} {σ:L2.St} {H:Hp} {μ:List Addr} {L:Loc} {st:Sto} {p:Bool} {st1:Sto} {Q:Bool→Hp→Prop} (hl:RelL K μ H L σ) (hs:RelS K μ H st) (e1:evT call e L st = some (p,st1))
  (q:∀ H1 μ1,Ext μ H μ1 H1→RelL K μ1 H1 L σ→RelS K μ1 H1 st1→Q p H1):tT K call e σ H Q :=
 ⟨μ,L,st,hl,hs,p,st1,e1,fun v H1 μ1 x s1 r=>r ▸ q H1 μ1 x (hl.mono x) s1⟩
theorem goA {K:PySem.W.Frag} {e:E} {σ:L2.St} {H:Hp} {μ:List Addr} {L:Loc} {st:Sto} {p:List PV} {st1:Sto} {Q:List V→Hp→Prop} (hl:RelL K μ H L σ) (hs:RelS K μ H st) (e1:evs call e L st = some (p,st1))
  (q:∀ v H1 μ1,Ext μ H μ1 H1→RelL K μ1 H1 L σ→RelS K μ1 H1 st1→RPs K μ1 H1 p v→Q v H1):tA K call e σ H Q :=
 ⟨μ,L,st,hl,hs,p,st1,e1,fun v H1 μ1 x s1 r=>q v H1 μ1 x (hl.mono x) s1 r⟩
theorem snd_var {i:Nat} {x:Str} {pos:Pos} (hN:X.N[i]? = some x) (hv:Vis X.env.scope x) (hd:(x == ("__debug__":Str)) = false) (hcd:(x == ("__classdict__":Str)) = false):PE X (.Name x pos) (tE X.K call (.var i)):=by
 refine PE.imp (pe_var hN hv hd hcd) fun σ H Q ⟨μ,L,st,hl,hs,k⟩=>?_
 simp only [evR_var] at k
 split at k
 ·rename_i v e
  obtain ⟨w,h1,h2⟩:=hl.val i v e
  exact ⟨w,h1,K1.done k hs h2⟩
 ·exact k.no.elim
theorem snd_int {i j pos}:PE X (.Constant (.int i) j pos) (tE X.K call (.int i)):=PE.imp pe_int fun σ H Q ⟨μ,L,st,hl,hs,k⟩=>by simp only [evR_int] at k; exact K1.done k hs rfl
theorem snd_bl {i j pos}:PE X (.Constant (.bool i) j pos) (tE X.K call (.bl i)):=PE.imp pe_bl fun σ H Q ⟨μ,L,st,hl,hs,k⟩=>by simp only [evR_bl] at k; exact K1.done k hs rfl
theorem snd_non {j pos}:PE X (.Constant .none j pos) (tE X.K call .non):=PE.imp pe_non fun σ H Q ⟨μ,L,st,hl,hs,k⟩=>by simp only [evR_non] at k; exact K1.done k hs rfl
theorem snd_str {i:String} {j pos}:PE X (.Constant (.str (Str.ofString i)) j pos) (tE X.K call (.str i)):=PE.imp pe_str fun σ H Q ⟨μ,L,st,hl,hs,k⟩=>by simp only [evR_str] at k; exact K1.done k hs rfl
theorem snd_bin {op:BOp} {a b:E} {l r:Expr} {pos:Pos} (ha:PE X l (tE X.K call a)) (hb:PE X r (tE X.K call b)):PE X (.BinOp l (bopOf op) r pos) (tE X.K call (.bin op a b)):=by
 refine PE.imp (pe_op (op_bin op) ha hb) fun σ H Q ⟨μ,L,st,hl,hs,k⟩=>?_
 simp only [evR_bin] at k
 obtain ⟨p,st1,e1,k⟩:=k.split
 refine go1 hl hs e1 fun v H1 μ1 x1 hl s1 r1=>?_
 obtain ⟨q,st2,e2,k⟩:=(k.shift x1).split
 refine go1 hl s1 e2 fun w H2 μ2 x2 hl s2 r2=>?_
 exact ⟨μ2,st2,p,q,s2,r1.mono x2,r2,k.shift x2⟩
theorem snd_cmp (hu:X.A.units + 64 < cLine) {op:COp} {a b:E} {l r:Expr} {pos:Pos} (hm:behindInMarks (copOf op) r = false) (ha:PE X l (tE X.K call a)) (hb:PE X r (tE X.K call b)):PE X (.Compare l [copOf op] [r] pos) (tE X.K call (.cmp op a b)):=by
 refine PE.imp (pe_cmpR (op_cmp hu op) ha hb hm) fun σ H Q ⟨μ,L,st,hl,hs,k⟩=>?_
 simp only [evR_cmp] at k
 obtain ⟨p,st1,e1,k⟩:=k.split
 refine go1 hl hs e1 fun v H1 μ1 x1 hl s1 r1=>?_
 obtain ⟨q,st2,e2,k⟩:=(k.shift x1).split
 refine go1 hl s1 e2 fun w H2 μ2 x2 hl s2 r2=>?_
 exact ⟨μ2,st2,p,q,s2,r1.mono x2,r2,k.shift x2⟩
theorem snd_cmpT (hu:X.A.units + 64 < cLine) {op:COp} {a b:E} {l r:Expr} {pos:Pos} (hm:behindInMarks (copOf op) r = false) (ha:PE X l (tE X.K call a)) (hb:PE X r (tE X.K call b)):PT X (.Compare l [copOf op] [r] pos) (tT X.K call (.cmp op a b)):=by
 refine PT.imp (pt_cmpR (op_cmp hu op) ha hb hm) fun σ H Q ⟨μ,L,st,hl,hs,k⟩=>?_
 have k:KB X.K μ H ((ev call (.cmp op a b) L st).bind fun x=>(Kw.truthy x.2 x.1).bind fun r=>some (r,x.2)) Q:=by simpa only [evTR_cmp] using k
 simp only [evR_cmp] at k
 obtain ⟨z,stz,e0,k⟩:=k.split
 cases e1:ev call a L st with
 | none=>rw [e1] at e0; cases e0
 | some xs =>
  obtain ⟨p,st1⟩:=xs
  rw [e1] at e0
  have e0:((ev call b L st1).bind fun x=>(cmpop op p x.1 x.2).bind fun r=>some (PV.bl r,x.2)) = some (z,stz):=e0
  cases e2:ev call b L st1 with
  | none=>rw [e2] at e0; cases e0
  | some ys =>
   obtain ⟨q,st2⟩:=ys
   rw [e2] at e0
   have e0:((cmpop op p q st2).bind fun r=>some (PV.bl r,st2)) = some (z,stz):=e0
   cases e3:cmpop op p q st2 with
   | none=>rw [e3] at e0; cases e0
   | some b' =>
    rw [e3] at e0
    cases e0
    refine go1 hl hs e1 fun v H1 μ1 x1 hl s1 r1=>?_
    refine go1 hl s1 e2 fun w H2 μ2 x2 hl s2 r2=>?_
    refine ⟨μ2,stz,p,q,s2,r1.mono x2,r2,.bl b',stz,by show ((cmpop op p q stz).bind fun r=>some (PV.bl r,stz)) = _; rw [e3]; rfl,fun v H' μ' x' s' r'=>⟨b',r',?_⟩⟩
    obtain ⟨_,_,e4,k⟩:=k
    cases e4
    exact k b' H' μ' (x1.trans (x2.trans x')) s' rfl
theorem snd_isN {k:Bool} {a:E} {l:Expr} {j pos pos'} (ha:PE X l (tE X.K call a)):PE X (.Compare l [if k then .IsNot else .Is] [.Constant .none j pos'] pos) (tE X.K call (.is k a .non)):=by
 have rp:∀ {μ:List Addr} {H:Hp} {p:PV} {v:V},RP X.K μ H p v→decide (v = .non) = decide (p = .non):=fun {μ H p v} r=>by
  cases p <;> first
   | (cases (show v = _ from r); simp)
   | (obtain ⟨a,_,rfl,_⟩:=r; simp)
   | (obtain ⟨a,rfl,_⟩:=r; simp)
 cases k with
 | true =>
  refine PE.imp (pe_cmp (pc_notN ha)) fun σ H Q ⟨μ,L,st,hl,hs,k⟩=>?_
  simp only [evR_non,evR_is] at k
  obtain ⟨p,st1,e1,k⟩:=k.split
  refine go1 hl hs e1 fun v H1 μ1 x1 hl s1 r1=>?_
  rw [rp r1]
  exact K1.done (p:=.bl _) (by simpa using k.shift x1) s1 rfl
 | false =>
  refine PE.imp (pe_cmp (pc_isN ha)) fun σ H Q ⟨μ,L,st,hl,hs,k⟩=>?_
  simp only [evR_bl,evR_non,evR_is] at k
  obtain ⟨p,st1,e1,k⟩:=k.split
  refine go1 hl hs e1 fun v H1 μ1 x1 hl s1 r1=>?_
  rw [rp r1]
  exact K1.done (p:=.bl _) (by simpa using k.shift x1) s1 rfl
theorem tru_rel {K:PySem.W.Frag} {μ:List Addr} {H:Hp} {st:Sto} {p:PV} {v:V} {b:Bool} (hs:RelS K μ H st) (r:RP K μ H p v) (e:Kw.truthy st p = some b):TruV K v H b:=by
 cases p with
 | non=>cases (show v = _ from r); cases e; exact rfl
 | bl c=>cases (show v = _ from r); cases e; exact rfl
 | int c=>cases (show v = _ from r); cases e; exact rfl
 | str c=>cases e
 | shn c=>cases e
 | tup ps =>
  obtain ⟨a,xs,rfl,h1,h2⟩:=r
  cases e
  refine .inr (.inl ⟨xs,SqT.of h1,?_⟩)
  cases ps <;> cases xs <;> first | rfl | (have:=h2.length; simp at this)
 | ref l =>
  have e:(listOf st (.ref l)).map (fun xs=>!xs.isEmpty) = some b:=e
  cases z:listOf st (.ref l) with
  | none=>rw [z] at e; cases e
  | some ps =>
   rw [z] at e; cases e
   obtain ⟨a,xs,rfl,h1,h2⟩:=listOf_rel hs r z
   refine .inl ⟨xs,h1,?_⟩
   cases ps <;> cases xs <;> first | rfl | (have:=h2.length; simp at this)
 | scr ns =>
  cases e
  obtain ⟨a,rfl,h1,_⟩:=r
  refine .inl ⟨_,h1,?_⟩
  cases ns <;> rfl
noncomputable def plainT:Expr→Bool
 | .UnaryOp .Not _ _=>false
 | .BoolOp ..=>false
 | .IfExp ..=>false
 | .Compare ..=>false
 | _=>true
noncomputable def plainTE:E→Bool
 | .not _=>false | .and _ _=>false | .or _ _=>false | .ite _ _ _=>false
 | _=>true
theorem plain_isTrue {e:Expr} {env:Env} (h:plainT e = true):∀ whole,isTrue e env whole = (do let v ← whole; standAt e.pos; holding [v] (PySem.truthy v)):=by
 intro whole
 cases e <;> first | rfl | (cases h; done) | (rename_i op x pos; cases op <;> first | rfl | (cases h; done))
theorem evT_plain {e:E} (h:plainTE e = true) (L:Loc) (st:Sto):evT call e L st = (ev call e L st).bind fun x=>(Kw.truthy x.2 x.1).bind fun r=>some (r,x.2):=by
 cases e <;> first | (cases h; done) | rfl
theorem snd_plainT {e:E} {x:Expr} (h1:plainTE e = true) (h2:plainT x = true) (h:PE X x (tE X.K call e)):PT X x (tT X.K call e):=by
 refine PT.imp (pt_truth h (plain_isTrue h2)) fun σ H Q ⟨μ,L,st,hl,hs,k⟩=>?_
 rw [evT_plain h1] at k
 obtain ⟨p,st1,e1,k⟩:=k.split
 refine go1 hl hs e1 fun v H1 μ1 x1 hl s1 r1=>?_
 have k:=k.shift x1
 cases e:Kw.truthy st1 p with
 | none=>rw [e] at k; exact k.no.elim
 | some b =>
  rw [e] at k
  refine ⟨b,tru_rel s1 r1 e,?_⟩
  obtain ⟨_,_,e',k⟩:=k
  cases e'
  exact k b H1 μ1 (Ext.refl _ _) s1 rfl
theorem snd_notT {a:E} {x:Expr} {pos:Pos} (h:PT X x (tT X.K call a)):PT X (.UnaryOp .Not x pos) (tT X.K call (.not a)):=by
 refine PT.imp (pt_not h) fun σ H Q ⟨μ,L,st,hl,hs,k⟩=>?_
 simp only [evTR_not] at k
 obtain ⟨p,st1,e1,k⟩:=k.split
 refine goT hl hs e1 fun H1 μ1 x1 hl s1=>?_
 obtain ⟨_,_,e',k⟩:=k.shift x1
 cases e'
 exact k _ H1 μ1 (Ext.refl _ _) s1 rfl
theorem snd_and1T {a:E} {x:Expr} {op:BoolOp} {pos:Pos} (h:PT X x (tT X.K call a)):PW X (.BoolOp op [x] pos) (tT X.K call a):=by
 cases op
 ·exact pw_and1 h
 ·exact pw_or1 h
theorem snd_andT {a b:E} {x y:Expr} {r:List Expr} {pos:Pos} (h:PT X x (tT X.K call a)) (h2:PW X (.BoolOp .And (y :: r) pos) (tT X.K call b)):PW X (.BoolOp .And (x :: y :: r) pos) (tT X.K call (.and a b)):=by
 refine PW.imp (pw_and h h2) fun σ H Q ⟨μ,L,st,hl,hs,k⟩=>?_
 simp only [evTR_and] at k
 obtain ⟨p,st1,e1,k⟩:=k.split
 refine goT hl hs e1 fun H1 μ1 x1 hl s1=>?_
 have k:=k.shift x1
 cases p with
 | true=>exact ⟨μ1,L,st1,hl,s1,by simpa using k⟩
 | false =>
  obtain ⟨_,_,e',k⟩:=k
  simp at e'
  obtain ⟨rfl,rfl⟩:=e'
  exact k _ H1 μ1 (Ext.refl _ _) s1 rfl
theorem snd_orT {a b:E} {x y:Expr} {r:List Expr} {pos:Pos} (h:PT X x (tT X.K call a)) (h2:PW X (.BoolOp .Or (y :: r) pos) (tT X.K call b)):PW X (.BoolOp .Or (x :: y :: r) pos) (tT X.K call (.or a b)):=by
 refine PW.imp (pw_or h h2) fun σ H Q ⟨μ,L,st,hl,hs,k⟩=>?_
 simp only [evTR_or] at k
 obtain ⟨p,st1,e1,k⟩:=k.split
 refine goT hl hs e1 fun H1 μ1 x1 hl s1=>?_
 have k:=k.shift x1
 cases p with
 | false=>exact ⟨μ1,L,st1,hl,s1,by simpa using k⟩
 | true =>
  obtain ⟨_,_,e',k⟩:=k
  simp at e'
  obtain ⟨rfl,rfl⟩:=e'
  exact k _ H1 μ1 (Ext.refl _ _) s1 rfl
theorem snd_not {a:E} {x:Expr} {pos:Pos} (hx:PE X x (tE X.K call a)):PE X (.UnaryOp .Not x pos) (tE X.K call (.not a)):=by
 refine PE.imp (pe_not hx) fun σ H Q ⟨μ,L,st,hl,hs,k⟩=>?_
 simp only [evR_not] at k
 obtain ⟨p,st1,e1,k⟩:=k.split
 refine go1 hl hs e1 fun v H1 μ1 x1 hl s1 r1=>?_
 have k:=k.shift x1
 cases p with
 | bl b=>exact ⟨b,r1,K1.done (p:=.bl _) k s1 rfl⟩
 | _=>exact k.no.elim
theorem pe_andV {a b:Expr} {rest:List Expr} {pos:Pos} {ta tb:TE} (ha:PE X a ta) (hb:PE X (.BoolOp .And (b :: rest) pos) tb) :
  PE X (.BoolOp .And (a :: b :: rest) pos) (fun σ H Q=>ta σ H fun x H1=>∃ c,TruV X.K x H1 c∧(if c = true then tb σ H1 Q else Q x H1)):=by
 intro pins s σ H Q I h
 refine BoolOp_and (thn (ha pins s σ H _ I h) fun v s1 ⟨x,H1,I1,r1,c,tv,q1⟩=>?_)
 refine thn (tru_ok pins s1 σ H1 x v (fun c' H'=>c' = c∧H' = H1) I1 r1 ⟨c,tv,rfl,rfl⟩) fun b s2 ⟨H2,I2,e1,e2⟩=>?_
 subst e1 e2
 cases b with
 | true=>exact hb pins s2 σ H2 Q I2 (by simpa using q1)
 | false=>exact ⟨x,H2,I2,r1,by simpa using q1⟩
theorem pe_orV {a b:Expr} {rest:List Expr} {pos:Pos} {ta tb:TE} (ha:PE X a ta) (hb:PE X (.BoolOp .Or (b :: rest) pos) tb) :
  PE X (.BoolOp .Or (a :: b :: rest) pos) (fun σ H Q=>ta σ H fun x H1=>∃ c,TruV X.K x H1 c∧(if c = true then Q x H1 else tb σ H1 Q)):=by
 intro pins s σ H Q I h
 refine BoolOp_or (thn (ha pins s σ H _ I h) fun v s1 ⟨x,H1,I1,r1,c,tv,q1⟩=>?_)
 refine thn (tru_ok pins s1 σ H1 x v (fun c' H'=>c' = c∧H' = H1) I1 r1 ⟨c,tv,rfl,rfl⟩) fun b s2 ⟨H2,I2,e1,e2⟩=>?_
 subst e1 e2
 cases b with
 | false=>exact hb pins s2 σ H2 Q I2 (by simpa using q1)
 | true=>exact ⟨x,H2,I2,r1,by simpa using q1⟩
theorem snd_and {a b:E} {x y:Expr} {r:List Expr} {pos:Pos} (h:PE X x (tE X.K call a)) (h2:PE X (.BoolOp .And (y :: r) pos) (tE X.K call b)):PE X (.BoolOp .And (x :: y :: r) pos) (tE X.K call (.and a b)):=by
 refine PE.imp (pe_andV h h2) fun σ H Q ⟨μ,L,st,hl,hs,k⟩=>?_
 simp only [evR_and] at k
 obtain ⟨p,st1,e1,k⟩:=k.split
 refine go1 hl hs e1 fun v H1 μ1 x1 hl s1 r1=>?_
 have k:=k.shift x1
 cases e:Kw.truthy st1 p with
 | none=>rw [e] at k; exact k.no.elim
 | some c =>
  rw [e] at k
  refine ⟨c,tru_rel s1 r1 e,?_⟩
  cases c with
  | true=>exact ⟨μ1,L,st1,hl,s1,by simpa using k⟩
  | false=>exact K1.done (p:=p) (by simpa using k) s1 r1
theorem snd_or {a b:E} {x y:Expr} {r:List Expr} {pos:Pos} (h:PE X x (tE X.K call a)) (h2:PE X (.BoolOp .Or (y :: r) pos) (tE X.K call b)):PE X (.BoolOp .Or (x :: y :: r) pos) (tE X.K call (.or a b)):=by
 refine PE.imp (pe_orV h h2) fun σ H Q ⟨μ,L,st,hl,hs,k⟩=>?_
 simp only [evR_or] at k
 obtain ⟨p,st1,e1,k⟩:=k.split
 refine go1 hl hs e1 fun v H1 μ1 x1 hl s1 r1=>?_
 have k:=k.shift x1
 cases e:Kw.truthy st1 p with
 | none=>rw [e] at k; exact k.no.elim
 | some c =>
  rw [e] at k
  refine ⟨c,tru_rel s1 r1 e,?_⟩
  cases c with
  | false=>exact ⟨μ1,L,st1,hl,s1,by simpa using k⟩
  | true=>exact K1.done (p:=p) (by simpa using k) s1 r1
theorem snd_ite {c a b:E} {x y z:Expr} {pos:Pos} (hc:PT X x (tT X.K call c)) (ha:PE X y (tE X.K call a)) (hb:PE X z (tE X.K call b)):PE X (.IfExp x y z pos) (tE X.K call (.ite c a b)):=by
 refine PE.imp (pe_ifExp hc ha hb) fun σ H Q ⟨μ,L,st,hl,hs,k⟩=>?_
 simp only [evR_ite] at k
 obtain ⟨p,st1,e1,k⟩:=k.split
 refine goT hl hs e1 fun H1 μ1 x1 hl s1=>?_
 have k:=k.shift x1
 cases p with
 | true=>exact ⟨μ1,L,st1,hl,s1,by simpa using k⟩
 | false=>exact ⟨μ1,L,st1,hl,s1,by simpa using k⟩
theorem snd_nil:PA X [] (tA X.K call .nil):=PA.imp pa_nil fun σ H Q ⟨μ,L,st,hl,hs,k⟩=>by
 simp only [evsR_nil] at k
 obtain ⟨_,_,e',k⟩:=k
 cases e'
 exact k [] H μ (Ext.refl _ _) hs rfl
theorem snd_cons {e es:E} {x:Expr} {xs:List Expr} (hs0:starEach (x :: xs) X.env = (false,eval x X.env) :: starEach xs X.env) (h:PE X x (tE X.K call e)) (h2:PA X xs (tA X.K call es)):PA X (x :: xs) (tA X.K call (.cons e es)):=by
 refine PA.imp (pa_cons h h2 hs0) fun σ H Q ⟨μ,L,st,hl,hs,k⟩=>?_
 simp only [evsR_cons] at k
 obtain ⟨p,st1,e1,k⟩:=k.split
 refine go1 hl hs e1 fun v H1 μ1 x1 hl s1 r1=>?_
 obtain ⟨ps,st2,e2,k⟩:=(k.shift x1).split
 refine goA hl s1 e2 fun vs H2 μ2 x2 hl s2 r2=>?_
 obtain ⟨_,_,e',k⟩:=k.shift x2
 cases e'
 exact k (v :: vs) H2 μ2 (Ext.refl _ _) s2 ⟨v,vs,rfl,r1.mono x2,r2⟩
theorem snd_tup {es:E} {xs:List Expr} {n:Nat} {pos:Pos} (h:PA X xs (tA X.K call es)):PE X (.Tuple xs n pos) (tE X.K call (.tup es)):=by
 refine PE.imp (pe_tup h) fun σ H Q ⟨μ,L,st,hl,hs,k⟩=>?_
 simp only [evR_tup] at k
 obtain ⟨ps,st1,e1,k⟩:=k.split
 refine goA hl hs e1 fun vs H1 μ1 x1 hl s1 r1=>?_
 have k:=k.shift x1
 have hb:=big_line
 by_cases hc:ps.length ≤ big
 ·have k:K1 X.K μ1 H1 (some (.tup ps,st1)) Q:=by simpa [hc] using k
  exact ⟨by rw [← r1.length]; omega,fun p hp=>K1.done (k.shift (ext_new s1 hp _)) (s1.new hp _) ⟨p,vs,rfl,upd_same,r1.mono (ext_new s1 hp _)⟩⟩
 ·have k:K1 X.K μ1 H1 none Q:=by simpa [hc] using k
  exact k.no.elim
theorem snd_lst {es:E} {xs:List Expr} {pos:Pos} (h:PA X xs (tA X.K call es)):PE X (.List xs pos) (tE X.K call (.lst es)):=by
 refine PE.imp (pe_lst h) fun σ H Q ⟨μ,L,st,hl,hs,k⟩=>?_
 simp only [evR_lst] at k
 obtain ⟨ps,st1,e1,k⟩:=k.split
 refine goA hl hs e1 fun vs H1 μ1 x1 hl s1 r1=>?_
 have k:=k.shift x1
 have hb:=big_line
 by_cases hc:ps.length ≤ big
 ·have k:K1 X.K μ1 H1 (some (.ref st1.length,st1 ++ [.lst ps])) Q:=by simpa [hc,alloc] using k
  refine ⟨by rw [← r1.length]; omega,fun p hp=>K1.done (k.shift (ext_alloc s1 hp _)) (s1.alloc hp r1) ⟨p,rfl,?_⟩⟩
  rw [← s1.len,List.getElem?_append_right (Nat.le_refl _),Nat.sub_self] <;> rfl
 ·have k:K1 X.K μ1 H1 none Q:=by simpa [hc,alloc] using k
  exact k.no.elim
theorem snd_ix {a i:E} {x y:Expr} {pos:Pos} (hp:PlainIx y) (ha:PE X x (tE X.K call a)) (hi:PE X y (tE X.K call i)):PE X (.Subscript x y pos) (tE X.K call (.ix a i)):=by
 refine PE.imp (pe_ix ix_any ha hi hp) fun σ H Q ⟨μ,L,st,hl,hs,k⟩=>?_
 simp only [evR_ix] at k
 obtain ⟨p,st1,e1,k⟩:=k.split
 refine go1 hl hs e1 fun v H1 μ1 x1 hl s1 r1=>?_
 obtain ⟨q,st2,e2,k⟩:=(k.shift x1).split
 refine go1 hl s1 e2 fun w H2 μ2 x2 hl s2 r2=>?_
 refine ⟨μ2,st2,p,q,s2,r1.mono x2,r2,?_⟩
 have k:=k.shift x2
 cases q <;> exact k
theorem snd_neg {a:E} {x:Expr} {pos:Pos} (h:PE X x (tE X.K call a)):PE X (.UnaryOp .USub x pos) (tE X.K call (.neg a)):=by
 refine PE.imp (pe_un un_neg h) fun σ H Q ⟨μ,L,st,hl,hs,k⟩=>?_
 simp only [evR_neg] at k
 obtain ⟨p,st1,e1,k⟩:=k.split
 refine go1 hl hs e1 fun v H1 μ1 x1 hl s1 r1=>?_
 have k:=k.shift x1
 cases p with
 | int i=>exact ⟨i,r1,K1.done (p:=.int _) k s1 rfl⟩
 | _=>exact k.no.elim
theorem snd_call {CX:CXT} {n:Nat} {f:Nat} {fa:Addr} {fd:FuncData} {ps:List Str} {x:Str} {p pos:Pos} {e:Expr} {es:List Expr} {as:E} (F:FnOk X.prog X.w X.K X.mg X.base CX n fa fd ps (spF X.K call f)) (hr:Room n X.A) (hg:Gl X x) (hm:X.mg x = some (.ref fa))
  (hk:PySem.W.keepIn X.K (.ref fa) = true) (hb:Binds X.K fd ps []) {E':XK} (hx:Passes CX X E') (ha:PA X (e :: es) (tA X.K call as)) (hdb:(x == ("__debug__":Str)) = false) (he:starEach (e :: es) X.env = (false,eval e X.env) :: starEach es X.env)
  (hpl:(backTo pos (starEach es X.env)).any (·.1) = false):PE X (.Call (.Name x p) (e :: es) [] pos) (tE X.K call (.call f as)):=by
 refine PE.imp (pe_call F hr hg hm hk hb .nil hx ha hdb he hpl) fun σ H Q ⟨μ,L,st,hl,hs,k⟩=>?_
 simp only [evR_call] at k
 obtain ⟨ps,st1,e1,k⟩:=k.split
 refine goA hl hs e1 fun vs H1 μ1 x1 hl s1 r1=>?_
 exact ⟨μ1,st1,ps,s1,by simpa using r1,k.shift x1⟩
theorem snd_blt (hc:X.calm = true) (hu:X.A.units + 64 < cLine) (hgd:X.A.guards = some []) {f:BF} {x:Str} {p pos:Pos} {e:Expr} {es:List Expr} {as:E} (hx:x = Str.ofString (bfName f)) (hg:Gl X x) (hm:X.mg x = none) (ha:PA X (e :: es) (tA X.K call as))
  (he:starEach (e :: es) X.env = (false,eval e X.env) :: starEach es X.env) (hpl:(backTo pos (starEach es X.env)).any (·.1) = false):PE X (.Call (.Name x p) (e :: es) [] pos) (tE X.K call (.blt f as)):=by
 subst hx
 have fin:∀ σ H Q,tE X.K call (.blt f as) σ H Q→tCB (r1 X.K (bfun f)) (tA X.K call as) σ H Q:=fun σ H Q ⟨μ,L,st,hl,hs,k⟩=>by
  simp only [evR_blt] at k
  obtain ⟨ps,st1,e1,k⟩:=k.split
  refine goA hl hs e1 fun vs H1 μ1 x1 hl s1 r1=>?_
  exact ⟨μ1,st1,ps,s1,r1,k.shift x1⟩
 have c:=call_bf hc hu hgd f
 cases f with
 | len=>exact PE.imp (pe_callB c hg hm (by decide +kernel) ha (by decide +kernel) (by decide +kernel) he hpl) fin
 | abs=>exact PE.imp (pe_callB c hg hm (by decide +kernel) ha (by decide +kernel) (by decide +kernel) he hpl) fin
 | sum=>exact PE.imp (pe_callB c hg hm (by decide +kernel) ha (by decide +kernel) (by decide +kernel) he hpl) fin
 | all=>exact PE.imp (pe_callB c hg hm (by decide +kernel) ha (by decide +kernel) (by decide +kernel) he hpl) fin
 | any=>exact PE.imp (pe_callB c hg hm (by decide +kernel) ha (by decide +kernel) (by decide +kernel) he hpl) fin
 | min=>exact PE.imp (pe_callB c hg hm (by decide +kernel) ha (by decide +kernel) (by decide +kernel) he hpl) fin
 | max=>exact PE.imp (pe_callB c hg hm (by decide +kernel) ha (by decide +kernel) (by decide +kernel) he hpl) fin
 | int=>exact PE.imp (pe_callTy c hg hm (by decide +kernel) ha (by decide +kernel) (by decide +kernel) he hpl) fin
 | tuple=>exact PE.imp (pe_callTy c hg hm (by decide +kernel) ha (by decide +kernel) (by decide +kernel) he hpl) fin
 | list=>exact PE.imp (pe_callTy c hg hm (by decide +kernel) ha (by decide +kernel) (by decide +kernel) he hpl) fin
 | str=>exact PE.imp (pe_callTy c hg hm (by decide +kernel) ha (by decide +kernel) (by decide +kernel) he hpl) fin
theorem po_imp {e:Option Expr} {t u:TO} (h:L2.PO X e t) (f:∀ σ H Q,u σ H Q→t σ H Q):L2.PO X e u:=fun pins s σ H Q I hu=>h pins s σ H Q I (f σ H Q hu)
theorem snd_po0:L2.PO X none (tO X.K call .none):=po_imp po_none fun σ H Q ⟨μ,L,st,hl,hs,k⟩=>by
 simp only [evOR_none] at k
 obtain ⟨_,_,e',k⟩:=k
 cases e'
 exact k none H μ (Ext.refl _ _) hs rfl
noncomputable def isNo:E→Bool
 | .none=>true
 | _=>false
theorem evO_of {e:E} (h:isNo e = false) (L:Loc) (st:Sto):evO call e L st = (ev call e L st).bind fun x=>match x.1 with
  | .int i=>some (some i,x.2)
  | _=>none:=by
 cases e <;> first | (cases h; done) | rfl
theorem snd_po1 {e:E} {x:Expr} (hn:isNo e = false) (h:PE X x (tE X.K call e)):L2.PO X (some x) (tO X.K call e):=by
 refine po_imp (po_some h) fun σ H Q ⟨μ,L,st,hl,hs,k⟩=>?_
 rw [evO_of hn] at k
 obtain ⟨p,st1,e1,k⟩:=k.split
 refine go1 hl hs e1 fun v H1 μ1 x1 hl s1 r1=>?_
 have k:=k.shift x1
 cases p with
 | int i =>
  obtain ⟨_,_,e',k⟩:=k
  cases e'
  exact ⟨i,r1,k _ H1 μ1 (Ext.refl _ _) s1 rfl⟩
 | _=>exact k.no.elim
theorem snd_sl {a lo hi:E} {x:Expr} {l h:Option Expr} {p2 pos:Pos} (ha:PE X x (tE X.K call a)) (hl0:L2.PO X l (tO X.K call lo)) (hh:L2.PO X h (tO X.K call hi)):PE X (.Subscript x (.Slice l h none p2) pos) (tE X.K call (.sl a lo hi)):=by
 refine PE.imp (pe_slice sl_any ha hl0 hh) fun σ H Q ⟨μ,L,st,hl,hs,k⟩=>?_
 simp only [evR_sl] at k
 obtain ⟨p,st1,e1,k⟩:=k.split
 refine go1 hl hs e1 fun v H1 μ1 x1 hl s1 r1=>?_
 obtain ⟨o1,st2,e2,k⟩:=(k.shift x1).split
 refine ⟨μ1,L,st1,hl,s1,o1,st2,e2,fun w H2 μ2 x2 s2 ew=>?_⟩
 subst ew
 obtain ⟨o2,st3,e3,k⟩:=(k.shift x2).split
 refine ⟨μ2,L,st2,hl.mono x2,s2,o2,st3,e3,fun w2 H3 μ3 x3 s3 ew2=>?_⟩
 subst ew2
 exact ⟨μ3,st3,p,s3,(r1.mono x2).mono x3,k.shift x3⟩
theorem RPs.reverse {K:PySem.W.Frag} {μ:List Addr} {H:Hp}:∀ {ps:List PV} {xs:List V},RPs K μ H ps xs→RPs K μ H ps.reverse xs.reverse
 | [],xs,h=>by cases (show xs = [] from h); exact h
 | p :: ps,xs,h=>by
  obtain ⟨v,r,rfl,h1,h2⟩:=h
  rw [List.reverse_cons,List.reverse_cons]
  exact (RPs.reverse h2).append (RPs.one h1)
theorem snd_turn {a:E} {x:Expr} {p2 pos p3 p4:Pos} {j} (ha:PE X x (tE X.K call a)):PE X (.Subscript x (.Slice none none (some (.UnaryOp .USub (.Constant (.int 1) j p3) p4)) p2) pos) (tE X.K call (.turn a)):=by
 refine PE.imp (pe_turned ha (snd_neg (a:=.int 1) (call:=call) snd_int)) fun σ H Q ⟨μ,L,st,hl,hs,k⟩=>?_
 simp only [evR_int,evR_turn] at k
 obtain ⟨p,st1,e1,k⟩:=k.split
 refine go1 hl hs e1 fun v H1 μ1 x1 hl s1 r1=>?_
 refine ⟨μ1,L,st1,hl,s1,.int (-1),st1,rfl,fun w H2 μ2 x2 s2 ew=>?_⟩
 have k:=(k.shift x1).shift x2
 have r2:=r1.mono x2
 cases p with
 | tup ps =>
  obtain ⟨t,xs,rfl,ht,rt⟩:=r2
  refine ⟨ew,t,xs,rfl,SqT.of ht,fun p hp=>?_⟩
  exact K1.done (k.shift (ext_new s2 hp _)) (s2.new hp _) ⟨p,_,rfl,upd_same,(RPs.reverse rt).mono (ext_new s2 hp _)⟩
 | _=>exact k.no.elim
theorem rp_bl {K:PySem.W.Frag} {b:Bool} {μ:List Addr} {H:Hp} {p:PV} {v:V} (r:RP K μ H p v):decide (v = .bl b) = decide (p = .bl b):=by
 cases p <;> first
  | (cases (show v = _ from r); simp)
  | (obtain ⟨a,_,rfl,_⟩:=r; simp)
  | (obtain ⟨a,rfl,_⟩:=r; simp)
theorem snd_isB {k b:Bool} {a:E} {l:Expr} {j pos pos'} (ha:PE X l (tE X.K call a)):PE X (.Compare l [if k then .IsNot else .Is] [.Constant (.bool b) j pos'] pos) (tE X.K call (.is k a (.bl b))):=by
 cases k with
 | true =>
  refine PE.imp (pe_cmp (pc_notB ha)) fun σ H Q ⟨μ,L,st,hl,hs,k⟩=>?_
  simp only [evR_bl,evR_is] at k
  obtain ⟨p,st1,e1,k⟩:=k.split
  refine go1 hl hs e1 fun v H1 μ1 x1 hl s1 r1=>?_
  rw [rp_bl r1]
  exact K1.done (p:=.bl _) (by simpa using k.shift x1) s1 rfl
 | false =>
  refine PE.imp (pe_cmp (pc_isB ha)) fun σ H Q ⟨μ,L,st,hl,hs,k⟩=>?_
  simp only [evR_bl,evR_is] at k
  obtain ⟨p,st1,e1,k⟩:=k.split
  refine go1 hl hs e1 fun v H1 μ1 x1 hl s1 r1=>?_
  rw [rp_bl r1]
  exact K1.done (p:=.bl _) (by simpa using k.shift x1) s1 rfl
theorem snd_chain (hu:X.A.units + 64 < cLine) {o p:COp} {a b c:E} {x y z:Expr} {pos:Pos} (hm:lastMarks [copOf o,copOf p] [y,z] = false) (ha:PE X x (tE X.K call a)) (hb:PE X y (tE X.K call b)) (hc:PE X z (tE X.K call c)) :
  PE X (.Compare x [copOf o,copOf p] [y,z] pos) (tE X.K call (.chain o p a b c))∧PT X (.Compare x [copOf o,copOf p] [y,z] pos) (tT X.K call (.chain o p a b c)):=by
 have fin:∀ σ H Q,tE X.K call (.chain o p a b c) σ H Q→tChain (r2b X.K (cmpop o)) (r2b X.K (cmpop p)) (tE X.K call a) (tE X.K call b) (tE X.K call c) σ H Q:=fun σ H Q ⟨μ,L,st,hl,hs,k⟩=>by
  simp only [evR_chain] at k
  obtain ⟨q1,st1,e1,k⟩:=k.split
  refine go1 hl hs e1 fun v H1 μ1 x1 hl s1 r1=>?_
  obtain ⟨q2,st2,e2,k⟩:=(k.shift x1).split
  refine go1 hl s1 e2 fun w H2 μ2 x2 hl s2 r2=>?_
  have k:=k.shift x2
  cases e3:cmpop o q1 q2 st2 with
  | none=>rw [e3] at k; exact k.no.elim
  | some b' =>
   rw [e3] at k
   refine ⟨μ2,st2,q1,q2,s2,r1.mono x2,r2,.bl b',st2,by show ((cmpop o q1 q2 st2).bind fun r=>some (PV.bl r,st2)) = _; rw [e3]; rfl,fun v3 H3 μ3 x3 s3 r3=>⟨b',r3,?_⟩⟩
   have k:=k.shift x3
   cases b' with
   | false=>exact K1.done (p:=.bl false) (by simpa using k) s3 rfl
   | true =>
    simp only [Option.bind_some,if_true] at k ⊢
    obtain ⟨q3,st4,e4,k⟩:=k.split
    refine go1 (hl.mono x3) s3 e4 fun w4 H4 μ4 x4 hl s4 r4=>?_
    exact ⟨μ4,st4,q2,q3,s4,(r2.mono x3).mono x4,r4,k.shift x4⟩
 refine ⟨PE.imp (pe_chain (op_cmp hu o) (op_cmp hu p) ha hb hc hm) fin,PT.imp (pt_chain (op_cmp hu o) (op_cmp hu p) ha hb hc hm) fun σ H Q ⟨μ,L,st,hl,hs,k⟩=>fin σ H _ ?_⟩
 have k:KB X.K μ H ((ev call (.chain o p a b c) L st).bind fun x=>(Kw.truthy x.2 x.1).bind fun r=>some (r,x.2)) Q:=by simpa only [evTR_bl,evTR_chain] using k
 obtain ⟨z1,stz,e0,k⟩:=k.split
 refine ⟨μ,L,st,hl,hs,z1,stz,e0,fun v H' μ' x' s' r'=>?_⟩
 have isb:∃ bb,z1 = .bl bb:=by
  simp only [evR_bl,evR_chain] at e0
  cases q1:ev call a L st with
  | none=>rw [q1] at e0; cases e0
  | some w1 =>
   rw [q1] at e0; simp only [Option.bind_some] at e0
   cases q2:ev call b L w1.2 with
   | none=>rw [q2] at e0; cases e0
   | some w2 =>
    rw [q2] at e0; simp only [Option.bind_some] at e0
    cases q3:cmpop o w1.1 w2.1 w2.2 with
    | none=>rw [q3] at e0; cases e0
    | some b1 =>
     rw [q3] at e0; simp only [Option.bind_some] at e0
     cases b1 with
     | false=>simp only [Bool.false_eq_true,if_false] at e0; cases e0; exact ⟨_,rfl⟩
     | true =>
      simp only [if_true] at e0
      cases q4:ev call c L w2.2 with
      | none=>rw [q4] at e0; cases e0
      | some w3 =>
       rw [q4] at e0; simp only [Option.bind_some] at e0
       cases q5:cmpop p w2.1 w3.1 w3.2 with
       | none=>rw [q5] at e0; cases e0
       | some b2=>rw [q5] at e0; cases e0; exact ⟨_,rfl⟩
 obtain ⟨bb,rfl⟩:=isb
 refine ⟨bb,r',?_⟩
 obtain ⟨_,_,e5,kk⟩:=k
 cases e5
 exact kk bb H' μ' x' s' rfl
noncomputable def tyName:Ty→String | .int=>"int" | .bool=>"bool" | .str=>"str" | .list=>"list" | .tuple=>"tuple"
theorem tyOf_rel {K:PySem.W.Frag} {μ:List Addr} {H:Hp} {st:Sto} {p:PV} {v:V} {t:Ty} {b:Bool} (hs:RelS K μ H st) (r:RP K μ H p v) (e:isTy st p t = some b):∃ T,TyOf K H v (.type T)∧PySem.W.kitOne K (.type T) (.type (tyName t)) = some b:=by
 cases p with
 | non=>cases (show v = _ from r); exact ⟨_,.non,by cases e; cases t <;> rfl⟩
 | bl c=>cases (show v = _ from r); exact ⟨_,.bl _,by cases e; cases t <;> rfl⟩
 | int c=>cases (show v = _ from r); exact ⟨_,.int _,by cases e; cases t <;> rfl⟩
 | str c=>cases (show v = _ from r); exact ⟨_,.str _,by cases e; cases t <;> rfl⟩
 | tup ps =>
  obtain ⟨a,xs,rfl,h1,h2⟩:=r
  exact ⟨_,.tup h1,by cases e; cases t <;> rfl⟩
 | ref l =>
  have e:(match st[l]? with | some (.lst _)=>some (t == .list) | none=>none) = some b:=e
  cases z:st[l]? with
  | none=>rw [z] at e; cases e
  | some o =>
   obtain ⟨ps⟩:=o
   rw [z] at e
   obtain ⟨a,xs,m,h1,_⟩:=hs.at z
   obtain ⟨a',rfl,m'⟩:=r
   rw [m] at m'; cases m'
   exact ⟨_,.lst h1,by cases e; cases t <;> rfl⟩
 | scr ns=>cases e
 | shn d=>cases (show v = _ from r); exact ⟨_,.str _,by cases e; cases t <;> rfl⟩
theorem snd_isi1 {a:E} {t:Ty} {x:Expr} {fx ty:Str} {p p2 pos:Pos} (hfx:fx = Str.ofString "isinstance") (hty:ty = Str.ofString (tyName t)) (hg:Gl X fx) (hm:X.mg fx = none) (hg2:Gl X ty) (hm2:X.mg ty = none) (h:PE X x (tE X.K call a))
  (he:starEach [x,.Name ty p2] X.env = [(false,eval x X.env),(false,eval (.Name ty p2) X.env)]):PE X (.Call (.Name fx p) [x,.Name ty p2] [] pos) (tE X.K call (.isi a [t])):=by
 subst hfx hty
 have c:CallR X (.builtin "isinstance") (fun xs H Q=>∃ v c b T,xs = [v,.ty c]∧TyOf X.K H v (.type T)∧PySem.W.kitOne X.K (.type T) (.type c) = some b∧Q (.bl b) H):=by
  intro pins s σ H xs us Q I r hh
  obtain ⟨v,c,b,T,rfl,h1,h2,q⟩:=hh
  obtain ⟨u,u',rfl,ru,ru'⟩:=vals2 r
  obtain rfl:u' = .type c:=ru'
  exact isinst_ok I ru h1 h2 fun tk=>⟨.bl b,H,I.tok _,rfl,q⟩
 have tt:PE X (.Name (Str.ofString (tyName t)) p2) (tC (.ty (tyName t))):=by
  cases t <;> exact pe_bltn hg2 hm2 (by decide +kernel) rfl (by decide +kernel) (by decide +kernel)
 have hs2:starEach [Expr.Name (Str.ofString (tyName t)) p2] X.env = (false,eval (.Name (Str.ofString (tyName t)) p2) X.env) :: starEach [] X.env:=rfl
 have hs1:starEach [x,.Name (Str.ofString (tyName t)) p2] X.env = (false,eval x X.env) :: starEach [.Name (Str.ofString (tyName t)) p2] X.env:=by rw [he]; rfl
 refine PE.imp (pe_callB c hg hm (by decide +kernel) (pa_cons h (pa_cons tt pa_nil hs2) hs1) (by decide +kernel) (by decide +kernel) hs1 rfl) fun σ H Q ⟨μ,L,st,hl,hs,k⟩=>?_
 simp only [evR_bl,evR_isi] at k
 obtain ⟨q,st1,e1,k⟩:=k.split
 refine go1 hl hs e1 fun v H1 μ1 x1 hl s1 r1=>?_
 have k:=k.shift x1
 cases e:isTys st1 q [t] with
 | none=>rw [e] at k; exact k.no.elim
 | some b =>
  rw [e] at k
  have e:(isTy st1 q t).bind (fun a=>some (a || false)) = some b:=e
  cases e2:isTy st1 q t with
  | none=>rw [e2] at e; cases e
  | some b' =>
   rw [e2] at e
   have e:some (b' || false) = some b:=e
   rw [Bool.or_false] at e
   cases e
   obtain ⟨T,t1,t2⟩:=tyOf_rel s1 r1 e2
   exact ⟨v,_,_,T,rfl,t1,t2,K1.done (p:=.bl _) k s1 rfl⟩
end
end Kw
end
section
set_option Elab.async false
set_option linter.all false
set_option maxRecDepth 100000
set_option maxHeartbeats 4000000
namespace Kw
open PySem PySem.Spec PyProof.Rows L2
noncomputable def ItR (K:PySem.W.Frag) (J:It) (xs:List PV) (gs:Gd) (μ1:List Addr) (H1:Hp):Prop :=
 ∀ (i:Nat) (μ:List Addr) (H:Hp) (st:Sto),Ext μ1 H1 μ H→RelS K μ H st→okG st gs = true →
  (xs[i]? = none→J.stop i H)∧∀ p,xs[i]? = some p→J.go i H∧∀ v H',J.yld i H v H'→Ext μ H μ H'∧RelS K μ H' st∧RP K μ H' p v
noncomputable def tI (K:PySem.W.Frag) (call:Nat→List PV→Sto→R PV) (e:E):TI:=fun σ H R=>∃ μ L st xs gs st1,RelL K μ H L σ∧RelS K μ H st∧evI call e L st = some (xs,gs,st1) ∧
 ∀ J H1 μ1,Ext μ H μ1 H1→RelS K μ1 H1 st1→ItR K J xs gs μ1 H1→R J H1
theorem upto_get:∀ (n:Nat) (lo:Int) (i:Nat),(upto lo n)[i]? = if i < n then some (.int (lo + i)) else none
 | 0,lo,i=>by simp [upto]
 | n + 1,lo,0=>by simp [upto]
 | n + 1,lo,i + 1=>by
  show (upto (lo + 1) n)[i]? = _
  rw [upto_get n (lo + 1) i]
  have e:lo + 1 + (i:Int) = lo + ((i + 1:Nat):Int):=by omega
  rw [e]
  simp
theorem itr_rel {K:PySem.W.Frag} {lo:Int} {n:Nat} {μ1:List Addr} {H1:Hp}:ItR K (Itr lo n) (upto lo n) [] μ1 H1:=by
 intro i μ H st x hs _
 rw [upto_get]
 refine ⟨fun e=>?_,fun p e=>?_⟩
 ·show n ≤ i
  by_cases h:i < n
  ·rw [if_pos h] at e; cases e
  ·omega
 ·by_cases h:i < n
  ·rw [if_pos h] at e
   cases e
   refine ⟨h,fun v H' y=>?_⟩
   obtain ⟨rfl,rfl⟩:=y
   exact ⟨Ext.refl _ _,hs,rfl⟩
  ·rw [if_neg h] at e; cases e
theorem okG_list {st:Sto} {l:Nat} {xs:List PV} {gs:Gd} (h:okG st gs = true) (hm:(l,xs) ∈ gs):listOf st (.ref l) = some xs:=by
 have:=List.all_eq_true.mp h _ hm
 simpa using this
theorem list_later {K:PySem.W.Frag} {μ1 μ:List Addr} {H1 H:Hp} {st1 st:Sto} {p:PV} {a:Addr} {ps:List PV} {gs:Gd} (r:RP K μ1 H1 p (.ref a)) (e:listOf st1 p = some ps) (hg:∀ q ∈ gdOf p ps,q ∈ gs) (x:Ext μ1 H1 μ H) (hs:RelS K μ H st) (ok:okG st gs = true) :
  ∃ vs,SqL K H a vs∧RPs K μ H ps vs:=by
 have r':=r.mono x
 cases p with
 | ref l =>
  have e':=okG_list ok (hg (l,ps) (by simp [gdOf]))
  obtain ⟨a',vs,ea,h1,h2⟩:=listOf_rel hs r' e'
  cases ea
  exact ⟨vs,h1,h2⟩
 | scr ns =>
  cases e
  obtain ⟨a',ea,h1,_⟩:=r'
  cases ea
  exact ⟨_,h1,RPs.ints ns⟩
 | _=>cases e
theorem itl_rel {K:PySem.W.Frag} {μ1:List Addr} {H1:Hp} {st1:Sto} {p:PV} {a:Addr} {ps:List PV} (r:RP K μ1 H1 p (.ref a)) (e:listOf st1 p = some ps):ItR K (Itl K a) ps (gdOf p ps) μ1 H1:=by
 intro i μ H st x hs ok
 obtain ⟨vs,h1,h2⟩:=list_later r e (fun q h=>h) x hs ok
 refine ⟨fun e=>⟨vs,h1,?_⟩,fun q eq=>?_⟩
 ·rw [← h2.length]; exact List.getElem?_eq_none_iff.mp e
 ·obtain ⟨v,e1,r1⟩:=h2.get eq
  refine ⟨⟨vs,v,h1,e1⟩,fun w H' y=>?_⟩
  obtain ⟨rfl,y⟩:=y
  have:=y vs h1
  rw [e1] at this
  cases this
  exact ⟨Ext.refl _ _,hs,r1⟩
theorem itt_rel {K:PySem.W.Frag} {μ1:List Addr} {H1:Hp} {a:Addr} {ps:List PV} (r:RP K μ1 H1 (.tup ps) (.ref a)):ItR K (Itt K a) ps [] μ1 H1:=by
 intro i μ H st x hs ok
 obtain ⟨a',vs,ea,h1,h2⟩:=r.mono x
 cases ea
 refine ⟨fun e=>⟨vs,SqT.of h1,?_⟩,fun q eq=>?_⟩
 ·rw [← h2.length]; exact List.getElem?_eq_none_iff.mp e
 ·obtain ⟨v,e1,r1⟩:=h2.get eq
  refine ⟨⟨vs,v,SqT.of h1,e1⟩,fun w H' y=>?_⟩
  obtain ⟨rfl,y⟩:=y
  have:=y vs (SqT.of h1)
  rw [e1] at this
  cases this
  exact ⟨Ext.refl _ _,hs,r1⟩
noncomputable def isL:PV→Bool
 | .tup _=>false
 | _=>true
theorem seq_later {K:PySem.W.Frag} {μ1 μ:List Addr} {H1 H:Hp} {st1 st:Sto} {p:PV} {a:Addr} {ps:List PV} {gs:Gd} (r:RP K μ1 H1 p (.ref a)) (e:seqOf st1 p = some ps) (hg:∀ q ∈ gdOf p ps,q ∈ gs) (x:Ext μ1 H1 μ H) (hs:RelS K μ H st) (ok:okG st gs = true) :
  ∃ vs,SqB (isL p) K H a vs∧RPs K μ H ps vs:=by
 cases p with
 | tup qs =>
  cases e
  obtain ⟨a',vs,ea,h1,h2⟩:=r.mono x
  cases ea
  exact ⟨vs,SqT.of h1,h2⟩
 | ref l=>exact list_later r e hg x hs ok
 | scr l=>exact list_later (st1:=[]) r e hg x hs ok
 | _=>cases e
theorem it2_rel {K:PySem.W.Frag} {μ1:List Addr} {H1:Hp} {st1:Sto} {p q:PV} {a b:Addr} {ps qs:List PV} (r:RP K μ1 H1 p (.ref a)) (e:seqOf st1 p = some ps) (r2:RP K μ1 H1 q (.ref b)) (e2:seqOf st1 q = some qs) :
  ItR K (Iz2 K (isL p) (isL q) a b) (ps.zipWith (fun p q=>.tup [p,q]) qs) (gdOf p ps ++ gdOf q qs) μ1 H1:=by
 intro i μ H st x hs ok
 obtain ⟨vs,h1,h2⟩:=seq_later r e (fun q h=>List.mem_append_left _ h) x hs ok
 obtain ⟨ws,g1,g2⟩:=seq_later r2 e2 (fun q h=>List.mem_append_right _ h) x hs ok
 rw [List.getElem?_zipWith]
 refine ⟨fun z=>⟨vs,ws,h1,g1,?_⟩,fun y ey=>?_⟩
 ·rw [← h2.length,← g2.length]
  cases c1:ps[i]? with
  | none=>exact .inl (List.getElem?_eq_none_iff.mp c1)
  | some _ =>
   cases c2:qs[i]? with
   | none=>exact .inr (List.getElem?_eq_none_iff.mp c2)
   | some _=>rw [c1,c2] at z; cases z
 ·cases c1:ps[i]? with
  | none=>rw [c1] at ey; cases ey
  | some p1 =>
   cases c2:qs[i]? with
   | none=>rw [c1,c2] at ey; cases ey
   | some q1 =>
    rw [c1,c2] at ey
    cases ey
    obtain ⟨v,f1,f2⟩:=h2.get c1
    obtain ⟨w,f3,f4⟩:=g2.get c2
    refine ⟨⟨vs,ws,v,w,h1,g1,f1,f3⟩,fun z H' ⟨pp,hp,ez,yy⟩=>?_⟩
    have:=yy vs ws v w h1 g1 f1 f3
    subst this ez
    exact ⟨ext_new hs hp _,hs.new hp _,pp,[v,w],rfl,upd_same,_,_,rfl,f2.mono (ext_new hs hp _),_,_,rfl,f4.mono (ext_new hs hp _),rfl⟩
section
variable {X:Cx} {call:Nat→List PV→Sto→R PV}
theorem PI.imp {tg it:Expr} {t u:TI} (h:PI X tg it t) (f:∀ σ H R,u σ H R→t σ H R):PI X tg it u:=fun pins s σ H R I hu=>h pins s σ H R I (f σ H R hu)
theorem snd_rng {tg:Expr} {a:E} {x:Expr} {p pos:Pos} (hg:Gl X "range") (hm:X.mg "range" = none) (h:PE X x (tE X.K call a)) (hs0:starEach [x] X.env = [(false,eval x X.env)]):PI X tg (.Call (.Name "range" p) [x] [] pos) (tI X.K call (.rng a)):=by
 refine PI.imp (pi_range1 hg hm (pa_cons h pa_nil (by rw [hs0]; rfl)) hs0) fun σ H R ⟨μ,L,st,xs,gs,st1,hl,hs,e,q⟩=>?_
 simp only [evIR_rng] at e
 cases e1:ev call a L st with
 | none=>rw [e1] at e; cases e
 | some z =>
  obtain ⟨p,st2⟩:=z
  rw [e1] at e
  refine go1 hl hs e1 fun v H1 μ1 x1 hl s1 r1=>?_
  cases p with
  | int j =>
   have e:(if small62 j = true then some (upto 0 j.toNat,([]:Gd),st2) else none) = some (xs,gs,st1):=e
   by_cases hc:small62 j = true
   ·rw [if_pos hc] at e
    cases e
    have hc:-(2 ^ 62) ≤ j∧j < 2 ^ 62:=by simpa [small62] using hc
    exact ⟨j,by rw [show v = .int j from r1],hc.1,hc.2,q _ H1 μ1 x1 s1 itr_rel⟩
   ·rw [if_neg hc] at e; cases e
  | _=>cases e
noncomputable def plainIt:E→Bool
 | .rng _=>false | .rng2 _ _=>false | .zip _ _=>false | .enum _=>false | .revr _=>false | .rev _=>false
 | _=>true
theorem evI_plain {e:E} (h:plainIt e = true) (L:Loc) (st:Sto):evI call e L st = (ev call e L st).bind fun x=>(seqOf x.2 x.1).bind fun xs=>some (xs,gdOf x.1 xs,x.2):=by
 cases e <;> first | (cases h; done) | rfl
theorem pi_seq {tg it:Expr} {te:TE} (h:PE X it te):PI X tg it (fun σ H R=>te σ H fun v H1=>∃ a,v = .ref a∧((∃ xs,SqL X.K H1 a xs)∧R (Itl X.K a) H1 ∨ (∃ xs,SqT X.K H1 a xs)∧R (Itt X.K a) H1)):=by
 intro pins s σ H R I hh
 refine thn (h pins s σ H _ I hh) fun v s1 ⟨x,H1,I1,r1,a,e,q⟩=>?_
 subst e
 have hb:PE X it (fun σ' H' Q=>False):=fun _ _ _ _ _ _ z=>z.elim
 cases r1
 rcases q with ⟨⟨xs,hq⟩,q⟩ | ⟨⟨xs,hq⟩,q⟩
 ·obtain ⟨its,rv,p,hz⟩:=I1.list hq
  refine wpAny_pyIter_list p.isList ?_
  refine ⟨s1.heap.objs.size,[s1.heap.objs.size],_,_,H1,rfl,I1.kept (t':=s1.toks) fun b o e=>Heap.get?_push_of_some _ e,turn_list a _,⟨_,Heap.get?_push_size _ rfl,rfl,rfl⟩,fun b hb=>?_,q⟩
  have e:b = s1.heap.objs.size:=by simpa using hb
  subst e
  exact I1.fpOk (Nat.le_refl _) (I1.hok.fresh (Nat.le_refl _))
 ·obtain ⟨its,rv,p,hz⟩:=I1.tuple hq
  refine wpAny_pyIter_tuple p ?_
  refine ⟨s1.heap.objs.size,[s1.heap.objs.size],_,_,H1,rfl,I1.kept (t':=s1.toks) fun b o e=>Heap.get?_push_of_some _ e,turn_tuple a _,⟨_,Heap.get?_push_size _ rfl,rfl,rfl⟩,fun b hb=>?_,q⟩
  have e:b = s1.heap.objs.size:=by simpa using hb
  subst e
  exact I1.fpOk (Nat.le_refl _) (I1.hok.fresh (Nat.le_refl _))
theorem snd_itv {tg:Expr} {e:E} {x:Expr} (hp:plainIt e = true) (h:PE X x (tE X.K call e)):PI X tg x (tI X.K call e):=by
 refine PI.imp (pi_seq h) fun σ H R ⟨μ,L,st,xs,gs,st1,hl,hs,ee,q⟩=>?_
 rw [evI_plain hp] at ee
 cases e1:ev call e L st with
 | none=>rw [e1] at ee; cases ee
 | some z =>
  obtain ⟨p,st2⟩:=z
  rw [e1] at ee
  have ee:((seqOf st2 p).bind fun xs=>some (xs,gdOf p xs,st2)) = some (xs,gs,st1):=ee
  refine go1 hl hs e1 fun v H1 μ1 x1 hl s1 r1=>?_
  cases c:seqOf st2 p with
  | none=>rw [c] at ee; cases ee
  | some ps =>
   rw [c] at ee
   cases ee
   cases p with
   | tup qs =>
    cases c
    obtain ⟨a,vs,rfl,h1,h2⟩:=id r1
    exact ⟨a,rfl,.inr ⟨⟨vs,SqT.of h1⟩,q _ H1 μ1 x1 s1 (itt_rel r1)⟩⟩
   | ref l =>
    obtain ⟨a,vs,rfl,h1,h2⟩:=listOf_rel s1 r1 c
    exact ⟨a,rfl,.inl ⟨⟨vs,h1⟩,q _ H1 μ1 x1 s1 (itl_rel r1 c)⟩⟩
   | scr l =>
    obtain ⟨a,vs,rfl,h1,h2⟩:=listOf_rel s1 r1 c
    exact ⟨a,rfl,.inl ⟨⟨vs,h1⟩,q _ H1 μ1 x1 s1 (itl_rel (st1:=[]) r1 c)⟩⟩
   | _=>cases c
theorem seq_ref {K:PySem.W.Frag} {μ:List Addr} {H:Hp} {st:Sto} {p:PV} {v:V} {ps:List PV} (hs:RelS K μ H st) (r:RP K μ H p v) (e:seqOf st p = some ps):∃ a vs,v = .ref a∧SqB (isL p) K H a vs:=by
 cases p with
 | tup qs=>obtain ⟨a,vs,rfl,h1,h2⟩:=r; exact ⟨a,vs,rfl,SqT.of h1⟩
 | ref l=>obtain ⟨a,vs,rfl,h1,h2⟩:=listOf_rel hs r e; exact ⟨a,vs,rfl,h1⟩
 | scr l=>obtain ⟨a,vs,rfl,h1,h2⟩:=listOf_rel hs r e; exact ⟨a,vs,rfl,h1⟩
 | _=>cases e
theorem snd_zip {elts:List Expr} {k:Nat} {tp:Pos} {a b:E} {x y:Expr} {p pos:Pos} (hg:Gl X "zip") (hm:X.mg "zip" = none) (h:PE X x (tE X.K call a)) (h2:PE X y (tE X.K call b))
  (hs0:starEach [x,y] X.env = [(false,eval x X.env),(false,eval y X.env)]) (hs2:starEach [y] X.env = [(false,eval y X.env)]):PI X (.Tuple elts k tp) (.Call (.Name "zip" p) [x,y] [] pos) (tI X.K call (.zip a b)):=by
 refine PI.imp (pi_z2 hg hm (pa_cons h (pa_cons h2 pa_nil (by rw [hs2]; rfl)) (by rw [hs0,hs2])) hs0 hs2) fun σ H R ⟨μ,L,st,xs,gs,st1,hl,hs,ee,q⟩=>?_
 simp only [evIR_zip] at ee
 cases e1:ev call a L st with
 | none=>rw [e1] at ee; cases ee
 | some z =>
  obtain ⟨p,st2⟩:=z
  rw [e1] at ee
  simp only [Option.bind_some] at ee
  refine go1 hl hs e1 fun v H1 μ1 x1 hl s1 r1=>?_
  cases e2:ev call b L st2 with
  | none=>rw [e2] at ee; cases ee
  | some z =>
   obtain ⟨q',st3⟩:=z
   rw [e2] at ee
   simp only [Option.bind_some] at ee
   refine go1 hl s1 e2 fun w H2 μ2 x2 hl s2 r2=>?_
   cases c1:seqOf st3 p with
   | none=>rw [c1] at ee; cases ee
   | some ps =>
    cases c2:seqOf st3 q' with
    | none=>rw [c1] at ee; simp only [Option.bind] at ee; rw [c2] at ee; cases ee
    | some qs =>
     rw [c1] at ee; simp only [Option.bind] at ee; rw [c2] at ee
     cases ee
     have r1:=r1.mono x2
     obtain ⟨a1,vs,rfl,h1⟩:=seq_ref s2 r1 c1
     obtain ⟨b1,ws,rfl,h3⟩:=seq_ref s2 r2 c2
     exact ⟨_,_,a1,b1,rfl,⟨vs,h1⟩,⟨ws,h3⟩,q _ H2 μ2 (x1.trans x2) s2 (it2_rel r1 c1 r2 c2)⟩
end
end Kw
end
section
set_option Elab.async false
set_option linter.all false
set_option maxRecDepth 100000
set_option maxHeartbeats 4000000
namespace Kw
open PySem PySem.Spec PyProof.Rows L2
noncomputable def setAllV:L2.St→List Nat→List V→Option L2.St
 | σ,[],[]=>some σ
 | σ,i :: is,v :: vs=>setAllV (σ.set i (some v)) is vs
 | _,_,_=>none
noncomputable def gTs:List Nat→TGs
 | []=>gNil
 | i :: is=>gCons (gName i) (gTs is)
noncomputable def gT (K:PySem.W.Frag):Tg→TG
 | .nm i=>gName i
 | .tp is=>gTup K is.length (gTs is)
theorem gTs_of:∀ {is:List Nat} {vs:List V} {σ σ':L2.St} {H:Hp} {Q:L2.St→Hp→Prop},setAllV σ is vs = some σ'→Q σ' H→gTs is vs σ H Q
 | [],[],σ,σ',H,Q,e,q=>by cases e; exact ⟨rfl,q⟩
 | i :: is,v :: vs,σ,σ',H,Q,e,q=>⟨v,vs,rfl,gTs_of (σ:=σ.set i (some v)) e q⟩
 | [],v :: vs,_,_,_,_,e,_=>by cases e
 | i :: is,[],_,_,_,_,e,_=>by cases e
theorem setAll_rel {K:PySem.W.Frag} {μ:List Addr} {H:Hp}:∀ {is:List Nat} {ps:List PV} {vs:List V} {L L':Loc} {σ:L2.St},RelL K μ H L σ→RPs K μ H ps vs→setAll L is ps = some L'→∃ σ',setAllV σ is vs = some σ'∧RelL K μ H L' σ'
 | [],[],vs,L,L',σ,hl,r,e=>by cases (show vs = [] from r); cases e; exact ⟨σ,rfl,hl⟩
 | i :: is,p :: ps,vs,L,L',σ,hl,r,e=>by
  obtain ⟨v,q,rfl,h1,h2⟩:=r
  exact setAll_rel (is:=is) (ps:=ps) (vs:=q) (hl.set i h1) h2 e
 | [],p :: ps,_,_,_,_,_,_,e=>by cases e
 | i :: is,[],_,_,_,_,_,_,e=>by cases e
theorem setAllV_len:∀ {is:List Nat} {vs:List V} {σ σ':L2.St},setAllV σ is vs = some σ'→is.length = vs.length∧σ'.length = σ.length
 | [],[],σ,σ',e=>by cases e; exact ⟨rfl,rfl⟩
 | i :: is,v :: vs,σ,σ',e=>by
  obtain ⟨h1,h2⟩:=setAllV_len (σ:=σ.set i (some v)) e
  rw [List.length_set] at h2
  exact ⟨by rw [List.length_cons,List.length_cons,h1],h2⟩
 | [],v :: vs,_,_,e=>by cases e
 | i :: is,[],_,_,e=>by cases e
theorem setAllV_wk:∀ {is:List Nat} {vs:List V} {σ σ':L2.St} (n:Nat),(∀ i ∈ is,n ≤ i)→setAllV σ is vs = some σ'→∀ j,j < n→σ'[j]? = σ[j]?
 | [],[],σ,σ',n,_,e,j,_=>by cases e; rfl
 | i :: is,v :: vs,σ,σ',n,h,e,j,hj=>by
  rw [setAllV_wk (σ:=σ.set i (some v)) n (fun k hk=>h k (List.mem_cons_of_mem _ hk)) e j hj,List.getElem?_set_ne]
  have:=h i List.mem_cons_self
  omega
 | [],v :: vs,_,_,_,_,e,_,_=>by cases e
 | i :: is,[],_,_,_,_,e,_,_=>by cases e
noncomputable def tgMin (n:Nat):Tg→Bool
 | .nm i=>decide (n ≤ i)
 | .tp is=>is.all fun i=>decide (n ≤ i)
theorem gT_rel {K:PySem.W.Frag} {μ:List Addr} {H:Hp} {L L':Loc} {σ:L2.St} {st:Sto} {tg:Tg} {p:PV} {v:V} (hl:RelL K μ H L σ) (r:RP K μ H p v) (e:asgT tg p L st = some L') :
  ∃ σ',(∀ Q:L2.St→Hp→Prop,Q σ' H→gT K tg v σ H Q)∧RelL K μ H L' σ'∧σ'.length = σ.length∧∀ n,tgMin n tg = true→∀ j,j < n→σ'[j]? = σ[j]?:=by
 cases tg with
 | nm i =>
  cases e
  refine ⟨σ.set i (some v),fun Q q=>q,hl.set i r,List.length_set ..,fun n hn j hj=>?_⟩
  have:n ≤ i:=by simpa [tgMin] using hn
  exact List.getElem?_set_ne (by omega)
 | tp is =>
  cases p with
  | tup ps =>
   obtain ⟨a,vs,rfl,h1,h2⟩:=r
   have e:setAll L is ps = some L':=e
   obtain ⟨σ',e',hl'⟩:=setAll_rel hl h2 e
   obtain ⟨l1,l2⟩:=setAllV_len e'
   refine ⟨σ',fun Q q=>⟨a,vs,rfl,SqT.of h1,l1.symm,gTs_of e' q⟩,hl',l2,fun n hn j hj=>setAllV_wk n (fun i hi=>?_) e' j hj⟩
   have:=List.all_eq_true.mp hn i hi
   simpa using this
  | _=>cases e
section
variable {X:Cx} {call:Nat→List PV→Sto→R PV}
theorem comp_sem {K:PySem.W.Frag} {J:It} {xs0:List PV} {gs:Gd} {μ0:List Addr} {H0:Hp} {st0:Sto} {σ:L2.St} {L:Loc} {n m:Nat} {tg:Tg} {el ifs:E} {Q:VK} (hl:RelL K μ0 H0 L σ) (hs:RelS K μ0 H0 st0) (hJ:ItR K J xs0 gs μ0 H0) (hn:L.length = n) (htg:tgMin n tg = true)
  (k:K1 K μ0 H0 ((compItems tg gs (fun L1 s1=>evTs call ifs L1 s1) (fun L1 s1=>ev call el L1 s1) (L ++ List.replicate m none) xs0 st0).bind fun z=>alloc z.2 z.1) Q) :
  ∀ acc,H0 acc = none→∃ W:Nat→Nat→Hp→Prop,(∃ m,W 0 m (upd H0 acc (.lst [])))∧∀ i j H,W i j H →
   (J.stop i H∧Q (.ref acc) H) ∨ (J.go i H∧∀ x H',J.yld i H x H'→gT K tg x (σ ++ List.replicate m none) H' fun σ2 H2=>Wk (σ ++ List.replicate m none) σ2∧tTs K call ifs σ2 H2 fun b H3 =>
    if b = true then tE K call el σ2 H3 fun v H4=>∃ ys,H4 acc = some (.lst ys)∧ys.length < sizeLine∧∃ m',m' < j∧W (i + 1) m' (upd H4 acc (.lst (ys ++ [v]))) else ∃ m',m' < j∧W (i + 1) m' H3):=by
 intro acc hacc
 obtain ⟨⟨all,stE⟩,hE,k⟩:∃ z,compItems tg gs (fun L1 s1=>evTs call ifs L1 s1) (fun L1 s1=>ev call el L1 s1) (L ++ List.replicate m none) xs0 st0 = some z∧K1 K μ0 H0 (alloc z.2 z.1) Q:=by
  obtain ⟨p,st1,e1,k⟩:=k.split
  exact ⟨(p,st1),e1,k⟩
 have hbig:all.length ≤ big:=by
  by_cases h:all.length ≤ big
  ·exact h
  ·have k:K1 K μ0 H0 (if all.length ≤ big then some (.ref stE.length,stE ++ [.lst all]) else none) Q:=k
   rw [if_neg h] at k; exact k.no.elim
 have k:K1 K μ0 H0 (some (.ref stE.length,stE ++ [.lst all])) Q:=by
  have k:K1 K μ0 H0 (if all.length ≤ big then some (.ref stE.length,stE ++ [.lst all]) else none) Q:=k
  rwa [if_pos hbig] at k
 have hbl:=big_line
 have nacc:∀ {μ:List Addr} {H:Hp},Ext μ0 H0 μ H→RelS K μ0 H0 st0→acc ∉ μ0:=fun _ hs=>hs.notin hacc
 let W:Nat→Nat→Hp→Prop:=fun i j H=>∃ μ st done rest more vs,j = rest.length∧xs0.drop i = rest∧Ext μ0 H0 μ H∧acc ∉ μ∧RelS K μ H st∧H acc = some (.lst vs)∧RPs K μ H done vs∧all = done ++ more ∧
  compItems tg gs (fun L1 s1=>evTs call ifs L1 s1) (fun L1 s1=>ev call el L1 s1) (L ++ List.replicate m none) rest st = some (more,stE)
 have x0:Ext μ0 H0 μ0 (upd H0 acc (.lst [])):=ext_new hs hacc _
 refine ⟨W,⟨xs0.length,μ0,st0,[],xs0,all,[],rfl,rfl,x0,hs.notin hacc,hs.new hacc _,upd_same,rfl,rfl,hE⟩,?_⟩
 rintro i j H ⟨μ,st,done,rest,more,vs,rfl,hd,x,hna,hs',hv,hr,hal,hc⟩
 cases rest with
 | nil =>
  left
  simp only [compItems] at hc
  have ok:okG st gs = true:=by
   by_cases h:okG st gs = true
   ·exact h
   ·rw [if_neg h] at hc; cases hc
  rw [if_pos ok] at hc
  cases hc
  rw [List.append_nil] at hal
  subst hal
  have hi:xs0[i]? = none:=List.getElem?_eq_none_iff.mpr (List.drop_eq_nil_iff.mp hd)
  refine ⟨((hJ i μ H _ x hs' ok).1 hi),?_⟩
  obtain ⟨r',st',e',q⟩:=k
  cases e'
  refine q (.ref acc) H (μ ++ [acc]) ⟨?_,x.keep,x.tup,x.frz,fun a ha=>?_⟩ (hs'.adopt hv hna hr) ⟨acc,rfl,?_⟩
  ·obtain ⟨mm,e⟩:=x.pre
   exact ⟨mm ++ [acc],by rw [e,List.append_assoc]⟩
  ·rcases List.mem_append.mp ha with z | z
   ·exact x.new a z
   ·simp at z; subst z; exact .inr hacc
  ·rw [← hs'.len,List.getElem?_append_right (Nat.le_refl _),Nat.sub_self] <;> rfl
 | cons p rest =>
  right
  simp only [compItems] at hc
  have ok:okG st gs = true:=by
   by_cases h:okG st gs = true
   ·exact h
   ·rw [if_neg h] at hc; cases hc
  rw [if_pos ok] at hc
  have hi:xs0[i]? = some p:=by
   have:=congrArg (·[0]?) hd
   simpa using this
  have hd':xs0.drop (i + 1) = rest:=by
   have:=congrArg List.tail hd
   simpa [List.tail_drop] using this
  obtain ⟨go,yl⟩:=(hJ i μ H st x hs' ok).2 p hi
  refine ⟨go,fun v H' y=>?_⟩
  obtain ⟨x1,s1,r1⟩:=yl v H' y
  have hl1:RelL K μ H' (L ++ List.replicate m none) (σ ++ List.replicate m none):=(hl.mono (x.trans x1)).more m
  cases ea:asgT tg p (L ++ List.replicate m none) st with
  | none=>rw [ea] at hc; cases hc
  | some L1 =>
   rw [ea] at hc
   have hc:((evTs call ifs L1 st).bind fun z=>if z.1 = true then (ev call el L1 z.2).bind fun w=>(compItems tg gs (fun L1 s1=>evTs call ifs L1 s1) (fun L1 s1=>ev call el L1 s1) (L ++ List.replicate m none) rest w.2).bind fun u=>some (w.1 :: u.1,u.2)
     else compItems tg gs (fun L1 s1=>evTs call ifs L1 s1) (fun L1 s1=>ev call el L1 s1) (L ++ List.replicate m none) rest z.2) = some (more,stE):=hc
   obtain ⟨σ',hg,hl2,hlen,hwk⟩:=gT_rel hl1 r1 ea
   refine hg _ ⟨⟨hlen,fun jj vv ej=>?_⟩,?_⟩
   ·have hjj:jj < n:=by
     by_cases h:jj < σ.length
     ·rw [← hn,hl.len]; exact h
     ·rw [List.getElem?_append_right (by omega),List.getElem?_replicate] at ej
      split at ej <;> cases ej
    rw [hwk n htg jj hjj]; exact ej
   ·have hna1:acc ∉ μ:=hna
    have hv1:H' acc = some (.lst vs):=x1.keep acc _ hna hv
    cases et:evTs call ifs L1 st with
    | none=>rw [et] at hc; cases hc
    | some z =>
     obtain ⟨b,st2⟩:=z
     rw [et] at hc
     refine ⟨μ,L1,st,hl2,s1,b,st2,et,fun b' H2 μ2 x2 s2 eb=>?_⟩
     subst eb
     have hna2:acc ∉ μ2:=fun z=>by
      rcases x2.new acc z with y | y
      ·exact hna y
      ·rw [hv1] at y; cases y
     have hv2:H2 acc = some (.lst vs):=x2.keep acc _ hna hv1
     have hr2:RPs K μ2 H2 done vs:=hr.mono (x1.trans x2)
     have xx2:Ext μ0 H0 μ2 H2:=x.trans (x1.trans x2)
     cases b with
     | false =>
      have hc:compItems tg gs (fun L1 s1=>evTs call ifs L1 s1) (fun L1 s1=>ev call el L1 s1) (L ++ List.replicate m none) rest st2 = some (more,stE):=by simpa using hc
      rw [if_neg Bool.false_ne_true]
      exact ⟨rest.length,Nat.lt_succ_self _,μ2,st2,done,rest,more,vs,rfl,hd',xx2,hna2,s2,hv2,hr2,hal,hc⟩
     | true =>
      rw [if_pos rfl]
      have hc:((ev call el L1 st2).bind fun w=>(compItems tg gs (fun L1 s1=>evTs call ifs L1 s1) (fun L1 s1=>ev call el L1 s1) (L ++ List.replicate m none) rest w.2).bind fun u=>some (w.1 :: u.1,u.2)) = some (more,stE):=by simpa using hc
      cases ev1:ev call el L1 st2 with
      | none=>rw [ev1] at hc; cases hc
      | some w =>
       obtain ⟨q,st3⟩:=w
       rw [ev1] at hc
       have hc:((compItems tg gs (fun L1 s1=>evTs call ifs L1 s1) (fun L1 s1=>ev call el L1 s1) (L ++ List.replicate m none) rest st3).bind fun u=>some (q :: u.1,u.2)) = some (more,stE):=hc
       cases ec:compItems tg gs (fun L1 s1=>evTs call ifs L1 s1) (fun L1 s1=>ev call el L1 s1) (L ++ List.replicate m none) rest st3 with
       | none=>rw [ec] at hc; cases hc
       | some u =>
        obtain ⟨more',stE'⟩:=u
        rw [ec] at hc
        cases hc
        refine go1 (hl2.mono x2) s2 ev1 fun v3 H3 μ3 x3 _ s3 r3=>?_
        have hv3:H3 acc = some (.lst vs):=x3.keep acc _ hna2 hv2
        have hna3:acc ∉ μ3:=fun z=>by
         rcases x3.new acc z with y | y
         ·exact hna2 y
         ·rw [hv2] at y; cases y
        have hr3:=hr2.mono x3
        have hlen3:=hr3.length
        have xx3:Ext μ0 H0 μ3 H3:=xx2.trans x3
        have e0:Ext0 μ3 H3 μ3 (upd H3 acc (.lst (vs ++ [v3]))):=ext0_side hv3 _
        refine ⟨vs,hv3,?_,rest.length,Nat.lt_succ_self _,μ3,st3,done ++ [q],rest,more',vs ++ [v3],rfl,hd',?_,hna3,s3.side hv3 hna3 _,upd_same,(hr3.append (RPs.one r3)).mono0 e0,by rw [hal,List.append_assoc]; rfl,ec⟩
        ·rw [hal,List.length_append,List.length_cons] at hbig
         omega
        ·exact ⟨xx3.pre,fun a o ha e=>by rw [upd_ne (ne_of_none e hacc)]; exact xx3.keep a o ha e,fun a ys e=>by rw [upd_ne (ne_of_none e hacc)]; exact xx3.tup a ys e,fun a o u e=>by rw [upd_ne (ne_of_none e hacc)]; exact xx3.frz a o u e,xx3.new⟩
theorem snd_comp {scope:Scope} {own:List Str} {elt tgx it:Expr} {ifx:List Expr} {pos:Pos} {el ite ifs:E} {tg:Tg} (hc:X.calm = true) (SC:CScope X scope own) (htg:tgMin X.N.length tg = true) (hi:PI X.nox tgx it (tI X.K call ite))
  (hblock:∀ fp C s H,PG (cxC X scope own fp C s H) tgx (gT X.K tg)∧PTs (cxC X scope own fp C s H) ifx (tTs X.K call ifs)∧PE (cxC X scope own fp C s H) elt (tE X.K call el))
  (hs0:∀ x,foldedSetIterable it X.env x = pure x):PE X.nox (.ListComp elt [⟨tgx,it,ifx,0⟩] scope pos) (tE X.K call (.comp el tg X.N.length own.length ite ifs)):=by
 have base:=pe_comp (pos:=pos) hc SC hi hblock hs0
 refine PE.imp base fun σ H Q ⟨μ,L,st,hl,hs,k⟩=>?_
 simp only [evR_comp] at k
 obtain ⟨r,stF,e,kk⟩:=k
 cases e1:evI call ite L st with
 | none=>rw [e1] at e; cases e
 | some z =>
  obtain ⟨xs,gs,st1⟩:=z
  rw [e1] at e
  refine ⟨μ,L,st,xs,gs,st1,hl,hs,e1,fun J H1 μ1 x1 s1 hJ=>?_⟩
  by_cases hn:L.length = X.N.length
  ·have e:((compItems tg gs (fun L1 s1=>evTs call ifs L1 s1) (fun L1 s1=>ev call el L1 s1) (L ++ List.replicate own.length none) xs st1).bind fun z=>alloc z.2 z.1) = some (r,stF):=by simpa [hn] using e
   exact comp_sem (hl.mono x1) s1 hJ hn htg ⟨r,stF,e,fun v H' μ' y=>kk v H' μ' (x1.trans y)⟩
  ·simp [hn] at e
theorem snd_setcomp {scope:Scope} {own:List Str} {elt tgx it:Expr} {ifx:List Expr} {pos:Pos} {el ite ifs:E} {tg:Tg} {i:Nat} {x:Str} {px spos:Pos} (hc:X.calm = true) (SC:CScope X scope own) (hN:X.N.Nodup) (hx:X.N[i]? = some x) (hlo:X.env.scope.names.lookup x = some .local)
  (htg:tgMin X.N.length tg = true) (hi:PI X.nox tgx it (tI X.K call ite))
  (hblock:∀ fp C s H,PG (cxC X scope own fp C s H) tgx (gT X.K tg)∧PTs (cxC X scope own fp C s H) ifx (tTs X.K call ifs)∧PE (cxC X scope own fp C s H) elt (tE X.K call el))
  (hsw:swapsWith (.ListComp elt [⟨tgx,it,ifx,0⟩] scope pos) (some (.Name x px)) spos.line X.env = pure true)
  (hs0:∀ x,foldedSetIterable it X.env x = pure x):PS X.nox (.Assign [.Name x px] (.ListComp elt [⟨tgx,it,ifx,0⟩] scope pos) spos) (tAsg (tE X.K call (.comp el tg X.N.length own.length ite ifs)) (gName i)):=by
 have base:=ps_setcomp hc SC hN hx hlo hi hblock hsw hs0
 refine PS.imp base fun D σ H hh=>?_
 obtain ⟨μ,L,st,hl,hs,k⟩:=hh
 simp only [evR_comp] at k
 obtain ⟨r,stF,e,kk⟩:=k
 cases e1:evI call ite L st with
 | none=>rw [e1] at e; cases e
 | some z =>
  obtain ⟨xs,gs,st1⟩:=z
  rw [e1] at e
  refine ⟨μ,L,st,xs,gs,st1,hl,hs,e1,fun J H1 μ1 x1 s1 hJ=>?_⟩
  by_cases hn:L.length = X.N.length
  ·have e:((compItems tg gs (fun L1 s1=>evTs call ifs L1 s1) (fun L1 s1=>ev call el L1 s1) (L ++ List.replicate own.length none) xs st1).bind fun z=>alloc z.2 z.1) = some (r,stF):=by simpa [hn] using e
   exact comp_sem (hl.mono x1) s1 hJ hn htg ⟨r,stF,e,fun v H' μ' y=>kk v H' μ' (x1.trans y)⟩
  ·simp [hn] at e
theorem snd_tsnil:PTs X [] (tTs X.K call .nil):=PTs.imp pts_nil fun σ H Q ⟨μ,L,st,hl,hs,k⟩=>by
 simp only [evTsR_nil] at k
 obtain ⟨_,_,e',k⟩:=k
 cases e'
 exact k true H μ (Ext.refl _ _) hs rfl
theorem snd_tscons {e es:E} {x:Expr} {xs:List Expr} (h:PT X x (tT X.K call e)) (h2:PTs X xs (tTs X.K call es)):PTs X (x :: xs) (tTs X.K call (.cons e es)):=by
 refine PTs.imp (pts_cons h h2) fun σ H Q ⟨μ,L,st,hl,hs,k⟩=>?_
 simp only [evTsR_cons] at k
 obtain ⟨p,st1,e1,k⟩:=k.split
 refine goT hl hs e1 fun H1 μ1 x1 hl s1=>?_
 have k:=k.shift x1
 cases p with
 | true=>exact ⟨μ1,L,st1,hl,s1,by simpa using k⟩
 | false =>
  obtain ⟨_,_,e',k⟩:=k
  simp at e'
  obtain ⟨rfl,rfl⟩:=e'
  exact k _ H1 μ1 (Ext.refl _ _) s1 rfl
end
end Kw
end
section
set_option Elab.async false
set_option linter.all false
set_option maxRecDepth 100000
set_option maxHeartbeats 4000000
namespace Kw
open PySem PySem.Spec PyProof.Rows L2
noncomputable def endF (K:PySem.W.Frag) (D:Ends) (μ:List Addr) (H:Hp) (σ:L2.St):Fl→Prop
 | .next=>D.nx σ H
 | .brk=>D.bk σ H
 | .cont=>D.ct σ H
 | .ret p=>∀ v,RP K μ H p v→D.rt v H
noncomputable def KS (K:PySem.W.Frag) (μ:List Addr) (H:Hp) (res:RS) (D:Ends):Prop :=
 ∃ f L' st',res = some (f,L',st')∧∀ H' μ' σ',Ext μ H μ' H'→RelS K μ' H' st'→RelL K μ' H' L' σ'→endF K D μ' H' σ' f
theorem KS.shift {K:PySem.W.Frag} {μ μ1:List Addr} {H H1:Hp} {res:RS} {D:Ends} (x:Ext μ H μ1 H1) (h:KS K μ H res D):KS K μ1 H1 res D :=
 let ⟨f,L',st',e,q⟩:=h
 ⟨f,L',st',e,fun H' μ' σ' y=>q H' μ' σ' (x.trans y)⟩
theorem KS.no {K:PySem.W.Frag} {μ:List Addr} {H:Hp} {D:Ends} (k:KS K μ H none D):False:=by
 obtain ⟨_,_,_,e,_⟩:=k
 cases e
theorem KS.done {K:PySem.W.Frag} {μ:List Addr} {H:Hp} {D:Ends} {f:Fl} {L:Loc} {st:Sto} {σ:L2.St} (k:KS K μ H (some (f,L,st)) D) (hs:RelS K μ H st) (hl:RelL K μ H L σ):endF K D μ H σ f:=by
 obtain ⟨_,_,_,e,q⟩:=k
 cases e
 exact q H μ σ (Ext.refl _ _) hs hl
theorem KS.split {K:PySem.W.Frag} {μ:List Addr} {H:Hp} {D:Ends} {γ:Type} {res:Option (γ×Sto)} {f:γ×Sto→RS} (k:KS K μ H (res.bind f) D):∃ p st1,res = some (p,st1)∧KS K μ H (f (p,st1)) D:=by
 obtain ⟨a,b,c,e,q⟩:=k
 cases res with
 | none=>cases e
 | some x=>exact ⟨x.1,x.2,rfl,a,b,c,e,q⟩
noncomputable def tS (K:PySem.W.Frag) (call:Nat→List PV→Sto→R PV) (s:S):TS:=fun D σ H=>∃ μ L st,RelL K μ H L σ∧RelS K μ H st∧KS K μ H (ex call s L st) D
section
variable {X:Cx} {call:Nat→List PV→Sto→R PV}
theorem sn_nil:PSs X [] (tS X.K call .nil):=PSs.imp pss_nil fun D σ H ⟨μ,L,st,hl,hs,k⟩=>by simp only [exR_nil] at k; exact KS.done k hs hl
theorem sn_cons {s r:S} {x:Stmt} {xs:List Stmt} (h:PS X x (tS X.K call s)) (h2:PSs X xs (tS X.K call r)):PSs X (x :: xs) (tS X.K call (.cons s r)):=by
 refine PSs.imp (pss_cons h h2) fun D σ H ⟨μ,L,st,hl,hs,k⟩=>?_
 simp only [exR_cons] at k
 obtain ⟨f,L',st',e,q⟩:=k
 cases e1:ex call s L st with
 | none=>rw [e1] at e; cases e
 | some z =>
  obtain ⟨f1,L1,st1⟩:=z
  rw [e1] at e
  refine ⟨μ,L,st,hl,hs,f1,L1,st1,e1,fun H1 μ1 σ1 x1 s1 l1=>?_⟩
  cases f1 with
  | next =>
   exact ⟨μ1,L1,st1,l1,s1,f,L',st',e,fun H' μ' σ' y=>q H' μ' σ' (x1.trans y)⟩
  | brk=>cases e; exact q H1 μ1 σ1 x1 s1 l1
  | cont=>cases e; exact q H1 μ1 σ1 x1 s1 l1
  | ret v=>cases e; exact q H1 μ1 σ1 x1 s1 l1
theorem sn_asg_of {tg:Tg} {e:E} {te:TE} {x:Stmt} (hte:∀ σ H Q,tE X.K call e σ H Q→te σ H Q) (h:PS X x (tAsg te (gT X.K tg))):PS X x (tS X.K call (.asg tg e)):=by
 refine PS.imp h fun D σ H ⟨μ,L,st,hl,hs,k⟩=>hte _ _ _ ?_
 simp only [exR_asg] at k
 obtain ⟨p,st1,e1,k⟩:=k.split
 refine go1 hl hs e1 fun v H1 μ1 x1 hl s1 r1=>?_
 have k:=k.shift x1
 cases ea:asgT tg p L st1 with
 | none=>rw [ea] at k; exact k.no.elim
 | some L1 =>
  rw [ea] at k
  obtain ⟨σ',hg,hl2,_,_⟩:=gT_rel hl r1 ea
  exact hg _ (KS.done k s1 hl2)
noncomputable def isComp:Expr→Bool
 | .ListComp ..=>true | .SetComp ..=>true | .DictComp ..=>true
 | _=>false
theorem swaps_no {e:Expr} {t:Option Expr} {n:Nat} {env:Env} (h:isComp e = false):swapsWith e t n env = pure false:=by
 cases e <;> first | rfl | (cases h; done)
theorem sn_set {i:Nat} {e:E} {x:Str} {ex:Expr} {px pos:Pos} (hN:X.N.Nodup) (hi:X.N[i]? = some x) (hx:L2.Loc X.env.scope x) (hf:X.fn x = true ∨ X.env.scope.names.lookup x = some .local) (hc:isComp ex = false) (h:PE X ex (tE X.K call e)) :
  PS X (.Assign [.Name x px] ex pos) (tS X.K call (.asg (.nm i) e)):=sn_asg_of (fun _ _ _ z=>z) (ps_set hN hi hx h (swaps_no hc) hf)
theorem sn_setix {o i e : E} {xo xi xe : Expr} {p pos : Pos} (hc : isComp xe = false) (hpi : ∀ v, assign (.Subscript xo xi p) X.env v = (do
      let ov ← holding [v] (eval xo X.env)
      let iv ← holding [v, ov] (eval xi X.env)
      standAt p
      holding [v, ov, iv] (setItem ov iv v)
      release [v, ov, iv] [])) (hw : swappedStores [.Subscript xo xi p] xe X.env = pure none) (hws : swapsWithSole [.Subscript xo xi p] xe pos.line X.env = pure false)
    (ho : PE X xo (tE X.K call o)) (hi : PE X xi (tE X.K call i)) (he : PE X xe (tE X.K call e)) : PS X (.Assign [.Subscript xo xi p] xe pos) (tS X.K call (.setix o i e)) := by
  refine PS.imp (ps_asg he (pg_sub ho hi set_list hpi) hws hw rfl) fun D σ H ⟨μ, L, st, hl, hs, k⟩ => ?_
  simp only [exR_setix] at k
  obtain ⟨p, st1, e1, k⟩ := k.split
  refine go1 hl hs e1 fun v H1 μ1 x1 hl s1 r1 => ?_
  obtain ⟨a, st2, e2, k⟩ := (k.shift x1).split
  refine go1 hl s1 e2 fun w H2 μ2 x2 hl s2 r2 => ?_
  obtain ⟨j, st3, e3, k⟩ := (k.shift x2).split
  refine go1 hl s2 e3 fun u H3 μ3 x3 hl s3 r3 => ?_
  have k := k.shift x3
  cases a with
  | ref l =>
    cases j with
    | int kk =>
      have k : KS X.K μ3 H3 (match st3[l]? with
        | some (.lst xs) => (Kw.ixN xs.length kk).map fun n => (.next, L, st3.set l (.lst (xs.set n p)))
        | _ => none) D := k
      cases es : st3[l]? with
      | none => rw [es] at k; exact k.no.elim
      | some ob =>
        obtain ⟨ps⟩ := ob
        rw [es] at k
        have k : KS X.K μ3 H3 ((Kw.ixN ps.length kk).map fun n => (.next, L, st3.set l (.lst (ps.set n p)))) D := k
        cases en : Kw.ixN ps.length kk with
        | none => rw [en] at k; exact k.no.elim
        | some n =>
          rw [en] at k
          obtain ⟨aa, xs, m, h1, ra⟩ := s3.at es
          obtain ⟨a2, rfl, m2⟩ := r2.mono x3
          rw [m] at m2; cases m2
          obtain rfl : u = .int kk := r3
          have rp := r1.mono (x2.trans x3)
          refine ⟨aa, xs, kk, n, rfl, rfl, h1, by rw [← ra.length]; exact en, ?_⟩
          have x4 := ext_write s3 m (.lst (xs.set n v))
          exact KS.done (k.shift x4) (s3.write m (ra.set n rp)) (hl.mono x4)
    | _ => exact k.no.elim
  | _ => cases j <;> exact k.no.elim
theorem sn_ret {e:E} {x:Expr} {pos:Pos} (h:PE X x (tE X.K call e)):PS X (.Return (some x) pos) (tS X.K call (.ret e)):=by
 refine PS.imp (ps_ret h) fun D σ H ⟨μ,L,st,hl,hs,k⟩=>?_
 simp only [exR_ret] at k
 cases e1:ev call e L st with
 | none=>rw [e1] at k; exact k.no.elim
 | some z =>
  obtain ⟨p,st1⟩:=z
  rw [e1] at k
  refine go1 hl hs e1 fun v H1 μ1 x1 hl s1 r1=>?_
  exact KS.done (k.shift x1) s1 hl v r1
theorem sn_retN {pos:Pos}:PS X (.Return none pos) (tS X.K call .retN):=PS.imp ps_retN fun D σ H ⟨μ,L,st,hl,hs,k⟩=>by simp only [exR_retN] at k; exact KS.done k hs hl .non rfl
theorem sn_expr {e:E} {x:Expr} {pos:Pos} (hc:isComp x = false) (h:PE X x (tE X.K call e)):PS X (.Expr x pos) (tS X.K call (.expr e)):=by
 refine PS.imp (ps_expr h (swaps_no hc)) fun D σ H ⟨μ,L,st,hl,hs,k⟩=>?_
 simp only [exR_expr] at k
 cases e1:ev call e L st with
 | none=>rw [e1] at k; exact k.no.elim
 | some z =>
  obtain ⟨p,st1⟩:=z
  rw [e1] at k
  refine go1 hl hs e1 fun v H1 μ1 x1 hl s1 r1=>?_
  exact KS.done (k.shift x1) s1 hl
theorem sn_pass {pos:Pos}:PS X (.Pass pos) (tS X.K call .pass):=PS.imp ps_pass fun D σ H ⟨μ,L,st,hl,hs,k⟩=>by simp only [exR_pass] at k; exact KS.done k hs hl
theorem sn_brk {pos:Pos}:PS X (.Break pos) (tS X.K call .brk):=PS.imp ps_break fun D σ H ⟨μ,L,st,hl,hs,k⟩=>by simp only [exR_brk] at k; exact KS.done k hs hl
theorem sn_cont {pos:Pos}:PS X (.Continue pos) (tS X.K call .cont):=PS.imp ps_continue fun D σ H ⟨μ,L,st,hl,hs,k⟩=>by simp only [exR_cont] at k; exact KS.done k hs hl
theorem sn_if {c:E} {a b:S} {x:Expr} {xa xb:List Stmt} {pos:Pos} (h:PT X x (tT X.K call c)) (ha:PSs X xa (tS X.K call a)) (hb:PSs X xb (tS X.K call b)):PS X (.If x xa xb pos) (tS X.K call (.ife c a b)):=by
 refine PS.imp (ps_if h ha hb) fun D σ H ⟨μ,L,st,hl,hs,k⟩=>?_
 simp only [exR_ife] at k
 obtain ⟨p,st1,e1,k⟩:=k.split
 refine goT hl hs e1 fun H1 μ1 x1 hl s1=>?_
 have k:=k.shift x1
 cases p with
 | true=>exact ⟨μ1,L,st1,hl,s1,by simpa using k⟩
 | false=>exact ⟨μ1,L,st1,hl,s1,by simpa using k⟩
theorem for_sem {K:PySem.W.Frag} {J:It} {xs0:List PV} {gs:Gd} {μ0:List Addr} {H0:Hp} {st0:Sto} {σ:L2.St} {L:Loc} {tg:Tg} {b:S} {D:Ends} (hl:RelL K μ0 H0 L σ) (hs:RelS K μ0 H0 st0) (hJ:ItR K J xs0 gs μ0 H0)
  (k:KS K μ0 H0 (forItems tg gs (fun L1 s1=>ex call b L1 s1) xs0 L st0) D) :
  ∃ W:Nat→Nat→L2.St→Hp→Prop,(∃ m,W 0 m σ H0)∧∀ i m σ H,W i m σ H →
   (J.stop i H∧D.nx σ H) ∨ (J.go i H∧∃ N:L2.St→Hp→Prop,(∀ σ' H',N σ' H'→∃ m',m' < m∧W (i + 1) m' σ' H')∧∀ x H',J.yld i H x H'→gT K tg x σ H' fun σ2 H2=>tS K call b { D with nx:=N,ct:=N,bk:=D.nx } σ2 H2):=by
 obtain ⟨fE,LE,stE,hE,kE⟩:=k
 refine ⟨fun i m σ H=>∃ μ L st rest,m = rest.length∧xs0.drop i = rest∧Ext μ0 H0 μ H∧RelL K μ H L σ∧RelS K μ H st∧forItems tg gs (fun L1 s1=>ex call b L1 s1) rest L st = some (fE,LE,stE),
  ⟨xs0.length,μ0,L,st0,xs0,rfl,rfl,Ext.refl _ _,hl,hs,hE⟩,?_⟩
 rintro i m σ H ⟨μ,L,st,rest,rfl,hd,x,hl,hs,hc⟩
 cases rest with
 | nil =>
  left
  simp only [forItems] at hc
  by_cases ok:okG st gs = true
  ·rw [if_pos ok] at hc
   cases hc
   have hi:xs0[i]? = none:=List.getElem?_eq_none_iff.mpr (List.drop_eq_nil_iff.mp hd)
   exact ⟨(hJ i μ H _ x hs ok).1 hi,kE H μ σ x hs hl⟩
  ·rw [if_neg ok] at hc; cases hc
 | cons p rest =>
  right
  simp only [forItems] at hc
  by_cases ok:okG st gs = true
  ·rw [if_pos ok] at hc
   have hi:xs0[i]? = some p:=by
    have:=congrArg (·[0]?) hd
    simpa using this
   have hd':xs0.drop (i + 1) = rest:=by
    have:=congrArg List.tail hd
    simpa [List.tail_drop] using this
   obtain ⟨go,yl⟩:=(hJ i μ H st x hs ok).2 p hi
   cases ea:asgT tg p L st with
   | none=>rw [ea] at hc; cases hc
   | some L1 =>
    rw [ea] at hc
    cases eb:ex call b L1 st with
    | none=>simp only [Option.bind_some,eb] at hc; cases hc
    | some z =>
     obtain ⟨f2,L2',st2⟩:=z
     simp only [Option.bind_some,eb] at hc
     refine ⟨go,fun σ' H'=>(f2 = .next ∨ f2 = .cont)∧∃ μ',Ext μ0 H0 μ' H'∧RelL K μ' H' L2' σ'∧RelS K μ' H' st2,fun σ' H' ⟨hf,μ',x',l',s'⟩=>⟨rest.length,Nat.lt_succ_self _,μ',L2',st2,rest,rfl,hd',x',l',s',?_⟩,fun v H' y=>?_⟩
     ·rcases hf with rfl | rfl
      ·simpa using hc
      ·simpa using hc
     ·obtain ⟨x1,s1,r1⟩:=yl v H' y
      have hl1:=hl.mono x1
      obtain ⟨σ2,hg,hl2,_,_⟩:=gT_rel hl1 r1 ea
      refine hg _ ⟨μ,L1,st,hl2,s1,f2,L2',st2,eb,fun H3 μ3 σ3 x3 s3 l3=>?_⟩
      have xx:=x.trans (x1.trans x3)
      cases f2 with
      | next=>exact ⟨.inl rfl,μ3,xx,l3,s3⟩
      | cont=>exact ⟨.inr rfl,μ3,xx,l3,s3⟩
      | brk =>
       simp at hc
       obtain ⟨rfl,rfl,rfl⟩:=hc
       exact kE H3 μ3 σ3 xx s3 l3
      | ret w =>
       simp at hc
       obtain ⟨rfl,rfl,rfl⟩:=hc
       exact kE H3 μ3 σ3 xx s3 l3
  ·rw [if_neg ok] at hc; cases hc
theorem sn_for {tg:Tg} {it:E} {b:S} {tgx itx:Expr} {bx:List Stmt} {pos:Pos} (hc:X.calm = true) (hi:PI X.nox tgx itx (tI X.K call it)) (hg:PG X.nox tgx (gT X.K tg)) (hb:PSs X.nox bx (tS X.K call b)) (hs0:∀ x,foldedSetIterable itx X.env x = pure x) :
  PS X.nox (.For tgx itx bx [] pos) (tS X.K call (.for_ tg it b)):=by
 refine PS.imp (ps_for PassesOwn.never hc hi hg hb hs0) fun D σ H ⟨μ,L,st,hl,hs,k⟩=>?_
 simp only [exR_for_] at k
 obtain ⟨f,L',st',e,q⟩:=k
 cases e1:evI call it L st with
 | none=>rw [e1] at e; cases e
 | some z =>
  obtain ⟨xs,gs,st1⟩:=z
  rw [e1] at e
  refine ⟨μ,L,st,xs,gs,st1,hl,hs,e1,fun J H1 μ1 x1 s1 hJ=>?_⟩
  exact for_sem (hl.mono x1) s1 hJ ⟨f,L',st',e,fun H' μ' σ' y=>q H' μ' σ' (x1.trans y)⟩
theorem snd_append {o a:E} {xo xa:Expr} {apos cpos:Pos} (hbase:attributeBase xo "append" X.env (eval xo X.env) = eval xo X.env) (hline:(apos.endLine == cpos.line) = true)
  (hs0:starEach [xa] X.env = [(false,eval xa X.env)]) (ho:PE X xo (tE X.K call o)) (ha:PE X xa (tE X.K call a)):PE X (.Call (.Attribute xo "append" apos) [xa] [] cpos) (tE X.K call (.meth .append o a)):=by
 refine PE.imp (pe_bm PySem.F.plainAttrs_list PySem.F.slot_list_append PySem.F.type_list_append mt_append ho (pa_cons ha pa_nil (by rw [hs0]; rfl)) hbase (by rw [hs0]; rfl) hline (by rw [hs0]; rfl) rfl) fun σ H Q ⟨μ,L,st,hl,hs,k⟩=>?_
 simp only [evR_meth] at k
 obtain ⟨p,st1,e1,k⟩:=k.split
 refine go1 hl hs e1 fun v H1 μ1 x1 hl s1 r1=>?_
 obtain ⟨q,st2,e2,k⟩:=(k.shift x1).split
 cases p with
 | ref l =>
  obtain ⟨aa,rfl,m1⟩:=id r1
  obtain ⟨xs1,hx1⟩:=s1.lst (List.mem_of_getElem? m1)
  refine ⟨?_,?_⟩
  ·exact .inl ⟨rfl,xs1,SqL.of hx1⟩
  ·refine go1 hl s1 e2 fun w H2 μ2 x2 hl s2 r2=>?_
   have k:=k.shift x2
   have k:K1 X.K μ2 H2 (match st2[l]? with
    | some (.lst xs)=>if xs.length < big then some (.non,st2.set l (.lst (xs ++ [q]))) else none
    | _=>none) Q:=k
   cases es:st2[l]? with
   | none=>rw [es] at k; exact k.no.elim
   | some ob =>
    obtain ⟨ps⟩:=ob
    rw [es] at k
    have k:K1 X.K μ2 H2 (if ps.length < big then some (.non,st2.set l (.lst (ps ++ [q]))) else none) Q:=k
    by_cases hb:ps.length < big
    ·rw [if_pos hb] at k
     obtain ⟨a2,xs,m,h1,ra⟩:=s2.at es
     obtain ⟨a3,ea,m3⟩:=r1.mono x2
     cases ea
     rw [m] at m3; cases m3
     have hbl:=big_line
     refine ⟨_,xs,w,rfl,rfl,h1,by rw [← ra.length]; omega,?_⟩
     have x4:=ext_write s2 m (.lst (xs ++ [w]))
     exact K1.done (k.shift x4) (s2.write m (ra.append (RPs.one r2))) rfl
    ·rw [if_neg hb] at k; exact k.no.elim
 | _=>exact k.no.elim
theorem snd_extend {o a:E} {xo xa:Expr} {apos cpos:Pos} (hbase:attributeBase xo "extend" X.env (eval xo X.env) = eval xo X.env) (hline:(apos.endLine == cpos.line) = true)
  (hs0:starEach [xa] X.env = [(false,eval xa X.env)]) (ho:PE X xo (tE X.K call o)) (ha:PE X xa (tE X.K call a)):PE X (.Call (.Attribute xo "extend" apos) [xa] [] cpos) (tE X.K call (.meth .extend o a)):=by
 have mt:MtR X "list.extend" (fun x xs H Q=>rExtend x xs H Q ∨ rExtT X.K x xs H Q):=fun pins s σ H x xs v us Q I rx rv h=>h.elim (mt_extend pins s σ H x xs v us Q I rx rv) (mt_extT pins s σ H x xs v us Q I rx rv)
 refine PE.imp (pe_bm PySem.F.plainAttrs_list PySem.F.slot_list_extend PySem.F.type_list_extend mt ho (pa_cons ha pa_nil (by rw [hs0]; rfl)) hbase (by rw [hs0]; rfl) hline (by rw [hs0]; rfl) rfl) fun σ H Q ⟨μ,L,st,hl,hs,k⟩=>?_
 simp only [evR_meth] at k
 obtain ⟨p,st1,e1,k⟩:=k.split
 refine go1 hl hs e1 fun v H1 μ1 x1 hl s1 r1=>?_
 obtain ⟨q,st2,e2,k⟩:=(k.shift x1).split
 cases p with
 | ref l =>
  obtain ⟨aa,rfl,m1⟩:=id r1
  obtain ⟨xs1,hx1⟩:=s1.lst (List.mem_of_getElem? m1)
  refine ⟨.inl ⟨rfl,xs1,SqL.of hx1⟩,go1 hl s1 e2 fun w H2 μ2 x2 hl s2 r2=>?_⟩
  have k:=k.shift x2
  have k:K1 X.K μ2 H2 (match st2[l]? with
   | some (.lst xs)=>extV st2 l xs q
   | none=>none) Q:=k
  cases es:st2[l]? with
  | none=>rw [es] at k; exact k.no.elim
  | some ob =>
   obtain ⟨ps⟩:=ob
   rw [es] at k
   have k:K1 X.K μ2 H2 (extV st2 l ps q) Q:=k
   obtain ⟨a2,xs,m,h1,ra⟩:=s2.at es
   obtain ⟨a3,ea,m3⟩:=r1.mono x2
   cases ea
   rw [m] at m3; cases m3
   have hbl:=big_line
   cases q with
   | tup ys =>
    have k:K1 X.K μ2 H2 (if ps.length + ys.length ≤ big then some (.non,st2.set l (.lst (ps ++ ys))) else none) Q:=k
    by_cases hb:ps.length + ys.length ≤ big
    ·rw [if_pos hb] at k
     obtain ⟨b,zs,rfl,hz,rz⟩:=r2
     have l1:=ra.length
     have l2:=rz.length
     refine .inr ⟨_,b,xs,zs,rfl,rfl,h1,SqT.of hz,by omega,?_⟩
     have x4:=ext_write s2 m (.lst (xs ++ zs))
     exact K1.done (k.shift x4) (s2.write m (ra.append rz)) rfl
    ·rw [if_neg hb] at k; exact k.no.elim
   | ref j =>
    have k:K1 X.K μ2 H2 (match st2[j]? with
     | some (.lst ys)=>if ps.length + ys.length ≤ big then some (.non,st2.set l (.lst (ps ++ ys))) else none
     | none=>none) Q:=k
    cases ej:st2[j]? with
    | none=>rw [ej] at k; exact k.no.elim
    | some oj =>
     obtain ⟨ys⟩:=oj
     rw [ej] at k
     have k:K1 X.K μ2 H2 (if ps.length + ys.length ≤ big then some (.non,st2.set l (.lst (ps ++ ys))) else none) Q:=k
     by_cases hb:ps.length + ys.length ≤ big
     ·rw [if_pos hb] at k
      obtain ⟨b',zs,mj,hz,rz⟩:=s2.at ej
      obtain ⟨b,rfl,mb⟩:=r2
      rw [mj] at mb; cases mb
      have l1:=ra.length
      have l2:=rz.length
      refine .inl ⟨_,b',xs,zs,rfl,rfl,h1,hz,by omega,?_⟩
      have x4:=ext_write s2 m (.lst (xs ++ zs))
      exact K1.done (k.shift x4) (s2.write m (ra.append rz)) rfl
     ·rw [if_neg hb] at k; exact k.no.elim
   | _=>exact k.no.elim
 | _=>exact k.no.elim
end
end Kw
end
section
set_option Elab.async false
set_option linter.all false
set_option maxRecDepth 100000
set_option maxHeartbeats 4000000
namespace Kw
open PySem PySem.Spec PyProof.Rows L2
noncomputable def tupX:Expr→Bool
 | .Tuple ..=>true
 | _=>false
noncomputable def starX:Expr→Bool
 | .Starred ..=>true
 | _=>false
section
variable {X:Cx} {call:Nat→List PV→Sto→R PV}
theorem sn_asgT {is:List Nat} {e:E} {ts:List Expr} {k:Nat} {tp pos:Pos} {x:Expr} (hnt:tupX x = false) (hg:PG X (.Tuple ts k tp) (gT X.K (.tp is))) (he:PE X x (tE X.K call e)) :
  PS X (.Assign [.Tuple ts k tp] x pos) (tS X.K call (.asg (.tp is) e)) :=
 sn_asg_of (fun _ _ _ z=>z) (ps_asg he hg (by cases x <;> rfl) (by cases x <;> first | rfl | (cases hnt; done)) rfl)
theorem sn_asgN {is:List Nat} {e:E} {ts vs:List Expr} {k k2:Nat} {tp tp2 pos:Pos} (hw:swappedStores [.Tuple ts k tp] (.Tuple vs k2 tp2) X.env = pure none) (hg:PG X (.Tuple ts k tp) (gT X.K (.tp is))) (he:PE X (.Tuple vs k2 tp2) (tE X.K call e)) :
  PS X (.Assign [.Tuple ts k tp] (.Tuple vs k2 tp2) pos) (tS X.K call (.asg (.tp is) e)) :=
 sn_asg_of (fun _ _ _ z=>z) (ps_asg he hg rfl hw rfl)
noncomputable def notLoc (env:Env) (t:Expr):Bool:=match t with
 | .Name x _=>!(decide (env.scope.names.lookup x = some .local))
 | _=>true
theorem sw_no {ts vs:List Expr} {k k2:Nat} {tp tp2:Pos} {env:Env} (h:4 ≤ ts.length ∨ ∃ t ∈ ts,notLoc env t = true):swappedStores [.Tuple ts k tp] (.Tuple vs k2 tp2) env = pure none:=by
 unfold swappedStores
 simp only
 split
 ·rfl
 ·rename_i h1
  split
  ·rfl
  ·have hlen:ts.length = 2 ∨ ts.length = 3:=by
    simp only [Bool.or_eq_true,Bool.not_eq_true',bne_iff_ne,ne_eq,not_or,Bool.not_eq_false] at h1
    simpa using h1.1.1
   obtain ⟨t,ht,hn⟩:∃ t ∈ ts,notLoc env t = true:=by
    rcases h with h | h
    ·omega
    ·exact h
   have lt:∀ (l:List Expr) (f:Expr→Option Str),t ∈ l→f t = none→(l.filterMap f).length < l.length:=by
    intro l f
    induction l with
    | nil=>intro h; cases h
    | cons a r ih =>
     intro hm hf
     have le:=List.length_filterMap_le f r
     rcases List.mem_cons.mp hm with rfl | hm
     ·rw [List.filterMap_cons,hf,List.length_cons]; show (List.filterMap f r).length < _; omega
     ·rw [List.filterMap_cons]
      have:=ih hm hf
      split <;> simp only [List.length_cons] <;> omega
   have:=lt ts (fun
    | .Name id pos=>if env.kindOf id == some .local && pos.line == (ts.head?.map (·.pos.line)).getD 0 then some id else none
    | _=>none) ht (by
     cases t with
     | Name x p =>
      have hx:¬ env.scope.names.lookup x = some .local:=by simpa [notLoc] using hn
      have hk:(env.kindOf x == some NameKind.local) = false:=by
       cases hq:(env.kindOf x == some NameKind.local) with
       | false=>rfl
       | true=>exact absurd (show env.kindOf x = some .local by simpa using hq) hx
      simp only [hk,Bool.false_and,Bool.false_eq_true,if_false]
     | _=>rfl)
   rw [if_pos]
   simp only [Bool.or_eq_true,bne_iff_ne,ne_eq]
   left
   exact Nat.ne_of_lt this
theorem sw2 {x y:Str} {px py pt pt2:Pos} {kt k2:Nat} {a b:Expr} {env:Env} (hk:env.scope.kind = .function) (hx:env.scope.names.lookup x = some .local) (hy:env.scope.names.lookup y = some .local) (hxy:x ≠ y) (hl:(py.line == px.line) = true)
  (sa:starX a = false) (sb:starX b = false) (hf:(foldedForSure 8 a && foldedForSure 8 b) = false) (hc:(constantsAlone 8 a && constantsAlone 8 b) = false) :
  swappedStores [.Tuple [.Name x px,.Name y py] kt pt] (.Tuple [a,b] k2 pt2) env = pure (some [x,y]):=by
 have hb:env.blockKind = .function:=by unfold Env.blockKind; rw [hk]; rfl
 have kx:env.kindOf x = some .local:=hx
 have ky:env.kindOf y = some .local:=hy
 unfold swappedStores
 have hyx:¬ y = x:=fun z=>hxy z.symm
 have hs:([a,b].any fun | .Starred ..=>true | _=>false) = false:=by
  show (starX a || (starX b || false)) = false
  rw [sa,sb]; rfl
 have hf':[a,b].all (foldedForSure 8) = false:=by simpa using hf
 have hc':[a,b].all (constantsAlone 8) = false:=by simpa using hc
 have hlx:((some (Expr.Name x px)).map (·.pos.line)).getD 0 = px.line:=rfl
 simp only [List.length_cons,List.length_nil,hb,hs,hf',hc',List.head?_cons,hlx,List.filterMap_cons,List.filterMap_nil,kx,ky,hl,beq_self_eq_true,Bool.and_self,if_true]
 simp [List.eraseDups_cons,hyx,bne,hxy]
 intro h
 exfalso
 rcases h with h | h
 ·cases a <;> first | (cases h; done) | (cases sa; done)
 ·cases b <;> first | (cases h; done) | (cases sb; done)
theorem sn_par {i j:Nat} {ea eb:E} {x y:Str} {a b:Expr} {px py pt pos pt2:Pos} {kt k2:Nat} (hc:X.calm = true) (hN:X.N.Nodup) (hi:X.N[i]? = some x) (hj:X.N[j]? = some y) (hij:i ≠ j) (hx:X.env.scope.names.lookup x = some .local) (hy:X.env.scope.names.lookup y = some .local)
  (ha:PA X [a,b] (tA X.K call (.cons ea (.cons eb .nil)))) (hw:swappedStores [.Tuple [.Name x px,.Name y py] kt pt] (.Tuple [a,b] k2 pt2) X.env = pure (some [x,y])) :
  PS X (.Assign [.Tuple [.Name x px,.Name y py] kt pt] (.Tuple [a,b] k2 pt2) pos) (tS X.K call (.asg (.tp [i,j]) (.tup (.cons ea (.cons eb .nil))))):=by
 refine PS.imp (ps_par hc hN hi hj hij hx hy ha hw) fun D σ H ⟨μ,L,st,hl,hs,k⟩=>?_
 simp only [exR_nil,exR_cons,exR_asg,evR_tup] at k
 obtain ⟨p,st1,e1,k⟩:=k.split
 cases e2:evs call (.cons ea (.cons eb .nil)) L st with
 | none=>rw [e2] at e1; cases e1
 | some z =>
  obtain ⟨ps,st2⟩:=z
  rw [e2] at e1
  simp only [Option.bind_some] at e1
  by_cases hb:ps.length ≤ big
  ·rw [if_pos hb] at e1
   cases e1
   refine goA hl hs e2 fun vs H1 μ1 x1 hl s1 r1=>?_
   have k:=k.shift x1
   have hlen:ps.length = 2:=by
    simp only [evsR_nil,evsR_cons] at e2
    cases q1:ev call ea L st with
    | none=>rw [q1] at e2; cases e2
    | some z1 =>
     rw [q1] at e2
     simp only [Option.bind_some] at e2
     cases q2:ev call eb L z1.2 with
     | none=>rw [q2] at e2; cases e2
     | some z2 =>
      rw [q2] at e2
      simp only [Option.bind_some] at e2
      cases e2; rfl
   match ps,hlen,r1,k with
   | [p,q],_,r1,k =>
    obtain ⟨v,w,rfl,rv,rw'⟩:=RPs.two_of r1
    exact ⟨v,w,rfl,KS.done k s1 ((hl.set i rv).set j rw')⟩
  ·rw [if_neg hb] at e1; cases e1
theorem sw_comp {elt:Expr} {gs:List Comprehension} {scope:Scope} {p px:Pos} {x:Str} {n:Nat} {env:Env} (hk:env.scope.kind = .function) :
  swapsWith (.ListComp elt gs scope p) (some (.Name x px)) n env = pure (decide (env.scope.names.lookup x = some .local) && (px.line == p.line) && !(scope.names.any fun (n,k)=>n == x && (k == .local || k == .cell))):=by
 have hb:env.blockKind = .function:=by unfold Env.blockKind; rw [hk]; rfl
 have:(env.kindOf x == some .local) = decide (env.scope.names.lookup x = some .local):=by
  rw [Bool.eq_iff_iff]; simp [Env.kindOf]
 unfold swapsWith
 simp only [hb,this]
 rfl
theorem sn_setc {scope:Scope} {own:List Str} {elt tgx it:Expr} {ifx:List Expr} {pos:Pos} {el ite ifs:E} {tg:Tg} {i:Nat} {x:Str} {px spos:Pos} (hc:X.calm = true) (SC:CScope X scope own) (hN:X.N.Nodup) (hx:X.N[i]? = some x) (hlo:X.env.scope.names.lookup x = some .local)
  (htg:tgMin X.N.length tg = true) (hi:PI X.nox tgx it (tI X.K call ite))
  (hblock:∀ fp C s H,PG (cxC X scope own fp C s H) tgx (gT X.K tg)∧PTs (cxC X scope own fp C s H) ifx (tTs X.K call ifs)∧PE (cxC X scope own fp C s H) elt (tE X.K call el))
  (hsw:swapsWith (.ListComp elt [⟨tgx,it,ifx,0⟩] scope pos) (some (.Name x px)) spos.line X.env = pure true)
  (hs0:∀ x,foldedSetIterable it X.env x = pure x):PS X.nox (.Assign [.Name x px] (.ListComp elt [⟨tgx,it,ifx,0⟩] scope pos) spos) (tS X.K call (.asg (.nm i) (.comp el tg X.N.length own.length ite ifs))) :=
 sn_asg_of (X:=X.nox) (fun _ _ _ z=>z) (snd_setcomp hc SC hN hx hlo htg hi hblock hsw hs0)
theorem sn_setf {i:Nat} {e:E} {x:Str} {ex:Expr} {px pos:Pos} (hN:X.N.Nodup) (hi:X.N[i]? = some x) (hx:L2.Loc X.env.scope x) (hf:X.fn x = true ∨ X.env.scope.names.lookup x = some .local) (hc:swapsWith ex (some (.Name x px)) pos.line X.env = pure false) (h:PE X ex (tE X.K call e)) :
  PS X (.Assign [.Name x px] ex pos) (tS X.K call (.asg (.nm i) e)):=sn_asg_of (fun _ _ _ z=>z) (ps_set hN hi hx h hc hf)
end
end Kw
end
section
set_option Elab.async false
set_option linter.all false
set_option maxRecDepth 100000
set_option maxHeartbeats 4000000
namespace Kw
open PySem PySem.Spec PyProof.Rows L2
structure CC where
 N:List Str
 sc:List (Str×NameKind)
 fns:List Str
 fnAll:Bool
noncomputable def isStar:Expr→Bool | .Starred ..=>true | _=>false
noncomputable def isSet:Expr→Bool | .Set ..=>true | _=>false
noncomputable def isSlice:Expr→Bool | .Slice ..=>true | _=>false
noncomputable def isTup:Expr→Bool | .Tuple ..=>true | _=>false
noncomputable def isName:Expr→Bool | .Name ..=>true | _=>false
noncomputable def CC.vis (C:CC) (x:Str):Bool:=match C.sc.lookup x with | some .local=>true | some .cell=>true | some .free=>true | _=>false
noncomputable def CC.gl (C:CC) (x:Str):Bool:=decide (C.sc.lookup x = some .globalImplicit)
noncomputable def CC.loc (C:CC) (x:Str):Bool:=match C.sc.lookup x with | some .local=>true | some .cell=>C.fnAll | _=>false
noncomputable def ownOf:Expr→List Str
 | .Name x _=>[x]
 | .Tuple es _ _=>es.map fun e=>match e with | .Name x _=>x | _=>""
 | _=>[]
noncomputable def relN (outer:List (Str×NameKind)) (names:List (Str×NameKind)):List (Str×NameKind) :=
 names.map fun (n,k)=>if (k == NameKind.free && outer.lookup n == some .cell) then (n,NameKind.cell) else (n,k)
noncomputable def CC.sub (C:CC) (scope:Scope) (own:List Str):CC:=⟨C.N.map (maskN own) ++ own,relN C.sc scope.names,C.fns,false⟩
noncomputable def CC.scOk (C:CC) (scope:Scope) (own:List Str):Bool :=
 decide (scope.kind = .function) && scope.names.all (fun p=>decide (p.2 ≠ .cell)) && scope.names.all (fun p=>decide (p.2 = .local→scope.names.lookup p.1 = some .local)) &&
 scope.names.all (fun p=>decide (p.2 = .free→(C.sc.lookup p.1 = some .cell ∨ C.sc.lookup p.1 = some .free))) && C.N.all (fun x=>if own.contains x then decide (scope.names.lookup (hidN x) = none) else decide (scope.names.lookup x ≠ some .local)) && decide ((C.N.map (maskN own) ++ own).Nodup)
noncomputable def chkV (C:CC) (i:Nat) (x:Str):Bool:=decide (C.N[i]? = some x) && C.vis x && !(x == ("__debug__":Str)) && !(x == ("__classdict__":Str))
noncomputable def vName:Expr→Option (Str×Pos) | .Name x p=>some (x,p) | _=>none
noncomputable def vConst:Expr→Option (Const×Nat×Pos) | .Constant c k p=>some (c,k,p) | _=>none
noncomputable def vBin:Expr→Option (Expr×Operator×Expr×Pos) | .BinOp l o r p=>some (l,o,r,p) | _=>none
noncomputable def vCmp:Expr→Option (Expr×List CmpOp×List Expr×Pos) | .Compare l o r p=>some (l,o,r,p) | _=>none
noncomputable def vBool:Expr→Option (BoolOp×List Expr×Pos) | .BoolOp o xs p=>some (o,xs,p) | _=>none
noncomputable def vUn:Expr→Option (UnaryOp×Expr×Pos) | .UnaryOp o x p=>some (o,x,p) | _=>none
noncomputable def vIf:Expr→Option (Expr×Expr×Expr×Pos) | .IfExp x y z p=>some (x,y,z,p) | _=>none
noncomputable def vTup:Expr→Option (List Expr×Nat×Pos) | .Tuple xs k p=>some (xs,k,p) | _=>none
noncomputable def vLst:Expr→Option (List Expr×Pos) | .List xs p=>some (xs,p) | _=>none
noncomputable def vSub:Expr→Option (Expr×Expr×Pos) | .Subscript x y p=>some (x,y,p) | _=>none
noncomputable def vSlice:Expr→Option (Option Expr×Option Expr×Option Expr×Pos) | .Slice l h k p=>some (l,h,k,p) | _=>none
noncomputable def vCall:Expr→Option (Expr×List Expr×List Keyword×Pos) | .Call f es ks p=>some (f,es,ks,p) | _=>none
noncomputable def vAttr:Expr→Option (Expr×Str×Pos) | .Attribute x m p=>some (x,m,p) | _=>none
noncomputable def vComp:Expr→Option (Expr×List Comprehension×Scope×Pos) | .ListComp e gs s p=>some (e,gs,s,p) | _=>none
section
variable {x:Expr}
theorem vName_eq {a b} (h:vName x = some (a,b)):x = .Name a b:=by cases x <;> cases h; rfl
theorem vConst_eq {a b c} (h:vConst x = some (a,b,c)):x = .Constant a b c:=by cases x <;> cases h; rfl
theorem vBin_eq {a b c d} (h:vBin x = some (a,b,c,d)):x = .BinOp a b c d:=by cases x <;> cases h; rfl
theorem vCmp_eq {a b c d} (h:vCmp x = some (a,b,c,d)):x = .Compare a b c d:=by cases x <;> cases h; rfl
theorem vBool_eq {a b c} (h:vBool x = some (a,b,c)):x = .BoolOp a b c:=by cases x <;> cases h; rfl
theorem vUn_eq {a b c} (h:vUn x = some (a,b,c)):x = .UnaryOp a b c:=by cases x <;> cases h; rfl
theorem vIf_eq {a b c d} (h:vIf x = some (a,b,c,d)):x = .IfExp a b c d:=by cases x <;> cases h; rfl
theorem vTup_eq {a b c} (h:vTup x = some (a,b,c)):x = .Tuple a b c:=by cases x <;> cases h; rfl
theorem vLst_eq {a b} (h:vLst x = some (a,b)):x = .List a b:=by cases x <;> cases h; rfl
theorem vSub_eq {a b c} (h:vSub x = some (a,b,c)):x = .Subscript a b c:=by cases x <;> cases h; rfl
theorem vSlice_eq {a b c d} (h:vSlice x = some (a,b,c,d)):x = .Slice a b c d:=by cases x <;> cases h; rfl
theorem vCall_eq {a b c d} (h:vCall x = some (a,b,c,d)):x = .Call a b c d:=by cases x <;> cases h; rfl
theorem vAttr_eq {a b c} (h:vAttr x = some (a,b,c)):x = .Attribute a b c:=by cases x <;> cases h; rfl
theorem vComp_eq {a b c d} (h:vComp x = some (a,b,c,d)):x = .ListComp a b c d:=by cases x <;> cases h; rfl
end
noncomputable def chkNm (C:CC) (i:Nat) (e:Expr):Bool:=match vName e with
 | some q=>decide (C.N[i]? = some q.1) && C.loc q.1
 | none=>false
noncomputable def chkNs (C:CC):List Nat→List Expr→Bool
 | [],es=>es.isEmpty
 | i :: is,es=>match es with
  | []=>false
  | e :: es=>chkNm C i e && chkNs C is es
noncomputable def chkTg (C:CC):Tg→Expr→Bool
 | .nm i,e=>chkNm C i e
 | .tp is,e=>match vTup e with
  | some q=>chkNs C is q.1
  | none=>false
theorem chkNm_of {C:CC} {i:Nat} {e:Expr} (h:chkNm C i e = true):∃ x p,e = .Name x p∧C.N[i]? = some x∧C.loc x = true:=by
 unfold chkNm at h
 cases ee:vName e with
 | none=>rw [ee] at h; exact (Bool.false_ne_true h).elim
 | some q =>
  rw [ee] at h
  have h:=(Bool.and_eq_true _ _).mp h
  exact ⟨q.1,q.2,vName_eq ee,of_decide_eq_true h.1,h.2⟩
noncomputable def bRest (op:BoolOp) (y:Expr) (r:List Expr) (p:Pos):Expr:=match r with
 | []=>y
 | z :: r=>.BoolOp op (y :: z :: r) p
noncomputable def chkIfO (f:Expr→Bool) (no:Bool):Option Expr→Bool
 | none=>no
 | some x=>!no && f x
noncomputable def isKw:E→Expr→Bool
 | .non,x=>(match vConst x with | some (.none,_,_)=>true | _=>false)
 | .bl b,x=>(match vConst x with | some (.bool c,_,_)=>decide (b = c) | _=>false)
 | _,_=>false
noncomputable def isM1:Option Expr→Bool
 | some y=>(match vUn y with | some (o,z,_)=>decide (.USub = o) && (match vConst z with | some (.int j,_,_)=>decide (1 = j) | _=>false) | none=>false)
 | none=>false
noncomputable def chkTyN (C:CC) (t:Ty) (x:Expr):Bool:=match vName x with
 | some (y,_)=>decide (y = Str.ofString (tyName t)) && C.gl y
 | none=>false
noncomputable def chkTys (C:CC):List Ty→Expr→Bool
 | [t],x=>chkTyN C t x
 | _,_=>false
noncomputable def isTwo:E→Bool
 | .tup (.cons _ (.cons _ .nil))=>true
 | _=>false
noncomputable def partsOf:E→E
 | .tup es=>es
 | e=>e
noncomputable def isCompE:E→Bool
 | .comp ..=>true
 | _=>false
noncomputable def isIt:E→Bool
 | .rng _=>true | .rng2 _ _=>true | .zip _ _=>true | .enum _=>true | .revr _=>true | .rev _=>true
 | _=>false
noncomputable def mfName:MF→String | .append=>"append" | .extend=>"extend"
noncomputable def fnNm (C:CC) (s:String) (x:Expr):Bool:=match vName x with
 | some (y,_)=>decide (y = Str.ofString s) && C.gl y
 | none=>false
mutual
noncomputable def chkE (C:CC):E→Expr→Bool
 | .var i,x=>(match vName x with | some (n,_)=>chkV C i n | none=>false)
 | .int i,x=>(match vConst x with | some (.int j,_,_)=>decide (i = j) | _=>false)
 | .bl i,x=>(match vConst x with | some (.bool j,_,_)=>decide (i = j) | _=>false)
 | .non,x=>(match vConst x with | some (.none,_,_)=>true | _=>false)
 | .str i,x=>(match vConst x with | some (.str j,_,_)=>decide (Str.ofString i = j) | _=>false)
 | .bin op a b,x=>(match vBin x with | some (l,o,r,_)=>decide (bopOf op = o) && (chkE C a l && chkE C b r) | none=>false)
 | .cmp op a b,x=>(match vCmp x with | some (l,[o],[r],_)=>decide (copOf op = o) && (!isSet r && (chkE C a l && chkE C b r)) | _=>false)
 | .is k a c,x=>(match vCmp x with | some (l,[o],[r],_)=>decide ((if k then .IsNot else .Is) = o) && (isKw c r && chkE C a l) | _=>false)
 | .chain o p a b c,x=>(match vCmp x with | some (l,[o',p'],[r,q],_)=>decide (copOf o = o') && (decide (copOf p = p') && (!isSet r && (!isSet q && (chkE C a l && (chkE C b r && chkE C c q))))) | _=>false)
 | .sl a lo hi,x=>(match vSub x with | some (u,v,_)=>(match vSlice v with | some (l,h,k,_)=>k.isNone && (chkE C a u && (chkIfO (fun y=>chkE C lo y) (isNo lo) l && chkIfO (fun y=>chkE C hi y) (isNo hi) h)) | none=>false) | none=>false)
 | .turn a,x=>(match vSub x with | some (u,v,_)=>(match vSlice v with | some (l,h,k,_)=>l.isNone && (h.isNone && (isM1 k && chkE C a u)) | none=>false) | none=>false)
 | .and a b,x=>(match vBool x with | some (o,u :: v :: r,p)=>decide (.And = o) && (chkE C a u && chkE C b (bRest .And v r p)) | _=>false)
 | .or a b,x=>(match vBool x with | some (o,u :: v :: r,p)=>decide (.Or = o) && (chkE C a u && chkE C b (bRest .Or v r p)) | _=>false)
 | .not a,x=>(match vUn x with | some (o,y,_)=>decide (.Not = o) && chkE C a y | none=>false)
 | .neg a,x=>(match vUn x with | some (o,y,_)=>decide (.USub = o) && chkE C a y | none=>false)
 | .ite c a b,x=>(match vIf x with | some (u,v,w,_)=>chkE C c u && (chkE C a v && chkE C b w) | none=>false)
 | .tup es,x=>(match vTup x with | some (xs,_,_)=>chkL C es xs | none=>false)
 | .lst es,x=>(match vLst x with | some (xs,_)=>chkL C es xs | none=>false)
 | .ix a i,x=>(match vSub x with | some (u,v,_)=>!isSlice v && (chkE C a u && chkE C i v) | none=>false)
 | .call f as,x=>(match vCall x with | some (fx,e :: es,[],_)=>(match vName fx with | some (y,_)=>decide (C.fns[f]? = some y) && (C.gl y && (!(y == ("__debug__":Str)) && chkL C as (e :: es))) | none=>false) | _=>false)
 | .blt f as,x=>(match vCall x with | some (fx,e :: es,[],_)=>fnNm C (bfName f) fx && chkL C as (e :: es) | _=>false)
 | .isi a ts,x=>(match vCall x with | some (fx,[e,t],[],_)=>fnNm C "isinstance" fx && (chkTys C ts t && (!isStar e && chkE C a e)) | _=>false)
 | .meth f o a,x=>(match vCall x with | some (fx,[e],[],q)=>(match vAttr fx with | some (y,m,p)=>decide (m = Str.ofString (mfName f)) && (isName y && ((p.endLine == q.line) && (!isStar e && (chkE C o y && chkE C a e)))) | none=>false) | _=>false)
 | .comp el tg n m it ifs,x=>(match vComp x with | some (elt,[⟨tgx,itx,ifx,asy⟩],scope,_)=>decide (asy = 0) && (decide (n = C.N.length) && (decide (m = (ownOf tgx).length) && (C.scOk scope (ownOf tgx) && (tgMin n tg && (chkTg (C.sub scope (ownOf tgx)) tg tgx &&
   ((if isIt it then chkI C it itx tgx else (!isSet itx && chkE C it itx)) && (chkTs (C.sub scope (ownOf tgx)) ifs ifx && chkE (C.sub scope (ownOf tgx)) el elt))))))) | _=>false)
 | _,_=>false
noncomputable def chkL (C:CC):E→List Expr→Bool
 | .nil,xs=>xs.isEmpty
 | .cons e es,xs=>(match xs with | x :: xs=>!isStar x && (chkE C e x && chkL C es xs) | []=>false)
 | _,_=>false
noncomputable def chkTs (C:CC):E→List Expr→Bool
 | .nil,xs=>xs.isEmpty
 | .cons e es,xs=>(match xs with | x :: xs=>chkE C e x && chkTs C es xs | []=>false)
 | _,_=>false
noncomputable def chkI (C:CC):E→Expr→Expr→Bool
 | .rng a,x,_=>(match vCall x with | some (fx,[y],[],_)=>fnNm C "range" fx && (!isStar y && chkE C a y) | _=>false)
 | .zip a b,x,t=>(match vCall x with | some (fx,[y,z],[],_)=>isTup t && (fnNm C "zip" fx && (!isStar y && (!isStar z && (chkE C a y && chkE C b z)))) | _=>false)
 | _,_,_=>false
end
noncomputable def chkIt (C:CC) (it:E) (x t:Expr):Bool:=if isIt it then chkI C it x t else (!isSet x && chkE C it x)
noncomputable def swapOk (C:CC) (is:List Nat) (ts:List Expr) (vs:List Expr):Bool:=match is,ts,vs with
 | [i,j],[tx,ty],[a,b]=>(match vName tx,vName ty with
  | some (x,px),some (y,py)=>decide (C.N[i]? = some x) && (decide (C.N[j]? = some y) && (decide (i ≠ j) && (decide (x ≠ y) && (decide (C.sc.lookup x = some .local) && (decide (C.sc.lookup y = some .local) && ((py.line == px.line) && (!isStar a && (!isStar b && (!(foldedForSure 8 a && foldedForSure 8 b) && !(constantsAlone 8 a && constantsAlone 8 b))))))))))
  | _,_=>false)
 | _,_,_=>false
noncomputable def noSwap (C:CC) (ts:List Expr):Bool:=decide (4 ≤ ts.length) || ts.any fun t=>match t with
 | .Name x _=>!(decide (C.sc.lookup x = some .local))
 | _=>true
noncomputable def swC (C:CC) (x:Str) (px:Pos) (scope:Scope) (p:Pos):Bool:=decide (C.sc.lookup x = some .local) && (px.line == p.line) && !(scope.names.any fun (n,k)=>n == x && (k == .local || k == .cell))
noncomputable def chkS (C:CC):S→Stmt→Bool
 | .asg (.nm i) e,.Assign [t] y _=>(match vName t with
  | some (x,px)=>decide (C.N[i]? = some x) && (C.loc x && (match vComp y with
   | some (_,_,scope,p)=>chkE C e y && (!(swC C x px scope p) || isCompE e)
   | none=>!isComp y && chkE C e y))
  | none=>false)
 | .asg (.tp is) e,.Assign [t] y _=>(match vTup t with
  | some (ts,_,_)=>(match vTup y with
   | some (vs,_,_)=>if noSwap C ts then chkTg C (.tp is) t && chkE C e y else swapOk C is ts vs && (isTwo e && chkL C (partsOf e) vs)
   | none=>chkTg C (.tp is) t && chkE C e y)
  | none=>false)
 | .aug i op e,.AugAssign t o y _=>(match vName t with | some (x,_)=>decide (C.N[i]? = some x) && (C.loc x && (decide (bopOf op = o) && ((decide (op = .add) || decide (op = .sub)) && chkE C e y))) | none=>false)
 | .setix o i e,.Assign [t] z _=>(match vSub t with | some (x,y,_)=>!isComp z && (!isSlice y && (chkE C o x && (chkE C i y && chkE C e z))) | none=>false)
 | .ret e,.Return (some x) _=>chkE C e x
 | .retN,.Return none _=>true
 | .expr e,.Expr x _=>!isComp x && chkE C e x
 | .pass,.Pass _=>true
 | .brk,.Break _=>true
 | .cont,.Continue _=>true
 | _,_=>false
noncomputable def vIfS:Stmt→Option (Expr×List Stmt×List Stmt×Pos) | .If x a b p=>some (x,a,b,p) | _=>none
noncomputable def vFor:Stmt→Option (Expr×Expr×List Stmt×List Stmt×Pos) | .For t x a b p=>some (t,x,a,b,p) | _=>none
theorem vIfS_eq {x:Stmt} {a b c d} (h:vIfS x = some (a,b,c,d)):x = .If a b c d:=by cases x <;> cases h; rfl
theorem vFor_eq {x:Stmt} {a b c d e} (h:vFor x = some (a,b,c,d,e)):x = .For a b c d e:=by cases x <;> cases h; rfl
mutual
noncomputable def chkS1 (C:CC):S→Stmt→Bool
 | .ife c a b,x=>(match vIfS x with | some (t,xa,xb,_)=>chkE C c t && (chkB C a xa && chkB C b xb) | none=>false)
 | .whl _ _,_=>false
 | .for_ tg it b,x=>(match vFor x with | some (t,y,xb,[],_)=>chkIt C it y t && (chkTg C tg t && chkB C b xb) | _=>false)
 | .nil,_=>false
 | .cons _ _,_=>false
 | .asg t e,x=>chkS C (.asg t e) x
 | .setix o i e,x=>chkS C (.setix o i e) x
 | .aug _ _ _,_=>false
 | .ret e,x=>chkS C (.ret e) x
 | .retN,x=>chkS C .retN x
 | .expr e,x=>chkS C (.expr e) x
 | .pass,x=>chkS C .pass x
 | .brk,x=>chkS C .brk x
 | .cont,x=>chkS C .cont x
noncomputable def chkB (C:CC):S→List Stmt→Bool
 | .nil,xs=>xs.isEmpty
 | .cons s r,xs=>(match xs with | x :: xs=>chkS1 C s x && chkB C r xs | []=>false)
 | _,_=>false
end
noncomputable def bltNames:List String:=["len","abs","int","sum","all","any","min","max","tuple","list","isinstance","range","zip","bool","str","enumerate"]
structure Good (X:Cx) (C:CC) (call:Nat→List PV→Sto→R PV) (n:Nat):Prop where
 N:X.N = C.N
 sc:X.env.scope.names = C.sc
 kind:X.env.scope.kind = .function
 nd:C.N.Nodup
 calm:X.calm = true
 fn:C.fnAll = true→∀ x,X.fn x = true
 room:Room n X.A
 fns:∀ (f:Nat) (x:Str),C.fns[f]? = some x→∃ fa fd ps,X.mg x = some (.ref fa)∧PySem.W.keepIn X.K (.ref fa) = true∧Binds X.K fd ps []∧FnOk X.prog X.w X.K X.mg X.base CX0 n fa fd ps (spF X.K call f)
 blt:∀ b ∈ bltNames,X.mg (Str.ofString b) = none
section
variable {X:Cx} {C:CC} {call:Nat→List PV→Sto→R PV} {n:Nat}
theorem star_ok {x:Expr} {xs:List Expr} {env:Env} (h:isStar x = false):starEach (x :: xs) env = (false,eval x env) :: starEach xs env:=by
 cases x <;> first | rfl | (cases h; done)
theorem nof {P:Prop} (h:false = true):P:=Bool.noConfusion h
theorem b2 {a b:Bool} (h:(a && b) = true):a = true∧b = true:=by simpa using h
theorem nb {a:Bool} (h:(!a) = true):a = false:=by simpa using h
theorem de {p:Prop} [Decidable p] (h:decide p = true):p:=by simpa using h
theorem star_any:∀ (xs:List Expr) {as:E} {env:Env} {pos:Pos},chkL C as xs = true→(backTo pos (starEach xs env)).any (·.1) = false
 | [],_,_,_,_=>rfl
 | x :: xs,as,env,pos,h=>by
  cases as with
  | cons e es =>
   have h:=b2 h
   rw [star_ok (nb h.1)]
   show (false || (backTo pos (starEach xs env)).any (·.1)) = false
   rw [star_any xs (b2 h.2).2]; rfl
  | _=>exact nof h
theorem plain_ix {y:Expr} (h:isSlice y = false):PlainIx y:=by
 intro o i
 cases y <;> first | rfl | (cases h; done)
theorem set_ok {x:Expr} {env:Env} (h:isSet x = false):∀ v,foldedSetIterable x env v = pure v:=by
 intro v
 cases x <;> first | rfl | (cases h; done)
theorem marks_ok {x:Expr} {op:CmpOp} (h:isSet x = false):behindInMarks op x = false:=by
 cases x <;> first | rfl | (cases h; done)
theorem Good.vis (G:Good X C call n) {x:Str} (h:C.vis x = true):Vis X.env.scope x:=by
 unfold CC.vis at h
 unfold Vis
 rw [G.sc]
 split at h
 ·rename_i e; exact .inl e
 ·rename_i e; exact .inr (.inl e)
 ·rename_i e; exact .inr (.inr e)
 ·cases h
theorem Good.gl (G:Good X C call n) {x:Str} (h:C.gl x = true):Gl X x:=by
 have:C.sc.lookup x = some .globalImplicit:=by simpa [CC.gl] using h
 show X.env.scope.names.lookup x = _
 rw [G.sc]; exact this
theorem Good.loc (G:Good X C call n) {x:Str} (h:C.loc x = true):L2.Loc X.env.scope x∧(X.fn x = true ∨ X.env.scope.names.lookup x = some .local):=by
 unfold CC.loc at h
 unfold L2.Loc
 rw [G.sc]
 split at h
 ·rename_i e; exact ⟨.inl e,.inr e⟩
 ·rename_i e; exact ⟨.inr e,.inl (G.fn h x)⟩
 ·cases h
theorem pw_of {op:BoolOp} {vs:List Expr} {p:Pos} {t:TT} (h:PT X (.BoolOp op vs p) t):PW X (.BoolOp op vs p) t:=fun w pins s σ H Q I q=>h pins s σ H Q I q
theorem chk_ns (G:Good X C call n):∀ {is:List Nat} {es:List Expr},chkNs C is es = true→PGs X.nox es (gTs is)∧(assignEach es X.env).length = is.length∧(assignEach es X.env).findIdx? (·.1) = none
 | [],[],_=>⟨pgs_nil,rfl,rfl⟩
 | i :: is,e :: es,h=>by
  have h:=(Bool.and_eq_true _ _).mp h
  obtain ⟨x,p,rfl,hx,hl⟩:=chkNm_of h.1
  obtain ⟨h1,h2,h3⟩:=chk_ns G h.2
  obtain ⟨l1,l2⟩:=G.loc hl
  refine ⟨pgs_cons (pg_name (by show X.N.Nodup; rw [G.N]; exact G.nd) (by show X.N[i]? = _; rw [G.N]; exact hx) l1 l2) h1 rfl,?_,?_⟩
  ·show (assignEach es X.env).length + 1 = is.length + 1
   rw [h2]
  ·show ((false,assign (.Name x p) X.env) :: assignEach es X.env).findIdx? (·.1) = none
   rw [List.findIdx?_cons]
   simp [h3]
 | [],_ :: _,h=>(Bool.false_ne_true h).elim
 | i :: is,[],h=>(Bool.false_ne_true h).elim
theorem chk_tg (G:Good X C call n) {tg:Tg} {t:Expr} (h:chkTg C tg t = true):PG X.nox t (gT X.K tg):=by
 cases tg with
 | nm i =>
  obtain ⟨x,p,rfl,hx,hl⟩:=chkNm_of h
  obtain ⟨l1,l2⟩:=G.loc hl
  exact pg_name (by show X.N.Nodup; rw [G.N]; exact G.nd) (by show X.N[i]? = _; rw [G.N]; exact hx) l1 l2
 | tp is =>
  have h:(match vTup t with | some q=>chkNs C is q.1 | none=>false) = true:=h
  cases ee:vTup t with
  | none=>rw [ee] at h; exact (Bool.false_ne_true h).elim
  | some q =>
   rw [ee] at h
   have ee:=vTup_eq (a:=q.1) (b:=q.2.1) (c:=q.2.2) ee
   subst ee
   obtain ⟨h1,h2,h3⟩:=chk_ns G h
   exact pg_tup (X:=X.nox) G.calm h1 h2 h3
theorem Good.sub (G:Good X C call n) {scope:Scope} {own:List Str} (h:C.scOk scope own = true):CScope X scope own∧∀ fp D s H,Good (cxC X scope own fp D s H) (C.sub scope own) call n:=by
 simp only [CC.scOk,Bool.and_eq_true,decide_eq_true_eq,List.all_eq_true] at h
 obtain ⟨⟨⟨⟨⟨h1,h2⟩,h3⟩,h4⟩,h5⟩,h6⟩:=h
 refine ⟨⟨h1,fun p hp=>by simpa using h2 p hp,fun p hp=>by simpa using h3 p hp,fun p hp hk=>?_,fun x hx hw=>?_,fun x hx hw=>?_⟩,fun fp D s H=>⟨?_,?_,h1,h6,G.calm,(fun z=>Bool.noConfusion z),G.room,G.fns,G.blt⟩⟩
 ·have:=h4 p hp
  show X.env.scope.names.lookup p.1 = _ ∨ X.env.scope.names.lookup p.1 = _
  rw [G.sc]; exact this hk
 ·have:=h5 x (by rw [← G.N]; exact hx)
  rw [if_neg (by rw [hw]; exact Bool.false_ne_true)] at this
  exact de this
 ·have:=h5 x (by rw [← G.N]; exact hx)
  rw [if_pos hw] at this
  exact de this
 ·show X.N.map (maskN own) ++ own = C.N.map (maskN own) ++ own
  rw [G.N]
 ·show (relabel scope X.env).names = relN C.sc scope.names
  unfold relabel relN
  simp only
  refine List.map_congr_left fun p hp=>?_
  obtain ⟨nm,kd⟩:=p
  show (if (kd == NameKind.free && X.env.scope.kind == .function && X.env.scope.names.lookup nm == some .cell) = true then (nm,NameKind.cell) else (nm,kd)) = _
  rw [G.kind,G.sc]
  simp
theorem snd_isNT {k:Bool} {a:E} {l:Expr} {j pos pos'} (ha:PE X l (tE X.K call a)):PT X (.Compare l [if k then .IsNot else .Is] [.Constant .none j pos'] pos) (tT X.K call (.is k a .non)):=by
 have rp:∀ {μ:List Addr} {H:Hp} {p:PV} {v:V},RP X.K μ H p v→decide (v = .non) = decide (p = .non):=fun {μ H p v} r=>by
  cases p <;> first
   | (cases (show v = _ from r); simp)
   | (obtain ⟨a,_,rfl,_⟩:=r; simp)
   | (obtain ⟨a,rfl,_⟩:=r; simp)
 have go:∀ σ H Q,tT X.K call (.is k a .non) σ H Q→tE X.K call a σ H fun v H1=>Q (k != decide (v = .non)) H1:=fun σ H Q ⟨μ,L,st,hl,hs,kk⟩=>by
  rw [evT_plain rfl] at kk
  simp only [evR_non,evR_is] at kk
  obtain ⟨z,stz,e0,kk⟩:=kk.split
  cases e1:ev call a L st with
  | none=>rw [e1] at e0; cases e0
  | some w =>
   obtain ⟨p,st1⟩:=w
   rw [e1] at e0
   simp only [Option.bind_some] at e0
   cases e0
   refine go1 hl hs e1 fun v H1 μ1 x1 hl s1 r1=>?_
   rw [rp r1]
   obtain ⟨_,_,e2,q⟩:=kk.shift x1
   cases e2
   exact q _ H1 μ1 (Ext.refl _ _) s1 rfl
 cases k with
 | true=>exact PT.imp (pt_cmp (pc_notN ha)) fun σ H Q h=>(by
   obtain ⟨μ,L,st,hl,hs,r,st',e,q⟩:=go σ H Q h
   exact ⟨μ,L,st,hl,hs,r,st',e,fun v H' μ' x s' r'=>⟨_,rfl,by simpa using q v H' μ' x s' r'⟩⟩)
 | false=>exact PT.imp (pt_cmp (pc_isN ha)) fun σ H Q h=>(by
   obtain ⟨μ,L,st,hl,hs,r,st',e,q⟩:=go σ H Q h
   exact ⟨μ,L,st,hl,hs,r,st',e,fun v H' μ' x s' r'=>⟨_,rfl,by simpa using q v H' μ' x s' r'⟩⟩)
theorem snd_isBT {k b:Bool} {a:E} {l:Expr} {j pos pos'} (ha:PE X l (tE X.K call a)):PT X (.Compare l [if k then .IsNot else .Is] [.Constant (.bool b) j pos'] pos) (tT X.K call (.is k a (.bl b))):=by
 have go:∀ σ H Q,tT X.K call (.is k a (.bl b)) σ H Q→tE X.K call a σ H fun v H1=>Q (k != decide (v = .bl b)) H1:=fun σ H Q ⟨μ,L,st,hl,hs,kk⟩=>by
  rw [evT_plain rfl] at kk
  simp only [evR_bl,evR_is] at kk
  obtain ⟨z,stz,e0,kk⟩:=kk.split
  cases e1:ev call a L st with
  | none=>rw [e1] at e0; cases e0
  | some w =>
   obtain ⟨p,st1⟩:=w
   rw [e1] at e0
   simp only [Option.bind_some] at e0
   cases e0
   refine go1 hl hs e1 fun v H1 μ1 x1 hl s1 r1=>?_
   rw [rp_bl r1]
   obtain ⟨_,_,e2,q⟩:=kk.shift x1
   cases e2
   exact q _ H1 μ1 (Ext.refl _ _) s1 rfl
 cases k with
 | true=>exact PT.imp (pt_cmp (pc_notB ha)) fun σ H Q h=>(by
   obtain ⟨μ,L,st,hl,hs,r,st',e,q⟩:=go σ H Q h
   exact ⟨μ,L,st,hl,hs,r,st',e,fun v H' μ' x s' r'=>⟨_,rfl,by simpa using q v H' μ' x s' r'⟩⟩)
 | false=>exact PT.imp (pt_cmp (pc_isB ha)) fun σ H Q h=>(by
   obtain ⟨μ,L,st,hl,hs,r,st',e,q⟩:=go σ H Q h
   exact ⟨μ,L,st,hl,hs,r,st',e,fun v H' μ' x s' r'=>⟨_,rfl,by simpa using q v H' μ' x s' r'⟩⟩)
theorem pt_ite {c a b:Expr} {pos:Pos} {tc ta tb:TT} (hc:PT X c tc) (ha:PT X a ta) (hb:PT X b tb):PT X (.IfExp c a b pos) (fun σ H Q=>tc σ H fun r H1=>if r = true then ta σ H1 Q else tb σ H1 Q):=by
 intro pins s σ H Q I h
 show wpAny _ _ (isTrue c X.env (eval c X.env) >>= fun r=>if r = true then isTrue a X.env (eval a X.env) else isTrue b X.env (eval b X.env)) _ _ s
 refine wpAny_bind (thn (hc pins s σ H _ I h) fun r s1 ⟨H1,I1,q1⟩=>?_)
 cases r with
 | true=>exact ha pins s1 σ H1 Q I1 (by simpa using q1)
 | false=>exact hb pins s1 σ H1 Q I1 (by simpa using q1)
theorem snd_iteT {c a b:E} {x y z:Expr} {pos:Pos} (hc:PT X x (tT X.K call c)) (ha:PT X y (tT X.K call a)) (hb:PT X z (tT X.K call b)):PT X (.IfExp x y z pos) (tT X.K call (.ite c a b)):=by
 refine PT.imp (pt_ite hc ha hb) fun σ H Q ⟨μ,L,st,hl,hs,k⟩=>?_
 simp only [evTR_ite] at k
 obtain ⟨p,st1,e1,k⟩:=k.split
 refine goT hl hs e1 fun H1 μ1 x1 hl s1=>?_
 have k:=k.shift x1
 cases p with
 | true=>exact ⟨μ1,L,st1,hl,s1,by simpa using k⟩
 | false=>exact ⟨μ1,L,st1,hl,s1,by simpa using k⟩
end
end Kw
end
section
set_option Elab.async false
set_option linter.all false
set_option maxRecDepth 100000
set_option maxHeartbeats 4000000
namespace Kw
open PySem PySem.Spec PyProof.Rows L2
noncomputable def OkE (X:Cx) (C:CC) (call:Nat→List PV→Sto→R PV) (e:E):Prop:=∀ x,chkE C e x = true→PE X.nox x (tE X.K call e)
noncomputable def OkT (X:Cx) (C:CC) (call:Nat→List PV→Sto→R PV) (e:E):Prop:=∀ x,chkE C e x = true→PT X.nox x (tT X.K call e)
noncomputable def OkL (X:Cx) (C:CC) (call:Nat→List PV→Sto→R PV) (e:E):Prop:=∀ xs,chkL C e xs = true→PA X.nox xs (tA X.K call e)
noncomputable def OkTs (X:Cx) (C:CC) (call:Nat→List PV→Sto→R PV) (e:E):Prop:=∀ xs,chkTs C e xs = true→PTs X.nox xs (tTs X.K call e)
noncomputable def OkI (X:Cx) (C:CC) (call:Nat→List PV→Sto→R PV) (e:E):Prop:=∀ x t,chkI C e x t = true→PI X.nox t x (tI X.K call e)∧∀ v,foldedSetIterable x X.env v = pure v
structure Ok (call:Nat→List PV→Sto→R PV) (n:Nat) (a:E):Prop where
 e:∀ {X:Cx} {C:CC},Good X C call n→OkE X C call a
 t:∀ {X:Cx} {C:CC},Good X C call n→OkT X C call a
 l:∀ {X:Cx} {C:CC},Good X C call n→OkL X C call a
 ts:∀ {X:Cx} {C:CC},Good X C call n→OkTs X C call a
 i:∀ {X:Cx} {C:CC},Good X C call n→OkI X C call a
section
variable {X:Cx} {C:CC} {call:Nat→List PV→Sto→R PV} {n:Nat}
theorem fn_nm (G:Good X C call n) {s:String} {x:Expr} (h:fnNm C s x = true):∃ p,x = .Name (Str.ofString s) p∧Gl X (Str.ofString s):=by
 unfold fnNm at h
 split at h
 ·rename_i y p e
  have h:=b2 h
  have e1:=de h.1
  subst e1
  exact ⟨p,vName_eq e,G.gl h.2⟩
 ·cases h
theorem kE_var (G:Good X C call n) {i:Nat}:OkE X C call (.var i):=by
 intro x h
 have h:(match vName x with | some (n,_)=>chkV C i n | none=>false) = true:=h
 split at h
 ·rename_i y p e
  rw [vName_eq e]
  have h:=b2 h; have h1:=b2 h.1; have h2:=b2 h1.1
  exact snd_var (X:=X.nox) (by show X.N[i]? = _; rw [G.N]; exact de h2.1) (G.vis h2.2) (nb h1.2) (nb h.2)
 ·cases h
theorem kE_int {i:Int}:OkE X C call (.int i):=by
 intro x h
 have h:(match vConst x with | some (.int j,_,_)=>decide (i = j) | _=>false) = true:=h
 split at h
 ·rename_i j _ _ e
  rw [vConst_eq e,← de h]; exact snd_int (X:=X.nox)
 ·cases h
theorem kE_bl {i:Bool}:OkE X C call (.bl i):=by
 intro x h
 have h:(match vConst x with | some (.bool j,_,_)=>decide (i = j) | _=>false) = true:=h
 split at h
 ·rename_i j _ _ e
  rw [vConst_eq e,← de h]; exact snd_bl (X:=X.nox)
 ·cases h
theorem kE_non:OkE X C call .non:=by
 intro x h
 have h:(match vConst x with | some (.none,_,_)=>true | _=>false) = true:=h
 split at h
 ·rename_i e
  rw [vConst_eq e]; exact snd_non (X:=X.nox)
 ·cases h
theorem kE_str {i:String}:OkE X C call (.str i):=by
 intro x h
 have h:(match vConst x with | some (.str j,_,_)=>decide (Str.ofString i = j) | _=>false) = true:=h
 split at h
 ·rename_i j _ _ e
  rw [vConst_eq e,← de h]; exact snd_str (X:=X.nox)
 ·cases h
theorem kE_bin {op:BOp} {a b:E} (ha:OkE X C call a) (hb:OkE X C call b):OkE X C call (.bin op a b):=by
 intro x h
 have h:(match vBin x with | some (l,o,r,_)=>decide (bopOf op = o) && (chkE C a l && chkE C b r) | none=>false) = true:=h
 split at h
 ·rename_i l o r p e
  rw [vBin_eq e]
  have h:=b2 h; have h1:=b2 h.2
  rw [← de h.1]
  exact snd_bin (X:=X.nox) (ha l h1.1) (hb r h1.2)
 ·cases h
theorem cmp_in {op:COp} {a b:E} {x:Expr} (h:chkE C (.cmp op a b) x = true):∃ l r p,x = .Compare l [copOf op] [r] p∧isSet r = false∧chkE C a l = true∧chkE C b r = true:=by
 have h:(match vCmp x with | some (l,[o],[r],_)=>decide (copOf op = o) && (!isSet r && (chkE C a l && chkE C b r)) | _=>false) = true:=h
 split at h
 ·rename_i l o r p e
  have h:=b2 h; have h1:=b2 h.2; have h2:=b2 h1.2
  exact ⟨l,r,p,by rw [vCmp_eq e,de h.1],nb h1.1,h2.1,h2.2⟩
 ·cases h
theorem is_in {k:Bool} {a c:E} {x:Expr} (h:chkE C (.is k a c) x = true):∃ l j p' p,((c = .non∧x = .Compare l [if k then .IsNot else .Is] [.Constant .none j p'] p) ∨ ∃ b,c = .bl b∧x = .Compare l [if k then .IsNot else .Is] [.Constant (.bool b) j p'] p)∧chkE C a l = true:=by
 have h:(match vCmp x with | some (l,[o],[r],_)=>decide ((if k then .IsNot else .Is) = o) && (isKw c r && chkE C a l) | _=>false) = true:=h
 split at h
 ·rename_i l o r p e
  have h:=b2 h; have h1:=b2 h.2
  have hc:=h1.1
  cases c with
  | non =>
   have hc:(match vConst r with | some (.none,_,_)=>true | _=>false) = true:=hc
   split at hc
   ·rename_i j p' e2
    exact ⟨l,j,p',p,.inl ⟨rfl,by rw [vCmp_eq e,de h.1,vConst_eq e2]⟩,h1.2⟩
   ·cases hc
  | bl b =>
   have hc:(match vConst r with | some (.bool c,_,_)=>decide (b = c) | _=>false) = true:=hc
   split at hc
   ·rename_i c j p' e2
    exact ⟨l,j,p',p,.inr ⟨b,rfl,by rw [vCmp_eq e,de h.1,vConst_eq e2,de hc]⟩,h1.2⟩
   ·cases hc
  | _=>exact nof hc
 ·cases h
theorem and_in {a b:E} {x:Expr} (h:chkE C (.and a b) x = true):∃ u v r p,x = .BoolOp .And (u :: v :: r) p∧chkE C a u = true∧chkE C b (bRest .And v r p) = true:=by
 have h:(match vBool x with | some (o,u :: v :: r,p)=>decide (.And = o) && (chkE C a u && chkE C b (bRest .And v r p)) | _=>false) = true:=h
 split at h
 ·rename_i o u v r p e
  have h:=b2 h; have h1:=b2 h.2
  exact ⟨u,v,r,p,by rw [vBool_eq e,← de h.1],h1.1,h1.2⟩
 ·cases h
theorem or_in {a b:E} {x:Expr} (h:chkE C (.or a b) x = true):∃ u v r p,x = .BoolOp .Or (u :: v :: r) p∧chkE C a u = true∧chkE C b (bRest .Or v r p) = true:=by
 have h:(match vBool x with | some (o,u :: v :: r,p)=>decide (.Or = o) && (chkE C a u && chkE C b (bRest .Or v r p)) | _=>false) = true:=h
 split at h
 ·rename_i o u v r p e
  have h:=b2 h; have h1:=b2 h.2
  exact ⟨u,v,r,p,by rw [vBool_eq e,← de h.1],h1.1,h1.2⟩
 ·cases h
theorem un_in {a:E} {o:UnaryOp} {x:Expr} (h:(match vUn x with | some (o',y,_)=>decide (o = o') && chkE C a y | none=>false) = true):∃ y p,x = .UnaryOp o y p∧chkE C a y = true:=by
 split at h
 ·rename_i o' y p e
  have h:=b2 h
  exact ⟨y,p,by rw [vUn_eq e,de h.1],h.2⟩
 ·cases h
theorem ite_in {c a b:E} {x:Expr} (h:chkE C (.ite c a b) x = true):∃ u v w p,x = .IfExp u v w p∧chkE C c u = true∧chkE C a v = true∧chkE C b w = true:=by
 have h:(match vIf x with | some (u,v,w,_)=>chkE C c u && (chkE C a v && chkE C b w) | none=>false) = true:=h
 split at h
 ·rename_i u v w p e
  have h:=b2 h; have h1:=b2 h.2
  exact ⟨u,v,w,p,vIf_eq e,h.1,h1.1,h1.2⟩
 ·cases h
theorem kE_and {a b:E} (ha:OkE X C call a) (hb:OkE X C call b):OkE X C call (.and a b):=by
 intro x h
 obtain ⟨u,v,r,p,rfl,h1,h2⟩:=and_in h
 cases r with
 | nil=>exact snd_and (X:=X.nox) (ha u h1) (pe_one (hb v h2))
 | cons z r=>exact snd_and (X:=X.nox) (ha u h1) (hb _ h2)
theorem kE_or {a b:E} (ha:OkE X C call a) (hb:OkE X C call b):OkE X C call (.or a b):=by
 intro x h
 obtain ⟨u,v,r,p,rfl,h1,h2⟩:=or_in h
 cases r with
 | nil=>exact snd_or (X:=X.nox) (ha u h1) (pe_one (hb v h2))
 | cons z r=>exact snd_or (X:=X.nox) (ha u h1) (hb _ h2)
theorem kT_and {a b:E} (ha:OkT X C call a) (hb:OkT X C call b):OkT X C call (.and a b):=by
 intro x h
 obtain ⟨u,v,r,p,rfl,h1,h2⟩:=and_in h
 cases r with
 | nil=>exact (snd_andT (X:=X.nox) (ha u h1) (snd_and1T (hb v h2))).pt
 | cons z r=>exact (snd_andT (X:=X.nox) (ha u h1) (pw_of (hb _ h2))).pt
theorem kT_or {a b:E} (ha:OkT X C call a) (hb:OkT X C call b):OkT X C call (.or a b):=by
 intro x h
 obtain ⟨u,v,r,p,rfl,h1,h2⟩:=or_in h
 cases r with
 | nil=>exact (snd_orT (X:=X.nox) (ha u h1) (snd_and1T (hb v h2))).pt
 | cons z r=>exact (snd_orT (X:=X.nox) (ha u h1) (pw_of (hb _ h2))).pt
theorem kE_cmp (G:Good X C call n) {op:COp} {a b:E} (ha:OkE X C call a) (hb:OkE X C call b):OkE X C call (.cmp op a b):=by
 intro x h
 obtain ⟨l,r,p,rfl,h1,h2,h3⟩:=cmp_in h
 exact snd_cmp (X:=X.nox) G.room.units (marks_ok h1) (ha l h2) (hb r h3)
theorem kT_cmp (G:Good X C call n) {op:COp} {a b:E} (ha:OkE X C call a) (hb:OkE X C call b):OkT X C call (.cmp op a b):=by
 intro x h
 obtain ⟨l,r,p,rfl,h1,h2,h3⟩:=cmp_in h
 exact snd_cmpT (X:=X.nox) G.room.units (marks_ok h1) (ha l h2) (hb r h3)
theorem kE_is {k:Bool} {a c:E} (ha:OkE X C call a):OkE X C call (.is k a c):=by
 intro x h
 obtain ⟨l,j,p',p,⟨rfl,rfl⟩ | ⟨b,rfl,rfl⟩,h1⟩:=is_in h
 ·exact snd_isN (X:=X.nox) (ha l h1)
 ·exact snd_isB (X:=X.nox) (ha l h1)
theorem kT_is {k:Bool} {a c:E} (ha:OkE X C call a):OkT X C call (.is k a c):=by
 intro x h
 obtain ⟨l,j,p',p,⟨rfl,rfl⟩ | ⟨b,rfl,rfl⟩,h1⟩:=is_in h
 ·exact snd_isNT (X:=X.nox) (ha l h1)
 ·exact snd_isBT (X:=X.nox) (ha l h1)
theorem kE_not {a:E} (ha:OkE X C call a):OkE X C call (.not a):=by
 intro x h
 obtain ⟨y,p,rfl,h1⟩:=un_in h
 exact snd_not (X:=X.nox) (ha y h1)
theorem kT_not {a:E} (ha:OkT X C call a):OkT X C call (.not a):=by
 intro x h
 obtain ⟨y,p,rfl,h1⟩:=un_in h
 exact snd_notT (X:=X.nox) (ha y h1)
theorem kE_neg {a:E} (ha:OkE X C call a):OkE X C call (.neg a):=by
 intro x h
 obtain ⟨y,p,rfl,h1⟩:=un_in h
 exact snd_neg (X:=X.nox) (ha y h1)
theorem kE_ite {c a b:E} (hc:OkT X C call c) (ha:OkE X C call a) (hb:OkE X C call b):OkE X C call (.ite c a b):=by
 intro x h
 obtain ⟨u,v,w,p,rfl,h1,h2,h3⟩:=ite_in h
 exact snd_ite (X:=X.nox) (hc u h1) (ha v h2) (hb w h3)
theorem kT_ite {c a b:E} (hc:OkT X C call c) (ha:OkT X C call a) (hb:OkT X C call b):OkT X C call (.ite c a b):=by
 intro x h
 obtain ⟨u,v,w,p,rfl,h1,h2,h3⟩:=ite_in h
 exact snd_iteT (X:=X.nox) (hc u h1) (ha v h2) (hb w h3)
theorem kE_tup {es:E} (h0:OkL X C call es):OkE X C call (.tup es):=by
 intro x h
 have h:(match vTup x with | some (xs,_,_)=>chkL C es xs | none=>false) = true:=h
 split at h
 ·rename_i e
  rw [vTup_eq e]; exact snd_tup (X:=X.nox) (h0 _ h)
 ·cases h
theorem kE_lst {es:E} (h0:OkL X C call es):OkE X C call (.lst es):=by
 intro x h
 have h:(match vLst x with | some (xs,_)=>chkL C es xs | none=>false) = true:=h
 split at h
 ·rename_i e
  rw [vLst_eq e]; exact snd_lst (X:=X.nox) (h0 _ h)
 ·cases h
theorem kE_ix {a i:E} (ha:OkE X C call a) (hi:OkE X C call i):OkE X C call (.ix a i):=by
 intro x h
 have h:(match vSub x with | some (u,v,_)=>!isSlice v && (chkE C a u && chkE C i v) | none=>false) = true:=h
 split at h
 ·rename_i u v p e
  rw [vSub_eq e]
  have h:=b2 h; have h1:=b2 h.2
  exact snd_ix (X:=X.nox) (plain_ix (nb h.1)) (ha u h1.1) (hi v h1.2)
 ·cases h
theorem first_star {as:E} {e:Expr} {es:List Expr} (h:chkL C as (e :: es) = true):isStar e = false∧∀ {env:Env} {p:Pos},(backTo p (starEach es env)).any (·.1) = false:=by
 cases as with
 | cons a as=>exact ⟨nb (b2 h).1,star_any es (b2 (b2 h).2).2⟩
 | _=>exact nof h
theorem kE_call (G:Good X C call n) {f:Nat} {as:E} (h0:OkL X C call as):OkE X C call (.call f as):=by
 intro x h
 have h:(match vCall x with | some (fx,e :: es,[],_)=>(match vName fx with | some (y,_)=>decide (C.fns[f]? = some y) && (C.gl y && (!(y == ("__debug__":Str)) && chkL C as (e :: es))) | none=>false) | _=>false) = true:=h
 split at h
 ·rename_i fx e es p ee
  split at h
  ·rename_i y q e2
   have h:=b2 h; have h1:=b2 h.2; have h2:=b2 h1.2
   rw [vCall_eq ee,vName_eq e2]
   obtain ⟨fa,fd,ps,m1,m2,m3,m4⟩:=G.fns f y (de h.1)
   obtain ⟨s1,s2⟩:=first_star h2.2
   exact snd_call (X:=X.nox) (E':=E0) m4 G.room (G.gl h1.1) m1 m2 m3 pass0 (h0 _ h2.2) (nb h2.1) (star_ok s1) s2
  ·cases h
 ·cases h
theorem kE_blt (G:Good X C call n) {f:BF} {as:E} (h0:OkL X C call as):OkE X C call (.blt f as):=by
 intro x h
 have h:(match vCall x with | some (fx,e :: es,[],_)=>fnNm C (bfName f) fx && chkL C as (e :: es) | _=>false) = true:=h
 split at h
 ·rename_i fx e es p ee
  have h:=b2 h
  obtain ⟨q,rfl,gl⟩:=fn_nm G h.1
  rw [vCall_eq ee]
  obtain ⟨s1,s2⟩:=first_star h.2
  exact snd_blt (X:=X.nox) G.calm G.room.units G.room.gd rfl gl (G.blt _ (by cases f <;> decide)) (h0 _ h.2) (star_ok s1) s2
 ·cases h
theorem ty_nm (G:Good X C call n) {t:Ty} {x:Expr} (h:chkTyN C t x = true):∃ p,x = .Name (Str.ofString (tyName t)) p∧Gl X (Str.ofString (tyName t))∧X.mg (Str.ofString (tyName t)) = none:=by
 unfold chkTyN at h
 split at h
 ·rename_i y p e
  have h:=b2 h
  have e1:=de h.1
  subst e1
  exact ⟨p,vName_eq e,G.gl h.2,G.blt _ (by cases t <;> decide)⟩
 ·cases h
theorem kE_isi (G:Good X C call n) {a:E} {ts:List Ty} (ha:OkE X C call a):OkE X C call (.isi a ts):=by
 intro x h
 have h:(match vCall x with | some (fx,[e,t],[],_)=>fnNm C "isinstance" fx && (chkTys C ts t && (!isStar e && chkE C a e)) | _=>false) = true:=h
 split at h
 ·rename_i fx e t p ee
  have h:=b2 h; have h1:=b2 h.2; have h2:=b2 h1.2
  obtain ⟨q,rfl,gl⟩:=fn_nm G h.1
  rw [vCall_eq ee]
  have bl:=G.blt "isinstance" (by decide)
  have hst:=star_ok (xs:=[t]) (env:=X.env) (nb h2.1)
  rcases ts with _ | ⟨t1,_ | ⟨t2,_ | ⟨t3,ts⟩⟩⟩
  ·exact nof h1.1
  ·obtain ⟨q2,rfl,g2,m2⟩:=ty_nm G (show chkTyN C t1 t = true from h1.1)
   exact snd_isi1 (X:=X.nox) rfl rfl gl bl g2 m2 (ha e h2.2) (by rw [hst]; rfl)
  ·exact nof h1.1
  ·exact nof h1.1
 ·cases h
theorem base_name {x:Expr} {m:Str} {env:Env} (h:isName x = true):attributeBase x m env (eval x env) = eval x env:=by
 cases x <;> first | rfl | (cases h; done)
theorem kE_meth {f:MF} {o a:E} (ho:OkE X C call o) (ha:OkE X C call a):OkE X C call (.meth f o a):=by
 intro x h
 have h:(match vCall x with | some (fx,[e],[],q)=>(match vAttr fx with | some (y,m,p)=>decide (m = Str.ofString (mfName f)) && (isName y && ((p.endLine == q.line) && (!isStar e && (chkE C o y && chkE C a e)))) | none=>false) | _=>false) = true:=h
 split at h
 ·rename_i fx e q ee
  split at h
  ·rename_i y m p e2
   have h:=b2 h; have h1:=b2 h.2; have h2:=b2 h1.2; have h3:=b2 h2.2; have h4:=b2 h3.2
   have em:=de h.1
   subst em
   rw [vCall_eq ee,vAttr_eq e2]
   cases f with
   | append=>exact snd_append (X:=X.nox) (base_name h1.1) h2.1 (by rw [star_ok (nb h3.1)]; rfl) (ho y h4.1) (ha e h4.2)
   | extend=>exact snd_extend (X:=X.nox) (base_name h1.1) h2.1 (by rw [star_ok (nb h3.1)]; rfl) (ho y h4.1) (ha e h4.2)
  ·cases h
 ·cases h
theorem k_chain (G:Good X C call n) {o p:COp} {a b c:E} (ha:OkE X C call a) (hb:OkE X C call b) (hc:OkE X C call c):∀ x,chkE C (.chain o p a b c) x = true→PE X.nox x (tE X.K call (.chain o p a b c))∧PT X.nox x (tT X.K call (.chain o p a b c)):=by
 intro x h
 have h:(match vCmp x with | some (l,[o',p'],[r,q],_)=>decide (copOf o = o') && (decide (copOf p = p') && (!isSet r && (!isSet q && (chkE C a l && (chkE C b r && chkE C c q))))) | _=>false) = true:=h
 split at h
 ·rename_i l o' p' r q ps e
  have h:=b2 h; have h1:=b2 h.2; have h2:=b2 h1.2; have h3:=b2 h2.2; have h4:=b2 h3.2; have h5:=b2 h4.2
  rw [vCmp_eq e,← de h.1,← de h1.1]
  exact snd_chain (X:=X.nox) G.room.units (marks_ok (nb h3.1)) (ha l h4.1) (hb r h5.1) (hc q h5.2)
 ·cases h
theorem k_part {e:E} {o:Option Expr} (he:OkE X C call e) (h:chkIfO (fun y=>chkE C e y) (isNo e) o = true):L2.PO X.nox o (tO X.K call e):=by
 cases o with
 | none =>
  cases e with
  | none=>exact snd_po0 (X:=X.nox)
  | _=>exact nof h
 | some x =>
  have h:=b2 h
  exact snd_po1 (X:=X.nox) (nb h.1) (he x h.2)
theorem kE_sl {a lo hi:E} (ha:OkE X C call a) (hl:OkE X C call lo) (hh:OkE X C call hi):OkE X C call (.sl a lo hi):=by
 intro x h
 have h:(match vSub x with | some (u,v,_)=>(match vSlice v with | some (l,h,k,_)=>k.isNone && (chkE C a u && (chkIfO (fun y=>chkE C lo y) (isNo lo) l && chkIfO (fun y=>chkE C hi y) (isNo hi) h)) | none=>false) | none=>false) = true:=h
 split at h
 ·rename_i u v p e
  split at h
  ·rename_i l r k p2 e2
   have h:=b2 h; have h1:=b2 h.2; have h2:=b2 h1.2
   have ek:k = none:=by cases k with | none=>rfl | some _=>exact nof h.1
   subst ek
   rw [vSub_eq e,vSlice_eq e2]
   exact snd_sl (X:=X.nox) (ha u h1.1) (k_part hl h2.1) (k_part hh h2.2)
  ·cases h
 ·cases h
theorem kE_turn {a:E} (ha:OkE X C call a):OkE X C call (.turn a):=by
 intro x h
 have h:(match vSub x with | some (u,v,_)=>(match vSlice v with | some (l,h,k,_)=>l.isNone && (h.isNone && (isM1 k && chkE C a u)) | none=>false) | none=>false) = true:=h
 split at h
 ·rename_i u v p e
  split at h
  ·rename_i l r k p2 e2
   have h:=b2 h; have h1:=b2 h.2; have h2:=b2 h1.2
   have el:l = none:=by cases l with | none=>rfl | some _=>exact nof h.1
   have er:r = none:=by cases r with | none=>rfl | some _=>exact nof h1.1
   subst el er
   cases k with
   | none=>exact nof h2.1
   | some y =>
    have h3:(match vUn y with | some (o,z,_)=>decide (.USub = o) && (match vConst z with | some (.int j,_,_)=>decide (1 = j) | _=>false) | none=>false) = true:=h2.1
    split at h3
    ·rename_i o z p3 e3
     have h3:=b2 h3
     have h4:=h3.2
     split at h4
     ·rename_i j q p4 e4
      rw [vSub_eq e,vSlice_eq e2,vUn_eq e3,← de h3.1,vConst_eq e4,← de h4]
      exact snd_turn (X:=X.nox) (ha u h2.2)
     ·cases h4
    ·cases h3
  ·cases h
 ·cases h
theorem ok_it (G:Good X C call n) {it:E} (h0:Ok call n it) {x t:Expr} (h:(if isIt it = true then chkI C it x t else (!isSet x && chkE C it x)) = true):PI X.nox t x (tI X.K call it)∧∀ v,foldedSetIterable x X.env v = pure v:=by
 split at h
 ·exact h0.i G x t h
 ·rename_i hi
  have h:=b2 h
  have hp:plainIt it = true:=by cases it <;> first | rfl | (exact absurd rfl hi)
  exact ⟨snd_itv (X:=X.nox) hp (h0.e G x h.2),set_ok (nb h.1)⟩
structure CompIn (X:Cx) (C:CC) (call:Nat→List PV→Sto→R PV) (n:Nat) (el:E) (tg:Tg) (nn m:Nat) (it ifs:E) (x:Expr) (elt tgx itx:Expr) (ifx:List Expr) (scope:Scope) (p:Pos):Prop where
 x:x = .ListComp elt [⟨tgx,itx,ifx,0⟩] scope p
 nn:nn = X.N.length
 m:m = (ownOf tgx).length
 sc:CScope X scope (ownOf tgx)
 mn:tgMin X.N.length tg = true
 it:PI X.nox tgx itx (tI X.K call it)
 st:∀ v,foldedSetIterable itx X.env v = pure v
 bk:∀ fp D s H,PG (cxC X scope (ownOf tgx) fp D s H) tgx (gT X.K tg)∧PTs (cxC X scope (ownOf tgx) fp D s H) ifx (tTs X.K call ifs)∧PE (cxC X scope (ownOf tgx) fp D s H) elt (tE X.K call el)
theorem comp_in (G:Good X C call n) {el it ifs:E} {tg:Tg} {nn m:Nat} (hi:Ok call n it) (hs:Ok call n ifs) (he:Ok call n el) {x:Expr} (h:chkE C (.comp el tg nn m it ifs) x = true) :
  ∃ elt tgx itx ifx scope p,CompIn X C call n el tg nn m it ifs x elt tgx itx ifx scope p:=by
 have h:(match vComp x with | some (elt,[⟨tgx,itx,ifx,asy⟩],scope,_)=>decide (asy = 0) && (decide (nn = C.N.length) && (decide (m = (ownOf tgx).length) && (C.scOk scope (ownOf tgx) && (tgMin nn tg && (chkTg (C.sub scope (ownOf tgx)) tg tgx &&
   ((if isIt it = true then chkI C it itx tgx else (!isSet itx && chkE C it itx)) && (chkTs (C.sub scope (ownOf tgx)) ifs ifx && chkE (C.sub scope (ownOf tgx)) el elt))))))) | _=>false) = true:=h
 split at h
 ·rename_i elt tgx itx ifx asy scope p ee
  have h:=b2 h; have h1:=b2 h.2; have h2:=b2 h1.2; have h3:=b2 h2.2; have h4:=b2 h3.2; have h5:=b2 h4.2; have h6:=b2 h5.2; have h7:=b2 h6.2
  have e0:=de h.1
  have e1:=de h1.1
  obtain ⟨SC,G2⟩:=G.sub h3.1
  subst e0
  have hN:C.N.length = X.N.length:=by rw [G.N]
  obtain ⟨i1,i2⟩:=ok_it G hi h6.1
  exact ⟨elt,tgx,itx,ifx,scope,p,vComp_eq ee,by rw [e1,hN],de h2.1,SC,by rw [← hN,← e1]; exact h4.1,i1,i2,fun fp D s H=>⟨chk_tg (G2 fp D s H) h5.1,hs.ts (G2 fp D s H) ifx h7.1,he.e (G2 fp D s H) elt h7.2⟩⟩
 ·cases h
theorem kE_comp (G:Good X C call n) {el it ifs:E} {tg:Tg} {nn m:Nat} (hi:Ok call n it) (hs:Ok call n ifs) (he:Ok call n el):OkE X C call (.comp el tg nn m it ifs):=by
 intro x h
 obtain ⟨elt,tgx,itx,ifx,scope,p,c⟩:=comp_in G hi hs he h
 have e1:=c.nn
 have e2:=c.m
 rw [c.x,e1,e2]
 exact snd_comp (X:=X) (own:=ownOf tgx) (pos:=p) (tg:=tg) G.calm c.sc c.mn c.it c.bk c.st
theorem kL_nil:OkL X C call .nil:=by
 intro xs h
 cases xs with
 | nil=>exact snd_nil (X:=X.nox)
 | cons _ _=>exact nof h
theorem kL_cons {e es:E} (he:OkE X C call e) (hs:OkL X C call es):OkL X C call (.cons e es):=by
 intro xs h
 cases xs with
 | nil=>exact nof h
 | cons x xs =>
  have h:=b2 h; have h1:=b2 h.2
  exact snd_cons (X:=X.nox) (star_ok (nb h.1)) (he x h1.1) (hs xs h1.2)
theorem kTs_nil:OkTs X C call .nil:=by
 intro xs h
 cases xs with
 | nil=>exact snd_tsnil (X:=X.nox)
 | cons _ _=>exact nof h
theorem kTs_cons {e es:E} (he:OkT X C call e) (hs:OkTs X C call es):OkTs X C call (.cons e es):=by
 intro xs h
 cases xs with
 | nil=>exact nof h
 | cons x xs =>
  have h:=b2 h
  exact snd_tscons (X:=X.nox) (he x h.1) (hs xs h.2)
theorem kI_rng (G:Good X C call n) {a:E} (ha:OkE X C call a):OkI X C call (.rng a):=by
 intro x t h
 have h:(match vCall x with | some (fx,[y],[],_)=>fnNm C "range" fx && (!isStar y && chkE C a y) | _=>false) = true:=h
 split at h
 ·rename_i fx y p ee
  have h:=b2 h; have h1:=b2 h.2
  obtain ⟨q,rfl,gl⟩:=fn_nm G h.1
  rw [vCall_eq ee]
  exact ⟨snd_rng (X:=X.nox) gl (G.blt "range" (by decide)) (ha y h1.2) (by rw [star_ok (nb h1.1)]; rfl),fun v=>rfl⟩
 ·cases h
theorem kI_zip (G:Good X C call n) {a b:E} (ha:OkE X C call a) (hb:OkE X C call b):OkI X C call (.zip a b):=by
 intro x t h
 have h:(match vCall x with | some (fx,[y,z],[],_)=>isTup t && (fnNm C "zip" fx && (!isStar y && (!isStar z && (chkE C a y && chkE C b z)))) | _=>false) = true:=h
 split at h
 ·rename_i fx y z p ee
  have h:=b2 h; have h1:=b2 h.2; have h2:=b2 h1.2; have h3:=b2 h2.2; have h4:=b2 h3.2
  obtain ⟨q,rfl,gl⟩:=fn_nm G h1.1
  rw [vCall_eq ee]
  cases t with
  | Tuple elts tk tp=>exact ⟨snd_zip (X:=X.nox) gl (G.blt "zip" (by decide)) (ha y h4.1) (hb z h4.2) (by rw [star_ok (nb h2.1),star_ok (nb h3.1)]; rfl) (by rw [star_ok (nb h3.1)]; rfl),fun v=>rfl⟩
  | _=>exact nof h.1
 ·cases h
theorem kI_rng2 (G:Good X C call n) {a b:E} (ha:OkE X C call a) (hb:OkE X C call b):OkI X C call (.rng2 a b):=fun x t h=>nof h
theorem kI_enum (G:Good X C call n) {a:E} (ha:OkE X C call a):OkI X C call (.enum a):=fun x t h=>nof h
theorem kT_of {e:E} (h1:plainTE e = true) (h2:∀ x,chkE C e x = true→plainT x = true) (h:OkE X C call e):OkT X C call e:=fun x hx=>snd_plainT (X:=X.nox) h1 (h2 x hx) (h x hx)
end
section
variable {call:Nat→List PV→Sto→R PV} {n:Nat}
theorem Ok.val {e:E} (hl:∀ C xs,chkL C e xs = false) (ht:∀ C xs,chkTs C e xs = false) (hi:∀ C x t,chkI C e x t = false) (he:∀ {X:Cx} {C:CC},Good X C call n→OkE X C call e) (hT:∀ {X:Cx} {C:CC},Good X C call n→OkT X C call e):Ok call n e :=
 ⟨he,hT,fun G xs h=>nof ((hl _ xs).symm.trans h),fun G xs h=>nof ((ht _ xs).symm.trans h),fun G x t h=>nof ((hi _ x t).symm.trans h)⟩
theorem Ok.none {e:E} (he:∀ C x,chkE C e x = false) (hl:∀ {X:Cx} {C:CC},Good X C call n→OkL X C call e) (ht:∀ {X:Cx} {C:CC},Good X C call n→OkTs X C call e) (hi:∀ {X:Cx} {C:CC},Good X C call n→OkI X C call e):Ok call n e :=
 ⟨fun G x h=>nof ((he _ x).symm.trans h),fun G x h=>nof ((he _ x).symm.trans h),hl,ht,hi⟩
theorem Ok.plain {e:E} (h1:plainTE e = true) (n1:∀ C y p,chkE C e (.UnaryOp .Not y p) = false) (n2:∀ C o xs p,chkE C e (.BoolOp o xs p) = false) (n3:∀ C x y z p,chkE C e (.IfExp x y z p) = false) (n4:∀ C l o r p,chkE C e (.Compare l o r p) = false)
  (hl:∀ C xs,chkL C e xs = false) (ht:∀ C xs,chkTs C e xs = false) (hi:∀ C x t,chkI C e x t = false) (he:∀ {X:Cx} {C:CC},Good X C call n→OkE X C call e):Ok call n e :=
 Ok.val hl ht hi he fun {X C} G=>kT_of h1 (fun x hx=>by
  cases hp:plainT x with
  | true=>rfl
  | false =>
   cases x <;> first
    | (cases hp; done)
    | (exact nof ((n2 ..).symm.trans hx))
    | (exact nof ((n3 ..).symm.trans hx))
    | (exact nof ((n4 ..).symm.trans hx))
    | (rename_i o _ _; cases o <;> first | (cases hp; done) | (exact nof ((n1 ..).symm.trans hx)))) (he G)
theorem ok_all (call:Nat→List PV→Sto→R PV) (n:Nat):∀ e:E,Ok call n e:=by
 intro e
 induction e with
 | var i=>exact .plain rfl (fun _ _ _=>rfl) (fun _ _ _ _=>rfl) (fun _ _ _ _ _=>rfl) (fun _ _ _ _ _=>rfl) (fun _ _=>rfl) (fun _ _=>rfl) (fun _ _ _=>rfl) fun G=>kE_var G
 | int i=>exact .plain rfl (fun _ _ _=>rfl) (fun _ _ _ _=>rfl) (fun _ _ _ _ _=>rfl) (fun _ _ _ _ _=>rfl) (fun _ _=>rfl) (fun _ _=>rfl) (fun _ _ _=>rfl) fun G=>kE_int
 | bl i=>exact .plain rfl (fun _ _ _=>rfl) (fun _ _ _ _=>rfl) (fun _ _ _ _ _=>rfl) (fun _ _ _ _ _=>rfl) (fun _ _=>rfl) (fun _ _=>rfl) (fun _ _ _=>rfl) fun G=>kE_bl
 | non=>exact .plain rfl (fun _ _ _=>rfl) (fun _ _ _ _=>rfl) (fun _ _ _ _ _=>rfl) (fun _ _ _ _ _=>rfl) (fun _ _=>rfl) (fun _ _=>rfl) (fun _ _ _=>rfl) fun G=>kE_non
 | str i=>exact .plain rfl (fun _ _ _=>rfl) (fun _ _ _ _=>rfl) (fun _ _ _ _ _=>rfl) (fun _ _ _ _ _=>rfl) (fun _ _=>rfl) (fun _ _=>rfl) (fun _ _ _=>rfl) fun G=>kE_str
 | bin op a b ha hb=>exact .plain rfl (fun _ _ _=>rfl) (fun _ _ _ _=>rfl) (fun _ _ _ _ _=>rfl) (fun _ _ _ _ _=>rfl) (fun _ _=>rfl) (fun _ _=>rfl) (fun _ _ _=>rfl) fun G=>kE_bin (ha.e G) (hb.e G)
 | neg a ha=>exact .plain rfl (fun _ _ _=>rfl) (fun _ _ _ _=>rfl) (fun _ _ _ _ _=>rfl) (fun _ _ _ _ _=>rfl) (fun _ _=>rfl) (fun _ _=>rfl) (fun _ _ _=>rfl) fun G=>kE_neg (ha.e G)
 | tup es h=>exact .plain rfl (fun _ _ _=>rfl) (fun _ _ _ _=>rfl) (fun _ _ _ _ _=>rfl) (fun _ _ _ _ _=>rfl) (fun _ _=>rfl) (fun _ _=>rfl) (fun _ _ _=>rfl) fun G=>kE_tup (h.l G)
 | lst es h=>exact .plain rfl (fun _ _ _=>rfl) (fun _ _ _ _=>rfl) (fun _ _ _ _ _=>rfl) (fun _ _ _ _ _=>rfl) (fun _ _=>rfl) (fun _ _=>rfl) (fun _ _ _=>rfl) fun G=>kE_lst (h.l G)
 | ix a i ha hi=>exact .plain rfl (fun _ _ _=>rfl) (fun _ _ _ _=>rfl) (fun _ _ _ _ _=>rfl) (fun _ _ _ _ _=>rfl) (fun _ _=>rfl) (fun _ _=>rfl) (fun _ _ _=>rfl) fun G=>kE_ix (ha.e G) (hi.e G)
 | call f as h=>exact .plain rfl (fun _ _ _=>rfl) (fun _ _ _ _=>rfl) (fun _ _ _ _ _=>rfl) (fun _ _ _ _ _=>rfl) (fun _ _=>rfl) (fun _ _=>rfl) (fun _ _ _=>rfl) fun G=>kE_call G (h.l G)
 | blt f as h=>exact .plain rfl (fun _ _ _=>rfl) (fun _ _ _ _=>rfl) (fun _ _ _ _ _=>rfl) (fun _ _ _ _ _=>rfl) (fun _ _=>rfl) (fun _ _=>rfl) (fun _ _ _=>rfl) fun G=>kE_blt G (h.l G)
 | isi a ts ha=>exact .plain rfl (fun _ _ _=>rfl) (fun _ _ _ _=>rfl) (fun _ _ _ _ _=>rfl) (fun _ _ _ _ _=>rfl) (fun _ _=>rfl) (fun _ _=>rfl) (fun _ _ _=>rfl) fun G=>kE_isi G (ha.e G)
 | meth f o a ho ha=>exact .plain rfl (fun _ _ _=>rfl) (fun _ _ _ _=>rfl) (fun _ _ _ _ _=>rfl) (fun _ _ _ _ _=>rfl) (fun _ _=>rfl) (fun _ _=>rfl) (fun _ _ _=>rfl) fun G=>kE_meth (ho.e G) (ha.e G)
 | comp el tg nn m it ifs he hi hs=>exact .plain rfl (fun _ _ _=>rfl) (fun _ _ _ _=>rfl) (fun _ _ _ _ _=>rfl) (fun _ _ _ _ _=>rfl) (fun _ _=>rfl) (fun _ _=>rfl) (fun _ _ _=>rfl) fun G=>kE_comp G hi hs he
 | cmp op a b ha hb=>exact .val (fun _ _=>rfl) (fun _ _=>rfl) (fun _ _ _=>rfl) (fun G=>kE_cmp G (ha.e G) (hb.e G)) fun G=>kT_cmp G (ha.e G) (hb.e G)
 | is k a c ha hc=>exact .val (fun _ _=>rfl) (fun _ _=>rfl) (fun _ _ _=>rfl) (fun G=>kE_is (ha.e G)) fun G=>kT_is (ha.e G)
 | and a b ha hb=>exact .val (fun _ _=>rfl) (fun _ _=>rfl) (fun _ _ _=>rfl) (fun G=>kE_and (ha.e G) (hb.e G)) fun G=>kT_and (ha.t G) (hb.t G)
 | or a b ha hb=>exact .val (fun _ _=>rfl) (fun _ _=>rfl) (fun _ _ _=>rfl) (fun G=>kE_or (ha.e G) (hb.e G)) fun G=>kT_or (ha.t G) (hb.t G)
 | not a ha=>exact .val (fun _ _=>rfl) (fun _ _=>rfl) (fun _ _ _=>rfl) (fun G=>kE_not (ha.e G)) fun G=>kT_not (ha.t G)
 | ite c a b hc ha hb=>exact .val (fun _ _=>rfl) (fun _ _=>rfl) (fun _ _ _=>rfl) (fun G=>kE_ite (hc.t G) (ha.e G) (hb.e G)) fun G=>kT_ite (hc.t G) (ha.t G) (hb.t G)
 | chain o p a b c ha hb hc=>exact .val (fun _ _=>rfl) (fun _ _=>rfl) (fun _ _ _=>rfl) (fun G x h=>(k_chain G (ha.e G) (hb.e G) (hc.e G) x h).1) fun G x h=>(k_chain G (ha.e G) (hb.e G) (hc.e G) x h).2
 | sl a lo hi ha hl hh=>exact .plain rfl (fun _ _ _=>rfl) (fun _ _ _ _=>rfl) (fun _ _ _ _ _=>rfl) (fun _ _ _ _ _=>rfl) (fun _ _=>rfl) (fun _ _=>rfl) (fun _ _ _=>rfl) fun G=>kE_sl (ha.e G) (hl.e G) (hh.e G)
 | turn a ha=>exact .plain rfl (fun _ _ _=>rfl) (fun _ _ _ _=>rfl) (fun _ _ _ _ _=>rfl) (fun _ _ _ _ _=>rfl) (fun _ _=>rfl) (fun _ _=>rfl) (fun _ _ _=>rfl) fun G=>kE_turn (ha.e G)
 | rng2 a b ha hb=>exact .none (fun _ _=>rfl) (fun G xs h=>nof h) (fun G xs h=>nof h) fun G=>kI_rng2 G (ha.e G) (hb.e G)
 | enum a ha=>exact .none (fun _ _=>rfl) (fun G xs h=>nof h) (fun G xs h=>nof h) fun G=>kI_enum G (ha.e G)
 | nil=>exact .none (fun _ _=>rfl) (fun G=>kL_nil) (fun G=>kTs_nil) fun G x t h=>nof h
 | cons e es he hs=>exact .none (fun _ _=>rfl) (fun G=>kL_cons (he.e G) (hs.l G)) (fun G=>kTs_cons (he.t G) (hs.ts G)) fun G x t h=>nof h
 | rng a ha=>exact .none (fun _ _=>rfl) (fun G xs h=>nof h) (fun G xs h=>nof h) fun G=>kI_rng G (ha.e G)
 | zip a b ha hb=>exact .none (fun _ _=>rfl) (fun G xs h=>nof h) (fun G xs h=>nof h) fun G=>kI_zip G (ha.e G) (hb.e G)
 | _=>exact .none (fun _ _=>rfl) (fun G xs h=>nof h) (fun G xs h=>nof h) fun G x t h=>nof h
end
end Kw
end
section
set_option Elab.async false
set_option linter.all false
set_option maxRecDepth 100000
set_option maxHeartbeats 4000000
namespace Kw
open PySem PySem.Spec PyProof.Rows L2
section
variable {X:Cx} {C:CC} {call:Nat→List PV→Sto→R PV} {n:Nat}
theorem setix_ok {xo xi : Expr} {p : Pos} {env : Env} (h : isSlice xi = false) : ∀ v, assign (.Subscript xo xi p) env v = (do
      let ov ← holding [v] (eval xo env)
      let iv ← holding [v, ov] (eval xi env)
      standAt p
      holding [v, ov, iv] (setItem ov iv v)
      release [v, ov, iv] []) := by
  intro v
  cases xi <;> first | rfl | (cases h; done)
noncomputable def OkS (X:Cx) (C:CC) (call:Nat→List PV→Sto→R PV) (s:S):Prop:=∀ x,chkS1 C s x = true→PS X.nox x (tS X.K call s)
noncomputable def OkB (X:Cx) (C:CC) (call:Nat→List PV→Sto→R PV) (s:S):Prop:=∀ xs,chkB C s xs = true→PSs X.nox xs (tS X.K call s)
theorem tup_no {y:Expr} (h:vTup y = none):tupX y = false:=by
 cases y <;> first | rfl | (cases h; done)
theorem two_of {e:E} (h:isTwo e = true):∃ a b,e = .tup (.cons a (.cons b .nil)):=by
 unfold isTwo at h
 split at h
 ·exact ⟨_,_,rfl⟩
 ·cases h
theorem star_no {a:Expr} (h:isStar a = false):starX a = false:=by
 cases a <;> first | rfl | (cases h; done)
theorem tp_nm (G:Good X C call n) {is:List Nat} {ts:List Expr} {vs:List Expr} {kt k2:Nat} {pt p2 pos:Pos} {a b:E} (h:swapOk C is ts vs = true) (h2:chkL C (.cons a (.cons b .nil)) vs = true) :
  PS X.nox (.Assign [.Tuple ts kt pt] (.Tuple vs k2 p2) pos) (tS X.K call (.asg (.tp is) (.tup (.cons a (.cons b .nil))))):=by
 unfold swapOk at h
 split at h
 ·rename_i i j tx ty xa xb
  split at h
  ·rename_i x px y py e1 e2
   have h:=b2 h; have h1:=b2 h.2; have h2':=b2 h1.2; have h3:=b2 h2'.2; have h4:=b2 h3.2; have h5:=b2 h4.2; have h6:=b2 h5.2; have h7:=b2 h6.2; have h8:=b2 h7.2; have h9:=b2 h8.2
   rw [vName_eq e1,vName_eq e2]
   have lx:X.env.scope.names.lookup x = some .local:=by rw [G.sc]; exact de h4.1
   have ly:X.env.scope.names.lookup y = some .local:=by rw [G.sc]; exact de h5.1
   exact sn_par (X:=X.nox) G.calm (by show X.N.Nodup; rw [G.N]; exact G.nd) (by show X.N[i]? = _; rw [G.N]; exact de h.1) (by show X.N[j]? = _; rw [G.N]; exact de h1.1) (de h2'.1) lx ly ((ok_all call n _).l G _ h2)
    (sw2 (env:=X.env) G.kind lx ly (de h3.1) h6.1 (star_no (nb h7.1)) (star_no (nb h8.1)) (nb h9.1) (nb h9.2))
  ·cases h
 ·cases h
theorem kS_asg (G:Good X C call n) {tg:Tg} {e:E}:OkS X C call (.asg tg e):=by
 intro x h
 have h:chkS C (.asg tg e) x = true:=h
 cases tg with
 | nm i =>
  cases x with
  | Assign ts y p =>
   rcases ts with _ | ⟨t,_ | ⟨t2,ts⟩⟩
   ·exact nof h
   ·have h:(match vName t with
     | some (x,px)=>decide (C.N[i]? = some x) && (C.loc x && (match vComp y with
      | some (_,_,scope,p)=>chkE C e y && (!(swC C x px scope p) || isCompE e)
      | none=>!isComp y && chkE C e y))
     | none=>false) = true:=h
    split at h
    ·rename_i nm q ee
     have h:=b2 h; have h1:=b2 h.2
     obtain ⟨l1,l2⟩:=G.loc h1.1
     have hnd:X.N.Nodup:=by rw [G.N]; exact G.nd
     have hix:X.N[i]? = some nm:=by rw [G.N]; exact de h.1
     rw [vName_eq ee]
     have h2:=h1.2
     split at h2
     ·rename_i elt gs scope pp ec
      have h2:=b2 h2
      have hsw:∀ ln,swapsWith y (some (.Name nm q)) ln X.env = pure (swC C nm q scope pp):=fun ln=>by
       rw [vComp_eq ec,sw_comp G.kind,G.sc]; rfl
      cases hb:swC C nm q scope pp with
      | false=>exact sn_setf (X:=X.nox) hnd hix l1 l2 (by show swapsWith y (some (.Name nm q)) p.line X.env = _; rw [hsw,hb]) ((ok_all call n e).e G y h2.1)
      | true =>
       rw [hb] at h2
       cases e with
       | comp el tg nn m it ifs =>
        obtain ⟨elt2,tgx,itx,ifx,scope2,p2,c⟩:=comp_in G (ok_all call n it) (ok_all call n ifs) (ok_all call n el) h2.1
        have hlo:X.env.scope.names.lookup nm = some .local:=by
         rw [G.sc]
         have hb:=b2 hb
         exact de (b2 hb.1).1
        have e1:=c.nn
        have e2:=c.m
        have hs1:=hsw p.line
        rw [hb,c.x] at hs1
        rw [c.x,e1,e2]
        exact sn_setc (X:=X) G.calm c.sc hnd hix hlo c.mn c.it c.bk hs1 c.st
       | _=>exact nof h2.2
     ·have h2:=b2 h2
      exact sn_set (X:=X.nox) hnd hix l1 l2 (nb h2.1) ((ok_all call n e).e G y h2.2)
    ·cases h
   ·exact nof h
  | _=>exact nof h
 | tp is =>
  cases x with
  | Assign ts y p =>
   rcases ts with _ | ⟨t,_ | ⟨t2,ts⟩⟩
   ·exact nof h
   ·have h:(match vTup t with
     | some (ts,_,_)=>(match vTup y with
      | some (vs,_,_)=>if noSwap C ts then chkTg C (.tp is) t && chkE C e y else swapOk C is ts vs && (isTwo e && chkL C (partsOf e) vs)
      | none=>chkTg C (.tp is) t && chkE C e y)
     | none=>false) = true:=h
    split at h
    ·rename_i ts kt pt et
     split at h
     ·rename_i vs k2 p2 ev
      split at h
      ·rename_i hno
       have h:=b2 h
       have hg:=chk_tg G h.1
       rw [vTup_eq et] at hg ⊢
       have he:=(ok_all call n e).e G y h.2
       rw [vTup_eq ev] at he ⊢
       refine sn_asgN (X:=X.nox) (sw_no ?_) hg he
       unfold noSwap at hno
       simp only [Bool.or_eq_true,decide_eq_true_eq,List.any_eq_true] at hno
       rcases hno with hno | ⟨t,ht,hno⟩
       ·exact .inl hno
       ·refine .inr ⟨t,ht,?_⟩
        show notLoc X.env t = true
        unfold notLoc
        rw [G.sc]
        cases t <;> exact hno
      ·have h:=b2 h
       have h2:=b2 h.2
       obtain ⟨a,b,rfl⟩:=two_of h2.1
       rw [vTup_eq et,vTup_eq ev]
       exact tp_nm G h.1 h2.2
     ·rename_i ev
      have h:=b2 h
      have hg:=chk_tg G h.1
      rw [vTup_eq et] at hg ⊢
      exact sn_asgT (X:=X.nox) (tup_no ev) hg ((ok_all call n e).e G y h.2)
    ·cases h
   ·exact nof h
  | _=>exact nof h
theorem kS_aug (G:Good X C call n) {i:Nat} {op:BOp} {e:E}:OkS X C call (.aug i op e):=fun x h=>nof h
theorem kS_setix (G:Good X C call n) {o i e:E}:OkS X C call (.setix o i e):=by
 intro x h
 have h:chkS C (.setix o i e) x = true:=h
 cases x with
 | Assign ts z p =>
  rcases ts with _ | ⟨t,_ | ⟨t2,ts⟩⟩
  ·exact nof h
  ·have h:(match vSub t with | some (x,y,_)=>!isComp z && (!isSlice y && (chkE C o x && (chkE C i y && chkE C e z))) | none=>false) = true:=h
   split at h
   ·rename_i x y q ee
    have h:=b2 h; have h1:=b2 h.2; have h2:=b2 h1.2; have h3:=b2 h2.2
    rw [vSub_eq ee]
    exact sn_setix (X:=X.nox) (nb h.1) (setix_ok (nb h1.1)) rfl (by simp only [swapsWithSole]; exact swaps_no (nb h.1)) ((ok_all call n o).e G x h2.1) ((ok_all call n i).e G y h3.1) ((ok_all call n e).e G z h3.2)
   ·cases h
  ·exact nof h
 | _=>exact nof h
theorem kS_ret (G:Good X C call n) {e:E}:OkS X C call (.ret e):=by
 intro x h
 have h:chkS C (.ret e) x = true:=h
 cases x with
 | Return v p =>
  cases v with
  | none=>exact nof h
  | some y=>exact sn_ret (X:=X.nox) ((ok_all call n e).e G y h)
 | _=>exact nof h
theorem kS_retN:OkS X C call .retN:=by
 intro x h
 have h:chkS C .retN x = true:=h
 cases x with
 | Return v p =>
  cases v with
  | none=>exact sn_retN (X:=X.nox)
  | some y=>exact nof h
 | _=>exact nof h
theorem kS_expr (G:Good X C call n) {e:E}:OkS X C call (.expr e):=by
 intro x h
 have h:chkS C (.expr e) x = true:=h
 cases x with
 | Expr y p =>
  have h:=b2 h
  exact sn_expr (X:=X.nox) (nb h.1) ((ok_all call n e).e G y h.2)
 | _=>exact nof h
theorem kS_pass:OkS X C call .pass:=by
 intro x h
 have h:chkS C .pass x = true:=h
 cases x <;> first | exact sn_pass (X:=X.nox) | exact nof h
theorem kS_brk:OkS X C call .brk:=by
 intro x h
 have h:chkS C .brk x = true:=h
 cases x <;> first | exact sn_brk (X:=X.nox) | exact nof h
theorem kS_cont:OkS X C call .cont:=by
 intro x h
 have h:chkS C .cont x = true:=h
 cases x <;> first | exact sn_cont (X:=X.nox) | exact nof h
theorem kS_ife (G:Good X C call n) {c:E} {a b:S} (ha:OkB X C call a) (hb:OkB X C call b):OkS X C call (.ife c a b):=by
 intro x h
 have h:(match vIfS x with | some (t,xa,xb,_)=>chkE C c t && (chkB C a xa && chkB C b xb) | none=>false) = true:=h
 split at h
 ·rename_i t xa xb p ee
  have h:=b2 h; have h1:=b2 h.2
  rw [vIfS_eq ee]
  exact sn_if (X:=X.nox) ((ok_all call n c).t G t h.1) (ha xa h1.1) (hb xb h1.2)
 ·cases h
theorem kS_whl (G:Good X C call n) {c:E} {b:S} (hb:OkB X C call b):OkS X C call (.whl c b):=fun x h=>nof h
theorem kS_for (G:Good X C call n) {tg:Tg} {it:E} {b:S} (hb:OkB X C call b):OkS X C call (.for_ tg it b):=by
 intro x h
 have h:(match vFor x with | some (t,y,xb,[],_)=>chkIt C it y t && (chkTg C tg t && chkB C b xb) | _=>false) = true:=h
 split at h
 ·rename_i t y xb p ee
  have h:=b2 h; have h1:=b2 h.2
  rw [vFor_eq ee]
  obtain ⟨i1,i2⟩:=ok_it G (ok_all call n it) h.1
  exact sn_for (X:=X) G.calm i1 (chk_tg G h1.1) (hb xb h1.2) i2
 ·cases h
theorem kB_cons {s r:S} (hs:OkS X C call s) (hr:OkB X C call r):OkB X C call (.cons s r):=by
 intro xs h
 cases xs with
 | nil=>exact nof h
 | cons x xs =>
  have h:=b2 h
  exact sn_cons (X:=X.nox) (hs x h.1) (hr xs h.2)
theorem okS_all (G:Good X C call n):∀ s:S,OkS X C call s∧OkB X C call s:=by
 intro s
 induction s with
 | nil=>exact ⟨fun x h=>nof h,fun xs h=>by cases xs with | nil=>exact sn_nil (X:=X.nox) | cons _ _=>exact nof h⟩
 | cons s r hs hr=>exact ⟨fun x h=>nof h,kB_cons hs.1 hr.2⟩
 | asg tg e=>exact ⟨kS_asg G,fun xs h=>nof h⟩
 | setix o i e=>exact ⟨kS_setix G,fun xs h=>nof h⟩
 | aug i o e=>exact ⟨kS_aug G,fun xs h=>nof h⟩
 | ret e=>exact ⟨kS_ret G,fun xs h=>nof h⟩
 | retN=>exact ⟨kS_retN,fun xs h=>nof h⟩
 | expr e=>exact ⟨kS_expr G,fun xs h=>nof h⟩
 | pass=>exact ⟨kS_pass,fun xs h=>nof h⟩
 | brk=>exact ⟨kS_brk,fun xs h=>nof h⟩
 | cont=>exact ⟨kS_cont,fun xs h=>nof h⟩
 | ife c a b ha hb=>exact ⟨kS_ife G ha.2 hb.2,fun xs h=>nof h⟩
 | whl c b hb=>exact ⟨kS_whl G hb.2,fun xs h=>nof h⟩
 | for_ tg it b hb=>exact ⟨kS_for G hb.2,fun xs h=>nof h⟩
theorem sndB (G:Good X C call n) (s:S) (xs:List Stmt) (h:chkB C s xs = true):PSs X.nox xs (tS X.K call s):=(okS_all G s).2 xs h
end
structure Df where
 name:String
 st:Stmt
 ps:List Str
 N:List Str
noncomputable def Df.scope (d:Df):Scope:=defScope d.st
noncomputable def Df.cc (d:Df) (fns:List Str):CC:=⟨d.N,d.scope.names,fns,true⟩
noncomputable def Df.ok (fns:List Str) (d:Df) (fd:FDef):Bool :=
 decide (d.scope.kind = .function) && !d.scope.isCoroutine && !d.scope.isGenerator && decide (d.N.Nodup) && decide (d.N.take d.ps.length = d.ps) && d.ps.all (fun x=>decide (d.scope.names.lookup x = some .local ∨ d.scope.names.lookup x = some .cell)) &&
 d.scope.names.all (fun p=>decide (p.2 ≠ .free)) && decide (fd.np = d.ps.length) && decide (fd.ns = d.N.length) && chkB (d.cc fns) fd.body (defBody d.st)
theorem Df.sc {fns:List Str} {d:Df} {fd:FDef} (h:Df.ok fns d fd = true):FnScope d.N d.ps (defScope d.st)∧fd.np = d.ps.length∧fd.ns = d.N.length∧chkB (d.cc fns) fd.body (defBody d.st) = true:=by
 have h0:=b2 h; have h1:=b2 h0.1; have h2:=b2 h1.1; have h3:=b2 h2.1; have h4:=b2 h3.1; have h5:=b2 h4.1; have h6:=b2 h5.1; have h7:=b2 h6.1; have h8:=b2 h7.1
 refine ⟨⟨de h8.1,nb h8.2,nb h7.2,de h6.2,de h5.2,fun x hx=>?_,fun y hy=>?_⟩,de h2.2,de h1.2,h0.2⟩
 ·exact de (List.all_eq_true.mp h4.2 x hx)
 ·exact de (List.all_eq_true.mp h3.2 y hy)
theorem fn_step {P : Program} {w : World} {K : PySem.W.Frag} {mg : Str → Option Value} {base : Heap} {tab : List FDef} {fns : List Str} {d : Nat} {f : Nat} {fa : Addr} {fdd : FuncData} {df : Df} {fd : FDef} (F : Fun K (Str.ofString df.name) (Str.ofString df.name) df.st fa fdd) (hf : tab[f]? = some fd) (hok : df.ok fns fd = true)
    (fnsOk : ∀ (f : Nat) (x : Str), fns[f]? = some x → ∃ fa fd ps, mg x = some (.ref fa) ∧ PySem.W.keepIn K (.ref fa) = true ∧ Binds K fd ps [] ∧ FnOk P w K mg base CX0 d fa fd ps (spF K (callD tab d) f))
    (blt : ∀ b ∈ bltNames, mg (Str.ofString b) = none) : FnOk P w K mg base CX0 (d + 1) fa fdd df.ps (spF K (callD tab (d + 1)) f) := by
  obtain ⟨S, hnp, hns, hch⟩ := Df.sc hok
  have run : ∀ {args : List PV} {st : Sto}, callD tab (d + 1) f args st = if args.length = fd.np then (ex (callD tab d) fd.body (args.map some ++ List.replicate (fd.ns - fd.np) none) st).bind fun z => match z.1 with
      | .ret v => some (v, z.2.2)
      | .next => some (.non, z.2.2)
      | _ => none else none := fun {args st} => by
    simp only [callD, hf]
    first
      | done
      | (split
         · congr 1
         · rfl)
  refine F.ok S (fun vs H Q E h => ?_) (fun cdv A outer s H vs Q E hr h => ?_)
  · obtain ⟨μ, st, args, hs, r, k⟩ := h
    rw [run] at k
    by_cases hl : args.length = fd.np
    · rw [← r.length, hl, hnp]
    · rw [if_neg hl] at k; exact k.no.elim
  · obtain ⟨μ, st, args, hs, r, k⟩ := h
    rw [run] at k
    by_cases hl : args.length = fd.np
    · rw [if_pos hl] at k
      have G : Good (cxOf CX0 P w K mg base df.N (Str.ofString df.name) (defScope df.st) fa cdv A outer s H E) (df.cc fns) (callD tab d) d :=
        ⟨rfl, rfl, S.kind, S.nd, rfl, fun _ _ => rfl, hr, fnsOk, blt⟩
      refine ⟨_, sndB G fd.body (defBody df.st) hch, μ, args.map some ++ List.replicate (fd.ns - fd.np) none, st, ?_, hs, ?_⟩
      · have hlv := r.length
        refine ⟨?_, fun i p e => ?_⟩
        · unfold L2.start
          rw [List.length_append, List.length_append, List.length_map, List.length_map, List.length_replicate, List.length_replicate, hlv, hns, hnp, ← hlv, hl, hnp]
        · by_cases hi : i < args.length
          · rw [List.getElem?_append_left (by rw [List.length_map]; exact hi), List.getElem?_map] at e
            cases ea : args[i]? with
            | none => rw [ea] at e; cases e
            | some q =>
              rw [ea] at e; cases e
              obtain ⟨v, e1, r1⟩ := r.get ea
              refine ⟨v, ?_, r1⟩
              unfold L2.start
              rw [List.getElem?_append_left (by rw [List.length_map, ← hlv]; exact hi), List.getElem?_map, e1]; rfl
          · rw [List.getElem?_append_right (by rw [List.length_map]; omega), List.getElem?_replicate] at e
            split at e <;> cases e
      · obtain ⟨rr, stE, e, q⟩ := k
        cases ee : ex (callD tab d) fd.body (args.map some ++ List.replicate (fd.ns - fd.np) none) st with
        | none => rw [ee] at e; cases e
        | some z =>
          obtain ⟨fl, L', st'⟩ := z
          rw [ee] at e
          simp only [Option.bind_some] at e
          refine ⟨fl, L', st', rfl, fun H' μ' σ' x s' l' => ?_⟩
          cases fl with
          | next => cases e; exact q .non H' μ' x s' rfl
          | ret v => cases e; exact fun u ru => q u H' μ' x s' ru
          | brk => cases e
          | cont => cases e
    · rw [if_neg hl] at k; exact k.no.elim
theorem all_fns {P:Program} {w:World} {K:PySem.W.Frag} {mg:Str→Option Value} {base:Heap} {tab:List FDef} {fns:List Str} (blt:∀ b ∈ bltNames,mg (Str.ofString b) = none)
  (D:∀ (f:Nat) (x:Str),fns[f]? = some x→∃ df fd fa fdd,tab[f]? = some fd∧Df.ok fns df fd = true∧Fun K (Str.ofString df.name) (Str.ofString df.name) df.st fa fdd∧mg x = some (.ref fa)∧Binds K fdd df.ps []) :
  ∀ (d f:Nat) (x:Str),fns[f]? = some x→∃ fa fd ps,mg x = some (.ref fa)∧PySem.W.keepIn K (.ref fa) = true∧Binds K fd ps []∧FnOk P w K mg base CX0 d fa fd ps (spF K (callD tab d) f)
 | 0,f,x,h=>by
  obtain ⟨df,fd,fa,fdd,h1,h2,h3,h4,h5⟩:=D f x h
  have no:∀ vs H Q E,¬ spF K (callD tab 0) f vs H Q E:=fun vs H Q E ⟨μ,st,args,hs,r,k⟩=>by
   simp only [callD] at k
   exact k.no
  exact ⟨fa,fdd,df.ps,h4,h3.kp,h5,fun vs H Q E z=>absurd z (no vs H Q E),fun A outer s H args us vs Q E _ _ _ _ z=>absurd z (no vs H Q E)⟩
 | d + 1,f,x,h=>by
  obtain ⟨df,fd,fa,fdd,h1,h2,h3,h4,h5⟩:=D f x h
  exact ⟨fa,fdd,df.ps,h4,h3.kp,h5,fn_step h3 h1 h2 (all_fns blt D d) blt⟩
theorem law_sp {K:PySem.W.Frag} {tab:List FDef} {d f:Nat} {H:Hp} {a:Addr} {ns:List Int} (hO:Only H) (hS:SqL K H a (ns.map V.int)) (h:∃ st,callD tab d f [.scr ns] [] = some (.bl true,st)) :
  spF K (callD tab d) f [.ref a] H (fun v _=>v = .bl true) fun _ _ _=>False:=by
 obtain ⟨st,e⟩:=h
 refine ⟨[],[],[.scr ns],⟨rfl,List.nodup_nil,fun l a ps e1 e2=>by simp at e1⟩,RPs.one ⟨a,rfl,hS,?_⟩,.bl true,st,e,fun v H' μ' x s' r=>r⟩
 rcases hS with (h | ⟨o,h⟩) | h
 ·rcases hO a with z | ⟨o,xs,z⟩
  ·rw [z] at h; cases h
  ·rw [z] at h; cases h
 ·exact .inl ⟨o,h⟩
 ·exact .inr (.inr h)
noncomputable def EachP {α:Type} (P:α→Prop):List α→Prop
 | []=>True
 | x :: xs=>P x∧EachP P xs
theorem EachP.mem {α:Type} {P:α→Prop}:∀ {xs:List α},EachP P xs→∀ x ∈ xs,P x
 | x :: xs,h,y,hy=>(List.mem_cons.mp hy).elim (fun e=>e ▸ h.1) fun hy=>EachP.mem h.2 y hy
noncomputable def EachI {α:Type} (P:Nat→α→Prop):Nat→List α→Prop
 | _,[]=>True
 | i,x :: xs=>P i x∧EachI P (i + 1) xs
theorem EachI.get {α:Type} {P:Nat→α→Prop}:∀ {xs:List α} {k:Nat},EachI P k xs→∀ (f:Nat) (x:α),xs[f]? = some x→P (k + f) x
 | _ :: _,_,h,0,x,e=>(Option.some.inj e) ▸ h.1
 | _ :: xs,k,h,f + 1,x,e=>by
  have:=EachI.get h.2 f x e
  rw [Nat.add_assoc,Nat.add_comm 1 f] at this
  exact this
theorem us1 {P:List Value→Prop} {us:List Value} (h:us.length = 1) (H:∀ a,P [a]):P us:=match us,h with | [_],_=>H _
theorem us2 {P:List Value→Prop} {us:List Value} (h:us.length = 2) (H:∀ a b,P [a,b]):P us:=match us,h with | [_,_],_=>H _ _
theorem us3 {P:List Value→Prop} {us:List Value} (h:us.length = 3) (H:∀ a b c,P [a,b,c]):P us:=match us,h with | [_,_,_],_=>H _ _ _
end Kw
end
section
set_option Elab.async false
set_option linter.all false
set_option maxRecDepth 100000
set_option maxHeartbeats 4000000
namespace Kw
open PySem PySem.Spec PySem.Calls PyProof.Rows L2 PySem.W
theorem look_mem:∀ {K:Frag} {a:Addr} {o:Obj},K.lookup a = some o→(a,o) ∈ K
 | [],a,o,h=>by simp at h
 | (b,u) :: K,a,o,h=>by
  rw [List.lookup_cons] at h
  split at h
  ·rename_i e; cases h; rw [beq_iff_eq.mp e]; exact List.mem_cons_self
  ·exact List.mem_cons_of_mem _ (look_mem h)
theorem look_some {K:Frag} {a:Addr} {o:Obj} (h:(a,o) ∈ K):∃ u,K.lookup a = some u:=by
 induction K with
 | nil=>exact absurd h List.not_mem_nil
 | cons p K ih =>
  obtain ⟨b,u⟩:=p
  rw [List.lookup_cons]
  split
  ·exact ⟨_,rfl⟩
  ·rename_i e
   rcases List.mem_cons.mp h with z | z
   ·rw [(Prod.mk.inj z).1,beq_self_eq_true] at e; cases e
   ·exact ih z
noncomputable def AllIn (K:Frag) (h:Heap):Prop:=∀ p ∈ K,h.get? p.1 = some p.2
theorem AllIn.to {K:Frag} {h:Heap} (x:AllIn K h):K.In h:=fun a o e=>x _ (look_mem e)
theorem AllIn.look {K:Frag} {h:Heap} (x:AllIn K h) {a:Addr} {o:Obj} (m:(a,o) ∈ K):K.lookup a = some o:=by
 obtain ⟨u,e⟩:=look_some m
 have h1:=x _ (look_mem e)
 rw [show h.get? a = some o from x _ m] at h1
 cases h1; exact e
noncomputable def CIn (K:Frag) (cd:Value) (q:Str):Prop:=∃ c oc vs t,cd = .ref c∧(c,oc) ∈ K∧oc.data = .fields vs∧vs[1]? = some (.str q t)
noncomputable def DIn (K:Frag) (mg:Str→Option Value) (d:DefRec):Prop:=∃ fa o pm cd doc,mg d.name = some (.ref fa)∧(fa,o) ∈ K∧o.data = .func (docDef d.name d.params d.body d.scope pm cd doc)∧CIn K cd d.name
theorem DIn.more {K K':Frag} {mg:Str→Option Value} {d:DefRec} (s:∀ p ∈ K,p ∈ K') (x:DIn K mg d):DIn K' mg d:=by
 obtain ⟨fa,o,pm,cd,doc,h1,h2,h3,c,oc,vs,t,h4,h5,h6⟩:=x
 exact ⟨fa,o,pm,cd,doc,h1,s _ h2,h3,c,oc,vs,t,h4,s _ h5,h6⟩
theorem defs_in {q:Program} {loose:List Str} {mean:ExcName→Option Value} {mg mb:Str→Option Value} {h:Heap} (T:Top q loose mean mg mb h):∀ ds:List DefRec,(∀ d ∈ ds,d ∈ recsOf q)→∃ K:Frag,AllIn K h∧∀ d ∈ ds,DIn K mg d
 | [],_=>⟨[],fun _ m=>absurd m List.not_mem_nil,fun _ m=>absurd m List.not_mem_nil⟩
 | d :: ds,hm=>by
  obtain ⟨K,h1,h2⟩:=defs_in T ds fun e m=>hm e (List.mem_cons_of_mem _ m)
  obtain ⟨a,o,pm,cd,doc,g1,g2,g3,c,oc,vs,t,g4,g5,g6⟩:=T.fn d (hm d List.mem_cons_self)
  refine ⟨(a,o) :: (c,oc) :: K,fun p m=>?_,fun e m=>?_⟩
  ·rcases List.mem_cons.mp m with z | z
   ·cases z; exact g2
   ·rcases List.mem_cons.mp z with z | z
    ·cases z; exact g5
    ·exact h1 p z
  ·rcases List.mem_cons.mp m with z | z
   ·cases z
    exact ⟨a,o,pm,cd,doc,g1,List.mem_cons_self,g3,c,oc,vs,t,g4,List.mem_cons_of_mem _ List.mem_cons_self,g6⟩
   ·exact (h2 e z).more fun p m=>List.mem_cons_of_mem _ (List.mem_cons_of_mem _ m)
theorem DIn.fn {K:Frag} {h:Heap} (A:AllIn K h) {mg:Str→Option Value} {x:Str} {st:Stmt} {pos:Pos} (D:DIn K mg ⟨x,defArgs st,defBody st,defScope st,pos⟩):∃ fa fd,mg x = some (.ref fa)∧Fun K x x st fa fd:=by
 obtain ⟨fa,o,pm,cd,doc,h1,h2,h3,c,oc,vs,t,rfl,h5,h6,h7⟩:=D
 have l:=A.look h2
 have lc:=A.look h5
 obtain ⟨k1,k2,k3,k4⟩:=o
 obtain ⟨j1,j2,j3,j4⟩:=oc
 cases h3; cases h6
 refine ⟨fa,_,h1,fun_mk (kV:=.none) (doc:=doc) (pm:=pm) (an:=none) (cdv:=.ref c) (ct:=.none) l ?_ ?_⟩
 ·show (match K.lookup c with | some ⟨_,_,.fields vs,_⟩=>_ | _=>_) = true
  rw [lc]
  obtain ⟨l⟩:=vs
  match l,h7 with
  | [],h7=>simp at h7
  | [a],h7=>simp at h7
  | a :: b :: r,h7 =>
   simp at h7; subst h7
   exact beq_self_eq_true _
 ·show (match K.lookup fa with | some ⟨_,_,.func _,_⟩=>true | some ⟨_,_,.cls _,_⟩=>_ | _=>false) = true
  rw [l]
noncomputable def defPos:Stmt→Pos
 | .FunctionDef _ _ _ _ _ _ _ _ _ p=>p
 | _=>⟨0,0,0,0⟩
noncomputable def isDef:Stmt→Bool
 | .FunctionDef ..=>true
 | _=>false
noncomputable def viewOf (p:Program):Program:={ p with main:={ p.main with body:=p.main.body.filter isDef } }
noncomputable def freeIn (q:Program) (loose:List Str) (x:Str):Bool:=!startupNames.contains x && !loose.contains x && !((recsOf q).map (·.name)).contains x && !((litsOf q).map (·.1)).contains x && !((clssOf q loose).map (·.name)).contains x
theorem free_in {q:Program} {loose:List Str} {mean:ExcName→Option Value} {mg mb:Str→Option Value} {h:Heap} (T:Top q loose mean mg mb h) {x:Str} (e:freeIn q loose x = true):mg x = none:=by
 unfold freeIn at e
 simp only [Bool.and_eq_true,Bool.not_eq_true',List.contains_eq_mem,decide_eq_false_iff_not] at e
 exact T.free x e.1.1.1.1 e.1.1.1.2 e.1.1.2 e.1.2 e.2
theorem walk2 {l:OpenLaw} {n k:Nat} {q:Program} {XP:(Str→Option Value)→Heap→Prop} {YP:World→Heap→Prop} {d:DefRec} {ds:List DefRec} {x:Str} {sp:Frag→Sp}
  (hn:l.most = some n) (hn2:n ≤ sizeLine) (hdf:d.params.defaults = []) (hr:Room k callerA) (hds:ds = recsOf q) (hfree:(bltNames.all fun b=>freeIn q (looseW q []) (Str.ofString b)) = true)
  (F:∀ (w:World) (K:Frag) (mg:Str→Option Value) (fa:Addr) (h:Heap),AllIn K h→(∀ d ∈ ds,DIn K mg d)→(∀ b ∈ bltNames,mg (Str.ofString b) = none)→mg d.name = some (.ref fa) →
   ∃ fd:FuncData,(∀ (s:Shared) (u:Value),BindsTo s fd ⟨[u],[]⟩ [(x,u)])∧∀ base:Heap,FnOk l.prog w K mg base CX0 k fa fd [x] (sp K))
  (hsp:∀ (K:Frag) (H:Hp) (a:Addr) (ns:List Int),ns.length ≤ n→Only H→SqL K H a (ns.map V.int)→sp K [.ref a] H (fun v _=>v = .bl true) fun _ _ _=>False) :
  WalkO q [] XP YP l.row.toRowW d [] (fun f vs=>PySem.call f vs):=by
 refine Att.attach_call hn hdf fun w s₀ s₁ mg mb fa o pm cd doc a vs ns G Y ho hd hcd hmg hobj hints hlen hg=>?_
 obtain ⟨K,hK,hD⟩:=defs_in G.T ds fun d m=>hds ▸ m
 obtain ⟨fd,hb,hF⟩:=F w K mg fa _ hK hD (fun b hb=>free_in G.T (List.all_eq_true.mp hfree b hb)) hmg
 exact law_call hK.to G.T.g G.T.b G.T.builtins G.T.nolimit hg hobj hints (Nat.le_trans hlen hn2) hr (fun base _ _=>hF base) hb (fun H hO hS=>hsp K H a ns hlen hO hS) fun H e s' z=>z
theorem row_holds {l:OpenLaw} {q:Program} {d:DefRec} {N:Nat} (said:l.wellSaid = true) (left:LeftO l.prog q [] (fun s=>xlAt q [] s && recOk (RowW.records l.row.toRowW) s) (fun _=>()) (fun _=>()) N)
  (hdef:defOf q l.name = some (d,[])) (hp:l.prog.theDef l.name = some (d.params,d.body,d.scope)) (hk:kwWritten? d.params.kwonlyargs d.params.kw_defaults = some []) (hwr:(!l.writes || l.row.records.isEmpty) = true)
  (ok:(chainsOk q && opensWell l.prog && (frees l.row.toRowW && l.row.within.isEmpty)) = true) (hb:l.prog.bare) (hw:l.row.toRowW.promised)
  (call:WalkO q [] (XL q []) (fun _ _=>True) l.row.toRowW d [] fun f vs=>PySem.call f vs):l.Holds :=
 holds_law said fun k1=>holds_open (r:=l.row) left (fun _ _ _=>trivial) (fun _ _ _ _ _=>trivial) (fun s e=>xl_of s (Bool.and_eq_true_iff.mp e).1) XL.keeps hdef hp hk (fun s e=>recFacts_of (Bool.and_eq_true_iff.mp e).2) hwr k1 ok hb hw call
end Kw
end
section
set_option linter.all false
namespace Kf
open Kw
inductive FV where
 | non | bl (b:Bool) | int (i:Int) | str (x:String) | tup (xs:List FV) | lst (xs:List FV)
 | scr (ns:List Int) | shn (d:D)
 deriving Inhabited
inductive Mo where | imm | own | frz
 deriving DecidableEq,Inhabited
noncomputable abbrev Md:=List Mo
noncomputable abbrev FLoc:=List (Option FV)
noncomputable def mdAt:Md→Nat→Mo
 | [],_=>.imm
 | m :: _,0=>m
 | _ :: ms,n + 1=>mdAt ms n
noncomputable def lkF:FLoc→Nat→Option FV
 | [],_=>none
 | x :: _,0=>x
 | _ :: L,n + 1=>lkF L n
noncomputable def fD:Nat→FV→Option D
 | 0,_=>none
 | n + 1,v=>match v with
  | .non=>some .non
  | .bl b=>some (.bl b)
  | .int i=>some (.int i)
  | .str x=>some (.str x)
  | .tup xs=>(mapO (fD n) xs).map .tup
  | .lst xs=>(mapO (fD n) xs).map .lst
  | .scr _=>none
  | .shn _=>none
noncomputable def listF:FV→Option (List FV)
 | .lst xs=>some xs
 | .scr ns=>some (ns.map .int)
 | _=>none
noncomputable def seqF:FV→Option (List FV)
 | .tup xs=>some xs
 | v=>listF v
noncomputable def truF:FV→Option Bool
 | .non=>some false
 | .bl b=>some b
 | .int i=>some (i != 0)
 | .str _=>none
 | .tup xs=>some (!xs.isEmpty)
 | .shn _=>none
 | v=>(listF v).map fun xs=>!xs.isEmpty
noncomputable def eqF (a b:FV):Option Bool:=match a,b with
 | .shn x,.shn y=>if x = y then some true else none
 | a,b=>(fD deepest a).bind fun x=>(fD deepest b).bind fun y=>some (D.eqv x y)
noncomputable def inF (a b:FV):Option Bool:=(fD deepest a).bind fun x=>(fD deepest b).bind fun y=>inD x y
noncomputable def intsF:List FV→Option (List Int)
 | []=>some []
 | .int i :: r=>(intsF r).map (i :: ·)
 | _=>none
noncomputable def boolsF:List FV→Option (List Bool)
 | []=>some []
 | .bl b :: r=>(boolsF r).map (b :: ·)
 | _=>none
noncomputable def tupsF:List FV→Option (List (List Int))
 | []=>some []
 | .tup xs :: r=>(intsF xs).bind fun t=>(tupsF r).map (t :: ·)
 | _=>none
noncomputable def binF:BOp→FV→FV→Option FV
 | .add,.int i,.int j=>some (.int (i + j))
 | .add,.tup xs,.tup ys=>if xs.length + ys.length ≤ big then some (.tup (xs ++ ys)) else none
 | .add,.lst xs,.lst ys=>if xs.length + ys.length ≤ big then some (.lst (xs ++ ys)) else none
 | .mul,.lst xs,.int k=>if -(2 ^ 63) ≤ k∧k < 2 ^ 63∧xs.length * k.toNat ≤ big then some (.lst (List.replicate k.toNat xs).flatten) else none
 | .sub,.int i,.int j=>some (.int (i - j))
 | .mul,.int i,.int j=>if small i || small j then some (.int (i * j)) else none
 | .fdiv,.int i,.int j=>if 0 < j∧j < 1073741824 then some (.int (i / j)) else none
 | .mod,.int i,.int j=>if 0 < j then some (.int (i % j)) else none
 | .pow,.int i,.int j=>if 0 ≤ j∧j ≤ 1000∧small i then some (.int (i ^ j.toNat)) else none
 | _,_,_=>none
noncomputable def cmpF:COp→FV→FV→Option Bool
 | .eq,a,b=>eqF a b
 | .ne,a,b=>(eqF a b).map (!·)
 | .lt,.int i,.int j=>some (decide (i < j))
 | .le,.int i,.int j=>some (decide (i ≤ j))
 | .gt,.int i,.int j=>some (decide (j < i))
 | .ge,.int i,.int j=>some (decide (j ≤ i))
 | .lt,.tup xs,.tup ys=>(intsF xs).bind fun a=>(intsF ys).bind fun b=>some (lexLt a b)
 | .le,.tup xs,.tup ys=>(intsF xs).bind fun a=>(intsF ys).bind fun b=>some (lexLe a b)
 | .isin,a,b=>inF a b
 | .notin,a,b=>(inF a b).map (!·)
 | _,_,_=>none
noncomputable def atF (xs:List FV) (i:Int):Option FV:=(ixN xs.length i).bind fun j=>xs[j]?
noncomputable def cutF {α:Type} (xs:List α) (lo hi:Option Int):List α:=(xs.drop (sIx xs.length 0 lo)).take (sIx xs.length xs.length hi - sIx xs.length 0 lo)
noncomputable def sliceF (v:FV) (lo hi:Option Int):Option FV:=match v with
 | .tup xs=>some (.tup (cutF xs lo hi))
 | .lst xs=>some (.lst (cutF xs lo hi))
 | _=>none
noncomputable def sumF (xs:List FV):Option Int:=(intsF xs).bind fun ns=>if ns.length ≤ big∧ns.all small40 then some ns.sum else none
noncomputable def minF (xs:List FV):Option FV:=match intsF xs with
 | some (n :: r)=>some (.int (leastI n r))
 | some []=>none
 | none=>match tupsF xs with
  | some (t :: r)=>some (.tup ((leastT t r).map .int))
  | _=>none
noncomputable def strF (v:FV):Option FV:=match v with
 | .non=>some (.str "None")
 | .bl b=>some (.str (if b then "True" else "False"))
 | .str x=>some (.str x)
 | .int i=>if -(2 ^ 150) < i∧i < 2 ^ 150 then some (.str (toString i)) else none
 | .tup xs=>(fD deepest (.tup xs)).bind fun d=>if d.fit∧d.wt ≤ big then some (.shn d) else none
 | .lst xs=>(fD deepest (.lst xs)).bind fun d=>if d.fit∧d.wt ≤ big then some (.shn d) else none
 | .scr _=>none | .shn _=>none
noncomputable def absF:FV→Option FV | .int i=>some (.int (if i < 0 then -i else i)) | _=>none
noncomputable def toIntF:FV→Option FV | .int i=>some (.int i) | .bl b=>some (.int (if b then 1 else 0)) | _=>none
noncomputable def bfunF (f:BF) (v:FV):Option FV:=match f with
 | .len=>(seqF v).map fun xs=>.int xs.length
 | .abs=>absF v
 | .int=>toIntF v
 | .sum=>(listF v).bind fun xs=>(sumF xs).map .int
 | .all=>(listF v).bind fun xs=>(boolsF xs).map fun bs=>.bl (bs.all id)
 | .any=>(listF v).bind fun xs=>(boolsF xs).map fun bs=>.bl (bs.any id)
 | .min=>(listF v).bind minF
 | .max=>none
 | .tuple=>(seqF v).map .tup
 | .list=>(seqF v).map .lst
 | .str=>strF v
noncomputable def bf2I (f:BF) (i j:Int):Option FV:=match f with
 | .min=>some (.int (if j < i then j else i))
 | .max=>some (.int (if j > i then j else i))
 | _=>none
noncomputable def bf2F (f:BF):List FV→Option FV
 | [.int i,.int j]=>bf2I f i j
 | _=>none
noncomputable def isTyF:FV→Ty→Option Bool
 | .non,_=>some false
 | .bl _,t=>some (t == .int || t == .bool)
 | .int _,t=>some (t == .int)
 | .str _,t=>some (t == .str)
 | .tup _,t=>some (t == .tuple)
 | .lst _,t=>some (t == .list)
 | .scr _,_=>none
 | .shn _,t=>some (t == .str)
noncomputable def isTysF (v:FV):List Ty→Option Bool
 | []=>some false
 | t :: r=>(isTyF v t).bind fun a=>(isTysF v r).map fun b=>a || b
noncomputable def mfunF:MF→List FV→FV→Option (List FV)
 | .append,xs,v=>if xs.length < big then some (xs ++ [v]) else none
 | .extend,xs,.tup ys=>if xs.length + ys.length ≤ big then some (xs ++ ys) else none
 | .extend,xs,.lst ys=>if xs.length + ys.length ≤ big then some (xs ++ ys) else none
 | _,_,_=>none
noncomputable def setAllF:FLoc→List Nat→List FV→Option FLoc
 | L,[],[]=>some L
 | L,i :: is,v :: vs=>setAllF (L.set i (some v)) is vs
 | _,_,_=>none
noncomputable def allImm (md:Md):List Nat→Bool
 | []=>true
 | i :: is=>decide (mdAt md i = .imm) && allImm md is
noncomputable def asgF (md:Md) (tg:Tg) (v:FV) (L:FLoc):Option FLoc:=match tg with
 | .nm i=>if mdAt md i = .imm then some (L.set i (some v)) else none
 | .tp is=>match v with
  | .tup xs=>if allImm md is = true then setAllF L is xs else none
  | _=>none
noncomputable def uptoF (lo:Int):Nat→List FV
 | 0=>[]
 | n + 1=>.int lo :: uptoF (lo + 1) n
noncomputable def tgGe (n:Nat):Tg→Bool
 | .nm i=>decide (n ≤ i)
 | .tp is=>is.all fun i=>decide (n ≤ i)
noncomputable def isNonF:FV→Bool | .non=>true | _=>false
noncomputable def isBlF (c:Bool):FV→Bool | .bl b=>b == c | _=>false
noncomputable def intF:FV→Option Int | .int i=>some i | _=>none
noncomputable def blF:FV→Option Bool | .bl b=>some b | _=>none
noncomputable def tupF:FV→Option (List FV) | .tup xs=>some xs | _=>none
noncomputable abbrev FR (α:Type):=Option (α×FLoc)
structure Sem where
 v:Md→FLoc→FR FV
 r:Md→FLoc→FR FV
 f:Md→FLoc→FR FV
 t:Md→FLoc→FR Bool
 ts:Md→FLoc→FR Bool
 s:Md→FLoc→FR (List FV)
 o:Md→FLoc→FR (Option Int)
 i:Md→FLoc→Option (List FV×Md×FLoc)
 nm:Option Nat
 hd:Option Nat
 tl:Md→FLoc→FR (List FV)
 one:Option (Md→FLoc→FR FV)
noncomputable def tOf (v:Md→FLoc→FR FV) (md:Md) (L:FLoc):FR Bool:=(v md L).bind fun x=>(truF x.1).map fun b=>(b,x.2)
noncomputable def oOf (v:Md→FLoc→FR FV) (md:Md) (L:FLoc):FR (Option Int):=(v md L).bind fun x=>(intF x.1).map fun i=>(some i,x.2)
noncomputable def iOf (v:Md→FLoc→FR FV) (md:Md) (L:FLoc):Option (List FV×Md×FLoc):=(v md L).bind fun x=>(seqF x.1).map fun xs=>(xs,md,x.2)
noncomputable def Sem.pl (v:Md→FLoc→FR FV):Sem:=⟨v,v,fun _ _=>none,tOf v,fun _ _=>none,fun _ _=>none,oOf v,iOf v,none,none,fun _ _=>none,none⟩
noncomputable def Sem.fr (v:Md→FLoc→FR FV) (f:Md→FLoc→FR FV):Sem:=⟨v,v,f,tOf v,fun _ _=>none,fun _ _=>none,oOf v,iOf v,none,none,fun _ _=>none,none⟩
noncomputable def Sem.te (v:Md→FLoc→FR FV) (t:Md→FLoc→FR Bool):Sem:=⟨v,v,fun _ _=>none,t,fun _ _=>none,fun _ _=>none,oOf v,iOf v,none,none,fun _ _=>none,none⟩
noncomputable def Sem.no:Sem:=⟨fun _ _=>none,fun _ _=>none,fun _ _=>none,fun _ _=>none,fun _ _=>none,fun _ _=>none,fun _ _=>none,fun _ _=>none,none,none,fun _ _=>none,none⟩
noncomputable def Sem.wk (i:Md→FLoc→Option (List FV×Md×FLoc)):Sem:=⟨fun _ _=>none,fun _ _=>none,fun _ _=>none,fun _ _=>none,fun _ _=>none,fun _ _=>none,fun _ _=>none,i,none,none,fun _ _=>none,none⟩
noncomputable def dfr {β:Type} (a:Sem) (md:Md) (L:FLoc) (k:(FLoc→Option FV)→FLoc→Option β):Option β:=match a.nm with
 | some i=>k (fun L'=>lkF L' i) L
 | none=>(a.r md L).bind fun x=>k (fun _=>some x.1) x.2
noncomputable def freeze (md:Md):Option Nat→Md
 | some i=>if mdAt md i = .own then md.set i .frz else md
 | none=>md
section
-- of a def: whether it writes its first argument; whether it gives a new list
variable (Γ:Nat→Bool×Bool)
variable (call:Nat→List FV→Option (FV×FV))
noncomputable def compF (tg:Tg) (md:Md) (n m:Nat) (tst:Md→FLoc→FR Bool) (el:Md→FLoc→FR FV):List FV→FLoc→FR (List FV)
 | [],L=>some ([],L)
 | x :: xs,L=>(asgF md tg x (L ++ List.replicate m none)).bind fun L1=>(tst md L1).bind fun b =>
   if b.1 = true then (el md b.2).bind fun v=>(compF tg md n m tst el xs (v.2.take n)).bind fun vs=>some (v.1 :: vs.1,vs.2)
   else compF tg md n m tst el xs (b.2.take n)
noncomputable def isLstOp:FV→Bool | .lst _=>true | _=>false
noncomputable def isOne (es:E) (r:Md→FLoc→FR FV):Option (Md→FLoc→FR FV):=match es with
 | .nil=>some r
 | _=>none
noncomputable def callS (f:Nat) (a:Sem) (md:Md) (L:FLoc):FR FV:=match (Γ f).1 with
 | true=>match a.hd with
  | some i=>if mdAt md i = .own then (a.tl md L).bind fun xs=>(lkF xs.2 i).bind fun x=>(call f (x :: xs.1)).map fun z=>(z.1,xs.2.set i (some z.2)) else none
  | none=>none
 | false=>(a.s md L).bind fun xs=>(call f xs.1).map fun z=>(z.1,xs.2)
noncomputable def methS (f:MF) (o a:Sem) (md:Md) (L:FLoc):FR FV:=match o.nm with
 | some k=>if mdAt md k = .own then
   match f with
   | .append=>(a.v md L).bind fun y=>(lkF y.2 k).bind fun x=>(listF x).bind fun xs=>(mfunF .append xs y.1).map fun zs=>(.non,y.2.set k (some (.lst zs)))
   | .extend=>if a.nm = some k then none else (a.r md L).bind fun y=>(lkF y.2 k).bind fun x=>(listF x).bind fun xs=>(mfunF .extend xs y.1).map fun zs=>(.non,y.2.set k (some (.lst zs)))
  else none
 | none=>none
noncomputable def sem:E→Sem
 | .var i=>⟨fun md L=>if mdAt md i = .imm then (lkF L i).map fun x=>(x,L) else none,fun _ L=>(lkF L i).map fun x=>(x,L),fun _ _=>none,
   fun _ L=>(lkF L i).bind fun x=>(truF x).map fun b=>(b,L),fun _ _=>none,fun _ _=>none,fun _ L=>(lkF L i).bind fun x=>(intF x).map fun j=>(some j,L),
   fun md L=>(lkF L i).bind fun x=>(seqF x).map fun xs=>(xs,freeze md (some i),L),some i,none,fun _ _=>none,none⟩
 | .int i=>.pl fun _ L=>some (.int i,L)
 | .bl b=>.pl fun _ L=>some (.bl b,L)
 | .non=>.pl fun _ L=>some (.non,L)
 | .str x=>.pl fun _ L=>some (.str x,L)
 | .bin op a b =>
   let go:=fun (md:Md) (L:FLoc)=>dfr (sem a) md L fun g L1=>((sem b).r md L1).bind fun y=>(g y.2).bind fun x=>(binF op x y.1).map fun z=>(z,y.2)
   .fr go fun md L=>(go md L).bind fun z=>if isLstOp z.1 then some z else none
 | .cmp op a b=>.pl fun md L=>dfr (sem a) md L fun g L1=>((sem b).r md L1).bind fun y=>(g y.2).bind fun x=>(cmpF op x y.1).map fun z=>(.bl z,y.2)
 | .is k a c=>.pl fun md L=>((sem a).r md L).bind fun x=>match c with
  | .non=>some (.bl (k != isNonF x.1),x.2)
  | .bl b=>some (.bl (k != isBlF b x.1),x.2)
  | _=>none
 | .chain o p a b c=>.pl fun md L=>dfr (sem a) md L fun g L1=>((sem b).v md L1).bind fun y=>(g y.2).bind fun x=>(cmpF o x y.1).bind fun r =>
   if r = true then ((sem c).r md y.2).bind fun z=>(cmpF p y.1 z.1).map fun q=>(.bl q,z.2) else some (.bl false,y.2)
 | .and a b=>.te (fun md L=>((sem a).v md L).bind fun x=>(truF x.1).bind fun r=>if r = true then (sem b).v md x.2 else some x)
   fun md L=>((sem a).t md L).bind fun r=>if r.1 = true then (sem b).t md r.2 else some (false,r.2)
 | .or a b=>.te (fun md L=>((sem a).v md L).bind fun x=>(truF x.1).bind fun r=>if r = true then some x else (sem b).v md x.2)
   fun md L=>((sem a).t md L).bind fun r=>if r.1 = true then some (true,r.2) else (sem b).t md r.2
 | .not a=>.te (fun md L=>((sem a).v md L).bind fun x=>(blF x.1).map fun b=>(.bl (!b),x.2)) fun md L=>((sem a).t md L).map fun r=>(!r.1,r.2)
 | .neg a=>.pl fun md L=>((sem a).v md L).bind fun x=>(intF x.1).map fun i=>(.int (-i),x.2)
 | .ite c a b=>.te (fun md L=>((sem c).t md L).bind fun r=>if r.1 = true then (sem a).v md r.2 else (sem b).v md r.2)
   fun md L=>((sem c).t md L).bind fun r=>if r.1 = true then (sem a).t md r.2 else (sem b).t md r.2
 | .tup es=>.pl fun md L=>((sem es).s md L).bind fun xs=>if xs.1.length ≤ big then some (.tup xs.1,xs.2) else none
 | .lst es =>
   let go:=fun (md:Md) (L:FLoc)=>((sem es).s md L).bind fun xs=>if xs.1.length ≤ big then some (FV.lst xs.1,xs.2) else none
   .fr go go
 | .nil=>⟨fun _ _=>none,fun _ _=>none,fun _ _=>none,fun _ _=>none,fun _ L=>some (true,L),fun _ L=>some ([],L),fun _ _=>none,fun _ _=>none,none,none,fun _ _=>none,none⟩
 | .cons e es=>⟨fun _ _=>none,fun _ _=>none,fun _ _=>none,fun _ _=>none,
   fun md L=>((sem e).t md L).bind fun b=>if b.1 = true then (sem es).ts md b.2 else some (false,b.2),
   fun md L=>((sem e).v md L).bind fun x=>((sem es).s md x.2).bind fun xs=>some (x.1 :: xs.1,xs.2),
   fun _ _=>none,fun _ _=>none,none,(sem e).nm,(sem es).s,isOne es (sem e).r⟩
 | .ix a i=>.pl fun md L=>dfr (sem a) md L fun g L1=>((sem i).v md L1).bind fun y=>(g y.2).bind fun x=>(intF y.1).bind fun j=>(seqF x).bind fun xs=>(atF xs j).map fun v=>(v,y.2)
 | .sl a lo hi =>
   let go:=fun (md:Md) (L:FLoc)=>dfr (sem a) md L fun g L1=>((sem lo).o md L1).bind fun l=>((sem hi).o md l.2).bind fun h=>(g h.2).bind fun x=>(sliceF x l.1 h.1).map fun z=>(z,h.2)
   .fr go fun md L=>(go md L).bind fun z=>if isLstOp z.1 then some z else none
 | .none=>⟨fun _ _=>none,fun _ _=>none,fun _ _=>none,fun _ _=>none,fun _ _=>none,fun _ _=>none,fun _ L=>some (none,L),fun _ _=>none,none,none,fun _ _=>none,none⟩
 | .turn a=>.pl fun md L=>((sem a).v md L).bind fun x=>(tupF x.1).map fun xs=>(.tup xs.reverse,x.2)
 | .call f args=>.fr (callS Γ call f (sem args)) fun md L=>if (Γ f).2 = true then callS Γ call f (sem args) md L else none
 | .blt f as =>
   let go:=fun (md:Md) (L:FLoc)=>match (sem as).one with
    | some r=>(r md L).bind fun x=>(bfunF f x.1).map fun z=>(z,x.2)
    | none=>((sem as).s md L).bind fun xs=>(bf2F f xs.1).map fun z=>(z,xs.2)
   .fr go fun md L=>(go md L).bind fun z=>if isLstOp z.1 then some z else none
 | .isi a ts=>.pl fun md L=>((sem a).r md L).bind fun x=>(isTysF x.1 ts).map fun r=>(.bl r,x.2)
 | .meth f o a=>.pl (methS f (sem o) (sem a))
 | .comp el tg n m it ifs =>
   let go:=fun (md:Md) (L:FLoc)=>((sem it).i md L).bind fun x=>if x.2.2.length = n∧tgGe n tg = true then (compF tg x.2.1 n m (sem ifs).ts (sem el).v x.1 x.2.2).bind fun ys=>if ys.1.length ≤ big then some (FV.lst ys.1,ys.2) else none else none
   .fr go go
 | .rng a=>.wk fun md L=>((sem a).v md L).bind fun x=>(intF x.1).bind fun j=>if small62 j then some (uptoF 0 j.toNat,md,x.2) else none
 | .rng2 _ _=>.no
 | .zip a b=>.wk fun md L=>dfr (sem a) md L fun g L1=>((sem b).r md L1).bind fun y=>(g y.2).bind fun x=>(seqF x).bind fun xs=>(seqF y.1).bind fun ys =>
   some (xs.zipWith (fun p q=>.tup [p,q]) ys,freeze (freeze md (sem a).nm) (sem b).nm,y.2)
 | .enum _=>.no
 | .revr _=>.no
 | .rev _=>.no
theorem semR_var_v {Γ:Nat→Bool×Bool} {call:Nat→List FV→Option (FV×FV)} (i:Nat) (md:Md) (L:FLoc):(sem Γ call (.var i)).v md L = if mdAt md i = .imm then (lkF L i).map fun x=>(x,L) else none:=rfl
theorem semR_var_r {Γ:Nat→Bool×Bool} {call:Nat→List FV→Option (FV×FV)} (i:Nat) (md:Md) (L:FLoc):(sem Γ call (.var i)).r md L = (lkF L i).map fun x=>(x,L):=rfl
theorem semR_var_t {Γ:Nat→Bool×Bool} {call:Nat→List FV→Option (FV×FV)} (i:Nat) (md:Md) (L:FLoc):(sem Γ call (.var i)).t md L = (lkF L i).bind fun x=>(truF x).map fun b=>(b,L):=rfl
theorem semR_var_o {Γ:Nat→Bool×Bool} {call:Nat→List FV→Option (FV×FV)} (i:Nat) (md:Md) (L:FLoc):(sem Γ call (.var i)).o md L = (lkF L i).bind fun x=>(intF x).map fun j=>(some j,L):=rfl
theorem semR_var_i {Γ:Nat→Bool×Bool} {call:Nat→List FV→Option (FV×FV)} (i:Nat) (md:Md) (L:FLoc):(sem Γ call (.var i)).i md L = (lkF L i).bind fun x=>(seqF x).map fun xs=>(xs,freeze md (some i),L):=rfl
theorem semR_lst_v {Γ:Nat→Bool×Bool} {call:Nat→List FV→Option (FV×FV)} (es:E) (md:Md) (L:FLoc):(sem Γ call (.lst es)).v md L = ((sem Γ call es).s md L).bind fun xs=>if xs.1.length ≤ big then some (FV.lst xs.1,xs.2) else none:=rfl
theorem semR_cons_ts {Γ:Nat→Bool×Bool} {call:Nat→List FV→Option (FV×FV)} (e es:E) (md:Md) (L:FLoc):(sem Γ call (.cons e es)).ts md L = ((sem Γ call e).t md L).bind fun b=>if b.1 = true then (sem Γ call es).ts md b.2 else some (false,b.2):=rfl
theorem semR_cons_s {Γ:Nat→Bool×Bool} {call:Nat→List FV→Option (FV×FV)} (e es:E) (md:Md) (L:FLoc):(sem Γ call (.cons e es)).s md L = ((sem Γ call e).v md L).bind fun x=>((sem Γ call es).s md x.2).bind fun xs=>some (x.1 :: xs.1,xs.2):=rfl
theorem semR_comp_v {Γ:Nat→Bool×Bool} {call:Nat→List FV→Option (FV×FV)} (el:E) (tg:Tg) (n m:Nat) (it ifs:E) (md:Md) (L:FLoc):(sem Γ call (.comp el tg n m it ifs)).v md L = ((sem Γ call it).i md L).bind fun x=>if x.2.2.length = n∧tgGe n tg = true then (compF tg x.2.1 n m (sem Γ call ifs).ts (sem Γ call el).v x.1 x.2.2).bind fun ys=>if ys.1.length ≤ big then some (FV.lst ys.1,ys.2) else none else none:=rfl
theorem semR_blt_v {Γ : Nat → Bool × Bool} {call : Nat → List FV → Option (FV × FV)} (f : BF) (as : E) (md : Md) (L : FLoc) : (sem Γ call (.blt f as)).v md L = match (sem Γ call as).one with
        | some r => (r md L).bind fun x => (bfunF f x.1).map fun z => (z, x.2)
        | none => ((sem Γ call as).s md L).bind fun xs => (bf2F f xs.1).map fun z => (z, xs.2) := rfl
end
inductive FFl where | next | ret (v:FV) | brk | cont
noncomputable abbrev FS:=Option (FFl×FLoc)
noncomputable def forF (tg:Tg) (md:Md) (body:Md→FLoc→FS):List FV→FLoc→FS
 | [],L=>some (.next,L)
 | x :: xs,L=>(asgF md tg x L).bind fun L1=>(body md L1).bind fun z=>match z.1 with
   | .next=>forF tg md body xs z.2
   | .cont=>forF tg md body xs z.2
   | .brk=>some (.next,z.2)
   | .ret v=>some (.ret v,z.2)
noncomputable def whileF (tst:Md→FLoc→FR Bool) (body:Md→FLoc→FS) (md:Md):Nat→FLoc→FS
 | 0,_=>none
 | n + 1,L=>(tst md L).bind fun b=>if b.1 = true then
   (body md b.2).bind fun z=>match z.1 with
    | .next=>whileF tst body md n z.2
    | .cont=>whileF tst body md n z.2
    | .brk=>some (.next,z.2)
    | .ret v=>some (.ret v,z.2)
  else some (.next,b.2)
section
variable (Γ:Nat→Bool×Bool) (call:Nat→List FV→Option (FV×FV))
noncomputable def exF (fr:Bool):S→Md→FLoc→FS
 | .nil,_,L=>some (.next,L)
 | .cons s r,md,L=>(exF fr s md L).bind fun z=>match z.1 with
  | .next=>exF fr r md z.2
  | g=>some (g,z.2)
 | .asg (.nm i) e,md,L=>match mdAt md i with
  | .imm=>((sem Γ call e).v md L).map fun x=>(.next,x.2.set i (some x.1))
  | .own=>if i = 0 then none else ((sem Γ call e).f md L).map fun x=>(.next,x.2.set i (some x.1))
  | .frz=>none
 | .asg (.tp is) e,md,L=>((sem Γ call e).v md L).bind fun x=>(asgF md (.tp is) x.1 x.2).map fun L1=>(.next,L1)
 | .setix o i e,md,L=>match (sem Γ call o).nm with
  | some k=>if mdAt md k = .own then ((sem Γ call e).v md L).bind fun x=>((sem Γ call i).v md x.2).bind fun j=>(intF j.1).bind fun n=>(lkF j.2 k).bind fun y=>match y with
    | .lst xs=>(ixN xs.length n).map fun p=>(.next,j.2.set k (some (.lst (xs.set p x.1))))
    | _=>none
   else none
  | none=>none
 | .aug i op e,md,L=>if mdAt md i = .imm then (lkF L i).bind fun a=>(intF a).bind fun a=>((sem Γ call e).v md L).bind fun x=>(intF x.1).bind fun b=>match op with
   | .add=>some (.next,x.2.set i (some (.int (a + b))))
   | .sub=>some (.next,x.2.set i (some (.int (a - b))))
   | _=>none
  else none
 | .ret e,md,L=>match fr with
  | false=>((sem Γ call e).v md L).map fun x=>(.ret x.1,x.2)
  | true=>match (sem Γ call e).nm with
   | some i=>if mdAt md i = .own∧i ≠ 0 then (lkF L i).map fun x=>(.ret x,L) else none
   | none=>((sem Γ call e).f md L).map fun x=>(.ret x.1,x.2)
 | .retN,_,L=>if fr then none else some (.ret .non,L)
 | .expr e,md,L=>((sem Γ call e).v md L).map fun x=>(.next,x.2)
 | .pass,_,L=>some (.next,L)
 | .ife c a b,md,L=>((sem Γ call c).t md L).bind fun r=>if r.1 = true then exF fr a md r.2 else exF fr b md r.2
 | .whl c b,md,L=>whileF (sem Γ call c).t (fun md L=>exF fr b md L) md big L
 | .for_ tg it b,md,L=>((sem Γ call it).i md L).bind fun x=>forF tg x.2.1 (fun md L=>exF fr b md L) x.1 x.2.2
 | .brk,_,L=>some (.brk,L)
 | .cont,_,L=>some (.cont,L)
theorem exFR_cons {Γ:Nat→Bool×Bool} {call:Nat→List FV→Option (FV×FV)} {fr:Bool} (s r:S) (md:Md) (L:FLoc):exF Γ call fr (.cons s r) md L = (exF Γ call fr s md L).bind fun z=>match z.1 with
  | .next=>exF Γ call fr r md z.2
  | g=>some (g,z.2):=rfl
theorem exFR_asg {Γ:Nat→Bool×Bool} {call:Nat→List FV→Option (FV×FV)} {fr:Bool} (i:Nat) (e:E) (md:Md) (L:FLoc):exF Γ call fr (.asg (.nm i) e) md L = match mdAt md i with
  | .imm=>((sem Γ call e).v md L).map fun x=>(.next,x.2.set i (some x.1))
  | .own=>if i = 0 then none else ((sem Γ call e).f md L).map fun x=>(.next,x.2.set i (some x.1))
  | .frz=>none:=rfl
theorem exFR_asgT {Γ:Nat→Bool×Bool} {call:Nat→List FV→Option (FV×FV)} {fr:Bool} (is:List Nat) (e:E) (md:Md) (L:FLoc):exF Γ call fr (.asg (.tp is) e) md L = ((sem Γ call e).v md L).bind fun x=>(asgF md (.tp is) x.1 x.2).map fun L1=>(.next,L1):=rfl
theorem exFR_setix {Γ:Nat→Bool×Bool} {call:Nat→List FV→Option (FV×FV)} {fr:Bool} (o i e:E) (md:Md) (L:FLoc):exF Γ call fr (.setix o i e) md L = match (sem Γ call o).nm with
  | some k=>if mdAt md k = .own then ((sem Γ call e).v md L).bind fun x=>((sem Γ call i).v md x.2).bind fun j=>(intF j.1).bind fun n=>(lkF j.2 k).bind fun y=>match y with
    | .lst xs=>(ixN xs.length n).map fun p=>(.next,j.2.set k (some (.lst (xs.set p x.1))))
    | _=>none
   else none
  | none=>none:=rfl
theorem exFR_aug {Γ : Nat → Bool × Bool} {call : Nat → List FV → Option (FV × FV)} {fr : Bool} (i : Nat) (op : BOp) (e : E) (md : Md) (L : FLoc) : exF Γ call fr (.aug i op e) md L = if mdAt md i = .imm then (lkF L i).bind fun a => (intF a).bind fun a => ((sem Γ call e).v md L).bind fun x => (intF x.1).bind fun b => match op with
      | .add => some (.next, x.2.set i (some (.int (a + b))))
      | .sub => some (.next, x.2.set i (some (.int (a - b))))
      | _ => none
    else none := rfl
theorem exFR_ret {Γ:Nat→Bool×Bool} {call:Nat→List FV→Option (FV×FV)} {fr:Bool} (e:E) (md:Md) (L:FLoc):exF Γ call fr (.ret e) md L = match fr with
  | false=>((sem Γ call e).v md L).map fun x=>(.ret x.1,x.2)
  | true=>match (sem Γ call e).nm with
   | some i=>if mdAt md i = .own∧i ≠ 0 then (lkF L i).map fun x=>(.ret x,L) else none
   | none=>((sem Γ call e).f md L).map fun x=>(.ret x.1,x.2):=rfl
theorem exFR_retN {Γ:Nat→Bool×Bool} {call:Nat→List FV→Option (FV×FV)} {fr:Bool} (md:Md) (L:FLoc):exF Γ call fr (.retN) md L = if fr then none else some (.ret .non,L):=rfl
theorem exFR_expr {Γ:Nat→Bool×Bool} {call:Nat→List FV→Option (FV×FV)} {fr:Bool} (e:E) (md:Md) (L:FLoc):exF Γ call fr (.expr e) md L = ((sem Γ call e).v md L).map fun x=>(.next,x.2):=rfl
theorem exFR_ife {Γ:Nat→Bool×Bool} {call:Nat→List FV→Option (FV×FV)} {fr:Bool} (c:E) (a b:S) (md:Md) (L:FLoc):exF Γ call fr (.ife c a b) md L = ((sem Γ call c).t md L).bind fun r=>if r.1 = true then exF Γ call fr a md r.2 else exF Γ call fr b md r.2:=rfl
theorem exFR_for_ {Γ:Nat→Bool×Bool} {call:Nat→List FV→Option (FV×FV)} {fr:Bool} (tg:Tg) (it:E) (b:S) (md:Md) (L:FLoc):exF Γ call fr (.for_ tg it b) md L = ((sem Γ call it).i md L).bind fun x=>forF tg x.2.1 (fun md L=>exF Γ call fr b md L) x.1 x.2.2:=rfl
end
structure FD where
 np:Nat
 ns:Nat
 body:S
 md:Md
 io:Bool
 fr:Bool
noncomputable def FD.pl (fd:FD):FDef:=⟨fd.np,fd.ns,fd.body⟩
noncomputable def sigF (tb:List FD) (f:Nat):Bool×Bool:=match tb[f]? with
 | some fd=>(fd.io,fd.fr)
 | none=>(false,false)
noncomputable def endF (io fr:Bool) (z:FFl×FLoc):Option (FV×FV):=match z.1 with
 | .ret v=>if io then (lkF z.2 0).map fun x=>(v,x) else some (v,.non)
 | .next=>if fr then none else if io then (lkF z.2 0).map fun x=>(.non,x) else some (.non,.non)
 | _=>none
noncomputable def callF (tb:List FD):Nat→Nat→List FV→Option (FV×FV)
 | 0,_,_=>none
 | d + 1,f,args=>match tb[f]? with
  | none=>none
  | some fd=>if args.length = fd.np then
    (exF (sigF tb) (callF tb d) fd.fr fd.body fd.md (args.map some ++ List.replicate (fd.ns - fd.np) none)).bind (endF fd.io fd.fr)
   else none
end Kf
end
section
set_option linter.all false
set_option maxHeartbeats 1000000
namespace Kf
open Kw
theorem bnd {α β:Type} {a:Option α} {f:α→Option β} {y:β} (h:a.bind f = some y):∃ x,a = some x∧f x = some y:=Option.bind_eq_some_iff.mp h
theorem mpd {α β:Type} {a:Option α} {f:α→β} {y:β} (h:a.map f = some y):∃ x,a = some x∧f x = y:=Option.map_eq_some_iff.mp h
mutual
noncomputable def RA (P:Nat→Prop):PV→Prop
 | .tup xs=>RAs P xs
 | .ref l=>P l
 | .non=>True | .bl _=>True | .int _=>True | .str _=>True | .scr _=>True | .shn _=>True
noncomputable def RAs (P:Nat→Prop):List PV→Prop
 | []=>True
 | v :: r=>RA P v∧RAs P r
end
theorem RAs_iff {P:Nat→Prop}:∀ {xs:List PV},RAs P xs↔∀ v ∈ xs,RA P v
 | []=>by simp [RAs]
 | v :: r=>by simp [RAs,RAs_iff (xs:=r)]
mutual
theorem RA.mono {P Q:Nat→Prop} (h:∀ r,P r→Q r):∀ {v:PV},RA P v→RA Q v
 | .tup xs,k=>RAs.mono h (show RAs P xs from k)
 | .ref l,k=>h l k
 | .non,_=>trivial | .bl _,_=>trivial | .int _,_=>trivial | .str _,_=>trivial | .scr _,_=>trivial | .shn _,_=>trivial
theorem RAs.mono {P Q:Nat→Prop} (h:∀ r,P r→Q r):∀ {v:List PV},RAs P v→RAs Q v
 | [],_=>trivial
 | v :: r,k=>⟨RA.mono h k.1,RAs.mono h k.2⟩
end
mutual
theorem RA.and {P Q:Nat→Prop}:∀ {v:PV},RA P v→RA Q v→RA (fun r=>P r∧Q r) v
 | .tup xs,k,l=>RAs.and (show RAs P xs from k) (show RAs Q xs from l)
 | .ref _,k,l=>⟨k,l⟩
 | .non,_,_=>trivial | .bl _,_,_=>trivial | .int _,_,_=>trivial | .str _,_,_=>trivial | .scr _,_,_=>trivial | .shn _,_,_=>trivial
theorem RAs.and {P Q:Nat→Prop}:∀ {v:List PV},RAs P v→RAs Q v→RAs (fun r=>P r∧Q r) v
 | [],_,_=>trivial
 | v :: r,k,l=>⟨RA.and k.1 l.1,RAs.and k.2 l.2⟩
end
mutual
noncomputable def Rd (st:Sto):PV→FV→Prop
 | v,.non=>v = .non
 | v,.bl b=>v = .bl b
 | v,.int i=>v = .int i
 | v,.str s=>v = .str s
 | v,.tup xs=>∃ ps,v = .tup ps∧Rds st ps xs
 | v,.lst xs=>∃ l ps,v = .ref l∧st[l]? = some (.lst ps)∧Rds st ps xs
 | v,.scr ns=>v = .scr ns
 | v,.shn d=>v = .shn d
noncomputable def Rds (st:Sto):List PV→List FV→Prop
 | ps,[]=>ps = []
 | ps,x :: xs=>∃ p r,ps = p :: r∧Rd st p x∧Rds st r xs
end
theorem keep0 {st st':Sto} {G:Nat→Prop} (hc:∀ l ps,G l→st[l]? = some (.lst ps)→RAs G ps) (hs:∀ l,G l→l < st.length→st'[l]? = st[l]?) :
  (∀ x v,Rd st v x→RA G v→Rd st' v x):=by
 intro x
 refine FV.rec (motive_1:=fun x=>∀ v,Rd st v x→RA G v→Rd st' v x) (motive_2:=fun xs=>∀ ps,Rds st ps xs→RAs G ps→Rds st' ps xs) ?_ ?_ ?_ ?_ ?_ ?_ ?_ ?_ ?_ ?_ x
 ·intro v h _; exact h
 ·intro b v h _; exact h
 ·intro b v h _; exact h
 ·intro b v h _; exact h
 ·rintro xs ih v ⟨ps,rfl,h⟩ k; exact ⟨ps,rfl,ih ps h k⟩
 ·rintro xs ih v ⟨l,ps,rfl,e,h⟩ k
  exact ⟨l,ps,rfl,by rw [hs l k (List.getElem?_eq_some_iff.mp e).1]; exact e,ih ps h (hc l ps k e)⟩
 ·intro b v h _; exact h
 ·intro b v h _; exact h
 ·intro ps h _; exact h
 ·rintro x xs i1 i2 ps ⟨p,r,rfl,h1,h2⟩ k
  exact ⟨p,r,rfl,i1 p h1 k.1,i2 r h2 k.2⟩
theorem keeps0 {st st':Sto} {G:Nat→Prop} (hc:∀ l ps,G l→st[l]? = some (.lst ps)→RAs G ps) (hs:∀ l,G l→l < st.length→st'[l]? = st[l]?) :
  ∀ xs ps,Rds st ps xs→RAs G ps→Rds st' ps xs
 | [],ps,h,_=>h
 | x :: xs,ps,h,k=>by
  obtain ⟨p,r,rfl,h1,h2⟩:=h
  exact ⟨p,r,rfl,keep0 hc hs x p h1 k.1,keeps0 hc hs xs r h2 k.2⟩
mutual
theorem Rd.bound {st:Sto}:∀ {x:FV} {v:PV},Rd st v x→RA (· < st.length) v
 | .non,v,h=>by cases (show v = _ from h); trivial
 | .bl _,v,h=>by cases (show v = _ from h); trivial
 | .int _,v,h=>by cases (show v = _ from h); trivial
 | .str _,v,h=>by cases (show v = _ from h); trivial
 | .tup xs,v,h=>by obtain ⟨ps,rfl,h⟩:=h; exact Rds.bound (xs:=xs) h
 | .lst xs,v,h=>by obtain ⟨l,ps,rfl,e,h⟩:=h; exact (List.getElem?_eq_some_iff.mp e).1
 | .scr _,v,h=>by cases (show v = _ from h); trivial
 | .shn _,v,h=>by cases (show v = _ from h); trivial
theorem Rds.bound {st:Sto}:∀ {xs:List FV} {ps:List PV},Rds st ps xs→RAs (· < st.length) ps
 | [],ps,h=>by cases (show ps = [] from h); trivial
 | x :: xs,ps,h=>by obtain ⟨p,r,rfl,h1,h2⟩:=h; exact ⟨Rd.bound h1,Rds.bound h2⟩
end
section
variable {st:Sto}
theorem Rds.length:∀ {xs:List FV} {ps:List PV},Rds st ps xs→ps.length = xs.length
 | [],ps,h=>by cases (show ps = [] from h); rfl
 | x :: xs,ps,h=>by obtain ⟨p,r,rfl,h1,h2⟩:=h; simp [Rds.length h2]
theorem Rds.get:∀ {xs:List FV} {ps:List PV} {i:Nat} {x:FV},Rds st ps xs→xs[i]? = some x→∃ p,ps[i]? = some p∧Rd st p x
 | [],ps,i,x,h,e=>by simp at e
 | y :: xs,ps,0,x,h,e=>by obtain ⟨p,r,rfl,h1,h2⟩:=h; simp at e; subst e; exact ⟨p,rfl,h1⟩
 | y :: xs,ps,i + 1,x,h,e=>by obtain ⟨p,r,rfl,h1,h2⟩:=h; simpa using Rds.get h2 (i:=i) (by simpa using e)
theorem Rds.append:∀ {xs ys:List FV} {ps qs:List PV},Rds st ps xs→Rds st qs ys→Rds st (ps ++ qs) (xs ++ ys)
 | [],ys,ps,qs,h,k=>by cases (show ps = [] from h); exact k
 | x :: xs,ys,ps,qs,h,k=>by obtain ⟨p,r,rfl,h1,h2⟩:=h; exact ⟨p,r ++ qs,rfl,h1,Rds.append h2 k⟩
theorem Rds.take:∀ {xs:List FV} {ps:List PV} (n:Nat),Rds st ps xs→Rds st (ps.take n) (xs.take n)
 | [],ps,n,h=>by cases (show ps = [] from h); simp [Rds]
 | x :: xs,ps,0,h=>by simp [Rds]
 | x :: xs,ps,n + 1,h=>by obtain ⟨p,r,rfl,h1,h2⟩:=h; exact ⟨p,r.take n,rfl,h1,Rds.take n h2⟩
theorem Rds.drop:∀ {xs:List FV} {ps:List PV} (n:Nat),Rds st ps xs→Rds st (ps.drop n) (xs.drop n)
 | [],ps,n,h=>by cases (show ps = [] from h); simp [Rds]
 | x :: xs,ps,0,h=>h
 | x :: xs,ps,n + 1,h=>by obtain ⟨p,r,rfl,h1,h2⟩:=h; exact Rds.drop n h2
theorem Rds.set:∀ {xs:List FV} {ps:List PV} (n:Nat) {p:PV} {x:FV},Rds st ps xs→Rd st p x→Rds st (ps.set n p) (xs.set n x)
 | [],ps,n,p,x,h,_=>by cases (show ps = [] from h); simp [Rds]
 | y :: xs,ps,0,p,x,h,k=>by obtain ⟨q,r,rfl,h1,h2⟩:=h; exact ⟨p,r,rfl,k,h2⟩
 | y :: xs,ps,n + 1,p,x,h,k=>by obtain ⟨q,r,rfl,h1,h2⟩:=h; exact ⟨q,r.set n p,rfl,h1,Rds.set n h2 k⟩
theorem Rds.one {p:PV} {x:FV} (h:Rd st p x):Rds st [p] [x]:=⟨p,[],rfl,h,rfl⟩
theorem Rds.rep {xs:List FV} {ps:List PV} (h:Rds st ps xs):∀ k:Nat,Rds st (List.replicate k ps).flatten (List.replicate k xs).flatten
 | 0=>rfl
 | k + 1=>by rw [List.replicate_succ,List.replicate_succ,List.flatten_cons,List.flatten_cons]; exact h.append (h.rep k)
theorem Rds.rev:∀ {xs:List FV} {ps:List PV},Rds st ps xs→Rds st ps.reverse xs.reverse
 | [],ps,h=>by cases (show ps = [] from h); rfl
 | x :: xs,ps,h=>by obtain ⟨p,r,rfl,h1,h2⟩:=h; rw [List.reverse_cons,List.reverse_cons]; exact (Rds.rev h2).append (.one h1)
theorem Rds.ints:∀ ns:List Int,Rds st (ns.map .int) (ns.map .int)
 | []=>rfl
 | n :: r=>⟨_,_,rfl,rfl,Rds.ints r⟩
theorem Rds.upto:∀ (n:Nat) (lo:Int),Rds st (upto lo n) (uptoF lo n)
 | 0,_=>rfl
 | n + 1,lo=>⟨_,_,rfl,rfl,Rds.upto n (lo + 1)⟩
theorem Rds.cut {xs:List FV} {ps:List PV} (h:Rds st ps xs) (lo hi:Option Int):Rds st (Kw.cut ps lo hi) (cutF xs lo hi):=by
 unfold Kw.cut cutF; rw [h.length]; exact (h.drop _).take _
theorem Rds.zip:∀ {xs ys:List FV} {ps qs:List PV},Rds st ps xs→Rds st qs ys→Rds st (ps.zipWith (fun p q=>PV.tup [p,q]) qs) (xs.zipWith (fun p q=>FV.tup [p,q]) ys)
 | [],ys,ps,qs,h,k=>by cases (show ps = [] from h); simp [Rds]
 | x :: xs,[],ps,qs,h,k=>by cases (show qs = [] from k); simp [Rds]
 | x :: xs,y :: ys,ps,qs,h,k=>by
  obtain ⟨p,r,rfl,h1,h2⟩:=h
  obtain ⟨q,t,rfl,k1,k2⟩:=k
  exact ⟨_,_,rfl,⟨[p,q],rfl,p,[q],rfl,h1,.one k1⟩,Rds.zip h2 k2⟩
theorem RAs.append {P:Nat→Prop} {ps qs:List PV} (h:RAs P ps) (k:RAs P qs):RAs P (ps ++ qs):=by
 rw [RAs_iff] at *; intro v hv; rcases List.mem_append.mp hv with z | z
 ·exact h v z
 ·exact k v z
theorem RAs.sub {P:Nat→Prop} {ps qs:List PV} (h:RAs P ps) (k:∀ v ∈ qs,v ∈ ps):RAs P qs:=by
 rw [RAs_iff] at *; exact fun v hv=>h v (k v hv)
theorem RAs.set {P:Nat→Prop} {ps:List PV} {n:Nat} {v:PV} (h:RAs P ps) (k:RA P v):RAs P (ps.set n v):=by
 rw [RAs_iff] at *; intro w hw
 rcases List.mem_or_eq_of_mem_set hw with z | z
 ·exact h w z
 ·rw [z]; exact k
theorem RAs.cut {P:Nat→Prop} {ps:List PV} (h:RAs P ps) (lo hi:Option Int):RAs P (Kw.cut ps lo hi) :=
 h.sub fun v hv=>List.mem_of_mem_drop (List.mem_of_mem_take hv)
theorem RAs.zip {P:Nat→Prop}:∀ {ps qs:List PV},RAs P ps→RAs P qs→RAs P (ps.zipWith (fun p q=>PV.tup [p,q]) qs)
 | [],qs,_,_=>by simp [RAs]
 | _ :: _,[],_,_=>by simp [RAs]
 | p :: ps,q :: qs,h,k=>⟨⟨h.1,k.1,trivial⟩,RAs.zip h.2 k.2⟩
theorem RAs.ints {P:Nat→Prop}:∀ ns:List Int,RAs P (ns.map .int)
 | []=>trivial
 | _ :: r=>⟨trivial,RAs.ints r⟩
theorem RAs.upto {P:Nat→Prop}:∀ (n:Nat) (lo:Int),RAs P (upto lo n)
 | 0,_=>trivial
 | n + 1,lo=>⟨trivial,RAs.upto n (lo + 1)⟩
theorem RA.at {P:Nat→Prop} {ps:List PV} {i:Nat} {v:PV} (h:RAs P ps) (e:ps[i]? = some v):RA P v:=by
 rw [RAs_iff] at h; exact h v (List.mem_of_getElem? e)
theorem toD_eq:∀ (n:Nat) (x:FV) (v:PV),Rd st v x→toD st n v = fD n x:=by
 intro n
 induction n with
 | zero=>intro x v _; rfl
 | succ n ih =>
  have all:∀ (xs:List FV) (ps:List PV),Rds st ps xs→mapO (toD st n) ps = mapO (fD n) xs:=by
   intro xs
   induction xs with
   | nil=>intro ps h; cases (show ps = [] from h); rfl
   | cons x xs ihx =>
    intro ps h
    obtain ⟨p,r,rfl,h1,h2⟩:=h
    simp only [mapO,ih x p h1,ihx r h2]
  intro x v h
  cases x with
  | tup xs=>obtain ⟨ps,rfl,h⟩:=h; simp only [toD,fD,all xs ps h]
  | lst xs=>obtain ⟨l,ps,rfl,e,h⟩:=h; simp only [toD,fD,e,all xs ps h]
  | _=>cases (show v = _ from h); rfl
theorem intsOf_eq:∀ {xs:List FV} {ps:List PV} {ns:List Int},Rds st ps xs→intsF xs = some ns→intsOf ps = some ns
 | [],ps,ns,h,e=>by cases (show ps = [] from h); exact e
 | x :: xs,ps,ns,h,e=>by
  obtain ⟨p,r,rfl,h1,h2⟩:=h
  cases x with
  | int i =>
   cases (show p = _ from h1)
   obtain ⟨m,e1,rfl⟩:=mpd (show (intsF xs).map (i :: ·) = some ns from e)
   simp only [intsOf,intsOf_eq h2 e1,Option.map_some]
  | _=>simp [intsF] at e
theorem intsOf_none:∀ {xs:List FV} {ps:List PV},Rds st ps xs→intsF xs = none→intsOf ps = none
 | [],ps,h,e=>by simp [intsF] at e
 | x :: xs,ps,h,e=>by
  obtain ⟨p,r,rfl,h1,h2⟩:=h
  cases x with
  | int i =>
   cases (show p = _ from h1)
   have e:(intsF xs).map (i :: ·) = none:=e
   have e:intsF xs = none:=by simpa using e
   simp only [intsOf,intsOf_none h2 e,Option.map_none]
  | tup ys=>obtain ⟨qs,rfl,_⟩:=h1; rfl
  | lst ys=>obtain ⟨l,qs,rfl,_⟩:=h1; rfl
  | _=>cases (show p = _ from h1); rfl
theorem boolsOf_eq:∀ {xs:List FV} {ps:List PV} {ns:List Bool},Rds st ps xs→boolsF xs = some ns→bools ps = some ns
 | [],ps,ns,h,e=>by cases (show ps = [] from h); exact e
 | x :: xs,ps,ns,h,e=>by
  obtain ⟨p,r,rfl,h1,h2⟩:=h
  cases x with
  | bl i =>
   cases (show p = _ from h1)
   obtain ⟨m,e1,rfl⟩:=mpd (show (boolsF xs).map (i :: ·) = some ns from e)
   simp only [bools,boolsOf_eq h2 e1,Option.map_some]
  | _=>simp [boolsF] at e
theorem tupsOf_eq:∀ {xs:List FV} {ps:List PV} {ns:List (List Int)},Rds st ps xs→tupsF xs = some ns→tupsOf ps = some ns
 | [],ps,ns,h,e=>by cases (show ps = [] from h); exact e
 | x :: xs,ps,ns,h,e=>by
  obtain ⟨p,r,rfl,h1,h2⟩:=h
  cases x with
  | tup ys =>
   obtain ⟨qs,rfl,h1⟩:=h1
   obtain ⟨t,e1,e⟩:=bnd (show (intsF ys).bind (fun t=>(tupsF xs).map (t :: ·)) = some ns from e)
   obtain ⟨m,e2,rfl⟩:=mpd e
   simp only [tupsOf,intsOf_eq h1 e1,tupsOf_eq h2 e2,Option.map_some,Option.bind_some]
  | _=>simp [tupsF] at e
end
end Kf
end
section
set_option linter.all false
set_option maxHeartbeats 1000000
namespace Kf
open Kw
noncomputable def Np (Pv:Nat→Prop):Nat→Prop:=fun r=>¬ Pv r
structure Ivt (Pv:Nat→Prop) (md:Md) (L:FLoc) (LP:Loc) (st:Sto):Prop where
 len:L.length = LP.length
 val:∀ i x,lkF L i = some x→∃ v,LP[i]? = some (some v)∧Rd st v x∧(mdAt md i = .imm→RA (Np Pv) v)∧(mdAt md i ≠ .imm→(∃ r,v = .ref r∧Pv r)∧∃ xs,x = .lst xs)
 dis:∀ i j r x y,i ≠ j→mdAt md i ≠ .imm→mdAt md j ≠ .imm→lkF L i = some x→lkF L j = some y→LP[i]? = some (some (.ref r))→LP[j]? ≠ some (some (.ref r))
 cel:∀ (l:Nat) (ps:List PV),st[l]? = some (PO.lst ps)→RAs (fun r=>r < st.length∧¬ Pv r) ps
 pvl:∀ r,Pv r→r < st.length
noncomputable def NotOwn (md:Md) (L:FLoc) (LP:Loc) (r:Nat):Prop:=∀ i x,mdAt md i = .own→lkF L i = some x→LP[i]? ≠ some (some (.ref r))
structure Pst (Pv:Nat→Prop) (md:Md) (LP:Loc) (L:FLoc) (st:Sto) (L':FLoc) (st':Sto):Prop where
 inv:Ivt Pv md L' LP st'
 le:st.length ≤ st'.length
 same:∀ r,r < st.length→NotOwn md L LP r→st'[r]? = st[r]?
 dom:∀ i x,lkF L' i = some x→∃ y,lkF L i = some y
 fz:∀ i x,lkF L i = some x→∃ y,lkF L' i = some y
section
variable {Pv:Nat→Prop} {md:Md} {L L1 L2:FLoc} {LP:Loc} {st st1 st2:Sto}
theorem Pst.refl (I:Ivt Pv md L LP st):Pst Pv md LP L st L st:=⟨I,Nat.le_refl _,fun _ _ _=>rfl,fun _ x h=>⟨x,h⟩,fun _ x h=>⟨x,h⟩⟩
theorem Pst.trans (a:Pst Pv md LP L st L1 st1) (b:Pst Pv md LP L1 st1 L2 st2):Pst Pv md LP L st L2 st2 :=
 ⟨b.inv,Nat.le_trans a.le b.le,fun r h k=>(b.same r (Nat.lt_of_lt_of_le h a.le) fun i x hm hx=>let ⟨y,hy⟩:=a.dom i x hx; k i y hm hy).trans (a.same r h k),
  fun i x h=>let ⟨y,hy⟩:=b.dom i x h; a.dom i y hy,fun i x h=>let ⟨y,hy⟩:=a.fz i x h; b.fz i y hy⟩
theorem Ivt.notOwn (I:Ivt Pv md L LP st) {r:Nat} (h:¬ Pv r):NotOwn md L LP r:=fun i x hm hx e=>by
 obtain ⟨v,e1,_,_,k⟩:=I.val i x hx
 obtain ⟨⟨r',rfl,hp⟩,_⟩:=k (by rw [hm]; simp)
 rw [e] at e1; cases e1; exact h hp
theorem Ivt.celN (I:Ivt Pv md L LP st) (l:Nat) (ps:List PV) (e:st[l]? = some (.lst ps)):RAs (Np Pv) ps:=(I.cel l ps e).mono fun _ h=>h.2
theorem Pst.keep (a:Pst Pv md LP L st L1 st1) (I:Ivt Pv md L LP st) {x:FV} {v:PV} (h:Rd st v x) (k:RA (Np Pv) v):Rd st1 v x :=
 keep0 (G:=Np Pv) (fun l ps _ e=>I.celN l ps e) (fun l hl hlt=>a.same l hlt (I.notOwn hl)) x v h k
theorem Pst.keeps (a:Pst Pv md LP L st L1 st1) (I:Ivt Pv md L LP st) {x:List FV} {v:List PV} (h:Rds st v x) (k:RAs (Np Pv) v):Rds st1 v x :=
 keeps0 (G:=Np Pv) (fun l ps _ e=>I.celN l ps e) (fun l hl hlt=>a.same l hlt (I.notOwn hl)) x v h k
noncomputable def RC (Pv:Nat→Prop) (v:PV):Prop:=RA (Np Pv) v ∨ ∃ r,v = .ref r
theorem Ivt.rc (I:Ivt Pv md L LP st) {i:Nat} {x:FV} (h:lkF L i = some x):∃ v,LP[i]? = some (some v)∧Rd st v x∧RC Pv v:=by
 obtain ⟨v,e,r,h1,h2⟩:=I.val i x h
 refine ⟨v,e,r,?_⟩
 by_cases hm:mdAt md i = .imm
 ·exact .inl (h1 hm)
 ·obtain ⟨⟨q,rfl,_⟩,_⟩:=h2 hm; exact .inr ⟨q,rfl⟩
theorem seq_of (I:Ivt Pv md L LP st) {v:PV} {x:FV} {xs:List FV} (r:Rd st v x) (c:RC Pv v) (e:seqF x = some xs):∃ ps,seqOf st v = some ps∧Rds st ps xs∧RAs (Np Pv) ps:=by
 cases x with
 | tup ys =>
  obtain ⟨ps,rfl,h⟩:=r
  cases e
  refine ⟨ps,rfl,h,?_⟩
  rcases c with c | ⟨q,c⟩
  ·exact c
  ·cases c
 | lst ys =>
  obtain ⟨l,ps,rfl,e1,h⟩:=r
  cases e
  exact ⟨ps,by simp [seqOf,listOf,e1],h,I.celN l ps e1⟩
 | scr ns=>cases (show v = _ from r); cases e; exact ⟨_,rfl,.ints ns,.ints ns⟩
 | _=>cases e
theorem list_of (I:Ivt Pv md L LP st) {v:PV} {x:FV} {xs:List FV} (r:Rd st v x) (e:listF x = some xs):∃ ps,listOf st v = some ps∧Rds st ps xs∧RAs (Np Pv) ps:=by
 cases x with
 | lst ys =>
  obtain ⟨l,ps,rfl,e1,h⟩:=r
  cases e
  exact ⟨ps,by simp [listOf,e1],h,I.celN l ps e1⟩
 | scr ns=>cases (show v = _ from r); cases e; exact ⟨_,rfl,.ints ns,.ints ns⟩
 | _=>cases e
noncomputable def Fsh (n:Nat) (v:PV) (st':Sto):Prop:=∃ r,v = .ref r∧n ≤ r∧r < st'.length∧∀ (l:Nat) (ps:List PV),st'[l]? = some (PO.lst ps)→RAs (· ≠ r) ps
structure Res (Pv:Nat→Prop) (md:Md) (LP:Loc) (L:FLoc) (st:Sto) (L':FLoc) (v:PV) (st':Sto) (x:FV):Prop where
 p:Pst Pv md LP L st L' st'
 r:Rd st' v x
 n:RA (Np Pv) v
theorem at_snoc {st:Sto} {o:PO} {l:Nat} {q:PO} (e:(st ++ [o])[l]? = some q):(l < st.length∧st[l]? = some q) ∨ (l = st.length∧q = o):=by
 by_cases h:l < st.length
 ·rw [List.getElem?_append_left h] at e; exact .inl ⟨h,e⟩
 ·rw [List.getElem?_append_right (by omega)] at e
  have:l - st.length = 0:=by
   have:=(List.getElem?_eq_some_iff.mp e).1
   simp at this; omega
  rw [this] at e; simp at e
  exact .inr ⟨by omega,e.symm⟩
theorem alloc_ok (I:Ivt Pv md L LP st) {ps:List PV} {xs:List FV} (h:Rds st ps xs) (n:RAs (Np Pv) ps) :
  Res Pv md LP L st L (.ref st.length) (st ++ [.lst ps]) (.lst xs)∧Fsh st.length (.ref st.length) (st ++ [.lst ps]):=by
 have hb:=h.bound
 have hs:∀ l,l < st.length→(st ++ [PO.lst ps])[l]? = st[l]?:=fun l hl=>List.getElem?_append_left hl
 have kp:∀ {x v},Rd st v x→Rd (st ++ [PO.lst ps]) v x:=fun {x v} r=>keep0 (G:=(· < st.length)) (fun l qs _ e=>(I.cel l qs e).mono fun _ z=>z.1) (fun l hl _=>hs l hl) x v r r.bound
 have kps:Rds (st ++ [PO.lst ps]) ps xs:=keeps0 (G:=(· < st.length)) (fun l qs _ e=>(I.cel l qs e).mono fun _ z=>z.1) (fun l hl _=>hs l hl) xs ps h hb
 have hl:(st ++ [PO.lst ps]).length = st.length + 1:=by simp
 have hnp:¬ Pv st.length:=fun z=>Nat.lt_irrefl _ (I.pvl _ z)
 refine ⟨⟨⟨⟨I.len,fun i x hx=>?_,I.dis,fun l qs e=>?_,fun r hr=>by rw [hl]; have:=I.pvl r hr; omega⟩,by rw [hl]; omega,fun r hr _=>hs r hr,fun i x h=>⟨x,h⟩,fun i x h=>⟨x,h⟩⟩,?_,hnp⟩,st.length,rfl,Nat.le_refl _,by rw [hl]; omega,fun l qs e=>?_⟩
 ·obtain ⟨v,e,r,h1,h2⟩:=I.val i x hx
  exact ⟨v,e,kp r,h1,h2⟩
 ·rcases at_snoc e with ⟨_,e⟩ | ⟨_,e⟩
  ·exact (I.cel l qs e).mono fun r z=>⟨by rw [hl]; omega,z.2⟩
  ·cases e; exact (hb.and n).mono fun r z=>⟨by rw [hl]; omega,z.2⟩
 ·exact ⟨st.length,ps,rfl,by simp,kps⟩
 ·rcases at_snoc e with ⟨_,e⟩ | ⟨_,e⟩
  ·exact (I.cel l qs e).mono fun r z=>by omega
  ·cases e; exact hb.mono fun r z=>by omega
theorem Res.pure (I:Ivt Pv md L LP st) {v:PV} {x:FV} (r:Rd st v x) (n:RA (Np Pv) v):Res Pv md LP L st L v st x:=⟨.refl I,r,n⟩
theorem rd_shn {a:PV} {x:FV} {d:D} (r:Rd st a x) (h:a = .shn d):x = .shn d:=by
 subst h
 cases x with
 | tup xs=>obtain ⟨_,z,_⟩:=r; cases z
 | lst xs=>obtain ⟨_,_,z,_⟩:=r; cases z
 | shn d'=>cases (show PV.shn d = _ from r); rfl
 | _=>cases (show PV.shn d = _ from r)
theorem eqv_ok {a b:PV} {x y:FV} {r:Bool} (ra:Rd st a x) (rb:Rd st b y) (e:eqF x y = some r):eqv st a b = some r:=by
 unfold eqF at e
 split at e
 ·cases (show a = _ from ra); cases (show b = _ from rb); exact e
 ·rename_i hn
  unfold eqv
  split
  ·exact absurd (rd_shn rb rfl) (hn _ _ (rd_shn ra rfl))
  ·rw [toD_eq _ _ _ ra,toD_eq _ _ _ rb]; exact e
theorem inv_ok {a b:PV} {x y:FV} {r:Bool} (ra:Rd st a x) (rb:Rd st b y) (e:inF x y = some r):Kw.inv st a b = some r:=by
 unfold Kw.inv; rw [toD_eq _ _ _ ra,toD_eq _ _ _ rb]; exact e
theorem cmp_ok (op:COp) {a b:PV} {x y:FV} {r:Bool} (ra:Rd st a x) (rb:Rd st b y) (e:cmpF op x y = some r):cmpop op a b st = some r:=by
 unfold cmpF at e
 split at e
 ·have:cmpop .eq a b st = eqv st a b:=by cases a <;> rfl
  rw [this]; exact eqv_ok ra rb e
 ·obtain ⟨q,e1,rfl⟩:=mpd e
  have:cmpop .ne a b st = (eqv st a b).map (!·):=by cases a <;> rfl
  rw [this,eqv_ok ra rb e1]; rfl
 ·cases (show a = _ from ra); cases (show b = _ from rb); exact e
 ·cases (show a = _ from ra); cases (show b = _ from rb); exact e
 ·cases (show a = _ from ra); cases (show b = _ from rb); exact e
 ·cases (show a = _ from ra); cases (show b = _ from rb); exact e
 ·obtain ⟨ps,rfl,ha⟩:=ra
  obtain ⟨qs,rfl,hb⟩:=rb
  obtain ⟨m,e1,e⟩:=bnd e
  obtain ⟨k,e2,e⟩:=bnd e
  show (intsOf ps).bind (fun a=>(intsOf qs).bind fun b=>some (lexLt a b)) = _
  rw [intsOf_eq ha e1,intsOf_eq hb e2]; exact e
 ·obtain ⟨ps,rfl,ha⟩:=ra
  obtain ⟨qs,rfl,hb⟩:=rb
  obtain ⟨m,e1,e⟩:=bnd e
  obtain ⟨k,e2,e⟩:=bnd e
  show (intsOf ps).bind (fun a=>(intsOf qs).bind fun b=>some (lexLe a b)) = _
  rw [intsOf_eq ha e1,intsOf_eq hb e2]; exact e
 ·have:cmpop .isin a b st = Kw.inv st a b:=by cases a <;> rfl
  rw [this]; exact inv_ok ra rb e
 ·have:cmpop .notin a b st = (Kw.inv st a b).map (!·):=by cases a <;> rfl
  obtain ⟨q,e1,rfl⟩:=mpd e
  rw [this,inv_ok ra rb e1]; rfl
 ·cases e
theorem RC.tup {ps:List PV} (c:RC Pv (.tup ps)):RAs (Np Pv) ps:=by
 rcases c with c | ⟨q,c⟩
 ·exact c
 ·cases c
theorem bin_ok (op:BOp) (I:Ivt Pv md L LP st) {a b:PV} {x y z:FV} (ra:Rd st a x) (ca:RC Pv a) (rb:Rd st b y) (cb:RC Pv b) (e:binF op x y = some z) :
  ∃ v st',binop op a b st = some (v,st')∧Res Pv md LP L st L v st' z∧(isLstOp z = true→Fsh st.length v st'):=by
 have int:∀ {c:Prop} [Decidable c] {k:Int},(if c then some (FV.int k) else none) = some z→∃ v st',(if c then some (PV.int k,st) else none) = some (v,st')∧Res Pv md LP L st L v st' z∧(isLstOp z = true→Fsh st.length v st'):=fun {c _ k} e=>by
  split at e
  ·rename_i hc; cases e; exact ⟨_,st,by rw [if_pos hc],.pure I rfl trivial,fun h=>by cases h⟩
  ·cases e
 unfold binF at e
 split at e
 ·cases (show a = _ from ra); cases (show b = _ from rb)
  cases e; exact ⟨_,_,rfl,.pure I rfl trivial,fun h=>by cases h⟩
 ·obtain ⟨ps,rfl,ha⟩:=ra
  obtain ⟨qs,rfl,hb⟩:=rb
  split at e
  ·rename_i hc; cases e
   exact ⟨.tup (ps ++ qs),st,if_pos (by rw [ha.length,hb.length]; exact hc),.pure I ⟨_,rfl,ha.append hb⟩ (ca.tup.append cb.tup),fun h=>by cases h⟩
  ·cases e
 ·obtain ⟨l,ps,rfl,e1,ha⟩:=ra
  obtain ⟨l',qs,rfl,e2,hb⟩:=rb
  split at e
  ·rename_i hc; cases e
   obtain ⟨h1,h2⟩:=alloc_ok I (ha.append hb) ((I.celN l ps e1).append (I.celN l' qs e2))
   exact ⟨_,_,by simp only [binop,e1,e2,alloc]; rw [if_pos (by rw [List.length_append,ha.length,hb.length]; exact hc)],h1,fun _=>h2⟩
  ·cases e
 ·obtain ⟨l,ps,rfl,e1,ha⟩:=ra
  rename_i k
  cases (show b = _ from rb)
  split at e
  ·rename_i hc; cases e
   obtain ⟨h1,h2⟩:=alloc_ok I (ha.rep k.toNat) (RAs.sub (I.celN l ps e1) fun v hv=>by
    obtain ⟨t,ht,hv⟩:=List.mem_flatten.mp hv
    rw [(List.mem_replicate.mp ht).2] at hv; exact hv)
   exact ⟨_,_,by simp only [binop,e1]; rw [if_pos (by rw [ha.length]; exact hc)],h1,fun _=>h2⟩
  ·cases e
 ·cases (show a = _ from ra); cases (show b = _ from rb)
  cases e; exact ⟨_,_,rfl,.pure I rfl trivial,fun h=>by cases h⟩
 ·cases (show a = _ from ra); cases (show b = _ from rb); exact int e
 ·cases (show a = _ from ra); cases (show b = _ from rb); exact int e
 ·cases (show a = _ from ra); cases (show b = _ from rb); exact int e
 ·cases (show a = _ from ra); cases (show b = _ from rb); exact int e
 ·cases e
theorem slice_ok (I:Ivt Pv md L LP st) {a:PV} {x z:FV} (lo hi:Option Int) (ra:Rd st a x) (ca:RC Pv a) (e:sliceF x lo hi = some z) :
  ∃ v st',slice st a lo hi = some (v,st')∧Res Pv md LP L st L v st' z∧(isLstOp z = true→Fsh st.length v st'):=by
 cases x with
 | tup xs =>
  obtain ⟨ps,rfl,ha⟩:=ra
  cases e
  refine ⟨_,_,rfl,.pure I ⟨_,rfl,ha.cut lo hi⟩ ?_,fun h=>by cases h⟩
  rcases ca with c | ⟨q,c⟩
  ·exact RAs.cut c lo hi
  ·cases c
 | lst xs =>
  obtain ⟨l,ps,rfl,e1,ha⟩:=ra
  cases e
  obtain ⟨h1,h2⟩:=alloc_ok I (ha.cut lo hi) ((I.celN l ps e1).cut lo hi)
  exact ⟨_,_,by simp only [slice,e1],h1,fun _=>h2⟩
 | _=>cases e
theorem tru_ok {a:PV} {x:FV} {b:Bool} (ra:Rd st a x) (e:truF x = some b):truthy st a = some b:=by
 cases x with
 | tup xs =>
  obtain ⟨ps,rfl,ha⟩:=ra
  have hl:=ha.length
  show some (!ps.isEmpty) = some b
  rw [← e]; cases ps <;> cases xs <;> simp_all [truF]
 | lst xs =>
  obtain ⟨l,ps,rfl,e1,ha⟩:=ra
  have hl:=ha.length
  simp only [truthy,listOf,e1,Option.map_some]
  rw [← e]; cases ps <;> cases xs <;> simp_all [truF,listF]
 | scr ns=>cases (show a = _ from ra); rw [← e]; cases ns <;> rfl
 | _=>cases (show a = _ from ra); exact e
theorem sum_ok {ps:List PV} {xs:List FV} {n:Int} (h:Rds st ps xs) (e:sumF xs = some n):sumI ps = some n:=by
 obtain ⟨ns,e1,e⟩:=bnd (show (intsF xs).bind _ = some n from e)
 show (intsOf ps).bind _ = _
 rw [intsOf_eq h e1]; exact e
theorem min_ok {ps:List PV} {xs:List FV} {z:FV} (h:Rds st ps xs) (e:minF xs = some z):∃ v,minL ps = some v∧Rd st v z∧RA (Np Pv) v:=by
 unfold minF at e
 unfold minL
 cases e1:intsF xs with
 | some ns =>
  rw [e1] at e
  rw [intsOf_eq h e1]
  cases ns with
  | nil=>cases e
  | cons n r=>cases e; exact ⟨_,rfl,rfl,trivial⟩
 | none =>
  rw [e1] at e
  rw [intsOf_none h e1]
  cases e2:tupsF xs with
  | none=>rw [e2] at e; cases e
  | some ts =>
   rw [e2] at e
   simp only [tupsOf_eq h e2]
   cases ts with
   | nil=>cases e
   | cons t r=>cases e; exact ⟨_,rfl,⟨_,rfl,.ints _⟩,RAs.ints _⟩
theorem str_ok {a:PV} {x z:FV} (ra:Rd st a x) (e:strF x = some z):∃ v,bfun .str [a] st = some (v,st)∧Rd st v z∧RA (Np Pv) v∧isLstOp z = false:=by
 have big':∀ d:D,(if d.fit∧d.wt ≤ big then some (FV.shn d) else none) = some z→(d.fit∧d.wt ≤ big)∧z = .shn d:=fun d h=>by
  split at h
  ·rename_i hc; cases h; exact ⟨hc,rfl⟩
  ·cases h
 cases x with
 | tup xs =>
  have ra':=ra
  obtain ⟨ps,rfl,h⟩:=ra
  obtain ⟨d,e1,e⟩:=bnd (show (fD deepest (.tup xs)).bind _ = some z from e)
  obtain ⟨hc,rfl⟩:=big' d e
  refine ⟨.shn d,?_,rfl,trivial,rfl⟩
  show (toD st deepest (.tup ps)).bind _ = _
  rw [toD_eq _ _ _ ra',e1,Option.bind_some,if_pos hc]
 | lst xs =>
  have ra':=ra
  obtain ⟨l,ps,rfl,_,h⟩:=ra
  obtain ⟨d,e1,e⟩:=bnd (show (fD deepest (.lst xs)).bind _ = some z from e)
  obtain ⟨hc,rfl⟩:=big' d e
  refine ⟨.shn d,?_,rfl,trivial,rfl⟩
  show (toD st deepest (.ref l)).bind _ = _
  rw [toD_eq _ _ _ ra',e1,Option.bind_some,if_pos hc]
 | int i =>
  cases (show a = _ from ra)
  have e:(if -(2 ^ 150) < i∧i < 2 ^ 150 then some (FV.str (toString i)) else none) = some z:=e
  split at e
  ·rename_i hc; cases e
   exact ⟨.str (toString i),(show (if -(2 ^ 150) < i∧i < 2 ^ 150 then some (PV.str (toString i),st) else none) = _ from if_pos hc),rfl,trivial,rfl⟩
  ·cases e
 | non=>cases (show a = _ from ra); cases e; exact ⟨_,rfl,rfl,trivial,rfl⟩
 | bl b=>cases (show a = _ from ra); cases e; exact ⟨_,rfl,rfl,trivial,rfl⟩
 | str b=>cases (show a = _ from ra); cases e; exact ⟨_,rfl,rfl,trivial,rfl⟩
 | scr _=>cases e
 | shn _=>cases e
theorem bf1_ok (f:BF) (I:Ivt Pv md L LP st) {a:PV} {x z:FV} (ra:Rd st a x) (ca:RC Pv a) (e:bfunF f x = some z) :
  ∃ v st',bfun f [a] st = some (v,st')∧Res Pv md LP L st L v st' z∧(isLstOp z = true→Fsh st.length v st'):=by
 cases f with
 | len =>
  obtain ⟨xs,e1,rfl⟩:=mpd e
  obtain ⟨ps,e2,h,n⟩:=seq_of I ra ca e1
  exact ⟨.int ps.length,st,(show (seqOf st a).bind _ = _ by rw [e2]; rfl),.pure I (by rw [h.length]; rfl) trivial,fun h=>by cases h⟩
 | abs=>cases x <;> first | (cases e; done) | (cases (show a = _ from ra); cases e; exact ⟨_,_,rfl,.pure I rfl trivial,fun h=>by cases h⟩)
 | int=>cases x <;> first | (cases e; done) | (cases (show a = _ from ra); cases e; exact ⟨_,_,rfl,.pure I rfl trivial,fun h=>by cases h⟩)
 | sum =>
  obtain ⟨xs,e1,e⟩:=bnd e
  obtain ⟨m,e3,rfl⟩:=mpd e
  obtain ⟨ps,e2,h,n⟩:=list_of I ra e1
  exact ⟨.int m,st,(show (listOf st a).bind _ = _ by rw [e2,Option.bind_some,sum_ok h e3]; rfl),.pure I rfl trivial,fun h=>by cases h⟩
 | all =>
  obtain ⟨xs,e1,e⟩:=bnd e
  obtain ⟨m,e3,rfl⟩:=mpd e
  obtain ⟨ps,e2,h,n⟩:=list_of I ra e1
  exact ⟨.bl (m.all id),st,(show (listOf st a).bind _ = _ by rw [e2,Option.bind_some,boolsOf_eq h e3]; rfl),.pure I rfl trivial,fun h=>by cases h⟩
 | any =>
  obtain ⟨xs,e1,e⟩:=bnd e
  obtain ⟨m,e3,rfl⟩:=mpd e
  obtain ⟨ps,e2,h,n⟩:=list_of I ra e1
  exact ⟨.bl (m.any id),st,(show (listOf st a).bind _ = _ by rw [e2,Option.bind_some,boolsOf_eq h e3]; rfl),.pure I rfl trivial,fun h=>by cases h⟩
 | min =>
  obtain ⟨xs,e1,e⟩:=bnd e
  obtain ⟨ps,e2,h,n⟩:=list_of I ra e1
  obtain ⟨v,e3,r,n'⟩:=min_ok (Pv:=Pv) h e
  have:bfun .min [a] st = (listOf st a).bind fun xs=>(minL xs).bind fun m=>some (m,st):=by cases a <;> rfl
  refine ⟨v,st,by rw [this,e2,Option.bind_some,e3,Option.bind_some],.pure I r n',fun hz=>?_⟩
  exfalso
  unfold minF at e
  split at e
  ·cases e; cases hz
  ·cases e
  ·split at e
   ·cases e; cases hz
   ·cases e
 | max=>cases e
 | tuple =>
  obtain ⟨xs,e1,rfl⟩:=mpd e
  obtain ⟨ps,e2,h,n⟩:=seq_of I ra ca e1
  exact ⟨.tup ps,st,(show (seqOf st a).bind _ = _ by rw [e2]; rfl),.pure I ⟨_,rfl,h⟩ n,fun h=>by cases h⟩
 | list =>
  obtain ⟨xs,e1,rfl⟩:=mpd e
  obtain ⟨ps,e2,h,n⟩:=seq_of I ra ca e1
  obtain ⟨h1,h2⟩:=alloc_ok I h n
  exact ⟨_,_,(show (seqOf st a).bind _ = _ by rw [e2]; rfl),h1,fun _=>h2⟩
 | str =>
  obtain ⟨v,e1,r,n,hl⟩:=str_ok (Pv:=Pv) ra e
  exact ⟨v,st,e1,.pure I r n,fun h=>by rw [hl] at h; cases h⟩
theorem bf2_ok (f:BF) {vs:List PV} {xs:List FV} {z:FV} (r:Rds st vs xs) (e:bf2F f xs = some z):∃ v,bfun f vs st = some (v,st)∧Rd st v z∧RA (Np Pv) v∧isLstOp z = false:=by
 unfold bf2F at e
 split at e
 ·obtain ⟨a,q,rfl,ra,q1,q2,rfl,rb,rq⟩:=r
  cases (show a = _ from ra); cases (show q1 = _ from rb); cases (show q2 = [] from rq)
  unfold bf2I at e
  split at e
  ·cases e; exact ⟨_,rfl,rfl,trivial,rfl⟩
  ·cases e; exact ⟨_,rfl,rfl,trivial,rfl⟩
  ·cases e
 ·cases e
theorem isTy_ok {a:PV} {x:FV} {t:Ty} {b:Bool} (ra:Rd st a x) (e:isTyF x t = some b):isTy st a t = some b:=by
 cases x with
 | tup xs=>obtain ⟨ps,rfl,_⟩:=ra; exact e
 | lst xs=>obtain ⟨l,ps,rfl,e1,_⟩:=ra; simp only [isTy,e1]; exact e
 | _=>cases (show a = _ from ra); exact e
theorem isTys_ok {a:PV} {x:FV} (ra:Rd st a x):∀ {ts:List Ty} {b:Bool},isTysF x ts = some b→isTys st a ts = some b
 | [],b,e=>e
 | t :: r,b,e=>by
  obtain ⟨p,e1,e⟩:=bnd (show (isTyF x t).bind _ = some b from e)
  obtain ⟨q,e2,rfl⟩:=mpd e
  simp only [isTys,isTy_ok ra e1,isTys_ok ra e2,Option.bind_some]
end
end Kf
end
section
set_option linter.all false
set_option maxHeartbeats 1000000
namespace Kf
open Kw
structure Wf (Pv:Nat→Prop) (st:Sto):Prop where
 cel:∀ (l:Nat) (ps:List PV),st[l]? = some (PO.lst ps)→RAs (fun r=>r < st.length∧¬ Pv r) ps
 pvl:∀ r,Pv r→r < st.length
structure CR (Pv:Nat→Prop) (st:Sto) (w:Option Nat) (v:PV) (st':Sto) (x:FV):Prop where
 wf:Wf Pv st'
 le:st.length ≤ st'.length
 same:∀ q,q < st.length→w ≠ some q→st'[q]? = st[q]?
 r:Rd st' v x
 n:RA (Np Pv) v
structure CallOk (Γ:Nat→Bool×Bool) (cf:Nat→List FV→Option (FV×FV)) (cp:Nat→List PV→Sto→R PV):Prop where
 im:∀ {Pv:Nat→Prop} {f:Nat} {xs:List FV} {z:FV×FV} {st:Sto} {vs:List PV},(Γ f).1 = false→Wf Pv st→Rds st vs xs→RAs (Np Pv) vs→cf f xs = some z →
  ∃ v st',cp f vs st = some (v,st')∧CR Pv st none v st' z.1∧((Γ f).2 = true→Fsh st.length v st')
 io:∀ {Pv:Nat→Prop} {f:Nat} {x:FV} {xs:List FV} {z:FV×FV} {st:Sto} {r:Nat} {vs:List PV},(Γ f).1 = true→Wf Pv st→Pv r→Rd st (.ref r) x→Rds st vs xs→RAs (Np Pv) vs→cf f (x :: xs) = some z →
  ∃ v st',cp f (.ref r :: vs) st = some (v,st')∧CR Pv st (some r) v st' z.1∧Rd st' (.ref r) z.2∧(∃ ys,z.2 = .lst ys)∧((Γ f).2 = true→Fsh st.length v st')
noncomputable def Frz (md md':Md):Prop:=∀ i,mdAt md' i = mdAt md i ∨ (mdAt md i = .own∧mdAt md' i = .frz)
theorem Frz.rfl {md:Md}:Frz md md:=fun _=>.inl (Eq.refl _)
theorem Frz.imm {md md':Md} (h:Frz md md') (i:Nat):mdAt md' i = .imm↔mdAt md i = .imm:=by
 rcases h i with e | ⟨e1,e2⟩
 ·rw [e]
 ·rw [e1,e2]; simp
theorem Frz.own {md md':Md} (h:Frz md md') {i:Nat} (k:mdAt md' i = .own):mdAt md i = .own:=by
 rcases h i with e | ⟨e1,e2⟩
 ·rw [← e]; exact k
 ·exact e1
theorem Frz.trans {a b c:Md} (h:Frz a b) (k:Frz b c):Frz a c:=fun i=>by
 rcases h i with e | ⟨e1,e2⟩
 ·rcases k i with e' | ⟨e1',e2'⟩
  ·exact .inl (e'.trans e)
  ·exact .inr ⟨by rw [← e]; exact e1',e2'⟩
 ·rcases k i with e' | ⟨e1',e2'⟩
  ·exact .inr ⟨e1,e'.trans e2⟩
  ·exact .inr ⟨e1,e2'⟩
theorem mdAt_set:∀ (md:Md) (i j:Nat) (m:Mo),mdAt (md.set i m) j = if i = j∧i < md.length then m else mdAt md j
 | [],i,j,m=>by simp [mdAt]
 | a :: r,0,0,m=>by simp [mdAt]
 | a :: r,0,j + 1,m=>by simp [mdAt]
 | a :: r,i + 1,0,m=>by simp [mdAt]
 | a :: r,i + 1,j + 1,m=>by simp [mdAt,mdAt_set r i j m]
theorem mdAt_lt:∀ {md:Md} {i:Nat},mdAt md i ≠ .imm→i < md.length
 | [],i,h=>by simp [mdAt] at h
 | a :: r,0,h=>by simp
 | a :: r,i + 1,h=>by have:=mdAt_lt (md:=r) (i:=i) h; simp; omega
theorem freeze_frz (md:Md) (o:Option Nat):Frz md (freeze md o):=by
 cases o with
 | none=>exact .rfl
 | some i =>
  intro j
  simp only [freeze]
  split
  ·rename_i h
   rw [mdAt_set]
   split
   ·rename_i k; right; rw [← k.1]; exact ⟨h,Eq.refl _⟩
   ·exact .inl (Eq.refl _)
  ·exact .inl (Eq.refl _)
theorem freeze_at {md:Md} {i:Nat} (h:mdAt md i ≠ .imm):mdAt (freeze md (some i)) i = .frz:=by
 have hl:=mdAt_lt h
 simp only [freeze]
 cases e:mdAt md i with
 | imm=>exact absurd e h
 | own=>simp [mdAt_set,hl]
 | frz=>simp [e]
section
variable {Pv:Nat→Prop} {md md':Md} {L L1:FLoc} {LP:Loc} {st st1:Sto}
theorem Ivt.wf (I:Ivt Pv md L LP st):Wf Pv st:=⟨I.cel,I.pvl⟩
theorem Ivt.frz (I:Ivt Pv md L LP st) (h:Frz md md'):Ivt Pv md' L LP st :=
 ⟨I.len,fun i x hx=>by
  obtain ⟨v,e,r,h1,h2⟩:=I.val i x hx
  exact ⟨v,e,r,fun k=>h1 ((h.imm i).mp k),fun k=>h2 fun z=>k ((h.imm i).mpr z)⟩,
  fun i j r x y hij hi hj=>I.dis i j r x y hij (fun z=>hi ((h.imm i).mpr z)) (fun z=>hj ((h.imm j).mpr z)),I.cel,I.pvl⟩
theorem Ivt.thaw (I:Ivt Pv md' L LP st) (h:Frz md md'):Ivt Pv md L LP st :=
 ⟨I.len,fun i x hx=>by
  obtain ⟨v,e,r,h1,h2⟩:=I.val i x hx
  exact ⟨v,e,r,fun k=>h1 ((h.imm i).mpr k),fun k=>h2 fun z=>k ((h.imm i).mp z)⟩,
  fun i j r x y hij hi hj=>I.dis i j r x y hij (fun z=>hi ((h.imm i).mp z)) (fun z=>hj ((h.imm j).mp z)),I.cel,I.pvl⟩
theorem Pst.thaw (p:Pst Pv md' LP L st L1 st1) (h:Frz md md'):Pst Pv md LP L st L1 st1 :=
 ⟨p.inv.thaw h,p.le,fun r hr k=>p.same r hr fun i x hm hx=>k i x (h.own hm) hx,p.dom,p.fz⟩
noncomputable def Gds (Pv:Nat→Prop) (md':Md) (LP:Loc) (L:FLoc) (st:Sto) (gs:Gd):Prop :=
 ∀ p ∈ gs,listOf st (.ref p.1) = some p.2∧p.1 < st.length∧(¬ Pv p.1 ∨ ∃ i x,mdAt md' i = .frz∧LP[i]? = some (some (.ref p.1))∧lkF L i = some x)
theorem Gds.notOwn {gs:Gd} (g:Gds Pv md' LP L st gs) (I:Ivt Pv md' L LP st) {p:Nat×List PV} (h:p ∈ gs):NotOwn md' L LP p.1:=by
 obtain ⟨_,_,k⟩:=g p h
 rcases k with k | ⟨i,x,hm,e,hx⟩
 ·exact I.notOwn k
 ·intro j y hj hy e2
  have hij:i ≠ j:=fun z=>by subst z; rw [hm] at hj; cases hj
  exact I.dis i j p.1 x y hij (by rw [hm]; simp) (by rw [hj]; simp) hx hy e e2
theorem Gds.ok {gs:Gd} (g:Gds Pv md' LP L st gs):okG st gs = true:=by
 simp only [okG,List.all_eq_true,decide_eq_true_eq]
 exact fun p hp=>(g p hp).1
end
section
variable (Γ:Nat→Bool×Bool) (cf:Nat→List FV→Option (FV×FV)) (cp:Nat→List PV→Sto→R PV)
noncomputable def SV (e:E):Prop:=∀ {Pv md L LP st x L'},Ivt Pv md L LP st→(sem Γ cf e).v md L = some (x,L')→∃ v st',ev cp e LP st = some (v,st')∧Res Pv md LP L st L' v st' x
noncomputable def SR (e:E):Prop:=∀ {Pv md L LP st x L'},Ivt Pv md L LP st→(sem Γ cf e).r md L = some (x,L')→∃ v st',ev cp e LP st = some (v,st')∧Pst Pv md LP L st L' st'∧Rd st' v x ∧
 (∀ i,(sem Γ cf e).nm = some i→LP[i]? = some (some v)∧lkF L' i = some x)∧((sem Γ cf e).nm = none→RA (Np Pv) v)∧RC Pv v
noncomputable def SF (e:E):Prop:=∀ {Pv md L LP st x L'},Ivt Pv md L LP st→(sem Γ cf e).f md L = some (x,L')→∃ v st',ev cp e LP st = some (v,st')∧Res Pv md LP L st L' v st' x∧Fsh st.length v st'
noncomputable def ST (e:E):Prop:=∀ {Pv md L LP st x L'},Ivt Pv md L LP st→(sem Γ cf e).t md L = some (x,L')→∃ st',evT cp e LP st = some (x,st')∧Pst Pv md LP L st L' st'
noncomputable def STs (e:E):Prop:=∀ {Pv md L LP st x L'},Ivt Pv md L LP st→(sem Γ cf e).ts md L = some (x,L')→∃ st',evTs cp e LP st = some (x,st')∧Pst Pv md LP L st L' st'
noncomputable def SS (e:E):Prop:=∀ {Pv md L LP st x L'},Ivt Pv md L LP st→(sem Γ cf e).s md L = some (x,L')→∃ v st',evs cp e LP st = some (v,st')∧Pst Pv md LP L st L' st'∧Rds st' v x∧RAs (Np Pv) v
noncomputable def STl (e:E):Prop:=∀ {Pv md L LP st x L' i y},Ivt Pv md L LP st→(sem Γ cf e).hd = some i→(sem Γ cf e).tl md L = some (x,L')→lkF L' i = some y →
 ∃ v0 v st',evs cp e LP st = some (v0 :: v,st')∧LP[i]? = some (some v0)∧Pst Pv md LP L st L' st'∧Rds st' v x∧RAs (Np Pv) v
noncomputable def SO (e:E):Prop:=∀ {Pv md L LP st x L'},Ivt Pv md L LP st→(sem Γ cf e).o md L = some (x,L')→∃ st',evO cp e LP st = some (x,st')∧Pst Pv md LP L st L' st'
noncomputable def SI (e:E):Prop:=∀ {Pv md L LP st xs md' L'},Ivt Pv md L LP st→(sem Γ cf e).i md L = some (xs,md',L')→∃ ps gs st',evI cp e LP st = some (ps,gs,st')∧Pst Pv md LP L st L' st'∧Rds st' ps xs∧RAs (Np Pv) ps∧Frz md md'∧Gds Pv md' LP L' st' gs
structure Okf (e:E):Prop where
 v:SV Γ cf cp e
 r:SR Γ cf cp e
 f:SF Γ cf cp e
 t:ST Γ cf cp e
 ts:STs Γ cf cp e
 s:SS Γ cf cp e
 tl:STl Γ cf cp e
 o:SO Γ cf cp e
 i:SI Γ cf cp e
structure Pln (e:E):Prop where
 t:∀ L st,evT cp e L st = (ev cp e L st).bind fun (x,st1)=>(truthy st1 x).bind fun r=>some (r,st1)
 o:∀ L st,evO cp e L st = (ev cp e L st).bind fun (x,st1)=>match x with
  | .int i=>some (some i,st1)
  | _=>none
 i:∀ L st,evI cp e L st = (ev cp e L st).bind fun (x,st1)=>(seqOf st1 x).bind fun xs=>some (xs,gdOf x xs,st1)
end
section
variable {Γ:Nat→Bool×Bool} {cf:Nat→List FV→Option (FV×FV)} {cp:Nat→List PV→Sto→R PV}
theorem Gds.of {Pv:Nat→Prop} {md:Md} {L:FLoc} {LP:Loc} {st:Sto} {v:PV} {ps:List PV} (h:seqOf st v = some ps) (n:RA (Np Pv) v) (r:RA (· < st.length) v):Gds Pv md LP L st (gdOf v ps):=by
 intro p hp
 cases v with
 | ref l =>
  simp [gdOf] at hp
  subst hp
  exact ⟨h,r,.inl n⟩
 | _=>simp [gdOf] at hp
theorem okv {e:E} (P:Pln cp e) (hv:SV Γ cf cp e) (hf:SF Γ cf cp e) (er:(sem Γ cf e).r = (sem Γ cf e).v) (en:(sem Γ cf e).nm = none) (et:ST Γ cf cp e)
  (ets:(sem Γ cf e).ts = fun _ _=>none) (es:(sem Γ cf e).s = fun _ _=>none) (eh:(sem Γ cf e).hd = none) (eo:(sem Γ cf e).o = oOf (sem Γ cf e).v) (ei:(sem Γ cf e).i = iOf (sem Γ cf e).v):Okf Γ cf cp e:=by
 refine ⟨hv,?_,hf,et,?_,?_,?_,?_,?_⟩
 ·intro Pv md L LP st x L' I h
  rw [er] at h
  obtain ⟨v,st',e1,R⟩:=hv I h
  exact ⟨v,st',e1,R.p,R.r,fun i z=>(by rw [en] at z; cases z),fun _=>R.n,.inl R.n⟩
 ·intro Pv md L LP st x L' I h; rw [ets] at h; cases h
 ·intro Pv md L LP st x L' I h; rw [es] at h; cases h
 ·intro Pv md L LP st x L' i y I h; rw [eh] at h; cases h
 ·intro Pv md L LP st x L' I h
  rw [eo] at h
  obtain ⟨⟨x1,L1⟩,h1,h⟩:=bnd h
  obtain ⟨j,h2,h⟩:=mpd h
  cases h
  obtain ⟨v,st',e1,R⟩:=hv I h1
  cases x1 <;> first | (cases h2; done) | skip
  cases h2
  have:=R.r
  cases (show v = _ from this)
  exact ⟨st',by rw [P.o,e1]; rfl,R.p⟩
 ·intro Pv md L LP st xs md' L' I h
  rw [ei] at h
  obtain ⟨⟨x1,L1⟩,h1,h⟩:=bnd h
  obtain ⟨ys,h2,h⟩:=mpd h
  cases h
  obtain ⟨v,st',e1,R⟩:=hv I h1
  obtain ⟨ps,e2,r2,n2⟩:=seq_of R.p.inv R.r (.inl R.n) h2
  exact ⟨ps,gdOf v ps,st',by rw [P.i,e1]; simp only [Option.bind_some,e2],R.p,r2,n2,.rfl,.of e2 R.n R.r.bound⟩
theorem tOf_ok {e:E} (P:Pln cp e) (hv:SV Γ cf cp e) (et:(sem Γ cf e).t = tOf (sem Γ cf e).v):ST Γ cf cp e:=by
 intro Pv md L LP st x L' I h
 rw [et] at h
 obtain ⟨⟨x1,L1⟩,h1,h⟩:=bnd h
 obtain ⟨b,h2,h⟩:=mpd h
 cases h
 obtain ⟨v,st',e1,R⟩:=hv I h1
 exact ⟨st',by rw [P.t,e1]; simp only [Option.bind_some,tru_ok R.r h2],R.p⟩
theorem noF {e:E} (h:(sem Γ cf e).f = fun _ _=>none):SF Γ cf cp e:=fun {Pv md L LP st x L'} I k=>by rw [h] at k; cases k
theorem ev_var {i:Nat} {LP:Loc} {st:Sto} {v:PV} (h:LP[i]? = some (some v)):ev cp (.var i) LP st = some (v,st):=by simp only [evR_var,h]
theorem sem_bin {op:BOp} {a b:E} {md:Md} {L:FLoc}:(sem Γ cf (.bin op a b)).v md L = dfr (sem Γ cf a) md L fun g L1=>((sem Γ cf b).r md L1).bind fun y=>(g y.2).bind fun x=>(binF op x y.1).map fun z=>(z,y.2):=rfl
theorem sem_cmp {op:COp} {a b:E} {md:Md} {L:FLoc}:(sem Γ cf (.cmp op a b)).v md L = dfr (sem Γ cf a) md L fun g L1=>((sem Γ cf b).r md L1).bind fun y=>(g y.2).bind fun x=>(cmpF op x y.1).map fun z=>(.bl z,y.2):=rfl
theorem sem_chain {o p:COp} {a b c:E} {md:Md} {L:FLoc}:(sem Γ cf (.chain o p a b c)).v md L = dfr (sem Γ cf a) md L fun g L1=>((sem Γ cf b).v md L1).bind fun y=>(g y.2).bind fun x=>(cmpF o x y.1).bind fun r =>
 if r = true then ((sem Γ cf c).r md y.2).bind fun z=>(cmpF p y.1 z.1).map fun q=>(.bl q,z.2) else some (.bl false,y.2):=rfl
theorem sem_ix {a i:E} {md:Md} {L:FLoc}:(sem Γ cf (.ix a i)).v md L = dfr (sem Γ cf a) md L fun g L1=>((sem Γ cf i).v md L1).bind fun y=>(g y.2).bind fun x=>(intF y.1).bind fun j=>(seqF x).bind fun xs=>(atF xs j).map fun v=>(v,y.2):=rfl
theorem sem_sl {a lo hi:E} {md:Md} {L:FLoc}:(sem Γ cf (.sl a lo hi)).v md L = dfr (sem Γ cf a) md L fun g L1=>((sem Γ cf lo).o md L1).bind fun l=>((sem Γ cf hi).o md l.2).bind fun h=>(g h.2).bind fun x=>(sliceF x l.1 h.1).map fun z=>(z,h.2):=rfl
theorem sem_zip {a b:E} {md:Md} {L:FLoc}:(sem Γ cf (.zip a b)).i md L = dfr (sem Γ cf a) md L fun g L1=>((sem Γ cf b).r md L1).bind fun y=>(g y.2).bind fun x=>(seqF x).bind fun xs=>(seqF y.1).bind fun ys =>
 some (xs.zipWith (fun p q=>.tup [p,q]) ys,freeze (freeze md (sem Γ cf a).nm) (sem Γ cf b).nm,y.2):=rfl
theorem dfr_ok {β:Type} {a:E} (ha:Okf Γ cf cp a) (hn:∀ i,(sem Γ cf a).nm = some i→a = .var i) {Pv:Nat→Prop} {md:Md} {L:FLoc} {LP:Loc} {st:Sto} {k:(FLoc→Option FV)→FLoc→Option β} {z:β} (I:Ivt Pv md L LP st) (h:dfr (sem Γ cf a) md L k = some z) :
  ∃ g L1 s1,k g L1 = some z∧Pst Pv md LP L st L1 s1∧∀ {L2 s2 x},Pst Pv md LP L1 s1 L2 s2→g L2 = some x→∃ v,ev cp a LP st = some (v,s1)∧Rd s2 v x∧RC Pv v∧(∀ i,(sem Γ cf a).nm = some i→LP[i]? = some (some v)∧∃ y,lkF L2 i = some y)∧((sem Γ cf a).nm = none→RA (Np Pv) v):=by
 unfold dfr at h
 cases hm:(sem Γ cf a).nm with
 | some i =>
  rw [hm] at h
  have e:=hn i hm
  subst e
  refine ⟨_,L,st,h,.refl I,fun {L2 s2 x} p e=>?_⟩
  obtain ⟨y,hy⟩:=p.dom i x e
  obtain ⟨v,e1,_⟩:=I.rc hy
  obtain ⟨w,e2,r2,c2⟩:=p.inv.rc e
  rw [e1] at e2; cases e2
  exact ⟨v,ev_var e1,r2,c2,fun j z=>(by cases z; exact ⟨e1,x,e⟩),fun z=>(by cases z)⟩
 | none =>
  rw [hm] at h
  obtain ⟨⟨x,L1⟩,h1,h⟩:=bnd (show ((sem Γ cf a).r md L).bind _ = some z from h)
  obtain ⟨v,s1,e1,p1,r1,_,m1,c1⟩:=ha.r I h1
  refine ⟨_,L1,s1,h,p1,fun {L2 s2 y} p e=>?_⟩
  cases e
  exact ⟨v,e1,p.keep p1.inv r1 (m1 hm),c1,fun i z=>(by cases z),fun _=>m1 hm⟩
end
end Kf
end
section
set_option linter.all false
set_option maxHeartbeats 1000000
namespace Kf
open Kw
section
variable {Γ:Nat→Bool×Bool} {cf:Nat→List FV→Option (FV×FV)} {cp:Nat→List PV→Sto→R PV}
theorem nm_var {e:E} {i:Nat} (h:(sem Γ cf e).nm = some i):e = .var i:=by
 cases e <;> first | (cases h; done) | (cases h; rfl)
theorem ok_var (i:Nat):Okf Γ cf cp (.var i):=by
 have pt:∀ L st,evT cp (.var i) L st = (ev cp (.var i) L st).bind fun (x,st1)=>(truthy st1 x).bind fun r=>some (r,st1):=fun L st=>rfl
 have po:∀ L st,evO cp (.var i) L st = (ev cp (.var i) L st).bind fun (x,st1)=>match x with
  | .int i=>some (some i,st1)
  | _=>none:=fun L st=>rfl
 have pi:∀ L st,evI cp (.var i) L st = (ev cp (.var i) L st).bind fun (x,st1)=>(seqOf st1 x).bind fun xs=>some (xs,gdOf x xs,st1):=fun L st=>rfl
 refine ⟨?_,?_,noF rfl,?_,?_,?_,?_,?_,?_⟩
 ·intro Pv md L LP st x L' I h
  have h:(if mdAt md i = .imm then (lkF L i).map fun x=>(x,L) else none) = some (x,L'):=h
  split at h
  ·rename_i hm
   obtain ⟨y,h1,h⟩:=mpd h
   cases h
   obtain ⟨v,e,r,k,_⟩:=I.val i x h1
   exact ⟨v,st,ev_var e,.refl I,r,k hm⟩
  ·cases h
 ·intro Pv md L LP st x L' I h
  obtain ⟨y,h1,h⟩:=mpd (show (lkF L i).map (fun x=>(x,L)) = some (x,L') from h)
  cases h
  obtain ⟨v,e,r,c⟩:=I.rc h1
  exact ⟨v,st,ev_var e,.refl I,r,fun j z=>(by cases z; exact ⟨e,h1⟩),fun z=>(by cases z),c⟩
 ·intro Pv md L LP st x L' I h
  obtain ⟨y,h1,h⟩:=bnd (show (lkF L i).bind (fun x=>(truF x).map fun b=>(b,L)) = some (x,L') from h)
  obtain ⟨b,h2,h⟩:=mpd h
  cases h
  obtain ⟨v,e,r,c⟩:=I.rc h1
  exact ⟨st,by rw [pt,ev_var e]; simp only [Option.bind_some,tru_ok r h2],.refl I⟩
 ·intro Pv md L LP st x L' I h; cases h
 ·intro Pv md L LP st x L' I h; cases h
 ·intro Pv md L LP st x L' i y I h; cases h
 ·intro Pv md L LP st x L' I h
  obtain ⟨y,h1,h⟩:=bnd (show (lkF L i).bind (fun x=>(intF x).map fun b=>(some b,L)) = some (x,L') from h)
  obtain ⟨j,h2,h⟩:=mpd h
  cases h
  obtain ⟨v,e,r,c⟩:=I.rc h1
  cases y <;> first | (cases h2; done) | skip
  cases h2
  cases (show v = _ from r)
  exact ⟨st,by rw [po,ev_var e]; rfl,.refl I⟩
 ·intro Pv md L LP st xs md' L' I h
  obtain ⟨y,h1,h⟩:=bnd (show (lkF L i).bind (fun x=>(seqF x).map fun xs=>(xs,freeze md (some i),L)) = some (xs,md',L') from h)
  obtain ⟨zs,h2,h⟩:=mpd h
  cases h
  obtain ⟨v,e,r,k1,k2⟩:=I.val i y h1
  obtain ⟨_,_,_,c⟩:=I.rc h1
  have c:RC Pv v:=by
   by_cases hm:mdAt md i = .imm
   ·exact .inl (k1 hm)
   ·obtain ⟨⟨q,rfl,_⟩,_⟩:=k2 hm; exact .inr ⟨q,rfl⟩
  obtain ⟨ps,e2,r2,n2⟩:=seq_of I r c h2
  refine ⟨ps,gdOf v ps,st,by rw [pi,ev_var e]; simp only [Option.bind_some,e2],.refl I,r2,n2,freeze_frz _ _,?_⟩
  by_cases hm:mdAt md i = .imm
  ·exact .of e2 (k1 hm) r.bound
  ·obtain ⟨⟨q,rfl,_⟩,_⟩:=k2 hm
   intro p hp
   simp [gdOf] at hp
   subst hp
   exact ⟨e2,r.bound,.inr ⟨i,y,freeze_at hm,e,h1⟩⟩
theorem ok_const {e:E} {p:PV} {x:FV} (hs:sem Γ cf e = .pl fun _ L=>some (x,L)) (hp:∀ LP st,ev cp e LP st = some (p,st)) (hr:∀ st,Rd st p x) (hn:∀ P,RA P p) (P:Pln cp e):Okf Γ cf cp e:=by
 have hv:SV Γ cf cp e:=by
  intro Pv md L LP st y L' I h
  rw [hs] at h
  cases h
  exact ⟨p,st,hp LP st,.refl I,hr st,hn _⟩
 exact okv P hv (noF (by rw [hs]; rfl)) (by rw [hs]; rfl) (by rw [hs]; rfl) (tOf_ok P hv (by rw [hs]; rfl)) (by rw [hs]; rfl) (by rw [hs]; rfl) (by rw [hs]; rfl) (by rw [hs]; rfl) (by rw [hs]; rfl)
theorem ok_bin {op:BOp} {a b:E} (ha:Okf Γ cf cp a) (hb:Okf Γ cf cp b):Okf Γ cf cp (.bin op a b):=by
 have P:Pln cp (.bin op a b):=⟨fun _ _=>rfl,fun _ _=>rfl,fun _ _=>rfl⟩
 have go:∀ {Pv md L LP st x L'},Ivt Pv md L LP st→(sem Γ cf (.bin op a b)).v md L = some (x,L')→∃ v st',ev cp (.bin op a b) LP st = some (v,st')∧Res Pv md LP L st L' v st' x∧(isLstOp x = true→Fsh st.length v st'):=by
  intro Pv md L LP st x L' I h
  rw [sem_bin] at h
  obtain ⟨g,L1,s1,h,p1,R1⟩:=dfr_ok ha (fun _=>nm_var) I h
  obtain ⟨⟨xb,Lb⟩,h2,h⟩:=bnd h
  obtain ⟨x',h3,h⟩:=bnd h
  obtain ⟨z,h4,h⟩:=mpd h
  cases h
  obtain ⟨vb,s2,e2,p2,r2,_,_,c2⟩:=hb.r p1.inv h2
  obtain ⟨va,e1,r1,c1,_⟩:=R1 p2 h3
  obtain ⟨v,s3,e3,R,F⟩:=bin_ok op p2.inv r1 c1 r2 c2 h4
  exact ⟨v,s3,by simp only [evR_bin,e1,e2,Option.bind_some,e3],⟨(p1.trans p2).trans R.p,R.r,R.n⟩,fun k=>let ⟨r,a1,a2,a3⟩:=F k; ⟨r,a1,Nat.le_trans (Nat.le_trans p1.le p2.le) a2,a3⟩⟩
 have hv:SV Γ cf cp (.bin op a b):=fun I h=>let ⟨v,s,e,R,_⟩:=go I h; ⟨v,s,e,R⟩
 refine okv P hv ?_ rfl rfl (tOf_ok P hv rfl) rfl rfl rfl rfl rfl
 intro Pv md L LP st x L' I h
 obtain ⟨⟨y,Ly⟩,h1,h⟩:=bnd (show ((sem Γ cf (.bin op a b)).v md L).bind (fun z=>if isLstOp z.1 then some z else none) = some (x,L') from h)
 split at h
 ·rename_i hk; cases h
  obtain ⟨v,s,e,R,F⟩:=go I h1
  exact ⟨v,s,e,R,F hk⟩
 ·cases h
theorem ok_cmp {op:COp} {a b:E} (ha:Okf Γ cf cp a) (hb:Okf Γ cf cp b):Okf Γ cf cp (.cmp op a b):=by
 have P:Pln cp (.cmp op a b):=⟨fun _ _=>rfl,fun _ _=>rfl,fun _ _=>rfl⟩
 have hv:SV Γ cf cp (.cmp op a b):=by
  intro Pv md L LP st x L' I h
  rw [sem_cmp] at h
  obtain ⟨g,L1,s1,h,p1,R1⟩:=dfr_ok ha (fun _=>nm_var) I h
  obtain ⟨⟨xb,Lb⟩,h2,h⟩:=bnd h
  obtain ⟨x',h3,h⟩:=bnd h
  obtain ⟨z,h4,h⟩:=mpd h
  cases h
  obtain ⟨vb,s2,e2,p2,r2,_,_,c2⟩:=hb.r p1.inv h2
  obtain ⟨va,e1,r1,c1,_⟩:=R1 p2 h3
  exact ⟨.bl z,s2,by simp only [evR_bl,evR_cmp,e1,e2,Option.bind_some,cmp_ok op r1 r2 h4],p1.trans p2,rfl,trivial⟩
 exact okv P hv (noF rfl) rfl rfl (tOf_ok P hv rfl) rfl rfl rfl rfl rfl
theorem non_ok {st:Sto} {v:PV} {x:FV} (r:Rd st v x):decide (v = .non) = isNonF x:=by
 cases x <;> first
  | (cases (show v = _ from r); rfl)
  | (cases (show v = _ from r); simp [isNonF])
  | (obtain ⟨ps,rfl,_⟩:=r; simp [isNonF])
  | (obtain ⟨l,ps,rfl,_⟩:=r; simp [isNonF])
theorem bl_ok {st:Sto} {v:PV} {x:FV} {b:Bool} (r:Rd st v x):decide (v = .bl b) = isBlF b x:=by
 cases x <;> first
  | (cases (show v = _ from r); simp [isBlF]; done)
  | (cases (show v = _ from r); rename_i c; cases b <;> cases c <;> rfl)
  | (obtain ⟨ps,rfl,_⟩:=r; simp [isBlF])
  | (obtain ⟨l,ps,rfl,_⟩:=r; simp [isBlF])
theorem ok_is {k:Bool} {a c:E} (ha:Okf Γ cf cp a):Okf Γ cf cp (.is k a c):=by
 have P:Pln cp (.is k a c):=⟨fun _ _=>rfl,fun _ _=>rfl,fun _ _=>rfl⟩
 have hv:SV Γ cf cp (.is k a c):=by
  intro Pv md L LP st x L' I h
  obtain ⟨⟨xa,La⟩,h1,h⟩:=bnd (show ((sem Γ cf a).r md L).bind _ = some (x,L') from h)
  obtain ⟨va,s1,e1,p1,r1,n1,m1,c1⟩:=ha.r I h1
  cases c <;> first | (cases h; done) | skip
  ·rename_i b _
   cases h
   exact ⟨.bl (k != decide (va = .bl b)),s1,by simp only [evR_bl,evR_is,e1,Option.bind_some],p1,by rw [bl_ok r1]; rfl,trivial⟩
  ·cases h
   exact ⟨.bl (k != decide (va = .non)),s1,by simp only [evR_bl,evR_non,evR_is,e1,Option.bind_some],p1,by rw [non_ok r1]; rfl,trivial⟩
 exact okv P hv (noF rfl) rfl rfl (tOf_ok P hv rfl) rfl rfl rfl rfl rfl
theorem ok_chain {o p:COp} {a b c:E} (ha:Okf Γ cf cp a) (hb:Okf Γ cf cp b) (hc:Okf Γ cf cp c):Okf Γ cf cp (.chain o p a b c):=by
 have P:Pln cp (.chain o p a b c):=⟨fun _ _=>rfl,fun _ _=>rfl,fun _ _=>rfl⟩
 have hv:SV Γ cf cp (.chain o p a b c):=by
  intro Pv md L LP st x L' I h
  rw [sem_chain] at h
  obtain ⟨g,L1,s1,h,p1,R1⟩:=dfr_ok ha (fun _=>nm_var) I h
  obtain ⟨⟨xb,Lb⟩,h2,h⟩:=bnd h
  obtain ⟨x',h3,h⟩:=bnd h
  obtain ⟨z,h4,h⟩:=bnd h
  obtain ⟨vb,s2,e2,R2⟩:=hb.v p1.inv h2
  have p2:=R2.p
  obtain ⟨va,e1,r1,c1,_⟩:=R1 p2 h3
  have e4:=cmp_ok o r1 R2.r h4
  cases z with
  | false =>
   cases h
   exact ⟨.bl false,s2,by simp only [evR_bl,evR_chain,e1,e2,Option.bind_some,e4]; rfl,p1.trans p2,rfl,trivial⟩
  | true =>
   obtain ⟨⟨xc,Lc⟩,h5,h⟩:=bnd (show ((sem Γ cf c).r md Lb).bind _ = some (x,L') from h)
   obtain ⟨q,h6,h⟩:=mpd h
   cases h
   obtain ⟨vc,s3,e5,p3,r3,_,_,c3⟩:=hc.r p2.inv h5
   have e6:=cmp_ok p (p3.keep p2.inv R2.r R2.n) r3 h6
   exact ⟨.bl q,s3,by simp only [evR_bl,evR_chain,e1,e2,Option.bind_some,e4,if_true,e5,e6],(p1.trans p2).trans p3,rfl,trivial⟩
 exact okv P hv (noF rfl) rfl rfl (tOf_ok P hv rfl) rfl rfl rfl rfl rfl
structure Pl2 (cp:Nat→List PV→Sto→R PV) (e:E):Prop where
 o:∀ L st,evO cp e L st = (ev cp e L st).bind fun (x,st1)=>match x with
  | .int i=>some (some i,st1)
  | _=>none
 i:∀ L st,evI cp e L st = (ev cp e L st).bind fun (x,st1)=>(seqOf st1 x).bind fun xs=>some (xs,gdOf x xs,st1)
theorem okv2 {e:E} (P:Pl2 cp e) (hv:SV Γ cf cp e) (hf:SF Γ cf cp e) (er:(sem Γ cf e).r = (sem Γ cf e).v) (en:(sem Γ cf e).nm = none) (et:ST Γ cf cp e)
  (ets:(sem Γ cf e).ts = fun _ _=>none) (es:(sem Γ cf e).s = fun _ _=>none) (eh:(sem Γ cf e).hd = none) (eo:(sem Γ cf e).o = oOf (sem Γ cf e).v) (ei:(sem Γ cf e).i = iOf (sem Γ cf e).v):Okf Γ cf cp e:=by
 refine ⟨hv,?_,hf,et,?_,?_,?_,?_,?_⟩
 ·intro Pv md L LP st x L' I h
  rw [er] at h
  obtain ⟨v,st',e1,R⟩:=hv I h
  exact ⟨v,st',e1,R.p,R.r,fun i z=>(by rw [en] at z; cases z),fun _=>R.n,.inl R.n⟩
 ·intro Pv md L LP st x L' I h; rw [ets] at h; cases h
 ·intro Pv md L LP st x L' I h; rw [es] at h; cases h
 ·intro Pv md L LP st x L' i y I h; rw [eh] at h; cases h
 ·intro Pv md L LP st x L' I h
  rw [eo] at h
  obtain ⟨⟨x1,L1⟩,h1,h⟩:=bnd h
  obtain ⟨j,h2,h⟩:=mpd h
  cases h
  obtain ⟨v,st',e1,R⟩:=hv I h1
  cases x1 <;> first | (cases h2; done) | skip
  cases h2
  have:=R.r
  cases (show v = _ from this)
  exact ⟨st',by rw [P.o,e1]; rfl,R.p⟩
 ·intro Pv md L LP st xs md' L' I h
  rw [ei] at h
  obtain ⟨⟨x1,L1⟩,h1,h⟩:=bnd h
  obtain ⟨ys,h2,h⟩:=mpd h
  cases h
  obtain ⟨v,st',e1,R⟩:=hv I h1
  obtain ⟨ps,e2,r2,n2⟩:=seq_of R.p.inv R.r (.inl R.n) h2
  exact ⟨ps,gdOf v ps,st',by rw [P.i,e1]; simp only [Option.bind_some,e2],R.p,r2,n2,.rfl,.of e2 R.n R.r.bound⟩
theorem ok_and {a b:E} (ha:Okf Γ cf cp a) (hb:Okf Γ cf cp b):Okf Γ cf cp (.and a b):=by
 refine okv2 ⟨fun _ _=>rfl,fun _ _=>rfl⟩ ?_ (noF rfl) rfl rfl ?_ rfl rfl rfl rfl rfl
 ·intro Pv md L LP st x L' I h
  obtain ⟨⟨xa,La⟩,h1,h⟩:=bnd (show ((sem Γ cf a).v md L).bind _ = some (x,L') from h)
  obtain ⟨r,h2,h⟩:=bnd h
  obtain ⟨va,s1,e1,R1⟩:=ha.v I h1
  have e2:=tru_ok R1.r h2
  cases r with
  | true =>
   obtain ⟨vb,s2,e3,R2⟩:=hb.v R1.p.inv (show (sem Γ cf b).v md La = some (x,L') from h)
   exact ⟨vb,s2,by simp only [evR_and,e1,Option.bind_some,e2,if_true,e3],R1.p.trans R2.p,R2.r,R2.n⟩
  | false=>cases h; exact ⟨va,s1,by simp only [evR_and,e1,Option.bind_some,e2]; rfl,R1⟩
 ·intro Pv md L LP st x L' I h
  obtain ⟨⟨xa,La⟩,h1,h⟩:=bnd (show ((sem Γ cf a).t md L).bind _ = some (x,L') from h)
  obtain ⟨s1,e1,p1⟩:=ha.t I h1
  cases xa with
  | true =>
   obtain ⟨s2,e3,p2⟩:=hb.t p1.inv (show (sem Γ cf b).t md La = some (x,L') from h)
   exact ⟨s2,by simp only [evTR_and,e1,Option.bind_some,if_true,e3],p1.trans p2⟩
  | false=>cases h; exact ⟨s1,by simp only [evTR_and,e1,Option.bind_some]; rfl,p1⟩
theorem ok_or {a b:E} (ha:Okf Γ cf cp a) (hb:Okf Γ cf cp b):Okf Γ cf cp (.or a b):=by
 refine okv2 ⟨fun _ _=>rfl,fun _ _=>rfl⟩ ?_ (noF rfl) rfl rfl ?_ rfl rfl rfl rfl rfl
 ·intro Pv md L LP st x L' I h
  obtain ⟨⟨xa,La⟩,h1,h⟩:=bnd (show ((sem Γ cf a).v md L).bind _ = some (x,L') from h)
  obtain ⟨r,h2,h⟩:=bnd h
  obtain ⟨va,s1,e1,R1⟩:=ha.v I h1
  have e2:=tru_ok R1.r h2
  cases r with
  | false =>
   obtain ⟨vb,s2,e3,R2⟩:=hb.v R1.p.inv (show (sem Γ cf b).v md La = some (x,L') from h)
   exact ⟨vb,s2,by simp only [evR_or,e1,Option.bind_some,e2]; exact e3,R1.p.trans R2.p,R2.r,R2.n⟩
  | true=>cases h; exact ⟨va,s1,by simp only [evR_or,e1,Option.bind_some,e2,if_true],R1⟩
 ·intro Pv md L LP st x L' I h
  obtain ⟨⟨xa,La⟩,h1,h⟩:=bnd (show ((sem Γ cf a).t md L).bind _ = some (x,L') from h)
  obtain ⟨s1,e1,p1⟩:=ha.t I h1
  cases xa with
  | false =>
   obtain ⟨s2,e3,p2⟩:=hb.t p1.inv (show (sem Γ cf b).t md La = some (x,L') from h)
   exact ⟨s2,by simp only [evTR_or,e1,Option.bind_some]; exact e3,p1.trans p2⟩
  | true=>cases h; exact ⟨s1,by simp only [evTR_or,e1,Option.bind_some,if_true],p1⟩
theorem ok_not {a:E} (ha:Okf Γ cf cp a):Okf Γ cf cp (.not a):=by
 refine okv2 ⟨fun _ _=>rfl,fun _ _=>rfl⟩ ?_ (noF rfl) rfl rfl ?_ rfl rfl rfl rfl rfl
 ·intro Pv md L LP st x L' I h
  obtain ⟨⟨xa,La⟩,h1,h⟩:=bnd (show ((sem Γ cf a).v md L).bind _ = some (x,L') from h)
  obtain ⟨b,h2,h⟩:=mpd h
  cases h
  obtain ⟨va,s1,e1,R1⟩:=ha.v I h1
  cases xa <;> first | (cases h2; done) | skip
  cases h2
  have:=R1.r
  cases (show va = _ from this)
  exact ⟨_,s1,by simp only [evR_not,e1,Option.bind_some],R1.p,rfl,trivial⟩
 ·intro Pv md L LP st x L' I h
  obtain ⟨⟨xa,La⟩,h1,h⟩:=mpd (show ((sem Γ cf a).t md L).map _ = some (x,L') from h)
  cases h
  obtain ⟨s1,e1,p1⟩:=ha.t I h1
  exact ⟨s1,by simp only [evTR_not,e1,Option.bind_some],p1⟩
theorem ok_neg {a:E} (ha:Okf Γ cf cp a):Okf Γ cf cp (.neg a):=by
 have P:Pln cp (.neg a):=⟨fun _ _=>rfl,fun _ _=>rfl,fun _ _=>rfl⟩
 have hv:SV Γ cf cp (.neg a):=by
  intro Pv md L LP st x L' I h
  obtain ⟨⟨xa,La⟩,h1,h⟩:=bnd (show ((sem Γ cf a).v md L).bind _ = some (x,L') from h)
  obtain ⟨b,h2,h⟩:=mpd h
  cases h
  obtain ⟨va,s1,e1,R1⟩:=ha.v I h1
  cases xa <;> first | (cases h2; done) | skip
  cases h2
  have:=R1.r
  cases (show va = _ from this)
  exact ⟨_,s1,by simp only [evR_neg,e1,Option.bind_some],R1.p,rfl,trivial⟩
 exact okv P hv (noF rfl) rfl rfl (tOf_ok P hv rfl) rfl rfl rfl rfl rfl
theorem ok_turn {a:E} (ha:Okf Γ cf cp a):Okf Γ cf cp (.turn a):=by
 have P:Pln cp (.turn a):=⟨fun _ _=>rfl,fun _ _=>rfl,fun _ _=>rfl⟩
 have hv:SV Γ cf cp (.turn a):=by
  intro Pv md L LP st x L' I h
  obtain ⟨⟨xa,La⟩,h1,h⟩:=bnd (show ((sem Γ cf a).v md L).bind _ = some (x,L') from h)
  obtain ⟨b,h2,h⟩:=mpd h
  cases h
  obtain ⟨va,s1,e1,R1⟩:=ha.v I h1
  cases xa <;> first | (cases h2; done) | skip
  cases h2
  obtain ⟨ps,rfl,r⟩:=R1.r
  exact ⟨_,s1,by simp only [evR_turn,e1,Option.bind_some],R1.p,⟨_,rfl,r.rev⟩,RAs.sub (show RAs _ ps from R1.n) fun v hv=>List.mem_reverse.mp hv⟩
 exact okv P hv (noF rfl) rfl rfl (tOf_ok P hv rfl) rfl rfl rfl rfl rfl
theorem ok_ite {c a b:E} (hc:Okf Γ cf cp c) (ha:Okf Γ cf cp a) (hb:Okf Γ cf cp b):Okf Γ cf cp (.ite c a b):=by
 refine okv2 ⟨fun _ _=>rfl,fun _ _=>rfl⟩ ?_ (noF rfl) rfl rfl ?_ rfl rfl rfl rfl rfl
 ·intro Pv md L LP st x L' I h
  obtain ⟨⟨xc,Lc⟩,h1,h⟩:=bnd (show ((sem Γ cf c).t md L).bind _ = some (x,L') from h)
  obtain ⟨s1,e1,p1⟩:=hc.t I h1
  cases xc with
  | true =>
   obtain ⟨v,s2,e2,R⟩:=ha.v p1.inv (show (sem Γ cf a).v md Lc = some (x,L') from h)
   exact ⟨v,s2,by simp only [evR_ite,e1,Option.bind_some,if_true,e2],p1.trans R.p,R.r,R.n⟩
  | false =>
   obtain ⟨v,s2,e2,R⟩:=hb.v p1.inv (show (sem Γ cf b).v md Lc = some (x,L') from h)
   exact ⟨v,s2,by simp only [evR_ite,e1,Option.bind_some]; exact e2,p1.trans R.p,R.r,R.n⟩
 ·intro Pv md L LP st x L' I h
  obtain ⟨⟨xc,Lc⟩,h1,h⟩:=bnd (show ((sem Γ cf c).t md L).bind _ = some (x,L') from h)
  obtain ⟨s1,e1,p1⟩:=hc.t I h1
  cases xc with
  | true =>
   obtain ⟨s2,e2,R⟩:=ha.t p1.inv (show (sem Γ cf a).t md Lc = some (x,L') from h)
   exact ⟨s2,by simp only [evTR_ite,e1,Option.bind_some,if_true,e2],p1.trans R⟩
  | false =>
   obtain ⟨s2,e2,R⟩:=hb.t p1.inv (show (sem Γ cf b).t md Lc = some (x,L') from h)
   exact ⟨s2,by simp only [evTR_ite,e1,Option.bind_some]; exact e2,p1.trans R⟩
theorem ok_tup {es:E} (h0:Okf Γ cf cp es):Okf Γ cf cp (.tup es):=by
 have P:Pln cp (.tup es):=⟨fun _ _=>rfl,fun _ _=>rfl,fun _ _=>rfl⟩
 have hv:SV Γ cf cp (.tup es):=by
  intro Pv md L LP st x L' I h
  obtain ⟨⟨xs,Lx⟩,h1,h⟩:=bnd (show ((sem Γ cf es).s md L).bind _ = some (x,L') from h)
  obtain ⟨vs,s1,e1,p1,r1,n1⟩:=h0.s I h1
  split at h
  ·rename_i hc; cases h
   exact ⟨.tup vs,s1,by simp only [evR_tup,e1,Option.bind_some]; rw [if_pos (by rw [r1.length]; exact hc)],p1,⟨vs,rfl,r1⟩,n1⟩
  ·cases h
 exact okv P hv (noF rfl) rfl rfl (tOf_ok P hv rfl) rfl rfl rfl rfl rfl
theorem Fsh.mono {n m:Nat} {v:PV} {st:Sto} (h:n ≤ m) (k:Fsh m v st):Fsh n v st:=let ⟨r,a,b,c⟩:=k; ⟨r,a,Nat.le_trans h b,c⟩
theorem ok_lst {es:E} (h0:Okf Γ cf cp es):Okf Γ cf cp (.lst es):=by
 have P:Pln cp (.lst es):=⟨fun _ _=>rfl,fun _ _=>rfl,fun _ _=>rfl⟩
 have hf:SF Γ cf cp (.lst es):=by
  intro Pv md L LP st x L' I h
  obtain ⟨⟨xs,Lx⟩,h1,h⟩:=bnd (show ((sem Γ cf es).s md L).bind _ = some (x,L') from h)
  obtain ⟨vs,s1,e1,p1,r1,n1⟩:=h0.s I h1
  split at h
  ·rename_i hc; cases h
   obtain ⟨R,F⟩:=alloc_ok p1.inv r1 n1
   exact ⟨_,_,by simp only [evR_lst,e1,Option.bind_some,alloc]; rw [if_pos (by rw [r1.length]; exact hc)],⟨p1.trans R.p,R.r,R.n⟩,F.mono p1.le⟩
  ·cases h
 have hv:SV Γ cf cp (.lst es):=fun I h=>let ⟨v,s,e,R,_⟩:=hf I h; ⟨v,s,e,R⟩
 exact okv P hv hf rfl rfl (tOf_ok P hv rfl) rfl rfl rfl rfl rfl
end
end Kf
end
section
set_option linter.all false
set_option maxHeartbeats 1000000
namespace Kf
open Kw
theorem lkF_set:∀ (L:FLoc) (i j:Nat) (v:Option FV),lkF (L.set i v) j = if i = j∧i < L.length then v else lkF L j
 | [],i,j,v=>by simp [lkF]
 | a :: r,0,0,v=>by simp [lkF]
 | a :: r,0,j + 1,v=>by simp [lkF]
 | a :: r,i + 1,0,v=>by simp [lkF]
 | a :: r,i + 1,j + 1,v=>by simp [lkF,lkF_set r i j v]
theorem lkF_lt:∀ {L:FLoc} {i:Nat} {x:FV},lkF L i = some x→i < L.length
 | [],i,x,h=>by simp [lkF] at h
 | a :: r,0,x,h=>by simp
 | a :: r,i + 1,x,h=>by have:=lkF_lt (L:=r) (i:=i) h; simp; omega
theorem lkF_app:∀ (L M:FLoc) (i:Nat),lkF (L ++ M) i = if i < L.length then lkF L i else lkF M (i - L.length)
 | [],M,i=>by simp
 | a :: r,M,0=>by simp [lkF]
 | a :: r,M,i + 1=>by simp [lkF,lkF_app r M i]
theorem lkF_rep (m i:Nat):lkF (List.replicate m none) i = none:=by
 induction m generalizing i with
 | zero=>simp [lkF]
 | succ m ih=>cases i <;> simp [List.replicate_succ,lkF,ih]
theorem lkF_take:∀ (L:FLoc) (n i:Nat),lkF (L.take n) i = if i < n then lkF L i else none
 | [],n,i=>by simp [lkF]
 | a :: r,0,i=>by simp [lkF]
 | a :: r,n + 1,0=>by simp [lkF]
 | a :: r,n + 1,i + 1=>by simp [lkF,lkF_take r n i]
section
variable {Pv:Nat→Prop} {md:Md} {L:FLoc} {LP:Loc} {st st':Sto}
theorem Ivt.write (I:Ivt Pv md L LP st) {i r:Nat} {x y:FV} (hm:mdAt md i = .own) (hx:lkF L i = some x) (hr:LP[i]? = some (some (.ref r))) (W:Wf Pv st') (le:st.length ≤ st'.length)
  (same:∀ q,q < st.length→q ≠ r→st'[q]? = st[q]?) (ry:Rd st' (.ref r) y) (hy:∃ ys,y = .lst ys):Pst Pv md LP L st (L.set i (some y)) st':=by
 have hpr:Pv r:=by
  obtain ⟨v,e,_,_,k⟩:=I.val i x hx
  obtain ⟨⟨r',rfl,hp⟩,_⟩:=k (by rw [hm]; simp)
  rw [hr] at e; cases e; exact hp
 have hs:∀ l,Np Pv l→l < st.length→st'[l]? = st[l]?:=fun l hl hlt=>same l hlt (fun z=>hl (z ▸ hpr))
 have il:=lkF_lt hx
 have hd:∀ j z,lkF (L.set i (some y)) j = some z→∃ w,lkF L j = some w:=fun j z h=>by
  rw [lkF_set] at h
  split at h
  ·rename_i c; rw [← c.1]; exact ⟨x,hx⟩
  ·exact ⟨z,h⟩
 refine ⟨⟨by rw [List.length_set]; exact I.len,fun j z hz=>?_,fun a b q z w hab ha hb hz hw=>?_,W.cel,W.pvl⟩,le,fun q hq k=>same q hq fun z=>k i x hm hx (z ▸ hr),hd,fun j w hw=>?_⟩
 ·rw [lkF_set] at hz
  split at hz
  ·rename_i c
   cases hz
   rw [← c.1]
   exact ⟨_,hr,ry,fun z=>(by rw [hm] at z; cases z),fun _=>⟨⟨r,rfl,hpr⟩,hy⟩⟩
  ·rename_i c
   obtain ⟨v,e,rv,k1,k2⟩:=I.val j z hz
   refine ⟨v,e,?_,k1,k2⟩
   by_cases hj:mdAt md j = .imm
   ·exact keep0 (G:=Np Pv) (fun l ps _ e=>I.celN l ps e) hs z v rv (k1 hj)
   ·obtain ⟨⟨q,rfl,hp⟩,ys,rfl⟩:=k2 hj
    obtain ⟨l,ps,el,e2,r2⟩:=rv
    cases el
    have hne:q ≠ r:=fun h=>by
     subst h
     have hij:i ≠ j:=fun h=>c ⟨h,il⟩
     exact I.dis i j q x _ hij (by rw [hm]; simp) hj hx hz hr e
    exact ⟨q,ps,rfl,by rw [same q (List.getElem?_eq_some_iff.mp e2).1 hne]; exact e2,keeps0 (G:=Np Pv) (fun l ps _ e=>I.celN l ps e) hs ys ps r2 (I.celN q ps e2)⟩
 ·obtain ⟨z',hz'⟩:=hd a z hz
  obtain ⟨w',hw'⟩:=hd b w hw
  exact I.dis a b q z' w' hab ha hb hz' hw'
 ·rw [lkF_set]
  split
  ·exact ⟨_,rfl⟩
  ·exact ⟨w,hw⟩
theorem Ivt.put (I:Ivt Pv md L LP st) {i:Nat} {x:FV} {xs ys:List FV} {qs:List PV} (hm:mdAt md i = .own) (hx:lkF L i = some x) (hl:listF x = some xs) {v:PV} (hv:LP[i]? = some (some v))
  (h:∀ r ps,v = .ref r→st[r]? = some (.lst ps)→Rds st ps xs→RAs (Np Pv) ps→Rds st qs ys∧RAs (Np Pv) qs) :
  ∃ r ps,v = .ref r∧st[r]? = some (.lst ps)∧Rds st ps xs∧RAs (Np Pv) ps∧Pst Pv md LP L st (L.set i (some (.lst ys))) (st.set r (.lst qs)):=by
 obtain ⟨v',e,rv,_,k⟩:=I.val i x hx
 obtain ⟨⟨r,rfl,hp⟩,zs,rfl⟩:=k (by rw [hm]; simp)
 rw [hv] at e; cases e
 cases hl
 obtain ⟨l,ps,el,e2,r2⟩:=rv
 cases el
 have n2:=I.celN r ps e2
 obtain ⟨h1,h2⟩:=h r ps rfl e2 r2 n2
 have hlt:=(List.getElem?_eq_some_iff.mp e2).1
 have hs:∀ l,Np Pv l→l < st.length→(st.set r (PO.lst qs))[l]? = st[l]?:=fun l hl _=>List.getElem?_set_ne (fun z:r = l=>hl (z ▸ hp))
 refine ⟨r,ps,rfl,e2,r2,n2,I.write hm hx hv ⟨fun l ps' e=>?_,fun q hq=>by rw [List.length_set]; exact I.pvl q hq⟩ (by simp) (fun q _ hq=>List.getElem?_set_ne (Ne.symm hq)) ⟨r,qs,rfl,List.getElem?_set_self hlt,keeps0 (G:=Np Pv) (fun l ps _ e=>I.celN l ps e) hs ys qs h1 h2⟩ ⟨_,rfl⟩⟩
 rw [List.length_set]
 by_cases hlr:r = l
 ·subst hlr
  rw [List.getElem?_set_self hlt] at e; cases e
  exact h1.bound.and h2
 ·rw [List.getElem?_set_ne hlr] at e
  exact I.cel l ps' e
theorem Ivt.more (I:Ivt Pv md L LP st) (m:Nat):Ivt Pv md (L ++ List.replicate m none) (LP ++ List.replicate m none) st:=by
 have hd:∀ {i x},lkF (L ++ List.replicate m none) i = some x→lkF L i = some x∧i < L.length:=fun {i x} h=>by
  rw [lkF_app] at h
  split at h
  ·rename_i c; exact ⟨h,c⟩
  ·rw [lkF_rep] at h; cases h
 have ha:∀ {i},i < L.length→(LP ++ List.replicate m none)[i]? = LP[i]?:=fun {i} h=>List.getElem?_append_left (by rw [← I.len]; exact h)
 refine ⟨by rw [List.length_append,List.length_append,List.length_replicate,List.length_replicate,I.len],fun i x hx=>?_,fun i j r x y hij hi hj hx hy e1=>?_,I.cel,I.pvl⟩
 ·obtain ⟨h1,h2⟩:=hd hx
  rw [ha h2]; exact I.val i x h1
 ·obtain ⟨h1,h2⟩:=hd hx
  obtain ⟨h3,h4⟩:=hd hy
  rw [ha h2] at e1; rw [ha h4]
  exact I.dis i j r x y hij hi hj h1 h3 e1
theorem Ivt.set (I:Ivt Pv md L LP st) {i:Nat} {x:FV} {v:PV} (hm:mdAt md i = .imm) (r:Rd st v x) (n:RA (Np Pv) v):Ivt Pv md (L.set i (some x)) (LP.set i (some v)) st:=by
 have hd:∀ {j y},lkF (L.set i (some x)) j = some y→(i = j∧i < L.length∧y = x) ∨ (i ≠ j∧lkF L j = some y) ∨ (i = j∧¬ i < L.length):=fun {j y} h=>by
  rw [lkF_set] at h
  by_cases hij:i = j
  ·by_cases hl:i < L.length
   ·rw [if_pos ⟨hij,hl⟩] at h; cases h; exact .inl ⟨hij,hl,rfl⟩
   ·exact .inr (.inr ⟨hij,hl⟩)
  ·rw [if_neg (fun z=>hij z.1)] at h; exact .inr (.inl ⟨hij,h⟩)
 have ht:∀ {j},mdAt md j ≠ .imm→∀ {y},lkF (L.set i (some x)) j = some y→i ≠ j∧lkF L j = some y:=fun {j} hj {y} h=>by
  rcases hd h with ⟨a,_,_⟩ | ⟨a,b⟩ | ⟨a,b⟩
  ·exact absurd hm (a ▸ hj)
  ·exact ⟨a,b⟩
  ·exact absurd hm (a ▸ hj)
 refine ⟨by rw [List.length_set,List.length_set]; exact I.len,fun j y hy=>?_,fun a b q y z hab ha hb hy hz e=>?_,I.cel,I.pvl⟩
 ·rcases hd hy with ⟨a,b,c⟩ | ⟨a,b⟩ | ⟨a,b⟩
  ·subst a; subst c
   exact ⟨v,List.getElem?_set_self (by rw [← I.len]; exact b),r,fun _=>n,fun z=>absurd hm z⟩
  ·rw [List.getElem?_set_ne a]; exact I.val j y b
  ·exfalso
   subst a
   have:=lkF_lt hy
   rw [List.length_set] at this; exact b this
 ·obtain ⟨h1,h2⟩:=ht ha hy
  obtain ⟨h3,h4⟩:=ht hb hz
  rw [List.getElem?_set_ne h1] at e; rw [List.getElem?_set_ne h3]
  exact I.dis a b q y z hab ha hb h2 h4 e
theorem asg_all:∀ {is:List Nat} {xs:List FV} {vs:List PV} {L:FLoc} {LP:Loc} {L':FLoc},Ivt Pv md L LP st→allImm md is = true→Rds st vs xs→RAs (Np Pv) vs→setAllF L is xs = some L' →
  ∃ LP',setAll LP is vs = some LP'∧Ivt Pv md L' LP' st∧(∀ j,j ∉ is→LP'[j]? = LP[j]?∧lkF L' j = lkF L j)∧L'.length = L.length
 | [],[],vs,L,LP,L',I,_,r,n,e=>by cases (show vs = [] from r); cases e; exact ⟨LP,rfl,I,fun _ _=>⟨rfl,rfl⟩,rfl⟩
 | i :: is,x :: xs,vs,L,LP,L',I,a,r,n,e=>by
  obtain ⟨p,q,rfl,r1,r2⟩:=r
  simp only [allImm,Bool.and_eq_true,decide_eq_true_eq] at a
  obtain ⟨LP',e',I',k,hl⟩:=asg_all (I.set a.1 r1 n.1) a.2 r2 n.2 e
  refine ⟨LP',e',I',fun j hj=>?_,by rw [hl,List.length_set]⟩
  simp only [List.mem_cons,not_or] at hj
  obtain ⟨k1,k2⟩:=k j hj.2
  rw [k1,k2,List.getElem?_set_ne (Ne.symm hj.1),lkF_set,if_neg (fun z=>hj.1 z.1.symm)]
  exact ⟨rfl,rfl⟩
 | [],_ :: _,vs,L,LP,L',I,_,r,n,e=>by cases e
 | _ :: _,[],vs,L,LP,L',I,_,r,n,e=>by cases e
noncomputable def tgIn:Tg→Nat→Prop
 | .nm i,j=>j = i
 | .tp is,j=>j ∈ is
theorem asg_ok (I:Ivt Pv md L LP st) {tg:Tg} {x:FV} {v:PV} {L':FLoc} (r:Rd st v x) (n:RA (Np Pv) v) (e:asgF md tg x L = some L') :
  ∃ LP',asgT tg v LP st = some LP'∧Ivt Pv md L' LP' st∧(∀ j,¬ tgIn tg j→LP'[j]? = LP[j]?∧lkF L' j = lkF L j)∧(∀ j,tgIn tg j→mdAt md j = .imm)∧L'.length = L.length:=by
 cases tg with
 | nm i =>
  have e:(if mdAt md i = .imm then some (L.set i (some x)) else none) = some L':=e
  split at e
  ·rename_i hm; cases e
   exact ⟨_,rfl,I.set hm r n,fun j hj=>⟨List.getElem?_set_ne (fun z=>hj z.symm),by rw [lkF_set,if_neg (fun z=>hj z.1.symm)]⟩,fun j hj=>by cases (show j = i from hj); exact hm,by simp⟩
  ·cases e
 | tp is =>
  cases x with
  | tup xs =>
   have e:(if allImm md is = true then setAllF L is xs else none) = some L':=e
   split at e
   ·rename_i ha
    obtain ⟨ps,rfl,r⟩:=r
    obtain ⟨LP',e',I',k,hl⟩:=asg_all I ha r (show RAs _ ps from n) e
    have himm:∀ (is:List Nat),allImm md is = true→∀ j ∈ is,mdAt md j = .imm:=by
     intro is
     induction is with
     | nil=>intro _ j hj; cases hj
     | cons a r ih =>
      intro h j hj
      simp only [allImm,Bool.and_eq_true,decide_eq_true_eq] at h
      rcases List.mem_cons.mp hj with z | z
      ·rw [z]; exact h.1
      ·exact ih h.2 j z
    exact ⟨LP',e',I',k,himm is ha,hl⟩
   ·cases e
  | _=>cases e
end
section
variable {Γ:Nat→Bool×Bool} {cf:Nat→List FV→Option (FV×FV)} {cp:Nat→List PV→Sto→R PV}
theorem ok_nil:Okf Γ cf cp .nil:=by
 refine ⟨?_,?_,noF rfl,?_,?_,?_,?_,?_,?_⟩
 ·intro Pv md L LP st x L' I h; cases h
 ·intro Pv md L LP st x L' I h; cases h
 ·intro Pv md L LP st x L' I h; cases h
 ·intro Pv md L LP st x L' I h; cases h; exact ⟨st,by simp only [evTsR_nil],.refl I⟩
 ·intro Pv md L LP st x L' I h; cases h; exact ⟨[],st,by simp only [evsR_nil],.refl I,rfl,trivial⟩
 ·intro Pv md L LP st x L' i y I h; cases h
 ·intro Pv md L LP st x L' I h; cases h
 ·intro Pv md L LP st x md' L' I h; cases h
theorem ok_none:Okf Γ cf cp .none:=by
 refine ⟨?_,?_,noF rfl,?_,?_,?_,?_,?_,?_⟩
 ·intro Pv md L LP st x L' I h; cases h
 ·intro Pv md L LP st x L' I h; cases h
 ·intro Pv md L LP st x L' I h; cases h
 ·intro Pv md L LP st x L' I h; cases h
 ·intro Pv md L LP st x L' I h; cases h
 ·intro Pv md L LP st x L' i y I h; cases h
 ·intro Pv md L LP st x L' I h; cases h; exact ⟨st,by simp only [evOR_none],.refl I⟩
 ·intro Pv md L LP st x md' L' I h; cases h
theorem ok_no {e:E} (he:sem Γ cf e = .no):Okf Γ cf cp e:=by
 refine ⟨?_,?_,noF (by rw [he]; rfl),?_,?_,?_,?_,?_,?_⟩
 ·intro Pv md L LP st x L' I h; rw [he] at h; cases h
 ·intro Pv md L LP st x L' I h; rw [he] at h; cases h
 ·intro Pv md L LP st x L' I h; rw [he] at h; cases h
 ·intro Pv md L LP st x L' I h; rw [he] at h; cases h
 ·intro Pv md L LP st x L' I h; rw [he] at h; cases h
 ·intro Pv md L LP st x L' i y I h; rw [he] at h; cases h
 ·intro Pv md L LP st x L' I h; rw [he] at h; cases h
 ·intro Pv md L LP st x md' L' I h; rw [he] at h; cases h
theorem ok_wk {e:E} {i:Md→FLoc→Option (List FV×Md×FLoc)} (he:sem Γ cf e = .wk i) (hi:SI Γ cf cp e):Okf Γ cf cp e:=by
 refine ⟨?_,?_,noF (by rw [he]; rfl),?_,?_,?_,?_,?_,hi⟩
 ·intro Pv md L LP st x L' I h; rw [he] at h; cases h
 ·intro Pv md L LP st x L' I h; rw [he] at h; cases h
 ·intro Pv md L LP st x L' I h; rw [he] at h; cases h
 ·intro Pv md L LP st x L' I h; rw [he] at h; cases h
 ·intro Pv md L LP st x L' I h; rw [he] at h; cases h
 ·intro Pv md L LP st x L' i y I h; rw [he] at h; cases h
 ·intro Pv md L LP st x L' I h; rw [he] at h; cases h
theorem ok_cons {e es:E} (h1:Okf Γ cf cp e) (h2:Okf Γ cf cp es):Okf Γ cf cp (.cons e es):=by
 refine ⟨?_,?_,noF rfl,?_,?_,?_,?_,?_,?_⟩
 ·intro Pv md L LP st x L' I h; cases h
 ·intro Pv md L LP st x L' I h; cases h
 ·intro Pv md L LP st x L' I h; cases h
 ·intro Pv md L LP st x L' I h
  obtain ⟨⟨b,Lb⟩,k1,h⟩:=bnd (show ((sem Γ cf e).t md L).bind _ = some (x,L') from h)
  obtain ⟨s1,e1,p1⟩:=h1.t I k1
  cases b with
  | true =>
   obtain ⟨s2,e2,p2⟩:=h2.ts p1.inv (show (sem Γ cf es).ts md Lb = some (x,L') from h)
   exact ⟨s2,by simp only [evTsR_cons,e1,Option.bind_some,if_true,e2],p1.trans p2⟩
  | false=>cases h; exact ⟨s1,by simp only [evTsR_cons,e1,Option.bind_some]; rfl,p1⟩
 ·intro Pv md L LP st x L' I h
  obtain ⟨⟨a,La⟩,k1,h⟩:=bnd (show ((sem Γ cf e).v md L).bind _ = some (x,L') from h)
  obtain ⟨⟨b,Lb⟩,k2,h⟩:=bnd h
  cases h
  obtain ⟨v,s1,e1,R⟩:=h1.v I k1
  obtain ⟨vs,s2,e2,p2,r2,n2⟩:=h2.s R.p.inv k2
  exact ⟨v :: vs,s2,by simp only [evsR_cons,e1,e2,Option.bind_some],R.p.trans p2,⟨_,_,rfl,p2.keep R.p.inv R.r R.n,r2⟩,R.n,n2⟩
 ·intro Pv md L LP st x L' i y I h k hy
  have he:=nm_var (show (sem Γ cf e).nm = some i from h)
  subst he
  obtain ⟨vs,s2,e2,p2,r2,n2⟩:=h2.s I (show (sem Γ cf es).s md L = some (x,L') from k)
  obtain ⟨w,hw⟩:=p2.dom i y hy
  obtain ⟨v0,e0,_⟩:=I.rc hw
  exact ⟨v0,vs,s2,by simp only [evsR_cons,ev_var e0,e2,Option.bind_some],e0,p2,r2,n2⟩
 ·intro Pv md L LP st x L' I h; cases h
 ·intro Pv md L LP st x md' L' I h; cases h
theorem at_ok {st:Sto} {ps:List PV} {xs:List FV} {j:Int} {x:FV} {P:Nat→Prop} (r:Rds st ps xs) (n:RAs P ps) (e:atF xs j = some x):∃ v,Kw.atI ps j = some v∧Rd st v x∧RA P v:=by
 obtain ⟨k,e1,e2⟩:=bnd (show (ixN xs.length j).bind _ = some x from e)
 obtain ⟨p,e3,r3⟩:=r.get e2
 exact ⟨p,by simp only [Kw.atI,r.length,e1,Option.bind_some,e3],r3,RA.at n e3⟩
theorem ok_ix {a i:E} (ha:Okf Γ cf cp a) (hi:Okf Γ cf cp i):Okf Γ cf cp (.ix a i):=by
 have P:Pln cp (.ix a i):=⟨fun _ _=>rfl,fun _ _=>rfl,fun _ _=>rfl⟩
 have hv:SV Γ cf cp (.ix a i):=by
  intro Pv md L LP st x L' I h
  rw [sem_ix] at h
  obtain ⟨g,L1,s1,h,p1,R1⟩:=dfr_ok ha (fun _=>nm_var) I h
  obtain ⟨⟨xi,Li⟩,h2,h⟩:=bnd h
  obtain ⟨x',h3,h⟩:=bnd h
  obtain ⟨j,h4,h⟩:=bnd h
  obtain ⟨xs,h5,h⟩:=bnd h
  obtain ⟨z,h6,h⟩:=mpd h
  cases h
  obtain ⟨vi,s2,e2,R2⟩:=hi.v p1.inv h2
  obtain ⟨va,e1,r1,c1,_⟩:=R1 R2.p h3
  cases xi <;> first | (cases h4; done) | skip
  cases h4
  have:=R2.r
  cases (show vi = _ from this)
  obtain ⟨ps,e5,r5,n5⟩:=seq_of R2.p.inv r1 c1 h5
  obtain ⟨v,e6,r6,n6⟩:=at_ok r5 n5 h6
  exact ⟨v,s2,by simp only [evR_ix,e1,e2,Option.bind_some,e5,e6],p1.trans R2.p,r6,n6⟩
 exact okv P hv (noF rfl) rfl rfl (tOf_ok P hv rfl) rfl rfl rfl rfl rfl
theorem ok_sl {a lo hi:E} (ha:Okf Γ cf cp a) (hl:Okf Γ cf cp lo) (hh:Okf Γ cf cp hi):Okf Γ cf cp (.sl a lo hi):=by
 have P:Pln cp (.sl a lo hi):=⟨fun _ _=>rfl,fun _ _=>rfl,fun _ _=>rfl⟩
 have go:∀ {Pv md L LP st x L'},Ivt Pv md L LP st→(sem Γ cf (.sl a lo hi)).v md L = some (x,L')→∃ v st',ev cp (.sl a lo hi) LP st = some (v,st')∧Res Pv md LP L st L' v st' x∧(isLstOp x = true→Fsh st.length v st'):=by
  intro Pv md L LP st x L' I h
  rw [sem_sl] at h
  obtain ⟨g,L1,s1,h,p1,R1⟩:=dfr_ok ha (fun _=>nm_var) I h
  obtain ⟨⟨xl,Ll⟩,h2,h⟩:=bnd h
  obtain ⟨⟨xh,Lh⟩,h3,h⟩:=bnd h
  obtain ⟨x',h4,h⟩:=bnd h
  obtain ⟨z,h5,h⟩:=mpd h
  cases h
  obtain ⟨s2,e2,p2⟩:=hl.o p1.inv h2
  obtain ⟨s3,e3,p3⟩:=hh.o p2.inv h3
  obtain ⟨va,e1,r1',c1,_⟩:=R1 (p2.trans p3) h4
  obtain ⟨v,s4,e4,R,F⟩:=slice_ok p3.inv xl xh r1' c1 h5
  exact ⟨v,s4,by simp only [evR_sl,e1,e2,e3,Option.bind_some,e4],⟨((p1.trans p2).trans p3).trans R.p,R.r,R.n⟩,fun k=>(F k).mono (Nat.le_trans (Nat.le_trans p1.le p2.le) p3.le)⟩
 have hv:SV Γ cf cp (.sl a lo hi):=fun I h=>let ⟨v,s,e,R,_⟩:=go I h; ⟨v,s,e,R⟩
 refine okv P hv ?_ rfl rfl (tOf_ok P hv rfl) rfl rfl rfl rfl rfl
 intro Pv md L LP st x L' I h
 obtain ⟨⟨y,Ly⟩,h1,h⟩:=bnd (show ((sem Γ cf (.sl a lo hi)).v md L).bind (fun z=>if isLstOp z.1 then some z else none) = some (x,L') from h)
 split at h
 ·rename_i hk; cases h
  obtain ⟨v,s,e,R,F⟩:=go I h1
  exact ⟨v,s,e,R,F hk⟩
 ·cases h
theorem call_ok (C:CallOk Γ cf cp) {f:Nat} {as:E} (h0:Okf Γ cf cp as) {Pv md L LP st x L'} (I:Ivt Pv md L LP st) (h:callS Γ cf f (sem Γ cf as) md L = some (x,L')) :
  ∃ v st',ev cp (.call f as) LP st = some (v,st')∧Res Pv md LP L st L' v st' x∧((Γ f).2 = true→Fsh st.length v st'):=by
 unfold callS at h
 cases hg:(Γ f).1 with
 | false =>
  rw [hg] at h
  obtain ⟨⟨xs,Lx⟩,h1,h⟩:=bnd (show ((sem Γ cf as).s md L).bind _ = some (x,L') from h)
  obtain ⟨z,h2,h⟩:=mpd h
  cases h
  obtain ⟨vs,s1,e1,p1,r1,n1⟩:=h0.s I h1
  obtain ⟨v,s2,e2,R,F⟩:=C.im hg p1.inv.wf r1 n1 h2
  have hs:∀ l,l < s1.length→s2[l]? = s1[l]?:=fun l hl=>R.same l hl (by simp)
  have p2:Pst Pv md LP Lx s1 Lx s2:=⟨⟨p1.inv.len,fun i x hx=>by
    obtain ⟨w,e,r,k1,k2⟩:=p1.inv.val i x hx
    exact ⟨w,e,keep0 (G:=(· < s1.length)) (fun l qs _ e=>(p1.inv.cel l qs e).mono fun _ z=>z.1) (fun l hl _=>hs l hl) x w r r.bound,k1,k2⟩,p1.inv.dis,R.wf.cel,R.wf.pvl⟩,R.le,fun r hr _=>hs r hr,fun i x h=>⟨x,h⟩,fun i x h=>⟨x,h⟩⟩
  exact ⟨v,s2,by simp only [evR_call,e1,Option.bind_some,e2],⟨p1.trans p2,R.r,R.n⟩,fun k=>(F k).mono p1.le⟩
 | true =>
  rw [hg] at h
  cases hh:(sem Γ cf as).hd with
  | none=>rw [hh] at h; cases h
  | some i =>
   rw [hh] at h
   have h:(if mdAt md i = .own then ((sem Γ cf as).tl md L).bind fun xs=>(lkF xs.2 i).bind fun x=>(cf f (x :: xs.1)).map fun z=>(z.1,xs.2.set i (some z.2)) else none) = some (x,L'):=h
   split at h
   ·rename_i hm
    obtain ⟨⟨xs,Lx⟩,h1,h⟩:=bnd h
    obtain ⟨y,h2,h⟩:=bnd h
    obtain ⟨z,h3,h⟩:=mpd h
    cases h
    obtain ⟨v0,vs,s1,e1,ei,p1,r1,n1⟩:=h0.tl I hh h1 h2
    obtain ⟨w,ew,rw',_,k⟩:=p1.inv.val i y h2
    obtain ⟨⟨r,rfl,hp⟩,_⟩:=k (by rw [hm]; simp)
    rw [ei] at ew; cases ew
    obtain ⟨v,s2,e2,R,rz,hz,F⟩:=C.io hg p1.inv.wf hp rw' r1 n1 h3
    have p2:=p1.inv.write (y:=z.2) hm h2 ei R.wf R.le (fun q hq hne=>R.same q hq (fun z=>hne (Option.some.inj z).symm)) rz hz
    exact ⟨v,s2,by simp only [evR_call,e1,Option.bind_some,e2],⟨p1.trans p2,R.r,R.n⟩,fun k=>(F k).mono p1.le⟩
   ·cases h
theorem ok_call (C:CallOk Γ cf cp) {f:Nat} {as:E} (h0:Okf Γ cf cp as):Okf Γ cf cp (.call f as):=by
 have P:Pln cp (.call f as):=⟨fun _ _=>rfl,fun _ _=>rfl,fun _ _=>rfl⟩
 have hv:SV Γ cf cp (.call f as):=fun I h=>let ⟨v,s,e,R,_⟩:=call_ok C h0 I h; ⟨v,s,e,R⟩
 refine okv P hv ?_ rfl rfl (tOf_ok P hv rfl) rfl rfl rfl rfl rfl
 intro Pv md L LP st x L' I h
 have h:(if (Γ f).2 = true then callS Γ cf f (sem Γ cf as) md L else none) = some (x,L'):=h
 split at h
 ·rename_i hk
  obtain ⟨v,s,e,R,F⟩:=call_ok C h0 I h
  exact ⟨v,s,e,R,F hk⟩
 ·cases h
theorem one_of {as:E} {r:Md→FLoc→FR FV} (h:(sem Γ cf as).one = some r):∃ a,as = .cons a .nil∧r = (sem Γ cf a).r:=by
 cases as <;> first | (cases h; done) | skip
 rename_i a es
 have h:isOne es (sem Γ cf a).r = some r:=h
 cases es <;> first | (cases h; done) | skip
 exact ⟨a,rfl,(Option.some.inj h).symm⟩
theorem ok_blt {f:BF} {as:E} (h0:Okf Γ cf cp as) (h1:∀ a,as = .cons a .nil→SR Γ cf cp a):Okf Γ cf cp (.blt f as):=by
 have P:Pln cp (.blt f as):=⟨fun _ _=>rfl,fun _ _=>rfl,fun _ _=>rfl⟩
 have go:∀ {Pv md L LP st x L'},Ivt Pv md L LP st→(sem Γ cf (.blt f as)).v md L = some (x,L')→∃ v st',ev cp (.blt f as) LP st = some (v,st')∧Res Pv md LP L st L' v st' x∧(isLstOp x = true→Fsh st.length v st'):=by
  intro Pv md L LP st x L' I h
  have h:(match (sem Γ cf as).one with
   | some r=>(r md L).bind fun x=>(bfunF f x.1).map fun z=>(z,x.2)
   | none=>((sem Γ cf as).s md L).bind fun xs=>(bf2F f xs.1).map fun z=>(z,xs.2)) = some (x,L'):=h
  cases ho:(sem Γ cf as).one with
  | some r =>
   rw [ho] at h
   obtain ⟨a,rfl,rfl⟩:=one_of ho
   obtain ⟨⟨xa,La⟩,k1,h⟩:=bnd h
   obtain ⟨z,k2,h⟩:=mpd h
   cases h
   obtain ⟨va,s1,e1,p1,r1,n1,m1,c1⟩:=h1 a rfl I k1
   obtain ⟨v,s2,e2,R,F⟩:=bf1_ok f p1.inv r1 c1 k2
   exact ⟨v,s2,by simp only [evR_blt,evsR_nil,evsR_cons,e1,Option.bind_some,e2],⟨p1.trans R.p,R.r,R.n⟩,fun k=>(F k).mono p1.le⟩
  | none =>
   rw [ho] at h
   obtain ⟨⟨xs,Lx⟩,k1,h⟩:=bnd (show ((sem Γ cf as).s md L).bind _ = some (x,L') from h)
   obtain ⟨z,k2,h⟩:=mpd h
   cases h
   obtain ⟨vs,s1,e1,p1,r1,n1⟩:=h0.s I k1
   obtain ⟨v,e2,r,n,hl⟩:=bf2_ok (Pv:=Pv) f r1 k2
   exact ⟨v,s1,by simp only [evR_blt,e1,Option.bind_some,e2],⟨p1,r,n⟩,fun k=>by rw [hl] at k; cases k⟩
 have hv:SV Γ cf cp (.blt f as):=fun I h=>let ⟨v,s,e,R,_⟩:=go I h; ⟨v,s,e,R⟩
 refine okv P hv ?_ rfl rfl (tOf_ok P hv rfl) rfl rfl rfl rfl rfl
 intro Pv md L LP st x L' I h
 obtain ⟨⟨y,Ly⟩,h1,h⟩:=bnd (show ((sem Γ cf (.blt f as)).v md L).bind (fun z=>if isLstOp z.1 then some z else none) = some (x,L') from h)
 split at h
 ·rename_i hk; cases h
  obtain ⟨v,s,e,R,F⟩:=go I h1
  exact ⟨v,s,e,R,F hk⟩
 ·cases h
theorem ok_isi {a:E} {ts:List Ty} (ha:Okf Γ cf cp a):Okf Γ cf cp (.isi a ts):=by
 have P:Pln cp (.isi a ts):=⟨fun _ _=>rfl,fun _ _=>rfl,fun _ _=>rfl⟩
 have hv:SV Γ cf cp (.isi a ts):=by
  intro Pv md L LP st x L' I h
  obtain ⟨⟨xa,La⟩,h1,h⟩:=bnd (show ((sem Γ cf a).r md L).bind _ = some (x,L') from h)
  obtain ⟨z,h2,h⟩:=mpd h
  cases h
  obtain ⟨va,s1,e1,p1,r1,n1,m1,c1⟩:=ha.r I h1
  exact ⟨.bl z,s1,by simp only [evR_bl,evR_isi,e1,Option.bind_some,isTys_ok r1 h2],p1,rfl,trivial⟩
 exact okv P hv (noF rfl) rfl rfl (tOf_ok P hv rfl) rfl rfl rfl rfl rfl
theorem ok_meth {f:MF} {o a:E} (ha:Okf Γ cf cp a):Okf Γ cf cp (.meth f o a):=by
 have P:Pln cp (.meth f o a):=⟨fun _ _=>rfl,fun _ _=>rfl,fun _ _=>rfl⟩
 have hv:SV Γ cf cp (.meth f o a):=by
  intro Pv md L LP st x L' I h
  have h:methS f (sem Γ cf o) (sem Γ cf a) md L = some (x,L'):=h
  unfold methS at h
  cases hn:(sem Γ cf o).nm with
  | none=>rw [hn] at h; cases h
  | some k =>
   rw [hn] at h
   have he:=nm_var hn
   subst he
   have h:(if mdAt md k = .own then
     match f with
     | .append=>((sem Γ cf a).v md L).bind fun y=>(lkF y.2 k).bind fun x=>(listF x).bind fun xs=>(mfunF .append xs y.1).map fun zs=>(FV.non,y.2.set k (some (.lst zs)))
     | .extend=>if (sem Γ cf a).nm = some k then none else ((sem Γ cf a).r md L).bind fun y=>(lkF y.2 k).bind fun x=>(listF x).bind fun xs=>(mfunF .extend xs y.1).map fun zs=>(FV.non,y.2.set k (some (.lst zs)))
    else none) = some (x,L'):=h
   split at h
   ·rename_i hm
    cases f with
    | append =>
     obtain ⟨⟨y,Ly⟩,h1,h⟩:=bnd (show ((sem Γ cf a).v md L).bind _ = some (x,L') from h)
     obtain ⟨w,h2,h⟩:=bnd h
     obtain ⟨xs,h3,h⟩:=bnd h
     obtain ⟨zs,h4,h⟩:=mpd h
     cases h
     obtain ⟨va,s1,e1,R1⟩:=ha.v I h1
     obtain ⟨w0,hw0⟩:=R1.p.dom k w h2
     obtain ⟨v0,e0,_⟩:=I.rc hw0
     have h4:(if xs.length < big then some (xs ++ [y]) else none) = some zs:=h4
     split at h4
     ·rename_i hc; cases h4
      obtain ⟨qv,_,_⟩:=R1.p.inv.rc h2
      have:∃ r ps,v0 = .ref r∧s1[r]? = some (.lst ps)∧Rds s1 ps xs∧RAs (Np Pv) ps∧Pst Pv md LP Ly s1 (Ly.set k (some (.lst (xs ++ [y])))) (s1.set r (.lst (ps ++ [va]))):=by
       obtain ⟨v',e,rv,_,kk⟩:=R1.p.inv.val k w h2
       obtain ⟨⟨r,rfl,hp⟩,zs,rfl⟩:=kk (by rw [hm]; simp)
       rw [e0] at e; cases e
       cases h3
       obtain ⟨l,ps,el,e2,r2⟩:=rv
       cases el
       obtain ⟨r',ps',er,e2',_,_,p⟩:=R1.p.inv.put (qs:=ps ++ [va]) (ys:=xs ++ [y]) hm h2 rfl e0 (fun r' ps' er e2' r2' n2'=>by cases er; rw [e2] at e2'; cases e2'; exact ⟨r2.append (.one R1.r),n2'.append ⟨R1.n,trivial⟩⟩)
       cases er
       exact ⟨r,ps,rfl,e2,r2,R1.p.inv.celN r ps e2,p⟩
      obtain ⟨r,ps,rfl,e2,r2,n2,p⟩:=this
      exact ⟨.non,_,by simp only [evR_non,evR_lst,evR_meth,ev_var e0,e1,Option.bind_some,mfun,e2]; rw [if_pos (by rw [r2.length]; exact hc)],R1.p.trans p,rfl,trivial⟩
     ·cases h4
    | extend =>
     have h:(if (sem Γ cf a).nm = some k then none else ((sem Γ cf a).r md L).bind fun y=>(lkF y.2 k).bind fun x=>(listF x).bind fun xs=>(mfunF .extend xs y.1).map fun zs=>(FV.non,y.2.set k (some (.lst zs)))) = some (x,L'):=h
     split at h
     ·cases h
     obtain ⟨⟨y,Ly⟩,h1,h⟩:=bnd h
     obtain ⟨w,h2,h⟩:=bnd h
     obtain ⟨xs,h3,h⟩:=bnd h
     obtain ⟨zs,h4,h⟩:=mpd h
     cases h
     obtain ⟨va,s1,e1,p1,r1,_,_,c1⟩:=ha.r I h1
     obtain ⟨w0,hw0⟩:=p1.dom k w h2
     obtain ⟨v0,e0,_⟩:=I.rc hw0
     have gen:∀ ys qs,Rds s1 qs ys→RAs (Np Pv) qs→xs.length + ys.length ≤ big→zs = xs ++ ys→(∀ r ps,s1[r]? = some (.lst ps)→ps.length + qs.length ≤ big→extV s1 r ps va = some (.non,s1.set r (.lst (ps ++ qs)))) →
       ∃ v st',ev cp (.meth .extend (.var k) a) LP st = some (v,st')∧Res Pv md LP L st (Ly.set k (some (.lst zs))) v st' .non:=by
      intro ys qs rq nq hc hz hx
      subst hz
      obtain ⟨v',e,rv,_,kk⟩:=p1.inv.val k w h2
      obtain ⟨⟨r,rfl,hp⟩,zs,rfl⟩:=kk (by rw [hm]; simp)
      rw [e0] at e; cases e
      cases h3
      obtain ⟨l,ps,el,e2,r2⟩:=rv
      cases el
      obtain ⟨r',ps',er,e2',_,_,p⟩:=p1.inv.put (qs:=ps ++ qs) (ys:=xs ++ ys) hm h2 rfl e0 (fun r' ps' er e2' r2' n2'=>by cases er; rw [e2] at e2'; cases e2'; exact ⟨r2.append rq,n2'.append nq⟩)
      cases er
      exact ⟨.non,_,by simp only [evR_var,evR_non,evR_lst,evR_meth,ev_var e0,e1,Option.bind_some,mfun,e2,hx r ps e2 (by rw [r2.length,rq.length]; exact hc)],p1.trans p,rfl,trivial⟩
     cases y with
     | tup ys =>
      have h4:(if xs.length + ys.length ≤ big then some (xs ++ ys) else none) = some zs:=h4
      split at h4
      ·rename_i hc
       obtain ⟨qs,rfl,rq⟩:=r1
       have nq:RAs (Np Pv) qs:=by
        rcases c1 with c | ⟨q,c⟩
        ·exact c
        ·cases c
       exact gen ys qs rq nq hc (Option.some.inj h4).symm fun r ps e hl=>by simp only [extV]; rw [if_pos hl]
      ·cases h4
     | lst ys =>
      have h4:(if xs.length + ys.length ≤ big then some (xs ++ ys) else none) = some zs:=h4
      split at h4
      ·rename_i hc
       obtain ⟨m,qs,rfl,em,rq⟩:=r1
       exact gen ys qs rq (p1.inv.celN m qs em) hc (Option.some.inj h4).symm fun r ps e hl=>by simp only [extV,em]; rw [if_pos hl]
      ·cases h4
     | _=>cases h4
   ·cases h
 exact okv P hv (noF rfl) rfl rfl (tOf_ok P hv rfl) rfl rfl rfl rfl rfl
end
end Kf
end
section
set_option linter.all false
set_option maxHeartbeats 1000000
namespace Kf
open Kw
section
variable {Γ:Nat→Bool×Bool} {cf:Nat→List FV→Option (FV×FV)} {cp:Nat→List PV→Sto→R PV}
theorem ok_rng {a:E} (ha:Okf Γ cf cp a):Okf Γ cf cp (.rng a):=by
 refine ok_wk rfl ?_
 intro Pv md L LP st x md' L' I h
 obtain ⟨⟨xa,La⟩,h1,h⟩:=bnd (show ((sem Γ cf a).v md L).bind _ = some (x,md',L') from h)
 obtain ⟨j,h2,h⟩:=bnd h
 obtain ⟨va,s1,e1,R1⟩:=ha.v I h1
 cases xa <;> first | (cases h2; done) | skip
 cases h2
 have:=R1.r
 cases (show va = _ from this)
 split at h
 ·rename_i hc; cases h
  exact ⟨_,[],s1,by simp only [evIR_rng,e1,Option.bind_some]; rw [if_pos hc],R1.p,.upto _ _,.upto _ _,.rfl,fun p hp=>by cases hp⟩
 ·cases h
theorem gd_read {Pv:Nat→Prop} {md md':Md} {L:FLoc} {LP:Loc} {st:Sto} {v:PV} {x:FV} {ps:List PV} {nm:Option Nat} (I:Ivt Pv md L LP st) (hf:Frz md md') (r:Rd st v x) (e:seqOf st v = some ps)
  (h1:∀ i,nm = some i→LP[i]? = some (some v)∧∃ y,lkF L i = some y) (h2:nm = none→RA (Np Pv) v) (h3:∀ i,nm = some i→mdAt md i ≠ .imm→mdAt md' i = .frz):Gds Pv md' LP L st (gdOf v ps):=by
 cases nm with
 | none=>exact .of e (h2 rfl) r.bound
 | some i =>
  obtain ⟨e1,y,hy⟩:=h1 i rfl
  obtain ⟨w,ew,rw',k1,k2⟩:=I.val i y hy
  rw [e1] at ew; cases ew
  by_cases hm:mdAt md i = .imm
  ·exact .of e (k1 hm) r.bound
  ·obtain ⟨⟨q,rfl,_⟩,_⟩:=k2 hm
   intro p hp
   simp [gdOf] at hp
   subst hp
   exact ⟨e,r.bound,.inr ⟨i,y,h3 i rfl hm,e1,hy⟩⟩
theorem Gds.app {Pv:Nat→Prop} {md':Md} {L:FLoc} {LP:Loc} {st:Sto} {a b:Gd} (ha:Gds Pv md' LP L st a) (hb:Gds Pv md' LP L st b):Gds Pv md' LP L st (a ++ b):=by
 intro p hp
 rcases List.mem_append.mp hp with z | z
 ·exact ha p z
 ·exact hb p z
theorem frz_keep {md:Md} {i:Nat} {o:Option Nat} (h:mdAt md i = .frz):mdAt (freeze md o) i = .frz:=by
 rcases freeze_frz md o i with e | ⟨e1,_⟩
 ·rw [e]; exact h
 ·rw [h] at e1; cases e1
theorem frz_at {md md':Md} {i:Nat} (h:mdAt md i ≠ .imm) (f:Frz md md'):mdAt (freeze md' (some i)) i = .frz:=freeze_at fun z=>h ((f.imm i).mp z)
theorem ok_zip {a b:E} (ha:Okf Γ cf cp a) (hb:Okf Γ cf cp b):Okf Γ cf cp (.zip a b):=by
 refine ok_wk rfl ?_
 intro Pv md L LP st x md' L' I h
 rw [sem_zip] at h
 obtain ⟨g,L1,s1,h,p1,R1⟩:=dfr_ok ha (fun _=>nm_var) I h
 obtain ⟨⟨xb,Lb⟩,h2,h⟩:=bnd h
 obtain ⟨x',h3,h⟩:=bnd h
 obtain ⟨xs,h4,h⟩:=bnd h
 obtain ⟨ys,h5,h⟩:=bnd h
 cases h
 obtain ⟨vb,s2,e2,p2,r2,n2,m2,c2⟩:=hb.r p1.inv h2
 obtain ⟨va,e1,r1,c1,n1,m1⟩:=R1 p2 h3
 obtain ⟨ps,e4,r4,n4⟩:=seq_of p2.inv r1 c1 h4
 obtain ⟨qs,e5,r5,n5⟩:=seq_of p2.inv r2 c2 h5
 have f1:=freeze_frz md (sem Γ cf a).nm
 have f2:=freeze_frz (freeze md (sem Γ cf a).nm) (sem Γ cf b).nm
 refine ⟨_,gdOf va ps ++ gdOf vb qs,s2,by simp only [evIR_zip,e1,e2,Option.bind_some,e4,e5],p1.trans p2,r4.zip r5,n4.zip n5,f1.trans f2,.app ?_ ?_⟩
 ·refine gd_read (nm:=(sem Γ cf a).nm) p2.inv (f1.trans f2) r1 e4 n1 m1 (fun i hi hm=>?_)
  rw [hi]; exact frz_keep (freeze_at hm)
 ·refine gd_read (nm:=(sem Γ cf b).nm) p2.inv (f1.trans f2) r2 e5 (fun i hi=>⟨(n2 i hi).1,_,(n2 i hi).2⟩) m2 (fun i hi hm=>?_)
  rw [hi]; exact frz_at hm f1
theorem tgIn_ge {n:Nat} {tg:Tg} (h:tgGe n tg = true) {j:Nat} (k:tgIn tg j):n ≤ j:=by
 cases tg with
 | nm i=>cases (show j = i from k); simpa [tgGe] using h
 | tp is =>
  simp only [tgGe,List.all_eq_true,decide_eq_true_eq] at h
  exact h j k
theorem Gds.move {Pv:Nat→Prop} {md:Md} {L L':FLoc} {LP:Loc} {st st':Sto} {gs:Gd} (g:Gds Pv md LP L st gs) (I:Ivt Pv md L LP st) (le:st.length ≤ st'.length) (same:∀ r,r < st.length→NotOwn md L LP r→st'[r]? = st[r]?)
  (fz:∀ i x,mdAt md i = .frz→lkF L i = some x→∃ y,lkF L' i = some y):Gds Pv md LP L' st' gs:=by
 intro p hp
 obtain ⟨e1,e2,e3⟩:=g p hp
 refine ⟨?_,Nat.lt_of_lt_of_le e2 le,?_⟩
 ·simp only [listOf,same p.1 e2 (g.notOwn I hp)]; exact e1
 ·rcases e3 with e3 | ⟨i,x,h1,h2,h3⟩
  ·exact .inl e3
  ·obtain ⟨y,hy⟩:=fz i x h1 h3
   exact .inr ⟨i,y,h1,h2,hy⟩
theorem Ivt.take {Pv:Nat→Prop} {md:Md} {L:FLoc} {LP LP':Loc} {st:Sto} {n:Nat} (I:Ivt Pv md L LP' st) (hl:LP.length = n) (hn:n ≤ L.length) (h:∀ j,j < n→LP'[j]? = LP[j]?):Ivt Pv md (L.take n) LP st:=by
 have hd:∀ {i x},lkF (L.take n) i = some x→i < n∧lkF L i = some x:=fun {i x} h=>by
  rw [lkF_take] at h
  split at h
  ·rename_i c; exact ⟨c,h⟩
  ·cases h
 refine ⟨by rw [List.length_take,hl]; omega,fun i x hx=>?_,fun i j r x y hij hi hj hx hy e=>?_,I.cel,I.pvl⟩
 ·obtain ⟨h1,h2⟩:=hd hx
  rw [← h i h1]; exact I.val i x h2
 ·obtain ⟨h1,h2⟩:=hd hx
  obtain ⟨h3,h4⟩:=hd hy
  rw [← h i h1] at e; rw [← h j h3]
  exact I.dis i j r x y hij hi hj h2 h4 e
theorem comp_ok {tg:Tg} {n m:Nat} {ifs el:E} (hi:Okf Γ cf cp ifs) (he:Okf Γ cf cp el) (hg:tgGe n tg = true) {Pv:Nat→Prop} {md:Md} {LP:Loc} {gs:Gd} :
  ∀ {xs:List FV} {ps:List PV} {L:FLoc} {st:Sto} {ys:List FV} {L':FLoc},Ivt Pv md L LP st→Rds st ps xs→RAs (Np Pv) ps→Gds Pv md LP L st gs→L.length = n→compF tg md n m (sem Γ cf ifs).ts (sem Γ cf el).v xs L = some (ys,L') →
  ∃ vs st',compItems tg gs (fun L1 s1=>evTs cp ifs L1 s1) (fun L1 s1=>ev cp el L1 s1) (LP ++ List.replicate m none) ps st = some (vs,st')∧Pst Pv md LP L st L' st'∧Rds st' vs ys∧RAs (Np Pv) vs
 | [],ps,L,st,ys,L',I,r,nn,g,hl,h=>by
  cases (show ps = [] from r)
  cases h
  exact ⟨[],st,by simp only [compItems,g.ok,if_true],.refl I,rfl,trivial⟩
 | x :: xs,ps,L,st,ys,L',I,r,nn,g,hl,h=>by
  obtain ⟨p,q,rfl,r1,r2⟩:=r
  have hLP:LP.length = n:=by rw [← I.len]; exact hl
  obtain ⟨La,h1,h⟩:=bnd (show (asgF md tg x (L ++ List.replicate m none)).bind _ = some (ys,L') from h)
  obtain ⟨LPa,e1,Ia,ka,kb,la⟩:=asg_ok (I.more m) r1 nn.1 h1
  have hat:∀ j,j < n→LPa[j]? = LP[j]?∧lkF La j = lkF L j:=fun j hj=>by
   obtain ⟨k1,k2⟩:=ka j (fun z=>by have:=tgIn_ge hg z; omega)
   rw [k1,k2,List.getElem?_append_left (by rw [hLP]; exact hj),lkF_app,if_pos (by rw [hl]; exact hj)]
   exact ⟨rfl,rfl⟩
  have hown:∀ i y,mdAt md i ≠ .imm→lkF La i = some y→i < n:=fun i y hm hy=>by
   by_cases ht:tgIn tg i
   ·exact absurd (kb i ht) hm
   ·rw [(ka i ht).2,lkF_app] at hy
    split at hy
    ·rename_i c; rw [hl] at c; exact c
    ·rw [lkF_rep] at hy; cases hy
  obtain ⟨⟨b,Lb⟩,h2,h⟩:=bnd h
  obtain ⟨s1,e2,p2⟩:=hi.ts Ia h2
  have down:∀ {Lz:FLoc} {sz:Sto},Pst Pv md LPa La st Lz sz→Pst Pv md LP L st (Lz.take n) sz:=fun {Lz sz} p=>by
   have lz:n ≤ Lz.length:=by
    have:La.length = L.length + m:=by rw [la,List.length_append,List.length_replicate]
    have h1:=p.inv.len
    have h2:=Ia.len
    omega
   refine ⟨p.inv.take hLP lz fun j hj=>(hat j hj).1,p.le,fun r hr k=>p.same r hr fun i y hm hy=>?_,fun i y hy=>?_,fun i y hy=>?_⟩
   ·have hin:=hown i y (by rw [hm]; simp) hy
    rw [(hat i hin).1]
    exact k i y hm (by rw [← (hat i hin).2]; exact hy)
   ·rw [lkF_take] at hy
    split at hy
    ·rename_i c
     obtain ⟨z,hz⟩:=p.dom i y hy
     exact ⟨z,by rw [← (hat i c).2]; exact hz⟩
    ·cases hy
   ·have hin:i < n:=by have:=lkF_lt hy; omega
    obtain ⟨z,hz⟩:=p.fz i y (by rw [(hat i hin).2]; exact hy)
    exact ⟨z,by rw [lkF_take,if_pos hin]; exact hz⟩
  have step:∀ {Lz:FLoc} {sz:Sto} (p:Pst Pv md LPa La st Lz sz),(∀ i x,mdAt md i = .frz→lkF L i = some x→∃ y,lkF Lz i = some y)→Gds Pv md LP (Lz.take n) sz gs∧(Lz.take n).length = n:=fun {Lz sz} p hz=>by
   refine ⟨g.move I p.le (down p).same fun i x hm hx=>?_,?_⟩
   ·obtain ⟨y,hy⟩:=hz i x hm hx
    have:=lkF_lt hx
    exact ⟨y,by rw [lkF_take,if_pos (by omega)]; exact hy⟩
   ·have:=(down p).inv.len
    omega
  cases b with
  | false =>
   have h:compF tg md n m (sem Γ cf ifs).ts (sem Γ cf el).v xs (Lb.take n) = some (ys,L'):=h
   have pd:=down p2
   have hz:∀ i x,mdAt md i = .frz→lkF L i = some x→∃ y,lkF Lb i = some y:=fun i x hm hx=>by
    have:=lkF_lt hx
    obtain ⟨w,ew,_⟩:=I.val i x hx
    exact p2.fz i x (by rw [(hat i (by omega)).2]; exact hx)
   obtain ⟨g',l'⟩:=step p2 hz
   obtain ⟨vs,s2,e3,p3,r3,n3⟩:=comp_ok hi he hg pd.inv (pd.keeps I r2 nn.2) nn.2 g' l' h
   exact ⟨vs,s2,by simp only [compItems,g.ok,if_true,e1,Option.bind_some,e2,Bool.false_eq_true,if_false,e3],pd.trans p3,r3,n3⟩
  | true =>
   obtain ⟨⟨v,Lv⟩,h3,h⟩:=bnd (show ((sem Γ cf el).v md Lb).bind _ = some (ys,L') from h)
   obtain ⟨⟨vs,Ls⟩,h4,h⟩:=bnd h
   cases h
   obtain ⟨pv,s2,e3,R3⟩:=he.v p2.inv h3
   have pd:=down (p2.trans R3.p)
   have hz:∀ i x,mdAt md i = .frz→lkF L i = some x→∃ y,lkF Lv i = some y:=fun i x hm hx=>by
    have:=lkF_lt hx
    obtain ⟨y,hy⟩:=p2.fz i x (by rw [(hat i (by omega)).2]; exact hx)
    exact R3.p.fz i y hy
   obtain ⟨g',l'⟩:=step (p2.trans R3.p) hz
   obtain ⟨ws,s3,e4,p4,r4,n4⟩:=comp_ok hi he hg pd.inv (pd.keeps I r2 nn.2) nn.2 g' l' h4
   refine ⟨pv :: ws,s3,by simp only [compItems,g.ok,if_true,e1,Option.bind_some,e2,e3,e4],pd.trans p4,⟨_,_,rfl,p4.keep pd.inv R3.r R3.n,r4⟩,R3.n,n4⟩
theorem ok_comp {el:E} {tg:Tg} {n m:Nat} {it ifs:E} (h1:Okf Γ cf cp el) (h2:Okf Γ cf cp it) (h3:Okf Γ cf cp ifs):Okf Γ cf cp (.comp el tg n m it ifs):=by
 have P:Pln cp (.comp el tg n m it ifs):=⟨fun _ _=>rfl,fun _ _=>rfl,fun _ _=>rfl⟩
 have hf:SF Γ cf cp (.comp el tg n m it ifs):=by
  intro Pv md L LP st x L' I h
  obtain ⟨⟨xs,md',Li⟩,k1,h⟩:=bnd (show ((sem Γ cf it).i md L).bind _ = some (x,L') from h)
  obtain ⟨ps,gs,s1,e1,p1,r1,n1,fz,g1⟩:=h2.i I k1
  have h:(if Li.length = n∧tgGe n tg = true then (compF tg md' n m (sem Γ cf ifs).ts (sem Γ cf el).v xs Li).bind fun ys=>if ys.1.length ≤ big then some (FV.lst ys.1,ys.2) else none else none) = some (x,L'):=h
  split at h
  ·rename_i hc
   obtain ⟨⟨ys,Ly⟩,k2,h⟩:=bnd h
   obtain ⟨vs,s2,e2,p2,r2,n2⟩:=comp_ok h3 h1 hc.2 (p1.inv.frz fz) r1 n1 g1 hc.1 k2
   have p2:=p2.thaw fz
   split at h
   ·rename_i hb
    cases h
    obtain ⟨R,F⟩:=alloc_ok p2.inv r2 n2
    have hLP:LP.length = n:=by rw [← p1.inv.len]; exact hc.1
    refine ⟨_,_,?_,⟨(p1.trans p2).trans R.p,R.r,R.n⟩,F.mono (Nat.le_trans p1.le p2.le)⟩
    simp only [evR_comp,e1,Option.bind_some]
    rw [if_pos hLP,e2]
    simp only [Option.bind_some,alloc]
    rw [if_pos (by rw [r2.length]; exact hb)]
   ·cases h
  ·cases h
 have hv:SV Γ cf cp (.comp el tg n m it ifs):=fun I h=>let ⟨v,s,e,R,_⟩:=hf I h; ⟨v,s,e,R⟩
 exact okv P hv hf rfl rfl (tOf_ok P hv rfl) rfl rfl rfl rfl rfl
theorem ok_all (C:CallOk Γ cf cp):∀ e:E,Okf Γ cf cp e
 | .var i=>ok_var i
 | .int i=>ok_const (p:=.int i) rfl (fun _ _=>rfl) (fun _=>rfl) (fun _=>trivial) ⟨fun _ _=>rfl,fun _ _=>rfl,fun _ _=>rfl⟩
 | .bl i=>ok_const (p:=.bl i) rfl (fun _ _=>rfl) (fun _=>rfl) (fun _=>trivial) ⟨fun _ _=>rfl,fun _ _=>rfl,fun _ _=>rfl⟩
 | .non=>ok_const (p:=.non) rfl (fun _ _=>rfl) (fun _=>rfl) (fun _=>trivial) ⟨fun _ _=>rfl,fun _ _=>rfl,fun _ _=>rfl⟩
 | .str i=>ok_const (p:=.str i) rfl (fun _ _=>rfl) (fun _=>rfl) (fun _=>trivial) ⟨fun _ _=>rfl,fun _ _=>rfl,fun _ _=>rfl⟩
 | .bin _ a b=>ok_bin (ok_all C a) (ok_all C b)
 | .cmp _ a b=>ok_cmp (ok_all C a) (ok_all C b)
 | .is _ a _=>ok_is (ok_all C a)
 | .chain _ _ a b c=>ok_chain (ok_all C a) (ok_all C b) (ok_all C c)
 | .and a b=>ok_and (ok_all C a) (ok_all C b)
 | .or a b=>ok_or (ok_all C a) (ok_all C b)
 | .not a=>ok_not (ok_all C a)
 | .neg a=>ok_neg (ok_all C a)
 | .ite c a b=>ok_ite (ok_all C c) (ok_all C a) (ok_all C b)
 | .tup es=>ok_tup (ok_all C es)
 | .lst es=>ok_lst (ok_all C es)
 | .nil=>ok_nil
 | .cons e es=>ok_cons (ok_all C e) (ok_all C es)
 | .ix a i=>ok_ix (ok_all C a) (ok_all C i)
 | .sl a l h=>ok_sl (ok_all C a) (ok_all C l) (ok_all C h)
 | .none=>ok_none
 | .turn a=>ok_turn (ok_all C a)
 | .call _ as=>ok_call C (ok_all C as)
 | .blt f as=>by
  cases as with
  | cons a es=>exact ok_blt (ok_cons (ok_all C a) (ok_all C es)) fun a' h=>by cases h; exact (ok_all C a).r
  | _=>exact ok_blt (ok_all C _) fun a h=>by cases h
 | .isi a _=>ok_isi (ok_all C a)
 | .meth _ _ a=>ok_meth (ok_all C a)
 | .comp el _ _ _ it ifs=>ok_comp (ok_all C el) (ok_all C it) (ok_all C ifs)
 | .rng a=>ok_rng (ok_all C a)
 | .rng2 _ _=>ok_no rfl
 | .zip a b=>ok_zip (ok_all C a) (ok_all C b)
 | .enum _=>ok_no rfl
 | .revr _=>ok_no rfl
 | .rev _=>ok_no rfl
end
end Kf
end
section
set_option linter.all false
set_option maxHeartbeats 1000000
namespace Kf
open Kw
structure PS (Pv:Nat→Prop) (md:Md) (LP:Loc) (L:FLoc) (st:Sto) (Pv':Nat→Prop) (LP':Loc) (L':FLoc) (st':Sto):Prop where
 inv:Ivt Pv' md L' LP' st'
 le:st.length ≤ st'.length
 ext:∀ r,Pv r→Pv' r
 new:∀ r,Pv' r→Pv r ∨ st.length ≤ r
 same:∀ r,r < st.length→NotOwn md L LP r→st'[r]? = st[r]?
 own:∀ i x r,mdAt md i = .own→lkF L' i = some x→LP'[i]? = some (some (.ref r))→st.length ≤ r ∨ ∃ j y,mdAt md j = .own∧lkF L j = some y∧LP[j]? = some (some (.ref r))
 fz:∀ i x,mdAt md i = .frz→lkF L i = some x→LP'[i]? = LP[i]?∧∃ y,lkF L' i = some y
 fd:∀ i x,mdAt md i = .frz→lkF L' i = some x→∃ y,lkF L i = some y
 z0:∀ x,mdAt md 0 = .own→lkF L 0 = some x→LP'[0]? = LP[0]?∧∃ y,lkF L' 0 = some y
section
variable {Pv Pv1 Pv2:Nat→Prop} {md md':Md} {L L1 L2:FLoc} {LP LP1 LP2:Loc} {st st1 st2:Sto}
theorem PS.of (p:Pst Pv md LP L st L1 st1):PS Pv md LP L st Pv LP L1 st1 :=
 ⟨p.inv,p.le,fun _ h=>h,fun _ h=>.inl h,p.same,fun i x r hm hx e=>let ⟨y,hy⟩:=p.dom i x hx; .inr ⟨i,y,hm,hy,e⟩,fun i x _ hx=>⟨rfl,p.fz i x hx⟩,fun i x _ hx=>p.dom i x hx,fun x _ hx=>⟨rfl,p.fz 0 x hx⟩⟩
theorem PS.trans (a:PS Pv md LP L st Pv1 LP1 L1 st1) (b:PS Pv1 md LP1 L1 st1 Pv2 LP2 L2 st2):PS Pv md LP L st Pv2 LP2 L2 st2:=by
 refine ⟨b.inv,Nat.le_trans a.le b.le,fun r h=>b.ext r (a.ext r h),fun r h=>?_,fun r hr k=>?_,fun i x r hm hx e=>?_,fun i x hm hx=>?_,fun i x hm hx=>?_,fun x hm hx=>?_⟩
 ·rcases b.new r h with h | h
  ·exact a.new r h
  ·exact .inr (Nat.le_trans a.le h)
 ·refine (b.same r (Nat.lt_of_lt_of_le hr a.le) fun i x hm hx e=>?_).trans (a.same r hr k)
  rcases a.own i x r hm hx e with h | ⟨j,y,h1,h2,h3⟩
  ·omega
  ·exact k j y h1 h2 h3
 ·rcases b.own i x r hm hx e with h | ⟨j,y,h1,h2,h3⟩
  ·exact .inl (Nat.le_trans a.le h)
  ·exact a.own j y r h1 h2 h3
 ·obtain ⟨e1,y,hy⟩:=a.fz i x hm hx
  obtain ⟨e2,z,hz⟩:=b.fz i y hm hy
  exact ⟨e2.trans e1,z,hz⟩
 ·obtain ⟨y,hy⟩:=b.fd i x hm hx
  exact a.fd i y hm hy
 ·obtain ⟨e1,y,hy⟩:=a.z0 x hm hx
  obtain ⟨e2,z,hz⟩:=b.z0 y hm hy
  exact ⟨e2.trans e1,z,hz⟩
theorem Frz.fz {md md':Md} (h:Frz md md') {i:Nat} (k:mdAt md i = .frz):mdAt md' i = .frz:=by
 rcases h i with e | ⟨e1,_⟩
 ·rw [e]; exact k
 ·rw [k] at e1; cases e1
theorem PS.thaw (p:PS Pv md' LP L st Pv1 LP1 L1 st1) (h:Frz md md'):PS Pv md LP L st Pv1 LP1 L1 st1:=by
 refine ⟨p.inv.thaw h,p.le,p.ext,p.new,fun r hr k=>p.same r hr fun i x hm hx=>k i x (h.own hm) hx,fun i x r hm hx e=>?_,fun i x hm hx=>p.fz i x (h.fz hm) hx,fun i x hm hx=>p.fd i x (h.fz hm) hx,fun x hm hx=>?_⟩
 ·rcases h i with q | ⟨_,q⟩
  ·rcases p.own i x r (by rw [q]; exact hm) hx e with z | ⟨j,y,h1,h2,h3⟩
   ·exact .inl z
   ·exact .inr ⟨j,y,h.own h1,h2,h3⟩
  ·obtain ⟨y,hy⟩:=p.fd i x q hx
   obtain ⟨e1,_⟩:=p.fz i y q hy
   exact .inr ⟨i,y,hm,hy,by rw [← e1]; exact e⟩
 ·rcases h 0 with q | ⟨_,q⟩
  ·exact p.z0 x (by rw [q]; exact hm) hx
  ·exact p.fz 0 x q hx
theorem asg_ps (I:Ivt Pv md L LP st) {tg:Tg} {x:FV} {v:PV} {L':FLoc} (r:Rd st v x) (n:RA (Np Pv) v) (e:asgF md tg x L = some L'):∃ LP',asgT tg v LP st = some LP'∧PS Pv md LP L st Pv LP' L' st:=by
 obtain ⟨LP',e1,Ia,ka,kb,la⟩:=asg_ok I r n e
 have nt:∀ i,mdAt md i ≠ .imm→LP'[i]? = LP[i]?∧lkF L' i = lkF L i:=fun i hm=>ka i fun z=>hm (kb i z)
 refine ⟨LP',e1,Ia,Nat.le_refl _,fun _ h=>h,fun _ h=>.inl h,fun _ _ _=>rfl,fun i x r hm hx e=>?_,fun i x hm hx=>?_,fun i x hm hx=>?_,fun x hm hx=>?_⟩
 ·obtain ⟨k1,k2⟩:=nt i (by rw [hm]; simp)
  exact .inr ⟨i,x,hm,by rw [← k2]; exact hx,by rw [← k1]; exact e⟩
 ·obtain ⟨k1,k2⟩:=nt i (by rw [hm]; simp)
  exact ⟨k1,x,by rw [k2]; exact hx⟩
 ·obtain ⟨k1,k2⟩:=nt i (by rw [hm]; simp)
  exact ⟨x,by rw [← k2]; exact hx⟩
 ·obtain ⟨k1,k2⟩:=nt 0 (by rw [hm]; simp)
  exact ⟨k1,x,by rw [k2]; exact hx⟩
theorem imm_ps (I:Ivt Pv md L LP st) {i:Nat} {x:FV} {v:PV} (hm:mdAt md i = .imm) (r:Rd st v x) (n:RA (Np Pv) v):PS Pv md LP L st Pv (LP.set i (some v)) (L.set i (some x)) st:=by
 obtain ⟨LP',e,p⟩:=asg_ps (tg:=.nm i) I r n (show (if mdAt md i = .imm then some (L.set i (some x)) else none) = some (L.set i (some x)) by rw [if_pos hm])
 cases e; exact p
theorem own_ps (I0:Ivt Pv md L LP st) (p:Pst Pv md LP L st L1 st1) {i:Nat} {x:FV} {v:PV} (hm:mdAt md i = .own) (h0:i ≠ 0) (r:Rd st1 v x) (n:RA (Np Pv) v) (F:Fsh st.length v st1) :
  ∃ Pv',PS Pv md LP L st Pv' (LP.set i (some v)) (L1.set i (some x)) st1:=by
 obtain ⟨q,rfl,hq,hq',hc⟩:=F
 have hx:∃ xs,x = .lst xs:=by
  cases x with
  | lst xs=>exact ⟨xs,rfl⟩
  | tup xs=>obtain ⟨_,z,_⟩:=r; cases z
  | _=>cases (show PV.ref q = _ from r)
 have old:∀ j y,lkF L1 j = some y→∃ w,LP[j]? = some (some w)∧RA (· < st.length) w:=fun j y hy=>by
  obtain ⟨z,hz⟩:=p.dom j y hy
  obtain ⟨w,ew,rw',_⟩:=I0.val j z hz
  exact ⟨w,ew,rw'.bound⟩
 have hd:∀ {j y},lkF (L1.set i (some x)) j = some y→(i = j∧i < L1.length∧y = x) ∨ (i ≠ j∧lkF L1 j = some y):=fun {j y} h=>by
  have hl:=lkF_lt h
  rw [List.length_set] at hl
  rw [lkF_set] at h
  by_cases hij:i = j
  ·subst hij; rw [if_pos ⟨rfl,hl⟩] at h; cases h; exact .inl ⟨rfl,hl,rfl⟩
  ·rw [if_neg (fun z=>hij z.1)] at h; exact .inr ⟨hij,h⟩
 refine ⟨fun a=>Pv a ∨ a = q,⟨?_,fun j y hy=>?_,fun a b t y z hab ha hb hy hz e=>?_,fun l ps e=>?_,fun a ha=>?_⟩,p.le,fun a h=>.inl h,fun a h=>?_,p.same,fun j y t hmj hy e=>?_,fun j y hmj hy=>?_,fun j y hmj hy=>?_,fun y hm0 hy=>?_⟩
 ·rw [List.length_set,List.length_set]; exact p.inv.len
 ·rcases hd hy with ⟨rfl,hl,rfl⟩ | ⟨hij,hy⟩
  ·exact ⟨_,List.getElem?_set_self (by rw [← p.inv.len]; exact hl),r,fun z=>(by rw [hm] at z; cases z),fun _=>⟨⟨q,rfl,.inr rfl⟩,hx⟩⟩
  ·rw [List.getElem?_set_ne hij]
   obtain ⟨w,ew,rw',k1,k2⟩:=p.inv.val j y hy
   obtain ⟨w',ew',bw⟩:=old j y hy
   rw [ew] at ew'; cases ew'
   refine ⟨w,ew,rw',fun z=>((k1 z).and bw).mono fun a ha=>?_,fun z=>?_⟩
   ·rintro (h | h)
    ·exact ha.1 h
    ·subst h; exact Nat.lt_irrefl _ (Nat.lt_of_lt_of_le ha.2 hq)
   ·obtain ⟨⟨t,e1,hp⟩,e2⟩:=k2 z
    exact ⟨⟨t,e1,.inl hp⟩,e2⟩
 ·have one:∀ {c w},mdAt md c ≠ .imm→lkF (L1.set i (some x)) c = some w→i ≠ c→lkF L1 c = some w:=fun {c w} _ h hne=>by
   rcases hd h with ⟨h1,_⟩ | ⟨_,h2⟩
   ·exact absurd h1 hne
   ·exact h2
  have sm:∀ c w t,mdAt md c ≠ .imm→lkF (L1.set i (some x)) c = some w→i ≠ c→LP[c]? = some (some (.ref t))→t ≠ q:=fun c w t hc' hw hne e=>by
   obtain ⟨w',ew',bw⟩:=old c w (one hc' hw hne)
   rw [e] at ew'; cases ew'
   have:t < st.length:=bw
   omega
  by_cases hia:i = a
  ·subst hia
   rcases hd hy with ⟨_,hl,_⟩ | ⟨h,_⟩
   ·rw [List.getElem?_set_self (by rw [← p.inv.len]; exact hl)] at e
    cases e
    rw [List.getElem?_set_ne hab]
    intro z'
    exact sm b z q hb hz hab z' rfl
   ·exact absurd rfl h
  ·rw [List.getElem?_set_ne hia] at e
   by_cases hib:i = b
   ·subst hib
    rcases hd hz with ⟨_,hl,_⟩ | ⟨h,_⟩
    ·rw [List.getElem?_set_self (by rw [← p.inv.len]; exact hl)]
     intro z'
     cases z'
     exact sm a y _ ha hy hia e rfl
    ·exact absurd rfl h
   ·rw [List.getElem?_set_ne hib]
    exact p.inv.dis a b t y z hab ha hb (one ha hy hia) (one hb hz hib) e
 ·refine ((p.inv.cel l ps e).and (hc l ps e)).mono fun a ha=>⟨ha.1.1,?_⟩
  rintro (h | h)
  ·exact ha.1.2 h
  ·exact ha.2 h
 ·rcases ha with h | h
  ·exact p.inv.pvl a h
  ·subst h; exact hq'
 ·rcases h with h | h
  ·exact .inl h
  ·subst h; exact .inr hq
 ·rcases hd hy with ⟨rfl,hl,_⟩ | ⟨hij,hy⟩
  ·rw [List.getElem?_set_self (by rw [← p.inv.len]; exact hl)] at e; cases e; exact .inl hq
  ·rw [List.getElem?_set_ne hij] at e
   obtain ⟨z,hz⟩:=p.dom j y hy
   exact .inr ⟨j,z,hmj,hz,e⟩
 ·have hij:i ≠ j:=fun z=>by subst z; rw [hm] at hmj; cases hmj
  obtain ⟨z,hz⟩:=p.fz j y hy
  exact ⟨List.getElem?_set_ne hij,z,by rw [lkF_set,if_neg (fun c=>hij c.1)]; exact hz⟩
 ·rcases hd hy with ⟨rfl,_,_⟩ | ⟨hij,hy⟩
  ·rw [hm] at hmj; cases hmj
  ·exact p.dom j y hy
 ·obtain ⟨z,hz⟩:=p.fz 0 y hy
  exact ⟨List.getElem?_set_ne h0,z,by rw [lkF_set,if_neg (fun c=>h0 c.1)]; exact hz⟩
end
noncomputable def FlOk (fr:Bool) (md:Md) (n0:Nat) (Pv':Nat→Prop) (L':FLoc) (LP':Loc) (st':Sto):FFl→Fl→Prop
 | .next,.next=>True
 | .brk,.brk=>True
 | .cont,.cont=>True
 | .ret x,.ret v=>Rd st' v x∧(fr = false→RA (Np Pv') v)∧(fr = true→(Fsh n0 v st'∧RA (Np Pv') v) ∨ ∃ i,i ≠ 0∧mdAt md i = .own∧lkF L' i = some x∧LP'[i]? = some (some v))
 | _,_=>False
theorem FlOk.mono {fr:Bool} {md md':Md} {n0 n1:Nat} {Pv':Nat→Prop} {L':FLoc} {LP':Loc} {st':Sto} {a:FFl} {b:Fl} (h:n1 ≤ n0) (hf:Frz md md') (k:FlOk fr md' n0 Pv' L' LP' st' a b):FlOk fr md n1 Pv' L' LP' st' a b:=by
 cases a <;> cases b <;> first | exact k | skip
 obtain ⟨k1,k2,k3⟩:=k
 refine ⟨k1,k2,fun z=>?_⟩
 rcases k3 z with ⟨F,n⟩ | ⟨i,h0,hm,hx,e⟩
 ·exact .inl ⟨F.mono h,n⟩
 ·exact .inr ⟨i,h0,hf.own hm,hx,e⟩
section
variable (Γ:Nat→Bool×Bool) (cf:Nat→List FV→Option (FV×FV)) (cp:Nat→List PV→Sto→R PV)
noncomputable def SX (fr:Bool) (s:S):Prop:=∀ ⦃Pv md L LP st fl L'⦄,Ivt Pv md L LP st→exF Γ cf fr s md L = some (fl,L')→∃ flP LP' st' Pv',ex cp s LP st = some (flP,LP',st')∧PS Pv md LP L st Pv' LP' L' st'∧FlOk fr md st.length Pv' L' LP' st' fl flP
end
section
variable {Γ:Nat→Bool×Bool} {cf:Nat→List FV→Option (FV×FV)} {cp:Nat→List PV→Sto→R PV} {fr:Bool}
theorem Gds.step {Pv Pv1:Nat→Prop} {md:Md} {L L1:FLoc} {LP LP1:Loc} {st st1:Sto} {gs:Gd} (g:Gds Pv md LP L st gs) (I:Ivt Pv md L LP st) (p:PS Pv md LP L st Pv1 LP1 L1 st1):Gds Pv1 md LP1 L1 st1 gs:=by
 intro a ha
 obtain ⟨e1,e2,e3⟩:=g a ha
 refine ⟨?_,Nat.lt_of_lt_of_le e2 p.le,?_⟩
 ·simp only [listOf,p.same a.1 e2 (g.notOwn I ha)]; exact e1
 ·rcases e3 with e3 | ⟨i,x,h1,h2,h3⟩
  ·left
   intro z
   rcases p.new _ z with z | z
   ·exact e3 z
   ·omega
  ·obtain ⟨q1,y,hy⟩:=p.fz i x h1 h3
   exact .inr ⟨i,y,h1,by rw [q1]; exact h2,hy⟩
theorem PS.keeps {Pv Pv1:Nat→Prop} {md:Md} {L L1:FLoc} {LP LP1:Loc} {st st1:Sto} (p:PS Pv md LP L st Pv1 LP1 L1 st1) (I:Ivt Pv md L LP st) {xs:List FV} {ps:List PV} (r:Rds st ps xs) (n:RAs (Np Pv) ps):Rds st1 ps xs∧RAs (Np Pv1) ps :=
 ⟨keeps0 (G:=Np Pv) (fun l ps _ e=>I.celN l ps e) (fun l hl hlt=>p.same l hlt (I.notOwn hl)) xs ps r n,(n.and r.bound).mono fun a ha z=>by
  rcases p.new a z with z | z
  ·exact ha.1 z
  ·exact absurd ha.2 (by omega)⟩
theorem for_ok {b:S} (hb:SX Γ cf cp fr b) {tg:Tg} {md:Md} {gs:Gd}:∀ {xs:List FV} {ps:List PV} {Pv:Nat→Prop} {L:FLoc} {LP:Loc} {st:Sto} {fl:FFl} {L':FLoc},Ivt Pv md L LP st→Rds st ps xs→RAs (Np Pv) ps→Gds Pv md LP L st gs →
  forF tg md (fun md L=>exF Γ cf fr b md L) xs L = some (fl,L') →
  ∃ flP LP' st' Pv',forItems tg gs (fun L1 s1=>ex cp b L1 s1) ps LP st = some (flP,LP',st')∧PS Pv md LP L st Pv' LP' L' st'∧FlOk fr md st.length Pv' L' LP' st' fl flP
 | [],ps,Pv,L,LP,st,fl,L',I,r,n,g,h=>by
  cases (show ps = [] from r)
  cases h
  exact ⟨.next,LP,st,Pv,by simp only [forItems,g.ok,if_true],.of (.refl I),trivial⟩
 | x :: xs,ps,Pv,L,LP,st,fl,L',I,r,n,g,h=>by
  obtain ⟨p,q,rfl,r1,r2⟩:=r
  obtain ⟨La,h1,h⟩:=bnd (show (asgF md tg x L).bind _ = some (fl,L') from h)
  obtain ⟨LPa,e1,pa⟩:=asg_ps I r1 n.1 h1
  obtain ⟨⟨f1,Lb⟩,h2,h⟩:=bnd h
  obtain ⟨g1,LPb,s1,Pv1,e2,pb,k⟩:=hb pa.inv h2
  have pab:=pa.trans pb
  have go:∀ {f:FFl},forF tg md (fun md L=>exF Γ cf fr b md L) xs Lb = some (fl,L')→(g1 = .next ∨ g1 = .cont) →
    ∃ flP LP' st' Pv',forItems tg gs (fun L1 s1=>ex cp b L1 s1) (p :: q) LP st = some (flP,LP',st')∧PS Pv md LP L st Pv' LP' L' st'∧FlOk fr md st.length Pv' L' LP' st' fl flP:=by
   intro f h hg
   obtain ⟨r3,n3⟩:=pab.keeps I r2 n.2
   obtain ⟨g2,LPc,s2,Pv2,e3,pc,k2⟩:=for_ok hb pab.inv r3 n3 (g.step I pab) h
   refine ⟨g2,LPc,s2,Pv2,?_,pab.trans pc,k2.mono pab.le .rfl⟩
   rcases hg with rfl | rfl <;> simp only [forItems,g.ok,if_true,e1,Option.bind_some,e2,e3]
  cases f1 with
  | next=>cases g1 <;> first | exact k.elim | exact go (f:=.next) h (.inl rfl)
  | cont=>cases g1 <;> first | exact k.elim | exact go (f:=.next) h (.inr rfl)
  | brk =>
   cases g1 <;> first | exact k.elim | skip
   cases h
   exact ⟨.next,LPb,s1,Pv1,by simp only [forItems,g.ok,if_true,e1,Option.bind_some,e2],pab,trivial⟩
  | ret v =>
   cases g1 <;> first | exact k.elim | skip
   rename_i w
   cases h
   exact ⟨.ret w,LPb,s1,Pv1,by simp only [forItems,g.ok,if_true,e1,Option.bind_some,e2],pab,k.mono (Nat.le_refl _) .rfl⟩
theorem while_ok {c:E} {b:S} (hc:Okf Γ cf cp c) (hb:SX Γ cf cp fr b) {md:Md}:∀ {n:Nat} {Pv:Nat→Prop} {L:FLoc} {LP:Loc} {st:Sto} {fl:FFl} {L':FLoc},Ivt Pv md L LP st →
  whileF (sem Γ cf c).t (fun md L=>exF Γ cf fr b md L) md n L = some (fl,L') →
  ∃ flP LP' st' Pv',whileN (fun L1 s1=>evT cp c L1 s1) (fun L1 s1=>ex cp b L1 s1) n LP st = some (flP,LP',st')∧PS Pv md LP L st Pv' LP' L' st'∧FlOk fr md st.length Pv' L' LP' st' fl flP
 | 0,Pv,L,LP,st,fl,L',I,h=>by cases h
 | n + 1,Pv,L,LP,st,fl,L',I,h=>by
  obtain ⟨⟨t,La⟩,h1,h⟩:=bnd (show ((sem Γ cf c).t md L).bind _ = some (fl,L') from h)
  obtain ⟨s0,e1,p0⟩:=hc.t I h1
  have p0:=PS.of p0
  cases t with
  | false=>cases h; exact ⟨.next,LP,s0,Pv,by simp only [whileN,e1,Option.bind_some]; rfl,p0,trivial⟩
  | true =>
   obtain ⟨⟨f1,Lb⟩,h2,h⟩:=bnd (show (exF Γ cf fr b md La).bind _ = some (fl,L') from h)
   obtain ⟨g1,LPb,s1,Pv1,e2,pb,k⟩:=hb p0.inv h2
   have pab:=p0.trans pb
   have go:whileF (sem Γ cf c).t (fun md L=>exF Γ cf fr b md L) md n Lb = some (fl,L')→(g1 = .next ∨ g1 = .cont) →
     ∃ flP LP' st' Pv',whileN (fun L1 s1=>evT cp c L1 s1) (fun L1 s1=>ex cp b L1 s1) (n + 1) LP st = some (flP,LP',st')∧PS Pv md LP L st Pv' LP' L' st'∧FlOk fr md st.length Pv' L' LP' st' fl flP:=by
    intro h hg
    obtain ⟨g2,LPc,s2,Pv2,e3,pc,k2⟩:=while_ok hc hb pab.inv h
    refine ⟨g2,LPc,s2,Pv2,?_,pab.trans pc,k2.mono pab.le .rfl⟩
    rcases hg with rfl | rfl <;> simp only [whileN,e1,Option.bind_some,if_true,e2,e3]
   cases f1 with
   | next=>cases g1 <;> first | exact k.elim | exact go h (.inl rfl)
   | cont=>cases g1 <;> first | exact k.elim | exact go h (.inr rfl)
   | brk =>
    cases g1 <;> first | exact k.elim | skip
    cases h
    exact ⟨.next,LPb,s1,Pv1,by simp only [whileN,e1,Option.bind_some,if_true,e2],pab,trivial⟩
   | ret v =>
    cases g1 <;> first | exact k.elim | skip
    rename_i w
    cases h
    exact ⟨.ret w,LPb,s1,Pv1,by simp only [whileN,e1,Option.bind_some,if_true,e2],pab,k.mono p0.le .rfl⟩
end
end Kf
end
section
set_option linter.all false
set_option maxHeartbeats 1000000
namespace Kf
open Kw
section
variable {Γ:Nat→Bool×Bool} {cf:Nat→List FV→Option (FV×FV)} {cp:Nat→List PV→Sto→R PV} {fr:Bool}
theorem sx_all (C:CallOk Γ cf cp):∀ s:S,SX Γ cf cp fr s
 | .nil=>by
  intro Pv md L LP st fl L' I h
  cases h
  exact ⟨.next,LP,st,Pv,by simp only [exR_nil],.of (.refl I),trivial⟩
 | .cons s r=>by
  intro Pv md L LP st fl L' I h
  obtain ⟨⟨f1,L1⟩,h1,h⟩:=bnd (show (exF Γ cf fr s md L).bind _ = some (fl,L') from h)
  obtain ⟨g1,LP1,s1,Pv1,e1,p1,k1⟩:=sx_all C s I h1
  cases f1 with
  | next =>
   cases g1 <;> first | exact k1.elim | skip
   obtain ⟨g2,LP2,s2,Pv2,e2,p2,k2⟩:=sx_all C r p1.inv (show exF Γ cf fr r md L1 = some (fl,L') from h)
   exact ⟨g2,LP2,s2,Pv2,by simp only [exR_cons,e1,Option.bind_some,e2],p1.trans p2,k2.mono p1.le .rfl⟩
  | brk =>
   cases g1 <;> first | exact k1.elim | skip
   cases h
   exact ⟨.brk,LP1,s1,Pv1,by simp only [exR_cons,e1,Option.bind_some],p1,trivial⟩
  | cont =>
   cases g1 <;> first | exact k1.elim | skip
   cases h
   exact ⟨.cont,LP1,s1,Pv1,by simp only [exR_cons,e1,Option.bind_some],p1,trivial⟩
  | ret v =>
   cases g1 <;> first | exact k1.elim | skip
   rename_i w
   cases h
   exact ⟨.ret w,LP1,s1,Pv1,by simp only [exR_cons,e1,Option.bind_some],p1,k1⟩
 | .asg (.nm i) e=>by
  intro Pv md L LP st fl L' I h
  have h:(match mdAt md i with
   | .imm=>((sem Γ cf e).v md L).map fun x=>(FFl.next,x.2.set i (some x.1))
   | .own=>if i = 0 then none else ((sem Γ cf e).f md L).map fun x=>(FFl.next,x.2.set i (some x.1))
   | .frz=>none) = some (fl,L'):=h
  cases hm:mdAt md i with
  | imm =>
   rw [hm] at h
   obtain ⟨⟨x,Lx⟩,h1,h⟩:=mpd h
   cases h
   obtain ⟨v,s1,e1,R⟩:=(ok_all C e).v I h1
   exact ⟨.next,LP.set i (some v),s1,Pv,by simp only [exR_asg,e1,Option.bind_some,asgT,Option.map_some],(PS.of R.p).trans (imm_ps R.p.inv hm R.r R.n),trivial⟩
  | own =>
   rw [hm] at h
   have h:(if i = 0 then none else ((sem Γ cf e).f md L).map fun x=>(FFl.next,x.2.set i (some x.1))) = some (fl,L'):=h
   split at h
   ·cases h
   ·rename_i h0
    obtain ⟨⟨x,Lx⟩,h1,h⟩:=mpd h
    cases h
    obtain ⟨v,s1,e1,R,F⟩:=(ok_all C e).f I h1
    obtain ⟨Pv',p⟩:=own_ps I R.p hm h0 R.r R.n F
    exact ⟨.next,LP.set i (some v),s1,Pv',by simp only [exR_asg,e1,Option.bind_some,asgT,Option.map_some],p,trivial⟩
  | frz=>rw [hm] at h; cases h
 | .asg (.tp is) e=>by
  intro Pv md L LP st fl L' I h
  obtain ⟨⟨x,Lx⟩,h1,h⟩:=bnd (show ((sem Γ cf e).v md L).bind _ = some (fl,L') from h)
  obtain ⟨La,h2,h⟩:=mpd h
  cases h
  obtain ⟨v,s1,e1,R⟩:=(ok_all C e).v I h1
  obtain ⟨LP',e2,p⟩:=asg_ps R.p.inv R.r R.n h2
  exact ⟨.next,LP',s1,Pv,by simp only [exR_asg,e1,Option.bind_some,e2,Option.map_some],(PS.of R.p).trans p,trivial⟩
 | .setix o i e=>by
  intro Pv md L LP st fl L' I h
  have h:(match (sem Γ cf o).nm with
   | some k=>if mdAt md k = .own then ((sem Γ cf e).v md L).bind fun x=>((sem Γ cf i).v md x.2).bind fun j=>(intF j.1).bind fun n=>(lkF j.2 k).bind fun y=>match y with
     | .lst xs=>(ixN xs.length n).map fun p=>(FFl.next,j.2.set k (some (.lst (xs.set p x.1))))
     | _=>none
    else none
   | none=>none) = some (fl,L'):=h
  cases hn:(sem Γ cf o).nm with
  | none=>rw [hn] at h; cases h
  | some k =>
   rw [hn] at h
   have he:=nm_var hn
   subst he
   have h:(if mdAt md k = .own then ((sem Γ cf e).v md L).bind fun x=>((sem Γ cf i).v md x.2).bind fun j=>(intF j.1).bind fun n=>(lkF j.2 k).bind fun y=>match y with
     | .lst xs=>(ixN xs.length n).map fun p=>(FFl.next,j.2.set k (some (.lst (xs.set p x.1))))
     | _=>none
    else none) = some (fl,L'):=h
   split at h
   ·rename_i hm
    obtain ⟨⟨x,Lx⟩,h1,h⟩:=bnd h
    obtain ⟨⟨j,Lj⟩,h2,h⟩:=bnd h
    obtain ⟨n,h3,h⟩:=bnd h
    obtain ⟨y,h4,h⟩:=bnd h
    obtain ⟨v,s1,e1,R1⟩:=(ok_all C e).v I h1
    obtain ⟨w,s2,e2,R2⟩:=(ok_all C i).v R1.p.inv h2
    cases j <;> first | (cases h3; done) | skip
    cases h3
    have:=R2.r
    cases (show w = _ from this)
    cases y <;> first | (cases h; done) | skip
    rename_i xs
    obtain ⟨t,h5,h⟩:=mpd h
    cases h
    obtain ⟨y0,hy0⟩:=(R1.p.trans R2.p).dom k _ h4
    obtain ⟨v0,e0,_⟩:=I.rc hy0
    obtain ⟨v',e,rv,_,kk⟩:=R2.p.inv.val k _ h4
    obtain ⟨⟨r,rfl,hp⟩,_⟩:=kk (by rw [hm]; simp)
    rw [e0] at e; cases e
    obtain ⟨l,ps,el,e3,r3⟩:=rv
    cases el
    have rx:=R2.p.keep R1.p.inv R1.r R1.n
    obtain ⟨r',ps',er,e3',_,_,p⟩:=R2.p.inv.put (qs:=ps.set t v) (ys:=xs.set t x) hm h4 rfl e0 (fun r' ps' er e3' r3' n3'=>by cases er; rw [e3] at e3'; cases e3'; exact ⟨r3.set t rx,n3'.set R1.n⟩)
    cases er
    exact ⟨.next,LP,_,Pv,by simp only [exR_setix,e1,Option.bind_some,ev_var e0,e2,e3,r3.length,h5,Option.map_some],.of ((R1.p.trans R2.p).trans p),trivial⟩
   ·cases h
 | .aug i op e=>by
  intro Pv md L LP st fl L' I h
  have h:(if mdAt md i = .imm then (lkF L i).bind fun a=>(intF a).bind fun a=>((sem Γ cf e).v md L).bind fun x=>(intF x.1).bind fun b=>match op with
   | .add=>some (FFl.next,x.2.set i (some (.int (a + b))))
   | .sub=>some (FFl.next,x.2.set i (some (.int (a - b))))
   | _=>none
  else none) = some (fl,L'):=h
  split at h
  ·rename_i hm
   obtain ⟨a,h1,h⟩:=bnd h
   obtain ⟨a',h2,h⟩:=bnd h
   obtain ⟨⟨x,Lx⟩,h3,h⟩:=bnd h
   obtain ⟨b,h4,h⟩:=bnd h
   obtain ⟨v,s1,e1,R⟩:=(ok_all C e).v I h3
   obtain ⟨w,ew,rw',_⟩:=I.val i a h1
   cases a <;> first | (cases h2; done) | skip
   cases h2
   cases (show w = _ from rw')
   cases x <;> first | (cases h4; done) | skip
   cases h4
   have:=R.r
   cases (show v = _ from this)
   cases op <;> first | (cases h; done) | skip
   ·cases h
    exact ⟨.next,_,s1,Pv,by simp only [exR_aug,ew,e1,Option.bind_some],(PS.of R.p).trans (imm_ps R.p.inv hm rfl trivial),trivial⟩
   ·cases h
    exact ⟨.next,_,s1,Pv,by simp only [exR_aug,ew,e1,Option.bind_some],(PS.of R.p).trans (imm_ps R.p.inv hm rfl trivial),trivial⟩
  ·cases h
 | .ret e=>by
  intro Pv md L LP st fl L' I h
  cases fr with
  | false =>
   obtain ⟨⟨x,Lx⟩,h1,h⟩:=mpd (show ((sem Γ cf e).v md L).map _ = some (fl,L') from h)
   cases h
   obtain ⟨v,s1,e1,R⟩:=(ok_all C e).v I h1
   exact ⟨.ret v,LP,s1,Pv,by simp only [exR_ret,e1,Option.map_some],.of R.p,R.r,fun _=>R.n,fun z=>by cases z⟩
  | true =>
   cases hn:(sem Γ cf e).nm with
   | none =>
    have h:(match (sem Γ cf e).nm with
     | some i=>if mdAt md i = .own∧i ≠ 0 then (lkF L i).map fun x=>(FFl.ret x,L) else none
     | none=>((sem Γ cf e).f md L).map fun x=>(FFl.ret x.1,x.2)) = some (fl,L'):=h
    rw [hn] at h
    obtain ⟨⟨x,Lx⟩,h1,h⟩:=mpd (show ((sem Γ cf e).f md L).map _ = some (fl,L') from h)
    cases h
    obtain ⟨v,s1,e1,R,F⟩:=(ok_all C e).f I h1
    exact ⟨.ret v,LP,s1,Pv,by simp only [exR_ret,e1,Option.map_some],.of R.p,R.r,fun _=>R.n,fun _=>.inl ⟨F,R.n⟩⟩
   | some i =>
    have h:(match (sem Γ cf e).nm with
     | some i=>if mdAt md i = .own∧i ≠ 0 then (lkF L i).map fun x=>(FFl.ret x,L) else none
     | none=>((sem Γ cf e).f md L).map fun x=>(FFl.ret x.1,x.2)) = some (fl,L'):=h
    rw [hn] at h
    have he:=nm_var hn
    subst he
    have h:(if mdAt md i = .own∧i ≠ 0 then (lkF L i).map fun x=>(FFl.ret x,L) else none) = some (fl,L'):=h
    split at h
    ·rename_i hm
     obtain ⟨x,h1,h⟩:=mpd h
     cases h
     obtain ⟨v,ev',rv,_⟩:=I.rc h1
     exact ⟨.ret v,LP,st,Pv,by simp only [exR_ret,ev_var ev',Option.map_some],.of (.refl I),rv,fun z=>(by cases z),fun _=>.inr ⟨i,hm.2,hm.1,h1,ev'⟩⟩
    ·cases h
 | .retN=>by
  intro Pv md L LP st fl L' I h
  have h:(if fr = true then none else some (FFl.ret .non,L)) = some (fl,L'):=h
  cases fr with
  | true=>cases h
  | false=>cases h; exact ⟨.ret .non,LP,st,Pv,by simp only [exR_retN],.of (.refl I),rfl,fun _=>trivial,fun z=>by cases z⟩
 | .expr e=>by
  intro Pv md L LP st fl L' I h
  obtain ⟨⟨x,Lx⟩,h1,h⟩:=mpd (show ((sem Γ cf e).v md L).map _ = some (fl,L') from h)
  cases h
  obtain ⟨v,s1,e1,R⟩:=(ok_all C e).v I h1
  exact ⟨.next,LP,s1,Pv,by simp only [exR_expr,e1,Option.map_some],.of R.p,trivial⟩
 | .pass=>by
  intro Pv md L LP st fl L' I h
  cases h
  exact ⟨.next,LP,st,Pv,by simp only [exR_pass],.of (.refl I),trivial⟩
 | .ife c a b=>by
  intro Pv md L LP st fl L' I h
  obtain ⟨⟨t,Lt⟩,h1,h⟩:=bnd (show ((sem Γ cf c).t md L).bind _ = some (fl,L') from h)
  obtain ⟨s1,e1,p1⟩:=(ok_all C c).t I h1
  cases t with
  | true =>
   obtain ⟨g2,LP2,s2,Pv2,e2,p2,k2⟩:=sx_all C a p1.inv (show exF Γ cf fr a md Lt = some (fl,L') from h)
   exact ⟨g2,LP2,s2,Pv2,by simp only [exR_ife,e1,Option.bind_some,if_true,e2],(PS.of p1).trans p2,k2.mono p1.le .rfl⟩
  | false =>
   obtain ⟨g2,LP2,s2,Pv2,e2,p2,k2⟩:=sx_all C b p1.inv (show exF Γ cf fr b md Lt = some (fl,L') from h)
   exact ⟨g2,LP2,s2,Pv2,by simp only [exR_ife,e1,Option.bind_some]; exact e2,(PS.of p1).trans p2,k2.mono p1.le .rfl⟩
 | .whl c b=>by
  intro Pv md L LP st fl L' I h
  obtain ⟨g2,LP2,s2,Pv2,e2,p2,k2⟩:=while_ok (ok_all C c) (sx_all C b) I (show whileF (sem Γ cf c).t (fun md L=>exF Γ cf fr b md L) md big L = some (fl,L') from h)
  exact ⟨g2,LP2,s2,Pv2,by simp only [exR_whl,e2],p2,k2⟩
 | .for_ tg it b=>by
  intro Pv md L LP st fl L' I h
  obtain ⟨⟨xs,md',Li⟩,h1,h⟩:=bnd (show ((sem Γ cf it).i md L).bind _ = some (fl,L') from h)
  obtain ⟨ps,gs,s1,e1,p1,r1,n1,fz,g1⟩:=(ok_all C it).i I h1
  obtain ⟨g2,LP2,s2,Pv2,e2,p2,k2⟩:=for_ok (sx_all C b) (p1.inv.frz fz) r1 n1 g1 (show forF tg md' (fun md L=>exF Γ cf fr b md L) xs Li = some (fl,L') from h)
  exact ⟨g2,LP2,s2,Pv2,by simp only [exR_for_,e1,Option.bind_some,e2],(PS.of p1).trans (p2.thaw fz),k2.mono p1.le fz⟩
 | .brk=>by
  intro Pv md L LP st fl L' I h
  cases h
  exact ⟨.brk,LP,st,Pv,by simp only [exR_brk],.of (.refl I),trivial⟩
 | .cont=>by
  intro Pv md L LP st fl L' I h
  cases h
  exact ⟨.cont,LP,st,Pv,by simp only [exR_cont],.of (.refl I),trivial⟩
end
noncomputable def okFD (fd:FD):Bool:=decide (fd.np ≤ fd.ns) && (!fd.io || decide (0 < fd.np)) && (List.range fd.np).all fun i=>decide (mdAt fd.md i = if fd.io = true∧i = 0 then .own else .imm)
theorem lkF_args:∀ (xs:List FV) (k i:Nat) (x:FV),lkF (xs.map some ++ List.replicate k none) i = some x→xs[i]? = some x
 | [],k,i,x,h=>by simp [lkF_rep] at h
 | y :: ys,k,0,x,h=>by simp [lkF] at h; simp [h]
 | y :: ys,k,i + 1,x,h=>by simpa using lkF_args ys k i x (by simpa [lkF] using h)
theorem args_at (vs:List PV) (k i:Nat) (v:PV) (h:vs[i]? = some v):(vs.map some ++ List.replicate k none)[i]? = some (some v):=by
 have hl:=(List.getElem?_eq_some_iff.mp h).1
 rw [List.getElem?_append_left (by simp [hl]),List.getElem?_map,h]; rfl
theorem call_step {tb : List FD} (hT : tb.all okFD = true) (d : Nat) (C : CallOk (sigF tb) (callF tb d) (callD (tb.map FD.pl) d)) : CallOk (sigF tb) (callF tb (d + 1)) (callD (tb.map FD.pl) (d + 1)) := by
  have gen : ∀ {Pv : Nat → Prop} {f : Nat} {xs : List FV} {z : FV × FV} {st : Sto} {vs : List PV} {fd : FD}, tb[f]? = some fd → Wf Pv st → Rds st vs xs → (∀ i v, vs[i]? = some v → (fd.io = true ∧ i = 0 → ∃ r, v = .ref r ∧ Pv r ∧ ∃ ys, xs[0]? = some (.lst ys)) ∧ (¬ (fd.io = true ∧ i = 0) → RA (Np Pv) v)) → callF tb (d + 1) f xs = some z →
      ∃ v st', callD (tb.map FD.pl) (d + 1) f vs st = some (v, st') ∧ Wf Pv st' ∧ st.length ≤ st'.length ∧ (∀ q, q < st.length → (fd.io = true → vs[0]? ≠ some (.ref q)) → st'[q]? = st[q]?) ∧ Rd st' v z.1 ∧ RA (Np Pv) v ∧
        (fd.io = true → ∃ w, vs[0]? = some w ∧ Rd st' w z.2 ∧ ∃ ys, z.2 = .lst ys) ∧ (fd.fr = true → Fsh st.length v st') := by
    intro Pv f xs z st vs fd hf W r hv h
    have h : (match tb[f]? with
      | none => none
      | some fd => if xs.length = fd.np then
          (exF (sigF tb) (callF tb d) fd.fr fd.body fd.md (xs.map some ++ List.replicate (fd.ns - fd.np) none)).bind (endF fd.io fd.fr)
        else none) = some z := h
    rw [hf] at h
    have h : (if xs.length = fd.np then
          (exF (sigF tb) (callF tb d) fd.fr fd.body fd.md (xs.map some ++ List.replicate (fd.ns - fd.np) none)).bind (endF fd.io fd.fr)
        else none) = some z := h
    split at h
    · rename_i hnp
      have hok : okFD fd = true := by
        rw [List.all_eq_true] at hT; exact hT fd (List.mem_of_getElem? hf)
      simp only [okFD, Bool.and_eq_true, decide_eq_true_eq, List.all_eq_true, List.mem_range, Bool.or_eq_true, Bool.not_eq_true'] at hok
      obtain ⟨⟨hns, hio⟩, hmd⟩ := hok
      obtain ⟨⟨fl, L'⟩, h1, h⟩ := bnd h
      have hlv : vs.length = fd.np := by rw [r.length]; exact hnp
      have I : Ivt Pv fd.md (xs.map some ++ List.replicate (fd.ns - fd.np) none) (vs.map some ++ List.replicate (fd.ns - fd.np) none) st := by
        refine ⟨by simp [r.length], fun i x hx => ?_, fun i j q x y hij hi hj hx hy e => ?_, W.cel, W.pvl⟩
        · have hx := lkF_args _ _ _ _ hx
          obtain ⟨v, ev', rv⟩ := r.get hx
          have hi : i < fd.np := by rw [← hnp]; exact (List.getElem?_eq_some_iff.mp hx).1
          obtain ⟨k1, k2⟩ := hv i v ev'
          refine ⟨v, args_at _ _ _ _ ev', rv, fun hm => k2 fun c => ?_, fun hm => ?_⟩
          · rw [hmd i hi, if_pos c] at hm; cases hm
          · by_cases c : fd.io = true ∧ i = 0
            · obtain ⟨q, e1, e2, ys, e3⟩ := k1 c
              refine ⟨⟨q, e1, e2⟩, ys, ?_⟩
              rw [c.2, e3] at hx; cases hx; rfl
            · rw [hmd i hi, if_neg c] at hm; exact absurd rfl hm
        · have one : ∀ k x, mdAt fd.md k ≠ .imm → lkF (xs.map some ++ List.replicate (fd.ns - fd.np) none) k = some x → k = 0 := fun k x hk hx => by
            have hx := lkF_args _ _ _ _ hx
            have hi : k < fd.np := by rw [← hnp]; exact (List.getElem?_eq_some_iff.mp hx).1
            by_cases c : fd.io = true ∧ k = 0
            · exact c.2
            · rw [hmd k hi, if_neg c] at hk; exact absurd rfl hk
          exact absurd ((one i x hi hx).trans (one j y hj hy).symm) hij
      obtain ⟨flP, LP', st', Pv', e1, p, k⟩ := sx_all C fd.body I h1
      have hD : ∀ {v}, (flP = .ret v ∨ (flP = .next ∧ v = .non)) → callD (tb.map FD.pl) (d + 1) f vs st = some (v, st') := fun {v} hf' => by
        simp only [callD, List.getElem?_map, hf, Option.map_some, FD.pl, hlv, if_true]
        have e1' : ex (callD (tb.map FD.pl) d) fd.body (vs.map some ++ List.replicate (fd.ns - fd.np) none) st = some (flP, LP', st') := e1
        rw [e1']
        rcases hf' with rfl | ⟨rfl, rfl⟩ <;> rfl
      have W' : Wf Pv st' := ⟨fun l ps e => (p.inv.cel l ps e).mono fun q hq => ⟨hq.1, fun z => hq.2 (p.ext q z)⟩, fun q hq => p.inv.pvl q (p.ext q hq)⟩
      have same : ∀ q, q < st.length → (fd.io = true → vs[0]? ≠ some (.ref q)) → st'[q]? = st[q]? := fun q hq hne => by
        refine p.same q hq fun i x hm hx e => ?_
        have hx := lkF_args _ _ _ _ hx
        have hi : i < fd.np := by rw [← hnp]; exact (List.getElem?_eq_some_iff.mp hx).1
        have c : fd.io = true ∧ i = 0 := by
          by_cases c : fd.io = true ∧ i = 0
          · exact c
          · rw [hmd i hi, if_neg c] at hm; cases hm
        obtain ⟨v, ev', _⟩ := r.get hx
        rw [args_at _ _ _ _ ev'] at e
        cases e
        exact hne c.1 (by rw [← c.2]; exact ev')
      have io0 : fd.io = true → ∃ w x0, vs[0]? = some w ∧ LP'[0]? = some (some w) ∧ mdAt fd.md 0 = .own ∧ lkF L' 0 = some x0 := fun c => by
        have h0 : 0 < fd.np := by rcases hio with h | h
                                  · rw [c] at h; cases h
                                  · exact h
        have hm : mdAt fd.md 0 = .own := by rw [hmd 0 h0, if_pos ⟨c, rfl⟩]
        have hx0 : ∃ x, xs[0]? = some x := ⟨_, List.getElem?_eq_getElem (by omega)⟩
        obtain ⟨x, hx⟩ := hx0
        obtain ⟨w, ew, _⟩ := r.get hx
        have hl : lkF (xs.map some ++ List.replicate (fd.ns - fd.np) none) 0 = some x := by
          cases xs with
          | nil => simp at hx
          | cons a as => simp at hx; subst hx; rfl
        obtain ⟨q1, y, hy⟩ := p.z0 x hm hl
        exact ⟨w, y, ew, by rw [q1]; exact args_at _ _ _ _ ew, hm, hy⟩
      have ioR : ∀ x0, lkF L' 0 = some x0 → fd.io = true → ∃ w, vs[0]? = some w ∧ Rd st' w x0 ∧ ∃ ys, x0 = .lst ys := fun x0 hx0 c => by
        obtain ⟨w, x1, ew, ew', hm, hx1⟩ := io0 c
        obtain ⟨w', e2, r2, _, k2⟩ := p.inv.val 0 x0 hx0
        rw [ew'] at e2; cases e2
        exact ⟨w, ew, r2, (k2 (by rw [hm]; simp)).2⟩
      have fin : ∀ {v x}, FlOk fd.fr fd.md st.length Pv' L' LP' st' (.ret x) (.ret v) → Rd st' v x ∧ RA (Np Pv) v ∧ (fd.fr = true → Fsh st.length v st') := fun {v x} ⟨k1, k2, k3⟩ => by
        have up : RA (Np Pv') v → RA (Np Pv) v := fun n => n.mono fun q hq z => hq (p.ext q z)
        cases hfr : fd.fr with
        | false => exact ⟨k1, up (k2 hfr), fun z => by cases z⟩
        | true =>
          rcases k3 hfr with ⟨F, n⟩ | ⟨i, h0, hm, hx, e⟩
          · exact ⟨k1, up n, fun _ => F⟩
          · obtain ⟨v', e2, r2, _, kk⟩ := p.inv.val i x hx
            obtain ⟨⟨q, rfl, hp⟩, _⟩ := kk (by rw [hm]; simp)
            rw [e] at e2; cases e2
            have hq : st.length ≤ q := by
              rcases p.own i x q hm hx e with h | ⟨j, y, h1, h2, h3⟩
              · exact h
              · exfalso
                have h2 := lkF_args _ _ _ _ h2
                have hj : j < fd.np := by rw [← hnp]; exact (List.getElem?_eq_some_iff.mp h2).1
                have c : fd.io = true ∧ j = 0 := by
                  by_cases c : fd.io = true ∧ j = 0
                  · exact c
                  · rw [hmd j hj, if_neg c] at h1; cases h1
                obtain ⟨w, x0, ew, ew', hm0, hx0⟩ := io0 c.1
                obtain ⟨v2, ev2, _⟩ := r.get h2
                rw [args_at _ _ _ _ ev2] at h3
                cases h3
                rw [c.2] at ev2
                rw [ev2] at ew; cases ew
                exact p.inv.dis i 0 q x x0 h0 (by rw [hm]; simp) (by rw [hm0]; simp) hx hx0 e ew'
            exact ⟨k1, (show ¬ Pv q from fun z => by have := W.pvl q z; omega), fun _ => ⟨q, rfl, hq, p.inv.pvl q hp, fun l ps e => (p.inv.cel l ps e).mono fun a ha (z : a = q) => ha.2 (by rw [z]; exact hp)⟩⟩
      cases fl with
      | ret x =>
        cases flP <;> first | exact k.elim | skip
        rename_i v
        obtain ⟨r1, n1, F1⟩ := fin k
        have h : (if fd.io = true then (lkF L' 0).map fun y => (x, y) else some (x, .non)) = some z := h
        cases hc : fd.io with
        | true =>
          rw [hc] at h
          obtain ⟨y, h2, h⟩ := mpd (show (lkF L' 0).map (fun y => (x, y)) = some z from h)
          cases h
          exact ⟨v, st', hD (.inl rfl), W', p.le, fun q hq hne => same q hq fun _ => hne rfl, r1, n1, fun _ => ioR y h2 hc, F1⟩
        | false =>
          rw [hc] at h
          cases h
          exact ⟨v, st', hD (.inl rfl), W', p.le, fun q hq _ => same q hq fun c => (by rw [hc] at c; cases c), r1, n1, fun c => (by cases c), F1⟩
      | next =>
        cases flP <;> first | exact k.elim | skip
        have h : (if fd.fr = true then none else if fd.io = true then (lkF L' 0).map fun y => (FV.non, y) else some (.non, .non)) = some z := h
        split at h
        · cases h
        · rename_i hfr
          cases hc : fd.io with
          | true =>
            rw [hc] at h
            obtain ⟨y, h2, h⟩ := mpd (show (lkF L' 0).map (fun y => (FV.non, y)) = some z from h)
            cases h
            exact ⟨.non, st', hD (.inr ⟨rfl, rfl⟩), W', p.le, fun q hq hne => same q hq fun _ => hne rfl, rfl, trivial, fun _ => ioR y h2 hc, fun c => absurd c hfr⟩
          | false =>
            rw [hc] at h
            cases h
            exact ⟨.non, st', hD (.inr ⟨rfl, rfl⟩), W', p.le, fun q hq _ => same q hq fun c => (by rw [hc] at c; cases c), rfl, trivial, fun c => (by cases c), fun c => absurd c hfr⟩
      | brk => cases h
      | cont => cases h
    · cases h
  have look : ∀ {f : Nat} {xs : List FV} {z : FV × FV}, callF tb (d + 1) f xs = some z → ∃ fd, tb[f]? = some fd ∧ sigF tb f = (fd.io, fd.fr) := fun {f xs z} h => by
    cases hf : tb[f]? with
    | none => simp only [callF, hf] at h; cases h
    | some fd => exact ⟨fd, rfl, by simp only [sigF, hf]⟩
  refine ⟨fun {Pv f xs z st vs} hg W r n h => ?_, fun {Pv f x xs z st q vs} hg W hp rx r n h => ?_⟩
  · obtain ⟨fd, hf, hs⟩ := look h
    rw [hs] at hg ⊢
    have hg : fd.io = false := hg
    obtain ⟨v, st', e, W', le, same, r1, n1, _, F⟩ := gen hf W r (fun i v hv => ⟨fun c => (by rw [hg] at c; cases c.1), fun _ => RA.at n hv⟩) h
    exact ⟨v, st', e, ⟨W', le, fun q hq _ => same q hq fun c => (by rw [hg] at c; cases c), r1, n1⟩, F⟩
  · obtain ⟨fd, hf, hs⟩ := look h
    rw [hs] at hg ⊢
    have hg : fd.io = true := hg
    have hx : ∃ ys, x = .lst ys := by
      cases x with
      | lst xs => exact ⟨xs, rfl⟩
      | tup xs => obtain ⟨_, z, _⟩ := rx; cases z
      | _ => cases (show PV.ref q = _ from rx)
    obtain ⟨ys, rfl⟩ := hx
    obtain ⟨v, st', e, W', le, same, r1, n1, io, F⟩ := gen (vs := .ref q :: vs) (xs := .lst ys :: xs) hf W ⟨_, _, rfl, rx, r⟩ (fun i v hv => ⟨fun c => (by rw [c.2] at hv; simp at hv; subst hv; exact ⟨q, rfl, hp, ys, rfl⟩), fun c => by
      cases i with
      | zero => exact absurd ⟨hg, rfl⟩ c
      | succ i => exact RA.at n (by simpa using hv)⟩) h
    obtain ⟨w, ew, rw', hz⟩ := io hg
    simp at ew; subst ew
    exact ⟨v, st', e, ⟨W', le, fun a ha hne => same a ha fun _ hc => hne (by simp at hc; rw [hc]), r1, n1⟩, rw', hz, F⟩
theorem call_all {tb:List FD} (hT:tb.all okFD = true):∀ d:Nat,CallOk (sigF tb) (callF tb d) (callD (tb.map FD.pl) d)
 | 0=>⟨fun _ _ _ _ h=>(by cases h),fun _ _ _ _ _ _ h=>(by cases h)⟩
 | d + 1=>call_step hT d (call_all hT d)
theorem law_of {tb:List FD} (hT:tb.all okFD = true) {d f:Nat} {ns:List Int} {y:FV} (hs:(sigF tb f).1 = false) (h:callF tb d f [.scr ns] = some (.bl true,y)):∃ st,callD (tb.map FD.pl) d f [.scr ns] [] = some (.bl true,st):=by
 obtain ⟨v,st',e,R,_⟩:=(call_all hT d).im (Pv:=fun _=>False) (st:=[]) (vs:=[.scr ns]) (xs:=[.scr ns]) hs ⟨fun l ps h=>by simp at h,fun _ h=>h.elim⟩ ⟨_,_,rfl,rfl,rfl⟩ ⟨trivial,trivial⟩ h
 have:=R.r
 cases (show v = _ from this)
 exact ⟨st',e⟩
end Kf
end
section
set_option linter.all false
set_option maxHeartbeats 1000000
namespace Kf
open Kw
noncomputable def wp {α:Type} (r:Option α) (Q:α→Prop):Prop:=match r with
 | some x=>Q x
 | none=>False
@[scoped simp ↓] theorem wp_some {α:Type} (x:α) (Q:α→Prop):wp (some x) Q = Q x:=propext Iff.rfl
@[scoped simp ↓] theorem wp_none {α:Type} (Q:α→Prop):wp (none:Option α) Q = False:=propext Iff.rfl
theorem wp_bind {α β:Type} (r:Option α) (f:α→Option β) (Q:β→Prop):wp (r.bind f) Q↔wp r (fun x=>wp (f x) Q):=by cases r <;> rfl
@[scoped simp ↓] theorem wp_map {α β:Type} (r:Option α) (f:α→β) (Q:β→Prop):wp (r.map f) Q↔wp r (fun x=>Q (f x)):=by cases r <;> rfl
theorem wp_iff {α:Type} {r:Option α} {Q:α→Prop}:wp r Q↔∃ x,r = some x∧Q x:=by cases r <;> simp [wp]
theorem wp_mono {α:Type} {r:Option α} {Q P:α→Prop} (h:wp r Q) (H:∀ x,Q x→P x):wp r P:=by
 cases r with
 | none=>exact h
 | some x=>exact H x h
theorem wp_of_eq {α:Type} {r:Option α} {x:α} {Q:α→Prop} (h:r = some x) (q:Q x):wp r Q:=by rw [h]; exact q
theorem wp_eq {α:Type} {r:Option α} {x:α} (h:wp r (· = x)):r = some x:=by
 cases r with
 | none=>exact h.elim
 | some y=>rw [show y = x from h]
@[scoped simp ↓] theorem wp_ite {α:Type} (c:Prop) [Decidable c] (a:α) (Q:α→Prop):wp (if c then some a else none) Q↔c∧Q a:=by
 by_cases h:c <;> simp [h]
noncomputable def immM:Mo→Prop→Prop
 | .imm,P=>P
 | _,_=>False
noncomputable def ownM:Mo→Prop→Prop
 | .own,P=>P
 | _,_=>False
noncomputable def immP:Md→Nat→Prop→Prop
 | [],_,P=>P
 | m :: _,0,P=>immM m P
 | _ :: ms,n + 1,P=>immP ms n P
noncomputable def ownP:Md→Nat→Prop→Prop
 | [],_,_=>False
 | m :: _,0,P=>ownM m P
 | _ :: ms,n + 1,P=>ownP ms n P
theorem immP_iff:∀ {md:Md} {i:Nat} {P:Prop},immP md i P↔mdAt md i = .imm∧P
 | [],i,P=>by simp [immP,mdAt]
 | m :: ms,0,P=>by cases m <;> simp [immP,immM,mdAt]
 | m :: ms,n + 1,P=>by cases m <;> exact immP_iff (md:=ms) (i:=n)
theorem ownP_iff:∀ {md:Md} {i:Nat} {P:Prop},ownP md i P↔mdAt md i = .own∧P
 | [],i,P=>by simp [ownP,mdAt]
 | m :: ms,0,P=>by cases m <;> simp [ownP,ownM,mdAt]
 | m :: ms,n + 1,P=>by cases m <;> exact ownP_iff (md:=ms) (i:=n)
@[scoped simp ↓] theorem im_nil (i:Nat) (P:Prop):immP [] i P = P:=propext Iff.rfl
@[scoped simp ↓] theorem im_0 (ms:Md) (P:Prop):immP (.imm :: ms) 0 P = P:=propext Iff.rfl
@[scoped simp ↓] theorem im_s (m:Mo) (ms:Md) (n:Nat) (P:Prop):immP (m :: ms) (n + 1) P = immP ms n P:=propext Iff.rfl
@[scoped simp ↓] theorem ow_0 (ms:Md) (P:Prop):ownP (.own :: ms) 0 P = P:=propext Iff.rfl
@[scoped simp ↓] theorem ow_s (m:Mo) (ms:Md) (n:Nat) (P:Prop):ownP (m :: ms) (n + 1) P = ownP ms n P:=propext Iff.rfl
structure WSem where
 v:Md→FLoc→(FV→FLoc→Prop)→Prop
 r:Md→FLoc→(FV→FLoc→Prop)→Prop
 f:Md→FLoc→(FV→FLoc→Prop)→Prop
 t:Md→FLoc→(Bool→FLoc→Prop)→Prop
 ts:Md→FLoc→(Bool→FLoc→Prop)→Prop
 s:Md→FLoc→(List FV→FLoc→Prop)→Prop
 o:Md→FLoc→(Option Int→FLoc→Prop)→Prop
 i:Md→FLoc→(List FV→Md→FLoc→Prop)→Prop
 nm:Option Nat
 hd:Option Nat
 tl:Md→FLoc→(List FV→FLoc→Prop)→Prop
 one:Option (Md→FLoc→(FV→FLoc→Prop)→Prop)
noncomputable abbrev WV:=Md→FLoc→(FV→FLoc→Prop)→Prop
noncomputable def wtOf (v:WV) (md:Md) (L:FLoc) (Q:Bool→FLoc→Prop):Prop:=v md L fun x L1=>wp (truF x) fun b=>Q b L1
noncomputable def woOf (v:WV) (md:Md) (L:FLoc) (Q:Option Int→FLoc→Prop):Prop:=v md L fun x L1=>wp (intF x) fun i=>Q (some i) L1
noncomputable def wiOf (v:WV) (md:Md) (L:FLoc) (Q:List FV→Md→FLoc→Prop):Prop:=v md L fun x L1=>wp (seqF x) fun xs=>Q xs md L1
noncomputable def WSem.fr (v f:WV):WSem:=⟨v,v,f,wtOf v,fun _ _ _=>False,fun _ _ _=>False,woOf v,wiOf v,none,none,fun _ _ _=>False,none⟩
noncomputable def WSem.pl (v:WV):WSem:=.fr v fun _ _ _=>False
noncomputable def WSem.te (v:WV) (t:Md→FLoc→(Bool→FLoc→Prop)→Prop):WSem:=⟨v,v,fun _ _ _=>False,t,fun _ _ _=>False,fun _ _ _=>False,woOf v,wiOf v,none,none,fun _ _ _=>False,none⟩
noncomputable def WSem.wk (i:Md→FLoc→(List FV→Md→FLoc→Prop)→Prop):WSem:=⟨fun _ _ _=>False,fun _ _ _=>False,fun _ _ _=>False,fun _ _ _=>False,fun _ _ _=>False,fun _ _ _=>False,fun _ _ _=>False,i,none,none,fun _ _ _=>False,none⟩
noncomputable def WSem.no:WSem:=.wk fun _ _ _=>False
section
variable (Γ:Nat→Bool×Bool) (call:Nat→List FV→Option (FV×FV))
noncomputable def elF (e:E) (md:Md) (L:FLoc):FR FV:=(sem Γ call e).v md L
noncomputable def tsF (e:E) (md:Md) (L:FLoc):FR Bool:=(sem Γ call e).ts md L
noncomputable def teF (e:E) (md:Md) (L:FLoc):FR Bool:=(sem Γ call e).t md L
noncomputable def bdF (fr:Bool) (s:S) (md:Md) (L:FLoc):FS:=exF Γ call fr s md L
noncomputable def wCall (f:Nat) (a:WSem) (md:Md) (L:FLoc) (Q:FV→FLoc→Prop):Prop:=match (Γ f).1 with
 | true=>match a.hd with
  | some i=>ownP md i (a.tl md L fun xs L1=>wp (lkF L1 i) fun x=>wp (call f (x :: xs)) fun z=>Q z.1 (L1.set i (some z.2)))
  | none=>False
 | false=>a.s md L fun xs L1=>wp (call f xs) fun z=>Q z.1 L1
noncomputable def wMeth (f:MF) (o a:WSem) (md:Md) (L:FLoc) (Q:FV→FLoc→Prop):Prop:=match o.nm with
 | some k=>ownP md k <| match f with
   | .append=>a.v md L fun y L1=>wp (lkF L1 k) fun x=>wp (listF x) fun xs=>wp (mfunF .append xs y) fun zs=>Q .non (L1.set k (some (.lst zs)))
   | .extend=>a.nm ≠ some k∧a.r md L fun y L1=>wp (lkF L1 k) fun x=>wp (listF x) fun xs=>wp (mfunF .extend xs y) fun zs=>Q .non (L1.set k (some (.lst zs)))
 | none=>False
noncomputable def wComp (el:E) (tg:Tg) (n m:Nat) (i:Md→FLoc→(List FV→Md→FLoc→Prop)→Prop) (ifs:E) (md:Md) (L:FLoc) (Q:FV→FLoc→Prop):Prop :=
 i md L fun xs md' L1=>L1.length = n∧tgGe n tg = true∧wp (compF tg md' n m (tsF Γ call ifs) (elF Γ call el) xs L1) fun ys=>ys.1.length ≤ big∧Q (.lst ys.1) ys.2
noncomputable def dfrW (a:WSem) (md:Md) (L:FLoc) (k:(FLoc→Option FV)→FLoc→Prop):Prop:=match a.nm with
 | some i=>k (fun L'=>lkF L' i) L
 | none=>a.r md L fun x L1=>k (fun _=>some x) L1
noncomputable def oneW (es:E) (r:Md→FLoc→(FV→FLoc→Prop)→Prop):Option (Md→FLoc→(FV→FLoc→Prop)→Prop):=match es with
 | .nil=>some r
 | _=>none
noncomputable def bltW (f:BF) (as:WSem) (md:Md) (L:FLoc) (Q:FV→FLoc→Prop):Prop:=match as.one with
 | some r=>r md L fun x L1=>wp (bfunF f x) fun z=>Q z L1
 | none=>as.s md L fun xs L1=>wp (bf2F f xs) fun z=>Q z L1
noncomputable def isC (c:E) (k:Bool) (x:FV) (Q:FV→Prop):Prop:=match c with
 | .non=>Q (.bl (k != isNonF x))
 | .bl b=>Q (.bl (k != isBlF b x))
 | _=>False
noncomputable def W:E→WSem
 | .var i=>⟨fun md L Q=>immP md i (wp (lkF L i) fun x=>Q x L),fun _ L Q=>wp (lkF L i) fun x=>Q x L,fun _ _ _=>False,
   fun _ L Q=>wp (lkF L i) fun x=>wp (truF x) fun b=>Q b L,fun _ _ _=>False,fun _ _ _=>False,fun _ L Q=>wp (lkF L i) fun x=>wp (intF x) fun j=>Q (some j) L,
   fun md L Q=>wp (lkF L i) fun x=>wp (seqF x) fun xs=>Q xs (freeze md (some i)) L,some i,none,fun _ _ _=>False,none⟩
 | .int i=>.pl fun md L Q=>Q (.int i) L
 | .bl b=>.pl fun md L Q=>Q (.bl b) L
 | .non=>.pl fun md L Q=>Q .non L
 | .str x=>.pl fun md L Q=>Q (.str x) L
 | .bin op a b=>.fr (fun md L Q=>dfrW (W a) md L fun g L1=>(W b).r md L1 fun y L2=>wp (g L2) fun x=>wp (binF op x y) fun z=>Q z L2) fun md L Q=>dfrW (W a) md L fun g L1=>(W b).r md L1 fun y L2=>wp (g L2) fun x=>wp (binF op x y) fun z=>isLstOp z = true∧Q z L2
 | .cmp op a b=>.pl fun md L Q=>dfrW (W a) md L fun g L1=>(W b).r md L1 fun y L2=>wp (g L2) fun x=>wp (cmpF op x y) fun z=>Q (.bl z) L2
 | .is k a c=>.pl fun md L Q=>(W a).r md L fun x L1=>isC c k x fun z=>Q z L1
 | .chain o p a b c=>.pl fun md L Q=>dfrW (W a) md L fun g L1=>(W b).v md L1 fun y L2=>wp (g L2) fun x=>wp (cmpF o x y) fun r=>if r = true then (W c).r md L2 fun z L3=>wp (cmpF p y z) fun q=>Q (.bl q) L3 else Q (.bl false) L2
 | .and a b=>.te (fun md L Q=>(W a).v md L fun x L1=>wp (truF x) fun r=>if r = true then (W b).v md L1 Q else Q x L1) fun md L Q=>(W a).t md L fun r L1=>if r = true then (W b).t md L1 Q else Q false L1
 | .or a b=>.te (fun md L Q=>(W a).v md L fun x L1=>wp (truF x) fun r=>if r = true then Q x L1 else (W b).v md L1 Q) fun md L Q=>(W a).t md L fun r L1=>if r = true then Q true L1 else (W b).t md L1 Q
 | .not a=>.te (fun md L Q=>(W a).v md L fun x L1=>wp (blF x) fun b=>Q (.bl (!b)) L1) fun md L Q=>(W a).t md L fun r L1=>Q (!r) L1
 | .neg a=>.pl fun md L Q=>(W a).v md L fun x L1=>wp (intF x) fun i=>Q (.int (-i)) L1
 | .ite c a b=>.te (fun md L Q=>(W c).t md L fun r L1=>if r = true then (W a).v md L1 Q else (W b).v md L1 Q) fun md L Q=>(W c).t md L fun r L1=>if r = true then (W a).t md L1 Q else (W b).t md L1 Q
 | .tup es=>.pl fun md L Q=>(W es).s md L fun xs L1=>xs.length ≤ big∧Q (.tup xs) L1
 | .lst es=>.fr (fun md L Q=>(W es).s md L fun xs L1=>xs.length ≤ big∧Q (.lst xs) L1) fun md L Q=>(W es).s md L fun xs L1=>xs.length ≤ big∧Q (.lst xs) L1
 | .ix a i=>.pl fun md L Q=>dfrW (W a) md L fun g L1=>(W i).v md L1 fun y L2=>wp (g L2) fun x=>wp (intF y) fun j=>wp (seqF x) fun xs=>wp (atF xs j) fun v=>Q v L2
 | .sl a lo hi=>.fr (fun md L Q=>dfrW (W a) md L fun g L1=>(W lo).o md L1 fun l L2=>(W hi).o md L2 fun h L3=>wp (g L3) fun x=>wp (sliceF x l h) fun z=>Q z L3) fun md L Q=>dfrW (W a) md L fun g L1=>(W lo).o md L1 fun l L2=>(W hi).o md L2 fun h L3=>wp (g L3) fun x=>wp (sliceF x l h) fun z=>isLstOp z = true∧Q z L3
 | .turn a=>.pl fun md L Q=>(W a).v md L fun x L1=>wp (tupF x) fun xs=>Q (.tup xs.reverse) L1
 | .call f args=>.fr (fun md L Q=>wCall Γ call f (W args) md L Q) fun md L Q=>(Γ f).2 = true∧wCall Γ call f (W args) md L Q
 | .blt f as=>.fr (fun md L Q=>bltW f (W as) md L Q) fun md L Q=>bltW f (W as) md L fun z L1=>isLstOp z = true∧Q z L1
 | .isi a ts=>.pl fun md L Q=>(W a).r md L fun x L1=>wp (isTysF x ts) fun r=>Q (.bl r) L1
 | .meth f o a=>.pl fun md L Q=>wMeth f (W o) (W a) md L Q
 | .comp el tg n m it ifs=>.fr (fun md L Q=>wComp Γ call el tg n m (W it).i ifs md L Q) fun md L Q=>wComp Γ call el tg n m (W it).i ifs md L Q
 | .nil=>⟨fun _ _ _=>False,fun _ _ _=>False,fun _ _ _=>False,fun _ _ _=>False,fun _ L Q=>Q true L,fun _ L Q=>Q [] L,fun _ _ _=>False,fun _ _ _=>False,none,none,fun _ _ _=>False,none⟩
 | .cons e es=>⟨fun _ _ _=>False,fun _ _ _=>False,fun _ _ _=>False,fun _ _ _=>False,fun md L Q=>(W e).t md L fun b L1=>if b = true then (W es).ts md L1 Q else Q false L1,
   fun md L Q=>(W e).v md L fun x L1=>(W es).s md L1 fun xs L2=>Q (x :: xs) L2,fun _ _ _=>False,fun _ _ _=>False,none,(W e).nm,(W es).s,oneW es (W e).r⟩
 | .none=>⟨fun _ _ _=>False,fun _ _ _=>False,fun _ _ _=>False,fun _ _ _=>False,fun _ _ _=>False,fun _ _ _=>False,fun _ L Q=>Q none L,fun _ _ _=>False,none,none,fun _ _ _=>False,none⟩
 | .rng a=>.wk fun md L Q=>(W a).v md L fun x L1=>wp (intF x) fun j=>small62 j = true∧Q (uptoF 0 j.toNat) md L1
 | .rng2 _ _=>.no
 | .zip a b=>.wk fun md L Q=>dfrW (W a) md L fun g L1=>(W b).r md L1 fun y L2=>wp (g L2) fun x=>wp (seqF x) fun xs=>wp (seqF y) fun ys=>Q (xs.zipWith (fun p q=>.tup [p,q]) ys) (freeze (freeze md (W a).nm) (W b).nm) L2
 | .enum _=>.no
 | .revr _=>.no
 | .rev _=>.no
end
section
variable {Γ:Nat→Bool×Bool} {call:Nat→List FV→Option (FV×FV)} (md:Md) (L:FLoc) (Q:FV→FLoc→Prop)
@[scoped simp ↓] theorem wv_var (i:Nat):(W Γ call (.var i)).v md L Q = immP md i (wp (lkF L i) fun x=>Q x L):=propext Iff.rfl
@[scoped simp ↓] theorem wr_var (i:Nat):(W Γ call (.var i)).r md L Q = (wp (lkF L i) fun x=>Q x L):=propext Iff.rfl
@[scoped simp ↓] theorem wo_var (i:Nat) (Q:Option Int→FLoc→Prop):(W Γ call (.var i)).o md L Q = (wp (lkF L i) fun x=>wp (intF x) fun j=>Q (some j) L):=propext Iff.rfl
@[scoped simp ↓] theorem wi_var (i:Nat) (Q:List FV→Md→FLoc→Prop):(W Γ call (.var i)).i md L Q = (wp (lkF L i) fun x=>wp (seqF x) fun xs=>Q xs (freeze md (some i)) L):=propext Iff.rfl
@[scoped simp ↓] theorem wn_var (i:Nat):(W Γ call (.var i)).nm = some i:=rfl
@[scoped simp ↓] theorem wv_int (i:Int):(W Γ call (.int i)).v md L Q = (Q (.int i) L):=propext Iff.rfl
@[scoped simp ↓] theorem wr_int (i:Int):(W Γ call (.int i)).r md L Q = (Q (.int i) L):=propext Iff.rfl
@[scoped simp ↓] theorem wo_int (i:Int) (Q:Option Int→FLoc→Prop):(W Γ call (.int i)).o md L Q = (W Γ call (.int i)).v md L fun x L1=>wp (intF x) fun i=>Q (some i) L1:=propext Iff.rfl
@[scoped simp ↓] theorem wn_int (i:Int):(W Γ call (.int i)).nm = none:=rfl
@[scoped simp ↓] theorem wv_bl (b:Bool):(W Γ call (.bl b)).v md L Q = (Q (.bl b) L):=propext Iff.rfl
@[scoped simp ↓] theorem wn_bl (b:Bool):(W Γ call (.bl b)).nm = none:=rfl
@[scoped simp ↓] theorem wv_non :(W Γ call (.non)).v md L Q = (Q .non L):=propext Iff.rfl
@[scoped simp ↓] theorem wn_non :(W Γ call (.non)).nm = none:=rfl
@[scoped simp ↓] theorem wv_str (x:String):(W Γ call (.str x)).v md L Q = (Q (.str x) L):=propext Iff.rfl
@[scoped simp ↓] theorem wn_str (x:String):(W Γ call (.str x)).nm = none:=rfl
@[scoped simp ↓] theorem wv_bin (op:BOp) (a b:E):(W Γ call (.bin op a b)).v md L Q = (dfrW (W Γ call a) md L fun g L1=>(W Γ call b).r md L1 fun y L2=>wp (g L2) fun x=>wp (binF op x y) fun z=>Q z L2):=propext Iff.rfl
@[scoped simp ↓] theorem wr_bin (op:BOp) (a b:E):(W Γ call (.bin op a b)).r md L Q = (dfrW (W Γ call a) md L fun g L1=>(W Γ call b).r md L1 fun y L2=>wp (g L2) fun x=>wp (binF op x y) fun z=>Q z L2):=propext Iff.rfl
@[scoped simp ↓] theorem wf_bin (op:BOp) (a b:E):(W Γ call (.bin op a b)).f md L Q = (dfrW (W Γ call a) md L fun g L1=>(W Γ call b).r md L1 fun y L2=>wp (g L2) fun x=>wp (binF op x y) fun z=>isLstOp z = true∧Q z L2):=propext Iff.rfl
@[scoped simp ↓] theorem wo_bin (op:BOp) (a b:E) (Q:Option Int→FLoc→Prop):(W Γ call (.bin op a b)).o md L Q = (W Γ call (.bin op a b)).v md L fun x L1=>wp (intF x) fun i=>Q (some i) L1:=propext Iff.rfl
@[scoped simp ↓] theorem wn_bin (op:BOp) (a b:E):(W Γ call (.bin op a b)).nm = none:=rfl
@[scoped simp ↓] theorem wv_cmp (op:COp) (a b:E):(W Γ call (.cmp op a b)).v md L Q = (dfrW (W Γ call a) md L fun g L1=>(W Γ call b).r md L1 fun y L2=>wp (g L2) fun x=>wp (cmpF op x y) fun z=>Q (.bl z) L2):=propext Iff.rfl
@[scoped simp ↓] theorem wr_cmp (op:COp) (a b:E):(W Γ call (.cmp op a b)).r md L Q = (dfrW (W Γ call a) md L fun g L1=>(W Γ call b).r md L1 fun y L2=>wp (g L2) fun x=>wp (cmpF op x y) fun z=>Q (.bl z) L2):=propext Iff.rfl
@[scoped simp ↓] theorem wn_cmp (op:COp) (a b:E):(W Γ call (.cmp op a b)).nm = none:=rfl
@[scoped simp ↓] theorem wv_is (k:Bool) (a c:E):(W Γ call (.is k a c)).v md L Q = ((W Γ call a).r md L fun x L1=>isC c k x fun z=>Q z L1):=propext Iff.rfl
@[scoped simp ↓] theorem wt_is (k:Bool) (a c:E) (Q:Bool→FLoc→Prop):(W Γ call (.is k a c)).t md L Q = (W Γ call (.is k a c)).v md L fun x L1=>wp (truF x) fun b=>Q b L1:=propext Iff.rfl
@[scoped simp ↓] theorem wn_is (k:Bool) (a c:E):(W Γ call (.is k a c)).nm = none:=rfl
@[scoped simp ↓] theorem wv_chain (o p:COp) (a b c:E):(W Γ call (.chain o p a b c)).v md L Q = (dfrW (W Γ call a) md L fun g L1=>(W Γ call b).v md L1 fun y L2=>wp (g L2) fun x=>wp (cmpF o x y) fun r=>if r = true then (W Γ call c).r md L2 fun z L3=>wp (cmpF p y z) fun q=>Q (.bl q) L3 else Q (.bl false) L2):=propext Iff.rfl
@[scoped simp ↓] theorem wt_chain (o p:COp) (a b c:E) (Q:Bool→FLoc→Prop):(W Γ call (.chain o p a b c)).t md L Q = (W Γ call (.chain o p a b c)).v md L fun x L1=>wp (truF x) fun b=>Q b L1:=propext Iff.rfl
@[scoped simp ↓] theorem wn_chain (o p:COp) (a b c:E):(W Γ call (.chain o p a b c)).nm = none:=rfl
@[scoped simp ↓] theorem wv_and (a b:E):(W Γ call (.and a b)).v md L Q = ((W Γ call a).v md L fun x L1=>wp (truF x) fun r=>if r = true then (W Γ call b).v md L1 Q else Q x L1):=propext Iff.rfl
@[scoped simp ↓] theorem wt_and (a b:E) (Q:Bool→FLoc→Prop):(W Γ call (.and a b)).t md L Q = ((W Γ call a).t md L fun r L1=>if r = true then (W Γ call b).t md L1 Q else Q false L1):=propext Iff.rfl
@[scoped simp ↓] theorem wn_and (a b:E):(W Γ call (.and a b)).nm = none:=rfl
@[scoped simp ↓] theorem wt_or (a b:E) (Q:Bool→FLoc→Prop):(W Γ call (.or a b)).t md L Q = ((W Γ call a).t md L fun r L1=>if r = true then Q true L1 else (W Γ call b).t md L1 Q):=propext Iff.rfl
@[scoped simp ↓] theorem wn_or (a b:E):(W Γ call (.or a b)).nm = none:=rfl
@[scoped simp ↓] theorem wv_not (a:E):(W Γ call (.not a)).v md L Q = ((W Γ call a).v md L fun x L1=>wp (blF x) fun b=>Q (.bl (!b)) L1):=propext Iff.rfl
@[scoped simp ↓] theorem wt_not (a:E) (Q:Bool→FLoc→Prop):(W Γ call (.not a)).t md L Q = ((W Γ call a).t md L fun r L1=>Q (!r) L1):=propext Iff.rfl
@[scoped simp ↓] theorem wn_not (a:E):(W Γ call (.not a)).nm = none:=rfl
@[scoped simp ↓] theorem wv_neg (a:E):(W Γ call (.neg a)).v md L Q = ((W Γ call a).v md L fun x L1=>wp (intF x) fun i=>Q (.int (-i)) L1):=propext Iff.rfl
@[scoped simp ↓] theorem wo_neg (a:E) (Q:Option Int→FLoc→Prop):(W Γ call (.neg a)).o md L Q = (W Γ call (.neg a)).v md L fun x L1=>wp (intF x) fun i=>Q (some i) L1:=propext Iff.rfl
@[scoped simp ↓] theorem wn_neg (a:E):(W Γ call (.neg a)).nm = none:=rfl
@[scoped simp ↓] theorem wv_ite (c a b:E):(W Γ call (.ite c a b)).v md L Q = ((W Γ call c).t md L fun r L1=>if r = true then (W Γ call a).v md L1 Q else (W Γ call b).v md L1 Q):=propext Iff.rfl
@[scoped simp ↓] theorem wn_ite (c a b:E):(W Γ call (.ite c a b)).nm = none:=rfl
@[scoped simp ↓] theorem wv_tup (es:E):(W Γ call (.tup es)).v md L Q = ((W Γ call es).s md L fun xs L1=>xs.length ≤ big∧Q (.tup xs) L1):=propext Iff.rfl
@[scoped simp ↓] theorem wr_tup (es:E):(W Γ call (.tup es)).r md L Q = ((W Γ call es).s md L fun xs L1=>xs.length ≤ big∧Q (.tup xs) L1):=propext Iff.rfl
@[scoped simp ↓] theorem wn_tup (es:E):(W Γ call (.tup es)).nm = none:=rfl
@[scoped simp ↓] theorem wv_lst (es:E):(W Γ call (.lst es)).v md L Q = ((W Γ call es).s md L fun xs L1=>xs.length ≤ big∧Q (.lst xs) L1):=propext Iff.rfl
@[scoped simp ↓] theorem wr_lst (es:E):(W Γ call (.lst es)).r md L Q = ((W Γ call es).s md L fun xs L1=>xs.length ≤ big∧Q (.lst xs) L1):=propext Iff.rfl
@[scoped simp ↓] theorem wf_lst (es:E):(W Γ call (.lst es)).f md L Q = (W Γ call (.lst es)).v md L Q:=propext Iff.rfl
@[scoped simp ↓] theorem wn_lst (es:E):(W Γ call (.lst es)).nm = none:=rfl
@[scoped simp ↓] theorem wv_ix (a i:E):(W Γ call (.ix a i)).v md L Q = (dfrW (W Γ call a) md L fun g L1=>(W Γ call i).v md L1 fun y L2=>wp (g L2) fun x=>wp (intF y) fun j=>wp (seqF x) fun xs=>wp (atF xs j) fun v=>Q v L2):=propext Iff.rfl
@[scoped simp ↓] theorem wr_ix (a i:E):(W Γ call (.ix a i)).r md L Q = (dfrW (W Γ call a) md L fun g L1=>(W Γ call i).v md L1 fun y L2=>wp (g L2) fun x=>wp (intF y) fun j=>wp (seqF x) fun xs=>wp (atF xs j) fun v=>Q v L2):=propext Iff.rfl
@[scoped simp ↓] theorem wn_ix (a i:E):(W Γ call (.ix a i)).nm = none:=rfl
@[scoped simp ↓] theorem wv_sl (a lo hi:E):(W Γ call (.sl a lo hi)).v md L Q = (dfrW (W Γ call a) md L fun g L1=>(W Γ call lo).o md L1 fun l L2=>(W Γ call hi).o md L2 fun h L3=>wp (g L3) fun x=>wp (sliceF x l h) fun z=>Q z L3):=propext Iff.rfl
@[scoped simp ↓] theorem wr_sl (a lo hi:E):(W Γ call (.sl a lo hi)).r md L Q = (dfrW (W Γ call a) md L fun g L1=>(W Γ call lo).o md L1 fun l L2=>(W Γ call hi).o md L2 fun h L3=>wp (g L3) fun x=>wp (sliceF x l h) fun z=>Q z L3):=propext Iff.rfl
@[scoped simp ↓] theorem wn_sl (a lo hi:E):(W Γ call (.sl a lo hi)).nm = none:=rfl
@[scoped simp ↓] theorem wv_turn (a:E):(W Γ call (.turn a)).v md L Q = ((W Γ call a).v md L fun x L1=>wp (tupF x) fun xs=>Q (.tup xs.reverse) L1):=propext Iff.rfl
@[scoped simp ↓] theorem wn_turn (a:E):(W Γ call (.turn a)).nm = none:=rfl
@[scoped simp ↓] theorem wv_call (f:Nat) (args:E):(W Γ call (.call f args)).v md L Q = (wCall Γ call f (W Γ call args) md L Q):=propext Iff.rfl
@[scoped simp ↓] theorem wr_call (f:Nat) (args:E):(W Γ call (.call f args)).r md L Q = (wCall Γ call f (W Γ call args) md L Q):=propext Iff.rfl
@[scoped simp ↓] theorem wf_call (f:Nat) (args:E):(W Γ call (.call f args)).f md L Q = ((Γ f).2 = true∧wCall Γ call f (W Γ call args) md L Q):=propext Iff.rfl
@[scoped simp ↓] theorem wt_call (f:Nat) (args:E) (Q:Bool→FLoc→Prop):(W Γ call (.call f args)).t md L Q = (W Γ call (.call f args)).v md L fun x L1=>wp (truF x) fun b=>Q b L1:=propext Iff.rfl
@[scoped simp ↓] theorem wn_call (f:Nat) (args:E):(W Γ call (.call f args)).nm = none:=rfl
@[scoped simp ↓] theorem wv_blt (f:BF) (as:E):(W Γ call (.blt f as)).v md L Q = (bltW f (W Γ call as) md L Q):=propext Iff.rfl
@[scoped simp ↓] theorem wr_blt (f:BF) (as:E):(W Γ call (.blt f as)).r md L Q = (bltW f (W Γ call as) md L Q):=propext Iff.rfl
@[scoped simp ↓] theorem wt_blt (f:BF) (as:E) (Q:Bool→FLoc→Prop):(W Γ call (.blt f as)).t md L Q = (W Γ call (.blt f as)).v md L fun x L1=>wp (truF x) fun b=>Q b L1:=propext Iff.rfl
@[scoped simp ↓] theorem wn_blt (f:BF) (as:E):(W Γ call (.blt f as)).nm = none:=rfl
@[scoped simp ↓] theorem wv_isi (a:E) (ts:List Ty):(W Γ call (.isi a ts)).v md L Q = ((W Γ call a).r md L fun x L1=>wp (isTysF x ts) fun r=>Q (.bl r) L1):=propext Iff.rfl
@[scoped simp ↓] theorem wt_isi (a:E) (ts:List Ty) (Q:Bool→FLoc→Prop):(W Γ call (.isi a ts)).t md L Q = (W Γ call (.isi a ts)).v md L fun x L1=>wp (truF x) fun b=>Q b L1:=propext Iff.rfl
@[scoped simp ↓] theorem wn_isi (a:E) (ts:List Ty):(W Γ call (.isi a ts)).nm = none:=rfl
@[scoped simp ↓] theorem wv_meth (f:MF) (o a:E):(W Γ call (.meth f o a)).v md L Q = (wMeth f (W Γ call o) (W Γ call a) md L Q):=propext Iff.rfl
@[scoped simp ↓] theorem wn_meth (f:MF) (o a:E):(W Γ call (.meth f o a)).nm = none:=rfl
@[scoped simp ↓] theorem wv_comp (el:E) (tg:Tg) (n m:Nat) (it ifs:E):(W Γ call (.comp el tg n m it ifs)).v md L Q = (wComp Γ call el tg n m (W Γ call it).i ifs md L Q):=propext Iff.rfl
@[scoped simp ↓] theorem wr_comp (el:E) (tg:Tg) (n m:Nat) (it ifs:E):(W Γ call (.comp el tg n m it ifs)).r md L Q = (wComp Γ call el tg n m (W Γ call it).i ifs md L Q):=propext Iff.rfl
@[scoped simp ↓] theorem wn_comp (el:E) (tg:Tg) (n m:Nat) (it ifs:E):(W Γ call (.comp el tg n m it ifs)).nm = none:=rfl
@[scoped simp ↓] theorem wi_rng (a:E) (Q:List FV→Md→FLoc→Prop):(W Γ call (.rng a)).i md L Q = ((W Γ call a).v md L fun x L1=>wp (intF x) fun j=>small62 j = true∧Q (uptoF 0 j.toNat) md L1):=propext Iff.rfl
@[scoped simp ↓] theorem wi_zip (a b:E) (Q:List FV→Md→FLoc→Prop):(W Γ call (.zip a b)).i md L Q = (dfrW (W Γ call a) md L fun g L1=>(W Γ call b).r md L1 fun y L2=>wp (g L2) fun x=>wp (seqF x) fun xs=>wp (seqF y) fun ys=>Q (xs.zipWith (fun p q=>.tup [p,q]) ys) (freeze (freeze md (W Γ call a).nm) (W Γ call b).nm) L2):=propext Iff.rfl
@[scoped simp ↓] theorem dw_v2 (i:Nat) (k:(FLoc→Option FV)→FLoc→Prop):dfrW (W Γ call (.var i)) md L k = k (fun L'=>lkF L' i) L:=propext Iff.rfl
@[scoped simp ↓] theorem dw_int (i:Int) (k:(FLoc→Option FV)→FLoc→Prop):dfrW (W Γ call (.int i)) md L k = (W Γ call (.int i)).r md L fun x L1=>k (fun _=>some x) L1:=propext Iff.rfl
@[scoped simp ↓] theorem dw_bin (op:BOp) (a b:E) (k:(FLoc→Option FV)→FLoc→Prop):dfrW (W Γ call (.bin op a b)) md L k = (W Γ call (.bin op a b)).r md L fun x L1=>k (fun _=>some x) L1:=propext Iff.rfl
@[scoped simp ↓] theorem dw_tup (es:E) (k:(FLoc→Option FV)→FLoc→Prop):dfrW (W Γ call (.tup es)) md L k = (W Γ call (.tup es)).r md L fun x L1=>k (fun _=>some x) L1:=propext Iff.rfl
@[scoped simp ↓] theorem dw_lst (es:E) (k:(FLoc→Option FV)→FLoc→Prop):dfrW (W Γ call (.lst es)) md L k = (W Γ call (.lst es)).r md L fun x L1=>k (fun _=>some x) L1:=propext Iff.rfl
@[scoped simp ↓] theorem dw_ix (a i:E) (k:(FLoc→Option FV)→FLoc→Prop):dfrW (W Γ call (.ix a i)) md L k = (W Γ call (.ix a i)).r md L fun x L1=>k (fun _=>some x) L1:=propext Iff.rfl
@[scoped simp ↓] theorem dw_sl (a lo hi:E) (k:(FLoc→Option FV)→FLoc→Prop):dfrW (W Γ call (.sl a lo hi)) md L k = (W Γ call (.sl a lo hi)).r md L fun x L1=>k (fun _=>some x) L1:=propext Iff.rfl
@[scoped simp ↓] theorem dw_call (f:Nat) (args:E) (k:(FLoc→Option FV)→FLoc→Prop):dfrW (W Γ call (.call f args)) md L k = (W Γ call (.call f args)).r md L fun x L1=>k (fun _=>some x) L1:=propext Iff.rfl
@[scoped simp ↓] theorem dw_blt (f:BF) (as:E) (k:(FLoc→Option FV)→FLoc→Prop):dfrW (W Γ call (.blt f as)) md L k = (W Γ call (.blt f as)).r md L fun x L1=>k (fun _=>some x) L1:=propext Iff.rfl
@[scoped simp ↓] theorem bw_1 (f:BF) (a:E):bltW f (W Γ call (.cons a .nil)) md L Q = (W Γ call a).r md L fun x L1=>wp (bfunF f x) fun z=>Q z L1:=propext Iff.rfl
@[scoped simp ↓] theorem bw_2 (f:BF) (a b:E):bltW f (W Γ call (.cons a (.cons b .nil))) md L Q = (W Γ call a).v md L fun x L1=>(W Γ call b).v md L1 fun y L2=>wp (bf2F f [x,y]) fun z=>Q z L2:=propext Iff.rfl
@[scoped simp ↓ high] theorem wv_binv (op:BOp) (i:Nat) (b:E):(W Γ call (.bin op (.var i) b)).v md L Q = ((W Γ call b).r md L fun y L2=>wp (lkF L2 i) fun x=>wp (binF op x y) fun z=>Q z L2):=propext Iff.rfl
@[scoped simp ↓ high] theorem wr_binv (op:BOp) (i:Nat) (b:E):(W Γ call (.bin op (.var i) b)).r md L Q = ((W Γ call b).r md L fun y L2=>wp (lkF L2 i) fun x=>wp (binF op x y) fun z=>Q z L2):=propext Iff.rfl
@[scoped simp ↓ high] theorem wv_cmpv (op:COp) (i:Nat) (b:E):(W Γ call (.cmp op (.var i) b)).v md L Q = ((W Γ call b).r md L fun y L2=>wp (lkF L2 i) fun x=>wp (cmpF op x y) fun z=>Q (.bl z) L2):=propext Iff.rfl
@[scoped simp ↓ high] theorem wv_ixv (i:Nat) (b:E):(W Γ call (.ix (.var i) b)).v md L Q = ((W Γ call b).v md L fun y L2=>wp (lkF L2 i) fun x=>wp (intF y) fun j=>wp (seqF x) fun xs=>wp (atF xs j) fun v=>Q v L2):=propext Iff.rfl
@[scoped simp ↓ high] theorem wr_ixv (i:Nat) (b:E):(W Γ call (.ix (.var i) b)).r md L Q = ((W Γ call b).v md L fun y L2=>wp (lkF L2 i) fun x=>wp (intF y) fun j=>wp (seqF x) fun xs=>wp (atF xs j) fun v=>Q v L2):=propext Iff.rfl
@[scoped simp ↓ high] theorem wt_cmp2 (op:COp) (a b:E) (Q:Bool→FLoc→Prop):(W Γ call (.cmp op a b)).t md L Q = (dfrW (W Γ call a) md L fun g L1=>(W Γ call b).r md L1 fun y L2=>wp (g L2) fun x=>wp (cmpF op x y) fun z=>Q z L2):=propext Iff.rfl
@[scoped simp ↓ high] theorem rv_0 (v:FV) (M:FLoc):(W Γ call (.var 0)).r md (some v :: M) Q = Q v (some v :: M):=propext Iff.rfl
@[scoped simp ↓ high] theorem vv_0 (v:FV) (M:FLoc):(W Γ call (.var 0)).v [] (some v :: M) Q = Q v (some v :: M):=propext Iff.rfl
@[scoped simp ↓ high] theorem lk_0 (v:FV) (M:FLoc) (Q:FV→Prop):wp (lkF (some v :: M) 0) Q = Q v:=propext Iff.rfl
@[scoped simp ↓ high] theorem rv_1 (x0:Option FV) (v:FV) (M:FLoc):(W Γ call (.var 1)).r md (x0 :: some v :: M) Q = Q v (x0 :: some v :: M):=propext Iff.rfl
@[scoped simp ↓ high] theorem vv_1 (x0:Option FV) (v:FV) (M:FLoc):(W Γ call (.var 1)).v [] (x0 :: some v :: M) Q = Q v (x0 :: some v :: M):=propext Iff.rfl
@[scoped simp ↓ high] theorem vw_1 (m:Mo) (x0:Option FV) (v:FV) (M:FLoc):(W Γ call (.var 1)).v [m] (x0 :: some v :: M) Q = Q v (x0 :: some v :: M):=propext Iff.rfl
@[scoped simp ↓ high] theorem lk_1 (x0:Option FV) (v:FV) (M:FLoc) (Q:FV→Prop):wp (lkF (x0 :: some v :: M) 1) Q = Q v:=propext Iff.rfl
@[scoped simp ↓ high] theorem rv_2 (x0 x1:Option FV) (v:FV) (M:FLoc):(W Γ call (.var 2)).r md (x0 :: x1 :: some v :: M) Q = Q v (x0 :: x1 :: some v :: M):=propext Iff.rfl
@[scoped simp ↓ high] theorem lk_2 (x0 x1:Option FV) (v:FV) (M:FLoc) (Q:FV→Prop):wp (lkF (x0 :: x1 :: some v :: M) 2) Q = Q v:=propext Iff.rfl
@[scoped simp ↓ high] theorem lk_3 (x0 x1 x2:Option FV) (v:FV) (M:FLoc) (Q:FV→Prop):wp (lkF (x0 :: x1 :: x2 :: some v :: M) 3) Q = Q v:=propext Iff.rfl
@[scoped simp ↓ high] theorem vw_4 (m:Mo) (x0 x1 x2 x3:Option FV) (v:FV) (M:FLoc):(W Γ call (.var 4)).v [m] (x0 :: x1 :: x2 :: x3 :: some v :: M) Q = Q v (x0 :: x1 :: x2 :: x3 :: some v :: M):=propext Iff.rfl
@[scoped simp ↓ high] theorem lk_4 (x0 x1 x2 x3:Option FV) (v:FV) (M:FLoc) (Q:FV→Prop):wp (lkF (x0 :: x1 :: x2 :: x3 :: some v :: M) 4) Q = Q v:=propext Iff.rfl
@[scoped simp ↓ high] theorem lk_5 (x0 x1 x2 x3 x4:Option FV) (v:FV) (M:FLoc) (Q:FV→Prop):wp (lkF (x0 :: x1 :: x2 :: x3 :: x4 :: some v :: M) 5) Q = Q v:=propext Iff.rfl
@[scoped simp ↓ high] theorem lk_6 (x0 x1 x2 x3 x4 x5:Option FV) (v:FV) (M:FLoc) (Q:FV→Prop):wp (lkF (x0 :: x1 :: x2 :: x3 :: x4 :: x5 :: some v :: M) 6) Q = Q v:=propext Iff.rfl
@[scoped simp ↓ high] theorem lk_7 (x0 x1 x2 x3 x4 x5 x6:Option FV) (v:FV) (M:FLoc) (Q:FV→Prop):wp (lkF (x0 :: x1 :: x2 :: x3 :: x4 :: x5 :: x6 :: some v :: M) 7) Q = Q v:=propext Iff.rfl
@[scoped simp ↓ high] theorem lk_8 (x0 x1 x2 x3 x4 x5 x6 x7:Option FV) (v:FV) (M:FLoc) (Q:FV→Prop):wp (lkF (x0 :: x1 :: x2 :: x3 :: x4 :: x5 :: x6 :: x7 :: some v :: M) 8) Q = Q v:=propext Iff.rfl
@[scoped simp ↓ high] theorem lk_9 (x0 x1 x2 x3 x4 x5 x6 x7 x8:Option FV) (v:FV) (M:FLoc) (Q:FV→Prop):wp (lkF (x0 :: x1 :: x2 :: x3 :: x4 :: x5 :: x6 :: x7 :: x8 :: some v :: M) 9) Q = Q v:=propext Iff.rfl
@[scoped simp ↓ high] theorem lk_10 (x0 x1 x2 x3 x4 x5 x6 x7 x8 x9:Option FV) (v:FV) (M:FLoc) (Q:FV→Prop):wp (lkF (x0 :: x1 :: x2 :: x3 :: x4 :: x5 :: x6 :: x7 :: x8 :: x9 :: some v :: M) 10) Q = Q v:=propext Iff.rfl
@[scoped simp ↓ high] theorem im_1 (m:Mo) (n:Nat) (P:Prop):immP [m] (n + 1) P = P:=propext Iff.rfl
@[scoped simp ↓] theorem wo_none (Q:Option Int→FLoc→Prop):(W Γ call .none).o md L Q = Q none L:=propext Iff.rfl
@[scoped simp ↓] theorem ws_nil (Q:List FV→FLoc→Prop):(W Γ call .nil).s md L Q = Q [] L:=propext Iff.rfl
@[scoped simp ↓] theorem ws_cons (e es:E) (Q:List FV→FLoc→Prop):(W Γ call (.cons e es)).s md L Q = (W Γ call e).v md L fun x L1=>(W Γ call es).s md L1 fun xs L2=>Q (x :: xs) L2:=propext Iff.rfl
@[scoped simp ↓] theorem wh_cons (e es:E):(W Γ call (.cons e es)).hd = (W Γ call e).nm:=rfl
@[scoped simp ↓] theorem wts_nil (Q:Bool→FLoc→Prop):(W Γ call .nil).ts md L Q = Q true L:=propext Iff.rfl
@[scoped simp] theorem isC_bl (k b:Bool) (x:FV) (Q:FV→Prop):isC (.bl b) k x Q = Q (.bl (k != isBlF b x)):=propext Iff.rfl
@[scoped simp ↓] theorem wm_app (k:Nat) (a:E):wMeth .append (W Γ call (.var k)) (W Γ call a) md L Q = ownP md k ((W Γ call a).v md L fun y L1=>wp (lkF L1 k) fun x=>wp (listF x) fun xs=>wp (mfunF .append xs y) fun zs=>Q .non (L1.set k (some (.lst zs)))):=propext Iff.rfl
@[scoped simp ↓] theorem wcomp_eq (el:E) (tg:Tg) (n m:Nat) (i:Md→FLoc→(List FV→Md→FLoc→Prop)→Prop) (ifs:E):wComp Γ call el tg n m i ifs md L Q =
 (i md L fun xs md' L1=>L1.length = n∧tgGe n tg = true∧wp (compF tg md' n m (tsF Γ call ifs) (elF Γ call el) xs L1) fun ys=>ys.1.length ≤ big∧Q (.lst ys.1) ys.2):=rfl
end
section
variable (Γ:Nat→Bool×Bool) (call:Nat→List FV→Option (FV×FV))
noncomputable def R1 {α:Type} (s:Md→FLoc→FR α) (w:Md→FLoc→(α→FLoc→Prop)→Prop):Prop:=∀ md L Q,w md L Q→∃ x L',s md L = some (x,L')∧Q x L'
noncomputable def RI (s:Md→FLoc→Option (List FV×Md×FLoc)) (w:Md→FLoc→(List FV→Md→FLoc→Prop)→Prop):Prop:=∀ md L Q,w md L Q→∃ xs md' L',s md L = some (xs,md',L')∧Q xs md' L'
structure WOk (m:Sem) (w:WSem):Prop where
 v:R1 m.v w.v
 r:R1 m.r w.r
 f:R1 m.f w.f
 t:R1 m.t w.t
 ts:R1 m.ts w.ts
 s:R1 m.s w.s
 o:R1 m.o w.o
 i:RI m.i w.i
 nm:m.nm = w.nm
 hd:m.hd = w.hd
 tl:R1 m.tl w.tl
 one:(∀ r,m.one = some r→∃ r',w.one = some r'∧R1 r r')∧(m.one = none→w.one = none)
end
theorem wpx {α:Type} {r:Option α} {Q:α→Prop} (h:wp r Q):∃ x,r = some x∧Q x:=wp_iff.mp h
theorem n1 {α:Type} {β:Type} {P:α→β→Prop}:(∀ r,(none:Option α) = some r→∃ r',(none:Option β) = some r'∧P r r')∧((none:Option α) = none→(none:Option β) = none):=⟨fun _ h=>(by cases h),fun _=>rfl⟩
theorem R1.no {α:Type} {s:Md→FLoc→FR α}:R1 s fun _ _ _=>False:=fun _ _ _ h=>h.elim
theorem RI.no {s:Md→FLoc→Option (List FV×Md×FLoc)}:RI s fun _ _ _=>False:=fun _ _ _ h=>h.elim
section
variable {Γ:Nat→Bool×Bool} {call:Nat→List FV→Option (FV×FV)}
theorem w_fr {v f:Md→FLoc→FR FV} {w g:WV} (h:R1 v w) (k:R1 f g):WOk (.fr v f) (.fr w g):=by
 refine ⟨h,h,k,fun md L Q q=>?_,.no,.no,fun md L Q q=>?_,fun md L Q q=>?_,rfl,rfl,.no,n1⟩
 ·obtain ⟨x,L1,e,q⟩:=h md L _ q
  obtain ⟨b,e2,q⟩:=wpx q
  exact ⟨b,L1,by simp only [Sem.fr,tOf,e,Option.bind_some,e2,Option.map_some],q⟩
 ·obtain ⟨x,L1,e,q⟩:=h md L _ q
  obtain ⟨b,e2,q⟩:=wpx q
  exact ⟨some b,L1,by simp only [Sem.fr,oOf,e,Option.bind_some,e2,Option.map_some],q⟩
 ·obtain ⟨x,L1,e,q⟩:=h md L _ q
  obtain ⟨b,e2,q⟩:=wpx q
  exact ⟨b,md,L1,by simp only [Sem.fr,iOf,e,Option.bind_some,e2,Option.map_some],q⟩
theorem w_pl {v:Md→FLoc→FR FV} {w:WV} (h:R1 v w):WOk (.pl v) (.pl w):=by
 obtain ⟨a1,a2,a3,a4,a5,a6,a7,a8,a9,a10,a11,a12⟩:=w_fr (f:=fun _ _=>none) h .no
 exact ⟨a1,a2,a3,a4,a5,a6,a7,a8,a9,a10,a11,a12⟩
theorem w_te {v:Md→FLoc→FR FV} {t:Md→FLoc→FR Bool} {w:WV} {u:Md→FLoc→(Bool→FLoc→Prop)→Prop} (h:R1 v w) (k:R1 t u):WOk (.te v t) (.te w u):=by
 obtain ⟨a1,a2,a3,a4,a5,a6,a7,a8,a9,a10,a11,a12⟩:=w_fr (f:=fun _ _=>none) h .no
 exact ⟨a1,a2,a3,k,a5,a6,a7,a8,a9,a10,a11,a12⟩
theorem w_wk {i:Md→FLoc→Option (List FV×Md×FLoc)} {j:Md→FLoc→(List FV→Md→FLoc→Prop)→Prop} (h:RI i j):WOk (.wk i) (.wk j):=⟨.no,.no,.no,.no,.no,.no,.no,h,rfl,rfl,.no,n1⟩
theorem w_no:WOk .no .no:=⟨.no,.no,.no,.no,.no,.no,.no,.no,rfl,rfl,.no,n1⟩
theorem lst_of {g:Md→FLoc→FR FV} {w:WV} {w':WV} (h:R1 g w) (e:∀ md L Q,w' md L Q→w md L fun z L1=>isLstOp z = true∧Q z L1):R1 (fun md L=>(g md L).bind fun z=>if isLstOp z.1 then some z else none) w':=fun md L Q q=>by
 obtain ⟨x,L1,e1,h1,q⟩:=h md L _ (e md L Q q)
 exact ⟨x,L1,by simp only [e1,Option.bind_some,h1,if_true],q⟩
theorem call_W {f:Nat} {a:Sem} {b:WSem} (h:WOk a b):R1 (callS Γ call f a) (wCall Γ call f b):=fun md L Q q=>by
 unfold wCall at q
 unfold callS
 cases hg:(Γ f).1 with
 | false =>
  rw [hg] at q
  obtain ⟨xs,L1,e1,q⟩:=h.s md L _ q
  obtain ⟨z,e2,q⟩:=wpx q
  exact ⟨z.1,L1,by simp only [e1,Option.bind_some,e2,Option.map_some],q⟩
 | true =>
  rw [hg] at q
  rw [h.hd]
  cases hh:b.hd with
  | none=>rw [hh] at q; exact q.elim
  | some i =>
   rw [hh] at q
   obtain ⟨hm,q⟩:=ownP_iff.mp q
   obtain ⟨xs,L1,e1,q⟩:=h.tl md L _ q
   obtain ⟨x,e2,q⟩:=wpx q
   obtain ⟨z,e3,q⟩:=wpx q
   exact ⟨z.1,_,by simp only [hm,if_true,e1,Option.bind_some,e2,e3,Option.map_some],q⟩
theorem meth_W {f:MF} {o a:Sem} {o' a':WSem} (ho:WOk o o') (ha:WOk a a'):R1 (methS f o a) (wMeth f o' a'):=fun md L Q q=>by
 unfold wMeth at q
 unfold methS
 rw [ho.nm]
 cases hn:o'.nm with
 | none=>rw [hn] at q; exact q.elim
 | some k =>
  rw [hn] at q
  obtain ⟨hm,q⟩:=ownP_iff.mp q
  cases f with
  | append =>
   obtain ⟨y,L1,e1,q⟩:=ha.v md L _ q
   obtain ⟨x,e2,q⟩:=wpx q
   obtain ⟨xs,e3,q⟩:=wpx q
   obtain ⟨zs,e4,q⟩:=wpx q
   exact ⟨.non,_,by simp only [hm,if_true,e1,Option.bind_some,e2,e3,e4,Option.map_some],q⟩
  | extend =>
   obtain ⟨hne,q⟩:=q
   obtain ⟨y,L1,e1,q⟩:=ha.r md L _ q
   obtain ⟨x,e2,q⟩:=wpx q
   obtain ⟨xs,e3,q⟩:=wpx q
   obtain ⟨zs,e4,q⟩:=wpx q
   exact ⟨.non,_,by simp only [hm,if_true,ha.nm,hne,if_false,e1,Option.bind_some,e2,e3,e4,Option.map_some],q⟩
theorem dfr_W {β:Type} {a:E} (ha:WOk (sem Γ call a) (W Γ call a)) {md:Md} {L:FLoc} {k:(FLoc→Option FV)→FLoc→Option β} {k':(FLoc→Option FV)→FLoc→Prop} {R:β→Prop} (h:dfrW (W Γ call a) md L k') (H:∀ g L1,k' g L1→∃ z,k g L1 = some z∧R z):∃ z,dfr (sem Γ call a) md L k = some z∧R z:=by
 unfold dfrW at h
 unfold dfr
 rw [ha.nm]
 cases hn:(W Γ call a).nm with
 | some i=>rw [hn] at h; exact H _ _ h
 | none =>
  rw [hn] at h
  obtain ⟨x,L1,e1,q⟩:=ha.r md L _ h
  obtain ⟨z,e2,q⟩:=H _ _ q
  exact ⟨z,by simp only [e1,Option.bind_some,e2],q⟩
theorem blt_W {f:BF} {as:E} (h0:WOk (sem Γ call as) (W Γ call as)):WOk (sem Γ call (.blt f as)) (W Γ call (.blt f as)):=by
 have h:R1 (sem Γ call (.blt f as)).v (W Γ call (.blt f as)).v:=fun md L Q q=>by
  have q:bltW f (W Γ call as) md L Q:=q
  unfold bltW at q
  cases ho:(sem Γ call as).one with
  | some r =>
   obtain ⟨r',e,R⟩:=h0.one.1 r ho
   rw [e] at q
   obtain ⟨x,L1,e1,q⟩:=R md L _ q
   obtain ⟨z,e2,q⟩:=wpx q
   exact ⟨z,L1,by simp only [semR_blt_v,ho,e1,Option.bind_some,e2,Option.map_some],q⟩
  | none =>
   rw [h0.one.2 ho] at q
   obtain ⟨xs,L1,e1,q⟩:=h0.s md L _ q
   obtain ⟨z,e2,q⟩:=wpx q
   exact ⟨z,L1,by simp only [semR_blt_v,ho,e1,Option.bind_some,e2,Option.map_some],q⟩
 exact w_fr h (lst_of h fun _ _ _ q=>q)
theorem W_ok:∀ e:E,WOk (sem Γ call e) (W Γ call e)
 | .var i=>by
  refine ⟨fun md L Q q=>?_,fun md L Q q=>?_,.no,fun md L Q q=>?_,.no,.no,fun md L Q q=>?_,fun md L Q q=>?_,rfl,rfl,.no,n1⟩
  ·obtain ⟨h,q⟩:=immP_iff.mp q
   obtain ⟨x,e,q⟩:=wpx q
   exact ⟨x,L,by simp only [semR_var_v,semR_var_r,semR_var_t,semR_var_o,semR_var_i,h,if_true,e,Option.map_some],q⟩
  ·obtain ⟨x,e,q⟩:=wpx q
   exact ⟨x,L,by simp only [semR_var_v,semR_var_r,semR_var_t,semR_var_o,semR_var_i,e,Option.map_some],q⟩
  ·obtain ⟨x,e,q⟩:=wpx q
   obtain ⟨b,e2,q⟩:=wpx q
   exact ⟨b,L,by simp only [semR_var_v,semR_var_r,semR_var_t,semR_var_o,semR_var_i,e,Option.bind_some,e2,Option.map_some],q⟩
  ·obtain ⟨x,e,q⟩:=wpx q
   obtain ⟨b,e2,q⟩:=wpx q
   exact ⟨some b,L,by simp only [semR_var_v,semR_var_r,semR_var_t,semR_var_o,semR_var_i,e,Option.bind_some,e2,Option.map_some],q⟩
  ·obtain ⟨x,e,q⟩:=wpx q
   obtain ⟨b,e2,q⟩:=wpx q
   exact ⟨b,_,L,by simp only [semR_var_v,semR_var_r,semR_var_t,semR_var_o,semR_var_i,e,Option.bind_some,e2,Option.map_some],q⟩
 | .int i=>w_pl fun md L Q q=>⟨_,_,rfl,q⟩
 | .bl i=>w_pl fun md L Q q=>⟨_,_,rfl,q⟩
 | .non=>w_pl fun md L Q q=>⟨_,_,rfl,q⟩
 | .str i=>w_pl fun md L Q q=>⟨_,_,rfl,q⟩
 | .bin op a b=>by
  have h:R1 (sem Γ call (.bin op a b)).v (W Γ call (.bin op a b)).v:=fun md L Q q=>by
   rw [wv_bin] at q
   obtain ⟨⟨z,L2⟩,e,q⟩:=dfr_W (R:=fun z=>Q z.1 z.2) (k:=fun g L1=>((sem Γ call b).r md L1).bind fun y=>(g y.2).bind fun x=>(binF op x y.1).map fun z=>(z,y.2)) (W_ok a) q fun g L1 q=>by
    obtain ⟨y,L2,e2,q⟩:=(W_ok b).r md L1 _ q
    obtain ⟨x',e3,q⟩:=wpx q
    obtain ⟨z,e4,q⟩:=wpx q
    exact ⟨(z,L2),by simp only [e2,Option.bind_some,e3,e4,Option.map_some],q⟩
   exact ⟨z,L2,e,q⟩
  exact w_fr h (lst_of h fun _ _ _ q=>q)
 | .cmp op a b=>w_pl fun md L Q q=>by
   obtain ⟨⟨z,L2⟩,e,q⟩:=dfr_W (R:=fun z=>Q z.1 z.2) (k:=fun g L1=>((sem Γ call b).r md L1).bind fun y=>(g y.2).bind fun x=>(cmpF op x y.1).map fun z=>(FV.bl z,y.2)) (W_ok a) q fun g L1 q=>by
    obtain ⟨y,L2,e2,q⟩:=(W_ok b).r md L1 _ q
    obtain ⟨x',e3,q⟩:=wpx q
    obtain ⟨z,e4,q⟩:=wpx q
    exact ⟨(.bl z,L2),by simp only [e2,Option.bind_some,e3,e4,Option.map_some],q⟩
   exact ⟨z,L2,e,q⟩
 | .is k a c=>w_pl fun md L Q q=>by
   obtain ⟨x,L1,e1,q⟩:=(W_ok a).r md L _ q
   cases c <;> first | exact q.elim | skip
   ·exact ⟨_,L1,by simp only [e1,Option.bind_some],q⟩
   ·exact ⟨_,L1,by simp only [e1,Option.bind_some],q⟩
 | .chain o p a b c=>w_pl fun md L Q q=>by
   obtain ⟨⟨z,L2⟩,e,q⟩:=dfr_W (R:=fun z=>Q z.1 z.2) (k:=fun g L1=>((sem Γ call b).v md L1).bind fun y=>(g y.2).bind fun x=>(cmpF o x y.1).bind fun r =>
     if r = true then ((sem Γ call c).r md y.2).bind fun z=>(cmpF p y.1 z.1).map fun q=>(FV.bl q,z.2) else some (.bl false,y.2)) (W_ok a) q fun g L1 q=>by
    obtain ⟨y,L2,e2,q⟩:=(W_ok b).v md L1 _ q
    obtain ⟨x',e3,q⟩:=wpx q
    obtain ⟨r,e4,q⟩:=wpx q
    cases r with
    | false=>exact ⟨(.bl false,L2),by simp only [e2,Option.bind_some,e3,e4]; rfl,q⟩
    | true =>
     obtain ⟨z,L3,e5,q⟩:=(W_ok c).r md L2 _ q
     obtain ⟨w,e6,q⟩:=wpx q
     exact ⟨(.bl w,L3),by simp only [e2,Option.bind_some,e3,e4,if_true,e5,e6,Option.map_some],q⟩
   exact ⟨z,L2,e,q⟩
 | .and a b=>by
  refine w_te (fun md L Q q=>?_) (fun md L Q q=>?_)
  ·obtain ⟨x,L1,e1,q⟩:=(W_ok a).v md L _ q
   obtain ⟨r,e2,q⟩:=wpx q
   cases r with
   | false=>exact ⟨x,L1,by simp only [e1,Option.bind_some,e2]; rfl,q⟩
   | true =>
    obtain ⟨y,L2,e3,q⟩:=(W_ok b).v md L1 _ q
    exact ⟨y,L2,by simp only [e1,Option.bind_some,e2,if_true,e3],q⟩
  ·obtain ⟨r,L1,e1,q⟩:=(W_ok a).t md L _ q
   cases r with
   | false=>exact ⟨false,L1,by simp only [e1,Option.bind_some]; rfl,q⟩
   | true =>
    obtain ⟨y,L2,e3,q⟩:=(W_ok b).t md L1 _ q
    exact ⟨y,L2,by simp only [e1,Option.bind_some,if_true,e3],q⟩
 | .or a b=>by
  refine w_te (fun md L Q q=>?_) (fun md L Q q=>?_)
  ·obtain ⟨x,L1,e1,q⟩:=(W_ok a).v md L _ q
   obtain ⟨r,e2,q⟩:=wpx q
   cases r with
   | true=>exact ⟨x,L1,by simp only [e1,Option.bind_some,e2,if_true],q⟩
   | false =>
    obtain ⟨y,L2,e3,q⟩:=(W_ok b).v md L1 _ q
    exact ⟨y,L2,by simp only [e1,Option.bind_some,e2]; exact e3,q⟩
  ·obtain ⟨r,L1,e1,q⟩:=(W_ok a).t md L _ q
   cases r with
   | true=>exact ⟨true,L1,by simp only [e1,Option.bind_some,if_true],q⟩
   | false =>
    obtain ⟨y,L2,e3,q⟩:=(W_ok b).t md L1 _ q
    exact ⟨y,L2,by simp only [e1,Option.bind_some]; exact e3,q⟩
 | .not a=>by
  refine w_te (fun md L Q q=>?_) (fun md L Q q=>?_)
  ·obtain ⟨x,L1,e1,q⟩:=(W_ok a).v md L _ q
   obtain ⟨r,e2,q⟩:=wpx q
   exact ⟨_,L1,by simp only [e1,Option.bind_some,e2,Option.map_some],q⟩
  ·obtain ⟨r,L1,e1,q⟩:=(W_ok a).t md L _ q
   exact ⟨_,L1,by simp only [e1,Option.map_some],q⟩
 | .neg a=>w_pl fun md L Q q=>by
   obtain ⟨x,L1,e1,q⟩:=(W_ok a).v md L _ q
   obtain ⟨r,e2,q⟩:=wpx q
   exact ⟨_,L1,by simp only [e1,Option.bind_some,e2,Option.map_some],q⟩
 | .turn a=>w_pl fun md L Q q=>by
   obtain ⟨x,L1,e1,q⟩:=(W_ok a).v md L _ q
   obtain ⟨r,e2,q⟩:=wpx q
   exact ⟨_,L1,by simp only [e1,Option.bind_some,e2,Option.map_some],q⟩
 | .ite c a b=>by
  refine w_te (fun md L Q q=>?_) (fun md L Q q=>?_)
  ·obtain ⟨r,L1,e1,q⟩:=(W_ok c).t md L _ q
   cases r with
   | true =>
    obtain ⟨y,L2,e3,q⟩:=(W_ok a).v md L1 _ q
    exact ⟨y,L2,by simp only [e1,Option.bind_some,if_true,e3],q⟩
   | false =>
    obtain ⟨y,L2,e3,q⟩:=(W_ok b).v md L1 _ q
    exact ⟨y,L2,by simp only [e1,Option.bind_some]; exact e3,q⟩
  ·obtain ⟨r,L1,e1,q⟩:=(W_ok c).t md L _ q
   cases r with
   | true =>
    obtain ⟨y,L2,e3,q⟩:=(W_ok a).t md L1 _ q
    exact ⟨y,L2,by simp only [e1,Option.bind_some,if_true,e3],q⟩
   | false =>
    obtain ⟨y,L2,e3,q⟩:=(W_ok b).t md L1 _ q
    exact ⟨y,L2,by simp only [e1,Option.bind_some]; exact e3,q⟩
 | .tup es=>w_pl fun md L Q q=>by
   obtain ⟨xs,L1,e1,hl,q⟩:=(W_ok es).s md L _ q
   exact ⟨_,L1,by simp only [e1,Option.bind_some,hl,if_true],q⟩
 | .lst es=>by
   have h:R1 (sem Γ call (.lst es)).v (W Γ call (.lst es)).v:=fun md L Q q=>by
    obtain ⟨xs,L1,e1,hl,q⟩:=(W_ok es).s md L _ q
    exact ⟨_,L1,by simp only [semR_lst_v,e1,Option.bind_some,hl,if_true],q⟩
   exact w_fr h h
 | .nil=>⟨.no,.no,.no,.no,fun md L Q q=>⟨_,_,rfl,q⟩,fun md L Q q=>⟨_,_,rfl,q⟩,.no,.no,rfl,rfl,.no,n1⟩
 | .cons e es=>by
  refine ⟨.no,.no,.no,.no,fun md L Q q=>?_,fun md L Q q=>?_,.no,.no,rfl,(W_ok e).nm,(W_ok es).s,?_⟩
  ·obtain ⟨b,L1,e1,q⟩:=(W_ok e).t md L _ q
   cases b with
   | false=>exact ⟨false,L1,by simp only [semR_cons_ts,semR_cons_s,e1,Option.bind_some]; rfl,q⟩
   | true =>
    obtain ⟨c,L2,e2,q⟩:=(W_ok es).ts md L1 _ q
    exact ⟨c,L2,by simp only [semR_cons_ts,semR_cons_s,e1,Option.bind_some,if_true,e2],q⟩
  ·obtain ⟨x,L1,e1,q⟩:=(W_ok e).v md L _ q
   obtain ⟨xs,L2,e2,q⟩:=(W_ok es).s md L1 _ q
   exact ⟨_,L2,by simp only [semR_cons_ts,semR_cons_s,e1,e2,Option.bind_some],q⟩
  ·show (∀ r,isOne es (sem Γ call e).r = some r→∃ r',oneW es (W Γ call e).r = some r'∧R1 r r')∧(isOne es (sem Γ call e).r = none→oneW es (W Γ call e).r = none)
   cases es <;> first | exact ⟨fun r h=>⟨_,rfl,(Option.some.inj h) ▸ (W_ok e).r⟩,fun h=>(by cases h)⟩ | exact ⟨fun r h=>(by cases h),fun _=>rfl⟩
 | .ix a i=>w_pl fun md L Q q=>by
   obtain ⟨⟨z,L2⟩,e,q⟩:=dfr_W (R:=fun z=>Q z.1 z.2) (k:=fun g L1=>((sem Γ call i).v md L1).bind fun y=>(g y.2).bind fun x=>(intF y.1).bind fun j=>(seqF x).bind fun xs=>(atF xs j).map fun v=>(v,y.2)) (W_ok a) q fun g L1 q=>by
    obtain ⟨y,L2,e2,q⟩:=(W_ok i).v md L1 _ q
    obtain ⟨x',e3,q⟩:=wpx q
    obtain ⟨j,e4,q⟩:=wpx q
    obtain ⟨xs,e5,q⟩:=wpx q
    obtain ⟨v,e6,q⟩:=wpx q
    exact ⟨(v,L2),by simp only [e2,Option.bind_some,e3,e4,e5,e6,Option.map_some],q⟩
   exact ⟨z,L2,e,q⟩
 | .sl a lo hi=>by
   have h:R1 (sem Γ call (.sl a lo hi)).v (W Γ call (.sl a lo hi)).v:=fun md L Q q=>by
    rw [wv_sl] at q
    obtain ⟨⟨z,L2⟩,e,q⟩:=dfr_W (R:=fun z=>Q z.1 z.2) (k:=fun g L1=>((sem Γ call lo).o md L1).bind fun l=>((sem Γ call hi).o md l.2).bind fun h=>(g h.2).bind fun x=>(sliceF x l.1 h.1).map fun z=>(z,h.2)) (W_ok a) q fun g L1 q=>by
     obtain ⟨l,L2,e2,q⟩:=(W_ok lo).o md L1 _ q
     obtain ⟨h,L3,e3,q⟩:=(W_ok hi).o md L2 _ q
     obtain ⟨x',e4,q⟩:=wpx q
     obtain ⟨z,e5,q⟩:=wpx q
     exact ⟨(z,L3),by simp only [e2,e3,Option.bind_some,e4,e5,Option.map_some],q⟩
    exact ⟨z,L2,e,q⟩
   exact w_fr h (lst_of h fun _ _ _ q=>q)
 | .none=>⟨.no,.no,.no,.no,.no,.no,fun md L Q q=>⟨_,_,rfl,q⟩,.no,rfl,rfl,.no,n1⟩
 | .call f as=>w_fr (call_W (W_ok as)) fun md L Q q=>by
   obtain ⟨h,q⟩:=q
   obtain ⟨x,L1,e1,q⟩:=call_W (W_ok as) md L Q q
   exact ⟨x,L1,by simp only [h,if_true,e1],q⟩
 | .blt f as=>blt_W (W_ok as)
 | .isi a ts=>w_pl fun md L Q q=>by
   obtain ⟨x,L1,e1,q⟩:=(W_ok a).r md L _ q
   obtain ⟨z,e2,q⟩:=wpx q
   exact ⟨_,L1,by simp only [e1,Option.bind_some,e2,Option.map_some],q⟩
 | .meth f o a=>w_pl (meth_W (W_ok o) (W_ok a))
 | .comp el tg n m it ifs=>by
   have h:R1 (sem Γ call (.comp el tg n m it ifs)).v (W Γ call (.comp el tg n m it ifs)).v:=fun md L Q q=>by
    obtain ⟨xs,md',L1,e1,h1,h2,q⟩:=(W_ok it).i md L _ q
    obtain ⟨ys,e2,h3,q⟩:=wpx q
    have e2':compF tg md' n m (sem Γ call ifs).ts (sem Γ call el).v xs L1 = some ys:=e2
    exact ⟨_,_,by simp only [semR_comp_v,e1,Option.bind_some,h1,h2,and_self,if_true,e2',h3],q⟩
   exact w_fr h h
 | .rng a=>w_wk fun md L Q q=>by
   obtain ⟨x,L1,e1,q⟩:=(W_ok a).v md L _ q
   obtain ⟨j,e2,h,q⟩:=wpx q
   exact ⟨_,_,L1,by simp only [e1,Option.bind_some,e2,h,if_true],q⟩
 | .rng2 _ _=>w_no
 | .zip a b=>w_wk fun md L Q q=>by
   obtain ⟨⟨xs,md',L2⟩,e,q⟩:=dfr_W (R:=fun z=>Q z.1 z.2.1 z.2.2) (k:=fun g L1=>((sem Γ call b).r md L1).bind fun y=>(g y.2).bind fun x=>(seqF x).bind fun xs=>(seqF y.1).bind fun ys =>
     some (xs.zipWith (fun p q=>FV.tup [p,q]) ys,freeze (freeze md (sem Γ call a).nm) (sem Γ call b).nm,y.2)) (W_ok a) q fun g L1 q=>by
    obtain ⟨y,L2,e2,q⟩:=(W_ok b).r md L1 _ q
    obtain ⟨x',e3,q⟩:=wpx q
    obtain ⟨xs,e4,q⟩:=wpx q
    obtain ⟨ys,e5,q⟩:=wpx q
    rw [← (W_ok a).nm,← (W_ok b).nm] at q
    exact ⟨(xs.zipWith (fun p q=>FV.tup [p,q]) ys,freeze (freeze md (sem Γ call a).nm) (sem Γ call b).nm,L2),by simp only [e2,Option.bind_some,e3,e4,e5],q⟩
   exact ⟨xs,md',L2,e,q⟩
 | .enum _=>w_no
 | .revr _=>w_no
 | .rev _=>w_no
end
end Kf
end
section
set_option linter.all false
set_option maxHeartbeats 1000000
namespace Kf
open Kw
noncomputable def aft (k:FLoc→Prop) (Q:FFl→FLoc→Prop):FFl→FLoc→Prop
 | .next,L=>k L
 | .ret v,L=>Q (.ret v) L
 | .brk,L=>Q .brk L
 | .cont,L=>Q .cont L
section
variable (Γ:Nat→Bool×Bool) (call:Nat→List FV→Option (FV×FV))
noncomputable def setW (k:Nat) (v:FV) (j:Int) (L:FLoc) (Q:FLoc→Prop):FV→Prop
 | .lst xs=>wp (ixN xs.length j) fun p=>Q (L.set k (some (.lst (xs.set p v))))
 | _=>False
noncomputable def augW (op:BOp) (a b:Int) (Q:FV→Prop):Prop:=match op with
 | .add=>Q (.int (a + b))
 | .sub=>Q (.int (a - b))
 | _=>False
noncomputable def retW (fr:Bool) (e:WSem) (md:Md) (L:FLoc) (Q:FV→FLoc→Prop):Prop:=match fr with
 | false=>e.v md L Q
 | true=>match e.nm with
  | some i=>i ≠ 0∧ownP md i (wp (lkF L i) fun x=>Q x L)
  | none=>e.f md L Q
noncomputable def asgN:Mo→Prop→Prop→Prop
 | .imm,P,_=>P
 | .own,_,P=>P
 | .frz,_,_=>False
noncomputable def asgM:Md→Nat→Prop→Prop→Prop
 | [],_,P,_=>P
 | m :: _,0,P,P'=>asgN m P P'
 | _ :: ms,n + 1,P,P'=>asgM ms n P P'
@[scoped simp ↓] theorem am_n (i:Nat) (P P':Prop):asgM [] i P P' = P:=propext Iff.rfl
@[scoped simp ↓] theorem am_i (ms:Md) (P P':Prop):asgM (.imm :: ms) 0 P P' = P:=propext Iff.rfl
@[scoped simp ↓] theorem am_o (ms:Md) (P P':Prop):asgM (.own :: ms) 0 P P' = P':=propext Iff.rfl
@[scoped simp ↓] theorem am_s (m:Mo) (ms:Md) (n:Nat) (P P':Prop):asgM (m :: ms) (n + 1) P P' = asgM ms n P P':=propext Iff.rfl
theorem asgM_at:∀ {md:Md} {i:Nat} {P P':Prop},asgM md i P P'→(mdAt md i = .imm∧P) ∨ (mdAt md i = .own∧P')
 | [],i,P,P',h=>.inl ⟨rfl,h⟩
 | m :: ms,0,P,P',h=>by
  cases m with
  | imm=>exact .inl ⟨rfl,h⟩
  | own=>exact .inr ⟨rfl,h⟩
  | frz=>exact h.elim
 | m :: ms,n + 1,P,P',h=>asgM_at (md:=ms) (i:=n) (by rw [am_s] at h; exact h)
noncomputable def asgW (i:Nat) (e:WSem) (md:Md) (L:FLoc) (Q:FLoc→Prop):Prop:=asgM md i (e.v md L fun x L1=>Q (L1.set i (some x))) (i ≠ 0∧e.f md L fun x L1=>Q (L1.set i (some x)))
@[scoped simp ↓] theorem asgW_eq (i:Nat) (e:WSem) (md:Md) (L:FLoc) (Q:FLoc→Prop):asgW i e md L Q = asgM md i (e.v md L fun x L1=>Q (L1.set i (some x))) (i ≠ 0∧e.f md L fun x L1=>Q (L1.set i (some x))):=propext Iff.rfl
noncomputable def WX (fr:Bool):S→Md→FLoc→(FFl→FLoc→Prop)→Prop
 | .nil,_,L,Q=>Q .next L
 | .cons s r,md,L,Q=>WX fr s md L (aft (fun L1=>WX fr r md L1 Q) Q)
 | .asg (.nm i) e,md,L,Q=>asgW i (W Γ call e) md L fun L1=>Q .next L1
 | .asg (.tp is) e,md,L,Q=>(W Γ call e).v md L fun x L1=>wp (asgF md (.tp is) x L1) fun L2=>Q .next L2
 | .setix o i e,md,L,Q=>match (W Γ call o).nm with
  | some k=>ownP md k ((W Γ call e).v md L fun x L1=>(W Γ call i).v md L1 fun j L2=>wp (intF j) fun n=>wp (lkF L2 k) fun y=>setW k x n L2 (fun L3=>Q .next L3) y)
  | none=>False
 | .aug i op e,md,L,Q=>immP md i (wp (lkF L i) fun a=>wp (intF a) fun a=>(W Γ call e).v md L fun x L1=>wp (intF x) fun b=>augW op a b fun z=>Q .next (L1.set i (some z)))
 | .ret e,md,L,Q=>retW fr (W Γ call e) md L fun x L1=>Q (.ret x) L1
 | .retN,_,L,Q=>fr = false∧Q (.ret .non) L
 | .expr e,md,L,Q=>(W Γ call e).v md L fun x L1=>Q .next L1
 | .pass,_,L,Q=>Q .next L
 | .ife c a b,md,L,Q=>(W Γ call c).t md L fun r L1=>if r = true then WX fr a md L1 Q else WX fr b md L1 Q
 | .whl c b,md,L,Q=>wp (whileF (teF Γ call c) (bdF Γ call fr b) md big L) fun z=>Q z.1 z.2
 | .for_ tg it b,md,L,Q=>(W Γ call it).i md L fun xs md' L1=>wp (forF tg md' (bdF Γ call fr b) xs L1) fun z=>Q z.1 z.2
 | .brk,_,L,Q=>Q .brk L
 | .cont,_,L,Q=>Q .cont L
end
section
variable {Γ:Nat→Bool×Bool} {call:Nat→List FV→Option (FV×FV)} {fr:Bool}
theorem WX_ok:∀ (s:S) (md:Md) (L:FLoc) (Q:FFl→FLoc→Prop),WX Γ call fr s md L Q→∃ fl L',exF Γ call fr s md L = some (fl,L')∧Q fl L'
 | .nil,md,L,Q,q=>⟨_,_,rfl,q⟩
 | .cons s r,md,L,Q,q=>by
  obtain ⟨f1,L1,e1,q⟩:=WX_ok s md L _ q
  cases f1 with
  | next =>
   obtain ⟨f2,L2,e2,q⟩:=WX_ok r md L1 Q q
   exact ⟨f2,L2,by simp only [exFR_cons,e1,Option.bind_some,e2],q⟩
  | brk=>exact ⟨_,L1,by simp only [exFR_cons,e1,Option.bind_some],q⟩
  | cont=>exact ⟨_,L1,by simp only [exFR_cons,e1,Option.bind_some],q⟩
  | ret v=>exact ⟨_,L1,by simp only [exFR_cons,e1,Option.bind_some],q⟩
 | .asg (.nm i) e,md,L,Q,q=>by
  have q:asgW i (W Γ call e) md L (fun L1=>Q .next L1):=q
  rcases asgM_at q with ⟨hm,q⟩ | ⟨hm,h0,q⟩
  ·obtain ⟨x,L1,e1,q⟩:=(W_ok e).v md L _ q
   exact ⟨_,_,by simp only [exFR_asg,hm,e1,Option.map_some],q⟩
  ·obtain ⟨x,L1,e1,q⟩:=(W_ok e).f md L _ q
   exact ⟨_,_,by simp only [exFR_asg,hm,h0,if_false,e1,Option.map_some],q⟩
 | .asg (.tp is) e,md,L,Q,q=>by
  obtain ⟨x,L1,e1,q⟩:=(W_ok e).v md L _ q
  obtain ⟨L2,e2,q⟩:=wpx q
  exact ⟨_,L2,by simp only [exFR_asg,exFR_asgT,e1,Option.bind_some,e2,Option.map_some],q⟩
 | .setix o i e,md,L,Q,q=>by
  have q:(match (W Γ call o).nm with
   | some k=>ownP md k ((W Γ call e).v md L fun x L1=>(W Γ call i).v md L1 fun j L2=>wp (intF j) fun n=>wp (lkF L2 k) fun y=>setW k x n L2 (fun L3=>Q .next L3) y)
   | none=>False):=q
  cases hn:(W Γ call o).nm with
  | none=>rw [hn] at q; exact q.elim
  | some k =>
   rw [hn] at q
   obtain ⟨hm,q⟩:=ownP_iff.mp q
   obtain ⟨x,L1,e1,q⟩:=(W_ok e).v md L _ q
   obtain ⟨j,L2,e2,q⟩:=(W_ok i).v md L1 _ q
   obtain ⟨n,e3,q⟩:=wpx q
   obtain ⟨y,e4,q⟩:=wpx q
   cases y <;> first | exact q.elim | skip
   rename_i xs
   obtain ⟨p,e5,q⟩:=wpx (show wp (ixN xs.length n) _ from q)
   exact ⟨_,_,by simp only [exFR_setix,(W_ok o).nm,hn,hm,if_true,e1,e2,Option.bind_some,e3,e4,e5,Option.map_some],q⟩
 | .aug i op e,md,L,Q,q=>by
  obtain ⟨hm,q⟩:=immP_iff.mp (show immP md i _ from q)
  obtain ⟨a,e1,q⟩:=wpx q
  obtain ⟨a',e2,q⟩:=wpx q
  obtain ⟨x,L1,e3,q⟩:=(W_ok e).v md L _ q
  obtain ⟨b,e4,q⟩:=wpx q
  cases op <;> first | exact q.elim | skip
  ·exact ⟨_,_,by simp only [exFR_aug,hm,if_true,e1,Option.bind_some,e2,e3,e4],q⟩
  ·exact ⟨_,_,by simp only [exFR_aug,hm,if_true,e1,Option.bind_some,e2,e3,e4],q⟩
 | .ret e,md,L,Q,q=>by
  have q:retW fr (W Γ call e) md L (fun x L1=>Q (.ret x) L1):=q
  cases fr with
  | false =>
   obtain ⟨x,L1,e1,q⟩:=(W_ok e).v md L _ (show (W Γ call e).v md L _ from q)
   exact ⟨_,L1,by simp only [exFR_ret,e1,Option.map_some],q⟩
  | true =>
   unfold retW at q
   cases hn:(W Γ call e).nm with
   | none =>
    rw [hn] at q
    obtain ⟨x,L1,e1,q⟩:=(W_ok e).f md L _ q
    exact ⟨_,L1,by simp only [exFR_ret,(W_ok e).nm,hn,e1,Option.map_some],q⟩
   | some i =>
    rw [hn] at q
    obtain ⟨h0,q⟩:=q
    obtain ⟨hm,q⟩:=ownP_iff.mp q
    obtain ⟨x,e1,q⟩:=wpx q
    exact ⟨_,L,by simp only [exFR_ret,(W_ok e).nm,hn,hm,h0,ne_eq,not_false_eq_true,and_self,if_true,e1,Option.map_some],q⟩
 | .retN,md,L,Q,q=>by
  obtain ⟨h,q⟩:=q
  exact ⟨_,L,by simp only [exFR_retN,h]; rfl,q⟩
 | .expr e,md,L,Q,q=>by
  obtain ⟨x,L1,e1,q⟩:=(W_ok e).v md L _ q
  exact ⟨_,L1,by simp only [exFR_expr,e1,Option.map_some],q⟩
 | .pass,md,L,Q,q=>⟨_,_,rfl,q⟩
 | .ife c a b,md,L,Q,q=>by
  obtain ⟨r,L1,e1,q⟩:=(W_ok c).t md L _ q
  cases r with
  | true =>
   obtain ⟨f2,L2,e2,q⟩:=WX_ok a md L1 Q q
   exact ⟨f2,L2,by simp only [exFR_ife,e1,Option.bind_some,if_true,e2],q⟩
  | false =>
   obtain ⟨f2,L2,e2,q⟩:=WX_ok b md L1 Q q
   exact ⟨f2,L2,by simp only [exFR_ife,e1,Option.bind_some]; exact e2,q⟩
 | .whl c b,md,L,Q,q=>by
  obtain ⟨z,e,q⟩:=wpx q
  exact ⟨z.1,z.2,e,q⟩
 | .for_ tg it b,md,L,Q,q=>by
  obtain ⟨xs,md',L1,e1,q⟩:=(W_ok it).i md L _ q
  obtain ⟨z,e,q⟩:=wpx q
  have e':forF tg md' (fun md L=>exF Γ call fr b md L) xs L1 = some z:=e
  exact ⟨z.1,z.2,by simp only [exFR_for_,e1,Option.bind_some,e'],q⟩
 | .brk,md,L,Q,q=>⟨_,_,rfl,q⟩
 | .cont,md,L,Q,q=>⟨_,_,rfl,q⟩
variable (md:Md) (L:FLoc) (Q:FFl→FLoc→Prop)
@[scoped simp ↓] theorem af_next (k:FLoc→Prop):aft k Q .next L = k L:=propext Iff.rfl
@[scoped simp ↓] theorem af_ret (k:FLoc→Prop) (v:FV):aft k Q (.ret v) L = Q (.ret v) L:=propext Iff.rfl
@[scoped simp ↓] theorem x_nil:WX Γ call fr .nil md L Q = Q .next L:=propext Iff.rfl
@[scoped simp ↓] theorem x_cons (s r:S):WX Γ call fr (.cons s r) md L Q = WX Γ call fr s md L (aft (fun L1=>WX Γ call fr r md L1 Q) Q):=propext Iff.rfl
@[scoped simp ↓] theorem x_asg (i:Nat) (e:E):WX Γ call fr (.asg (.nm i) e) md L Q = asgW i (W Γ call e) md L fun L1=>Q .next L1:=propext Iff.rfl
@[scoped simp ↓] theorem x_asgT (is:List Nat) (e:E):WX Γ call fr (.asg (.tp is) e) md L Q = (W Γ call e).v md L fun x L1=>wp (asgF md (.tp is) x L1) fun L2=>Q .next L2:=propext Iff.rfl
@[scoped simp ↓] theorem x_setix (k:Nat) (i e:E):WX Γ call fr (.setix (.var k) i e) md L Q = ownP md k ((W Γ call e).v md L fun x L1=>(W Γ call i).v md L1 fun j L2=>wp (intF j) fun n=>wp (lkF L2 k) fun y=>setW k x n L2 (fun L3=>Q .next L3) y):=propext Iff.rfl
@[scoped simp ↓] theorem x_ret (e:E):WX Γ call fr (.ret e) md L Q = retW fr (W Γ call e) md L fun x L1=>Q (.ret x) L1:=propext Iff.rfl
@[scoped simp ↓] theorem x_ife (c:E) (a b:S):WX Γ call fr (.ife c a b) md L Q = (W Γ call c).t md L fun r L1=>if r = true then WX Γ call fr a md L1 Q else WX Γ call fr b md L1 Q:=propext Iff.rfl
@[scoped simp ↓] theorem x_for (tg:Tg) (it:E) (b:S):WX Γ call fr (.for_ tg it b) md L Q = (W Γ call it).i md L fun xs md' L1=>wp (forF tg md' (bdF Γ call fr b) xs L1) fun z=>Q z.1 z.2:=propext Iff.rfl
@[scoped simp ↓ high] theorem xc_asg0 (i:Nat) (e:E) (r:S):WX Γ call fr (.cons (.asg (.nm i) e) r) [] L Q = (W Γ call e).v [] L fun x L1=>WX Γ call fr r [] (L1.set i (some x)) Q:=propext Iff.rfl
@[scoped simp ↓ high] theorem xc_asg1 (m:Mo) (i:Nat) (e:E) (r:S):WX Γ call fr (.cons (.asg (.nm (i + 1)) e) r) [m] L Q = (W Γ call e).v [m] L fun x L1=>WX Γ call fr r [m] (L1.set (i + 1) (some x)) Q:=propext Iff.rfl
@[scoped simp ↓ high] theorem xc_ret (e:E) (r:S):WX Γ call false (.cons (.ret e) r) md L Q = (W Γ call e).v md L fun x L1=>Q (.ret x) L1:=propext Iff.rfl
@[scoped simp ↓ high] theorem xc_expr (e:E) (r:S):WX Γ call fr (.cons (.expr e) r) md L Q = (W Γ call e).v md L fun x L1=>WX Γ call fr r md L1 Q:=propext Iff.rfl
@[scoped simp ↓] theorem rw_tl (a:E) (Q:FV→FLoc→Prop):retW true (W Γ call (.lst a)) md L Q = (W Γ call (.lst a)).v md L Q:=propext Iff.rfl
@[scoped simp] theorem sw_lst (k:Nat) (v:FV) (j:Int) (Q:FLoc→Prop) (xs:List FV):setW k v j L Q (.lst xs) = wp (ixN xs.length j) fun p=>Q (L.set k (some (.lst (xs.set p v)))):=propext Iff.rfl
end
noncomputable def allB (bs:List Bool):Bool:=bs.all id
noncomputable def anyB (bs:List Bool):Bool:=bs.any id
theorem allB_map {α:Type} (p:α→Bool):∀ xs:List α,allB (xs.map p) = xs.all p
 | []=>rfl
 | x :: r=>by have:=allB_map p r; simp only [allB,List.map_cons,List.all_cons,id] at this ⊢; rw [this]
theorem anyB_map {α:Type} (p:α→Bool):∀ xs:List α,anyB (xs.map p) = xs.any p
 | []=>rfl
 | x :: r=>by have:=anyB_map p r; simp only [anyB,List.map_cons,List.any_cons,id] at this ⊢; rw [this]
@[scoped simp] theorem fz_s (md:Md) (i:Nat):freeze md (some i) = if mdAt md i = .own then md.set i .frz else md:=rfl
@[scoped simp] theorem tg_nm (n i:Nat):tgGe n (.nm i) = decide (n ≤ i):=rfl
@[scoped simp] theorem tg_tp (n:Nat) (is:List Nat):tgGe n (.tp is) = is.all fun i=>decide (n ≤ i):=rfl
@[scoped simp] theorem ai_n (md:Md):allImm md [] = true:=rfl
@[scoped simp] theorem ai_c (md:Md) (i:Nat) (is:List Nat):allImm md (i :: is) = (decide (mdAt md i = .imm) && allImm md is):=rfl
section
@[scoped simp] theorem md_0 (m:Mo) (ms:Md):mdAt (m :: ms) 0 = m:=rfl
@[scoped simp] theorem md_s (m:Mo) (ms:Md) (n:Nat):mdAt (m :: ms) (n + 1) = mdAt ms n:=rfl
@[scoped simp] theorem md_n (n:Nat):mdAt [] n = .imm:=rfl
@[scoped simp] theorem fz_n (md:Md):freeze md none = md:=rfl
@[scoped simp ↓] theorem tr_b (b:Bool) (Q:Bool→Prop):wp (truF (.bl b)) Q = Q b:=propext Iff.rfl
@[scoped simp ↓] theorem in_i (i:Int) (Q:Int→Prop):wp (intF (.int i)) Q = Q i:=propext Iff.rfl
@[scoped simp ↓] theorem bl_b (i:Bool) (Q:Bool→Prop):wp (blF (.bl i)) Q = Q i:=propext Iff.rfl
@[scoped simp ↓] theorem tp_t (xs:List FV) (Q:List FV→Prop):wp (tupF (.tup xs)) Q = Q xs:=propext Iff.rfl
@[scoped simp ↓] theorem sq_t (xs:List FV) (Q:List FV→Prop):wp (seqF (.tup xs)) Q = Q xs:=propext Iff.rfl
@[scoped simp ↓] theorem sq_l (xs:List FV) (Q:List FV→Prop):wp (seqF (.lst xs)) Q = Q xs:=propext Iff.rfl
@[scoped simp ↓] theorem sq_s (ns:List Int) (Q:List FV→Prop):wp (seqF (.scr ns)) Q = Q (ns.map .int):=propext Iff.rfl
@[scoped simp ↓] theorem li_l (xs:List FV) (Q:List FV→Prop):wp (listF (.lst xs)) Q = Q xs:=propext Iff.rfl
@[scoped simp ↓] theorem b_add (i j:Int) (Q:FV→Prop):wp (binF .add (.int i) (.int j)) Q = Q (.int (i + j)):=propext Iff.rfl
@[scoped simp ↓] theorem b_sub (i j:Int) (Q:FV→Prop):wp (binF .sub (.int i) (.int j)) Q = Q (.int (i - j)):=propext Iff.rfl
@[scoped simp ↓] theorem b_mul (i j:Int) (Q:FV→Prop):wp (binF .mul (.int i) (.int j)) Q↔(small i || small j) = true∧Q (.int (i * j)):=wp_ite _ _ _
@[scoped simp ↓] theorem b_fdiv (i j:Int) (Q:FV→Prop):wp (binF .fdiv (.int i) (.int j)) Q↔(0 < j∧j < 1073741824)∧Q (.int (i / j)):=wp_ite _ _ _
@[scoped simp ↓] theorem b_mod (i j:Int) (Q:FV→Prop):wp (binF .mod (.int i) (.int j)) Q↔0 < j∧Q (.int (i % j)):=wp_ite _ _ _
@[scoped simp ↓] theorem b_pow (i j:Int) (Q:FV→Prop):wp (binF .pow (.int i) (.int j)) Q↔(0 ≤ j∧j ≤ 1000∧small i = true)∧Q (.int (i ^ j.toNat)):=wp_ite _ _ _
@[scoped simp ↓] theorem b_addt (xs ys:List FV) (Q:FV→Prop):wp (binF .add (.tup xs) (.tup ys)) Q↔xs.length + ys.length ≤ big∧Q (.tup (xs ++ ys)):=wp_ite _ _ _
@[scoped simp ↓] theorem b_addl (xs ys:List FV) (Q:FV→Prop):wp (binF .add (.lst xs) (.lst ys)) Q↔xs.length + ys.length ≤ big∧Q (.lst (xs ++ ys)):=wp_ite _ _ _
theorem c_eq (a b:FV):cmpF .eq a b = eqF a b:=by cases a <;> rfl
theorem c_ne (a b:FV):cmpF .ne a b = (eqF a b).map (!·):=by cases a <;> rfl
@[scoped simp ↓] theorem k_eq (a b:FV) (Q:Bool→Prop):wp (cmpF .eq a b) Q = wp (eqF a b) Q:=by rw [c_eq]
@[scoped simp ↓] theorem k_ne (a b:FV) (Q:Bool→Prop):wp (cmpF .ne a b) Q = wp (eqF a b) fun r=>Q (!r):=by rw [c_ne]; exact propext (wp_map _ _ _)
@[scoped simp ↓] theorem k_lt (i j:Int) (Q:Bool→Prop):wp (cmpF .lt (.int i) (.int j)) Q = Q (decide (i < j)):=propext Iff.rfl
@[scoped simp ↓] theorem k_le (i j:Int) (Q:Bool→Prop):wp (cmpF .le (.int i) (.int j)) Q = Q (decide (i ≤ j)):=propext Iff.rfl
@[scoped simp ↓] theorem k_gt (i j:Int) (Q:Bool→Prop):wp (cmpF .gt (.int i) (.int j)) Q = Q (decide (j < i)):=propext Iff.rfl
@[scoped simp ↓] theorem k_ge (i j:Int) (Q:Bool→Prop):wp (cmpF .ge (.int i) (.int j)) Q = Q (decide (j ≤ i)):=propext Iff.rfl
@[scoped simp ↓] theorem k_ltt (xs ys:List FV) (Q:Bool→Prop):wp (cmpF .lt (.tup xs) (.tup ys)) Q↔wp (intsF xs) fun a=>wp (intsF ys) fun b=>Q (lexLt a b):=by
 show wp ((intsF xs).bind _) Q↔_; simp only [wp_bind,wp_some]
@[scoped simp ↓] theorem k_let (xs ys:List FV) (Q:Bool→Prop):wp (cmpF .le (.tup xs) (.tup ys)) Q↔wp (intsF xs) fun a=>wp (intsF ys) fun b=>Q (lexLe a b):=by
 show wp ((intsF xs).bind _) Q↔_; simp only [wp_bind,wp_some]
@[scoped simp ↓] theorem e_ii (i j:Int) (Q:Bool→Prop):wp (eqF (.int i) (.int j)) Q = Q (i == j):=propext Iff.rfl
@[scoped simp ↓] theorem e_ss (i j:String) (Q:Bool→Prop):wp (eqF (.str i) (.str j)) Q = Q (i == j):=propext Iff.rfl
@[scoped simp ↓] theorem e_bb (i j:Bool) (Q:Bool→Prop):wp (eqF (.bl i) (.bl j)) Q = Q (i == j):=propext Iff.rfl
@[scoped simp ↓] theorem e_sh (d:D) (Q:Bool→Prop):wp (eqF (.shn d) (.shn d)) Q = Q true:=by simp [eqF]
@[scoped simp ↓] theorem f_len (v:FV) (Q:FV→Prop):wp (bfunF .len (v)) Q↔wp (seqF v) fun xs=>Q (.int xs.length):=wp_map _ _ _
@[scoped simp ↓] theorem f_abs (i:Int) (Q:FV→Prop):wp (bfunF .abs (.int i)) Q = Q (.int (if i < 0 then -i else i)):=propext Iff.rfl
@[scoped simp ↓] theorem f_intb (i:Bool) (Q:FV→Prop):wp (bfunF .int (.bl i)) Q = Q (.int (if i then 1 else 0)):=propext Iff.rfl
@[scoped simp ↓] theorem f_all (v:FV) (Q:FV→Prop):wp (bfunF .all (v)) Q↔wp (listF v) fun xs=>wp (boolsF xs) fun bs=>Q (.bl (allB bs)):=by
 show wp ((listF v).bind _) Q↔_; rw [wp_bind]; simp only [wp_map]; rfl
@[scoped simp ↓] theorem f_any (v:FV) (Q:FV→Prop):wp (bfunF .any (v)) Q↔wp (listF v) fun xs=>wp (boolsF xs) fun bs=>Q (.bl (anyB bs)):=by
 show wp ((listF v).bind _) Q↔_; rw [wp_bind]; simp only [wp_map]; rfl
@[scoped simp ↓] theorem f_min (i j:Int) (Q:FV→Prop):wp (bf2F .min [.int i,.int j]) Q = Q (.int (if j < i then j else i)):=propext Iff.rfl
@[scoped simp ↓] theorem f_tuple (v:FV) (Q:FV→Prop):wp (bfunF .tuple (v)) Q↔wp (seqF v) fun xs=>Q (.tup xs):=wp_map _ _ _
@[scoped simp ↓] theorem f_list (v:FV) (Q:FV→Prop):wp (bfunF .list (v)) Q↔wp (seqF v) fun xs=>Q (.lst xs):=wp_map _ _ _
@[scoped simp ↓] theorem y_nil (v:FV) (Q:Bool→Prop):wp (isTysF v []) Q = Q false:=propext Iff.rfl
@[scoped simp ↓] theorem y_cons (v:FV) (t:Ty) (r:List Ty) (Q:Bool→Prop):wp (isTysF v (t :: r)) Q↔wp (isTyF v t) fun a=>wp (isTysF v r) fun b=>Q (a || b):=by
 show wp ((isTyF v t).bind _) Q↔_; rw [wp_bind]; simp only [wp_map]
@[scoped simp ↓] theorem y_non (t:Ty) (Q:Bool→Prop):wp (isTyF .non t) Q = Q false:=propext Iff.rfl
@[scoped simp ↓] theorem y_bl (b:Bool) (t:Ty) (Q:Bool→Prop):wp (isTyF (.bl b) t) Q = Q (t == .int || t == .bool):=propext Iff.rfl
@[scoped simp ↓] theorem y_int (b:Int) (t:Ty) (Q:Bool→Prop):wp (isTyF (.int b) t) Q = Q (t == .int):=propext Iff.rfl
@[scoped simp ↓] theorem y_str (b:String) (t:Ty) (Q:Bool→Prop):wp (isTyF (.str b) t) Q = Q (t == .str):=propext Iff.rfl
@[scoped simp ↓] theorem y_tup (b:List FV) (t:Ty) (Q:Bool→Prop):wp (isTyF (.tup b) t) Q = Q (t == .tuple):=propext Iff.rfl
@[scoped simp ↓] theorem y_lst (b:List FV) (t:Ty) (Q:Bool→Prop):wp (isTyF (.lst b) t) Q = Q (t == .list):=propext Iff.rfl
@[scoped simp ↓] theorem m_app (xs:List FV) (v:FV) (Q:List FV→Prop):wp (mfunF .append xs v) Q↔xs.length < big∧Q (xs ++ [v]):=wp_ite _ _ _
@[scoped simp ↓] theorem s_t (xs:List FV) (lo hi:Option Int) (Q:FV→Prop):wp (sliceF (.tup xs) lo hi) Q = Q (.tup (cutF xs lo hi)):=propext Iff.rfl
@[scoped simp ↓] theorem s_l (xs:List FV) (lo hi:Option Int) (Q:FV→Prop):wp (sliceF (.lst xs) lo hi) Q = Q (.lst (cutF xs lo hi)):=propext Iff.rfl
@[scoped simp ↓] theorem a_nm (md:Md) (i:Nat) (v:FV) (L:FLoc) (Q:FLoc→Prop):wp (asgF md (.nm i) v L) Q = immP md i (Q (L.set i (some v))):=by
 apply propext; rw [immP_iff]; exact wp_ite _ _ _
@[scoped simp ↓] theorem a_tp (md:Md) (is:List Nat) (xs:List FV) (L:FLoc) (Q:FLoc→Prop):wp (asgF md (.tp is) (.tup xs) L) Q↔allImm md is = true∧wp (setAllF L is xs) Q:=by
 show wp (if allImm md is = true then setAllF L is xs else none) Q↔_
 by_cases h:allImm md is = true <;> simp [h]
@[scoped simp ↓] theorem sa_n (L:FLoc) (Q:FLoc→Prop):wp (setAllF L [] []) Q = Q L:=propext Iff.rfl
@[scoped simp ↓] theorem sa_c (L:FLoc) (i:Nat) (is:List Nat) (v:FV) (vs:List FV) (Q:FLoc→Prop):wp (setAllF L (i :: is) (v :: vs)) Q = wp (setAllF (L.set i (some v)) is vs) Q:=propext Iff.rfl
theorem at_nat {xs:List FV} {i:Int} {n:Nat} {v:FV} {Q:FV→Prop} (h:i = n) (hv:xs[n]? = some v):wp (atF xs i) Q↔Q v:=by
 subst h
 have:=(List.getElem?_eq_some_iff.mp hv).1
 simp only [atF,ixN,Int.natCast_nonneg,if_true,Int.ofNat_lt,this,Option.bind_some,Int.toNat_natCast,hv,wp_some]
@[scoped simp ↓] theorem at_0 (x:FV) (r:List FV) (Q:FV→Prop):wp (atF (x :: r) 0) Q↔Q x:=at_nat (n:=0) rfl rfl
@[scoped simp ↓] theorem at_1 (x y:FV) (r:List FV) (Q:FV→Prop):wp (atF (x :: y :: r) 1) Q↔Q y:=at_nat (n:=1) rfl rfl
@[scoped simp ↓] theorem at_2 (x y z:FV) (r:List FV) (Q:FV→Prop):wp (atF (x :: y :: z :: r) 2) Q↔Q z:=at_nat (n:=2) rfl rfl
end
@[scoped simp] theorem isN_n:isNonF .non = true:=rfl
@[scoped simp] theorem isN_b (b:Bool):isNonF (.bl b) = false:=rfl
@[scoped simp] theorem isN_i (b:Int):isNonF (.int b) = false:=rfl
@[scoped simp] theorem isN_s (b:String):isNonF (.str b) = false:=rfl
@[scoped simp] theorem isN_t (b:List FV):isNonF (.tup b) = false:=rfl
@[scoped simp] theorem isN_l (b:List FV):isNonF (.lst b) = false:=rfl
@[scoped simp] theorem isB_b (b c:Bool):isBlF c (.bl b) = (b == c):=rfl
@[scoped simp] theorem isB_n (c:Bool):isBlF c .non = false:=rfl
@[scoped simp] theorem isB_i (c:Bool) (b:Int):isBlF c (.int b) = false:=rfl
@[scoped simp] theorem isL_l (xs:List FV):isLstOp (.lst xs) = true:=rfl
noncomputable def hdS:S→S | .cons s _=>s | s=>s
noncomputable def tlS:S→S | .cons _ r=>r | s=>s
noncomputable def endW (io fr:Bool) (Q:FV×FV→Prop):FFl→FLoc→Prop
 | .ret v,L=>match io with
  | true=>wp (lkF L 0) fun x=>Q (v,x)
  | false=>Q (v,.non)
 | .next,L=>match fr with
  | true=>False
  | false=>match io with
   | true=>wp (lkF L 0) fun x=>Q (.non,x)
   | false=>Q (.non,.non)
 | _,_=>False
@[scoped simp ↓] theorem en_rt (fr:Bool) (Q:FV×FV→Prop) (v:FV) (L:FLoc):endW true fr Q (.ret v) L = wp (lkF L 0) fun x=>Q (v,x):=propext Iff.rfl
@[scoped simp ↓] theorem en_rf (fr:Bool) (Q:FV×FV→Prop) (v:FV) (L:FLoc):endW false fr Q (.ret v) L = Q (v,.non):=propext Iff.rfl
theorem wp_call {tb:List FD} {d f:Nat} {args:List FV} {fd:FD} {Q:FV×FV→Prop} (h:tb[f]? = some fd) (hl:args.length = fd.np)
  (H:WX (sigF tb) (callF tb d) fd.fr fd.body fd.md (args.map some ++ List.replicate (fd.ns - fd.np) none) (endW fd.io fd.fr Q)):wp (callF tb (d + 1) f args) Q:=by
 obtain ⟨fl,L',e,q⟩:=WX_ok _ _ _ _ H
 simp only [callF,h,hl,if_true,e,Option.bind_some]
 cases fl with
 | ret v =>
  cases hi:fd.io with
  | true=>rw [hi] at q; simp only [endF,if_true]; exact (wp_map _ _ _).mpr q
  | false=>rw [hi] at q; exact q
 | next =>
  cases hf:fd.fr with
  | true=>rw [hf] at q; exact q.elim
  | false =>
   rw [hf] at q
   cases hi:fd.io with
   | true=>rw [hi] at q; simp only [endF,if_true]; exact (wp_map _ _ _).mpr q
   | false=>rw [hi] at q; exact q
 | brk=>exact q.elim
 | cont=>exact q.elim
section
variable {Γ:Nat→Bool×Bool} {call:Nat→List FV→Option (FV×FV)} {fr:Bool}
noncomputable def turnQ (I:FLoc→Prop) (Q:FFl×FLoc→Prop):FFl→FLoc→Prop
 | .next,L=>I L
 | .cont,L=>I L
 | .brk,L=>Q (.next,L)
 | .ret v,L=>Q (.ret v,L)
@[scoped simp ↓] theorem tq_n (I:FLoc→Prop) (Q:FFl×FLoc→Prop) (L:FLoc):turnQ I Q .next L = I L:=propext Iff.rfl
@[scoped simp ↓] theorem tq_r (I:FLoc→Prop) (Q:FFl×FLoc→Prop) (v:FV) (L:FLoc):turnQ I Q (.ret v) L = Q (.ret v,L):=propext Iff.rfl
theorem for_each {α:Type} {tg:Tg} {md:Md} {b:S} {f:α→FV} {I:List α→FLoc→Prop} {Q:FFl×FLoc→Prop} (all:List α) :
  ∀ (rest done:List α) (L:FLoc),all = done ++ rest→I done L →
  (∀ d x r L,all = d ++ x :: r→I d L→wp (asgF md tg (f x) L) fun L1=>WX Γ call fr b md L1 (turnQ (I (d ++ [x])) Q)) →
  (∀ L,I all L→Q (.next,L))→wp (forF tg md (bdF Γ call fr b) (rest.map f) L) Q:=by
 intro rest
 induction rest with
 | nil =>
  intro done L e h _ E
  rw [List.append_nil] at e
  exact E L (e ▸ h)
 | cons x rest ih =>
  intro done L e h B E
  simp only [List.map_cons,forF]
  rw [wp_bind]
  refine wp_mono (B done x rest L e h) fun L1 h1=>?_
  rw [wp_bind]
  obtain ⟨fl,L2,e2,q⟩:=WX_ok _ _ _ _ h1
  refine wp_of_eq (show bdF Γ call fr b md L1 = _ from e2) ?_
  cases fl with
  | next=>exact ih (done ++ [x]) L2 (by simp [e]) q B E
  | cont=>exact ih (done ++ [x]) L2 (by simp [e]) q B E
  | brk=>exact q
  | ret v=>exact q
theorem for_upto {tg:Tg} {md:Md} {b:S} {I:Nat→FLoc→Prop} {Q:FFl×FLoc→Prop} (n:Nat) :
  ∀ (i:Nat) (L:FLoc),I i L →
  (∀ j L,i ≤ j→j < i + n→I j L→wp (asgF md tg (.int (j:Int)) L) fun L1=>WX Γ call fr b md L1 (turnQ (I (j + 1)) Q)) →
  (∀ L,I (i + n) L→Q (.next,L))→wp (forF tg md (bdF Γ call fr b) (uptoF (i:Int) n) L) Q:=by
 induction n with
 | zero=>intro i L h _ E; exact E L h
 | succ n ih =>
  intro i L h B E
  simp only [uptoF,forF]
  rw [wp_bind]
  refine wp_mono (B i L (Nat.le_refl _) (by omega) h) fun L1 h1=>?_
  rw [wp_bind]
  obtain ⟨fl,L2,e2,q⟩:=WX_ok _ _ _ _ h1
  refine wp_of_eq (show bdF Γ call fr b md L1 = _ from e2) ?_
  have go:I (i + 1) L2→wp (forF tg md (bdF Γ call fr b) (uptoF ((i:Int) + 1) n) L2) Q:=fun h'=>by
   have:=ih (i + 1) L2 h' (fun j L hj hj'=>B j L (by omega) (by omega)) (fun L h=>E L (by rw [show i + (n + 1) = i + 1 + n by omega]; exact h))
   simpa using this
  cases fl with
  | next=>exact go q
  | cont=>exact go q
  | brk=>exact q
  | ret v=>exact q
theorem comp_each {α:Type} {tg:Tg} {md:Md} {n m:Nat} {el ifs:E} {f:α→FV} {I:List α→List FV→FLoc→Prop} {Q:List FV×FLoc→Prop} (all:List α) :
  ∀ (rest done:List α) (acc:List FV) (L:FLoc),all = done ++ rest→I done acc L →
  (∀ d x r acc L,all = d ++ x :: r→I d acc L→wp (asgF md tg (f x) (L ++ List.replicate m none)) fun L1=>(W Γ call ifs).ts md L1 fun b L2=>if b = true then (W Γ call el).v md L2 fun v L3=>I (d ++ [x]) (acc ++ [v]) (L3.take n) else I (d ++ [x]) acc (L2.take n)) →
  (∀ ys L,I all (acc ++ ys) L→Q (ys,L))→wp (compF tg md n m (tsF Γ call ifs) (elF Γ call el) (rest.map f) L) Q:=by
 intro rest
 induction rest generalizing Q with
 | nil =>
  intro done acc L e h _ E
  rw [List.append_nil] at e
  exact E [] L (by rw [List.append_nil]; exact e ▸ h)
 | cons x rest ih =>
  intro done acc L e h B E
  simp only [List.map_cons,compF]
  rw [wp_bind]
  refine wp_mono (B done x rest acc L e h) fun L1 h1=>?_
  rw [wp_bind]
  obtain ⟨b,L2,e2,q⟩:=(W_ok ifs).ts md L1 _ h1
  refine wp_of_eq (show tsF Γ call ifs md L1 = _ from e2) ?_
  cases b with
  | false=>exact ih (done ++ [x]) acc _ (by simp [e]) q B E
  | true =>
   simp only [if_true] at q ⊢
   rw [wp_bind]
   obtain ⟨v,L3,e3,q⟩:=(W_ok el).v md L2 _ q
   refine wp_of_eq (show elF Γ call el md L2 = _ from e3) ?_
   rw [wp_bind]
   exact ih (Q:=fun z=>wp (some (v :: z.1,z.2)) Q) (done ++ [x]) (acc ++ [v]) _ (by simp [e]) q B (fun ys L h=>E (v :: ys) L (by simpa using h))
theorem comp_map {α:Type} {tg:Tg} {md:Md} {n m:Nat} {el:E} {f:α→FV} {g:α→FV} {Q:List FV×FLoc→Prop} {L:FLoc} (xs:List α)
  (B:∀ x ∈ xs,wp (asgF md tg (f x) (L ++ List.replicate m none)) fun L1=>(W Γ call el).v md L1 fun v L3=>v = g x∧L3.take n = L) (E:Q (xs.map g,L)):wp (compF tg md n m (tsF Γ call .nil) (elF Γ call el) (xs.map f) L) Q:=by
 induction xs generalizing Q with
 | nil=>exact E
 | cons x xs ih =>
  simp only [List.map_cons,compF]
  rw [wp_bind]
  refine wp_mono (B x (List.mem_cons_self ..)) fun L1 h=>?_
  rw [wp_bind]
  refine wp_of_eq (show tsF Γ call .nil md L1 = some (true,L1) from rfl) ?_
  simp only [if_true]
  obtain ⟨v,L3,e3,rfl,h2⟩:=(W_ok el).v md L1 _ h
  rw [wp_bind]
  refine wp_of_eq (show elF Γ call el md L1 = _ from e3) ?_
  rw [wp_bind,h2]
  exact ih (Q:=fun z=>wp (some (g x :: z.1,z.2)) Q) (fun y hy=>B y (List.mem_cons_of_mem _ hy)) E
theorem upto_map (n:Nat):∀ lo:Nat,uptoF (lo:Int) n = (List.range' lo n).map fun i:Nat=>FV.int i:=by
 induction n with
 | zero=>intro lo; rfl
 | succ n ih=>intro lo; simp only [uptoF,List.range'_succ,List.map_cons]; rw [← ih (lo + 1)]; simp
theorem upto_range (n:Nat):uptoF 0 n = (List.range n).map fun i:Nat=>FV.int i:=by
 have:=upto_map n 0
 rw [List.range_eq_range']; exact_mod_cast this
end
end Kf
end
section
set_option linter.all false
namespace Kf
open Kw
noncomputable def bd0:S:=.cons (.ret (.and (.isi (.var 0) [.int]) (.not (.isi (.var 0) [.bool])))) .nil
noncomputable def bd1:S:=.cons (.ret (.and (.isi (.var 0) [.tuple]) (.cmp .eq (.blt .len (.cons (.var 0) .nil)) (.var 1)))) .nil
noncomputable def bd2:S:=.cons (.ife (.not (.call 1 (.cons (.var 0) (.cons (.int 2) .nil)))) (.cons (.ret (.bl false)) .nil) .nil) (.cons (.asg (.tp [1,2]) (.var 0)) (.cons (.ife (.or (.not (.isi (.var 1) [.tuple])) (.not (.isi (.var 2) [.tuple]))) (.cons (.ret (.bl false)) .nil) .nil) (.cons (.ife (.not (.blt .all (.cons (.comp (.call 3 (.cons (.var 4) .nil)) (.nm 4) 4 1 (.var 1) .nil) .nil))) (.cons (.ret (.bl false)) .nil) .nil) (.cons (.ife (.not (.blt .all (.cons (.comp (.call 4 (.cons (.var 4) (.cons (.blt .len (.cons (.var 1) .nil)) .nil))) (.nm 4) 4 1 (.var 2) .nil) .nil))) (.cons (.ret (.bl false)) .nil) .nil) (.cons (.asg (.nm 3) (.comp (.sl (.var 4) .none (.int 2)) (.nm 4) 4 1 (.var 2) .nil)) (.cons (.ret (.blt .all (.cons (.comp (.cmp .lt (.var 4) (.var 5)) (.tp [4,5]) 4 2 (.zip (.var 3) (.sl (.var 3) (.int 1) .none)) .nil) .nil))) .nil))))))
noncomputable def bd3:S:=.cons (.ret (.and (.call 0 (.cons (.var 0) .nil)) (.cmp .ge (.var 0) (.int 1)))) .nil
noncomputable def bd4:S:=.cons (.ife (.not (.call 1 (.cons (.var 0) (.cons (.int 3) .nil)))) (.cons (.ret (.bl false)) .nil) .nil) (.cons (.asg (.tp [2,3,4]) (.var 0)) (.cons (.ret (.and (.call 5 (.cons (.var 2) (.cons (.var 1) .nil))) (.and (.call 5 (.cons (.var 3) (.cons (.var 1) .nil))) (.and (.cmp .ne (.var 2) (.var 3)) (.call 3 (.cons (.var 4) .nil)))))) .nil))
noncomputable def bd5:S:=.cons (.ret (.and (.call 0 (.cons (.var 0) .nil)) (.chain .le .lt (.int 0) (.var 0) (.var 1)))) .nil
noncomputable def bd6:S:=.cons (.asg (.nm 2) (.bin .mod (.bin .mul (.bin .add (.bin .add (.bin .mod (.var 0) (.int 2147483629)) (.bin .mul (.bin .mul (.var 1) (.var 1)) (.int 7919))) (.int 11)) (.int 48271)) (.int 2147483647))) (.cons (.ret (.bin .mod (.bin .mul (.var 2) (.var 2)) (.int 1999999973))) .nil)
noncomputable def bd7:S:=.cons (.asg (.nm 2) (.ite (.cmp .lt (.var 1) (.blt .len (.cons (.var 0) .nil))) (.ix (.var 0) (.var 1)) (.int 0))) (.cons (.ret (.lst (.cons (.bin .mul (.blt .abs (.cons (.var 2) .nil)) (.blt .int (.cons (.cmp .ge (.blt .abs (.cons (.var 2) .nil)) (.bin .pow (.int 10) (.int 18))) .nil))) (.cons (.bin .add (.var 2) (.bin .mul (.int 1000003) (.var 1))) (.cons (.int 0) .nil))))) .nil)
noncomputable def bd8:S:=.cons (.setix (.var 0) (.int 2) (.bin .add (.ix (.var 0) (.int 2)) (.int 1))) (.cons (.ife (.cmp .gt (.ix (.var 0) (.int 0)) (.int 0)) (.cons (.asg (.nm 2) (.bin .mod (.ix (.var 0) (.int 0)) (.var 1))) (.cons (.setix (.var 0) (.int 0) (.bin .fdiv (.ix (.var 0) (.int 0)) (.var 1))) (.cons (.ret (.var 2)) .nil))) .nil) (.cons (.ret (.bin .mod (.bin .fdiv (.call 6 (.cons (.call 6 (.cons (.ix (.var 0) (.int 1)) (.cons (.ix (.var 0) (.int 2)) .nil))) (.cons (.bin .add (.ix (.var 0) (.int 2)) (.int 64)) .nil))) (.int 64)) (.var 1))) .nil))
noncomputable def bd9:S:=.cons (.ret (.blt .all (.cons (.comp (.and (.isi (.var 1) [.int]) (.not (.isi (.var 1) [.bool]))) (.nm 1) 1 1 (.var 0) .nil) .nil))) .nil
noncomputable def bd10:S:=.cons (.asg (.nm 2) (.lst (.cons .non (.cons (.bl true) (.cons (.bl false) (.cons (.int 0) (.cons (.int 1) (.cons (.neg (.int 1)) (.cons (.int 2) (.cons (.int 7) (.cons (.str "") (.cons (.str "keep") (.cons (.str "put") (.cons (.tup .nil) (.cons (.lst .nil) (.cons (.tup (.cons (.int 0) .nil)) (.cons (.lst (.cons (.int 0) .nil)) (.cons (.tup (.cons (.int 0) (.cons (.int 1) .nil))) (.cons (.tup (.cons .non .nil)) (.cons (.tup (.cons (.str "keep") (.cons (.int 0) (.cons (.int 1) .nil)))) .nil)))))))))))))))))))) (.cons (.ife (.or (.cmp .eq (.var 1) (.int 0)) (.cmp .eq (.call 8 (.cons (.var 0) (.cons (.int 3) .nil))) (.int 0))) (.cons (.ret (.ix (.var 2) (.call 8 (.cons (.var 0) (.cons (.int 18) .nil))))) .nil) .nil) (.cons (.asg (.nm 3) (.comp (.call 10 (.cons (.var 0) (.cons (.bin .sub (.var 1) (.int 1)) .nil))) (.nm 4) 4 1 (.rng (.call 8 (.cons (.var 0) (.cons (.int 4) .nil)))) .nil)) (.cons (.ret (.ix (.lst (.cons (.var 3) (.cons (.blt .tuple (.cons (.var 3) .nil)) .nil))) (.call 8 (.cons (.var 0) (.cons (.int 2) .nil))))) .nil)))
noncomputable def bd11:S:=.cons (.asg (.nm 1) (.ix (.lst (.cons (.tup (.cons (.int 0) (.cons (.int 1) .nil))) (.cons (.int 0) (.cons .non .nil)))) (.call 8 (.cons (.var 0) (.cons (.int 3) .nil))))) (.cons (.for_ (.nm 2) (.rng (.call 8 (.cons (.var 0) (.cons (.int 19) .nil)))) (.cons (.asg (.nm 1) (.ix (.lst (.cons (.lst (.cons (.var 1) .nil)) (.cons (.tup (.cons (.var 1) .nil)) .nil))) (.bin .mod (.var 2) (.int 2)))) .nil)) (.cons (.ret (.var 1)) .nil))
noncomputable def bd12:S:=.cons (.asg (.nm 2) (.call 8 (.cons (.var 0) (.cons (.int 4) .nil)))) (.cons (.ife (.and (.cmp .eq (.var 2) (.int 3)) (.cmp .eq (.var 1) (.int 0))) (.cons (.ret (.bin .add (.int 1) (.call 8 (.cons (.var 0) (.cons (.bin .sub (.bin .pow (.int 10) (.int 9)) (.int 20)) .nil))))) .nil) .nil) (.cons (.ret (.bin .add (.int 1) (.call 8 (.cons (.var 0) (.cons (.ix (.lst (.cons (.int 9) (.cons (.int 9) (.cons (.int 40) (.cons (.int 3) .nil))))) (.var 2)) .nil))))) .nil))
noncomputable def bd13:S:=.cons (.ife (.cmp .eq (.call 8 (.cons (.var 0) (.cons (.int 8) .nil))) (.int 0)) (.cons (.ret (.bin .add (.int 7) (.call 8 (.cons (.var 0) (.cons (.bin .sub (.var 1) (.int 6)) .nil))))) .nil) .nil) (.cons (.ret (.ix (.lst (.cons (.int 0) (.cons (.int 1) (.cons (.int 2) (.cons (.int 3) (.cons (.int 4) (.cons (.int 5) (.cons (.int 6) (.cons (.int 4) (.cons (.int 5) (.cons (.int 3) .nil))))))))))) (.call 8 (.cons (.var 0) (.cons (.int 10) .nil))))) .nil)
noncomputable def bd14:S:=.cons (.asg (.tp [2,3]) (.tup (.cons (.call 8 (.cons (.var 0) (.cons (.int 4) .nil))) (.cons (.bin .add (.int 1) (.call 8 (.cons (.var 0) (.cons (.int 4) .nil)))) .nil)))) (.cons (.asg (.nm 4) (.blt .tuple (.cons (.comp (.bin .add (.call 12 (.cons (.var 0) (.cons (.var 2) .nil))) (.ix (.lst (.cons (.int 0) (.cons (.int 12) .nil))) (.call 8 (.cons (.var 0) (.cons (.int 2) .nil))))) (.nm 8) 8 1 (.rng (.var 1)) .nil) .nil))) (.cons (.asg (.nm 5) (.lst .nil)) (.cons (.for_ (.nm 6) (.rng (.var 1)) (.cons (.for_ (.nm 7) (.rng (.var 1)) (.cons (.ife (.and (.cmp .ne (.var 6) (.var 7)) (.cmp .eq (.call 8 (.cons (.var 0) (.cons (.var 3) .nil))) (.int 0))) (.cons (.expr (.meth .append (.var 5) (.tup (.cons (.var 6) (.cons (.var 7) (.cons (.call 12 (.cons (.var 0) (.cons (.var 2) .nil))) .nil)))))) .nil) .nil) .nil)) .nil)) (.cons (.ret (.tup (.cons (.var 4) (.cons (.blt .tuple (.cons (.var 5) .nil)) .nil)))) .nil))))
noncomputable def bd15:S:=.cons (.ife (.or (.not (.isi (.var 0) [.tuple])) (.cmp .ne (.blt .len (.cons (.var 0) .nil)) (.int 2))) (.cons (.ret (.bl false)) .nil) .nil) (.cons (.asg (.tp [1,2]) (.var 0)) (.cons (.ife (.or (.not (.isi (.var 1) [.tuple])) (.or (.not (.call 9 (.cons (.var 1) .nil))) (.blt .any (.cons (.comp (.cmp .lt (.var 7) (.int 1)) (.nm 7) 7 1 (.var 1) .nil) .nil)))) (.cons (.ret (.bl false)) .nil) .nil) (.cons (.ife (.not (.isi (.var 2) [.tuple])) (.cons (.ret (.bl false)) .nil) .nil) (.cons (.asg (.nm 3) (.tup (.cons (.neg (.int 1)) (.cons (.neg (.int 1)) .nil)))) (.cons (.for_ (.nm 4) (.var 2) (.cons (.ife (.or (.not (.isi (.var 4) [.tuple])) (.or (.cmp .ne (.blt .len (.cons (.var 4) .nil)) (.int 3)) (.or (.not (.call 9 (.cons (.var 4) .nil))) (.cmp .lt (.ix (.var 4) (.int 2)) (.int 1))))) (.cons (.ret (.bl false)) .nil) .nil) (.cons (.asg (.tp [5,6]) (.sl (.var 4) .none (.int 2))) (.cons (.ife (.or (.cmp .eq (.var 5) (.var 6)) (.or (.not (.chain .le .lt (.int 0) (.var 5) (.blt .len (.cons (.var 1) .nil)))) (.or (.not (.chain .le .lt (.int 0) (.var 6) (.blt .len (.cons (.var 1) .nil)))) (.cmp .le (.tup (.cons (.var 5) (.cons (.var 6) .nil))) (.var 3))))) (.cons (.ret (.bl false)) .nil) .nil) (.cons (.asg (.nm 3) (.tup (.cons (.var 5) (.cons (.var 6) .nil)))) .nil))))) (.cons (.ret (.bl true)) .nil))))))
noncomputable def bd16:S:=.cons (.asg (.nm 2) (.call 8 (.cons (.var 0) (.cons (.bin .add (.blt .len (.cons (.var 1) .nil)) (.int 1)) .nil)))) (.cons (.asg (.nm 3) (.lst (.cons (.int 0) (.cons (.neg (.int 1)) (.cons (.bl true) (.cons (.str "3") (.cons .non (.cons (.int 1) (.cons (.bin .pow (.int 10) (.int 30)) (.cons (.tup (.cons (.int 2) .nil)) (.cons (.int 2) .nil))))))))))) (.cons (.asg (.nm 4) (.ix (.var 3) (.call 8 (.cons (.var 0) (.cons (.blt .len (.cons (.var 3) .nil)) .nil))))) (.cons (.asg (.nm 5) (.lst (.cons (.bin .add (.bin .add (.sl (.var 1) .none (.var 2)) (.tup (.cons (.var 4) .nil))) (.sl (.var 1) (.bin .add (.var 2) (.int 1)) .none)) (.cons (.bin .add (.bin .add (.sl (.var 1) .none (.var 2)) (.tup (.cons (.var 4) .nil))) (.sl (.var 1) (.var 2) .none)) .nil)))) (.cons (.ret (.ix (.bin .add (.var 5) (.lst (.cons (.sl (.var 1) .none (.neg (.int 1))) (.cons (.blt .list (.cons (.var 1) .nil)) .nil)))) (.call 8 (.cons (.var 0) (.cons (.int 4) .nil))))) .nil))))
noncomputable def bd17:S:=.cons (.asg (.nm 3) (.call 8 (.cons (.var 0) (.cons (.bin .add (.blt .len (.cons (.var 2) .nil)) (.int 1)) .nil)))) (.cons (.asg (.nm 4) (.ite (.cmp .lt (.var 3) (.blt .len (.cons (.var 2) .nil))) (.ix (.var 2) (.var 3)) (.tup (.cons (.int 0) (.cons (.int 1) (.cons (.int 5) .nil)))))) (.cons (.asg (.tp [5,6,7]) (.var 4)) (.cons (.asg (.nm 8) (.lst (.cons (.tup (.cons (.var 5) (.cons (.var 6) (.cons (.int 0) .nil)))) (.cons (.tup (.cons (.var 5) (.cons (.var 6) (.cons (.bl true) .nil)))) (.cons (.tup (.cons (.var 5) (.cons (.var 6) (.cons (.neg (.int 2)) .nil)))) (.cons (.tup (.cons (.var 5) (.cons (.var 5) (.cons (.var 7) .nil)))) (.cons (.tup (.cons (.var 5) (.cons (.var 1) (.cons (.var 7) .nil)))) (.cons (.tup (.cons (.var 1) (.cons (.var 6) (.cons (.var 7) .nil)))) .nil)))))))) (.cons (.asg (.nm 8) (.bin .add (.var 8) (.lst (.cons (.tup (.cons (.neg (.int 1)) (.cons (.var 6) (.cons (.var 7) .nil)))) (.cons (.tup (.cons (.var 6) (.cons (.var 5) (.cons (.var 7) .nil)))) (.cons (.tup (.cons (.var 5) (.cons (.var 6) .nil))) (.cons (.tup (.cons (.var 5) (.cons (.var 6) (.cons (.var 7) (.cons (.var 7) .nil))))) (.cons (.lst (.cons (.var 5) (.cons (.var 6) (.cons (.var 7) .nil)))) (.cons (.tup (.cons (.var 5) (.cons (.var 6) (.cons .non .nil)))) .nil))))))))) (.cons (.asg (.nm 8) (.bin .add (.var 8) (.lst (.cons (.tup (.cons (.cmp .eq (.var 5) (.int 1)) (.cons (.var 6) (.cons (.var 7) .nil)))) (.cons (.tup (.cons (.var 5) (.cons (.cmp .eq (.var 6) (.int 1)) (.cons (.var 7) .nil)))) (.cons .non (.cons (.tup .nil) (.cons (.tup (.cons (.var 5) (.cons (.var 6) (.cons (.bin .pow (.int 10) (.int 30)) .nil)))) (.cons (.tup (.cons (.var 5) (.cons (.var 6) (.cons (.blt .str (.cons (.var 7) .nil)) .nil)))) .nil))))))))) (.cons (.asg (.nm 9) (.ix (.var 8) (.call 8 (.cons (.var 0) (.cons (.blt .len (.cons (.var 8) .nil)) .nil))))) (.cons (.asg (.nm 10) (.lst (.cons (.bin .add (.bin .add (.sl (.var 2) .none (.var 3)) (.tup (.cons (.var 9) .nil))) (.sl (.var 2) (.bin .add (.var 3) (.int 1)) .none)) (.cons (.bin .add (.bin .add (.sl (.var 2) .none (.var 3)) (.tup (.cons (.var 9) .nil))) (.sl (.var 2) (.bin .add (.var 3) (.int 1)) .none)) .nil)))) (.cons (.asg (.nm 10) (.bin .add (.var 10) (.lst (.cons (.bin .add (.bin .add (.sl (.var 2) .none (.var 3)) (.sl (.var 2) (.var 3) (.bin .add (.var 3) (.int 1)))) (.sl (.var 2) (.var 3) .none)) (.cons (.turn (.var 2)) (.cons (.bin .add (.sl (.var 2) .none (.var 3)) (.sl (.var 2) (.bin .add (.var 3) (.int 1)) .none)) .nil)))))) (.cons (.ret (.ix (.bin .add (.var 10) (.lst (.cons (.blt .list (.cons (.var 2) .nil)) .nil))) (.call 8 (.cons (.var 0) (.cons (.int 6) .nil))))) .nil)))))))))
noncomputable def bd18:S:=.cons (.asg (.tp [2,3]) (.var 1)) (.cons (.asg (.nm 4) (.call 8 (.cons (.var 0) (.cons (.int 6) .nil)))) (.cons (.ife (.cmp .lt (.var 4) (.int 2)) (.cons (.ret (.tup (.cons (.call 16 (.cons (.var 0) (.cons (.var 2) .nil))) (.cons (.var 3) .nil)))) .nil) .nil) (.cons (.ife (.cmp .lt (.var 4) (.int 5)) (.cons (.ret (.tup (.cons (.var 2) (.cons (.call 17 (.cons (.var 0) (.cons (.blt .len (.cons (.var 2) .nil)) (.cons (.var 3) .nil)))) .nil)))) .nil) .nil) (.cons (.asg (.nm 5) (.lst (.cons (.blt .list (.cons (.var 1) .nil)) (.cons (.turn (.var 1)) (.cons (.tup (.cons (.var 2) .nil)) (.cons (.bin .add (.var 1) (.tup (.cons (.tup .nil) .nil))) (.cons (.var 2) (.cons (.var 3) (.cons (.tup (.cons (.var 3) (.cons (.var 3) .nil))) (.cons (.tup (.cons (.var 2) (.cons (.var 2) .nil))) .nil)))))))))) (.cons (.ret (.ix (.var 5) (.call 8 (.cons (.var 0) (.cons (.int 8) .nil))))) .nil)))))
noncomputable def bd19:S:=.cons (.asg (.nm 1) (.blt .str (.cons (.var 0) .nil))) (.cons (.asg (.nm 2) (.call 2 (.cons (.var 0) .nil))) (.cons (.ret (.and (.isi (.var 2) [.bool]) (.and (.cmp .eq (.var 2) (.call 15 (.cons (.var 0) .nil))) (.cmp .eq (.blt .str (.cons (.var 0) .nil)) (.var 1))))) .nil))
noncomputable def bd20:S:=.cons (.for_ (.nm 1) (.rng (.bin .add (.blt .min (.cons (.int 8) (.cons (.blt .len (.cons (.var 0) .nil)) .nil))) (.int 1))) (.cons (.asg (.nm 2) (.call 7 (.cons (.var 0) (.cons (.var 1) .nil)))) (.cons (.asg (.nm 3) (.call 14 (.cons (.var 2) (.cons (.call 13 (.cons (.var 2) (.cons (.int 12) .nil))) .nil)))) (.cons (.ife (.or (.is true (.call 2 (.cons (.var 3) .nil)) (.bl true)) (.is true (.call 2 (.cons (.tup (.cons (.tup .nil) (.cons (.tup .nil) .nil))) .nil)) (.bl true))) (.cons (.ret (.bl false)) .nil) .nil) (.cons (.asg (.nm 4) (.lst (.cons (.call 10 (.cons (.var 2) (.cons (.int 4) .nil))) (.cons (.call 11 (.cons (.var 2) .nil)) (.cons (.tup (.cons (.call 10 (.cons (.var 2) (.cons (.int 2) .nil))) (.cons (.call 10 (.cons (.var 2) (.cons (.int 2) .nil))) .nil))) .nil))))) (.cons (.asg (.nm 5) (.blt .tuple (.cons (.comp (.bin .add (.int 1) (.call 8 (.cons (.var 2) (.cons (.int 99) .nil)))) (.nm 8) 8 1 (.rng (.int 40)) .nil) .nil))) (.cons (.asg (.nm 6) (.blt .tuple (.cons (.comp (.tup (.cons (.var 8) (.cons (.bin .add (.var 8) (.int 1)) (.cons (.bin .add (.int 1) (.call 8 (.cons (.var 2) (.cons (.int 9) .nil)))) .nil)))) (.nm 8) 8 1 (.rng (.int 39)) .nil) .nil))) (.cons (.asg (.nm 4) (.bin .add (.var 4) (.lst (.cons (.tup (.cons (.var 5) (.cons (.var 6) .nil))) (.cons (.tup (.cons (.bin .add (.sl (.var 5) .none (.neg (.int 1))) (.tup (.cons (.int 0) .nil))) (.cons (.var 6) .nil))) (.cons (.tup (.cons (.var 5) (.cons (.bin .add (.sl (.var 6) .none (.neg (.int 1))) (.tup (.cons (.tup (.cons (.int 38) (.cons (.int 40) (.cons (.int 1) .nil)))) .nil))) .nil))) .nil)))))) (.cons (.for_ (.nm 7) (.rng (.int 10)) (.cons (.expr (.meth .append (.var 4) (.call 18 (.cons (.var 2) (.cons (.var 3) .nil))))) .nil)) (.cons (.ife (.not (.blt .all (.cons (.comp (.call 19 (.cons (.var 8) .nil)) (.nm 8) 8 1 (.var 4) .nil) .nil))) (.cons (.ret (.bl false)) .nil) .nil) .nil)))))))))) (.cons (.ret (.bl true)) .nil)
noncomputable def tb:List FD:=[⟨1,1,bd0,[],false,false⟩,⟨2,2,bd1,[],false,false⟩,⟨1,4,bd2,[],false,false⟩,⟨1,1,bd3,[],false,false⟩,⟨2,5,bd4,[],false,false⟩,⟨2,2,bd5,[],false,false⟩,⟨2,3,bd6,[],false,false⟩,⟨2,3,bd7,[],false,true⟩,⟨2,3,bd8,[.own],true,false⟩,⟨1,1,bd9,[],false,false⟩,⟨2,4,bd10,[.own],true,false⟩,⟨1,3,bd11,[.own],true,false⟩,⟨2,3,bd12,[.own],true,false⟩,⟨2,2,bd13,[.own],true,false⟩,⟨2,8,bd14,[.own,.imm,.imm,.imm,.imm,.own],true,false⟩,⟨1,7,bd15,[],false,false⟩,⟨2,6,bd16,[.own],true,false⟩,⟨3,11,bd17,[.own],true,false⟩,⟨2,6,bd18,[.own],true,false⟩,⟨1,3,bd19,[],false,false⟩,⟨1,8,bd20,[.imm,.imm,.own,.imm,.own],false,false⟩]
noncomputable def tab:List FDef:=[⟨1,1,bd0⟩,⟨2,2,bd1⟩,⟨1,4,bd2⟩,⟨1,1,bd3⟩,⟨2,5,bd4⟩,⟨2,2,bd5⟩,⟨2,3,bd6⟩,⟨2,3,bd7⟩,⟨2,3,bd8⟩,⟨1,1,bd9⟩,⟨2,4,bd10⟩,⟨1,3,bd11⟩,⟨2,3,bd12⟩,⟨2,2,bd13⟩,⟨2,8,bd14⟩,⟨1,7,bd15⟩,⟨2,6,bd16⟩,⟨3,11,bd17⟩,⟨2,6,bd18⟩,⟨1,3,bd19⟩,⟨1,8,bd20⟩]
theorem tab_eq:tb.map FD.pl = tab:=rfl
@[scoped simp ↓] theorem wc_0 (call:Nat→List FV→Option (FV×FV)) (a:E) (md:Md) (L:FLoc) (Q:FV→FLoc→Prop):wCall (sigF tb) call 0 (W (sigF tb) call a) md L Q = (W (sigF tb) call a).s md L fun xs L1=>wp (call 0 xs) fun z=>Q z.1 L1:=propext Iff.rfl
@[scoped simp] theorem sg_0:sigF tb 0 = (false,false):=rfl
noncomputable def fd0:FD:=⟨1,1,bd0,[],false,false⟩
@[scoped simp ↓] theorem wc_1 (call:Nat→List FV→Option (FV×FV)) (a:E) (md:Md) (L:FLoc) (Q:FV→FLoc→Prop):wCall (sigF tb) call 1 (W (sigF tb) call a) md L Q = (W (sigF tb) call a).s md L fun xs L1=>wp (call 1 xs) fun z=>Q z.1 L1:=propext Iff.rfl
@[scoped simp] theorem sg_1:sigF tb 1 = (false,false):=rfl
noncomputable def fd1:FD:=⟨2,2,bd1,[],false,false⟩
@[scoped simp ↓] theorem wc_2 (call:Nat→List FV→Option (FV×FV)) (a:E) (md:Md) (L:FLoc) (Q:FV→FLoc→Prop):wCall (sigF tb) call 2 (W (sigF tb) call a) md L Q = (W (sigF tb) call a).s md L fun xs L1=>wp (call 2 xs) fun z=>Q z.1 L1:=propext Iff.rfl
@[scoped simp] theorem sg_2:sigF tb 2 = (false,false):=rfl
noncomputable def fd2:FD:=⟨1,4,bd2,[],false,false⟩
@[scoped simp ↓] theorem wc_3 (call:Nat→List FV→Option (FV×FV)) (a:E) (md:Md) (L:FLoc) (Q:FV→FLoc→Prop):wCall (sigF tb) call 3 (W (sigF tb) call a) md L Q = (W (sigF tb) call a).s md L fun xs L1=>wp (call 3 xs) fun z=>Q z.1 L1:=propext Iff.rfl
@[scoped simp] theorem sg_3:sigF tb 3 = (false,false):=rfl
noncomputable def fd3:FD:=⟨1,1,bd3,[],false,false⟩
@[scoped simp ↓] theorem wc_4 (call:Nat→List FV→Option (FV×FV)) (a:E) (md:Md) (L:FLoc) (Q:FV→FLoc→Prop):wCall (sigF tb) call 4 (W (sigF tb) call a) md L Q = (W (sigF tb) call a).s md L fun xs L1=>wp (call 4 xs) fun z=>Q z.1 L1:=propext Iff.rfl
@[scoped simp] theorem sg_4:sigF tb 4 = (false,false):=rfl
noncomputable def fd4:FD:=⟨2,5,bd4,[],false,false⟩
@[scoped simp ↓] theorem wc_5 (call:Nat→List FV→Option (FV×FV)) (a:E) (md:Md) (L:FLoc) (Q:FV→FLoc→Prop):wCall (sigF tb) call 5 (W (sigF tb) call a) md L Q = (W (sigF tb) call a).s md L fun xs L1=>wp (call 5 xs) fun z=>Q z.1 L1:=propext Iff.rfl
@[scoped simp] theorem sg_5:sigF tb 5 = (false,false):=rfl
noncomputable def fd5:FD:=⟨2,2,bd5,[],false,false⟩
@[scoped simp ↓] theorem wc_6 (call:Nat→List FV→Option (FV×FV)) (a:E) (md:Md) (L:FLoc) (Q:FV→FLoc→Prop):wCall (sigF tb) call 6 (W (sigF tb) call a) md L Q = (W (sigF tb) call a).s md L fun xs L1=>wp (call 6 xs) fun z=>Q z.1 L1:=propext Iff.rfl
@[scoped simp] theorem sg_6:sigF tb 6 = (false,false):=rfl
noncomputable def fd6:FD:=⟨2,3,bd6,[],false,false⟩
@[scoped simp ↓] theorem wc_7 (call:Nat→List FV→Option (FV×FV)) (a:E) (md:Md) (L:FLoc) (Q:FV→FLoc→Prop):wCall (sigF tb) call 7 (W (sigF tb) call a) md L Q = (W (sigF tb) call a).s md L fun xs L1=>wp (call 7 xs) fun z=>Q z.1 L1:=propext Iff.rfl
@[scoped simp ↓] theorem wcf_7 (call:Nat→List FV→Option (FV×FV)) (a:E) (md:Md) (L:FLoc) (Q:FV→FLoc→Prop):(W (sigF tb) call (.call 7 a)).f md L Q = (W (sigF tb) call (.call 7 a)).v md L Q:=propext ⟨And.right,fun h=>⟨rfl,h⟩⟩
@[scoped simp] theorem sg_7:sigF tb 7 = (false,true):=rfl
noncomputable def fd7:FD:=⟨2,3,bd7,[],false,true⟩
@[scoped simp ↓] theorem wc_8 (call:Nat→List FV→Option (FV×FV)) (k:Nat) (es:E) (md:Md) (L:FLoc) (Q:FV→FLoc→Prop):wCall (sigF tb) call 8 (W (sigF tb) call (.cons (.var k) es)) md L Q = ownP md k ((W (sigF tb) call es).s md L fun xs L1=>wp (lkF L1 k) fun x=>wp (call 8 (x :: xs)) fun z=>Q z.1 (L1.set k (some z.2))):=propext Iff.rfl
@[scoped simp] theorem sg_8:sigF tb 8 = (true,false):=rfl
noncomputable def fd8:FD:=⟨2,3,bd8,[.own],true,false⟩
@[scoped simp ↓] theorem wc_9 (call:Nat→List FV→Option (FV×FV)) (a:E) (md:Md) (L:FLoc) (Q:FV→FLoc→Prop):wCall (sigF tb) call 9 (W (sigF tb) call a) md L Q = (W (sigF tb) call a).s md L fun xs L1=>wp (call 9 xs) fun z=>Q z.1 L1:=propext Iff.rfl
@[scoped simp] theorem sg_9:sigF tb 9 = (false,false):=rfl
noncomputable def fd9:FD:=⟨1,1,bd9,[],false,false⟩
@[scoped simp ↓] theorem wc_10 (call:Nat→List FV→Option (FV×FV)) (k:Nat) (es:E) (md:Md) (L:FLoc) (Q:FV→FLoc→Prop):wCall (sigF tb) call 10 (W (sigF tb) call (.cons (.var k) es)) md L Q = ownP md k ((W (sigF tb) call es).s md L fun xs L1=>wp (lkF L1 k) fun x=>wp (call 10 (x :: xs)) fun z=>Q z.1 (L1.set k (some z.2))):=propext Iff.rfl
@[scoped simp] theorem sg_10:sigF tb 10 = (true,false):=rfl
noncomputable def fd10:FD:=⟨2,4,bd10,[.own],true,false⟩
@[scoped simp ↓] theorem wc_11 (call:Nat→List FV→Option (FV×FV)) (k:Nat) (es:E) (md:Md) (L:FLoc) (Q:FV→FLoc→Prop):wCall (sigF tb) call 11 (W (sigF tb) call (.cons (.var k) es)) md L Q = ownP md k ((W (sigF tb) call es).s md L fun xs L1=>wp (lkF L1 k) fun x=>wp (call 11 (x :: xs)) fun z=>Q z.1 (L1.set k (some z.2))):=propext Iff.rfl
@[scoped simp] theorem sg_11:sigF tb 11 = (true,false):=rfl
noncomputable def fd11:FD:=⟨1,3,bd11,[.own],true,false⟩
@[scoped simp ↓] theorem wc_12 (call:Nat→List FV→Option (FV×FV)) (k:Nat) (es:E) (md:Md) (L:FLoc) (Q:FV→FLoc→Prop):wCall (sigF tb) call 12 (W (sigF tb) call (.cons (.var k) es)) md L Q = ownP md k ((W (sigF tb) call es).s md L fun xs L1=>wp (lkF L1 k) fun x=>wp (call 12 (x :: xs)) fun z=>Q z.1 (L1.set k (some z.2))):=propext Iff.rfl
@[scoped simp] theorem sg_12:sigF tb 12 = (true,false):=rfl
noncomputable def fd12:FD:=⟨2,3,bd12,[.own],true,false⟩
@[scoped simp ↓] theorem wc_13 (call:Nat→List FV→Option (FV×FV)) (k:Nat) (es:E) (md:Md) (L:FLoc) (Q:FV→FLoc→Prop):wCall (sigF tb) call 13 (W (sigF tb) call (.cons (.var k) es)) md L Q = ownP md k ((W (sigF tb) call es).s md L fun xs L1=>wp (lkF L1 k) fun x=>wp (call 13 (x :: xs)) fun z=>Q z.1 (L1.set k (some z.2))):=propext Iff.rfl
@[scoped simp] theorem sg_13:sigF tb 13 = (true,false):=rfl
noncomputable def fd13:FD:=⟨2,2,bd13,[.own],true,false⟩
@[scoped simp ↓] theorem wc_14 (call:Nat→List FV→Option (FV×FV)) (k:Nat) (es:E) (md:Md) (L:FLoc) (Q:FV→FLoc→Prop):wCall (sigF tb) call 14 (W (sigF tb) call (.cons (.var k) es)) md L Q = ownP md k ((W (sigF tb) call es).s md L fun xs L1=>wp (lkF L1 k) fun x=>wp (call 14 (x :: xs)) fun z=>Q z.1 (L1.set k (some z.2))):=propext Iff.rfl
@[scoped simp] theorem sg_14:sigF tb 14 = (true,false):=rfl
noncomputable def fd14:FD:=⟨2,8,bd14,[.own,.imm,.imm,.imm,.imm,.own],true,false⟩
@[scoped simp ↓] theorem wc_15 (call:Nat→List FV→Option (FV×FV)) (a:E) (md:Md) (L:FLoc) (Q:FV→FLoc→Prop):wCall (sigF tb) call 15 (W (sigF tb) call a) md L Q = (W (sigF tb) call a).s md L fun xs L1=>wp (call 15 xs) fun z=>Q z.1 L1:=propext Iff.rfl
@[scoped simp] theorem sg_15:sigF tb 15 = (false,false):=rfl
noncomputable def fd15:FD:=⟨1,7,bd15,[],false,false⟩
@[scoped simp ↓] theorem wc_16 (call:Nat→List FV→Option (FV×FV)) (k:Nat) (es:E) (md:Md) (L:FLoc) (Q:FV→FLoc→Prop):wCall (sigF tb) call 16 (W (sigF tb) call (.cons (.var k) es)) md L Q = ownP md k ((W (sigF tb) call es).s md L fun xs L1=>wp (lkF L1 k) fun x=>wp (call 16 (x :: xs)) fun z=>Q z.1 (L1.set k (some z.2))):=propext Iff.rfl
@[scoped simp] theorem sg_16:sigF tb 16 = (true,false):=rfl
noncomputable def fd16:FD:=⟨2,6,bd16,[.own],true,false⟩
@[scoped simp ↓] theorem wc_17 (call:Nat→List FV→Option (FV×FV)) (k:Nat) (es:E) (md:Md) (L:FLoc) (Q:FV→FLoc→Prop):wCall (sigF tb) call 17 (W (sigF tb) call (.cons (.var k) es)) md L Q = ownP md k ((W (sigF tb) call es).s md L fun xs L1=>wp (lkF L1 k) fun x=>wp (call 17 (x :: xs)) fun z=>Q z.1 (L1.set k (some z.2))):=propext Iff.rfl
@[scoped simp] theorem sg_17:sigF tb 17 = (true,false):=rfl
noncomputable def fd17:FD:=⟨3,11,bd17,[.own],true,false⟩
@[scoped simp ↓] theorem wc_18 (call:Nat→List FV→Option (FV×FV)) (k:Nat) (es:E) (md:Md) (L:FLoc) (Q:FV→FLoc→Prop):wCall (sigF tb) call 18 (W (sigF tb) call (.cons (.var k) es)) md L Q = ownP md k ((W (sigF tb) call es).s md L fun xs L1=>wp (lkF L1 k) fun x=>wp (call 18 (x :: xs)) fun z=>Q z.1 (L1.set k (some z.2))):=propext Iff.rfl
@[scoped simp] theorem sg_18:sigF tb 18 = (true,false):=rfl
noncomputable def fd18:FD:=⟨2,6,bd18,[.own],true,false⟩
@[scoped simp ↓] theorem wc_19 (call:Nat→List FV→Option (FV×FV)) (a:E) (md:Md) (L:FLoc) (Q:FV→FLoc→Prop):wCall (sigF tb) call 19 (W (sigF tb) call a) md L Q = (W (sigF tb) call a).s md L fun xs L1=>wp (call 19 xs) fun z=>Q z.1 L1:=propext Iff.rfl
@[scoped simp] theorem sg_19:sigF tb 19 = (false,false):=rfl
noncomputable def fd19:FD:=⟨1,3,bd19,[],false,false⟩
@[scoped simp ↓] theorem wc_20 (call:Nat→List FV→Option (FV×FV)) (a:E) (md:Md) (L:FLoc) (Q:FV→FLoc→Prop):wCall (sigF tb) call 20 (W (sigF tb) call a) md L Q = (W (sigF tb) call a).s md L fun xs L1=>wp (call 20 xs) fun z=>Q z.1 L1:=propext Iff.rfl
@[scoped simp] theorem sg_20:sigF tb 20 = (false,false):=rfl
noncomputable def fd20:FD:=⟨1,8,bd20,[.imm,.imm,.own,.imm,.own],false,false⟩
end Kf
end
section
set_option maxRecDepth 10000
set_option maxHeartbeats 1000000
set_option linter.all false
namespace Kf
open Kw
noncomputable def mixV (a k:Int):Int:=((a % 2147483629 + k * k * 7919 + 11) * 48271 % 2147483647) * ((a % 2147483629 + k * k * 7919 + 11) * 48271 % 2147483647) % 1999999973
theorem small_mod (x:Int):small (x % 2147483647) = true:=by
 have:=Int.emod_nonneg x (show (2147483647:Int) ≠ 0 by decide)
 have:=Int.emod_lt_of_pos x (show (0:Int) < 2147483647 by decide)
 simp only [small,decide_eq_true_eq]; omega
theorem small_of {i:Int} (h:0 ≤ i) (h':i < 2 ^ 60):small i = true:=by
 simp only [small,decide_eq_true_eq]; omega
theorem small62_of {i:Int} (h:0 ≤ i) (h':i < 2 ^ 60):small62 i = true:=by
 simp only [small62,decide_eq_true_eq]; omega
theorem mix_ok (d:Nat) (a k:Int) (hk:small k = true):callF tb (d + 1) 6 [.int a,.int k] = some (.int (mixV a k),.non):=by
 have h2:small 48271 = true:=by decide
 have h3:small 7919 = true:=by decide
 refine wp_eq (wp_call (fd:=fd6) rfl rfl ?_)
 simp [fd6,bd6,h2,h3,hk,small_mod,mixV]
noncomputable def Lf (n:Int) (v:FV):Prop:=∃ a b c,v = .lst [.int a,.int b,.int c]∧0 ≤ c∧c ≤ n
theorem Lf.mono {n m:Int} {v:FV} (h:Lf n v) (k:n ≤ m):Lf m v:=by
 obtain ⟨a,b,c,h,h1,h2⟩:=h
 exact ⟨a,b,c,h,h1,by omega⟩
theorem pick_wp (d:Nat) {many n:Int} {v:FV} {Q:FV×FV→Prop} (hs:Lf n v) (hn:n < 1000000) (h1:0 < many) (h2:many < 1073741824)
  (q:∀ u v',0 ≤ u→u < many→Lf (n + 1) v'→Q (.int u,v')):wp (callF tb (d + 2) 8 [v,.int many]) Q:=by
 obtain ⟨a,b,c,rfl,h3,h4⟩:=hs
 refine wp_call (fd:=fd8) rfl rfl ?_
 have s1:small (c + 1) = true:=small_of (by omega) (by omega)
 have s2:small (c + 1 + 64) = true:=small_of (by omega) (by omega)
 by_cases ha:0 < a
 ·simp [fd8,bd8,ixN,ha,h1,h2]
  exact q _ _ (Int.emod_nonneg _ (by omega)) (Int.emod_lt_of_pos _ h1) ⟨_,_,_,rfl,by omega,by omega⟩
 ·simp [fd8,bd8,ixN,ha,h1,h2,mix_ok,s1,s2]
  exact q _ _ (Int.emod_nonneg _ (by omega)) (Int.emod_lt_of_pos _ h1) ⟨_,_,_,rfl,by omega,by omega⟩
theorem left_wp (d:Nat) (ns:List Int) (k:Nat) {Q:FV×FV→Prop} (q:∀ v y,Lf 0 v→Q (v,y)):wp (callF tb (d + 1) 7 [.scr ns,.int k]) Q:=by
 refine wp_call (fd:=fd7) rfl rfl ?_
 have h1:small 1000003 = true:=by decide
 have h2:small 0 = true:=by decide
 have h4:small 10 = true:=by decide
 have h5:∀ r:Bool,small (if r = true then 1 else 0) = true:=by intro r; cases r <;> decide
 simp [fd7,bd7]
 split
 ·rename_i hk
  rw [at_nat rfl (show (ns.map FV.int)[k]? = some (.int ns[k]) by simp [hk])]
  simp [h1,h4,h5,big]
  exact ⟨.inr (by by_cases hh:1000000000000000000 ≤ (if ns[k] < 0 then -ns[k] else ns[k]) <;> simp only [hh,if_true,if_false] <;> decide),q _ _ ⟨_,_,_,rfl,by omega,by omega⟩⟩
 ·simp [h1,h2,h4,big]
  exact q _ _ ⟨_,_,_,rfl,by omega,by omega⟩
mutual
noncomputable def dF:D→FV
 | .non=>.non
 | .bl b=>.bl b
 | .int i=>.int i
 | .str x=>.str x
 | .tup xs=>.tup (dFs xs)
 | .lst xs=>.lst (dFs xs)
noncomputable def dFs:List D→List FV
 | []=>[]
 | x :: r=>dF x :: dFs r
end
theorem dFs_map:∀ xs:List D,dFs xs = xs.map dF
 | []=>rfl
 | x :: r=>by rw [dFs,dFs_map r]; rfl
mutual
noncomputable def dep:D→Nat
 | .tup xs=>deps xs + 1
 | .lst xs=>deps xs + 1
 | .non=>0 | .bl _=>0 | .int _=>0 | .str _=>0
noncomputable def deps:List D→Nat
 | []=>0
 | x :: r=>max (dep x) (deps r)
end
mutual
theorem fD_dF:∀ (x:D) (n:Nat),dep x < n→fD n (dF x) = some x
 | .non,0,h=>by omega
 | .non,n + 1,h=>rfl
 | .bl _,0,h=>by omega
 | .bl _,n + 1,h=>rfl
 | .int _,0,h=>by omega
 | .int _,n + 1,h=>rfl
 | .str _,0,h=>by omega
 | .str _,n + 1,h=>rfl
 | .tup xs,0,h=>by omega
 | .tup xs,n + 1,h=>by simp only [dF,fD]; rw [fDs_dF xs n (by simp only [dep] at h; omega)]; rfl
 | .lst xs,0,h=>by omega
 | .lst xs,n + 1,h=>by simp only [dF,fD]; rw [fDs_dF xs n (by simp only [dep] at h; omega)]; rfl
theorem fDs_dF:∀ (xs:List D) (n:Nat),deps xs < n→mapO (fD n) (dFs xs) = some xs
 | [],n,h=>rfl
 | x :: r,n,h=>by
  simp only [deps] at h
  simp only [dFs,mapO,fD_dF x n (by omega),fDs_dF r n (by omega),Option.bind_some,Option.map_some]
end
noncomputable def Vl (k p:Nat) (x:FV):Prop:=∃ d,x = dF d∧dep d ≤ p∧d.fit = true∧d.wt ≤ k
theorem Vl.mono {k k' p p':Nat} {x:FV} (h:Vl k p x) (hk:k ≤ k') (hp:p ≤ p'):Vl k' p' x:=by
 obtain ⟨d,e,h1,h2,h3⟩:=h
 exact ⟨d,e,by omega,h2,by omega⟩
theorem Vl.all {k p:Nat}:∀ {xs:List FV},(∀ x ∈ xs,Vl k p x)→∃ ds:List D,xs = dFs ds∧deps ds ≤ p∧D.fits ds = true∧D.wts ds ≤ ds.length * (k + 1)∧ds.length = xs.length
 | [],_=>⟨[],rfl,Nat.zero_le _,rfl,by simp [D.wts],rfl⟩
 | x :: r,h=>by
  obtain ⟨d,e,h1,h2,h3⟩:=h x (List.mem_cons_self ..)
  obtain ⟨ds,e',h1',h2',h3',h4'⟩:=Vl.all (xs:=r) fun y hy=>h y (List.mem_cons_of_mem _ hy)
  refine ⟨d :: ds,by rw [e,e']; rfl,by simp only [deps]; omega,by simp only [D.fits,h2,h2',Bool.and_self],?_,by simp [h4']⟩
  simp only [D.wts,List.length_cons,Nat.add_mul,Nat.one_mul]; omega
theorem Vl.tup {k p m:Nat} {xs:List FV} (h:∀ x ∈ xs,Vl k p x) (hl:xs.length ≤ m):Vl (m * (k + 1)) (p + 1) (.tup xs):=by
 obtain ⟨ds,e,h1,h2,h3,h4⟩:=Vl.all h
 refine ⟨.tup ds,by rw [e]; rfl,by simp only [dep]; omega,by simp only [D.fit,h2],?_⟩
 simp only [D.wt]
 exact Nat.le_trans h3 (Nat.mul_le_mul_right _ (by omega))
theorem Vl.lst {k p m:Nat} {xs:List FV} (h:∀ x ∈ xs,Vl k p x) (hl:xs.length ≤ m):Vl (m * (k + 1)) (p + 1) (.lst xs):=by
 obtain ⟨ds,e,h1,h2,h3,h4⟩:=Vl.all h
 refine ⟨.lst ds,by rw [e]; rfl,by simp only [dep]; omega,by simp only [D.fit,h2],?_⟩
 simp only [D.wt]
 exact Nat.le_trans h3 (Nat.mul_le_mul_right _ (by omega))
theorem Vl.int {i:Int} (h:-(2 ^ 40) < i) (h':i < 2 ^ 40):Vl 41 0 (.int i):=⟨.int i,rfl,Nat.le_refl _,by simp only [D.fit,decide_eq_true_eq]; omega,by simp only [D.wt]; rw [if_pos ⟨h,h'⟩]; exact Nat.le_refl _⟩
theorem Vl.bl {b:Bool}:Vl 0 0 (.bl b):=⟨.bl b,rfl,Nat.le_refl _,rfl,Nat.le_refl _⟩
theorem Vl.non:Vl 0 0 .non:=⟨.non,rfl,Nat.le_refl _,rfl,Nat.le_refl _⟩
theorem Vl.of {k p:Nat} (ds:List D) (h:(ds.all fun d=>decide (dep d ≤ p∧d.fit = true∧d.wt ≤ k)) = true):∀ x ∈ ds.map dF,Vl k p x:=by
 intro x hx
 obtain ⟨d,hd,rfl⟩:=List.mem_map.mp hx
 rw [List.all_eq_true] at h
 have:=h d hd
 simp only [decide_eq_true_eq] at this
 exact ⟨d,rfl,this⟩
theorem at_any {xs:List FV} {u:Int} {Q:FV→Prop} (h0:0 ≤ u) (h1:u < xs.length) (h:∀ x ∈ xs,Q x):wp (atF xs u) Q:=by
 have hu:u.toNat < xs.length:=by omega
 rw [at_nat (show u = u.toNat by omega) (List.getElem?_eq_getElem hu)]
 exact h _ (List.getElem_mem hu)
theorem cut_mem {xs:List FV} {lo hi:Option Int} {x:FV} (h:x ∈ cutF xs lo hi):x ∈ xs:=List.mem_of_mem_drop (List.mem_of_mem_take h)
theorem cut_two (xs:List FV) {k:Int} (h:0 ≤ k):(cutF xs none (some k)).length + (cutF xs (some k) none).length = xs.length:=by
 obtain ⟨n,rfl⟩:=Int.eq_ofNat_of_zero_le h
 have h1:sIx xs.length xs.length (some (n:Int)) = min n xs.length:=by simp only [sIx]; rw [if_neg (by omega)]; simp
 have h2:sIx xs.length 0 (some (n:Int)) = min n xs.length:=by simp only [sIx]; rw [if_neg (by omega)]; simp
 unfold cutF
 show ((xs.drop 0).take (sIx xs.length xs.length (some (n:Int)) - 0)).length + ((xs.drop (sIx xs.length 0 (some (n:Int)))).take (xs.length - sIx xs.length 0 (some (n:Int)))).length = _
 rw [h1,h2]
 simp only [List.length_take,List.length_drop,Nat.sub_zero,List.drop_zero]; omega
theorem cut_len (xs:List FV) (lo hi:Option Int):(cutF xs lo hi).length ≤ xs.length:=by
 unfold cutF; rw [List.length_take,List.length_drop]; omega
theorem str_eq {k p:Nat} {x:FV} (h:Vl k p x) (hk:k ≤ big) (hp:p < 40):∃ y,bfunF .str x = some y∧∀ R:Bool→Prop,wp (eqF y y) R = R true:=by
 obtain ⟨d,rfl,h1,h2,h3⟩:=h
 have big':∀ e:D,dep e < 40→e.fit = true→e.wt ≤ big→(fD deepest (dF e)).bind (fun d=>if d.fit∧d.wt ≤ big then some (FV.shn d) else none) = some (.shn e):=fun e h1 h2 h3=>by
  rw [fD_dF e deepest h1]
  show (if e.fit∧e.wt ≤ big then some (FV.shn e) else none) = _
  rw [if_pos ⟨h2,h3⟩]
 cases d with
 | non=>exact ⟨_,rfl,fun R=>by simp⟩
 | bl b=>exact ⟨_,rfl,fun R=>by simp⟩
 | str x=>exact ⟨_,rfl,fun R=>by simp⟩
 | int i =>
  simp only [D.fit,decide_eq_true_eq] at h2
  exact ⟨_,(show (if -(2 ^ 150) < i∧i < 2 ^ 150 then some (FV.str (toString i)) else none) = some (.str (toString i)) by rw [if_pos h2]),fun R=>by simp⟩
 | tup xs=>exact ⟨_,big' (.tup xs) (by omega) h2 (by omega),fun R=>by simp⟩
 | lst xs=>exact ⟨_,big' (.lst xs) (by omega) h2 (by omega),fun R=>by simp⟩
theorem bools_map {α:Type} (p:α→Bool):∀ xs:List α,boolsF (xs.map fun x=>.bl (p x)) = some (xs.map p)
 | []=>rfl
 | x :: r=>by simp only [List.map_cons,boolsF,bools_map p r,Option.map_some]
theorem ints_map:∀ ns:List Int,intsF (ns.map .int) = some ns
 | []=>rfl
 | x :: r=>by simp only [List.map_cons,intsF,ints_map r,Option.map_some]
theorem eq_dF {a b:D} (ha:dep a < 40) (hb:dep b < 40):eqF (dF a) (dF b) = some (D.eqv a b):=by
 have go:(fD deepest (dF a)).bind (fun x=>(fD deepest (dF b)).bind fun y=>some (D.eqv x y)) = some (D.eqv a b):=by
  rw [fD_dF a deepest ha,fD_dF b deepest hb]; rfl
 unfold eqF
 split
 ·rename_i x y e1 e2; cases a <;> cases e1
 ·exact go
theorem cut_from {α:Type} (xs:List α) (n:Nat):cutF xs (some (n:Int)) none = xs.drop n:=by
 have h:sIx xs.length 0 (some (n:Int)) = min n xs.length:=by simp only [sIx]; rw [if_neg (by omega)]; simp
 unfold cutF
 rw [h]
 show (xs.drop (min n xs.length)).take (xs.length - min n xs.length) = _
 by_cases hn:n ≤ xs.length
 ·rw [Nat.min_eq_left hn,List.take_of_length_le (by simp)]
 ·rw [Nat.min_eq_right (by omega),List.drop_of_length_le (Nat.le_refl _),List.drop_of_length_le (by omega)]; simp
noncomputable def isNum:D→Bool | .int _=>true | _=>false
noncomputable def isSz:D→Bool | .int i=>decide (1 ≤ i) | _=>false
noncomputable def isMk (n:Nat):D→Bool | .int i=>decide (0 ≤ i) && decide (i < n) | _=>false
noncomputable def isCh (n:Nat):D→Bool | .tup [a,b,s]=>isMk n a && (isMk n b && (!(D.eqv a b) && isSz s)) | _=>false
noncomputable def prOf:D→List Int | .tup [.int a,.int b,_]=>[a,b] | _=>[]
noncomputable def rising:List (List Int)→Bool
 | a :: b :: r=>lexLt a b && rising (b :: r)
 | _=>true
noncomputable def isStk:D→Bool
 | .tup [.tup ws,.tup cs]=>ws.all isSz && (cs.all (isCh ws.length) && rising (cs.map prOf))
 | _=>false
theorem num_ok (d:Nat) (x:D):callF tb (d + 1) 0 [dF x] = some (.bl (isNum x),.non):=by
 refine wp_eq (wp_call (fd:=fd0) rfl rfl ?_)
 cases x <;> simp [fd0,bd0,dF,isNum]
theorem tupN_ok (d:Nat) (x:D) (n:Int):callF tb (d + 1) 1 [dF x,.int n] = some (.bl (match x with | .tup xs=>(xs.length:Int) == n | _=>false),.non):=by
 refine wp_eq (wp_call (fd:=fd1) rfl rfl ?_)
 cases x <;> simp [fd1,bd1,dF,dFs_map]
theorem size_ok (d:Nat) (x:D):callF tb (d + 2) 3 [dF x] = some (.bl (isSz x),.non):=by
 refine wp_eq (wp_call (fd:=fd3) rfl rfl ?_)
 cases x <;> simp [fd3,bd3,num_ok,isNum,isSz] <;> simp [dF]
theorem make_ok (d:Nat) (x:D) (n:Nat):callF tb (d + 2) 5 [dF x,.int n] = some (.bl (isMk n x),.non):=by
 refine wp_eq (wp_call (fd:=fd5) rfl rfl ?_)
 cases x <;> simp [fd5,bd5,num_ok,isNum,isMk] <;> simp [dF]
 rename_i i
 by_cases h:0 ≤ i <;> simp [h]
theorem chg_ok (d:Nat) (x:D) (n:Nat) (hx:dep x < 39):callF tb (d + 3) 4 [dF x,.int n] = some (.bl (isCh n x),.non):=by
 refine wp_eq (wp_call (fd:=fd4) rfl rfl ?_)
 simp [fd4,bd4,tupN_ok]
 split
 ·rename_i xs
  split
  ·rename_i hl
   obtain ⟨a,b,s,rfl⟩:∃ a b s,xs = [a,b,s]:=by
    rcases xs with _ | ⟨a,_ | ⟨b,_ | ⟨s,_ | ⟨t,r⟩⟩⟩⟩ <;> simp at hl
    ·exact ⟨_,_,_,rfl⟩
    ·omega
   simp only [dep,deps] at hx
   simp [dF,dFs,allImm,make_ok,size_ok,eq_dF (a:=a) (b:=b) (by omega) (by omega),isCh]
   cases isMk n a <;> cases isMk n b <;> cases D.eqv a b <;> simp
  ·rename_i hl
   rcases xs with _ | ⟨a,_ | ⟨b,_ | ⟨s,_ | ⟨t,r⟩⟩⟩⟩ <;> simp [isCh] at hl ⊢
 ·cases x <;> simp [isCh] at *
theorem numb_ok (d:Nat) (xs:List D) (hl:xs.length ≤ big):callF tb (d + 1) 9 [.tup (dFs xs)] = some (.bl (xs.all isNum),.non):=by
 refine wp_eq (wp_call (fd:=fd9) rfl rfl ?_)
 simp [fd9,bd9,dFs_map,tgGe]
 refine comp_map (g:=fun x=>.bl (isNum x)) xs ?_ ?_
 ·intro x hx
  cases x <;> simp [dF,isNum]
 ·simp [bools_map,allB_map,hl]
noncomputable def tI (l:List Int):FV:=.tup (l.map .int)
theorem rise_zip:∀ l:List (List Int),((l.zip (l.drop 1)).all fun p=>lexLt p.1 p.2) = rising l
 | []=>rfl
 | [a]=>rfl
 | a :: b :: r=>by
  have:=rise_zip (b :: r)
  simp only [List.drop_succ_cons,List.drop_zero,List.zip_cons_cons,List.all_cons,rising] at this ⊢
  rw [this]
theorem ch_pr {n:Nat} {c:D} (h:isCh n c = true):∃ a b s,c = .tup [.int a,.int b,.int s]∧0 ≤ a∧a < n∧0 ≤ b∧b < n∧a ≠ b∧1 ≤ s∧prOf c = [a,b]:=by
 unfold isCh at h
 split at h
 ·rename_i a b s
  simp only [Bool.and_eq_true] at h
  obtain ⟨h1,h2,h3,h4⟩:=h
  cases a <;> simp [isMk] at h1
  cases b <;> simp [isMk] at h2
  cases s <;> simp [isSz] at h4
  simp [D.eqv] at h3
  exact ⟨_,_,_,rfl,h1.1,h1.2,h2.1,h2.2,h3,h4,rfl⟩
 ·cases h
theorem zip_map (l:List (List Int)):(l.map tI).zipWith (fun p q=>FV.tup [p,q]) ((l.map tI).drop 1) = (l.zip (l.drop 1)).map fun p=>FV.tup [tI p.1,tI p.2]:=by
 rw [← List.map_drop,List.zipWith_map,List.zip,List.map_zipWith]
theorem wts_len:∀ xs:List D,xs.length ≤ D.wts xs
 | []=>Nat.le_refl _
 | x :: r=>by have:=wts_len r; simp only [D.wts,List.length_cons]; omega
theorem deps_mem {x:D}:∀ {xs:List D},x ∈ xs→dep x ≤ deps xs
 | [],h=>by cases h
 | y :: r,h=>by
  simp only [deps]
  rcases List.mem_cons.mp h with rfl | h
  ·omega
  ·have:=deps_mem h; omega
theorem ite2 {c A B:Prop} [Decidable c] (h1:c→A) (h2:¬ c→B):if c then A else B:=by
 by_cases h:c
 ·rw [if_pos h]; exact h1 h
 ·rw [if_neg h]; exact h2 h
theorem stk_ok (d:Nat) (x:D) (hx:dep x < 38) (hw:x.wt ≤ big):callF tb (d + 4) 2 [dF x] = some (.bl (isStk x),.non):=by
 refine wp_eq (wp_call (fd:=fd2) rfl rfl ?_)
 simp [fd2,bd2,tupN_ok]
 split
 ·rename_i xs
  split
  ·rename_i hl
   obtain ⟨w,c,rfl⟩:∃ a b,xs = [a,b]:=by
    rcases xs with _ | ⟨a,_ | ⟨b,_ | ⟨s,r⟩⟩⟩ <;> simp at hl
    ·exact ⟨_,_,rfl⟩
    ·omega
   simp only [dep,deps] at hx
   cases w with
   | tup ws =>
    cases c with
    | tup cs =>
     have l1:ws.length ≤ big:=by have:=wts_len ws; simp only [D.wt,D.wts] at hw; omega
     have l2:cs.length ≤ big:=by have:=wts_len cs; simp only [D.wt,D.wts] at hw; omega
     simp [dF,dFs,dFs_map]
     refine comp_map (g:=fun x=>.bl (isSz x)) ws ?_ ?_
     ·intro x hx'
      simp [size_ok]
     simp [bools_map,allB_map,l1]
     refine ite2 (fun hs=>?_) (fun hs=>?_)
     rotate_left
     ·simp [isStk,hs]
     refine comp_map (g:=fun x=>.bl (isCh ws.length x)) cs ?_ ?_
     ·intro x hx'
      have:=deps_mem hx'
      simp only [dep] at hx
      simp [chg_ok d x ws.length (by omega)]
     simp [bools_map,allB_map,l2]
     refine ite2 (fun hc=>?_) (fun hc=>?_)
     rotate_left
     ·simp [isStk,hc]
     refine comp_map (g:=fun x=>tI (prOf x)) cs ?_ ?_
     ·intro x hx'
      obtain ⟨a,b,s,rfl,_,_,_,_,_,_,hp⟩:=ch_pr (hc x hx')
      simp [dF,dFs,cutF,sIx,tI,hp]
     simp [l2]
     rw [show (1:Int) = ((1:Nat):Int) from rfl,cut_from,show (cs.map fun x=>tI (prOf x)) = (cs.map prOf).map tI by rw [List.map_map]; rfl,zip_map]
     refine comp_map (g:=fun p=>.bl (lexLt p.1 p.2)) _ ?_ ?_
     ·rintro ⟨p,q⟩ -
      simp [tI,ints_map]
     ·have hz:(List.zip (cs.map prOf) ((cs.map prOf).drop 1)).length ≤ big:=by simp; omega
      simp only [bools_map,wp_some,allB_map,rise_zip]
      refine ⟨by rw [List.length_map]; exact hz,?_⟩
      have h1:ws.all isSz = true:=by rw [List.all_eq_true]; exact hs
      have h2:cs.all (isCh ws.length) = true:=by rw [List.all_eq_true]; exact hc
      simp [isStk,h1,h2]
    | _=>simp [dF,dFs,isStk]
   | _=>simp [dF,dFs,isStk]
  ·rename_i hl
   rcases xs with _ | ⟨a,_ | ⟨b,_ | ⟨s,r⟩⟩⟩ <;> simp [isStk] at hl ⊢
 ·cases x <;> simp [isStk] at *
noncomputable def dueR (n:Nat):List Int→List D→Bool
 | _,[]=>true
 | last,x :: r=>isCh n x && !(lexLe (prOf x) last) && dueR n (prOf x) r
theorem le_lt (a b c d:Int):(!lexLe [a,b] [c,d]) = lexLt [c,d] [a,b]:=by
 simp only [lexLe,lexLt]
 by_cases h1:a = c
 ·subst h1
  by_cases h2:b = d
  ·subst h2; simp
  ·simp only [h2,Ne.symm h2,if_true,if_false,← decide_not]
   exact decide_eq_decide.mpr (by omega)
 ·simp only [h1,Ne.symm h1,if_false,← decide_not]
  exact decide_eq_decide.mpr (by omega)
theorem due_rise (n:Nat):∀ (cs:List D) (a b:Int),(dueR n [a,b] cs = (cs.all (isCh n) && rising ([a,b] :: cs.map prOf)))
 | [],a,b=>by simp [dueR,rising]
 | x :: r,a,b=>by
  simp only [dueR,List.all_cons,List.map_cons,rising]
  cases h:isCh n x with
  | false=>simp
  | true =>
   obtain ⟨a',b',s,_,_,_,_,_,_,_,hp⟩:=ch_pr h
   rw [hp,due_rise n r a' b',le_lt]
   cases r.all (isCh n) <;> cases lexLt [a,b] [a',b'] <;> simp
theorem due_first (n:Nat) (cs:List D):dueR n [-1,-1] cs = (cs.all (isCh n) && rising (cs.map prOf)):=by
 rw [due_rise]
 cases cs with
 | nil=>rfl
 | cons x r =>
  simp only [List.all_cons,List.map_cons,rising]
  cases h:isCh n x with
  | false=>simp
  | true =>
   obtain ⟨a',b',s,_,h1,_,h2,_,_,_,hp⟩:=ch_pr h
   rw [hp]
   have:lexLt [-1,-1] [a',b'] = true:=by simp only [lexLt]; rw [if_neg (by omega)]; simp; omega
   rw [this]; simp
noncomputable def lastP (d:List D):List Int:=match d.getLast? with
 | some x=>prOf x
 | none=>[-1,-1]
theorem last_snoc (d:List D) (x:D):lastP (d ++ [x]) = prOf x:=by simp [lastP]
noncomputable def ltOne:D→Bool | .int i=>decide (i < 1) | _=>false
theorem num_sz:∀ {ws:List D},ws.all isNum = true→(ws.any ltOne) = !(ws.all isSz)
 | [],_=>rfl
 | x :: r,h=>by
  simp only [List.all_cons,Bool.and_eq_true] at h
  have ih:=num_sz h.2
  cases x <;> simp [isNum] at h
  rename_i i
  simp only [List.any_cons,List.all_cons,ih,ltOne,isSz]
  by_cases hi:i < 1
  ·simp [hi]
  ·have:1 ≤ i:=by omega
   simp [hi,this]
theorem sz_num:∀ {ws:List D},ws.all isSz = true→ws.all isNum = true
 | [],_=>rfl
 | x :: r,h=>by
  simp only [List.all_cons,Bool.and_eq_true] at h
  have ih:=sz_num h.2
  have h1:=h.1
  cases x <;> simp [isSz] at h1
  simp only [List.all_cons,isNum,ih,Bool.and_self]
theorem mk_num {n:Nat} {a:D} (h:isMk n a = true):isNum a = true:=by cases a <;> first | rfl | exact (Bool.false_ne_true h).elim
theorem sz1_num {a:D} (h:isSz a = true):isNum a = true:=by cases a <;> first | rfl | exact (Bool.false_ne_true h).elim
theorem num_is {a:D} (h:isNum a = true):∃ i,a = .int i:=by
 cases a with
 | int i=>exact ⟨i,rfl⟩
 | _=>exact (Bool.false_ne_true h).elim
theorem ch_num {n:Nat} {a b s:D} (h:¬ [a,b,s].all isNum = true):isCh n (.tup [a,b,s]) = false:=by
 cases e:isCh n (.tup [a,b,s]) with
 | false=>rfl
 | true =>
  simp only [isCh,Bool.and_eq_true] at e
  exact absurd (by simp only [List.all_cons,List.all_nil,mk_num e.1,mk_num e.2.1,sz1_num e.2.2.2,Bool.and_self]) h
theorem nums3 {a b s:D} (h:[a,b,s].all isNum = true):∃ i j k,a = .int i∧b = .int j∧s = .int k:=by
 simp only [List.all_cons,List.all_nil,Bool.and_eq_true] at h
 obtain ⟨i,rfl⟩:=num_is h.1
 obtain ⟨j,rfl⟩:=num_is h.2.1
 obtain ⟨k,rfl⟩:=num_is h.2.2.1
 exact ⟨i,j,k,rfl,rfl,rfl⟩
theorem due_step {a b s n:Int} {le x y:Bool} (h:x = (decide (0 ≤ a) && decide (a < n) && (decide (0 ≤ b) && decide (b < n) && (!a == b && decide (1 ≤ s))) && !le && y)) :
  if s < 1 then x = false else if a = b then x = false else if 0 ≤ a then if a < n then if 0 ≤ b then if b < n then if le = true then x = false else x = y else x = false else x = false else x = false else x = false:=by
 subst h
 refine ite2 (fun c=>?_) fun c1=>ite2 (fun c=>?_) fun c2=>ite2 (fun c3=>ite2 (fun c4=>ite2 (fun c5=>ite2 (fun c6=>ite2 (fun c=>?_) fun c7=>?_) fun c=>?_) fun c=>?_) fun c=>?_) fun c=>?_
 ·rw [decide_eq_false (p:=1 ≤ s) (by omega)]; simp only [Bool.and_false,Bool.false_and]
 ·rw [c,beq_self_eq_true]; simp only [Bool.not_true,Bool.and_false,Bool.false_and]
 ·rw [c]; simp only [Bool.not_true,Bool.and_false,Bool.false_and]
 ·rw [decide_eq_true c3,decide_eq_true c4,decide_eq_true c5,decide_eq_true c6,beq_false_of_ne c2,decide_eq_true (p:=1 ≤ s) (by omega),Bool.eq_false_iff.mpr c7]; rfl
 all_goals rw [decide_eq_false c]; simp only [Bool.and_false,Bool.false_and]
theorem due_ok (d:Nat) (x:D) (hx:dep x < 38) (hw:x.wt ≤ big):callF tb (d + 2) 15 [dF x] = some (.bl (isStk x),.non):=by
 refine wp_eq (wp_call (fd:=fd15) rfl rfl ?_)
 cases x with
 | tup xs =>
  simp [fd15,bd15,dF,dFs_map]
  refine ite2 (fun hl=>?_) (fun hl=>?_)
  rotate_left
  ·rcases xs with _ | ⟨a,_ | ⟨b,_ | ⟨s,r⟩⟩⟩ <;> simp [isStk] at hl ⊢
  ·obtain ⟨w,c,rfl⟩:∃ a b,xs = [a,b]:=by
    rcases xs with _ | ⟨a,_ | ⟨b,_ | ⟨s,r⟩⟩⟩ <;> simp at hl
    ·exact ⟨_,_,rfl⟩
    ·omega
   simp only [dep,deps] at hx
   cases w with
   | tup ws =>
    have l1:ws.length ≤ big:=by have:=wts_len ws; simp only [D.wt,D.wts] at hw; omega
    simp [dF,numb_ok d ws l1]
    refine ite2 (fun hn=>?_) (fun hn=>?_)
    rotate_left
    ·have:ws.all isSz = false:=by
      cases h:ws.all isSz with
      | false=>rfl
      | true=>exact absurd (by simpa using sz_num h) hn
     cases c <;> simp [isStk,this]
    have hn':ws.all isNum = true:=by simpa using hn
    simp [dFs_map]
    refine comp_map (g:=fun x=>.bl (ltOne x)) ws ?_ ?_
    ·intro x hx'
     have:=hn x hx'
     cases x <;> simp [isNum] at this
     simp [dF,ltOne]
    simp [bools_map,anyB_map,l1]
    refine ite2 (fun hs=>?_) (fun hs=>?_)
    ·have:ws.all isSz = false:=by
      have h1:=num_sz hn'
      have h2:ws.any ltOne = true:=by simpa using hs
      rw [h2] at h1; simpa using h1.symm
     cases c <;> simp [isStk,this]
    have hs':ws.all isSz = true:=by
     have h1:=num_sz hn'
     have h2:ws.any ltOne = false:=by simpa using hs
     rw [h2] at h1; simpa using h1.symm
    cases c with
    | tup cs =>
     simp [dF,dFs_map,big]
     have key:isStk (.tup [.tup ws,.tup cs]) = dueR ws.length [-1,-1] cs:=by rw [due_first]; simp [isStk,hs']
     rw [key]
     refine for_each (f:=dF) (I:=fun d L=>(∃ x y z,L = [some (FV.tup [FV.tup (List.map dF ws),FV.tup (List.map dF cs)]),some (FV.tup (List.map dF ws)),some (FV.tup (List.map dF cs)),some (tI (lastP d)),x,y,z]) ∧
      dueR ws.length [-1,-1] cs = dueR ws.length (lastP d) (cs.drop d.length)) cs cs [] _ rfl ⟨⟨_,_,_,rfl⟩,rfl⟩ ?_ ?_
     ·rintro ds x r L e ⟨⟨x1,y1,z1,rfl⟩,hd⟩
      have e2:cs.drop ds.length = x :: r:=by rw [e]; simp
      rw [e2] at hd
      have e3:cs.drop (ds ++ [x]).length = r:=by rw [e]; simp
      have hx2:dep x < 38:=by
       have:=deps_mem (show x ∈ cs by rw [e]; simp)
       simp only [dep] at hx; omega
      simp only [dueR] at hd
      rw [e3,last_snoc]
      cases x with
      | tup xs =>
       simp [dF]
       refine ite2 (fun h3=>?_) (fun h3=>?_)
       rotate_left
       ·rw [hd]
        rcases xs with _ | ⟨a,_ | ⟨b,_ | ⟨s,_ | ⟨t,r⟩⟩⟩⟩ <;> simp [isCh,dFs] at h3 ⊢
       obtain ⟨a,b,s,rfl⟩:∃ a b s,xs = [a,b,s]:=by
        rcases xs with _ | ⟨a,_ | ⟨b,_ | ⟨s,_ | ⟨t,r⟩⟩⟩⟩ <;> simp [dFs] at h3
        ·exact ⟨_,_,_,rfl⟩
        ·omega
       rw [numb_ok d [a,b,s] (by simp [big])]
       simp only [wp_some,tr_b]
       refine ite2 (fun h4=>?_) (fun h4=>?_)
       rotate_left
       ·rw [hd]
        simp [ch_num h4]
       obtain ⟨a,b,s,rfl,rfl,rfl⟩:=nums3 h4
       simp [dF,dFs,cutF,sIx,tI,ints_map,isCh,isMk,isSz,D.eqv,prOf,big] at hd ⊢
       rw [show [FV.int a,FV.int b] = [a,b].map FV.int from rfl,ints_map]
       simp only [wp_some]
       exact due_step hd
      | _=>simp [dF,isCh] at hd ⊢ <;> exact hd
     ·rintro L ⟨⟨x1,y1,z1,rfl⟩,hd⟩
      rw [List.drop_length] at hd
      simp [hd,dueR]
    | _=>simp [dF,isStk]
   | _=>simp [dF,isStk]
 | _=>simp [fd15,bd15,dF,isStk]
theorem asdue_ok (d:Nat) {k p:Nat} {x:FV} (h:Vl k p x) (hk:k ≤ big) (hp:p < 38):callF tb (d + 5) 19 [x] = some (.bl true,.non):=by
 refine wp_eq (wp_call (fd:=fd19) rfl rfl ?_)
 obtain ⟨y,ey,hy⟩:=str_eq h hk (by omega)
 obtain ⟨e,he,h1,h2,h3⟩:=h
 subst he
 simp [fd19,bd19,ey,hy,stk_ok d e (by omega) (by omega),due_ok (d + 2) e (by omega) (by omega)]
noncomputable def Na:Nat→Int | 0=>2 | k + 1=>4 + 3 * Na k
noncomputable def Wa:Nat→Nat | 0=>100 | k + 1=>3 * (Wa k + 1) + 100
theorem Na_pos:∀ k,2 ≤ Na k
 | 0=>by simp [Na]
 | k + 1=>by have:=Na_pos k; simp only [Na]; omega
noncomputable def someD:List D:=[.non,.bl true,.bl false,.int 0,.int 1,.int (-1),.int 2,.int 7,.str "",.str "keep",.str "put",.tup [],.lst [],.tup [.int 0],.lst [.int 0],.tup [.int 0,.int 1],.tup [.non],.tup [.str "keep",.int 0,.int 1]]
theorem some_vl:∀ x ∈ someD.map dF,Vl 100 1 x:=Vl.of someD (by decide +kernel)
theorem some_at {v':FV} {j:Int} {Q:FV×FV→Prop} (h0:0 ≤ j) (h1:j < 18) (q:∀ x,Vl 100 1 x→Q (x,v')) :
  wp (atF [FV.non,FV.bl true,FV.bl false,FV.int 0,FV.int 1,FV.int (-1),FV.int 2,FV.int 7,FV.str "",FV.str "keep",FV.str "put",FV.tup [],FV.lst [],FV.tup [FV.int 0],FV.lst [FV.int 0],FV.tup [FV.int 0,FV.int 1],FV.tup [FV.non],FV.tup [FV.str "keep",FV.int 0,FV.int 1]] j) fun v=>Q (v,v') :=
 at_any (xs:=someD.map dF) h0 h1 fun x hx=>q x (some_vl x hx)
theorem any_wp (d:Nat):∀ (lv:Nat) {n:Int} {v:FV} {Q:FV×FV→Prop},Lf n v→0 ≤ n→n + Na lv < 10000→(∀ x v',Vl (Wa lv) (lv + 2) x→Lf (n + Na lv) v'→Q (x,v'))→wp (callF tb (d + lv + 3) 10 [v,.int lv]) Q
 | 0,n,v,Q,hs,h0,hn,q=>by
  refine wp_call (fd:=fd10) rfl rfl ?_
  simp [fd10,bd10,big]
  simp only [Na] at hn
  refine pick_wp d hs (by omega) (by decide) (by decide) fun u v1 u0 u1 l1=>?_
  simp only [in_i]
  exact some_at u0 u1 fun x hx=>q x v1 (hx.mono (by decide) (by omega)) (l1.mono (by simp only [Na]; omega))
 | lv + 1,n,v,Q,hs,h0,hn,q=>by
  refine wp_call (fd:=fd10) rfl rfl ?_
  have hz:¬ ((lv:Int) + 1 = 0):=by omega
  simp [fd10,bd10,big,hz]
  have hp:=Na_pos lv
  simp only [Na] at hn
  refine pick_wp (d + lv + 1) hs (by omega) (by decide) (by decide) fun u v1 u0 u1 l1=>?_
  simp
  refine ite2 (fun hu=>?_) (fun hu=>?_)
  ·refine pick_wp (d + lv + 1) l1 (by omega) (by decide) (by decide) fun u v2 u0 u1 l2=>?_
   simp only [in_i]
   exact some_at u0 u1 fun x hx=>q x v2 (hx.mono (by simp only [Wa]; omega) (by omega)) (l2.mono (by simp only [Na]; omega))
  ·refine pick_wp (d + lv + 1) l1 (by omega) (by decide) (by decide) fun u v2 u0 u1 l2=>?_
   simp
   refine ⟨small62_of u0 (by omega),?_⟩
   rw [upto_range]
   refine comp_each (f:=fun i:Nat=>FV.int i) (I:=fun ds acc L=>∃ v',L = [some v',some (.int ((lv:Int) + 1)),some (.lst (someD.map dF)),none]∧Lf (n + 2 + Na lv * ds.length) v'∧acc.length = ds.length∧∀ x ∈ acc,Vl (Wa lv) (lv + 2) x) (List.range u.toNat) (List.range u.toNat) [] [] _ rfl ⟨v2,rfl,by simpa [Int.add_assoc] using l2,rfl,by simp⟩ ?_ ?_
   ·rintro ds x r acc L e ⟨v',rfl,l3,hl,hv⟩
    have hd:ds.length ≤ 3:=by have:=congrArg List.length e; simp at this; omega
    have hd':Na lv * ds.length + Na lv ≤ 3 * Na lv:=by
     have:ds.length + 1 ≤ 3:=by have:=congrArg List.length e; simp at this; omega
     have:Na lv * (ds.length + 1:Nat) ≤ Na lv * (3:Nat):=Int.mul_le_mul_of_nonneg_left (by exact_mod_cast this) (by omega)
     push_cast at this; rw [Int.mul_add] at this; omega
    have hd0:0 ≤ Na lv * ds.length:=Int.mul_nonneg (by omega) (by omega)
    simp
    refine any_wp d lv l3 (by omega) (by omega) fun y v4 hy l4=>?_
    simp
    refine ⟨l4.mono (by rw [Int.mul_add]; omega),hl,?_⟩
    intro z hz
    rcases hz with hz | hz
    ·exact hv z hz
    ·rw [hz]; exact hy
   ·rintro ys L ⟨v',rfl,l3,hl,hv⟩
    simp at hl hv
    rw [List.length_range] at l3
    have hu3:(u.toNat:Int) ≤ 3:=by omega
    have hm:Na lv * (u.toNat:Int) ≤ Na lv * 3:=Int.mul_le_mul_of_nonneg_left hu3 (by omega)
    have hm0:0 ≤ Na lv * (u.toNat:Int):=Int.mul_nonneg (by omega) (by omega)
    simp
    refine ⟨by omega,?_⟩
    refine pick_wp (d + lv + 1) l3 (by omega) (by decide) (by decide) fun w v5 w0 w1 l5=>?_
    simp
    refine at_any w0 w1 ?_
    have hq:∀ x,Vl (Wa (lv + 1)) (lv + 1 + 2) x→Q (x,v5):=fun x hx=>q x v5 hx (l5.mono (by simp only [Na]; omega))
    intro x hx
    simp at hx
    rcases hx with rfl | rfl
    ·exact hq _ ((Vl.lst hv (show ys.length ≤ 3 by omega)).mono (by simp only [Wa]; omega) (by omega))
    ·exact hq _ ((Vl.tup hv (show ys.length ≤ 3 by omega)).mono (by simp only [Wa]; omega) (by omega))
theorem nest_wp (d:Nat) {n:Int} {v:FV} {Q:FV×FV→Prop} (hs:Lf n v) (h0:0 ≤ n) (hn:n < 10000) (q:∀ x v',Vl 200 25 x→Lf (n + 2) v'→Q (x,v')):wp (callF tb (d + 3) 11 [v]) Q:=by
 refine wp_call (fd:=fd11) rfl rfl ?_
 simp [fd11,bd11,big]
 refine pick_wp d hs (by omega) (by decide) (by decide) fun u v1 u0 u1 l1=>?_
 simp
 refine at_any u0 u1 ?_
 intro x hx
 have hx:Vl 100 1 x:=by
  refine Vl.of [.tup [.int 0,.int 1],.int 0,.non] (by decide +kernel) x ?_
  simpa [dF,dFs] using hx
 refine pick_wp d l1 (by omega) (by decide) (by decide) fun w v2 w0 w1 l2=>?_
 simp
 refine ⟨small62_of w0 (by omega),?_⟩
 refine for_upto (I:=fun j L=>∃ x y,L = [some v2,some x,y]∧Vl (100 + 2 * j) (1 + j) x) w.toNat 0 _ ⟨_,_,rfl,hx⟩ ?_ ?_
 ·rintro j L - hj ⟨x,y,rfl,hx⟩
  simp [big]
  refine at_any (Int.emod_nonneg _ (by omega)) (by have:=Int.emod_lt_of_pos (j:Int) (show (0:Int) < 2 by omega); simpa using this) ?_
  intro z hz
  simp at hz
  rcases hz with rfl | rfl
  ·exact (Vl.lst (k:=100 + 2 * j) (p:=1 + j) (m:=1) (xs:=[x]) (by simpa using hx) (by simp)).mono (by omega) (by omega)
  ·exact (Vl.tup (k:=100 + 2 * j) (p:=1 + j) (m:=1) (xs:=[x]) (by simpa using hx) (by simp)).mono (by omega) (by omega)
 ·rintro L ⟨x,y,rfl,hx⟩
  simp
  exact q _ _ (hx.mono (by omega) (by omega)) (l2.mono (by omega))
theorem size_wp (d:Nat) {n g:Int} {v:FV} {Q:FV×FV→Prop} (hs:Lf n v) (h0:0 ≤ n) (hn:n < 100000) (q:∀ s v',1 ≤ s→s < 1000000000→Lf (n + 2) v'→Q (.int s,v')):wp (callF tb (d + 3) 12 [v,.int g]) Q:=by
 refine wp_call (fd:=fd12) rfl rfl ?_
 simp [fd12,bd12,big]
 refine pick_wp d hs (by omega) (by decide) (by decide) fun u v1 u0 u1 l1=>?_
 have rest:wp (atF [FV.int 9,FV.int 9,FV.int 40,FV.int 3] u) fun v_1=>wp (callF tb (d + 2) 8 [v1,v_1]) fun z=>wp (binF BOp.add (FV.int 1) z.1) fun z_1=>Q (z_1,z.2):=by
  refine at_any u0 u1 ?_
  intro x hx
  obtain ⟨m,rfl,m0,m1⟩:∃ m:Int,x = .int m∧0 < m∧m ≤ 40:=by
   simp at hx
   rcases hx with rfl | rfl | rfl <;> exact ⟨_,rfl,by decide,by decide⟩
  refine pick_wp d l1 (by omega) m0 (by omega) fun w v2 w0 w1 l2=>?_
  simp
  exact q _ _ (by omega) (by omega) (l2.mono (by omega))
 have s10:small 10 = true:=by decide
 simp [s10]
 refine ite2 (fun h3=>?_) (fun h3=>?_)
 ·refine ite2 (fun h4=>?_) (fun h4=>?_)
  ·refine pick_wp d l1 (by omega) (by decide) (by decide) fun w v2 w0 w1 l2=>?_
   simp
   exact q _ _ (by omega) (by omega) (l2.mono (by omega))
  ·exact rest
 ·exact rest
theorem many_wp (d:Nat) {n:Int} {v:FV} {Q:FV×FV→Prop} (hs:Lf n v) (h0:0 ≤ n) (hn:n < 10000) (q:∀ (m:Nat) v',m ≤ 12→Lf (n + 2) v'→Q (.int m,v')):wp (callF tb (d + 3) 13 [v,.int 12]) Q:=by
 refine wp_call (fd:=fd13) rfl rfl ?_
 simp [fd13,bd13,big]
 refine pick_wp d hs (by omega) (by decide) (by decide) fun u v1 u0 u1 l1=>?_
 simp
 refine ite2 (fun h3=>?_) (fun h3=>?_)
 ·refine pick_wp d l1 (by omega) (by decide) (by decide) fun w v2 w0 w1 l2=>?_
  simp
  obtain ⟨k,rfl⟩:=Int.eq_ofNat_of_zero_le w0
  exact_mod_cast q (7 + k) _ (by omega) (l2.mono (by omega))
 ·refine pick_wp d l1 (by omega) (by decide) (by decide) fun w v2 w0 w1 l2=>?_
  simp
  refine at_any w0 w1 ?_
  intro x hx
  have:∃ m:Nat,x = .int m∧m ≤ 12:=by
   simp at hx
   rcases hx with rfl | rfl | rfl | rfl | rfl | rfl | rfl | rfl | rfl | rfl <;> first
    | exact ⟨0,rfl,by decide⟩ | exact ⟨1,rfl,by decide⟩ | exact ⟨2,rfl,by decide⟩ | exact ⟨3,rfl,by decide⟩ | exact ⟨4,rfl,by decide⟩ | exact ⟨5,rfl,by decide⟩ | exact ⟨6,rfl,by decide⟩
  obtain ⟨m,rfl,hm⟩:=this
  exact q m _ hm (l2.mono (by omega))
noncomputable abbrev Chg:=Int×Int×Int
noncomputable def cV (c:Chg):FV:=.tup [.int c.1,.int c.2.1,.int c.2.2]
noncomputable def stV (ws:List Int) (cs:List Chg):FV:=.tup [.tup (ws.map .int),.tup (cs.map cV)]
structure Stk (m:Nat) (ws:List Int) (cs:List Chg):Prop where
 len:ws.length = m
 pos:∀ w ∈ ws,1 ≤ w∧w < 2000000000
 rng:∀ c ∈ cs,0 ≤ c.1∧c.1 < m∧0 ≤ c.2.1∧c.2.1 < m∧c.1 ≠ c.2.1∧1 ≤ c.2.2∧c.2.2 < 1000000000
 ris:cs.Pairwise fun c d=>lexLt [c.1,c.2.1] [d.1,d.2.1] = true
 few:cs.length ≤ 144
structure Rws (m:Nat) (a b:Int) (cs:List Chg):Prop where
 rng:∀ c ∈ cs,0 ≤ c.1∧c.1 < m∧0 ≤ c.2.1∧c.2.1 < m∧c.1 ≠ c.2.1∧1 ≤ c.2.2∧c.2.2 < 1000000000
 ris:cs.Pairwise fun c d=>lexLt [c.1,c.2.1] [d.1,d.2.1] = true
 top:∀ c ∈ cs,c.1 < a ∨ (c.1 = a∧c.2.1 < b)
theorem Rws.snoc {m:Nat} {a b s:Int} {cs:List Chg} (h:Rws m a b cs) (ha:0 ≤ a∧a < m) (hb:0 ≤ b∧b < m) (hab:a ≠ b) (hs:1 ≤ s∧s < 1000000000):Rws m a (b + 1) (cs ++ [(a,b,s)]):=by
 refine ⟨fun c hc=>?_,?_,fun c hc=>?_⟩
 ·rcases List.mem_append.mp hc with hc | hc
  ·exact h.rng c hc
  ·simp at hc; subst hc; exact ⟨ha.1,ha.2,hb.1,hb.2,hab,hs.1,hs.2⟩
 ·rw [List.pairwise_append]
  refine ⟨h.ris,by simp,fun c hc d hd=>?_⟩
  simp at hd; subst hd
  rcases h.top c hc with t | ⟨t1,t2⟩
  ·simp only [lexLt]; rw [if_neg (by omega)]; simp; exact t
  ·simp only [lexLt]; rw [if_pos t1,if_neg (by omega)]; simp; exact t2
 ·rcases List.mem_append.mp hc with hc | hc
  ·rcases h.top c hc with t | ⟨t1,t2⟩
   ·exact .inl t
   ·exact .inr ⟨t1,by omega⟩
  ·simp at hc; subst hc; exact .inr ⟨rfl,by show b < b + 1; omega⟩
theorem Rws.on {m:Nat} {a b:Int} {cs:List Chg} (h:Rws m a b cs):Rws m a (b + 1) cs:=⟨h.rng,h.ris,fun c hc=>by
 rcases h.top c hc with t | ⟨t1,t2⟩
 ·exact .inl t
 ·exact .inr ⟨t1,by omega⟩⟩
theorem Rws.next {m:Nat} {a b:Int} {cs:List Chg} (h:Rws m a b cs):Rws m (a + 1) 0 cs:=⟨h.rng,h.ris,fun c hc=>by
 rcases h.top c hc with t | ⟨t1,t2⟩
 ·exact .inl (by omega)
 ·exact .inl (by omega)⟩
theorem stock_wp (d m:Nat) {n:Int} {v:FV} {Q:FV×FV→Prop} (hm:m ≤ 12) (hs:Lf n v) (h0:0 ≤ n) (hn:n < 10000) (q:∀ ws cs v',Stk m ws cs→Lf (n + 600) v'→Q (stV ws cs,v')):wp (callF tb (d + 4) 14 [v,.int m]) Q:=by
 refine wp_call (fd:=fd14) rfl rfl ?_
 simp [fd14,bd14,big]
 refine pick_wp (d + 1) hs (by omega) (by decide) (by decide) fun g v1 g0 g1 l1=>?_
 simp
 refine pick_wp (d + 1) l1 (by omega) (by decide) (by decide) fun o v2 o0 o1 l2=>?_
 simp
 refine ⟨small62_of (by omega) (by omega),?_⟩
 rw [upto_range]
 refine comp_each (f:=fun i:Nat=>FV.int i) (I:=fun ds acc L=>∃ v' ws,L = [some v',some (.int m),some (.int g),some (.int (1 + o)),none,none,none,none]∧acc = ws.map .int∧Lf (n + 2 + 3 * ds.length) v'∧ws.length = ds.length∧∀ w ∈ ws,1 ≤ w∧w < 2000000000) (List.range m) (List.range m) [] [] _ rfl ⟨v2,[],rfl,rfl,by simpa [Int.add_assoc] using l2,rfl,by simp⟩ ?_ ?_
 ·rintro ds x r acc L e ⟨v',ws,rfl,rfl,l3,hl,hv⟩
  have hd:ds.length < 12:=by have:=congrArg List.length e; simp at this; omega
  simp
  refine size_wp d l3 (by omega) (by omega) fun s v4 s0 s1 l4=>?_
  simp [big]
  refine pick_wp (d + 1) l4 (by omega) (by decide) (by decide) fun p v5 p0 p1 l5=>?_
  simp
  refine at_any p0 p1 ?_
  intro x hx
  obtain ⟨t,rfl,t0,t1⟩:∃ t:Int,x = .int t∧0 ≤ t∧t ≤ 12:=by
   simp at hx
   rcases hx with rfl | rfl <;> exact ⟨_,rfl,by decide,by decide⟩
  simp
  refine ⟨ws ++ [s + t],by simp,l5.mono (by omega),by simp [hl],?_⟩
  intro w hw
  simp at hw
  rcases hw with hw | rfl
  ·exact hv w hw
  ·omega
 ·rintro ys L ⟨v',ws,rfl,hy,l3,hl,hv⟩
  rw [List.nil_append] at hy
  subst hy
  simp at hl l3
  simp [hl,big]
  refine ⟨by omega,small62_of (by omega) (by omega),?_⟩
  have l3:Lf (n + 40) v':=l3.mono (by omega)
  refine for_upto (I:=fun a L=>∃ v' cs x y,L = [some v',some (.int m),some (.int g),some (.int (1 + o)),some (.tup (ws.map .int)),some (.lst (cs.map cV)),x,y]∧Rws m a 0 cs∧cs.length ≤ 12 * a∧Lf (n + 40 + 36 * a) v') m 0 _ ⟨v',[],_,_,rfl,⟨by simp,by simp,by simp⟩,by simp,by simpa using l3⟩ ?_ ?_
  ·rintro a L - ha ⟨v1,cs,x,y,rfl,hr,hc,l4⟩
   simp
   refine ⟨small62_of (by omega) (by omega),?_⟩
   refine for_upto (I:=fun b L=>∃ v' cs y,L = [some v',some (.int m),some (.int g),some (.int (1 + o)),some (.tup (ws.map .int)),some (.lst (cs.map cV)),some (.int a),y]∧Rws m a b cs∧cs.length ≤ 12 * a + b∧Lf (n + 40 + 36 * a + 3 * b) v') m 0 _ ⟨v1,cs,_,rfl,hr,by omega,by simpa using l4⟩ ?_ ?_
   ·rintro b L - hb ⟨v2,cs,y,rfl,hr,hc,l5⟩
    simp
    refine ite2 (fun hab=>?_) (fun hab=>?_)
    ·refine ⟨v2,cs,⟨rfl,rfl⟩,by exact_mod_cast hr.on,by omega,l5.mono (by omega)⟩
    ·refine pick_wp (d + 1) l5 (by omega) (by omega) (by omega) fun u v3 u0 u1 l6=>?_
     simp
     refine ite2 (fun hu=>?_) (fun hu=>?_)
     ·refine size_wp d l6 (by omega) (by omega) fun s v4 s0 s1 l7=>?_
      simp [big]
      refine ⟨by omega,v4,cs ++ [((a:Int),(b:Int),s)],⟨rfl,by simp [cV]⟩,?_,by simp; omega,l7.mono (by omega)⟩
      exact_mod_cast hr.snoc ⟨by omega,by omega⟩ ⟨by omega,by omega⟩ hab ⟨s0,s1⟩
     ·exact ⟨v3,cs,⟨rfl,rfl⟩,by exact_mod_cast hr.on,by omega,l6.mono (by omega)⟩
   ·rintro L ⟨v2,cs,y,rfl,hr,hc,l5⟩
    simp
    exact ⟨v2,cs,⟨rfl,rfl⟩,by exact_mod_cast hr.next,by omega,l5.mono (by omega)⟩
  ·rintro L ⟨v2,cs,x,y,rfl,hr,hc,l5⟩
   simp
   exact q ws cs v2 ⟨hl,hv,hr.rng,hr.ris,by omega⟩ (l5.mono (by omega))
theorem wts_le {k:Nat}:∀ {xs:List D},(∀ x ∈ xs,x.wt ≤ k)→D.wts xs ≤ xs.length * (k + 1)
 | [],_=>by simp [D.wts]
 | x :: r,h=>by
  have h1:=h x (List.mem_cons_self ..)
  have h2:=wts_le (xs:=r) fun y hy=>h y (List.mem_cons_of_mem _ hy)
  simp only [D.wts,List.length_cons,Nat.add_mul,Nat.one_mul]; omega
theorem deps_le {k:Nat}:∀ {xs:List D},(∀ x ∈ xs,dep x ≤ k)→deps xs ≤ k
 | [],_=>Nat.zero_le _
 | x :: r,h=>by
  have h1:=h x (List.mem_cons_self ..)
  have h2:=deps_le (xs:=r) fun y hy=>h y (List.mem_cons_of_mem _ hy)
  simp only [deps]; omega
theorem rise_of:∀ {l:List (List Int)},l.Pairwise (fun a b=>lexLt a b = true)→rising l = true
 | [],_=>rfl
 | [a],_=>rfl
 | a :: b :: r,h=>by
  rw [List.pairwise_cons] at h
  simp only [rising,h.1 b (List.mem_cons_self ..),rise_of h.2,Bool.and_self]
noncomputable def cD (c:Chg):D:=.tup [.int c.1,.int c.2.1,.int c.2.2]
theorem Stk.is {m:Nat} {ws:List Int} {cs:List Chg} (S:Stk m ws cs) (hm:m ≤ 12):∃ e,stV ws cs = dF e∧dep e ≤ 3∧e.wt ≤ 25000∧isStk e = true:=by
 have w1:∀ x ∈ ws.map D.int,x.wt ≤ 41∧dep x ≤ 0:=by
  intro x hx
  obtain ⟨w,hw,rfl⟩:=List.mem_map.mp hx
  have:=S.pos w hw
  simp only [D.wt,dep]; rw [if_pos (by omega)]; omega
 have c1:∀ x ∈ cs.map cD,x.wt ≤ 126∧dep x ≤ 1:=by
  intro x hx
  obtain ⟨c,hc,rfl⟩:=List.mem_map.mp hx
  have:=S.rng c hc
  simp only [cD,D.wt,D.wts,dep,deps]
  rw [if_pos (by omega),if_pos (by omega),if_pos (by omega)]; omega
 refine ⟨.tup [.tup (ws.map .int),.tup (cs.map cD)],?_,?_,?_,?_⟩
 ·simp [stV,dF,dFs,dFs_map,cD,cV,Function.comp_def]
 ·have h1:=deps_le fun x hx=>(w1 x hx).2
  have h2:=deps_le fun x hx=>(c1 x hx).2
  simp only [dep,deps]; omega
 ·have h1:=wts_le fun x hx=>(w1 x hx).1
  have h2:=wts_le fun x hx=>(c1 x hx).1
  have:=S.len
  have:=S.few
  simp only [List.length_map] at h1 h2
  simp only [D.wt,D.wts]; omega
 ·simp only [isStk,List.length_map,Bool.and_eq_true,List.all_eq_true]
  refine ⟨fun x hx=>?_,fun x hx=>?_,?_⟩
  ·obtain ⟨w,hw,rfl⟩:=List.mem_map.mp hx
   have:=S.pos w hw
   simp [isSz]; omega
  ·obtain ⟨c,hc,rfl⟩:=List.mem_map.mp hx
   have:=S.rng c hc
   have hl:=S.len
   simp [cD,isCh,isMk,isSz,D.eqv]; omega
  ·refine rise_of ?_
   rw [List.map_map,List.pairwise_map]
   exact S.ris
theorem Stk.ws {m:Nat} {ws:List Int} {cs:List Chg} (S:Stk m ws cs):∀ x ∈ ws.map FV.int,Vl 41 0 x:=by
 intro x hx
 obtain ⟨w,hw,rfl⟩:=List.mem_map.mp hx
 have:=S.pos w hw
 exact .int (by omega) (by omega)
theorem Stk.cs {m:Nat} {ws:List Int} {cs:List Chg} (S:Stk m ws cs) (hm:m ≤ 12):∀ x ∈ cs.map cV,Vl 126 1 x:=by
 intro x hx
 obtain ⟨c,hc,rfl⟩:=List.mem_map.mp hx
 have:=S.rng c hc
 refine (Vl.tup (k:=41) (p:=0) (m:=3) ?_ (by simp)).mono (by omega) (by omega)
 intro y hy
 simp at hy
 rcases hy with rfl | rfl | rfl <;> exact .int (by omega) (by omega)
theorem bwh_wp (d:Nat) {n:Int} {v:FV} {ws:List FV} {Q:FV×FV→Prop} (hw:∀ x ∈ ws,Vl 41 0 x) (hl:ws.length ≤ 12) (hs:Lf n v) (h0:0 ≤ n) (hn:n < 10000) (q:∀ x v',Vl 6000 2 x→Lf (n + 3) v'→Q (x,v')):wp (callF tb (d + 3) 16 [v,.tup ws]) Q:=by
 refine wp_call (fd:=fd16) rfl rfl ?_
 have s10:small 10 = true:=by decide
 simp [fd16,bd16]
 refine pick_wp d hs (by omega) (by omega) (by omega) fun at' v1 a0 a1 l1=>?_
 simp [big,s10]
 refine pick_wp d l1 (by omega) (by omega) (by omega) fun o v2 o0 o1 l2=>?_
 simp
 refine at_any o0 o1 ?_
 intro x hx
 have hx:Vl 200 1 x:=by
  refine Vl.of [.int 0,.int (-1),.bl true,.str "3",.non,.int 1,.int 1000000000000000000000000000000,.tup [.int 2],.int 2] (by decide +kernel) x ?_
  simpa [dF,dFs] using hx
 have c1:=cut_len ws none (some at')
 have c2:=cut_len ws (some (at' + 1)) none
 have c3:=cut_len ws (some at') none
 have c4:=cut_len ws none (some (-1))
 have hw':∀ x ∈ ws,Vl 200 1 x:=fun x h=>(hw x h).mono (by decide) (by decide)
 refine ⟨by omega,by omega,by omega,by omega,?_⟩
 refine pick_wp d l2 (by omega) (by omega) (by omega) fun p v3 p0 p1 l3=>?_
 simp only [in_i]
 refine at_any p0 p1 ?_
 intro y hy
 have go:∀ xs:List FV,xs.length ≤ 26→(∀ x ∈ xs,Vl 200 1 x)→Vl 6000 2 (.tup xs):=fun xs h1 h2=>(Vl.tup h2 h1).mono (by decide) (by decide)
 refine q y v3 ?_ (l3.mono (by omega))
 simp at hy
 rcases hy with rfl | rfl | rfl | rfl
 ·refine go _ (by simp; omega) ?_
  intro z hz
  simp at hz
  rcases hz with hz | rfl | hz
  ·exact hw' z (cut_mem hz)
  ·exact hx
  ·exact hw' z (cut_mem hz)
 ·refine go _ (by simp; omega) ?_
  intro z hz
  simp at hz
  rcases hz with hz | rfl | hz
  ·exact hw' z (cut_mem hz)
  ·exact hx
  ·exact hw' z (cut_mem hz)
 ·exact go _ (by omega) fun z hz=>hw' z (cut_mem hz)
 ·exact (Vl.lst hw' (show ws.length ≤ 26 by omega)).mono (by decide) (by decide)
theorem str_len {i:Int} (h0:0 ≤ i) (h1:i < 2000000000):(toString i).length ≤ 10:=by
 obtain ⟨n,rfl⟩:=Int.eq_ofNat_of_zero_le h0
 show (Nat.repr n).length ≤ 10
 rw [Nat.length_repr_le_iff (by decide)]; omega
theorem bch_tail (d m:Nat) {n:Int} {v1:FV} {cs:List Chg} {a b s at':Int} {Q:FV×FV→Prop} (hm:m ≤ 12) (hv:∀ x ∈ cs.map cV,Vl 300 2 x) (hl:cs.length ≤ 144) (ha:0 ≤ a∧a ≤ 12) (hb:0 ≤ b∧b ≤ 12) (hs':1 ≤ s∧s < 1000000000) (a0:0 ≤ at') (l1:Lf (n + 1) v1) (h0:0 ≤ n) (hn:n < 10000) (q:∀ x v',Vl 90000 3 x→Lf (n + 3) v'→Q (x,v')) :
  WX (sigF tb) (callF tb (d + 2)) false (tlS (tlS bd17)) [.own] [some v1,some (.int m),some (.tup (cs.map cV)),some (.int at'),some (cV (a,b,s)),none,none,none,none,none,none] (endW true false Q):=by
 have s10:small 10 = true:=by decide
 obtain ⟨y,ey,hy⟩:=str_eq (k:=41) (p:=0) (x:=.int s) (.int (by omega) (by omega)) (by decide) (by decide)
 have hyv:Vl 41 0 y:=by
  have e2:bfunF .str (FV.int s) = some (.str (toString s)):=by
   show (if -(2 ^ 150) < s∧s < 2 ^ 150 then some (FV.str (toString s)) else none) = _
   rw [if_pos (by omega)]
  rw [ey] at e2
  cases e2
  exact ⟨.str (toString s),rfl,Nat.le_refl _,rfl,Nat.le_trans (str_len (by omega) (by omega)) (by decide)⟩
 simp [tlS,bd17,cV,big,s10,ey]
 refine pick_wp d l1 (by omega) (by omega) (by omega) fun o v2 o0 o1 l2=>?_
 simp only [in_i]
 refine at_any o0 o1 ?_
 intro x hx
 have hx:Vl 300 2 x:=by
  have i0:∀ i:Int,-3 < i→i < 1000000000→Vl 41 0 (.int i):=fun i h1 h2=>.int (by omega) (by omega)
  have big30:Vl 151 0 (.int 1000000000000000000000000000000):=⟨.int 1000000000000000000000000000000,rfl,Nat.le_refl _,by decide,by decide⟩
  have t3:∀ x y z,Vl 41 0 x→Vl 41 0 y→Vl 41 0 z→Vl 300 2 (.tup [x,y,z]):=fun x y z hx hy hz=>(Vl.tup (k:=41) (p:=0) (m:=3) (by intro w hw; simp at hw; rcases hw with rfl | rfl | rfl <;> assumption) (by simp)).mono (by decide) (by decide)
  have bb:∀ c:Bool,Vl 41 0 (.bl c):=fun c=>Vl.bl.mono (by decide) (by decide)
  have nn:Vl 41 0 .non:=Vl.non.mono (by decide) (by decide)
  have ia:=i0 a (by omega) (by omega)
  have ib:=i0 b (by omega) (by omega)
  have is':=i0 s (by omega) (by omega)
  have im:=i0 m (by omega) (by omega)
  simp only [List.mem_cons,List.not_mem_nil,or_false] at hx
  rcases hx with rfl | rfl | rfl | rfl | rfl | rfl | rfl | rfl | rfl | rfl | rfl | rfl | rfl | rfl | rfl | rfl | rfl | rfl
  ·exact t3 _ _ _ ia ib (i0 0 (by decide) (by decide))
  ·exact t3 _ _ _ ia ib (bb _)
  ·exact t3 _ _ _ ia ib (i0 (-2) (by decide) (by decide))
  ·exact t3 _ _ _ ia ia is'
  ·exact t3 _ _ _ ia im is'
  ·exact t3 _ _ _ im ib is'
  ·exact t3 _ _ _ (i0 (-1) (by decide) (by decide)) ib is'
  ·exact t3 _ _ _ ib ia is'
  ·exact (Vl.tup (k:=41) (p:=0) (m:=2) (by intro w hw; simp at hw; rcases hw with rfl | rfl <;> assumption) (by simp)).mono (by decide) (by decide)
  ·exact (Vl.tup (k:=41) (p:=0) (m:=4) (by intro w hw; simp at hw; rcases hw with rfl | rfl | rfl <;> assumption) (by simp)).mono (by decide) (by decide)
  ·exact (Vl.lst (k:=41) (p:=0) (m:=3) (by intro w hw; simp at hw; rcases hw with rfl | rfl | rfl <;> assumption) (by simp)).mono (by decide) (by decide)
  ·exact t3 _ _ _ ia ib nn
  ·exact t3 _ _ _ (bb _) ib is'
  ·exact t3 _ _ _ ia (bb _) is'
  ·exact nn.mono (by decide) (by decide)
  ·exact (Vl.tup (k:=41) (p:=0) (m:=0) (xs:=[]) (by simp) (by simp)).mono (by decide) (by decide)
  ·obtain ⟨da,ea,da1,da2,da3⟩:=ia
   obtain ⟨db,eb,db1,db2,db3⟩:=ib
   refine ⟨.tup [da,db,.int 1000000000000000000000000000000],by simp [dF,dFs,← ea,← eb],by simp only [dep,deps]; omega,by simp only [D.fit,D.fits,da2,db2]; decide,?_⟩
   have:(D.int 1000000000000000000000000000000).wt = 151:=by decide
   simp only [D.wt,D.wts] at this ⊢; omega
  ·exact t3 _ _ _ ia ib hyv
 have c1:=cut_len (cs.map cV) none (some at')
 have c2:=cut_len (cs.map cV) (some (at' + 1)) none
 have c3:=cut_len (cs.map cV) (some at') none
 have c4:=cut_len (cs.map cV) (some at') (some (at' + 1))
 rw [List.length_map] at c1 c2 c3 c4
 have go:∀ xs:List FV,xs.length ≤ 298→(∀ x ∈ xs,Vl 300 2 x)→Vl 90000 3 (.tup xs):=fun xs h1 h2=>(Vl.tup h2 h1).mono (by decide) (by decide)
 have c5:=cut_two (cs.map cV) a0
 rw [List.length_map] at c5
 refine ⟨by omega,by omega,by omega,by omega,by omega,by omega,by omega,?_⟩
 refine pick_wp d l2 (by omega) (by omega) (by omega) fun p v3 p0 p1 l3=>?_
 simp only [in_i]
 refine at_any p0 p1 ?_
 intro z hz
 refine q z v3 ?_ (l3.mono (by omega))
 have two:Vl 90000 3 (.tup (cutF (List.map cV cs) none (some at') ++ x :: cutF (List.map cV cs) (some (at' + 1)) none)):=by
  refine go _ (by simp; omega) ?_
  intro w hw
  simp only [List.mem_append,List.mem_cons] at hw
  rcases hw with hw | rfl | hw
  ·exact hv w (cut_mem hw)
  ·exact hx
  ·exact hv w (cut_mem hw)
 simp only [List.mem_cons,List.not_mem_nil,or_false] at hz
 rcases hz with rfl | rfl | rfl | rfl | rfl | rfl
 ·exact two
 ·exact two
 ·refine go _ (by simp; omega) ?_
  intro w hw
  simp only [List.mem_append] at hw
  rcases hw with hw | hw | hw <;> exact hv w (cut_mem hw)
 ·refine go _ (by simp; omega) ?_
  intro w hw
  exact hv w (List.mem_reverse.mp hw)
 ·refine go _ (by simp; omega) ?_
  intro w hw
  simp only [List.mem_append] at hw
  rcases hw with hw | hw <;> exact hv w (cut_mem hw)
 ·exact (Vl.lst hv (show (cs.map cV).length ≤ 298 by simp; omega)).mono (by decide) (by decide)
theorem bch_wp (d m:Nat) {n:Int} {v:FV} {ws:List Int} {cs:List Chg} {Q:FV×FV→Prop} (hm:m ≤ 12) (S:Stk m ws cs) (hs:Lf n v) (h0:0 ≤ n) (hn:n < 10000) (q:∀ x v',Vl 90000 3 x→Lf (n + 3) v'→Q (x,v')):wp (callF tb (d + 3) 17 [v,.int m,.tup (cs.map cV)]) Q:=by
 refine wp_call (fd:=fd17) rfl rfl ?_
 have hl:=S.few
 have hv:∀ x ∈ cs.map cV,Vl 300 2 x:=fun x hx=>(S.cs hm x hx).mono (by decide) (by decide)
 show WX _ _ _ bd17 _ _ _
 rw [show bd17 = .cons (hdS bd17) (.cons (hdS (tlS bd17)) (tlS (tlS bd17))) from rfl]
 generalize hT:tlS (tlS bd17) = T
 simp [hdS,tlS,bd17,fd17]
 refine pick_wp d hs (by omega) (by omega) (by omega) fun at' v1 a0 a1 l1=>?_
 simp [big]
 subst hT
 refine ite2 (fun h=>?_) (fun h=>?_)
 ·have hi:at'.toNat < cs.length:=by omega
  rw [at_nat (show at' = at'.toNat by omega) (show (cs.map cV)[at'.toNat]? = some (cV cs[at'.toNat]) by simp [hi])]
  have:=S.rng _ (List.getElem_mem hi)
  exact bch_tail d m (a:=cs[at'.toNat].1) (b:=cs[at'.toNat].2.1) (s:=cs[at'.toNat].2.2) hm hv hl (by omega) (by omega) (by omega) a0 l1 h0 hn q
 ·exact bch_tail d m (a:=0) (b:=1) (s:=5) hm hv hl (by omega) (by omega) (by omega) a0 l1 h0 hn q
theorem bent_wp (d m:Nat) {n:Int} {v:FV} {ws:List Int} {cs:List Chg} {Q:FV×FV→Prop} (hm:m ≤ 12) (S:Stk m ws cs) (hs:Lf n v) (h0:0 ≤ n) (hn:n < 9000) (q:∀ x v',Vl 100000 5 x→Lf (n + 5) v'→Q (x,v')):wp (callF tb (d + 4) 18 [v,stV ws cs]) Q:=by
 refine wp_call (fd:=fd18) rfl rfl ?_
 have hl:=S.few
 have hw:=S.ws
 have hc:=S.cs hm
 have hwl:(ws.map FV.int).length ≤ 12:=by rw [List.length_map,S.len]; exact hm
 have vw:Vl 600 1 (.tup (ws.map .int)):=(Vl.tup hw hwl).mono (by decide) (by decide)
 have vw2:Vl 30000 3 (.tup (ws.map .int)):=vw.mono (by decide) (by decide)
 have vc:Vl 30000 3 (.tup (cs.map cV)):=(Vl.tup hc (show (cs.map cV).length ≤ 144 by simp; exact hl)).mono (by decide) (by decide)
 have pr:∀ x y,Vl 90000 3 x→Vl 600 1 y→Vl 100000 5 (.tup [x,y])∧Vl 100000 5 (.tup [y,x]):=by
  intro x y ⟨d1,e1,h1,h2,h3⟩ ⟨d2,e2,k1,k2,k3⟩
  exact ⟨⟨.tup [d1,d2],by simp [dF,dFs,e1,e2],by simp only [dep,deps]; omega,by simp only [D.fit,D.fits,h2,k2]; rfl,by simp only [D.wt,D.wts]; omega⟩,⟨.tup [d2,d1],by simp [dF,dFs,e1,e2],by simp only [dep,deps]; omega,by simp only [D.fit,D.fits,h2,k2]; rfl,by simp only [D.wt,D.wts]; omega⟩⟩
 have pr3:∀ xs:List FV,xs.length ≤ 3→(∀ x ∈ xs,Vl 30000 3 x)→Vl 100000 5 (.tup xs)∧Vl 100000 5 (.lst xs):=fun xs h1 h2=>⟨(Vl.tup h2 h1).mono (by decide) (by decide),(Vl.lst h2 h1).mono (by decide) (by decide)⟩
 simp [fd18,bd18,stV,big]
 refine pick_wp (d + 1) hs (by omega) (by omega) (by omega) fun w v1 w0 w1 l1=>?_
 simp
 refine ite2 (fun h=>?_) (fun h=>?_)
 ·refine bwh_wp d hw hwl l1 (by omega) (by omega) fun x v2 hx l2=>?_
  simp
  refine q _ _ (pr3 [x,.tup (cs.map cV)] (by simp) ?_).1 (l2.mono (by omega))
  intro y hy
  simp at hy
  rcases hy with rfl | rfl
  ·exact hx.mono (by decide) (by decide)
  ·exact vc
 refine ite2 (fun h=>?_) (fun h=>?_)
 ·rw [S.len]
  refine bch_wp d m hm S l1 (by omega) (by omega) fun x v2 hx l2=>?_
  simp
  exact q _ _ (pr _ _ hx vw).2 (l2.mono (by omega))
 ·refine pick_wp (d + 1) l1 (by omega) (by omega) (by omega) fun p v3 p0 p1 l3=>?_
  simp only [in_i]
  refine at_any p0 p1 ?_
  intro z hz
  refine q z v3 ?_ (l3.mono (by omega))
  have ve:Vl 30000 3 (.tup []):=(Vl.tup (k:=0) (p:=0) (m:=0) (xs:=[]) (by simp) (by simp)).mono (by decide) (by decide)
  simp only [List.mem_cons,List.not_mem_nil,or_false] at hz
  rcases hz with rfl | rfl | rfl | rfl | rfl | rfl | rfl | rfl
  ·exact (pr3 _ (by simp) (by intro w hw; simp at hw; rcases hw with rfl | rfl <;> assumption)).2
  ·exact (pr3 _ (by simp) (by intro w hw; simp at hw; rcases hw with rfl | rfl <;> assumption)).1
  ·exact (pr3 _ (by simp) (by intro w hw; simp at hw; subst hw; exact vw2)).1
  ·exact (pr3 _ (by simp) (by intro w hw; simp at hw; rcases hw with rfl | rfl | rfl <;> assumption)).1
  ·exact vw2.mono (by decide) (by decide)
  ·exact vc.mono (by decide) (by decide)
  ·exact (pr3 _ (by simp) (by intro w hw; simp at hw; subst hw; exact vc)).1
  ·exact (pr3 _ (by simp) (by intro w hw; simp at hw; subst hw; exact vw2)).1
theorem empty_ok (d:Nat):callF tb (d + 4) 2 [.tup [.tup [],.tup []]] = some (.bl true,.non) :=
 stk_ok d (.tup [.tup [],.tup []]) (by decide) (by decide)
theorem law_val (ns : List Int) : ∃ y, callF tb 10 20 [.scr ns] = some (.bl true, y) := by
  have : wp (callF tb 10 20 [.scr ns]) (fun z => z.1 = .bl true) := by
    refine wp_call (fd := fd20) rfl rfl ?_
    simp [fd20, bd20]
    refine ⟨by simp [small62]; split <;> omega, ?_⟩
    refine for_upto (I := fun _ L => ∃ a b c d e f g, L = [some (.scr ns), a, b, c, d, e, f, g]) _ 0 _ ⟨_, _, _, _, _, _, _, rfl⟩ ?_ ?_
    · rintro k L - - ⟨a, b, c, d, e, f, g, rfl⟩
      simp
      refine left_wp 8 ns k fun v1 y l1 => ?_
      simp
      refine many_wp 6 l1 (by omega) (by omega) fun m v2 hm l2 => ?_
      simp
      refine stock_wp 5 m hm l2 (by omega) (by omega) fun ws cs v3 S l3 => ?_
      obtain ⟨e0, he, h1, h2, h3⟩ := S.is hm
      have es : callF tb 9 2 [stV ws cs] = some (.bl true, .non) := by rw [he, stk_ok 5 e0 (by omega) (by have : big = 100000 := rfl; omega), h3]
      simp [es, empty_ok 5, big]
      have n4 : Na 4 = 322 := by decide
      have n2 : Na 2 = 34 := by decide
      have w4 : Wa 4 = 12220 := by decide
      have w2 : Wa 2 = 1312 := by decide
      refine any_wp 2 4 l3 (by omega) (by omega) fun x1 v4 hx1 l4 => ?_
      simp
      refine nest_wp 6 l4 (by omega) (by omega) fun x2 v5 hx2 l5 => ?_
      simp
      refine any_wp 4 2 l5 (by omega) (by omega) fun x3 v6 hx3 l6 => ?_
      simp
      refine any_wp 4 2 l6 (by omega) (by omega) fun x4 v7 hx4 l7 => ?_
      simp
      refine ⟨small62_of (by omega) (by omega), ?_⟩
      have l7 : Lf 1000 v7 := l7.mono (by omega)
      rw [upto_range, upto_range]
      refine comp_each (f := fun i : Nat => FV.int i) (I := fun ds acc L => ∃ v', L = [some (.scr ns), some (.int k), some v', some (stV ws cs), some (.lst [x1, x2, .tup [x3, x4]]), e, f, g] ∧ Lf (1000 + ds.length) v' ∧ acc.length = ds.length ∧ ∀ x ∈ acc, Vl 41 0 x) (List.range 40) (List.range 40) [] [] _ rfl ⟨v7, rfl, by simpa using l7, rfl, by simp⟩ ?_ ?_
      · rintro ds x r acc L ee ⟨v', rfl, lf, hl, hv⟩
        have hd : ds.length < 40 := by have := congrArg List.length ee; simp at this; omega
        simp
        refine pick_wp 7 lf (by omega) (by decide) (by decide) fun u v8 u0 u1 l8 => ?_
        simp
        refine ⟨l8.mono (by omega), hl, ?_⟩
        intro z hz
        rcases hz with hz | rfl
        · exact hv z hz
        · exact .int (by omega) (by omega)
      rintro y1 L ⟨v8, rfl, l8, hl1, hv1⟩
      simp at hl1 l8 hv1
      simp [hl1]
      refine ⟨small62_of (by omega) (by omega), ?_⟩
      refine comp_each (f := fun i : Nat => FV.int i) (I := fun ds acc L => ∃ v', L = [some (.scr ns), some (.int k), some v', some (stV ws cs), some (.lst [x1, x2, .tup [x3, x4]]), some (.tup y1), f, g] ∧ Lf (1040 + ds.length) v' ∧ acc.length = ds.length ∧ ∀ x ∈ acc, Vl 126 1 x) (List.range 39) (List.range 39) [] [] _ rfl ⟨v8, rfl, by simpa using l8, rfl, by simp⟩ ?_ ?_
      · rintro ds x r acc L ee ⟨v', rfl, lf, hl, hv⟩
        have hd : ds.length < 39 := by have := congrArg List.length ee; simp at this; omega
        have hx : x < 39 := by have : x ∈ List.range 39 := by rw [ee]; simp
                               simpa using this
        simp [big]
        refine pick_wp 7 lf (by omega) (by decide) (by decide) fun u v9 u0 u1 l9 => ?_
        simp
        refine ⟨l9.mono (by omega), hl, ?_⟩
        intro z hz
        rcases hz with hz | rfl
        · exact hv z hz
        · refine (Vl.tup (k := 41) (p := 0) (m := 3) ?_ (by simp)).mono (by omega) (by omega)
          intro w hw
          simp at hw
          rcases hw with rfl | rfl | rfl <;> exact .int (by omega) (by omega)
      rintro y2 L ⟨v9, rfl, l9, hl2, hv2⟩
      simp at hl2 l9 hv2
      have c1 := cut_len y1 none (some (-1))
      have c2 := cut_len y2 none (some (-1))
      simp [hl2, big]
      refine ⟨by omega, by omega, small62_of (by omega) (by omega), ?_⟩
      have vw : ∀ xs : List FV, xs.length ≤ 42 → (∀ x ∈ xs, Vl 41 0 x) → Vl 6000 3 (.tup xs) := fun xs h1 h2 => (Vl.tup h2 h1).mono (by decide) (by decide)
      have vs : ∀ xs : List FV, xs.length ≤ 42 → (∀ x ∈ xs, Vl 126 1 x) → Vl 6000 3 (.tup xs) := fun xs h1 h2 => (Vl.tup h2 h1).mono (by decide) (by decide)
      have p2 : ∀ x y, Vl 6000 4 x → Vl 6000 4 y → Vl 100000 30 (.tup [x, y]) := fun x y hx hy => (Vl.tup (k := 6000) (p := 4) (m := 2) (by intro w hw; simp at hw; rcases hw with rfl | rfl <;> assumption) (by simp)).mono (by decide) (by decide)
      have vy1 := (vw y1 (by omega) hv1).mono (Nat.le_refl _) (show 3 ≤ 4 by decide)
      have vy2 := (vs y2 (by omega) hv2).mono (Nat.le_refl _) (show 3 ≤ 4 by decide)
      rw [upto_range]
      refine for_each (f := fun i : Nat => FV.int i) (I := fun ds L => ∃ v' ts g', L = [some (.scr ns), some (.int k), some v', some (stV ws cs), some (.lst ts), some (.tup y1), some (.tup y2), g'] ∧ Lf (1100 + 5 * ds.length) v' ∧ ts.length = 6 + ds.length ∧ ∀ x ∈ ts, Vl 100000 30 x) (List.range 10) (List.range 10) [] _ rfl ⟨v9, _, _, rfl, l9.mono (by simp), rfl, ?_⟩ ?_ ?_
      · intro x hx
        simp only [List.mem_cons, List.not_mem_nil, or_false] at hx
        rcases hx with rfl | rfl | rfl | rfl | rfl | rfl
        · exact hx1.mono (by rw [w4]; decide) (by decide)
        · exact hx2.mono (by decide) (by decide)
        · exact p2 _ _ (hx3.mono (by rw [w2]; decide) (by decide)) (hx4.mono (by rw [w2]; decide) (by decide))
        · exact p2 _ _ vy1 vy2
        · refine p2 _ _ ((vw _ (by simp; omega) ?_).mono (Nat.le_refl _) (by decide)) vy2
          intro z hz
          simp at hz
          rcases hz with hz | rfl
          · exact hv1 z (cut_mem hz)
          · exact .int (by decide) (by decide)
        · refine p2 _ _ vy1 ((vs _ (by simp; omega) ?_).mono (Nat.le_refl _) (by decide))
          intro z hz
          simp at hz
          rcases hz with hz | rfl
          · exact hv2 z (cut_mem hz)
          · exact Vl.of [.tup [.int 38, .int 40, .int 1]] (by decide +kernel) _ (by simp [dF, dFs])
      · rintro ds x r L ee ⟨v', ts, g', rfl, lf, hl, hv⟩
        have hd : ds.length < 10 := by have := congrArg List.length ee; simp at this; omega
        simp
        refine bent_wp 5 m hm S lf (by omega) (by omega) fun z v10 hz l10 => ?_
        simp [big]
        refine ⟨by omega, v10, ts ++ [z], ⟨rfl, rfl⟩, l10.mono (by omega), by simp [hl]; omega, ?_⟩
        intro w hw
        simp at hw
        rcases hw with hw | rfl
        · exact hv w hw
        · exact hz.mono (by decide) (by decide)
      · rintro L ⟨v', ts, g', rfl, lf, hl, hv⟩
        simp at hl
        simp
        rw [show ts = ts.map id by simp]
        refine comp_map (f := id) (g := fun _ => .bl true) ts ?_ ?_
        · intro x hx
          simp [asdue_ok 4 (hv x hx) (by decide) (by decide)]
        · rw [show (ts.map fun _ => FV.bl true) = ts.map fun x => FV.bl ((fun _ => true) x) from rfl, bools_map]
          simp [allB_map, hl]
    · rintro L ⟨a, b, c, d, e, f, g, rfl⟩
      simp
  obtain ⟨z, h, h1⟩ := wpx this
  exact ⟨z.2, by rw [h, ← h1]⟩
end Kf
end
section
set_option Elab.async false
set_option linter.all false
set_option maxRecDepth 100000
set_option maxHeartbeats 4000000
namespace Kw
open PySem PySem.Spec PyProof.Rows L2 PySem.W
noncomputable def top (i:Nat):Stmt:=PySem.Challenge.pw_keepwhole_k07_stocks_or_not.main.body.getD i (.Pass ⟨0,0,0,0⟩)
noncomputable def d0:Df:=⟨"is_number",top 1,["thing"],["thing"]⟩
noncomputable def d1:Df:=⟨"is_tuple_of",top 2,["thing","many"],["thing","many"]⟩
noncomputable def d2:Df:=⟨"is_stock",top 4,["thing"],["thing","wholes","changes","pairs"]⟩
noncomputable def d3:Df:=⟨"is_size",top 5,["thing"],["thing"]⟩
noncomputable def d4:Df:=⟨"is_stock_change",top 6,["thing","makes"],["thing","makes","a","b","size"]⟩
noncomputable def d5:Df:=⟨"is_make",top 7,["thing","makes"],["thing","makes"]⟩
noncomputable def d6:Df:=⟨"_law_mix",top 9,["_law_cell","_law_k"],["_law_cell","_law_k","_law_m"]⟩
noncomputable def d7:Df:=⟨"_law_left",top 10,["_law_script","_law_k"],["_law_script","_law_k","_law_cell"]⟩
noncomputable def d8:Df:=⟨"_law_pick",top 11,["_law_left_here","_law_many_here"],["_law_left_here","_law_many_here","_law_digit"]⟩
noncomputable def d9:Df:=⟨"_law_numbers",top 12,["_law_some"],["_law_some"]⟩
noncomputable def d10:Df:=⟨"_law_any",top 13,["_law_left_here","_law_levels"],["_law_left_here","_law_levels","_law_some","_law_parts"]⟩
noncomputable def d11:Df:=⟨"_law_nested",top 14,["_law_left_here"],["_law_left_here","_law_thing","_law_turn"]⟩
noncomputable def d12:Df:=⟨"_law_size",top 15,["_law_left_here","_law_great"],["_law_left_here","_law_great","_law_way_drawn"]⟩
noncomputable def d13:Df:=⟨"_law_many",top 16,["_law_left_here","_law_most"],["_law_left_here","_law_most"]⟩
noncomputable def d14:Df:=⟨"_law_stock",top 17,["_law_left_here","_law_many_here"],["_law_left_here","_law_many_here","_law_great","_law_often","_law_wholes","_law_changes","_law_a","_law_b"]⟩
noncomputable def d15:Df:=⟨"_law_due",top 18,["_law_thing"],["_law_thing","_law_wholes","_law_changes","_law_last","_law_row","_law_a","_law_b"]⟩
noncomputable def d16:Df:=⟨"_law_bent_wholes",top 19,["_law_left_here","_law_wholes"],["_law_left_here","_law_wholes","_law_at","_law_some","_law_other","_law_more"]⟩
noncomputable def d17:Df:=⟨"_law_bent_changes",top 20,["_law_left_here","_law_many_here","_law_changes"],["_law_left_here","_law_many_here","_law_changes","_law_at","_law_row","_law_a","_law_b","_law_size_here","_law_some","_law_other","_law_more"]⟩
noncomputable def d18:Df:=⟨"_law_bent",top 21,["_law_left_here","_law_stock_here"],["_law_left_here","_law_stock_here","_law_wholes","_law_changes","_law_way_drawn","_law_some"]⟩
noncomputable def d19:Df:=⟨"_law_as_due",top 22,["_law_thing"],["_law_thing","_law_kept","_law_found"]⟩
noncomputable def d20:Df:=⟨"law",top 23,["_law_script"],["_law_script","_law_k","_law_left_here","_law_stock_here","_law_things","_law_wholes","_law_steps","_law_turn"]⟩
noncomputable def fns:List Str:=[Str.ofString "is_number",Str.ofString "is_tuple_of",Str.ofString "is_stock",Str.ofString "is_size",Str.ofString "is_stock_change",Str.ofString "is_make",Str.ofString "_law_mix",Str.ofString "_law_left",Str.ofString "_law_pick",Str.ofString "_law_numbers",Str.ofString "_law_any",Str.ofString "_law_nested",Str.ofString "_law_size",Str.ofString "_law_many",Str.ofString "_law_stock",Str.ofString "_law_due",Str.ofString "_law_bent_wholes",Str.ofString "_law_bent_changes",Str.ofString "_law_bent",Str.ofString "_law_as_due",Str.ofString "law"]
theorem ok0:Df.ok fns d0 ⟨1,1,Kf.bd0⟩ = true:=by decide +kernel
theorem ok1:Df.ok fns d1 ⟨2,2,Kf.bd1⟩ = true:=by decide +kernel
theorem ok2:Df.ok fns d2 ⟨1,4,Kf.bd2⟩ = true:=by decide +kernel
theorem ok3:Df.ok fns d3 ⟨1,1,Kf.bd3⟩ = true:=by decide +kernel
theorem ok4:Df.ok fns d4 ⟨2,5,Kf.bd4⟩ = true:=by decide +kernel
theorem ok5:Df.ok fns d5 ⟨2,2,Kf.bd5⟩ = true:=by decide +kernel
theorem ok6:Df.ok fns d6 ⟨2,3,Kf.bd6⟩ = true:=by decide +kernel
theorem ok7:Df.ok fns d7 ⟨2,3,Kf.bd7⟩ = true:=by decide +kernel
theorem ok8:Df.ok fns d8 ⟨2,3,Kf.bd8⟩ = true:=by decide +kernel
theorem ok9:Df.ok fns d9 ⟨1,1,Kf.bd9⟩ = true:=by decide +kernel
theorem ok10:Df.ok fns d10 ⟨2,4,Kf.bd10⟩ = true:=by decide +kernel
theorem ok11:Df.ok fns d11 ⟨1,3,Kf.bd11⟩ = true:=by decide +kernel
theorem ok12:Df.ok fns d12 ⟨2,3,Kf.bd12⟩ = true:=by decide +kernel
theorem ok13:Df.ok fns d13 ⟨2,2,Kf.bd13⟩ = true:=by decide +kernel
theorem ok14:Df.ok fns d14 ⟨2,8,Kf.bd14⟩ = true:=by decide +kernel
theorem ok15:Df.ok fns d15 ⟨1,7,Kf.bd15⟩ = true:=by decide +kernel
theorem ok16:Df.ok fns d16 ⟨2,6,Kf.bd16⟩ = true:=by decide +kernel
theorem ok17:Df.ok fns d17 ⟨3,11,Kf.bd17⟩ = true:=by decide +kernel
theorem ok18:Df.ok fns d18 ⟨2,6,Kf.bd18⟩ = true:=by decide +kernel
theorem ok19:Df.ok fns d19 ⟨1,3,Kf.bd19⟩ = true:=by decide +kernel
theorem ok20:Df.ok fns d20 ⟨1,8,Kf.bd20⟩ = true:=by decide +kernel
noncomputable def rc (d:Df):DefRec:=⟨Str.ofString d.name,defArgs d.st,defBody d.st,defScope d.st,defPos d.st⟩
noncomputable def recs:List DefRec:=[rc d0,rc d1,rc d2,rc d3,rc d4,rc d5,rc d6,rc d7,rc d8,rc d9,rc d10,rc d11,rc d12,rc d13,rc d14,rc d15,rc d16,rc d17,rc d18,rc d19,rc d20]
noncomputable def view:Program:=viewOf PySem.Challenge.pw_keepwhole_k07_stocks_or_not
theorem recs_eq:recs = recsOf view:=by kernel_rfl!
noncomputable def PD (K:Frag) (mg:Str→Option Value) (i:Nat) (x:Str):Prop:=∃ df fd fa fdd,Kf.tab[i]? = some fd∧Df.ok fns df fd = true∧Fun K (Str.ofString df.name) (Str.ofString df.name) df.st fa fdd∧mg x = some (.ref fa)∧Binds K fdd df.ps []
section
variable {K:Frag} {h:Heap} {mg:Str→Option Value}
theorem e0 (A:AllIn K h) (D:∀ d ∈ recs,DIn K mg d):PD K mg 0 (Str.ofString "is_number") :=
 have ⟨fa,fd,m,F⟩:=DIn.fn A (D (rc d0) (List.mem_of_getElem? (i:=0) rfl)); ⟨d0,_,fa,fd,rfl,ok0,F,m,F.binds fun _ _ _ _ _ _ us hl=>us1 (P:=fun us=>bindArgs _ ⟨us,[]⟩ = pure (List.zip _ us)) hl fun _=>rfl⟩
theorem e1 (A:AllIn K h) (D:∀ d ∈ recs,DIn K mg d):PD K mg 1 (Str.ofString "is_tuple_of") :=
 have ⟨fa,fd,m,F⟩:=DIn.fn A (D (rc d1) (List.mem_of_getElem? (i:=1) rfl)); ⟨d1,_,fa,fd,rfl,ok1,F,m,F.binds fun _ _ _ _ _ _ us hl=>us2 (P:=fun us=>bindArgs _ ⟨us,[]⟩ = pure (List.zip _ us)) hl fun _ _=>rfl⟩
theorem e2 (A:AllIn K h) (D:∀ d ∈ recs,DIn K mg d):PD K mg 2 (Str.ofString "is_stock") :=
 have ⟨fa,fd,m,F⟩:=DIn.fn A (D (rc d2) (List.mem_of_getElem? (i:=2) rfl)); ⟨d2,_,fa,fd,rfl,ok2,F,m,F.binds fun _ _ _ _ _ _ us hl=>us1 (P:=fun us=>bindArgs _ ⟨us,[]⟩ = pure (List.zip _ us)) hl fun _=>rfl⟩
theorem e3 (A:AllIn K h) (D:∀ d ∈ recs,DIn K mg d):PD K mg 3 (Str.ofString "is_size") :=
 have ⟨fa,fd,m,F⟩:=DIn.fn A (D (rc d3) (List.mem_of_getElem? (i:=3) rfl)); ⟨d3,_,fa,fd,rfl,ok3,F,m,F.binds fun _ _ _ _ _ _ us hl=>us1 (P:=fun us=>bindArgs _ ⟨us,[]⟩ = pure (List.zip _ us)) hl fun _=>rfl⟩
theorem e4 (A:AllIn K h) (D:∀ d ∈ recs,DIn K mg d):PD K mg 4 (Str.ofString "is_stock_change") :=
 have ⟨fa,fd,m,F⟩:=DIn.fn A (D (rc d4) (List.mem_of_getElem? (i:=4) rfl)); ⟨d4,_,fa,fd,rfl,ok4,F,m,F.binds fun _ _ _ _ _ _ us hl=>us2 (P:=fun us=>bindArgs _ ⟨us,[]⟩ = pure (List.zip _ us)) hl fun _ _=>rfl⟩
theorem e5 (A:AllIn K h) (D:∀ d ∈ recs,DIn K mg d):PD K mg 5 (Str.ofString "is_make") :=
 have ⟨fa,fd,m,F⟩:=DIn.fn A (D (rc d5) (List.mem_of_getElem? (i:=5) rfl)); ⟨d5,_,fa,fd,rfl,ok5,F,m,F.binds fun _ _ _ _ _ _ us hl=>us2 (P:=fun us=>bindArgs _ ⟨us,[]⟩ = pure (List.zip _ us)) hl fun _ _=>rfl⟩
theorem e6 (A:AllIn K h) (D:∀ d ∈ recs,DIn K mg d):PD K mg 6 (Str.ofString "_law_mix") :=
 have ⟨fa,fd,m,F⟩:=DIn.fn A (D (rc d6) (List.mem_of_getElem? (i:=6) rfl)); ⟨d6,_,fa,fd,rfl,ok6,F,m,F.binds fun _ _ _ _ _ _ us hl=>us2 (P:=fun us=>bindArgs _ ⟨us,[]⟩ = pure (List.zip _ us)) hl fun _ _=>rfl⟩
theorem e7 (A:AllIn K h) (D:∀ d ∈ recs,DIn K mg d):PD K mg 7 (Str.ofString "_law_left") :=
 have ⟨fa,fd,m,F⟩:=DIn.fn A (D (rc d7) (List.mem_of_getElem? (i:=7) rfl)); ⟨d7,_,fa,fd,rfl,ok7,F,m,F.binds fun _ _ _ _ _ _ us hl=>us2 (P:=fun us=>bindArgs _ ⟨us,[]⟩ = pure (List.zip _ us)) hl fun _ _=>rfl⟩
theorem e8 (A:AllIn K h) (D:∀ d ∈ recs,DIn K mg d):PD K mg 8 (Str.ofString "_law_pick") :=
 have ⟨fa,fd,m,F⟩:=DIn.fn A (D (rc d8) (List.mem_of_getElem? (i:=8) rfl)); ⟨d8,_,fa,fd,rfl,ok8,F,m,F.binds fun _ _ _ _ _ _ us hl=>us2 (P:=fun us=>bindArgs _ ⟨us,[]⟩ = pure (List.zip _ us)) hl fun _ _=>rfl⟩
theorem e9 (A:AllIn K h) (D:∀ d ∈ recs,DIn K mg d):PD K mg 9 (Str.ofString "_law_numbers") :=
 have ⟨fa,fd,m,F⟩:=DIn.fn A (D (rc d9) (List.mem_of_getElem? (i:=9) rfl)); ⟨d9,_,fa,fd,rfl,ok9,F,m,F.binds fun _ _ _ _ _ _ us hl=>us1 (P:=fun us=>bindArgs _ ⟨us,[]⟩ = pure (List.zip _ us)) hl fun _=>rfl⟩
theorem e10 (A:AllIn K h) (D:∀ d ∈ recs,DIn K mg d):PD K mg 10 (Str.ofString "_law_any") :=
 have ⟨fa,fd,m,F⟩:=DIn.fn A (D (rc d10) (List.mem_of_getElem? (i:=10) rfl)); ⟨d10,_,fa,fd,rfl,ok10,F,m,F.binds fun _ _ _ _ _ _ us hl=>us2 (P:=fun us=>bindArgs _ ⟨us,[]⟩ = pure (List.zip _ us)) hl fun _ _=>rfl⟩
theorem e11 (A:AllIn K h) (D:∀ d ∈ recs,DIn K mg d):PD K mg 11 (Str.ofString "_law_nested") :=
 have ⟨fa,fd,m,F⟩:=DIn.fn A (D (rc d11) (List.mem_of_getElem? (i:=11) rfl)); ⟨d11,_,fa,fd,rfl,ok11,F,m,F.binds fun _ _ _ _ _ _ us hl=>us1 (P:=fun us=>bindArgs _ ⟨us,[]⟩ = pure (List.zip _ us)) hl fun _=>rfl⟩
theorem e12 (A:AllIn K h) (D:∀ d ∈ recs,DIn K mg d):PD K mg 12 (Str.ofString "_law_size") :=
 have ⟨fa,fd,m,F⟩:=DIn.fn A (D (rc d12) (List.mem_of_getElem? (i:=12) rfl)); ⟨d12,_,fa,fd,rfl,ok12,F,m,F.binds fun _ _ _ _ _ _ us hl=>us2 (P:=fun us=>bindArgs _ ⟨us,[]⟩ = pure (List.zip _ us)) hl fun _ _=>rfl⟩
theorem e13 (A:AllIn K h) (D:∀ d ∈ recs,DIn K mg d):PD K mg 13 (Str.ofString "_law_many") :=
 have ⟨fa,fd,m,F⟩:=DIn.fn A (D (rc d13) (List.mem_of_getElem? (i:=13) rfl)); ⟨d13,_,fa,fd,rfl,ok13,F,m,F.binds fun _ _ _ _ _ _ us hl=>us2 (P:=fun us=>bindArgs _ ⟨us,[]⟩ = pure (List.zip _ us)) hl fun _ _=>rfl⟩
theorem e14 (A:AllIn K h) (D:∀ d ∈ recs,DIn K mg d):PD K mg 14 (Str.ofString "_law_stock") :=
 have ⟨fa,fd,m,F⟩:=DIn.fn A (D (rc d14) (List.mem_of_getElem? (i:=14) rfl)); ⟨d14,_,fa,fd,rfl,ok14,F,m,F.binds fun _ _ _ _ _ _ us hl=>us2 (P:=fun us=>bindArgs _ ⟨us,[]⟩ = pure (List.zip _ us)) hl fun _ _=>rfl⟩
theorem e15 (A:AllIn K h) (D:∀ d ∈ recs,DIn K mg d):PD K mg 15 (Str.ofString "_law_due") :=
 have ⟨fa,fd,m,F⟩:=DIn.fn A (D (rc d15) (List.mem_of_getElem? (i:=15) rfl)); ⟨d15,_,fa,fd,rfl,ok15,F,m,F.binds fun _ _ _ _ _ _ us hl=>us1 (P:=fun us=>bindArgs _ ⟨us,[]⟩ = pure (List.zip _ us)) hl fun _=>rfl⟩
theorem e16 (A:AllIn K h) (D:∀ d ∈ recs,DIn K mg d):PD K mg 16 (Str.ofString "_law_bent_wholes") :=
 have ⟨fa,fd,m,F⟩:=DIn.fn A (D (rc d16) (List.mem_of_getElem? (i:=16) rfl)); ⟨d16,_,fa,fd,rfl,ok16,F,m,F.binds fun _ _ _ _ _ _ us hl=>us2 (P:=fun us=>bindArgs _ ⟨us,[]⟩ = pure (List.zip _ us)) hl fun _ _=>rfl⟩
theorem e17 (A:AllIn K h) (D:∀ d ∈ recs,DIn K mg d):PD K mg 17 (Str.ofString "_law_bent_changes") :=
 have ⟨fa,fd,m,F⟩:=DIn.fn A (D (rc d17) (List.mem_of_getElem? (i:=17) rfl)); ⟨d17,_,fa,fd,rfl,ok17,F,m,F.binds fun _ _ _ _ _ _ us hl=>us3 (P:=fun us=>bindArgs _ ⟨us,[]⟩ = pure (List.zip _ us)) hl fun _ _ _=>rfl⟩
theorem e18 (A:AllIn K h) (D:∀ d ∈ recs,DIn K mg d):PD K mg 18 (Str.ofString "_law_bent") :=
 have ⟨fa,fd,m,F⟩:=DIn.fn A (D (rc d18) (List.mem_of_getElem? (i:=18) rfl)); ⟨d18,_,fa,fd,rfl,ok18,F,m,F.binds fun _ _ _ _ _ _ us hl=>us2 (P:=fun us=>bindArgs _ ⟨us,[]⟩ = pure (List.zip _ us)) hl fun _ _=>rfl⟩
theorem e19 (A:AllIn K h) (D:∀ d ∈ recs,DIn K mg d):PD K mg 19 (Str.ofString "_law_as_due") :=
 have ⟨fa,fd,m,F⟩:=DIn.fn A (D (rc d19) (List.mem_of_getElem? (i:=19) rfl)); ⟨d19,_,fa,fd,rfl,ok19,F,m,F.binds fun _ _ _ _ _ _ us hl=>us1 (P:=fun us=>bindArgs _ ⟨us,[]⟩ = pure (List.zip _ us)) hl fun _=>rfl⟩
theorem e20 (A:AllIn K h) (D:∀ d ∈ recs,DIn K mg d):PD K mg 20 (Str.ofString "law") :=
 have ⟨fa,fd,m,F⟩:=DIn.fn A (D (rc d20) (List.mem_of_getElem? (i:=20) rfl)); ⟨d20,_,fa,fd,rfl,ok20,F,m,F.binds fun _ _ _ _ _ _ us hl=>us1 (P:=fun us=>bindArgs _ ⟨us,[]⟩ = pure (List.zip _ us)) hl fun _=>rfl⟩
theorem e_all (A:AllIn K h) (D:∀ d ∈ recs,DIn K mg d):EachI (PD K mg) 0 fns:=And.intro (e0 A D) (And.intro (e1 A D) (And.intro (e2 A D) (And.intro (e3 A D) (And.intro (e4 A D) (And.intro (e5 A D) (And.intro (e6 A D) (And.intro (e7 A D) (And.intro (e8 A D) (And.intro (e9 A D) (And.intro (e10 A D) (And.intro (e11 A D) (And.intro (e12 A D) (And.intro (e13 A D) (And.intro (e14 A D) (And.intro (e15 A D) (And.intro (e16 A D) (And.intro (e17 A D) (And.intro (e18 A D) (And.intro (e19 A D) (And.intro (e20 A D) (trivial)))))))))))))))))))))
end
theorem law_fn (w:World) (K:Frag) (mg:Str→Option Value) (fa:Addr) (h:Heap) (A:AllIn K h) (D:∀ d ∈ recs,DIn K mg d) (blt:∀ b ∈ bltNames,mg (Str.ofString b) = none) (hm:mg (Str.ofString "law") = some (.ref fa)) :
  ∃ fd:FuncData,(∀ (s:Shared) (u:Value),BindsTo s fd ⟨[u],[]⟩ [(Str.ofString "_law_script",u)])∧∀ base:Heap,FnOk PySem.Challenge.pw_keepwhole_k07_stocks_or_not w K mg base CX0 10 fa fd [Str.ofString "_law_script"] (spF K (callD Kf.tab 10) 20):=by
 obtain ⟨fa2,fd,m,F⟩:=DIn.fn A (D (rc d20) (List.mem_of_getElem? (i:=20) rfl))
 have e:=hm.symm.trans m
 cases e
 have E:∀ (f:Nat) (x:Str),fns[f]? = some x→PD K mg f x:=fun f x hx=>by
  have:=EachI.get (e_all A D) f x hx
  rwa [Nat.zero_add] at this
 refine ⟨fd,?_,fun base=>fn_step (df:=d20) F rfl ok20 (all_fns blt E 9) blt⟩
 obtain ⟨oc,od,kV,doc,pm,an,cdv,ct,osl,rfl,lk,hcd⟩:=F.ex
 exact fun s v=>.of_eq rfl
end Kw
end
section
set_option Elab.async false
set_option maxRecDepth 100000
set_option maxHeartbeats 0
open PySem PySem.W PyProof.Rows
theorem Kf.law_true (ns : List Int) : ∃ st, Kw.callD Kf.tab 10 20 [.scr ns] [] = some (.bl true, st) := by
  obtain ⟨y, h⟩ := Kf.law_val ns
  have := Kf.law_of (tb := Kf.tb) (by decide +kernel) rfl h
  rw [Kf.tab_eq] at this; exact this
theorem Kw.said : PySem.Challenge.rw_keepwhole_k07_stocks_or_not.wellSaid = true := by decide +kernel
theorem Kw.left : LeftO PySem.Challenge.rw_keepwhole_k07_stocks_or_not.prog Kw.view [] (fun s => xlAt Kw.view [] s && recOk (RowW.records PySem.Challenge.rw_keepwhole_k07_stocks_or_not.row.toRowW) s) (fun _ => ()) (fun _ => ()) 3000 := by
  intro w
  kernel_rfl!
theorem Kw.freeAll : (Kw.bltNames.all fun b => Kw.freeIn Kw.view (looseW Kw.view []) (Str.ofString b)) = true := by decide +kernel
theorem Kw.hdef : defOf Kw.view PySem.Challenge.rw_keepwhole_k07_stocks_or_not.name = some (Kw.rc Kw.d20, []) := by kernel_rfl!
theorem Kw.hp : PySem.Challenge.rw_keepwhole_k07_stocks_or_not.prog.theDef PySem.Challenge.rw_keepwhole_k07_stocks_or_not.name = some ((Kw.rc Kw.d20).params, (Kw.rc Kw.d20).body, (Kw.rc Kw.d20).scope) := by kernel_rfl!
theorem Kw.okq : (chainsOk Kw.view && opensWell PySem.Challenge.rw_keepwhole_k07_stocks_or_not.prog && (frees PySem.Challenge.rw_keepwhole_k07_stocks_or_not.row.toRowW && PySem.Challenge.rw_keepwhole_k07_stocks_or_not.row.within.isEmpty)) = true := by decide +kernel
theorem Kw.prom : PySem.Challenge.rw_keepwhole_k07_stocks_or_not.row.toRowW.promised := ⟨[.list []], by decide +kernel, by decide +kernel⟩
theorem PySem.Challenge.cw_keepwhole_k07_stocks_or_not_holds : PySem.Challenge.rw_keepwhole_k07_stocks_or_not.Holds :=
  Kw.row_holds Kw.said Kw.left Kw.hdef Kw.hp rfl rfl Kw.okq ⟨rfl, rfl, rfl, rfl, rfl, by decide +kernel⟩ Kw.prom (Kw.walk2 (n := 63) (k := 10) (ds := Kw.recs) (x := Str.ofString "_law_script") (sp := fun K => Kw.spF K (Kw.callD Kf.tab 10) 20) rfl (by decide) rfl ⟨rfl, by decide, by decide, rfl⟩ Kw.recs_eq Kw.freeAll Kw.law_fn fun _ _ a ns hl hO hS => Kw.law_sp hO hS (Kf.law_true ns))
end
