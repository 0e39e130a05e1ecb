import PyProof.Rows.All
import Wide.All
import OpenK.AllK
import Wide.FinOn
import Lean
import PyProof.EqAt
import PyProof.EqKinds
import PyProof.TupleCall
import PySem.Challenge.RW_mightever_k13_what_rules_miss
set_option Elab.async false
set_option linter.all false
set_option maxRecDepth 100000
namespace L2
open PySem PySem.Spec PyProof.Rows
abbrev Key:=Sum Int Str
def zxL:Key→Value→Bool
 | .inl k,v=>Value.isInt k v
 | .inr x,v=>Value.isStrOf x v
def zK3 (w:World):Key→Int
 | .inl k=>hashInt k
 | .inr x=>hashStr w x
theorem zcY:∀ {k:Key} {v:Value},zxL k v=true→(∃ i t,k=Sum.inl i∧v=Value.int i t)∨(∃ x t,k=Sum.inr x∧v=Value.str x t)
 | .inl i,v,h=>by
  obtain ⟨t,e⟩:=Value.isInt_shape (k:=i) (v:=v) h
  exact .inl ⟨i,t,rfl,e⟩
 | .inr x,v,h=>by
  obtain ⟨t,e⟩:=Value.isStrOf_shape (x:=x) (v:=v) h
  exact .inr ⟨x,t,rfl,e⟩
theorem zyI (i:Int) (t:Tok):zxL (.inl i) (.int i t)=true:=by simp [zxL,Value.isInt]
theorem zyJ (x:Str) (t:Tok):zxL (.inr x) (.str x t)=true:=by simp [zxL,Value.isStrOf]
theorem zFC (a b:Int):decide ((Sum.inl a:Key)=Sum.inl b)=(a==b):=by
 by_cases e:a=b
 ·subst e; simp
 ·have h:¬ (Sum.inl a:Key)=Sum.inl b:=fun q=>e (Sum.inl.inj q)
  rw [decide_eq_false h]
  exact (beq_eq_false_iff_ne.mpr e).symm
theorem zFD (a b:Str):decide ((Sum.inr a:Key)=Sum.inr b)=decide (a=b):=by
 by_cases e:a=b
 ·subst e; simp
 ·have h:¬ (Sum.inr a:Key)=Sum.inr b:=fun q=>e (Sum.inr.inj q)
  rw [decide_eq_false h,decide_eq_false e]
theorem zFE (a:Int) (b:Str):decide ((Sum.inl a:Key)=Sum.inr b)=false:=decide_eq_false (fun q=>nomatch q)
theorem zFF (a:Str) (b:Int):decide ((Sum.inr a:Key)=Sum.inl b)=false:=decide_eq_false (fun q=>nomatch q)
def zeO (prog:Program) (w:World):PySem.KeyKind prog w Key where
 is:=zxL
 hash:=zK3 w
 inj:=fun v a b ha hb=>by
  rcases zcY ha with ⟨i,t,rfl,rfl⟩ | ⟨x,t,rfl,rfl⟩
  ·rcases zcY hb with ⟨j,u,rfl,e⟩ | ⟨y,u,rfl,e⟩
   ·injection e with e1 _; rw [e1]
   ·exact nomatch e
  ·rcases zcY hb with ⟨j,u,rfl,e⟩ | ⟨y,u,rfl,e⟩
   ·exact nomatch e
   ·injection e with e1 _; rw [e1]
 byValue:=fun k v h=>by
  rcases zcY h with ⟨i,t,rfl,rfl⟩ | ⟨x,t,rfl,rfl⟩ <;> rfl
 pyHash:=fun hv h=>by
  rcases zcY hv with ⟨i,t,rfl,rfl⟩ | ⟨x,t,rfl,rfl⟩
  ·exact wpAny_pyHash_int h
  ·exact wpAny_pyHash_str h
 eqBool:=fun hu hv h=>by
  rcases zcY hu with ⟨i,t,rfl,rfl⟩ | ⟨x,t,rfl,rfl⟩
  ·rcases zcY hv with ⟨j,u,rfl,rfl⟩ | ⟨y,u,rfl,rfl⟩
   ·rw [zFC] at h; exact wpAny_eqBool_int h
   ·rw [zFE] at h; exact SeqAt.EqAt.int_str i t y u _ _ _ _ h
  ·rcases zcY hv with ⟨j,u,rfl,rfl⟩ | ⟨y,u,rfl,rfl⟩
   ·rw [zFF] at h; exact SeqAt.EqAt.str_int x t j u _ _ _ _ h
   ·rw [zFD] at h; exact wpAny_eqBool_str h
 «strs»:=fun k x t v h=>by
  rcases zcY h with ⟨i,u,rfl,e⟩ | ⟨y,u,rfl,e⟩
  ·exact nomatch e
  ·injection e with e1 _
   subst e1
   cases v <;> rfl
theorem zvw (prog:Program) (w:World) (i:Int) (t:Tok):(zeO prog w).is (.inl i) (.int i t)=true:=zyI i t
theorem zvx (prog:Program) (w:World) (x:Str) (t:Tok):(zeO prog w).is (.inr x) (.str x t)=true:=zyJ x t
end L2
namespace L2
open PySem PySem.Spec PyProof.Rows
inductive V where
 | non | bl (b:Bool) | int (i:Int) | str (x:Str) | byt (b:Array UInt8) | flt (b:UInt64) | ref (a:Addr) | ty (n:String)
 deriving DecidableEq
def RelV:V→Value→Prop
 | .non,u=>u=Value.none
 | .bl b,u=>u=Value.bool b
 | .int i,u=>∃ t,u=Value.int i t
 | .str x,u=>∃ t,u=Value.str x t
 | .byt b,u=>∃ t,u=Value.bytes b t
 | .flt b,u=>∃ t,u=Value.float b t
 | .ref a,u=>u=Value.ref a
 | .ty n,u=>u=Value.type n
abbrev Vals:List V→List Value→Prop:=Paired RelV
theorem Vals.length {xs:List V} {us:List Value} (r:Vals xs us):xs.length=us.length:=Paired.length r
theorem Vals.get:∀ {xs:List V} {us:List Value} {i:Nat} {x:V},Vals xs us→xs[i]? = some x→∃ u,us[i]? = some u∧RelV x u
 | _,_,_,_,.nil,e=>by simp at e
 | _,_,0,_,.cons r _,e=>by simp at e; subst e; exact ⟨_,rfl,r⟩
 | _,_,i+1,x,.cons _ t,e=>by
  obtain ⟨u,h1,h2⟩:=Vals.get (i:=i) (x:=x) t (by simpa using e)
  exact ⟨u,by simpa using h1,h2⟩
theorem Vals.append:∀ {xs ys:List V} {us ws:List Value},Vals xs us→Vals ys ws→Vals (xs++ys) (us++ws)
 | _,_,_,_,.nil,s=>s
 | _,_,_,_,.cons r t,s=>.cons r (Vals.append t s)
theorem Vals.take:∀ {xs:List V} {us:List Value} (n:Nat),Vals xs us→Vals (xs.take n) (us.take n)
 | _,_,0,_=>.nil
 | _,_,_+1,.nil=>.nil
 | _,_,n+1,.cons r t=>.cons r (Vals.take n t)
theorem Vals.drop:∀ {xs:List V} {us:List Value} (n:Nat),Vals xs us→Vals (xs.drop n) (us.drop n)
 | _,_,0,r=>r
 | _,_,_+1,.nil=>.nil
 | _,_,n+1,.cons _ t=>Vals.drop n t
def RelO:Option V→Option Value→Prop
 | some v,some u=>RelV v u
 | none,none=>True
 | _,_=>False
def KV {κ:Type}:List (κ×V)→List (κ×Value)→Prop:=Paired fun (p:κ×V) (q:κ×Value)=>p.1=q.1∧RelV p.2 q.2
def kV:Key→V
 | .inl i=>.int i
 | .inr x=>.str x
inductive HO where
 /-- a list -/
 | lst (xs:List V)
 /-- a tuple (never changes) -/
 | tup (xs:List V)
 /-- a dict whose keys are ints and texts; one whose keys are tuples of ints and texts (the empty one is both) -/
 | dK (kvs:List (Key×V)) | dT (kvs:List (List Key×V))
 /-- a set of ints: its members,its size -/
 | set (S:Int→Bool) (n:Nat)
 /-- an instance of the class at C,its dict at dx,its attributes -/
 | ins (C dx:Addr) (fs:List (Str×V))
 /-- the dict of the instance at x -/
 | own (x:Addr)
 /-- the dict of an exception -/
 | xd (fs:List (Str×V))
 /-- a bound method,f of x -/
 | met (f x:Addr)
 /-- a range object lo,lo+1,.. below hi -/
 | rng (lo hi:Int)
 /-- a thing that is known to the object (the script; a dict while a loop walks it): read,never written while it is so -/
 | frz (o:Obj) (u:HO)
 /-- a code object's table -/
 | tbl (ps:Array Value)
 /-- any other thing,by what is true of its one object (a def of one's own: SetO a S n:=HO.ext fun h=>..) -/
 | ext (φ:Heap→Prop)
abbrev Hp:=Addr→Option HO
def upd (H:Hp) (a:Addr) (o:HO):Hp:=fun b=>if b=a then some o else H b
theorem zbI {H:Hp} {a:Addr} {o:HO}:upd H a o a=some o:=by unfold upd; rw [if_pos rfl]
theorem zbJ {H:Hp} {a b:Addr} {o:HO} (h:b≠a):upd H a o b=H b:=by unfold upd; rw [if_neg h]
theorem zID {H:Hp} {a b:Addr} {o u:HO} (h:H a=some o) (h':H b=some u) (d:o≠u):a≠b:=by
 intro e; subst e; rw [h] at h'; exact d (Option.some.inj h')
theorem zcQ {H:Hp} {a b:Addr} {o:HO} (h:H a=some o) (h':H b=none):a≠b:=by
 intro e; subst e; rw [h] at h'; cases h'
section
variable (P:Program) (w:World)
def ObjOk (H:Hp) (h:Heap) (a:Addr):HO→Prop
 | .lst xs=>xs.length≤sizeLine∧∃ (its:List Value) (n:Nat),Vals xs its∧h.get? a=some { cls:=.type "list",data:=.seq its.toArray n }
 | .tup xs=>xs.length≤sizeLine∧∃ its:List Value,Vals xs its∧IsTup h a its.toArray
 | .dK kvs=>kvs.length≤sizeLine∧(a==sysModules)=false∧∃ vs,KV kvs vs∧h.DictOf (zeO P w) a vs
 | .dT kvs=>kvs.length≤sizeLine∧(a==sysModules)=false∧∃ xs:List (List Key×Addr×Value),
   Paired (fun (p:List Key×V) (q:List Key×Addr×Value)=>p.1=q.1∧H q.2.1=some (.tup (p.1.map kV))∧RelV p.2 q.2.2) kvs xs∧
   ∃ o es ep,h.get? a=some o∧o.ExactDict∧o.data=.dict es ep∧es.toList=xs.map (entryOfKey (tupleKind (zeO P w)))∧(xs.map (·.1)).Nodup
 | .set S n=>h.SetOf (intKind P w) a S n
 | .ins C dx fs=>H dx=some (.own a)∧fs.length≤1000∧dx≠a∧h.get? a=some (W.instObj C dx)∧
   ∃ mA,h.Ns1 dx mA∧(∀ f,RelO (fs.lookup f) (mA f))∧PySem.Within mA (fs.map (·.1))
 | .own _=>∃ o,h.get? a=some o
 | .xd fs=>∃ mA,h.Ns1 a mA∧∀ f,RelO (fs.lookup f) (mA f)
 | .rng lo hi=>∃ t u v,h.get? a=some { cls:=.type "range",data:=.fields #[.int lo t,.int hi u,.int 1 v] }
 | .frz o u=>h.get? a=some o∧ObjOk H h a u
 | .tbl ps=>h.get? a=some { cls:=.none,data:=.fields ps }
 | .met f x=>h.get? a=some (W.methodObj (.ref f) (.ref x))
 | .ext φ=>φ h∧(∃ o,h.get? a=some o)∧∀ h1 h2:Heap,φ h1→(∀ o,h1.get? a=some o→h2.get? a=some o)→φ h2
def HOk (H:Hp) (h:Heap):Prop:=∀ a o,H a=some o→ObjOk P w H h a o
end
section
variable {P:Program} {w:World} {H H':Hp} {h h':Heap} {a:Addr} {o:HO}
theorem ObjOk.lt (x:ObjOk P w H h a o):a < h.objs.size:=by
 cases o with
 | lst xs=>obtain ⟨_,_,_,_,e⟩:=x; exact Heap.lt_size e
 | tup xs=>obtain ⟨_,_,_,p⟩:=x; exact p.lt
 | dK kvs=>obtain ⟨_,_,_,_,o,_,_,e,_⟩:=x; exact Heap.lt_size e
 | dT kvs=>obtain ⟨_,_,_,_,o,_,_,e,_⟩:=x; exact Heap.lt_size e
 | set S n=>obtain ⟨o,_,_,_,e,_⟩:=x; exact Heap.lt_size e
 | ins C dx fs=>obtain ⟨_,_,_,e,_⟩:=x; exact Heap.lt_size e
 | own y=>obtain ⟨_,e⟩:=x; exact Heap.lt_size e
 | xd fs=>obtain ⟨_,⟨_,_,_,e,_⟩,_⟩:=x; exact Heap.lt_size e
 | rng lo hi=>obtain ⟨_,_,_,e⟩:=x; exact Heap.lt_size e
 | frz ob u=>obtain ⟨e,_⟩:=x; exact Heap.lt_size e
 | tbl ps=>exact Heap.lt_size (show h.get? a=some _ from x)
 | met f y=>exact Heap.lt_size (show h.get? a=some _ from x)
 | ext φ=>obtain ⟨_,⟨_,e⟩,_⟩:=x; exact Heap.lt_size e
theorem Paired.mapP {α β:Type} {F G:α→β→Prop}:∀ {l₁:List α} {l₂:List β},Paired F l₁ l₂→(∀ a b,F a b→G a b)→Paired G l₁ l₂
 | _,_,.nil,_=>.nil
 | _,_,.cons r t,f=>.cons (f _ _ r) (Paired.mapP t f)
theorem ObjOk.stay (x:ObjOk P w H h a o) (k:∀ b u,(b=a∨H b=some (.own a))→h.get? b=some u→h'.get? b=some u)
  (ho:∀ b,H b=some (.own a)→H' b=some (.own a)) (ht:∀ b xs,H b=some (.tup xs)→H' b=some (.tup xs)):ObjOk P w H' h' a o:=by
 induction o with
 | lst xs=>obtain ⟨z,its,n,r,e⟩:=x; exact ⟨z,its,n,r,k _ _ (.inl rfl) e⟩
 | tup xs=>obtain ⟨z,its,r,ob,e,c⟩:=x; exact ⟨z,its,r,ob,k _ _ (.inl rfl) e,c⟩
 | dK kvs=>obtain ⟨z,y,vs,r,ob,es,ep,e,c⟩:=x; exact ⟨z,y,vs,r,ob,es,ep,k _ _ (.inl rfl) e,c⟩
 | dT kvs=>
  obtain ⟨z,y,xs,r,ob,es,ep,e,c⟩:=x
  exact ⟨z,y,xs,Paired.mapP r fun p q z=>⟨z.1,ht _ _ z.2.1,z.2.2⟩,ob,es,ep,k _ _ (.inl rfl) e,c⟩
 | set S n=>obtain ⟨ob,es,ep,t,e,c⟩:=x; exact ⟨ob,es,ep,t,k _ _ (.inl rfl) e,c⟩
 | ins C dx fs=>
  obtain ⟨d,z,ne,e,mA,⟨od,es,ep,e2,c⟩,r⟩:=x
  exact ⟨ho _ d,z,ne,k _ _ (.inl rfl) e,mA,⟨od,es,ep,k _ _ (.inr d) e2,c⟩,r⟩
 | own y=>obtain ⟨ob,e⟩:=x; exact ⟨ob,k _ _ (.inl rfl) e⟩
 | xd fs=>obtain ⟨mA,⟨od,es,ep,e,c⟩,r⟩:=x; exact ⟨mA,⟨od,es,ep,k _ _ (.inl rfl) e,c⟩,r⟩
 | rng lo hi=>obtain ⟨t,u,v,e⟩:=x; exact ⟨t,u,v,k _ _ (.inl rfl) e⟩
 | frz ob u ih=>obtain ⟨e,q⟩:=x; exact ⟨k _ _ (.inl rfl) e,ih q⟩
 | tbl ps=>
  have e:h.get? a=some { cls:=.none,data:=.fields ps }:=x
  show h'.get? a=some { cls:=.none,data:=.fields ps }
  exact k a _ (.inl rfl) e
 | met f y=>
  have e:h.get? a=some (W.methodObj (.ref f) (.ref y)):=x
  show h'.get? a=some (W.methodObj (.ref f) (.ref y))
  exact k a _ (.inl rfl) e
 | ext φ=>obtain ⟨p,⟨o,e⟩,st⟩:=x; exact ⟨st _ _ p fun o q=>k _ _ (.inl rfl) q,⟨o,k _ _ (.inl rfl) e⟩,st⟩
theorem HOk.lt (x:HOk P w H h) (e:H a=some o):a < h.objs.size:=(x a o e).lt
theorem HOk.fresh (x:HOk P w H h) (e:h.objs.size≤a):H a=none:=by
 cases q:H a with
 | none=>rfl
 | some u=>exact absurd (Nat.lt_of_lt_of_le (x.lt q) e) (Nat.lt_irrefl _)
theorem HOk.kept (x:HOk P w H h) (k:∀ b u,h.get? b=some u→h'.get? b=some u):HOk P w H h':=fun a o e=>
 (x a o e).stay (fun b u _ q=>k b u q) (fun _ q=>q) fun _ _ q=>q
theorem HOk.laid (x:HOk P w H h) (k:∀ b u,h.get? b=some u→h'.get? b=some u) (hp:h.objs.size≤a) (new:ObjOk P w (upd H a o) h' a o):HOk P w (upd H a o) h':=fun b u e=>by
 have hn:=x.fresh hp
 by_cases hb:b=a
 ·subst hb; rw [zbI] at e; cases e; exact new
 ·rw [zbJ hb] at e
  exact (x b u e).stay (fun c v _ q=>k c v q) (fun c q=>by rw [zbJ (zcQ q hn)]; exact q) fun c xs q=>by rw [zbJ (zcQ q hn)]; exact q
end
def Rd (H:Hp) (a:Addr) (u:HO):Prop:=H a=some u∨∃ o,H a=some (.frz o u)
theorem Rd.ok {P:Program} {w:World} {H:Hp} {h:Heap} {a:Addr} {u:HO} (r:Rd H a u) (x:HOk P w H h):ObjOk P w H h a u:=by
 rcases r with r | ⟨o,r⟩
 ·exact x a u r
 ·obtain ⟨_,q⟩:=x a _ r
  exact q
def Mut:Option HO→Prop
 | some (.lst _)=>True
 | some (.dK _)=>True
 | some (.dT _)=>True
 | some (.set _ _)=>True
 | some (.ins _ _ _)=>True
 | some (.ext _)=>True
 | _=>False
section
variable {P:Program} {w:World} {H:Hp} {h h':Heap} {x e:Addr} {o':HO}
theorem HOk.write (ok:HOk P w H h) (mu:Mut (H x)) (he:e=x∨H e=some (.own x)) (k:∀ b u,b≠e→h.get? b=some u→h'.get? b=some u) (heo:∃ u,h'.get? e=some u)
  (new:ObjOk P w (upd H x o') h' x o'):HOk P w (upd H x o') h':=fun b u q=>by
 have nown:∀ c y,H c=some (.own y)→c≠x:=fun c y r z=>by subst z; rw [r] at mu; exact mu
 have ntup:∀ c xs,H c=some (.tup xs)→c≠x:=fun c xs r z=>by subst z; rw [r] at mu; exact mu
 by_cases hb:b=x
 ·subst hb; rw [zbI] at q; cases q; exact new
 ·rw [zbJ hb] at q
  by_cases hbe:b=e
  ·have q':H b=some (.own x):=by
    rcases he with z | z
    ·exact absurd (hbe.trans z) hb
    ·rw [hbe]; exact z
   rw [q] at q'; cases q'
   obtain ⟨v,hv⟩:=heo
   exact ⟨v,by rw [hbe]; exact hv⟩
  ·refine (ok b u q).stay (fun c v hc r=>k c v ?_ r) (fun c r=>by rw [zbJ (nown c b r)]; exact r) fun c xs r=>by rw [zbJ (ntup c xs r)]; exact r
   rcases hc with rfl | hc
   ·exact hbe
   ·rintro rfl
    rcases he with z | z
    ·exact nown c b hc z
    ·rw [hc] at z; cases z; exact hb rfl
end
structure Un (fs ex:List Addr) (H H':Hp) (h h':Heap):Prop where
 keep:∀ b o,h.get? b=some o→H b=none→b∉fs→b∉ex→h'.get? b=some o
 slot:∀ b o,h.get? b=some o→H b=none→b∈fs→b∉ex→∃ sl,h'.get? b=some { o with slots:=sl }
 free:∀ b o,h.get? b=some o→H b=none→b∉ex→H' b=none
 there:∀ b o,h.get? b=some o→b∉ex→∃ o',h'.get? b=some o'
 tups:∀ b xs,H b=some (.tup xs)→H' b=some (.tup xs)
 frzs:∀ b o u,H b=some (.frz o u)→H' b=some (.frz o u)
 tbls:∀ b ps,H b=some (.tbl ps)→∃ more,H' b=some (.tbl (ps++more))
section
variable {fs fs' ex ex':List Addr} {H H1 H2:Hp} {h h1 h2 h':Heap} {a x e:Addr} {o:HO}
theorem Un.any (u:Un fs ex H H1 h h1) {b:Addr} {ob:Obj} (q:h.get? b=some ob) (n:H b=none) (hx:b∉ex):∃ sl,h1.get? b=some { ob with slots:=sl }:=by
 by_cases hb:b∈fs
 ·exact u.slot b ob q n hb hx
 ·exact ⟨ob.slots,u.keep b ob q n hb hx⟩
theorem Un.kept (k:∀ b u,h.get? b=some u→h'.get? b=some u):Un fs ex H H h h':=
 ⟨fun b ob q _ _ _=>k b ob q,fun b ob q _ _ _=>⟨ob.slots,k b ob q⟩,fun _ _ _ n _=>n,fun b ob q _=>⟨ob,k b ob q⟩,fun _ _ q=>q,fun _ _ _ q=>q,fun _ ps q=>⟨#[],by rw [q]; simp⟩⟩
theorem Un.refl:Un fs ex H H h h:=Un.kept fun _ _ q=>q
theorem Un.laid (k:∀ b u,h.get? b=some u→h'.get? b=some u) (hp:h.objs.size≤a) (hn:H a=none):Un fs ex H (upd H a o) h h' where
 keep:=fun b u q _ _ _=>k b u q
 slot:=fun b u q _ _ _=>⟨u.slots,k b u q⟩
 free:=fun b u q n _=>by rw [zbJ (Nat.ne_of_lt (Nat.lt_of_lt_of_le (Heap.lt_size q) hp))]; exact n
 there:=fun b u q _=>⟨u,k b u q⟩
 tups:=fun b xs q=>by rw [zbJ (zcQ q hn)]; exact q
 frzs:=fun b u xs q=>by rw [zbJ (zcQ q hn)]; exact q
 tbls:=fun b ps q=>⟨#[],by rw [zbJ (zcQ q hn),q]; simp⟩
theorem Un.write (mu:Mut (H x)) (he:e=x∨H e=some (.own x)) (k:∀ b u,b≠e→h.get? b=some u→h'.get? b=some u) (heo:∃ u,h'.get? e=some u):Un fs ex H (upd H x o) h h':=by
 have hx:∀ b,H b=none→b≠x:=fun b n z=>by subst z; rw [n] at mu; exact mu
 have hb:∀ b,H b=none→b≠e:=fun b n z=>by
  subst z
  rcases he with r | r
  ·exact hx b n r
  ·rw [n] at r; cases r
 have hm:∀ b u,H b=some u→¬ Mut (some u)→b≠x:=fun b u q nm z=>by subst z; rw [q] at mu; exact nm mu
 refine ⟨fun b u q n _ _=>k b u (hb b n) q,fun b u q n _ _=>⟨u.slots,k b u (hb b n) q⟩,fun b u q n _=>by rw [zbJ (hx b n)]; exact n,fun b u q _=>?_,
  fun b xs q=>by rw [zbJ (hm b _ q fun z=>z)]; exact q,fun b u xs q=>by rw [zbJ (hm b _ q fun z=>z)]; exact q,fun b ps q=>⟨#[],by rw [zbJ (hm b _ q fun z=>z),q]; simp⟩⟩
 by_cases hbe:b=e
 ·subst hbe; exact heo
 ·exact ⟨u,k b u hbe q⟩
end
def trk (h:Heap) (H:Hp):List Addr:=(List.range h.objs.size).filter fun a=>(H a).isSome
def zBl (h:Heap) (H:Hp):Heap:=W.hideAll h (trk h H)
theorem zyK (h:Heap) (H:Hp):(zBl h H).objs.size=h.objs.size:=W.hideAll_size _ _
theorem zBm {h:Heap} {H:Hp} {b:Addr} {o:Obj} (e:h.get? b=some o) (n:H b=none):(zBl h H).get? b=some o:=
 W.hideAll_get _ e fun hm=>by
  have q:(H b).isSome=true:=(List.mem_filter.mp hm).2
  rw [n] at q; simp at q
theorem zDi {h:Heap} {H:Hp} {b:Addr} {o:Obj} (e:(zBl h H).get? b=some o):h.get? b=some o∧H b=none:=by
 have e':h.get? b=some o:=W.of_hideAll (trk h H) e
 refine ⟨e',?_⟩
 cases q:H b with
 | none=>rfl
 | some x=>
  have hm:b∈trk h H:=List.mem_filter.mpr ⟨List.mem_range.mpr (Heap.lt_size e'),by simp [q]⟩
  have z:(zBl h H).get? b=none:=W.hideAll_none (trk h H) hm
  rw [z] at e; cases e
def zDj (g h:Heap) (L:Addr):List (Addr×Obj):=(List.range h.objs.size).filterMap fun a=>if a=L∨(g.get? a).isSome=true then none else (h.get? a).map fun o=>(a,o)
def ze5 (g h:Heap) (L d:Addr):List (Addr×Obj):=(zDj g h L).filter fun p=>decide (p.1≠d)
end L2
namespace L2
open PySem PySem.Spec PyProof.Rows
structure Mod (K:W.Frag) (mg:Str→Option Value) (base:Heap):Prop where
 kin:K.In base
 glob:base.Ns mainGlobals mg
 blt:∃ mb,base.Ns builtinsNs mb∧∀ x:Str,x≠"__name__"→mb x=bootBuiltins x
 nolimit:base.NoLimit
structure Cx where
 prog:Program
 w:World
 K:W.Frag
 mg:Str→Option Value
 base:Heap
 A:Around
 N:List Str
 s₀:Shared
 H₀:Hp
 env:Env
 outer:List Env
 stack:List Env
 ex:List Addr
 fn:Str→Bool
 calm:Bool
 pn:List (Addr×Obj)
 xe:Value→Shared→Prop
def frs (l:List Env):List Addr:=l.filterMap (·.frame)
abbrev Cx.fs (X:Cx):List Addr:=frs X.outer
def Vis (sc:Scope) (x:Str):Prop:=sc.names.lookup x=some .local∨sc.names.lookup x=some .cell∨sc.names.lookup x=some .free
def Loc (sc:Scope) (x:Str):Prop:=sc.names.lookup x=some .local∨sc.names.lookup x=some .cell
def zK4 (env:Env) (h:Heap) (m:Str→Option Value) (x:Str) (u:Value):Prop:=
 (env.kindOf x=some .local∧m x=some u)∨((env.kindOf x=some .cell∨env.kindOf x=some .free)∧∃ c,env.cells.lookup x=some c∧h.IsCell c (some u))
structure Cx.Ok (X:Cx):Prop where
 mod:Mod X.K X.mg X.base
 kind:X.env.scope.kind=.function
 glob:X.env.globals=mainGlobals
 blt:X.env.builtins=builtinsNs
 above:X.s₀.heap.objs.size≤X.env.locals
 inj:∀ x y c,X.env.cells.lookup x=some c→X.env.cells.lookup y=some c→x=y
 has:∀ x,(X.env.kindOf x=some .cell∨X.env.kindOf x=some .free)→∃ c,X.env.cells.lookup x=some c
 cab:∀ x c,X.fn x=true→X.env.cells.lookup x=some c→X.s₀.heap.objs.size≤c
 hd:X.calm=true→X.A.handled=none
 frames:X.A.frames=some X.stack
 stk:X.stack=X.outer∨(X.stack=X.env :: X.outer∧X.env.frame=some X.env.locals)
 exf:∀ b∈X.ex,b≠X.env.locals∧∀ x c,X.env.cells.lookup x=some c→c≠b
 bs:∀ b o,X.base.get? b=some o→X.s₀.heap.get? b=some o∧X.H₀ b=none
 bsz:X.base.objs.size≤X.s₀.heap.objs.size
 noex:∀ b o,X.base.get? b=some o→b∉X.ex
 exfs:∀ b∈X.ex,b∉X.fs
 funs:X.s₀.heap.FunFrames X.base X.outer
 frf:∀ b∈X.fs,X.H₀ b=none
structure Inv (X:Cx) (pins:List (Addr×Obj)) (σ:List (Option V)) (H:Hp) (s:Shared):Prop where
 ok:X.Ok
 os:s.os=X.s₀.os
 bare:AllBare s.gens
 base:Un X.fs X.ex X.H₀ H X.s₀.heap s.heap
 loc:∃ m,s.heap.Ns X.env.locals m∧∀ (i:Nat) (x:Str) (v:V),X.N[i]? = some x→σ[i]? = some (some v)→Vis X.env.scope x→∃ u,RelV v u∧zK4 X.env s.heap m x u
 cell:∀ x c,X.env.cells.lookup x=some c→∃ v,s.heap.IsCell c v
 free:H X.env.locals=none
 freeC:∀ x c,X.env.cells.lookup x=some c→H c=none
 pin:∀ p∈X.pn++pins,s.heap.get? p.1=some p.2∧H p.1=none∧p.1≠X.env.locals∧p.1∉X.fs∧∀ v,p.2.data≠.cell v
 hok:HOk X.prog X.w H s.heap
 len:σ.length=X.N.length
section
variable {X:Cx} {pins:List (Addr×Obj)} {σ:List (Option V)} {H H':Hp} {s:Shared} {h':Heap}
theorem Cx.Ok.nofr (ok:X.Ok) {b:Addr} {o:Obj} (e:X.base.get? b=some o):b∉X.fs:=fun hb=>by
 have:=(ok.funs.mem hb).1
 rw [e] at this; cases this
theorem Inv.bs (I:Inv X pins σ H s):∀ b o,X.base.get? b=some o→s.heap.get? b=some o∧H b=none:=fun b o e=>
 ⟨I.base.keep b o (I.ok.bs b o e).1 (I.ok.bs b o e).2 (I.ok.nofr e) (I.ok.noex b o e),I.base.free b o (I.ok.bs b o e).1 (I.ok.bs b o e).2 (I.ok.noex b o e)⟩
theorem Inv.bk (I:Inv X pins σ H s):∀ b o,X.base.get? b=some o→s.heap.get? b=some o:=fun b o e=>(I.bs b o e).1
theorem Inv.mod (I:Inv X pins σ H s):Mod X.K X.mg X.base:=I.ok.mod
theorem Inv.kIn (I:Inv X pins σ H s):X.K.In s.heap:=I.ok.mod.kin.keeps I.bk
theorem Inv.lt (I:Inv X pins σ H s):X.env.locals < s.heap.objs.size:=let ⟨_,hn,_⟩:=I.loc; hn.lt
theorem Inv.sz (I:Inv X pins σ H s):X.s₀.heap.objs.size≤s.heap.objs.size:=Nat.le_trans I.ok.above (Nat.le_of_lt I.lt)
theorem Inv.nofs (I:Inv X pins σ H s) {a:Addr} (h:s.heap.objs.size≤a):a∉X.fs:=fun hb=>by
 obtain ⟨_,o,ho,_⟩:=I.ok.funs.mem hb
 exact absurd (Nat.lt_of_lt_of_le (Heap.lt_size ho) (Nat.le_trans I.sz h)) (Nat.lt_irrefl _)
theorem Inv.cne (I:Inv X pins σ H s):∀ x c,X.env.cells.lookup x=some c→c≠X.env.locals:=fun x c e z=>by
 obtain ⟨v,o,ho,hd⟩:=I.cell x c e
 obtain ⟨m,⟨o',es,ep,ho',hd',_⟩,_⟩:=I.loc
 rw [z,ho'] at ho; cases ho; rw [hd'] at hd; cases hd
theorem Inv.funs (I:Inv X pins σ H s):s.heap.FunFrames X.base X.outer:=by
 have all:∀ (l:List Env),(∀ b∈frs l,b∈X.fs)→X.s₀.heap.FunFrames X.base l→s.heap.FunFrames X.base l:=by
  intro l
  induction l with
  | nil=>intro _ _; trivial
  | cons env r ih=>
   intro hs hl
   obtain ⟨hk,⟨L,o,hf,hn,ho,hd⟩,hr⟩:=hl
   have hL:L∈X.fs:=hs L (by unfold frs; rw [List.filterMap_cons,hf]; exact List.mem_cons_self)
   obtain ⟨sl,e⟩:=I.base.slot L o ho (I.ok.frf L hL) hL fun z=>I.ok.exfs L z hL
   exact ⟨hk,⟨L,_,hf,hn,e,hd⟩,ih (fun b hb=>hs b (by unfold frs; rw [List.filterMap_cons,hf]; exact List.mem_cons_of_mem _ hb)) hr⟩
 exact all X.outer (fun _ hb=>hb) I.ok.funs
theorem Inv.stack (I:Inv X pins σ H s):s.heap.FunFrames X.base X.stack:=by
 rcases I.ok.stk with e | ⟨e,hf⟩
 ·rw [e]; exact I.funs
 ·rw [e]
  obtain ⟨m,hn,_⟩:=I.loc
  refine .cons (by rw [I.ok.kind]; decide) hf hn ?_ I.funs
  exact Heap.get?_none_of_le (Nat.le_trans I.ok.bsz I.ok.above)
theorem Inv.stkSub (I:Inv X pins σ H s):∀ b∈frs X.stack,b∈X.env.locals :: X.fs:=fun b hb=>by
 rcases I.ok.stk with e | ⟨e,hf⟩
 ·rw [e] at hb; exact List.mem_cons_of_mem _ hb
 ·rw [e] at hb
  unfold frs at hb
  rw [List.filterMap_cons,hf] at hb
  exact hb
theorem Inv.stkFree (I:Inv X pins σ H s):∀ b∈frs X.stack,H b=none:=fun b hb=>by
 rcases List.mem_cons.mp (I.stkSub b hb) with e | hb
 ·rw [e]; exact I.free
 ·obtain ⟨_,o,ho,_⟩:=I.ok.funs.mem hb
  exact I.base.free b o ho (I.ok.frf b hb) fun z=>I.ok.exfs b z hb
theorem Inv.step {g':Array GenState} {t':Nat} {d':Drawn} {ch:List Addr} (I:Inv X pins σ H s)
  (hch:∀ b∈ch,(b∈X.ex∨X.s₀.heap.objs.size≤b)∧b≠X.env.locals∧(∀ x c,X.env.cells.lookup x=some c→c≠b)∧∀ p∈X.pn++pins,p.1≠b)
  (keep:∀ b o,b≠X.env.locals→b∉X.fs→b∉ch→s.heap.get? b=some o→H b=none→h'.get? b=some o)
  (slot:∀ b o,b≠X.env.locals→b∈X.fs→b∉ch→s.heap.get? b=some o→H b=none→∃ sl,h'.get? b=some { o with slots:=sl }) (free:∀ b o,b∉ch→s.heap.get? b=some o→H b=none→H' b=none)
  (there:∀ b o,b∉ch→s.heap.get? b=some o→∃ o',h'.get? b=some o')
  (tups:∀ b xs,H b=some (.tup xs)→H' b=some (.tup xs)) (frzs:∀ b o u,H b=some (.frz o u)→H' b=some (.frz o u)) (tbls:∀ b ps,H b=some (.tbl ps)→∃ more,H' b=some (.tbl (ps++more)))
  (ns:∀ m,s.heap.Ns X.env.locals m→h'.Ns X.env.locals m) (hok:HOk X.prog X.w H' h') (hg:AllBare g') :
  Inv X pins σ H' { s with heap:=h',gens:=g',drawn:=d',toks:=t' }:=by
 have neL:∀ b o,X.s₀.heap.get? b=some o→b≠X.env.locals:=fun b o e=>Nat.ne_of_lt (Nat.lt_of_lt_of_le (Heap.lt_size e) I.ok.above)
 have neC:∀ b o,X.s₀.heap.get? b=some o→b∉X.ex→b∉ch:=fun b o e hx hb=>by
  rcases (hch b hb).1 with z | z
  ·exact hx z
  ·exact absurd (Nat.lt_of_lt_of_le (Heap.lt_size e) z) (Nat.lt_irrefl _)
 have cellK:∀ x c,X.env.cells.lookup x=some c→∀ v,s.heap.IsCell c v→h'.IsCell c v:=fun x c e v ⟨o,ho,hd⟩=>by
  have nch:c∉ch:=fun z=>(hch c z).2.2.1 x c e rfl
  by_cases hc:c∈X.fs
  ·obtain ⟨sl,q⟩:=slot c o (I.cne x c e) hc nch ho (I.freeC x c e)
   exact ⟨_,q,hd⟩
  ·exact ⟨o,keep c o (I.cne x c e) hc nch ho (I.freeC x c e),hd⟩
 refine ⟨I.ok,I.os,hg,⟨fun b o e n hb hx=>?_,fun b o e n hb hx=>?_,fun b o e n hx=>?_,fun b o e hx=>?_,fun b xs e=>tups b xs (I.base.tups b xs e),fun b o xs e=>frzs b o xs (I.base.frzs b o xs e),fun b ps e=>?_⟩,?_,fun x c e=>?_,?_,fun x c e=>?_,fun p hp=>?_,hok,I.len⟩
 ·exact keep b o (neL b o e) hb (neC b o e hx) (I.base.keep b o e n hb hx) (I.base.free b o e n hx)
 ·obtain ⟨sl,e1⟩:=I.base.slot b o e n hb hx
  obtain ⟨sl',e2⟩:=slot b _ (neL b o e) hb (neC b o e hx) e1 (I.base.free b o e n hx)
  exact ⟨sl',e2⟩
 ·obtain ⟨o',e1⟩:=I.base.there b o e hx
  exact free b o' (neC b o e hx) e1 (I.base.free b o e n hx)
 ·obtain ⟨o',e1⟩:=I.base.there b o e hx
  exact there b o' (neC b o e hx) e1
 ·obtain ⟨m1,e1⟩:=I.base.tbls b ps e
  obtain ⟨m2,e2⟩:=tbls b _ e1
  exact ⟨m1++m2,by rw [e2,Array.append_assoc]⟩
 ·obtain ⟨m,hn,hl⟩:=I.loc
  refine ⟨m,ns m hn,fun i x v e1 e2 e3=>?_⟩
  obtain ⟨u,r,l⟩:=hl i x v e1 e2 e3
  refine ⟨u,r,?_⟩
  rcases l with l | ⟨k,c,e,z⟩
  ·exact .inl l
  ·exact .inr ⟨k,c,e,cellK x c e _ z⟩
 ·obtain ⟨v,z⟩:=I.cell x c e
  exact ⟨v,cellK x c e v z⟩
 ·obtain ⟨m,⟨o,_,_,ho,_⟩,_⟩:=I.loc
  exact free _ o (fun z=>(hch _ z).2.1 rfl) ho I.free
 ·obtain ⟨v,o,ho,hd⟩:=I.cell x c e
  exact free c o (fun z=>(hch c z).2.2.1 x c e rfl) ho (I.freeC x c e)
 ·obtain ⟨e,n,ne,nf,d⟩:=I.pin p hp
  have nch:p.1∉ch:=fun z=>(hch p.1 z).2.2.2 p hp rfl
  exact ⟨keep p.1 p.2 ne nf nch e n,free p.1 p.2 nch e n,ne,nf,d⟩
theorem Inv.un {t':Nat} (I:Inv X pins σ H s) (u:Un X.fs [] H H' s.heap h') (hok:HOk X.prog X.w H' h'):Inv X pins σ H' { s with heap:=h',toks:=t' }:=by
 obtain ⟨m,⟨o,es,ep,ho,r⟩,_⟩:=id I.loc
 obtain ⟨sl,hL⟩:=u.any ho I.free (by simp)
 exact I.step (g':=s.gens) (d':=s.drawn) (ch:=[]) (fun _ z=>nomatch z) (fun b o _ hb _ e n=>u.keep b o e n hb (by simp)) (fun b o _ hb _ e n=>u.slot b o e n hb (by simp)) (fun b o _ e n=>u.free b o e n (by simp)) (fun b o _ e=>u.there b o e (by simp)) u.tups u.frzs u.tbls (fun m' hm=>by
  obtain ⟨o',es',ep',ho',r'⟩:=hm
  rw [ho] at ho'; cases ho'
  exact ⟨_,es',ep',hL,r'⟩) hok I.bare
theorem Inv.call {g':Array GenState} {t':Nat} {d':Drawn} {ch:List Addr} (I:Inv X pins σ H s) (u:Un (frs X.stack) ch H H' s.heap h') (hok:HOk X.prog X.w H' h') (hg:AllBare g')
  (hch:∀ b∈ch,(b∈X.ex∨X.s₀.heap.objs.size≤b)∧b≠X.env.locals∧(∀ x c,X.env.cells.lookup x=some c→c≠b)∧∀ p∈X.pn++pins,p.1≠b) :
  Inv X pins σ H' { s with heap:=h',gens:=g',drawn:=d',toks:=t' }:=by
 obtain ⟨m,⟨o,es,ep,ho,r⟩,_⟩:=id I.loc
 obtain ⟨sl,hL⟩:=u.any ho I.free fun z=>(hch _ z).2.1 rfl
 exact I.step (ch:=ch) hch (fun b o hL hb hc e n=>u.keep b o e n (fun z=>(List.mem_cons.mp (I.stkSub b z)).elim hL hb) hc) (fun b o _ _ hc e n=>u.any e n hc) (fun b o hc e n=>u.free b o e n hc) (fun b o hc e=>u.there b o e hc) u.tups u.frzs u.tbls (fun m' hm=>by
  obtain ⟨o',es',ep',ho',r'⟩:=hm
  rw [ho] at ho'; cases ho'
  exact ⟨_,es',ep',hL,r'⟩) hok hg
theorem Inv.turned {t':Nat} {it:Addr} (I:Inv X pins σ H s) (k:∀ b o,b≠it→s.heap.get? b=some o→h'.get? b=some o) (hn:H it=none) (hL:it≠X.env.locals)
  (h1:it∈X.ex∨X.s₀.heap.objs.size≤it) (h2:∀ x c,X.env.cells.lookup x=some c→c≠it) (h3:∀ p∈X.pn++pins,p.1≠it):Inv X pins σ H { s with heap:=h',toks:=t' }:=by
 have nit:∀ b u,H b=some u→b≠it:=fun b u e z=>by rw [z,hn] at e; cases e
 refine I.step (g':=s.gens) (d':=s.drawn) (ch:=[it]) (fun b hb=>?_) (fun b o _ _ hc e _=>k b o (fun z=>hc (by simp [z])) e) (fun b o _ _ hc e _=>⟨o.slots,k b o (fun z=>hc (by simp [z])) e⟩) (fun _ _ _ _ n=>n)
  (fun b o hc e=>⟨o,k b o (fun z=>hc (by simp [z])) e⟩) (fun _ _ e=>e) (fun _ _ _ e=>e) (fun b ps e=>⟨#[],by rw [e]; simp⟩) (fun m hm=>?_) (fun b u e=>?_) I.bare
 ·have e:b=it:=by simpa using hb
  subst e
  exact ⟨h1,hL,h2,h3⟩
 ·obtain ⟨o,es,ep,ho,r⟩:=hm
  exact ⟨o,es,ep,k _ o (Ne.symm hL) ho,r⟩
 ·refine (I.hok b u e).stay (fun c v hc q=>k c v ?_ q) (fun _ q=>q) fun _ _ q=>q
  rcases hc with z | z
  ·rw [z]; exact nit b u e
  ·exact nit c _ z
theorem Inv.tok (I:Inv X pins σ H s) (t:Nat):Inv X pins σ H { s with toks:=t }:=I.un (h':=s.heap) (t':=t) Un.refl I.hok
theorem Inv.kept {t':Nat} (I:Inv X pins σ H s) (k:∀ b u,s.heap.get? b=some u→h'.get? b=some u):Inv X pins σ H { s with heap:=h',toks:=t' }:=I.un (Un.kept k) (I.hok.kept k)
theorem Inv.laid {a:Addr} {o:HO} {t':Nat} (I:Inv X pins σ H s) (k:∀ b u,s.heap.get? b=some u→h'.get? b=some u) (hp:s.heap.objs.size≤a) (new:ObjOk X.prog X.w (upd H a o) h' a o) :
  Inv X pins σ (upd H a o) { s with heap:=h',toks:=t' }:=I.un (Un.laid k hp (I.hok.fresh hp)) (I.hok.laid k hp new)
theorem Inv.write {x e:Addr} {o:HO} {t':Nat} (I:Inv X pins σ H s) (mu:Mut (H x)) (he:e=x∨H e=some (.own x)) (k:∀ b u,b≠e→s.heap.get? b=some u→h'.get? b=some u) (heo:∃ u,h'.get? e=some u)
  (new:ObjOk X.prog X.w (upd H x o) h' x o):Inv X pins σ (upd H x o) { s with heap:=h',toks:=t' }:=I.un (Un.write mu he k heo) (I.hok.write mu he k heo new)
theorem Inv.pins_of {pins':List (Addr×Obj)} (I:Inv X pins σ H s) (h:∀ p∈pins',s.heap.get? p.1=some p.2∧H p.1=none∧p.1≠X.env.locals∧p.1∉X.fs∧∀ v,p.2.data≠.cell v):Inv X pins' σ H s:=
 ⟨I.ok,I.os,I.bare,I.base,I.loc,I.cell,I.free,I.freeC,fun p hp=>(List.mem_append.mp hp).elim (fun z=>I.pin p (List.mem_append_left _ z)) (h p),I.hok,I.len⟩
theorem zxc {N:List Str} (hN:N.Nodup) {i j:Nat} {x:Str} (a:N[i]? = some x) (b:N[j]? = some x):i=j:=by
 obtain ⟨h1,e1⟩:=List.getElem?_eq_some_iff.mp a
 obtain ⟨h2,e2⟩:=List.getElem?_eq_some_iff.mp b
 exact (List.getElem_inj hN).mp (e1.trans e2.symm)
theorem zua {M:Model} {A:Around} {E:Value→Shared→Prop} {i:Nat} {x:Str} {v:V} {u:Value} {Q:Unit→Shared→Prop} (I:Inv X pins σ H s) (hN:X.N.Nodup) (hi:X.N[i]? = some x) (hx:Loc X.env.scope x) (r:RelV v u)
  (h:∀ s',Inv X pins (σ.set i (some v)) H s'→(∃ a,Heap.SameBut a s.heap s'.heap∧(a=X.env.locals∨X.env.cells.lookup x=some a))→Q () s') (hf:X.fn x=true∨X.env.scope.names.lookup x=some .local:=by first | exact .inl rfl | exact .inr rfl | assumption):wpAny M A (storeName X.env x u) Q E s:=by
 obtain ⟨m,hn,hl⟩:=id I.loc
 have hcls:(X.env.scope.kind==.class||(X.env.scope.kind==.module&&X.env.locals != X.env.globals))=false:=by rw [I.ok.kind]; rfl
 have hiσ:i < σ.length:=by rw [I.len]; exact (List.getElem?_eq_some_iff.mp hi).1
 have cne:=I.cne
 have tracked:∀ {a:Addr} {h':Heap},(∃ o,s.heap.get? a=some o∧H a=none)→Heap.SameBut a s.heap h'→HOk X.prog X.w H h':=fun {a h'} ha hs b ob e=>by
  obtain ⟨_,_,hfree⟩:=ha
  refine (I.hok b ob e).stay (fun c w' hc q=>(hs.2 c ?_).trans q) (fun _ q=>q) fun _ _ q=>q
  rintro rfl
  rcases hc with rfl | hc
  ·rw [hfree] at e; cases e
  ·rw [hfree] at hc; cases hc
 rcases hx with hk | hk
 ·refine wpAny_storeName_local hk hn (fun h' hn' hs=>?_) hcls
  obtain ⟨oL,_,_,hoL,_⟩:=id hn
  refine h _ ⟨I.ok,I.os,I.bare,⟨fun b o e n hb hx=>?_,fun b o e n hb hx=>?_,I.base.free,fun b o e hx=>?_,I.base.tups,I.base.frzs,I.base.tbls⟩,⟨_,hn',fun j y v' e1 e2 e3=>?_⟩,fun y c e=>?_,I.free,I.freeC,fun p hp=>?_,tracked ⟨oL,hoL,I.free⟩ hs,by simpa using I.len⟩ ⟨_,hs,.inl rfl⟩
  ·exact (hs.2 b (Nat.ne_of_lt (Nat.lt_of_lt_of_le (Heap.lt_size e) I.ok.above))).trans (I.base.keep b o e n hb hx)
  ·obtain ⟨sl,e1⟩:=I.base.slot b o e n hb hx
   exact ⟨sl,(hs.2 b (Nat.ne_of_lt (Nat.lt_of_lt_of_le (Heap.lt_size e) I.ok.above))).trans e1⟩
  ·obtain ⟨o',e1⟩:=I.base.there b o e hx
   exact ⟨o',(hs.2 b (Nat.ne_of_lt (Nat.lt_of_lt_of_le (Heap.lt_size e) I.ok.above))).trans e1⟩
  ·by_cases hj:j=i
   ·subst hj
    rw [hi] at e1; cases e1
    rw [List.getElem?_set_self hiσ] at e2
    cases e2
    exact ⟨u,r,.inl ⟨hk,by simp⟩⟩
   ·rw [List.getElem?_set_ne (Ne.symm hj)] at e2
    obtain ⟨u',r',q⟩:=hl j y v' e1 e2 e3
    refine ⟨u',r',?_⟩
    rcases q with ⟨k,e⟩ | ⟨k,c,e,z⟩
    ·refine .inl ⟨k,?_⟩
     have:y≠x:=fun e=>hj (zxc hN e1 (e▸hi))
     simp [this,e]
    ·exact .inr ⟨k,c,e,z.sameBut hs (cne y c e)⟩
  ·obtain ⟨w',z⟩:=I.cell y c e
   exact ⟨w',z.sameBut hs (cne y c e)⟩
  ·obtain ⟨e,n,ne,nf,d⟩:=I.pin p hp
   exact ⟨(hs.2 p.1 ne).trans e,n,ne,nf,d⟩
 ·have hfn:X.fn x=true:=by
   rcases hf with z | z
   ·exact z
   ·rw [z] at hk; cases hk
  obtain ⟨c,hc⟩:=I.ok.has x (.inl hk)
  obtain ⟨w',z⟩:=I.cell x c hc
  refine wpAny_storeName_cell I.ok.kind hk hc z (fun h' hc' hs=>?_)
  obtain ⟨oc,hoc,hocd⟩:=id z
  refine h { s with heap:=h' } ⟨I.ok,I.os,I.bare,⟨fun b o e n hb hx=>?_,fun b o e n hb hx=>?_,I.base.free,fun b o e hx=>?_,I.base.tups,I.base.frzs,I.base.tbls⟩,⟨m,hn.sameBut hs (Ne.symm (cne x c hc)),fun j y v' e1 e2 e3=>?_⟩,fun y c' e=>?_,I.free,I.freeC,fun p hp=>?_,tracked ⟨oc,hoc,I.freeC x c hc⟩ hs,by simpa using I.len⟩ ⟨c,hs,.inr hc⟩
  ·exact (hs.2 b (Nat.ne_of_lt (Nat.lt_of_lt_of_le (Heap.lt_size e) (I.ok.cab x c hfn hc)))).trans (I.base.keep b o e n hb hx)
  ·obtain ⟨sl,e1⟩:=I.base.slot b o e n hb hx
   exact ⟨sl,(hs.2 b (Nat.ne_of_lt (Nat.lt_of_lt_of_le (Heap.lt_size e) (I.ok.cab x c hfn hc)))).trans e1⟩
  ·obtain ⟨o',e1⟩:=I.base.there b o e hx
   exact ⟨o',(hs.2 b (Nat.ne_of_lt (Nat.lt_of_lt_of_le (Heap.lt_size e) (I.ok.cab x c hfn hc)))).trans e1⟩
  ·by_cases hj:j=i
   ·subst hj
    rw [hi] at e1; cases e1
    rw [List.getElem?_set_self hiσ] at e2
    cases e2
    exact ⟨u,r,.inr ⟨.inl hk,c,hc,hc'⟩⟩
   ·rw [List.getElem?_set_ne (Ne.symm hj)] at e2
    obtain ⟨u',r',q⟩:=hl j y v' e1 e2 e3
    refine ⟨u',r',?_⟩
    rcases q with q | ⟨k,c',e,z'⟩
    ·exact .inl q
    ·refine .inr ⟨k,c',e,z'.sameBut hs ?_⟩
     rintro rfl
     exact hj (zxc hN e1 (I.ok.inj _ _ _ e hc▸hi))
  ·by_cases hcc:c'=c
   ·subst hcc; exact ⟨_,hc'⟩
   ·obtain ⟨w2,z2⟩:=I.cell y c' e
    exact ⟨w2,z2.sameBut hs hcc⟩
  ·obtain ⟨e,n,ne,nf,d⟩:=I.pin p hp
   refine ⟨(hs.2 p.1 ?_).trans e,n,ne,nf,d⟩
   intro q
   rw [q,hoc] at e
   have q':oc=p.2:=Option.some.inj e
   exact d w' (by rw [← q']; exact hocd)
theorem zxd {M:Model} {A:Around} {E:Value→Shared→Prop} {i:Nat} {x:Str} {v:V} {u:Value} {Q:Unit→Shared→Prop} (I:Inv X pins σ H s) (hN:X.N.Nodup) (hi:X.N[i]? = some x) (hx:Loc X.env.scope x) (r:RelV v u)
  (h:∀ s',Inv X pins (σ.set i (some v)) H s'→Q () s') (hf:X.fn x=true∨X.env.scope.names.lookup x=some .local:=by first | exact .inl rfl | exact .inr rfl | assumption):wpAny M A (storeName X.env x u) Q E s:=
 zua I hN hi hx r (fun s' I' _=>h s' I') hf
theorem Inv.call' {s':Shared} {ch:List Addr} (I:Inv X pins σ H s) (ho:s'.os=s.os) (u:Un (frs X.stack) ch H H' s.heap s'.heap) (hok:HOk X.prog X.w H' s'.heap) (hg:AllBare s'.gens)
  (hch:∀ b∈ch,(b∈X.ex∨X.s₀.heap.objs.size≤b)∧b≠X.env.locals∧(∀ x c,X.env.cells.lookup x=some c→c≠b)∧∀ p∈X.pn++pins,p.1≠b):Inv X pins σ H' s':=by
 obtain ⟨h',g',d',t',o'⟩:=s'
 have e:o'=s.os:=ho
 subst e
 exact I.call (g':=g') (t':=t') (d':=d') u hok hg hch
end
abbrev XK:=Value→Option Addr→Hp→Prop
abbrev St:=List (Option V)
abbrev VK:=V→Hp→Prop
abbrev TE:=St→Hp→VK→Prop
abbrev TT:=St→Hp→(Bool→Hp→Prop)→Prop
abbrev TA:=St→Hp→(List V→Hp→Prop)→Prop
structure Ends where
 nx:St→Hp→Prop
 rt:VK
 bk:St→Hp→Prop:=fun _ _=>False
 ct:St→Hp→Prop:=fun _ _=>False
abbrev TS:=Ends→St→Hp→Prop
def EP (X:Cx) (pins:List (Addr×Obj)) (σ:St) (Q:VK) (u:Value) (s':Shared):Prop:=∃ v H',Inv X pins σ H' s'∧RelV v u∧Q v H'
def TP (X:Cx) (pins:List (Addr×Obj)) (σ:St) (Q:Bool→Hp→Prop) (b:Bool) (s':Shared):Prop:=∃ H',Inv X pins σ H' s'∧Q b H'
def AP (X:Cx) (pins:List (Addr×Obj)) (σ:St) (Q:List V→Hp→Prop) (us:List Value) (s':Shared):Prop:=∃ vs H',Inv X pins σ H' s'∧Vals vs us∧Q vs H'
def SP (X:Cx) (pins:List (Addr×Obj)) (D:Ends) (f:Flow) (s':Shared):Prop:=
 match f with
 | .next=>∃ σ' H',Inv X pins σ' H' s'∧D.nx σ' H'
 | .brk=>∃ σ' H',Inv X pins σ' H' s'∧D.bk σ' H'
 | .cont=>∃ σ' H',Inv X pins σ' H' s'∧D.ct σ' H'
 | .ret u=>∃ v σ' H',Inv X pins σ' H' s'∧RelV v u∧D.rt v H'
def PE (X:Cx) (e:Expr) (t:TE):Prop:=
 ∀ (pins:List (Addr×Obj)) (s:Shared) (σ:St) (H:Hp) (Q:VK),Inv X pins σ H s→t σ H Q→wpAny (model X.prog X.w) X.A (eval e X.env) (EP X pins σ Q) X.xe s
def PT (X:Cx) (e:Expr) (t:TT):Prop:=
 ∀ (pins:List (Addr×Obj)) (s:Shared) (σ:St) (H:Hp) (Q:Bool→Hp→Prop),Inv X pins σ H s→t σ H Q→wpAny (model X.prog X.w) X.A (isTrue e X.env (eval e X.env)) (TP X pins σ Q) X.xe s
def PW (X:Cx) (e:Expr) (t:TT):Prop:=
 ∀ (whole:Sem Value) (pins:List (Addr×Obj)) (s:Shared) (σ:St) (H:Hp) (Q:Bool→Hp→Prop),Inv X pins σ H s→t σ H Q→wpAny (model X.prog X.w) X.A (isTrue e X.env whole) (TP X pins σ Q) X.xe s
theorem PW.pt {X:Cx} {e:Expr} {t:TT} (h:PW X e t):PT X e t:=h _
def PA (X:Cx) (es:List Expr) (t:TA):Prop:=
 ∀ (pos:Pos) (pins:List (Addr×Obj)) (s:Shared) (σ:St) (H:Hp) (Q:List V→Hp→Prop),Inv X pins σ H s→t σ H Q→wpAny (model X.prog X.w) X.A (spliced (backTo pos (starEach es X.env))) (AP X pins σ Q) X.xe s
def PS (X:Cx) (st:Stmt) (t:TS):Prop:=
 ∀ (pins:List (Addr×Obj)) (s:Shared) (σ:St) (H:Hp) (D:Ends),Inv X pins σ H s→t D σ H→wpAny (model X.prog X.w) X.A (exec st X.env) (SP X pins D) X.xe s
def PSs (X:Cx) (st:List Stmt) (t:TS):Prop:=
 ∀ (pins:List (Addr×Obj)) (s:Shared) (σ:St) (H:Hp) (D:Ends),Inv X pins σ H s→t D σ H→wpAny (model X.prog X.w) X.A (execs st X.env) (SP X pins D) X.xe s
theorem thn {α:Type} {t:Sem α} {Q Q':α→Shared→Prop} {M:Model} {A:Around} {E:Value→Shared→Prop} {s:Shared} (h:wpAny M A t Q E s) (hQ:∀ a s,Q a s→Q' a s):wpAny M A t Q' E s:=wpAny_mono h hQ fun _ _ x=>x
end L2
namespace L2
open PySem PySem.Spec PyProof.Rows
section
variable {X:Cx}
def zyD (i:Nat):TE:=fun σ H Q=>∃ v,σ[i]? = some (some v)∧Q v H
def tC (v:V):TE:=fun _ H Q=>Q v H
theorem zok {i:Nat} {x:Str} {pos:Pos} (hN:X.N[i]? = some x) (hv:Vis X.env.scope x) (hd:(x==("__debug__":Str))=false:=by decide) (hcd:(x==("__classdict__":Str))=false:=by decide):PE X (.Name x pos) (zyD i):=by
 intro pins s σ H Q I h
 obtain ⟨v,e,h⟩:=h
 obtain ⟨m,hn,hl⟩:=I.loc
 obtain ⟨u,r,l⟩:=hl i x v hN e hv
 have fin:EP X pins σ Q u s:=⟨v,H,I,r,h⟩
 rcases l with ⟨hk,hm⟩ | ⟨hk,c,hc,hcell⟩
 ·exact wpAny_Name (wpAny_loadName_local I.ok.kind hk hn hm fin) hd
 ·rcases hk with hk | hk
  ·exact wpAny_Name (wpAny_loadName_cell I.ok.kind hk hc hcell fin) hd
  ·exact wpAny_Name (wpAny_loadName_free I.ok.kind hk hc hcell fin hcd) hd
theorem zFG {i j pos}:PE X (.Constant (.int i) j pos) (tC (.int i)):=fun _ _ _ H _ I h=>wpAny_Constant_int ⟨.int i,H,I.tok _,⟨_,rfl⟩,h⟩
theorem zIE {b j pos}:PE X (.Constant (.bool b) j pos) (tC (.bl b)):=fun _ _ _ H _ I h=>Constant_bool ⟨.bl b,H,I,rfl,h⟩
theorem zFH {j pos}:PE X (.Constant .none j pos) (tC .non):=fun _ _ _ H _ I h=>Constant_none ⟨.non,H,I,rfl,h⟩
theorem zFI {x j pos}:PE X (.Constant (.str x) j pos) (tC (.str x)):=fun _ _ _ H _ I h=>Calls.Constant_str ⟨.str x,H,I.tok _,⟨_,rfl⟩,h⟩
def Gl (X:Cx) (x:Str):Prop:=X.env.kindOf x=some .globalImplicit
theorem zvy {E:Value→Shared→Prop} {pins:List (Addr×Obj)} {s:Shared} {σ:St} {H:Hp} {x:Str} {u:Value} {pos:Pos} {Q:Value→Shared→Prop} (I:Inv X pins σ H s) (hg:Gl X x) (hm:X.mg x=some u) (h:Q u s)
  (hd:(x==("__debug__":Str))=false:=by decide):wpAny (model X.prog X.w) X.A (eval (.Name x pos) X.env) Q E s:=
 Calls.Name_function_global I.ok.kind hg (Calls.loadGlobal_global (by rw [I.ok.glob]; exact I.mod.glob.keeps I.bk) hm h) hd
theorem zub {E:Value→Shared→Prop} {pins:List (Addr×Obj)} {s:Shared} {σ:St} {H:Hp} {x:Str} {u:Value} {pos:Pos} {Q:Value→Shared→Prop} (I:Inv X pins σ H s) (hg:Gl X x) (hm:X.mg x=none) (hv:bootBuiltins x=some u) (h:Q u s)
  (hn:x≠"__name__":=by decide) (hd:(x==("__debug__":Str))=false:=by decide):wpAny (model X.prog X.w) X.A (eval (.Name x pos) X.env) Q E s:=by
 obtain ⟨mb,h1,h2⟩:=I.mod.blt
 exact Calls.Name_function_global I.ok.kind hg (Calls.loadGlobal_builtin (by rw [I.ok.glob]; exact I.mod.glob.keeps I.bk) hm (by rw [I.ok.blt]; exact h1.keeps I.bk) ((h2 x hn).trans hv) h) hd
theorem zyL {x:Str} {v:V} {u:Value} {pos:Pos} (hg:Gl X x) (hm:X.mg x=some u) (r:RelV v u) (hd:(x==("__debug__":Str))=false:=by decide):PE X (.Name x pos) (tC v):=
 fun _ _ _ H _ I h=>zvy I hg hm ⟨v,H,I,r,h⟩ hd
theorem zDk {x:Str} {v:V} {u:Value} {pos:Pos} (hg:Gl X x) (hm:X.mg x=none) (hv:bootBuiltins x=some u) (r:RelV v u) (hn:x≠"__name__":=by decide) (hd:(x==("__debug__":Str))=false:=by decide):PE X (.Name x pos) (tC v):=
 fun _ _ _ H _ I h=>zub I hg hm hv ⟨v,H,I,r,h⟩ hn hd
variable {a b:Expr} {ta tb:TE} {pos:Pos}
def tB (t:TE):TT:=fun σ H Q=>t σ H fun x H1=>∃ c,x=.bl c∧Q c H1
theorem zFJ {e:Expr} {t:TE} (h:PE X e t) (he:∀ whole,isTrue e X.env whole=(do let v ← whole; standAt e.pos; holding [v] (truthy v)):=by intro _; rfl):PT X e (tB t):=by
 intro pins s σ H Q I hw
 refine isTrue_plain (thn (h pins s σ H _ I hw) fun v s1 ⟨x,H1,I1,r1,q1⟩=>?_) (he _)
 obtain ⟨d,rfl,q⟩:=q1
 cases r1
 exact wpAny_truthy_bool ⟨H1,I1,q⟩
variable {tA tB':TT} {ze5:List Expr}
def zJ9 (t u:TT):TT:=fun σ H Q=>t σ H fun c H1=>if c=true then u σ H1 Q else Q false H1
def tOr (t u:TT):TT:=fun σ H Q=>t σ H fun c H1=>if c=true then Q true H1 else u σ H1 Q
def zKa (t:TT):TT:=fun σ H Q=>t σ H fun c H1=>Q (!c) H1
theorem pw_and1 (ha:PT X a tA):PW X (.BoolOp .And [a] pos) tA:=by
 intro wh pins s σ H Q I h
 refine isTrue_and (thn (ha pins s σ H Q I h) fun c s1 e=>?_)
 cases c with
 | true=>exact isTrue_and_nil e
 | false=>exact e
theorem pw_or1 (ha:PT X a tA):PW X (.BoolOp .Or [a] pos) tA:=by
 intro wh pins s σ H Q I h
 refine isTrue_or (thn (ha pins s σ H Q I h) fun c s1 e=>?_)
 cases c with
 | false=>exact isTrue_or_nil e
 | true=>exact e
theorem pw_and (ha:PT X a tA) (hb:PW X (.BoolOp .And (b :: ze5) pos) tB'):PW X (.BoolOp .And (a :: b :: ze5) pos) (zJ9 tA tB'):=by
 intro wh pins s σ H Q I h
 refine isTrue_and (thn (ha pins s σ H _ I h) fun c s1 ⟨H1,I1,q1⟩=>?_)
 cases c with
 | true=>exact hb wh pins s1 σ H1 Q I1 q1
 | false=>exact ⟨H1,I1,q1⟩
theorem pw_or (ha:PT X a tA) (hb:PW X (.BoolOp .Or (b :: ze5) pos) tB'):PW X (.BoolOp .Or (a :: b :: ze5) pos) (tOr tA tB'):=by
 intro wh pins s σ H Q I h
 refine isTrue_or (thn (ha pins s σ H _ I h) fun c s1 ⟨H1,I1,q1⟩=>?_)
 cases c with
 | true=>exact ⟨H1,I1,q1⟩
 | false=>exact hb wh pins s1 σ H1 Q I1 q1
theorem zFK (ha:PT X a tA):PT X (.UnaryOp .Not a pos) (zKa tA):=by
 intro pins s σ H Q I h
 exact isTrue_not (ha pins s σ H (fun c H1=>Q (!c) H1) I h)
def zFL (ta tb:TE):TE:=fun σ H Q=>ta σ H fun x H1=>∃ c,x=.bl c∧if c=true then tb σ H1 Q else Q (.bl false) H1
def zKb (ta tb:TE):TE:=fun σ H Q=>ta σ H fun x H1=>∃ c,x=.bl c∧if c=true then Q (.bl true) H1 else tb σ H1 Q
def zFM (ta:TE):TE:=fun σ H Q=>ta σ H fun x H1=>∃ c,x=.bl c∧Q (.bl (!c)) H1
theorem zFN {op} {t:TE} (h:PE X a t):PE X (.BoolOp op [a] pos) t:=fun pins s σ H Q I hw=>BoolOp_one (h pins s σ H Q I hw)
theorem zFO (ha:PE X a ta) (hb:PE X (.BoolOp .And (b :: ze5) pos) tb):PE X (.BoolOp .And (a :: b :: ze5) pos) (zFL ta tb):=by
 intro pins s σ H Q I h
 refine BoolOp_and (thn (ha pins s σ H _ I h) fun v s1 ⟨x,H1,I1,r1,q1⟩=>?_)
 obtain ⟨c,rfl,q1⟩:=q1
 cases r1
 refine wpAny_truthy_bool ?_
 cases c with
 | true=>exact hb pins s1 σ H1 Q I1 q1
 | false=>exact ⟨.bl false,H1,I1,rfl,q1⟩
theorem zIF (ha:PE X a ta) (hb:PE X (.BoolOp .Or (b :: ze5) pos) tb):PE X (.BoolOp .Or (a :: b :: ze5) pos) (zKb ta tb):=by
 intro pins s σ H Q I h
 refine BoolOp_or (thn (ha pins s σ H _ I h) fun v s1 ⟨x,H1,I1,r1,q1⟩=>?_)
 obtain ⟨c,rfl,q1⟩:=q1
 cases r1
 refine wpAny_truthy_bool ?_
 cases c with
 | false=>exact hb pins s1 σ H1 Q I1 q1
 | true=>exact ⟨.bl true,H1,I1,rfl,q1⟩
theorem zFP (ha:PE X a ta):PE X (.UnaryOp .Not a pos) (zFM ta):=by
 intro pins s σ H Q I h
 refine UnaryOp_ (thn (ha pins s σ H _ I h) fun v s1 ⟨x,H1,I1,r1,q1⟩=>?_)
 obtain ⟨c,rfl,q1⟩:=q1
 cases r1
 exact not_of (wpAny_truthy_bool ⟨.bl (!c),H1,I1,rfl,q1⟩)
end
end L2
namespace L2
open PySem PySem.Spec PyProof.Rows
def SqL (K:W.Frag) (H:Hp) (a:Addr) (xs:List V):Prop:=
 Rd H a (.lst xs)∨
  ∃ (o:Obj) (its:Array Value) (n:Nat),K.lookup a=some o∧o.cls=.type "list"∧o.dict=none∧o.data=.seq its n∧its.size≤sizeLine∧Vals xs its.toList
def SqT (K:W.Frag) (H:Hp) (a:Addr) (xs:List V):Prop:=
 Rd H a (.tup xs)∨
  ∃ (o:Obj) (its:Array Value) (n:Nat),K.lookup a=some o∧o.cls=.type "tuple"∧o.data=.seq its n∧its.size≤sizeLine∧Vals xs its.toList
def zK5:Value→Option V
 | .none=>some .non
 | .bool b=>some (.bl b)
 | .int i _=>some (.int i)
 | .str x _=>some (.str x)
 | .bytes b _=>some (.byt b)
 | .float b _=>some (.flt b)
 | .ref a=>some (.ref a)
 | .type n=>some (.ty n)
 | _=>none
theorem RelV.abs {x:V} {u:Value} (r:RelV x u):zK5 u=some x:=by
 cases x with
 | non=>cases r; rfl
 | bl _=>cases r; rfl
 | int _=>obtain ⟨t,rfl⟩:=r; rfl
 | str _=>obtain ⟨t,rfl⟩:=r; rfl
 | byt _=>obtain ⟨t,rfl⟩:=r; rfl
 | flt _=>obtain ⟨t,rfl⟩:=r; rfl
 | ref _=>cases r; rfl
 | ty _=>cases r; rfl
theorem RelV.inj {x y:V} {u:Value} (r:RelV x u) (q:RelV y u):x=y:=Option.some.inj (r.abs.symm.trans q.abs)
theorem Vals.inj:∀ {xs ys:List V} {us:List Value},Vals xs us→Vals ys us→xs=ys
 | _,_,_,.nil,.nil=>rfl
 | _,_,_,.cons r t,.cons r' t'=>by rw [r.inj r',Vals.inj t t']
section
variable {X:Cx} {pins:List (Addr×Obj)} {σ:St} {H:Hp} {s:Shared} {a:Addr} {xs ys:List V}
theorem Inv.list (I:Inv X pins σ H s) (h:SqL X.K H a xs):∃ its:List Value,Vals xs its∧PlainL s.heap a its.toArray∧xs.length≤sizeLine:=by
 rcases h with h | ⟨o,its,n,hk,hc,hd,hs,hz,r⟩
 ·obtain ⟨z,its,n,r,e⟩:=h.ok I.hok
  exact ⟨its,r,⟨_,n,e,rfl,rfl,rfl⟩,z⟩
 ·refine ⟨its.toList,r,⟨o,n,I.kIn a o hk,hc,hd,by simpa using hs⟩,?_⟩
  have e:=r.length
  simp only [Array.length_toList] at e
  omega
theorem Inv.tuple (I:Inv X pins σ H s) (h:SqT X.K H a xs):∃ its:List Value,Vals xs its∧IsTup s.heap a its.toArray∧xs.length≤sizeLine:=by
 rcases h with h | ⟨o,its,n,hk,hc,hs,hz,r⟩
 ·obtain ⟨z,its,r,p⟩:=h.ok I.hok
  exact ⟨its,r,p,z⟩
 ·refine ⟨its.toList,r,⟨o,I.kIn a o hk,hc,n,by simpa using hs⟩,?_⟩
  have e:=r.length
  simp only [Array.length_toList] at e
  omega
theorem Inv.list_inj (I:Inv X pins σ H s) (h:SqL X.K H a xs) (h':SqL X.K H a ys):xs=ys:=by
 obtain ⟨its,r,⟨o,n,e,_,_,d⟩,_⟩:=I.list h
 obtain ⟨its',r',⟨o',n',e',_,_,d'⟩,_⟩:=I.list h'
 rw [e] at e'; cases e'
 rw [d] at d'
 injection d' with d1 _
 have:its=its':=by simpa using congrArg Array.toList d1
 subst this
 exact r.inj r'
theorem Inv.tuple_inj (I:Inv X pins σ H s) (h:SqT X.K H a xs) (h':SqT X.K H a ys):xs=ys:=by
 obtain ⟨its,r,⟨o,e,_,n,d⟩,_⟩:=I.tuple h
 obtain ⟨its',r',⟨o',e',_,n',d'⟩,_⟩:=I.tuple h'
 rw [e] at e'; cases e'
 rw [d] at d'
 injection d' with d1 _
 have:its=its':=by simpa using congrArg Array.toList d1
 subst this
 exact r.inj r'
end
abbrev Cx.wish (X:Cx) (E:Value→Shared→Prop):Cx:={ X with xe:=E }
abbrev Cx.nox (X:Cx):Cx:=X.wish fun _ _=>False
theorem Cx.Ok.wish {X:Cx} (ok:X.Ok) (E:Value→Shared→Prop):(X.wish E).Ok:=
 ⟨ok.mod,ok.kind,ok.glob,ok.blt,ok.above,ok.inj,ok.has,ok.cab,ok.hd,ok.frames,ok.stk,ok.exf,ok.bs,ok.bsz,ok.noex,ok.exfs,ok.funs,ok.frf⟩
theorem Cx.Ok.unwish {X:Cx} {E:Value→Shared→Prop} (ok:(X.wish E).Ok):X.Ok:=
 ⟨ok.mod,ok.kind,ok.glob,ok.blt,ok.above,ok.inj,ok.has,ok.cab,ok.hd,ok.frames,ok.stk,ok.exf,ok.bs,ok.bsz,ok.noex,ok.exfs,ok.funs,ok.frf⟩
section
variable {X:Cx} {pins:List (Addr×Obj)} {σ:St} {H:Hp} {s:Shared} {E:Value→Shared→Prop}
theorem Inv.wish (I:Inv X pins σ H s) (E:Value→Shared→Prop):Inv (X.wish E) pins σ H s:=⟨I.ok.wish E,I.os,I.bare,I.base,I.loc,I.cell,I.free,I.freeC,I.pin,I.hok,I.len⟩
theorem Inv.unwish (I:Inv (X.wish E) pins σ H s):Inv X pins σ H s:=⟨I.ok.unwish,I.os,I.bare,I.base,I.loc,I.cell,I.free,I.freeC,I.pin,I.hok,I.len⟩
theorem SP.unwish {D:Ends} {f:Flow} {s':Shared} (h:SP (X.wish E) pins D f s'):SP X pins D f s':=by
 cases f with
 | next=>obtain ⟨σ',H',I,q⟩:=h; exact ⟨σ',H',I.unwish,q⟩
 | brk=>obtain ⟨σ',H',I,q⟩:=h; exact ⟨σ',H',I.unwish,q⟩
 | cont=>obtain ⟨σ',H',I,q⟩:=h; exact ⟨σ',H',I.unwish,q⟩
 | ret u=>obtain ⟨v,σ',H',I,r,q⟩:=h; exact ⟨v,σ',H',I.unwish,r,q⟩
theorem PSs.nox {st:List Stmt} {t:TS} (h:PSs X.nox st t):PSs X st t:=fun pins s σ H D I hw=>
 wpAny_mono (h pins s σ H D (I.wish _) hw) (fun _ _ q=>q.unwish) fun _ _ z=>False.elim z
end
section
variable {X:Cx} {st:Stmt} {ze5:List Stmt} {t u:TS} {e:Expr} {te:TE} {pos:Pos}
def zFQ:TS:=fun D σ H=>D.nx σ H
def zKc (t u:TS):TS:=fun D σ H=>t { D with nx:=u D } σ H
theorem zDl:PSs X [] zFQ:=fun _ _ σ H _ I h=>wpAny_execs_nil ⟨σ,H,I,h⟩
theorem zBn (h1:PS X st t) (h2:PSs X ze5 u):PSs X (st :: ze5) (zKc t u):=by
 intro pins s σ H D I h
 refine wpAny_execs_cons (thn (h1 pins s σ H { D with nx:=u D } I h) fun f s1 q=>?_)
 cases f with
 | next=>
  obtain ⟨σ',H',I',q⟩:=q
  exact h2 pins s1 σ' H' D I' q
 | ret v=>exact q
 | brk=>exact q
 | cont=>exact q
theorem zDm (h1:PS X st t):PSs X [st] t:=by
 intro pins s σ H D I h
 refine wpAny_execs_cons (thn (h1 pins s σ H D I h) fun f s1 q=>?_)
 cases f with
 | next=>exact wpAny_execs_nil q
 | ret v=>exact q
 | brk=>exact q
 | cont=>exact q
theorem Inv.quiet {pins:List (Addr×Obj)} {σ:St} {H:Hp} {s:Shared} (I:Inv X pins σ H s):interactive X.env=false:=by simp [interactive,I.ok.kind]
def zxM (te:TE):TS:=fun D σ H=>te σ H fun _ H1=>D.nx σ H1
theorem zsn (he:PE X e te) (hs:swapsWith e none pos.line X.env=pure false:=by rfl):PS X (.Expr e pos) (zxM te):=by
 intro pins s σ H D I h
 exact wpAny_Expr_any (thn (he pins s σ H _ I h) fun v s1 ⟨x,H1,I1,r1,q1⟩=>⟨σ,H1,I1,q1⟩) I.quiet hs
def zIG (te:TE):TS:=fun D σ H=>te σ H D.rt
theorem zCB (he:PE X e te):PS X (.Return (some e) pos) (zIG te):=by
 intro pins s σ H D I h
 exact wpAny_Return_some (thn (he pins s σ H _ I h) fun v s1 ⟨x,H1,I1,r1,q1⟩=>⟨x,σ,H1,I1,r1,q1⟩)
def zKd (c:TT) (t u:TS):TS:=fun D σ H=>c σ H fun b H1=>if b=true then t D σ H1 else u D σ H1
theorem zIH {c:Expr} {a b:List Stmt} {tc:TT} (hc:PT X c tc) (ha:PSs X a t) (hb:PSs X b u):PS X (.If c a b pos) (zKd tc t u):=by
 intro pins s σ H D I h
 refine wpAny_If (thn (hc pins s σ H _ I h) fun d s1 ⟨H1,I1,q1⟩=>?_)
 cases d with
 | true=>exact ha pins s1 σ H1 D I1 q1
 | false=>exact hb pins s1 σ H1 D I1 q1
def zCC:TS:=fun _ _ _=>False
theorem zBo:PS X st zCC:=fun _ _ _ _ _ _ h=>h.elim
end
abbrev TG:=V→St→Hp→(St→Hp→Prop)→Prop
abbrev TGs:=List V→St→Hp→(St→Hp→Prop)→Prop
def PG (X:Cx) (target:Expr) (t:TG):Prop:=
 ∀ (pins:List (Addr×Obj)) (s:Shared) (σ:St) (H:Hp) (v:V) (u:Value) (Q:St→Hp→Prop),Inv X pins σ H s→RelV v u→t v σ H Q→
  wpAny (model X.prog X.w) X.A (assign target X.env u) (fun _ s'=>∃ σ' H',Inv X pins σ' H' s'∧Q σ' H') X.xe s
def PGs (X:Cx) (ts:List Expr) (t:TGs):Prop:=
 ∀ (pins:List (Addr×Obj)) (s:Shared) (σ:St) (H:Hp) (vs:List V) (us:List Value) (Q:St→Hp→Prop),Inv X pins σ H s→Vals vs us→t vs σ H Q→
  wpAny (model X.prog X.w) X.A (assignInOrder ((assignEach ts X.env).map (·.2)) us) (fun _ s'=>∃ σ' H',Inv X pins σ' H' s'∧Q σ' H') X.xe s
section
variable {X:Cx} {pos:Pos}
def zyM (i:Nat):TG:=fun v σ H Q=>Q (σ.set i (some v)) H
theorem zDn {i:Nat} {x:Str} (hN:X.N.Nodup) (hi:X.N[i]? = some x) (hx:Loc X.env.scope x) (hf:X.fn x=true∨X.env.scope.names.lookup x=some .local:=by first | exact .inl rfl | exact .inr rfl | assumption):PG X (.Name x pos) (zyM i):=by
 intro pins s σ H v u Q I r h
 exact wpAny_assign_Name (zxd I hN hi hx r (fun s' I'=>⟨_,H,I',h⟩) hf)
def zKe:TGs:=fun vs σ H Q=>vs=[]∧Q σ H
def zFR (t:TG) (u:TGs):TGs:=fun vs σ H Q=>∃ v r,vs=v :: r∧t v σ H fun σ' H'=>u r σ' H' Q
theorem zDo:PGs X [] zKe:=by
 intro pins s σ H vs us Q I r h
 obtain ⟨e,h⟩:=h
 subst e
 cases r
 exact assignInOrder_nil ⟨σ,H,I,h⟩
theorem zBp {e:Expr} {es:List Expr} {t:TG} {u:TGs} (h1:PG X e t) (h2:PGs X es u)
  (hs:(assignEach (e :: es) X.env).map (·.2)=assign e X.env :: (assignEach es X.env).map (·.2):=by rfl):PGs X (e :: es) (zFR t u):=by
 intro pins s σ H vs us Q I r h
 obtain ⟨v,vr,e1,h⟩:=h
 subst e1
 cases r with
 | cons r rr=>
  rw [hs]
  refine assignInOrder_cons (thn (h1 pins s σ H _ _ _ I r h) fun _ s1 ⟨σ1,H1,I1,q1⟩=>?_)
  exact h2 pins s1 σ1 H1 _ _ Q I1 rr q1
def zII (K:W.Frag) (n:Nat) (t:TGs):TG:=fun v σ H Q=>∃ a xs,v=.ref a∧SqT K H a xs∧xs.length=n∧t xs σ H Q
theorem zFS {es:List Expr} {k:Nat} {t:TGs} {n:Nat} (hc:X.calm=true) (h:PGs X es t)
  (hn:(assignEach es X.env).length=n:=by rfl) (hst:(assignEach es X.env).findIdx? (·.1)=none:=by rfl):PG X (.Tuple es k pos) (zII X.K n t):=by
 intro pins s σ H v u Q I r hw
 obtain ⟨a,xs,e1,hq,hl,hw⟩:=hw
 subst e1
 cases r
 obtain ⟨its,rv,ht,hz⟩:=I.tuple hq
 refine assign_Tuple_tuple (I.ok.hd hc) ht (by simp [hn,← hl,rv.length]) hst fun h' hx=>?_
 have I1:Inv X pins σ H { s with heap:=h' }:=I.kept (t':=s.toks) fun b o e=>hx b o (Nat.ne_of_lt (Heap.lt_size e)) e
 exact h pins _ σ H xs _ Q I1 (by simpa using rv) hw
def zFT (te:TE) (g:TG):TS:=fun D σ H=>te σ H fun x H1=>g x σ H1 D.nx
theorem zFU {tg e:Expr} {te:TE} {g:TG} (he:PE X e te) (hg:PG X tg g) (hs:swapsWithSole [tg] e pos.line X.env=pure false:=by rfl) (hw:swappedStores [tg] e X.env=pure none:=by rfl)
  (h1:(assignEach [tg] X.env).map (·.2)=[assign tg X.env]:=by rfl):PS X (.Assign [tg] e pos) (zFT te g):=by
 intro pins s σ H D I h
 refine wpAny_Assign_stores (thn (he pins s σ H _ I h) fun v s1 ⟨x,H1,I1,r1,q1⟩=>?_) hs hw
 rw [h1]
 exact thn (hg pins s1 σ H1 x v _ I1 r1 q1) fun _ s2 q=>q
theorem zFV {i:Nat} {x:Str} {e:Expr} {te:TE} {pos':Pos} (hN:X.N.Nodup) (hi:X.N[i]? = some x) (hx:Loc X.env.scope x) (he:PE X e te) (hs:swapsWith e (some (.Name x pos')) pos.line X.env=pure false:=by rfl) (hf:X.fn x=true∨X.env.scope.names.lookup x=some .local:=by first | exact .inl rfl | exact .inr rfl | assumption) :
  PS X (.Assign [.Name x pos'] e pos) (zFT te (zyM i)):=by
 intro pins s σ H D I h
 refine wpAny_Assign_Name (thn (he pins s σ H _ I h) fun v s1 ⟨y,H1,I1,r1,q1⟩=>?_) hs
 exact zxd I1 hN hi hx r1 (fun s2 I2=>⟨_,H1,I2,q1⟩) hf
end
section
variable {X:Cx} {pos:Pos}
def zCD (c:TT) (tb:TS):TS:=fun D σ H=>∃ W:Nat→St→Hp→Prop,(∃ m,W m σ H)∧∀ m σ H,W m σ H→
 c σ H fun b H1=>if b=true then ∃ N:St→Hp→Prop,(∀ σ' H',N σ' H'→∃ m',m' < m∧W m' σ' H')∧tb { D with nx:=N,ct:=N,bk:=D.nx } σ H1 else D.nx σ H1
theorem zBq {c:Expr} {body:List Stmt} {tc:TT} {tb:TS} (hp:PassesOwn (model X.prog X.w) X.A X.env X.xe) (hc:PT X c tc) (hb:PSs X body tb):PS X (.While c body [] pos) (zCD tc tb):=by
 intro pins s σ H D I h
 obtain ⟨W,⟨m0,w0⟩,turn⟩:=h
 refine wpAny_While (codeAny_whileLoop (fun n s'=>∃ σ' H',Inv X pins σ' H' s'∧W n σ' H') ?_ m0 ⟨σ,H,I,w0⟩)
 rintro n s1 ⟨σ1,H1,I1,w1⟩
 refine wpAny_passesOwn hp (thn (hc pins s1 σ1 H1 _ I1 (turn n σ1 H1 w1)) fun b s2 ⟨H2,I2,q2⟩=>?_)
 cases b with
 | true=>
  obtain ⟨N,hN,q2⟩:=q2
  rw [if_pos rfl]
  refine wpAny_passesOwn hp (thn (hb pins s2 σ1 H2 _ I2 q2) fun f s3 q3=>?_)
  cases f with
  | next=>
   obtain ⟨σ3,H3,I3,n3⟩:=q3
   obtain ⟨m',hm,w3⟩:=hN σ3 H3 n3
   exact ⟨m',hm,σ3,H3,I3,w3⟩
  | cont=>
   obtain ⟨σ3,H3,I3,n3⟩:=q3
   obtain ⟨m',hm,w3⟩:=hN σ3 H3 n3
   exact ⟨m',hm,σ3,H3,I3,w3⟩
  | brk=>exact q3
  | ret v=>exact q3
 | false=>
  rw [if_neg Bool.false_ne_true]
  exact wpAny_execs_nil ⟨σ1,H2,I2,q2⟩
end
structure It where
 go:Nat→Hp→Prop
 yld:Nat→Hp→V→Hp→Prop
 stop:Nat→Hp→Prop
def zBr (X:Cx) (pins:List (Addr×Obj)) (H:Hp) (b:Addr):Prop:=
 H b=none∧b≠X.env.locals∧b∉X.fs∧(b∈X.ex∨X.s₀.heap.objs.size≤b)∧(∀ x c,X.env.cells.lookup x=some c→c≠b)∧∀ p∈X.pn++pins,p.1≠b
theorem Inv.fpOk {X:Cx} {pins:List (Addr×Obj)} {σ:St} {H H':Hp} {s:Shared} {b:Addr} (I:Inv X pins σ H s) (hb:s.heap.objs.size≤b) (hn:H' b=none):zBr X pins H' b:=by
 refine ⟨hn,Nat.ne_of_gt (Nat.lt_of_lt_of_le I.lt hb),I.nofs hb,.inr (Nat.le_trans I.sz hb),fun x c e z=>?_,fun p hp z=>?_⟩
 ·obtain ⟨v,q⟩:=I.cell x c e
  exact absurd (Nat.lt_of_lt_of_le q.lt (by rw [z]; exact hb)) (Nat.lt_irrefl _)
 ·exact absurd (Nat.lt_of_lt_of_le (Heap.lt_size (I.pin p hp).1) (by rw [z]; exact hb)) (Nat.lt_irrefl _)
structure Turn (P:Program) (w:World) (K:W.Frag) (tg:Expr) (J:It) (fp:List Addr) (it:Addr) (tn:Nat→Heap→Prop):Prop where
 mem:it∈fp
 obj:∀ i h,tn i h→∀ b∈fp,∃ o,h.get? b=some o∧∀ v,o.data≠.cell v
 keep:∀ i h h',tn i h→(∀ b∈fp,∀ o,h.get? b=some o→h'.get? b=some o)→tn i h'
 item:∀ (X:Cx),X.prog=P→X.w=w→X.K=K→X.calm=true→∀ (i:Nat) (pins:List (Addr×Obj)) (s:Shared) (σ:St) (H:Hp) (E:Value→Shared→Prop),Inv X pins σ H s→(∀ b∈fp,zBr X pins H b)→tn i s.heap→J.go i H→
  wpAny (model P w) X.A (pyNext (.ref it)) (fun r s1=>∃ u,r=some u∧
   wpAny (model P w) X.A (letOwnedTupleGo tg (.ref it) u) (fun _ s2=>∃ x H',Inv X pins σ H' s2∧RelV x u∧J.yld i H x H'∧tn (i+1) s2.heap∧∀ b∈fp,H' b=none) E s1) E s
 done:∀ (X:Cx),X.prog=P→X.w=w→X.K=K→X.calm=true→∀ (i:Nat) (pins:List (Addr×Obj)) (s:Shared) (σ:St) (H:Hp) (E:Value→Shared→Prop),Inv X pins σ H s→(∀ b∈fp,zBr X pins H b)→tn i s.heap→J.stop i H→
  wpAny (model P w) X.A (pyNext (.ref it)) (fun r s1=>r=none∧Inv X pins σ H s1) E s
 self:∀ (A:Around) (i:Nat) (s:Shared) (Q:Value→Shared→Prop) (E:Value→Shared→Prop),tn i s.heap→Q (.ref it) s→wpAny (model P w) A (pyIter (.ref it)) Q E s
abbrev TI:=St→Hp→(It→Hp→Prop)→Prop
def PIE (X:Cx) (pins:List (Addr×Obj)) (σ:St) (tg:Expr) (R:It→Hp→Prop) (itv:Value) (s2:Shared):Prop:=
 ∃ (it:Addr) (fp:List Addr) (tn:Nat→Heap→Prop) (J:It) (H':Hp),itv=.ref it∧Inv X pins σ H' s2∧Turn X.prog X.w X.K tg J fp it tn∧tn 0 s2.heap∧(∀ b∈fp,zBr X pins H' b)∧R J H'
def PI (X:Cx) (tg iter:Expr) (wi:TI):Prop:=
 ∀ (pins:List (Addr×Obj)) (s:Shared) (σ:St) (H:Hp) (R:It→Hp→Prop),Inv X pins σ H s→wi σ H R→
  wpAny (model X.prog X.w) X.A (eval iter X.env) (fun v s1=>wpAny (model X.prog X.w) X.A (pyIter v) (PIE X pins σ tg R) X.xe s1) X.xe s
theorem zBs {M : Model} {A : Around} {E : Value → Shared → Prop} {s : Shared} {tg : Expr} {it : Addr} {u : Value} {o : Obj} {n : String} {vs : Array Value} {Q : Unit → Shared → Prop} (ho : s.heap.get? it = some o) (hc : o.cls = .type n) (hd : o.data = .fields vs)
    (hn : ["enumerate", "zip", "dict_itemiterator", "dict_reverseitemiterator", "odict_iterator", "itertools.zip_longest", "itertools.pairwise"].contains n = false) (hQ : Q () s) : wpAny M A (letOwnedTupleGo tg (.ref it) u) Q E s := by
  unfold letOwnedTupleGo
  cases tg <;> first
    | exact wpAny_pure hQ
    | (cases u <;> first
        | exact wpAny_pure hQ
        | (refine wpAny_bind (wpAny_load ho ?_)
           rw [hc, hd]
           show wpAny M A (if (["enumerate", "zip", "dict_itemiterator", "dict_reverseitemiterator", "odict_iterator", "itertools.zip_longest", "itertools.pairwise"].contains n && vs[0]? == some (rawInt _)) = true then _ else _) Q E s
           rw [if_neg (by intro h; rw [hn, Bool.false_and] at h; cases h)]
           exact wpAny_pure hQ))
def Itl (K:W.Frag) (a:Addr):It:=
 ⟨fun i H=>∃ xs x,SqL K H a xs∧xs[i]? = some x,fun i H x H'=>H'=H∧∀ xs,SqL K H a xs→xs[i]? = some x,fun i H=>∃ xs,SqL K H a xs∧xs.length≤i⟩
def Itt (K:W.Frag) (a:Addr):It:=
 ⟨fun i H=>∃ xs x,SqT K H a xs∧xs[i]? = some x,fun i H x H'=>H'=H∧∀ xs,SqT K H a xs→xs[i]? = some x,fun i H=>∃ xs,SqT K H a xs∧xs.length≤i⟩
def Itr (lo:Int) (n:Nat):It:=⟨fun i _=>i < n,fun i H x H'=>H'=H∧x=.int (lo+i),fun i _=>n≤i⟩
theorem zyN {P:Program} {w:World} {K:W.Frag} {tg:Expr} (a it:Addr):Turn P w K tg (Itl K a) [it] it (fun i h=>h.IsListIter it a i) where
 mem:=by simp
 obj:=fun i h st b hb=>by
  have e:b=it:=by simpa using hb
  subst e
  obtain ⟨o,e,c,d⟩:=st
  exact ⟨o,e,fun v z=>by rw [d] at z; cases z⟩
 keep:=fun i h h' st k=>st.at fun o e=>k it (by simp) o e
 item:=by
  intro X hP hw hK hc i pins s σ H E I hf st hg
  subst hP hw hK
  obtain ⟨xs,x,hq,hx⟩:=hg
  obtain ⟨its,rv,p,hz⟩:=I.list hq
  obtain ⟨u,hu,ru⟩:=rv.get hx
  obtain ⟨f0,f1,f2,f3,f4,f5⟩:=hf it (by simp)
  refine wpAny_pyNext_list_item st p.isList (x:=u) (by simpa using hu) fun h' st' sb=>?_
  have I1:Inv X pins σ H { s with heap:=h' }:=I.turned (t':=s.toks) (fun b o hb e=>(sb.2 b hb).trans e) f0 f1 f3 f4 f5
  obtain ⟨o,e,c,d⟩:=id st'
  exact ⟨u,rfl,zBs (s:={ s with heap:=h' }) e c d (by decide) ⟨x,H,I1,ru,⟨rfl,fun ys hy=>by rw [I.list_inj hy hq]; exact hx⟩,st',fun b hb=>(hf b hb).1⟩⟩
 done:=by
  intro X hP hw hK hc i pins s σ H E I hf st hg
  subst hP hw hK
  obtain ⟨xs,hq,hx⟩:=hg
  obtain ⟨its,rv,p,hz⟩:=I.list hq
  obtain ⟨f0,f1,f2,f3,f4,f5⟩:=hf it (by simp)
  have hl:=rv.length
  exact wpAny_pyNext_list_end (I.ok.hd hc) st p.isList (by simp; omega) fun h' eb=>⟨rfl,I.turned (t':=s.toks) (fun b o hb e=>eb b o hb e) f0 f1 f3 f4 f5⟩
 self:=fun _ _ _ _ _ st h=>wpAny_pyIter_listiter st h
theorem zxN {P:Program} {w:World} {K:W.Frag} {tg:Expr} (a it:Addr):Turn P w K tg (Itt K a) [it] it (fun i h=>h.IsTupleIter it a i) where
 mem:=by simp
 obj:=fun i h st b hb=>by
  have e:b=it:=by simpa using hb
  subst e
  obtain ⟨o,e,c,d⟩:=st
  exact ⟨o,e,fun v z=>by rw [d] at z; cases z⟩
 keep:=fun i h h' st k=>st.at fun o e=>k it (by simp) o e
 item:=by
  intro X hP hw hK hc i pins s σ H E I hf st hg
  subst hP hw hK
  obtain ⟨xs,x,hq,hx⟩:=hg
  obtain ⟨its,rv,p,hz⟩:=I.tuple hq
  obtain ⟨u,hu,ru⟩:=rv.get hx
  obtain ⟨f0,f1,f2,f3,f4,f5⟩:=hf it (by simp)
  refine wpAny_pyNext_tuple_item st (show s.heap.IsTuple a its.toArray from p) (x:=u) (by simpa using hu) fun h' st' sb=>?_
  have I1:Inv X pins σ H { s with heap:=h' }:=I.turned (t':=s.toks) (fun b o hb e=>(sb.2 b hb).trans e) f0 f1 f3 f4 f5
  obtain ⟨o,e,c,d⟩:=id st'
  exact ⟨u,rfl,zBs (s:={ s with heap:=h' }) e c d (by decide) ⟨x,H,I1,ru,⟨rfl,fun ys hy=>by rw [I.tuple_inj hy hq]; exact hx⟩,st',fun b hb=>(hf b hb).1⟩⟩
 done:=by
  intro X hP hw hK hc i pins s σ H E I hf st hg
  subst hP hw hK
  obtain ⟨xs,hq,hx⟩:=hg
  obtain ⟨its,rv,p,hz⟩:=I.tuple hq
  obtain ⟨f0,f1,f2,f3,f4,f5⟩:=hf it (by simp)
  have hl:=rv.length
  exact wpAny_pyNext_tuple_end (I.ok.hd hc) st (show s.heap.IsTuple a its.toArray from p) (by simp; omega) fun h' eb=>⟨rfl,I.turned (t':=s.toks) (fun b o hb e=>eb b o hb e) f0 f1 f3 f4 f5⟩
 self:=fun _ _ _ _ _ st h=>wpAny_pyIter_tupleiter st h
theorem zxO {P:Program} {w:World} {K:W.Frag} {tg:Expr} (it:Addr) (lo:Int) (n:Nat):Turn P w K tg (Itr lo n) [it] it (fun i h=>IsRangeIter h it (lo+(i:Nat)*1) ((n:Int)-(i:Nat)) 1) where
 mem:=by simp
 obj:=fun i h st b hb=>by
  have e:b=it:=by simpa using hb
  subst e
  exact ⟨_,st,fun v z=>by
   have z':Data.fields _=Data.cell v:=z
   cases z'⟩
 keep:=fun i h h' st k=>k it (by simp) _ st
 item:=by
  intro X hP hw hK hc i pins s σ H E I hf st hg
  subst hP hw hK
  obtain ⟨f0,f1,f2,f3,f4,f5⟩:=hf it (by simp)
  have W:=Walks.range (prog:=X.prog) (w:=X.w) (I.ok.hd hc) it lo 1 n
  refine W.item i s _ _ hg st fun v h' tk hv st' kk=>?_
  obtain ⟨t,rfl⟩:=hv
  have I1:Inv X pins σ H { s with heap:=h',toks:=tk }:=I.turned (fun b o hb e=>kk b o (by simpa using hb) e) f0 f1 f3 f4 f5
  refine ⟨_,rfl,zBs (s:={ s with heap:=h',toks:=tk }) (n:="range_iterator") st' rfl rfl (by decide) ⟨.int (lo+i),H,I1,⟨t,?_⟩,⟨rfl,rfl⟩,st',fun b hb=>(hf b hb).1⟩⟩
  rw [Int.mul_one]
 done:=by
  intro X hP hw hK hc i pins s σ H E I hf st hg
  subst hP hw hK
  obtain ⟨f0,f1,f2,f3,f4,f5⟩:=hf it (by simp)
  exact wpAny_pyNext_range_end (I.ok.hd hc) st (by have:n≤i:=hg; omega) fun h' eb=>⟨rfl,I.turned (t':=s.toks) (fun b o hb e=>eb b o hb e) f0 f1 f3 f4 f5⟩
 self:=fun _ _ _ _ _ st h=>wpAny_pyIter_rangeiter st h
end L2
namespace L2
open PySem PySem.Spec PyProof.Rows
section
variable {X:Cx} {tg:Expr}
def zFW (K:W.Frag) (tl:TE):TI:=fun σ H R=>tl σ H fun x H1=>∃ a,x=.ref a∧(∃ xs,SqL K H1 a xs)∧R (Itl K a) H1
def zKf (K:W.Frag) (tl:TE):TI:=fun σ H R=>tl σ H fun x H1=>∃ a,x=.ref a∧(∃ xs,SqT K H1 a xs)∧R (Itt K a) H1
theorem zDp {l:Expr} {tl:TE} (hl:PE X l tl):PI X tg l (zFW X.K tl):=by
 intro pins s σ H R I h
 refine thn (hl pins s σ H _ I h) fun v s1 ⟨x,H1,I1,r1,q1⟩=>?_
 obtain ⟨a,e,⟨xs,hq⟩,q⟩:=q1
 subst e
 cases r1
 obtain ⟨its,rv,p,hz⟩:=I1.list hq
 refine wpAny_pyIter_list p.isList ?_
 refine ⟨s1.heap.objs.size,[s1.heap.objs.size],_,_,H1,rfl,I1.kept (t':=s1.toks) fun b o e=>Heap.get?_push_of_some _ e,zyN a _,⟨_,Heap.get?_push_size _ rfl,rfl,rfl⟩,fun b hb=>?_,q⟩
 have e:b=s1.heap.objs.size:=by simpa using hb
 subst e
 exact I1.fpOk (Nat.le_refl _) (I1.hok.fresh (Nat.le_refl _))
theorem zFX {l:Expr} {tl:TE} (hl:PE X l tl):PI X tg l (zKf X.K tl):=by
 intro pins s σ H R I h
 refine thn (hl pins s σ H _ I h) fun v s1 ⟨x,H1,I1,r1,q1⟩=>?_
 obtain ⟨a,e,⟨xs,hq⟩,q⟩:=q1
 subst e
 cases r1
 obtain ⟨its,rv,p,hz⟩:=I1.tuple hq
 refine wpAny_pyIter_tuple (show s1.heap.IsTuple a its.toArray from p) ?_
 refine ⟨s1.heap.objs.size,[s1.heap.objs.size],_,_,H1,rfl,I1.kept (t':=s1.toks) fun b o e=>Heap.get?_push_of_some _ e,zxN a _,⟨_,Heap.get?_push_size _ rfl,rfl,rfl⟩,fun b hb=>?_,q⟩
 have e:b=s1.heap.objs.size:=by simpa using hb
 subst e
 exact I1.fpOk (Nat.le_refl _) (I1.hok.fresh (Nat.le_refl _))
theorem zxe {pins:List (Addr×Obj)} {σ:St} {H:Hp} {s:Shared} {R:It→Hp→Prop} {E:Value→Shared→Prop} {lo hi:Int} {t u v:Tok} {tk:Nat} (I:Inv X pins σ H s) (h1:-(2 ^ 62)≤lo) (h2:lo < 2 ^ 62) (h3:-(2 ^ 62)≤hi) (h4:hi < 2 ^ 62)
  (q:R (Itr lo (hi-lo).toNat) H):wpAny (model X.prog X.w) X.A (pyIter (.ref s.heap.objs.size)) (PIE X pins σ tg R) E { s with heap:=s.heap.push { cls:=.type "range",data:=.fields #[.int lo t,.int hi u,.int 1 v] },toks:=tk }:=by
 refine wpAny_pyIter_range (IsRange.new ..) (small_one h1 h2 h3 h4) ?_
 have I1:Inv X pins σ H { s with heap:=s.heap.push { cls:=.type "range",data:=.fields #[.int lo t,.int hi u,.int 1 v] },toks:=tk }:=I.kept fun b o e=>Heap.get?_push_of_some _ e
 refine ⟨(s.heap.push { cls:=.type "range",data:=.fields #[.int lo t,.int hi u,.int 1 v] }).objs.size,[(s.heap.push { cls:=.type "range",data:=.fields #[.int lo t,.int hi u,.int 1 v] }).objs.size],_,_,H,rfl,
  I1.kept (t':=tk) fun b o e=>Heap.get?_push_of_some _ e,zxO _ lo (hi-lo).toNat,?_,fun b hb=>?_,q⟩
 ·have e1:lo+((0:Nat):Int)*1=lo:=by simp
  have e2:(((hi-lo).toNat:Nat):Int)-((0:Nat):Int)=Builtin.Range.rangeSize lo hi 1:=by rw [rangeSize_one]; split <;> omega
  show IsRangeIter _ _ (lo+((0:Nat):Int)*1) ((((hi-lo).toNat:Nat):Int)-((0:Nat):Int)) 1
  rw [e1,e2]
  exact Heap.get?_push_size _ rfl
 ·have e:b=(s.heap.push { cls:=.type "range",data:=.fields #[.int lo t,.int hi u,.int 1 v] }).objs.size:=by simpa using hb
  subst e
  exact I1.fpOk (Nat.le_refl _) (I1.hok.fresh (Nat.le_refl _))
def zDq (ta:TA):TI:=fun σ H R=>ta σ H fun vs H1=>∃ j:Int,vs=[.int j]∧-(2 ^ 62)≤j∧j < 2 ^ 62∧R (Itr 0 j.toNat) H1
def zDr (ta:TA):TI:=fun σ H R=>ta σ H fun vs H1=>∃ i j:Int,vs=[.int i,.int j]∧(-(2 ^ 62)≤i∧i < 2 ^ 62∧-(2 ^ 62)≤j∧j < 2 ^ 62)∧R (Itr i (j-i).toNat) H1
theorem zyO {a:Expr} {ta:TA} {p pos:Pos} (hg:Gl X "range") (hm:X.mg "range"=none) (ha:PA X [a] ta) (hs:starEach [a] X.env=[(false,eval a X.env)]:=by rfl):PI X tg (.Call (.Name "range" p) [a] [] pos) (zDq ta):=by
 intro pins s σ H R I h
 refine Call_ (zub I hg hm boot_range (PyProof.Rows.callWith_type1 (thn (ha pos pins s σ H _ I h) fun us s1 ⟨vs,H1,I1,r1,q1⟩=>?_) hs rfl))
 obtain ⟨j,e,q1,q2,q⟩:=q1
 subst e
 cases r1 with
 | cons r rr=>
  cases rr
  obtain ⟨t,rfl⟩:=r
  exact call_range_1 (zxe I1 (by omega) (by omega) q1 q2 (by simpa using q))
theorem zyP {a b:Expr} {ta:TA} {p pos:Pos} (hg:Gl X "range") (hm:X.mg "range"=none) (ha:PA X [a,b] ta) (hs:starEach [a,b] X.env=[(false,eval a X.env),(false,eval b X.env)]:=by rfl) (hs2:starEach [b] X.env=[(false,eval b X.env)]:=by rfl) :
  PI X tg (.Call (.Name "range" p) [a,b] [] pos) (zDr ta):=by
 intro pins s σ H R I h
 refine Call_ (zub I hg hm boot_range (PyProof.Rows.callWith_type1 (thn (ha pos pins s σ H _ I h) fun us s1 ⟨vs,H1,I1,r1,q1⟩=>?_) (by rw [hs,hs2]) (by rw [hs2]; rfl)))
 obtain ⟨i,j,e,⟨q1,q2,q3,q4⟩,q⟩:=q1
 subst e
 cases r1 with
 | cons r rr=>
  cases rr with
  | cons r' rr=>
   cases rr
   obtain ⟨t,rfl⟩:=r
   obtain ⟨t',rfl⟩:=r'
   exact call_range_2 (zxe I1 q1 q2 q3 q4 q)
def zIJ (wi:TI) (g:TG) (tb:TS):TS:=fun D σ H=>wi σ H fun J H1=>∃ W:Nat→Nat→St→Hp→Prop,(∃ m,W 0 m σ H1)∧∀ i m σ H,W i m σ H→
 (J.stop i H∧D.nx σ H)∨(J.go i H∧∃ N:St→Hp→Prop,(∀ σ' H',N σ' H'→∃ m',m' < m∧W (i+1) m' σ' H')∧∀ x H',J.yld i H x H'→g x σ H' fun σ2 H2=>tb { D with nx:=N,ct:=N,bk:=D.nx } σ2 H2)
def zuc (fp:List Addr) (h:Heap):List (Addr×Obj):=fp.filterMap fun b=>(h.get? b).map fun o=>(b,o)
theorem zk8 {fp:List Addr} {h:Heap} {b:Addr} {o:Obj} (hb:b∈fp) (e:h.get? b=some o):(b,o)∈zuc fp h:=List.mem_filterMap.mpr ⟨b,hb,by rw [e]; rfl⟩
theorem zyQ {fp:List Addr} {h:Heap} {p:Addr×Obj} (hp:p∈zuc fp h):p.1∈fp∧h.get? p.1=some p.2:=by
 obtain ⟨b,hb,e⟩:=List.mem_filterMap.mp hp
 cases q:h.get? b with
 | none=>rw [q] at e; cases e
 | some o=>
  rw [q] at e
  have e':(b,o)=p:=Option.some.inj e
  subst e'
  exact ⟨hb,q⟩
theorem Inv.pinned {pins:List (Addr×Obj)} {σ:St} {H:Hp} {s:Shared} {fp:List Addr} (I:Inv X pins σ H s) (hf:∀ b∈fp,zBr X pins H b) (ho:∀ b∈fp,∃ o,s.heap.get? b=some o∧∀ v,o.data≠.cell v):Inv X (pins++zuc fp s.heap) σ H s:=
 I.pins_of fun p hp=>(List.mem_append.mp hp).elim (fun z=>I.pin p (List.mem_append_right _ z)) fun z=>by
  obtain ⟨hb,e⟩:=zyQ z
  obtain ⟨f0,f1,f2,_⟩:=hf p.1 hb
  obtain ⟨o,e',d⟩:=ho p.1 hb
  rw [e] at e'; cases e'
  exact ⟨e,f0,f1,f2,d⟩
theorem Inv.unpinned {pins pl:List (Addr×Obj)} {σ:St} {H:Hp} {s:Shared} (I:Inv X (pins++pl) σ H s):Inv X pins σ H s:=I.pins_of fun p hp=>I.pin p (List.mem_append_right _ (List.mem_append_left _ hp))
theorem zCE {iter:Expr} {body:List Stmt} {wi:TI} {g:TG} {tb:TS} {pos:Pos} (hp:PassesOwn (model X.prog X.w) X.A X.env X.xe) (hc:X.calm=true) (hi:PI X tg iter wi) (hg:PG X tg g) (hb:PSs X body tb)
  (hs:∀ x,foldedSetIterable iter X.env x=pure x:=by intro _; rfl):PS X (.For tg iter body [] pos) (zIJ wi g tb):=by
 intro pins s σ H D I h
 refine wpAny_For (thn (hi pins s σ H _ I h) fun v s1 h1=>thn h1 fun itv s2 h2=>?_) hs
 obtain ⟨it,fp,tn,J,H2,e,I2,T,st2,f2,W,⟨m0,w0⟩,turn⟩:=h2
 subst e
 -- what stays true of the iterator's objects through the loop
 have stat:∀ {H':Hp},(∀ b∈fp,H' b=none)→∀ b∈fp,zBr X pins H' b:=fun hn b hb=>⟨hn b hb,(f2 b hb).2⟩
 refine codeAny_forLoop_any (fun n s'=>∃ i σ' H',Inv X pins σ' H' s'∧tn i s'.heap∧(∀ b∈fp,H' b=none)∧W i n σ' H') ?_ m0 ⟨0,σ,H2,I2,st2,fun b hb=>(f2 b hb).1,w0⟩
 rintro n s3 ⟨i,σ3,H3,I3,st3,fr3,w3⟩
 rcases turn i n σ3 H3 w3 with ⟨stop,qn⟩ | ⟨go,N,hN,step⟩
 ·refine wpAny_passesOwn hp (thn (T.done X rfl rfl rfl hc i pins s3 σ3 H3 X.xe I3 (stat fr3) st3 stop) fun r s4 ⟨hr,I4⟩=>?_)
  subst hr
  exact wpAny_execs_nil ⟨σ3,H3,I4,qn⟩
 ·refine wpAny_passesOwn hp (thn (T.item X rfl rfl rfl hc i pins s3 σ3 H3 X.xe I3 (stat fr3) st3 go) fun r s4 ⟨u,hr,h4⟩=>?_)
  subst hr
  refine wpAny_passesOwn hp (thn h4 fun _ s5 ⟨x,H5,I5,r5,y5,st5,fr5⟩=>?_)
  have I5':=I5.pinned (stat fr5) (T.obj _ _ st5)
  refine wpAny_passesOwn hp (thn (hg _ s5 σ3 H5 x u _ I5' r5 (step x H5 y5)) fun _ s6 ⟨σ6,H6,I6,q6⟩=>?_)
  refine wpAny_passesOwn hp (thn (hb _ s6 σ6 H6 _ I6 q6) fun f s7 q7=>?_)
  have again:∀ {σ7:St} {H7:Hp},Inv X (pins++zuc fp s5.heap) σ7 H7 s7→N σ7 H7→∃ m,m < n∧∃ i σ' H',Inv X pins σ' H' s7∧tn i s7.heap∧(∀ b∈fp,H' b=none)∧W i m σ' H':=fun {σ7 H7} I7 n7=>by
   obtain ⟨m',hm,w7⟩:=hN σ7 H7 n7
   refine ⟨m',hm,i+1,σ7,H7,I7.unpinned,T.keep _ _ _ st5 fun b hb o e=>(I7.pin (b,o) (List.mem_append_right _ (List.mem_append_right _ (zk8 hb e)))).1,fun b hb=>?_,w7⟩
   obtain ⟨o,e,d⟩:=T.obj _ _ st5 b hb
   exact (I7.pin (b,o) (List.mem_append_right _ (List.mem_append_right _ (zk8 hb e)))).2.1
  cases f with
  | next=>obtain ⟨σ7,H7,I7,n7⟩:=q7; exact again I7 n7
  | cont=>obtain ⟨σ7,H7,I7,n7⟩:=q7; exact again I7 n7
  | brk=>obtain ⟨σ7,H7,I7,q7⟩:=q7; exact ⟨σ7,H7,I7.unpinned,q7⟩
  | ret v=>obtain ⟨x7,σ7,H7,I7,r7,q7⟩:=q7; exact ⟨x7,σ7,H7,I7.unpinned,r7,q7⟩
end
end L2
namespace L2
open PySem PySem.Spec PyProof.Rows
abbrev R2:=V→V→Hp→VK→Prop
def OpR (X:Cx) (f:Value→Value→Sem Value) (r:R2):Prop:=
 ∀ (pins:List (Addr×Obj)) (s:Shared) (σ:St) (H:Hp) (x y:V) (v u:Value) (Q:VK),Inv X pins σ H s→RelV x v→RelV y u→r x y H Q→
  wpAny (model X.prog X.w) X.A (f v u) (EP X pins σ Q) X.xe s
def UnR (X:Cx) (f:Value→Sem Value) (r:V→Hp→VK→Prop):Prop:=
 ∀ (pins:List (Addr×Obj)) (s:Shared) (σ:St) (H:Hp) (x:V) (v:Value) (Q:VK),Inv X pins σ H s→RelV x v→r x H Q→
  wpAny (model X.prog X.w) X.A (f v) (EP X pins σ Q) X.xe s
def CallR (X:Cx) (f:Value) (r:List V→Hp→VK→Prop):Prop:=
 ∀ (pins:List (Addr×Obj)) (s:Shared) (σ:St) (H:Hp) (xs:List V) (us:List Value) (Q:VK),Inv X pins σ H s→Vals xs us→r xs H Q→
  wpAny (model X.prog X.w) X.A (call f us) (EP X pins σ Q) X.xe s
def tOp (r:R2) (ta tb:TE):TE:=fun σ H Q=>ta σ H fun x H1=>tb σ H1 fun y H2=>r x y H2 Q
def tUn (r:V→Hp→VK→Prop) (ta:TE):TE:=fun σ H Q=>ta σ H fun x H1=>r x H1 Q
def rI (C:Int→Int→Prop) (g:Int→Int→V):R2:=fun x y H Q=>∃ i j,x=.int i∧y=.int j∧C i j∧Q (g i j) H
def rI0 (g:Int→Int→V):R2:=fun x y H Q=>∃ i j,x=.int i∧y=.int j∧Q (g i j) H
def rU (g:Int→V):V→Hp→VK→Prop:=fun x H Q=>∃ i,x=.int i∧Q (g i) H
section
variable {X:Cx} {a b c:Expr} {ta tb tc:TE} {pos:Pos}
theorem zIK (ha:PE X a ta) (hb:PE X b tb) {pins:List (Addr×Obj)} {s:Shared} {σ:St} {H:Hp} {R:V→V→Hp→Prop} (I:Inv X pins σ H s)
  (h:ta σ H fun x H1=>tb σ H1 fun y H2=>R x y H2) {Q:Value→Shared→Prop} {f:Value→Value→Sem Value}
  (hf:∀ v u s2 x y H2,Inv X pins σ H2 s2→RelV x v→RelV y u→R x y H2→wpAny (model X.prog X.w) X.A (f v u) Q X.xe s2) :
  wpAny (model X.prog X.w) X.A (eval a X.env) (fun v s₁=>wpAny (model X.prog X.w) X.A (eval b X.env) (fun u s₂=>wpAny (model X.prog X.w) X.A (f v u) Q X.xe s₂) X.xe s₁) X.xe s:=by
 refine thn (ha pins s σ H _ I h) fun v s1 ⟨x,H1,I1,r1,q1⟩=>?_
 refine thn (hb pins s1 σ H1 _ I1 q1) fun u s2 ⟨y,H2,I2,r2,q2⟩=>?_
 exact hf v u s2 x y H2 I2 r1 r2 q2
theorem zDs {op:Operator} {r:R2} (ho:OpR X (binaryOp op) r) (ha:PE X a ta) (hb:PE X b tb):PE X (.BinOp a op b pos) (tOp r ta tb):=by
 intro pins s σ H Q I h
 exact wpAny_BinOp (zIK ha hb I h fun v u s2 x y H2 I2 rx ry q=>ho pins s2 σ H2 x y v u Q I2 rx ry q)
theorem zIL {op:UnaryOp} {r:V→Hp→VK→Prop} (ho:UnR X (unaryOp op) r) (ha:PE X a ta):PE X (.UnaryOp op a pos) (tUn r ta):=by
 intro pins s σ H Q I h
 exact UnaryOp_ (thn (ha pins s σ H _ I h) fun v s1 ⟨x,H1,I1,r1,q1⟩=>ho pins s1 σ H1 x v Q I1 r1 q1)
theorem opI {f:Value→Value→Sem Value} {C:Int→Int→Prop} {g:Int→Int→Int}
  (rule:∀ (i j:Int) (t u:Tok) (s:Shared) (Q:Value→Shared→Prop) (E:Value→Shared→Prop),C i j→Q (.int (g i j) s.toks) { s with toks:=s.toks+1 }→wpAny (model X.prog X.w) X.A (f (.int i t) (.int j u)) Q E s) :
  OpR X f (rI C fun i j=>.int (g i j)):=by
 intro pins s σ H x y v u Q I rx ry h
 obtain ⟨i,j,rfl,rfl,hc,q⟩:=h
 obtain ⟨t,rfl⟩:=rx
 obtain ⟨t',rfl⟩:=ry
 exact rule i j t t' s _ _ hc ⟨.int (g i j),H,I.tok _,⟨_,rfl⟩,q⟩
theorem zIc {f:Value→Value→Sem Value} {g:Int→Int→Int}
  (rule:∀ (i j:Int) (t u:Tok) (s:Shared) (Q:Value→Shared→Prop) (E:Value→Shared→Prop),Q (.int (g i j) s.toks) { s with toks:=s.toks+1 }→wpAny (model X.prog X.w) X.A (f (.int i t) (.int j u)) Q E s) :
  OpR X f (rI0 fun i j=>.int (g i j)):=by
 intro pins s σ H x y v u Q I rx ry h
 obtain ⟨i,j,rfl,rfl,q⟩:=h
 obtain ⟨t,rfl⟩:=rx
 obtain ⟨t',rfl⟩:=ry
 exact rule i j t t' s _ _ ⟨.int (g i j),H,I.tok _,⟨_,rfl⟩,q⟩
theorem zId {f:Value→Value→Sem Value} {g:Int→Int→Bool}
  (rule:∀ (i j:Int) (t u:Tok) (s:Shared) (Q:Value→Shared→Prop) (E:Value→Shared→Prop),Q (.bool (g i j)) s→wpAny (model X.prog X.w) X.A (f (.int i t) (.int j u)) Q E s) :
  OpR X f (rI0 fun i j=>.bl (g i j)):=by
 intro pins s σ H x y v u Q I rx ry h
 obtain ⟨i,j,rfl,rfl,q⟩:=h
 obtain ⟨t,rfl⟩:=rx
 obtain ⟨t',rfl⟩:=ry
 exact rule i j t t' s _ _ ⟨.bl (g i j),H,I,rfl,q⟩
def zFY (i j:Int):Prop:=0≤j∧j≤1000000∧i.natAbs < 2 ^ 64
def CMul (i j:Int):Prop:=(-(2 ^ 64) < i∧i < 2 ^ 64)∨(-(2 ^ 64) < j∧j < 2 ^ 64)
theorem CMul.ok {i j:Int} (h:CMul i j):IntMulOk i j:=by
 rcases h with ⟨h1,h2⟩ | ⟨h1,h2⟩
 ·exact .of_left (intBits_le_64 h1 h2)
 ·exact .of_right (intBits_le_64 h1 h2)
theorem zFZ:OpR X (binaryOp .Add) (rI0 fun i j=>.int (i+j)):=zIc fun _ _ _ _ _ _ _ q=>add_int q
theorem zF0:OpR X (binaryOp .Sub) (rI0 fun i j=>.int (i-j)):=zIc fun _ _ _ _ _ _ _ q=>sub_int q
theorem zF1:OpR X (binaryOp .Mult) (rI CMul fun i j=>.int (i*j)):=opI fun _ _ _ _ _ _ _ hc q=>mul_int q hc.ok
theorem zcr:OpR X (binaryOp .Mod) (rI (fun _ j=>0 < j) fun i j=>.int (i%j)):=opI fun i j _ _ _ _ _ hc q=>by
 have h1:(0:Int) < j:=hc
 exact mod_int' (by omega) (by rw [Int.fmod_eq_emod_of_nonneg i (by omega)]; exact q)
theorem zCF:OpR X (binaryOp .LShift) (rI zFY fun i j=>.int (i*2 ^ j.toNat)):=opI fun _ _ _ _ _ _ _ hc q=>lshift_int_small hc.1 hc.2.1 hc.2.2 q
theorem zCG:OpR X (binaryOp .BitAnd) (rI0 fun i j=>.int (Builtin.bitAnd i j)):=zIc fun _ _ _ _ _ _ _ q=>and_int q
theorem zDt:OpR X (binaryOp .BitOr) (rI0 fun i j=>.int (Builtin.bitOr i j)):=zIc fun _ _ _ _ _ _ _ q=>or_int q
theorem unI {f:Value→Sem Value} {g:Int→Int}
  (rule:∀ (i:Int) (t:Tok) (s:Shared) (Q:Value→Shared→Prop) (E:Value→Shared→Prop),Q (.int (g i) s.toks) { s with toks:=s.toks+1 }→wpAny (model X.prog X.w) X.A (f (.int i t)) Q E s) :
  UnR X f (rU fun i=>.int (g i)):=by
 intro pins s σ H x v Q I rx h
 obtain ⟨i,rfl,q⟩:=h
 obtain ⟨t,rfl⟩:=rx
 exact rule i t s _ _ ⟨.int (g i),H,I.tok _,⟨_,rfl⟩,q⟩
theorem zF2:UnR X (unaryOp .USub) (rU fun i=>.int (-i)):=unI fun _ _ _ _ _ q=>neg_int q
end
section
variable {X:Cx} {a b c:Expr} {ta tb tc:TE} {pos:Pos}
theorem zCH {pins:List (Addr×Obj)} {σ:St} {H:Hp} {s:Shared} {Q:VK} {k k':Bool} (I:Inv X pins σ H s) (q:Q (.bl k) H) (e:k=k'):EP X pins σ Q (.bool k') s:=by
 subst e
 exact ⟨.bl k,H,I,rfl,q⟩
theorem zIM:OpR X (compareOp .Lt) (rI0 fun i j=>.bl (decide (i < j))):=zId fun _ _ _ _ _ _ _ q=>lt_int q
theorem zIN:OpR X (compareOp .LtE) (rI0 fun i j=>.bl (decide (i≤j))):=zId fun _ _ _ _ _ _ _ q=>le_int q
theorem zIO:OpR X (compareOp .Gt) (rI0 fun i j=>.bl (decide (j < i))):=zId fun _ _ _ _ _ _ _ q=>gt_int q
theorem zIP:OpR X (compareOp .GtE) (rI0 fun i j=>.bl (decide (j≤i))):=zId fun _ _ _ _ _ _ _ q=>ge_int q
theorem zyR:OpR X (compareOp .In) (fun x y H Q=>∃ i j,x=.str i∧y=.str j∧Q (.bl (!(Builtin.Str.occurrences j i 0 j.length 1).isEmpty)) H):=by
 intro pins s σ H x y v u Q I rx ry h
 obtain ⟨i,j,rfl,rfl,q⟩:=h
 obtain ⟨t,rfl⟩:=rx
 obtain ⟨t',rfl⟩:=ry
 exact in_str (zCH I q rfl)
theorem zF3:OpR X (compareOp .Is) (fun x y H Q=>y=.non∧Q (.bl (decide (x=.non))) H):=by
 intro pins s σ H x y v u Q I rx ry h
 obtain ⟨rfl,q⟩:=h
 cases ry
 refine is_none_gen (zCH I q ?_)
 cases x <;> first
  | (cases rx; rfl)
  | (obtain ⟨t,rfl⟩:=rx; rfl)
theorem OpR.or {f:Value→Value→Sem Value} {r r':R2} (h:OpR X f r) (h':OpR X f r'):OpR X f (fun x y H Q=>r x y H Q∨r' x y H Q):=by
 intro pins s σ H x y v u Q I rx ry q
 rcases q with q | q
 ·exact h pins s σ H x y v u Q I rx ry q
 ·exact h' pins s σ H x y v u Q I rx ry q
theorem zao (b:Expr) {op:CmpOp} (h:op≠.In:=by decide) (h2:op≠.NotIn:=by decide):behindInMarks op b=false:=by
 have e1:(op==CmpOp.In)=false:=by cases op <;> first | rfl | exact absurd rfl h
 have e2:(op==CmpOp.NotIn)=false:=by cases op <;> first | rfl | exact absurd rfl h2
 cases b <;> simp [behindInMarks,e1,e2]
theorem zDu {op:CmpOp} {r:R2} (ho:OpR X (compareOp op) r) (ha:PE X a ta) (hb:PE X b tb) (hm:behindInMarks op b=false):PE X (.Compare a [op] [b] pos) (tOp r ta tb):=by
 intro pins s σ H Q I h
 exact wpAny_Compare1 (zIK ha hb I h fun v u s2 x y H2 I2 rx ry q=>ho pins s2 σ H2 x y v u Q I2 rx ry q) hm
def zF4 (t:TE):TT:=fun σ H Q=>t σ H fun x H'=>∃ k,x=.bl k∧Q k H'
theorem zDv {op:CmpOp} {r:R2} (ho:OpR X (compareOp op) r) (ha:PE X a ta) (hb:PE X b tb) (hm:behindInMarks op b=false):PT X (.Compare a [op] [b] pos) (zF4 (tOp r ta tb)):=by
 intro pins s σ H Q I h
 refine wpAny_isTrue_Compare1 (thn (ha pins s σ H _ I h) fun v s1 ⟨x,H1,I1,r1,q1⟩=>thn (hb pins s1 σ H1 _ I1 q1) fun u s2 ⟨y,H2,I2,r2,q2⟩=>
  thn (ho pins s2 σ H2 x y v u _ I2 r1 r2 q2) fun c s3 ⟨z,H3,I3,r3,k,e,q3⟩=>?_) hm
 subst e
 cases r3
 exact wpAny_truthy_bool ⟨H3,I3,q3⟩
theorem zxf:(sizeLine:Nat) < 2 ^ 63:=by rw [sizeLine_eq]; decide
theorem zxP:OpR X (binaryOp .Add) (fun x y H Q=>∃ i j,x=.str i∧y=.str j∧i.length+j.length≤sizeLine∧Q (.str (i++j)) H):=by
 intro pins s σ H x y v u Q I rx ry h
 obtain ⟨i,j,rfl,rfl,hz,q⟩:=h
 obtain ⟨t,rfl⟩:=rx
 obtain ⟨t',rfl⟩:=ry
 exact add_str (fun t' tk=>⟨.str (i++j),H,I.tok _,⟨_,rfl⟩,q⟩) hz
theorem zre {x:V} {us:List Value} (r:Vals [x] us):∃ u,us=[u]∧RelV x u:=by
 cases r with
 | cons r1 r2=>cases r2; exact ⟨_,rfl,r1⟩
theorem zF5 {x y:V} {us:List Value} (r:Vals [x,y] us):∃ u w',us=[u,w']∧RelV x u∧RelV y w':=by
 cases r with
 | cons r1 r2=>
  cases r2 with
  | cons r3 r4=>cases r4; exact ⟨_,_,rfl,r1,r3⟩
theorem zyS (hc:X.calm=true):CallR X (.builtin "max") (fun xs H Q=>∃ i j,xs=[.int i,.int j]∧Q (.int (if j > i then j else i)) H):=by
 intro pins s σ H xs us Q I r h
 obtain ⟨i,j,rfl,q⟩:=h
 obtain ⟨u,w',rfl,⟨t,rfl⟩,⟨t',rfl⟩⟩:=zF5 r
 refine max_two_ints (I.ok.hd hc) fun h' tk k=>⟨_,H,I.kept k,?_,q⟩
 by_cases hj:j > i
 ·rw [if_pos hj,if_pos hj]; exact ⟨_,rfl⟩
 ·rw [if_neg hj,if_neg hj]; exact ⟨_,rfl⟩
theorem zyT (hc:X.calm=true):CallR X (.builtin "min") (fun xs H Q=>∃ i j,xs=[.int i,.int j]∧Q (.int (if j < i then j else i)) H):=by
 intro pins s σ H xs us Q I r h
 obtain ⟨i,j,rfl,q⟩:=h
 obtain ⟨u,w',rfl,⟨t,rfl⟩,⟨t',rfl⟩⟩:=zF5 r
 refine min_two_ints (I.ok.hd hc) fun h' tk k=>⟨_,H,I.kept k,?_,q⟩
 by_cases hj:j < i
 ·rw [if_pos hj,if_pos hj]; exact ⟨_,rfl⟩
 ·rw [if_neg hj,if_neg hj]; exact ⟨_,rfl⟩
theorem zyU:CallR X (.type "int") (fun xs H Q=>(∃ i,xs=[.int i]∧Q (.int i) H)∨∃ k,xs=[.bl k]∧Q (.int (if k then 1 else 0)) H):=by
 intro pins s σ H xs us Q I r h
 rcases h with ⟨i,rfl,q⟩ | ⟨k,rfl,q⟩
 ·obtain ⟨u,rfl,t,rfl⟩:=zre r
  exact call_int_int ⟨.int i,H,I,⟨_,rfl⟩,q⟩
 ·obtain ⟨u,rfl,r1⟩:=zre r
  cases r1
  exact call_int_bool ⟨.int (if k then 1 else 0),H,I.tok _,⟨_,rfl⟩,q⟩
theorem zud:CallR X (.type "str") (fun xs H Q=>∃ i,xs=[.int i]∧i.natAbs.log2 < 1920∧Q (.str (toString i)) H):=by
 intro pins s σ H xs us Q I r h
 obtain ⟨i,rfl,hz,q⟩:=h
 obtain ⟨u,rfl,t,rfl⟩:=zre r
 exact PySem.P.str_of_int hz ⟨.str _,H,I.tok _,⟨_,rfl⟩,q⟩
def zIQ (K:W.Frag) (x:V) (H:Hp) (n:Nat):Prop:=
 match x with
 | .str y=>y.length≤sizeLine∧n=y.length
 | .byt y=>y.size≤sizeLine∧n=y.size
 | .ref p=>(∃ xs,SqL K H p xs∧n=xs.length)∨∃ xs,SqT K H p xs∧n=xs.length
 | _=>False
theorem zBt:CallR X (.builtin "len") (fun xs H Q=>∃ x n,xs=[x]∧zIQ X.K x H n∧Q (.int n) H):=by
 intro pins s σ H xs us Q I r h
 obtain ⟨x,n,rfl,e,q⟩:=h
 obtain ⟨u,rfl,rx⟩:=zre r
 have hl:=zxf
 have hs:sizeLine=16777216:=sizeLine_eq
 cases x with
 | str y=>
  obtain ⟨t,rfl⟩:=rx
  obtain ⟨hy,e'⟩:y.length≤sizeLine∧n=y.length:=e
  subst e'
  exact len_str (by omega) ⟨.int _,H,I.tok _,⟨_,rfl⟩,q⟩
 | byt y=>
  obtain ⟨t,rfl⟩:=rx
  obtain ⟨hy,e'⟩:y.size≤sizeLine∧n=y.size:=e
  subst e'
  exact W.len_bytes (by omega) ⟨.int _,H,I.tok _,⟨_,rfl⟩,q⟩
 | ref p=>
  cases rx
  have e':(∃ xs,SqL X.K H p xs∧n=xs.length)∨∃ xs,SqT X.K H p xs∧n=xs.length:=e
  rcases e' with ⟨xs,hx,e'⟩ | ⟨xs,hx,e'⟩
  ·subst e'
   obtain ⟨its,r',pl,hz⟩:=I.list hx
   have hlen:=r'.length
   exact Calls.call_len_list pl.isList (by simp only [List.size_toArray]; omega) ⟨.int xs.length,H,I.tok _,⟨_,by simp only [List.size_toArray]; rw [hlen]⟩,q⟩
  ·subst e'
   obtain ⟨its,r',pl,hz⟩:=I.tuple hx
   have hlen:=r'.length
   exact len_tuple pl (by simp only [List.size_toArray]; omega) ⟨.int xs.length,H,I.tok _,⟨_,by simp only [List.size_toArray]; rw [hlen]⟩,q⟩
 | _=>exact (show False from e).elim
end
end L2
namespace L2
open PySem PySem.Spec PyProof.Rows
structure ObjM (h:Heap) (x dx C:Addr) (mA:Str→Option Value):Prop where
 obj:h.get? x=some (W.instObj C dx)
 ns:h.Ns1 dx mA
 ne:dx≠x
theorem zyV {h:Heap} {dx:Addr} {mA:Str→Option Value} (n:h.Ns1 dx mA):∃ od,h.get? dx=some od∧∀ name,W.lookIn name od=some (mA name):=by
 obtain ⟨o,es,ep,ho,hd,hk,_,hm⟩:=n
 refine ⟨o,ho,fun name=>?_⟩
 have e:=hm name
 unfold nsFind findBy at e
 rw [← Array.find?_toList] at e
 unfold W.lookIn
 rw [hd]
 dsimp only
 split
 ·rename_i y q
  rw [q] at e
  exact congrArg some e
 ·rename_i q
  rw [q] at e
  have a:es.toList.any (·.refKey)=false:=by
   rw [List.any_eq_false]
   intro y hy
   obtain ⟨z,t,hkey⟩:=hk y (Array.mem_toList_iff.mp hy)
   simp [DictEntry.refKey,hkey]
  have a':¬ es.toList.any (·.refKey)=true:=by rw [a]; exact Bool.false_ne_true
  rw [if_neg a']
  exact congrArg some e
theorem ObjM.look {h:Heap} {x dx C:Addr} {mA:Str→Option Value} (I:ObjM h x dx C mA):∃ od,W.InstAt h x (W.instObj C dx) C (some od)∧∀ name,W.lookIn name od=some (mA name):=
 let ⟨od,ho,hl⟩:=zyV I.ns
 ⟨od,⟨I.obj,rfl,rfl,ho⟩,hl⟩
section
variable {prog:Program} {w:World} {A:Around} {E:Value→Shared→Prop} {s:Shared} {K:W.Frag} {x dx C f:Addr} {mA:Str→Option Value} {name:Str} {v:Value}
theorem zDw {expr:Bool} {Q:Value→Shared→Prop} (X:K.In s.heap) (I:ObjM s.heap x dx C mA) (hg:W.plainGet K C name=true) (hh:W.hasDictIn K C=true)
  (ha:W.findIn K (.ref C) name=some none) (hv:mA name=some v) (hv':W.handedIn v=true) (h:Q v { s with toks:=s.toks+1 }) :
  wpAny (model prog w) A (getAttr (.ref x) name expr) Q E s:=by
 obtain ⟨od,J,hl⟩:=I.look
 exact W.get_value X J (W.plainGet_of hg).1 (W.findObj_own hh ha rfl (by rw [hl,hv])) hv' h
theorem zBu {pl:Sem Bool} {Q:Value×List Value→Shared→Prop} (X:K.In s.heap) (I:ObjM s.heap x dx C mA) (hg:W.plainGet K C name=true)
  (hf:W.findIn K (.ref C) name=some (some (.ref f))) (ht:W.isFn K (.ref f)=true) (hv:mA name=none) (h:Q (.ref f,[.ref x]) s) :
  wpAny (model prog w) A (getMethod (.ref x) name pl) Q E s:=by
 obtain ⟨od,J,hl⟩:=I.look
 exact W.method_fn X J (W.plainGet_of hg).1 (W.plainGet_of hg).2 hf (beq_iff_eq.mp ht) (by show (W.lookIn name od).map (·.isSome)=some false; rw [hl,hv]; rfl) h
theorem zDx {ns:List Str} {Q:Unit→Shared→Prop} (X:K.In s.heap) (I:ObjM s.heap x dx C mA)
  (hs:W.findIn K (.ref C) "__setattr__"=some (some (.builtin "object.__setattr__"))) (hp:W.plainOver K C=true) (ht:W.takerIn K C name=some none) (hh:W.hasDictIn K C=true)
  (hw:PySem.Within mA ns) (hsz:ns.length≤sizeLine)
  (h:∀ h',ObjM h' x dx C (fun y=>if y=name then some v else mA y)→Heap.SameBut dx s.heap h'→Q () { s with heap:=h',toks:=s.toks+2 }) :
  wpAny (model prog w) A (setAttr (.ref x) name v) Q E s:=by
 obtain ⟨od,J,hl⟩:=I.look
 refine W.set_plain X J hs (W.osa_open (s:={ s with toks:=s.toks+1 }) (r:=none) X J hp ht fun b=>?_)
 obtain ⟨cd,hc,hd'⟩:=W.any_some hh
 have hx:s.heap.get? x=some ⟨.ref C,some dx,.plain,#[]⟩:=I.obj
 refine wpAny_bind (wpAny_pure (wpAny_bind (wpAny_bind (wpAny_loadPart hx (wpAny_bind (W.Looks.here (s:={ s with toks:=s.toks+1 }) (W.looks_clsIn X hc) ?_))))))
 rw [hd']
 refine wpAny_pure (a:=some dx) (wpAny_bind (wpAny_pure (wpAny_bind ?_)))
 refine wpAny_nsSet1 (s:={ s with toks:=s.toks+1 }) I.ns fun h' hn2 hs2=>?_
 obtain ⟨oD,esD,epD,hoD,hdD,hcD⟩:=hn2.count (PySem.Within.cons name v hw)
 refine wpAny_bind (wpAny_lookBehind hoD (by rw [hdD]; exact pastItsLine_dict (Nat.le_trans hcD (by rw [List.length_cons]; omega))) ?_)
 exact wpAny_pure (h _ ⟨(hs2.2 _ (Ne.symm I.ne)).trans I.obj,hn2,I.ne⟩ hs2)
theorem zBv {R : Result → Shared → Prop} {vs : List Value} {kw : List (Str × Value)} (X : K.In s.heap) (hm : W.makesIn K C = true)
    (hi : W.findIn K (.ref C) "__init__" = some (some (.ref f))) (hf : W.typeIn K (.ref f) = some (.type "function"))
    (h : codeAny (model prog w) (A.under (.builtin "type.__call__" ⟨.ref C :: vs, kw⟩)) (.call (.ref f) ⟨.ref (s.heap.objs.size + 1) :: vs, kw⟩) (W.InitBack (s.heap.objs.size + 1) R)
      { s with heap := (s.heap.push W.emptyDict).push (W.instObj C s.heap.objs.size) }) :
    codeAny (model prog w) A (.call (.ref C) ⟨vs, kw⟩) R s := by
  obtain ⟨hh, g, d, t, os⟩ := s
  exact W.make_core (W.makes_of X hm) (W.looks_findIn X hi) (fun self => W.bind_fn X self hf) (.inl rfl) h
end
def zpr (f:Str) (v:V):List (Str×V)→List (Str×V)
 | []=>[(f,v)]
 | (g,x) :: r=>if g=f then (g,v) :: r else (g,x) :: zpr f v r
theorem zpw (f g:Str) (v:V):∀ fs:List (Str×V),(zpr f v fs).lookup g=if g=f then some v else fs.lookup g
 | []=>by
  show List.lookup g [(f,v)]=_
  by_cases h:g=f
  ·have hb:(g==f)=true:=beq_iff_eq.mpr h
   simp only [List.lookup,hb,if_pos h]
  ·have hb:(g==f)=false:=beq_eq_false_iff_ne.mpr h
   simp only [List.lookup,hb,if_neg h]
 | (k,x) :: r=>by
  have ih:=zpw f g v r
  rw [show zpr f v ((k,x) :: r)=(if k=f then (k,v) :: r else (k,x) :: zpr f v r) from rfl]
  by_cases hk:k=f
  ·rw [if_pos hk]
   by_cases h:g=k
   ·have hb:(g==k)=true:=beq_iff_eq.mpr h
    simp only [List.lookup,hb,if_pos (h.trans hk)]
   ·have hb:(g==k)=false:=beq_eq_false_iff_ne.mpr h
    simp only [List.lookup,hb,if_neg (fun e:g=f=>h (e.trans hk.symm))]
  ·rw [if_neg hk]
   by_cases h:g=k
   ·have hb:(g==k)=true:=beq_iff_eq.mpr h
    simp only [List.lookup,hb,if_neg (fun e:g=f=>hk (h.symm.trans e))]
   ·have hb:(g==k)=false:=beq_eq_false_iff_ne.mpr h
    simp only [List.lookup,hb]
    exact ih
theorem zpx (f:Str) (v:V):∀ fs:List (Str×V),f∈(zpr f v fs).map (·.1)∧∀ g,g∈fs.map (·.1)→g∈(zpr f v fs).map (·.1)
 | []=>⟨by simp [zpr],fun g h=>by simp at h⟩
 | (k,x) :: r=>by
  obtain ⟨i1,i2⟩:=zpx f v r
  rw [show zpr f v ((k,x) :: r)=(if k=f then (k,v) :: r else (k,x) :: zpr f v r) from rfl]
  by_cases hk:k=f
  ·rw [if_pos hk]
   subst hk
   exact ⟨by simp,fun g h=>by simpa using h⟩
  ·rw [if_neg hk]
   refine ⟨?_,fun g h=>?_⟩
   ·rw [List.map_cons]
    exact List.mem_cons_of_mem _ i1
   ·rw [List.map_cons] at h ⊢
    rcases List.mem_cons.mp h with e | e
    ·exact List.mem_cons.mpr (.inl e)
    ·exact List.mem_cons_of_mem _ (i2 g e)
theorem zpy (f:Str) (v:V):∀ fs:List (Str×V),(zpr f v fs).length≤fs.length+1
 | []=>by simp [zpr]
 | (k,x) :: r=>by
  have ih:=zpy f v r
  rw [show zpr f v ((k,x) :: r)=(if k=f then (k,v) :: r else (k,x) :: zpr f v r) from rfl]
  by_cases hk:k=f
  ·rw [if_pos hk,List.length_cons,List.length_cons]; omega
  ·rw [if_neg hk,List.length_cons,List.length_cons]; omega
theorem RelO.some_of {v:V} {o:Option Value} (r:RelO (some v) o):∃ u,o=some u∧RelV v u:=by
 cases o with
 | none=>exact (show False from r).elim
 | some u=>exact ⟨u,rfl,r⟩
theorem RelO.none_of {o:Option Value} (r:RelO none o):o=none:=by
 cases o with
 | none=>rfl
 | some u=>exact (show False from r).elim
theorem zyW {v:V} {u:Value} (r:RelV v u):W.handedIn u=true:=by
 cases v with
 | non=>cases (show u=Value.none from r); rfl
 | bl b=>cases (show u=Value.bool b from r); rfl
 | int i=>obtain ⟨t,e⟩:=(show ∃ t,u=Value.int i t from r); cases e; rfl
 | str x=>obtain ⟨t,e⟩:=(show ∃ t,u=Value.str x t from r); cases e; rfl
 | byt b=>obtain ⟨t,e⟩:=(show ∃ t,u=Value.bytes b t from r); cases e; rfl
 | flt b=>obtain ⟨t,e⟩:=(show ∃ t,u=Value.float b t from r); cases e; rfl
 | ref a=>cases (show u=Value.ref a from r); rfl
 | ty n=>cases (show u=Value.type n from r); rfl
section
variable {P:Program} {w:World} {H H':Hp} {h h':Heap} {a C dx:Addr} {fs fs':List (Str×V)}
theorem zso (hok:HOk P w H h) (e:H a=some (.ins C dx fs)):∃ mA,ObjM h a dx C mA∧(∀ f,RelO (fs.lookup f) (mA f))∧PySem.Within mA (fs.map (·.1))∧fs.length≤1000∧H dx=some (.own a):=by
 obtain ⟨d,z,ne,ob,mA,n,r,q⟩:=(show ObjOk P w H h a (.ins C dx fs) from hok a _ e)
 exact ⟨mA,⟨ob,n,ne⟩,r,q,z,d⟩
end
structure Cls (K:W.Frag) (C:Addr):Prop where
 pg:W.plainGet K C Str.empty=true
 hd:W.hasDictIn K C=true
 po:W.plainOver K C=true
 sa:W.findIn K (.ref C) "__setattr__"=some (some (.builtin "object.__setattr__"))
theorem Cls.get {K:W.Frag} {C:Addr} (c:Cls K C) (f:Str):W.plainGet K C f=true:=c.pg
def NoAttr (K:W.Frag) (C:Addr) (f:Str):Prop:=W.findIn K (.ref C) f=some none
theorem NoAttr.taker {K:W.Frag} {C:Addr} {f:Str} (n:NoAttr K C f):W.takerIn K C f=some none:=by
 unfold W.takerIn
 rw [show W.findIn K (.ref C) f=some none from n]
 rfl
structure Meth (K:W.Frag) (C:Addr) (m:Str) (f:Addr):Prop where
 at_:W.findIn K (.ref C) m=some (some (.ref f))
 fn:W.isFn K (.ref f)=true
 kp:W.keepIn K (.ref f)=true
section
variable {X:Cx} {pins:List (Addr×Obj)} {σ:St} {H:Hp} {s:Shared} {a C dx:Addr} {fs:List (Str×V)} {f:Str} {v:V} {A:Around} {E:Value→Shared→Prop}
theorem zxQ {b:Bool} {Q:Value→Shared→Prop} (I:Inv X pins σ H s) (e:H a=some (.ins C dx fs)) (c:Cls X.K C) (n:NoAttr X.K C f) (l:fs.lookup f=some v)
  (h:∀ u s',Inv X pins σ H s'→RelV v u→Q u s'):wpAny (model X.prog X.w) A (getAttr (.ref a) f b) Q E s:=by
 obtain ⟨mA,O,r,_,_,_⟩:=zso I.hok e
 obtain ⟨u,hu,ru⟩:=RelO.some_of (v:=v) (o:=mA f) (by rw [← l]; exact r f)
 exact zDw I.kIn O (c.get f) c.hd n hu (zyW ru) (h u _ (I.tok _) ru)
theorem zrN {m:Str} {g:Addr} {pl:Sem Bool} {Q:Value×List Value→Shared→Prop} (I:Inv X pins σ H s) (e:H a=some (.ins C dx fs)) (c:Cls X.K C) (k:Meth X.K C m g) (l:fs.lookup m=none)
  (h:Q (.ref g,[.ref a]) s):wpAny (model X.prog X.w) A (getMethod (.ref a) m pl) Q E s:=by
 obtain ⟨mA,O,r,_,_,_⟩:=zso I.hok e
 have hn:mA m=none:=RelO.none_of (by rw [← l]; exact r m)
 exact zBu I.kIn O (c.get m) k.at_ k.fn hn h
theorem zxR {y:V} {u:Value} {Q:Unit→Shared→Prop} (I:Inv X pins σ H s) (e:H a=some (.ins C dx fs)) (c:Cls X.K C) (n:NoAttr X.K C f) (hl:fs.length < 1000) (ry:RelV y u)
  (h:∀ s',Inv X pins σ (upd H a (.ins C dx (zpr f y fs))) s'→Q () s'):wpAny (model X.prog X.w) A (setAttr (.ref a) f u) Q E s:=by
 obtain ⟨mA,O,r,wi,_,ho⟩:=zso I.hok e
 have hz:(fs.map (·.1)).length≤sizeLine:=by rw [List.length_map,sizeLine_eq]; omega
 refine zDx I.kIn O c.sa c.po n.taker c.hd wi hz fun h' O' sb=>h _ ?_
 have hd:∃ o,h'.get? dx=some o:=let ⟨o,_,_,e',_⟩:=O'.ns; ⟨o,e'⟩
 refine I.write (x:=a) (e:=dx) (by rw [e]; exact True.intro) (.inr ho) (fun b q hb z=>(sb.2 b hb).trans z) hd ?_
 refine ⟨by rw [zbJ O.ne]; exact ho,?_,O.ne,O'.obj,_,O'.ns,fun g=>?_,fun g hg=>?_⟩
 ·have:=zpy f y fs; omega
 ·show RelO ((zpr f y fs).lookup g) (if g=f then some u else mA g)
  rw [zpw]
  by_cases q:g=f
  ·rw [if_pos q,if_pos q]; exact ry
  ·rw [if_neg q,if_neg q]; exact r g
 ·by_cases q:g=f
  ·rw [q]; exact (zpx f y fs).1
  ·refine (zpx f y fs).2 g (wi g fun z=>hg ?_)
   show (if g=f then some u else mA g)=none
   rw [if_neg q]; exact z
theorem Inv.made (I:Inv X pins σ H s):Inv X pins σ (upd (upd H s.heap.objs.size (.own (s.heap.objs.size+1))) (s.heap.objs.size+1) (.ins C s.heap.objs.size []))
  { s with heap:=(s.heap.push W.emptyDict).push (W.instObj C s.heap.objs.size) }:=by
 have e1:(s.heap.push W.emptyDict).get? s.heap.objs.size=some W.emptyDict:=Heap.get?_push_size s.heap rfl
 have e2:((s.heap.push W.emptyDict).push (W.instObj C s.heap.objs.size)).get? (s.heap.objs.size+1)=some (W.instObj C s.heap.objs.size):=by
  have:=Heap.get?_push_size (s.heap.push W.emptyDict) (o:=W.instObj C s.heap.objs.size) rfl
  rwa [Heap.size_push] at this
 have e3:(s.heap.push W.emptyDict).Ns s.heap.objs.size (fun _=>none):=⟨W.emptyDict,#[],_,e1,rfl,(fun e he=>absurd he (by simp)),fun _=>rfl⟩
 have I1:=I.laid (a:=s.heap.objs.size) (o:=.own (s.heap.objs.size+1)) (h':=s.heap.push W.emptyDict) (t':=s.toks) (fun b u q=>Heap.get?_push_of_some _ q) (Nat.le_refl _) ⟨_,e1⟩
 refine I1.laid (a:=s.heap.objs.size+1) (o:=.ins C s.heap.objs.size []) (t':=s.toks) (fun b u q=>Heap.get?_push_of_some _ q) (Nat.le_of_eq (Heap.size_push _ _)) ?_
 have ne:s.heap.objs.size≠s.heap.objs.size+1:=Nat.ne_of_lt (Nat.lt_succ_self _)
 refine ⟨by rw [zbJ ne,zbI],Nat.zero_le _,ne,e2,fun _=>none,(Heap.Ns1.of_empty e3).at fun o q=>Heap.get?_push_of_some _ q,fun _=>True.intro,fun y hy=>absurd rfl hy⟩
theorem zDy {prog:Program} {w:World} {env:Env} {e:Expr} {f:Str} {pos:Pos} {s:Shared} {Q:Value→Shared→Prop} (hb:attributeBase e f env (eval e env)=eval e env)
  (h:wpAny (model prog w) A (eval e env) (fun o s₁=>wpAny (model prog w) A (getAttr o f true) Q E s₁) E s):wpAny (model prog w) A (eval (.Attribute e f pos) env) Q E s:=
 Attribute_any_ h (by rw [arm_eval_Attribute,hb])
end
def zIR (K:W.Frag) (ta:TE) (f:Str):TE:=fun σ H Q=>ta σ H fun x H1=>∃ a C dx fs v,x=.ref a∧H1 a=some (.ins C dx fs)∧Cls K C∧NoAttr K C f∧fs.lookup f=some v∧Q v H1
def zIe (K:W.Frag) (ta tv:TE) (f:Str):TS:=fun D σ H=>tv σ H fun y H1=>ta σ H1 fun x H2=>∃ a C dx fs,x=.ref a∧H2 a=some (.ins C dx fs)∧Cls K C∧NoAttr K C f∧fs.length < 1000∧
 D.nx σ (upd H2 a (.ins C dx (zpr f y fs)))
section
variable {X:Cx} {o e value:Expr} {f:Str} {pos pos' tpos:Pos} {ta tv:TE}
theorem zF6 (he:PE X e ta) (hb:attributeBase e f X.env (eval e X.env)=eval e X.env):PE X (.Attribute e f pos) (zIR X.K ta f):=by
 intro pins s σ H Q I h
 refine zDy hb (thn (he pins s σ H _ I h) fun u s1 ⟨x,H1,I1,rx,a,C,dx,fs,v,ex,ea,c,n,l,q⟩=>?_)
 subst ex
 obtain rfl:u=Value.ref a:=rx
 exact zxQ I1 ea c n l fun u' s2 I2 ru=>⟨v,H1,I2,ru,q⟩
theorem zF7 (ha:PE X o ta) (hv:PE X value tv) (hs:swapsWith value (some (.Attribute o f pos')) pos.line X.env=pure false):PS X (.Assign [.Attribute o f pos'] value pos) (zIe X.K ta tv f):=by
 intro pins s σ H D I h
 refine plainObj_wpAny_Assign_Attribute (thn (hv pins s σ H _ I h) fun u s1 ⟨y,H1,I1,ry,q⟩=>thn (ha pins s1 σ H1 _ I1 q) fun ov s2 ⟨x,H2,I2,rx,a,C,dx,fs,ex,ea,c,n,l,q2⟩=>?_) hs
 subst ex
 obtain rfl:ov=Value.ref a:=rx
 exact zxR I2 ea c n l ry fun s3 I3=>⟨σ,_,I3,q2⟩
end
section
variable {X:Cx} {pins:List (Addr×Obj)} {σ:St} {H:Hp} {s:Shared} {A:Around} {E:Value→Shared→Prop} {Q:Value→Shared→Prop} {c:Value} {b:Bool}
inductive TyOf (K:W.Frag) (H:Hp):V→Value→Prop where
 | non:TyOf K H .non (.type "NoneType")
 | bl (x:Bool):TyOf K H (.bl x) (.type "bool")
 | int (i:Int):TyOf K H (.int i) (.type "int")
 | str (x:Str):TyOf K H (.str x) (.type "str")
 | flt (x:UInt64):TyOf K H (.flt x) (.type "float")
 | lst {a:Addr} {xs:List V} (e:H a=some (.lst xs)):TyOf K H (.ref a) (.type "list")
 | frz {a:Addr} {o:Obj} {xs:List V} (e:H a=some (.frz o (.lst xs))):TyOf K H (.ref a) (.type "list")
 | tup {a:Addr} {xs:List V} (e:H a=some (.tup xs)):TyOf K H (.ref a) (.type "tuple")
 | dK {a:Addr} {kvs:List (Key×V)} (e:H a=some (.dK kvs)):TyOf K H (.ref a) (.type "dict")
 | dT {a:Addr} {kvs:List (List Key×V)} (e:H a=some (.dT kvs)):TyOf K H (.ref a) (.type "dict")
 | ins {a C dx:Addr} {fs:List (Str×V)} (e:H a=some (.ins C dx fs)) (cl:Cls K C) (ha:W.findIn K (.ref C) "__class__"=some (some (.builtin "object.__class__")))
   (hn:W.specialIn K (.builtin "object.__class__") "__get__"=some (some (.builtin "getset_descriptor.__get__"))) (htk:W.takesIn K (.builtin "object.__class__")=some true)
   (hm:W.mroIn K C (.type "object")=some true):TyOf K H (.ref a) (.ref C)
theorem zue {x:V} {u t:Value} (I:Inv X pins σ H s) (rx:RelV x u) (ty:TyOf X.K H x t) (e:W.kitOne X.K t c=some b) (h:∀ tk,Q (.bool b) { s with toks:=tk }) :
  wpAny (model X.prog X.w) A (call (.builtin "isinstance") [u,c]) Q E s:=by
 cases ty with
 | non=>cases (show u=Value.none from rx); exact W.kia_one W.kitx_none I.kIn True.intro e (fun z=>nomatch z) h
 | bl y=>cases (show u=Value.bool y from rx); exact W.kia_one W.kitx_bool I.kIn True.intro e (fun z=>nomatch z) h
 | int i=>obtain ⟨t,q⟩:=(show ∃ t,u=Value.int i t from rx); cases q; exact W.kia_one W.kitx_int I.kIn True.intro e (fun z=>nomatch z) h
 | str y=>obtain ⟨t,q⟩:=(show ∃ t,u=Value.str y t from rx); cases q; exact W.kia_one W.kitx_str I.kIn True.intro e (fun z=>nomatch z) h
 | flt y=>obtain ⟨t,q⟩:=(show ∃ t,u=Value.float y t from rx); cases q; exact W.kia_one W.kitx_float I.kIn True.intro e (fun z=>nomatch z) h
 | @lst a xs ea=>
  cases (show u=Value.ref a from rx)
  obtain ⟨_,_,n,_,h1⟩:=(show ObjOk X.prog X.w H s.heap a (.lst xs) from I.hok a _ ea)
  exact W.kia_one W.kitx_list I.kIn ⟨_,h1,rfl⟩ e (fun z=>nomatch z) h
 | @frz a ob xs ea=>
  cases (show u=Value.ref a from rx)
  obtain ⟨_,_,_,n,_,h1⟩:=(show ObjOk X.prog X.w H s.heap a (.frz ob (.lst xs)) from I.hok a _ ea)
  exact W.kia_one W.kitx_list I.kIn ⟨_,h1,rfl⟩ e (fun z=>nomatch z) h
 | @tup a xs ea=>
  cases (show u=Value.ref a from rx)
  obtain ⟨_,_,_,p⟩:=(show ObjOk X.prog X.w H s.heap a (.tup xs) from I.hok a _ ea)
  obtain ⟨o,h1,h2,_⟩:=p
  exact W.kia_one W.kitx_tuple I.kIn ⟨o,h1,h2⟩ e (fun z=>nomatch z) h
 | @dK a kvs ea=>
  cases (show u=Value.ref a from rx)
  obtain ⟨_,_,vs,_,p⟩:=(show ObjOk X.prog X.w H s.heap a (.dK kvs) from I.hok a _ ea)
  obtain ⟨o,es,ep,h1,h2,_⟩:=p
  exact W.kia_one W.kitx_dict I.kIn ⟨o,h1,h2.1⟩ e (fun z=>nomatch z) h
 | @dT a kvs ea=>
  cases (show u=Value.ref a from rx)
  obtain ⟨_,_,xs,_,o,es,ep,h1,h2,_⟩:=(show ObjOk X.prog X.w H s.heap a (.dT kvs) from I.hok a _ ea)
  exact W.kia_one W.kitx_dict I.kIn ⟨o,h1,h2.1⟩ e (fun z=>nomatch z) h
 | @ins a C dx fs ea cl ha hn htk hm=>
  cases (show u=Value.ref a from rx)
  obtain ⟨mA,O,_⟩:=zso I.hok ea
  obtain ⟨od,J,_⟩:=O.look
  exact W.kia_one (W.kitx_own (cl.get _) cl.hd ha hn htk hm) I.kIn J e (fun z=>nomatch z) h
end
end L2
namespace L2
open PySem PySem.Spec PyProof.Rows
structure Room (k:Nat) (A:Around):Prop where
 hd:A.handled=none
 dp:A.depth+3*k+5 < recursionLimit
 un:A.units+16*k+200 < cLine
theorem Room.mono {j k:Nat} {A:Around} (r:Room k A) (h:j≤k):Room j A:=⟨r.hd,by have:=r.dp; omega,by have:=r.un; omega⟩
theorem Room.deeper {k:Nat} {A:Around} (r:Room (k+1) A) (env:Env):Room k (A.deeper env):=
 ⟨r.hd,by have:=r.dp; show A.depth+1+3*k+5 < _; omega,by have:=r.un; show A.units+3+16*k+200 < _; omega⟩
theorem zxS {A:Around} {C:Addr} {us:List Value} {kw:List (Str×Value)}:(A.under (.builtin "type.__call__" ⟨.ref C :: us,kw⟩)).depth=A.depth+1:=by
 first | rfl | simp [Around.under,Code.weight,Code.isCreation,Code.isGuard,Code.isCaller,Code.frames,Code.isFrame,guardIds]
theorem zxT {A:Around} {C:Addr} {us:List Value} {kw:List (Str×Value)}:(A.under (.builtin "type.__call__" ⟨.ref C :: us,kw⟩)).units=A.units+1:=by
 first | rfl | simp [Around.under,Code.cUnits,Code.frames,Code.isFrame]
theorem Room.make {k:Nat} {A:Around} (r:Room (k+1) A) (C:Addr) (us:List Value) (kw:List (Str×Value)):Room k (A.under (.builtin "type.__call__" ⟨.ref C :: us,kw⟩)):=
 ⟨r.hd,by have:=r.dp; rw [zxS]; omega,by have:=r.un; rw [zxT]; omega⟩
theorem Room.depth {k:Nat} {A:Around} (r:Room k A):A.depth < recursionLimit:=by have:=r.dp; omega
theorem Room.units {k:Nat} {A:Around} (r:Room k A):A.units+64 < cLine:=by have:=r.un; omega
def zFq:TA:=fun _ H Q=>Q [] H
def zyX (ta:TE) (tr:TA):TA:=fun σ H Q=>ta σ H fun x H1=>tr σ H1 fun xs H2=>Q (x :: xs) H2
section
variable {X:Cx} {e:Expr} {es:List Expr} {te:TE} {t:TA} {pos:Pos}
theorem zyY:PA X [] zFq:=fun _ _ _ _ H Q I h=>Calls.spliced_nil ⟨[],H,I,.nil,h⟩
theorem zvz (ha:PE X e te) (hr:PA X es t) (hs:starEach (e :: es) X.env=(false,eval e X.env) :: starEach es X.env:=by rfl):PA X (e :: es) (zyX te t):=by
 intro pos pins s σ H Q I h
 rw [hs]
 show wpAny _ _ (spliced ((false,eval e X.env) :: backTo pos (starEach es X.env))) _ _ s
 refine Calls.spliced_cons (thn (ha pins s σ H _ I h) fun u s1 ⟨x,H1,I1,r1,q1⟩=>?_)
 exact thn (hr pos pins s1 σ H1 _ I1 q1) fun us s2 ⟨xs,H2,I2,r2,q2⟩=>⟨x :: xs,H2,I2,.cons r1 r2,q2⟩
def zKg (t:TA):TE:=fun σ H Q=>t σ H fun xs H1=>xs.length≤sizeLine∧∀ p,H1 p=none→Q (.ref p) (upd H1 p (.tup xs))
def zKh (t:TA):TE:=fun σ H Q=>t σ H fun xs H1=>xs.length≤sizeLine∧∀ p,H1 p=none→Q (.ref p) (upd H1 p (.lst xs))
theorem zF8 {x1} (h:PA X es t):PE X (.Tuple es x1 pos) (zKg t):=by
 intro pins s σ H Q I hq
 refine wpAny_Tuple_spliced (thn (h pos pins s σ H _ I hq) fun us s1 ⟨xs,H1,I1,r,z,q⟩=>⟨by rw [← r.length]; exact z,?_⟩)
 have hf:H1 s1.heap.objs.size=none:=I1.hok.fresh (Nat.le_refl _)
 refine ⟨.ref s1.heap.objs.size,upd H1 s1.heap.objs.size (.tup xs),I1.laid (t':=s1.toks) (fun b u e=>Heap.get?_push_of_some _ e) (Nat.le_refl _) ?_,rfl,q _ hf⟩
 exact ⟨z,us,r,⟨_,Heap.get?_push_size _ rfl,rfl,_,rfl⟩⟩
theorem zF9 (h:PA X es t):PE X (.List es pos) (zKh t):=by
 intro pins s σ H Q I hq
 refine wpAny_List_spliced (thn (h pos pins s σ H _ I hq) fun us s1 ⟨xs,H1,I1,r,z,q⟩=>⟨by rw [← r.length]; exact z,?_⟩)
 have hf:H1 s1.heap.objs.size=none:=I1.hok.fresh (Nat.le_refl _)
 refine ⟨.ref s1.heap.objs.size,upd H1 s1.heap.objs.size (.lst xs),I1.laid (t':=s1.toks) (fun b u e=>Heap.get?_push_of_some _ e) (Nat.le_refl _) ?_,rfl,q _ hf⟩
 exact ⟨z,us,0,r,Heap.get?_push_size _ rfl⟩
end
abbrev Sp:=List V→Hp→VK→XK→Prop
abbrev CXT:=List Env→Hp→Shared→XK→Value→Shared→Prop
structure Env0 (P:Program) (w:World) (K:W.Frag) (mg:Str→Option Value) (base:Heap) (A:Around) (outer:List Env) (s:Shared) (H:Hp):Prop where
 frames:A.frames=some outer
 mod:Mod K mg base
 bs:∀ b o,base.get? b=some o→s.heap.get? b=some o∧H b=none
 bsz:base.objs.size≤s.heap.objs.size
 funs:s.heap.FunFrames base outer
 frf:∀ b∈frs outer,H b=none
 hok:HOk P w H s.heap
 bare:AllBare s.gens
def CE (outer:List Env) (P:Program) (w:World) (H:Hp) (s:Shared) (Q:VK) (u:Value) (s':Shared):Prop:=
 ∃ v H',s'.os=s.os∧AllBare s'.gens∧Un (frs outer) [] H H' s.heap s'.heap∧HOk P w H' s'.heap∧RelV v u∧Q v H'
def CR (CX:CXT) (outer:List Env) (P:Program) (w:World) (H:Hp) (s:Shared) (Q:VK) (E:XK) (r:Result) (s':Shared):Prop:=
 match r with
 | .ok (.ret u)=>CE outer P w H s Q u s'
 | .ok _=>False
 | .error e=>CX outer H s E e s'
structure FnOk (P:Program) (w:World) (K:W.Frag) (mg:Str→Option Value) (base:Heap) (CX:CXT) (k:Nat) (f:Addr) (fd:FuncData) (ps:List Str) (sp:Sp):Prop where
 len:∀ vs H Q E,sp vs H Q E→vs.length=ps.length
 run:∀ (A:Around) (outer:List Env) (s:Shared) (H:Hp) (args:Args) (us:List Value) (vs:List V) (Q:VK) (E:XK),Room k A→Env0 P w K mg base A outer s H→BindsTo s fd args (ps.zip us)→Vals vs us→sp vs H Q E→
  codeAny (model P w) A (.call (.ref f) args) (CR CX outer P w H s Q E) s
theorem FnOk.imp {P:Program} {w:World} {K:W.Frag} {mg:Str→Option Value} {base:Heap} {CX:CXT} {k:Nat} {f:Addr} {fd:FuncData} {ps:List Str} {sp sp':Sp} (F:FnOk P w K mg base CX k f fd ps sp)
  (h:∀ vs H Q E,sp' vs H Q E→sp vs H Q E):FnOk P w K mg base CX k f fd ps sp':=
 ⟨fun vs H Q E q=>F.len vs H Q E (h _ _ _ _ q),fun A outer s H args us vs Q E hr he hb hv hs=>F.run A outer s H args us vs Q E hr he hb hv (h _ _ _ _ hs)⟩
theorem Env0.make {P:Program} {w:World} {K:W.Frag} {mg:Str→Option Value} {base:Heap} {A:Around} {outer:List Env} {s:Shared} {H:Hp} (e:Env0 P w K mg base A outer s H) (C:Addr) (us:List Value) (kw:List (Str×Value)) :
  Env0 P w K mg base (A.under (.builtin "type.__call__" ⟨.ref C :: us,kw⟩)) outer s H:=⟨by first | exact e.frames | (simpa [Around.under,Code.envs,Code.isFrame,pushEnvs] using e.frames),e.mod,e.bs,e.bsz,e.funs,e.frf,e.hok,e.bare⟩
section
variable {X:Cx} {pins:List (Addr×Obj)} {σ:St} {H:Hp} {s s':Shared}
theorem Inv.env0 (I:Inv X pins σ H s):Env0 X.prog X.w X.K X.mg X.base X.A X.stack s H:=
 ⟨I.ok.frames,I.ok.mod,I.bs,Nat.le_trans I.ok.bsz I.sz,I.stack,I.stkFree,I.hok,I.bare⟩
theorem Inv.after {Q:VK} {u:Value} (I:Inv X pins σ H s) (h:CE X.stack X.prog X.w H s Q u s'):EP X pins σ Q u s':=by
 obtain ⟨v,H',os,bare,un,hok,r,q⟩:=h
 obtain ⟨hh,g,d,t,os'⟩:=s'
 obtain rfl:os'=s.os:=os
 exact ⟨v,H',I.call (h':=hh) (g':=g) (d':=d) (t':=t) (ch:=[]) un hok bare (fun b z=>absurd z (by simp)),r,q⟩
end
def zGa (sp:Sp) (dvs:List V) (E:XK) (t:TA):TE:=fun σ H Q=>t σ H fun vs H1=>sp (vs++dvs) H1 Q E
def zDz (C:Addr) (m:Str) (sp:Sp) (dvs:List V) (E:XK) (ta:TE) (t:TA):TE:=fun σ H Q=>ta σ H fun x H1=>∃ a dx fs,x=.ref a∧H1 a=some (.ins C dx fs)∧fs.lookup m=none∧
 t σ H1 fun vs H2=>sp (x :: (vs++dvs)) H2 Q E
def zGb (C:Addr) (sp:Sp) (dvs:List V) (E:XK) (t:TA):TE:=fun σ H Q=>t σ H fun vs H1=>∀ x dx,H1 x=none→H1 dx=none→dx≠x→
 sp (.ref x :: (vs++dvs)) (upd (upd H1 dx (.own x)) x (.ins C dx [])) (fun v H2=>v=.non∧Q (.ref x) H2) E
def Binds (K:W.Frag) (fd:FuncData) (ps:List Str) (ds:List Value):Prop:=
 ∀ (s:Shared) (us:List Value),K.In s.heap→(us++ds).length=ps.length→BindsTo s fd ⟨us,[]⟩ (ps.zip (us++ds))
theorem Binds.all {K:W.Frag} {fd:FuncData} {ps:List Str} (h:∀ us:List Value,us.length=ps.length→bindArgs fd ⟨us,[]⟩=pure (ps.zip us)):Binds K fd ps []:=fun s us _ hl=>by
 rw [List.append_nil] at hl ⊢
 exact .of_eq (h us hl)
def zpz (CX:CXT) (X:Cx) (E:XK):Prop:=∀ (pins:List (Addr×Obj)) (σ:St) (H:Hp) (s:Shared) (e:Value) (s':Shared),Inv X pins σ H s→CX X.stack H s E e s'→X.xe e s'
section
variable {X:Cx} {CX:CXT} {k:Nat} {f C:Addr} {fd:FuncData} {ps:List Str} {sp:Sp} {dvs:List V} {ds:List Value} {E:XK} {x m:Str} {p pos apos:Pos} {e o:Expr} {es:List Expr} {ta:TE} {t:TA}
theorem zyZ {pins:List (Addr×Obj)} {σ:St} {H:Hp} {s:Shared} {Q:VK} {us:List Value} {vs:List V} (F:FnOk X.prog X.w X.K X.mg X.base CX k f fd ps sp) (hr:Room k X.A) (hb:Binds X.K fd ps ds) (hd:Vals dvs ds) (hx:zpz CX X E)
  (I:Inv X pins σ H s) (r:Vals vs us) (h:sp (vs++dvs) H Q E):wpAny (model X.prog X.w) X.A (call (.ref f) us) (EP X pins σ Q) X.xe s:=by
 have r2:Vals (vs++dvs) (us++ds):=r.append hd
 have hl:(us++ds).length=ps.length:=by rw [← r2.length]; exact F.len _ _ _ _ h
 refine wpAny_call (codeAny_mono (F.run X.A X.stack s H ⟨us,[]⟩ (us++ds) (vs++dvs) Q E hr I.env0 (hb s us I.kIn hl) r2 h) fun r s' hq=>?_)
 cases r with
 | error e=>exact hx pins σ H s e s' I hq
 | ok fl=>
  cases fl with
  | ret u=>exact I.after hq
  | next=>exact False.elim hq
  | brk=>exact False.elim hq
  | cont=>exact False.elim hq
theorem zDA (F:FnOk X.prog X.w X.K X.mg X.base CX k f fd ps sp) (hr:Room k X.A) (hg:Gl X x) (hm:X.mg x=some (.ref f)) (hk:W.keepIn X.K (.ref f)=true) (hb:Binds X.K fd ps ds) (hd:Vals dvs ds) (hx:zpz CX X E)
  (ha:PA X (e :: es) t) (hdb:(x==("__debug__":Str))=false:=by decide) (he:starEach (e :: es) X.env=(false,eval e X.env) :: starEach es X.env:=by rfl) (hpl:(backTo pos (starEach es X.env)).any (·.1)=false:=by rfl) :
  PE X (.Call (.Name x p) (e :: es) [] pos) (zGa sp dvs E t):=by
 intro pins s σ H Q I h
 refine wpAny_Call_Name_kw (zvy I hg hm ?_ hdb)
 refine W.callWith_K (h₀:=X.base) I.ok.mod.kin hk (thn (ha pos pins s σ H _ I h) fun us s1 ⟨vs,H1,I1,r,q⟩=>⟨I1.kIn,?_⟩) he hpl
 exact zyZ F hr hb hd hx I1 r q
theorem zDB {pl : Sem Bool} (he : PE X o ta) (c : Cls X.K C) (hm : Meth X.K C m f) (F : FnOk X.prog X.w X.K X.mg X.base CX k f fd ps sp) (hr : Room k X.A) (hb : Binds X.K fd ps ds) (hd : Vals dvs ds) (hx : zpz CX X E) (ha : PA X (e :: es) t)
    (hst : starEach (e :: es) X.env = (false, eval e X.env) :: starEach es X.env := by rfl) (hpl : (backTo pos (starEach es X.env)).any (·.1) = false := by rfl)
    (ht : eval (.Call (.Attribute o m apos) (e :: es) [] pos) X.env = (do
      let ov ← eval o X.env
      standAt apos.atName
      let (f, first) ← holding [ov] (getMethod ov m pl)
      callWith pos f first (backTo pos (starEach (e :: es) X.env)) (backToKw pos (keywordEach [] X.env))) := by rfl) :
    PE X (.Call (.Attribute o m apos) (e :: es) [] pos) (zDz C m sp dvs E ta t) := by
  intro pins s σ H Q I h
  refine W.methodCall_KW (pl := pl) (thn (he pins s σ H _ I h) fun u s1 ⟨x, H1, I1, rx, a, dx, fs, ex, ea, l, q⟩ => ?_) ht
  subst ex
  obtain rfl : u = Value.ref a := rx
  refine zrN I1 ea c hm l ?_
  refine W.callWith_K (first := [.ref a]) (h₀ := X.base) I.ok.mod.kin hm.kp (thn (ha pos pins s1 σ H1 _ I1 q) fun us s2 ⟨vs, H2, I2, r, q2⟩ => ⟨I2.kIn, ?_⟩) hst hpl
  exact zyZ (us := .ref a :: us) (vs := .ref a :: vs) F hr hb hd hx I2 (.cons rfl r) q2
theorem zBw {pl : Sem Bool} (he : PE X o ta) (c : Cls X.K C) (hm : Meth X.K C m f) (F : FnOk X.prog X.w X.K X.mg X.base CX k f fd ps sp) (hr : Room k X.A) (hb : Binds X.K fd ps ds) (hd : Vals dvs ds) (hx : zpz CX X E)
    (ht : eval (.Call (.Attribute o m apos) [] [] pos) X.env = (do
      let ov ← eval o X.env
      standAt apos.atName
      let (f, first) ← holding [ov] (getMethod ov m pl)
      callWith pos f first (backTo pos (starEach [] X.env)) (backToKw pos (keywordEach [] X.env))) := by rfl) :
    PE X (.Call (.Attribute o m apos) [] [] pos) (zDz C m sp dvs E ta zFq) := by
  intro pins s σ H Q I h
  refine W.methodCall_KW (pl := pl) (thn (he pins s σ H _ I h) fun u s1 ⟨x, H1, I1, rx, a, dx, fs, ex, ea, l, q⟩ => ?_) ht
  subst ex
  obtain rfl : u = Value.ref a := rx
  refine zrN I1 ea c hm l ?_
  exact W.callWith_K0 (first := [.ref a]) I1.kIn hm.kp (zyZ (us := [.ref a]) (vs := [.ref a]) F hr hb hd hx I1 (.cons rfl .nil) q)
structure Mk (K:W.Frag) (C f:Addr):Prop where
 makes:W.makesIn K C=true
 init:W.findIn K (.ref C) "__init__"=some (some (.ref f))
 fn:W.isFn K (.ref f)=true
 kp:W.keepIn K (.ref C)=true
theorem zBx {pins:List (Addr×Obj)} {σ:St} {H:Hp} {s:Shared} {Q:VK} {us:List Value} {vs:List V} (M:Mk X.K C f) (F:FnOk X.prog X.w X.K X.mg X.base CX k f fd ps sp) (hr:Room (k+1) X.A) (hb:Binds X.K fd ps ds) (hd:Vals dvs ds)
  (hx:zpz CX X E) (I:Inv X pins σ H s) (r:Vals vs us)
  (h:∀ x dx,H x=none→H dx=none→dx≠x→sp (.ref x :: (vs++dvs)) (upd (upd H dx (.own x)) x (.ins C dx [])) (fun v H2=>v=.non∧Q (.ref x) H2) E) :
  wpAny (model X.prog X.w) X.A (call (.ref C) us) (EP X pins σ Q) X.xe s:=by
 have hq:=h (s.heap.objs.size+1) s.heap.objs.size (I.hok.fresh (Nat.le_succ _)) (I.hok.fresh (Nat.le_refl _)) (Nat.ne_of_lt (Nat.lt_succ_self _))
 have I2:=Inv.made (C:=C) I
 have r2:Vals (V.ref (s.heap.objs.size+1) :: (vs++dvs)) (Value.ref (s.heap.objs.size+1) :: (us++ds)):=.cons rfl (r.append hd)
 have hl:(Value.ref (s.heap.objs.size+1) :: us++ds).length=ps.length:=by
  have e:=r2.length
  rw [F.len _ _ _ _ hq] at e
  exact e.symm
 refine wpAny_call (zBv (f:=f) I.kIn M.makes M.init (beq_iff_eq.mp M.fn) (codeAny_mono (F.run _ X.stack _ _ ⟨Value.ref (s.heap.objs.size+1) :: us,[]⟩ (Value.ref (s.heap.objs.size+1) :: (us++ds)) _ _ E (hr.make C us [])
  (I2.env0.make C us []) (hb _ (Value.ref (s.heap.objs.size+1) :: us) I2.kIn hl) r2 hq) fun r s' hq'=>?_))
 cases r with
 | error e=>exact hx pins σ _ _ e s' I2 hq'
 | ok fl=>
  cases fl with
  | ret u=>
   obtain ⟨v,H',I3,rv,ev,q3⟩:=I2.after hq'
   subst ev
   exact ⟨rv,⟨V.ref (s.heap.objs.size+1),H',I3,rfl,q3⟩⟩
  | next=>exact False.elim hq'
  | brk=>exact False.elim hq'
  | cont=>exact False.elim hq'
theorem zDC (M:Mk X.K C f) (F:FnOk X.prog X.w X.K X.mg X.base CX k f fd ps sp) (hr:Room (k+1) X.A) (hg:Gl X x) (hm:X.mg x=some (.ref C)) (hb:Binds X.K fd ps ds) (hd:Vals dvs ds) (hx:zpz CX X E)
  (ha:PA X (e :: es) t) (hdb:(x==("__debug__":Str))=false:=by decide) (he:starEach (e :: es) X.env=(false,eval e X.env) :: starEach es X.env:=by rfl) (hpl:(backTo pos (starEach es X.env)).any (·.1)=false:=by rfl) :
  PE X (.Call (.Name x p) (e :: es) [] pos) (zGb C sp dvs E t):=by
 intro pins s σ H Q I h
 refine wpAny_Call_Name_kw (zvy I hg hm ?_ hdb)
 refine W.callWith_K (h₀:=X.base) I.ok.mod.kin M.kp (thn (ha pos pins s σ H _ I h) fun us s1 ⟨vs,H1,I1,r,q⟩=>⟨I1.kIn,?_⟩) he hpl
 exact zBx M F hr hb hd hx I1 r q
end
section
variable {X:Cx} {CX:CXT} {k:Nat} {f C:Addr} {fd:FuncData} {ps ks:List Str} {sp:Sp} {E:XK} {x m:Str} {p pos apos kpos:Pos} {e o:Expr} {es:List Expr} {kws:List Keyword} {te ta:TE} {t tk:TA} {nm:Option Str}
variable {g:List Value→List Value→List Value} {gV:List V→List V→List V}
end
structure FnScope (N P:List Str) (sc:Scope):Prop where
 kind:sc.kind=.function
 co:sc.isCoroutine=false
 gen:sc.isGenerator=false
 nd:N.Nodup
 pre:N.take P.length=P
 par:∀ x∈P,sc.names.lookup x=some .local∨sc.names.lookup x=some .cell
 nofree:∀ y∈sc.names,y.2≠.free
theorem zuf {kindOf:Str→Option NameKind} {x:Str}:∀ {binds:List (Str×Value)} {m:Str→Option Value},(∀ v,(x,v)∉binds)→bindL kindOf binds m x=m x
 | [],_,_=>rfl
 | (n,v) :: r,m,h=>by
  unfold bindL
  rw [zuf fun w hw=>h w (List.mem_cons_of_mem _ hw)]
  split
  ·have:x≠n:=by rintro rfl; exact h v List.mem_cons_self
   simp [this]
  ·rfl
theorem zug {kindOf:Str→Option NameKind} {x:Str}:∀ {binds:List (Str×Value)} {m:Str→Option Value},(∀ v,(x,v)∉binds)→bindC kindOf binds m x=m x
 | [],_,_=>rfl
 | (n,v) :: r,m,h=>by
  unfold bindC
  rw [zug fun w hw=>h w (List.mem_cons_of_mem _ hw)]
  split
  ·rfl
  ·have:x≠n:=by rintro rfl; exact h v List.mem_cons_self
   simp [this]
theorem zuh {kindOf:Str→Option NameKind} {x:Str} {v:Value}:∀ {P:List Str} {vs:List Value} {i:Nat} {m:Str→Option Value},P.Nodup→P[i]? = some x→vs[i]? = some v→kindOf x=some .local→
  bindL kindOf (P.zip vs) m x=some v
 | [],_,_,_,_,h,_,_=>by simp at h
 | _ :: _,[],_,_,_,_,h,_=>by simp at h
 | p :: P,w :: vs,0,m,nd,h1,h2,hk=>by
  simp at h1 h2; subst h1; subst h2
  show bindL kindOf ((p,w) :: P.zip vs) m p=_
  unfold bindL
  rw [zuf fun v hv=>(List.nodup_cons.mp nd).1 (List.of_mem_zip hv).1,if_pos hk]
  simp
 | p :: P,w :: vs,i+1,m,nd,h1,h2,hk=>by
  show bindL kindOf ((p,w) :: P.zip vs) m x=_
  unfold bindL
  exact zuh (i:=i) (List.nodup_cons.mp nd).2 (by simpa using h1) (by simpa using h2) hk
theorem zui {kindOf:Str→Option NameKind} {x:Str} {v:Value}:∀ {P:List Str} {vs:List Value} {i:Nat} {m:Str→Option Value},P.Nodup→P[i]? = some x→vs[i]? = some v→kindOf x≠some .local→
  bindC kindOf (P.zip vs) m x=some v
 | [],_,_,_,_,h,_,_=>by simp at h
 | _ :: _,[],_,_,_,_,h,_=>by simp at h
 | p :: P,w :: vs,0,m,nd,h1,h2,hk=>by
  simp at h1 h2; subst h1; subst h2
  show bindC kindOf ((p,w) :: P.zip vs) m p=_
  unfold bindC
  rw [zug fun v hv=>(List.nodup_cons.mp nd).1 (List.of_mem_zip hv).1,if_neg hk]
  simp
 | p :: P,w :: vs,i+1,m,nd,h1,h2,hk=>by
  show bindC kindOf ((p,w) :: P.zip vs) m x=_
  unfold bindC
  exact zui (i:=i) (List.nodup_cons.mp nd).2 (by simpa using h1) (by simpa using h2) hk
def zm7 (N:List Str) (vs:List V):St:=vs.map some++List.replicate (N.length-vs.length) none
def zBy (CX:CXT) (P:Program) (w:World) (K:W.Frag) (mg:Str→Option Value) (base:Heap) (N:List Str) (qual:Str) (scope:Scope) (f:Addr) (cd:Value) (A:Around) (outer:List Env) (s:Shared) (H:Hp) (E:XK):Cx where
 prog:=P
 w:=w
 K:=K
 mg:=mg
 base:=base
 A:=A.deeper (envOfC qual scope s.heap.objs.size f cd)
 N:=N
 s₀:=s
 H₀:=H
 env:=envOfC qual scope s.heap.objs.size f cd
 outer:=outer
 stack:=envOfC qual scope s.heap.objs.size f cd :: outer
 ex:=[]
 calm:=true
 fn:=fun _=>true
 pn:=[]
 xe:=fun e s'=>wpAny (model P w) (A.deeper (envOfC qual scope s.heap.objs.size f cd)) (leaving (envOfC qual scope s.heap.objs.size f cd) e) (fun _ s''=>CX outer H s E e s'') (fun e' s''=>CX outer H s E e' s'') s'
theorem zxg {sc:Scope} {n:Nat} {x:Str} (h:sc.names.lookup x=some .cell):∃ c,(cellsFrom n sc.names []).lookup x=some c:=by
 have q:=W.cellsFrom_some sc.names n [] (.inl h)
 exact Option.isSome_iff_exists.mp q
theorem zy0 {CX:CXT} {P:Program} {w:World} {K:W.Frag} {mg:Str→Option Value} {base:Heap} {N ps:List Str} {qual:Str} {scope:Scope} {f:Addr} {cd:Value} {A:Around} {outer:List Env} {s s1:Shared} {H:Hp} {E:XK} {us:List Value} {vs:List V}
  (S:FnScope N ps scope) (hd:A.handled=none) (e0:Env0 P w K mg base A outer s H) (hl:vs.length=ps.length) (r:Vals vs us)
  (x:InCallC s s.heap.objs.size (bindL (envOfC qual scope s.heap.objs.size f cd).kindOf (ps.zip us) fun _=>none) (cellsFrom (s.heap.objs.size+1) scope.names []) (bindC (envOfC qual scope s.heap.objs.size f cd).kindOf (ps.zip us) fun _=>none) s1) :
  Inv (zBy CX P w K mg base N qual scope f cd A outer s H E) [] (zm7 N vs) H s1:=by
 have hpl:ps.length≤N.length:=by have:=congrArg List.length S.pre; rw [List.length_take] at this; omega
 obtain ⟨h1,tk,rfl,hk⟩:=x.done
 have noA:∀ b:Addr,b∉(zBy CX P w K mg base N qual scope f cd A outer s H E).ex:=fun b z=>absurd (show b∈([]:List Addr) from z) (by simp)
 refine ⟨⟨e0.mod,S.kind,rfl,rfl,Nat.le_refl _,fun y z c h1 h2=>?_,fun y hy=>?_,fun y c _ h=>?_,fun _=>hd,Around.frames_deeper e0.frames,.inr ⟨rfl,rfl⟩,fun b z=>absurd z (noA b),e0.bs,e0.bsz,fun b _ _=>noA b,fun b z=>absurd z (noA b),e0.funs,e0.frf⟩,
  rfl,e0.bare,Un.kept hk,⟨_,x.toInCall.ns,fun i y v h1 h2 h3=>?_⟩,fun y c h=>⟨_,x.cell y c h⟩,e0.hok.fresh (Nat.le_refl _),fun y c h=>?_,fun p hp=>absurd (show p∈([]:List (Addr×Obj)) from hp) (by simp),e0.hok.kept hk,?_⟩
 ·exact name_of_addr x.apart (PySem.mem_of_lookup h1) (PySem.mem_of_lookup h2)
 ·have hy:scope.names.lookup y=some .cell∨scope.names.lookup y=some .free:=hy
  rcases hy with hy | hy
  ·exact zxg hy
  ·exact absurd rfl (S.nofree _ (PySem.mem_of_lookup hy))
 ·exact Nat.le_of_lt (x.above y c (PySem.mem_of_lookup h))
 ·have hi:i < vs.length:=by
   unfold zm7 at h2
   by_cases hi:i < vs.length
   ·exact hi
   ·rw [List.getElem?_append_right (by simpa using hi)] at h2
    rw [List.getElem?_replicate] at h2
    split at h2 <;> cases h2
  have ha:vs[i]? = some v:=by
   unfold zm7 at h2
   rw [List.getElem?_append_left (by simpa using hi),List.getElem?_map] at h2
   cases e:vs[i]? with
   | none=>rw [e] at h2; cases h2
   | some a=>rw [e] at h2; cases h2; rfl
  obtain ⟨u,hu,rv⟩:=r.get ha
  have hp:ps[i]? = some y:=by
   rw [← S.pre,List.getElem?_take_of_lt (by omega)]; exact h1
  have ndP:ps.Nodup:=by rw [← S.pre]; exact S.nd.sublist (List.take_sublist _ _)
  refine ⟨u,rv,?_⟩
  rcases S.par y (List.mem_of_getElem? hp) with k | k
  ·exact .inl ⟨k,zuh ndP hp hu k⟩
  ·obtain ⟨c,e⟩:=zxg (n:=s.heap.objs.size+1) k
   refine .inr ⟨.inl k,c,e,?_⟩
   have q:=x.cell y c e
   rw [zui ndP hp hu (by show scope.names.lookup y≠_; rw [k]; decide)] at q
   exact q
 ·exact e0.hok.fresh (Nat.le_of_lt (x.above y c (PySem.mem_of_lookup h)))
 ·unfold zm7
  show _=N.length
  rw [List.length_append,List.length_map,List.length_replicate]
  omega
theorem zGc {CX : CXT} {P : Program} {w : World} {K : W.Frag} {mg : Str → Option Value} {base : Heap} {k : Nat} {f : Addr} {name qual : Str} {params : Arguments} {body : List Stmt} {scope : Scope} {dV kV doc pm cdv ct oc : Value} {an od : Option Addr}
    {osl : Array (Option Value)} {N ps : List Str} {sp : Sp} (lk : K.lookup f = some ⟨oc, od, .func (W.fnOf name qual params body scope dV kV doc pm an cdv ct), osl⟩) (hcd : W.codeIn K cdv qual = true) (S : FnScope N ps scope)
    (len : ∀ vs H Q E, sp vs H Q E → vs.length = ps.length)
    (hbody : ∀ (A : Around) (outer : List Env) (s : Shared) (H : Hp) (vs : List V) (Q : VK) (E : XK), Room k (A.deeper (envOfC qual scope s.heap.objs.size f cdv)) → sp vs H Q E →
      ∃ t, PSs (zBy CX P w K mg base N qual scope f cdv A outer s H E) body t ∧ t { nx := fun _ H' => Q .non H', rt := Q } (zm7 N vs) H) :
    FnOk P w K mg base CX (k + 1) f (W.fnOf name qual params body scope dV kV doc pm an cdv ct) ps sp := by
  refine ⟨len, fun A outer s H args us vs Q E hr e0 hb r hsp => ?_⟩
  have hl := len _ _ _ _ hsp
  have KX : K.In s.heap := e0.mod.kin.keeps fun b o e => (e0.bs b o e).1
  have lim : s.heap.NoLimit := e0.mod.nolimit.keeps fun b o e => (e0.bs b o e).1
  have hkind : ∀ y ∈ ps.zip us, scope.names.lookup y.1 = some .local ∨ (scope.names.lookup y.1 = some .cell ∧ ((cellsFrom (s.heap.objs.size + 1) scope.names []).lookup y.1).isSome = true) := fun ⟨n, v⟩ hy => by
    rcases S.par n (List.of_mem_zip hy).1 with q | q
    · exact .inl q
    · exact .inr ⟨q, W.cellsFrom_some _ _ _ (.inl q)⟩
  refine codeAny_call_function hr.depth (KX _ _ lk) rfl S.co S.gen rfl (W.codeRec_of KX hcd) (hb _ _ _ _ ?_)
  refine wpAny_newFunctionEnv_cells S.kind hkind fun env he s1 x => ?_
  subst he
  refine ⟨lim.keeps x.toInCall.keep, codeAny_func ?_⟩
  obtain ⟨t, ht, hq⟩ := hbody A outer s H vs Q E (hr.deeper _) hsp
  have I : Inv (zBy CX P w K mg base N qual scope f cdv A outer s H E) [] (zm7 N vs) H s1 := zy0 S hr.hd e0 hl r x
  refine wpAny_mono (ht [] s1 (zm7 N vs) H _ I hq) (fun fl s' hs => ?_) fun e s' hs => hs
  have fin : ∀ {σ' : St} {H' : Hp} {v : V} {u : Value}, Inv (zBy CX P w K mg base N qual scope f cdv A outer s H E) [] σ' H' s' → RelV v u → Q v H' → CE outer P w H s Q u s' :=
    fun {σ' H' v u} J rv q => ⟨v, H', J.os, J.bare, J.base, J.hok, rv, q⟩
  cases fl with
  | ret u =>
    obtain ⟨v, σ', H', J, rv, q⟩ := hs
    exact fin J rv q
  | next =>
    obtain ⟨σ', H', J, q⟩ := hs
    exact fin (v := V.non) (u := Value.none) J rfl q
  | brk =>
    obtain ⟨_, _, _, q⟩ := hs
    exact False.elim q
  | cont =>
    obtain ⟨_, _, _, q⟩ := hs
    exact False.elim q
end L2
namespace L2
open PySem PySem.Spec PyProof.Rows
section
variable {X:Cx} {x:Str} {p pos:Pos} {e:Expr} {es:List Expr} {t:TA} {id T:String} {r:List V→Hp→VK→Prop}
def tCB (r:List V→Hp→VK→Prop) (t:TA):TE:=fun σ H Q=>t σ H fun vs H1=>r vs H1 Q
theorem zBz (hc:CallR X (.builtin id) r) (hg:Gl X x) (hm:X.mg x=none) (hv:bootBuiltins x=some (.builtin id)) (ha:PA X (e :: es) t) (hn:x≠"__name__":=by decide) (hdb:(x==("__debug__":Str))=false:=by decide)
  (he:starEach (e :: es) X.env=(false,eval e X.env) :: starEach es X.env:=by rfl) (hpl:(backTo pos (starEach es X.env)).any (·.1)=false:=by rfl):PE X (.Call (.Name x p) (e :: es) [] pos) (tCB r t):=by
 intro pins s σ H Q I h
 refine wpAny_Call_Name_kw (zub I hg hm hv ?_ hn hdb)
 exact PyProof.Rows.callWith_builtin1 (thn (ha pos pins s σ H _ I h) fun us s1 ⟨vs,H1,I1,r1,q1⟩=>hc pins s1 σ H1 vs us Q I1 r1 q1) he hpl
theorem zy1 (hc:CallR X (.type T) r) (hg:Gl X x) (hm:X.mg x=none) (hv:bootBuiltins x=some (.type T)) (ha:PA X (e :: es) t) (hn:x≠"__name__":=by decide) (hdb:(x==("__debug__":Str))=false:=by decide)
  (he:starEach (e :: es) X.env=(false,eval e X.env) :: starEach es X.env:=by rfl) (hpl:(backTo pos (starEach es X.env)).any (·.1)=false:=by rfl):PE X (.Call (.Name x p) (e :: es) [] pos) (tCB r t):=by
 intro pins s σ H Q I h
 refine wpAny_Call_Name_kw (zub I hg hm hv ?_ hn hdb)
 exact PyProof.Rows.callWith_type1 (thn (ha pos pins s σ H _ I h) fun us s1 ⟨vs,H1,I1,r1,q1⟩=>hc pins s1 σ H1 vs us Q I1 r1 q1) he hpl
end
end L2
namespace HT
open PySem PyProof.Rows
section
open PySem.SeqAt
open PySem.AutoSeq1 (wpAny_loadPart')
open PySem.MeetsSeq PySem.MeetsSeq2 PySem.MeetsSeq3
end
section
variable {prog:Program} {w:World} {A:Around} {E:Value→Shared→Prop} {s:Shared}
theorem cat_tup {t b:Addr} {vs ws:List Value} {Q:Value→Shared→Prop} (ht:IsTup s.heap t vs.toArray) (hb:IsTup s.heap b ws.toArray) (hv:vs≠[])
  (h1:ws=[]→Q (.ref t) s) (h2:ws≠[]→Q (.ref s.heap.objs.size) { s with heap:=s.heap.push { cls:=.type "tuple",data:=.seq (vs++ws).toArray } })
  (hsz:vs.length+ws.length≤sizeLine):wpAny (model prog w) A (binaryOp .Add (.ref t) (.ref b)) Q E s:=by
 obtain ⟨⟨cls,dd,data,sl⟩,ho,hc,n,hd⟩:=id ht
 obtain ⟨⟨cls2,dd2,data2,sl2⟩,ho2,hc2,n2,hd2⟩:=id hb
 simp only at hc hd hc2 hd2
 subst hc hd hc2 hd2
 have e:vs.toArray++ws.toArray=(vs++ws).toArray:=by simp
 by_cases hw:ws=[]
 ·exact concat_meets ⟨_,ho,rfl⟩ ⟨_,ho2,rfl⟩ noFill_tuple_add seq_tuple_add PySem.F.slot_tuple_add PySem.F.entry_tuple_add (PySem.F.args_tuple_add_2 _ _)
   (tuple_addW1 t b vs.toArray ws.toArray n n2 dd dd2 sl sl2 (by simpa using hv) (by simp [hw])) ⟨ho,ho2,h1 hw⟩
 ·refine concat_meets ⟨_,ho,rfl⟩ ⟨_,ho2,rfl⟩ noFill_tuple_add seq_tuple_add PySem.F.slot_tuple_add PySem.F.entry_tuple_add (PySem.F.args_tuple_add_2 _ _)
   (tuple_addW2 t b vs.toArray ws.toArray n n2 dd dd2 sl sl2 (by simpa using hv) (by simpa using hw) (by rw [List.size_toArray,List.size_toArray]; exact hsz)) ⟨ho,ho2,?_⟩
  rw [e]
  exact h2 hw
def sIx (n d:Nat):Option Int→Nat
 | none=>d
 | some v=>if v < 0 then (v+(n:Int)).toNat else min v.toNat n
theorem sIx_none (n d:Nat):sIx n d none=d:=rfl
theorem sIx_nat (n d k:Nat):sIx n d (some (k:Int))=min k n:=by
 show (if (k:Int) < 0 then ((k:Int)+(n:Int)).toNat else min (k:Int).toNat n)=min k n
 rw [if_neg (by omega),Int.toNat_natCast]
theorem zGd (n d:Nat) (hd:d≤n) (o:Option Int):sIx n d o≤n:=by
 cases o with
 | none=>exact hd
 | some v=>
  show (if v < 0 then (v+(n:Int)).toNat else min v.toNat n)≤n
  by_cases hv:v < 0
  ·rw [if_pos hv]; omega
  ·rw [if_neg hv]; exact Nat.min_le_right _ _
theorem zy2 (v:Int) (n d:Nat):(if v < 0 then max (v+(n:Int)) 0 else min v (n:Int))=((sIx n d (some v):Nat):Int):=by
 show (if v < 0 then max (v+(n:Int)) 0 else min v (n:Int))=(((if v < 0 then (v+(n:Int)).toNat else min v.toNat n):Nat):Int)
 by_cases hv:v < 0
 ·simp only [if_pos hv]; omega
 ·simp only [if_neg hv]; omega
theorem zxU (lo hi:Option Int) (n:Nat):Builtin.Slice.sliceAdjust lo hi 1 (n:Int)=(((sIx n 0 lo:Nat):Int),((sIx n n hi:Nat):Int)):=by
 have h1:¬ ((1:Int) < 0):=by omega
 unfold Builtin.Slice.sliceAdjust
 simp only [h1,if_false]
 refine Prod.ext ?_ ?_
 ·cases lo with
  | none=>rfl
  | some v=>exact zy2 v n 0
 ·cases hi with
  | none=>rfl
  | some v=>exact zy2 v n n
theorem zxV (i j:Nat):Builtin.Slice.slicePlaces (i:Int) (j:Int) 1=j-i:=by
 unfold Builtin.Slice.slicePlaces
 have h1:(1:Int) > 0:=by omega
 simp only [h1,if_true,Int.ediv_one]
 split <;> omega
theorem zrO {v:Value} {o:Option Int} {Q:Option Int→Shared→Prop} (p:IsPart v o) (h:Q o s):wpAny (model prog w) A (Builtin.Slice.slicePartIndex v) Q E s:=by
 cases p with
 | none=>exact slicePart_none h
 | int i t=>exact slicePart_int h
theorem zo4 {sl:Addr} {vl vu:Value} {lo hi:Option Int} {n:Nat} {Q:Int×Int×Nat→Shared→Prop} (hs:s.heap.IsSliceOf sl vl vu .none) (pl:IsPart vl lo) (pu:IsPart vu hi)
  (h:Q (((sIx n 0 lo:Nat):Int),1,sIx n n hi-sIx n 0 lo) s):wpAny (model prog w) A (Builtin.Slice.sliceApplied (.ref sl) (pure (n:Int))) Q E s:=by
 obtain ⟨os,hos,hcs,hds⟩:=id hs
 unfold Builtin.Slice.sliceApplied Builtin.Slice.sliceFields
 refine wpAny_bind (wpAny_bind (wpAny_field hos hds (x:=vl) rfl (wpAny_bind (wpAny_field hos hds (x:=vu) rfl (wpAny_bind (wpAny_field hos hds (x:=.none) rfl (wpAny_pure ?_)))))))
 refine wpAny_bind (slicePart_none ?_)
 show wpAny _ _ (if ((1:Int)==0)=true then _ else _) _ _ s
 rw [if_neg (by decide)]
 refine wpAny_bind (zrO pl (wpAny_bind (zrO pu (wpAny_bind (wpAny_pure ?_)))))
 show wpAny _ _ (match Builtin.Slice.sliceAdjust lo hi 1 (n:Int) with | (lo,hi)=>pure (lo,(1:Int),Builtin.Slice.slicePlaces lo hi 1)) _ _ s
 rw [zxU lo hi n]
 show wpAny _ _ (pure (((sIx n 0 lo:Nat):Int),(1:Int),Builtin.Slice.slicePlaces ((sIx n 0 lo:Nat):Int) ((sIx n n hi:Nat):Int) 1)) _ _ s
 rw [zxV]
 exact wpAny_pure h
theorem zBA (xs:Array Value) (i k:Nat):((List.range k).filterMap fun (m:Nat)=>xs[((i:Int)+(m:Int)*1).toNat]?).toArray=((xs.toList.drop i).take k).toArray:=by
 have e:(fun (m:Nat)=>xs[((i:Int)+(m:Int)*1).toNat]?)=fun m=>xs[i+m]?:=by
  funext m
  have:((i:Int)+(m:Int)*1).toNat=i+m:=by omega
  rw [this]
 rw [e]
 have:=pick_run xs i k
 rw [List.filterMap_map] at this
 have e2:((fun x=>xs[x]?) ∘ fun x=>i+x)=fun m=>xs[i+m]?:=rfl
 rw [e2] at this
 rw [this]
theorem getItem_tuple_cut {t sl:Addr} {items:Array Value} {vl vu:Value} {lo hi:Option Int} {Q:Value→Shared→Prop} (ht:IsTup s.heap t items) (hs:s.heap.IsSliceOf sl vl vu .none) (pl:IsPart vl lo) (pu:IsPart vu hi)
  (hw:¬ (sIx items.size 0 lo=0∧sIx items.size items.size hi=items.size))
  (h:Q (.ref s.heap.objs.size) { s with heap:=s.heap.push { cls:=.type "tuple",data:=.seq ((items.toList.drop (sIx items.size 0 lo)).take (sIx items.size items.size hi-sIx items.size 0 lo)).toArray } })
  (hsz:items.size≤sizeLine):wpAny (model prog w) A (getItem (.ref t) (.ref sl)) Q E s:=by
 have htake:sizeOk (.seq ((items.toList.drop (sIx items.size 0 lo)).take (sIx items.size items.size hi-sIx items.size 0 lo)).toArray):=by
  show ((items.toList.drop (sIx items.size 0 lo)).take (sIx items.size items.size hi-sIx items.size 0 lo)).toArray.size≤sizeLine
  rw [List.size_toArray,List.length_take,List.length_drop,Array.length_toList]
  omega
 have hj:sIx items.size items.size hi≤items.size:=zGd _ _ (Nat.le_refl _) hi
 obtain ⟨os,hos,hcs,hds⟩:=id hs
 have hTs:s.TypeIs (.ref sl) "slice":=⟨os,hos,hcs⟩
 unfold getItem
 try with_reducible refine wpAny_holding ?_
 first | refine wpAny_bind (wpAny_pure ?_) | skip
 refine wpAny_bind (wpAny_sequenceKey ht.typeIs (by decide) ?_)
 refine wpAny_bind (wpAny_callSpecial?_slot (name:=Str.ofString "__getitem__") ht.typeIs PyProof.Rows.slot_tuple_getitem
  (wpAny_call_entry PyProof.Rows.slot_tuple_getitem ht.typeIs entry_tuple_getitem ?_ (args_tuple_getitem _ _)))
 show wpAny _ _ (Builtin.Tuple.tupleItemsOf (.ref t) >>= _) _ _ s
 refine wpAny_bind (tupleItemsOf_ ht ?_)
 refine wpAny_bind (wpAny_typeOf hTs ?_)
 rw [if_pos (by decide)]
 refine wpAny_bind (zo4 hs pl pu ?_)
 have hno:¬ ((((sIx items.size 0 lo:Nat):Int)==0&&(1:Int)==1&&(sIx items.size items.size hi-sIx items.size 0 lo)==items.size)=true):=by
  intro q
  rw [Bool.and_eq_true,Bool.and_eq_true] at q
  have q1:((sIx items.size 0 lo:Nat):Int)=0:=eq_of_beq q.1.1
  have q2:sIx items.size items.size hi-sIx items.size 0 lo=items.size:=eq_of_beq q.2
  exact hw ⟨by omega,by omega⟩
 show wpAny _ _ (if (((sIx items.size 0 lo:Nat):Int)==0&&(1:Int)==1&&(sIx items.size items.size hi-sIx items.size 0 lo)==items.size)=true then _ else _) _ _ s
 rw [if_neg hno,zBA]
 first
  | exact wpAny_bind (m:=Builtin.Tuple.tupleExact _) (wpAny_newObj_type (wpAny_pure ⟨_,rfl,wpAny_pure h⟩) htake)
  | exact wpAny_bind (m:=Builtin.Tuple.tupleExact _) (wpAny_newObj_type (wpAny_bind (wpAny_pure (wpAny_pure ⟨_,rfl,wpAny_pure h⟩))) htake)
  | exact wpAny_bind (wpAny_bind (m:=Builtin.Tuple.tupleExact _) (wpAny_newObj_type (wpAny_pure (wpAny_pure ⟨_,rfl,wpAny_pure h⟩)) htake))
  | exact wpAny_bind (wpAny_bind (m:=Builtin.Tuple.tupleExact _) (wpAny_newObj_type (wpAny_pure ⟨_,rfl,wpAny_pure h⟩) htake))
end
end HT
namespace L2
open PySem PySem.Spec PyProof.Rows
abbrev TO:=St→Hp→(Option Int→Hp→Prop)→Prop
def PO (X:Cx) (e:Option Expr) (t:TO):Prop:=
 ∀ (pins:List (Addr×Obj)) (s:Shared) (σ:St) (H:Hp) (Q:Option Int→Hp→Prop),Inv X pins σ H s→t σ H Q→
  wpAny (model X.prog X.w) X.A (evalPart e X.env) (fun u s'=>∃ o H',Inv X pins σ H' s'∧IsPart u o∧Q o H') X.xe s
def zy3:TO:=fun _ H Q=>Q none H
def zGe (t:TE):TO:=fun σ H Q=>t σ H fun x H1=>∃ i,x=.int i∧Q (some i) H1
section
variable {X:Cx} {e:Expr} {te:TE} {lo hi:Option Expr} {tl th:TO} {pos p2:Pos}
theorem zDD:PO X none zy3:=by
 intro pins s σ H Q I h
 rw [evalPart_none]
 exact wpAny_pure ⟨none,H,I,.none,h⟩
theorem zDE (h:PE X e te):PO X (some e) (zGe te):=by
 intro pins s σ H Q I hw
 rw [evalPart_some]
 refine thn (h pins s σ H _ I hw) fun u s1 ⟨x,H1,I1,r1,q1⟩=>?_
 obtain ⟨i,rfl,q⟩:=q1
 obtain ⟨t,rfl⟩:=r1
 exact ⟨some i,H1,I1,.int i t,q⟩
def SlR (X:Cx) (r:V→Option Int→Option Int→Hp→VK→Prop):Prop:=
 ∀ (pins:List (Addr×Obj)) (s:Shared) (σ:St) (H:Hp) (x:V) (v vl vu:Value) (lo hi:Option Int) (sl:Addr) (Q:VK),Inv X pins σ H s→RelV x v→s.heap.IsSliceOf sl vl vu .none→IsPart vl lo→IsPart vu hi→r x lo hi H Q→
  ∃ T id,typeLookup (.type T) "__getitem__"=pure (some (.builtin id))∧s.TypeIs v T∧wpAny (model X.prog X.w) X.A (getItem v (.ref sl)) (EP X pins σ Q) X.xe s
theorem SlR.or {r r':V→Option Int→Option Int→Hp→VK→Prop} (h:SlR X r) (h':SlR X r'):SlR X (fun x lo hi H Q=>r x lo hi H Q∨r' x lo hi H Q):=by
 intro pins s σ H x v vl vu lo hi sl Q I rx hs pl pu q
 rcases q with q | q
 ·exact h pins s σ H x v vl vu lo hi sl Q I rx hs pl pu q
 ·exact h' pins s σ H x v vl vu lo hi sl Q I rx hs pl pu q
def tSl (r:V→Option Int→Option Int→Hp→VK→Prop) (te:TE) (tl th:TO):TE:=fun σ H Q=>te σ H fun x H1=>tl σ H1 fun l H2=>th σ H2 fun u H3=>r x l u H3 Q
theorem zBB {r:V→Option Int→Option Int→Hp→VK→Prop} (hr:SlR X r) (he:PE X e te) (hl:PO X lo tl) (hu:PO X hi th):PE X (.Subscript e (.Slice lo hi none p2) pos) (tSl r te tl th):=by
 intro pins s σ H Q I h
 refine Subscript_ (thn (he pins s σ H _ I h) fun v s1 ⟨x,H1,I1,r1,q1⟩=>?_)
 refine wpAny_Slice (thn (hl pins s1 σ H1 _ I1 q1) fun vl s2 ⟨l,H2,I2,pl,q2⟩=>thn (hu pins s2 σ H2 _ I2 q2) fun vu s3 ⟨u,H3,I3,pu,q3⟩=>?_)
 rw [evalPart_none]
 refine wpAny_pure ?_
 have I4:Inv X pins σ H3 { s3 with heap:=s3.heap.push { cls:=.type "slice",data:=.fields #[vl,vu,.none] } }:=I3.kept (t':=s3.toks) fun b ob q=>Heap.get?_push_of_some _ q
 obtain ⟨T,id,hT,ht,hg⟩:=hr pins { s3 with heap:=s3.heap.push { cls:=.type "slice",data:=.fields #[vl,vu,.none] } } σ H3 x v vl vu l u s3.heap.objs.size Q I4 r1 (Heap.IsSliceOf.new ..) pl pu q3
 show wpAny (model X.prog X.w) X.A (subscriptTail e (.Slice lo hi none p2) v (.ref s3.heap.objs.size)) (EP X pins σ Q) X.xe { s3 with heap:=s3.heap.push { cls:=.type "slice",data:=.fields #[vl,vu,.none] } }
 exact tail_any (ops:=[.ref s3.heap.objs.size,v]) ht hT hg (by with_unfolding_all rfl)
def zCI (xs:List V) (lo hi:Option Int):List V:=(xs.drop (HT.sIx xs.length 0 lo)).take (HT.sIx xs.length xs.length hi-HT.sIx xs.length 0 lo)
theorem zpA (xs:List V) (lo hi:Option Int):(zCI xs lo hi).length≤xs.length:=by
 unfold zCI
 rw [List.length_take,List.length_drop]
 omega
def zKi (K:W.Frag):V→Option Int→Option Int→Hp→VK→Prop:=fun x lo hi H Q=>∃ a xs,x=.ref a∧SqT K H a xs∧
 ¬ (HT.sIx xs.length 0 lo=0∧HT.sIx xs.length xs.length hi=xs.length)∧∀ p,H p=none→Q (.ref p) (upd H p (.tup (zCI xs lo hi)))
theorem zGf:SlR X (zKi X.K):=by
 intro pins s σ H x v vl vu lo hi sl Q I rx hs pl pu h
 obtain ⟨a,xs,rfl,hx,hw,q⟩:=h
 cases rx
 obtain ⟨its,r,ht,hz⟩:=I.tuple hx
 have hlen:its.toArray.size=xs.length:=by rw [List.size_toArray]; exact r.length.symm
 refine ⟨"tuple",_,PyProof.Rows.slot_tuple_getitem.lookup,ht.typeIs,?_⟩
 refine HT.getItem_tuple_cut ht hs pl pu (by rw [hlen]; exact hw) ?_ (by rw [hlen]; exact hz)
 rw [hlen]
 refine ⟨.ref s.heap.objs.size,_,I.laid (t':=s.toks) (o:=.tup (zCI xs lo hi)) (fun b ob q=>Heap.get?_push_of_some _ q) (Nat.le_refl _) ?_,rfl,q _ (I.hok.fresh (Nat.le_refl _))⟩
 exact ⟨Nat.le_trans (zpA xs lo hi) hz,_,(r.drop (HT.sIx xs.length 0 lo)).take (HT.sIx xs.length xs.length hi-HT.sIx xs.length 0 lo),IsTup.new _ _⟩
def zGg (K:W.Frag):R2:=fun x y H Q=>∃ a b xs ys,x=.ref a∧y=.ref b∧SqT K H a xs∧SqT K H b ys∧xs≠[]∧xs.length+ys.length≤sizeLine∧
 (ys=[]→Q (.ref a) H)∧(ys≠[]→∀ p,H p=none→Q (.ref p) (upd H p (.tup (xs++ys))))
theorem Vals.nil_iff {xs:List V} {us:List Value} (r:Vals xs us):us=[]↔xs=[]:=by
 cases r with
 | nil=>simp
 | cons _ _=>simp
theorem zDF:OpR X (binaryOp .Add) (zGg X.K):=by
 intro pins s σ H x y v u Q I rx ry h
 obtain ⟨a,b,xs,ys,rfl,rfl,ha,hb,hx,hz,q1,q2⟩:=h
 cases rx
 cases ry
 obtain ⟨its,r1,p1,_⟩:=I.tuple ha
 obtain ⟨its2,r2,p2,_⟩:=I.tuple hb
 refine HT.cat_tup p1 p2 (fun z=>hx (r1.nil_iff.mp z)) (fun z=>⟨.ref a,H,I,rfl,q1 (r2.nil_iff.mp z)⟩) (fun z=>?_) (by rw [← r1.length,← r2.length]; exact hz)
 refine ⟨.ref s.heap.objs.size,_,I.laid (t':=s.toks) (o:=.tup (xs++ys)) (fun b ob q=>Heap.get?_push_of_some _ q) (Nat.le_refl _) ?_,rfl,q2 (fun w=>z (r2.nil_iff.mpr w)) _ (I.hok.fresh (Nat.le_refl _))⟩
 exact ⟨by rw [List.length_append]; exact hz,_,r1.append r2,IsTup.new _ _⟩
end
end L2
namespace L2
open PySem PySem.Spec PyProof.Rows
def ixN (n:Nat) (i:Int):Option Nat:=if 0≤i then (if i < n then some i.toNat else none) else if -(n:Int)≤i then some (i+n).toNat else none
def atI {α:Type} (xs:List α) (i:Int):Option α:=(ixN xs.length i).bind fun j=>xs[j]?
theorem zDG {n:Nat} {i:Int} {j:Nat} (h:ixN n i=some j):seqIndex? i n=some j∧j < n∧-(n:Int)≤i∧i < n:=by
 unfold ixN at h
 by_cases h0:0≤i
 ·rw [if_pos h0] at h
  by_cases h1:i < n
  ·rw [if_pos h1] at h
   have e:i.toNat=j:=Option.some.inj h
   exact ⟨by rw [seqIndex_of h0 h1,e],by omega,by omega,h1⟩
  ·rw [if_neg h1] at h; cases h
 ·rw [if_neg h0] at h
  by_cases h1:-(n:Int)≤i
  ·rw [if_pos h1] at h
   have e:(i+n).toNat=j:=Option.some.inj h
   exact ⟨by rw [seqIndex_neg (by omega) h1,e],by omega,h1,by omega⟩
  ·rw [if_neg h1] at h; cases h
theorem zvA {α:Type} {xs:List α} {i:Int} {v:α} (h:atI xs i=some v):∃ j,seqIndex? i xs.length=some j∧xs[j]? = some v∧j < xs.length∧-(xs.length:Int)≤i∧i < xs.length:=by
 unfold atI at h
 cases e:ixN xs.length i with
 | none=>rw [e] at h; cases h
 | some j=>
  rw [e] at h
  obtain ⟨h1,h2,h3,h4⟩:=zDG e
  exact ⟨j,h1,h,h2,h3,h4⟩
def zy4 (b:Expr):Prop:=∀ o i,subscripted b false o i=operate [o,i] (getItem o i)
def IxR (X:Cx) (r:R2):Prop:=
 ∀ (value slice:Expr) (pins:List (Addr×Obj)) (s:Shared) (σ:St) (H:Hp) (x y:V) (v u:Value) (Q:VK),Inv X pins σ H s→RelV x v→RelV y u→r x y H Q→
  subscripted slice false v u=operate [v,u] (getItem v u)→wpAny (model X.prog X.w) X.A (subscriptTail value slice v u) (EP X pins σ Q) X.xe s
def MtR (X:Cx) (id:String) (r:V→List V→Hp→VK→Prop):Prop:=
 ∀ (pins:List (Addr×Obj)) (s:Shared) (σ:St) (H:Hp) (x:V) (xs:List V) (v:Value) (us:List Value) (Q:VK),Inv X pins σ H s→RelV x v→Vals xs us→r x xs H Q→
  wpAny (model X.prog X.w) X.A (call (.builtin id) (v :: us)) (EP X pins σ Q) X.xe s
section
variable {X:Cx} {a b:Expr} {ta tb:TE} {pos:Pos}
theorem IxR.or {r r':R2} (h:IxR X r) (h':IxR X r'):IxR X (fun x y H Q=>r x y H Q∨r' x y H Q):=by
 intro value slice pins s σ H x y v u Q I rx ry q hs
 rcases q with q | q
 ·exact h value slice pins s σ H x y v u Q I rx ry q hs
 ·exact h' value slice pins s σ H x y v u Q I rx ry q hs
theorem zIS {r:R2} (hr:IxR X r) (ha:PE X a ta) (hb:PE X b tb) (hs:zy4 b):PE X (.Subscript a b pos) (tOp r ta tb):=by
 intro pins s σ H Q I h
 exact Subscript_ (zIK ha hb I h fun v u s2 x y H2 I2 rx ry q=>hr a b pins s2 σ H2 x y v u Q I2 rx ry q (hs _ _))
def zKj (K:W.Frag):R2:=fun x y H Q=>∃ p xs i v,x=.ref p∧y=.int i∧SqL K H p xs∧atI xs i=some v∧Q v H
def zKk (K:W.Frag):R2:=fun x y H Q=>∃ p xs i v,x=.ref p∧y=.int i∧SqT K H p xs∧atI xs i=some v∧Q v H
def zKl:R2:=fun x y H Q=>∃ z i c,x=.str z∧y=.int i∧z.length≤sizeLine∧atI z.cps.toList i=some c∧Q (.str ⟨#[c]⟩) H
theorem zDH:IxR X (zKj X.K):=by
 intro value slice pins s σ H x y v u Q I rx ry h hs
 obtain ⟨p,xs,i,z,rfl,rfl,hq,he,q⟩:=h
 cases rx
 obtain ⟨t,rfl⟩:=ry
 obtain ⟨its,r,pl,hz⟩:=I.list hq
 obtain ⟨j,h1,h2,h3,h4,h5⟩:=zvA he
 obtain ⟨w,ew,rw'⟩:=r.get h2
 have hl:=r.length
 have hn:=zxf
 have fin:EP X pins σ Q w s:=⟨z,H,I,rw',q⟩
 by_cases h0:0≤i
 ·have hj:i.toNat=j:=by
   rw [seqIndex_of h0 h5] at h1
   exact Option.some.inj h1
  exact item_listR pl.isList h0 (by omega) (by rw [hj]; simpa using ew) fin hs
 ·have hj:(i+(its.toArray.size:Int)).toNat=j:=by
   rw [seqIndex_neg (by omega) h4] at h1
   rw [List.size_toArray,← hl]
   exact Option.some.inj h1
  exact subscriptTail_builtinR (x:=w) pl.isList.typeIs slot_list_getitem.lookup
   (wpAny_getItem_list_neg (Q:=fun r s'=>r=w∧EP X pins σ Q r s') pl.isList (by omega) (by rw [List.size_toArray] <;> omega) (by omega) (by rw [hj]; simpa using ew) ⟨rfl,fin⟩) hs
theorem zGh:IxR X (zKk X.K):=by
 intro value slice pins s σ H x y v u Q I rx ry h hs
 obtain ⟨p,xs,i,z,rfl,rfl,hq,he,q⟩:=h
 cases rx
 obtain ⟨t,rfl⟩:=ry
 obtain ⟨its,r,pl,hz⟩:=I.tuple hq
 obtain ⟨j,h1,h2,h3,h4,h5⟩:=zvA he
 obtain ⟨w,ew,rw'⟩:=r.get h2
 have hl:=r.length
 have hn:=zxf
 have fin:EP X pins σ Q w s:=⟨z,H,I,rw',q⟩
 exact subscriptTail_builtinR (x:=w) pl.typeIs slot_tuple_getitem.lookup
  (getItem_tuple (j:=j) (Q:=fun r s'=>r=w∧EP X pins σ Q r s') pl (by omega) (by omega) (by rw [List.size_toArray,← hl]; exact h1) (by simpa using ew) ⟨rfl,fin⟩) hs
theorem zGi:IxR X zKl:=by
 intro value slice pins s σ H x y v u Q I rx ry h hs
 obtain ⟨z,i,c,rfl,rfl,hz,he,q⟩:=h
 obtain ⟨t,rfl⟩:=rx
 obtain ⟨t',rfl⟩:=ry
 obtain ⟨j,h1,h2,h3,h4,h5⟩:=zvA he
 have hl:z.cps.toList.length=z.length:=by simp [Str.length]
 rw [hl] at h1 h4 h5
 have hn:=zxf
 exact tail_any (typeIs_str s z t) slot_str_getitem.lookup (getItem_str (c:=c) (by
  have e1:decide (i < -(2 ^ 63:Int))=false:=decide_eq_false (by omega)
  have e2:decide (i≥2 ^ 63)=false:=decide_eq_false (by omega)
  rw [e1,e2,Bool.or_false]) (by rw [h1]; simpa using h2) ⟨.str ⟨#[c]⟩,H,I.tok _,⟨_,rfl⟩,q⟩) hs
def rIx (K:W.Frag):R2:=fun x y H Q=>zKj K x y H Q∨zKk K x y H Q∨zKl x y H Q
theorem zGj:IxR X (rIx X.K):=zDH.or (zGh.or zGi)
theorem zuj (lo hi:Option Int) (n:Nat):(sliceBounds lo hi none n).1=((HT.sIx n 0 lo:Nat):Int)∧(sliceBounds lo hi none n).2.1=((HT.sIx n n hi:Nat):Int)∧(sliceBounds lo hi none n).2.2=1:=by
 refine ⟨?_,?_,rfl⟩
 ·cases lo with
  | none=>simp [sliceBounds,HT.sIx]
  | some i=>
   simp only [sliceBounds,HT.sIx,Option.getD_none,show (1:Int) > 0 by decide,if_true]
   by_cases h:i < 0
   ·simp only [h,if_true] <;> omega
   ·simp only [h,if_false] <;> omega
 ·cases hi with
  | none=>simp [sliceBounds,HT.sIx]
  | some i=>
   simp only [sliceBounds,HT.sIx,Option.getD_none,show (1:Int) > 0 by decide,if_true]
   by_cases h:i < 0
   ·simp only [h,if_true] <;> omega
   ·simp only [h,if_false] <;> omega
theorem zsp (its:List Value) (lo hi:Option Int):slicePick its.toArray lo hi none=((its.drop (HT.sIx its.length 0 lo)).take (HT.sIx its.length its.length hi-HT.sIx its.length 0 lo)).toArray:=by
 obtain ⟨h1,h2,h3⟩:=zuj lo hi its.toArray.size
 unfold slicePick
 rw [h1,h2,h3]
 simp only [sliceRange_one,pick_run,List.size_toArray] <;> rfl
def zKm (K:W.Frag):V→Option Int→Option Int→Hp→VK→Prop:=fun x lo hi H Q=>∃ a xs,x=.ref a∧SqL K H a xs∧∀ p,H p=none→Q (.ref p) (upd H p (.lst (zCI xs lo hi)))
theorem zDI:SlR X (zKm X.K):=by
 intro pins s σ H x v vl vu lo hi sl Q I rx hs pl pu h
 obtain ⟨a,xs,rfl,hx,q⟩:=h
 cases rx
 obtain ⟨its,r,ht,hz⟩:=I.list hx
 have hlen:=r.length
 refine ⟨"list",_,slot_list_getitem.lookup,ht.isList.typeIs,?_⟩
 refine wpAny_getItem_list_slice ht.isList hs pl pu .none (by simp) ?_ (by rw [List.size_toArray] <;> omega)
 rw [zsp,← hlen]
 refine ⟨.ref s.heap.objs.size,_,I.laid (t':=s.toks) (o:=.lst (zCI xs lo hi)) (fun b ob q=>Heap.get?_push_of_some _ q) (Nat.le_refl _) ?_,rfl,q _ (I.hok.fresh (Nat.le_refl _))⟩
 exact ⟨Nat.le_trans (zpA xs lo hi) hz,_,0,(r.drop (HT.sIx xs.length 0 lo)).take (HT.sIx xs.length xs.length hi-HT.sIx xs.length 0 lo),Heap.get?_push_size _ rfl⟩
theorem zuk:OpR X (compareOp .NotIn) (fun x y H Q=>∃ i j,x=.str i∧y=.str j∧Q (.bl (!(!(Builtin.Str.occurrences j i 0 j.length 1).isEmpty))) H):=by
 intro pins s σ H x y v u Q I rx ry h
 obtain ⟨i,j,rfl,rfl,q⟩:=h
 obtain ⟨t,rfl⟩:=rx
 obtain ⟨t',rfl⟩:=ry
 exact notIn_str ⟨.bl _,H,I,rfl,q⟩
theorem CallR.or {f:Value} {r r':List V→Hp→VK→Prop} (h:CallR X f r) (h':CallR X f r'):CallR X f (fun xs H Q=>r xs H Q∨r' xs H Q):=by
 intro pins s σ H xs us Q I rs q
 rcases q with q | q
 ·exact h pins s σ H xs us Q I rs q
 ·exact h' pins s σ H xs us Q I rs q
theorem zul:CallR X (.type "list") (fun xs H Q=>∃ p ys,xs=[.ref p]∧(SqL X.K H p ys∨SqT X.K H p ys)∧∀ l,H l=none→Q (.ref l) (upd H l (.lst ys))):=by
 intro pins s σ H xs us Q I r h
 obtain ⟨p,ys,rfl,hq,q⟩:=h
 obtain ⟨u,rfl,rx⟩:=zre r
 cases rx
 have fin:∀ (its:List Value),Vals ys its→ys.length≤sizeLine→∀ (h':Heap) (c':Nat),(∀ b o',s.heap.get? b=some o'→h'.get? b=some o')→
   h'.get? s.heap.objs.size=some { cls:=.type "list",dict:=none,data:=.seq its.toArray c',slots:=#[] }→EP X pins σ Q (.ref s.heap.objs.size) { s with heap:=h' }:=fun its r' hz h' c' kp e=>
  ⟨.ref s.heap.objs.size,_,I.laid (t':=s.toks) kp (Nat.le_refl _) (show ObjOk X.prog X.w _ h' _ (.lst ys) from ⟨hz,its,c',r',e⟩),rfl,q _ (I.hok.fresh (Nat.le_refl _))⟩
 rcases hq with hq | hq
 ·obtain ⟨its,r',pl,hz⟩:=I.list hq
  have hlen:=r'.length
  obtain ⟨o,ho,hc,n,hd⟩:=pl.isList
  exact call_list_seq p (.inl rfl) ho hc hd (fun h' c' kp e=>fin its r' hz h' c' kp e) (by simp only [List.size_toArray] <;> omega)
 ·obtain ⟨its,r',pl,hz⟩:=I.tuple hq
  have hlen:=r'.length
  obtain ⟨o,ho,hc,n,hd⟩:=pl
  exact call_list_seq p (.inr rfl) ho hc hd (fun h' c' kp e=>fin its r' hz h' c' kp e) (by simp only [List.size_toArray] <;> omega)
theorem zsq:CallR X (.type "tuple") (fun xs H Q=>∃ p ys,xs=[.ref p]∧((SqL X.K H p ys∧∀ l,H l=none→Q (.ref l) (upd H l (.tup ys)))∨(SqT X.K H p ys∧Q (.ref p) H))):=by
 intro pins s σ H xs us Q I r h
 obtain ⟨p,ys,rfl,h⟩:=h
 obtain ⟨u,rfl,rx⟩:=zre r
 cases rx
 rcases h with ⟨hq,q⟩ | ⟨hq,q⟩
 ·obtain ⟨its,r',pl,hz⟩:=I.list hq
  have hlen:=r'.length
  refine call_tuple_list pl.isList (fun h' kp=>?_) (by simp only [List.size_toArray] <;> omega)
  have I1:Inv X pins σ H { s with heap:=h' }:=I.kept (t':=s.toks) kp
  have I2:Inv X pins σ (upd H h'.objs.size (.tup ys)) { s with heap:=h'.push { cls:=.type "tuple",data:=.seq its.toArray } }:=
   I1.laid (t':=s.toks) (fun b o e=>Heap.get?_push_of_some _ e) (Nat.le_refl _) (show ObjOk X.prog X.w _ _ _ (.tup ys) from ⟨hz,its,r',IsTup.new _ _⟩)
  exact ⟨.ref h'.objs.size,_,I2,rfl,q _ (I1.hok.fresh (Nat.le_refl _))⟩
 ·obtain ⟨its,r',pl,hz⟩:=I.tuple hq
  exact call_tuple_same pl ⟨.ref p,H,I,rfl,q⟩
def tyV (K:W.Frag) (T:String) (x:V) (H:Hp):Prop:=match x with
 | .str _=>T="str"
 | .int _=>T="int"
 | .ref p=>(T="list"∧∃ xs,SqL K H p xs)∨(T="tuple"∧∃ o,K.lookup p=some o∧o.cls=.type "tuple"∧o.dict=none)∨
   (T="dict"∧((∃ kvs,H p=some (.dK kvs))∨∃ kvs,H p=some (.dT kvs)))∨(T="set"∧∃ S n,H p=some (.set S n))
 | _=>False
theorem zCJ {pins:List (Addr×Obj)} {σ:St} {H:Hp} {s:Shared} {T:String} {x:V} {v:Value} (I:Inv X pins σ H s) (r:RelV x v) (ty:tyV X.K T x H) :
  s.TypeIs v T∧∀ a,v=.ref a→∃ ob,s.heap.get? a=some ob∧ob.dict=none:=by
 cases x with
 | str z=>
  obtain ⟨t,rfl⟩:=r
  cases (show T="str" from ty)
  exact ⟨typeIs_str s z t,fun _ e=>nomatch e⟩
 | int i=>
  obtain ⟨t,rfl⟩:=r
  cases (show T="int" from ty)
  exact ⟨typeIs_int s i t,fun _ e=>nomatch e⟩
 | ref p=>
  cases r
  rcases ty with ⟨rfl,xs,hq⟩ | ⟨rfl,o,hk,hc,hd⟩ | ⟨rfl,hk⟩ | ⟨rfl,S,n,hk⟩
  ·obtain ⟨its,_,pl,_⟩:=I.list hq
   refine ⟨pl.isList.typeIs,fun a e=>?_⟩
   cases e
   obtain ⟨o,n,e,c,hd,_⟩:=pl
   exact ⟨o,e,hd⟩
  ·refine ⟨⟨o,I.kIn p o hk,hc⟩,fun a e=>?_⟩
   cases e
   exact ⟨o,I.kIn _ o hk,hd⟩
  ·have z:∃ o,s.heap.get? p=some o∧o.ExactDict:=by
    rcases hk with ⟨kvs,hk⟩ | ⟨kvs,hk⟩
    ·obtain ⟨_,_,_,_,o,_,_,e,ex,_⟩:=I.hok p _ hk
     exact ⟨o,e,ex⟩
    ·obtain ⟨_,_,_,_,o,_,_,e,ex,_⟩:=I.hok p _ hk
     exact ⟨o,e,ex⟩
   obtain ⟨o,e,ex⟩:=z
   refine ⟨⟨o,e,ex.1⟩,fun a e2=>?_⟩
   cases e2
   exact ⟨o,e,ex.2.1⟩
  ·obtain ⟨o,_,_,_,e,ex,_⟩:=I.hok p _ hk
   refine ⟨⟨o,e,ex.1⟩,fun a e2=>?_⟩
   cases e2
   exact ⟨o,e,ex.2.1⟩
 | _=>exact False.elim ty
def zIf (K:W.Frag) (T:String) (r:V→List V→Hp→VK→Prop) (to:TE):TE:=fun σ H Q=>to σ H fun x H1=>tyV K T x H1∧r x [] H1 Q
def tBM (K:W.Frag) (T:String) (r:V→List V→Hp→VK→Prop) (to:TE) (t:TA):TE:=fun σ H Q=>to σ H fun x H1=>tyV K T x H1∧t σ H1 fun xs H2=>r x xs H2 Q
variable {o e:Expr} {es:List Expr} {to:TE} {t:TA} {name:Str} {apos cpos:Pos} {T id:String} {r:V→List V→Hp→VK→Prop}
theorem zGk (pa:PlainAttrs T) (slot:Slot T name id) (hty:typeOf (.builtin id)=pure (.type "method_descriptor")) (hm:MtR X id r) (ho:PE X o to)
  (hbase:attributeBase o name X.env (eval o X.env)=eval o X.env:=by rfl) (hline:(apos.endLine==cpos.line)=true:=by rfl):PE X (.Call (.Attribute o name apos) [] [] cpos) (zIf X.K T r to):=by
 intro pins s σ H Q I h
 refine wpAny_Call_method0_late hbase hline (thn (ho pins s σ H _ I h) fun v s1 ⟨x,H1,I1,r1,ty,q1⟩=>?_)
 obtain ⟨h1,h2⟩:=zCJ I1 r1 ty
 exact ⟨T,id,pa,slot,hty,h1,h2,Calls.callWith_builtin rfl (PySem.evalArgs_none (hm pins s1 σ H1 x [] v [] Q I1 r1 .nil q1))⟩
theorem zIT (pa : PlainAttrs T) (slot : Slot T name id) (hty : typeOf (.builtin id) = pure (.type "method_descriptor")) (hm : MtR X id r) (ho : PE X o to) (ha : PA X (e :: es) t)
    (hbase : attributeBase o name X.env (eval o X.env) = eval o X.env := by rfl)
    (hfew : ((backTo cpos (starEach (e :: es) X.env)).all (fun x => !x.1) && (backToKw cpos (keywordEach [] X.env)).all (fun x => x.1.isSome)
      && decide ((e :: es).length + ([] : List Keyword).length + (if ([] : List Keyword).isEmpty then 0 else 1) < 30)) = true := by rfl)
    (hline : (apos.endLine == cpos.line) = true := by rfl) (hs : starEach (e :: es) X.env = (false, eval e X.env) :: starEach es X.env := by rfl) (hplain : (backTo cpos (starEach es X.env)).any (·.1) = false := by rfl) :
    PE X (.Call (.Attribute o name apos) (e :: es) [] cpos) (tBM X.K T r to t) := by
  intro pins s σ H Q I h
  refine wpAny_Call_method_late hbase hfew hline rfl (thn (ho pins s σ H _ I h) fun v s1 ⟨x, H1, I1, r1, ty, q1⟩ => ?_)
  obtain ⟨h1, h2⟩ := zCJ I1 r1 ty
  refine ⟨T, id, pa, slot, hty, h1, h2, ?_⟩
  have hA := ha cpos pins s1 σ H1 _ I1 q1
  rw [hs] at hA ⊢
  refine Calls.callWith_builtin (by show (false || (backTo cpos (starEach es X.env)).any (·.1)) = false; rw [hplain] <;> rfl) (Calls.evalArgs_plain ?_)
  exact thn hA fun us s2 ⟨vs, H2, I2, r2, q2⟩ => hm pins s2 σ H2 x vs v us Q I2 r1 r2 q2
end
end L2
namespace L2
open PySem PySem.Spec PyProof.Rows
def MtM (X:Cx) (id:String) (r:V→List V→Hp→VK→Prop):Prop:=
 ∀ (pins:List (Addr×Obj)) (s:Shared) (σ:St) (H:Hp) (x:V) (xs:List V) (v:Value) (us:List Value) (Q:VK),Inv X pins σ H s→RelV x v→Vals xs us→r x xs H Q→
  wpAny (model X.prog X.w) X.A (call (.builtin id) (v :: us)) (EP X pins σ Q) X.xe s
theorem Vals.one:∀ {x:V} {us:List Value},Vals [x] us→∃ u,us=[u]∧RelV x u
 | _,_,.cons r .nil=>⟨_,rfl,r⟩
theorem Vals.two:∀ {x y:V} {us:List Value},Vals [x,y] us→∃ u v,us=[u,v]∧RelV x u∧RelV y v
 | _,_,_,.cons r (.cons q .nil)=>⟨_,_,rfl,r,q⟩
theorem Vals.zero:∀ {us:List Value},Vals [] us→us=[]
 | _,.nil=>rfl
theorem Vals.reverse {xs:List V} {us:List Value} (h:Vals xs us):Vals xs.reverse us.reverse:=by
 induction h with
 | nil=>exact .nil
 | cons r t ih=>rw [List.reverse_cons,List.reverse_cons]; exact Vals.append ih (.cons r .nil)
theorem Vals.rep {xs:List V} {us:List Value} (h:Vals xs us):∀ k:Nat,Vals (List.replicate k xs).flatten (List.replicate k us).flatten
 | 0=>.nil
 | k+1=>by
  rw [List.replicate_succ,List.replicate_succ,List.flatten_cons,List.flatten_cons]
  exact Vals.append h (Vals.rep h k)
theorem zum (its:List Value):∀ (k:Nat) (acc:List Value),
  List.foldl (fun x1 x2=>x1++x2) acc.toArray (List.replicate k its.toArray)=(acc++(List.replicate k its).flatten).toArray
 | 0,acc=>by simp
 | k+1,acc=>by
  have e:acc.toArray++its.toArray=(acc++its).toArray:=by simp
  have e2:(acc++its)++(List.replicate k its).flatten=acc++(List.replicate (k+1) its).flatten:=by
   rw [List.replicate_succ,List.flatten_cons,List.append_assoc]
  rw [← e2,← zum its k (acc++its),← e,List.replicate_succ,List.foldl_cons]
section
variable {X:Cx} {pins:List (Addr×Obj)} {σ:St} {H:Hp} {s:Shared} {l b:Addr} {xs ys zs:List V}
theorem Inv.lset {its its':List Value} {n:Nat} {f:Array Value→Array Value} {t':Nat} (I:Inv X pins σ H s) (hH:H l=some (.lst xs))
  (e:s.heap.get? l=some { cls:=.type "list",data:=.seq its.toArray n }) (hf:f its.toArray=its'.toArray) (hv:Vals ys its') (hz:ys.length≤sizeLine) :
  Inv X pins σ (upd H l (.lst ys)) { s with heap:=s.heap.update l (Obj.mapSeq f),toks:=t' }:=by
 have q:=PySem.IsL.update e f
 rw [hf] at q
 refine I.write (x:=l) (e:=l) (by rw [hH]; exact trivial) (.inl rfl) (fun b' u hb hu=>(Heap.get?_update_other s.heap (Obj.mapSeq f) (Ne.symm hb)).trans hu) ⟨_,q⟩ ?_
 exact ⟨hz,its',_,hv,q⟩
theorem Inv.lnew {its:List Value} {t':Nat} (I:Inv X pins σ H s) (hv:Vals ys its) (hz:ys.length≤sizeLine) :
  Inv X pins σ (upd H s.heap.objs.size (.lst ys)) { s with heap:=s.heap.push { cls:=.type "list",data:=.seq its.toArray },toks:=t' }:=
 I.laid (fun _ _ q=>Heap.get?_push_of_some _ q) (Nat.le_refl _) ⟨hz,its,0,hv,Heap.get?_push_size _ rfl⟩
theorem Inv.fresh (I:Inv X pins σ H s):H s.heap.objs.size=none:=I.hok.fresh (Nat.le_refl _)
theorem Inv.lstM (I:Inv X pins σ H s) (hH:H l=some (.lst xs)):xs.length≤sizeLine∧∃ (its:List Value) (n:Nat),Vals xs its∧xs.length=its.length∧s.heap.get? l=some { cls:=.type "list",data:=.seq its.toArray n }:=by
 obtain ⟨z,its,n,r,e⟩:=I.hok l _ hH
 exact ⟨z,its,n,r,r.length,e⟩
theorem zBC {n:Nat} (h:n≤sizeLine):Builtin.List.listTooLong n=false:=by
 unfold Builtin.List.listTooLong
 exact decide_eq_false (by omega)
end
section
variable {X:Cx}
def zsr:V→List V→Hp→VK→Prop:=fun x vs H Q=>∃ l xs y,x=.ref l∧vs=[y]∧H l=some (.lst xs)∧xs.length < sizeLine∧Q .non (upd H l (.lst (xs++[y])))
theorem zpB:MtM X "list.append" zsr:=by
 intro pins s σ H x vs v us Q I rx rv h
 obtain ⟨l,xs,y,rfl,rfl,hH,hz,q⟩:=h
 cases rx
 obtain ⟨u,rfl,ru⟩:=rv.one
 obtain ⟨z,its,n,r,hl,e⟩:=I.lstM hH
 refine call_meets F.slot_list_append ⟨_,e,rfl⟩ F.entry_list_append (F.args_list_append_2 _ _) (PySem.list_append l its.toArray n u (by rw [List.size_toArray]; omega)) ⟨e,?_⟩
 refine ⟨.non,_,I.lset (its':=its++[u]) hH e (by simp) (r.append (.cons ru .nil)) ?_,rfl,q⟩
 rw [List.length_append,List.length_singleton]
 omega
def zxh:V→List V→Hp→VK→Prop:=fun x vs H Q=>∃ l xs,x=.ref l∧vs=[]∧H l=some (.lst xs)∧Q .non (upd H l (.lst xs.reverse))
theorem zxW:MtM X "list.reverse" zxh:=by
 intro pins s σ H x vs v us Q I rx rv h
 obtain ⟨l,xs,rfl,rfl,hH,q⟩:=h
 cases rx
 have hus:=rv.zero
 subst hus
 obtain ⟨z,its,n,r,hl,e⟩:=I.lstM hH
 refine call_meets F.slot_list_reverse ⟨_,e,rfl⟩ F.entry_list_reverse (F.args_list_reverse_1 _) (AutoSeq1.list_reverse_list_0 l its.toArray n (by rw [List.size_toArray]; omega)) ⟨e,?_⟩
 refine ⟨.non,_,I.lset (its':=its.reverse) hH e (by simp) r.reverse ?_,rfl,q⟩
 rw [List.length_reverse]
 omega
def zKn:R2:=fun x y H Q=>∃ l b xs zs,x=.ref l∧y=.ref b∧H l=some (.lst xs)∧H b=some (.lst zs)∧xs.length+zs.length≤sizeLine∧∀ p,H p=none→Q (.ref p) (upd H p (.lst (xs++zs)))
theorem zGl:OpR X (binaryOp .Add) zKn:=by
 intro pins s σ H x y v u Q I rx ry h
 obtain ⟨l,b,xs,zs,rfl,rfl,hH,hB,hz,q⟩:=h
 cases rx
 cases ry
 obtain ⟨z,its,n,r,hl,e⟩:=I.lstM hH
 obtain ⟨z2,its2,n2,r2,hl2,e2⟩:=I.lstM hB
 refine PySem.P.add_list e e2 ?_ (by rw [List.size_toArray,List.size_toArray]; omega)
 have ea:its.toArray++its2.toArray=(its++its2).toArray:=by simp
 rw [ea]
 exact ⟨.ref _,_,I.lnew (t':=s.toks) (r.append r2) (by rw [List.length_append]; omega),rfl,q _ I.fresh⟩
def zKo:R2:=fun x y H Q=>∃ l k xs,x=.ref l∧y=.int k∧H l=some (.lst xs)∧-(2 ^ 63)≤k∧k < 2 ^ 63∧xs.length*k.toNat≤sizeLine∧
 ∀ p,H p=none→Q (.ref p) (upd H p (.lst (List.replicate k.toNat xs).flatten))
theorem zDJ {α:Type} (xs:List α) (k:Nat):(List.replicate k xs).flatten.length=k*xs.length:=by
 induction k with
 | zero=>simp
 | succ k ih=>rw [List.replicate_succ,List.flatten_cons,List.length_append,ih,Nat.succ_mul,Nat.add_comm]
theorem zGm : OpR X (binaryOp .Mult) zKo := by
  intro pins s σ H x y v u Q I rx ry h
  obtain ⟨l, k, xs, rfl, rfl, hH, h1, h2, hz, q⟩ := h
  cases rx
  obtain ⟨t, rfl⟩ := ry
  obtain ⟨z, its, n, r, hl, e⟩ := I.lstM hH
  have hlen : its.toArray.size * k.toNat ≤ sizeLine := by rw [List.size_toArray, ← hl]; exact hz
  have hcap : ¬ its.toArray.size * k.toNat > (2 ^ 63 - 1) / 8 := by
    have : (sizeLine : Nat) ≤ (2 ^ 63 - 1) / 8 := by decide
    omega
  have hfit : ¬ (!Builtin.List.listFitsIndex k) = true := by
    rw [fitsIndex_both h1 h2]
    exact Bool.false_ne_true
  have hlong : ¬ Builtin.List.listTooLong (its.toArray.size * k.toNat) = true := by
    rw [zBC hlen]
    exact Bool.false_ne_true
  have hnew : List.foldl (fun x1 x2 => x1 ++ x2) #[] (List.replicate (if its.toArray.isEmpty = true then 0 else k.toNat) its.toArray) = (List.replicate k.toNat its).flatten.toArray := by
    have f0 : ∀ m : Nat, List.foldl (fun x1 x2 => x1 ++ x2) #[] (List.replicate m its.toArray) = (List.replicate m its).flatten.toArray := fun m => by
      have := zum its m []
      rw [List.nil_append] at this
      exact this
    rw [f0]
    cases its with
    | nil => simp
    | cons a r' => rw [if_neg (by simp)]
  refine wpAny_binaryOp_repeat_ref (T := "list") (U := "int") (by decide) ⟨_, e, rfl⟩ (fun s' => typeIs_int s' k t) noFill_list_mul F.fills_int_mul F.slot_int_rmul repeat_list F.slot_int_index.lookup
    (call_meets F.slot_int_rmul (typeIs_int s k t) F.entry_int_rmul (F.args_int_rmul_2 _ _) (int___rmul___int_list k t l its.toArray n)
      ⟨e, rfl, ⟨_, e, rfl⟩, call_meets F.slot_list_mul ⟨_, e, rfl⟩ F.entry_list_mul (F.args_list_mul_2 _ _) (AutoListH.list___mul___list_int_3 l its.toArray n k t hfit hcap hlong) ⟨e, ?_⟩⟩)
  rw [hnew]
  exact ⟨.ref _, _, I.lnew (t' := s.toks) (r.rep k.toNat) (by rw [zDJ, Nat.mul_comm]; exact hz), rfl, q _ I.fresh⟩
end
section
variable {prog:Program} {w:World} {A:Around} {E:Value→Shared→Prop} {s:Shared}
end
section
variable {X:Cx}
end
end L2
namespace Att
open PySem PySem.W PySem.Calls PyProof.Rows
theorem zpC {P:Params} {h:Heap}:∀ (ns:List Int) (vs:List Value),WellAll P h vs (ns.map WData.int)→IntsAre vs ns:=by
 intro ns
 induction ns with
 | nil=>
  intro vs w
  rw [List.map_nil] at w
  cases w
  exact .nil
 | cons n ns ih=>
  intro vs w
  rw [List.map_cons] at w
  cases w with
  | cons a b=>
   cases a
   exact .cons _ _ (ih _ b)
theorem zy5 {l:OpenLaw} {n:Nat} (hn:l.most=some n) {P:Params} {h:Heap} {args:List WData} {vals:List Value}
  (hpre:l.row.toRowW.claim.pre args=true) (hwl:WellAll P h vals args) :
  ∃ a vs ns,vals=[Value.ref a]∧args=[WData.list (ns.map WData.int)]∧h.get? a=some { cls:=.type "list",data:=.seq vs.toArray }∧IntsAre vs ns∧ns.length≤n:=by
 have hsh:WShape.hasAll [] args [.list .int]=true:=(pre_splitW hpre).1
 have hc:l.pre.holds [] { args:=args }=true:=(pre_splitW hpre).2
 obtain ⟨d,r,rfl,h1,h2⟩:=hasAllW_cons hsh
 obtain rfl:=hasAllW_nil h2
 obtain ⟨xs,rfl,h3⟩:=hasW_list h1
 obtain ⟨ns,rfl⟩:=items_int h3
 have hlen:ns.length≤n:=by
  unfold OpenLaw.pre at hc
  have h4:(WTm.not (.lt (.lit (.int (n:Int))) (.len (.arg 0)))).holds [] { args:=[.list (ns.map .int)] }=true:=by
   have h4:=(holds_andW hc).1
   rw [hn] at h4
   exact h4
  have h5:=condW_of h4 (w_not (w_lt w_lit (w_len_list (w_arg rfl))))
  rw [List.length_map] at h5
  refine Nat.le_of_not_lt fun q=>?_
  have q':(n:Int) < ((ns.length:Nat):Int):=by omega
  first
   | (rw [decide_eq_true q'] at h5; exact absurd h5 (by decide))
   | (simp at h5; omega)
 cases hwl with
 | cons w1 w2=>
  cases w2
  cases w1 with
  | list ho hall=>exact ⟨_,_,ns,rfl,rfl,ho,zpC ns _ hall,hlen⟩
theorem zy6 (l:OpenLaw) (args:List WData):l.row.toRowW.claim.post args (.bool true) args=true:=
 postW_of (r:=l.row.toRowW) (X:=(true==true))
  (show WShape.has [] (.bool true) .bool=true by first | rfl | decide | simp [WShape.has,WShape.arms,WShape.armsAll])
  (show (WTm.eq .res (.lit (.bool true))).value [] { args:=args,res:=some (.bool true),after:=args }=some (.bool (true==true)) from w_eq_bool (w_res rfl) w_lit) rfl
theorem attach_call {l : OpenLaw} {n : Nat} {q : Program} {loose : List Str} {XP : (Str → Option Value) → Heap → Prop} {YP : World → Heap → Prop} {d : DefRec}
    (hn : l.most = some n) (hdf : d.params.defaults = [])
    (call : ∀ (w : World) (s₀ s₁ : Shared) (mg mb : Str → Option Value) (fa : Addr) (o : Obj) (pm cd doc : Value) (a : Addr) (vs : List Value) (ns : List Int),
      Ground q loose [] XP w s₀ mg mb s₁.heap → YP w s₁.heap →
      s₁.heap.get? fa = some o → o.data = .func (docDef d.name d.params d.body d.scope pm cd doc) → s₁.heap.CodeRec cd d.name → mg d.name = some (.ref fa) →
      s₁.heap.get? a = some { cls := .type "list", data := .seq vs.toArray } → IntsAre vs ns → ns.length ≤ n → s₁.gens = #[] →
      codeAny (model l.prog w) callerA (.call (.ref fa) ⟨[.ref a], []⟩) (fun r s' => r = .ok (.ret (.bool true)) ∧ OldK s₁.heap s'.heap ∧ s'.os = s₁.os ∧ AllBare s'.gens) s₁) :
    WalkO q loose XP YP l.row.toRowW d [] (fun f vs => PySem.call f vs) := by
  intro w s₀ s₁ mg mb G Y fa o pm cd doc dV kV ho hd hcd hD hmg hg args vals as hpre hlay hrd hwl hlo
  obtain rfl : dV = .none := Dflts.none hD hdf
  obtain rfl : kV = .none := Dflts.noKw hD
  obtain ⟨a, vs, ns, rfl, rfl, hobj, hints, hlen⟩ := zy5 hn hpre hwl
  refine enter_call (codeAny_mono (call w s₀ s₁ mg mb fa o pm cd doc a vs ns G Y ho (fd_plain hd) hcd hmg hobj hints hlen hg) fun r s' hq => ?_)
  obtain ⟨rfl, h2, h3, h4⟩ := hq
  exact ⟨.inl ⟨.bool true, .bool true, [], rfl, fun _ => rfl, .bool true, zy6 l _, fun _ => ⟨List.Pairwise.nil, fun _ hm => (nomatch hm)⟩⟩, h2, h3, h4⟩
section
variable {prog:Program} {w:World} {A:Around} {E:Value→Shared→Prop} {s:Shared} {K:Frag}
end
end Att
namespace L2
open PySem PySem.Spec PyProof.Rows
theorem zun:∀ {vs:List Value} {ns:List Int},IntsAre vs ns→Vals (ns.map V.int) vs
 | _,_,.nil=>.nil
 | _,_,.cons n t h=>.cons ⟨t,rfl⟩ (zun h)
def zIg (H:Hp):Prop:=∀ b,H b=none∨∃ o xs,H b=some (.frz o (.lst xs))
theorem zBD {P:Program} {w:World} {K:W.Frag} {mg mb:Str→Option Value} {CX:CXT} {k:Nat} {fa a:Addr} {fd:FuncData} {x:Str} {sp:Sp} {s₁:Shared} {vs:List Value} {ns:List Int}
  (KX:K.In s₁.heap) (hns:s₁.heap.Ns mainGlobals mg) (hb:s₁.heap.Ns builtinsNs mb) (hbb:∀ x:Str,x≠"__name__"→mb x=bootBuiltins x) (hlim:s₁.heap.NoLimit) (hg:s₁.gens=#[])
  (ha:s₁.heap.get? a=some { cls:=.type "list",data:=.seq vs.toArray }) (hi:IntsAre vs ns) (hl:ns.length≤sizeLine) (hr:Room k callerA)
  (F:∀ base:Heap,K.In base→base.Ns mainGlobals mg→FnOk P w K mg base CX k fa fd [x] sp) (hbind:∀ (s:Shared) (u:Value),BindsTo s fd ⟨[u],[]⟩ [(x,u)])
  (hsp:∀ H:Hp,zIg H→SqL K H a (ns.map V.int)→sp [.ref a] H (fun v _=>v=.bl true) fun _ _ _=>False)
  (hCX:∀ H e s',CX [] H s₁ (fun _ _ _=>False) e s'→False) :
  codeAny (model P w) callerA (.call (.ref fa) ⟨[.ref a],[]⟩) (fun r s'=>r=.ok (.ret (.bool true))∧OldK s₁.heap s'.heap∧s'.os=s₁.os∧AllBare s'.gens) s₁:=by
 have rv:=zun hi
 have lenV:=hi.length
 -- from an abstract heap in which nothing but the script may be tracked
 have core:∀ H:Hp,zIg H→SqL K H a (ns.map V.int)→HOk P w H s₁.heap→(∀ b,H b≠none→b=a)→(H a≠none→K.lookup a=none)→
   codeAny (model P w) callerA (.call (.ref fa) ⟨[.ref a],[]⟩) (fun r s'=>r=.ok (.ret (.bool true))∧OldK s₁.heap s'.heap∧s'.os=s₁.os∧AllBare s'.gens) s₁:=by
  intro H hO hS hok hA hK
  have base_of:∀ {b:Addr} {o:Obj},s₁.heap.get? b=some o→H b=none→(zBl s₁.heap H).get? b=some o:=fun e n=>zBm e n
  have noA:∀ {b:Addr} {o:Obj} {es:Array DictEntry} {ep:Nat},s₁.heap.get? b=some o→o.data=.dict es ep→H b=none:=fun {b o es ep} e d=>by
   cases q:H b with
   | none=>rfl
   | some u=>
    have e':b=a:=hA b (by rw [q]; simp)
    subst e'
    rw [ha] at e; cases e
    have d':Data.seq vs.toArray _=Data.dict es ep:=d
    cases d'
  have nsK:∀ {b:Addr} {m:Str→Option Value},s₁.heap.Ns b m→(zBl s₁.heap H).Ns b m:=fun {b m} ⟨o,es,ep,e,d,r⟩=>⟨o,es,ep,base_of e (noA e d),d,r⟩
  have hKb:K.In (zBl s₁.heap H):=fun b o e=>base_of (KX b o e) (by
   cases q:H b with
   | none=>rfl
   | some u=>
    have e':b=a:=hA b (by rw [q]; simp)
    subst e'
    rw [hK (by rw [q]; simp)] at e; cases e)
  have hM:Mod K mg (zBl s₁.heap H):=⟨hKb,nsK hns,⟨mb,nsK hb,hbb⟩,let ⟨mc,h1,h2⟩:=hlim; ⟨mc,nsK h1,h2⟩⟩
  have e0:Env0 P w K mg (zBl s₁.heap H) callerA [] s₁ H:=⟨rfl,hM,fun b o e=>zDi e,Nat.le_of_eq (zyK _ _),trivial,fun b hb=>absurd (show b∈([]:List Addr) from hb) (by simp),hok,.of_eq hg⟩
  refine codeAny_mono ((F _ hKb (nsK hns)).run callerA [] s₁ H ⟨[.ref a],[]⟩ [.ref a] [.ref a] _ _ hr e0 (hbind s₁ (.ref a)) (.cons rfl .nil) (hsp H hO hS)) fun r s' h=>?_
  cases r with
  | error e=>exact (hCX H e s' h).elim
  | ok fl=>
   cases fl with
   | next=>exact False.elim h
   | brk=>exact False.elim h
   | cont=>exact False.elim h
   | ret u=>
    obtain ⟨v,H',os,bare,un,hok',r',q⟩:=h
    have q':v=.bl true:=q
    subst q'
    obtain rfl:u=Value.bool true:=r'
    refine ⟨rfl,OldK.of_keep fun b o e=>?_,os,bare⟩
    cases q:H b with
    | none=>exact un.keep b o e q (by intro z; exact absurd (show b∈([]:List Addr) from z) (by simp)) (by simp)
    | some u=>
     rcases hO b with z | ⟨ob,xs,z⟩
     ·rw [q] at z; cases z
     ·have z2:=un.frzs b ob _ z
      obtain ⟨e1,_⟩:=hok b _ z
      obtain ⟨e2,_⟩:=hok' b _ z2
      rw [e] at e1; cases e1
      exact e2
 cases hk:K.lookup a with
 | some o=>
  -- the script is one of the module's own objects
  have e:=KX a o hk
  rw [ha] at e
  cases e
  refine core (fun _=>none) (fun _=>.inl rfl) (.inr ⟨_,vs.toArray,_,hk,rfl,rfl,rfl,by rw [List.size_toArray,lenV]; exact hl,by simpa using rv⟩) (fun b u z=>by have z':(none:Option HO)=some u:=z; cases z') (fun b z=>absurd rfl z) fun z=>absurd rfl z
 | none=>
  refine core (fun b=>if b=a then some (.frz { cls:=.type "list",data:=.seq vs.toArray } (.lst (ns.map V.int))) else none) (fun b=>?_) (.inl (.inr ⟨{ cls:=.type "list",data:=.seq vs.toArray },if_pos rfl⟩)) (fun b u z=>?_) (fun b z=>?_) fun _=>hk
  ·by_cases hb:b=a
   ·exact .inr ⟨_,_,if_pos hb⟩
   ·exact .inl (if_neg hb)
  ·by_cases hb:b=a
   ·have z':=(if_pos hb).symm.trans z
    cases z'
    subst hb
    exact ⟨ha,by rw [List.length_map]; exact hl,vs,_,rv,ha⟩
   ·have z':=(if_neg hb).symm.trans z
    cases z'
  ·by_cases hb:b=a
   ·exact hb
   ·exact absurd (if_neg hb) z
end L2
namespace L2
open PySem PySem.Spec PyProof.Rows
theorem walk_of {l : W.OpenLaw} {n k : Nat} {q : Program} {loose : List Str} {XP : (Str → Option Value) → Heap → Prop} {YP : World → Heap → Prop} {d : DefRec} {K : Params → W.Frag} {CX : World → CXT} {sp : World → Sp} {x : Str}
    (hn : l.most = some n) (hn2 : n ≤ sizeLine) (hdf : d.params.defaults = []) (hr : Room k callerA)
    (hY : ∀ (w : World) (h : Heap), YP w h → (K w.params).In h)
    (F : ∀ (w : World) (mg : Str → Option Value) (fa : Addr) (h : Heap), (K w.params).In h → h.Ns mainGlobals mg → mg d.name = some (.ref fa) →
      ∃ fd : FuncData, (∀ (s : Shared) (u : Value), BindsTo s fd ⟨[u], []⟩ [(x, u)]) ∧
        ∀ base : Heap, (K w.params).In base → base.Ns mainGlobals mg → FnOk l.prog w (K w.params) mg base (CX w) k fa fd [x] (sp w))
    (hsp : ∀ (w : World) (H : Hp) (a : Addr) (ns : List Int), ns.length ≤ n → zIg H → SqL (K w.params) H a (ns.map V.int) → sp w [.ref a] H (fun v _ => v = .bl true) fun _ _ _ => False)
    (hCX : ∀ (w : World) (H : Hp) (s : Shared) (e : Value) (s' : Shared), CX w [] H s (fun _ _ _ => False) e s' → False) :
    W.WalkO q loose XP YP l.row.toRowW d [] (fun f vs => PySem.call f vs) := by
  refine Att.attach_call hn hdf fun w s₀ s₁ mg mb fa o pm cd doc a vs ns G Y ho hd hcd hmg hobj hints hlen hg => ?_
  have KX := hY w _ Y
  obtain ⟨fd, hb, hF⟩ := F w mg fa _ KX G.T.g hmg
  exact zBD KX G.T.g G.T.b G.T.builtins G.T.nolimit hg hobj hints (Nat.le_trans hlen hn2) hr hF hb (fun H hO hS => hsp w H a ns hlen hO hS) fun H e s' => hCX w H s₁ e s'
end L2
namespace L2
open PySem PySem.Spec PyProof.Rows
def zaw (s:Stmt) (j:Nat):Stmt:=match s with
 | .ClassDef _ _ _ body _ _ _ _ _ _ _=>body.getD j (.Pass ⟨0,0,0,0⟩)
 | _=>.Pass ⟨0,0,0,0⟩
def zeP (s:Stmt):Arguments:=match s with
 | .FunctionDef _ a _ _ _ _ _ _ _ _=>a
 | _=>{ posonlyargs:=[],args:=[],vararg:=none,kwonlyargs:=[],kw_defaults:=[],kwarg:=none,defaults:=[] }
def zdl (s:Stmt):List Stmt:=match s with
 | .FunctionDef _ _ b _ _ _ _ _ _ _=>b
 | _=>[]
def zaf (s:Stmt):Scope:=match s with
 | .FunctionDef _ _ _ _ _ _ sc _ _ _=>sc
 | _=>{ kind:=.function,names:=[],isGenerator:=false,isCoroutine:=false }
abbrev CX0:CXT:=fun _ _ _ _ _ _=>False
abbrev E0:XK:=fun _ _ _=>False
theorem zBE {X:Cx}:zpz CX0 X E0:=fun _ _ _ _ _ _ _ h=>h.elim
structure Fun (K:W.Frag) (x qual:Str) (st:Stmt) (f:Addr) (fd:FuncData):Prop where
 ex:∃ (oc:Value) (od:Option Addr) (kV doc pm:Value) (an:Option Addr) (cdv ct:Value) (osl:Array (Option Value)),
  fd=W.fnOf x qual (zeP st) (zdl st) (zaf st) .none kV doc pm an cdv ct∧K.lookup f=some ⟨oc,od,.func fd,osl⟩∧W.codeIn K cdv qual=true
 kp:W.keepIn K (.ref f)=true
section
variable {P:Program} {w:World} {K:W.Frag} {mg:Str→Option Value} {base:Heap}
theorem Fun.binds {x qual:Str} {st:Stmt} {f:Addr} {fd:FuncData} {ps:List Str} (F:Fun K x qual st f fd)
  (h:∀ (kV doc pm:Value) (an:Option Addr) (cdv ct:Value) (us:List Value),us.length=ps.length→bindArgs (W.fnOf x qual (zeP st) (zdl st) (zaf st) .none kV doc pm an cdv ct) ⟨us,[]⟩=pure (ps.zip us)):Binds K fd ps []:=by
 obtain ⟨oc,od,kV,doc,pm,an,cdv,ct,osl,rfl,lk,hcd⟩:=F.ex
 exact .all (h kV doc pm an cdv ct)
theorem zCK {x qual:Str} {st:Stmt} {f:Addr} {oc:Value} {od an:Option Addr} {osl:Array (Option Value)} {kV doc pm cdv ct:Value} (l:K.lookup f=some ⟨oc,od,.func (W.fnOf x qual (zeP st) (zdl st) (zaf st) .none kV doc pm an cdv ct),osl⟩)
  (c:W.codeIn K cdv qual=true) (k:W.keepIn K (.ref f)=true):Fun K x qual st f (W.fnOf x qual (zeP st) (zdl st) (zaf st) .none kV doc pm an cdv ct):=⟨⟨oc,od,kV,doc,pm,an,cdv,ct,osl,rfl,l,c⟩,k⟩
end
theorem zGn {A:Around} {k:Nat} (hr:Room k A):A.units+1 < cLine:=Nat.lt_of_le_of_lt (Nat.add_le_add_left (by decide:1≤64) _) hr.units
section
variable {X:Cx}
end
def zIU (H H':Hp):Prop:=∀ b o,H b=some o→H' b=some o
end L2
namespace L2
open PySem PySem.Spec PyProof.Rows
section
variable {κ:Type} [DecidableEq κ]
def zss (kvs:List (κ×V)) (k:κ):Option V:=(kvs.find? fun kv=>decide (kv.1=k)).map (·.2)
def zuo (kvs:List (κ×V)) (k:κ) (v:V):List (κ×V):=
 if (kvs.any fun kv=>decide (kv.1=k))=true then kvs.map (fun kv=>if kv.1=k then (kv.1,v) else kv) else kvs++[(k,v)]
theorem zst {p:κ×V} {r:List (κ×V)} {k:κ} (e:p.1=k):zss (p :: r) k=some p.2:=by simp [zss,List.find?_cons,e]
theorem zsu {p:κ×V} {r:List (κ×V)} {k:κ} (e:¬ p.1=k):zss (p :: r) k=zss r k:=by simp [zss,List.find?_cons,e]
theorem zxi (k:κ):∀ kvs:List (κ×V),(kvs.any fun kv=>decide (kv.1=k))=(zss kvs k).isSome
 | []=>rfl
 | p :: r=>by
  rw [List.any_cons]
  by_cases e:p.1=k
  ·simp only [zst e,decide_eq_true e,Bool.true_or,Option.isSome_some]
  ·rw [zsu e,decide_eq_false e,Bool.false_or]; exact zxi k r
theorem zpD (kvs:List (κ×V)) (k:κ) (v:V):(zuo kvs k v).length≤kvs.length+1:=by
 unfold zuo
 split
 ·rw [List.length_map]; omega
 ·rw [List.length_append,List.length_cons,List.length_nil]; omega
theorem RelO.isSome_eq {o:Option V} {u:Option Value} (r:RelO o u):o.isSome=u.isSome:=by
 cases o with
 | none=>cases u with
  | none=>rfl
  | some _=>exact (show False from r).elim
 | some _=>cases u with
  | none=>exact (show False from r).elim
  | some _=>rfl
theorem KV.val {kvs:List (κ×V)} {vs:List (κ×Value)} (r:KV kvs vs) (k:κ):RelO (zss kvs k) (valueAt vs k):=by
 unfold KV at r
 induction r with
 | nil=>exact True.intro
 | @cons p q ps qs h t ih=>
  obtain ⟨h1,h2⟩:=h
  by_cases e:p.1=k
  ·have e':q.1=k:=h1.symm.trans e
   have b:valueAt (q :: qs) k=some q.2:=by simp [valueAt,List.find?_cons,e']
   rw [zst e,b]; exact h2
  ·have e':¬ q.1=k:=fun z=>e (h1.trans z)
   have b:valueAt (q :: qs) k=valueAt qs k:=by simp [valueAt,List.find?_cons,e']
   rw [zsu e,b]; exact ih
theorem KV.any {kvs:List (κ×V)} {vs:List (κ×Value)} (r:KV kvs vs) (k:κ):(kvs.any fun kv=>decide (kv.1=k))=vs.any fun kv=>decide (kv.1=k):=by
 unfold KV at r
 induction r with
 | nil=>rfl
 | cons h t ih=>rw [List.any_cons,List.any_cons,ih,h.1]
theorem KV.repl {kvs:List (κ×V)} {vs:List (κ×Value)} (r:KV kvs vs) (k:κ) {y:V} {u:Value} (ry:RelV y u) :
  KV (kvs.map fun kv=>if kv.1=k then (kv.1,y) else kv) (vs.map fun kv=>if kv.1=k then (kv.1,u) else kv):=by
 unfold KV at r ⊢
 induction r with
 | nil=>exact .nil
 | @cons p q ps qs h t ih=>
  rw [List.map_cons,List.map_cons]
  refine .cons ?_ ih
  obtain ⟨h1,h2⟩:=h
  by_cases e:p.1=k
  ·rw [if_pos e,if_pos (h1.symm.trans e)]; exact ⟨h1,ry⟩
  ·rw [if_neg e,if_neg (fun z=>e (h1.trans z))]; exact ⟨h1,h2⟩
theorem KV.put {kvs:List (κ×V)} {vs:List (κ×Value)} (r:KV kvs vs) (k:κ) {y:V} {u:Value} (ry:RelV y u):KV (zuo kvs k y) (stored vs k u):=by
 unfold zuo stored
 rw [r.any k]
 by_cases e:(vs.any fun kv=>decide (kv.1=k))=true
 ·rw [if_pos e,if_pos e]; exact r.repl k ry
 ·rw [if_neg e,if_neg e]; exact Paired.snoc r ⟨rfl,ry⟩
theorem KV.length {kvs:List (κ×V)} {vs:List (κ×Value)} (r:KV kvs vs):kvs.length=vs.length:=Paired.length r
end
theorem zDK {P:Program} {w:World} {k:Key} {u:Value} (r:RelV (kV k) u):(zeO P w).is k u=true:=by
 cases k with
 | inl i=>obtain ⟨t,e⟩:=(show ∃ t,u=Value.int i t from r); subst e; exact zvw P w i t
 | inr x=>obtain ⟨t,e⟩:=(show ∃ t,u=Value.str x t from r); subst e; exact zvx P w x t
theorem zup {P:Program} {w:World}:∀ {ks:List Key} {us:List Value},Vals (ks.map kV) us→ItemsAre (zeO P w) ks us
 | [],_,r=>by rw [List.map_nil] at r; cases r; exact .nil
 | k :: ks,_,r=>by
  rw [List.map_cons] at r
  cases r with
  | cons h t=>exact .cons (zDK h) (zup t)
abbrev KT (H:Hp):List (List Key×V)→List (List Key×Addr×Value)→Prop:=Paired fun p q=>p.1=q.1∧H q.2.1=some (.tup (p.1.map kV))∧RelV p.2 q.2.2
theorem KT.val {H:Hp} {kvs:List (List Key×V)} {xs:List (List Key×Addr×Value)} (r:KT H kvs xs) (k:List Key):RelO (zss kvs k) ((atKey xs k).map (·.2)):=by
 induction r with
 | nil=>exact True.intro
 | @cons p q ps qs h t ih=>
  obtain ⟨h1,_,h2⟩:=h
  by_cases e:p.1=k
  ·have e':q.1=k:=h1.symm.trans e
   have b:atKey (q :: qs) k=some q.2:=by simp [atKey,List.find?_cons,e']
   rw [zst e,b]; exact h2
  ·have e':¬ q.1=k:=fun z=>e (h1.trans z)
   have b:atKey (q :: qs) k=atKey qs k:=by simp [atKey,List.find?_cons,e']
   rw [zsu e,b]; exact ih
theorem KT.repl {H:Hp} {kvs:List (List Key×V)} {xs:List (List Key×Addr×Value)} (r:KT H kvs xs) (k:List Key) {y:V} {u:Value} (ry:RelV y u) :
  KT H (kvs.map fun kv=>if kv.1=k then (kv.1,y) else kv) (xs.map (putAt k u)):=by
 induction r with
 | nil=>exact .nil
 | @cons p q ps qs h t ih=>
  rw [List.map_cons,List.map_cons]
  refine .cons ?_ ih
  obtain ⟨h1,h2,h3⟩:=h
  unfold putAt
  by_cases e:p.1=k
  ·rw [if_pos e,if_pos (h1.symm.trans e)]; exact ⟨h1,h2,ry⟩
  ·rw [if_neg e,if_neg (fun z=>e (h1.trans z))]; exact ⟨h1,h2,h3⟩
theorem KT.put {H:Hp} {kvs:List (List Key×V)} {xs:List (List Key×Addr×Value)} (r:KT H kvs xs) (k:List Key) {b:Addr} {y:V} {u:Value} (hb:H b=some (.tup (k.map kV))) (ry:RelV y u) :
  KT H (zuo kvs k y) (storedH xs k b u):=by
 have e:(kvs.any fun kv=>decide (kv.1=k))=(atKey xs k).isSome:=by
  rw [zxi,(r.val k).isSome_eq,Option.isSome_map]
 unfold zuo storedH
 rw [e]
 by_cases q:(atKey xs k).isSome=true
 ·rw [if_pos q,if_pos q]; exact r.repl k ry
 ·rw [if_neg q,if_neg q]; exact Paired.snoc r ⟨rfl,hb,ry⟩
theorem KT.keeps {H H':Hp} {kvs:List (List Key×V)} {xs:List (List Key×Addr×Value)} (r:KT H kvs xs) (ht:∀ b ys,H b=some (.tup ys)→H' b=some (.tup ys)):KT H' kvs xs:=
 Paired.mapP r fun _ _ z=>⟨z.1,ht _ _ z.2.1,z.2.2⟩
section
variable {P:Program} {w:World} {H:Hp} {h:Heap} {a:Addr}
theorem zGo {u:HO} (ok:HOk P w H h) (e:Rd H a u):ObjOk P w H h a u:=e.ok ok
theorem zBF {kvs:List (Key×V)} (ok:HOk P w H h) (e:Rd H a (.dK kvs)):kvs.length≤sizeLine∧(a==sysModules)=false∧∃ vs,KV kvs vs∧h.DictOf (zeO P w) a vs:=
 show ObjOk P w H h a (.dK kvs) from zGo ok e
theorem zIV {kvs:List (Key×V)} (ok:HOk P w H h) (e:H a=some (.dK kvs)):kvs.length≤sizeLine∧(a==sysModules)=false∧∃ vs,KV kvs vs∧h.DictOf (zeO P w) a vs:=zBF ok (.inl e)
theorem zy7 {ks:List Key} (ok:HOk P w H h) (e:H a=some (.tup (ks.map kV))):(tupleKind (zeO P w)).is h ks a:=by
 obtain ⟨_,its,r,o,h1,h2,n,h3⟩:=(show ObjOk P w H h a (.tup (ks.map kV)) from ok a _ e)
 exact ⟨o,its.toArray,n,h1,h2,h3,by simpa using zup r⟩
theorem zDL {kvs:List (List Key×V)} (ok:HOk P w H h) (e:Rd H a (.dT kvs)):kvs.length≤sizeLine∧(a==sysModules)=false∧
  ∃ xs,KT H kvs xs∧h.DictOfH (tupleKind (zeO P w)) a xs:=by
 obtain ⟨z,y,xs,r,o,es,ep,h1,h2,h3,h4,h5⟩:=(show ObjOk P w H h a (.dT kvs) from zGo ok e)
 refine ⟨z,y,xs,r,o,es,ep,h1,h2,h3,h4,fun x hx=>?_,h5⟩
 have all:∀ {l:List (List Key×V)} {m:List (List Key×Addr×Value)},KT H l m→∀ x∈m,(tupleKind (zeO P w)).is h x.1 x.2.1:=by
  intro l m q
  induction q with
  | nil=>intro x hx; exact nomatch hx
  | @cons p q ps qs hq t ih=>
   intro x hx
   rcases List.mem_cons.mp hx with e | hx
   ·subst e
    exact zy7 ok (by rw [← hq.1]; exact hq.2.1)
   ·exact ih x hx
 exact all r x hx
theorem zDM {kvs:List (List Key×V)} (ok:HOk P w H h) (e:H a=some (.dT kvs)):kvs.length≤sizeLine∧(a==sysModules)=false∧
  ∃ xs,KT H kvs xs∧h.DictOfH (tupleKind (zeO P w)) a xs:=zDL ok (.inl e)
end
def DGet (H:Hp) (a:Addr) (y:V) (r:Option V):Prop:=
 (∃ kvs k,Rd H a (.dK kvs)∧y=kV k∧r=zss kvs k)∨∃ kvs k b,Rd H a (.dT kvs)∧y=.ref b∧H b=some (.tup (k.map kV))∧r=zss kvs k
def DPut (H:Hp) (a:Addr) (y v:V) (H':Hp):Prop:=
 (∃ kvs k,H a=some (.dK kvs)∧y=kV k∧kvs.length < sizeLine∧H'=upd H a (.dK (zuo kvs k v)))∨
 ∃ kvs k b,H a=some (.dT kvs)∧y=.ref b∧H b=some (.tup (k.map kV))∧kvs.length < sizeLine∧H'=upd H a (.dT (zuo kvs k v))
theorem DGet.k {H:Hp} {a:Addr} {kvs:List (Key×V)} {k:Key} (e:H a=some (.dK kvs)):DGet H a (kV k) (zss kvs k):=.inl ⟨kvs,k,.inl e,rfl,rfl⟩
theorem DGet.t {H:Hp} {a b:Addr} {kvs:List (List Key×V)} {k:List Key} (e:H a=some (.dT kvs)) (eb:H b=some (.tup (k.map kV))):DGet H a (.ref b) (zss kvs k):=.inr ⟨kvs,k,b,.inl e,rfl,eb,rfl⟩
theorem DPut.k {H:Hp} {a:Addr} {kvs:List (Key×V)} {k:Key} {v:V} (e:H a=some (.dK kvs)) (hl:kvs.length < sizeLine):DPut H a (kV k) v (upd H a (.dK (zuo kvs k v))):=.inl ⟨kvs,k,e,rfl,hl,rfl⟩
theorem DPut.t {H:Hp} {a b:Addr} {kvs:List (List Key×V)} {k:List Key} {v:V} (e:H a=some (.dT kvs)) (eb:H b=some (.tup (k.map kV))) (hl:kvs.length < sizeLine) :
  DPut H a (.ref b) v (upd H a (.dT (zuo kvs k v))):=.inr ⟨kvs,k,b,e,rfl,eb,hl,rfl⟩
section
variable {X:Cx} {pins:List (Addr×Obj)} {σ:St} {H:Hp} {s:Shared} {a:Addr} {y v:V} {u r:Value} {o:Option V} {A:Around} {E:Value→Shared→Prop}
theorem Inv.big (I:Inv X pins σ H s):sysModules < s.heap.objs.size:=by
 have h:mainGlobals < s.heap.objs.size:=(I.mod.glob.keeps I.bk).lt
 exact Nat.lt_trans (by decide) h
theorem zy8 {Q:Value→Shared→Prop} (hu:A.units+1 < cLine) (I:Inv X pins σ H s) (g:DGet H a y (some v)) (ry:RelV y u) (h:∀ w' s',Inv X pins σ H s'→RelV v w'→Q w' s') :
  wpAny (model X.prog X.w) A (getItem (.ref a) u) Q E s:=by
 rcases g with ⟨kvs,k,e,ey,l⟩ | ⟨kvs,k,b,e,ey,eb,l⟩
 ·subst ey
  obtain ⟨z,hd,vs,rel,dd⟩:=zBF I.hok e
  obtain ⟨w',hw,rw'⟩:=RelO.some_of (v:=v) (o:=valueAt vs k) (by rw [l]; exact rel.val k)
  exact wpAny_getItem_of (zDK ry) dd.mapOf hw (h w' _ (I.tok _) rw')
 ·subst ey
  cases (show u=Value.ref b from ry)
  obtain ⟨z,hd,xs,rel,dd⟩:=zDL I.hok e
  obtain ⟨w',hw,rw'⟩:=RelO.some_of (v:=v) (o:=(atKey xs k).map (·.2)) (by rw [l]; exact rel.val k)
  obtain ⟨p,hp,hp2⟩:=Option.map_eq_some_iff.mp hw
  refine wpAny_getItem_heap (tupleKind_room_in1 hu) (zy7 I.hok eb) dd hp ?_
  rw [hp2]
  exact h w' _ (I.tok _) rw'
theorem zy9 {h':Heap} {t':Nat} {ob:HO} (I:Inv X pins σ H s) (mu:Mut (H a)) (hs:Heap.SameBut a s.heap h') (he:∃ q,h'.get? a=some q) (new:ObjOk X.prog X.w (upd H a ob) h' a ob) :
  Inv X pins σ (upd H a ob) { s with heap:=h',toks:=t' }:=
 I.write (x:=a) (e:=a) mu (.inl rfl) (fun b q hb z=>(hs.2 b hb).trans z) he new
theorem zGp {P:Program} {w:World} {H':Hp} {h':Heap} {kvs:List (Key×V)} {vs:List (Key×Value)} (z:kvs.length≤sizeLine) (hd:(a==sysModules)=false) (rel:KV kvs vs) (dd:h'.DictOf (zeO P w) a vs) :
  ObjOk P w H' h' a (.dK kvs):=⟨z,hd,vs,rel,dd⟩
theorem zza {H':Hp} {Q:Unit→Shared→Prop} (hu:A.units+1 < cLine) (I:Inv X pins σ H s) (g:DPut H a y v H') (ry:RelV y u) (rv:RelV v r) (h:∀ s',Inv X pins σ H' s'→Q () s') :
  wpAny (model X.prog X.w) A (setItem (.ref a) u r) Q E s:=by
 rcases g with ⟨kvs,k,e,ey,l,eH⟩ | ⟨kvs,k,b,e,ey,eb,l,eH⟩
 ·subst ey eH
  obtain ⟨z,hd,vs,rel,dd⟩:=zIV I.hok e
  have hz:vs.length≤sizeLine:=by rw [← rel.length]; exact z
  have hl:(zuo kvs k v).length≤sizeLine:=by have:=zpD kvs k v; omega
  refine wpAny_setItem_pairs (hsz:=hz) (zDK ry) dd fun h' dd' hs=>h _ ?_
  have he:∃ q,h'.get? a=some q:=let ⟨q,_,_,hq,_⟩:=dd'; ⟨q,hq⟩
  exact zy9 I (by rw [e]; exact True.intro) hs he (zGp hl hd (rel.put k rv) dd')
 ·subst ey eH
  cases (show u=Value.ref b from ry)
  obtain ⟨z,hd,xs,rel,dd⟩:=zDM I.hok e
  have hz:xs.length≤sizeLine:=by rw [← Paired.length rel]; exact z
  have hl:(zuo kvs k v).length≤sizeLine:=by have:=zpD kvs k v; omega
  refine wpAny_setItem_heap (hsz:=hz) (tupleKind_room_in1 hu) (zy7 I.hok eb) dd fun h' dd' hs=>h _ ?_
  obtain ⟨q,es,ep,hq,h2,h3,h4,_,h5⟩:=dd'
  refine zy9 I (by rw [e]; exact True.intro) hs ⟨q,hq⟩ ⟨hl,hd,_,(rel.put k eb rv).keeps fun c ys ec=>?_,q,es,ep,hq,h2,h3,h4,h5⟩
  rw [zbJ (zID ec e (fun z=>nomatch z))]
  exact ec
end
section
variable {X:Cx} {pins:List (Addr×Obj)} {σ:St} {H:Hp} {s:Shared} {a:Addr} {kvs:List (Key×V)} {k:Key} {u:Value} {A:Around} {E:Value→Shared→Prop}
theorem zIW {Q:Value→Shared→Prop} (I:Inv X pins σ H s) (e:Rd H a (.dK kvs)) (h:∀ t s',Inv X pins σ H s'→Q (.int kvs.length t) s'):wpAny (model X.prog X.w) A (call (.builtin "len") [.ref a]) Q E s:=by
 obtain ⟨z,hd,vs,rel,dd⟩:=zBF I.hok e
 refine call_len_dict hd dd (by rw [← rel.length]; rw [sizeLine_eq] at z; omega) ?_
 rw [← rel.length]
 exact h _ _ (I.tok _)
end
def zIX (i:Expr):Prop:=∀ ov iv,subscripted i false ov iv=operate [ov,iv] (getItem ov iv)
theorem zDN {prog:Program} {w:World} {A:Around} {E:Value→Shared→Prop} {s:Shared} {env:Env} {value slice:Expr} {pos:Pos} {T id:String} {Q:Value→Shared→Prop}
  (hl:typeLookup (.type T) "__getitem__"=pure (some (.builtin id))) (hs:zIX slice)
  (h:wpAny (model prog w) A (eval value env) (fun o s₁=>wpAny (model prog w) A (eval slice env) (fun i s₂=>s₂.TypeIs o T∧wpAny (model prog w) A (getItem o i) Q E s₂) E s₁) E s) :
  wpAny (model prog w) A (eval (.Subscript value slice pos) env) Q E s:=by
 refine Subscript_ (wpAny_mono h (fun o s₁ h₁=>wpAny_mono h₁ (fun i s₂ h₂=>?_) fun _ _ x=>x) fun _ _ x=>x)
 obtain ⟨hT,h₂⟩:=h₂
 unfold subscriptTail
 refine wpAny_bind ?_
 rw [getitemInPython_of_ne hT.not_modules]
 refine wpAny_bind (wpAny_specialOf hT hl ?_)
 have fin:wpAny (model prog w) A (subscripted slice false o i) (fun r s₃=>wpAny (model prog w) A (letTemporaryGo value o r >>= fun _=>pure r) Q E s₃) E s₂:=by
  rw [hs o i]
  exact wpAny_operating (wpAny_mono h₂ (fun r s₃ h₃=>wpAny_bind (wpAny_letTemporaryGo (wpAny_pure h₃))) fun _ _ x=>x)
 first
  | exact wpAny_pure (wpAny_bind fin)
  | exact wpAny_bind (wpAny_pure (wpAny_bind fin))
  | exact wpAny_bind fin
theorem zvB {X:Cx} {pins:List (Addr×Obj)} {σ:St} {H:Hp} {s:Shared} {a:Addr} {y:V} {o:Option V} (I:Inv X pins σ H s) (g:DGet H a y o):s.TypeIs (.ref a) "dict":=by
 rcases g with ⟨kvs,k,e,_,_⟩ | ⟨kvs,k,b,e,_,_,_⟩
 ·obtain ⟨_,_,vs,_,dd⟩:=zBF I.hok e
  exact dd.typeIs
 ·obtain ⟨_,_,xs,_,dd⟩:=zDL I.hok e
  exact dd.typeIs
def zGq (td ty:TE):TE:=fun σ H Q=>td σ H fun x H1=>ty σ H1 fun y H2=>∃ a v,x=.ref a∧DGet H2 a y (some v)∧Q v H2
def zDO (td ty tv:TE):TS:=fun D σ H=>tv σ H fun v H1=>td σ H1 fun x H2=>ty σ H2 fun y H3=>∃ a H4,x=.ref a∧DPut H3 a y v H4∧D.nx σ H4
section
variable {X:Cx} {o i e value:Expr} {pos pos' tpos:Pos} {td ty tv:TE}
theorem zDP (hu:X.A.units+1 < cLine) (ho:PE X o td) (hi:PE X i ty) (hs:zIX i):PE X (.Subscript o i pos) (zGq td ty):=by
 intro pins s σ H Q I h
 refine zDN PySem.F.slot_dict_getitem.lookup hs (thn (ho pins s σ H _ I h) fun u s1 ⟨x,H1,I1,rx,q1⟩=>thn (hi pins s1 σ H1 _ I1 q1) fun iv s2 ⟨y,H2,I2,ry,a,v,ex,g,q2⟩=>?_)
 subst ex
 obtain rfl:u=Value.ref a:=rx
 exact ⟨zvB I2 g,zy8 hu I2 g ry fun w' s3 I3 rw'=>⟨v,H2,I3,rw',q2⟩⟩
theorem zDQ (hu:X.A.units+1 < cLine) (ho:PE X o td) (hi:PE X i ty) (hv:PE X value tv) (hs:swapsWith value (some (.Subscript o i pos')) pos.line X.env=pure false) :
  PS X (.Assign [.Subscript o i pos'] value pos) (zDO td ty tv):=by
 intro pins s σ H D I h
 refine wpAny_Assign_Subscript (thn (hv pins s σ H _ I h) fun r s1 ⟨v,H1,I1,rv,q1⟩=>thn (ho pins s1 σ H1 _ I1 q1) fun u s2 ⟨x,H2,I2,rx,q2⟩=>thn (hi pins s2 σ H2 _ I2 q2) fun iv s3 ⟨y,H3,I3,ry,a,H4,ex,g,q3⟩=>?_) hs
 subst ex
 obtain rfl:u=Value.ref a:=rx
 exact zza hu I3 g ry rv fun s4 I4=>⟨σ,H4,I4,q3⟩
end
theorem zBG {P:Program} {w:World} {H:Hp} (h:Heap) (hb:sysModules < h.objs.size):ObjOk P w H (h.push { cls:=.type "dict",data:=.dict #[] }) h.objs.size (.dK []):=
 ⟨Nat.zero_le _,beq_eq_false_iff_ne.mpr (Ne.symm (Nat.ne_of_lt hb)),[],.nil,Heap.DictOf.new h⟩
theorem zBH {P:Program} {w:World} {H:Hp} (h:Heap) (hb:sysModules < h.objs.size):ObjOk P w H (h.push { cls:=.type "dict",data:=.dict #[] }) h.objs.size (.dT []):=
 ⟨Nat.zero_le _,beq_eq_false_iff_ne.mpr (Ne.symm (Nat.ne_of_lt hb)),[],.nil,_,#[],0,Heap.get?_push_size _ rfl,⟨rfl,rfl,rfl⟩,rfl,rfl,List.nodup_nil⟩
def zCL:TE:=fun _ H Q=>∀ p,H p=none→Q (.ref p) (upd H p (.dK []))
def zCM:TE:=fun _ H Q=>∀ p,H p=none→Q (.ref p) (upd H p (.dT []))
section
variable {X:Cx} {pos:Pos}
theorem zBI:PE X (.Dict [] [] pos) zCL:=fun pins s σ H Q I h=>
 wpAny_Dict_empty ⟨.ref s.heap.objs.size,_,I.laid (a:=s.heap.objs.size) (o:=.dK []) (t':=s.toks) (fun _ _ q=>Heap.get?_push_of_some _ q) (Nat.le_refl _) (zBG s.heap I.big),rfl,h _ (I.hok.fresh (Nat.le_refl _))⟩
theorem zBJ:PE X (.Dict [] [] pos) zCM:=fun pins s σ H Q I h=>
 wpAny_Dict_empty ⟨.ref s.heap.objs.size,_,I.laid (a:=s.heap.objs.size) (o:=.dT []) (t':=s.toks) (fun _ _ q=>Heap.get?_push_of_some _ q) (Nat.le_refl _) (zBH s.heap I.big),rfl,h _ (I.hok.fresh (Nat.le_refl _))⟩
end
structure M1 (X:Cx) (o:Expr) (m:Str) (apos:Pos) (e:Expr) (cpos:Pos):Prop where
 base:attributeBase o m X.env (eval o X.env)=eval o X.env
 few:((backTo cpos (starEach [e] X.env)).all (fun x=>!x.1)&&(backToKw cpos (keywordEach [] X.env)).all (fun x=>x.1.isSome)
  && decide (([e]:List Expr).length+([]:List Keyword).length+(if ([]:List Keyword).isEmpty then 0 else 1) < 30))=true
 line:(apos.endLine==cpos.line)=true
 trees:backTo cpos (starEach [e] X.env)=[(false,eval e X.env)]
section
variable {X:Cx} {pins:List (Addr×Obj)} {σ:St} {H:Hp} {s:Shared} {a:Addr} {y d:V} {u r:Value} {o:Option V} {A:Around} {E:Value→Shared→Prop}
end
section
variable {X:Cx} {o e f:Expr} {apos cpos:Pos} {td ty tx:TE}
end
section
variable {X:Cx} {pins:List (Addr×Obj)} {σ:St} {H:Hp} {s:Shared} {a:Addr} {kvs:List (Key×V)} {A:Around} {E:Value→Shared→Prop}
end
section
variable {X:Cx} {pins:List (Addr×Obj)} {σ:St} {H:Hp} {s:Shared} {a:Addr} {y:V} {u:Value} {A:Around} {E:Value→Shared→Prop}
end
end L2
namespace L2
open PySem PySem.Spec PyProof.Rows
section
variable {X:Cx}
theorem zzb:CallR X (.builtin "len") (fun xs H Q=>∃ a kvs,xs=[V.ref a]∧H a=some (.dK kvs)∧Q (.int kvs.length) H):=by
 intro pins s σ H xs us Q I r h
 obtain ⟨a,kvs,rfl,ha,q⟩:=h
 obtain ⟨u,rfl,ru⟩:=zre r
 cases ru
 exact zIW I (.inl ha) fun t s' I'=>⟨.int kvs.length,H,I',⟨t,rfl⟩,q⟩
end
section
variable {κ:Type} [DecidableEq κ]
end
end L2
set_option maxHeartbeats 4000000
namespace L2
open PySem PySem.Spec PyProof.Rows
def zgs (env:Env):List (Str×NameKind)→List (Str×Addr)→List (Str×Addr)
 | [],acc=>acc
 | (n,k) :: r,acc=>zgs env r (if (k==NameKind.free)=true then (n,(env.cells.lookup n).getD 0) :: acc else acc)
theorem zpE {env:Env} (f:(Str×NameKind)→List (Str×Addr)→Sem (ForInStep (List (Str×Addr))))
  (hf:∀ n k acc,f (n,k) acc=if (k==NameKind.free)=true then (cellOf env n >>= fun a=>pure (.yield ((n,a) :: acc))) else pure (.yield acc)) :
  ∀ (l:List (Str×NameKind)) (acc:List (Str×Addr)),(∀ y∈l,y.2=.free→∃ c,env.cells.lookup y.1=some c)→forIn l acc f=(pure (zgs env l acc):Sem _)
 | [],acc,_=>rfl
 | (n,k) :: r,acc,h=>by
  rw [List.forIn_cons,hf]
  have hr:∀ y∈r,y.2=.free→∃ c,env.cells.lookup y.1=some c:=fun y hy=>h y (List.mem_cons_of_mem _ hy)
  unfold zgs
  cases hk:(k==NameKind.free) with
  | true=>
   obtain ⟨c,hc⟩:=h (n,k) List.mem_cons_self (by simpa using hk)
   rw [if_pos rfl,if_pos rfl]
   have hc':env.cells.lookup n=some c:=hc
   simp only [cellOf,hc',pure_bind,Option.getD_some]
   exact zpE f hf r _ hr
  | false=>
   rw [if_neg Bool.false_ne_true,if_neg Bool.false_ne_true,pure_bind]
   exact zpE f hf r acc hr
theorem zsv {scope:Scope} {env:Env} (h:∀ y∈scope.names,y.2=.free→∃ c,env.cells.lookup y.1=some c):closureFor scope env=pure (zgs env scope.names []):=by
 simp only [closureFor]
 rw [zpE (env:=env) _ (fun n k acc=>?_) scope.names [] h,pure_bind]
 cases hk:(k==NameKind.free) <;> simp [hk]
theorem zrP {env:Env}:∀ {l:List (Str×NameKind)} {acc:List (Str×Addr)},(∀ y∈l,y.2=.free→∃ c,env.cells.lookup y.1=some c)→(∀ x c,acc.lookup x=some c→env.cells.lookup x=some c)→
  ∀ x c,(zgs env l acc).lookup x=some c→env.cells.lookup x=some c
 | [],_,_,ha,x,c,e=>ha x c e
 | (n,k) :: r,acc,h,ha,x,c,e=>by
  unfold zgs at e
  refine zrP (l:=r) (fun y hy=>h y (List.mem_cons_of_mem _ hy)) (fun x c e=>?_) x c e
  cases hk:(k==NameKind.free) with
  | false=>rw [hk,if_neg Bool.false_ne_true] at e; exact ha x c e
  | true=>
   rw [hk,if_pos rfl,List.lookup_cons] at e
   cases hx:x==n with
   | false=>rw [hx] at e; exact ha x c e
   | true=>
    rw [hx] at e
    obtain ⟨d,hd⟩:=h (n,k) List.mem_cons_self (by simpa using hk)
    have hd':env.cells.lookup n=some d:=hd
    rw [hd',Option.getD_some] at e
    cases e
    rw [beq_iff_eq.mp hx]; exact hd'
theorem zpF {env:Env}:∀ {l:List (Str×NameKind)} {acc:List (Str×Addr)} {x:Str},(acc.lookup x).isSome=true→((zgs env l acc).lookup x).isSome=true
 | [],_,_,h=>h
 | (n,k) :: r,acc,x,h=>by
  unfold zgs
  refine zpF (l:=r) ?_
  cases hk:(k==NameKind.free) with
  | false=>rw [if_neg Bool.false_ne_true]; exact h
  | true=>
   rw [if_pos rfl,List.lookup_cons]
   cases hx:x==n with
   | false=>exact h
   | true=>rfl
theorem zm8 {env:Env}:∀ {l:List (Str×NameKind)} {acc:List (Str×Addr)} {y:Str×NameKind},y∈l→y.2=.free→((zgs env l acc).lookup y.1).isSome=true
 | (n,k) :: r,acc,y,hy,hk=>by
  unfold zgs
  rcases List.mem_cons.mp hy with e | hy
  ·subst e
   have hk':(k==NameKind.free)=true:=by simpa using hk
   rw [hk',if_pos rfl]
   exact zpF (by rw [List.lookup_cons]; simp)
  ·exact zm8 hy hk
structure CompScope (NX:List Str) (SX scope:Scope) (N:List Str) (own:Nat) (fi:List Nat):Prop where
 kind:scope.kind=.function
 nocell:∀ y∈scope.names,y.2≠.cell
 names:∀ y∈scope.names,y.2=.local→scope.names.lookup y.1=some .local
 free:∀ y∈scope.names,y.2=.free→SX.names.lookup y.1=some .cell∨SX.names.lookup y.1=some .free
 len:N.length=own+fi.length
 outs:∀ p∈(N.drop own).zip fi,NX[p.2]? = some p.1∧scope.names.lookup p.1=some .free
def zmh (own:Nat) (fi:List Nat) (σ:St):St:=List.replicate own none++fi.map fun i=>(σ[i]?).join
def Cx.comp (X:Cx) (scope:Scope) (N:List Str) (ex:List Addr) (s:Shared) (H:Hp):Cx:=
 { X with N:=N,s₀:=s,H₀:=H,env:=compEnvC scope (zgs X.env scope.names []) s.heap.objs.size X.env,outer:=X.stack,stack:=X.stack,ex:=ex,fn:=fun _=>false,pn:=[],xe:=fun _ _=>False }
theorem zic {env:Env} {x:Str}:∀ {names:List (Str×NameKind)},(∀ y∈names,y.2≠.cell)→
  (∀ k,(names.map fun (n,k)=>if (k==NameKind.free&&env.scope.kind==.function&&env.kindOf n==some .cell) then (n,NameKind.cell) else (n,k)).lookup x=some k→k=.cell∨k=.free→names.lookup x=some .free)
 | [],_,k,h,_=>by simp at h
 | (n,k0) :: r,hc,k,h,hk=>by
  have ih:=@zic env x r (fun y hy=>hc y (List.mem_cons_of_mem _ hy)) k
  rw [List.map_cons] at h
  have h0:k0≠.cell:=hc (n,k0) List.mem_cons_self
  cases hx:x==n with
  | false=>
   have e:∀ z:NameKind,List.lookup x ((n,z) :: (r.map fun (n,k)=>if (k==NameKind.free&&env.scope.kind==.function&&env.kindOf n==some .cell) then (n,NameKind.cell) else (n,k)))=List.lookup x (r.map fun (n,k)=>if (k==NameKind.free&&env.scope.kind==.function&&env.kindOf n==some .cell) then (n,NameKind.cell) else (n,k)):=fun z=>by rw [List.lookup_cons,hx]
   rw [List.lookup_cons,hx]
   refine ih ?_ hk
   by_cases hcnd:(k0==NameKind.free&&env.scope.kind==.function&&env.kindOf n==some .cell)=true
   ·simp only [hcnd,if_true] at h; rw [e] at h; exact h
   ·simp only [Bool.not_eq_true] at hcnd; simp only [hcnd] at h; rw [if_neg Bool.false_ne_true,e] at h; exact h
  | true=>
   rw [List.lookup_cons,hx]
   show some k0=some .free
   by_cases hcnd:(k0==NameKind.free&&env.scope.kind==.function&&env.kindOf n==some .cell)=true
   ·have:(k0==NameKind.free)=true:=by
     simp only [Bool.and_eq_true] at hcnd; exact hcnd.1.1
    rw [beq_iff_eq.mp this]
   ·simp only [Bool.not_eq_true] at hcnd
    simp only [hcnd] at h
    rw [if_neg Bool.false_ne_true,List.lookup_cons,hx] at h
    cases h
    rcases hk with z | z
    ·exact absurd z h0
    ·rw [z]
theorem zgQ {env:Env} {x:Str}:∀ {names:List (Str×NameKind)},names.lookup x=some .free→
  (names.map fun (n,k)=>if (k==NameKind.free&&env.scope.kind==.function&&env.kindOf n==some .cell) then (n,NameKind.cell) else (n,k)).lookup x=some .cell∨
  (names.map fun (n,k)=>if (k==NameKind.free&&env.scope.kind==.function&&env.kindOf n==some .cell) then (n,NameKind.cell) else (n,k)).lookup x=some .free
 | [],h=>by simp at h
 | (n,k0) :: r,h=>by
  rw [List.map_cons]
  cases hx:x==n with
  | false=>
   rw [List.lookup_cons,hx] at h
   have ih:=@zgQ env x r h
   by_cases hcnd:(k0==NameKind.free&&env.scope.kind==.function&&env.kindOf n==some .cell)=true
   ·simp only [hcnd,if_true,List.lookup_cons,hx]; exact ih
   ·simp only [Bool.not_eq_true] at hcnd; simp only [hcnd]; rw [if_neg Bool.false_ne_true,List.lookup_cons,hx]; exact ih
  | true=>
   rw [List.lookup_cons,hx] at h
   cases h
   by_cases hcnd:(NameKind.free==NameKind.free&&env.scope.kind==.function&&env.kindOf n==some .cell)=true
   ·left; simp only [hcnd,if_true,List.lookup_cons,hx]
   ·right; simp only [Bool.not_eq_true] at hcnd; simp only [hcnd]; rw [if_neg Bool.false_ne_true,List.lookup_cons,hx]
section
variable {X:Cx} {pins:List (Addr×Obj)} {σ:St} {H:Hp} {s:Shared} {NX N:List Str} {SX scope:Scope} {own:Nat} {fi:List Nat}
theorem CompScope.cells (S:CompScope NX SX scope N own fi) (hS:X.env.scope=SX) (ok:X.Ok):∀ y∈scope.names,y.2=.free→∃ c,X.env.cells.lookup y.1=some c:=fun y hy hk=>by
 refine ok.has y.1 ?_
 have:=S.free y hy hk
 rw [← hS] at this
 exact this
theorem Inv.comp {fp : List Addr} {h₁ : Heap} {t' : Nat} (S : CompScope NX SX scope N own fi) (hN : X.N = NX) (hS : X.env.scope = SX) (I : Inv X pins σ H s) (hfp : ∀ b ∈ fp, zBr X pins H b) (hlt : ∀ b ∈ fp, b < s.heap.objs.size)
    (hns : h₁.Ns s.heap.objs.size (fun _ => none)) (k : ∀ b o, s.heap.get? b = some o → h₁.get? b = some o) :
    Inv (X.comp scope N fp s H) [] (zmh own fi σ) H { s with heap := h₁, toks := t' } := by
  have hcl := S.cells hS I.ok
  have sub : ∀ x c, (zgs X.env scope.names []).lookup x = some c → X.env.cells.lookup x = some c := zrP hcl fun x c e => by simp at e
  have kinds : ∀ x, ((X.comp scope N fp s H).env.kindOf x = some .cell ∨ (X.comp scope N fp s H).env.kindOf x = some .free) → scope.names.lookup x = some .free := fun x hx => by
    rcases hx with hx | hx
    · exact zic S.nocell _ hx (.inl rfl)
    · exact zic S.nocell _ hx (.inr rfl)
  refine ⟨⟨I.ok.mod, S.kind, I.ok.glob, I.ok.blt, Nat.le_refl _, fun x y c h1 h2 => I.ok.inj x y c (sub _ _ h1) (sub _ _ h2), fun x hx => ?_, fun x c h => by exact absurd (show false = true from h) Bool.false_ne_true, I.ok.hd, I.ok.frames, .inl rfl,
    fun b hb => ⟨?_, fun x c e => (hfp b hb).2.2.2.2.1 x c (sub x c e)⟩, I.bs, Nat.le_trans I.ok.bsz I.sz, fun b o e hb => ?_, fun b hb hf => ?_, I.stack, I.stkFree⟩,
    rfl, I.bare, Un.kept k, ⟨_, hns, fun i x v e1 e2 e3 => ?_⟩, fun x c e => ?_, I.hok.fresh (Nat.le_refl _), fun x c e => I.freeC x c (sub x c e), fun p hp => absurd (show p ∈ ([] : List (Addr × Obj)) from hp) (by simp), I.hok.kept k, ?_⟩
  · have := zm8 (env := X.env) (acc := []) (PySem.mem_of_lookup (kinds x hx)) rfl
    exact Option.isSome_iff_exists.mp this
  · exact Nat.ne_of_lt (hlt b hb)
  · rcases (hfp b hb).2.2.2.1 with z | z
    · exact I.ok.noex b o e z
    · exact absurd (Nat.lt_of_lt_of_le (Heap.lt_size e) (Nat.le_trans I.ok.bsz z)) (Nat.lt_irrefl _)
  · rcases List.mem_cons.mp (I.stkSub b hf) with z | z
    · exact (hfp b hb).2.1 z
    · exact (hfp b hb).2.2.1 z
  · -- the names from around
    have hi : own ≤ i := by
      by_cases hi : i < own
      · have : (zmh own fi σ)[i]? = some none := by
          unfold zmh
          rw [List.getElem?_append_left (by simpa using hi), List.getElem?_replicate, if_pos hi]
        rw [this] at e2; cases e2
      · omega
    have e2' : (fi.map fun i => (σ[i]?).join)[i - own]? = some (some v) := by
      unfold zmh at e2
      rw [List.getElem?_append_right (by simpa using hi), List.length_replicate] at e2
      exact e2
    rw [List.getElem?_map] at e2'
    cases ef : fi[i - own]? with
    | none => rw [ef] at e2'; cases e2'
    | some j =>
      rw [ef] at e2'
      have e4 : (σ[j]?).join = some v := by simpa using e2'
      have e5 : σ[j]? = some (some v) := by
        cases q : σ[j]? with
        | none => rw [q] at e4; cases e4
        | some z => rw [q] at e4; have e4' : z = some v := by simpa using e4
                    rw [e4']
      have e1' : N[i]? = some x := e1
      have hz : (x, j) ∈ (N.drop own).zip fi := by
        refine List.mem_of_getElem? (i := i - own) ?_
        rw [List.getElem?_zip_eq_some]
        refine ⟨?_, ef⟩
        rw [List.getElem?_drop]
        have : own + (i - own) = i := by omega
        rw [this]; exact e1'
      obtain ⟨o1, o2⟩ := S.outs (x, j) hz
      obtain ⟨m, hn, hl⟩ := I.loc
      have vis : SX.names.lookup x = some .cell ∨ SX.names.lookup x = some .free := S.free (x, .free) (PySem.mem_of_lookup o2) rfl
      have vis' : X.env.scope.names.lookup x = some .cell ∨ X.env.scope.names.lookup x = some .free := by rw [hS]; exact vis
      obtain ⟨u, r, l⟩ := hl j x v (by rw [hN]; exact o1) e5 (.inr vis')
      refine ⟨u, r, .inr ?_⟩
      rcases l with ⟨hk, _⟩ | ⟨_, c, hc, hcell⟩
      · have hk' : X.env.scope.names.lookup x = some .local := hk
        rcases vis' with z | z <;> (rw [z] at hk'; cases hk')
      · refine ⟨zgQ (env := X.env) o2, c, ?_, hcell.keeps k⟩
        have hh := zm8 (env := X.env) (acc := []) (PySem.mem_of_lookup o2) rfl
        obtain ⟨c', hc'⟩ := Option.isSome_iff_exists.mp hh
        have := sub x c' hc'
        rw [hc] at this; cases this
        exact hc'
  · obtain ⟨v, q⟩ := I.cell x c (sub x c e)
    exact ⟨v, q.keeps k⟩
  · unfold zmh
    show _ = N.length
    rw [List.length_append, List.length_replicate, List.length_map, S.len]
end
section
variable {prog:Program} {w:World} {A:Around} {R:Result→Shared→Prop} {s:Shared}
theorem zvC {elt target iter : Expr} {ifs : List Expr} {scope : Scope} {pos : Pos} {it acc : Value} {env : Env} (I : Nat → Shared → Prop) {F : Value → Shared → Prop} (hF : ∀ e s, F e s → False)
    (turn : ∀ n s, I n s → wpAny (model prog w) A (pyNext it) (fun r s₁ => match r with
      | none => R (.ok .next) s₁
      | some v => wpAny (model prog w) A (letOwnedTupleGo target it v) (fun _ s₁' => wpAny (model prog w) A (assign target env v) (fun _ s₂ =>
          wpAny (model prog w) A (forIn ifs true fun c r => if r = true then do let ok ← isTrue c env (eval c env); pure (ForInStep.yield ok) else pure (ForInStep.yield r)) (fun ok s₃ =>
            if ok = true then wpAny (model prog w) A (eval elt env) (fun x s₄ =>
              wpAny (model prog w) A (call (.builtin "list.append") [acc, x]) (fun _ s₅ => ∃ m, m < n ∧ I m s₅) F s₄) F s₃
            else ∃ m, m < n ∧ I m s₃) F s₂) F s₁') F s₁) F s)
    (n : Nat) (h : I n s) :
    codeAny (model prog w) A (.compLoop (.ListComp elt [⟨target, iter, ifs, 0⟩] scope pos) 0 it acc env) R s := by
  refine codeAny_loop rfl I (fun n s hI => ?_) n h
  show wpAny _ A ((compTurn (.ListComp elt [⟨target, iter, ifs, 0⟩] scope pos) 0 it acc env).onRaise (fun x => do noteFrame x env; theTreesLotGoes x)) _ _ s
  refine wpAny_noted ?_
  rw [compTurn_list]
  refine wpAny_bind (wpAny_standAt (wpAny_bind (wpAny_mono (turn n s hI) (fun r s₁ h₁ => ?_) fun _ _ h' => (hF _ _ h').elim)))
  cases r with
  | none => exact wpAny_pure h₁
  | some v =>
    refine wpAny_bind (wpAny_mono h₁ (fun _ s₁' h₁' => ?_) fun _ _ h' => (hF _ _ h').elim)
    refine wpAny_bind (wpAny_mono h₁' (fun _ s₂ h₂ => wpAny_bind (wpAny_mono h₂ (fun ok s₃ h₃ => ?_) fun _ _ h' => (hF _ _ h').elim)) fun _ _ h' => (hF _ _ h').elim)
    cases ok with
    | false => exact wpAny_pure ⟨rfl, h₃⟩
    | true =>
      exact wpAny_bind (wpAny_bind (wpAny_mono h₃ (fun x s₄ h₄ => wpAny_bind (wpAny_mono h₄ (fun _ s₅ h₅ => wpAny_pure (wpAny_pure ⟨rfl, h₅⟩)) fun _ _ h' => (hF _ _ h').elim)) fun _ _ h' => (hF _ _ h').elim))
end
def PIf (X:Cx) (ifs:List Expr) (t:TT):Prop:=
 ∀ (pins:List (Addr×Obj)) (s:Shared) (σ:St) (H:Hp) (Q:Bool→Hp→Prop),Inv X pins σ H s→t σ H Q→
  wpAny (model X.prog X.w) X.A (forIn ifs true fun c r=>if r=true then do let ok ← isTrue c X.env (eval c X.env); pure (ForInStep.yield ok) else pure (ForInStep.yield r)) (TP X pins σ Q) X.xe s
def zGr:TT:=fun _ H Q=>Q true H
theorem zDR {X:Cx}:PIf X [] zGr:=fun _ _ _ H _ I h=>wpAny_tests_nil ⟨H,I,h⟩
theorem zDS {X:Cx} {c:Expr} {t:TT} (h:PT X c t):PIf X [c] t:=fun pins s σ H Q I q=>wpAny_tests_one (h pins s σ H Q I q)
def zzc (wi : TI) (g : TG) (tt : TT) (te : TE) (own : Nat) (fi : List Nat) (σ : St) (H : Hp) (R : Addr → Hp → Prop) : Prop :=
  wi σ H fun J H1 => ∀ l, H1 l = none → ∃ W : Nat → Nat → St → Hp → Prop, (∃ m, W 0 m (zmh own fi σ) (upd H1 l (.lst []))) ∧ ∀ i m σ' H', W i m σ' H' →
    (J.stop i H' ∧ R l H') ∨ (J.go i H' ∧ ∃ N : St → Hp → Prop, (∀ σ'' H'', N σ'' H'' → ∃ m', m' < m ∧ W (i + 1) m' σ'' H'') ∧ ∀ x H2, J.yld i H' x H2 → g x σ' H2 fun σ2 H3 => tt σ2 H3 fun ok H4 =>
      if ok = true then te σ2 H4 fun y H5 => ∃ xs, H5 l = some (.lst xs) ∧ xs.length < sizeLine ∧ N σ2 (upd H5 l (.lst (xs ++ [y]))) else N σ2 H4)
def zDT (wi:TI) (g:TG) (tt:TT) (te:TE) (own:Nat) (fi:List Nat):TE:=fun σ H Q=>zzc wi g tt te own fi σ H fun l H'=>Q (.ref l) H'
structure Gone (X:Cx) (pins:List (Addr×Obj)) (H:Hp) (C:Addr):Prop where
 none:H C=none
 loc:C≠X.env.locals
 ab:X.s₀.heap.objs.size≤C
 cell:∀ x c,X.env.cells.lookup x=some c→c≠C
 pin:∀ p∈X.pn++pins,p.1≠C
section
variable {X:Cx} {pins:List (Addr×Obj)} {σ:St} {H:Hp} {s:Shared} {NX N:List Str} {SX scope:Scope} {own:Nat} {fi:List Nat} {tg iter elt:Expr} {ifs:List Expr} {wi:TI} {g:TG} {tt:TT} {te:TE} {pos cpos:Pos} {use:Option (Value→Sem Unit)} {QQ:Value→Shared→Prop} {R:Addr→Hp→Prop}
theorem zuq (S:CompScope NX SX scope N own fi) (hN:X.N=NX) (hS:X.env.scope=SX) (hc:X.calm=true) (hi:PI X tg iter wi) (hg:∀ ex s H,PG (X.comp scope N ex s H) tg g) (ht:∀ ex s H,PIf (X.comp scope N ex s H) ifs tt)
  (he:∀ ex s H,PE (X.comp scope N ex s H) elt te) (I:Inv X pins σ H s) (h:zzc wi g tt te own fi σ H R)
  (post:∀ l H' s' C,Inv X pins σ H' s'→R l H'→(∃ m,s'.heap.Ns C m)→Gone X pins H' C→compPost (model X.prog X.w) X.A X.xe use QQ (.ref l) C (.ok .next) s')
  (hs:∀ x,foldedSetIterable iter X.env x=pure x) :
  wpAny (model X.prog X.w) X.A (comprehension (.ListComp elt [⟨tg,iter,ifs,0⟩] scope pos) scope X.env cpos (newList []) false (eval iter X.env) use) QQ X.xe s:=by
 have hcl:=S.cells hS I.ok
 refine wpAny_comprehension_free (use:=use) rfl hs (zsv hcl) S.kind S.names ?_
 refine thn (hi pins s σ H _ I h) fun v s1 h1=>thn h1 fun itv s2 h2=>?_
 obtain ⟨it,fp,tn,J,H2,e,I2,T,st2,f2,q⟩:=h2
 subst e
 have hl:H2 s2.heap.objs.size=none:=I2.hok.fresh (Nat.le_refl _)
 obtain ⟨W,⟨m0,w0⟩,turn⟩:=q _ hl
 generalize hL:s2.heap.objs.size=L at w0 turn hl
 refine wpAny_newObj_type ?_
 rw [hL]
 have I3:Inv X pins σ (upd H2 L (.lst [])) { s2 with heap:=s2.heap.push { cls:=.type "list",data:=.seq ([]:List Value).toArray } }:=by
  subst hL
  exact I2.laid (t':=s2.toks) (fun b u e=>Heap.get?_push_of_some _ e) (Nat.le_refl _) ⟨Nat.zero_le _,[],0,.nil,Heap.get?_push_size _ rfl⟩
 generalize hs3:({ s2 with heap:=s2.heap.push { cls:=.type "list",data:=.seq ([]:List Value).toArray } }:Shared)=s3 at I3 ⊢
 have st3:tn 0 s3.heap:=T.keep _ _ _ st2 fun b _ o e=>by subst hs3; exact Heap.get?_push_of_some _ e
 have hlt3:∀ b∈fp,b < s3.heap.objs.size:=fun b hb=>by
  obtain ⟨o,e,_⟩:=T.obj _ _ st3 b hb
  exact Heap.lt_size e
 have hfp3:∀ b∈fp,zBr X pins (upd H2 L (.lst [])) b:=fun b hb=>by
  obtain ⟨f0,f1⟩:=f2 b hb
  refine ⟨?_,f1⟩
  obtain ⟨o,e,_⟩:=T.obj _ _ st2 b hb
  rw [zbJ (by rw [← hL]; exact Nat.ne_of_lt (Heap.lt_size e))]; exact f0
 refine wpAny_newFunctionEnv S.nocell (by intro y hy; simp at hy) (fun h₁ hns₁ hsb₁=>?_) S.kind
 have hns₁':h₁.Ns s3.heap.objs.size (fun _=>none):=by
  have:(fun x=>List.lookup x ([]:List (Str×Value)).reverse)=fun _=>(none:Option Value):=by funext x; rfl
  rw [← this]; exact hns₁
 have k1:∀ b o,s3.heap.get? b=some o→h₁.get? b=some o:=fun b o e=>hsb₁.extBut b o (Nat.ne_of_lt (Heap.lt_size e)) (Heap.get?_push_of_some _ e)
 have I4:=Inv.comp (t':=s3.toks+([]:List (Str×Value)).length) S hN hS I3 hfp3 hlt3 hns₁' k1
 have stat:∀ {H':Hp},(∀ b∈fp,H' b=none)→∀ b∈fp,zBr (X.comp scope N fp s3 (upd H2 L (.lst []))) [] H' b:=fun {H'} hn b hb=>
  ⟨hn b hb,Nat.ne_of_lt (hlt3 b hb),I4.ok.exfs b hb,.inl hb,(I4.ok.exf b hb).2,fun p hp=>absurd (show p∈([]:List (Addr×Obj)) from hp) (by simp)⟩
 generalize hX':X.comp scope N fp s3 (upd H2 L (.lst []))=X' at I4 stat
 have hP:X'.prog=X.prog:=by rw [← hX']; rfl
 have hw:X'.w=X.w:=by rw [← hX']; rfl
 have hK:X'.K=X.K:=by rw [← hX']; rfl
 have hA:X'.A=X.A:=by rw [← hX']; rfl
 have hca:X'.calm=true:=by rw [← hX']; exact hc
 have henv:X'.env=compEnvC scope (zgs X.env scope.names []) s3.heap.objs.size X.env:=by rw [← hX']; rfl
 have hxe:X'.xe=fun _ _=>False:=by rw [← hX']; rfl
 have hg':=hg fp s3 (upd H2 L (.lst []))
 have ht':=ht fp s3 (upd H2 L (.lst []))
 have he':=he fp s3 (upd H2 L (.lst []))
 rw [hX'] at hg' ht' he'
 have loop:∀ s4:Shared,s4={ s3 with heap:=h₁,toks:=s3.toks+([]:List (Str×Value)).length }→
   codeAny (model X.prog X.w) X.A (.compLoop (.ListComp elt [⟨tg,iter,ifs,0⟩] scope pos) 0 (.ref it) (.ref L) (compEnvC scope (zgs X.env scope.names []) s3.heap.objs.size X.env))
    (compPost (model X.prog X.w) X.A X.xe use QQ (.ref L) s3.heap.objs.size) s4:=by
  intro s4 hs4
  refine zvC (fun n s'=>∃ i σ' H',Inv X' [] σ' H' s'∧tn i s'.heap∧(∀ b∈fp,H' b=none)∧W i n σ' H') (F:=X'.xe) (fun e s z=>by rw [hxe] at z; exact z) ?_ m0
   ⟨0,_,_,by rw [hs4]; exact I4,by rw [hs4]; exact T.keep _ _ _ st3 fun b _ o e=>k1 b o e,fun b hb=>(hfp3 b hb).1,w0⟩
  rintro n s5 ⟨i,σ5,H5,I5,st5,fr5,w5⟩
  rcases turn i n σ5 H5 w5 with ⟨stop,qn⟩ | ⟨go,N',hN',step⟩
  ·have hd:=T.done X' hP hw hK hca i [] s5 σ5 H5 X'.xe I5 (stat fr5) st5 stop
   rw [hA] at hd
   refine thn hd fun r s6 ⟨hr,I6⟩=>?_
   subst hr
   -- the end: back to the body around
   have hb:=I6.base
   have e1:X'.fs=frs X.stack:=by rw [← hX']; rfl
   have e2:X'.ex=fp:=by rw [← hX']; rfl
   have e3:X'.H₀=upd H2 L (.lst []):=by rw [← hX']; rfl
   have e4:X'.s₀=s3:=by rw [← hX']; rfl
   rw [e1,e2,e3,e4] at hb
   have hok6:HOk X.prog X.w H5 s6.heap:=by rw [← hP,← hw]; exact I6.hok
   have os6:s6.os=s3.os:=by rw [I6.os,e4]
   have I7:Inv X pins σ H5 s6:=I3.call' os6 hb hok6 I6.bare fun b hb=>⟨(hfp3 b hb).2.2.2.1,(hfp3 b hb).2.1,(hfp3 b hb).2.2.2.2.1,(hfp3 b hb).2.2.2.2.2⟩
   refine post L H5 s6 _ I7 qn ?_ ⟨?_,Nat.ne_of_gt I3.lt,I3.sz,fun x c e z=>?_,fun p hp z=>?_⟩
   ·obtain ⟨m,hn,_⟩:=I6.loc
    rw [henv] at hn
    exact ⟨m,hn⟩
   ·have:=I6.free
    rw [henv] at this
    exact this
   ·obtain ⟨v',q'⟩:=I3.cell x c e
    exact absurd (z▸q'.lt) (Nat.lt_irrefl _)
   ·exact absurd (z▸Heap.lt_size (I3.pin p hp).1) (Nat.lt_irrefl _)
  ·have hd:=T.item X' hP hw hK hca i [] s5 σ5 H5 X'.xe I5 (stat fr5) st5 go
   rw [hA] at hd
   refine thn hd fun r s6 ⟨u,hr,h6⟩=>?_
   subst hr
   refine thn h6 fun _ s7 ⟨x,H7,I7,r7,y7,st7,fr7⟩=>?_
   have I7':=I7.pinned (stat fr7) (T.obj _ _ st7)
   have ha:=hg' _ s7 σ5 H7 x u _ I7' r7 (step x H7 y7)
   rw [hP,hw,hA,henv] at ha
   refine thn ha fun _ s8 ⟨σ8,H8,I8,q8⟩=>?_
   have hb:=ht' _ s8 σ8 H8 _ I8 q8
   rw [hP,hw,hA,henv] at hb
   refine thn hb fun ok s9 ⟨H9,I9,q9⟩=>?_
   have again:∀ {σ':St} {H':Hp} {s':Shared},Inv X' ([]++zuc fp s7.heap) σ' H' s'→N' σ' H'→∃ m,m < n∧∃ i σ' H',Inv X' [] σ' H' s'∧tn i s'.heap∧(∀ b∈fp,H' b=none)∧W i m σ' H':=fun {σ' H' s'} I' n'=>by
    obtain ⟨m',hm,w'⟩:=hN' σ' H' n'
    refine ⟨m',hm,i+1,σ',H',I'.unpinned,T.keep _ _ _ st7 fun b hb o e=>(I'.pin (b,o) (List.mem_append_right _ (List.mem_append_right _ (zk8 hb e)))).1,fun b hb=>?_,w'⟩
    obtain ⟨o,e,d⟩:=T.obj _ _ st7 b hb
    exact (I'.pin (b,o) (List.mem_append_right _ (List.mem_append_right _ (zk8 hb e)))).2.1
   cases ok with
   | false=>
    rw [if_neg Bool.false_ne_true] at q9 ⊢
    exact again I9 q9
   | true=>
    rw [if_pos rfl] at q9 ⊢
    have hv:=he' _ s9 σ8 H9 _ I9 q9
    rw [hP,hw,hA,henv] at hv
    refine thn hv fun y s10 ⟨yv,H10,I10,r10,xs,hx,hz,q10⟩=>?_
    have hap:=zpB (X:=X') _ s10 σ8 H10 (V.ref L) [yv] (Value.ref L) [y] (fun v H'=>v=.non∧N' σ8 H') I10 rfl (.cons r10 .nil) ⟨L,xs,yv,rfl,rfl,hx,hz,rfl,q10⟩
    rw [hP,hw,hA] at hap
    refine thn hap fun _ s11 ⟨v,H11,I11,_,_,q11⟩=>?_
    exact again I11 q11
 have e5:({ newEnv scope s3.heap.objs.size X.env.globals (zgs X.env scope.names []) X.env.qual none Value.none (some X.env) builtinsNs with scope:=relabel scope X.env }:Env)=compEnvC scope (zgs X.env scope.names []) s3.heap.objs.size X.env:=rfl
 exact codeAny_compStart_list (loop _ rfl) (T.self X.A 0 _ _ _ (T.keep _ _ _ st3 fun b _ o e=>k1 b o e) (loop _ rfl))
theorem zDU (S:CompScope NX SX scope N own fi) (hc:X.calm=true) (hi:PI X tg iter wi) (hg:∀ ex s H,PG (X.comp scope N ex s H) tg g) (ht:∀ ex s H,PIf (X.comp scope N ex s H) ifs tt)
  (he:∀ ex s H,PE (X.comp scope N ex s H) elt te) (hN:X.N=NX:=by rfl) (hS:X.env.scope=SX:=by rfl) (hs:∀ x,foldedSetIterable iter X.env x=pure x:=by intro _; rfl) :
  PE X (.ListComp elt [⟨tg,iter,ifs,0⟩] scope pos) (zDT wi g tt te own fi):=by
 intro pins s σ H Q I h
 rw [eval_ListComp]
 refine zuq (use:=none) (R:=fun l H'=>Q (.ref l) H') S hN hS hc hi hg ht he I h (fun l H' s' C I' q' hn G=>?_) hs
 obtain ⟨m,hn⟩:=hn
 exact ⟨m,hn,fun h' hs'=>⟨.ref l,H',I'.turned (t':=s'.toks) (fun b o hb e=>(hs'.2 b hb).trans e) G.none G.loc (.inr G.ab) G.cell G.pin,rfl,q'⟩⟩
def zBK (i:Nat) (wi:TI) (g:TG) (tt:TT) (te:TE) (own:Nat) (fi:List Nat):TS:=fun D σ H=>zzc wi g tt te own fi σ H fun l H'=>D.nx (σ.set i (some (.ref l))) H'
theorem zxX {i:Nat} {y:Str} {py spos:Pos} (hnd:X.N.Nodup) (hy:X.N[i]? = some y) (hl:X.env.scope.names.lookup y=some .local) (S:CompScope NX SX scope N own fi) (hc:X.calm=true) (hi:PI X tg iter wi)
  (hg:∀ ex s H,PG (X.comp scope N ex s H) tg g) (ht:∀ ex s H,PIf (X.comp scope N ex s H) ifs tt)
  (he:∀ ex s H,PE (X.comp scope N ex s H) elt te) (hN:X.N=NX:=by rfl) (hS:X.env.scope=SX:=by rfl) (hs:∀ x,foldedSetIterable iter X.env x=pure x:=by intro _; rfl)
  (hsw:swapsWith (.ListComp elt [⟨tg,iter,ifs,0⟩] scope pos) (some (.Name y py)) spos.line X.env=pure true:=by rfl) :
  PS X (.Assign [.Name y py] (.ListComp elt [⟨tg,iter,ifs,0⟩] scope pos) spos) (zBK i wi g tt te own fi):=by
 intro pins s σ H D I h
 rw [exec_Assign_Name_used _ _ _ _ hsw]
 refine wpAny_bind (wpAny_standAt (wpAny_bind ?_))
 show wpAny _ X.A (do let _ ← comprehension (.ListComp elt [⟨tg,iter,ifs,0⟩] scope pos) scope X.env _ (newList []) false (eval iter X.env) (some (assign (.Name y py) X.env))) _ _ s
 refine wpAny_bind (wpAny_mono (zuq (use:=some (assign (.Name y py) X.env)) (QQ:=fun _ s'=>SP X pins D .next s') (R:=fun l H'=>D.nx (σ.set i (some (.ref l))) H') S hN hS hc hi hg ht he I h (fun l H' s' C I' q' hn G=>?_) hs)
  (fun _ s' hq=>wpAny_pure (wpAny_pure hq)) fun _ _ e=>e)
 obtain ⟨m,hn⟩:=hn
 show wpAny _ X.A (assign (.Name y py) X.env (.ref l)) _ _ _
 refine wpAny_assign_Name (zua I' hnd hy (.inl hl) (v:=.ref l) rfl (fun s'' I'' hsb=>?_) (.inr hl))
 obtain ⟨a,hsb,ha⟩:=hsb
 have hCa:C≠a:=by
  rcases ha with z | z
  ·rw [z]; exact G.loc
  ·exact Ne.symm (G.cell y a z)
 exact ⟨m,hn.sameBut hsb hCa,fun h' hs'=>⟨_,H',I''.turned (t':=s''.toks) (fun b o hb e=>(hs'.2 b hb).trans e) G.none G.loc (.inr G.ab) G.cell G.pin,q'⟩⟩
end
end L2
namespace L2
open PySem PySem.Spec PyProof.Rows
def Its (x:Str):It:=⟨fun i _=>i < x.cps.size,fun i H v H'=>H'=H∧∃ c,x.cps[i]? = some c∧v=.str ⟨#[c]⟩,fun i _=>x.cps.size≤i⟩
theorem zBL {P:Program} {w:World} {K:W.Frag} {tg:Expr} (it:Addr) (x:Str) (t:Tok) (ty:String) (hty:ty="str_ascii_iterator"∨ty="str_iterator"):Turn P w K tg (Its x) [it] it (fun i h=>i≤x.cps.size∧h.IsStrIter it ty x t i) where
 mem:=by simp
 obj:=fun i h st b hb=>by
  have e:b=it:=by simpa using hb
  subst e
  obtain ⟨_,o,e,c,d⟩:=st
  exact ⟨o,e,fun v z=>by rw [d] at z; cases z⟩
 keep:=fun i h h' st k=>by
  obtain ⟨hi,o,e,r⟩:=st
  exact ⟨hi,o,k it (by simp) o e,r⟩
 item:=by
  intro X hP hw hK hc i pins s σ H E I hf st hg
  subst hP hw hK
  obtain ⟨f0,f1,f2,f3,f4,f5⟩:=hf it (by simp)
  have hg':i < x.cps.size:=hg
  have key:∀ h':Heap,h'.IsStrIter it ty x t (i+1)→Heap.SameBut it s.heap h'→(fun r s1=>∃ u,r=some u∧
   wpAny (model X.prog X.w) X.A (letOwnedTupleGo tg (.ref it) u) (fun _ s2=>∃ y H',Inv X pins σ H' s2∧RelV y u∧(Its x).yld i H y H'∧(i+1≤x.cps.size∧s2.heap.IsStrIter it ty x t (i+1))∧∀ b∈[it],H' b=none) E s1)
    (some (.str ⟨#[x.cps[i]]⟩ s.toks)) { s with heap:=h',toks:=s.toks+1 }:=fun h' st' sb=>by
   have I1:Inv X pins σ H { s with heap:=h',toks:=s.toks+1 }:=I.turned (fun b o hb e=>(sb.2 b hb).trans e) f0 f1 f3 f4 f5
   obtain ⟨o,e,c,d⟩:=id st'
   refine ⟨_,rfl,zBs (s:={ s with heap:=h',toks:=s.toks+1 }) e c d ?_ ⟨.str ⟨#[x.cps[i]]⟩,H,I1,⟨_,rfl⟩,⟨rfl,_,by simp [hg'],rfl⟩,⟨hg',st'⟩,fun b hb=>(hf b hb).1⟩⟩
   rcases hty with rfl | rfl <;> decide
  rcases hty with rfl | rfl
  ·exact wpAny_pyNext_ascii_item st.2 (c:=x.cps[i]) (by simp [hg']) fun h' hit' hs'=>key h' hit' hs'
  ·exact wpAny_pyNext_wide_item st.2 (c:=x.cps[i]) (by simp [hg']) fun h' hit' hs'=>key h' hit' hs'
 done:=by
  intro X hP hw hK hc i pins s σ H E I hf st hg
  subst hP hw hK
  obtain ⟨f0,f1,f2,f3,f4,f5⟩:=hf it (by simp)
  have hg':x.cps.size≤i:=hg
  rcases hty with rfl | rfl
  ·exact wpAny_pyNext_ascii_end (I.ok.hd hc) st.2 (by simp [hg']) fun h' eb=>⟨rfl,I.turned (t':=s.toks) (fun b o hb e=>eb b o hb e) f0 f1 f3 f4 f5⟩
  ·exact wpAny_pyNext_wide_end (I.ok.hd hc) st.2 (by simp [hg']) fun h' eb=>⟨rfl,I.turned (t':=s.toks) (fun b o hb e=>eb b o hb e) f0 f1 f3 f4 f5⟩
 self:=fun _ _ _ _ _ st h=>by
  rcases hty with rfl | rfl
  ·exact wpAny_pyIter_striter_ascii st.2 h
  ·exact wpAny_pyIter_striter_wide st.2 h
def zKp (tl:TE):TI:=fun σ H R=>tl σ H fun x H1=>∃ z,x=.str z∧R (Its z) H1
theorem zGs {X:Cx} {tg l:Expr} {tl:TE} (hl:PE X l tl):PI X tg l (zKp tl):=by
 intro pins s σ H R I h
 refine thn (hl pins s σ H _ I h) fun v s1 ⟨x,H1,I1,r1,q1⟩=>?_
 obtain ⟨z,e,q⟩:=q1
 subst e
 obtain ⟨t,rfl⟩:=r1
 have key:∀ (o:Obj) (ty:String),(ty="str_ascii_iterator"∨ty="str_iterator")→(s1.heap.push o).IsStrIter s1.heap.objs.size ty z t 0→PIE X pins σ tg R (.ref s1.heap.objs.size) { s1 with heap:=s1.heap.push o }:=fun o ty hty st=>by
  refine ⟨s1.heap.objs.size,[s1.heap.objs.size],_,_,H1,rfl,I1.kept (t':=s1.toks) fun b o e=>Heap.get?_push_of_some _ e,zBL _ z t ty hty,⟨Nat.zero_le _,st⟩,fun b hb=>?_,q⟩
  have e:b=s1.heap.objs.size:=by simpa using hb
  subst e
  exact I1.fpOk (Nat.le_refl _) (I1.hok.fresh (Nat.le_refl _))
 cases ha:z.cps.all (·< 128)
 ·exact wpAny_pyIter_wide ha (key _ _ (.inr rfl) ⟨_,Heap.get?_push_size _ rfl,rfl,rfl⟩)
 ·exact wpAny_pyIter_ascii ha (key _ _ (.inl rfl) ⟨_,Heap.get?_push_size _ rfl,rfl,rfl⟩)
theorem zzd {bs:List Bool} {n:Nat} (h:n=bs.length):(List.range n).all (fun i=>bs.getD i false)=bs.all id:=by
 subst h
 rw [Bool.eq_iff_iff,List.all_eq_true,List.all_eq_true]
 constructor
 ·intro h b hb
  obtain ⟨i,hi,e⟩:=List.mem_iff_getElem.mp hb
  have:=h i (List.mem_range.mpr hi)
  rw [List.getD_eq_getElem?_getD,List.getElem?_eq_getElem hi,Option.getD_some,e] at this
  exact this
 ·intro h i hi
  have hi':=List.mem_range.mp hi
  rw [List.getD_eq_getElem?_getD,List.getElem?_eq_getElem hi',Option.getD_some]
  exact h _ (List.getElem_mem hi')
section
variable {X:Cx}
theorem zBM (hc:X.calm=true):CallR X (.builtin "all") (fun xs H Q=>∃ (p:Addr) (bs:List Bool),xs=[.ref p]∧SqL X.K H p (bs.map V.bl)∧Q (.bl (bs.all id)) H):=by
 intro pins s σ H xs us Q I r h
 obtain ⟨p,bs,rfl,hp,q⟩:=h
 obtain ⟨u,rfl,ru⟩:=Vals.one r
 cases ru
 obtain ⟨its,rv,pl,hz⟩:=I.list hp
 have hlen:=rv.length
 rw [List.length_map] at hlen
 have hne:p≠s.heap.objs.size:=by
  obtain ⟨o,n,e,_⟩:=pl
  exact Nat.ne_of_lt (Heap.lt_size e)
 refine call_all_walk (wpAny_pyIter_list pl.isList ?_)
 refine ⟨s.heap.objs.size,_,_,its.toArray.size,_,_,fun i=>bs.getD i false,rfl,Walks.list (A:=X.A.in1) (I.ok.hd hc) s.heap.objs.size p hne its.toArray,⟨⟨_,Heap.get?_push_size _ rfl,rfl,rfl⟩,?_⟩,?_,fun h' tk hk=>?_⟩
 ·exact pl.isList.at fun o e=>Heap.get?_push_of_some _ e
 ·intro i v s' Q' E' hv hq
  have hv':its[i]? = some v:=by simpa using hv
  have hi:i < its.length:=(List.getElem?_eq_some_iff.mp hv').1
  obtain ⟨u',hu',ru'⟩:=rv.get (i:=i) (x:=.bl (bs.getD i false)) (by
   rw [List.getElem?_map,List.getElem?_eq_getElem (by omega),List.getD_eq_getElem?_getD,List.getElem?_eq_getElem (by omega)]; rfl)
  rw [hv'] at hu'; cases hu'
  cases ru'
  exact wpAny_truthy_bool hq
 ·rw [zzd (by simp; omega)]
  exact ⟨.bl _,H,I.kept (h':=h') (t':=tk) fun b o e=>hk b o (by
   have:b≠s.heap.objs.size:=Nat.ne_of_lt (Heap.lt_size e)
   simpa using this) (Heap.get?_push_of_some _ e),rfl,q⟩
theorem zvD:CallR X (.builtin "isinstance") (fun xs H Q=>∃ x n t b,xs=[x,.ty n]∧TyOf X.K H x t∧W.kitOne X.K t (.type n)=some b∧Q (.bl b) H):=by
 intro pins s σ H xs us Q I r h
 obtain ⟨x,n,t,b,rfl,ty,e,q⟩:=h
 obtain ⟨u,c,rfl,ru,rc⟩:=Vals.two r
 cases rc
 exact zue I ru ty e fun tk=>⟨.bl b,H,I.tok tk,rfl,q⟩
theorem zze:∀ {zs:List Str} {us:List Value},Vals (zs.map V.str) us→StrsAre us zs
 | [],_,.nil=>.nil
 | z :: zs,_,.cons r t=>by
  obtain ⟨tk,rfl⟩:=r
  exact .cons _ _ (zze t)
def zDV (K:W.Frag):V→List V→Hp→VK→Prop:=fun x vs H Q=>∃ z p ys,x=.str z∧vs=[.ref p]∧SqL K H p (ys.map V.str)∧(ys.map (·.length)).sum+ys.length*z.length≤16777216∧Q (.str (Txt.join z ys)) H
theorem zDW:MtR X "str.join" (zDV X.K):=by
 intro pins s σ H x xs v us Q I rx rs h
 obtain ⟨z,p,ys,rfl,rfl,hp,hz,q⟩:=h
 obtain ⟨t,rfl⟩:=rx
 obtain ⟨u,rfl,ru⟩:=Vals.one rs
 cases ru
 obtain ⟨its,rv,pl,_⟩:=I.list hp
 exact join_list pl.isList (by simpa using zze rv) hz fun t' k=>⟨.str _,H,I.tok k,⟨t',rfl⟩,q⟩
theorem zeq:OpR X (binaryOp .FloorDiv) (rI (fun _ j=>0 < j∧j < 2 ^ 200) fun i j=>.int (i / j)):=opI fun i j _ _ _ _ _ hc q=>by
 have h1:(0:Int) < j:=hc.1
 have h2:j < 2 ^ 200:=hc.2
 refine floordiv_int (by omega) (by rw [Int.fdiv_eq_ediv_of_nonneg i (by omega)]; exact q) (.inl (PyProof.noPylong_of_log2 ?_))
 have h3:j.natAbs < 2 ^ 200:=by
  have e:((2:Int) ^ 200)=(((2:Nat) ^ 200:Nat):Int):=by norm_cast
  rw [e] at h2
  omega
 have h4:j.natAbs≠0:=by omega
 exact Nat.lt_trans ((Nat.log2_lt h4).mpr h3) (by decide)
end
section
variable {K:W.Frag} {g:TG} {tt:TT} {te:TE} {σ0:St} {H1:Hp} {l:Addr} {R:Hp→Prop}
end
example (K:W.Frag):W.kitOne K (.type "bool") (.type "int")=some true:=by rfl
example (K:W.Frag):W.kitOne K (.type "dict") (.type "int")=some false:=by rfl
end L2
namespace L2
open PySem PySem.Spec PyProof.Rows
section
variable {X:Cx}
def zIY:R2:=fun x y H Q=>∃ i j,x=.str i∧y=.str j∧i.length+j.length≤sizeLine∧Q (.str (i++j)) H
def zDX (K:W.Frag):R2:=fun x y H Q=>(rI0 fun i j=>.int (i+j)) x y H Q∨zIY x y H Q∨zKn x y H Q∨zGg K x y H Q
theorem zDY:OpR X (binaryOp .Add) (zDX X.K):=zFZ.or (zxP.or (zGl.or zDF))
def zGt:R2:=fun x y H Q=>(rI CMul fun i j=>.int (i*j)) x y H Q∨zKo x y H Q
theorem zDZ:OpR X (binaryOp .Mult) zGt:=zF1.or zGm
def zK6:R2:=fun x y H Q=>∃ i j,x=.str i∧y=.str j∧Q (.bl (!(Builtin.Str.occurrences j i 0 j.length 1).isEmpty)) H
def zD0:R2:=fun x y H Q=>∃ i j,x=.str i∧y=.str j∧Q (.bl (!(!(Builtin.Str.occurrences j i 0 j.length 1).isEmpty))) H
theorem PI.or {tg l:Expr} {wi wi':TI} (h:PI X tg l wi) (h':PI X tg l wi'):PI X tg l (fun σ H R=>wi σ H R∨wi' σ H R):=by
 intro pins s σ H R I q
 rcases q with q | q
 ·exact h pins s σ H R I q
 ·exact h' pins s σ H R I q
def zFr (K:W.Frag) (tl:TE):TI:=fun σ H R=>zFW K tl σ H R∨zKf K tl σ H R∨zKp tl σ H R
theorem zGu {tg l:Expr} {tl:TE} (hl:PE X l tl):PI X tg l (zFr X.K tl):=(zDp hl).or ((zFX hl).or (zGs hl))
def zD1 (K:W.Frag):List V→Hp→VK→Prop:=fun xs H Q=>∃ x n,xs=[x]∧zIQ K x H n∧Q (.int n) H
theorem zzf:CallR X (.builtin "len") (zD1 X.K):=zBt
end
section
variable {X:Cx} {K:W.Frag}
theorem zD2 (h:X.K=K):OpR X (binaryOp .Add) (zDX K):=h▸zDY
theorem zD3 (h:X.K=K):IxR X (rIx K):=h▸zGj
theorem zvE {tg l:Expr} {tl:TE} (h:X.K=K) (hl:PE X l tl):PI X tg l (zFr K tl):=h▸zGu hl
theorem zzg (h:X.K=K):CallR X (.builtin "len") (zD1 K):=h▸zzf
def zvF (K:W.Frag):List V→Hp→VK→Prop:=fun xs H Q=>∃ x n t b,xs=[x,.ty n]∧TyOf K H x t∧W.kitOne K t (.type n)=some b∧Q (.bl b) H
theorem zur (h:X.K=K):CallR X (.builtin "isinstance") (zvF K):=h▸zvD
def zKq (K:W.Frag):List V→Hp→VK→Prop:=fun xs H Q=>∃ (p:Addr) (bs:List Bool),xs=[.ref p]∧SqL K H p (bs.map V.bl)∧Q (.bl (bs.all id)) H
theorem zzh (h:X.K=K) (hc:X.calm=true):CallR X (.builtin "all") (zKq K):=h▸zBM hc
theorem zBN (h:X.K=K):MtR X "str.join" (zDV K):=h▸zDW
def zzi (K:W.Frag):List V→Hp→VK→Prop:=fun xs H Q=>∃ p ys,xs=[.ref p]∧(SqL K H p ys∨SqT K H p ys)∧∀ l,H l=none→Q (.ref l) (upd H l (.lst ys))
theorem zxY (h:X.K=K):CallR X (.type "list") (zzi K):=h▸zul
def zCN (K:W.Frag):List V→Hp→VK→Prop:=fun xs H Q=>∃ p ys,xs=[.ref p]∧((SqL K H p ys∧∀ l,H l=none→Q (.ref l) (upd H l (.tup ys)))∨(SqT K H p ys∧Q (.ref p) H))
theorem zvG (h:X.K=K):CallR X (.type "tuple") (zCN K):=h▸zsq
variable {T id:String} {name:Str} {r:V→List V→Hp→VK→Prop} {o e:Expr} {es:List Expr} {to:TE} {t:TA} {apos cpos pos:Pos}
theorem zzj (h:X.K=K) (pa:PlainAttrs T) (slot:Slot T name id) (hty:typeOf (.builtin id)=pure (.type "method_descriptor")) (hm:MtR X id r) (ho:PE X o to)
  (hbase:attributeBase o name X.env (eval o X.env)=eval o X.env:=by rfl) (hline:(apos.endLine==cpos.line)=true:=by rfl):PE X (.Call (.Attribute o name apos) [] [] cpos) (zIf K T r to):=h▸zGk pa slot hty hm ho hbase hline
theorem zzk (h : X.K = K) (pa : PlainAttrs T) (slot : Slot T name id) (hty : typeOf (.builtin id) = pure (.type "method_descriptor")) (hm : MtR X id r) (ho : PE X o to) (ha : PA X (e :: es) t)
    (hbase : attributeBase o name X.env (eval o X.env) = eval o X.env := by rfl)
    (hfew : ((backTo cpos (starEach (e :: es) X.env)).all (fun x => !x.1) && (backToKw cpos (keywordEach [] X.env)).all (fun x => x.1.isSome)
      && decide ((e :: es).length + ([] : List Keyword).length + (if ([] : List Keyword).isEmpty then 0 else 1) < 30)) = true := by rfl)
    (hline : (apos.endLine == cpos.line) = true := by rfl) (hs : starEach (e :: es) X.env = (false, eval e X.env) :: starEach es X.env := by rfl) (hplain : (backTo cpos (starEach es X.env)).any (·.1) = false := by rfl) :
    PE X (.Call (.Attribute o name apos) (e :: es) [] cpos) (tBM K T r to t) := h ▸ zIT pa slot hty hm ho ha hbase hfew hline hs hplain
theorem zD4 {es:List Expr} {k:Nat} {t:TGs} {n:Nat} (h:X.K=K) (hc:X.calm=true) (hp:PGs X es t)
  (hn:(assignEach es X.env).length=n:=by rfl) (hst:(assignEach es X.env).findIdx? (·.1)=none:=by rfl):PG X (.Tuple es k pos) (zII K n t):=h▸zFS hc hp hn hst
theorem zD5 {f:Str} (h:X.K=K) (he:PE X e to) (hb:attributeBase e f X.env (eval e X.env)=eval e X.env):PE X (.Attribute e f pos) (zIR K to f):=h▸zF6 he hb
theorem zD6 {f:Str} {value:Expr} {tv:TE} {pos':Pos} (h:X.K=K) (ha:PE X o to) (hv:PE X value tv) (hs:swapsWith value (some (.Attribute o f pos')) pos.line X.env=pure false):PS X (.Assign [.Attribute o f pos'] value pos) (zIe K to tv f):=h▸zF7 ha hv hs
def GC (mg:Str→Option Value) (x:Str) (v:V):Prop:=∃ u,mg x=some u∧RelV v u
theorem zGv {x:Str} {v:V} (hg:Gl X x) (h:GC X.mg x v) (hd:(x==("__debug__":Str))=false:=by decide):PE X (.Name x pos) (tC v):=by
 obtain ⟨u,h1,h2⟩:=h
 exact zyL hg h1 h2 hd
end
section
variable {K:W.Frag} {σ:St} {H:Hp} {Q:VK} {v x y:V} {i j:Int} {ta tb:TE} {D:Ends}
theorem len_str {z:Str} (h:z.length≤sizeLine):zIQ K (.str z) H z.length:=⟨h,rfl⟩
end
end L2
namespace L2
open PySem PySem.Spec PyProof.Rows
mutual
inductive DAt (K:W.Frag) (H:Hp):V→PyData→Prop
 | non:DAt K H .non .none
 | bl (b:Bool):DAt K H (.bl b) (.bool b)
 | int (i:Int):DAt K H (.int i) (.int i)
 | str (x:Str):DAt K H (.str x) (.str x)
 | lst {a:Addr} {xs:List V} {ds:List PyData} (h:SqL K H a xs) (r:DAts K H xs ds):DAt K H (.ref a) (.list ds)
 | tup {a:Addr} {xs:List V} {ds:List PyData} (h:SqT K H a xs) (r:DAts K H xs ds):DAt K H (.ref a) (.tuple ds)
inductive DAts (K:W.Frag) (H:Hp):List V→List PyData→Prop
 | nil:DAts K H [] []
 | cons {x:V} {d:PyData} {xs:List V} {ds:List PyData} (h:DAt K H x d) (r:DAts K H xs ds):DAts K H (x :: xs) (d :: ds)
end
section
variable {X:Cx} {pins:List (Addr×Obj)} {σ:St} {H:Hp} {s:Shared}
mutual
theorem Inv.reads (I:Inv X pins σ H s):∀ {x:V} {d:PyData} {u:Value},DAt X.K H x d→RelV x u→∃ as,Reads s.heap u d as
 | _,_,_,.non,r=>by cases r; exact ⟨_,.none⟩
 | _,_,_,.bl b,r=>by cases r; exact ⟨_,.bool b⟩
 | _,_,_,.int i,r=>by obtain ⟨t,rfl⟩:=r; exact ⟨_,.int i t⟩
 | _,_,_,.str x,r=>by obtain ⟨t,rfl⟩:=r; exact ⟨_,.str x t⟩
 | _,_,_,.lst h q,r=>by
  cases r
  obtain ⟨its,rv,⟨o,n,e,c,_,d⟩,_⟩:=I.list h
  obtain ⟨as,ra⟩:=Inv.readsAll I q rv
  exact ⟨_,.list e c d (by simpa using ra)⟩
 | _,_,_,.tup h q,r=>by
  cases r
  obtain ⟨its,rv,⟨o,e,c,n,d⟩,_⟩:=I.tuple h
  obtain ⟨as,ra⟩:=Inv.readsAll I q rv
  exact ⟨_,.tuple e c d (by simpa using ra)⟩
theorem Inv.readsAll (I:Inv X pins σ H s):∀ {xs:List V} {ds:List PyData} {us:List Value},DAts X.K H xs ds→Vals xs us→∃ as,ReadsAll s.heap us ds as
 | _,_,_,.nil,.nil=>⟨_,.nil⟩
 | _,_,_,.cons h r,.cons v t=>by
  obtain ⟨as,ra⟩:=Inv.reads I h v
  obtain ⟨bs,rb⟩:=Inv.readsAll I r t
  exact ⟨_,.cons ra rb⟩
end
end
theorem Room.c64 {k:Nat} {A:Around} (r:Room k A):A.units+65 < cLine:=by have:=r.un; omega
def zKr (K:W.Frag):R2:=fun x y H Q=>∃ da db,DAt K H x da∧DAt K H y db∧SeqAt.shaped da=true∧SeqAt.shaped db=true∧Q (.bl (PyData.eqv da db)) H
def zKs (K:W.Frag):R2:=fun x y H Q=>∃ da db,DAt K H x da∧DAt K H y db∧SeqAt.shaped da=true∧SeqAt.shaped db=true∧Q (.bl (!PyData.eqv da db)) H
def zKt (K:W.Frag):R2:=fun x y H Q=>∃ ds d,(DAt K H y (.list ds)∨DAt K H y (.tuple ds))∧DAt K H x d∧SeqAt.shaped (.list ds)=true∧SeqAt.shaped d=true∧Q (.bl (ds.any fun e=>PyData.eqv e d)) H
def zzl (K:W.Frag):R2:=fun x y H Q=>∃ ds d,(DAt K H y (.list ds)∨DAt K H y (.tuple ds))∧DAt K H x d∧SeqAt.shaped (.list ds)=true∧SeqAt.shaped d=true∧Q (.bl (!(ds.any fun e=>PyData.eqv e d))) H
section
variable {X:Cx} {K:W.Frag}
theorem zGw (hK:X.K=K) (hu:X.A.units+65 < cLine):OpR X (compareOp .Eq) (zKr K):=by
 subst hK
 intro pins s σ H x y v u Q I rx ry h
 obtain ⟨da,db,ha,hb,sa,sb,q⟩:=h
 obtain ⟨as,ra⟩:=I.reads ha rx
 obtain ⟨bs,rb⟩:=I.reads hb ry
 exact eq_dataH ra rb sa sb (by omega) ⟨.bl _,H,I,rfl,q⟩
theorem zGx (hK:X.K=K) (hu:X.A.units+65 < cLine):OpR X (compareOp .NotEq) (zKs K):=by
 subst hK
 intro pins s σ H x y v u Q I rx ry h
 obtain ⟨da,db,ha,hb,sa,sb,q⟩:=h
 obtain ⟨as,ra⟩:=I.reads ha rx
 obtain ⟨bs,rb⟩:=I.reads hb ry
 exact ne_dataH ra rb sa sb (by omega) ⟨.bl _,H,I,rfl,q⟩
theorem zGy (hK:X.K=K) (hu:X.A.units+65 < cLine):OpR X (compareOp .In) (zKt K):=by
 subst hK
 intro pins s σ H x y v u Q I rx ry h
 obtain ⟨ds,d,hc,hd,sa,sb,q⟩:=h
 obtain ⟨bs,rb⟩:=I.reads hd rx
 rcases hc with hc | hc
 ·obtain ⟨as,ra⟩:=I.reads hc ry
  exact SeqAt.in_list_reads ra rb (SeqAt.canLay_of_shaped sa) (SeqAt.canLay_of_shaped sb) (room_in_shaped sb hu) ⟨.bl _,H,I,rfl,q⟩
 ·obtain ⟨as,ra⟩:=I.reads hc ry
  exact SeqAt.in_tuple_reads ra rb (by have:=SeqAt.canLay_of_shaped sa; simpa [PyData.canLay0] using this) (SeqAt.canLay_of_shaped sb) (room_in_shaped sb hu) ⟨.bl _,H,I,rfl,q⟩
theorem zzm (hK:X.K=K) (hu:X.A.units+65 < cLine):OpR X (compareOp .NotIn) (zzl K):=by
 subst hK
 intro pins s σ H x y v u Q I rx ry h
 obtain ⟨ds,d,hc,hd,sa,sb,q⟩:=h
 obtain ⟨bs,rb⟩:=I.reads hd rx
 rcases hc with hc | hc
 ·obtain ⟨as,ra⟩:=I.reads hc ry
  exact SeqAt.notIn_list_reads ra rb (SeqAt.canLay_of_shaped sa) (SeqAt.canLay_of_shaped sb) (room_in_shaped sb hu) ⟨.bl _,H,I,rfl,q⟩
 ·obtain ⟨as,ra⟩:=I.reads hc ry
  exact SeqAt.notIn_tuple_reads ra rb (by have:=SeqAt.canLay_of_shaped sa; simpa [PyData.canLay0] using this) (SeqAt.canLay_of_shaped sb) (room_in_shaped sb hu) ⟨.bl _,H,I,rfl,q⟩
def zKu:V→Option Int→Option Int→Hp→VK→Prop:=fun x lo hi H Q=>∃ z,x=.str z∧z.length≤sizeLine∧Q (.str (Txt.slice z lo hi)) H
theorem zGz:SlR X zKu:=by
 intro pins s σ H x v vl vu lo hi sl Q I rx hs pl pu h
 obtain ⟨z,rfl,hz,q⟩:=h
 obtain ⟨t,rfl⟩:=rx
 refine ⟨"str",_,F.slot_str_getitem.lookup,typeIs_str _ _ _,?_⟩
 have fin:∀ t' k,EP X pins σ Q (.str (Txt.slice z lo hi) t') { s with toks:=k }:=fun t' k=>⟨.str _,H,I.tok k,⟨t',rfl⟩,q⟩
 cases pl with
 | none=>cases pu with
  | none=>exact wpAny_getItem_str_slice (l:=none) (u:=none) (st:=none) hs rfl (post_val_or_str ⟨Nat.le_trans (Txt.slice_le z _ _) hz,fin⟩)
  | int j uj=>exact wpAny_getItem_str_slice (l:=none) (u:=some (j,uj)) (st:=none) hs rfl (post_val_or_str ⟨Nat.le_trans (Txt.slice_le z _ _) hz,fin⟩)
 | int i ui=>cases pu with
  | none=>exact wpAny_getItem_str_slice (l:=some (i,ui)) (u:=none) (st:=none) hs rfl (post_val_or_str ⟨Nat.le_trans (Txt.slice_le z _ _) hz,fin⟩)
  | int j uj=>exact wpAny_getItem_str_slice (l:=some (i,ui)) (u:=some (j,uj)) (st:=none) hs rfl (post_val_or_str ⟨Nat.le_trans (Txt.slice_le z _ _) hz,fin⟩)
def zKv (K:W.Frag) (n:Nat) (t:TGs):TG:=fun v σ H Q=>∃ a xs,v=.ref a∧SqL K H a xs∧xs.length=n∧t xs σ H Q
theorem zus {prog:Program} {w:World} {A:Around} {E:Value→Shared→Prop} {it t:Addr} {items:Array Value} (hne:t≠it):∀ (n i:Nat) (s:Shared) (Q:List Value→Shared→Prop),s.heap.IsListIter it t i→s.heap.IsList t items→i+n≤items.size→
  (∀ h',h'.IsListIter it t (i+n)→Heap.SameBut it s.heap h'→Q ((items.toList.drop i).take n) { s with heap:=h' })→wpAny (model prog w) A (draw (.ref it) n) Q E s
 | 0,i,s,Q,hit,_,_,hQ=>by
  show wpAny _ _ (pure []) Q E s
  exact wpAny_pure (by simpa using hQ s.heap hit (Heap.SameBut.refl ..))
 | n+1,i,s,Q,hit,ht,hle,hQ=>by
  have hlt:i < items.size:=by omega
  show wpAny _ _ (pyNext (.ref it) >>= _) Q E s
  refine wpAny_bind (wpAny_pyNext_list_item hit ht (x:=items[i]) (by simp [hlt]) fun h₁ hit₁ hs₁=>?_)
  refine wpAny_bind (wpAny_holding (zus hne n (i+1) _ _ hit₁ (ht.extBut hs₁.extBut hne) (by omega) fun h₂ hit₂ hs₂=>wpAny_pure ?_))
  have hd:items.toList.drop i=items[i] :: items.toList.drop (i+1):=by simp [List.drop_eq_getElem_cons,hlt]
  have q:=hQ h₂ (by rw [show i+(n+1)=i+1+n by omega]; exact hit₂) (hs₁.trans hs₂)
  rw [hd,List.take_succ_cons] at q
  exact q
theorem zo5 {prog:Program} {w:World} {A:Around} {E:Value→Shared→Prop} {s:Shared} {t:Addr} {items:Array Value} {Q:List Value→Shared→Prop} (hh:A.handled=none) (ht:s.heap.IsList t items)
  (hQ:∀ h',Heap.ExtBut s.heap.objs.size s.heap h'→Q items.toList { s with heap:=h' }):wpAny (model prog w) A (unpackItems (.ref t) items.size none) Q E s:=by
 have hlt:t≠s.heap.objs.size:=by obtain ⟨o,ho,_⟩:=ht; exact Nat.ne_of_lt (Heap.lt_size ho)
 unfold unpackItems
 refine wpAny_bind ?_
 unfold notIterableAtAll
 refine wpAny_bind (wpAny_specialOf ht.typeIs slot_list_iter.lookup ?_)
 refine wpAny_pure ?_
 simp only [Bool.false_eq_true,if_false]
 refine wpAny_bind (wpAny_holding (wpAny_pyIter_list ht ?_))
 refine wpAny_bind (wpAny_holding (zus hlt items.size 0 _ _ ⟨_,Heap.get?_push_size _ rfl,rfl,rfl⟩ (ht.at fun o e=>Heap.get?_push_of_some _ e) (by omega) fun h₁ hit₁ hs₁=>?_))
 have hall:List.take items.size (List.drop 0 items.toList)=items.toList:=by
  rw [List.drop_zero]; exact List.take_of_length_le (by simp)
 rw [hall]
 rw [if_neg (by simp)]
 have ht₁:h₁.IsList t items:=(ht.at fun o e=>Heap.get?_push_of_some _ e).extBut hs₁.extBut hlt
 refine wpAny_bind (wpAny_holding (wpAny_pyNext_list_end hh hit₁ ht₁ (by simp) fun h₂ he₂=>?_))
 simp only [Option.isSome_none,Bool.false_eq_true,if_false]
 exact wpAny_pure (hQ h₂ fun b o hb e=>he₂ b o hb (hs₁.extBut b o hb (Heap.get?_push_of_some _ e)))
theorem zGA {es:List Expr} {k:Nat} {t:TGs} {n:Nat} {pos:Pos} (hK:X.K=K) (hc:X.calm=true) (h:PGs X es t)
  (hn:(assignEach es X.env).length=n:=by rfl) (hst:(assignEach es X.env).findIdx? (·.1)=none:=by rfl):PG X (.Tuple es k pos) (zKv K n t):=by
 subst hK
 intro pins s σ H v u Q I r hw
 obtain ⟨a,xs,e1,hq,hl,hw⟩:=hw
 subst e1
 cases r
 obtain ⟨its,rv,pl,hz⟩:=I.list hq
 have hsz:(assignEach es X.env).length=its.toArray.size:=by simp [hn,← hl,rv.length]
 rw [assign_Tuple]
 refine wpAny_bind (wpAny_standAt ?_)
 unfold unpack
 rw [hsz,hst]
 refine wpAny_bind (wpAny_holding (zo5 (I.ok.hd hc) pl.isList fun h' hx=>?_))
 have I1:Inv X pins σ H { s with heap:=h' }:=I.kept (t':=s.toks) fun b o e=>hx b o (Nat.ne_of_lt (Heap.lt_size e)) e
 exact h pins _ σ H xs _ Q I1 (by simpa using rv) hw
def zzn:V→List V→Hp→VK→Prop:=fun x vs H Q=>∃ i,x=.int i∧vs=[]∧Q (.int ((Builtin.Int.intBits i:Nat):Int)) H
theorem zzo:MtR X "int.bit_length" zzn:=by
 intro pins s σ H x vs v us Q I rx rv h
 obtain ⟨i,rfl,rfl,q⟩:=h
 obtain ⟨t,rfl⟩:=rx
 cases rv
 exact call_int_bit_length ⟨.int _,H,I.tok _,⟨_,rfl⟩,q⟩
theorem zsw {prog:Program} {w:World} {d:Addr} (hd:(d==sysModules)=false) :
  MeetsIn prog w (Builtin.«dict.__len__» ⟨[.ref d],[]⟩) (fun _ R s=>∃ o es ep,s.heap.get? d=some o∧o.data=.dict es ep∧R (.ok (.ret (.int es.size s.toks))) { s with toks:=s.toks+1 }):=
 .of_wp fun A R s ⟨o,es,ep,ho,hdat,h⟩=>by
  show wpAny _ _ (dictSize d >>= _) _ _ s
  unfold dictSize
  refine wpAny_bind (wpAny_bind (wpAny_dictEntries ho hdat (wpAny_pure ?_)))
  show wpAny _ _ (Builtin.Dict.pendingCount d >>= _) _ _ s
  refine wpAny_bind (wpAny_pendingCount_other hd ?_)
  refine wpAny_ret_mkInt ?_
  simpa using h
theorem zD7 {prog:Program} {w:World} {A:Around} {E:Value→Shared→Prop} {s:Shared} {d:Addr} {o:Obj} {es:Array DictEntry} {ep:Nat} {Q:Value→Shared→Prop} (hd:(d==sysModules)=false) (ho:s.heap.get? d=some o) (hc:o.cls=.type "dict") (hdat:o.data=.dict es ep) (hfit:(es.size:Int) < 2 ^ 63)
  (h:Q (.int es.size (s.toks+1)) { s with toks:=s.toks+1+1 }):wpAny (model prog w) A (call (.builtin "len") [.ref d]) Q E s:=by
 have ht:s.TypeIs (.ref d) "dict":=⟨o,ho,hc⟩
 refine Calls.call_function_entry kind_len plain_len entry_len (args_len1 _) ?_
 unfold Builtin.«len»
 refine wpAny_bind (m:=oneArg "len" _) (wpAny_pure ?_)
 refine wpAny_bind (m:=callSpecial? (.ref d) (Str.ofString "__len__")) (wpAny_callSpecial?_slot (name:=Str.ofString "__len__") ht F.slot_dict_len
  (call_meetsIn F.slot_dict_len ht F.entry_dict_len (F.args_dict_len_1 _) (zsw hd) ⟨o,es,ep,ho,hdat,?_⟩))
 show wpAny _ _ _ _ _ { s with toks:=s.toks+1 }
 refine wpAny_bind (wpAny_holding (wpAny_pure ?_))
 refine wpAny_bind (wpAny_letGo ?_)
 show wpAny _ _ (if ((es.size:Nat):Int) < 0 then _ else _) _ _ _
 rw [if_neg (by omega)]
 show wpAny _ _ (if ((es.size:Nat):Int)≥2 ^ 63 then _ else _) _ _ _
 rw [if_neg (by omega)]
 exact wpAny_bind (wpAny_mkInt (wpAny_pure ⟨_,rfl,h⟩))
def zGB:List V→Hp→VK→Prop:=fun xs H Q=>∃ a kvs,xs=[V.ref a]∧H a=some (.dT kvs)∧Q (.int kvs.length) H
theorem zzp:CallR X (.builtin "len") zGB:=by
 intro pins s σ H xs us Q I r h
 obtain ⟨a,kvs,rfl,ha,q⟩:=h
 obtain ⟨u,rfl,ru⟩:=zre r
 cases ru
 obtain ⟨z,hd,xs,rel,o,es,ep,h1,h2,h3,h4,_⟩:=zDM I.hok ha
 have hl:es.size=kvs.length:=by
  have e1:es.toList.length=xs.length:=by rw [h4,List.length_map]
  have e2:kvs.length=xs.length:=Paired.length rel
  rw [Array.length_toList] at e1
  omega
 refine zD7 hd h1 h2.1 h3 (by rw [hl]; rw [sizeLine_eq] at z; omega) ?_
 rw [hl]
 exact ⟨.int kvs.length,H,I.tok _,⟨_,rfl⟩,q⟩
def zCO (K:W.Frag):V→List V→Hp→VK→Prop:=fun x vs H Q=>∃ (p:Addr) (zs:List Str) (z:Str) (j:Nat),x=.ref p∧vs=[.str z]∧SqL K H p (zs.map V.str)∧zs[j]? = some z∧(∀ m,m < j→zs[m]?≠some z)∧Q (.int (j:Nat)) H
theorem zzq (hK:X.K=K):MtR X "list.index" (zCO K):=by
 subst hK
 intro pins s σ H x vs v us Q I rx rv h
 obtain ⟨p,zs,z,j,rfl,rfl,hp,hj,hno,q⟩:=h
 cases rx
 obtain ⟨u,rfl,ru⟩:=Vals.one rv
 obtain ⟨t,rfl⟩:=ru
 obtain ⟨its,r,⟨o,n,e,hc,hdn,hdat⟩,hz⟩:=I.list hp
 have hlen:=r.length
 rw [List.length_map] at hlen
 have hjl:j < zs.length:=(List.getElem?_eq_some_iff.mp hj).1
 have at_:∀ m (hm:m < its.length),∃ t',its[m]=.str (zs[m]'(by omega)) t':=fun m hm=>by
  obtain ⟨u',hu',ru'⟩:=r.get (i:=m) (x:=.str (zs[m]'(by omega))) (by rw [List.getElem?_map,List.getElem?_eq_getElem (by omega)]; rfl)
  rw [List.getElem?_eq_getElem hm] at hu'; cases hu'
  exact ru'
 obtain ⟨cls,dict,data,slots⟩:=o
 dsimp only at hc hdn hdat
 subst hc hdn hdat
 refine call_meets F.slot_list_index ⟨_,e,rfl⟩ F.entry_list_index (F.args_list_index_2 _ _)
  (SeqAt.list_indexAt p its.toArray n none slots (.str z t) (fun y=>match y with | .str w _=>w==z | _=>false) j (by simp; omega) (by rw [sizeLine_eq] at hz; rw [List.length_map] at hz; omega) ?_ ?_) ⟨e,?_,?_⟩
 ·obtain ⟨t',e'⟩:=at_ j (by omega)
  have ez:zs[j]'(by omega)=z:=by rw [List.getElem?_eq_getElem hjl] at hj; exact Option.some.inj hj
  simp only [List.getElem_toArray,e',ez,beq_self_eq_true]
 ·intro m hm hmj
  have hm':m < its.length:=by simpa using hm
  obtain ⟨t',e'⟩:=at_ m hm'
  have hne:=hno m hmj
  rw [List.getElem?_eq_getElem (by omega)] at hne
  simp only [List.getElem_toArray,e',beq_eq_false_iff_ne]
  exact fun q=>hne (by rw [q])
 ·intro y hy
  obtain ⟨m,hm,ey⟩:=List.mem_iff_getElem.mp (by simpa using hy:y∈its)
  obtain ⟨t',e'⟩:=at_ m hm
  rw [← ey,e']
  exact SeqAt.EqAt.str_str _ _ _ _
 ·exact ⟨.int _,H,I.tok _,⟨_,rfl⟩,q⟩
end
theorem zpG {x:Str} {k:Nat} (h:k≤x.length):(Txt.slice x none (some (k:Int))).cps.toList=x.cps.toList.take k:=by
 have hi:Builtin.Str.strSliceIndices none (some (k:Int)) 1 x.length=List.range k:=by
  unfold Builtin.Str.strSliceIndices sliceRange
  simp only [show (1:Int) > 0 by decide,if_true]
  rw [if_neg (by omega:¬ (k:Int) < 0),show max 0 (min (k:Int) (x.length:Int))=k by omega]
  by_cases hk:(0:Int) < k
  ·rw [if_pos hk]
   have:((k:Int)-0+1-1) / 1=k:=by omega
   rw [this,Int.toNat_natCast]
   refine List.ext_getElem (by simp) fun i h1 h2=>?_
   simp
  ·have:k=0:=by omega
   subst this
   simp
 unfold Txt.slice
 rw [hi]
 have hx:x.length=x.cps.size:=rfl
 split
 ·rename_i hc
  have:k=x.length:=by simpa using hc
  rw [List.take_of_length_le (by simp; omega)]
 ·refine List.ext_getElem? fun i=>?_
  show ((List.range k).filterMap fun j=>x.cps[j]?)[i]? = _
  have e:((List.range k).filterMap fun j=>x.cps[j]?)=x.cps.toList.take k:=by
   clear hi
   rename_i hc
   clear hc
   induction k with
   | zero=>simp
   | succ k ih=>
    rw [List.range_succ,List.filterMap_append,ih (by omega),List.take_add_one]
    congr 1
    have hk:k < x.cps.size:=by omega
    simp [hk]
  rw [e]
theorem zut {x:Str} {k:Nat} (h:k≤x.length):(Txt.slice x (some (k:Int)) none).cps.toList=x.cps.toList.drop k:=by
 have hx:x.length=x.cps.size:=rfl
 have hi:Builtin.Str.strSliceIndices (some (k:Int)) none 1 x.length=(List.range (x.length-k)).map fun j=>k+j:=by
  unfold Builtin.Str.strSliceIndices sliceRange
  simp only [show (1:Int) > 0 by decide,if_true]
  rw [if_neg (by omega:¬ (k:Int) < 0),show max 0 (min (k:Int) (x.length:Int))=k by omega]
  by_cases hk:(k:Int) < x.length
  ·rw [if_pos hk]
   have:(((x.length:Int)-k+1-1) / 1).toNat=x.length-k:=by omega
   rw [this]
   refine List.ext_getElem (by simp) fun i h1 h2=>?_
   simp
   omega
  ·have:x.length-k=0:=by omega
   rw [if_neg hk,this]
   simp
 unfold Txt.slice
 rw [hi]
 have e:(((List.range (x.length-k)).map fun j=>k+j).filterMap fun j=>x.cps[j]?)=x.cps.toList.drop k:=by
  refine List.ext_getElem? fun i=>?_
  rw [List.getElem?_drop,List.filterMap_map]
  have e2:∀ n,n≤x.length-k→((List.range n).filterMap ((fun j=>x.cps[j]?) ∘ fun j=>k+j))=(x.cps.toList.drop k).take n:=by
   intro n
   induction n with
   | zero=>intro _; simp
   | succ n ih=>
    intro hn
    rw [List.range_succ,List.filterMap_append,ih (by omega),List.take_add_one,List.getElem?_drop]
    congr 1
    have hk:k+n < x.cps.size:=by omega
    simp [hk]
  rw [e2 _ (Nat.le_refl _),List.take_of_length_le (by simp; omega),List.getElem?_drop]
 split
 ·rename_i hc
  have:k=0:=by
   have hc':x.length-k=x.length:=by simpa using hc
   have hx0:x.length=0∨k=0:=by omega
   omega
  subst this
  simp
 ·exact e
section
variable {X:Cx} {K:W.Frag}
def zKw (K:W.Frag):R2:=fun x y H Q=>zK6 x y H Q∨zKt K x y H Q
def zzr (K:W.Frag):R2:=fun x y H Q=>zD0 x y H Q∨zzl K x y H Q
theorem zGC (hK:X.K=K) (hu:X.A.units+65 < cLine):OpR X (compareOp .In) (zKw K):=zyR.or (zGy hK hu)
theorem zzs (hK:X.K=K) (hu:X.A.units+65 < cLine):OpR X (compareOp .NotIn) (zzr K):=zuk.or (zzm hK hu)
theorem PG.or {tg:Expr} {g g':TG} (h:PG X tg g) (h':PG X tg g'):PG X tg (fun v σ H Q=>g v σ H Q∨g' v σ H Q):=by
 intro pins s σ H v u Q I r q
 rcases q with q | q
 ·exact h pins s σ H v u Q I r q
 ·exact h' pins s σ H v u Q I r q
def zKx (K:W.Frag) (n:Nat) (t:TGs):TG:=fun v σ H Q=>zII K n t v σ H Q∨zKv K n t v σ H Q
theorem zD8 {es:List Expr} {k:Nat} {t:TGs} {n:Nat} {pos:Pos} (hK:X.K=K) (hc:X.calm=true) (h:PGs X es t)
  (hn:(assignEach es X.env).length=n:=by rfl) (hst:(assignEach es X.env).findIdx? (·.1)=none:=by rfl):PG X (.Tuple es k pos) (zKx K n t):=(zD4 hK hc h hn hst).or (zGA hK hc h hn hst)
def zGD (K:W.Frag):List V→Hp→VK→Prop:=fun xs H Q=>zD1 K xs H Q∨zGB xs H Q
theorem zzt (hK:X.K=K):CallR X (.builtin "len") (zGD K):=(zzg hK).or zzp
def zKy (K:W.Frag):V→Option Int→Option Int→Hp→VK→Prop:=fun x lo hi H Q=>zKu x lo hi H Q∨zKm K x lo hi H Q∨zKi K x lo hi H Q
theorem zD9 (hK:X.K=K):SlR X (zKy K):=by
 subst hK
 exact zGz.or (zDI.or zGf)
end
section
variable {K:W.Frag} {σ:St} {H:Hp} {Q:VK} {v x y:V} {i j:Int} {ta tb:TE} {D:Ends} {p:Addr} {xs:List V}
theorem zxZ {z:Str} (h:PyData.strOk z=true):SeqAt.shaped (.str z)=true:=by
 unfold SeqAt.shaped
 rw [show PyData.canLay0 (.str z)=PyData.strOk z from rfl,h,Bool.true_and]
 exact decide_eq_true (by simp [PyData.depth])
end
end L2
namespace L2
open PySem PySem.Spec PyProof.Rows
section
variable {prog:Program} {w:World} {A:Around} {E:Value→Shared→Prop} {s:Shared}
def RawD (h:Heap) (d:Addr) (es:Array DictEntry) (ep:Nat):Prop:=∃ o,h.get? d=some o∧o.cls=.type "dict"∧o.data=.dict es ep
theorem RawD.at {h h':Heap} {d:Addr} {es:Array DictEntry} {ep:Nat} (r:RawD h d es ep) (k:∀ o,h.get? d=some o→h'.get? d=some o):RawD h' d es ep:=let ⟨o,e,q⟩:=r; ⟨o,k o e,q⟩
theorem zBO {d:Addr} {es:Array DictEntry} {ep:Nat} {Q:Value→Shared→Prop} (nd:(d==sysModules)=false) (r:RawD s.heap d es ep)
  (q:Q (.ref s.heap.objs.size) { s with heap:=s.heap.push { cls:=.type "dict_keyiterator",data:=.fields #[.ref d,.int 0 0,.int es.size 0,.int ep 0] } }):wpAny (model prog w) A (pyIter (.ref d)) Q E s:=by
 obtain ⟨ob,e1,e2,e3⟩:=r
 have ty:s.TypeIs (.ref d) "dict":=⟨ob,e1,e2⟩
 refine wpAny_pyIter_slot ty F.slot_dict_iter (wpAny_call_entry F.slot_dict_iter ty F.entry_dict_iter ?_ (F.args_dict_iter_1 _)); unfold Builtin.«dict.__iter__»
 refine wpAny_bind ?_; unfold Builtin.Dict.dictSlotNone
 refine wpAny_bind (wpAny_notOrdered_dict ty ?_); show wpAny _ _ (pure (Value.ref d)) _ _ s
 refine wpAny_pure ?_; show wpAny _ _ (Builtin.Dict.showsAll d >>= _) _ _ s; unfold Builtin.Dict.showsAll; rw [if_neg (by rw [nd]; exact Bool.false_ne_true)]
 refine wpAny_bind (wpAny_pure (wpAny_bind (wpAny_dictEntries e1 e3 (wpAny_bind (wpAny_dictEpoch e1 e3 ?_)))))
 refine wpAny_bind (wpAny_newObj_type (wpAny_pure ⟨_,rfl,"dict_keyiterator",_,⟨_,Heap.get?_push_size _ rfl,rfl⟩,F.slot_dict_keyiterator_next.lookup,by simpa [rawInt] using q⟩))
theorem zBP {it d:Addr} {i ep:Nat} {es:Array DictEntry} {Q:Option Value→Shared→Prop} (hi:s.heap.IsKeyIter it d i es.size ep) (r:RawD s.heap d es ep) (lt:i < es.size)
  (q:∀ h',h'.IsKeyIter it d (i+1) es.size ep→Heap.SameBut it s.heap h'→Q (some es[i].key) { s with heap:=h' }):wpAny (model prog w) A (pyNext (.ref it)) Q E s:=by
 obtain ⟨oi,f1,f2,f3⟩:=id hi
 obtain ⟨ob,e1,e2,e3⟩:=r
 unfold pyNext; refine wpAny_bind (wpAny_attempt (wpAny_callSpecial?_slot (name:=Str.ofString "__next__") hi.typeIs F.slot_dict_keyiterator_next (wpAny_call_entry F.slot_dict_keyiterator_next hi.typeIs F.entry_dict_keyiterator_next ?_ (F.args_dict_keyiterator_next_1 _))))
 refine wpAny_bind (wpAny_pure (wpAny_bind (wpAny_bind ?_)))
 first | (refine wpAny_bind (wpAny_typeNameOfWhole_keyiter hi.typeIs (wpAny_pure ?_)); skip) | (refine wpAny_bind (wpAny_typeNameOf_keyiter hi.typeIs (wpAny_pure ?_)); skip)
 refine wpAny_bind (wpAny_fieldsOf f1 f3 ?_)
 simp only [show Builtin.Dict_items.ownsTuple "dict_keyiterator"=false by decide,Bool.false_eq_true,if_false]; show wpAny _ _ (if (Value.ref d==Value.none)=true then _ else _) _ _ s
 rw [if_neg (by exact Bool.false_ne_true:¬ ((Value.ref d==Value.none)=true))]
 refine wpAny_bind (wpAny_pure (wpAny_bind (wpAny_dictEntries e1 e3 ?_))); rw [if_neg (by simp)]
 refine wpAny_bind (wpAny_pure (wpAny_bind (wpAny_dictEpoch e1 e3 ?_))); rw [if_neg (by simp)]
 refine wpAny_pure ?_; simp only [show ¬ ((i:Int) < 0) by omega,if_false,Int.toNat_natCast,Array.getElem?_eq_getElem lt]
 refine wpAny_bind ?_; first | (refine wpAny_bind (wpAny_typeNameOfWhole_keyiter hi.typeIs (wpAny_pure ?_)); skip) | (refine wpAny_bind (wpAny_typeNameOf_keyiter hi.typeIs (wpAny_pure ?_)); skip)
 refine wpAny_bind (wpAny_isOneOf_keyiter hi.typeIs ?_); show wpAny _ _ (setField (.ref it) 1 (rawInt ((i:Int)+1)) >>= _) _ _ s
 refine wpAny_bind (wpAny_setField f1 f3 (by simp) ?_)
 have hi':(s.heap.update it (Obj.mapFields (·.setIfInBounds 1 (rawInt ((i:Int)+1))))).IsKeyIter it d (i+1) es.size ep:=⟨_,Heap.get?_update_self _ f1 (Obj.isFreed_of_fields (Obj.data_mapFields f3 _)),(Obj.cls_mapFields ..).trans f2,by rw [Obj.data_mapFields f3]; simp [rawInt]⟩
 refine wpAny_bind (wpAny_holding (wpAny_bind (wpAny_isOneOf_keyiter (s:={ s with heap:=s.heap.update it (Obj.mapFields (·.setIfInBounds 1 (rawInt ((i:Int)+1)))) }) hi'.typeIs ?_))); show wpAny _ _ (pure es[i].key) _ _ _
 exact wpAny_pure (wpAny_pure ⟨_,rfl,wpAny_pure (q _ hi' (Heap.SameBut.update ..))⟩)
theorem zEa {it d:Addr} {ep:Nat} {es:Array DictEntry} {Q:Option Value→Shared→Prop} (hh:A.handled=none) (hi:s.heap.IsKeyIter it d es.size es.size ep) (r:RawD s.heap d es ep)
  (q:∀ h',Heap.ExtBut it s.heap h'→Q none { s with heap:=h' }):wpAny (model prog w) A (pyNext (.ref it)) Q E s:=by
 obtain ⟨oi,f1,f2,f3⟩:=id hi
 obtain ⟨ob,e1,e2,e3⟩:=r
 unfold pyNext; refine wpAny_bind (wpAny_attempt (wpAny_callSpecial?_slot (name:=Str.ofString "__next__") hi.typeIs F.slot_dict_keyiterator_next (wpAny_call_entry F.slot_dict_keyiterator_next hi.typeIs F.entry_dict_keyiterator_next ?_ (F.args_dict_keyiterator_next_1 _))))
 refine wpAny_bind (wpAny_pure (wpAny_bind (wpAny_bind ?_)))
 first | (refine wpAny_bind (wpAny_typeNameOfWhole_keyiter hi.typeIs (wpAny_pure ?_)); skip) | (refine wpAny_bind (wpAny_typeNameOf_keyiter hi.typeIs (wpAny_pure ?_)); skip)
 refine wpAny_bind (wpAny_fieldsOf f1 f3 ?_)
 simp only [show Builtin.Dict_items.ownsTuple "dict_keyiterator"=false by decide,Bool.false_eq_true,if_false]; show wpAny _ _ (if (Value.ref d==Value.none)=true then _ else _) _ _ s
 rw [if_neg (by exact Bool.false_ne_true:¬ ((Value.ref d==Value.none)=true))]
 refine wpAny_bind (wpAny_pure (wpAny_bind (wpAny_dictEntries e1 e3 ?_))); rw [if_neg (by simp)]
 refine wpAny_bind (wpAny_pure (wpAny_bind (wpAny_dictEpoch e1 e3 ?_))); rw [if_neg (by simp)]
 refine wpAny_pure ?_; simp only [show ¬ ((es.size:Int) < 0) by omega,if_false,Int.toNat_natCast,Array.getElem?_eq_none (Nat.le_refl es.size)]
 refine wpAny_bind ?_; first | (refine wpAny_bind (wpAny_typeNameOfWhole_keyiter hi.typeIs (wpAny_pure ?_)); skip) | (refine wpAny_bind (wpAny_typeNameOf_keyiter hi.typeIs (wpAny_pure ?_)); skip)
 show wpAny _ _ (setField (.ref it) 0 .none >>= _) _ _ s; refine wpAny_bind (wpAny_setField f1 f3 (by simp) ?_)
 show wpAny _ _ (newExc (.type "StopIteration") [] >>= _) _ _ _; refine wpAny_bind ?_; simp only [newExc,newTuple]
 refine wpAny_bind (wpAny_newObj_type ?_ (by size_fits)); refine wpAny_bind (m:=firstArgMember _ _) (wpAny_of_eq (a:=Value.none) (by first | rfl | (simp only [firstArgMember]; rfl)) ?_)
 refine wpAny_newObj_type ?_ (by size_fits); simp only [raiseNew]; refine wpAny_bind (wpAny_handled ?_); rw [show A.in1.handled=none from hh]
 refine wpAny_bind (wpAny_pure (wpAny_throw ?_)); refine wpAny_bind (wpAny_isInstance (T:="StopIteration") (b:=true) ⟨_,Heap.get?_push_size _ rfl,rfl⟩ isSubtype_stop ?_)
 exact wpAny_pure (q _ (((Heap.SameBut.update ..).extBut.push _).push _))
theorem zzu (hh:A.handled=none) (I d:Addr) (ne:d≠I) (es:Array DictEntry) (ep:Nat):PySem.Walks prog w A I [I,d] [I] es.size (fun i v=>∃ e,es[i]? = some e∧v=e.key) (fun i h=>h.IsKeyIter I d i es.size ep∧RawD h d es ep) where
 sub:=fun b hb=>by simp at hb; simp [hb]
 frame:=fun _ _ _ st k=>⟨st.1.at fun o e=>k I (by simp) o e,st.2.at fun o e=>k d (by simp) o e⟩
 item:=fun i s Q E lt st hQ=>zBP st.1 st.2 lt fun h' hi' hs'=>hQ _ h' s.toks ⟨es[i],by simp [lt],rfl⟩ ⟨hi',st.2.at fun o e=>hs'.extBut d o ne e⟩ fun b o hb e=>hs'.extBut b o (fun z=>hb (by simp [z])) e
 done:=fun s Q E st hQ=>zEa hh st.1 st.2 fun h' he'=>hQ h' s.toks fun b o hb e=>he' b o (fun z=>hb (by simp [z])) e
 self:=fun _ _ _ _ st hQ=>wpAny_pyIter_keyiter st.1 hQ
theorem zBQ {d:Addr} {es:Array DictEntry} {ep:Nat} {Q:Bool→Shared→Prop} (r:RawD s.heap d es ep) (q:Q false s):wpAny (model prog w) A (Builtin.List.listLengthHint (.ref d)) Q E s:=by
 obtain ⟨ob,e1,e2,e3⟩:=id r
 have ty:s.TypeIs (.ref d) "dict":=⟨ob,e1,e2⟩
 unfold Builtin.List.listLengthHint; refine wpAny_bind (wpAny_specialOf ty F.slot_dict_len.lookup ?_)
 generalize hid:("dict.__len__":String)=id0; wp_delta
 rw [show splitId id0=some ("dict","__len__") from by subst hid; decide +kernel]; subst hid
 refine wpAny_bind (wpAny_isInstance (T:="dict") (b:=true) ty (by rw [isSubtype_type]; kernel_rfl) ?_)
 refine wpAny_ite_split (fun hab=>absurd hab (by decide)) (fun _=>wpAny_ite_split (fun _=>?_) (fun hab=>absurd (by decide +kernel) hab))
 exact wpAny_bind (wpAny_typeOf ty (wpAny_pure q))
theorem zx0 {R:Result→Shared→Prop} {d:Addr} {es:Array DictEntry} {ep:Nat} (hh:A.handled=none) (nd:(d==sysModules)=false) (r:RawD s.heap d es ep) (z:es.size≤sizeLine) (S:Addr) (c₀:Nat) (hS:s.heap.get? S=some { cls:=.type "list",data:=.seq #[] c₀ })
  (hR:∀ h' tk acc' c',(∀ b o,b≠S→s.heap.get? b=some o→h'.get? b=some o)→h'.get? S=some { cls:=.type "list",dict:=none,data:=.seq acc' c',slots:=#[] }→ItemsOf (fun i v=>∃ e,es[i]? = some e∧v=e.key) acc' es.size→R (.ok (.ret .none)) { s with heap:=h',toks:=tk }) :
  wpAny (model prog w) A.in1 (Builtin.List.listExtendWith (.ref S) (.ref d) .none) (fun fin s'=>match fin with | .done f=>R (.ok f) s' | .again c'=>c'.quiet=true∧codeAny (model prog w) A c' R s') (fun e s'=>R (.error e) s') s:=by
 obtain ⟨ob,e1,e2,e3⟩:=id r
 have nSd:S≠d:=fun e=>by rw [e,e1] at hS; cases hS; exact absurd (show Value.type "list"=Value.type "dict" from e2) (by decide)
 have nSI:S≠s.heap.objs.size:=Nat.ne_of_lt (Heap.lt_size hS)
 have ndI:d≠s.heap.objs.size:=Nat.ne_of_lt (Heap.lt_size e1)
 have nSf:S∉[s.heap.objs.size,d]:=by simp [nSd,nSI]
 have W:=(zzu (prog:=prog) (w:=w) (A:=A.in1) hh s.heap.objs.size d ndI es ep).toS
 have key:∀ (h:Heap) (c₁ tk:Nat),(h.IsKeyIter s.heap.objs.size d 0 es.size ep∧RawD h d es ep)→(∀ b o,b≠S→s.heap.get? b=some o→h.get? b=some o)→h.get? S=some { cls:=.type "list",data:=.seq #[] c₁ }→
   codeAny (model prog w) A (.builtin "list.extend.loop" ⟨[.ref S,.ref s.heap.objs.size,.none],[]⟩) R { s with heap:=h,toks:=tk }:=fun h c₁ tk hit hk hS₁=>by
  refine codeAny_extend_loopS W z S nSf .none es.size 0 _ #[] c₁ rfl (Nat.zero_le _) hit hS₁ (ItemsOf.nil _) fun s' acc' c' hm hS' hacc=>?_
  rw [Moved.eq_with hm]; refine hR s'.heap s'.toks acc' c' (fun b o hb e=>hm.heap b o (fun hmem=>?_) (hk b o hb e)) hS' hacc
  rcases List.mem_cons.mp hmem with e' | hmem
  ·exact hb e'
  ·rw [List.mem_singleton] at hmem; subst hmem; exact absurd (Heap.lt_size e) (Nat.lt_irrefl _)
 unfold Builtin.List.listExtendWith; refine wpAny_bind (wpAny_typeOf (T:="dict") ⟨ob,e1,e2⟩ ?_)
 simp only [show Builtin.List.listSameRef (.ref S) (.ref d)=false by simp [Builtin.List.listSameRef,nSd],show (Value.type "dict"==Value.type "list")=false by decide,show (Value.type "dict"==Value.type "tuple")=false by decide,Bool.or_false,Bool.false_eq_true,if_false]
 refine wpAny_bind (zBO nd r ?_)
 have r₁:RawD (s.heap.push { cls:=.type "dict_keyiterator",data:=.fields #[.ref d,.int 0 0,.int es.size 0,.int ep 0] }) d es ep:=r.at fun o e=>Heap.get?_push_of_some _ e
 refine wpAny_bind (wpAny_holding (zBQ r₁ ?_))
 have i₁:(s.heap.push { cls:=.type "dict_keyiterator",data:=.fields #[.ref d,.int 0 0,.int es.size 0,.int ep 0] }).IsKeyIter s.heap.objs.size d 0 es.size ep:=⟨_,Heap.get?_push_size _ rfl,rfl,rfl⟩
 have S₁:=Heap.get?_push_of_some { cls:=.type "dict_keyiterator",data:=.fields #[.ref d,.int 0 0,.int es.size 0,.int ep 0] } hS
 refine wpAny_ite_split (fun _=>?_) (fun hab=>absurd (by decide) hab)
 refine wpAny_bind (wpAny_rule (wpAny_bind ?_)); show wpAny _ _ (updateSeq S (·.push .none) >>= fun _=>updateSeq S (·.pop)) _ _ _
 refine wpAny_bind (wpAny_updateSeq S₁ rfl ?_)
 have S₂:=Heap.get?_update_self (Obj.mapSeq (·.push Value.none)) S₁ rfl
 refine wpAny_updateSeq (hz:=by seq_fits) S₂ rfl ?_
 have S₃:=Heap.get?_update_self (Obj.mapSeq (·.pop)) S₂ rfl
 have oth:∀ b o,b≠S→(s.heap.push { cls:=.type "dict_keyiterator",data:=.fields #[.ref d,.int 0 0,.int es.size 0,.int ep 0] }).get? b=some o→((((s.heap.push { cls:=.type "dict_keyiterator",data:=.fields #[.ref d,.int 0 0,.int es.size 0,.int ep 0] }).update S (Obj.mapSeq (·.push Value.none))).update S (Obj.mapSeq (·.pop)))).get? b=some o:=
  fun b o hb e=>(Heap.get?_update_other _ _ (Ne.symm hb)).trans ((Heap.get?_update_other _ _ (Ne.symm hb)).trans e)
 exact wpAny_pure ⟨plainId_quiet F.plain_extend_loop _,key _ _ _ ⟨i₁.at fun o e=>oth _ o (Ne.symm nSI) e,r₁.at fun o e=>oth _ o (Ne.symm nSd) e⟩ (fun b o hb e=>oth b o hb (Heap.get?_push_of_some _ e)) S₃⟩
theorem zBR {Q:Value→Shared→Prop} {d:Addr} {es:Array DictEntry} {ep:Nat} (hh:A.handled=none) (nd:(d==sysModules)=false) (r:RawD s.heap d es ep) (z:es.size≤sizeLine)
  (hQ:∀ h' tk acc' c',(∀ b o,s.heap.get? b=some o→h'.get? b=some o)→h'.get? s.heap.objs.size=some { cls:=.type "list",dict:=none,data:=.seq acc' c',slots:=#[] }→ItemsOf (fun i v=>∃ e,es[i]? = some e∧v=e.key) acc' es.size→Q (.ref s.heap.objs.size) { s with heap:=h',toks:=tk }) :
  wpAny (model prog w) A (call (.type "list") [.ref d]) Q E s:=by
 refine callType_codes (Q₁:=fun obj s₁=>obj=.ref s.heap.objs.size∧s₁={ s with heap:=s.heap.push { cls:=.type "list",data:=.seq #[] } }) F.called_list (F.typeCall_list_1 _) F.entry_list_init (code_list_new _ ⟨rfl,rfl⟩) fun obj s₁ h₁=>?_
 obtain ⟨rfl,rfl⟩:=h₁
 have hS:(s.heap.push { cls:=.type "list",data:=.seq #[] }).get? s.heap.objs.size=some { cls:=.type "list",data:=.seq #[] }:=by exact Heap.get?_push_size _ rfl
 have r₁:RawD (s.heap.push { cls:=.type "list",data:=.seq #[] }) d es ep:=r.at fun o e=>Heap.get?_push_of_some _ e
 refine ⟨⟨_,hS,rfl⟩,F.args_list_init_2 _ _,?_⟩
 show wpAny _ _ (do let old ← Builtin.List.listItems (.ref s.heap.objs.size); Builtin.List.listUpdate (.ref s.heap.objs.size) (fun _=>#[]); letGo old.toList.reverse; Builtin.List.listExtendWith (.ref s.heap.objs.size) (.ref d) .none) _ _ _
 refine wpAny_bind ?_; unfold Builtin.List.listItems; refine wpAny_bind (wpAny_seqItems hS rfl (wpAny_pure ?_))
 show wpAny _ _ (updateSeq s.heap.objs.size (fun _=>#[]) >>= fun _=>letGo (#[]:Array Value).toList.reverse >>= fun _=>Builtin.List.listExtendWith (.ref s.heap.objs.size) (.ref d) .none) _ _ _
 refine wpAny_bind (wpAny_updateSeq hS rfl ?_)
 have S₂:=Heap.get?_update_self (Obj.mapSeq (fun _=>(#[]:Array Value))) hS rfl
 have oth:∀ b o,b≠s.heap.objs.size→(s.heap.push { cls:=.type "list",data:=.seq #[] }).get? b=some o→((s.heap.push { cls:=.type "list",data:=.seq #[] }).update s.heap.objs.size (Obj.mapSeq (fun _=>(#[]:Array Value)))).get? b=some o:=fun b o hb e=>by exact (Heap.get?_update_other _ _ (Ne.symm hb)).trans e
 have ndI:d≠s.heap.objs.size:=by obtain ⟨ob,e1,_⟩:=r; exact Nat.ne_of_lt (Heap.lt_size e1)
 refine wpAny_bind (wpAny_letGo (zx0 (A:=A.in1) hh nd (r₁.at fun o e=>oth d o ndI e) z _ _ S₂ fun h' tk acc' c' hk hS' hacc=>?_))
 exact ⟨rfl,hQ h' tk acc' c' (fun b o e=>hk b o (Nat.ne_of_lt (Heap.lt_size e)) (oth b o (Nat.ne_of_lt (Heap.lt_size e)) (Heap.get?_push_of_some _ e))) hS' hacc⟩
end
end L2
namespace L2
open PySem PySem.Spec PyProof.Rows
inductive D where
 | non | bl (b:Bool) | int (i:Int) | str (x:Str) | ty (n:String) | adr (a:Addr) | cls (c:Nat)
 | tup (xs:List D) | lst (xs:List D) | kt (xs:List D) | fz (xs:List D) | dK (kvs:List (Key×D)) | dT (kvs:List (List Key×D)) | ins (c:Nat) (fs:List (Str×D))
instance:Inhabited D:=⟨.non⟩
structure Bk where
 K:W.Frag
 cl:Nat→Addr
def KnL (K:W.Frag) (a:Addr) (xs:List V):Prop:=∃ (o:Obj) (its:Array Value) (n:Nat),K.lookup a=some o∧o.cls=.type "list"∧o.dict=none∧o.data=.seq its n∧its.size≤sizeLine∧Vals xs its.toList
def KnT (K:W.Frag) (a:Addr) (xs:List V):Prop:=∃ (o:Obj) (its:Array Value) (n:Nat),K.lookup a=some o∧o.cls=.type "tuple"∧o.data=.seq its n∧its.size≤sizeLine∧Vals xs its.toList
def NdL (B:Bk) (H:Hp) (F:Addr→Prop) (a:Addr) (xs:List V):Prop:=F a∧H a=some (.lst xs)
def NdT (B:Bk) (H:Hp) (F:Addr→Prop) (a:Addr) (xs:List V):Prop:=F a∧H a=some (.tup xs)
def NdF (B:Bk) (H:Hp) (F:Addr→Prop) (a:Addr) (xs:List V):Prop:=(F a∧∃ o,H a=some (.frz o (.lst xs)))∨KnL B.K a xs
theorem NdF.sq {B:Bk} {H:Hp} {F:Addr→Prop} {a:Addr} {xs:List V} (h:NdF B H F a xs):SqL B.K H a xs:=by
 rcases h with ⟨_,o,h⟩ | h
 ·exact .inl (.inr ⟨o,h⟩)
 ·exact .inr h
theorem NdF.keep {B:Bk} {H H':Hp} {F F':Addr→Prop} {a:Addr} {xs:List V} (h:NdF B H F a xs) (k:∀ b o,F b→H b=some o→H' b=some o) (up:∀ b,F b→F' b):NdF B H' F' a xs:=by
 rcases h with ⟨f,o,h⟩ | h
 ·exact .inl ⟨up _ f,o,k _ _ f h⟩
 ·exact .inr h
theorem NdL.sq {B:Bk} {H:Hp} {F:Addr→Prop} {a:Addr} {xs:List V} (h:NdL B H F a xs):SqL B.K H a xs:=.inl (.inl h.2)
theorem NdT.sq {B:Bk} {H:Hp} {F:Addr→Prop} {a:Addr} {xs:List V} (h:NdT B H F a xs):SqT B.K H a xs:=.inl (.inl h.2)
theorem KnT.sq {K:W.Frag} {H:Hp} {a:Addr} {xs:List V} (h:KnT K a xs):SqT K H a xs:=.inr h
mutual
/-- the tree d lies at v,all its nodes within F -/
inductive DA (B:Bk) (H:Hp) (F:Addr→Prop):V→D→Prop
 | non:DA B H F .non .non
 | bl (b:Bool):DA B H F (.bl b) (.bl b)
 | int (i:Int):DA B H F (.int i) (.int i)
 | str (x:Str):DA B H F (.str x) (.str x)
 | ty (n:String):DA B H F (.ty n) (.ty n)
 | adr (a:Addr):DA B H F (.ref a) (.adr a)
 | cls (c:Nat):DA B H F (.ref (B.cl c)) (.cls c)
 | tup {a:Addr} {xs:List V} {ds:List D} (h:NdT B H F a xs) (r:DAs B H F xs ds):DA B H F (.ref a) (.tup ds)
 | lst {a:Addr} {xs:List V} {ds:List D} (h:NdL B H F a xs) (r:DAs B H F xs ds):DA B H F (.ref a) (.lst ds)
 | kt {a:Addr} {xs:List V} {ds:List D} (h:KnT B.K a xs) (r:DAs B H F xs ds):DA B H F (.ref a) (.kt ds)
 | fz {a:Addr} {xs:List V} {ds:List D} (h:NdF B H F a xs) (r:DAs B H F xs ds):DA B H F (.ref a) (.fz ds)
 | dK {a:Addr} {kvs:List (Key×V)} {ds:List (Key×D)} (f:F a) (h:H a=some (.dK kvs)) (e:kvs.map (·.1)=ds.map (·.1)) (r:DAs B H F (kvs.map (·.2)) (ds.map (·.2))):DA B H F (.ref a) (.dK ds)
 | dT {a:Addr} {kvs:List (List Key×V)} {ds:List (List Key×D)} (f:F a) (h:H a=some (.dT kvs)) (e:kvs.map (·.1)=ds.map (·.1)) (r:DAs B H F (kvs.map (·.2)) (ds.map (·.2))):DA B H F (.ref a) (.dT ds)
 | ins {a dx:Addr} {c:Nat} {fs:List (Str×V)} {ds:List (Str×D)} (f:F a) (h:H a=some (.ins (B.cl c) dx fs)) (e:fs.map (·.1)=ds.map (·.1)) (r:DAs B H F (fs.map (·.2)) (ds.map (·.2))):DA B H F (.ref a) (.ins c ds)
inductive DAs (B:Bk) (H:Hp) (F:Addr→Prop):List V→List D→Prop
 | nil:DAs B H F [] []
 | cons {x:V} {d:D} {xs:List V} {ds:List D} (h:DA B H F x d) (r:DAs B H F xs ds):DAs B H F (x :: xs) (d :: ds)
end
section
variable {B:Bk} {H H':Hp} {F F':Addr→Prop}
mutual
theorem DA.mono (k:∀ b o,F b→H b=some o→H' b=some o) (up:∀ b,F b→F' b):∀ {v:V} {d:D},DA B H F v d→DA B H' F' v d
 | _,_,.non=>.non
 | _,_,.bl b=>.bl b
 | _,_,.int i=>.int i
 | _,_,.str x=>.str x
 | _,_,.ty n=>.ty n
 | _,_,.adr a=>.adr a
 | _,_,.cls c=>.cls c
 | _,_,.tup h r=>.tup ⟨up _ h.1,k _ _ h.1 h.2⟩ (DAs.mono k up r)
 | _,_,.lst h r=>.lst ⟨up _ h.1,k _ _ h.1 h.2⟩ (DAs.mono k up r)
 | _,_,.kt h r=>.kt h (DAs.mono k up r)
 | _,_,.fz h r=>.fz (h.keep k up) (DAs.mono k up r)
 | _,_,.dK f h e r=>.dK (up _ f) (k _ _ f h) e (DAs.mono k up r)
 | _,_,.dT f h e r=>.dT (up _ f) (k _ _ f h) e (DAs.mono k up r)
 | _,_,.ins f h e r=>.ins (up _ f) (k _ _ f h) e (DAs.mono k up r)
theorem DAs.mono (k:∀ b o,F b→H b=some o→H' b=some o) (up:∀ b,F b→F' b):∀ {vs:List V} {ds:List D},DAs B H F vs ds→DAs B H' F' vs ds
 | _,_,.nil=>.nil
 | _,_,.cons h r=>.cons (DA.mono k up h) (DAs.mono k up r)
end
theorem DAs.length:∀ {vs:List V} {ds:List D},DAs B H F vs ds→vs.length=ds.length
 | _,_,.nil=>rfl
 | _,_,.cons _ r=>by rw [List.length_cons,List.length_cons,DAs.length r]
theorem DAs.get:∀ {vs:List V} {ds:List D} {i:Nat} {d:D},DAs B H F vs ds→ds[i]? = some d→∃ v,vs[i]? = some v∧DA B H F v d
 | _,_,_,_,.nil,e=>by simp at e
 | _,_,0,_,.cons h _,e=>by simp at e; subst e; exact ⟨_,rfl,h⟩
 | _,_,i+1,_,.cons _ r,e=>by simpa using DAs.get (i:=i) r (by simpa using e)
theorem DAs.append:∀ {vs ws:List V} {ds es:List D},DAs B H F vs ds→DAs B H F ws es→DAs B H F (vs++ws) (ds++es)
 | _,_,_,_,.nil,q=>q
 | _,_,_,_,.cons h r,q=>.cons h (DAs.append r q)
theorem DAs.one {vs:List V} {d:D} (h:DAs B H F vs [d]):∃ v,vs=[v]∧DA B H F v d:=by
 cases h with
 | cons h r=>cases r; exact ⟨_,rfl,h⟩
theorem DAs.two {vs:List V} {d e:D} (h:DAs B H F vs [d,e]):∃ v w,vs=[v,w]∧DA B H F v d∧DA B H F w e:=by
 cases h with
 | cons h r=>cases r with
  | cons h' r=>cases r; exact ⟨_,_,rfl,h,h'⟩
theorem DAs.take:∀ {vs:List V} {ds:List D} (n:Nat),DAs B H F vs ds→DAs B H F (vs.take n) (ds.take n)
 | _,_,0,_=>by simpa using DAs.nil
 | _,_,_+1,.nil=>by simpa using DAs.nil
 | _,_,n+1,.cons h r=>by simpa using DAs.cons h (DAs.take n r)
theorem DAs.drop:∀ {vs:List V} {ds:List D} (n:Nat),DAs B H F vs ds→DAs B H F (vs.drop n) (ds.drop n)
 | _,_,0,h=>by simpa using h
 | _,_,_+1,.nil=>by simpa using DAs.nil
 | _,_,n+1,.cons h r=>by simpa using DAs.drop n r
end
inductive SV where
 | sh (d:D) | li (xs:List D) | lk (xs:List D) | ll (xss:List (List D)) | dK (kvs:List (Key×D)) | dT (kvs:List (List Key×D)) | ob (c:Nat) (fs:List (Str×D))
@[simp] def SV.fr:SV→D
 | .sh d=>d
 | .li xs=>.lst xs
 | .lk xs=>.lst xs
 | .ll xss=>.lst (xss.map D.lst)
 | .dK kvs=>.dK kvs
 | .dT kvs=>.dT kvs
 | .ob c fs=>.ins c fs
inductive LAs (B:Bk) (H:Hp) (F:Addr→Prop):List Addr→List (List D)→Prop
 | nil:LAs B H F [] []
 | cons {a:Addr} {xs:List V} {ds:List D} {as:List Addr} {dss:List (List D)} (h:H a=some (.lst xs)) (q:DAs B H F xs ds) (r:LAs B H F as dss):LAs B H F (a :: as) (ds :: dss)
def VA (B:Bk) (H:Hp) (F:Addr→Prop) (v:V):SV→List Addr→Prop
 | .sh d,o=>o=[]∧DA B H F v d
 | .li ds,o=>∃ a xs,v=.ref a∧o=[a]∧¬ F a∧H a=some (.lst xs)∧DAs B H F xs ds
 | .lk ds,o=>∃ a xs,v=.ref a∧o=[a]∧¬ F a∧H a=some (.lst xs)∧DAs B H F xs ds
 | .ll dss,o=>∃ a as,v=.ref a∧o=a :: as∧(a :: as).Nodup∧(∀ b∈a :: as,¬ F b)∧H a=some (.lst (as.map V.ref))∧LAs B H F as dss
 | .dK ds,o=>∃ a kvs,v=.ref a∧o=[a]∧¬ F a∧H a=some (.dK kvs)∧kvs.map (·.1)=ds.map (·.1)∧DAs B H F (kvs.map (·.2)) (ds.map (·.2))
 | .dT ds,o=>∃ a kvs,v=.ref a∧o=[a]∧¬ F a∧H a=some (.dT kvs)∧kvs.map (·.1)=ds.map (·.1)∧DAs B H F (kvs.map (·.2)) (ds.map (·.2))
 | .ob c ds,o=>∃ a dx fs,v=.ref a∧o=[a]∧¬ F a∧H a=some (.ins (B.cl c) dx fs)∧fs.map (·.1)=ds.map (·.1)∧DAs B H F (fs.map (·.2)) (ds.map (·.2))
section
variable {B:Bk} {H H':Hp} {F F':Addr→Prop} {v:V} {x:SV} {o:List Addr}
theorem LAs.mono (k:∀ b u,F b→H b=some u→H' b=some u) (up:∀ b,F b→F' b):∀ {as:List Addr} {dss:List (List D)},(∀ b u,b∈as→H b=some u→H' b=some u)→LAs B H F as dss→LAs B H' F' as dss
 | _,_,_,.nil=>.nil
 | _,_,ko,.cons h q r=>.cons (ko _ _ (by simp) h) (q.mono k up) (LAs.mono k up (fun b u hb=>ko b u (by simp [hb])) r)
theorem LAs.alive:∀ {as:List Addr} {dss:List (List D)},LAs B H F as dss→∀ b,b∈as→∃ xs,H b=some (.lst xs)
 | _,_,.nil,b,hb=>by simp at hb
 | _,_,.cons h q r,b,hb=>by
  rcases List.mem_cons.mp hb with rfl | hb
  ·exact ⟨_,h⟩
  ·exact LAs.alive r b hb
theorem LAs.frozen (up:∀ b,F b→F' b):∀ {as:List Addr} {dss:List (List D)},LAs B H F as dss→(∀ b,b∈as→F' b)→DAs B H F' (as.map V.ref) (dss.map D.lst)
 | _,_,.nil,_=>.nil
 | _,_,.cons h q r,yes=>.cons (.lst ⟨yes _ (by simp),h⟩ (q.mono (fun _ _ _ e=>e) up)) (LAs.frozen up r fun b hb=>yes b (by simp [hb]))
theorem VA.mono (h:VA B H F v x o) (k:∀ b u,F b→H b=some u→H' b=some u) (ko:∀ b u,b∈o→H b=some u→H' b=some u) (up:∀ b,F b→F' b) (no:∀ b,b∈o→¬ F' b):VA B H' F' v x o:=by
 cases x with
 | sh d=>exact ⟨h.1,h.2.mono k up⟩
 | li ds=>obtain ⟨a,xs,e,rfl,_,hh,r⟩:=h; exact ⟨a,xs,e,rfl,no a (by simp),ko a _ (by simp) hh,r.mono k up⟩
 | lk ds=>obtain ⟨a,xs,e,rfl,_,hh,r⟩:=h; exact ⟨a,xs,e,rfl,no a (by simp),ko a _ (by simp) hh,r.mono k up⟩
 | ll ds=>obtain ⟨a,as,e,rfl,nd,_,hh,r⟩:=h; exact ⟨a,as,e,rfl,nd,no,ko a _ (by simp) hh,r.mono k up fun b u hb=>ko b u (by simp [hb])⟩
 | dK ds=>obtain ⟨a,xs,e,rfl,_,hh,q,r⟩:=h; exact ⟨a,xs,e,rfl,no a (by simp),ko a _ (by simp) hh,q,r.mono k up⟩
 | dT ds=>obtain ⟨a,xs,e,rfl,_,hh,q,r⟩:=h; exact ⟨a,xs,e,rfl,no a (by simp),ko a _ (by simp) hh,q,r.mono k up⟩
 | ob c ds=>obtain ⟨a,dx,xs,e,rfl,_,hh,q,r⟩:=h; exact ⟨a,dx,xs,e,rfl,no a (by simp),ko a _ (by simp) hh,q,r.mono k up⟩
theorem VA.alive (h:VA B H F v x o) {a:Addr} (e:a∈o):H a≠none∧¬ F a∧∀ xs,H a≠some (.tup xs):=by
 have fin:∀ {u:HO},H a=some u→(∀ xs,u≠.tup xs)→(∀ ob xs,u≠.frz ob (.tup xs))→¬ F a→H a≠none∧¬ F a∧∀ xs,H a≠some (.tup xs):=fun {u} hu n1 n2 nf=>by
  refine ⟨by rw [hu]; simp,nf,fun ys q=>?_⟩
  rw [hu] at q; exact n1 _ (Option.some.inj q)
 cases x with
 | sh d=>rw [h.1] at e; simp at e
 | li ds=>obtain ⟨b,xs,e1,rfl,nf,hh,r⟩:=h; cases List.mem_singleton.mp e; exact fin hh (by simp) (by simp) nf
 | lk ds=>obtain ⟨b,xs,e1,rfl,nf,hh,r⟩:=h; cases List.mem_singleton.mp e; exact fin hh (by simp) (by simp) nf
 | ll ds=>
  obtain ⟨b,as,e1,rfl,nd,nf,hh,r⟩:=h
  rcases List.mem_cons.mp e with rfl | e'
  ·exact fin hh (by simp) (by simp) (nf _ e)
  ·obtain ⟨xs,hx⟩:=r.alive _ e'
   exact fin hx (by simp) (by simp) (nf _ e)
 | dK ds=>obtain ⟨b,xs,e1,rfl,nf,hh,r⟩:=h; cases List.mem_singleton.mp e; exact fin hh (by simp) (by simp) nf
 | dT ds=>obtain ⟨b,xs,e1,rfl,nf,hh,r⟩:=h; cases List.mem_singleton.mp e; exact fin hh (by simp) (by simp) nf
 | ob c ds=>obtain ⟨b,dx,xs,e1,rfl,nf,hh,r⟩:=h; cases List.mem_singleton.mp e; exact fin hh (by simp) (by simp) nf
theorem VA.frozen (h:VA B H F v x o) (up:∀ b,F b→F' b) (yes:∀ b,b∈o→F' b):DA B H F' v x.fr:=by
 have id':∀ b u,F b→H b=some u→H b=some u:=fun _ _ _ q=>q
 cases x with
 | sh d=>exact h.2.mono id' up
 | li ds=>obtain ⟨a,xs,rfl,rfl,_,hh,r⟩:=h; exact .lst ⟨yes a (by simp),hh⟩ (r.mono id' up)
 | lk ds=>obtain ⟨a,xs,rfl,rfl,_,hh,r⟩:=h; exact .lst ⟨yes a (by simp),hh⟩ (r.mono id' up)
 | ll ds=>obtain ⟨a,as,rfl,rfl,_,_,hh,r⟩:=h; exact .lst ⟨yes a (by simp),hh⟩ (r.frozen up fun b hb=>yes b (by simp [hb]))
 | dK ds=>obtain ⟨a,xs,rfl,rfl,_,hh,q,r⟩:=h; exact .dK (yes a (by simp)) hh q (r.mono id' up)
 | dT ds=>obtain ⟨a,xs,rfl,rfl,_,hh,q,r⟩:=h; exact .dT (yes a (by simp)) hh q (r.mono id' up)
 | ob c ds=>obtain ⟨a,dx,xs,rfl,rfl,_,hh,q,r⟩:=h; exact .ins (yes a (by simp)) hh q (r.mono id' up)
end
abbrev FSt:=List (Option SV)
structure Rep (B:Bk) (H:Hp) (F:Addr→Prop) (σ:St) (S:FSt) (os:Nat→List Addr):Prop where
 at':∀ i x,S[i]? = some (some x)→∃ v,σ[i]? = some (some v)∧VA B H F v x (os i)
 out:∀ i,(∀ x,S[i]?≠some (some x))→os i=[]
 inj:∀ i j a,a∈os i→a∈os j→i=j
 fd:∀ b,F b→H b≠none
 len:σ.length=S.length
def isT (H:Hp) (b:Addr):Prop:=∃ xs,H b=some (.tup xs)
structure Al (H:Hp) (F:Addr→Prop) (H':Hp) (F':Addr→Prop):Prop where
 same:zIU H H'
 up:∀ b,F b→F' b
 new:∀ b,F' b→F b∨(H b=none∧H' b≠none)∨isT H b
theorem Al.refl {H:Hp} {F:Addr→Prop}:Al H F H F:=⟨fun _ _ h=>h,fun _ h=>h,fun _ h=>.inl h⟩
theorem Al.trans {H H1 H2:Hp} {F F1 F2:Addr→Prop} (a:Al H F H1 F1) (b:Al H1 F1 H2 F2):Al H F H2 F2:=by
 refine ⟨fun x o h=>b.same x o (a.same x o h),fun x h=>b.up x (a.up x h),fun x h=>?_⟩
 have old:∀ {u:HO},H1 x=some u→H2 x≠none:=fun {u} e=>by rw [b.same x u e]; simp
 rcases b.new x h with h | ⟨h,h'⟩ | ⟨ys,h⟩
 ·rcases a.new x h with h | ⟨h,h'⟩ | h
  ·exact .inl h
  ·refine .inr (.inl ⟨h,?_⟩)
   cases e:H1 x with
   | none=>exact absurd e h'
   | some o=>exact old e
  ·exact .inr (.inr h)
 ·refine .inr (.inl ⟨?_,h'⟩)
  cases e:H x with
  | none=>rfl
  | some o=>rw [a.same x o e] at h; cases h
 ·cases e:H x with
  | none=>exact .inr (.inl ⟨rfl,old h⟩)
  | some o=>have:=a.same x o e; rw [h] at this; cases this; exact .inr (.inr ⟨ys,e⟩)
def osL (os:Nat→List Addr) (L:List Nat):Addr→Prop:=fun b=>∃ i∈L,b∈os i
def orF (F G:Addr→Prop):Addr→Prop:=fun b=>F b∨G b
section
variable {B:Bk} {H H':Hp} {F F' G:Addr→Prop} {σ:St} {S:FSt} {os:Nat→List Addr} {L:List Nat}
theorem Rep.own (r:Rep B H F σ S os) {i:Nat} {a:Addr} (e:a∈os i):∃ x v,S[i]? = some (some x)∧σ[i]? = some (some v)∧VA B H F v x (os i):=by
 cases q:S[i]? with
 | none=>rw [r.out i (by rw [q]; simp)] at e; simp at e
 | some z=>cases z with
  | none=>rw [r.out i (by rw [q]; simp)] at e; simp at e
  | some x=>obtain ⟨v,h1,h2⟩:=r.at' i x q; exact ⟨x,v,rfl,h1,h2⟩
theorem Rep.alive (r:Rep B H F σ S os) {i:Nat} {a:Addr} (e:a∈os i):H a≠none∧¬ F a:=by
 obtain ⟨x,v,_,_,h⟩:=r.own e
 exact ⟨(h.alive e).1,(h.alive e).2.1⟩
theorem Rep.mono (r:Rep B H F σ S os) (a:Al H F H' F'):Rep B H' F' σ S os:=by
 refine ⟨fun i x h=>?_,r.out,r.inj,fun b h=>?_,r.len⟩
 ·obtain ⟨v,h1,h2⟩:=r.at' i x h
  refine ⟨v,h1,h2.mono (fun b u _ q=>a.same b u q) (fun b u _ q=>a.same b u q) a.up fun b e q=>?_⟩
  have al:=r.alive e
  rcases a.new b q with q | q | ⟨ys,q⟩
  ·exact al.2 q
  ·exact al.1 q.1
  ·obtain ⟨_,_,_,_,va⟩:=r.own e
   exact (va.alive e).2.2 ys q
 ·rcases a.new b h with h | h | ⟨ys,h⟩
  ·cases e:H b with
   | none=>exact absurd e (r.fd b h)
   | some o=>rw [a.same b o e]; simp
  ·exact h.2
  ·rw [a.same b _ h]; simp
theorem Rep.split (r:Rep B H F σ S os) (a:Al H (orF F (osL os L)) H' G):∃ F',Al H F H' F'∧Rep B H' F' σ S os∧(∀ b,G b→orF F' (osL os L) b)∧∀ b,F' b→G b:=by
 have al:Al H F H' (fun b=>G b∧∀ i,b∉os i):=by
  refine ⟨a.same,fun b h=>⟨a.up b (.inl h),fun i e=>(r.alive e).2 h⟩,fun b h=>?_⟩
  rcases a.new b h.1 with q | q
  ·rcases q with q | ⟨i,_,q⟩
   ·exact .inl q
   ·exact absurd q (h.2 i)
  ·exact .inr q
 refine ⟨_,al,r.mono al,fun b h=>?_,fun b h=>h.1⟩
 by_cases q:∀ i,b∉os i
 ·exact .inl ⟨h,q⟩
 ·have ⟨i,e⟩:∃ i,b∈os i:=by
   apply Classical.byContradiction
   intro n
   exact q fun i e=>n ⟨i,e⟩
  rcases a.new b h with z | z | ⟨ys,z⟩
  ·rcases z with z | z
   ·exact absurd z (r.alive e).2
   ·exact .inr z
  ·exact absurd z.1 (r.alive e).1
  ·obtain ⟨_,_,_,_,va⟩:=r.own e
   exact absurd z ((va.alive e).2.2 ys)
end
end L2
namespace L2
open PySem PySem.Spec PyProof.Rows
def FD (B:Bk) (t:TE) (L:List Nat) (m:FSt→Option D):Prop:=
 ∀ (S:FSt) (σ:St) (H:Hp) (F:Addr→Prop) (os:Nat→List Addr) (Q:VK) (d:D),Rep B H F σ S os→m S=some d→
  (∀ v H' F',Al H F H' F'→Rep B H' F' σ S os→DA B H' (orF F' (osL os L)) v d→Q v H')→t σ H Q
def FE (B:Bk) (t:TE) (L:List Nat) (m:FSt→Option SV):Prop:=
 ∀ (S:FSt) (σ:St) (H:Hp) (F:Addr→Prop) (os:Nat→List Addr) (Q:VK) (x:SV),Rep B H F σ S os→m S=some x→
  (∀ v H' F' o,Al H F H' F'→Rep B H' F' σ S os→VA B H' (orF F' (osL os L)) v x o→(∀ a,a∈o→H a=none)→Q v H')→t σ H Q
def FT (B:Bk) (t:TT) (m:FSt→Option Bool):Prop:=
 ∀ (S:FSt) (σ:St) (H:Hp) (F:Addr→Prop) (os:Nat→List Addr) (Q:Bool→Hp→Prop) (c:Bool),Rep B H F σ S os→m S=some c→
  (∀ H' F',Al H F H' F'→Rep B H' F' σ S os→Q c H')→t σ H Q
def FA (B:Bk) (t:TA) (L:List Nat) (m:FSt→Option (List D)):Prop:=
 ∀ (S:FSt) (σ:St) (H:Hp) (F:Addr→Prop) (os:Nat→List Addr) (Q:List V→Hp→Prop) (ds:List D),Rep B H F σ S os→m S=some ds→
  (∀ vs H' F',Al H F H' F'→Rep B H' F' σ S os→DAs B H' (orF F' (osL os L)) vs ds→Q vs H')→t σ H Q
@[simp] def mV (i:Nat):FSt→Option D:=fun S=>(S[i]?.join).map SV.fr
@[simp] def mC (d:D):FSt→Option D:=fun _=>some d
@[simp] def mFr (m:FSt→Option SV):FSt→Option D:=fun S=>(m S).map SV.fr
@[simp] def mSh (m:FSt→Option D):FSt→Option SV:=fun S=>(m S).map SV.sh
@[simp] def m2 {α:Type} (f:D→D→Option α) (a b:FSt→Option D):FSt→Option α:=fun S=>(a S).bind fun x=>(b S).bind fun y=>f x y
@[simp] def m1 {α β:Type} (f:β→Option α) (a:FSt→Option β):FSt→Option α:=fun S=>(a S).bind f
@[simp] def zak:FSt→Option (List D):=fun _=>some []
@[simp] def zac (a:FSt→Option D) (r:FSt→Option (List D)):FSt→Option (List D):=fun S=>(a S).bind fun x=>(r S).bind fun xs=>some (x :: xs)
@[simp] def asB:D→Option Bool
 | .bl b=>some b
 | _=>none
@[simp] def zaj (a:FSt→Option D):FSt→Option Bool:=fun S=>(a S).bind asB
@[simp] def zx1 (a b:FSt→Option Bool):FSt→Option Bool:=fun S=>(a S).bind fun c=>if c=true then b S else some false
@[simp] def mOr (a b:FSt→Option Bool):FSt→Option Bool:=fun S=>(a S).bind fun c=>if c=true then some true else b S
@[simp] def zo6 (a:FSt→Option Bool):FSt→Option Bool:=fun S=>(a S).map fun c=>!c
@[simp] def mBl (a:FSt→Option Bool):FSt→Option D:=fun S=>(a S).map D.bl
@[simp] def zuu {α:Type} (c:FSt→Option Bool) (a b:FSt→Option α):FSt→Option α:=fun S=>(c S).bind fun x=>if x=true then a S else b S
@[simp] def zdS {α:Type} (a b:FSt→Option α):FSt→Option α:=fun S=>(a S).orElse fun _=>b S
section
variable {B:Bk} {ta tb tc:TE} {La Lb Lc L:List Nat} {ma mb mc:FSt→Option D} {t u:TT} {mt mu:FSt→Option Bool} {tr:TA} {mr:FSt→Option (List D)} {me me':FSt→Option SV}
theorem zm9 {F F':Addr→Prop} {os:Nat→List Addr} {L L':List Nat} (h1:∀ b,F b→F' b) (h2:∀ i,i∈L→i∈L'):∀ b,orF F (osL os L) b→orF F' (osL os L') b:=fun b h=>by
 rcases h with h | ⟨i,h,e⟩
 ·exact .inl (h1 b h)
 ·exact .inr ⟨i,h2 i h,e⟩
theorem DA.later {H H':Hp} {F F':Addr→Prop} {os:Nat→List Addr} {L L':List Nat} {v:V} {d:D} (h:DA B H (orF F (osL os L)) v d) (a:Al H F H' F') (hl:∀ i,i∈L→i∈L'):DA B H' (orF F' (osL os L')) v d:=
 h.mono (fun b o _ e=>a.same b o e) (zm9 a.up hl)
theorem FD.fe (h:FD B ta L ma):FE B ta L (mSh ma):=by
 intro S σ H F os Q x r e k
 unfold mSh at e
 cases q:ma S with
 | none=>rw [q] at e; cases e
 | some d=>
  rw [q] at e; cases e
  exact h S σ H F os Q d r q fun v H' F' a r' da=>k v H' F' [] a r' ⟨rfl,da⟩ (by simp)
theorem FE.fd (h:FE B ta L me):FD B ta L (mFr me):=by
 intro S σ H F os Q d r e k
 unfold mFr at e
 cases q:me S with
 | none=>rw [q] at e; cases e
 | some x=>
  rw [q] at e; cases e
  refine h S σ H F os Q x r q fun v H' F' o a r' va fr=>?_
  have al:Al H F H' (fun b=>F' b∨b∈o):=by
   refine ⟨a.same,fun b h=>.inl (a.up b h),fun b h=>?_⟩
   rcases h with h | h
   ·exact a.new b h
   ·exact .inr (.inl ⟨fr b h,(va.alive h).1⟩)
  refine k v H' _ al (r.mono al) (va.frozen (fun b h=>?_) fun b h=>.inl (.inr h))
  rcases h with h | h
  ·exact .inl (.inl h)
  ·exact .inr h
theorem zzv (i:Nat):FD B (zyD i) [i] (mV i):=by
 intro S σ H F os Q d r e k
 unfold mV at e
 cases q:S[i]? with
 | none=>rw [q] at e; cases e
 | some z=>cases z with
  | none=>rw [q] at e; cases e
  | some x=>
   rw [q] at e; cases e
   obtain ⟨v,h1,h2⟩:=r.at' i x q
   exact ⟨v,h1,k v H F Al.refl r (h2.frozen (fun b h=>.inl h) fun b h=>.inr ⟨i,by simp,h⟩)⟩
inductive Sc:V→D→Prop
 | non:Sc .non .non
 | bl (b:Bool):Sc (.bl b) (.bl b)
 | int (i:Int):Sc (.int i) (.int i)
 | str (x:Str):Sc (.str x) (.str x)
 | ty (n:String):Sc (.ty n) (.ty n)
 | adr (a:Addr):Sc (.ref a) (.adr a)
theorem Sc.da {H:Hp} {F:Addr→Prop} {v:V} {d:D} (h:Sc v d):DA B H F v d:=by cases h <;> constructor
theorem zEb {v:V} {d:D} (h:Sc v d):FD B (tC v) [] (mC d):=by
 intro S σ H F os Q d' r e k
 cases e
 exact k v H F Al.refl r h.da
theorem zK7 {v:V} {d:D} (h:∀ H F,DA B H F v d):FD B (tC v) [] (mC d):=by
 intro S σ H F os Q d' r e k
 cases e
 exact k v H F Al.refl r (h _ _)
theorem zzw {R:V→V→Hp→VK→Prop} (ha:FD B ta La ma) (hb:FD B tb Lb mb) {S:FSt} {σ:St} {H:Hp} {F:Addr→Prop} {os:Nat→List Addr} {Q:VK} {da db:D} (r:Rep B H F σ S os) (ea:ma S=some da) (eb:mb S=some db)
  (k:∀ v w H' F',Al H F H' F'→Rep B H' F' σ S os→DA B H' (orF F' (osL os (La++Lb))) v da→DA B H' (orF F' (osL os (La++Lb))) w db→R v w H' Q):ta σ H fun x H1=>tb σ H1 fun y H2=>R x y H2 Q:=by
 refine ha S σ H F os _ da r ea fun v H1 F1 a1 r1 d1=>hb S σ H1 F1 os _ db r1 eb fun w H2 F2 a2 r2 d2=>?_
 exact k v w H2 F2 (a1.trans a2) r2 (d1.later a2 fun i h=>List.mem_append_left _ h) (d2.later Al.refl fun i h=>List.mem_append_right _ h)
def OpD (B:Bk) (r:R2) (f:D→D→Option D):Prop:=∀ (H:Hp) (G:Addr→Prop) (x y:V) (dx dy z:D) (Q:VK),DA B H G x dx→DA B H G y dy→f dx dy=some z→
 (∀ v H' G',Al H G H' G'→DA B H' G' v z→Q v H')→r x y H Q
def OpE (B:Bk) (r:R2) (f:D→D→Option SV):Prop:=∀ (H:Hp) (G:Addr→Prop) (x y:V) (dx dy:D) (z:SV) (Q:VK),(∀ b,G b→H b≠none)→DA B H G x dx→DA B H G y dy→f dx dy=some z→
 (∀ v H' G' o,Al H G H' G'→VA B H' G' v z o→(∀ a,a∈o→H a=none)→Q v H')→r x y H Q
theorem Rep.gd {H:Hp} {F:Addr→Prop} {σ:St} {S:FSt} {os:Nat→List Addr} (r:Rep B H F σ S os) (L:List Nat):∀ b,orF F (osL os L) b→H b≠none:=fun b h=>by
 rcases h with h | ⟨i,_,e⟩
 ·exact r.fd b h
 ·exact (r.alive e).1
theorem zsx {α β γ:Type} {a:Option α} {b:Option β} {f:α→β→Option γ} {z:γ} (h:(a.bind fun x=>b.bind fun y=>f x y)=some z):∃ x y,a=some x∧b=some y∧f x y=some z:=by
 cases a with
 | none=>cases h
 | some x=>cases b with
  | none=>cases h
  | some y=>exact ⟨x,y,rfl,rfl,h⟩
theorem zcZ {α γ:Type} {a:Option α} {f:α→Option γ} {z:γ} (h:a.bind f=some z):∃ x,a=some x∧f x=some z:=by
 cases a with
 | none=>cases h
 | some x=>exact ⟨x,rfl,h⟩
theorem zzx {r:R2} {f:D→D→Option D} (ho:OpD B r f) (ha:FD B ta La ma) (hb:FD B tb Lb mb):FD B (tOp r ta tb) (La++Lb) (m2 f ma mb):=by
 intro S σ H F os Q z rp e k
 obtain ⟨da,db,ea,eb,ef⟩:=zsx e
 refine zzw (R:=r) ha hb rp ea eb fun v w H' F' a r' d1 d2=>?_
 refine ho H' _ v w da db z Q d1 d2 ef fun u H2 G2 a2 dz=>?_
 obtain ⟨F2,al,r2,q,_⟩:=r'.split a2
 exact k u H2 F2 (a.trans al) r2 (dz.mono (fun _ _ _ e=>e) q)
theorem VA.sub {H:Hp} {G F:Addr→Prop} {v:V} {x:SV} {o:List Addr} (h:VA B H G v x o) (q:∀ b,G b→F b) (no:∀ b,b∈o→¬ F b):VA B H F v x o:=h.mono (fun _ _ _ e=>e) (fun _ _ _ e=>e) q no
theorem zi9 {H H':Hp} {F G:Addr→Prop} {σ:St} {S:FSt} {os:Nat→List Addr} {L:List Nat} {v:V} {z:SV} {o:List Addr} (r:Rep B H F σ S os) (a:Al H (orF F (osL os L)) H' G) (va:VA B H' G v z o) (fr:∀ b,b∈o→H b=none) :
  ∃ F',Al H F H' F'∧Rep B H' F' σ S os∧VA B H' (orF F' (osL os L)) v z o:=by
 obtain ⟨F2,al,r2,q,q'⟩:=r.split a
 refine ⟨F2,al,r2,va.sub q fun b e z=>?_⟩
 rcases z with z | ⟨i,_,z⟩
 ·exact (va.alive e).2.1 (q' b z)
 ·exact (r.alive z).1 (fr b e)
theorem zGE {r:R2} {f:D→D→Option SV} (ho:OpE B r f) (ha:FD B ta La ma) (hb:FD B tb Lb mb):FE B (tOp r ta tb) (La++Lb) (m2 f ma mb):=by
 intro S σ H F os Q z rp e k
 obtain ⟨da,db,ea,eb,ef⟩:=zsx e
 refine zzw (R:=r) ha hb rp ea eb fun v w H' F' a r' d1 d2=>?_
 refine ho H' _ v w da db z Q (r'.gd _) d1 d2 ef fun u H2 G2 o a2 va fr=>?_
 obtain ⟨F2,al,r2,va2⟩:=zi9 r' a2 va fr
 refine k u H2 F2 o (a.trans al) r2 va2 fun b e=>?_
 cases q:H b with
 | none=>rfl
 | some w=>have:=fr b e; rw [a.same b w q] at this; cases this
def UnD (B:Bk) (r:V→Hp→VK→Prop) (f:D→Option D):Prop:=∀ (H:Hp) (G:Addr→Prop) (x:V) (dx z:D) (Q:VK),DA B H G x dx→f dx=some z→(∀ v H' G',Al H G H' G'→DA B H' G' v z→Q v H')→r x H Q
theorem zIZ {r:V→Hp→VK→Prop} {f:D→Option D} (ho:UnD B r f) (ha:FD B ta L ma):FD B (tUn r ta) L (m1 f ma):=by
 intro S σ H F os Q z rp e k
 obtain ⟨da,ea,ef⟩:=zcZ e
 refine ha S σ H F os _ da rp ea fun v H' F' a r' d1=>ho H' _ v da z Q d1 ef fun u H2 G2 a2 dz=>?_
 obtain ⟨F2,al,r2,q,_⟩:=r'.split a2
 exact k u H2 F2 (a.trans al) r2 (dz.mono (fun _ _ _ e=>e) q)
theorem zGF (h:FD B ta L ma):FT B (zF4 ta) (zaj ma):=by
 intro S σ H F os Q c rp e k
 obtain ⟨d,ed,ef⟩:=zcZ e
 refine h S σ H F os _ d rp ed fun v H' F' a r' d1=>?_
 cases d with
 | bl b=>cases ef; cases d1; exact ⟨_,rfl,k H' F' a r'⟩
 | _=>cases ef
theorem zGG (h:FD B ta L ma):FT B (tB ta) (zaj ma):=zGF h
theorem zGH (h1:FT B t mt) (h2:FT B u mu):FT B (zJ9 t u) (zx1 mt mu):=by
 intro S σ H F os Q c rp e k
 obtain ⟨b,eb,ef⟩:=zcZ e
 refine h1 S σ H F os _ b rp eb fun H' F' a r'=>?_
 cases b with
 | true=>rw [if_pos rfl] at ef ⊢; exact h2 S σ H' F' os Q c r' ef fun H2 F2 a2 r2=>k H2 F2 (a.trans a2) r2
 | false=>rw [if_neg Bool.false_ne_true] at ef ⊢; cases ef; exact k H' F' a r'
theorem zI0 (h1:FT B t mt) (h2:FT B u mu):FT B (tOr t u) (mOr mt mu):=by
 intro S σ H F os Q c rp e k
 obtain ⟨b,eb,ef⟩:=zcZ e
 refine h1 S σ H F os _ b rp eb fun H' F' a r'=>?_
 cases b with
 | true=>rw [if_pos rfl] at ef ⊢; cases ef; exact k H' F' a r'
 | false=>rw [if_neg Bool.false_ne_true] at ef ⊢; exact h2 S σ H' F' os Q c r' ef fun H2 F2 a2 r2=>k H2 F2 (a.trans a2) r2
theorem zGI (h1:FT B t mt):FT B (zKa t) (zo6 mt):=by
 intro S σ H F os Q c rp e k
 unfold zo6 at e
 cases q:mt S with
 | none=>rw [q] at e; cases e
 | some b=>rw [q] at e; cases e; exact h1 S σ H F os _ b rp q fun H' F' a r'=>k H' F' a r'
theorem zEc (ha:FD B ta La ma) (hb:FD B tb Lb mb):FD B (zFL ta tb) (La++Lb) (zuu (zaj ma) mb (mC (.bl false))):=by
 intro S σ H F os Q z rp e k
 obtain ⟨c,ec,ef⟩:=zcZ e
 obtain ⟨d,ed,ec⟩:=zcZ ec
 refine ha S σ H F os _ d rp ed fun v H' F' a r' d1=>?_
 cases d with
 | bl b=>
  cases ec; cases d1
  refine ⟨_,rfl,?_⟩
  cases c with
  | true=>rw [if_pos rfl] at ef ⊢; exact hb S σ H' F' os Q z r' ef fun v H2 F2 a2 r2 d2=>k v H2 F2 (a.trans a2) r2 (d2.later Al.refl fun i h=>List.mem_append_right _ h)
  | false=>rw [if_neg Bool.false_ne_true] at ef ⊢; cases ef; exact k _ H' F' a r' (.bl false)
 | _=>cases ec
theorem zGJ (ha:FD B ta La ma) (hb:FD B tb Lb mb):FD B (zKb ta tb) (La++Lb) (zuu (zaj ma) (mC (.bl true)) mb):=by
 intro S σ H F os Q z rp e k
 obtain ⟨c,ec,ef⟩:=zcZ e
 obtain ⟨d,ed,ec⟩:=zcZ ec
 refine ha S σ H F os _ d rp ed fun v H' F' a r' d1=>?_
 cases d with
 | bl b=>
  cases ec; cases d1
  refine ⟨_,rfl,?_⟩
  cases c with
  | false=>rw [if_neg Bool.false_ne_true] at ef ⊢; exact hb S σ H' F' os Q z r' ef fun v H2 F2 a2 r2 d2=>k v H2 F2 (a.trans a2) r2 (d2.later Al.refl fun i h=>List.mem_append_right _ h)
  | true=>rw [if_pos rfl] at ef ⊢; cases ef; exact k _ H' F' a r' (.bl true)
 | _=>cases ec
theorem zEd (ha:FD B ta La ma):FD B (zFM ta) La (mBl (zo6 (zaj ma))):=by
 intro S σ H F os Q z rp e k
 unfold mBl zo6 zaj at e
 cases q:ma S with
 | none=>rw [q] at e; cases e
 | some d=>
  rw [q] at e
  refine ha S σ H F os _ d rp q fun v H' F' a r' d1=>?_
  cases d with
  | bl b=>cases e; cases d1; exact ⟨_,rfl,k _ H' F' a r' (.bl _)⟩
  | _=>cases e
theorem zCP:FA B zFq [] zak:=by
 intro S σ H F os Q ds rp e k
 cases e
 exact k [] H F Al.refl rp .nil
theorem DAs.later {H H':Hp} {F F':Addr→Prop} {os:Nat→List Addr} {L L':List Nat} {v:List V} {d:List D} (h:DAs B H (orF F (osL os L)) v d) (a:Al H F H' F') (hl:∀ i,i∈L→i∈L'):DAs B H' (orF F' (osL os L')) v d:=
 h.mono (fun b o _ e=>a.same b o e) (zm9 a.up hl)
theorem zEe (ha:FD B ta La ma) (hr:FA B tr Lb mr):FA B (zyX ta tr) (La++Lb) (zac ma mr):=by
 intro S σ H F os Q ds rp e k
 obtain ⟨d,es,ed,ee,ef⟩:=zsx e
 cases ef
 refine ha S σ H F os _ d rp ed fun v H1 F1 a1 r1 d1=>hr S σ H1 F1 os _ es r1 ee fun vs H2 F2 a2 r2 d2=>?_
 exact k (v :: vs) H2 F2 (a1.trans a2) r2 (.cons (d1.later a2 fun i h=>List.mem_append_left _ h) (d2.later Al.refl fun i h=>List.mem_append_right _ h))
theorem zsy {H:Hp} {p:Addr} {u:HO} (h:H p=none):zIU H (upd H p u):=fun b o e=>by rw [zbJ (zcQ e h)]; exact e
theorem zmi {H:Hp} {F:Addr→Prop} {p:Addr} {u:HO} (h:H p=none):Al H F (upd H p u) F:=⟨zsy h,fun _ q=>q,fun _ q=>.inl q⟩
theorem zuv {H:Hp} {F:Addr→Prop} {p:Addr} {u:HO} (h:H p=none):Al H F (upd H p u) (fun b=>F b∨b=p):=by
 refine ⟨zsy h,fun _ q=>.inl q,fun b q=>?_⟩
 rcases q with q | rfl
 ·exact .inl q
 ·exact .inr (.inl ⟨h,by rw [zbI]; simp⟩)
@[simp] def zgv (m:FSt→Option (List D)):FSt→Option SV:=fun S=>(m S).bind fun ds=>if ds.length≤sizeLine then some (.li ds) else none
@[simp] def zel (m:FSt→Option (List D)):FSt→Option D:=fun S=>(m S).bind fun ds=>if ds.length≤sizeLine then some (.tup ds) else none
theorem zGK (hr:FA B tr L mr):FE B (zKh tr) L (zgv mr):=by
 intro S σ H F os Q x rp e k
 obtain ⟨ds,ed,ef⟩:=zcZ e
 by_cases hl:ds.length≤sizeLine
 ·rw [if_pos hl] at ef; cases ef
  refine hr S σ H F os _ ds rp ed fun vs H1 F1 a1 r1 d1=>⟨by rw [d1.length]; exact hl,fun p hp=>?_⟩
  have al:=zmi (F:=F1) (u:=.lst vs) hp
  refine k (.ref p) _ F1 [p] (a1.trans al) (r1.mono al) ⟨p,vs,rfl,rfl,fun q=>?_,zbI,d1.mono (fun b o _ e=>al.same b o e) fun _ h=>h⟩ fun a e=>?_
  ·exact r1.gd L p q hp
  ·obtain rfl:=List.mem_singleton.mp e
   cases q:H a with
   | none=>rfl
   | some w=>have:=a1.same a w q; rw [hp] at this; cases this
 ·rw [if_neg hl] at ef; cases ef
theorem zGL (hr:FA B tr L mr):FD B (zKg tr) L (zel mr):=by
 intro S σ H F os Q x rp e k
 obtain ⟨ds,ed,ef⟩:=zcZ e
 by_cases hl:ds.length≤sizeLine
 ·rw [if_pos hl] at ef; cases ef
  refine hr S σ H F os _ ds rp ed fun vs H1 F1 a1 r1 d1=>⟨by rw [d1.length]; exact hl,fun p hp=>?_⟩
  have al:=zuv (F:=F1) (u:=.tup vs) hp
  refine k (.ref p) _ _ (a1.trans al) (r1.mono al) (.tup ⟨.inl (.inr rfl),zbI⟩ (d1.mono (fun b o _ e=>al.same b o e) fun b h=>?_))
  rcases h with h | h
  ·exact .inl (.inl h)
  ·exact .inr h
 ·rw [if_neg hl] at ef; cases ef
def zna (B:Bk) (r:List V→Hp→VK→Prop) (f:List D→Option SV):Prop:=∀ (H:Hp) (G:Addr→Prop) (vs:List V) (ds:List D) (z:SV) (Q:VK),(∀ b,G b→H b≠none)→DAs B H G vs ds→f ds=some z→
 (∀ v H' G' o,Al H G H' G'→VA B H' G' v z o→(∀ a,a∈o→H a=none)→Q v H')→r vs H Q
theorem zxj {r:List V→Hp→VK→Prop} {f:List D→Option SV} {tx:TE} (htx:∀ σ H Q,(tr σ H fun vs H1=>r vs H1 Q)→tx σ H Q) (ho:zna B r f) (hr:FA B tr L mr):FE B tx L (m1 f mr):=by
 intro S σ H F os Q z rp e k
 obtain ⟨ds,ed,ef⟩:=zcZ e
 refine htx σ H Q (hr S σ H F os _ ds rp ed fun vs H1 F1 a1 r1 d1=>ho H1 _ vs ds z Q (r1.gd _) d1 ef fun u H2 G2 o a2 va fr=>?_)
 obtain ⟨F2,al,r2,va2⟩:=zi9 r1 a2 va fr
 refine k u H2 F2 o (a1.trans al) r2 va2 fun b e=>?_
 cases q:H b with
 | none=>rfl
 | some w=>have:=fr b e; rw [a1.same b w q] at this; cases this
theorem zGM {r:List V→Hp→VK→Prop} {f:List D→Option SV} (ho:zna B r f) (hr:FA B tr L mr):FE B (tCB r tr) L (m1 f mr):=zxj (fun _ _ _ h=>h) ho hr
def SpF (B:Bk) (n:Nat) (f:List D→Option SV):Sp:=fun vs H Q _=>vs.length=n∧∃ (G:Addr→Prop) (ds:List D) (z:SV),(∀ b,G b→H b≠none)∧DAs B H G vs ds∧f ds=some z∧
 ∀ v H' G' o,Al H G H' G'→VA B H' G' v z o→(∀ a,a∈o→H a=none)→Q v H'
theorem zEf {n:Nat} {f:List D→Option SV} {E:XK} (hf:∀ ds z,f ds=some z→ds.length=n) (hr:FA B tr L mr):FE B (zGa (SpF B n f) [] E tr) L (m1 f mr):=by
 refine zxj (r:=fun vs H Q=>SpF B n f (vs++[]) H Q E) (fun _ _ _ h=>h) ?_ hr
 intro H G vs ds z Q hg hd hz k
 rw [List.append_nil]
 exact ⟨by rw [hd.length]; exact hf _ _ hz,G,ds,z,hg,hd,hz,k⟩
@[simp] def zaC (c:Nat) (mn:Str) (f:List D→Option SV) (a:FSt→Option D) (r:FSt→Option (List D)):FSt→Option SV:=fun S=>(a S).bind fun x=>(r S).bind fun ds=>match x with
 | .ins k fs=>if k=c then (if (fs.lookup mn).isNone then f (.ins k fs :: ds) else none) else none
 | _=>none
theorem zrQ {fs:List (Str×V)} {ds:List (Str×D)} {H:Hp} {G:Addr→Prop} (e:fs.map (·.1)=ds.map (·.1)) (r:DAs B H G (fs.map (·.2)) (ds.map (·.2))) (f:Str) :
  (∀ d,ds.lookup f=some d→∃ v,fs.lookup f=some v∧DA B H G v d)∧(ds.lookup f=none→fs.lookup f=none):=by
 induction fs generalizing ds with
 | nil=>cases ds with
  | nil=>simp [List.lookup]
  | cons d ds=>simp at e
 | cons p fs ih=>cases ds with
  | nil=>simp at e
  | cons q ds=>
   obtain ⟨p1,p2⟩:=p
   obtain ⟨q1,q2⟩:=q
   simp only [List.map_cons,List.cons.injEq] at e
   simp only [List.map_cons] at r
   cases r with
   | cons h r=>
    obtain ⟨e1,e2⟩:=e
    subst e1
    have:=ih e2 r
    by_cases hq:(f==p1)=true
    ·simp only [List.lookup,hq]
     exact ⟨fun d z=>by cases z; exact ⟨p2,rfl,h⟩,fun z=>by cases z⟩
    ·have hq':(f==p1)=false:=by simpa using hq
     simp only [List.lookup,hq']
     exact this
theorem zzy {c n:Nat} {mn:Str} {f:List D→Option SV} {E:XK} {C:Addr} (hC:B.cl c=C) (hf:∀ ds z,f ds=some z→ds.length=n) (ha:FD B ta La ma) (hr:FA B tr Lb mr):FE B (zDz C mn (SpF B n f) [] E ta tr) (La++Lb) (zaC c mn f ma mr):=by
 subst hC
 intro S σ H F os Q z rp e k
 obtain ⟨d,ds,ed,er,ef⟩:=zsx e
 cases d with
 | ins kc fs=>
  by_cases hk:kc=c
  ·subst hk
   simp only [if_pos rfl] at ef
   cases hl:fs.lookup mn with
   | some _=>rw [hl] at ef; cases ef
   | none=>
    rw [hl] at ef
    have ef:f (.ins kc fs :: ds)=some z:=ef
    refine ha S σ H F os _ _ rp ed fun v H1 F1 a1 r1 d1=>?_
    cases d1 with
    | @ins a dx c' vs ds' fa hh he rr=>
     refine ⟨a,dx,vs,rfl,hh,(zrQ he rr mn).2 hl,hr S σ H1 F1 os _ ds r1 er fun ws H2 F2 a2 r2 d2=>?_⟩
     have da:DA B H1 (orF F1 (osL os La)) (.ref a) (.ins kc fs):=.ins fa hh he rr
     have das:DAs B H2 (orF F2 (osL os (La++Lb))) (.ref a :: (ws++[])) (.ins kc fs :: ds):=by
      rw [List.append_nil]
      exact .cons (da.later a2 fun i h=>List.mem_append_left _ h) (d2.later Al.refl fun i h=>List.mem_append_right _ h)
     refine ⟨by rw [das.length]; exact hf _ _ ef,_,_,z,r2.gd _,das,ef,fun u H3 G3 o a3 va fr=>?_⟩
     obtain ⟨F3,al,r3,va2⟩:=zi9 r2 a3 va fr
     refine k u H3 F3 o ((a1.trans a2).trans al) r3 va2 fun b e=>?_
     cases q:H b with
     | none=>rfl
     | some w=>have:=fr b e; rw [(a1.trans a2).same b w q] at this; cases this
  ·simp only [if_neg hk] at ef; cases ef
 | _=>cases ef
theorem FE.or {me me':FSt→Option SV} {La Lb:List Nat} (h:FE B ta La me) (h':FE B tb Lb me'):FE B (fun σ H Q=>ta σ H Q∨tb σ H Q) (La++Lb) (zdS me me'):=by
 intro S σ H F os Q z rp e k
 have lift:∀ {L:List Nat},(∀ i,i∈L→i∈La++Lb)→∀ v H2 F2 o,Al H F H2 F2→Rep B H2 F2 σ S os→VA B H2 (orF F2 (osL os L)) v z o→(∀ a,a∈o→H a=none)→Q v H2:=fun hl v H2 F2 o a2 r2 va fr=>by
  refine k v H2 F2 o a2 r2 (va.sub (zm9 (fun _ h=>h) hl) fun b e q=>?_) fr
  rcases q with q | ⟨i,_,q⟩
  ·exact (va.alive e).2.1 (.inl q)
  ·exact (rp.alive q).1 (fr b e)
 unfold zdS at e
 cases q:me S with
 | some w=>simp only [q,Option.orElse] at e; cases e; exact .inl (h S σ H F os Q _ rp q (lift fun i h=>List.mem_append_left _ h))
 | none=>simp only [q,Option.orElse] at e; exact .inr (h' S σ H F os Q z rp e (lift fun i h=>List.mem_append_right _ h))
@[simp] def zcV (cs:List Nat) (f:Str):D→Option D
 | .ins c fs=>if c∈cs then fs.lookup f else none
 | _=>none
end
end L2
namespace L2
open PySem PySem.Spec PyProof.Rows
mutual
@[simp] def D.plain:D→Bool
 | .tup xs=>D.plains xs
 | .kt xs=>D.plains xs
 | .fz _=>false
 | .lst _=>false
 | .dK _=>false
 | .dT _=>false
 | .ins _ _=>false
 | _=>true
@[simp] def D.plains:List D→Bool
 | []=>true
 | d :: r=>d.plain&&D.plains r
end
@[simp] def SV.plain:SV→Bool
 | .sh d=>d.plain
 | .li xs=>D.plains xs
 | .lk _=>false
 | .ll xss=>xss.all D.plains
 | .dK kvs=>D.plains (kvs.map (·.2))
 | .dT kvs=>D.plains (kvs.map (·.2))
 | .ob _ fs=>D.plains (fs.map (·.2))
section
variable {B:Bk} {H H':Hp} {F F':Addr→Prop} {σ:St} {S:FSt} {os:Nat→List Addr} {L:List Nat}
mutual
theorem DA.toF (r:Rep B H F σ S os):∀ {v:V} {d:D},DA B H (orF F (osL os L)) v d→d.plain=true→DA B H F v d
 | _,_,.non,_=>.non
 | _,_,.bl b,_=>.bl b
 | _,_,.int i,_=>.int i
 | _,_,.str x,_=>.str x
 | _,_,.ty n,_=>.ty n
 | _,_,.adr a,_=>.adr a
 | _,_,.cls c,_=>.cls c
 | _,_,.tup h q,p=>by
  refine .tup ?_ (DAs.toF r q (by simpa [D.plain] using p))
  obtain ⟨h | ⟨i,_,e⟩,h'⟩:=h
  ·exact ⟨h,h'⟩
  ·obtain ⟨x,v,_,_,va⟩:=r.own e
   exact absurd h' ((va.alive e).2.2 _)
 | _,_,.kt h q,p=>.kt h (DAs.toF r q (by simpa [D.plain] using p))
 | _,_,.fz _ _,p=>by simp [D.plain] at p
 | _,_,.lst _ _,p=>by simp [D.plain] at p
 | _,_,.dK _ _ _ _,p=>by simp [D.plain] at p
 | _,_,.dT _ _ _ _,p=>by simp [D.plain] at p
 | _,_,.ins _ _ _ _,p=>by simp [D.plain] at p
theorem DAs.toF (r:Rep B H F σ S os):∀ {vs:List V} {ds:List D},DAs B H (orF F (osL os L)) vs ds→D.plains ds=true→DAs B H F vs ds
 | _,_,.nil,_=>.nil
 | _,_,.cons h q,p=>by
  simp only [D.plains,Bool.and_eq_true] at p
  exact .cons (DA.toF r h p.1) (DAs.toF r q p.2)
end
theorem VA.toF (r:Rep B H F σ S os) {v:V} {x:SV} {o:List Addr} (h:VA B H (orF F (osL os L)) v x o) (p:x.plain=true):VA B H F v x o:=by
 cases x with
 | sh d=>exact ⟨h.1,h.2.toF r p⟩
 | li ds=>obtain ⟨a,xs,e,eo,nf,hh,q⟩:=h; exact ⟨a,xs,e,eo,fun z=>nf (.inl z),hh,q.toF r p⟩
 | lk ds=>cases p
 | ll ds=>
  obtain ⟨a,as,e,eo,nd,nf,hh,q⟩:=h
  refine ⟨a,as,e,eo,nd,fun b hb z=>nf b hb (.inl z),hh,?_⟩
  clear nd nf hh e eo
  induction q with
  | nil=>exact .nil
  | cons h q _ ih=>
   simp only [SV.plain,List.all_cons,Bool.and_eq_true] at p
   exact .cons h (q.toF r p.1) (ih p.2)
 | dK ds=>obtain ⟨a,xs,e,eo,nf,hh,e2,q⟩:=h; exact ⟨a,xs,e,eo,fun z=>nf (.inl z),hh,e2,q.toF r p⟩
 | dT ds=>obtain ⟨a,xs,e,eo,nf,hh,e2,q⟩:=h; exact ⟨a,xs,e,eo,fun z=>nf (.inl z),hh,e2,q.toF r p⟩
 | ob c ds=>obtain ⟨a,dx,xs,e,eo,nf,hh,e2,q⟩:=h; exact ⟨a,dx,xs,e,eo,fun z=>nf (.inl z),hh,e2,q.toF r p⟩
end
@[simp] def zFs (S:FSt) (i:Nat):FSt:=match S[i]? with
 | some (some (.sh _))=>S
 | some (some x)=>S.set i (some (.sh x.fr))
 | _=>S
@[simp] def frzs:List Nat→FSt→FSt
 | [],S=>S
 | i :: L,S=>frzs L (zFs S i)
theorem zBS (S:FSt) (i j:Nat):(zFs S i)[j]? = if j=i then (S[j]?).map (Option.map fun x=>.sh x.fr) else S[j]?:=by
 unfold zFs
 split
 ·rename_i d e
  by_cases h:j=i
  ·subst h; rw [if_pos rfl,e]; rfl
  ·rw [if_neg h]
 ·rename_i x _ e
  by_cases h:j=i
  ·subst h
   rw [if_pos rfl,e]
   have:j < S.length:=(List.getElem?_eq_some_iff.mp e).1
   simp [List.getElem?_set,this]
  ·rw [if_neg h]
   simp [List.getElem?_set,Ne.symm h]
 ·rename_i h1 h2
  by_cases h:j=i
  ·subst h
   rw [if_pos rfl]
   cases q:S[j]? with
   | none=>rfl
   | some z=>cases z with
    | none=>rfl
    | some x=>exact absurd q (h2 x)
  ·rw [if_neg h]
theorem zdH:∀ (L:List Nat) (S:FSt) (j:Nat),(frzs L S)[j]? = if j∈L then (S[j]?).map (Option.map fun x=>.sh x.fr) else S[j]?
 | [],S,j=>by simp [frzs]
 | i :: L,S,j=>by
  rw [frzs,zdH L,zBS]
  by_cases h:j=i
  ·subst h
   simp only [if_pos rfl,List.mem_cons,true_or,if_true]
   split
   ·cases S[j]? with
    | none=>rfl
    | some z=>cases z <;> rfl
   ·rfl
  ·simp [h]
theorem zBT (S:FSt) (i:Nat):(zFs S i).length=S.length:=by
 unfold zFs
 split <;> simp
theorem zsz:∀ (L:List Nat) (S:FSt),(frzs L S).length=S.length
 | [],_=>rfl
 | i :: L,S=>by rw [frzs,zsz L,zBT]
def lkO:Option SV→Bool
 | some (.lk _)=>true
 | some (.ob _ _)=>true
 | _=>false
@[simp] def zk9 (S:FSt) (i:Nat):Bool:=lkO (S[i]?.join)
@[simp] theorem zIh:lkO none=false:=rfl
@[simp] theorem zKz (d:D):lkO (some (.sh d))=false:=rfl
@[simp] theorem zKA (d:List D):lkO (some (.li d))=false:=rfl
@[simp] theorem zKB (d:List (List D)):lkO (some (.ll d))=false:=rfl
@[simp] theorem zKC (d:List (Key×D)):lkO (some (.dK d))=false:=rfl
@[simp] theorem zKD (d:List (List Key×D)):lkO (some (.dT d))=false:=rfl
@[simp] theorem zKE (d:List D):lkO (some (.lk d))=true:=rfl
@[simp] theorem zKF (c:Nat) (d:List (Str×D)):lkO (some (.ob c d))=true:=rfl
@[simp] theorem zEg (x:Option D):lkO (x.map SV.sh)=false:=by cases x <;> rfl
section
variable {B:Bk} {H H':Hp} {F F':Addr→Prop} {σ:St} {S:FSt} {os:Nat→List Addr} {L:List Nat}
theorem Rep.frz (r:Rep B H F σ S os) (L:List Nat):Rep B H (orF F (osL os L)) σ (frzs L S) (fun j=>if j∈L then [] else os j):=by
 refine ⟨fun i x h=>?_,fun i h=>?_,fun i j a e1 e2=>?_,r.gd L,by rw [zsz]; exact r.len⟩
 ·rw [zdH] at h
  by_cases q:i∈L
  ·rw [if_pos q] at h
   rw [if_pos q]
   cases e:S[i]? with
   | none=>rw [e] at h; cases h
   | some z=>cases z with
    | none=>rw [e] at h; cases h
    | some y=>
     rw [e] at h; cases h
     obtain ⟨v,h1,h2⟩:=r.at' i y e
     exact ⟨v,h1,rfl,h2.frozen (fun b z=>.inl z) fun b z=>.inr ⟨i,q,z⟩⟩
  ·rw [if_neg q] at h
   rw [if_neg q]
   obtain ⟨v,h1,h2⟩:=r.at' i x h
   refine ⟨v,h1,h2.sub (fun b z=>.inl z) fun b e z=>?_⟩
   rcases z with z | ⟨j,hj,z⟩
   ·exact (r.alive e).2 z
   ·exact q (r.inj i j b e z▸hj)
 ·show (if i∈L then [] else os i)=[]
  by_cases q:i∈L
  ·rw [if_pos q]
  ·rw [if_neg q]
   refine r.out i fun x e=>h x ?_
   rw [zdH,if_neg q]; exact e
 ·have e1:a∈(if i∈L then [] else os i):=e1
  have e2:a∈(if j∈L then [] else os j):=e2
  split at e1
  ·simp at e1
  ·split at e2
   ·simp at e2
   ·exact r.inj i j a e1 e2
theorem Rep.set (r:Rep B H F σ S os) {i:Nat} {v:V} {x:SV} {o:List Addr} (va:VA B H F v x o) (no:∀ b,b∈o→∀ j,j≠i→b∉os j) (hi:i < S.length) :
  Rep B H F (σ.set i (some v)) (S.set i (some x)) (fun j=>if j=i then o else os j):=by
 refine ⟨fun j y h=>?_,fun j h=>?_,fun j k a e1 e2=>?_,r.fd,by simp [r.len]⟩
 ·by_cases q:j=i
  ·subst q
   simp only [List.getElem?_set,if_pos rfl,hi,if_true] at h
   cases h
   have hs:j < σ.length:=by rw [r.len]; exact hi
   exact ⟨v,by simp [List.getElem?_set,hs],by rw [if_pos rfl]; exact va⟩
  ·simp only [List.getElem?_set,if_neg (Ne.symm q)] at h
   obtain ⟨w,h1,h2⟩:=r.at' j y h
   exact ⟨w,by simp only [List.getElem?_set,if_neg (Ne.symm q)]; exact h1,by rw [if_neg q]; exact h2⟩
 ·by_cases q:j=i
  ·subst q
   exact absurd (by simp [List.getElem?_set,hi]) (h x)
  ·show (if j=i then o else os j)=[]
   rw [if_neg q]
   refine r.out j fun y e=>h y ?_
   simp only [List.getElem?_set,if_neg (Ne.symm q)]; exact e
 ·have e1:a∈(if j=i then o else os j):=e1
  have e2:a∈(if k=i then o else os k):=e2
  by_cases q1:j=i
  ·by_cases q2:k=i
   ·rw [q1,q2]
   ·rw [if_pos q1] at e1; rw [if_neg q2] at e2; exact absurd e2 (no a e1 k q2)
  ·by_cases q2:k=i
   ·rw [if_neg q1] at e1; rw [if_pos q2] at e2; exact absurd e1 (no a e2 j q1)
   ·rw [if_neg q1] at e1; rw [if_neg q2] at e2; exact r.inj j k a e1 e2
end
inductive Fl where
 | nx (S:FSt) | rt (x:SV) | bk (S:FSt) | ct (S:FSt) | bad
structure FStep (σ:St) (S:FSt) (H:Hp) (F:Addr→Prop) (os:Nat→List Addr) (σ':St) (S':FSt) (H':Hp) (F':Addr→Prop) (os':Nat→List Addr):Prop where
 keep:∀ b o,H b=some o→(∀ i,b∉os i)→H' b=some o
 liv:∀ b,H b≠none→H' b≠none
 up:∀ b,F b→F' b
 new:∀ b,F' b→F b∨H b=none∨(∃ i,b∈os i)∨isT H b
 own:∀ i b,b∈os' i→H b=none∨∃ j,b∈os j
 lok:∀ (i:Nat) (xs:List D),S[i]? = some (some (SV.lk xs))→S'[i]? = some (some (SV.lk xs))∧σ'[i]? = σ[i]?
 lob:∀ (i c:Nat) (fs:List (Str×D)),S[i]? = some (some (SV.ob c fs))→(∃ fs',S'[i]? = some (some (SV.ob c fs')))∧σ'[i]? = σ[i]?
structure FStepR (H:Hp) (F:Addr→Prop) (os:Nat→List Addr) (H':Hp) (F':Addr→Prop) (o:List Addr):Prop where
 keep:∀ b u,H b=some u→(∀ i,b∉os i)→H' b=some u
 up:∀ b,F b→F' b
 new:∀ b,F' b→F b∨H b=none∨(∃ i,b∈os i)∨isT H b
 own:∀ b,b∈o→H b=none∨∃ j,b∈os j
 fd:∀ b,F' b→H' b≠none
section
variable {σ σ1 σ2:St} {S S1 S2:FSt} {H H1 H2:Hp} {F F1 F2:Addr→Prop} {os os1 os2:Nat→List Addr} {o:List Addr}
theorem FStep.refl:FStep σ S H F os σ S H F os:=⟨fun _ _ h _=>h,fun _ h=>h,fun _ h=>h,fun _ h=>.inl h,fun i b h=>.inr ⟨i,h⟩,fun i xs h=>⟨h,rfl⟩,fun i c fs h=>⟨⟨fs,h⟩,rfl⟩⟩
theorem FStep.outside (a:FStep σ S H F os σ1 S1 H1 F1 os1) {b:Addr} {u:HO} (h:H b=some u) (n:∀ i,b∉os i):∀ i,b∉os1 i:=fun i e=>by
 rcases a.own i b e with q | ⟨j,q⟩
 ·rw [q] at h; cases h
 ·exact n j q
theorem zmj {b:Addr} (l:∀ b,H b≠none→H1 b≠none) (h:H1 b=none):H b=none:=by
 cases e:H b with
 | none=>rfl
 | some u=>exact absurd h (l b (by rw [e]; simp))
theorem FStep.trans (a:FStep σ S H F os σ1 S1 H1 F1 os1) (c:FStep σ1 S1 H1 F1 os1 σ2 S2 H2 F2 os2):FStep σ S H F os σ2 S2 H2 F2 os2:=by
 refine ⟨fun b u h n=>c.keep b u (a.keep b u h n) (a.outside h n),fun b h=>c.liv b (a.liv b h),fun b h=>c.up b (a.up b h),fun b h=>?_,fun i b h=>?_,fun i xs h=>?_,fun i k fs h=>?_⟩
 ·rcases c.new b h with q | q | ⟨i,q⟩ | ⟨ys,q⟩
  ·exact a.new b q
  ·exact .inr (.inl (zmj a.liv q))
  ·rcases a.own i b q with q | q
   ·exact .inr (.inl q)
   ·exact .inr (.inr (.inl q))
  ·cases e:H b with
   | none=>exact .inr (.inl rfl)
   | some u=>
    by_cases z:∃ i,b∈os i
    ·exact .inr (.inr (.inl z))
    ·have:=a.keep b u e fun i hi=>z ⟨i,hi⟩
     rw [q] at this; cases this
     exact .inr (.inr (.inr ⟨ys,e⟩))
 ·rcases c.own i b h with q | ⟨j,q⟩
  ·exact .inl (zmj a.liv q)
  ·exact a.own j b q
 ·obtain ⟨h1,h2⟩:=a.lok i xs h
  obtain ⟨h3,h4⟩:=c.lok i xs h1
  exact ⟨h3,h4.trans h2⟩
 ·obtain ⟨⟨fs1,h1⟩,h2⟩:=a.lob i k fs h
  obtain ⟨h3,h4⟩:=c.lob i k fs1 h1
  exact ⟨h3,h4.trans h2⟩
theorem FStep.transR (a:FStep σ S H F os σ1 S1 H1 F1 os1) (c:FStepR H1 F1 os1 H2 F2 o):FStepR H F os H2 F2 o:=by
 refine ⟨fun b u h n=>c.keep b u (a.keep b u h n) (a.outside h n),fun b h=>c.up b (a.up b h),fun b h=>?_,fun b h=>?_,c.fd⟩
 ·rcases c.new b h with q | q | ⟨i,q⟩ | ⟨ys,q⟩
  ·exact a.new b q
  ·exact .inr (.inl (zmj a.liv q))
  ·rcases a.own i b q with q | q
   ·exact .inr (.inl q)
   ·exact .inr (.inr (.inl q))
  ·cases e:H b with
   | none=>exact .inr (.inl rfl)
   | some u=>
    by_cases z:∃ i,b∈os i
    ·exact .inr (.inr (.inl z))
    ·have:=a.keep b u e fun i hi=>z ⟨i,hi⟩
     rw [q] at this; cases this
     exact .inr (.inr (.inr ⟨ys,e⟩))
 ·rcases c.own b h with q | ⟨j,q⟩
  ·exact .inl (zmj a.liv q)
  ·exact a.own j b q
theorem Al.step (a:Al H F H1 F1):FStep σ S H F os σ S H1 F1 os:=by
 refine ⟨fun b u h _=>a.same b u h,fun b h=>?_,a.up,fun b h=>?_,fun i b h=>.inr ⟨i,h⟩,fun i xs h=>⟨h,rfl⟩,fun i c fs h=>⟨⟨fs,h⟩,rfl⟩⟩
 ·cases e:H b with
  | none=>exact absurd e h
  | some u=>rw [a.same b u e]; simp
 ·rcases a.new b h with q | q | q
  ·exact .inl q
  ·exact .inr (.inl q.1)
  ·exact .inr (.inr (.inr q))
end
def Lands (B:Bk) (σ:St) (S:FSt) (H:Hp) (F:Addr→Prop) (os:Nat→List Addr) (D:Ends):Fl→Prop
 | .nx S'=>∀ σ' H' F' os',FStep σ S H F os σ' S' H' F' os'→Rep B H' F' σ' S' os'→D.nx σ' H'
 | .bk S'=>∀ σ' H' F' os',FStep σ S H F os σ' S' H' F' os'→Rep B H' F' σ' S' os'→D.bk σ' H'
 | .ct S'=>∀ σ' H' F' os',FStep σ S H F os σ' S' H' F' os'→Rep B H' F' σ' S' os'→D.ct σ' H'
 | .rt x=>∀ v H' F' o,FStepR H F os H' F' o→VA B H' F' v x o→D.rt v H'
 | .bad=>False
def FS (B:Bk) (t:TS) (m:FSt→Fl):Prop:=
 ∀ (S:FSt) (σ:St) (H:Hp) (F:Addr→Prop) (os:Nat→List Addr) (D:Ends),Rep B H F σ S os→Lands B σ S H F os D (m S)→t D σ H
section
variable {B:Bk} {σ σ1:St} {S S1:FSt} {H H1:Hp} {F F1:Addr→Prop} {os os1:Nat→List Addr} {E:Ends}
theorem Lands.later {r:Fl} (h:Lands B σ S H F os E r) (a:FStep σ S H F os σ1 S1 H1 F1 os1):Lands B σ1 S1 H1 F1 os1 E r:=by
 cases r with
 | nx S'=>exact fun σ' H' F' os' st=>h σ' H' F' os' (a.trans st)
 | bk S'=>exact fun σ' H' F' os' st=>h σ' H' F' os' (a.trans st)
 | ct S'=>exact fun σ' H' F' os' st=>h σ' H' F' os' (a.trans st)
 | rt x=>exact fun v H' F' o st=>h v H' F' o (a.transR st)
 | bad=>exact h
end
@[simp] def zaS (a b:FSt→Fl):FSt→Fl:=fun S=>match a S with
 | .nx S1=>b S1
 | r=>r
@[simp] def za7:FSt→Fl:=fun S=>.nx S
@[simp] def put (i:Nat) (L:List Nat) (x:SV) (S:FSt):Fl:=
 if i < S.length∧zk9 S i=false∧(x.plain=true∨L.any (zk9 S)=false) then .nx ((if x.plain=true then S else frzs L S).set i (some x)) else .bad
@[simp] def zcW (i:Nat) (L:List Nat) (m:FSt→Option SV):FSt→Fl:=fun S=>match m S with
 | some x=>put i L x S
 | none=>.bad
@[simp] def zbB (m:FSt→Option SV):FSt→Fl:=fun S=>match m S with
 | some x=>.rt x
 | none=>.bad
@[simp] def SV.un:SV→SV
 | .lk xs=>.li xs
 | x=>x
@[simp] def zuw (i:Nat):FSt→Fl:=fun S=>match S[i]?.join with
 | some x=>.rt x.un
 | none=>.bad
@[simp] def zK8:FSt→Fl:=fun _=>.rt (.sh .non)
@[simp] def mDo (m:FSt→Option SV):FSt→Fl:=fun S=>match m S with
 | some _=>.nx S
 | none=>.bad
@[simp] def mIf (c:FSt→Option Bool) (a b:FSt→Fl):FSt→Fl:=fun S=>match c S with
 | some true=>a S
 | some false=>b S
 | none=>.bad
@[simp] def zxk:FSt→Fl:=fun _=>.bad
@[simp] def zLw:FSt→Fl:=fun S=>.bk S
@[simp] def zLx:FSt→Fl:=fun S=>.ct S
@[simp] def zBU (i:Nat) (L:List Nat) (m:FSt→Option D):FSt→Fl:=fun S=>match m S with
 | some d=>if d.plain=true∨L.any (zk9 S)=false then
   match (if d.plain=true then S else frzs L S)[i]? with
   | some (some (.li xs))=>if xs.length < sizeLine then .nx ((if d.plain=true then S else frzs L S).set i (some (.li (xs++[d])))) else .bad
   | _=>.bad
  else .bad
 | none=>.bad
section
variable {B:Bk} {te:TE} {L:List Nat} {me:FSt→Option SV} {md:FSt→Option D} {t u:TS} {ma mb:FSt→Fl} {tt:TT} {mt:FSt→Option Bool}
theorem zEh:FS B zFQ za7:=fun S σ H F os E r h=>h σ H F os FStep.refl r
theorem zGN (h1:FS B t ma) (h2:FS B u mb):FS B (zKc t u) (zaS ma mb):=by
 intro S σ H F os E r h
 refine h1 S σ H F os _ r ?_
 unfold zaS at h
 cases q:ma S with
 | nx S1=>
  rw [q] at h
  intro σ' H' F' os' st r'
  exact h2 S1 σ' H' F' os' E r' (h.later st)
 | bk S1=>rw [q] at h; exact h
 | ct S1=>rw [q] at h; exact h
 | rt x=>rw [q] at h; exact h
 | bad=>rw [q] at h; exact h
theorem zBV:FS B zCC zxk:=fun _ _ _ _ _ _ _ h=>h
theorem zI1 (hc:FT B tt mt) (h1:FS B t ma) (h2:FS B u mb):FS B (zKd tt t u) (mIf mt ma mb):=by
 intro S σ H F os E r h
 unfold mIf at h
 cases q:mt S with
 | none=>rw [q] at h; exact h.elim
 | some c=>
  rw [q] at h
  refine hc S σ H F os _ c r q fun H' F' a r'=>?_
  cases c with
  | true=>rw [if_pos rfl]; exact h1 S σ H' F' os E r' (h.later a.step)
  | false=>rw [if_neg Bool.false_ne_true]; exact h2 S σ H' F' os E r' (h.later a.step)
theorem zGO (he:FE B te L me):FS B (zIG te) (zbB me):=by
 intro S σ H F os E r h
 unfold zbB at h
 cases q:me S with
 | none=>rw [q] at h; exact h.elim
 | some x=>
  rw [q] at h
  refine he S σ H F os _ x r q fun v H' F' o a r' va fr=>h v H' _ o ⟨fun b u e _=>a.same b u e,fun b z=>.inl (a.up b z),fun b z=>?_,fun b z=>.inl (fr b z),r'.gd L⟩ va
  rcases z with z | ⟨i,_,z⟩
  ·rcases a.new b z with z | z | z
   ·exact .inl z
   ·exact .inr (.inl z.1)
   ·exact .inr (.inr (.inr z))
  ·exact .inr (.inr (.inl ⟨i,z⟩))
theorem zEi (i:Nat):FS B (zIG (zyD i)) (zuw i):=by
 intro S σ H F os E r h
 unfold zuw at h
 cases q:S[i]? with
 | none=>rw [q] at h; exact h.elim
 | some z=>cases z with
  | none=>rw [q] at h; exact h.elim
  | some x=>
   rw [q] at h
   obtain ⟨v,h1,h2⟩:=r.at' i x q
   refine ⟨v,h1,h v H F (os i) ⟨fun b u e _=>e,fun b z=>z,fun b z=>.inl z,fun b z=>.inr ⟨i,z⟩,r.fd⟩ ?_⟩
   cases x <;> exact h2
theorem zI2 (he:FE B te L me):FS B (zxM te) (mDo me):=by
 intro S σ H F os E r h
 unfold mDo at h
 cases q:me S with
 | none=>rw [q] at h; exact h.elim
 | some x=>
  rw [q] at h
  exact he S σ H F os _ x r q fun v H' F' o a r' va fr=>h σ H' F' os a.step r'
theorem zGP {S:FSt} {σ:St} {H H':Hp} {F F':Addr→Prop} {os:Nat→List Addr} {i:Nat} {v:V} {x:SV} {o:List Addr} {E:Ends} (r:Rep B H F σ S os) (h:Lands B σ S H F os E (put i L x S)) (a:Al H F H' F') (r':Rep B H' F' σ S os)
  (va:VA B H' (orF F' (osL os L)) v x o) (fr:∀ b,b∈o→H b=none):E.nx (σ.set i (some v)) H':=by
 unfold put at h
 split at h
 case isFalse=>exact h.elim
 case isTrue c=>
  obtain ⟨hi,hl,hp⟩:=c
  have lokI:∀ (S':FSt),(∀ (j:Nat) (xs:List D),S[j]? = some (some (SV.lk xs))→j≠i→S'[j]? = some (some (SV.lk xs)))→∀ (j:Nat) (xs:List D),S[j]? = some (some (SV.lk xs))→(S'.set i (some x))[j]? = some (some (SV.lk xs))∧(σ.set i (some v))[j]? = σ[j]?:=fun S' hS j xs e=>by
   have hj:j≠i:=by rintro rfl; unfold zk9 at hl; rw [e] at hl; cases hl
   exact ⟨by rw [List.getElem?_set_ne (Ne.symm hj)]; exact hS j xs e hj,by rw [List.getElem?_set_ne (Ne.symm hj)]⟩
  have lobI:∀ (S':FSt),(∀ (j c:Nat) (fs:List (Str×D)),S[j]? = some (some (SV.ob c fs))→j≠i→S'[j]? = some (some (SV.ob c fs)))→∀ (j c:Nat) (fs:List (Str×D)),S[j]? = some (some (SV.ob c fs))→(∃ fs',(S'.set i (some x))[j]? = some (some (SV.ob c fs')))∧(σ.set i (some v))[j]? = σ[j]?:=fun S' hS j c fs e=>by
   have hj:j≠i:=by rintro rfl; unfold zk9 at hl; rw [e] at hl; cases hl
   exact ⟨⟨fs,by rw [List.getElem?_set_ne (Ne.symm hj)]; exact hS j c fs e hj⟩,by rw [List.getElem?_set_ne (Ne.symm hj)]⟩
  by_cases p:x.plain=true
  ·rw [if_pos p] at h
   have va':=va.toF r' p
   have r2:=r'.set (i:=i) va' (fun b e j _ z=>(r.alive z).1 (fr b e)) hi
   refine h _ H' F' _ ⟨fun b u e _=>a.same b u e,a.step (σ:=σ) (S:=S) (os:=os) |>.liv,a.up,a.step (σ:=σ) (S:=S) (os:=os) |>.new,fun j b e=>?_,lokI S fun j xs e _=>e,lobI S fun j c fs e _=>e⟩ r2
   have e:b∈(if j=i then o else os j):=e
   split at e
   ·exact .inl (fr b e)
   ·exact .inr ⟨j,e⟩
  ·rw [if_neg p] at h
   have hp:L.any (zk9 S)=false:=hp.resolve_left p
   have r1:=r'.frz L
   have r2:=r1.set (i:=i) va (fun b e j _ z=>by
    have z:b∈(if j∈L then [] else os j):=z
    split at z
    ·simp at z
    ·exact (r.alive z).1 (fr b e)) (by rw [zsz]; exact hi)
   refine h _ H' _ _ ⟨fun b u e _=>a.same b u e,a.step (σ:=σ) (S:=S) (os:=os) |>.liv,fun b z=>.inl (a.up b z),fun b z=>?_,fun j b e=>?_,lokI (frzs L S) fun j xs e _=>?_,lobI (frzs L S) fun j c fs e _=>?_⟩ r2
   ·rcases z with z | ⟨k,_,z⟩
    ·exact (a.step (σ:=σ) (S:=S) (os:=os)).new b z
    ·exact .inr (.inr (.inl ⟨k,z⟩))
   ·have e:b∈(if j=i then o else if j∈L then [] else os j):=e
    split at e
    ·exact .inl (fr b e)
    ·split at e
     ·simp at e
     ·exact .inr ⟨j,e⟩
   ·rw [zdH,if_neg,e]
    intro z
    rw [List.any_eq_false] at hp
    have:=hp j z
    unfold zk9 at this
    rw [e] at this
    exact this rfl
   ·rw [zdH,if_neg,e]
    intro z
    rw [List.any_eq_false] at hp
    have:=hp j z
    unfold zk9 at this
    rw [e] at this
    exact this rfl
theorem zGQ {i:Nat} (he:FE B te L me):FS B (zFT te (zyM i)) (zcW i L me):=by
 intro S σ H F os E r h
 unfold zcW at h
 cases q:me S with
 | none=>rw [q] at h; exact h.elim
 | some x=>
  rw [q] at h
  exact he S σ H F os _ x r q fun v H' F' o a r' va fr=>zGP r h a r' va fr
end
end L2
namespace L2
open PySem PySem.Spec PyProof.Rows
section
variable {B:Bk} {H H':Hp} {F F':Addr→Prop} {σ:St} {S:FSt} {os:Nat→List Addr} {L:List Nat}
theorem Rep.write (r:Rep B H F σ S os) {i:Nat} {a:Addr} {u:HO} {x:SV} {v:V} (e:a∈os i) (hv:σ[i]? = some (some v)) (va:VA B (upd H a u) F v x (os i)):Rep B (upd H a u) F σ (S.set i (some x)) os:=by
 obtain ⟨y,v',h1,h2,h3⟩:=r.own e
 have hi:i < S.length:=(List.getElem?_eq_some_iff.mp h1).1
 have hF:∀ b o,F b→H b=some o→upd H a u b=some o:=fun b o f h=>by rw [zbJ]; exact h; rintro rfl; exact (r.alive e).2 f
 refine ⟨fun j z h=>?_,fun j h=>?_,r.inj,fun b h=>?_,by simp [r.len]⟩
 ·by_cases q:j=i
  ·subst q
   simp only [List.getElem?_set,if_pos rfl,hi,if_true] at h
   cases h
   exact ⟨v,hv,va⟩
  ·simp only [List.getElem?_set,if_neg (Ne.symm q)] at h
   obtain ⟨w,k1,k2⟩:=r.at' j z h
   refine ⟨w,k1,k2.mono hF (fun b o ob h=>?_) (fun _ h=>h) fun b ob=>(r.alive ob).2⟩
   rw [zbJ]; exact h
   rintro rfl
   exact q (r.inj j i b ob e)
 ·by_cases q:j=i
  ·subst q
   exact absurd (by simp [List.getElem?_set,hi]) (h x)
  ·refine r.out j fun y k=>h y ?_
   simp only [List.getElem?_set,if_neg (Ne.symm q)]; exact k
 ·unfold upd
  split
  ·simp
  ·exact r.fd b h
theorem zeQ {a:Addr} {u:HO} {i:Nat} {x:SV} (e:a∈os i) (nl:zk9 S i=false∨∃ c fs fs',S[i]? = some (some (SV.ob c fs))∧x=.ob c fs'):FStep σ S H F os σ (S.set i (some x)) (upd H a u) F os:=by
 refine ⟨fun b o h n=>?_,fun b h=>?_,fun _ h=>h,fun _ h=>.inl h,fun j b h=>.inr ⟨j,h⟩,fun j xs h=>⟨?_,rfl⟩,fun j c fs h=>⟨?_,rfl⟩⟩
 ·rw [zbJ]; exact h
  rintro rfl; exact n i e
 ·unfold upd
  split
  ·simp
  ·exact h
 ·have hj:j≠i:=by
   rintro rfl
   rcases nl with nl | ⟨c,fs,fs',nl,_⟩
   ·unfold zk9 at nl; rw [h] at nl; cases nl
   ·rw [h] at nl; cases nl
  rw [List.getElem?_set_ne (Ne.symm hj)]; exact h
 ·by_cases hj:j=i
  ·subst hj
   rcases nl with nl | ⟨c',fs1,fs',nl,rfl⟩
   ·unfold zk9 at nl; rw [h] at nl; cases nl
   ·rw [h] at nl; cases nl
    exact ⟨fs',by simp [List.getElem?_set,(List.getElem?_eq_some_iff.mp h).1]⟩
  ·exact ⟨fs,by rw [List.getElem?_set_ne (Ne.symm hj)]; exact h⟩
theorem zmk (r:Rep B H F σ S os) (nl:L.any (zk9 S)=false):FStep σ S H F os σ (frzs L S) H (orF F (osL os L)) (fun j=>if j∈L then [] else os j):=by
 refine ⟨fun b o h n=>h,fun b h=>h,fun _ h=>.inl h,fun b h=>?_,fun j b h=>?_,fun j xs h=>⟨?_,rfl⟩,fun j c fs h=>⟨⟨fs,?_⟩,rfl⟩⟩
 ·rcases h with h | ⟨i,_,h⟩
  ·exact .inl h
  ·exact .inr (.inr (.inl ⟨i,h⟩))
 ·have h:b∈(if j∈L then [] else os j):=h
  split at h
  ·simp at h
  ·exact .inr ⟨j,h⟩
 ·rw [zdH,if_neg,h]
  intro z
  rw [List.any_eq_false] at nl
  have:=nl j z
  unfold zk9 at this
  rw [h] at this
  exact this rfl
 ·rw [zdH,if_neg,h]
  intro z
  rw [List.any_eq_false] at nl
  have:=nl j z
  unfold zk9 at this
  rw [h] at this
  exact this rfl
end
section
variable {B:Bk} {te:TE} {L:List Nat} {md:FSt→Option D}
theorem zGR {i:Nat} {K:W.Frag} (hK:B.K=K) (he:FD B te L md):FS B (zxM (tBM K "list" zsr (zyD i) (zyX te zFq))) (zBU i L md):=by
 subst hK
 intro S σ H F os E r h
 unfold zBU at h
 cases q:md S with
 | none=>rw [q] at h; exact h.elim
 | some d=>
  rw [q] at h
  dsimp only at h
  split at h
  case isFalse=>exact h.elim
  case isTrue c=>
   split at h
   case h_2=>exact h.elim
   case h_1 xs hx=>
    split at h
    case isFalse=>exact h.elim
    case isTrue hz=>
     have hS:S[i]? = some (some (.li xs))∧(d.plain=true∨i∉L):=by
      by_cases p:d.plain=true
      ·rw [if_pos p] at hx; exact ⟨hx,.inl p⟩
      ·rw [if_neg p,zdH] at hx
       by_cases hi:i∈L
       ·rw [if_pos hi] at hx
        cases e:S[i]? with
        | none=>rw [e] at hx; cases hx
        | some z=>cases z with
         | none=>rw [e] at hx; cases hx
         | some y=>rw [e] at hx; cases hx
       ·rw [if_neg hi] at hx; exact ⟨hx,.inr hi⟩
     obtain ⟨v,hv,a,vs,rfl,eo,nf,hh,das⟩:=r.at' i _ hS.1
     have nl:zk9 S i=false:=by unfold zk9; rw [hS.1]; rfl
     refine ⟨.ref a,hv,.inl ⟨rfl,vs,.inl (.inl hh)⟩,he S σ H F os _ d r q fun w H' F' al r' da=>?_⟩
     obtain ⟨v',hv',a',vs',e1,eo',nf',hh',das'⟩:=r'.at' i _ hS.1
     have ea:a'=a:=by rw [eo] at eo'; exact (List.cons.inj eo').1.symm
     subst ea
     refine ⟨a',vs',w,rfl,rfl,hh',by rw [das'.length]; exact hz,?_⟩
     have st1:FStep σ S H F os σ S H' F' os:=al.step
     have em:a'∈os i:=by rw [eo]; simp
     by_cases p:d.plain=true
     ·rw [if_pos p] at h
      have da':=da.toF r' p
      have hk:∀ b o,F' b→H' b=some o→upd H' a' (.lst (vs'++[w])) b=some o:=fun b o f h=>by rw [zbJ]; exact h; rintro rfl; exact nf' f
      have r2:=r'.write (u:=.lst (vs'++[w])) (x:=.li (xs++[d])) em hv ⟨a',vs'++[w],rfl,eo,nf',zbI,(das'.append (.cons da' .nil)).mono hk fun _ h=>h⟩
      exact h σ _ F' os (st1.trans (zeQ em (.inl nl))) r2
     ·rw [if_neg p] at h
      have hi:=hS.2.resolve_left p
      have c':=c.resolve_left p
      have r1:=r'.frz L
      have eo1:(fun j=>if j∈L then [] else os j) i=[a']:=by show (if i∈L then [] else os i)=_; rw [if_neg hi]; exact eo
      have em1:a'∈(fun j=>if j∈L then [] else os j) i:=by rw [eo1]; simp
      have nf1:¬ orF F' (osL os L) a':=fun z=>by
       rcases z with z | ⟨k,hk,z⟩
       ·exact nf' z
       ·exact hi (r.inj i k a' em z▸hk)
      have hk:∀ b o,orF F' (osL os L) b→H' b=some o→upd H' a' (.lst (vs'++[w])) b=some o:=fun b o f h=>by rw [zbJ]; exact h; rintro rfl; exact nf1 f
      have d0:DAs B H' (orF F' (osL os L)) vs' xs:=das'.mono (fun _ _ _ e=>e) fun _ h=>.inl h
      have r2:=r1.write (u:=.lst (vs'++[w])) (x:=.li (xs++[d])) em1 hv ⟨a',vs'++[w],rfl,eo1,nf1,zbI,(d0.append (.cons da .nil)).mono hk fun _ h=>h⟩
      have nl1:zk9 (frzs L S) i=false:=by unfold zk9; rw [zdH,if_neg hi,hS.1]; rfl
      exact h σ _ _ _ ((st1.trans (zmk r' c')).trans (zeQ em1 (.inl nl1))) r2
end
def FG (B:Bk) (g:TG) (m:D→FSt→Option FSt):Prop:=
 ∀ (S:FSt) (σ:St) (H:Hp) (F:Addr→Prop) (os:Nat→List Addr) (v:V) (d:D) (S':FSt) (Q:St→Hp→Prop),Rep B H F σ S os→DA B H F v d→m d S=some S'→
  (∀ σ' os',FStep σ S H F os σ' S' H F os'→Rep B H F σ' S' os'→Q σ' H)→g v σ H Q
def FGs (B:Bk) (g:TGs) (m:List D→FSt→Option FSt):Prop:=
 ∀ (S:FSt) (σ:St) (H:Hp) (F:Addr→Prop) (os:Nat→List Addr) (vs:List V) (ds:List D) (S':FSt) (Q:St→Hp→Prop),Rep B H F σ S os→DAs B H F vs ds→m ds S=some S'→
  (∀ σ' os',FStep σ S H F os σ' S' H F os'→Rep B H F σ' S' os'→Q σ' H)→g vs σ H Q
@[simp] def gN (i:Nat):D→FSt→Option FSt:=fun d S=>if i < S.length∧zk9 S i=false then some (S.set i (some (.sh d))) else none
@[simp] def gNs:List D→FSt→Option FSt:=fun ds S=>match ds with
 | []=>some S
 | _=>none
@[simp] def gCs (a:D→FSt→Option FSt) (r:List D→FSt→Option FSt):List D→FSt→Option FSt:=fun ds S=>match ds with
 | d :: ds=>(a d S).bind (r ds)
 | _=>none
@[simp] def gSq (n:Nat) (r:List D→FSt→Option FSt):D→FSt→Option FSt:=fun d S=>match d with
 | .tup ds=>if ds.length=n then r ds S else none
 | .lst ds=>if ds.length=n then r ds S else none
 | .kt ds=>if ds.length=n then r ds S else none
 | .fz ds=>if ds.length=n then r ds S else none
 | _=>none
section
variable {B:Bk} {g:TG} {gs:TGs} {mg:D→FSt→Option FSt} {ms:List D→FSt→Option FSt}
theorem zEj (i:Nat):FG B (zyM i) (gN i):=by
 intro S σ H F os v d S' Q r da e k
 unfold gN at e
 split at e
 case isFalse=>cases e
 case isTrue c=>
  cases e
  have r2:=r.set (i:=i) (v:=v) (x:=.sh d) (o:=[]) ⟨rfl,da⟩ (fun b e=>absurd e (by simp)) c.1
  refine k _ _ ⟨fun b u h _=>h,fun _ h=>h,fun _ h=>h,fun _ h=>.inl h,fun j b h=>?_,fun j xs h=>?_,fun j c' fs h=>?_⟩ r2
  ·have h:b∈(if j=i then [] else os j):=h
   split at h
   ·simp at h
   ·exact .inr ⟨j,h⟩
  ·have hj:j≠i:=by rintro rfl; have:=c.2; unfold zk9 at this; rw [h] at this; cases this
   exact ⟨by rw [List.getElem?_set_ne (Ne.symm hj)]; exact h,by rw [List.getElem?_set_ne (Ne.symm hj)]⟩
  ·have hj:j≠i:=by rintro rfl; have:=c.2; unfold zk9 at this; rw [h] at this; cases this
   exact ⟨⟨fs,by rw [List.getElem?_set_ne (Ne.symm hj)]; exact h⟩,by rw [List.getElem?_set_ne (Ne.symm hj)]⟩
theorem zEk:FGs B zKe gNs:=by
 intro S σ H F os vs ds S' Q r da e k
 cases da with
 | nil=>cases e; exact ⟨rfl,k σ os FStep.refl r⟩
 | cons _ _=>cases e
theorem zBW (h1:FG B g mg) (h2:FGs B gs ms):FGs B (zFR g gs) (gCs mg ms):=by
 intro S σ H F os vs ds S' Q r da e k
 cases da with
 | nil=>cases e
 | cons h q=>
  obtain ⟨S1,e1,e2⟩:=zcZ e
  exact ⟨_,_,rfl,h1 S σ H F os _ _ S1 _ r h e1 fun σ' os' st r'=>h2 S1 σ' H F os' _ _ S' Q r' q e2 fun σ2 os2 st2 r2=>k σ2 os2 (st.trans st2) r2⟩
theorem zGS {n:Nat} {K:W.Frag} (hK:B.K=K) (h:FGs B gs ms):FG B (zKx K n gs) (gSq n ms):=by
 subst hK
 intro S σ H F os v d S' Q r da e k
 cases da with
 | tup hn q=>
  unfold gSq at e
  dsimp only at e
  split at e
  case isFalse=>cases e
  case isTrue c=>exact .inl ⟨_,_,rfl,hn.sq,by rw [q.length]; exact c,h S σ H F os _ _ S' Q r q e k⟩
 | lst hn q=>
  unfold gSq at e
  dsimp only at e
  split at e
  case isFalse=>cases e
  case isTrue c=>exact .inr ⟨_,_,rfl,hn.sq,by rw [q.length]; exact c,h S σ H F os _ _ S' Q r q e k⟩
 | kt hn q=>
  unfold gSq at e
  dsimp only at e
  split at e
  case isFalse=>cases e
  case isTrue c=>exact .inl ⟨_,_,rfl,hn.sq,by rw [q.length]; exact c,h S σ H F os _ _ S' Q r q e k⟩
 | fz hn q=>
  unfold gSq at e
  dsimp only at e
  split at e
  case isFalse=>cases e
  case isTrue c=>exact .inr ⟨_,_,rfl,hn.sq,by rw [q.length]; exact c,h S σ H F os _ _ S' Q r q e k⟩
 | _=>cases e
end
def Walks (B:Bk) (J:It) (H:Hp) (F:Addr→Prop) (its:List D):Prop:=∀ (H2:Hp) (F2:Addr→Prop),(∀ b o,F b→H b=some o→H2 b=some o)→(∀ b,F b→F2 b)→
 (∀ i d,its[i]? = some d→J.go i H2∧∀ x H3,J.yld i H2 x H3→∃ F3,Al H2 F2 H3 F3∧DA B H3 F3 x d)∧∀ i,its.length≤i→J.stop i H2
def FI (B:Bk) (wi:TI) (m:FSt→Option (List D)):Prop:=
 ∀ (S:FSt) (σ:St) (H:Hp) (F:Addr→Prop) (os:Nat→List Addr) (R:It→Hp→Prop) (its:List D),Rep B H F σ S os→m S=some its→
  (∀ J H' F',Al H F H' F'→Rep B H' F' σ S os→Walks B J H' F' its→R J H')→wi σ H R
@[simp] def zGT (S:FSt) (i:Nat):Bool:=match S[i]? with
 | some (some (SV.sh _))=>true
 | some (some _)=>false
 | _=>true
def zzz (z:Str):List D:=z.cps.toList.map fun c=>.str ⟨#[c]⟩
@[simp] def zhW:D→Option (List D)
 | .lst ds=>some ds
 | .tup ds=>some ds
 | .kt ds=>some ds
 | .fz ds=>some ds
 | .str z=>some (zzz z)
 | _=>none
@[simp] def mIt (L:List Nat) (m:FSt→Option SV):FSt→Option (List D):=fun S=>(m S).bind fun x=>if x.plain=true∨L.all (zGT S)=true then zhW x.fr else none
def zBX (lo:Int) (n:Nat):List D:=(List.range n).map fun (k:Nat)=>.int (lo+k)
theorem zzA:∃ f:Int→Bool,∀ i,f i=true↔-(2 ^ 62)≤i∧i < 2 ^ 62:=⟨fun i=>decide (-(2 ^ 62)≤i∧i < 2 ^ 62),fun i=>decide_eq_true_iff⟩
noncomputable def zzB:Int→Bool:=Classical.choose zzA
theorem zps {i:Int}:zzB i=true↔-(2 ^ 62)≤i∧i < 2 ^ 62:=Classical.choose_spec zzA i
@[simp] theorem zvH {i:Int} (h1:-4611686018427387904≤i) (h2:i < 4611686018427387904):zzB i=true:=zps.mpr ⟨by omega,by omega⟩
noncomputable def zzC:List D→Option (List D)
 | [.int j]=>if zzB j=true then some (zBX 0 j.toNat) else none
 | [.int i,.int j]=>if zzB i=true∧zzB j=true then some (zBX i (j-i).toNat) else none
 | _=>none
section
variable {B:Bk} {te:TE} {L:List Nat} {me:FSt→Option SV} {tr:TA} {mr:FSt→Option (List D)}
theorem zml {H:Hp} {F:Addr→Prop} {a:Addr} {xs:List V} {ds:List D} (h:∀ H2,(∀ b o,F b→H b=some o→H2 b=some o)→SqL B.K H2 a xs) (q:DAs B H F xs ds):Walks B (Itl B.K a) H F ds:=by
 intro H2 F2 k up
 have h2:=h H2 k
 have q2:=q.mono k up
 refine ⟨fun i d e=>?_,fun i hi=>⟨xs,h2,by rw [q.length]; exact hi⟩⟩
 obtain ⟨v,e1,d1⟩:=q2.get e
 refine ⟨⟨xs,v,h2,e1⟩,fun x H3 y=>?_⟩
 obtain ⟨rfl,y⟩:=y
 have:=y xs h2
 rw [e1] at this; cases this
 exact ⟨F2,Al.refl,d1⟩
theorem zmm {H:Hp} {F:Addr→Prop} {a:Addr} {xs:List V} {ds:List D} (h:∀ H2,(∀ b o,F b→H b=some o→H2 b=some o)→SqT B.K H2 a xs) (q:DAs B H F xs ds):Walks B (Itt B.K a) H F ds:=by
 intro H2 F2 k up
 have h2:=h H2 k
 have q2:=q.mono k up
 refine ⟨fun i d e=>?_,fun i hi=>⟨xs,h2,by rw [q.length]; exact hi⟩⟩
 obtain ⟨v,e1,d1⟩:=q2.get e
 refine ⟨⟨xs,v,h2,e1⟩,fun x H3 y=>?_⟩
 obtain ⟨rfl,y⟩:=y
 have:=y xs h2
 rw [e1] at this; cases this
 exact ⟨F2,Al.refl,d1⟩
theorem zux {H:Hp} {F:Addr→Prop} (z:Str):Walks B (Its z) H F (zzz z):=by
 intro H2 F2 k up
 refine ⟨fun i d e=>?_,fun i hi=>by
  have hi:z.cps.size≤i:=by simpa [zzz] using hi
  exact hi⟩
 unfold zzz at e
 rw [List.getElem?_map] at e
 cases q:z.cps.toList[i]? with
 | none=>rw [q] at e; cases e
 | some c=>
  rw [q] at e; cases e
  have hlt:i < z.cps.size:=by simpa using (List.getElem?_eq_some_iff.mp q).1
  refine ⟨hlt,fun x H3 y=>?_⟩
  obtain ⟨rfl,c',e',rfl⟩:=y
  have e2:z.cps.toList[i]? = some c':=by simpa using e'
  rw [q] at e2; cases e2
  exact ⟨F2,Al.refl,.str _⟩
theorem zuy {H:Hp} {F:Addr→Prop} (lo:Int) (n:Nat):Walks B (Itr lo n) H F (zBX lo n):=by
 intro H2 F2 k up
 refine ⟨fun i d e=>?_,fun i hi=>by
  have hi:n≤i:=by simpa [zBX] using hi
  exact hi⟩
 have hi:i < n:=by have:=(List.getElem?_eq_some_iff.mp e).1; simpa [zBX] using this
 have:(zBX lo n)[i]? = some (.int (lo+i)):=by simp [zBX,hi]
 rw [this] at e; cases e
 exact ⟨hi,fun x H3 y=>by obtain ⟨rfl,rfl⟩:=y; exact ⟨F2,Al.refl,.int _⟩⟩
theorem zGU {H:Hp} {F:Addr→Prop} {σ:St} {S:FSt} {os:Nat→List Addr} {v:V} {x:SV} {o:List Addr} (r:Rep B H F σ S os) (va:VA B H (orF F (osL os L)) v x o) (c:x.plain=true∨L.all (zGT S)=true):VA B H F v x o:=by
 rcases c with c | c
 ·exact va.toF r c
 ·refine va.sub (fun b h=>?_) fun b e z=>(va.alive e).2.1 (.inl z)
  rcases h with h | ⟨i,hi,e⟩
  ·exact h
  ·obtain ⟨y,w,h1,_,h2⟩:=r.own e
   have:=List.all_eq_true.mp c i hi
   unfold zGT at this
   rw [h1] at this
   cases y with
   | sh d=>rw [h2.1] at e; simp at e
   | _=>cases this
theorem zzD {K:W.Frag} (hK:B.K=K) (he:FE B te L me):FI B (zFr K te) (mIt L me):=by
 subst hK
 intro S σ H F os R its r e k
 obtain ⟨x,ex,ef⟩:=zcZ e
 split at ef
 case isFalse=>cases ef
 case isTrue c=>
  have key:∀ (P:V→Hp→Prop),(∀ v H' F',Al H F H' F'→Rep B H' F' σ S os→DA B H' F' v x.fr→P v H')→te σ H P:=fun P hP=>by
   refine he S σ H F os P x r ex fun v H' F' o a r' va fr=>?_
   have va:=zGU r' va c
   have al:Al H F H' (fun b=>F' b∨b∈o):=by
    refine ⟨a.same,fun b h=>.inl (a.up b h),fun b h=>?_⟩
    rcases h with h | h
    ·exact a.new b h
    ·exact .inr (.inl ⟨fr b h,(va.alive h).1⟩)
   exact hP v H' _ al (r.mono al) (va.frozen (fun b h=>.inl h) fun b h=>.inr h)
  cases hx:x.fr with
  | lst ds=>
   rw [hx] at ef key; cases ef
   refine .inl (key _ fun v H' F' al r' da=>?_)
   cases da with
   | lst h q=>exact ⟨_,rfl,⟨_,h.sq⟩,k _ H' F' al r' (zml (fun H2 kk=>.inl (.inl (kk _ _ h.1 h.2))) q)⟩
  | fz ds=>
   rw [hx] at ef key; cases ef
   refine .inl (key _ fun v H' F' al r' da=>?_)
   cases da with
   | fz h q=>exact ⟨_,rfl,⟨_,h.sq⟩,k _ H' F' al r' (zml (fun H2 kk=>(h.keep kk fun _ z=>z).sq) q)⟩
  | tup ds=>
   rw [hx] at ef key; cases ef
   refine .inr (.inl (key _ fun v H' F' al r' da=>?_))
   cases da with
   | tup h q=>exact ⟨_,rfl,⟨_,h.sq⟩,k _ H' F' al r' (zmm (fun H2 kk=>.inl (.inl (kk _ _ h.1 h.2))) q)⟩
  | kt ds=>
   rw [hx] at ef key; cases ef
   refine .inr (.inl (key _ fun v H' F' al r' da=>?_))
   cases da with
   | kt h q=>exact ⟨_,rfl,⟨_,h.sq⟩,k _ H' F' al r' (zmm (fun H2 kk=>h.sq) q)⟩
  | str z=>
   rw [hx] at ef key; cases ef
   refine .inr (.inr (key _ fun v H' F' al r' da=>?_))
   cases da
   exact ⟨_,rfl,k _ H' F' al r' (zux z)⟩
  | _=>rw [hx] at ef; cases ef
theorem zEl (hr:FA B tr L mr):FI B (zDq tr) (fun S=>(mr S).bind fun ds=>if ds.length=1 then zzC ds else none):=by
 intro S σ H F os R its r e k
 obtain ⟨ds,ed,ef⟩:=zcZ e
 refine hr S σ H F os _ ds r ed fun vs H' F' a r' da=>?_
 split at ef
 case isFalse=>cases ef
 case isTrue c=>
  match ds,c with
  | [d],_=>
   obtain ⟨v,rfl,d1⟩:=da.one
   cases d with
   | int j=>
    cases d1
    unfold zzC at ef
    dsimp only at ef
    split at ef
    case isFalse=>cases ef
    case isTrue hj=>rw [zps] at hj; cases ef; exact ⟨j,rfl,hj.1,hj.2,k _ H' F' a r' (zuy 0 _)⟩
   | _=>cases ef
theorem zEm (hr:FA B tr L mr):FI B (zDr tr) (fun S=>(mr S).bind fun ds=>if ds.length=2 then zzC ds else none):=by
 intro S σ H F os R its r e k
 obtain ⟨ds,ed,ef⟩:=zcZ e
 refine hr S σ H F os _ ds r ed fun vs H' F' a r' da=>?_
 split at ef
 case isFalse=>cases ef
 case isTrue c=>
  match ds,c with
  | [d,e],_=>
   obtain ⟨v,w,rfl,d1,d2⟩:=da.two
   cases d with
   | int i=>
    cases e with
    | int j=>
     cases d1; cases d2
     unfold zzC at ef
     dsimp only at ef
     split at ef
     case isFalse=>cases ef
     case isTrue hj=>rw [zps,zps] at hj; cases ef; exact ⟨i,j,rfl,⟨hj.1.1,hj.1.2,hj.2.1,hj.2.2⟩,k _ H' F' a r' (zuy i _)⟩
    | _=>cases ef
   | _=>cases ef
end
def zbj (mg:D→FSt→Option FSt) (mb:FSt→Fl):List D→FSt→Fl
 | [],S=>.nx S
 | d :: r,S=>match mg d S with
  | none=>.bad
  | some S1=>match mb S1 with
   | .nx S2=>zbj mg mb r S2
   | .ct S2=>zbj mg mb r S2
   | .bk S2=>.nx S2
   | .rt x=>.rt x
   | .bad=>.bad
@[simp] def zuz (mi:FSt→Option (List D)) (mg:D→FSt→Option FSt) (mb:FSt→Fl):FSt→Fl:=fun S=>match mi S with
 | some its=>zbj mg mb its S
 | none=>.bad
@[simp] def zGV (j:Nat) (S:FSt):FSt:=match S[j]? with
 | some (some (.lk xs))=>S.set j (some (.li xs))
 | _=>S
@[simp] def znb (j:Nat) (mg:D→FSt→Option FSt) (mb:FSt→Fl):FSt→Fl:=fun S=>match S[j]? with
 | some (some (.li xs))=>match zbj mg mb xs (S.set j (some (.lk xs))) with
  | .nx S'=>.nx (zGV j S')
  | r=>r
 | some (some (.sh d))=>match zhW d with
  | some its=>zbj mg mb its S
  | none=>.bad
 | some (some (.ll xss))=>zbj mg mb (xss.map D.lst) (S.set j (some (.sh (.lst (xss.map D.lst)))))
 | _=>.bad
section
variable {B:Bk} {wi:TI} {mi:FSt→Option (List D)} {g:TG} {mg:D→FSt→Option FSt} {tb:TS} {mb:FSt→Fl}
theorem zzE {J:It} {its:List D} {E:Ends} (hg:FG B g mg) (hb:FS B tb mb) (Z:St→FSt→Hp→(Addr→Prop)→(Nat→List Addr)→Prop)
  (zs:∀ {σ S H F os σ' S' H' F' os'},Rep B H F σ S os→Rep B H' F' σ' S' os'→FStep σ S H F os σ' S' H' F' os'→Z σ S H F os→Z σ' S' H' F' os')
  (zi:∀ {σ S H F os} (i:Nat) (d:D),Rep B H F σ S os→Z σ S H F os→its[i]? = some d→J.go i H∧∀ x H3,J.yld i H x H3→∃ F3,Al H F H3 F3∧DA B H3 F3 x d)
  (ze:∀ {σ S H F os} (i:Nat),Rep B H F σ S os→Z σ S H F os→its.length≤i→J.stop i H)
  {S:FSt} {σ:St} {H:Hp} {F:Addr→Prop} {os:Nat→List Addr} (r:Rep B H F σ S os) (z:Z σ S H F os) (h:Lands B σ S H F os E (zbj mg mb its S)) :
  ∃ W:Nat→Nat→St→Hp→Prop,(∃ m,W 0 m σ H)∧∀ i m σ H,W i m σ H→
   (J.stop i H∧E.nx σ H)∨(J.go i H∧∃ N:St→Hp→Prop,(∀ σ' H',N σ' H'→∃ m',m' < m∧W (i+1) m' σ' H')∧∀ x H',J.yld i H x H'→g x σ H' fun σ2 H2=>tb { E with nx:=N,ct:=N,bk:=E.nx } σ2 H2):=by
 refine ⟨fun i m σ' H'=>i≤its.length∧m=its.length-i∧∃ S' F' os',Rep B H' F' σ' S' os'∧Z σ' S' H' F' os'∧Lands B σ' S' H' F' os' E (zbj mg mb (its.drop i) S'),
  ⟨_,Nat.zero_le _,rfl,S,F,os,r,z,by simpa using h⟩,?_⟩
 rintro i m σ1 H1 ⟨hi,hm,S1,F1,os1,r1,z1,h1⟩
 cases q:its[i]? with
 | none=>
  have hle:its.length≤i:=List.getElem?_eq_none_iff.mp q
  rw [List.drop_eq_nil_of_le hle] at h1
  exact .inl ⟨ze i r1 z1 hle,h1 σ1 H1 F1 os1 FStep.refl r1⟩
 | some d=>
  have hlt:i < its.length:=(List.getElem?_eq_some_iff.mp q).1
  have hd:its.drop i=d :: its.drop (i+1):=by
   rw [List.drop_eq_getElem_cons hlt]
   have:its[i]=d:=(List.getElem?_eq_some_iff.mp q).2
   rw [this]
  rw [hd,zbj] at h1
  obtain ⟨go,yl⟩:=zi i d r1 z1 q
  refine .inr ⟨go,fun σ' H'=>i+1≤its.length∧∃ S' F' os',Rep B H' F' σ' S' os'∧Z σ' S' H' F' os'∧Lands B σ' S' H' F' os' E (zbj mg mb (its.drop (i+1)) S'),
   fun σ' H' n=>⟨its.length-(i+1),by omega,n.1,rfl,n.2⟩,fun x H2 y=>?_⟩
  obtain ⟨F2,al,da⟩:=yl x H2 y
  have r2:=r1.mono al
  cases e1:mg d S1 with
  | none=>rw [e1] at h1; exact h1.elim
  | some S2=>
   rw [e1] at h1
   dsimp only at h1
   refine hg S1 σ1 H2 F2 os1 x d S2 _ r2 da e1 fun σ2 os2 st2 r3=>?_
   have stA:FStep σ1 S1 H1 F1 os1 σ2 S2 H2 F2 os2:=al.step.trans st2
   refine hb S2 σ2 H2 F2 os2 _ r3 ?_
   cases e2:mb S2 with
   | nx S3=>
    rw [e2] at h1
    intro σ' H' F' os' st r'
    exact ⟨hlt,S3,F',os',r',zs r1 r' (stA.trans st) z1,h1.later (stA.trans st)⟩
   | ct S3=>
    rw [e2] at h1
    intro σ' H' F' os' st r'
    exact ⟨hlt,S3,F',os',r',zs r1 r' (stA.trans st) z1,h1.later (stA.trans st)⟩
   | bk S3=>
    rw [e2] at h1
    intro σ' H' F' os' st r'
    exact h1 σ' H' F' os' (stA.trans st) r'
   | rt x=>
    rw [e2] at h1
    exact h1.later stA
   | bad=>rw [e2] at h1; exact h1.elim
theorem zzF (hi:FI B wi mi) (hg:FG B g mg) (hb:FS B tb mb):FS B (zIJ wi g tb) (zuz mi mg mb):=by
 intro S σ H F os E r h
 unfold zuz at h
 cases q:mi S with
 | none=>rw [q] at h; exact h.elim
 | some its=>
  rw [q] at h
  refine hi S σ H F os _ its r q fun J H1 F1 al r1 wk=>?_
  refine zzE (J:=J) (its:=its) hg hb (fun _ _ H' F' _=>(∀ b o,F1 b→H1 b=some o→H' b=some o)∧∀ b,F1 b→F' b) ?_ ?_ ?_ r1 ⟨fun _ _ _ e=>e,fun _ h=>h⟩ (h.later al.step)
  ·intro σ S H F os σ' S' H' F' os' r r' st z
   exact ⟨fun b o f e=>st.keep b o (z.1 b o f e) fun i e=>(r.alive e).2 (z.2 b f),fun b f=>st.up b (z.2 b f)⟩
  ·intro σ S H F os i d r z e
   exact (wk H F z.1 z.2).1 i d e
  ·intro σ S H F os i r z e
   exact (wk H F z.1 z.2).2 i e
theorem zEn {j:Nat} {K:W.Frag} (hK:B.K=K) (hg:FG B g mg) (hb:FS B tb mb):FS B (zIJ (zFr K (zyD j)) g tb) (znb j mg mb):=by
 subst hK
 intro S σ H F os E r h
 unfold znb at h
 split at h
 ·rename_i xs e
  obtain ⟨v,hv,a,vs,rfl,eo,nf,hh,das⟩:=r.at' j _ e
  have hj:j < S.length:=(List.getElem?_eq_some_iff.mp e).1
  refine .inl ⟨.ref a,hv,a,rfl,⟨vs,.inl (.inl hh)⟩,?_⟩
  have r0:Rep B H F σ (S.set j (some (.lk xs))) os:=by
   have hu:upd H a (.lst vs)=H:=by
    funext b; unfold upd
    split
    ·rename_i q; rw [q,hh]
    ·rfl
   have:=r.write (u:=.lst vs) (x:=.lk xs) (by rw [eo]; simp) hv ⟨a,vs,rfl,eo,nf,zbI,by rw [hu]; exact das⟩
   rw [hu] at this
   exact this
  have sj:(S.set j (some (SV.lk xs)))[j]? = some (some (.lk xs)):=by simp [List.getElem?_set,hj]
  let E':Ends:={ E with nx:=E.nx }
  have key:∀ {σ':St} {S':FSt} {H':Hp} {F':Addr→Prop} {os':Nat→List Addr},FStep σ (S.set j (some (.lk xs))) H F os σ' S' H' F' os'→Rep B H' F' σ' S' os'→FStep σ S H F os σ' (zGV j S') H' F' os'∧Rep B H' F' σ' (zGV j S') os':=by
   intro σ' S' H' F' os' st r'
   obtain ⟨k1,k2⟩:=st.lok j xs sj
   have hu:zGV j S'=S'.set j (some (.li xs)):=by unfold zGV; rw [k1]
   have hj':j < S'.length:=(List.getElem?_eq_some_iff.mp k1).1
   rw [hu]
   refine ⟨⟨st.keep,st.liv,st.up,st.new,st.own,fun i ys q=>?_,fun i c fs q=>?_⟩,?_⟩
   ·have hij:i≠j:=by rintro rfl; rw [e] at q; cases q
    obtain ⟨q1,q2⟩:=st.lok i ys (by rw [List.getElem?_set_ne (Ne.symm hij)]; exact q)
    exact ⟨by rw [List.getElem?_set_ne (Ne.symm hij)]; exact q1,q2⟩
   ·have hij:i≠j:=by rintro rfl; rw [e] at q; cases q
    obtain ⟨⟨fs',q1⟩,q2⟩:=st.lob i c fs (by rw [List.getElem?_set_ne (Ne.symm hij)]; exact q)
    exact ⟨⟨fs',by rw [List.getElem?_set_ne (Ne.symm hij)]; exact q1⟩,q2⟩
   ·refine ⟨fun i x q=>?_,fun i q=>?_,r'.inj,r'.fd,by simp [r'.len]⟩
    ·by_cases hij:i=j
     ·subst hij
      simp only [List.getElem?_set,if_pos rfl,hj',if_true] at q
      cases q
      obtain ⟨w,w1,w2⟩:=r'.at' i _ k1
      exact ⟨w,w1,w2⟩
     ·exact r'.at' i x (by rw [List.getElem?_set_ne (Ne.symm hij)] at q; exact q)
    ·by_cases hij:i=j
     ·subst hij
      exact absurd (by simp [List.getElem?_set,hj']) (q (.li xs))
     ·exact r'.out i fun y z=>q y (by rw [List.getElem?_set_ne (Ne.symm hij)]; exact z)
  have h0:Lands B σ (S.set j (some (.lk xs))) H F os E (zbj mg mb xs (S.set j (some (.lk xs)))):=by
   cases q:zbj mg mb xs (S.set j (some (.lk xs))) with
   | nx S'=>
    rw [q] at h
    intro σ' H' F' os' st r'
    exact h σ' H' F' os' (key st r').1 (key st r').2
   | rt x=>rw [q] at h; exact h
   | bad=>rw [q] at h; exact h
   | bk S'=>
    exact absurd q (by
     have:∀ (l:List D) (S:FSt) S',zbj mg mb l S≠.bk S':=by
      intro l
      induction l with
      | nil=>intro S S' z; cases z
      | cons d l ih=>
       intro S S' z
       rw [zbj] at z
       split at z
       ·cases z
       ·split at z
        ·exact ih _ _ z
        ·exact ih _ _ z
        ·cases z
        ·cases z
        ·cases z
     exact this _ _ _)
   | ct S'=>
    exact absurd q (by
     have:∀ (l:List D) (S:FSt) S',zbj mg mb l S≠.ct S':=by
      intro l
      induction l with
      | nil=>intro S S' z; cases z
      | cons d l ih=>
       intro S S' z
       rw [zbj] at z
       split at z
       ·cases z
       ·split at z
        ·exact ih _ _ z
        ·exact ih _ _ z
        ·cases z
        ·cases z
        ·cases z
     exact this _ _ _)
  refine zzE (J:=Itl B.K a) (its:=xs) hg hb (fun σ' S' _ _ _=>S'[j]? = some (some (.lk xs))∧σ'[j]? = some (some (.ref a))) ?_ ?_ ?_ r0 ⟨sj,hv⟩ h0
  ·intro σ S H F os σ' S' H' F' os' r r' st z
   obtain ⟨k1,k2⟩:=st.lok j xs z.1
   exact ⟨k1,k2.trans z.2⟩
  ·intro σ S H F os i d r z e
   obtain ⟨v,hv,a',vs,e1,eo,nf,hh,das⟩:=r.at' j _ z.1
   rw [z.2] at hv; cases hv; cases e1
   obtain ⟨v,e1,d1⟩:=das.get e
   refine ⟨⟨vs,v,.inl (.inl hh),e1⟩,fun x H3 y=>?_⟩
   obtain ⟨rfl,y⟩:=y
   have:=y vs (.inl (.inl hh))
   rw [e1] at this; cases this
   exact ⟨F,Al.refl,d1⟩
  ·intro σ S H F os i r z e
   obtain ⟨v,hv,a',vs,e1,eo,nf,hh,das⟩:=r.at' j _ z.1
   rw [z.2] at hv; cases hv; cases e1
   exact ⟨vs,.inl (.inl hh),by rw [das.length]; exact e⟩
 ·rename_i d e
  have hw:=zzF (B:=B) (zzD rfl (zzv j).fe) hg hb S σ H F os E r
  refine hw ?_
  unfold zuz
  have:mIt [j] (mSh (mV j)) S=zhW d:=by
   have hs:mSh (mV j) S=some (.sh d):=by simp [mSh,mV,e,SV.fr]
   simp [mIt,hs,zGT,e,SV.fr]
  rw [this]
  cases q:zhW d with
  | none=>rw [q] at h; exact h.elim
  | some its=>rw [q] at h; exact h
 ·rename_i xss e
  have nl:[j].any (zk9 S)=false:=by simp only [List.any_cons,List.any_nil,Bool.or_false,zk9,e]; rfl
  have hf:frzs [j] S=S.set j (some (.sh (.lst (xss.map D.lst)))):=by simp [frzs,zFs,e,SV.fr]
  have hw:=zzF (B:=B) (zzD rfl (zzv j).fe) hg hb (frzs [j] S) σ H _ _ E (r.frz [j])
  refine hw ?_
  have hj:j < S.length:=(List.getElem?_eq_some_iff.mp e).1
  have e2:(S.set j (some (SV.sh (.lst (xss.map D.lst)))))[j]? = some (some (.sh (.lst (xss.map D.lst)))):=by simp [List.getElem?_set,hj]
  unfold zuz
  have:mIt [j] (mSh (mV j)) (frzs [j] S)=some (xss.map D.lst):=by
   rw [hf]
   have hs:mSh (mV j) (S.set j (some (SV.sh (.lst (xss.map D.lst)))))=some (.sh (.lst (xss.map D.lst))):=by simp only [mSh,mV,e2]; rfl
   simp only [mIt,hs,Option.bind_some,zGT,e2,List.all_cons,List.all_nil,Bool.and_true,or_true,if_true]
   rfl
  rw [this,hf]
  rw [← hf]
  have h':=h.later (zmk r nl)
  rw [hf] at h' ⊢
  exact h'
 ·exact h.elim
end
def zdm (mc:FSt→Option Bool) (mb:FSt→Fl):Nat→FSt→Fl
 | 0,_=>.bad
 | n+1,S=>match mc S with
  | none=>.bad
  | some false=>.nx S
  | some true=>match mb S with
   | .nx S1=>zdm mc mb n S1
   | .ct S1=>zdm mc mb n S1
   | .bk S1=>.nx S1
   | .rt x=>.rt x
   | .bad=>.bad
open Classical in
noncomputable def zol (mc:FSt→Option Bool) (mb:FSt→Fl):FSt→Fl:=fun S=>if h:∃ n,zdm mc mb n S≠.bad then zdm mc mb (choose h) S else .bad
theorem zja {mc:FSt→Option Bool} {mb:FSt→Fl}:∀ (n k:Nat) (S:FSt),zdm mc mb n S≠.bad→zdm mc mb (n+k) S=zdm mc mb n S
 | 0,_,_,h=>absurd rfl h
 | n+1,k,S,h=>by
  rw [show n+1+k=(n+k)+1 by omega,zdm,zdm]
  rw [zdm] at h
  cases q:mc S with
  | none=>rfl
  | some c=>cases c with
   | false=>rfl
   | true=>
    rw [q] at h
    dsimp only at h ⊢
    cases q2:mb S with
    | nx S1=>rw [q2] at h; exact zja n k S1 h
    | ct S1=>rw [q2] at h; exact zja n k S1 h
    | bk S1=>rfl
    | rt x=>rfl
    | bad=>rfl
theorem zzG {mc:FSt→Option Bool} {mb:FSt→Fl} {n:Nat} {S:FSt} (h:zdm mc mb n S≠.bad):zol mc mb S=zdm mc mb n S:=by
 unfold zol
 have hx:∃ n,zdm mc mb n S≠.bad:=⟨n,h⟩
 rw [dif_pos hx]
 have h1:=Classical.choose_spec hx
 have e1:=zja _ n S h1
 have e2:=zja _ (Classical.choose hx) S h
 rw [Nat.add_comm] at e2
 exact e1.symm.trans e2
theorem zBY {B:Bk} {tt:TT} {mc:FSt→Option Bool} {tb:TS} {mb:FSt→Fl} (hc:FT B tt mc) (hb:FS B tb mb):FS B (zCD tt tb) (zol mc mb):=by
 intro S σ H F os E r h
 unfold zol at h
 split at h
 case isFalse=>exact h.elim
 case isTrue hx=>
  generalize Classical.choose hx=n at h
  refine ⟨fun m σ' H'=>∃ S' F' os',Rep B H' F' σ' S' os'∧Lands B σ' S' H' F' os' E (zdm mc mb m S'),⟨n,S,F,os,r,h⟩,?_⟩
  rintro m σ1 H1 ⟨S1,F1,os1,r1,h1⟩
  cases m with
  | zero=>exact h1.elim
  | succ m=>
   rw [zdm] at h1
   cases q:mc S1 with
   | none=>rw [q] at h1; exact h1.elim
   | some c=>
    rw [q] at h1
    refine hc S1 σ1 H1 F1 os1 _ c r1 q fun H2 F2 al r2=>?_
    cases c with
    | false=>rw [if_neg Bool.false_ne_true]; exact h1 σ1 H2 F2 os1 al.step r2
    | true=>
     rw [if_pos rfl]
     dsimp only at h1
     refine ⟨fun σ' H'=>∃ S' F' os',Rep B H' F' σ' S' os'∧Lands B σ' S' H' F' os' E (zdm mc mb m S'),fun σ' H' n=>⟨m,Nat.lt_succ_self m,n⟩,?_⟩
     refine hb S1 σ1 H2 F2 os1 _ r2 ?_
     cases e2:mb S1 with
     | nx S3=>
      rw [e2] at h1
      intro σ' H' F' os' st r'
      exact ⟨S3,F',os',r',h1.later (al.step.trans st)⟩
     | ct S3=>
      rw [e2] at h1
      intro σ' H' F' os' st r'
      exact ⟨S3,F',os',r',h1.later (al.step.trans st)⟩
     | bk S3=>
      rw [e2] at h1
      intro σ' H' F' os' st r'
      exact h1 σ' H' F' os' (al.step.trans st) r'
     | rt x=>rw [e2] at h1; exact h1.later al.step
     | bad=>rw [e2] at h1; exact h1.elim
def zaD (m:FSt→Fl) (n k:Nat) (ds:List D):Option SV:=if ds.length=n then (match m (ds.map (fun d=>some (.sh d))++List.replicate (k-n) none) with
 | .nx _=>some (.sh .non)
 | .rt x=>some x
 | _=>none) else none
theorem zBZ {m:FSt→Fl} {n k:Nat} {ds:List D} {z:SV} (h:zaD m n k ds=some z):ds.length=n:=by
 unfold zaD at h
 split at h
 ·assumption
 ·cases h
theorem zzH {B:Bk} {H:Hp} {G:Addr→Prop} {N:List Str} {vs:List V} {ds:List D} (hg:∀ b,G b→H b≠none) (da:DAs B H G vs ds) (hn:vs.length≤N.length) :
  Rep B H G (zm7 N vs) (ds.map (fun d=>some (.sh d))++List.replicate (N.length-ds.length) none) (fun _=>[]):=by
 refine ⟨fun i x h=>?_,fun i _=>rfl,fun i j a e=>absurd e (by simp),hg,?_⟩
 ·by_cases hi:i < ds.length
  ·rw [List.getElem?_append_left (by simpa using hi),List.getElem?_map] at h
   cases q:ds[i]? with
   | none=>rw [q] at h; cases h
   | some d=>
    rw [q] at h; cases h
    obtain ⟨v,e,da'⟩:=da.get q
    refine ⟨v,?_,rfl,da'⟩
    unfold zm7
    rw [List.getElem?_append_left (by simp; rw [da.length]; exact hi),List.getElem?_map,e]; rfl
  ·rw [List.getElem?_append_right (by simpa using hi)] at h
   rw [List.getElem?_replicate] at h
   split at h <;> cases h
 ·unfold zm7
  have:=da.length
  simp
  omega
theorem zK9 {CX : CXT} {P : Program} {w : World} {K : W.Frag} {mg : Str → Option Value} {base : Heap} {k : Nat} {f : Addr} {name qual : Str} {params : Arguments} {body : List Stmt} {scope : Scope} {dV kV doc pm cdv ct oc : Value} {an od : Option Addr}
    {osl : Array (Option Value)} {N ps : List Str} {B : Bk} {m : FSt → Fl} (lk : K.lookup f = some ⟨oc, od, .func (W.fnOf name qual params body scope dV kV doc pm an cdv ct), osl⟩) (hcd : W.codeIn K cdv qual = true) (S : FnScope N ps scope)
    (hbody : ∀ (A : Around) (outer : List Env) (s : Shared) (H : Hp) (E : XK), Room k (A.deeper (envOfC qual scope s.heap.objs.size f cdv)) →
      ∃ t, PSs (zBy CX P w K mg base N qual scope f cdv A outer s H E) body t ∧ FS B t m) :
    FnOk P w K mg base CX (k + 1) f (W.fnOf name qual params body scope dV kV doc pm an cdv ct) ps (SpF B ps.length (zaD m ps.length N.length)) := by
  have hpl : ps.length ≤ N.length := by have := congrArg List.length S.pre; rw [List.length_take] at this; omega
  refine zGc lk hcd S (fun vs H Q E h => h.1) fun A outer s H vs Q E hr ⟨hl, G, ds, z, hg, da, hz, post⟩ => ?_
  obtain ⟨t, ht, hf⟩ := hbody A outer s H E hr
  refine ⟨t, ht, hf _ _ H G (fun _ => []) _ (zzH hg da (by omega)) ?_⟩
  have hdl : ds.length = ps.length := by rw [← da.length]; exact hl
  unfold zaD at hz
  rw [if_pos hdl] at hz
  rw [hdl]
  have done : ∀ {H' : Hp} {F' : Addr → Prop} {o : List Addr} {v : V} {x : SV}, FStepR H G (fun _ => []) H' F' o → VA B H' F' v x o → z = x → Q v H' := by
    intro H' F' o v x st va e
    subst e
    refine post v H' F' o ⟨fun b u h => st.keep b u h (fun i e => absurd e (by simp)), st.up, fun b h => ?_⟩ va fun b h => ?_
    · rcases st.new b h with q | q | ⟨i, q⟩ | q
      · exact .inl q
      · exact .inr (.inl ⟨q, st.fd b h⟩)
      · simp at q
      · exact .inr (.inr q)
    · rcases st.own b h with q | ⟨i, q⟩
      · exact q
      · simp at q
  cases q : m (ds.map (fun d => some (.sh d)) ++ List.replicate (N.length - ps.length) none) with
  | nx S' =>
    rw [q] at hz
    intro σ' H' F' os' st r'
    exact done (v := .non) (x := .sh .non) ⟨st.keep, st.up, st.new, fun b e => absurd e (by simp), r'.fd⟩ ⟨rfl, .non⟩ (Option.some.inj hz).symm
  | rt x =>
    rw [q] at hz
    intro v H' F' o st va
    exact done st va (Option.some.inj hz).symm
  | bk S' => rw [q] at hz; cases hz
  | ct S' => rw [q] at hz; cases hz
  | bad => rw [q] at hz; cases hz
end L2
namespace L2
open PySem PySem.Spec PyProof.Rows
def zcN (mg:D→FSt→Option FSt) (mt:FSt→Option Bool) (me:FSt→Option D):List D→FSt→Option (List D)
 | [],_=>some []
 | d :: r,S=>(mg d S).bind fun S1=>(mt S1).bind fun c=>if c=true then (me S1).bind fun x=>(zcN mg mt me r S1).map fun xs=>x :: xs else zcN mg mt me r S1
@[simp] def zx2 (own:Nat) (fi:List Nat) (S:FSt):FSt:=List.replicate own none++fi.map fun j=>(S[j]?.join).map fun x=>SV.sh x.fr
@[simp] def zdn (own:Nat) (fi:List Nat) (mi:FSt→Option (List D)) (mg:D→FSt→Option FSt) (mt:FSt→Option Bool) (me:FSt→Option D):FSt→Option SV:=fun S=>
 (mi S).bind fun its=>if its.length≤sizeLine then (zcN mg mt me its (zx2 own fi S)).map SV.li else none
@[simp] def zdo:FSt→Option Bool:=fun _=>some true
section
variable {B:Bk} {wi:TI} {mi:FSt→Option (List D)} {g:TG} {mg:D→FSt→Option FSt} {tt:TT} {mt:FSt→Option Bool} {te:TE} {me:FSt→Option D} {own:Nat} {fi L:List Nat}
theorem zEo:FT B zGr zdo:=fun S σ H F os Q c r e k=>by cases e; exact k H F Al.refl r
def FIc (B:Bk) (wi:TI) (L:List Nat) (m:FSt→Option (List D)):Prop:=
 ∀ (S:FSt) (σ:St) (H:Hp) (F:Addr→Prop) (os:Nat→List Addr) (R:It→Hp→Prop) (its:List D),Rep B H F σ S os→m S=some its→
  (∀ J H' F',Al H F H' F'→Rep B H' F' σ S os→Walks B J H' (orF F' (osL os L)) its→R J H')→wi σ H R
theorem FI.c (h:FI B wi mi):FIc B wi [] mi:=fun S σ H F os R its r e k=>h S σ H F os R its r e fun J H' F' a r' w=>k J H' F' a r' fun H2 F2 k2 up=>w H2 F2 (fun b o f e=>k2 b o (.inl f) e) fun b f=>up b (.inl f)
@[simp] def zmn (m:FSt→Option D):FSt→Option (List D):=fun S=>(m S).bind zhW
theorem zEp {K:W.Frag} (hK:B.K=K) (he:FD B te L me):FIc B (zFr K te) L (zmn me):=by
 subst hK
 intro S σ H F os R its r e k
 obtain ⟨d,ed,ef⟩:=zcZ e
 cases d with
 | lst ds=>
  cases ef
  refine .inl (he S σ H F os _ _ r ed fun v H' F' al r' da=>?_)
  cases da with
  | lst h q=>exact ⟨_,rfl,⟨_,h.sq⟩,k _ H' F' al r' (zml (fun H2 kk=>.inl (.inl (kk _ _ h.1 h.2))) q)⟩
 | fz ds=>
  cases ef
  refine .inl (he S σ H F os _ _ r ed fun v H' F' al r' da=>?_)
  cases da with
  | fz h q=>exact ⟨_,rfl,⟨_,h.sq⟩,k _ H' F' al r' (zml (fun H2 kk=>(h.keep kk fun _ z=>z).sq) q)⟩
 | tup ds=>
  cases ef
  refine .inr (.inl (he S σ H F os _ _ r ed fun v H' F' al r' da=>?_))
  cases da with
  | tup h q=>exact ⟨_,rfl,⟨_,h.sq⟩,k _ H' F' al r' (zmm (fun H2 kk=>.inl (.inl (kk _ _ h.1 h.2))) q)⟩
 | kt ds=>
  cases ef
  refine .inr (.inl (he S σ H F os _ _ r ed fun v H' F' al r' da=>?_))
  cases da with
  | kt h q=>exact ⟨_,rfl,⟨_,h.sq⟩,k _ H' F' al r' (zmm (fun H2 kk=>h.sq) q)⟩
 | str z=>
  cases ef
  refine .inr (.inr (he S σ H F os _ _ r ed fun v H' F' al r' da=>?_))
  cases da
  exact ⟨_,rfl,k _ H' F' al r' (zux z)⟩
 | _=>cases ef
theorem zx3 {H:Hp} {F:Addr→Prop} {σ:St} {S:FSt} {os:Nat→List Addr} (r:Rep B H F σ S os) (own:Nat) (fi Li:List Nat):Rep B H (orF F (osL os (fi++Li))) (zmh own fi σ) (zx2 own fi S) (fun _=>[]):=by
 refine ⟨fun i x h=>?_,fun i _=>rfl,fun i j a e=>absurd e (by simp),r.gd (fi++Li),by simp [zmh,zx2]⟩
 unfold zx2 at h
 by_cases hi:i < own
 ·rw [List.getElem?_append_left (by simpa using hi),List.getElem?_replicate,if_pos hi] at h
  cases h
 ·rw [List.getElem?_append_right (by simpa using hi),List.length_replicate,List.getElem?_map] at h
  unfold zmh
  rw [List.getElem?_append_right (by simpa using hi),List.length_replicate,List.getElem?_map]
  cases q:fi[i-own]? with
  | none=>rw [q] at h; cases h
  | some j=>
   rw [q] at h
   simp only [Option.map_some,Option.some.injEq] at h
   cases e:S[j]? with
   | none=>rw [e] at h; cases h
   | some z=>cases z with
    | none=>rw [e] at h; cases h
    | some y=>
     rw [e] at h; cases h
     obtain ⟨v,h1,h2⟩:=r.at' j y e
     refine ⟨v,by simp [h1],rfl,h2.frozen (fun b z=>.inl z) fun b z=>.inr ⟨j,List.mem_append_left _ (List.mem_of_getElem? q),z⟩⟩
theorem zzI {Li:List Nat} (hi:FIc B wi Li mi) (hg:FG B g mg) (ht:FT B tt mt) (he:FD B te L me):FE B (zDT wi g tt te own fi) (fi++Li) (zdn own fi mi mg mt me):=by
 intro S σ H F os Q x r e k
 obtain ⟨its,ei,ef⟩:=zcZ e
 split at ef
 case isFalse=>cases ef
 case isTrue hz=>
 cases ec:zcN mg mt me its (zx2 own fi S) with
 | none=>rw [ec] at ef; cases ef
 | some ds=>
 rw [ec] at ef; cases ef
 refine hi S σ H F os _ its r ei fun J H1 F1 al r1 wk l hl=>?_
 have rc:=zx3 r1 own fi Li
 have al0:Al H1 (orF F1 (osL os (fi++Li))) (upd H1 l (.lst [])) (orF F1 (osL os (fi++Li))):=zmi hl
 have rc0:=rc.mono al0
 have nl0:¬ orF F1 (osL os (fi++Li)) l:=fun z=>r1.gd (fi++Li) l z hl
 refine ⟨fun i m σ' H'=>i≤its.length∧m=its.length-i∧∃ S' G xs acc ze5,Rep B H' G σ' S' (fun _=>[])∧Al H1 (orF F1 (osL os (fi++Li))) H' G∧H' l=some (.lst xs)∧¬ G l∧DAs B H' G xs acc∧acc.length≤i∧
   zcN mg mt me (its.drop i) S'=some ze5∧acc++ze5=ds,
  ⟨_,Nat.zero_le _,rfl,_,_,[],[],ds,rc0,al0,zbI,nl0,.nil,Nat.zero_le _,by simpa using ec,rfl⟩,?_⟩
 rintro i m σ' H' ⟨hi,hm,S',G,xs,acc,ze5,r',a',hl',nl',da',la,ec',ea⟩
 have w2:=wk H' G (fun b o f e=>a'.same b o e) (fun b f=>a'.up b (zm9 (fun _ z=>z) (fun i h=>List.mem_append_right _ h) b f))
 cases q:its[i]? with
 | none=>
  have hle:its.length≤i:=List.getElem?_eq_none_iff.mp q
  rw [List.drop_eq_nil_of_le hle] at ec'
  cases ec'
  rw [List.append_nil] at ea
  subst ea
  refine .inl ⟨w2.2 i hle,?_⟩
  have a1:Al H1 (orF F1 (osL os (fi++Li))) H' G:=a'
  have va:VA B H' G (.ref l) (.li acc) [l]:=⟨l,xs,rfl,rfl,nl',hl',da'⟩
  have fr1:∀ b,b∈[l]→H1 b=none:=fun b hb=>by rw [List.mem_singleton.mp hb]; exact hl
  obtain ⟨F2,al2,r2,va2⟩:=zi9 r1 a1 va fr1
  refine k (.ref l) H' F2 [l] (al.trans al2) r2 va2 fun b hb=>?_
  cases qq:H b with
  | none=>rfl
  | some w=>have:=fr1 b hb; rw [al.same b w qq] at this; cases this
 | some d=>
  have hlt:i < its.length:=(List.getElem?_eq_some_iff.mp q).1
  have hd:its.drop i=d :: its.drop (i+1):=by
   rw [List.drop_eq_getElem_cons hlt]
   have:its[i]=d:=(List.getElem?_eq_some_iff.mp q).2
   rw [this]
  rw [hd,zcN] at ec'
  obtain ⟨go,yl⟩:=w2.1 i d q
  refine .inr ⟨go,fun σ'' H''=>i+1≤its.length∧∃ S' G xs acc ze5,Rep B H'' G σ'' S' (fun _=>[])∧Al H1 (orF F1 (osL os (fi++Li))) H'' G∧H'' l=some (.lst xs)∧¬ G l∧DAs B H'' G xs acc∧acc.length≤i+1∧
   zcN mg mt me (its.drop (i+1)) S'=some ze5∧acc++ze5=ds,fun σ'' H'' n=>⟨its.length-(i+1),by omega,n.1,rfl,n.2⟩,fun x H2 y=>?_⟩
  obtain ⟨G2,al2,da2⟩:=yl x H2 y
  have r2:=r'.mono al2
  obtain ⟨S1,e1,ec'⟩:=zcZ ec'
  obtain ⟨c,e2,ec'⟩:=zcZ ec'
  refine hg S' σ' H2 G2 _ x d S1 _ r2 da2 e1 fun σ2 os2 st2 r3=>?_
  have nos:∀ j,os2 j=[]:=fun j=>by
   cases qq:os2 j with
   | nil=>rfl
   | cons b _=>
    rcases st2.own j b (by rw [qq]; simp) with z | ⟨_,z⟩
    ·exact absurd z (r3.alive (i:=j) (a:=b) (by rw [qq]; simp)).1
    ·simp at z
  have eos:os2=fun _=>[]:=funext nos
  subst eos
  refine ht S1 σ2 H2 G2 _ _ c r3 e2 fun H3 G3 al3 r4=>?_
  have hl3:H3 l=some (.lst xs):=al3.same l _ (al2.same l _ hl')
  have nl3:¬ G3 l:=fun z=>by
   rcases al3.new l z with z | z | ⟨ys,z⟩
   ·rcases al2.new l z with z | z | ⟨ys,z⟩
    ·exact nl' z
    ·rw [hl'] at z; cases z.1
    ·rw [hl'] at z; cases z
   ·rw [al2.same l _ hl'] at z; cases z.1
   ·rw [al2.same l _ hl'] at z; cases z
  have da3:DAs B H3 G3 xs acc:=da'.mono (fun b o f e=>al3.same b o (al2.same b o e)) fun b f=>al3.up b (al2.up b f)
  cases c with
  | false=>
   rw [if_neg Bool.false_ne_true] at ec' ⊢
   exact ⟨hlt,S1,G3,xs,acc,ze5,r4,(a'.trans al2).trans al3,hl3,nl3,da3,by omega,ec',ea⟩
  | true=>
   rw [if_pos rfl] at ec' ⊢
   obtain ⟨w,ew,ec'⟩:=zcZ ec'
   cases er:zcN mg mt me (its.drop (i+1)) S1 with
   | none=>rw [er] at ec'; cases ec'
   | some rest'=>
    rw [er] at ec'; cases ec'
    refine he S1 σ2 H3 G3 _ _ w r4 ew fun y H4 G4 al4 r5 dy=>?_
    have hl4:H4 l=some (.lst xs):=al4.same l _ hl3
    have nl4:¬ G4 l:=fun z=>by
     rcases al4.new l z with z | z | ⟨ys,z⟩
     ·exact nl3 z
     ·rw [hl3] at z; cases z.1
     ·rw [hl3] at z; cases z
    have da4:DAs B H4 G4 xs acc:=da3.mono (fun b o f e=>al4.same b o e) al4.up
    have dy':DA B H4 G4 y w:=dy.mono (fun _ _ _ e=>e) fun b z=>by
     rcases z with z | ⟨_,_,z⟩
     ·exact z
     ·simp at z
    refine ⟨xs,hl4,by rw [da4.length]; omega,hlt,S1,G4,xs++[y],acc++[w],rest',?_,?_,zbI,nl4,?_,?_,er,by simpa using ea⟩
    ·refine ⟨fun j x h=>?_,r5.out,r5.inj,fun b f=>?_,r5.len⟩
     ·obtain ⟨v,h1,h2⟩:=r5.at' j x h
      exact ⟨v,h1,h2.mono (fun b u f e=>by rw [zbJ]; exact e; rintro rfl; exact nl4 f) (fun b u hb=>absurd hb (by simp)) (fun _ f=>f) fun b hb=>absurd hb (by simp)⟩
     ·unfold upd
      split
      ·simp
      ·exact r5.fd b f
    ·have a4:=((a'.trans al2).trans al3).trans al4
     refine ⟨fun b o e=>?_,a4.up,fun b z=>?_⟩
     ·rw [zbJ (zcQ e hl)]; exact a4.same b o e
     ·rcases a4.new b z with z | z | z
      ·exact .inl z
      ·refine .inr (.inl ⟨z.1,?_⟩)
       unfold upd
       split
       ·simp
       ·exact z.2
      ·exact .inr (.inr z)
    ·exact (da4.append (.cons dy' .nil)).mono (fun b u f e=>by rw [zbJ]; exact e; rintro rfl; exact nl4 f) fun _ f=>f
    ·simp; omega
end
end L2
namespace L2
open PySem PySem.Spec PyProof.Rows
@[simp] def fI {α:Type} (f:Int→Int→Option α):D→D→Option α
 | .int i,.int j=>f i j
 | _,_=>none
@[simp] def fI1 {α:Type} (f:Int→Option α):D→Option α
 | .int i=>f i
 | _=>none
section
variable {B:Bk}
theorem zvI {α:Type} {f:Int→Int→Option α} {a b:D} {z:α} (h:fI f a b=some z):∃ i j,a=.int i∧b=.int j∧f i j=some z:=by
 unfold fI at h
 split at h
 ·exact ⟨_,_,rfl,rfl,h⟩
 ·cases h
theorem zpH {g:Int→Int→V} {gd:Int→Int→D} (h:∀ i j,Sc (g i j) (gd i j)):OpD B (rI0 g) (fI fun i j=>some (gd i j)):=by
 intro H G x y dx dy z Q hx hy e k
 obtain ⟨i,j,rfl,rfl,e⟩:=zvI e
 cases e; cases hx; cases hy
 exact ⟨i,j,rfl,rfl,k _ H G Al.refl (h i j).da⟩
theorem zI3 {C:Int→Int→Prop} [∀ i j,Decidable (C i j)] {g:Int→Int→V} {gd:Int→Int→D} (h:∀ i j,Sc (g i j) (gd i j)):OpD B (rI C g) (fI fun i j=>if C i j then some (gd i j) else none):=by
 intro H G x y dx dy z Q hx hy e k
 obtain ⟨i,j,rfl,rfl,e'⟩:=zvI e
 clear e
 split at e'
 ·cases e'; cases hx; cases hy
  exact ⟨i,j,rfl,rfl,by assumption,k _ H G Al.refl (h i j).da⟩
 ·cases e'
theorem zI4 {g:Int→V} {gd:Int→D} (h:∀ i,Sc (g i) (gd i)):UnD B (rU g) (fI1 fun i=>some (gd i)):=by
 intro H G x dx z Q hx e k
 unfold fI1 at e
 split at e
 ·cases e; cases hx; exact ⟨_,rfl,k _ H G Al.refl (h _).da⟩
 ·cases e
end
theorem zzJ:∃ f:Int→Int→Bool,∀ i j,f i j=true↔CMul i j:=⟨fun i j=>(decide (-(2 ^ 64) < i)&&decide (i < 2 ^ 64))||(decide (-(2 ^ 64) < j)&&decide (j < 2 ^ 64)),fun i j=>by simp only [CMul,Bool.or_eq_true,Bool.and_eq_true,decide_eq_true_eq]⟩
theorem zzK:∃ f:Int→Int→Bool,∀ i j,f i j=true↔zFY i j:=⟨fun i j=>decide (0≤j)&&decide (j≤1000000)&&decide (i.natAbs < 2 ^ 64),fun i j=>by simp only [zFY,Bool.and_eq_true,decide_eq_true_eq,and_assoc]⟩
theorem zzL:∃ f:Int→Bool,∀ j,f j=true↔0 < j∧j < 2 ^ 200:=⟨fun j=>decide (0 < j∧j < 2 ^ 200),fun _=>decide_eq_true_iff⟩
noncomputable def zsA:Int→Int→Bool:=Classical.choose zzJ
noncomputable def zB0:Int→Int→Bool:=Classical.choose zzK
noncomputable def zzM:Int→Bool:=Classical.choose zzL
theorem zpt {i j:Int}:zsA i j=true↔CMul i j:=Classical.choose_spec zzJ i j
theorem zsB {i j:Int}:zB0 i j=true↔zFY i j:=Classical.choose_spec zzK i j
theorem zxl {j:Int}:zzM j=true↔0 < j∧j < 2 ^ 200:=Classical.choose_spec zzL j
@[simp] theorem zrR {i j:Int} (h1:-18446744073709551616 < i) (h2:i < 18446744073709551616):zsA i j=true:=zpt.mpr (.inl ⟨by omega,by omega⟩)
@[simp] theorem zKG {i j:Int} (h1:-18446744073709551616 < j) (h2:j < 18446744073709551616):zsA i j=true:=zpt.mpr (.inr ⟨by omega,by omega⟩)
@[simp] theorem zpI {j:Int} (h1:0 < j) (h2:j < 1606938044258990275541962092341162602522202993782792835301376):zzM j=true:=zxl.mpr ⟨h1,by omega⟩
theorem zCQ {C:Int→Int→Prop} {cb:Int→Int→Bool} (hc:∀ i j,cb i j=true→C i j) {B:Bk} {g:Int→Int→V} {gd:Int→Int→D} (h:∀ i j,Sc (g i j) (gd i j)):OpD B (rI C g) (fI fun i j=>if cb i j=true then some (gd i j) else none):=by
 intro H G x y dx dy z Q hx hy e k
 obtain ⟨i,j,rfl,rfl,e'⟩:=zvI e
 clear e
 split at e'
 ·rename_i hb
  cases e'; cases hx; cases hy
  exact ⟨i,j,rfl,rfl,hc i j hb,k _ H G Al.refl (h i j).da⟩
 ·cases e'
abbrev zGW:D→D→Option D:=fI fun i j=>some (.int (i-j))
noncomputable abbrev zjb:D→D→Option D:=fI fun i j=>if zzM j=true then some (.int (i / j)) else none
abbrev zgw:D→D→Option D:=fI fun i j=>if 0 < j then some (.int (i%j)) else none
noncomputable abbrev zEq:D→D→Option D:=fI fun i j=>if zB0 i j=true then some (.int (i*2 ^ j.toNat)) else none
abbrev zIi:D→D→Option D:=fI fun i j=>some (.int (Builtin.bitAnd i j))
abbrev oOr:D→D→Option D:=fI fun i j=>some (.int (Builtin.bitOr i j))
abbrev oLt:D→D→Option D:=fI fun i j=>some (.bl (decide (i < j)))
abbrev oLe:D→D→Option D:=fI fun i j=>some (.bl (decide (i≤j)))
abbrev oGt:D→D→Option D:=fI fun i j=>some (.bl (decide (j < i)))
abbrev oGe:D→D→Option D:=fI fun i j=>some (.bl (decide (j≤i)))
abbrev zEr:D→Option D:=fI1 fun i=>some (.int (-i))
section
variable {B:Bk}
theorem zGX:OpD B (rI0 fun i j=>.int (i-j)) zGW:=zpH fun _ _=>.int _
theorem zgR:OpD B (rI (fun _ j=>0 < j∧j < 2 ^ 200) fun i j=>.int (i / j)) zjb:=zCQ (fun _ _ h=>zxl.mp h) fun _ _=>.int _
theorem zcs:OpD B (rI (fun _ j=>0 < j) fun i j=>.int (i%j)) zgw:=zI3 fun _ _=>.int _
theorem zCR:OpD B (rI zFY fun i j=>.int (i*2 ^ j.toNat)) zEq:=zCQ (fun _ _ h=>zsB.mp h) fun _ _=>.int _
theorem zCS:OpD B (rI0 fun i j=>.int (Builtin.bitAnd i j)) zIi:=zpH fun _ _=>.int _
theorem zEs:OpD B (rI0 fun i j=>.int (Builtin.bitOr i j)) oOr:=zpH fun _ _=>.int _
theorem zI5:OpD B (rI0 fun i j=>.bl (decide (i < j))) oLt:=zpH fun _ _=>.bl _
theorem zI6:OpD B (rI0 fun i j=>.bl (decide (i≤j))) oLe:=zpH fun _ _=>.bl _
theorem zI7:OpD B (rI0 fun i j=>.bl (decide (j < i))) oGt:=zpH fun _ _=>.bl _
theorem zI8:OpD B (rI0 fun i j=>.bl (decide (j≤i))) oGe:=zpH fun _ _=>.bl _
theorem zGY:UnD B (rU fun i=>.int (-i)) zEr:=zI4 fun _=>.int _
end
@[simp] def zbV:D→D→Option SV
 | .int i,.int j=>some (.sh (.int (i+j)))
 | .str a,.str b=>if a.length+b.length≤sizeLine then some (.sh (.str (a++b))) else none
 | .lst xs,.lst ys=>if xs.length+ys.length≤sizeLine then some (.li (xs++ys)) else none
 | .tup xs,.tup ys=>if xs≠[]∧ys≠[]∧xs.length+ys.length≤sizeLine then some (.sh (.tup (xs++ys))) else none
 | _,_=>none
@[simp] noncomputable def zt8:D→D→Option SV
 | .int i,.int j=>if zsA i j=true then some (.sh (.int (i*j))) else none
 | .lst xs,.int k=>if -(2 ^ 63)≤k∧k < 2 ^ 63∧xs.length*k.toNat≤sizeLine then some (.li (List.replicate k.toNat xs).flatten) else none
 | _,_=>none
section
variable {B:Bk}
theorem DAs.rep {H:Hp} {F:Addr→Prop} {vs:List V} {ds:List D} (h:DAs B H F vs ds):∀ n,DAs B H F (List.replicate n vs).flatten (List.replicate n ds).flatten
 | 0=>.nil
 | n+1=>by simpa [List.replicate_succ] using h.append (DAs.rep h n)
theorem zom {H:Hp} {G:Addr→Prop} {p:Addr} {vs:List V} {ds:List D} {Q:VK} (hg:∀ b,G b→H b≠none) (hp:H p=none) (da:DAs B H G vs ds)
  (k:∀ v H' G' o,Al H G H' G'→VA B H' G' v (.li ds) o→(∀ a,a∈o→H a=none)→Q v H'):Q (.ref p) (upd H p (.lst vs)):=by
 have al:=zmi (F:=G) (u:=.lst vs) hp
 exact k (.ref p) _ G [p] al ⟨p,vs,rfl,rfl,fun z=>hg p z hp,zbI,da.mono (fun b o _ e=>al.same b o e) fun _ z=>z⟩ fun a ha=>by rw [List.mem_singleton.mp ha]; exact hp
theorem zpJ {H:Hp} {G:Addr→Prop} {p:Addr} {vs:List V} {ds:List D} {Q:VK} (hp:H p=none) (da:DAs B H G vs ds)
  (k:∀ v H' G' o,Al H G H' G'→VA B H' G' v (.sh (.tup ds)) o→(∀ a,a∈o→H a=none)→Q v H'):Q (.ref p) (upd H p (.tup vs)):=by
 have al:=zuv (F:=G) (u:=.tup vs) hp
 exact k (.ref p) _ _ [] al ⟨rfl,.tup ⟨.inr rfl,zbI⟩ (da.mono (fun b o _ e=>al.same b o e) fun _ z=>.inl z)⟩ fun a ha=>absurd ha (by simp)
theorem zI9 {K:W.Frag} (hK:B.K=K):OpE B (zDX K) zbV:=by
 subst hK
 intro H G x y dx dy z Q hg hx hy e k
 unfold zbV at e
 split at e
 ·cases e; cases hx; cases hy
  exact .inl ⟨_,_,rfl,rfl,k _ H G [] Al.refl ⟨rfl,.int _⟩ (by simp)⟩
 ·split at e
  ·cases e; cases hx; cases hy
   exact .inr (.inl ⟨_,_,rfl,rfl,by assumption,k _ H G [] Al.refl ⟨rfl,.str _⟩ (by simp)⟩)
  ·cases e
 ·split at e
  ·rename_i hl
   cases e
   cases hx with
   | lst h1 r1=>cases hy with
    | lst h2 r2=>exact .inr (.inr (.inl ⟨_,_,_,_,rfl,rfl,h1.2,h2.2,by rw [r1.length,r2.length]; exact hl,fun p hp=>zom hg hp (r1.append r2) k⟩))
  ·cases e
 ·split at e
  ·rename_i hl
   cases e
   cases hx with
   | tup h1 r1=>cases hy with
    | tup h2 r2=>
     have nx:∀ {vs:List V} {ds:List D},DAs B H G vs ds→ds≠[]→vs≠[]:=fun r n z=>by subst z; cases r; exact n rfl
     exact .inr (.inr (.inr ⟨_,_,_,_,rfl,rfl,h1.sq,h2.sq,nx r1 hl.1,by rw [r1.length,r2.length]; exact hl.2.2,fun z=>absurd z (nx r2 hl.2.1),fun _ p hp=>zpJ hp (r1.append r2) k⟩))
  ·cases e
 ·cases e
theorem zJa:OpE B zGt zt8:=by
 intro H G x y dx dy z Q hg hx hy e k
 unfold zt8 at e
 split at e
 ·split at e
  ·rename_i hb
   cases e; cases hx; cases hy
   exact .inl ⟨_,_,rfl,rfl,zpt.mp hb,k _ H G [] Al.refl ⟨rfl,.int _⟩ (by simp)⟩
  ·cases e
 ·split at e
  ·rename_i hl
   cases e; cases hy
   cases hx with
   | lst h1 r1=>exact .inr ⟨_,_,_,rfl,rfl,h1.2,hl.1,hl.2.1,by rw [r1.length]; exact hl.2.2,fun p hp=>zom hg hp (r1.rep _) k⟩
  ·cases e
 ·cases e
end
mutual
def D.dat:D→Option PyData
 | .non=>some .none
 | .bl b=>some (.bool b)
 | .int i=>some (.int i)
 | .str x=>some (.str x)
 | .tup xs=>(D.dats xs).map .tuple
 | .kt xs=>(D.dats xs).map .tuple
 | .lst xs=>(D.dats xs).map .list
 | .fz xs=>(D.dats xs).map .list
 | _=>none
def D.dats:List D→Option (List PyData)
 | []=>some []
 | d :: r=>(D.dat d).bind fun p=>(D.dats r).map fun ps=>p :: ps
end
section
variable {B:Bk} {H:Hp} {F:Addr→Prop}
mutual
theorem DA.dat:∀ {v:V} {d:D} {p:PyData},DA B H F v d→d.dat=some p→DAt B.K H v p
 | _,_,_,.non,e=>by simp [D.dat] at e; subst e; exact .non
 | _,_,_,.bl b,e=>by simp [D.dat] at e; subst e; exact .bl b
 | _,_,_,.int i,e=>by simp [D.dat] at e; subst e; exact .int i
 | _,_,_,.str x,e=>by simp [D.dat] at e; subst e; exact .str x
 | _,_,_,.tup h r,e=>by
  simp only [D.dat,Option.map_eq_some_iff] at e
  obtain ⟨ps,e1,rfl⟩:=e
  exact .tup h.sq (DAs.dats r e1)
 | _,_,_,.kt h r,e=>by
  simp only [D.dat,Option.map_eq_some_iff] at e
  obtain ⟨ps,e1,rfl⟩:=e
  exact .tup h.sq (DAs.dats r e1)
 | _,_,_,.lst h r,e=>by
  simp only [D.dat,Option.map_eq_some_iff] at e
  obtain ⟨ps,e1,rfl⟩:=e
  exact .lst h.sq (DAs.dats r e1)
 | _,_,_,.fz h r,e=>by
  simp only [D.dat,Option.map_eq_some_iff] at e
  obtain ⟨ps,e1,rfl⟩:=e
  exact .lst h.sq (DAs.dats r e1)
 | _,_,_,.ty n,e=>by simp [D.dat] at e
 | _,_,_,.adr a,e=>by simp [D.dat] at e
 | _,_,_,.cls _,e=>by simp [D.dat] at e
 | _,_,_,.dK _ _ _ _,e=>by simp [D.dat] at e
 | _,_,_,.dT _ _ _ _,e=>by simp [D.dat] at e
 | _,_,_,.ins _ _ _ _,e=>by simp [D.dat] at e
theorem DAs.dats:∀ {vs:List V} {ds:List D} {ps:List PyData},DAs B H F vs ds→D.dats ds=some ps→DAts B.K H vs ps
 | _,_,_,.nil,e=>by simp [D.dats] at e; subst e; exact .nil
 | _,_,_,.cons h r,e=>by
  simp only [D.dats,Option.bind_eq_some_iff,Option.map_eq_some_iff] at e
  obtain ⟨p,e1,ps,e2,rfl⟩:=e
  exact .cons (DA.dat h e1) (DAs.dats r e2)
end
end
def shp (d:D):Option PyData:=d.dat.bind fun p=>if SeqAt.shaped p=true then some p else none
def oEq:D→D→Option D:=fun a b=>(shp a).bind fun p=>(shp b).bind fun q=>some (.bl (PyData.eqv p q))
def oNe:D→D→Option D:=fun a b=>(shp a).bind fun p=>(shp b).bind fun q=>some (.bl (!PyData.eqv p q))
theorem zd4 {d:D} {p:PyData} (h:shp d=some p):d.dat=some p∧SeqAt.shaped p=true:=by
 obtain ⟨q,e,h⟩:=zcZ h
 split at h
 ·cases h; exact ⟨e,by assumption⟩
 ·cases h
section
variable {B:Bk} {K:W.Frag}
theorem zJb (hK:B.K=K):OpD B (zKr K) oEq:=by
 subst hK
 intro H G x y dx dy z Q hx hy e k
 obtain ⟨p,q,e1,e2,e3⟩:=zsx e
 cases e3
 exact ⟨p,q,hx.dat (zd4 e1).1,hy.dat (zd4 e2).1,(zd4 e1).2,(zd4 e2).2,k _ H G Al.refl (.bl _)⟩
theorem zJc (hK:B.K=K):OpD B (zKs K) oNe:=by
 subst hK
 intro H G x y dx dy z Q hx hy e k
 obtain ⟨p,q,e1,e2,e3⟩:=zsx e
 cases e3
 exact ⟨p,q,hx.dat (zd4 e1).1,hy.dat (zd4 e2).1,(zd4 e1).2,(zd4 e2).2,k _ H G Al.refl (.bl _)⟩
def inB:D→D→Option Bool
 | .str a,.str b=>some (!(Builtin.Str.occurrences b a 0 b.length 1).isEmpty)
 | x,.lst ys=>(D.dats ys).bind fun ps=>(shp x).bind fun p=>if SeqAt.shaped (.list ps)=true then some (ps.any fun e=>PyData.eqv e p) else none
 | x,.fz ys=>(D.dats ys).bind fun ps=>(shp x).bind fun p=>if SeqAt.shaped (.list ps)=true then some (ps.any fun e=>PyData.eqv e p) else none
 | x,.tup ys=>(D.dats ys).bind fun ps=>(shp x).bind fun p=>if SeqAt.shaped (.list ps)=true then some (ps.any fun e=>PyData.eqv e p) else none
 | x,.kt ys=>(D.dats ys).bind fun ps=>(shp x).bind fun p=>if SeqAt.shaped (.list ps)=true then some (ps.any fun e=>PyData.eqv e p) else none
 | _,_=>none
def oIn:D→D→Option D:=fun x y=>(inB x y).map fun b=>.bl b
def zke:D→D→Option D:=fun x y=>(inB x y).map fun b=>.bl (!b)
theorem zzN {H:Hp} {G:Addr→Prop} {x y:V} {dx dy:D} {c:Bool} (hx:DA B H G x dx) (hy:DA B H G y dy) (e:inB dx dy=some c) :
  (∃ i j,x=.str i∧y=.str j∧c=(!(Builtin.Str.occurrences j i 0 j.length 1).isEmpty))∨∃ ds d,(DAt B.K H y (.list ds)∨DAt B.K H y (.tuple ds))∧DAt B.K H x d∧SeqAt.shaped (.list ds)=true∧SeqAt.shaped d=true∧c=(ds.any fun e=>PyData.eqv e d):=by
 have fin:∀ {ys:List D} {vs:List V},DAs B H G vs ys→(∀ ps,DAts B.K H vs ps→DAt B.K H y (.list ps)∨DAt B.K H y (.tuple ps))→((D.dats ys).bind fun ps=>(shp dx).bind fun p=>if SeqAt.shaped (.list ps)=true then some (ps.any fun e=>PyData.eqv e p) else none)=some c→
   ∃ ds d,(DAt B.K H y (.list ds)∨DAt B.K H y (.tuple ds))∧DAt B.K H x d∧SeqAt.shaped (.list ds)=true∧SeqAt.shaped d=true∧c=(ds.any fun e=>PyData.eqv e d):=fun r mk e=>by
  obtain ⟨ps,p,e1,e2,e3⟩:=zsx e
  split at e3
  ·cases e3
   exact ⟨ps,p,mk ps (r.dats e1),hx.dat (zd4 e2).1,by assumption,(zd4 e2).2,rfl⟩
  ·cases e3
 unfold inB at e
 split at e
 ·cases e; cases hx; cases hy; exact .inl ⟨_,_,rfl,rfl,rfl⟩
 ·cases hy with
  | lst h r=>exact .inr (fin r (fun ps q=>.inl (.lst h.sq q)) e)
 ·cases hy with
  | fz h r=>exact .inr (fin r (fun ps q=>.inl (.lst h.sq q)) e)
 ·cases hy with
  | tup h r=>exact .inr (fin r (fun ps q=>.inr (.tup h.sq q)) e)
 ·cases hy with
  | kt h r=>exact .inr (fin r (fun ps q=>.inr (.tup h.sq q)) e)
 ·cases e
theorem zJd (hK:B.K=K):OpD B (zKw K) oIn:=by
 subst hK
 intro H G x y dx dy z Q hx hy e k
 unfold oIn at e
 rw [Option.map_eq_some_iff] at e
 obtain ⟨c,e1,rfl⟩:=e
 rcases zzN hx hy e1 with ⟨i,j,rfl,rfl,rfl⟩ | ⟨ds,d,h1,h2,h3,h4,rfl⟩
 ·exact .inl ⟨i,j,rfl,rfl,k _ H G Al.refl (.bl _)⟩
 ·exact .inr ⟨ds,d,h1,h2,h3,h4,k _ H G Al.refl (.bl _)⟩
theorem zB1 (hK:B.K=K):OpD B (zzr K) zke:=by
 subst hK
 intro H G x y dx dy z Q hx hy e k
 unfold zke at e
 rw [Option.map_eq_some_iff] at e
 obtain ⟨c,e1,rfl⟩:=e
 rcases zzN hx hy e1 with ⟨i,j,rfl,rfl,rfl⟩ | ⟨ds,d,h1,h2,h3,h4,rfl⟩
 ·exact .inl ⟨i,j,rfl,rfl,k _ H G Al.refl (.bl _)⟩
 ·exact .inr ⟨ds,d,h1,h2,h3,h4,k _ H G Al.refl (.bl _)⟩
def D.isNon:D→Bool
 | .non=>true
 | _=>false
theorem DA.isNon {H:Hp} {G:Addr→Prop} {x:V} {d:D} (h:DA B H G x d):decide (x=.non)=d.isNon:=by cases h <;> rfl
def oIs:D→D→Option D:=fun a b=>if b.isNon=true then some (.bl a.isNon) else none
theorem zJe:OpD B (fun x y H Q=>y=.non∧Q (.bl (decide (x=.non))) H) oIs:=by
 intro H G x y dx dy z Q hx hy e k
 unfold oIs at e
 split at e
 ·cases e
  rename_i h
  rw [hx.isNon]
  refine ⟨?_,k _ H G Al.refl (.bl _)⟩
  rw [← hy.isNon] at h
  exact of_decide_eq_true h
 ·cases e
@[simp] def oIx:D→D→Option D
 | .lst xs,.int i=>atI xs i
 | .tup xs,.int i=>atI xs i
 | .kt xs,.int i=>atI xs i
 | .fz xs,.int i=>atI xs i
 | .str z,.int i=>if z.length≤sizeLine then (atI z.cps.toList i).map fun c=>.str ⟨#[c]⟩ else none
 | _,_=>none
theorem zsC {H:Hp} {G:Addr→Prop} {vs:List V} {ds:List D} {i:Int} {d:D} (r:DAs B H G vs ds) (e:atI ds i=some d):∃ v,atI vs i=some v∧DA B H G v d:=by
 unfold atI at e ⊢
 obtain ⟨j,e1,e2⟩:=zcZ e
 rw [r.length,e1]
 exact r.get e2
theorem zJf (hK:B.K=K):OpD B (rIx K) oIx:=by
 subst hK
 intro H G x y dx dy z Q hx hy e k
 unfold oIx at e
 split at e
 ·cases hy
  cases hx with
  | lst h r=>obtain ⟨v,e1,d1⟩:=zsC r e; exact .inl ⟨_,_,_,v,rfl,rfl,h.sq,e1,k v H G Al.refl d1⟩
 ·cases hy
  cases hx with
  | tup h r=>obtain ⟨v,e1,d1⟩:=zsC r e; exact .inr (.inl ⟨_,_,_,v,rfl,rfl,h.sq,e1,k v H G Al.refl d1⟩)
 ·cases hy
  cases hx with
  | kt h r=>obtain ⟨v,e1,d1⟩:=zsC r e; exact .inr (.inl ⟨_,_,_,v,rfl,rfl,h.sq,e1,k v H G Al.refl d1⟩)
 ·cases hy
  cases hx with
  | fz h r=>obtain ⟨v,e1,d1⟩:=zsC r e; exact .inl ⟨_,_,_,v,rfl,rfl,h.sq,e1,k v H G Al.refl d1⟩
 ·split at e
  ·rw [Option.map_eq_some_iff] at e
   obtain ⟨c,e1,rfl⟩:=e
   cases hx; cases hy
   exact .inr (.inr ⟨_,_,c,rfl,rfl,by assumption,e1,k _ H G Al.refl (.str _)⟩)
  ·cases e
 ·cases e
def zGZ (K:W.Frag):List V→Hp→VK→Prop:=fun xs H Q=>zGD K xs H Q∨∃ a kvs,xs=[V.ref a]∧H a=some (.dK kvs)∧Q (.int kvs.length) H
theorem zzO {X:Cx} (hK:X.K=K):CallR X (.builtin "len") (zGZ K):=(zzt hK).or zzb
@[simp] def zll:List D→Option SV
 | [.lst xs]=>some (.sh (.int xs.length))
 | [.tup xs]=>some (.sh (.int xs.length))
 | [.kt xs]=>some (.sh (.int xs.length))
 | [.fz xs]=>some (.sh (.int xs.length))
 | [.str z]=>if z.length≤sizeLine then some (.sh (.int z.length)) else none
 | [.dT kvs]=>some (.sh (.int kvs.length))
 | [.dK kvs]=>some (.sh (.int kvs.length))
 | _=>none
theorem zJg (hK:B.K=K):zna B (zGZ K) zll:=by
 subst hK
 intro H G vs ds z Q hg hd e k
 unfold zll at e
 split at e
 ·cases e
  obtain ⟨v,rfl,d1⟩:=hd.one
  cases d1 with
  | lst h r=>exact .inl (.inl ⟨_,_,rfl,.inl ⟨_,h.sq,rfl⟩,by rw [r.length]; exact k _ H G [] Al.refl ⟨rfl,.int _⟩ (by simp)⟩)
 ·cases e
  obtain ⟨v,rfl,d1⟩:=hd.one
  cases d1 with
  | tup h r=>exact .inl (.inl ⟨_,_,rfl,.inr ⟨_,h.sq,rfl⟩,by rw [r.length]; exact k _ H G [] Al.refl ⟨rfl,.int _⟩ (by simp)⟩)
 ·cases e
  obtain ⟨v,rfl,d1⟩:=hd.one
  cases d1 with
  | kt h r=>exact .inl (.inl ⟨_,_,rfl,.inr ⟨_,h.sq,rfl⟩,by rw [r.length]; exact k _ H G [] Al.refl ⟨rfl,.int _⟩ (by simp)⟩)
 ·cases e
  obtain ⟨v,rfl,d1⟩:=hd.one
  cases d1 with
  | fz h r=>exact .inl (.inl ⟨_,_,rfl,.inl ⟨_,h.sq,rfl⟩,by rw [r.length]; exact k _ H G [] Al.refl ⟨rfl,.int _⟩ (by simp)⟩)
 ·split at e
  ·cases e
   obtain ⟨v,rfl,d1⟩:=hd.one
   cases d1
   exact .inl (.inl ⟨_,_,rfl,⟨by assumption,rfl⟩,k _ H G [] Al.refl ⟨rfl,.int _⟩ (by simp)⟩)
  ·cases e
 ·cases e
  obtain ⟨v,rfl,d1⟩:=hd.one
  cases d1 with
  | @dT a kvs _ f h ek r=>
   have hl:=congrArg List.length ek
   rw [List.length_map,List.length_map] at hl
   exact .inl (.inr ⟨_,_,rfl,h,by rw [hl]; exact k _ H G [] Al.refl ⟨rfl,.int _⟩ (by simp)⟩)
 ·cases e
  obtain ⟨v,rfl,d1⟩:=hd.one
  cases d1 with
  | @dK a kvs _ f h ek r=>
   have hl:=congrArg List.length ek
   rw [List.length_map,List.length_map] at hl
   exact .inr ⟨_,_,rfl,h,by rw [hl]; exact k _ H G [] Al.refl ⟨rfl,.int _⟩ (by simp)⟩
 ·cases e
@[simp] def D.kind:D→Option String
 | .non=>some "NoneType"
 | .bl _=>some "bool"
 | .int _=>some "int"
 | .str _=>some "str"
 | .lst _=>some "list"
 | .tup _=>some "tuple"
 | .dK _=>some "dict"
 | .dT _=>some "dict"
 | _=>none
def zEt (t n:String):Option Bool:=if n∈["int","str","bool","list","tuple","dict"] then some (t==n||(t=="bool"&&n=="int")) else none
@[simp] def zJh:List D→Option SV
 | [d,.ty n]=>d.kind.bind fun t=>(zEt t n).map fun b=>.sh (.bl b)
 | _=>none
theorem DA.kind {H:Hp} {G:Addr→Prop} {v:V} {d:D} {t:String} (h:DA B H G v d) (e:d.kind=some t):TyOf B.K H v (.type t)∧t∈["NoneType","bool","int","str","list","tuple","dict"]:=by
 cases h with
 | non=>cases e; exact ⟨.non,by simp⟩
 | bl b=>cases e; exact ⟨.bl b,by simp⟩
 | int i=>cases e; exact ⟨.int i,by simp⟩
 | str x=>cases e; exact ⟨.str x,by simp⟩
 | lst h r=>cases e; exact ⟨.lst h.2,by simp⟩
 | tup h r=>cases e; exact ⟨.tup h.2,by simp⟩
 | dK f h _ _=>cases e; exact ⟨.dK h,by simp⟩
 | dT f h _ _=>cases e; exact ⟨.dT h,by simp⟩
 | _=>cases e
theorem zG0 {K:W.Frag} {t n:String} {b:Bool} (ht:t∈["NoneType","bool","int","str","list","tuple","dict"]) (e:zEt t n=some b):W.kitOne K (.type t) (.type n)=some b:=by
 unfold zEt at e
 split at e
 ·rename_i hn
  cases e
  simp only [List.mem_cons,List.not_mem_nil,or_false] at ht hn
  rcases ht with rfl | rfl | rfl | rfl | rfl | rfl | rfl <;> rcases hn with rfl | rfl | rfl | rfl | rfl | rfl <;> rfl
 ·cases e
theorem zJi (hK:B.K=K):zna B (zvF K) zJh:=by
 subst hK
 intro H G vs ds z Q hg hd e k
 unfold zJh at e
 split at e
 ·rename_i d n
  obtain ⟨t,e1,e2⟩:=zcZ e
  rw [Option.map_eq_some_iff] at e2
  obtain ⟨b,e3,rfl⟩:=e2
  obtain ⟨v,w,rfl,d1,d2⟩:=hd.two
  cases d2
  obtain ⟨h1,h2⟩:=d1.kind e1
  exact ⟨v,n,_,b,rfl,h1,zG0 h2 e3,k _ H G [] Al.refl ⟨rfl,.bl _⟩ (by simp)⟩
 ·cases e
end
end L2
namespace L2
open PySem PySem.Spec PyProof.Rows
def FO (B:Bk) (t:TO) (m:FSt→Option (Option Int)):Prop:=
 ∀ (S:FSt) (σ:St) (H:Hp) (F:Addr→Prop) (os:Nat→List Addr) (Q:Option Int→Hp→Prop) (c:Option Int),Rep B H F σ S os→m S=some c→
  (∀ H' F',Al H F H' F'→Rep B H' F' σ S os→Q c H')→t σ H Q
@[simp] def mNo:FSt→Option (Option Int):=fun _=>some none
@[simp] def mAt (m:FSt→Option D):FSt→Option (Option Int):=fun S=>(m S).bind fun d=>match d with
 | .int i=>some (some i)
 | _=>none
def zyE {α:Type} (xs:List α) (lo hi:Option Int):List α:=(xs.drop (HT.sIx xs.length 0 lo)).take (HT.sIx xs.length xs.length hi-HT.sIx xs.length 0 lo)
@[simp] def oSl:D→Option Int→Option Int→Option SV
 | .lst xs,lo,hi=>some (.li (zyE xs lo hi))
 | .fz xs,lo,hi=>some (.li (zyE xs lo hi))
 | .str z,lo,hi=>if z.length≤sizeLine then some (.sh (.str (Txt.slice z lo hi))) else none
 | .tup xs,lo,hi=>if HT.sIx xs.length 0 lo=0∧HT.sIx xs.length xs.length hi=xs.length then none else some (.sh (.tup (zyE xs lo hi)))
 | .kt xs,lo,hi=>if HT.sIx xs.length 0 lo=0∧HT.sIx xs.length xs.length hi=xs.length then none else some (.sh (.tup (zyE xs lo hi)))
 | _,_,_=>none
@[simp] def mSl (a:FSt→Option D) (l h:FSt→Option (Option Int)):FSt→Option SV:=fun S=>(a S).bind fun d=>(l S).bind fun lo=>(h S).bind fun hi=>oSl d lo hi
section
variable {B:Bk} {te:TE} {L:List Nat} {md:FSt→Option D} {tl th:TO} {ml mh:FSt→Option (Option Int)} {K:W.Frag}
theorem zEu:FO B zy3 mNo:=fun S σ H F os Q c r e k=>by cases e; exact k H F Al.refl r
theorem zEv (h:FD B te L md):FO B (zGe te) (mAt md):=by
 intro S σ H F os Q c r e k
 obtain ⟨d,e1,e2⟩:=zcZ e
 refine h S σ H F os _ d r e1 fun v H' F' a r' da=>?_
 cases d with
 | int i=>cases e2; cases da; exact ⟨_,rfl,k H' F' a r'⟩
 | _=>cases e2
theorem DAs.cut {H:Hp} {F:Addr→Prop} {vs:List V} {ds:List D} (r:DAs B H F vs ds) (lo hi:Option Int):DAs B H F (zCI vs lo hi) (zyE ds lo hi):=by
 unfold zCI zyE
 rw [r.length]
 exact (r.drop _).take _
theorem zJj (hK:B.K=K) (he:FD B te L md) (hl:FO B tl ml) (hh:FO B th mh):FE B (tSl (zKy K) te tl th) L (mSl md ml mh):=by
 subst hK
 intro S σ H F os Q z r e k
 obtain ⟨d,e1,e⟩:=zcZ e
 obtain ⟨lo,e2,e⟩:=zcZ e
 obtain ⟨hi,e3,e⟩:=zcZ e
 refine he S σ H F os _ d r e1 fun v H1 F1 a1 r1 d1=>hl S σ H1 F1 os _ lo r1 e2 fun H2 F2 a2 r2=>hh S σ H2 F2 os _ hi r2 e3 fun H3 F3 a3 r3=>?_
 have d3:DA B H3 (orF F3 (osL os L)) v d:=(d1.later a2 fun _ h=>h).later a3 fun _ h=>h
 have al:=(a1.trans a2).trans a3
 have fin:∀ v H' G' o,Al H3 (orF F3 (osL os L)) H' G'→VA B H' G' v z o→(∀ a,a∈o→H3 a=none)→Q v H':=fun u H4 G4 o a4 va fr=>by
  obtain ⟨F4,al4,r4,va2⟩:=zi9 r3 a4 va fr
  refine k u H4 F4 o (al.trans al4) r4 va2 fun b e=>?_
  cases q:H b with
  | none=>rfl
  | some w=>have:=fr b e; rw [al.same b w q] at this; cases this
 have hg:=r3.gd L
 unfold oSl at e
 split at e
 ·cases e
  cases d3 with
  | lst h q=>exact .inr (.inl ⟨_,_,rfl,h.sq,fun p hp=>zom hg hp (q.cut _ _) fin⟩)
 ·cases e
  cases d3 with
  | fz h q=>exact .inr (.inl ⟨_,_,rfl,h.sq,fun p hp=>zom hg hp (q.cut _ _) fin⟩)
 ·split at e
  ·cases e; cases d3
   exact .inl ⟨_,rfl,by assumption,fin _ H3 _ [] Al.refl ⟨rfl,.str _⟩ (by simp)⟩
  ·cases e
 ·split at e
  ·cases e
  ·rename_i hw
   cases e
   cases d3 with
   | tup h q=>exact .inr (.inr ⟨_,_,rfl,h.sq,by rw [q.length]; exact hw,fun p hp=>zpJ hp (q.cut _ _) fin⟩)
 ·split at e
  ·cases e
  ·rename_i hw
   cases e
   cases d3 with
   | kt h q=>exact .inr (.inr ⟨_,_,rfl,h.sq,by rw [q.length]; exact hw,fun p hp=>zpJ hp (q.cut _ _) fin⟩)
 ·cases e
end
def zrS {κ α:Type} [DecidableEq κ] (kvs:List (κ×α)) (k:κ):Option α:=(kvs.find? fun kv=>decide (kv.1=k)).map (·.2)
def zB2 {κ α:Type} [DecidableEq κ] (kvs:List (κ×α)) (k:κ) (v:α):List (κ×α):=
 if (kvs.any fun kv=>decide (kv.1=k))=true then kvs.map (fun kv=>if kv.1=k then (kv.1,v) else kv) else kvs++[(k,v)]
section
variable {B:Bk} {H:Hp} {G:Addr→Prop} {κ:Type} [DecidableEq κ]
theorem zzP {kvs:List (κ×V)} {ds:List (κ×D)} (e:kvs.map (·.1)=ds.map (·.1)) (r:DAs B H G (kvs.map (·.2)) (ds.map (·.2))) (k:κ) :
  (∀ d,zrS ds k=some d→∃ v,zss kvs k=some v∧DA B H G v d)∧(zrS ds k=none→zss kvs k=none):=by
 induction kvs generalizing ds with
 | nil=>cases ds with
  | nil=>exact ⟨fun d h=>(nomatch h),fun _=>rfl⟩
  | cons _ _=>simp at e
 | cons p kvs ih=>cases ds with
  | nil=>simp at e
  | cons q ds=>
   simp only [List.map_cons,List.cons.injEq] at e r
   cases r with
   | cons h r=>
    have:=ih e.2 r
    by_cases c:p.1=k
    ·have c':q.1=k:=e.1▸c
     have e1:zrS (q :: ds) k=some q.2:=by simp [zrS,List.find?_cons,c']
     have e2:zss (p :: kvs) k=some p.2:=by simp [zss,List.find?_cons,c]
     rw [e1,e2]
     exact ⟨fun d z=>by cases z; exact ⟨_,rfl,h⟩,fun z=>nomatch z⟩
    ·have c':¬ q.1=k:=e.1▸c
     have e1:zrS (q :: ds) k=zrS ds k:=by simp [zrS,List.find?_cons,c']
     have e2:zss (p :: kvs) k=zss kvs k:=by simp [zss,List.find?_cons,c]
     rw [e1,e2]; exact this
theorem zzQ {kvs:List (κ×V)} {ds:List (κ×D)} (e:kvs.map (·.1)=ds.map (·.1)) (r:DAs B H G (kvs.map (·.2)) (ds.map (·.2))) {k:κ} {v:V} {d:D} (h:DA B H G v d) :
  (zuo kvs k v).map (·.1)=(zB2 ds k d).map (·.1)∧DAs B H G ((zuo kvs k v).map (·.2)) ((zB2 ds k d).map (·.2)):=by
 have ea:(kvs.any fun kv=>decide (kv.1=k))=(ds.any fun kv=>decide (kv.1=k)):=by
  have:∀ {α:Type} (l:List (κ×α)),(l.any fun kv=>decide (kv.1=k))=((l.map (·.1)).any fun x=>decide (x=k)):=fun l=>by rw [List.any_map]; rfl
  rw [this,this,e]
 unfold zuo zB2
 rw [ea]
 split
 ·clear ea
  induction kvs generalizing ds with
  | nil=>cases ds with
   | nil=>exact ⟨rfl,.nil⟩
   | cons _ _=>simp at e
  | cons p kvs ih=>cases ds with
   | nil=>simp at e
   | cons q ds=>
    simp only [List.map_cons,List.cons.injEq] at e r
    cases r with
    | cons h1 r=>
     have key:(kvs.map (fun kv=>if kv.1=k then (kv.1,v) else kv)).map (·.1)=(ds.map (fun kv=>if kv.1=k then (kv.1,d) else kv)).map (·.1)∧DAs B H G ((kvs.map (fun kv=>if kv.1=k then (kv.1,v) else kv)).map (·.2)) ((ds.map (fun kv=>if kv.1=k then (kv.1,d) else kv)).map (·.2)):=by
      have:∀ (kvs:List (κ×V)) (ds:List (κ×D)),kvs.map (·.1)=ds.map (·.1)→DAs B H G (kvs.map (·.2)) (ds.map (·.2))→(kvs.map (fun kv=>if kv.1=k then (kv.1,v) else kv)).map (·.1)=(ds.map (fun kv=>if kv.1=k then (kv.1,d) else kv)).map (·.1)∧DAs B H G ((kvs.map (fun kv=>if kv.1=k then (kv.1,v) else kv)).map (·.2)) ((ds.map (fun kv=>if kv.1=k then (kv.1,d) else kv)).map (·.2)):=by
       intro kvs
       induction kvs with
       | nil=>intro ds e r; cases ds with
        | nil=>exact ⟨rfl,.nil⟩
        | cons _ _=>simp at e
       | cons p kvs ih=>intro ds e r; cases ds with
        | nil=>simp at e
        | cons q ds=>
         simp only [List.map_cons,List.cons.injEq] at e r
         cases r with
         | cons h1 r=>
          obtain ⟨i1,i2⟩:=ih ds e.2 r
          by_cases c:p.1=k
          ·have c':q.1=k:=e.1▸c
           simp only [List.map_cons,if_pos c,if_pos c']
           exact ⟨by rw [i1,e.1],.cons h i2⟩
          ·have c':¬ q.1=k:=e.1▸c
           simp only [List.map_cons,if_neg c,if_neg c']
           exact ⟨by rw [i1,e.1],.cons h1 i2⟩
      exact this kvs ds e.2 r
     by_cases c:p.1=k
     ·have c':q.1=k:=e.1▸c
      simp only [List.map_cons,if_pos c,if_pos c']
      exact ⟨by rw [key.1,e.1],.cons h key.2⟩
     ·have c':¬ q.1=k:=e.1▸c
      simp only [List.map_cons,if_neg c,if_neg c']
      exact ⟨by rw [key.1,e.1],.cons h1 key.2⟩
 ·rw [List.map_append,List.map_append,List.map_append,List.map_append,e]
  exact ⟨rfl,r.append (.cons h .nil)⟩
end
@[simp] def asK:D→Option Key
 | .int i=>some (.inl i)
 | .str x=>some (.inr x)
 | _=>none
@[simp] def zFt:List D→Option (List Key)
 | []=>some []
 | d :: r=>(asK d).bind fun k=>(zFt r).map fun ks=>k :: ks
@[simp] def kD:Key→D
 | .inl i=>.int i
 | .inr x=>.str x
@[simp] def zxm:D→D→Option D
 | .dK kvs,y=>(asK y).bind (zrS kvs)
 | .dT kvs,.tup ds=>(zFt ds).bind (zrS kvs)
 | _,_=>none
section
variable {B:Bk} {H:Hp} {G:Addr→Prop}
theorem zEw {v:V} {d:D} {k:Key} (h:DA B H G v d) (e:asK d=some k):v=kV k:=by
 cases h with
 | int i=>cases e; rfl
 | str x=>cases e; rfl
 | _=>cases e
theorem zzR:∀ {vs:List V} {ds:List D} {ks:List Key},DAs B H G vs ds→zFt ds=some ks→vs=ks.map kV
 | _,_,_,.nil,e=>by cases e; rfl
 | _,_,_,.cons h r,e=>by
  obtain ⟨k,e1,e2⟩:=zcZ e
  rw [Option.map_eq_some_iff] at e2
  obtain ⟨ks,e3,rfl⟩:=e2
  rw [zEw h e1,zzR r e3]; rfl
theorem zJk (k:Key):DA B H G (kV k) (kD k):=by cases k <;> constructor
theorem zCT:∀ ks:List Key,DAs B H G (ks.map kV) (ks.map kD)
 | []=>.nil
 | k :: ks=>.cons (zJk k) (zCT ks)
theorem zB3 {x y:V} {dx dy z:D} (hx:DA B H G x dx) (hy:DA B H G y dy) (e:zxm dx dy=some z):∃ a v,x=.ref a∧DGet H a y (some v)∧DA B H G v z:=by
 unfold zxm at e
 split at e
 ·obtain ⟨k,e1,e2⟩:=zcZ e
  cases hx with
  | dK f h ek r=>
   obtain ⟨v,e3,d3⟩:=(zzP ek r k).1 z e2
   rw [zEw hy e1]
   exact ⟨_,v,rfl,by rw [← e3]; exact DGet.k h,d3⟩
 ·obtain ⟨k,e1,e2⟩:=zcZ e
  cases hx with
  | dT f h ek r=>
   obtain ⟨v,e3,d3⟩:=(zzP ek r k).1 z e2
   cases hy with
   | tup ht q=>
    have:=zzR q e1
    subst this
    exact ⟨_,v,rfl,by rw [← e3]; exact DGet.t h ht.2,d3⟩
 ·cases e
end
section
variable {B:Bk} {ta tb tv:TE} {La Lb Lv:List Nat} {ma mb mv:FSt→Option D}
theorem zG1 (ha:FD B ta La ma) (hb:FD B tb Lb mb):FD B (zGq ta tb) (La++Lb) (m2 zxm ma mb):=
 zzx (r:=fun x y H Q=>∃ a v,x=.ref a∧DGet H a y (some v)∧Q v H) (fun H G x y dx dy z Q hx hy e k=>by
  obtain ⟨a,v,e1,e2,e3⟩:=zB3 hx hy e
  exact ⟨a,v,e1,e2,k v H G Al.refl e3⟩) ha hb
@[simp] def mDK:FSt→Option SV:=fun _=>some (.dK [])
@[simp] def mDT:FSt→Option SV:=fun _=>some (.dT [])
theorem zEx:FE B zCL [] mDK:=by
 intro S σ H F os Q x r e k p hp
 cases e
 have al:=zmi (F:=F) (u:=.dK []) hp
 exact k (.ref p) _ F [p] al (r.mono al) ⟨p,[],rfl,rfl,fun z=>r.gd [] p z hp,zbI,rfl,.nil⟩ fun a ha=>by rw [List.mem_singleton.mp ha]; exact hp
theorem zEy:FE B zCM [] mDT:=by
 intro S σ H F os Q x r e k p hp
 cases e
 have al:=zmi (F:=F) (u:=.dT []) hp
 exact k (.ref p) _ F [p] al (r.mono al) ⟨p,[],rfl,rfl,fun z=>r.gd [] p z hp,zbI,rfl,.nil⟩ fun a ha=>by rw [List.mem_singleton.mp ha]; exact hp
@[simp] def zG2:SV→D→D→Option SV
 | .dK kvs,y,d=>(asK y).bind fun k=>if kvs.length < sizeLine then some (.dK (zB2 kvs k d)) else none
 | .dT kvs,.tup ys,d=>(zFt ys).bind fun k=>if kvs.length < sizeLine then some (.dT (zB2 kvs k d)) else none
 | _,_,_=>none
@[simp] def zFu (i:Nat) (L:List Nat) (mk mv:FSt→Option D):FSt→Fl:=fun S=>match mv S,mk S with
 | some d,some y=>if d.plain=true∨L.any (zk9 S)=false then
   match (if d.plain=true then S else frzs L S)[i]? with
   | some (some x)=>match zG2 x y d with
    | some x'=>.nx ((if d.plain=true then S else frzs L S).set i (some x'))
    | none=>.bad
   | _=>.bad
  else .bad
 | _,_=>.bad
theorem zzS {H:Hp} {G:Addr→Prop} {v w y:V} {x x':SV} {dy d:D} {o:List Addr} (va:VA B H G v x o) (hy:DA B H G y dy) (hd:DA B H G w d) (e:zG2 x dy d=some x') :
  ∃ a u,v=.ref a∧o=[a]∧DPut H a y w (upd H a u)∧VA B (upd H a u) G v x' o∧(∀ d',x≠.sh d')∧zk9 [some x] 0=false:=by
 unfold zG2 at e
 split at e
 ·obtain ⟨k,e1,e2⟩:=zcZ e
  split at e2
  ·rename_i hl
   cases e2
   obtain ⟨a,vs,rfl,rfl,nf,hh,ek,r⟩:=va
   have hl':vs.length < sizeLine:=by have:=congrArg List.length ek; simp at this; omega
   obtain ⟨p1,p2⟩:=zzQ ek r (k:=k) hd
   refine ⟨a,.dK (zuo vs k w),rfl,rfl,by rw [zEw hy e1]; exact DPut.k hh hl',⟨a,_,rfl,rfl,nf,zbI,p1,p2.mono (fun b u f e=>by rw [zbJ]; exact e; rintro rfl; exact nf f) fun _ f=>f⟩,fun _=>by simp,rfl⟩
  ·cases e2
 ·obtain ⟨k,e1,e2⟩:=zcZ e
  split at e2
  ·rename_i hl
   cases e2
   obtain ⟨a,vs,rfl,rfl,nf,hh,ek,r⟩:=va
   have hl':vs.length < sizeLine:=by have:=congrArg List.length ek; simp at this; omega
   obtain ⟨p1,p2⟩:=zzQ ek r (k:=k) hd
   cases hy with
   | tup ht q=>
    have:=zzR q e1
    subst this
    refine ⟨a,.dT (zuo vs k w),rfl,rfl,DPut.t hh ht.2 hl',⟨a,_,rfl,rfl,nf,zbI,p1,p2.mono (fun b u f e=>by rw [zbJ]; exact e; rintro rfl; exact nf f) fun _ f=>f⟩,fun _=>by simp,rfl⟩
  ·cases e2
 ·cases e
theorem zuA {d:D} {k:Key} (h:asK d=some k):d.plain=true:=by cases d <;> first | rfl | cases h
theorem zrT:∀ {ds:List D} {ks:List Key},zFt ds=some ks→D.plains ds=true
 | [],_,_=>rfl
 | d :: ds,_,h=>by
  obtain ⟨k,e1,e2⟩:=zcZ h
  rw [Option.map_eq_some_iff] at e2
  obtain ⟨ks,e3,_⟩:=e2
  simp [D.plains,zuA e1,zrT e3]
theorem zx4 {x x':SV} {y d:D} (e:zG2 x y d=some x'):y.plain=true:=by
 unfold zG2 at e
 split at e
 ·obtain ⟨k,e1,_⟩:=zcZ e; exact zuA e1
 ·obtain ⟨k,e1,_⟩:=zcZ e; simpa [D.plain] using zrT e1
 ·cases e
theorem zG3 {i:Nat} (hk:FD B tb Lb mb) (hv:FD B tv Lv mv):FS B (zDO (zyD i) tb tv) (zFu i Lv mb mv):=by
 intro S σ H F os E r h
 unfold zFu at h
 split at h
 case h_2=>exact h.elim
 case h_1 d y ed ey=>
  split at h
  case isFalse=>exact h.elim
  case isTrue c=>
   split at h
   case h_2=>exact h.elim
   case h_1 x hx=>
    split at h
    case h_2=>exact h.elim
    case h_1 x' ex=>
     have hp:=zx4 ex
     refine hv S σ H F os _ d r ed fun w H1 F1 a1 r1 d1=>?_
     have nsh:∀ d',x≠.sh d':=fun d' z=>by subst z; cases ex
     have hS:S[i]? = some (some x)∧(d.plain=true∨i∉Lv):=by
      by_cases p:d.plain=true
      ·rw [if_pos p] at hx; exact ⟨hx,.inl p⟩
      ·rw [if_neg p,zdH] at hx
       by_cases hi:i∈Lv
       ·rw [if_pos hi] at hx
        cases e:S[i]? with
        | none=>rw [e] at hx; cases hx
        | some z=>cases z with
         | none=>rw [e] at hx; cases hx
         | some y=>rw [e] at hx; cases hx; exact absurd rfl (nsh _)
       ·rw [if_neg hi] at hx; exact ⟨hx,.inr hi⟩
     obtain ⟨v,hσ,_⟩:=r.at' i x hS.1
     refine ⟨v,hσ,hk S σ H1 F1 os _ y r1 ey fun yv H2 F2 a2 r2 d2=>?_⟩
     have d2':DA B H2 F2 yv y:=d2.toF r2 hp
     have st1:FStep σ S H F os σ S H2 F2 os:=(a1.trans a2).step
     obtain ⟨v',hv',va⟩:=r2.at' i x hS.1
     rw [hσ] at hv'; cases hv'
     by_cases p:d.plain=true
     ·rw [if_pos p] at h
      have d1':DA B H2 F2 w d:=(d1.later a2 fun _ h=>h).toF r2 p
      obtain ⟨a,u,rfl,eo,dp,va',_,nl⟩:=zzS va d2' d1' ex
      have em:a∈os i:=by rw [eo]; simp
      have nl':zk9 S i=false:=by unfold zk9 at nl ⊢; rw [hS.1]; exact nl
      exact ⟨a,_,rfl,dp,h σ _ F2 os (st1.trans (zeQ em (.inl nl'))) (r2.write em hσ va')⟩
     ·rw [if_neg p] at h
      have hi:=hS.2.resolve_left p
      have c':=c.resolve_left p
      have r3:=r2.frz Lv
      have va3:VA B H2 (orF F2 (osL os Lv)) v x (os i):=va.sub (fun b z=>.inl z) fun b e z=>by
       rcases z with z | ⟨k,hk,z⟩
       ·exact (r2.alive e).2 z
       ·exact hi (r2.inj i k b e z▸hk)
      have d1':DA B H2 (orF F2 (osL os Lv)) w d:=d1.later a2 fun _ h=>h
      obtain ⟨a,u,rfl,eo,dp,va',_,nl⟩:=zzS va3 (d2'.mono (fun _ _ _ e=>e) fun _ z=>.inl z) d1' ex
      have eo1:(fun j=>if j∈Lv then [] else os j) i=os i:=by show (if i∈Lv then [] else os i)=_; rw [if_neg hi]
      have em1:a∈(fun j=>if j∈Lv then [] else os j) i:=by rw [eo1,eo]; simp
      have nl1:zk9 (frzs Lv S) i=false:=by unfold zk9 at nl ⊢; rw [zdH,if_neg hi,hS.1]; exact nl
      exact ⟨a,_,rfl,dp,h σ _ _ _ ((st1.trans (zmk r2 c')).trans (zeQ em1 (.inl nl1))) (r3.write em1 hσ (by show VA B _ _ _ _ (if i∈Lv then [] else os i); rw [if_neg hi]; exact va'))⟩
end
def zCU:List V→Hp→VK→Prop:=fun xs H Q=>∃ a kvs,xs=[V.ref a]∧H a=some (.dT kvs)∧∀ l ks,H l=none→Paired (fun (k:List Key) (b:Addr)=>H b=some (.tup (k.map kV))) (kvs.map (·.1)) ks→Q (.ref l) (upd H l (.lst (ks.map V.ref)))
theorem zx5 {X:Cx} (hc:X.calm=true):CallR X (.type "list") zCU:=by
 intro pins s σ H xs us Q I r h
 obtain ⟨a,kvs,rfl,ha,q⟩:=h
 obtain ⟨u,rfl,ru⟩:=zre r
 cases ru
 obtain ⟨z,hd,ys,rel,o,es,ep,h1,h2,h3,h4,_⟩:=zDM I.hok ha
 have hl:es.size=kvs.length:=by
  have e1:es.toList.length=ys.length:=by rw [h4,List.length_map]
  have e2:kvs.length=ys.length:=Paired.length rel
  rw [Array.length_toList] at e1
  omega
 refine zBR (I.ok.hd hc) hd ⟨o,h1,h2.1,h3⟩ (by rw [hl]; exact z) fun h' tk acc c' kp e it=>?_
 have eacc:acc.toList=(ys.map (·.2.1)).map Value.ref:=by
  refine List.ext_getElem? fun i=>?_
  by_cases hi:i < acc.size
  ·obtain ⟨en,e1,e2⟩:=it.2 i acc[i] (by simp [hi])
   have e3:es.toList[i]? = some en:=by simpa using e1
   rw [h4,List.getElem?_map] at e3
   cases qy:ys[i]? with
   | none=>rw [qy] at e3; cases e3
   | some y=>
    rw [qy] at e3; cases e3
    have:acc.toList[i]? = some acc[i]:=by simp [hi]
    rw [this,e2,List.getElem?_map,List.getElem?_map,qy]; rfl
  ·have h5:ys.length≤i:=by
    have e1:es.toList.length=ys.length:=by rw [h4,List.length_map]
    rw [Array.length_toList] at e1
    have:=it.1
    omega
   rw [List.getElem?_eq_none (by simp; omega),List.getElem?_eq_none (by simp; exact h5)]
 have vals:Vals ((ys.map (·.2.1)).map V.ref) acc.toList:=by
  rw [eacc]
  have:∀ l:List Addr,Vals (l.map V.ref) (l.map Value.ref):=fun l=>by
   induction l with
   | nil=>exact .nil
   | cons y ys ih=>exact .cons rfl ih
  exact this _
 refine ⟨.ref s.heap.objs.size,_,I.laid (t':=tk) kp (Nat.le_refl _) (show ObjOk X.prog X.w _ h' _ (.lst ((ys.map (·.2.1)).map V.ref)) from ⟨?_,acc.toList,c',vals,by simpa using e⟩),rfl,q _ _ (I.hok.fresh (Nat.le_refl _)) ?_⟩
 ·have e2:kvs.length=ys.length:=Paired.length rel
  simp; omega
 ·have:∀ {l:List (List Key×V)} {m:List (List Key×Addr×Value)},KT H l m→Paired (fun (k:List Key) (b:Addr)=>H b=some (.tup (k.map kV))) (l.map (·.1)) (m.map (·.2.1)):=fun {l m} rel=>by
   unfold KT at rel
   induction rel with
   | nil=>exact .nil
   | cons h _ ih=>
    obtain ⟨e1,e2,_⟩:=h
    exact .cons (by exact e2) ih
  exact this rel
def zCV (K:W.Frag):List V→Hp→VK→Prop:=fun xs H Q=>zzi K xs H Q∨zCU xs H Q
theorem zx6 {X:Cx} {K:W.Frag} (hK:X.K=K) (hc:X.calm=true):CallR X (.type "list") (zCV K):=(zxY hK).or (zx5 hc)
@[simp] def zuB:List D→Option SV
 | [.lst xs]=>some (.li xs)
 | [.fz xs]=>some (.li xs)
 | [.tup xs]=>some (.li xs)
 | [.kt xs]=>some (.li xs)
 | [.dT kvs]=>some (.li (kvs.map fun kv=>.tup (kv.1.map kD)))
 | _=>none
@[simp] def zlp:List D→Option SV
 | [.lst xs]=>some (.sh (.tup xs))
 | [.fz xs]=>some (.sh (.tup xs))
 | [.tup xs]=>some (.sh (.tup xs))
 | [.kt xs]=>some (.sh (.kt xs))
 | _=>none
section
variable {B:Bk} {K:W.Frag}
theorem zG4 (hK:B.K=K):zna B (zCV K) zuB:=by
 subst hK
 intro H G vs ds z Q hg hd e k
 unfold zuB at e
 split at e
 ·cases e
  obtain ⟨v,rfl,d1⟩:=hd.one
  cases d1 with
  | lst h r=>exact .inl ⟨_,_,rfl,.inl h.sq,fun p hp=>zom hg hp r k⟩
 ·cases e
  obtain ⟨v,rfl,d1⟩:=hd.one
  cases d1 with
  | fz h r=>exact .inl ⟨_,_,rfl,(.inl h.sq),fun p hp=>zom hg hp r k⟩
 ·cases e
  obtain ⟨v,rfl,d1⟩:=hd.one
  cases d1 with
  | tup h r=>exact .inl ⟨_,_,rfl,.inr h.sq,fun p hp=>zom hg hp r k⟩
 ·cases e
  obtain ⟨v,rfl,d1⟩:=hd.one
  cases d1 with
  | kt h r=>exact .inl ⟨_,_,rfl,.inr h.sq,fun p hp=>zom hg hp r k⟩
 ·cases e
  obtain ⟨v,rfl,d1⟩:=hd.one
  cases d1 with
  | @dT a kvs _ f h ek r=>
   rename_i es
   refine .inr ⟨_,_,rfl,h,fun l ks hl pk=>?_⟩
   rw [ek] at pk
   let G':Addr→Prop:=fun b=>G b∨isT H b
   have al:Al H G (upd H l (.lst (ks.map V.ref))) G':=⟨zsy hl,fun b z=>.inl z,fun b z=>by
    rcases z with z | z
    ·exact .inl z
    ·exact .inr (.inr z)⟩
   have das:DAs B (upd H l (.lst (ks.map V.ref))) G' (ks.map V.ref) (es.map fun kv=>.tup (kv.1.map kD)):=by
    have:∀ {ls:List (List Key)} {bs:List Addr},Paired (fun (k:List Key) (b:Addr)=>H b=some (.tup (k.map kV))) ls bs→DAs B (upd H l (.lst (ks.map V.ref))) G' (bs.map V.ref) (ls.map fun k=>.tup (k.map kD)):=by
     intro ls bs p
     induction p with
     | nil=>exact .nil
     | cons h _ ih=>exact .cons (.tup ⟨.inr ⟨_,h⟩,al.same _ _ h⟩ (zCT _)) ih
    have:=this pk
    rwa [List.map_map] at this
   have nl:¬ G' l:=fun z=>by
    rcases z with z | ⟨ys,z⟩
    ·exact hg l z hl
    ·rw [hl] at z; cases z
   exact k (.ref l) _ G' [l] al ⟨l,_,rfl,rfl,nl,zbI,das⟩ fun b hb=>by rw [List.mem_singleton.mp hb]; exact hl
 ·cases e
theorem zEz (hK:B.K=K):zna B (zCN K) zlp:=by
 subst hK
 intro H G vs ds z Q hg hd e k
 unfold zlp at e
 split at e
 ·cases e
  obtain ⟨v,rfl,d1⟩:=hd.one
  cases d1 with
  | lst h r=>exact ⟨_,_,rfl,.inl ⟨h.sq,fun p hp=>zpJ hp r k⟩⟩
 ·cases e
  obtain ⟨v,rfl,d1⟩:=hd.one
  cases d1 with
  | fz h r=>exact ⟨_,_,rfl,.inl ⟨h.sq,fun p hp=>zpJ hp r k⟩⟩
 ·cases e
  obtain ⟨v,rfl,d1⟩:=hd.one
  cases d1 with
  | tup h r=>exact ⟨_,_,rfl,.inr ⟨h.sq,k _ H G [] Al.refl ⟨rfl,.tup h r⟩ (by simp)⟩⟩
 ·cases e
  obtain ⟨v,rfl,d1⟩:=hd.one
  cases d1 with
  | kt h r=>exact ⟨_,_,rfl,.inr ⟨h.sq,k _ H G [] Al.refl ⟨rfl,.kt h r⟩ (by simp)⟩⟩
 ·cases e
@[simp] def zFv:List D→Option SV
 | [.int i,.int j]=>some (.sh (.int (if j > i then j else i)))
 | _=>none
@[simp] def zIj:List D→Option SV
 | [.int i,.int j]=>some (.sh (.int (if j < i then j else i)))
 | _=>none
@[simp] def zB4:List D→Option SV
 | [.int i]=>some (.sh (.int i))
 | [.bl b]=>some (.sh (.int (if b then 1 else 0)))
 | _=>none
theorem zJl:zna B (fun xs H Q=>∃ i j,xs=[.int i,.int j]∧Q (.int (if j > i then j else i)) H) zFv:=by
 intro H G vs ds z Q hg hd e k
 unfold zFv at e
 split at e
 ·cases e
  obtain ⟨v,w,rfl,d1,d2⟩:=hd.two
  cases d1; cases d2
  exact ⟨_,_,rfl,k _ H G [] Al.refl ⟨rfl,.int _⟩ (by simp)⟩
 ·cases e
theorem zJm:zna B (fun xs H Q=>∃ i j,xs=[.int i,.int j]∧Q (.int (if j < i then j else i)) H) zIj:=by
 intro H G vs ds z Q hg hd e k
 unfold zIj at e
 split at e
 ·cases e
  obtain ⟨v,w,rfl,d1,d2⟩:=hd.two
  cases d1; cases d2
  exact ⟨_,_,rfl,k _ H G [] Al.refl ⟨rfl,.int _⟩ (by simp)⟩
 ·cases e
theorem zJn:zna B (fun xs H Q=>(∃ i,xs=[.int i]∧Q (.int i) H)∨∃ k,xs=[.bl k]∧Q (.int (if k then 1 else 0)) H) zB4:=by
 intro H G vs ds z Q hg hd e k
 unfold zB4 at e
 split at e
 ·cases e
  obtain ⟨v,rfl,d1⟩:=hd.one
  cases d1
  exact .inl ⟨_,rfl,k _ H G [] Al.refl ⟨rfl,.int _⟩ (by simp)⟩
 ·cases e
  obtain ⟨v,rfl,d1⟩:=hd.one
  cases d1
  exact .inr ⟨_,rfl,k _ H G [] Al.refl ⟨rfl,.int _⟩ (by simp)⟩
 ·cases e
end
end L2
namespace L2
open PySem PySem.Spec PyProof.Rows
section
variable {B:Bk} {ta tb te:TE} {L L' La Lb:List Nat} {ma mb md:FSt→Option D} {me:FSt→Option SV} {tr:TA} {mr:FSt→Option (List D)} {K:W.Frag}
theorem FE.wk (h:FE B ta L me) (hl:∀ i,i∈L→i∈L'):FE B ta L' me:=by
 intro S σ H F os Q x r e k
 refine h S σ H F os Q x r e fun v H' F' o a r' va fr=>k v H' F' o a r' (va.sub (zm9 (fun _ h=>h) hl) fun b e q=>?_) fr
 rcases q with q | ⟨i,_,q⟩
 ·exact (va.alive e).2.1 (.inl q)
 ·exact (r.alive q).1 (fr b e)
theorem FD.wk (h:FD B ta L ma) (hl:∀ i,i∈L→i∈L'):FD B ta L' ma:=by
 intro S σ H F os Q x r e k
 exact h S σ H F os Q x r e fun v H' F' a r' da=>k v H' F' a r' (da.mono (fun _ _ _ e=>e) (zm9 (fun _ h=>h) hl))
theorem znc {L L':List Nat} (h:(L.all fun i=>L'.contains i)=true):∀ i,i∈L→i∈L':=fun i hi=>by
 have:=List.all_eq_true.mp h i hi
 simpa using this
theorem zCW {i:Nat} (L':List Nat) (he:FE B te L me) (hl:(L.all fun i=>L'.contains i)=true:=by rfl):FS B (zFT te (zyM i)) (zcW i L' me):=zGQ (he.wk (znc hl))
theorem zG5 {i:Nat} (L':List Nat) (hK:B.K=K) (he:FD B te L md) (hl:(L.all fun i=>L'.contains i)=true:=by rfl):FS B (zxM (tBM K "list" zsr (zyD i) (zyX te zFq))) (zBU i L' md):=zGR hK (he.wk (znc hl))
theorem zG6 {i:Nat} (L':List Nat) (hk:FD B tb Lb mb) (hv:FD B te L md) (hl:(L.all fun i=>L'.contains i)=true:=by rfl):FS B (zDO (zyD i) tb te) (zFu i L' mb md):=zG3 hk (hv.wk (znc hl))
theorem zG7 (L':List Nat) (hK:B.K=K) (he:FE B te L me) (hl:(L.all fun i=>L'.contains i)=true:=by rfl):FI B (zFr K te) (mIt L' me):=zzD hK (he.wk (znc hl))
@[simp] def zLa:SV→Option (List D)
 | .li xs=>some xs
 | _=>none
@[simp] def mLs (a:FSt→Option SV) (r:FSt→Option (List (List D))):FSt→Option (List (List D)):=fun S=>(a S).bind fun x=>(zLa x).bind fun xs=>(r S).map fun xss=>xs :: xss
@[simp] def zLy:FSt→Option (List (List D)):=fun _=>some []
@[simp] def mLl (r:FSt→Option (List (List D))):FSt→Option SV:=fun S=>(r S).bind fun xss=>if xss.length≤sizeLine then some (.ll xss) else none
@[simp] def zKH (i:Nat) (mk md:FSt→Option D):FSt→Fl:=fun S=>match S[i]?,mk S,md S with
 | some (some (.ll xss)),some (.int k),some d=>if d.plain=true then (match ixN xss.length k with
   | some j=>match xss[j]? with
    | some xs=>if xs.length < sizeLine then .nx (S.set i (some (.ll (xss.set j (xs++[d]))))) else .bad
    | none=>.bad
   | none=>.bad) else .bad
 | _,_,_=>.bad
end
@[simp] def zFw (L:List Nat) (me:FSt→Option SV) (mg:D→FSt→Option FSt):FSt→Fl:=fun S=>match me S with
 | some x=>if x.plain=true then (match mg x.fr S with | some S'=>.nx S' | none=>.bad) else if L.any (zk9 S)=false then (match mg x.fr (frzs L S) with | some S'=>.nx S' | none=>.bad) else .bad
 | none=>.bad
section
variable {B:Bk} {te:TE} {L:List Nat} {me:FSt→Option SV} {g:TG} {mg:D→FSt→Option FSt}
theorem zG8 (he:FE B te L me) (hg:FG B g mg):FS B (zFT te g) (zFw L me mg):=by
 intro S σ H F os E r h
 unfold zFw at h
 cases q:me S with
 | none=>rw [q] at h; exact h.elim
 | some x=>
  rw [q] at h
  dsimp only at h
  refine he S σ H F os _ x r q fun v H' F' o a r' va fr=>?_
  have al:∀ {F0:Addr→Prop},Al H F0 H' F'→Al H F0 H' (fun b=>F' b∨b∈o):=fun {F0} a=>⟨a.same,fun b z=>.inl (a.up b z),fun b z=>by
   rcases z with z | z
   ·exact a.new b z
   ·exact .inr (.inl ⟨fr b z,(va.alive z).1⟩)⟩
  have r2:=r.mono (al a)
  have st:FStep σ S H F os σ S H' (fun b=>F' b∨b∈o) os:=(al a).step
  split at h
  ·rename_i p
   have va':=va.toF r' p
   have da:DA B H' (fun b=>F' b∨b∈o) v x.fr:=va'.frozen (fun b z=>.inl z) fun b z=>.inr z
   split at h
   ·rename_i S' e
    exact hg S σ H' _ os v x.fr S' _ r2 da e fun σ' os' st2 r3=>h σ' H' _ os' (st.trans st2) r3
   ·exact h.elim
  ·split at h
   ·rename_i nl
    have r3:=r2.frz L
    have da:DA B H' (orF (fun b=>F' b∨b∈o) (osL os L)) v x.fr:=va.frozen (fun b z=>by
     rcases z with z | z
     ·exact .inl (.inl z)
     ·exact .inr z) fun b z=>.inl (.inr z)
    split at h
    ·rename_i S' e
     exact hg _ σ H' _ _ v x.fr S' _ r3 da e fun σ' os' st2 r4=>h σ' H' _ os' ((st.trans (zmk r2 nl)).trans st2) r4
    ·exact h.elim
   ·exact h.elim
end
@[simp] noncomputable def mR1 (mr:FSt→Option (List D)):FSt→Option (List D):=fun S=>(mr S).bind fun ds=>if ds.length=1 then zzC ds else none
@[simp] noncomputable def mR2 (mr:FSt→Option (List D)):FSt→Option (List D):=fun S=>(mr S).bind fun ds=>if ds.length=2 then zzC ds else none
section
variable {B:Bk} {tr:TA} {L:List Nat} {mr:FSt→Option (List D)}
theorem zEA (hr:FA B tr L mr):FI B (zDq tr) (mR1 mr):=zEl hr
theorem zEB (hr:FA B tr L mr):FI B (zDr tr) (mR2 mr):=zEm hr
end
theorem zad {m:FSt→Fl} {n k:Nat}:∀ ds z,zaD m n k ds=some z→ds.length=n:=fun _ _ h=>zBZ h
theorem Fun.okF {P : Program} {w : World} {K : W.Frag} {mg : Str → Option Value} {base : Heap} {x qual : Str} {st : Stmt} {f : Addr} {fd : FuncData} {N ps : List Str} {k : Nat} {B : Bk} {m : FSt → Fl} (F : Fun K x qual st f fd) (S : FnScope N ps (zaf st))
    (hbody : ∀ (cdv : Value) (A : Around) (outer : List Env) (s : Shared) (H : Hp) (E : XK), Room k (A.deeper (envOfC qual (zaf st) s.heap.objs.size f cdv)) →
      ∃ t, PSs (zBy CX0 P w K mg base N qual (zaf st) f cdv A outer s H E).nox (zdl st) t ∧ FS B t m) : FnOk P w K mg base CX0 (k + 1) f fd ps (SpF B ps.length (zaD m ps.length N.length)) := by
  obtain ⟨oc, od, kV, doc, pm, an, cdv, ct, osl, rfl, lk, hcd⟩ := F.ex
  refine zK9 lk hcd S fun A outer s H E hr => ?_
  obtain ⟨t, h, q⟩ := hbody cdv A outer s H E hr
  exact ⟨t, h.nox, q⟩
def zuC (K:W.Frag):Sp:=fun vs H Q _=>∃ (a:Addr) (ns:List Int),vs=[.ref a]∧SqL K H a (ns.map V.int)∧zIg H∧ns.length≤63∧∀ H',Q (.bl true) H'
theorem zzT {B:Bk} {H:Hp} {G:Addr→Prop}:∀ ns:List Int,DAs B H G (ns.map V.int) (ns.map D.int)
 | []=>.nil
 | n :: ns=>.cons (.int n) (zzT ns)
theorem zzU {K:W.Frag} {B:Bk} {f:List D→Option SV} (hK:B.K=K) (h:∀ ns:List Int,ns.length≤63→f [.fz (ns.map D.int)]=some (.sh (.bl true))):∀ vs H Q E,zuC K vs H Q E→SpF B 1 f vs H Q E:=by
 subst hK
 rintro vs H Q E ⟨a,ns,rfl,hs,ho,hl,k⟩
 refine ⟨rfl,fun b=>H b≠none,[.fz (ns.map D.int)],.sh (.bl true),fun _ z=>z,.cons (.fz ?_ (zzT ns)) .nil,h ns hl,fun v H' G' o _ va _=>?_⟩
 ·rcases hs with (hs | ⟨o,hs⟩) | hs
  ·rcases ho a with z | ⟨o,xs,z⟩
   ·rw [hs] at z; cases z
   ·rw [hs] at z; cases z
  ·exact .inl ⟨by show H a≠none; rw [hs]; simp,o,hs⟩
  ·exact .inr hs
 ·obtain ⟨_,da⟩:=va
  cases da
  exact k H'
end L2
namespace L2
open PySem PySem.Spec PyProof.Rows
theorem PE.or {X:Cx} {e:Expr} {t t':TE} (h:PE X e t) (h':PE X e t'):PE X e (fun σ H Q=>t σ H Q∨t' σ H Q):=by
 intro pins s σ H Q I q
 rcases q with q | q
 ·exact h pins s σ H Q I q
 ·exact h' pins s σ H Q I q
section
variable {B:Bk} {te:TE} {L:List Nat} {md:FSt→Option D} {K:W.Frag}
theorem VA.fields {H:Hp} {F:Addr→Prop} {v:V} {x:SV} {o:List Addr} {c:Nat} {fs:List (Str×D)} (h:VA B H F v x o) (e:x.fr=.ins c fs):∃ a dx ws,v=.ref a∧H a=some (.ins (B.cl c) dx ws)∧ws.map (·.1)=fs.map (·.1)∧DAs B H F (ws.map (·.2)) (fs.map (·.2)):=by
 cases x with
 | sh d=>
  obtain ⟨_,da⟩:=h
  cases e
  cases da with
  | ins f hh he r=>exact ⟨_,_,_,rfl,hh,he,r⟩
 | ob c' fs'=>
  cases e
  obtain ⟨a,dx,ws,rfl,_,_,hh,he,r⟩:=h
  exact ⟨a,dx,ws,rfl,hh,he,r⟩
 | _=>cases e
theorem zEC {cs:List Nat} {f:Str} {i:Nat} (hK:B.K=K) (hc:∀ c∈cs,Cls B.K (B.cl c)∧NoAttr B.K (B.cl c) f):FD B (zIR K (zyD i) f) [] (m1 (zcV cs f) (mV i)):=by
 subst hK
 intro S σ H F os Q z r e k
 obtain ⟨d,ed,ef⟩:=zcZ e
 cases d with
 | ins c fs=>
  have ef:(if c∈cs then fs.lookup f else none)=some z:=ef
  split at ef
  ·rename_i h
   unfold mV at ed
   cases q:S[i]? with
   | none=>rw [q] at ed; cases ed
   | some y=>cases y with
    | none=>rw [q] at ed; cases ed
    | some x=>
     rw [q] at ed
     have ed:x.fr=.ins c fs:=Option.some.inj ed
     obtain ⟨v,h1,h2⟩:=r.at' i x q
     obtain ⟨a,dx,ws,rfl,hh,he,rr⟩:=h2.fields ed
     obtain ⟨w,e1,e2⟩:=(zrQ he rr f).1 z ef
     exact ⟨.ref a,h1,a,_,dx,ws,w,rfl,hh,(hc c h).1,(hc c h).2,e1,k w H F Al.refl r (e2.mono (fun _ _ _ e=>e) fun _ z=>.inl z)⟩
  ·cases ef
 | _=>cases ef
def zlm (f:Str) (v:D):List (Str×D)→List (Str×D)
 | []=>[(f,v)]
 | (g,x) :: r=>if g=f then (g,v) :: r else (g,x) :: zlm f v r
theorem zsD {H:Hp} {G:Addr→Prop} {f:Str} {v:V} {d:D} (h:DA B H G v d):∀ {ws:List (Str×V)} {fs:List (Str×D)},ws.map (·.1)=fs.map (·.1)→DAs B H G (ws.map (·.2)) (fs.map (·.2))→
  (zpr f v ws).map (·.1)=(zlm f d fs).map (·.1)∧DAs B H G ((zpr f v ws).map (·.2)) ((zlm f d fs).map (·.2))
 | [],[],_,_=>⟨rfl,.cons h .nil⟩
 | [],_ :: _,e,_=>by simp at e
 | _ :: _,[],e,_=>by simp at e
 | (g,x) :: ws,(g',y) :: fs,e,r=>by
  simp only [List.map_cons,List.cons.injEq] at e r
  obtain ⟨e1,e2⟩:=e
  subst e1
  cases r with
  | cons h1 r=>
   obtain ⟨i1,i2⟩:=zsD h e2 r
   by_cases c:g=f
   ·simp only [zpr,zlm,if_pos c,List.map_cons]
    exact ⟨by rw [e2],.cons h r⟩
   ·simp only [zpr,zlm,if_neg c,List.map_cons]
    exact ⟨by rw [i1],.cons h1 i2⟩
@[simp] def zgS (i:Nat) (cs:List Nat) (f:Str) (L:List Nat) (md:FSt→Option D):FSt→Fl:=fun S=>match md S with
 | some d=>if d.plain=true∨L.any (zk9 S)=false then
   match (if d.plain=true then S else frzs L S)[i]? with
   | some (some (.ob c fs))=>if c∈cs∧fs.length < 1000 then .nx ((if d.plain=true then S else frzs L S).set i (some (.ob c (zlm f d fs)))) else .bad
   | _=>.bad
  else .bad
 | none=>.bad
theorem zG9 {cs:List Nat} {f:Str} {i:Nat} (hK:B.K=K) (hc:∀ c∈cs,Cls B.K (B.cl c)∧NoAttr B.K (B.cl c) f) (he:FD B te L md):FS B (zIe K (zyD i) te f) (zgS i cs f L md):=by
 subst hK
 intro S σ H F os E r h
 unfold zgS at h
 cases q:md S with
 | none=>rw [q] at h; exact h.elim
 | some d=>
  rw [q] at h
  dsimp only at h
  split at h
  case isFalse=>exact h.elim
  case isTrue c0=>
   split at h
   case h_2=>exact h.elim
   case h_1 c fs hx=>
    split at h
    case isFalse=>exact h.elim
    case isTrue hz=>
     have hS:S[i]? = some (some (.ob c fs))∧(d.plain=true∨i∉L):=by
      by_cases p:d.plain=true
      ·rw [if_pos p] at hx; exact ⟨hx,.inl p⟩
      ·rw [if_neg p,zdH] at hx
       by_cases hi:i∈L
       ·rw [if_pos hi] at hx
        cases e:S[i]? with
        | none=>rw [e] at hx; cases hx
        | some z=>cases z with
         | none=>rw [e] at hx; cases hx
         | some y=>rw [e] at hx; cases hx
       ·rw [if_neg hi] at hx; exact ⟨hx,.inr hi⟩
     obtain ⟨v,hv,_⟩:=r.at' i _ hS.1
     refine he S σ H F os _ d r q fun w H' F' al r' da=>⟨v,hv,?_⟩
     obtain ⟨v',hv',a,dx,ws,e1,eo,nf,hh,en,das⟩:=r'.at' i _ hS.1
     rw [hv] at hv'; cases hv'; subst e1
     have hlen:ws.length < 1000:=by have:=congrArg List.length en; simp at this; omega
     refine ⟨a,_,dx,ws,rfl,hh,(hc c hz.1).1,(hc c hz.1).2,hlen,?_⟩
     have st1:FStep σ S H F os σ S H' F' os:=al.step
     have em:a∈os i:=by rw [eo]; simp
     by_cases p:d.plain=true
     ·rw [if_pos p] at h
      have da':=da.toF r' p
      have hk:∀ b o,F' b→H' b=some o→upd H' a (.ins (B.cl c) dx (zpr f w ws)) b=some o:=fun b o f h=>by rw [zbJ]; exact h; rintro rfl; exact nf f
      obtain ⟨p1,p2⟩:=zsD (f:=f) da' en das
      have r2:=r'.write (u:=.ins (B.cl c) dx (zpr f w ws)) (x:=.ob c (zlm f d fs)) em hv ⟨a,dx,_,rfl,eo,nf,zbI,p1,p2.mono hk fun _ h=>h⟩
      exact h σ _ F' os (st1.trans (zeQ em (.inr ⟨c,fs,_,hS.1,rfl⟩))) r2
     ·rw [if_neg p] at h
      have hi:=hS.2.resolve_left p
      have c':=c0.resolve_left p
      have r1:=r'.frz L
      have eo1:(fun j=>if j∈L then [] else os j) i=[a]:=by show (if i∈L then [] else os i)=_; rw [if_neg hi]; exact eo
      have em1:a∈(fun j=>if j∈L then [] else os j) i:=by rw [eo1]; simp
      have nf1:¬ orF F' (osL os L) a:=fun z=>by
       rcases z with z | ⟨k,hk,z⟩
       ·exact nf z
       ·exact hi (r.inj i k a em z▸hk)
      have hk:∀ b o,orF F' (osL os L) b→H' b=some o→upd H' a (.ins (B.cl c) dx (zpr f w ws)) b=some o:=fun b o f h=>by rw [zbJ]; exact h; rintro rfl; exact nf1 f
      have das0:DAs B H' (orF F' (osL os L)) (ws.map (·.2)) (fs.map (·.2)):=das.mono (fun _ _ _ e=>e) fun _ z=>.inl z
      obtain ⟨p1,p2⟩:=zsD (f:=f) da en das0
      have r2:=r1.write (u:=.ins (B.cl c) dx (zpr f w ws)) (x:=.ob c (zlm f d fs)) em1 hv ⟨a,dx,_,rfl,eo1,nf1,zbI,p1,p2.mono hk fun _ h=>h⟩
      have e1:(frzs L S)[i]? = some (some (.ob c fs)):=by rw [zdH,if_neg hi]; exact hS.1
      exact h σ _ _ _ ((st1.trans (zmk r' c')).trans (zeQ em1 (.inr ⟨c,fs,_,e1,rfl⟩))) r2
theorem zHa {cs:List Nat} {f:Str} {i:Nat} (L':List Nat) (hK:B.K=K) (hc:∀ c∈cs,Cls B.K (B.cl c)∧NoAttr B.K (B.cl c) f) (he:FD B te L md) (hl:(L.all fun i=>L'.contains i)=true:=by rfl):FS B (zIe K (zyD i) te f) (zgS i cs f L' md):=zG9 hK hc (he.wk (znc hl))
end
def SpI (B:Bk) (n:Nat) (f:Nat→List D→Option (List (Str×D))):Sp:=fun vs H Q _=>vs.length=n∧∃ (G:Addr→Prop) (c:Nat) (x dx:Addr) (vs':List V) (ds:List D) (fs:List (Str×D)),vs=.ref x :: vs'∧(∀ b,G b→H b≠none)∧¬ G x∧
 H x=some (.ins (B.cl c) dx [])∧DAs B H G vs' ds∧f c ds=some fs∧∀ H' G' dx' ws,(∀ b u,H b=some u→b≠x→H' b=some u)→(∀ b,G b→G' b)→(∀ b,G' b→G b∨(H b=none∧H' b≠none)∨isT H b)→¬ G' x→
  H' x=some (.ins (B.cl c) dx' ws)→ws.map (·.1)=fs.map (·.1)→DAs B H' G' (ws.map (·.2)) (fs.map (·.2))→Q .non H'
def zpK (m:FSt→Fl) (n k:Nat) (c:Nat) (ds:List D):Option (List (Str×D)):=if ds.length+1=n then (match m (some (.ob c []) :: (ds.map (fun d=>some (.sh d))++List.replicate (k-n) none)) with
 | .nx S=>match S[0]? with
  | some (some (SV.ob c' fs))=>if c'=c then some fs else none
  | _=>none
 | _=>none) else none
theorem zxn {m:FSt→Fl} {n k c:Nat} {ds:List D} {z:List (Str×D)} (h:zpK m n k c ds=some z):ds.length+1=n:=by
 unfold zpK at h
 split at h
 ·assumption
 ·cases h
theorem zx7 {B:Bk} {H:Hp} {G:Addr→Prop} {N:List Str} {vs:List V} {ds:List D} {x dx:Addr} {c:Nat} (hg:∀ b,G b→H b≠none) (hx:¬ G x) (hh:H x=some (.ins (B.cl c) dx [])) (da:DAs B H G vs ds) (hn:vs.length+1≤N.length) :
  Rep B H G (zm7 N (.ref x :: vs)) (some (.ob c []) :: (ds.map (fun d=>some (.sh d))++List.replicate (N.length-(ds.length+1)) none)) (fun i=>if i=0 then [x] else []):=by
 have hs:zm7 N (.ref x :: vs)=some (.ref x) :: (vs.map some++List.replicate (N.length-(vs.length+1)) none):=rfl
 refine ⟨fun i y h=>?_,fun i h=>?_,fun i j a e1 e2=>?_,hg,?_⟩
 ·cases i with
  | zero=>
   cases h
   exact ⟨.ref x,by rw [hs]; rfl,x,dx,[],rfl,rfl,hx,hh,rfl,.nil⟩
  | succ i=>
   rw [hs]
   rw [List.getElem?_cons_succ] at h ⊢
   by_cases hi:i < ds.length
   ·rw [List.getElem?_append_left (by simpa using hi),List.getElem?_map] at h
    cases q:ds[i]? with
    | none=>rw [q] at h; cases h
    | some d=>
     rw [q] at h; cases h
     obtain ⟨v,e,da'⟩:=da.get q
     refine ⟨v,?_,rfl,da'⟩
     rw [List.getElem?_append_left (by simp; rw [da.length]; exact hi),List.getElem?_map,e]; rfl
   ·rw [List.getElem?_append_right (by simpa using hi)] at h
    rw [List.getElem?_replicate] at h
    split at h <;> cases h
 ·cases i with
  | zero=>exact absurd rfl (h _)
  | succ i=>rfl
 ·have e1:a∈(if i=0 then [x] else []):=e1
  have e2:a∈(if j=0 then [x] else []):=e2
  split at e1
  ·split at e2
   ·omega
   ·simp at e2
  ·simp at e1
 ·rw [hs]
  have:=da.length
  simp
  omega
theorem Fun.okI {P : Program} {w : World} {K : W.Frag} {mg : Str → Option Value} {base : Heap} {x qual : Str} {st : Stmt} {f : Addr} {fd : FuncData} {N ps : List Str} {k : Nat} {B : Bk} {m : FSt → Fl} (F : Fun K x qual st f fd) (S : FnScope N ps (zaf st))
    (hbody : ∀ (cdv : Value) (A : Around) (outer : List Env) (s : Shared) (H : Hp) (E : XK), Room k (A.deeper (envOfC qual (zaf st) s.heap.objs.size f cdv)) →
      ∃ t, PSs (zBy CX0 P w K mg base N qual (zaf st) f cdv A outer s H E).nox (zdl st) t ∧ FS B t m) : FnOk P w K mg base CX0 (k + 1) f fd ps (SpI B ps.length (zpK m ps.length N.length)) := by
  obtain ⟨oc, od, kV, doc, pm, an, cdv, ct, osl, rfl, lk, hcd⟩ := F.ex
  have hpl : ps.length ≤ N.length := by have := congrArg List.length S.pre; rw [List.length_take] at this; omega
  refine zGc lk hcd S (fun vs H Q E h => h.1) fun A outer s H vs Q E hr ⟨hl, G, c, x, dx, vs', ds, fs, e0, hg, hx, hh, da, hz, post⟩ => ?_
  subst e0
  obtain ⟨t, ht, hf⟩ := hbody cdv A outer s H E hr
  refine ⟨t, ht.nox, ?_⟩
  have hdl := zxn hz
  have hvl : vs'.length + 1 ≤ N.length := by simp at hl; omega
  refine hf _ _ H G _ _ (zx7 hg hx hh da hvl) ?_
  unfold zpK at hz
  rw [if_pos hdl] at hz
  rw [hdl]
  cases q : m (some (.ob c []) :: (ds.map (fun d => some (.sh d)) ++ List.replicate (N.length - ps.length) none)) with
  | nx S' =>
    rw [q] at hz
    dsimp only at hz
    intro σ' H' F' os' st r'
    obtain ⟨⟨fs', hS⟩, hσ⟩ := st.lob 0 c [] rfl
    rw [hS] at hz
    simp only [if_pos rfl, if_true] at hz
    cases hz
    obtain ⟨v, hv, a, dx', ws, e1, eo, nf, hh', en, das⟩ := r'.at' 0 _ hS
    rw [hσ] at hv
    have : v = .ref x := by
      have h0 : (zm7 N (V.ref x :: vs'))[0]? = some (some (.ref x)) := rfl
      rw [h0] at hv
      exact (Option.some.inj (Option.some.inj hv)).symm
    subst this
    cases e1
    refine post H' F' dx' ws (fun b u e ne => st.keep b u e fun i z => ?_) st.up (fun b z => ?_) nf hh' en das
    · have z : b ∈ (if i = 0 then [x] else []) := z
      split at z
      · exact ne (List.mem_singleton.mp z)
      · simp at z
    · rcases st.new b z with z1 | z1 | ⟨i, z1⟩ | z1
      · exact .inl z1
      · exact .inr (.inl ⟨z1, r'.fd b z⟩)
      · have z1 : b ∈ (if i = 0 then [x] else []) := z1
        split at z1
        · rw [List.mem_singleton.mp z1] at z; exact absurd z nf
        · simp at z1
      · exact .inr (.inr z1)
  | rt x => rw [q] at hz; cases hz
  | bk S' => rw [q] at hz; cases hz
  | ct S' => rw [q] at hz; cases hz
  | bad => rw [q] at hz; cases hz
@[simp] def znd (c:Nat) (f:Nat→List D→Option (List (Str×D))) (mr:FSt→Option (List D)):FSt→Option SV:=fun S=>(mr S).bind fun ds=>(f c ds).map fun fs=>.sh (.ins c fs)
section
variable {B:Bk} {tr:TA} {L:List Nat} {mr:FSt→Option (List D)}
theorem zED {c n:Nat} {C:Addr} {f:Nat→List D→Option (List (Str×D))} {E:XK} (hC:B.cl c=C) (hf:∀ c ds z,f c ds=some z→ds.length+1=n) (hr:FA B tr L mr):FE B (zGb C (SpI B n f) [] E tr) L (znd c f mr):=by
 subst hC
 intro S σ H F os Q z rp e k
 obtain ⟨ds,ed,ef⟩:=zcZ e
 rw [Option.map_eq_some_iff] at ef
 obtain ⟨fs,ef,rfl⟩:=ef
 refine hr S σ H F os _ ds rp ed fun vs H1 F1 a1 r1 d1 x dx hx hdx hne=>?_
 have sm:zIU H1 (upd (upd H1 dx (.own x)) x (.ins (B.cl c) dx [])):=fun b u e=>by
  rw [zbJ (zcQ e hx),zbJ (zcQ e hdx)]; exact e
 have hl:(V.ref x :: (vs++[])).length=n:=by rw [List.append_nil,List.length_cons,d1.length]; exact hf _ _ _ ef
 refine ⟨hl,orF F1 (osL os L),c,x,dx,vs++[],ds,fs,rfl,fun b z=>?_,fun z=>r1.gd L x z hx,zbI,by rw [List.append_nil]; exact d1.mono (fun b o _ e=>sm b o e) fun _ z=>z,ef,fun H' G' dx' ws kp up new nx hh en das=>⟨rfl,?_⟩⟩
 ·cases q:H1 b with
  | none=>exact absurd q (r1.gd L b z)
  | some u=>rw [sm b u q]; simp
 ·have al:Al H1 (orF F1 (osL os L)) H' (fun b=>G' b∨b=x):=by
   refine ⟨fun b u e=>kp b u (sm b u e) (zcQ e hx),fun b z=>.inl (up b z),fun b z=>?_⟩
   rcases z with z | rfl
   ·rcases new b z with z | z | ⟨ys,z⟩
    ·exact .inl z
    ·refine .inr (.inl ⟨?_,z.2⟩)
     cases q:H1 b with
     | none=>rfl
     | some u=>rw [sm b u q] at z; cases z.1
    ·by_cases q1:b=x
     ·subst q1; rw [zbI] at z; cases z
     ·by_cases q2:b=dx
      ·subst q2; rw [zbJ q1,zbI] at z; cases z
      ·rw [zbJ q1,zbJ q2] at z; exact .inr (.inr ⟨ys,z⟩)
   ·exact .inr (.inl ⟨hx,by rw [hh]; simp⟩)
  obtain ⟨F2,al2,r2,q,_⟩:=r1.split al
  refine k (.ref x) H' F2 [] (a1.trans al2) r2 ⟨rfl,.ins (q x (.inr rfl)) hh en (das.mono (fun _ _ _ e=>e) fun b z=>q b (.inl z))⟩ fun a ha=>absurd ha (by simp)
theorem zdp {m:FSt→Fl} {n k:Nat}:∀ c ds z,zpK m n k c ds=some z→ds.length+1=n:=fun _ _ _ h=>zxn h
end
end L2
namespace L2
open PySem PySem.Spec PyProof.Rows
def MtE (B:Bk) (K:W.Frag) (T:String) (r:V→List V→Hp→VK→Prop) (f:D→List D→Option SV):Prop:=∀ (H:Hp) (G:Addr→Prop) (x:V) (vs:List V) (dx:D) (ds:List D) (z:SV) (Q:VK),(∀ b,G b→H b≠none)→DA B H G x dx→DAs B H G vs ds→f dx ds=some z→
 (∀ v H' G' o,Al H G H' G'→VA B H' G' v z o→(∀ a,a∈o→H a=none)→Q v H')→r x vs H Q
def MtT (B:Bk) (K:W.Frag) (T:String) (f:D→List D→Option SV):Prop:=∀ (H:Hp) (G:Addr→Prop) (x:V) (dx:D) (ds:List D) (z:SV),DA B H G x dx→f dx ds=some z→tyV K T x H
@[simp] def mBM (f:D→List D→Option SV) (a:FSt→Option D) (r:FSt→Option (List D)):FSt→Option SV:=fun S=>(a S).bind fun x=>(r S).bind fun ds=>f x ds
section
variable {B:Bk} {K:W.Frag} {ta:TE} {La Lb L:List Nat} {ma:FSt→Option D} {tr:TA} {mr:FSt→Option (List D)}
theorem zJo {T:String} {r:V→List V→Hp→VK→Prop} {f:D→List D→Option SV} (ht:MtT B K T f) (ho:MtE B K T r f) (ha:FD B ta La ma) (hr:FA B tr Lb mr):FE B (tBM K T r ta tr) (La++Lb) (mBM f ma mr):=by
 intro S σ H F os Q z rp e k
 obtain ⟨d,ds,ed,er,ef⟩:=zsx e
 refine ha S σ H F os _ d rp ed fun v H1 F1 a1 r1 d1=>⟨ht H1 _ v d ds z d1 ef,hr S σ H1 F1 os _ ds r1 er fun vs H2 F2 a2 r2 d2=>?_⟩
 refine ho H2 (orF F2 (osL os (La++Lb))) v vs d ds z Q (r2.gd _) (d1.later a2 fun i h=>List.mem_append_left _ h) (d2.later Al.refl fun i h=>List.mem_append_right _ h) ef fun u H3 G3 o a3 va fr=>?_
 obtain ⟨F3,al,r3,va2⟩:=zi9 r2 a3 va fr
 refine k u H3 F3 o ((a1.trans a2).trans al) r3 va2 fun b e=>?_
 cases q:H b with
 | none=>rfl
 | some w=>have:=fr b e; rw [(a1.trans a2).same b w q] at this; cases this
theorem zHb {T:String} {r:V→List V→Hp→VK→Prop} {f:D→List D→Option SV} (ht:MtT B K T f) (ho:MtE B K T r f) (ha:FD B ta La ma):FE B (zIf K T r ta) La (mBM f ma zak):=by
 intro S σ H F os Q z rp e k
 obtain ⟨d,ds,ed,er,ef⟩:=zsx e
 cases er
 refine ha S σ H F os _ d rp ed fun v H1 F1 a1 r1 d1=>⟨ht H1 _ v d [] z d1 ef,?_⟩
 refine ho H1 (orF F1 (osL os La)) v [] d [] z Q (r1.gd _) d1 .nil ef fun u H3 G3 o a3 va fr=>?_
 obtain ⟨F3,al,r3,va2⟩:=zi9 r1 a3 va fr
 refine k u H3 F3 o (a1.trans al) r3 va2 fun b e=>?_
 cases q:H b with
 | none=>rfl
 | some w=>have:=fr b e; rw [a1.same b w q] at this; cases this
@[simp] def zrU:List D→Option (List Str)
 | []=>some []
 | .str z :: r=>(zrU r).map fun zs=>z :: zs
 | _=>none
theorem zsE {H:Hp} {G:Addr→Prop}:∀ {vs:List V} {ds:List D} {zs:List Str},DAs B H G vs ds→zrU ds=some zs→vs=zs.map V.str
 | _,_,_,.nil,e=>by cases e; rfl
 | _,_,_,.cons h r,e=>by
  cases h with
  | str x=>
   simp only [zrU,Option.map_eq_some_iff] at e
   obtain ⟨zs,e1,rfl⟩:=e
   rw [zsE r e1]; rfl
  | _=>cases e
@[simp] def zhU:D→List D→Option SV
 | .str z,[.lst ds]=>(zrU ds).bind fun zs=>if (zs.map (·.length)).sum+zs.length*z.length≤16777216 then some (.sh (.str (Txt.join z zs))) else none
 | _,_=>none
theorem zHc:MtT B K "str" zhU:=by
 intro H G x dx ds z d e
 cases d with
 | str x=>rfl
 | _=>cases e
theorem zB5 (hK:B.K=K):MtE B K "str" (zDV K) zhU:=by
 subst hK
 intro H G x vs dx ds z Q hg d d2 e k
 unfold zhU at e
 split at e
 ·obtain ⟨zs,e1,e2⟩:=zcZ e
  split at e2
  ·cases e2
   obtain ⟨v,rfl,d3⟩:=d2.one
   cases d
   cases d3 with
   | lst h r=>
    have:=zsE r e1
    subst this
    exact ⟨_,_,zs,rfl,rfl,h.sq,by assumption,k _ H G [] Al.refl ⟨rfl,.str _⟩ (by simp)⟩
  ·cases e2
 ·cases e
@[simp] def zon:D→List D→Option SV
 | .lst ds,[.str z]=>(zrU ds).bind fun zs=>if zs.idxOf z < zs.length then some (.sh (.int (zs.idxOf z:Nat))) else none
 | _,_=>none
theorem zEE:MtT B K "list" zon:=by
 intro H G x dx ds z d e
 cases d with
 | lst h r=>exact .inl ⟨rfl,_,.inl (.inl h.2)⟩
 | _=>cases e
theorem zzV (hK:B.K=K):MtE B K "list" (zCO K) zon:=by
 subst hK
 intro H G x vs dx ds z Q hg d d2 e k
 unfold zon at e
 split at e
 ·rename_i ys w
  obtain ⟨zs,e1,e2⟩:=zcZ e
  split at e2
  ·rename_i hl
   cases e2
   obtain ⟨v,rfl,d3⟩:=d2.one
   cases d3
   cases d with
   | lst h r=>
    have:=zsE r e1
    subst this
    refine ⟨_,zs,w,zs.idxOf w,rfl,rfl,h.sq,?_,fun m hm hz=>?_,k _ H G [] Al.refl ⟨rfl,.int _⟩ (by simp)⟩
    ·rw [List.getElem?_eq_getElem hl,List.getElem_idxOf]
    ·have:=List.not_of_lt_findIdx (p:=(·==w)) (xs:=zs) (i:=m) hm
     rw [List.getElem?_eq_getElem (by omega)] at hz
     have hz:=Option.some.inj hz
     simp [hz] at this
  ·cases e2
 ·cases e
@[simp] def zpL:D→List D→Option SV
 | .int i,[]=>some (.sh (.int ((Builtin.Int.intBits i:Nat):Int)))
 | _,_=>none
theorem zB6:MtT B K "int" zpL:=by
 intro H G x dx ds z d e
 cases d with
 | int x=>rfl
 | _=>cases e
theorem zx8:MtE B K "int" zzn zpL:=by
 intro H G x vs dx ds z Q hg d d2 e k
 unfold zpL at e
 split at e
 ·cases e; cases d; cases d2
  exact ⟨_,rfl,rfl,k _ H G [] Al.refl ⟨rfl,.int _⟩ (by simp)⟩
 ·cases e
@[simp] def zHd:List D→Option (List Bool)
 | []=>some []
 | .bl z :: r=>(zHd r).map fun zs=>z :: zs
 | _=>none
theorem zCX {H:Hp} {G:Addr→Prop}:∀ {vs:List V} {ds:List D} {zs:List Bool},DAs B H G vs ds→zHd ds=some zs→vs=zs.map V.bl
 | _,_,_,.nil,e=>by cases e; rfl
 | _,_,_,.cons h r,e=>by
  cases h with
  | bl x=>
   simp only [zHd,Option.map_eq_some_iff] at e
   obtain ⟨zs,e1,rfl⟩:=e
   rw [zCX r e1]; rfl
  | _=>cases e
@[simp] def zIk:List D→Option SV
 | [.lst ds]=>(zHd ds).map fun bs=>.sh (.bl (bs.all id))
 | _=>none
theorem zJp (hK:B.K=K):zna B (zKq K) zIk:=by
 subst hK
 intro H G vs ds z Q hg hd e k
 unfold zIk at e
 split at e
 ·rw [Option.map_eq_some_iff] at e
  obtain ⟨bs,e1,rfl⟩:=e
  obtain ⟨v,rfl,d1⟩:=hd.one
  cases d1 with
  | lst h r=>
   have:=zCX r e1
   subst this
   exact ⟨_,bs,rfl,h.sq,k _ H G [] Al.refl ⟨rfl,.bl _⟩ (by simp)⟩
 ·cases e
@[simp] def zLz:List D→Option SV
 | [.int i]=>if i.natAbs.log2 < 1920 then some (.sh (.str (toString i))) else none
 | _=>none
def zHe:List V→Hp→VK→Prop:=fun xs H Q=>(∃ i,xs=[.int i]∧i.natAbs.log2 < 1920∧Q (.str (toString i)) H)∨∃ z,xs=[.str z]∧Q (.str z) H
theorem zzW {X:Cx}:CallR X (.type "str") zHe:=zud.or (by
 intro pins s σ H xs us Q I r h
 obtain ⟨z,rfl,q⟩:=h
 obtain ⟨u,rfl,t,rfl⟩:=zre r
 exact PySem.P.str_of_str ⟨.str z,H,I,⟨t,rfl⟩,q⟩)
@[simp] def zne:List D→Option SV
 | [.int i]=>if i.natAbs.log2 < 1920 then some (.sh (.str (toString i))) else none
 | [.str z]=>some (.sh (.str z))
 | _=>none
theorem zHf:zna B zHe zne:=by
 intro H G vs ds z Q hg hd e k
 unfold zne at e
 split at e
 ·split at e
  ·cases e
   obtain ⟨v,rfl,d1⟩:=hd.one
   cases d1
   exact .inl ⟨_,rfl,by assumption,k _ H G [] Al.refl ⟨rfl,.str _⟩ (by simp)⟩
  ·cases e
 ·cases e
  obtain ⟨v,rfl,d1⟩:=hd.one
  cases d1
  exact .inr ⟨_,rfl,k _ H G [] Al.refl ⟨rfl,.str _⟩ (by simp)⟩
 ·cases e
def zKI (K:W.Frag):List V→Hp→VK→Prop:=fun xs H Q=>∃ x C t b,xs=[x,.ref C]∧TyOf K H x t∧W.kitOne K t (.ref C)=some b∧Q (.bl b) H
theorem zB7 {X:Cx} (hK:X.K=K):CallR X (.builtin "isinstance") (zKI K):=by
 subst hK
 intro pins s σ H xs us Q I r h
 obtain ⟨x,C,t,b,rfl,ty,e,q⟩:=h
 obtain ⟨u,c,rfl,ru,rc⟩:=Vals.two r
 cases rc
 exact zue I ru ty e fun tk=>⟨.bl b,H,I.tok tk,rfl,q⟩
def zKJ (K:W.Frag):List V→Hp→VK→Prop:=fun xs H Q=>zvF K xs H Q∨zKI K xs H Q
theorem zB8 {X:Cx} (hK:X.K=K):CallR X (.builtin "isinstance") (zKJ K):=(zur hK).or (zB7 hK)
structure KInst (K:W.Frag) (C:Addr):Prop where
 cl:Cls K C
 ha:W.findIn K (.ref C) "__class__"=some (some (.builtin "object.__class__"))
 hn:W.specialIn K (.builtin "object.__class__") "__get__"=some (some (.builtin "getset_descriptor.__get__"))
 htk:W.takesIn K (.builtin "object.__class__")=some true
 hm:W.mroIn K C (.type "object")=some true
def zmo (tab:Nat→Nat→Option Bool):List D→Option SV
 | [d,.ty n]=>d.kind.bind fun t=>(zEt t n).map fun b=>.sh (.bl b)
 | [.ins c _,.cls C]=>(tab c C).map fun b=>.sh (.bl b)
 | _=>none
theorem zJq {tab:Nat→Nat→Option Bool} (hK:B.K=K) (ht:∀ c C b,tab c C=some b→KInst B.K (B.cl c)∧W.kitOne B.K (.ref (B.cl c)) (.ref (B.cl C))=some b):zna B (zKJ K) (zmo tab):=by
 subst hK
 intro H G vs ds z Q hg hd e k
 unfold zmo at e
 split at e
 ·exact .inl (zJi rfl H G vs _ z Q hg hd (by unfold zJh; exact e) k)
 ·rw [Option.map_eq_some_iff] at e
  obtain ⟨b,e1,rfl⟩:=e
  obtain ⟨v,w,rfl,d1,d2⟩:=hd.two
  cases d2
  cases d1 with
  | ins f h en r=>
   obtain ⟨ki,kk⟩:=ht _ _ _ e1
   exact .inr ⟨_,_,_,b,rfl,.ins h ki.cl ki.ha ki.hn ki.htk ki.hm,kk,k _ H G [] Al.refl ⟨rfl,.bl _⟩ (by simp)⟩
 ·cases e
theorem zHg {c:Nat} {C:Addr} (hC:B.cl c=C):FD B (tC (.ref C)) [] (mC (.cls c)):=by
 subst hC
 exact zK7 fun _ _=>.cls c
@[simp] def zzX (me:FSt→Option SV) (md:FSt→Option D):FSt→Fl:=fun S=>match me S,md S with
 | some (.li xs),some _=>if xs.length < sizeLine then .nx S else .bad
 | _,_=>.bad
theorem zEF {te:TE} {me:FSt→Option SV} {td:TE} {md:FSt→Option D} (hK:B.K=K) (he:FE B te La me) (hd:FD B td Lb md):FS B (zxM (tBM K "list" zsr te (zyX td zFq))) (zzX me md):=by
 subst hK
 intro S σ H F os E r h
 unfold zzX at h
 split at h
 case h_2=>exact h.elim
 case h_1 xs d e1 e2=>
  split at h
  case isFalse=>exact h.elim
  case isTrue hz=>
   refine he S σ H F os _ _ r e1 fun v H1 F1 o a1 r1 va fr=>?_
   obtain ⟨a,vs,rfl,rfl,nf,hh,das⟩:=va
   refine ⟨.inl ⟨rfl,vs,.inl (.inl hh)⟩,hd S σ H1 F1 os _ d r1 e2 fun w H2 F2 a2 r2 d2=>?_⟩
   have hh2:=a2.same _ _ hh
   refine ⟨a,vs,w,rfl,rfl,hh2,by rw [das.length]; exact hz,?_⟩
   have na:H a=none:=fr a (by simp)
   have nF:¬ F2 a:=fun z=>by
    rcases a2.new a z with z | z | ⟨ys,z⟩
    ·exact nf (.inl z)
    ·rw [hh] at z; cases z.1
    ·rw [hh] at z; cases z
   have st:FStep σ S H F os σ S (upd H2 a (.lst (vs++[w]))) F2 os:=by
    have s0:FStep σ S H F os σ S H2 F2 os:=(a1.trans a2).step
    refine ⟨fun b u e n=>?_,fun b e=>?_,s0.up,s0.new,s0.own,s0.lok,s0.lob⟩
    ·rw [zbJ (zcQ e na)]; exact s0.keep b u e n
    ·unfold upd
     split
     ·simp
     ·exact s0.liv b e
   refine h σ _ F2 os st ⟨fun i x q=>?_,r2.out,r2.inj,fun b f=>?_,r2.len⟩
   ·obtain ⟨u,h1,h2⟩:=r2.at' i x q
    refine ⟨u,h1,h2.mono (fun b o f e=>by rw [zbJ]; exact e; rintro rfl; exact nF f) (fun b o hb e=>?_) (fun _ f=>f) fun b hb=>(r2.alive hb).2⟩
    rw [zbJ]; exact e
    rintro rfl
    exact (r.alive hb).1 na
   ·unfold upd
    split
    ·simp
    ·exact r2.fd b f
@[simp] def zHh (i:Nat):FSt→Fl:=fun S=>match S[i]? with
 | some (some (.li xs))=>.nx (S.set i (some (.li xs.reverse)))
 | _=>.bad
theorem DAs.reverse {H:Hp} {F:Addr→Prop}:∀ {vs:List V} {ds:List D},DAs B H F vs ds→DAs B H F vs.reverse ds.reverse
 | _,_,.nil=>.nil
 | _,_,.cons h r=>by
  rw [List.reverse_cons,List.reverse_cons]
  exact (DAs.reverse r).append (.cons h .nil)
theorem zHi {i:Nat} (hK:B.K=K):FS B (zxM (zIf K "list" zxh (zyD i))) (zHh i):=by
 subst hK
 intro S σ H F os E r h
 unfold zHh at h
 split at h
 case h_2=>exact h.elim
 case h_1 xs e=>
  obtain ⟨v,hv,a,vs,rfl,eo,nf,hh,das⟩:=r.at' i _ e
  have em:a∈os i:=by rw [eo]; simp
  refine ⟨.ref a,hv,.inl ⟨rfl,vs,.inl (.inl hh)⟩,a,vs,rfl,rfl,hh,?_⟩
  have hk:∀ b o,F b→H b=some o→upd H a (.lst vs.reverse) b=some o:=fun b o f h=>by rw [zbJ]; exact h; rintro rfl; exact nf f
  have nl:zk9 S i=false:=by unfold zk9; rw [e]; rfl
  exact h σ _ F os (zeQ em (.inl nl)) (r.write em hv ⟨a,_,rfl,eo,nf,zbI,das.reverse.mono hk fun _ f=>f⟩)
end
section
variable {es:List Expr} {env:Env}
theorem zvJ {c k pos}:starEach (.Constant c k pos :: es) env=(false,eval (.Constant c k pos) env) :: starEach es env:=rfl
theorem zEG {x pos}:starEach (.Name x pos :: es) env=(false,eval (.Name x pos) env) :: starEach es env:=rfl
theorem zB9 {a b pos}:starEach (.Tuple a b pos :: es) env=(false,eval (.Tuple a b pos) env) :: starEach es env:=rfl
theorem zCa {a o b pos}:starEach (.BinOp a o b pos :: es) env=(false,eval (.BinOp a o b pos) env) :: starEach es env:=rfl
theorem zzY {o b pos}:starEach (.BoolOp o b pos :: es) env=(false,eval (.BoolOp o b pos) env) :: starEach es env:=rfl
theorem zx9 {a o b pos}:starEach (.Compare a o b pos :: es) env=(false,eval (.Compare a o b pos) env) :: starEach es env:=rfl
theorem zEH {a b c pos}:starEach (.Call a b c pos :: es) env=(false,eval (.Call a b c pos) env) :: starEach es env:=rfl
theorem zuD {a b pos}:starEach (.Subscript a b pos :: es) env=(false,eval (.Subscript a b pos) env) :: starEach es env:=rfl
theorem zuE {a b pos}:starEach (.Attribute a b pos :: es) env=(false,eval (.Attribute a b pos) env) :: starEach es env:=rfl
theorem zvK {a b c pos}:starEach (.ListComp a b c pos :: es) env=(false,eval (.ListComp a b c pos) env) :: starEach es env:=rfl
end
end L2
namespace L2
open PySem PySem.Spec PyProof.Rows
section
variable {ι:Type}
structure JD (Xs:ι→Cx) (B:Bk) (e:Expr) (L:List Nat) (m:FSt→Option D):Prop where
 ex:∃ t,(∀ i,PE (Xs i) e t)∧FD B t L m
structure JE (Xs:ι→Cx) (B:Bk) (e:Expr) (L:List Nat) (m:FSt→Option SV):Prop where
 ex:∃ t,(∀ i,PE (Xs i) e t)∧FE B t L m
structure JT (Xs:ι→Cx) (B:Bk) (e:Expr) (m:FSt→Option Bool):Prop where
 ex:∃ t,(∀ i,PT (Xs i) e t)∧FT B t m
structure JW (Xs:ι→Cx) (B:Bk) (e:Expr) (m:FSt→Option Bool):Prop where
 ex:∃ t,(∀ i,PW (Xs i) e t)∧FT B t m
structure JA (Xs:ι→Cx) (B:Bk) (es:List Expr) (L:List Nat) (m:FSt→Option (List D)):Prop where
 ex:∃ t,(∀ i,PA (Xs i) es t)∧FA B t L m
structure JO (Xs:ι→Cx) (B:Bk) (e:Option Expr) (m:FSt→Option (Option Int)):Prop where
 ex:∃ t,(∀ i,PO (Xs i) e t)∧FO B t m
structure JS (Xs:ι→Cx) (B:Bk) (st:Stmt) (m:FSt→Fl):Prop where
 ex:∃ t,(∀ i,PS (Xs i) st t)∧FS B t m
structure JB (Xs:ι→Cx) (B:Bk) (sts:List Stmt) (m:FSt→Fl):Prop where
 ex:∃ t,(∀ i,PSs (Xs i) sts t)∧FS B t m
structure JG (Xs:ι→Cx) (B:Bk) (tg:Expr) (m:D→FSt→Option FSt):Prop where
 ex:∃ t,(∀ i,PG (Xs i) tg t)∧FG B t m
structure JGs (Xs:ι→Cx) (B:Bk) (tgs:List Expr) (m:List D→FSt→Option FSt):Prop where
 ex:∃ t,(∀ i,PGs (Xs i) tgs t)∧FGs B t m
structure JI (Xs:ι→Cx) (B:Bk) (tg iter:Expr) (m:FSt→Option (List D)):Prop where
 ex:∃ t,(∀ i,PI (Xs i) tg iter t)∧FI B t m
structure JIc (Xs:ι→Cx) (B:Bk) (tg iter:Expr) (L:List Nat) (m:FSt→Option (List D)):Prop where
 ex:∃ t,(∀ i,PI (Xs i) tg iter t)∧FIc B t L m
structure JX (Xs:ι→Cx) (P:Program) (w:World) (K:W.Frag) (mg:Str→Option Value) (base:Heap) (k:Nat) (B:Bk):Prop where
 p:∀ i,(Xs i).prog=P
 w':∀ i,(Xs i).w=w
 k':∀ i,(Xs i).K=K
 m:∀ i,(Xs i).mg=mg
 b:∀ i,(Xs i).base=base
 r:∀ i,Room k (Xs i).A
 c:∀ i,(Xs i).calm=true
 bk:B.K=K
 x:∀ i,PassesOwn (model (Xs i).prog (Xs i).w) (Xs i).A (Xs i).env (Xs i).xe
variable {Xs:ι→Cx} {P:Program} {w:World} {K:W.Frag} {mg:Str→Option Value} {base:Heap} {k:Nat} {B:Bk} {a b e o c:Expr} {es:List Expr} {L L' La Lb:List Nat} {ma mb md:FSt→Option D} {me mx my:FSt→Option SV} {mt mu:FSt→Option Bool} {mr:FSt→Option (List D)} {pos:Pos}
theorem JE.asD (h:JE Xs B e L me):JD Xs B e L (mFr me):=let ⟨t,p,f⟩:=h.ex; ⟨⟨t,p,f.fd⟩⟩
theorem JD.asE (h:JD Xs B e L ma):JE Xs B e L (mSh ma):=let ⟨t,p,f⟩:=h.ex; ⟨⟨t,p,f.fe⟩⟩
theorem zab (i:Nat) {x:Str} (hN:∀ j,(Xs j).N[i]? = some x:=by intro _; rfl) (hv:∀ j,Vis (Xs j).env.scope x:=by intro _; first | exact Or.inl rfl | exact Or.inr (Or.inl rfl) | exact Or.inr (Or.inr rfl)) (hd:(x==("__debug__":Str))=false:=by decide) (hcd:(x==("__classdict__":Str))=false:=by decide):JD Xs B (.Name x pos) [i] (mV i):=
 ⟨⟨_,fun j=>zok (hN j) (hv j) hd hcd,zzv i⟩⟩
theorem zai {i:Int} {j}:JD Xs B (.Constant (.int i) j pos) [] (mC (.int i)):=⟨⟨_,fun _=>zFG,zEb (.int _)⟩⟩
theorem zuF {i:Bool} {j}:JD Xs B (.Constant (.bool i) j pos) [] (mC (.bl i)):=⟨⟨_,fun _=>zIE,zEb (.bl _)⟩⟩
theorem zuG {j}:JD Xs B (.Constant .none j pos) [] (mC .non):=⟨⟨_,fun _=>zFH,zEb .non⟩⟩
theorem zaq {x:Str} {j}:JD Xs B (.Constant (.str x) j pos) [] (mC (.str x)):=⟨⟨_,fun _=>zFI,zEb (.str _)⟩⟩
theorem zzZ (jx:JX Xs P w K mg base k B) {x:Str} {i:Int} (h:GC mg x (.int i)) (hg:∀ j,Gl (Xs j) x:=by intro _; rfl) (hd:(x==("__debug__":Str))=false:=by decide):JD Xs B (.Name x pos) [] (mC (.int i)):=⟨⟨_,fun j=>zGv (hg j) (jx.m j▸h) hd,zEb (.int _)⟩⟩
theorem zJr (jx:JX Xs P w K mg base k B) {x:Str} {i:Str} (h:GC mg x (.str i)) (hg:∀ j,Gl (Xs j) x:=by intro _; rfl) (hd:(x==("__debug__":Str))=false:=by decide):JD Xs B (.Name x pos) [] (mC (.str i)):=⟨⟨_,fun j=>zGv (hg j) (jx.m j▸h) hd,zEb (.str _)⟩⟩
theorem zCb (jx:JX Xs P w K mg base k B) {x:Str} {n:String} (h:mg x=none) (hv:bootBuiltins x=some (.type n)) (hg:∀ j,Gl (Xs j) x:=by intro _; rfl) (hn:x≠"__name__":=by decide) (hd:(x==("__debug__":Str))=false:=by decide):JD Xs B (.Name x pos) [] (mC (.ty n)):=
 ⟨⟨_,fun j=>zDk (v:=.ty n) (hg j) (jx.m j▸h) hv rfl hn hd,zEb (.ty _)⟩⟩
theorem zvL (jx:JX Xs P w K mg base k B) {x:Str} {n:Nat} {C:Addr} (hC:B.cl n=C) (h:mg x=some (.ref C)) (hg:∀ j,Gl (Xs j) x:=by intro _; rfl) (hd:(x==("__debug__":Str))=false:=by decide):JD Xs B (.Name x pos) [] (mC (.cls n)):=
 ⟨⟨_,fun j=>zyL (v:=.ref C) (hg j) (jx.m j▸h) rfl hd,zHg hC⟩⟩
theorem zgx {op:Operator} {r:R2} {f:D→D→Option D} (ho:∀ i,OpR (Xs i) (binaryOp op) r) (hf:OpD B r f) (ha:JD Xs B a La ma) (hb:JD Xs B b Lb mb):JD Xs B (.BinOp a op b pos) (La++Lb) (m2 f ma mb):=
 let ⟨_,pa,fa⟩:=ha.ex; let ⟨_,pb,fb⟩:=hb.ex; ⟨⟨_,fun i=>zDs (ho i) (pa i) (pb i),zzx hf fa fb⟩⟩
theorem zbl (jx:JX Xs P w K mg base k B) (ha:JD Xs B a La ma) (hb:JD Xs B b Lb mb):JE Xs B (.BinOp a .Add b pos) (La++Lb) (m2 zbV ma mb):=
 let ⟨_,pa,fa⟩:=ha.ex; let ⟨_,pb,fb⟩:=hb.ex; ⟨⟨_,fun i=>zDs (zD2 (jx.k' i)) (pa i) (pb i),zGE (zI9 jx.bk) fa fb⟩⟩
theorem zsF (ha:JD Xs B a La ma) (hb:JD Xs B b Lb mb):JE Xs B (.BinOp a .Mult b pos) (La++Lb) (m2 zt8 ma mb):=
 let ⟨_,pa,fa⟩:=ha.ex; let ⟨_,pb,fb⟩:=hb.ex; ⟨⟨_,fun i=>zDs zDZ (pa i) (pb i),zGE zJa fa fb⟩⟩
structure JCmp (Xs:ι→Cx) (B:Bk) (op:CmpOp) (f:D→D→Option D):Prop where
 ex:∃ r,(∀ i,OpR (Xs i) (compareOp op) r)∧OpD B r f
theorem zep (jx:JX Xs P w K mg base k B):JCmp Xs B .Eq oEq:=⟨⟨_,fun i=>zGw (jx.k' i) (jx.r i).c64,zJb jx.bk⟩⟩
theorem zvM (jx:JX Xs P w K mg base k B):JCmp Xs B .NotEq oNe:=⟨⟨_,fun i=>zGx (jx.k' i) (jx.r i).c64,zJc jx.bk⟩⟩
theorem zyF (jx:JX Xs P w K mg base k B):JCmp Xs B .In oIn:=⟨⟨_,fun i=>zGC (jx.k' i) (jx.r i).c64,zJd jx.bk⟩⟩
theorem zz0 (jx:JX Xs P w K mg base k B):JCmp Xs B .NotIn zke:=⟨⟨_,fun i=>zzs (jx.k' i) (jx.r i).c64,zB1 jx.bk⟩⟩
theorem zIl:JCmp Xs B .Lt oLt:=⟨⟨_,fun _=>zIM,zI5⟩⟩
theorem zLb:JCmp Xs B .LtE oLe:=⟨⟨_,fun _=>zIN,zI6⟩⟩
theorem zHj:JCmp Xs B .Gt oGt:=⟨⟨_,fun _=>zIO,zI7⟩⟩
theorem zJs:JCmp Xs B .GtE oGe:=⟨⟨_,fun _=>zIP,zI8⟩⟩
theorem zKK:JCmp Xs B .Is oIs:=⟨⟨_,fun _=>zF3,zJe⟩⟩
theorem zdT {op:CmpOp} {f:D→D→Option D} (hc:JCmp Xs B op f) (ha:JD Xs B a La ma) (hb:JD Xs B b Lb mb) (hm:behindInMarks op b=false:=by first | exact zao _ | rfl):JD Xs B (.Compare a [op] [b] pos) (La++Lb) (m2 f ma mb):=
 let ⟨_,ho,hf⟩:=hc.ex; let ⟨_,pa,fa⟩:=ha.ex; let ⟨_,pb,fb⟩:=hb.ex; ⟨⟨_,fun i=>zDu (ho i) (pa i) (pb i) hm,zzx hf fa fb⟩⟩
theorem zaz {op:CmpOp} {f:D→D→Option D} (hc:JCmp Xs B op f) (ha:JD Xs B a La ma) (hb:JD Xs B b Lb mb) (hm:behindInMarks op b=false:=by first | exact zao _ | rfl):JT Xs B (.Compare a [op] [b] pos) (zaj (m2 f ma mb)):=
 let ⟨_,ho,hf⟩:=hc.ex; let ⟨_,pa,fa⟩:=ha.ex; let ⟨_,pb,fb⟩:=hb.ex; ⟨⟨_,fun i=>zDv (ho i) (pa i) (pb i) hm,zGF (zzx hf fa fb)⟩⟩
theorem zdQ (h:JD Xs B e L ma) (he:∀ i whole,isTrue e (Xs i).env whole=(do let v ← whole; standAt e.pos; holding [v] (truthy v)):=by intro _ _; rfl):JT Xs B e (zaj ma):=let ⟨_,p,f⟩:=h.ex; ⟨⟨_,fun i=>zFJ (p i) (he i),zGG f⟩⟩
theorem zgT (h:JT Xs B a mt):JT Xs B (.UnaryOp .Not a pos) (zo6 mt):=let ⟨_,p,f⟩:=h.ex; ⟨⟨_,fun i=>zFK (p i),zGI f⟩⟩
theorem JW.t (h:JW Xs B a mt):JT Xs B a mt:=let ⟨_,p,f⟩:=h.ex; ⟨⟨_,fun i=>(p i).pt,f⟩⟩
theorem zkf (h:JT Xs B a mt):JW Xs B (.BoolOp .And [a] pos) mt:=let ⟨_,p,f⟩:=h.ex; ⟨⟨_,fun i=>pw_and1 (p i),f⟩⟩
theorem zoo (h:JT Xs B a mt):JW Xs B (.BoolOp .Or [a] pos) mt:=let ⟨_,p,f⟩:=h.ex; ⟨⟨_,fun i=>pw_or1 (p i),f⟩⟩
theorem zop {ze5:List Expr} (h:JT Xs B a mt) (h':JW Xs B (.BoolOp .And (b :: ze5) pos) mu):JW Xs B (.BoolOp .And (a :: b :: ze5) pos) (zx1 mt mu):=let ⟨_,p,f⟩:=h.ex; let ⟨_,p',f'⟩:=h'.ex; ⟨⟨_,fun i=>pw_and (p i) (p' i),zGH f f'⟩⟩
theorem zsG {ze5:List Expr} (h:JT Xs B a mt) (h':JW Xs B (.BoolOp .Or (b :: ze5) pos) mu):JW Xs B (.BoolOp .Or (a :: b :: ze5) pos) (mOr mt mu):=let ⟨_,p,f⟩:=h.ex; let ⟨_,p',f'⟩:=h'.ex; ⟨⟨_,fun i=>pw_or (p i) (p' i),zI0 f f'⟩⟩
theorem zo7 {op} (h:JD Xs B a L ma):JD Xs B (.BoolOp op [a] pos) L ma:=let ⟨_,p,f⟩:=h.ex; ⟨⟨_,fun i=>zFN (p i),f⟩⟩
theorem zo8 {ze5:List Expr} (h:JD Xs B a La ma) (h':JD Xs B (.BoolOp .And (b :: ze5) pos) Lb mb):JD Xs B (.BoolOp .And (a :: b :: ze5) pos) (La++Lb) (zuu (zaj ma) mb (mC (.bl false))):=let ⟨_,p,f⟩:=h.ex; let ⟨_,p',f'⟩:=h'.ex; ⟨⟨_,fun i=>zFO (p i) (p' i),zEc f f'⟩⟩
theorem zLc {ze5:List Expr} (h:JD Xs B a La ma) (h':JD Xs B (.BoolOp .Or (b :: ze5) pos) Lb mb):JD Xs B (.BoolOp .Or (a :: b :: ze5) pos) (La++Lb) (zuu (zaj ma) (mC (.bl true)) mb):=let ⟨_,p,f⟩:=h.ex; let ⟨_,p',f'⟩:=h'.ex; ⟨⟨_,fun i=>zIF (p i) (p' i),zGJ f f'⟩⟩
theorem zHk (h:JD Xs B a L ma):JD Xs B (.UnaryOp .Not a pos) L (mBl (zo6 (zaj ma))):=let ⟨_,p,f⟩:=h.ex; ⟨⟨_,fun i=>zFP (p i),zEd f⟩⟩
theorem zJt (h:JD Xs B a L ma):JD Xs B (.UnaryOp .USub a pos) L (m1 zEr ma):=let ⟨_,p,f⟩:=h.ex; ⟨⟨_,fun i=>zIL zF2 (p i),zIZ zGY f⟩⟩
theorem zae:JA Xs B [] [] zak:=⟨⟨_,fun _=>zyY,zCP⟩⟩
theorem zaa (ha:JD Xs B e La ma) (hr:JA Xs B es Lb mr) (hs:∀ i,starEach (e :: es) (Xs i).env=(false,eval e (Xs i).env) :: starEach es (Xs i).env):JA Xs B (e :: es) (La++Lb) (zac ma mr):=let ⟨_,p,f⟩:=ha.ex; let ⟨_,p',f'⟩:=hr.ex; ⟨⟨_,fun i=>zvz (p i) (p' i) (hs i),zEe f f'⟩⟩
theorem zcR (h:JA Xs B es L mr):JE Xs B (.List es pos) L (zgv mr):=let ⟨_,p,f⟩:=h.ex; ⟨⟨_,fun i=>zF9 (p i),zGK f⟩⟩
theorem zct {x1} (h:JA Xs B es L mr):JD Xs B (.Tuple es x1 pos) L (zel mr):=let ⟨_,p,f⟩:=h.ex; ⟨⟨_,fun i=>zF8 (p i),zGL f⟩⟩
theorem zHl:JE Xs B (.Dict [] [] pos) [] mDK:=⟨⟨_,fun _=>zBI,zEx⟩⟩
theorem zHm:JE Xs B (.Dict [] [] pos) [] mDT:=⟨⟨_,fun _=>zBJ,zEy⟩⟩
theorem zav (jx:JX Xs P w K mg base k B) (i:Nat) {x f:Str} {cs:List Nat} {p1:Pos} (hc:∀ c∈cs,Cls B.K (B.cl c)∧NoAttr B.K (B.cl c) f) (h:JD Xs B (.Name x p1) [i] (mV i)) (hN:∀ j,(Xs j).N[i]? = some x:=by intro _; rfl) (hv:∀ j,Vis (Xs j).env.scope x:=by intro _; first | exact Or.inl rfl | exact Or.inr (Or.inl rfl) | exact Or.inr (Or.inr rfl))
  (hb:∀ j,attributeBase (.Name x p1) f (Xs j).env (eval (.Name x p1) (Xs j).env)=eval (.Name x p1) (Xs j).env:=by intro _; rfl) (hd:(x==("__debug__":Str))=false:=by decide) (hcd:(x==("__classdict__":Str))=false:=by decide):JD Xs B (.Attribute (.Name x p1) f pos) [] (m1 (zcV cs f) (mV i)):=
 ⟨⟨_,fun j=>zD5 (jx.k' j) (zok (hN j) (hv j) hd hcd) (hb j),zEC jx.bk hc⟩⟩
theorem zgU:JO Xs B none mNo:=⟨⟨_,fun _=>zDD,zEu⟩⟩
theorem zed (h:JD Xs B e L ma):JO Xs B (some e) (mAt ma):=let ⟨_,p,f⟩:=h.ex; ⟨⟨_,fun i=>zDE (p i),zEv f⟩⟩
theorem zya (jx:JX Xs P w K mg base k B) {lo hi:Option Expr} {ml mh:FSt→Option (Option Int)} {p2:Pos} (h:JD Xs B e L ma) (hl:JO Xs B lo ml) (hh:JO Xs B hi mh):JE Xs B (.Subscript e (.Slice lo hi none p2) pos) L (mSl ma ml mh):=
 let ⟨_,p,f⟩:=h.ex; let ⟨_,p',f'⟩:=hl.ex; let ⟨_,q,g⟩:=hh.ex; ⟨⟨_,fun i=>zBB (zD9 (jx.k' i)) (p i) (p' i) (q i),zJj jx.bk f f' g⟩⟩
theorem zCc (jx:JX Xs P w K mg base k B) (ha:JD Xs B a La ma) (hb:JD Xs B b Lb mb) (hs:zIX b:=by intros _ _; rfl):JD Xs B (.Subscript a b pos) (La++Lb) (m2 zxm ma mb):=
 let ⟨_,p,f⟩:=ha.ex; let ⟨_,p',f'⟩:=hb.ex; ⟨⟨_,fun i=>zDP (zGn (jx.r i)) (p i) (p' i) hs,zG1 f f'⟩⟩
theorem zaV (jx:JX Xs P w K mg base k B) (ha:JD Xs B a La ma) (hb:JD Xs B b Lb mb) (hs:zy4 b:=by intros _ _; rfl):JD Xs B (.Subscript a b pos) (La++Lb) (m2 oIx ma mb):=
 let ⟨_,p,f⟩:=ha.ex; let ⟨_,p',f'⟩:=hb.ex; ⟨⟨_,fun i=>zIS (zD3 (jx.k' i)) (p i) (p' i) hs,zzx (zJf jx.bk) f f'⟩⟩
theorem JX.fn (jx:JX Xs P w K mg base k B) {CX:CXT} {n:Nat} {f:Addr} {fd:FuncData} {ps:List Str} {sp:Sp} (F:FnOk P w K mg base CX n f fd ps sp) (i:ι):FnOk (Xs i).prog (Xs i).w (Xs i).K (Xs i).mg (Xs i).base CX n f fd ps sp:=by
 rw [jx.p i,jx.w' i,jx.k' i,jx.m i,jx.b i]; exact F
theorem zaA (jx:JX Xs P w K mg base k B) {n nf:Nat} {f:Addr} {fd:FuncData} {ps:List Str} {fn:List D→Option SV} {x:Str} {p:Pos} (F:FnOk P w K mg base CX0 n f fd ps (SpF B nf fn)) (hn:n≤k) (hm:mg x=some (.ref f)) (hk:W.keepIn K (.ref f)=true) (hb:Binds K fd ps []) (hf:∀ ds z,fn ds=some z→ds.length=nf)
  (ha:JA Xs B (e :: es) L mr) (he:∀ i,starEach (e :: es) (Xs i).env=(false,eval e (Xs i).env) :: starEach es (Xs i).env) (hg:∀ j,Gl (Xs j) x:=by intro _; rfl) (hpl:∀ i,(backTo pos (starEach es (Xs i).env)).any (·.1)=false:=by intro _; rfl) (hdb:(x==("__debug__":Str))=false:=by decide) :
  JE Xs B (.Call (.Name x p) (e :: es) [] pos) L (m1 fn mr):=
 let ⟨_,q,g⟩:=ha.ex; ⟨⟨_,fun i=>zDA (jx.fn F i) ((jx.r i).mono hn) (hg i) (jx.m i▸hm) (jx.k' i▸hk) (jx.k' i▸hb) .nil zBE (q i) hdb (he i) (hpl i),zEf hf g⟩⟩
theorem zkg (jx:JX Xs P w K mg base k B) {n nf cn:Nat} {f C:Addr} {fd:FuncData} {ps:List Str} {fn:Nat→List D→Option (List (Str×D))} {x:Str} {p:Pos} (M:Mk K C f) (F:FnOk P w K mg base CX0 n f fd ps (SpI B nf fn)) (hn:n+1≤k) (hm:mg x=some (.ref C)) (hb:Binds K fd ps []) (hC:B.cl cn=C) (hf:∀ c ds z,fn c ds=some z→ds.length+1=nf)
  (ha:JA Xs B (e :: es) L mr) (he:∀ i,starEach (e :: es) (Xs i).env=(false,eval e (Xs i).env) :: starEach es (Xs i).env) (hg:∀ j,Gl (Xs j) x:=by intro _; rfl) (hpl:∀ i,(backTo pos (starEach es (Xs i).env)).any (·.1)=false:=by intro _; rfl) (hdb:(x==("__debug__":Str))=false:=by decide) :
  JE Xs B (.Call (.Name x p) (e :: es) [] pos) L (znd cn fn mr):=
 let ⟨_,q,g⟩:=ha.ex; ⟨⟨_,fun i=>zDC (jx.k' i▸M) (jx.fn F i) ((jx.r i).mono hn) (hg i) (jx.m i▸hm) (jx.k' i▸hb) .nil zBE (q i) hdb (he i) (hpl i),zED hC hf g⟩⟩
theorem zb3 (jx : JX Xs P w K mg base k B) {n nf cn : Nat} {f C : Addr} {fd : FuncData} {ps : List Str} {fn : List D → Option SV} {m : Str} {apos : Pos} {pl : ι → Sem Bool} (ho : JD Xs B o La ma) (cc : Cls K C) (hm : Meth K C m f) (F : FnOk P w K mg base CX0 n f fd ps (SpF B nf fn)) (hn : n ≤ k) (hb : Binds K fd ps []) (hC : B.cl cn = C) (hf : ∀ ds z, fn ds = some z → ds.length = nf)
    (ha : JA Xs B (e :: es) Lb mr) (he : ∀ i, starEach (e :: es) (Xs i).env = (false, eval e (Xs i).env) :: starEach es (Xs i).env) (hpl : ∀ i, (backTo pos (starEach es (Xs i).env)).any (·.1) = false := by intro _; rfl)
    (ht : ∀ i, eval (.Call (.Attribute o m apos) (e :: es) [] pos) (Xs i).env = (do
      let ov ← eval o (Xs i).env
      standAt apos.atName
      let (f, first) ← holding [ov] (getMethod ov m (pl i))
      callWith pos f first (backTo pos (starEach (e :: es) (Xs i).env)) (backToKw pos (keywordEach [] (Xs i).env))) := by intro _; rfl) : JE Xs B (.Call (.Attribute o m apos) (e :: es) [] pos) (La ++ Lb) (zaC cn m fn ma mr) :=
  let ⟨_, p, g⟩ := ho.ex; let ⟨_, q, g'⟩ := ha.ex; ⟨⟨_, fun i => zDB (p i) (jx.k' i ▸ cc) (jx.k' i ▸ hm) (jx.fn F i) ((jx.r i).mono hn) (jx.k' i ▸ hb) .nil zBE (q i) (he i) (hpl i) (ht i), zzy hC hf g g'⟩⟩
theorem zaH (jx : JX Xs P w K mg base k B) {n nf cn : Nat} {f C : Addr} {fd : FuncData} {ps : List Str} {fn : List D → Option SV} {m : Str} {apos : Pos} {pl : ι → Sem Bool} (ho : JD Xs B o La ma) (cc : Cls K C) (hm : Meth K C m f) (F : FnOk P w K mg base CX0 n f fd ps (SpF B nf fn)) (hn : n ≤ k) (hb : Binds K fd ps []) (hC : B.cl cn = C) (hf : ∀ ds z, fn ds = some z → ds.length = nf)
    (ht : ∀ i, eval (.Call (.Attribute o m apos) [] [] pos) (Xs i).env = (do
      let ov ← eval o (Xs i).env
      standAt apos.atName
      let (f, first) ← holding [ov] (getMethod ov m (pl i))
      callWith pos f first (backTo pos (starEach [] (Xs i).env)) (backToKw pos (keywordEach [] (Xs i).env))) := by intro _; rfl) : JE Xs B (.Call (.Attribute o m apos) [] [] pos) (La ++ []) (zaC cn m fn ma zak) :=
  let ⟨_, p, g⟩ := ho.ex; ⟨⟨_, fun i => zBw (p i) (jx.k' i ▸ cc) (jx.k' i ▸ hm) (jx.fn F i) ((jx.r i).mono hn) (jx.k' i ▸ hb) .nil zBE (ht i), zzy hC hf g zCP⟩⟩
theorem JE.or (h:JE Xs B e La mx) (h':JE Xs B e Lb my):JE Xs B e (La++Lb) (zdS mx my):=let ⟨_,p,f⟩:=h.ex; let ⟨_,p',f'⟩:=h'.ex; ⟨⟨_,fun i=>PE.or (p i) (p' i),FE.or f f'⟩⟩
structure JCall (Xs:ι→Cx) (B:Bk) (v:Value) (f:List D→Option SV):Prop where
 ex:∃ r,(∀ i,CallR (Xs i) v r)∧zna B r f
theorem zfc (jx:JX Xs P w K mg base k B):JCall Xs B (.builtin "len") zll:=⟨⟨_,fun i=>zzO (jx.k' i),zJg jx.bk⟩⟩
theorem zln (jx:JX Xs P w K mg base k B) {tab:Nat→Nat→Option Bool} (ht:∀ c C b,tab c C=some b→KInst B.K (B.cl c)∧W.kitOne B.K (.ref (B.cl c)) (.ref (B.cl C))=some b):JCall Xs B (.builtin "isinstance") (zmo tab):=⟨⟨_,fun i=>zB8 (jx.k' i),zJq jx.bk ht⟩⟩
theorem zJu (jx:JX Xs P w K mg base k B):JCall Xs B (.builtin "max") zFv:=⟨⟨_,fun i=>zyS (jx.c i),zJl⟩⟩
theorem zJv (jx:JX Xs P w K mg base k B):JCall Xs B (.builtin "min") zIj:=⟨⟨_,fun i=>zyT (jx.c i),zJm⟩⟩
theorem zJw (jx:JX Xs P w K mg base k B):JCall Xs B (.builtin "all") zIk:=⟨⟨_,fun i=>zzh (jx.k' i) (jx.c i),zJp jx.bk⟩⟩
theorem zuH (jx:JX Xs P w K mg base k B):JCall Xs B (.type "list") zuB:=⟨⟨_,fun i=>zx6 (jx.k' i) (jx.c i),zG4 jx.bk⟩⟩
theorem zlQ (jx:JX Xs P w K mg base k B):JCall Xs B (.type "tuple") zlp:=⟨⟨_,fun i=>zvG (jx.k' i),zEz jx.bk⟩⟩
theorem zHn:JCall Xs B (.type "int") zB4:=⟨⟨_,fun _=>zyU,zJn⟩⟩
theorem zHo:JCall Xs B (.type "str") zne:=⟨⟨_,fun _=>zzW,zHf⟩⟩
theorem zaM (jx:JX Xs P w K mg base k B) {id:String} {f:List D→Option SV} {x:Str} {p:Pos} (hc:JCall Xs B (.builtin id) f) (hm:mg x=none) (hv:bootBuiltins x=some (.builtin id)) (ha:JA Xs B (e :: es) L mr) (he:∀ i,starEach (e :: es) (Xs i).env=(false,eval e (Xs i).env) :: starEach es (Xs i).env)
  (hg:∀ j,Gl (Xs j) x:=by intro _; rfl) (hn:x≠"__name__":=by decide) (hdb:(x==("__debug__":Str))=false:=by decide) (hpl:∀ i,(backTo pos (starEach es (Xs i).env)).any (·.1)=false:=by intro _; rfl):JE Xs B (.Call (.Name x p) (e :: es) [] pos) L (m1 f mr):=
 let ⟨_,c1,c2⟩:=hc.ex; let ⟨_,q,g⟩:=ha.ex; ⟨⟨_,fun i=>zBz (c1 i) (hg i) (jx.m i▸hm) hv (q i) hn hdb (he i) (hpl i),zGM c2 g⟩⟩
theorem zcO (jx:JX Xs P w K mg base k B) {T:String} {f:List D→Option SV} {x:Str} {p:Pos} (hc:JCall Xs B (.type T) f) (hm:mg x=none) (hv:bootBuiltins x=some (.type T)) (ha:JA Xs B (e :: es) L mr) (he:∀ i,starEach (e :: es) (Xs i).env=(false,eval e (Xs i).env) :: starEach es (Xs i).env)
  (hg:∀ j,Gl (Xs j) x:=by intro _; rfl) (hn:x≠"__name__":=by decide) (hdb:(x==("__debug__":Str))=false:=by decide) (hpl:∀ i,(backTo pos (starEach es (Xs i).env)).any (·.1)=false:=by intro _; rfl):JE Xs B (.Call (.Name x p) (e :: es) [] pos) L (m1 f mr):=
 let ⟨_,c1,c2⟩:=hc.ex; let ⟨_,q,g⟩:=ha.ex; ⟨⟨_,fun i=>zy1 (c1 i) (hg i) (jx.m i▸hm) hv (q i) hn hdb (he i) (hpl i),zGM c2 g⟩⟩
structure JMt (Xs:ι→Cx) (B:Bk) (K:W.Frag) (T:String) (name:Str) (f:D→List D→Option SV):Prop where
 ex:∃ r id,PlainAttrs T∧Slot T name id∧typeOf (.builtin id)=pure (.type "method_descriptor")∧(∀ i,MtR (Xs i) id r)∧MtT B K T f∧MtE B K T r f
theorem zsH (jx:JX Xs P w K mg base k B):JMt Xs B K "str" "join" zhU:=⟨⟨_,_,PySem.F.plainAttrs_str,PySem.F.slot_str_join,PySem.F.type_str_join,fun i=>zBN (jx.k' i),zHc,zB5 jx.bk⟩⟩
theorem zxo (jx:JX Xs P w K mg base k B):JMt Xs B K "list" "index" zon:=⟨⟨_,_,PySem.F.plainAttrs_list,PySem.F.slot_list_index,PySem.F.type_list_index,fun i=>zzq (jx.k' i),zEE,zzV jx.bk⟩⟩
theorem zz1:JMt Xs B K "int" "bit_length" zpL:=⟨⟨_,_,PySem.F.plainAttrs_int,PySem.F.slot_int_bit_length,PySem.F.type_int_bit_length,fun _=>zzo,zB6,zx8⟩⟩
theorem zFx (jx:JX Xs P w K mg base k B) {T:String} {name:Str} {f:D→List D→Option SV} {apos cpos:Pos} (hm:JMt Xs B K T name f) (ho:JD Xs B o La ma) (ha:JA Xs B (e :: es) Lb mr) (hs:∀ i,starEach (e :: es) (Xs i).env=(false,eval e (Xs i).env) :: starEach es (Xs i).env)
  (hbase:∀ i,attributeBase o name (Xs i).env (eval o (Xs i).env)=eval o (Xs i).env:=by intro _; rfl)
  (hfew:∀ i,((backTo cpos (starEach (e :: es) (Xs i).env)).all (fun x=>!x.1)&&(backToKw cpos (keywordEach [] (Xs i).env)).all (fun x=>x.1.isSome)&&decide ((e :: es).length+([]:List Keyword).length+(if ([]:List Keyword).isEmpty then 0 else 1) < 30))=true:=by intro _; rfl)
  (hline:(apos.endLine==cpos.line)=true:=by rfl) (hplain:∀ i,(backTo cpos (starEach es (Xs i).env)).any (·.1)=false:=by intro _; rfl):JE Xs B (.Call (.Attribute o name apos) (e :: es) [] cpos) (La++Lb) (mBM f ma mr):=
 let ⟨_,_,h1,h2,h3,h4,h5,h6⟩:=hm.ex; let ⟨_,p,g⟩:=ho.ex; let ⟨_,q,g'⟩:=ha.ex; ⟨⟨_,fun i=>zzk (jx.k' i) h1 h2 h3 (h4 i) (p i) (q i) (hbase i) (hfew i) hline (hs i) (hplain i),zJo h5 h6 g g'⟩⟩
theorem zJx (jx:JX Xs P w K mg base k B) {T:String} {name:Str} {f:D→List D→Option SV} {apos cpos:Pos} (hm:JMt Xs B K T name f) (ho:JD Xs B o La ma)
  (hbase:∀ i,attributeBase o name (Xs i).env (eval o (Xs i).env)=eval o (Xs i).env:=by intro _; rfl) (hline:(apos.endLine==cpos.line)=true:=by rfl):JE Xs B (.Call (.Attribute o name apos) [] [] cpos) La (mBM f ma zak):=
 let ⟨_,_,h1,h2,h3,h4,h5,h6⟩:=hm.ex; let ⟨_,p,g⟩:=ho.ex; ⟨⟨_,fun i=>zzj (jx.k' i) h1 h2 h3 (h4 i) (p i) (hbase i) hline,zHb h5 h6 g⟩⟩
theorem zau (i:Nat) {x:Str} (hN:∀ j,(Xs j).N.Nodup) (hx:∀ j,Loc (Xs j).env.scope x) (hi:∀ j,(Xs j).N[i]? = some x:=by intro _; rfl) (hf:∀ j,(Xs j).fn x=true∨(Xs j).env.scope.names.lookup x=some .local:=by intro _; first | exact .inl rfl | exact .inr rfl):JG Xs B (.Name x pos) (gN i):=⟨⟨_,fun j=>zDn (hN j) (hi j) (hx j) (hf j),zEj i⟩⟩
theorem zid:JGs Xs B [] gNs:=⟨⟨_,fun _=>zDo,zEk⟩⟩
theorem zb4 {g1:D→FSt→Option FSt} {g2:List D→FSt→Option FSt} (h1:JG Xs B e g1) (h2:JGs Xs B es g2) (hs:∀ i,(assignEach (e :: es) (Xs i).env).map (·.2)=assign e (Xs i).env :: (assignEach es (Xs i).env).map (·.2):=by intro _; rfl):JGs Xs B (e :: es) (gCs g1 g2):=let ⟨_,p,f⟩:=h1.ex; let ⟨_,q,g⟩:=h2.ex; ⟨⟨_,fun i=>zBp (p i) (q i) (hs i),zBW f g⟩⟩
theorem zlq (jx:JX Xs P w K mg base k B) {n:Nat} {k1:Nat} {g2:List D→FSt→Option FSt} (h:JGs Xs B es g2) (hn:∀ i,(assignEach es (Xs i).env).length=n:=by intro _; rfl) (hst:∀ i,(assignEach es (Xs i).env).findIdx? (·.1)=none:=by intro _; rfl):JG Xs B (.Tuple es k1 pos) (gSq n g2):=let ⟨_,p,f⟩:=h.ex; ⟨⟨_,fun i=>zD8 (jx.k' i) (jx.c i) (p i) (hn i) (hst i),zGS jx.bk f⟩⟩
theorem zxp (jx:JX Xs P w K mg base k B) {tg:Expr} (L':List Nat) (h:JE Xs B e L me) (hl:(L.all fun i=>L'.contains i)=true:=by rfl):JI Xs B tg e (mIt L' me):=let ⟨_,p,f⟩:=h.ex; ⟨⟨_,fun i=>zvE (jx.k' i) (p i),zG7 L' jx.bk f hl⟩⟩
theorem zdi (jx:JX Xs P w K mg base k B) {tg:Expr} (h:JD Xs B e L ma):JIc Xs B tg e L (zmn ma):=let ⟨_,p,f⟩:=h.ex; ⟨⟨_,fun i=>zvE (jx.k' i) (p i),zEp jx.bk f⟩⟩
theorem JI.asC {tg:Expr} (h:JI Xs B tg e mr):JIc Xs B tg e [] mr:=let ⟨_,p,f⟩:=h.ex; ⟨⟨_,p,f.c⟩⟩
theorem zlR (jx:JX Xs P w K mg base k B) {tg:Expr} {p:Pos} (hm:mg "range"=none) (ha:JA Xs B [a] L mr) (hs:∀ i,starEach [a] (Xs i).env=[(false,eval a (Xs i).env)]:=by intro _; rfl) (hg:∀ i,Gl (Xs i) "range":=by intro _; rfl):JI Xs B tg (.Call (.Name "range" p) [a] [] pos) (mR1 mr):=let ⟨_,q,f⟩:=ha.ex; ⟨⟨_,fun i=>zyO (hg i) (jx.m i▸hm) (q i) (hs i),zEA f⟩⟩
theorem zz2 (jx:JX Xs P w K mg base k B) {tg:Expr} {p:Pos} (hm:mg "range"=none) (ha:JA Xs B [a,b] L mr) (hs:∀ i,starEach [a,b] (Xs i).env=[(false,eval a (Xs i).env),(false,eval b (Xs i).env)]:=by intro _; rfl) (hs2:∀ i,starEach [b] (Xs i).env=[(false,eval b (Xs i).env)]:=by intro _; rfl) (hg:∀ i,Gl (Xs i) "range":=by intro _; rfl):JI Xs B tg (.Call (.Name "range" p) [a,b] [] pos) (mR2 mr):=let ⟨_,q,f⟩:=ha.ex; ⟨⟨_,fun i=>zyP (hg i) (jx.m i▸hm) (q i) (hs i) (hs2 i),zEB f⟩⟩
structure JIf (Xs:ι→Cx) (B:Bk) (ifs:List Expr) (m:FSt→Option Bool):Prop where
 ex:∃ t,(∀ i,PIf (Xs i) ifs t)∧FT B t m
theorem zc0:JIf Xs B [] zdo:=⟨⟨_,fun _=>zDR,zEo⟩⟩
theorem zjc (h:JT Xs B a mt):JIf Xs B [a] mt:=let ⟨_,p,f⟩:=h.ex; ⟨⟨_,fun i=>zDS (p i),f⟩⟩
abbrev JC (Xs:ι→Cx) (scope:Scope) (N:List Str):ι×List Addr×Shared×Hp→Cx:=fun j=>(Xs j.1).comp scope N j.2.1 j.2.2.1 j.2.2.2
theorem JX.comp (jx:JX Xs P w K mg base k B) (scope:Scope) (N:List Str):JX (JC Xs scope N) P w K mg base k B:=
 ⟨fun i=>jx.p i.1,fun i=>jx.w' i.1,fun i=>jx.k' i.1,fun i=>jx.m i.1,fun i=>jx.b i.1,fun i=>jx.r i.1,fun i=>jx.c i.1,jx.bk,fun i=>PassesOwn.never⟩
theorem zdq (jx:JX Xs P w K mg base k B) {NX N:List Str} {SX scope:Scope} {own:Nat} {fi Li:List Nat} {tg iter elt:Expr} {ifs:List Expr} {mi:FSt→Option (List D)} {g1:D→FSt→Option FSt} (S:CompScope NX SX scope N own fi) (hi:JIc Xs B tg iter Li mi) (hg:JG (JC Xs scope N) B tg g1) (ht:JIf (JC Xs scope N) B ifs mt) (he:JD (JC Xs scope N) B elt L ma)
  (hN:∀ i,(Xs i).N=NX:=by intro _; rfl) (hS:∀ i,(Xs i).env.scope=SX:=by intro _; rfl) (hs:∀ i x,foldedSetIterable iter (Xs i).env x=pure x:=by intro _ _; rfl):JE Xs B (.ListComp elt [⟨tg,iter,ifs,0⟩] scope pos) (fi++Li) (zdn own fi mi g1 mt ma):=
 let ⟨_,p1,f1⟩:=hi.ex; let ⟨_,p2,f2⟩:=hg.ex; let ⟨_,p3,f3⟩:=ht.ex; let ⟨_,p4,f4⟩:=he.ex
 ⟨⟨_,fun i=>zDU S (jx.c i) (p1 i) (fun ex s H=>p2 (i,ex,s,H)) (fun ex s H=>p3 (i,ex,s,H)) (fun ex s H=>p4 (i,ex,s,H)) (hN i) (hS i) (hs i),zzI f1 f2 f3 f4⟩⟩
variable {mf mh:FSt→Fl} {st:Stmt} {sts ss:List Stmt}
theorem ziN (jx:JX Xs P w K mg base k B) (i:Nat) {y:Str} {py spos:Pos} {NX N:List Str} {SX scope:Scope} {own:Nat} {fi Li L':List Nat} {tg iter elt:Expr} {ifs:List Expr} {mi:FSt→Option (List D)} {g1:D→FSt→Option FSt} (hnd:∀ j,(Xs j).N.Nodup) (S:CompScope NX SX scope N own fi) (hi:JIc Xs B tg iter Li mi) (hg:JG (JC Xs scope N) B tg g1) (ht:JIf (JC Xs scope N) B ifs mt) (he:JD (JC Xs scope N) B elt L ma)
  (hy:∀ j,(Xs j).N[i]? = some y:=by intro _; rfl) (hl:∀ j,(Xs j).env.scope.names.lookup y=some .local:=by intro _; rfl)
  (hN:∀ i,(Xs i).N=NX:=by intro _; rfl) (hS:∀ i,(Xs i).env.scope=SX:=by intro _; rfl) (hs:∀ i x,foldedSetIterable iter (Xs i).env x=pure x:=by intro _ _; rfl)
  (hsw:∀ j,swapsWith (.ListComp elt [⟨tg,iter,ifs,0⟩] scope pos) (some (.Name y py)) spos.line (Xs j).env=pure true:=by intro _; rfl) (hl':((fi++Li).all fun i=>L'.contains i)=true:=by rfl):JS Xs B (.Assign [.Name y py] (.ListComp elt [⟨tg,iter,ifs,0⟩] scope pos) spos) (zcW i L' (zdn own fi mi g1 mt ma)):=
 let ⟨_,p1,f1⟩:=hi.ex; let ⟨_,p2,f2⟩:=hg.ex; let ⟨_,p3,f3⟩:=ht.ex; let ⟨_,p4,f4⟩:=he.ex
 ⟨⟨_,fun i=>zxX (hnd i) (hy i) (hl i) S (jx.c i) (p1 i) (fun ex s H=>p2 (i,ex,s,H)) (fun ex s H=>p3 (i,ex,s,H)) (fun ex s H=>p4 (i,ex,s,H)) (hN i) (hS i) (hs i) (hsw i),zCW (te:=zDT _ _ _ _ _ _) L' (zzI f1 f2 f3 f4) hl'⟩⟩
theorem zaJ (i:Nat) {x:Str} {p1:Pos} {L':List Nat} (hnd:∀ j,(Xs j).N.Nodup) (hx:∀ j,Loc (Xs j).env.scope x) (he:JE Xs B e L me) (hi:∀ j,(Xs j).N[i]? = some x:=by intro _; rfl) (hs:∀ j,swapsWith e (some (.Name x p1)) pos.line (Xs j).env=pure false:=by intro _; rfl)
  (hf:∀ j,(Xs j).fn x=true∨(Xs j).env.scope.names.lookup x=some .local:=by intro _; first | exact .inl rfl | exact .inr rfl) (hl:(L.all fun i=>L'.contains i)=true:=by rfl):JS Xs B (.Assign [.Name x p1] e pos) (zcW i L' me):=
 let ⟨_,p,f⟩:=he.ex; ⟨⟨_,fun j=>zFV (hnd j) (hi j) (hx j) (p j) (hs j) (hf j),zCW L' f hl⟩⟩
theorem zCY {tg:Expr} {g1:D→FSt→Option FSt} {L':List Nat} (he:JE Xs B e L me) (hg:JG Xs B tg g1) (hs:∀ j,swapsWithSole [tg] e pos.line (Xs j).env=pure false:=by intro _; rfl) (hw:∀ j,swappedStores [tg] e (Xs j).env=pure none:=by intro _; rfl)
  (h1:∀ j,(assignEach [tg] (Xs j).env).map (·.2)=[assign tg (Xs j).env]:=by intro _; rfl) (hl:(L.all fun i=>L'.contains i)=true:=by rfl):JS Xs B (.Assign [tg] e pos) (zFw L' me g1):=
 let ⟨_,p,f⟩:=he.ex; let ⟨_,q,g⟩:=hg.ex; ⟨⟨_,fun j=>zFU (p j) (q j) (hs j) (hw j) (h1 j),zG8 (f.wk (znc hl)) g⟩⟩
theorem zCZ (jx:JX Xs P w K mg base k B) (i:Nat) {x:Str} {p1 p2:Pos} {L':List Nat} (hb:JD Xs B b Lb mb) (he:JD Xs B e L md) (hN:∀ j,(Xs j).N[i]? = some x:=by intro _; rfl) (hv:∀ j,Vis (Xs j).env.scope x:=by intro _; first | exact Or.inl rfl | exact Or.inr (Or.inl rfl) | exact Or.inr (Or.inr rfl)) (hs:∀ j,swapsWith e (some (.Subscript (.Name x p1) b p2)) pos.line (Xs j).env=pure false:=by intro _; rfl)
  (hd:(x==("__debug__":Str))=false:=by decide) (hcd:(x==("__classdict__":Str))=false:=by decide) (hl:(L.all fun i=>L'.contains i)=true:=by rfl):JS Xs B (.Assign [.Subscript (.Name x p1) b p2] e pos) (zFu i L' mb md):=
 let ⟨_,p,f⟩:=hb.ex; let ⟨_,q,g⟩:=he.ex; ⟨⟨_,fun j=>zDQ (zGn (jx.r j)) (zok (hN j) (hv j) hd hcd) (p j) (q j) (hs j),zG6 L' f g hl⟩⟩
theorem zer (jx:JX Xs P w K mg base k B) (i:Nat) {x f:Str} {cs:List Nat} {p1 p2:Pos} {L':List Nat} (hc:∀ c∈cs,Cls B.K (B.cl c)∧NoAttr B.K (B.cl c) f) (he:JD Xs B e L md) (hN:∀ j,(Xs j).N[i]? = some x:=by intro _; rfl) (hv:∀ j,Vis (Xs j).env.scope x:=by intro _; first | exact Or.inl rfl | exact Or.inr (Or.inl rfl) | exact Or.inr (Or.inr rfl)) (hs:∀ j,swapsWith e (some (.Attribute (.Name x p1) f p2)) pos.line (Xs j).env=pure false:=by intro _; rfl)
  (hd:(x==("__debug__":Str))=false:=by decide) (hcd:(x==("__classdict__":Str))=false:=by decide) (hl:(L.all fun i=>L'.contains i)=true:=by rfl):JS Xs B (.Assign [.Attribute (.Name x p1) f p2] e pos) (zgS i cs f L' md):=
 let ⟨_,q,g⟩:=he.ex; ⟨⟨_,fun j=>zD6 (jx.k' j) (zok (hN j) (hv j) hd hcd) (q j) (hs j),zHa L' jx.bk hc g hl⟩⟩
theorem zbm (hc:JT Xs B c mt) (ha:JB Xs B sts mf) (hb:JB Xs B ss mh):JS Xs B (.If c sts ss pos) (mIf mt mf mh):=let ⟨_,p,f⟩:=hc.ex; let ⟨_,p',f'⟩:=ha.ex; let ⟨_,q,g⟩:=hb.ex; ⟨⟨_,fun i=>zIH (p i) (p' i) (q i),zI1 f f' g⟩⟩
theorem zmp (jx:JX Xs P w K mg base k B) {tg iter:Expr} {mi:FSt→Option (List D)} {g1:D→FSt→Option FSt} (hi:JI Xs B tg iter mi) (hg:JG Xs B tg g1) (hb:JB Xs B sts mf) (hs:∀ i x,foldedSetIterable iter (Xs i).env x=pure x:=by intro _ _; rfl):JS Xs B (.For tg iter sts [] pos) (zuz mi g1 mf):=
 let ⟨_,p,f⟩:=hi.ex; let ⟨_,p',f'⟩:=hg.ex; let ⟨_,q,g⟩:=hb.ex; ⟨⟨_,fun i=>zCE (jx.x i) (jx.c i) (p i) (p' i) (q i) (hs i),zzF f f' g⟩⟩
theorem zkh (jx:JX Xs P w K mg base k B) (j:Nat) {x:Str} {p1:Pos} {tg:Expr} {g1:D→FSt→Option FSt} (hg:JG Xs B tg g1) (hb:JB Xs B sts mf) (hN:∀ i,(Xs i).N[j]? = some x:=by intro _; rfl) (hv:∀ j,Vis (Xs j).env.scope x:=by intro _; first | exact Or.inl rfl | exact Or.inr (Or.inl rfl) | exact Or.inr (Or.inr rfl)) (hs:∀ i z,foldedSetIterable (.Name x p1) (Xs i).env z=pure z:=by intro _ _; rfl)
  (hd:(x==("__debug__":Str))=false:=by decide) (hcd:(x==("__classdict__":Str))=false:=by decide):JS Xs B (.For tg (.Name x p1) sts [] pos) (znb j g1 mf):=
 let ⟨_,p',f'⟩:=hg.ex; let ⟨_,q,g⟩:=hb.ex; ⟨⟨_,fun i=>zCE (jx.x i) (jx.c i) (zvE (jx.k' i) (zok (hN i) (hv i) hd hcd)) (p' i) (q i) (hs i),zEn jx.bk f' g⟩⟩
theorem zCd (jx:JX Xs P w K mg base k B) (hc:JT Xs B c mt) (hb:JB Xs B sts mf):JS Xs B (.While c sts [] pos) (zol mt mf):=let ⟨_,p,f⟩:=hc.ex; let ⟨_,q,g⟩:=hb.ex; ⟨⟨_,fun i=>zBq (jx.x i) (p i) (q i),zBY f g⟩⟩
theorem zam (h:JE Xs B e L me):JS Xs B (.Return (some e) pos) (zbB me):=let ⟨_,p,f⟩:=h.ex; ⟨⟨_,fun i=>zCB (p i),zGO f⟩⟩
theorem zpM (j:Nat) {x:Str} {p1:Pos} (hN:∀ i,(Xs i).N[j]? = some x:=by intro _; rfl) (hv:∀ j,Vis (Xs j).env.scope x:=by intro _; first | exact Or.inl rfl | exact Or.inr (Or.inl rfl) | exact Or.inr (Or.inr rfl)) (hd:(x==("__debug__":Str))=false:=by decide) (hcd:(x==("__classdict__":Str))=false:=by decide):JS Xs B (.Return (some (.Name x p1)) pos) (zuw j):=
 ⟨⟨_,fun i=>zCB (zok (hN i) (hv i) hd hcd),zEi j⟩⟩
theorem zvN (h:JE Xs B e L me) (hs:∀ i,swapsWith e none pos.line (Xs i).env=pure false:=by intro _; rfl):JS Xs B (.Expr e pos) (mDo me):=let ⟨_,p,f⟩:=h.ex; ⟨⟨_,fun i=>zsn (p i) (hs i),zI2 f⟩⟩
theorem zd5:JS Xs B st zxk:=⟨⟨_,fun _=>zBo,zBV⟩⟩
theorem zaG:JB Xs B [] za7:=⟨⟨_,fun _=>zDl,zEh⟩⟩
theorem zah (h:JS Xs B st mf):JB Xs B [st] mf:=let ⟨_,p,f⟩:=h.ex; ⟨⟨_,fun i=>zDm (p i),f⟩⟩
theorem zag (h:JS Xs B st mf) (h':JB Xs B sts mh):JB Xs B (st :: sts) (zaS mf mh):=let ⟨_,p,f⟩:=h.ex; let ⟨_,q,g⟩:=h'.ex; ⟨⟨_,fun i=>zBn (p i) (q i),zGN f g⟩⟩
theorem zuI (jx:JX Xs P w K mg base k B) (i:Nat) {x:Str} {p1 apos cpos:Pos} {L':List Nat} (he:JD Xs B e L md) (hs1:∀ i,starEach [e] (Xs i).env=[(false,eval e (Xs i).env)]) (hN:∀ j,(Xs j).N[i]? = some x:=by intro _; rfl) (hv:∀ j,Vis (Xs j).env.scope x:=by intro _; first | exact Or.inl rfl | exact Or.inr (Or.inl rfl) | exact Or.inr (Or.inr rfl))
  (hbase:∀ j,attributeBase (.Name x p1) "append" (Xs j).env (eval (.Name x p1) (Xs j).env)=eval (.Name x p1) (Xs j).env:=by intro _; rfl)
  (hfew:∀ i,((backTo cpos (starEach [e] (Xs i).env)).all (fun x=>!x.1)&&(backToKw cpos (keywordEach [] (Xs i).env)).all (fun x=>x.1.isSome)&&decide ([e].length+([]:List Keyword).length+(if ([]:List Keyword).isEmpty then 0 else 1) < 30))=true:=by intro _; rfl)
  (hline:(apos.endLine==cpos.line)=true:=by rfl) (hs:∀ j,swapsWith (.Call (.Attribute (.Name x p1) "append" apos) [e] [] cpos) none pos.line (Xs j).env=pure false:=by intro _; rfl)
  (hd:(x==("__debug__":Str))=false:=by decide) (hcd:(x==("__classdict__":Str))=false:=by decide) (hl:(L.all fun i=>L'.contains i)=true:=by rfl):JS Xs B (.Expr (.Call (.Attribute (.Name x p1) "append" apos) [e] [] cpos) pos) (zBU i L' md):=
 let ⟨_,p,f⟩:=he.ex; ⟨⟨_,fun j=>zsn (zzk (jx.k' j) PySem.F.plainAttrs_list PySem.F.slot_list_append PySem.F.type_list_append zpB (zok (hN j) (hv j) hd hcd) (zvz (p j) zyY (hs1 j)) (hbase j) (hfew j) hline (hs1 j) rfl) (hs j),zG5 L' jx.bk f hl⟩⟩
theorem zEI (jx:JX Xs P w K mg base k B) {apos cpos:Pos} (ho:JE Xs B o La me) (he:JD Xs B e L md) (hs1:∀ i,starEach [e] (Xs i).env=[(false,eval e (Xs i).env)])
  (hbase:∀ j,attributeBase o "append" (Xs j).env (eval o (Xs j).env)=eval o (Xs j).env:=by intro _; rfl)
  (hfew:∀ i,((backTo cpos (starEach [e] (Xs i).env)).all (fun x=>!x.1)&&(backToKw cpos (keywordEach [] (Xs i).env)).all (fun x=>x.1.isSome)&&decide ([e].length+([]:List Keyword).length+(if ([]:List Keyword).isEmpty then 0 else 1) < 30))=true:=by intro _; rfl)
  (hline:(apos.endLine==cpos.line)=true:=by rfl) (hs:∀ j,swapsWith (.Call (.Attribute o "append" apos) [e] [] cpos) none pos.line (Xs j).env=pure false:=by intro _; rfl):JS Xs B (.Expr (.Call (.Attribute o "append" apos) [e] [] cpos) pos) (zzX me md):=
 let ⟨_,p,f⟩:=he.ex; let ⟨_,q,g⟩:=ho.ex; ⟨⟨_,fun j=>zsn (zzk (jx.k' j) PySem.F.plainAttrs_list PySem.F.slot_list_append PySem.F.type_list_append zpB (q j) (zvz (p j) zyY (hs1 j)) (hbase j) (hfew j) hline (hs1 j) rfl) (hs j),zEF jx.bk g f⟩⟩
theorem zHp (jx:JX Xs P w K mg base k B) (i:Nat) {x:Str} {p1 apos cpos:Pos} (hN:∀ j,(Xs j).N[i]? = some x:=by intro _; rfl) (hv:∀ j,Vis (Xs j).env.scope x:=by intro _; first | exact Or.inl rfl | exact Or.inr (Or.inl rfl) | exact Or.inr (Or.inr rfl))
  (hbase:∀ j,attributeBase (.Name x p1) "reverse" (Xs j).env (eval (.Name x p1) (Xs j).env)=eval (.Name x p1) (Xs j).env:=by intro _; rfl)
  (hline:(apos.endLine==cpos.line)=true:=by rfl) (hs:∀ j,swapsWith (.Call (.Attribute (.Name x p1) "reverse" apos) [] [] cpos) none pos.line (Xs j).env=pure false:=by intro _; rfl)
  (hd:(x==("__debug__":Str))=false:=by decide) (hcd:(x==("__classdict__":Str))=false:=by decide):JS Xs B (.Expr (.Call (.Attribute (.Name x p1) "reverse" apos) [] [] cpos) pos) (zHh i):=
 ⟨⟨_,fun j=>zsn (zzj (jx.k' j) PySem.F.plainAttrs_list PySem.F.slot_list_reverse PySem.F.type_list_reverse zxW (zok (hN j) (hv j) hd hcd) (hbase j) hline) (hs j),zHi jx.bk⟩⟩
end
structure JIx (k:Nat) (qual:Str) (scope:Scope) (f:Addr) where
 cdv:Value
 A:Around
 outer:List Env
 s:Shared
 H:Hp
 E:XK
 hr:Room k (A.deeper (envOfC qual scope s.heap.objs.size f cdv))
abbrev JXs (P:Program) (w:World) (K:W.Frag) (mg:Str→Option Value) (base:Heap) (N:List Str) (k:Nat) (qual:Str) (scope:Scope) (f:Addr):JIx k qual scope f→Cx:=
 fun i=>(zBy CX0 P w K mg base N qual scope f i.cdv i.A i.outer i.s i.H i.E).nox
section
variable {P:Program} {w:World} {K:W.Frag} {mg:Str→Option Value} {base:Heap} {x qual:Str} {st:Stmt} {f:Addr} {fd:FuncData} {N ps:List Str} {k:Nat} {B:Bk} {m:FSt→Fl} {scope:Scope}
theorem zC0 (hK:B.K=K):JX (JXs P w K mg base N k qual scope f) P w K mg base k B:=⟨fun _=>rfl,fun _=>rfl,fun _=>rfl,fun _=>rfl,fun _=>rfl,fun i=>i.hr,fun _=>rfl,hK,fun _=>PassesOwn.never⟩
theorem Fun.okJ (F:Fun K x qual st f fd) (S:FnScope N ps (zaf st)) (hK:B.K=K) (h:JX (JXs P w K mg base N k qual (zaf st) f) P w K mg base k B→JB (JXs P w K mg base N k qual (zaf st) f) B (zdl st) m):FnOk P w K mg base CX0 (k+1) f fd ps (SpF B ps.length (zaD m ps.length N.length)):=
 F.okF S fun cdv A outer s H E hr=>let ⟨t,p,q⟩:=(h (zC0 hK)).ex; ⟨t,p ⟨cdv,A,outer,s,H,E,hr⟩,q⟩
theorem Fun.okIJ (F:Fun K x qual st f fd) (S:FnScope N ps (zaf st)) (hK:B.K=K) (h:JX (JXs P w K mg base N k qual (zaf st) f) P w K mg base k B→JB (JXs P w K mg base N k qual (zaf st) f) B (zdl st) m):FnOk P w K mg base CX0 (k+1) f fd ps (SpI B ps.length (zpK m ps.length N.length)):=
 F.okI S fun cdv A outer s H E hr=>let ⟨t,p,q⟩:=(h (zC0 hK)).ex; ⟨t,p ⟨cdv,A,outer,s,H,E,hr⟩,q⟩
end
abbrev FnT:=List D→Option SV
abbrev BdT:=FSt→Fl
abbrev InT:=Nat→List D→Option (List (Str×D))
section
variable {ι:Type} {Xs:ι→Cx} {es:List Expr}
theorem aN {x pos} (i:ι):starEach (.Name x pos :: es) (Xs i).env=(false,eval (.Name x pos) (Xs i).env) :: starEach es (Xs i).env:=zEG
theorem aC {c k pos} (i:ι):starEach (.Constant c k pos :: es) (Xs i).env=(false,eval (.Constant c k pos) (Xs i).env) :: starEach es (Xs i).env:=zvJ
theorem aT {a b pos} (i:ι):starEach (.Tuple a b pos :: es) (Xs i).env=(false,eval (.Tuple a b pos) (Xs i).env) :: starEach es (Xs i).env:=zB9
theorem aB {a o b pos} (i:ι):starEach (.BinOp a o b pos :: es) (Xs i).env=(false,eval (.BinOp a o b pos) (Xs i).env) :: starEach es (Xs i).env:=zCa
theorem aO {o b pos} (i:ι):starEach (.BoolOp o b pos :: es) (Xs i).env=(false,eval (.BoolOp o b pos) (Xs i).env) :: starEach es (Xs i).env:=zzY
theorem aP {a o b pos} (i:ι):starEach (.Compare a o b pos :: es) (Xs i).env=(false,eval (.Compare a o b pos) (Xs i).env) :: starEach es (Xs i).env:=zx9
theorem aL {a b c pos} (i:ι):starEach (.Call a b c pos :: es) (Xs i).env=(false,eval (.Call a b c pos) (Xs i).env) :: starEach es (Xs i).env:=zEH
theorem aS {a b pos} (i:ι):starEach (.Subscript a b pos :: es) (Xs i).env=(false,eval (.Subscript a b pos) (Xs i).env) :: starEach es (Xs i).env:=zuD
theorem aA {a b pos} (i:ι):starEach (.Attribute a b pos :: es) (Xs i).env=(false,eval (.Attribute a b pos) (Xs i).env) :: starEach es (Xs i).env:=zuE
theorem aM {a b c pos} (i:ι):starEach (.ListComp a b c pos :: es) (Xs i).env=(false,eval (.ListComp a b c pos) (Xs i).env) :: starEach es (Xs i).env:=zvK
end
theorem scm {N ps:List Str} {s:Scope} (a:s.kind=.function:=by rfl) (b:s.isCoroutine=false:=by rfl) (c:s.isGenerator=false:=by rfl) (d:N.Nodup:=by decide +kernel) (e:N.take ps.length=ps:=by rfl) (f:∀ x∈ps,s.names.lookup x=some .local∨s.names.lookup x=some .cell:=by decide +kernel) (g:∀ y∈s.names,y.2≠.free:=by decide +kernel):FnScope N ps s:=⟨a,b,c,d,e,f,g⟩
section
variable {K:W.Frag} {x qual:Str} {st:Stmt} {f:Addr} {fd:FuncData}
theorem Fun.b1 {p0:Str} (F:Fun K x qual st f fd) (h:∀ (kV doc pm:Value) (an:Option Addr) (cdv ct u0:Value),bindArgs (W.fnOf x qual (zeP st) (zdl st) (zaf st) .none kV doc pm an cdv ct) ⟨[u0],[]⟩=pure [(p0,u0)]:=by intros; rfl):Binds K fd [p0] []:=F.binds (ps:=[p0]) fun kV doc pm an cdv ct us hl=>match us,hl with | [u0],_=>h kV doc pm an cdv ct u0
theorem Fun.b2 {p0 p1:Str} (F:Fun K x qual st f fd) (h:∀ (kV doc pm:Value) (an:Option Addr) (cdv ct u0 u1:Value),bindArgs (W.fnOf x qual (zeP st) (zdl st) (zaf st) .none kV doc pm an cdv ct) ⟨[u0,u1],[]⟩=pure [(p0,u0),(p1,u1)]:=by intros; rfl):Binds K fd [p0,p1] []:=F.binds (ps:=[p0,p1]) fun kV doc pm an cdv ct us hl=>match us,hl with | [u0,u1],_=>h kV doc pm an cdv ct u0 u1
theorem Fun.b3 {p0 p1 p2:Str} (F:Fun K x qual st f fd) (h:∀ (kV doc pm:Value) (an:Option Addr) (cdv ct u0 u1 u2:Value),bindArgs (W.fnOf x qual (zeP st) (zdl st) (zaf st) .none kV doc pm an cdv ct) ⟨[u0,u1,u2],[]⟩=pure [(p0,u0),(p1,u1),(p2,u2)]:=by intros; rfl):Binds K fd [p0,p1,p2] []:=F.binds (ps:=[p0,p1,p2]) fun kV doc pm an cdv ct us hl=>match us,hl with | [u0,u1,u2],_=>h kV doc pm an cdv ct u0 u1 u2
theorem Fun.b4 {p0 p1 p2 p3:Str} (F:Fun K x qual st f fd) (h:∀ (kV doc pm:Value) (an:Option Addr) (cdv ct u0 u1 u2 u3:Value),bindArgs (W.fnOf x qual (zeP st) (zdl st) (zaf st) .none kV doc pm an cdv ct) ⟨[u0,u1,u2,u3],[]⟩=pure [(p0,u0),(p1,u1),(p2,u2),(p3,u3)]:=by intros; rfl):Binds K fd [p0,p1,p2,p3] []:=F.binds (ps:=[p0,p1,p2,p3]) fun kV doc pm an cdv ct us hl=>match us,hl with | [u0,u1,u2,u3],_=>h kV doc pm an cdv ct u0 u1 u2 u3
end
end L2
namespace M1
open PySem L2
def zjd:List Nat:=[97,98,99,100,101,102,103,104,105,106,107,108,109,110,111,112,113,114,115,116,117,118,119,120,121,122]
theorem zsI:(Str.ofString "abcdefghijklmnopqrstuvwxyz").cps.toList=zjd:=by decide +kernel
theorem zvO:(Str.ofString "abcdefghijklmnopqrstuvwxyz").length=26:=by decide +kernel
def inL (c:Nat):Bool:=!(Builtin.Str.occurrences (Str.ofString "abcdefghijklmnopqrstuvwxyz") ⟨#[c]⟩ 0 (Str.ofString "abcdefghijklmnopqrstuvwxyz").length 1).isEmpty
theorem zz3:∀ c∈zjd,inL c=true:=by decide +kernel
theorem zvP:∀ c∈zjd,c < 128:=by decide
theorem zvQ:zjd.Nodup:=by decide
structure Good (z:Str):Prop where
 lo:1≤z.length
 hi:z.length≤6
 all:∀ c∈z.cps.toList,c∈zjd
theorem Good.ok {z:Str} (g:Good z):PyData.strOk z=true:=by
 unfold PyData.strOk
 rw [← Array.all_toList,List.all_eq_true]
 intro c hc
 have:=zvP c (g.all c hc)
 exact decide_eq_true (by omega)
theorem zz4 {a b:Str} (h:a.cps.toList=b.cps.toList):a=b:=by
 cases a; cases b
 congr 1
 exact Array.toList_inj.mp h
theorem zcu (a b:Str):(a++b).cps.toList=a.cps.toList++b.cps.toList:=by
 show (a.cps++b.cps).toList=_
 simp
theorem zal (a b:Str):(a++b).length=a.length+b.length:=by
 show (a.cps++b.cps).size=a.cps.size+b.cps.size
 simp
theorem zxq (ys:List Str):(Txt.join "" ys).cps.toList=ys.flatMap fun y=>y.cps.toList:=by
 show (Builtin.Str.glued "" ys).cps.toList=_
 rw [StrLaws.glued_eq_join]
 have e0:("":Str).cps.toList=[]:=by decide +kernel
 induction ys with
 | nil=>rfl
 | cons y r ih=>
  cases r with
  | nil=>simp [Str.join]
  | cons z r=>
   rw [show Str.join "" (y :: z :: r)=y++("":Str)++Str.join "" (z :: r) from rfl,zcu,zcu,ih,e0]
   simp
theorem zEJ {b1 b2:Str} {c:Nat} (h1:∀ x∈b1.cps.toList,x∈zjd) (h2:∀ x∈b2.cps.toList,x∈zjd) (hc:c∈zjd) (hl:b1.length+b2.length≤5):Good (b1++(⟨#[c]⟩:Str)++b2):=by
 have e1:((⟨#[c]⟩:Str)).length=1:=rfl
 refine ⟨by rw [zal,zal,e1]; omega,by rw [zal,zal,e1]; omega,fun x hx=>?_⟩
 rw [zcu,zcu] at hx
 rcases List.mem_append.mp hx with hx | hx
 ·rcases List.mem_append.mp hx with hx | hx
  ·exact h1 x hx
  ·have:x=c:=by simpa using hx
   rw [this]; exact hc
 ·exact h2 x hx
theorem zHq {b1 b2:Str} {c d:Nat} (h:b1++(⟨#[c]⟩:Str)++b2=b1++(⟨#[d]⟩:Str)++b2):c=d:=by
 have e:=congrArg (fun z:Str=>z.cps.toList) h
 simp only [zcu] at e
 have e2:=List.append_cancel_right e
 have e3:=List.append_cancel_left e2
 simpa using e3
theorem zpu {α:Type} [DecidableEq α]:∀ {xs ys:List α},xs.Nodup→(∀ x∈xs,x∈ys)→xs.length≤ys.length
 | [],ys,_,_=>Nat.zero_le _
 | x :: xs,ys,nd,h=>by
  obtain ⟨n1,n2⟩:=List.nodup_cons.mp nd
  have hx:x∈ys:=h x List.mem_cons_self
  have ih:=zpu (xs:=xs) (ys:=ys.erase x) n2 fun y hy=>by
   have hne:y≠x:=fun e=>n1 (e▸hy)
   exact (List.mem_erase_of_ne hne).mpr (h y (List.mem_cons_of_mem _ hy))
  rw [List.length_erase_of_mem hx] at ih
  have:0 < ys.length:=List.length_pos_of_mem hx
  rw [List.length_cons]
  omega
theorem nodup_map_on {α β:Type} {f:α→β}:∀ {l:List α},(∀ x,x∈l→∀ y,y∈l→f x=f y→x=y)→l.Nodup→(l.map f).Nodup
 | [],_,_=>List.nodup_nil
 | a :: l,h,nd=>by
  obtain ⟨n1,n2⟩:=List.nodup_cons.mp nd
  refine List.nodup_cons.mpr ⟨fun m=>?_,nodup_map_on (fun x hx y hy=>h x (List.mem_cons_of_mem _ hx) y (List.mem_cons_of_mem _ hy)) n2⟩
  obtain ⟨b,hb,e⟩:=List.mem_map.mp m
  exact n1 (h b (List.mem_cons_of_mem _ hb) a List.mem_cons_self e▸hb)
inductive Reach (ps:List (Str×Str)):Str→Str→Prop
 | refl (r:Str):Reach ps r r
 | step {x y r:Str} (h:(x,y)∈ps) (t:Reach ps y r):Reach ps x r
theorem Reach.rank {ps:List (Str×Str)} {rk:Str→Nat} (h:∀ p∈ps,rk p.1 < rk p.2) {x r:Str} (t:Reach ps x r):rk x≤rk r:=by
 induction t with
 | refl r=>exact Nat.le_refl _
 | step a _ ih=>exact Nat.le_trans (Nat.le_of_lt (h _ a)) ih
theorem zki {ps:List (Str×Str)} {fs:List Str} {r:Str} (h0:r∈fs) (h1:∀ x∈fs,Reach ps x r) (h2:∀ x y,(x,y)∈ps→y∈fs→x∈fs) (x:Str):x∈fs↔Reach ps x r:=by
 constructor
 ·exact h1 x
 ·intro t
  induction t with
  | refl r=>exact h0
  | step a _ ih=>exact h2 _ _ a (ih h0 h1)
structure Valid (F R:List Str) (ps:List (Str×Str)):Prop where
 f1:1≤F.length
 f4:F.length≤4
 r1:1≤R.length
 r6:R.length≤6
 fr:F.length*R.length≤12
 fn:F.Nodup
 rn:R.Nodup
 fg:∀ z∈F,Good z
 rg:∀ z∈R,Good z
 pn:ps.Nodup
 pm:∀ p∈ps,p.1∈R∧p.2∈R
 p15:ps.length≤15
 rk:∃ rk:Str→Nat,∀ p∈ps,rk p.1 < rk p.2
theorem zpN {ds:List PyData} (h1:PyData.canLayAll0 ds=true) (h2:PyData.depthAll ds≤8):SeqAt.shaped (.list ds)=true:=by
 unfold SeqAt.shaped
 rw [show PyData.canLay0 (.list ds)=PyData.canLayAll0 ds from rfl,h1,Bool.true_and]
 exact decide_eq_true (by simp [PyData.depth]; omega)
theorem zes:∀ {l:List Str},l.Nodup→∀ {i:Nat} {z:Str},l[i]? = some z→l.idxOf z=i
 | [],_,i,z,h=>by simp at h
 | a :: l,nd,0,z,h=>by
  simp at h; subst h
  simp [List.idxOf_cons]
 | a :: l,nd,i+1,z,h=>by
  obtain ⟨n1,n2⟩:=List.nodup_cons.mp nd
  have h':l[i]? = some z:=by simpa using h
  have ih:=zes n2 h'
  have hz:z∈l:=List.mem_of_getElem? h'
  have hne:(a==z)=false:=by
   rw [beq_eq_false_iff_ne]
   exact fun e=>n1 (e▸hz)
  rw [List.idxOf_cons,hne]
  simp [ih]
def zz5:List (Nat×Nat):=(List.range 6).flatMap fun k=>(List.range k).map fun j=>(j,k)
theorem zyb {j k:Nat} (h1:j < k) (h2:k < 6):(j,k)∈zz5:=by
 unfold zz5
 exact List.mem_flatMap.mpr ⟨k,List.mem_range.mpr h2,List.mem_map.mpr ⟨j,List.mem_range.mpr h1,rfl⟩⟩
theorem zyc:zz5.length=15:=by decide
def zkj (O:List Str) (i:Nat×Nat):Str×Str:=(O.getD i.1 ⟨#[]⟩,O.getD i.2 ⟨#[]⟩)
theorem zmq {O:List Str} {i:Nat} (h:i < O.length):O[i]? = some (O.getD i ⟨#[]⟩):=by
 rw [List.getD_eq_getElem?_getD,List.getElem?_eq_getElem h]; rfl
theorem zCe {F R O:List Str} {is:List (Nat×Nat)} {ps:List (Str×Str)} (f1:1≤F.length) (f4:F.length≤4) (r1:1≤R.length) (r6:R.length≤6) (fr:F.length*R.length≤12) (fn:F.Nodup) (rn:R.Nodup)
  (fg:∀ z∈F,Good z) (rg:∀ z∈R,Good z) (ho:O.Perm R) (nd:is.Nodup) (lt:∀ i∈is,i.1 < i.2∧i.2 < O.length) (hp:ps.Perm (is.map (zkj O))):Valid F R ps:=by
 have on:O.Nodup:=ho.nodup_iff.mpr rn
 have ol:O.length=R.length:=ho.length_eq
 have g1:∀ i∈is,O[i.1]? = some (O.getD i.1 ⟨#[]⟩):=fun i hi=>zmq (by have:=lt i hi; omega)
 have g2:∀ i∈is,O[i.2]? = some (O.getD i.2 ⟨#[]⟩):=fun i hi=>zmq (lt i hi).2
 refine ⟨f1,f4,r1,r6,fr,fn,rn,fg,rg,?_,fun p h=>?_,?_,⟨fun z=>O.idxOf z,fun p h=>?_⟩⟩
 ·refine hp.nodup_iff.mpr (M1.nodup_map_on ?_ nd)
  intro x hx y hy e
  obtain ⟨e1,e2⟩:=Prod.mk.inj e
  have a1:=zes on (g1 x hx)
  have a2:=zes on (g1 y hy)
  have b1:=zes on (g2 x hx)
  have b2:=zes on (g2 y hy)
  rw [e1] at a1
  rw [e2] at b1
  exact Prod.ext (a1.symm.trans a2) (b1.symm.trans b2)
 ·obtain ⟨i,hi,rfl⟩:=List.mem_map.mp (hp.mem_iff.mp h)
  exact ⟨ho.mem_iff.mp (List.mem_of_getElem? (g1 i hi)),ho.mem_iff.mp (List.mem_of_getElem? (g2 i hi))⟩
 ·rw [hp.length_eq,List.length_map,← zyc]
  exact zpu nd fun i hi=>by
   obtain ⟨h1,h2⟩:=lt i hi
   exact zyb h1 (by omega)
 ·obtain ⟨i,hi,rfl⟩:=List.mem_map.mp (hp.mem_iff.mp h)
  show O.idxOf (O.getD i.1 ⟨#[]⟩) < O.idxOf (O.getD i.2 ⟨#[]⟩)
  rw [zes on (g1 i hi),zes on (g2 i hi)]
  exact (lt i hi).1
end M1
namespace My
open PySem L2
theorem zJy (a b:Nat):Builtin.bitAnd (a:Int) (b:Int)=((a&&&b:Nat):Int):=by
 simp [Builtin.bitAnd]
theorem bOr (a b:Nat):Builtin.bitOr (a:Int) (b:Int)=((a|||b:Nat):Int):=by
 have h1:¬ (0:Int)≤Builtin.bitNot a:=by unfold Builtin.bitNot; omega
 have h2:¬ (0:Int)≤Builtin.bitNot b:=by unfold Builtin.bitNot; omega
 have e1:Builtin.bitNot (Builtin.bitNot (a:Int))=a:=by unfold Builtin.bitNot; omega
 have e2:Builtin.bitNot (Builtin.bitNot (b:Int))=b:=by unfold Builtin.bitNot; omega
 have e3:∀ n:Nat,Builtin.bitNot (Builtin.bitNot (n:Int))=n:=fun n=>by unfold Builtin.bitNot; omega
 unfold Builtin.bitOr Builtin.bitAnd
 rw [decide_eq_false h1,decide_eq_false h2]
 simp only [e1,e2,e3,Int.toNat_natCast]
theorem zJz (n:Nat):((n:Int)==0)=(n==0):=by
 rw [Bool.eq_iff_iff]; simp
abbrev Wy:=Nat×Nat
def jn (a b:Wy):Wy:=(a.1|||b.1,a.2|||b.2)
end My
namespace My
open PySem L2
theorem zHr {a b:Nat} (h:∀ i,a.testBit i=b.testBit i):a=b:=Nat.eq_of_testBit_eq h
def but (a b:Nat):Nat:=a^^^(a&&&b)
@[simp] theorem zJA (a b i:Nat):(but a b).testBit i=(a.testBit i&&!b.testBit i):=by
 unfold but; rw [Nat.testBit_xor,Nat.testBit_and]
 cases a.testBit i <;> cases b.testBit i <;> rfl
theorem zEK (x k:Nat):((x&&&2 ^ k)==0)=!x.testBit k:=by
 rw [Bool.eq_iff_iff,beq_iff_eq,Bool.not_eq_true']
 constructor
 ·intro h
  have:=congrArg (fun z=>z.testBit k) h
  simpa [Nat.testBit_and,Nat.testBit_two_pow] using this
 ·intro h
  refine zHr fun i=>?_
  rw [Nat.testBit_and,Nat.testBit_two_pow,Nat.zero_testBit]
  by_cases e:k=i
  ·subst e; simp [h]
  ·simp [e]
theorem zz6 (x y:Nat):(x&&&y)=0↔∀ i,y.testBit i=true→x.testBit i=false:=by
 constructor
 ·intro h i hi
  have:=congrArg (fun z=>z.testBit i) h
  simpa only [Nat.testBit_and,hi,Bool.and_true,Nat.zero_testBit] using this
 ·intro h
  refine zHr fun i=>?_
  rw [Nat.testBit_and,Nat.zero_testBit]
  have:=h i
  revert this
  cases x.testBit i <;> cases y.testBit i <;> simp
abbrev nD (n:Nat):D:=.int n
theorem zEL (n:Nat) (h:n < 2 ^ 62):zzC [.int n]=some ((List.range n).map nD):=by
 simp only [zzC]
 rw [if_pos (zvH (by omega) (by omega))]
 simp [zBX,nD]
end My
namespace My
open PySem L2 M1
theorem zar:sizeLine=16777216:=sizeLine_eq
abbrev oD' (x:Option D):Option SV:=x.map SV.sh
abbrev Ok (z:Str):Prop:=PyData.strOk z=true
theorem shS {z:Str} (h:Ok z):SeqAt.shaped (.str z)=true:=zxZ h
theorem zC1 {z:Str} (h:Ok z):shp (.str z)=some (.str z):=by simp [shp,D.dat,shS h]
theorem eqS {a b:Str} (ha:Ok a) (hb:Ok b):oEq (.str a) (.str b)=some (.bl (a==b)):=by
 simp [oEq,zC1 ha,zC1 hb,PyData.eqv]
theorem neS {a b:Str} (ha:Ok a) (hb:Ok b):oNe (.str a) (.str b)=some (.bl (!(a==b))):=by
 simp [oNe,zC1 ha,zC1 hb,PyData.eqv]
theorem zCf (zs:List Str):D.dats (zs.map D.str)=some (zs.map PyData.str):=by
 induction zs with
 | nil=>rfl
 | cons z zs ih=>simp [D.dats,D.dat,ih]
theorem zLd {zs:List Str} (h:∀ z∈zs,Ok z):PyData.canLayAll0 (zs.map PyData.str)=true:=by
 induction zs with
 | nil=>rfl
 | cons z zs ih=>
  simp only [List.map_cons,PyData.canLayAll0,PyData.canLay0,Bool.and_eq_true]
  exact ⟨h z (by simp),ih fun x hx=>h x (by simp [hx])⟩
theorem zLe (zs:List Str):PyData.depthAll (zs.map PyData.str)=0:=by
 induction zs with
 | nil=>rfl
 | cons z zs ih=>simp [PyData.depthAll,PyData.depth,ih]
theorem zIm {zs:List Str} (h:∀ z∈zs,Ok z):SeqAt.shaped (.list (zs.map PyData.str))=true:=zpN (zLd h) (by rw [zLe]; omega)
theorem zKL (z:Str) (zs:List Str):((zs.map PyData.str).any fun e=>PyData.eqv e (.str z))=decide (z∈zs):=by
 induction zs with
 | nil=>rfl
 | cons y ys ih=>
  rw [List.map_cons,List.any_cons,ih]
  show ((y==z)||decide (z∈ys))=_
  rw [Bool.eq_iff_iff]
  simp only [Bool.or_eq_true,beq_iff_eq,decide_eq_true_eq,List.mem_cons]
  constructor
  ·rintro (h | h)
   ·exact .inl h.symm
   ·exact .inr h
  ·rintro (h | h)
   ·exact .inl h.symm
   ·exact .inr h
theorem zC2 {z:Str} {zs:List Str} (hz:Ok z) (h:∀ z∈zs,Ok z):inB (.str z) (.lst (zs.map D.str))=some (decide (z∈zs)):=by
 show (D.dats (zs.map D.str)).bind _=_
 rw [zCf]
 simp only [Option.bind_some,zC1 hz,zIm h,if_true,zKL]
theorem zLf {z:Str} {zs:List Str} (hz:Ok z) (h:∀ z∈zs,Ok z):inB (.str z) (.tup (zs.map D.str))=some (decide (z∈zs)):=by
 show (D.dats (zs.map D.str)).bind _=_
 rw [zCf]
 simp only [Option.bind_some,zC1 hz,zIm h,if_true,zKL]
abbrev Pr:=Str×Str
def pD (p:Pr):D:=.tup [.str p.1,.str p.2]
def pP (p:Pr):PyData:=.tuple [.str p.1,.str p.2]
abbrev OkP (p:Pr):Prop:=Ok p.1∧Ok p.2
theorem zC3 (p:Pr):(pD p).dat=some (pP p):=rfl
theorem zvR (ps:List Pr):D.dats (ps.map pD)=some (ps.map pP):=by
 induction ps with
 | nil=>rfl
 | cons z zs ih=>simp [D.dats,zC3,ih]
theorem zz7 {p:Pr} (h:OkP p):PyData.canLay0 (pP p)=true:=by
 have h1:=h.1
 have h2:=h.2
 simp [pP,PyData.canLay0,PyData.canLayAll0,h1,h2]
theorem zJB {p:Pr} (h:OkP p):SeqAt.shaped (pP p)=true:=by
 have:PyData.depth (pP p)=1:=rfl
 simp [SeqAt.shaped,zz7 h,this]
theorem zKM {p:Pr} (h:OkP p):shp (pD p)=some (pP p):=by simp [shp,zC3,zJB h]
theorem zLg (a b:Pr):PyData.eqv (pP a) (pP b)=decide (a=b):=by
 obtain ⟨a1,a2⟩:=a
 obtain ⟨b1,b2⟩:=b
 show ((a1==b1)&&((a2==b2)&&true))=_
 rw [Bool.eq_iff_iff]
 simp
theorem zKN {ps:List Pr} (h:∀ p∈ps,OkP p):SeqAt.shaped (.list (ps.map pP))=true:=by
 refine zpN ?_ ?_
 ·induction ps with
  | nil=>rfl
  | cons z zs ih=>
   simp only [List.map_cons,PyData.canLayAll0,Bool.and_eq_true]
   exact ⟨zz7 (h z (by simp)),ih fun x hx=>h x (by simp [hx])⟩
 ·have:PyData.depthAll (ps.map pP)≤1:=by
   induction ps with
   | nil=>simp [PyData.depthAll]
   | cons z zs ih=>
    have hd:PyData.depth (pP z)=1:=rfl
    simp only [List.map_cons,PyData.depthAll,hd]
    have:=ih fun x hx=>h x (by simp [hx])
    omega
  omega
theorem zLh (z:Pr) (zs:List Pr):((zs.map pP).any fun e=>PyData.eqv e (pP z))=decide (z∈zs):=by
 induction zs with
 | nil=>rfl
 | cons y ys ih=>
  rw [List.map_cons,List.any_cons,ih,zLg,Bool.eq_iff_iff]
  simp only [Bool.or_eq_true,decide_eq_true_eq,List.mem_cons]
  constructor
  ·rintro (h | h)
   ·exact .inl h.symm
   ·exact .inr h
  ·rintro (h | h)
   ·exact .inl h.symm
   ·exact .inr h
theorem zLi {z:Pr} {zs:List Pr} (hz:OkP z) (h:∀ z∈zs,OkP z):inB (pD z) (.lst (zs.map pD))=some (decide (z∈zs)):=by
 show (D.dats (zs.map pD)).bind _=_
 rw [zvR]
 simp only [Option.bind_some,zKM hz,zKN h,if_true,zLh]
theorem zje (zs:List Str):D.plains (zs.map D.str)=true:=by
 induction zs with
 | nil=>rfl
 | cons z zs ih=>simp [ih]
theorem zz8 (zs:List Pr):D.plains (zs.map pD)=true:=by
 induction zs with
 | nil=>rfl
 | cons z zs ih=>simp [pD,ih]
theorem zyd {mc:FSt→Option Bool} {mb:FSt→Fl} {S S1:FSt} {r:Fl} (h:mc S=some true) (h1:mb S=.nx S1) (h2:∃ n,zdm mc mb n S1=r):∃ n,zdm mc mb n S=r:=by
 obtain ⟨n,e⟩:=h2
 exact ⟨n+1,by simp [zdm,h,h1,e]⟩
theorem zrV {mc:FSt→Option Bool} {mb:FSt→Fl} {S:FSt} (h:mc S=some false):∃ n,zdm mc mb n S=.nx S:=⟨1,by simp [zdm,h]⟩
theorem zCg {mc:FSt→Option Bool} {mb:FSt→Fl} {S S1:FSt} (h:∃ n,zdm mc mb n S=.nx S1):zol mc mb S=.nx S1:=by
 obtain ⟨n,e⟩:=h
 rw [zzG (n:=n) (by rw [e]; simp),e]
end My
namespace My
open PySem L2 M1
abbrev sI' (i:Int):Option SV:=some (.sh (.int i))
theorem zpO {α:Type} (f:α→D) (ze5:FSt) (me:FSt→Option D) (g:α→D):∀ (xs:List α),(∀ x∈xs,me (some (.sh (f x)) :: ze5)=some (g x))→∀ y:Option D,zcN (gN 0) zdo me (xs.map f) (oD' y :: ze5)=some (xs.map g)
 | [],_,_=>rfl
 | x :: xs,h,y=>by
  have ih:=zpO f ze5 me g xs (fun z hz=>h z (by simp [hz])) (some (f x))
  simp only [oD',Option.map_some] at ih
  have hg:gN 0 (f x) (oD' y :: ze5)=some (some (.sh (f x)) :: ze5):=by simp
  rw [List.map_cons,zcN,hg]
  simp [h x (by simp),ih]
theorem zEM {α:Type} (f:α→D) (ze5:FSt) (mt:FSt→Option Bool) (me:FSt→Option D) (c:α→Bool) (g:α→D):∀ (xs:List α),(∀ x∈xs,mt (some (.sh (f x)) :: ze5)=some (c x)∧(c x=true→me (some (.sh (f x)) :: ze5)=some (g x)))→
  ∀ y:Option D,zcN (gN 0) mt me (xs.map f) (oD' y :: ze5)=some ((xs.filter c).map g)
 | [],_,_=>rfl
 | x :: xs,h,y=>by
  have ih:=zEM f ze5 mt me c g xs (fun z hz=>h z (by simp [hz])) (some (f x))
  simp only [oD',Option.map_some] at ih
  have hx:=h x (by simp)
  have hg:gN 0 (f x) (oD' y :: ze5)=some (some (.sh (f x)) :: ze5):=by simp
  rw [List.map_cons,zcN,hg]
  simp only [Option.bind_some,hx.1]
  cases e:c x
  ·simp [e,ih]
  ·simp [e,ih,hx.2 e]
theorem atN {α:Type} {xs:List α} {k:Nat} {x:α} (h:xs[k]? = some x):atI xs (k:Int)=some x:=by
 have hl:=(List.getElem?_eq_some_iff.mp h).1
 simp [atI,ixN,hl,h]
 exact (List.getElem?_eq_some_iff.mp h).2
theorem zjf (a:Int) {b:Int} (h:0 < b):∃ v:Nat,a%b=v∧(v:Int) < b:=by
 obtain ⟨v,e⟩:=Int.eq_ofNat_of_zero_le (Int.emod_nonneg a (Int.ne_of_gt h))
 exact ⟨v,e,by have:=Int.emod_lt_of_pos a h; omega⟩
theorem zz9 (ns:List Nat):D.plains (ns.map nD)=true:=by
 induction ns with
 | nil=>rfl
 | cons w ws ih=>simp [D.plains,D.plain,ih]
theorem zHs (i j:Nat) (hi:i < 2 ^ 62) (hj:j < 2 ^ 62):zzC [.int i,.int j]=some (((List.range (j-i)).map fun k=>i+k).map nD):=by
 simp only [zzC]
 rw [if_pos ⟨zvH (by omega) (by omega),zvH (by omega) (by omega)⟩]
 have e:((j:Int)-(i:Int)).toNat=j-i:=by omega
 rw [e,List.map_map]
 simp [zBX,nD,Function.comp_def]
theorem zHt {α:Type} (xs:List α) (a:Nat) (h:a≤xs.length):zyE xs none (some (a:Int))=xs.take a:=by
 unfold zyE
 rw [HT.sIx_nat,HT.sIx_none,Nat.min_eq_left h]
 simp
theorem zHu {α:Type} (xs:List α) (a:Nat) (h:a≤xs.length):zyE xs (some (a:Int)) none=xs.drop a:=by
 unfold zyE
 rw [HT.sIx_nat,HT.sIx_none,Nat.min_eq_left h]
 exact List.take_of_length_le (by simp)
theorem znf {m:FSt→Fl} {n k:Nat} {ds:List D} {x:SV} (hl:ds.length=n) (h:m (ds.map (fun d=>some (.sh d))++List.replicate (k-n) none)=.rt x):zaD m n k ds=some x:=by
 unfold zaD; rw [if_pos hl,h]
theorem za9 {a b:FSt→Fl} {S S1:FSt} {r:Fl} (h:a S=.nx S1) (h2:b S1=r):zaS a b S=r:=by
 unfold zaS; rw [h]; exact h2
theorem zHv {m:FSt→Option D} {S:FSt} {d:D} (h:m S=some d):mR1 (zac m zak) S=zzC [d]:=by
 unfold mR1 zac zak
 rw [h]
 rfl
theorem zEN {m:FSt→Option D} {S:FSt} {n:Nat} (h:m S=some (.int n)) (hn:n < 2 ^ 62):mR1 (zac m zak) S=some ((List.range n).map nD):=(zHv h).trans (zEL n hn)
theorem zuJ {mi:FSt→Option (List D)} {mg:D→FSt→Option FSt} {mb:FSt→Fl} {S:FSt} {its:List D} {r:Fl} (h:mi S=some its) (h2:zbj mg mb its S=r):zuz mi mg mb S=r:=by
 unfold zuz; rw [h]; exact h2
theorem zEO (n:Nat) (hn:n≤1000):zEq (.int 1) (.int n)=some (.int (2 ^ n:Nat)):=by
 have hp:zB0 1 (n:Int)=true:=by
  rw [zsB]
  exact ⟨by omega,by omega,by decide⟩
 simp [hp]
theorem zHw (n T:Nat) (hT:zEq (.int 1) (.int n)=some (.int T)) (m:FSt→Option D) (S:FSt) (e:m S=some (.int n)):m2 zEq (mC (.int 1)) m S=some (.int T):=by
 show ((mC (.int 1) S).bind fun x=>(m S).bind fun y=>zEq x y)=_
 rw [e]
 exact hT
theorem zEP {i:Nat} {L:List Nat} {m:FSt→Option SV} {S S1:FSt} {x:SV} (h:m S=some x) (hp:put i L x S=.nx S1):zcW i L m S=.nx S1:=by
 unfold zcW; rw [h]; exact hp
theorem zEQ {m:FSt→Option D} {S:FSt} {x:D} (h:m S=some x):mSh m S=some (.sh x):=by unfold mSh; rw [h]; rfl
theorem zvS {m:FSt→Option SV} {S:FSt} {x:SV} (h:m S=some x):mFr m S=some x.fr:=by unfold mFr; rw [h]; rfl
theorem zAa {a:FSt→Option D} {l h:FSt→Option (Option Int)} {S:FSt} {d:D} {lo hi:Option Int} {z:SV} (ha:a S=some d) (hl:l S=some lo) (hh:h S=some hi) (e:oSl d lo hi=some z):mSl a l h S=some z:=by
 unfold mSl; rw [ha,hl,hh]; exact e
theorem zHx {α:Type} {f:D→D→Option α} {a b:FSt→Option D} {S:FSt} {x y:D} (ha:a S=some x) (hb:b S=some y):m2 f a b S=f x y:=by unfold m2; rw [ha,hb]; rfl
theorem zAb {own:Nat} {fi:List Nat} {mi:FSt→Option (List D)} {mg:D→FSt→Option FSt} {mt:FSt→Option Bool} {me:FSt→Option D} {S:FSt} {its out:List D} (h1:mi S=some its) (h2:its.length≤sizeLine) (h3:zcN mg mt me its (zx2 own fi S)=some out):zdn own fi mi mg mt me S=some (.li out):=by
 unfold zdn; rw [h1,Option.bind_some,if_pos h2,h3]; rfl
theorem zCh {m:FSt→Option D} {S:FSt} {xs:List D} (h:m S=some (.lst xs)):zmn m S=some xs:=by unfold zmn; rw [h]; rfl
end My
namespace My
open PySem L2
def tab (c C:Nat):Option Bool:=([[true,false,false,false,false,false,false,false,false,true],[false,true,false,false,false,false,false,false,false,true],[],[false,false,false,true,false,false,false,false,false,true],[false,false,false,false,true,false,false,false,false,true],[false,false,false,false,false,true,false,false,false,true],[],[],[false,false,false,false,false,false,false,false,true,true]]:List (List Bool))[c]?.bind (·[C]?)
noncomputable section
def zb0 : BdT :=
  (zaS (zcW 4 [4, 5] (mSh (m2 zgw (mFr (m2 zbV (mFr (m2 zbV (mFr (m2 zbV (mFr (m2 zt8 (mV 4) (mV 4))) (mFr (m2 zt8 (mC (.int 48271)) (mV 4))))) (mFr (m2 zt8 (mC (.int 7919)) (mV 5))))) (mC (.int 11)))) (mC (.int 2147483647)))))
     (zaS (zBU 2 [0, 3, 4] (m2 oIx (mFr (zgv (zac (mV 4) (zac (m2 zgw (mV 3) (mC (.int 1000003))) zak)))) (mFr (m1 zB4 (zac (zuu (zaj (m2 oEq (m2 zgw (mV 0) (mC (.int 2))) (mC (.int 1)))) (m2 oGt (mV 3) (mC (.int 0))) (mC (.bl false))) zak)))))
     (zcW 3 [3] (mSh (m2 zjb (mV 3) (mC (.int 1000003)))))))
def zoq (zb0 : BdT) : BdT :=
  (zaS (zcW 2 [] (zgv zak))
   (zaS (zcW 3 [0] (mSh (m2 zjb (mV 0) (mC (.int 2)))))
   (zaS (zcW 4 [3] (mSh (m2 zgw (mV 3) (mC (.int 2147483647)))))
   (zaS (zuz (mR1 (zac (mV 1) zak)) (gN 5)
    zb0)
   (zuw 2)))))
def zfd:BdT:=zoq zb0
def zba:FnT:=zaD zfd 2 6
def zeR : BdT :=
  (zaS (zcW 2 [] (zgv (zac (mC (.str "has")) (zac (mC (.str "not")) (zac (mC (.str "by")) (zac (mC (.str "to")) (zac (mC (.str "and")) (zac (mC (.str "give")) (zac (mC (.str "take")) (zac (mC (.str "lay")) (zac (mC (.str "from")) (zac (mC (.str "if")) (zac (mC (.str "both")) (zac (mC (.str "most")) (zac (mC (.str "last")) zak)))))))))))))))
   (zaS (mIf (zaj (m2 oEq (m2 zgw (mV 0) (mC (.int 5))) (mC (.int 0))))
    (zbB (zdn 1 [0, 2] (mR1 (zac (mV 1) zak)) (gN 0) zdo (m2 oIx (mV 2) (m2 zgw (mFr (m2 zbV (m2 zjb (mV 1) (mC (.int 5))) (mFr (m2 zt8 (mC (.int 4)) (mV 0))))) (mC (.int 13))))))
    za7)
   (zaS (zcW 3 [] (mSh (mC (.str "abcdefghijklmnopqrstuvwxyz"))))
   (zaS (zcW 4 [0, 3] (mBM zhU (mC (.str "")) (zac (mFr (zdn 1 [0, 3] (mR1 (zac (m2 zgw (m2 zjb (mV 0) (mC (.int 5))) (mC (.int 6))) zak)) (gN 0) zdo (m2 oIx (mV 2) (m2 zgw (m2 zjb (mV 1) (mFr (m2 zbV (mFr (m2 zt8 (mC (.int 7)) (mV 0))) (mC (.int 3))))) (mC (.int 26)))))) zak)))
   (zaS (zcW 5 [0, 4] (mSh (m2 zgw (m2 zjb (mV 0) (mC (.int 30))) (mFr (m2 zbV (mFr (m1 zll (zac (mV 4) zak))) (mC (.int 1)))))))
   (zbB (zdn 1 [0, 3, 4, 5] (mR1 (zac (mV 1) zak)) (gN 0) zdo (mFr (m2 zbV (mFr (m2 zbV (mFr (mSl (mV 3) mNo (mAt (mV 4)))) (m2 oIx (mV 2) (m2 zgw (mFr (m2 zbV (m2 zjb (mV 1) (mC (.int 11))) (mFr (m2 zt8 (mC (.int 7)) (mV 0))))) (mC (.int 26)))))) (mFr (mSl (mV 3) (mAt (mV 4)) mNo)))))))))))
def zb7:FnT:=zaD zeR 2 6
def zcG : BdT :=
  (zaS (mIf (zaj (m2 oEq (m2 zgw (mV 7) (mC (.int 3))) (mC (.int 0))))
        (zBU 8 [6, 9, 10] (zel (zac (m2 oIx (mV 6) (mV 9)) (zac (m2 oIx (mV 6) (mV 10)) zak))))
        za7)
       (zcW 7 [7] (mSh (m2 zjb (mV 7) (mC (.int 3))))))
def zlr (zcG : BdT) : BdT :=
  (zuz (mR2 (zac (mFr (m2 zbV (mV 9) (mC (.int 1)))) (zac (mV 4) zak))) (gN 10)
      zcG)
def zcH:BdT:=zlr zcG
def zor (zba : FnT) (zb7 : FnT) (zcH : BdT) : BdT :=
  (zaS (zcW 1 [0] (m1 zba (zac (mV 0) (zac (mC (.int 8)) zak))))
   (zaS (zcW 2 [] (zgv (zac (zel (zac (mC (.int 2)) (zac (mC (.int 2)) zak))) (zac (zel (zac (mC (.int 2)) (zac (mC (.int 3)) zak))) (zac (zel (zac (mC (.int 3)) (zac (mC (.int 2)) zak))) (zac (zel (zac (mC (.int 1)) (zac (mC (.int 4)) zak))) (zac (zel (zac (mC (.int 4)) (zac (mC (.int 1)) zak))) (zac (zel (zac (mC (.int 2)) (zac (mC (.int 4)) zak))) (zac (zel (zac (mC (.int 4)) (zac (mC (.int 2)) zak))) (zac (zel (zac (mC (.int 1)) (zac (mC (.int 6)) zak))) (zac (zel (zac (mC (.int 1)) (zac (mC (.int 1)) zak))) (zac (zel (zac (mC (.int 3)) (zac (mC (.int 1)) zak))) (zac (zel (zac (mC (.int 2)) (zac (mC (.int 1)) zak))) (zac (zel (zac (mC (.int 1)) (zac (mC (.int 2)) zak))) zak))))))))))))))
   (zaS (zFw [1, 2] (mSh (m2 oIx (mV 2) (m2 zgw (m2 oIx (mV 1) (mC (.int 0))) (mC (.int 12))))) (gSq 2 (gCs (gN 3) (gCs (gN 4) gNs))))
   (zaS (mIf (zaj (m2 oEq (m2 zgw (m2 oIx (mV 1) (mC (.int 1))) (mC (.int 16))) (mC (.int 3))))
    (zFw [1] (mSh (m2 oIx (mFr (zgv (zac (zel (zac (mC (.int 2)) (zac (mC (.int 6)) zak))) (zac (zel (zac (mC (.int 3)) (zac (mC (.int 4)) zak))) (zac (zel (zac (mC (.int 4)) (zac (mC (.int 3)) zak))) (zac (zel (zac (mC (.int 2)) (zac (mC (.int 5)) zak))) zak)))))) (m2 zgw (m2 zjb (m2 oIx (mV 1) (mC (.int 1))) (mC (.int 16))) (mC (.int 4))))) (gSq 2 (gCs (gN 3) (gCs (gN 4) gNs))))
    za7)
   (zaS (zcW 5 [1, 4] (m1 zb7 (zac (m2 oIx (mV 1) (mC (.int 2))) (zac (mV 4) zak))))
   (zaS (zcW 6 [5] (m2 zbV (mFr (mSl (mV 5) (mAt (m2 zgw (m2 oIx (mV 1) (mC (.int 3))) (mV 4))) mNo)) (mFr (mSl (mV 5) mNo (mAt (m2 zgw (m2 oIx (mV 1) (mC (.int 3))) (mV 4)))))))
   (zaS (mIf (zaj (m2 oEq (m2 zgw (m2 oIx (mV 1) (mC (.int 5))) (mC (.int 2))) (mC (.int 1))))
    (zHh 6)
    za7)
   (zaS (zcW 7 [1] (mSh (m2 oIx (mV 1) (mC (.int 4)))))
   (zaS (zcW 8 [] (zgv zak))
   (zaS (zuz (mR1 (zac (mV 4) zak)) (gN 9)
    zcH)
   (zbB (mSh (zel (zac (mFr (m1 zb7 (zac (m2 oIx (mV 1) (mC (.int 6))) (zac (mV 3) zak)))) (zac (mV 5) (zac (mV 8) zak))))))))))))))))
def zfe:BdT:=zor zba zb7 zcH
def zcA:FnT:=zaD zfe 1 11
def zmr : BdT :=
  (zaS (mIf (zo6 (zaj (mFr (m1 (zmo tab) (zac (mV 0) (zac (mC (.ty "str")) zak))))))
    (zbB (mSh (mC (.bl false))))
    za7)
   (zaS (mIf (mOr (zaj (m2 oLt (mFr (m1 zll (zac (mV 0) zak))) (mC (.int 1)))) (zaj (m2 oGt (mFr (m1 zll (zac (mV 0) zak))) (mC (.int 6)))))
    (zbB (mSh (mC (.bl false))))
    za7)
   (zbB (m1 zIk (zac (mFr (zdn 1 [] (zmn (mV 0)) (gN 0) zdo (m2 oIn (mV 0) (mC (.str "abcdefghijklmnopqrstuvwxyz"))))) zak)))))
def zdU:FnT:=zaD zmr 1 1
def ziO (zdU : FnT) : BdT :=
  (zaS (mIf (zo6 (zaj (mFr (m1 zdU (zac (mV 3) zak)))))
      zxk
      za7)
     (zaS (mIf (zaj (m2 oIn (mV 3) (mV 2)))
      zxk
      za7)
     (zBU 2 [3] (mV 3))))
def zcg:BdT:=ziO zdU
def zkk (zcg : BdT) : BdT :=
  (zaS (mIf (mOr (zaj (m2 oLt (mFr (m1 zll (zac (mV 0) zak))) (mC (.int 1)))) (zaj (m2 oGt (mFr (m1 zll (zac (mV 0) zak))) (mV 1))))
    zxk
    za7)
   (zaS (zcW 2 [] (zgv zak))
   (zaS (znb 0 (gN 3)
    zcg)
   (zbB (m1 zlp (zac (mV 2) zak))))))
def zdr:BdT:=zkk zcg
def zaX:FnT:=zaD zdr 2 4
def zeS:BdT:=
 (zbB (mSh (zuu (zaj (mFr (m1 (zmo tab) (zac (mV 0) (zac (mC (.ty "str")) zak))))) (m2 oIn (mV 0) (mV 1)) (mC (.bl false)))))
def zbG:FnT:=zaD zeS 2 2
def zb2 : BdT :=
  (mIf (zx1 (zaj (m2 oEq (mV 5) (m2 oIx (mV 2) (mV 3)))) (zaj (m2 zke (mV 4) (mV 2))))
        (zBU 2 [4] (mV 4))
        za7)
def zkl (zb2 : BdT) : BdT :=
  (zaS (znb 0 (gSq 2 (gCs (gN 4) (gCs (gN 5) gNs)))
      zb2)
     (zcW 3 [3] (m2 zbV (mV 3) (mC (.int 1)))))
def zcj:BdT:=zkl zb2
def zms (zcj : BdT) : BdT :=
  (zaS (zcW 2 [1] (zgv (zac (mV 1) zak)))
   (zaS (zcW 3 [] (mSh (mC (.int 0))))
   (zaS (zol (zaj (m2 oLt (mV 3) (mFr (m1 zll (zac (mV 2) zak)))))
    zcj)
   (zuw 2))))
def zet:BdT:=zms zcj
def zbk:FnT:=zaD zet 2 6
def ziP (zbG : FnT) (zbk : FnT) : BdT :=
  (zaS (mIf (zo6 (zaj (mFr (m1 zbG (zac (mV 3) (zac (mV 1) zak))))))
      zxk
      za7)
     (zaS (mIf (zo6 (zaj (mFr (m1 zbG (zac (mV 4) (zac (mV 1) zak))))))
      zxk
      za7)
     (zaS (mIf (zaj (m2 oIn (zel (zac (mV 3) (zac (mV 4) zak))) (mV 2)))
      zxk
      za7)
     (zaS (mIf (zaj (m2 oIn (mV 4) (mFr (m1 zbk (zac (mV 2) (zac (mV 3) zak))))))
      zxk
      za7)
     (zBU 2 [3, 4] (zel (zac (mV 3) (zac (mV 4) zak))))))))
def zch:BdT:=ziP zbG zbk
def zkm (zch : BdT) : BdT :=
  (zaS (mIf (zaj (m2 oGt (mFr (m1 zll (zac (mV 0) zak))) (mC (.int 15))))
    zxk
    za7)
   (zaS (zcW 2 [] (zgv zak))
   (zaS (znb 0 (gSq 2 (gCs (gN 3) (gCs (gN 4) gNs)))
    zch)
   (zbB (m1 zlp (zac (mV 2) zak))))))
def zeu:BdT:=zkm zch
def zbb:FnT:=zaD zeu 2 5
def zb5 : BdT :=
  (zaS (zFu 2 [3] (zel (zac (mV 4) (zac (mV 5) zak))) (mV 3))
       (zcW 3 [3] (m2 zbV (mV 3) (mV 3))))
def zhX (zb5 : BdT) : BdT :=
  (znb 1 (gN 5)
      zb5)
def zbL:BdT:=zhX zb5
def zjS (zbL : BdT) : BdT :=
  (zaS (zcW 2 [] mDT)
   (zaS (zcW 3 [] (mSh (mC (.int 1))))
   (zaS (znb 0 (gN 4)
    zbL)
   (zuw 2))))
def zd6:BdT:=zjS zbL
def zaY:FnT:=zaD zd6 2 6
def zff (zbk : FnT) : BdT :=
  (zaS (zcW 4 [1, 3] (m1 zbk (zac (mV 1) (zac (mV 3) zak))))
     (zFu 2 [0, 4] (mV 3) (mFr (m1 zlp (zac (mFr (zdn 1 [4] (zmn (mV 0)) (gN 0) (zaj (m2 oIn (mV 0) (mV 1))) (mV 0))) zak)))))
def zbH:BdT:=zff zbk
def zgV (zbH : BdT) : BdT :=
  (zaS (zcW 2 [] mDK)
   (zaS (znb 0 (gN 3)
    zbH)
   (zuw 2)))
def zc1:BdT:=zgV zbH
def zaK:FnT:=zaD zc1 2 5
def zgW (zaX : FnT) (zbb : FnT) (zaY : FnT) (zaK : FnT) : BdT :=
  (zaS (zgS 0 [7] "folk" [1] (mFr (m1 zaX (zac (mV 1) (zac (mC (.int 4)) zak)))))
   (zaS (zgS 0 [7] "roles" [2] (mFr (m1 zaX (zac (mV 2) (zac (mC (.int 6)) zak)))))
   (zaS (mIf (zaj (m2 oGt (mFr (m2 zt8 (mFr (m1 zll (zac (m1 (zcV [7] "folk") (mV 0)) zak))) (mFr (m1 zll (zac (m1 (zcV [7] "roles") (mV 0)) zak))))) (mC (.int 12))))
    zxk
    za7)
   (zaS (zgS 0 [7] "pairs" [3] (mFr (m1 zbb (zac (mV 3) (zac (m1 (zcV [7] "roles") (mV 0)) zak)))))
   (zaS (zgS 0 [7] "right_bits" [] (mFr (m1 zaY (zac (m1 (zcV [7] "folk") (mV 0)) (zac (m1 (zcV [7] "roles") (mV 0)) zak)))))
   (zgS 0 [7] "bringers" [] (mFr (m1 zaK (zac (m1 (zcV [7] "roles") (mV 0)) (zac (m1 (zcV [7] "pairs") (mV 0)) zak))))))))))
def zpP:BdT:=zgW zaX zbb zaY zaK
def zds:InT:=zpK zpP 4 4
def zdI : BdT :=
  (zaS (mIf (zaj (m2 oLt (mV 1) (mFr (m1 zll (zac (mV 0) zak)))))
    (zbB (mSh (m2 oIx (mV 0) (mV 1))))
    za7)
   (zbB (mSh (mC (.int 0)))))
def zaW:FnT:=zaD zdI 2 2
def ziQ:BdT:=
 (zbB (mSh (zel (zac (m2 oIx (mFr (zgv (zac (mC (.str "has")) (zac (mC (.str "not")) zak)))) (m2 zgw (mV 0) (mC (.int 2)))) (zac (m2 oIx (mV 1) (m2 zgw (m2 zjb (mV 0) (mC (.int 2))) (mFr (m1 zll (zac (mV 1) zak))))) zak)))))
def zb6:FnT:=zaD ziQ 2 2
def zye (zb6 : FnT) : BdT :=
  (zaS (zcW 2 [1] (mSh (m2 oIx (mV 1) (mC (.int 1)))))
   (zaS (zcW 3 [0, 2] (mSh (m2 oIx (mV 2) (m2 zgw (m2 oIx (mV 0) (mC (.int 0))) (mFr (m1 zll (zac (mV 2) zak)))))))
   (zaS (zcW 4 [0, 2] (mSh (m2 oIx (mV 2) (m2 zgw (m2 oIx (mV 0) (mC (.int 1))) (mFr (m1 zll (zac (mV 2) zak)))))))
   (zaS (zcW 5 [0, 2] (zdn 1 [0, 2] (mR1 (zac (m2 oIx (mFr (zgv (zac (mC (.int 0)) (zac (mC (.int 1)) (zac (mC (.int 1)) (zac (mC (.int 2)) zak)))))) (m2 zgw (m2 oIx (mV 0) (mC (.int 4))) (mC (.int 4)))) zak)) (gN 0) zdo (mFr (m1 zb6 (zac (m2 oIx (mV 1) (mFr (m2 zbV (mC (.int 2)) (mV 0)))) (zac (mV 2) zak))))))
   (zaS (zcW 6 [0] (mSh (m2 oIx (mFr (zgv (zac (mC (.str "give")) (zac (mC (.str "take")) (zac (mC (.str "lay")) (zac (mC (.str "give")) (zac (mC (.str "take")) (zac (mC (.str "both")) (zac (mC (.str "most")) (zac (mC (.str "last")) zak)))))))))) (m2 zgw (m2 oIx (mV 0) (mC (.int 5))) (mC (.int 8))))))
   (zaS (mIf (zx1 (zaj (m2 oEq (mV 6) (mC (.str "both")))) (zaj (m2 oEq (mV 3) (mV 4))))
    (zcW 6 [] (mSh (mC (.str "last"))))
    za7)
   (zaS (mIf (zaj (m2 oEq (mV 6) (mC (.str "lay"))))
    (zbB (mSh (zel (zac (mV 6) (zac (mV 3) (zac (mV 5) zak))))))
    za7)
   (zaS (mIf (zaj (m2 oEq (mV 6) (mC (.str "both"))))
    (zbB (mSh (zel (zac (mV 6) (zac (mV 3) (zac (mV 4) zak))))))
    za7)
   (zaS (mIf (zaj (m2 oEq (mV 6) (mC (.str "most"))))
    (zbB (mSh (zel (zac (mV 6) (zac (mFr (m2 zbV (mC (.int 1)) (m2 zgw (m2 oIx (mV 0) (mC (.int 1))) (mC (.int 4))))) (zac (mV 3) zak))))))
    za7)
   (zaS (mIf (zaj (m2 oEq (mV 6) (mC (.str "last"))))
    (zbB (mSh (zel (zac (mV 6) (zac (mV 3) zak)))))
    za7)
   (zbB (mSh (zel (zac (mV 6) (zac (mV 3) (zac (mV 4) (zac (mV 5) zak)))))))))))))))))
def zng:BdT:=zye zb6
def zcv:FnT:=zaD zng 2 7
def zmt:BdT:=
 (zgS 0 [1,2,3,4,5,6,8] "role" [1] (mV 1))
def zdJ:InT:=zpK zmt 2 2
def zmu : BdT :=
  (zaS (zgS 0 [1, 2, 3, 4, 5, 6, 8] "role" [1] (mV 1))
   (zaS (zgS 0 [1, 8] "by" [2] (mV 2))
   (zgS 0 [1, 4, 8] "terms" [3] (mFr (m1 zlp (zac (mV 3) zak))))))
def zdK:InT:=zpK zmu 4 4
def zmv : BdT :=
  (zaS (zgS 0 [1, 2, 3, 4, 5, 6, 8] "role" [1] (mV 1))
   (zaS (zgS 0 [1, 8] "by" [2] (mV 2))
   (zgS 0 [1, 4, 8] "terms" [3] (mFr (m1 zlp (zac (mV 3) zak))))))
def zdL:InT:=zpK zmv 4 4
def zos : BdT :=
  (zaS (zgS 0 [1, 2, 3, 4, 5, 6, 8] "role" [1] (mV 1))
   (zgS 0 [1, 4, 8] "terms" [2] (mFr (m1 zlp (zac (mV 2) zak)))))
def zem:InT:=zpK zos 3 3
def zmw : BdT :=
  (zaS (zgS 0 [0] "one" [1] (mV 1))
   (zgS 0 [0] "other" [2] (mV 2)))
def zdM:InT:=zpK zmw 3 3
def zmx : BdT :=
  (zaS (zgS 0 [5] "most" [1] (mV 1))
   (zgS 0 [1, 2, 3, 4, 5, 6, 8] "role" [2] (mV 2)))
def zdN:InT:=zpK zmx 3 3
def zhY:BdT:=
 (zgS 0 [1,2,3,4,5,6,8] "role" [1] (mV 1))
def zaE:InT:=zpK zhY 2 2
def zkn (zaE : InT) : BdT :=
  (zaS (mIf (zaj (m2 oEq (m2 oIx (mV 0) (mC (.int 0))) (mC (.str "has"))))
    (zbB (znd 2 zaE (zac (m2 oIx (mV 0) (mC (.int 1))) zak)))
    za7)
   (zbB (znd 6 zaE (zac (m2 oIx (mV 0) (mC (.int 1))) zak))))
def zcS:BdT:=zkn zaE
def zaQ:FnT:=zaD zcS 1 1
def zeT (zdK : InT) (zaQ : FnT) (zdL : InT) (zem : InT) (zdM : InT) (zdN : InT) (zdJ : InT) : BdT :=
  (zaS (mIf (zaj (m2 oEq (m2 oIx (mV 0) (mC (.int 0))) (mC (.str "give"))))
    (zbB (znd 1 zdK (zac (m2 oIx (mV 0) (mC (.int 1))) (zac (m2 oIx (mV 0) (mC (.int 2))) (zac (mFr (zdn 1 [] (zmn (m2 oIx (mV 0) (mC (.int 3)))) (gN 0) zdo (mFr (m1 zaQ (zac (mV 0) zak))))) zak)))))
    za7)
   (zaS (mIf (zaj (m2 oEq (m2 oIx (mV 0) (mC (.int 0))) (mC (.str "take"))))
    (zbB (znd 8 zdL (zac (m2 oIx (mV 0) (mC (.int 1))) (zac (m2 oIx (mV 0) (mC (.int 2))) (zac (mFr (m1 zlp (zac (mFr (zdn 1 [] (zmn (m2 oIx (mV 0) (mC (.int 3)))) (gN 0) zdo (mFr (m1 zaQ (zac (mV 0) zak))))) zak))) zak)))))
    za7)
   (zaS (mIf (zaj (m2 oEq (m2 oIx (mV 0) (mC (.int 0))) (mC (.str "lay"))))
    (zbB (znd 4 zem (zac (m2 oIx (mV 0) (mC (.int 1))) (zac (mFr (zdn 1 [] (zmn (m2 oIx (mV 0) (mC (.int 2)))) (gN 0) zdo (mFr (m1 zaQ (zac (mV 0) zak))))) zak))))
    za7)
   (zaS (mIf (zaj (m2 oEq (m2 oIx (mV 0) (mC (.int 0))) (mC (.str "both"))))
    (zbB (znd 0 zdM (zac (m2 oIx (mV 0) (mC (.int 1))) (zac (m2 oIx (mV 0) (mC (.int 2))) zak))))
    za7)
   (zaS (mIf (zaj (m2 oEq (m2 oIx (mV 0) (mC (.int 0))) (mC (.str "most"))))
    (zbB (znd 5 zdN (zac (m2 oIx (mV 0) (mC (.int 1))) (zac (m2 oIx (mV 0) (mC (.int 2))) zak))))
    za7)
   (zbB (znd 3 zdJ (zac (m2 oIx (mV 0) (mC (.int 1))) zak))))))))
def zdO:BdT:=zeT zdK zaQ zdL zem zdM zdN zdJ
def zbW:FnT:=zaD zdO 1 1
def zdb : BdT :=
  (zaS (zcW 3 [0, 1] (mSh (m2 oIx (m2 oIx (mV 1) (mC (.int 0))) (m2 zgw (m2 oIx (mV 0) (mC (.int 0))) (mFr (m1 zll (zac (m2 oIx (mV 1) (mC (.int 0))) zak)))))))
   (zaS (zcW 4 [0, 1] (mSh (m2 oIx (m2 oIx (mV 1) (mC (.int 0))) (m2 zgw (m2 oIx (mV 0) (mC (.int 1))) (mFr (m1 zll (zac (m2 oIx (mV 1) (mC (.int 0))) zak)))))))
   (zaS (zcW 5 [0, 1] (mSh (m2 oIx (m2 oIx (mV 1) (mC (.int 1))) (m2 zgw (m2 oIx (mV 0) (mC (.int 2))) (mFr (m1 zll (zac (m2 oIx (mV 1) (mC (.int 1))) zak)))))))
   (zaS (zcW 6 [2] (mSh (m2 oIx (mV 2) (mC (.int 0)))))
   (zaS (mIf (mOr (zaj (m2 oEq (m2 oIx (mV 2) (mC (.int 0))) (mC (.str "both")))) (zaj (m2 oEq (m2 oIx (mV 2) (mC (.int 0))) (mC (.str "most")))))
    (zcW 6 [] (mSh (mC (.str "give"))))
    za7)
   (zaS (mIf (zaj (m2 oEq (m2 oIx (mV 2) (mC (.int 0))) (mC (.str "last"))))
    (zcW 6 [0] (mSh (m2 oIx (mFr (zgv (zac (mC (.str "take")) (zac (mC (.str "lay")) zak)))) (m2 zgw (m2 oIx (mV 0) (mC (.int 3))) (mC (.int 2))))))
    za7)
   (zaS (mIf (zaj (m2 oEq (m2 oIx (mV 2) (mC (.int 0))) (mC (.str "most"))))
    (zcW 5 [2] (mSh (m2 oIx (mV 2) (mC (.int 2)))))
    (mIf (zaj (m2 oNe (m2 oIx (mV 2) (mC (.int 0))) (mC (.str "both"))))
      (zcW 5 [2] (mSh (m2 oIx (mV 2) (mC (.int 1)))))
      za7))
   (zaS (mIf (zaj (m2 oEq (mV 6) (mC (.str "lay"))))
    (zcW 4 [3] (mSh (mV 3)))
    za7)
   (zbB (mSh (zel (zac (mV 6) (zac (mV 3) (zac (mV 5) (zac (mV 4) zak)))))))))))))))
def zbR:FnT:=zaD zdb 3 7
def zfg (zbG : FnT) : BdT :=
  (mIf (zo6 (zaj (mFr (m1 zbG (zac (mV 1) (zac (m1 (zcV [7] "folk") (mV 0)) zak))))))
    zxk
    za7)
def zfh:BdT:=zfg zbG
def zas:FnT:=zaD zfh 2 2
def zfi (zbG : FnT) : BdT :=
  (mIf (zo6 (zaj (mFr (m1 zbG (zac (mV 1) (zac (m1 (zcV [7] "roles") (mV 0)) zak))))))
    zxk
    za7)
def zfj:BdT:=zfi zbG
def zan:FnT:=zaD zfj 2 2
def zot (zas : FnT) (zan : FnT) : BdT :=
  (zaS (mDo (zaC 7 "must_be_folk" zas (mV 0) (zac (mV 1) zak)))
   (zaS (mDo (zaC 7 "must_be_role" zan (mV 0) (zac (mV 2) zak)))
   (zbB (mSh (m2 zxm (m1 (zcV [7] "right_bits") (mV 0)) (zel (zac (mV 1) (zac (mV 2) zak))))))))
def zou:BdT:=zot zas zan
def zcd:FnT:=zaD zou 3 3
def zla:BdT:=
 (zbB (mSh (zuu (zaj (mFr (m1 (zmo tab) (zac (mV 0) (zac (mC (.ty "int")) zak))))) (mBl (zo6 (zaj (mFr (m1 (zmo tab) (zac (mV 0) (zac (mC (.ty "bool")) zak))))))) (mC (.bl false)))))
def zdc:FnT:=zaD zla 1 1
def zmy:BdT:=
 (zbB (m1 zll (zac (m1 (zcV [7] "right_bits") (mV 0)) zak)))
def zb1:FnT:=zaD zmy 1 1
def ziR (zdc:FnT) (zb1:FnT):BdT:=
 (zbB (mSh (zuu (zaj (mFr (m1 zdc (zac (mV 1) zak)))) (zuu (zaj (m2 oGe (mV 1) (mC (.int 0)))) (m2 oLe (mFr (mBM zpL (mV 1) zak)) (mFr (zaC 7 "bits" zb1 (mV 0) zak))) (mC (.bl false))) (mC (.bl false)))))
def ziS:BdT:=ziR zdc zb1
def za3:FnT:=zaD ziS 2 2
def zeI (za3 : FnT) : BdT :=
  (mIf (zo6 (zaj (mFr (zaC 7 "is_state" za3 (mV 0) (zac (mV 1) zak)))))
    zxk
    za7)
def zeJ:BdT:=zeI za3
def zap:FnT:=zaD zeJ 2 2
def ziT (zan : FnT) : BdT :=
  (zaS (mDo (zaC 7 "must_be_role" zan (mV 0) (zac (mV 1) zak)))
   (zbB (m1 zuB (zac (m2 zxm (m1 (zcV [7] "bringers") (mV 0)) (mV 1)) zak))))
def ziU:BdT:=ziT zan
def za4:FnT:=zaD ziU 2 2
def zbX:BdT:=
 (zcW 3 [1,3,4] (mSh (m2 oOr (mV 3) (m2 zxm (m1 (zcV [7] "right_bits") (mV 0)) (zel (zac (mV 1) (zac (mV 4) zak)))))))
def zgX (zas : FnT) (za4 : FnT) (zbX : BdT) : BdT :=
  (zaS (mDo (zaC 7 "must_be_folk" zas (mV 0) (zac (mV 1) zak)))
   (zaS (zcW 3 [] (mSh (mC (.int 0))))
   (zaS (zuz (mIt [0, 2] (zaC 7 "bringing" za4 (mV 0) (zac (mV 2) zak))) (gN 4)
    zbX)
   (zuw 3))))
def zko:BdT:=zgX zas za4 zbX
def zbt:FnT:=zaD zko 3 5
def zov (zap : FnT) (zbt : FnT) : BdT :=
  (zaS (mDo (zaC 7 "must_be_state" zap (mV 0) (zac (mV 1) zak)))
   (zbB (mSh (m2 oNe (m2 zIi (mV 1) (mFr (zaC 7 "having" zbt (mV 0) (zac (mV 2) (zac (mV 3) zak))))) (mC (.int 0))))))
def zow:BdT:=zov zap zbt
def zaU:FnT:=zaD zow 4 4
def zrW:BdT:=
 (zbB (m2 zbV (mFr (m2 zbV (mFr (m2 zbV (mC (.str "both ")) (m1 (zcV [0] "one") (mV 0)))) (mC (.str " ")))) (m1 (zcV [0] "other") (mV 0))))
def zbS:FnT:=zaD zrW 1 1
def ze6 (zcd : FnT) (zaU : FnT) (zbS : FnT) : BdT :=
  (zaS (zcW 4 [3] (mSh (m2 oIx (mV 3) (mC (.int 3)))))
   (zaS (zcW 5 [1, 2, 3, 4] (mSh (m2 oOr (mV 2) (mFr (zaC 7 "bit" zcd (mV 1) (zac (mV 4) (zac (m2 oIx (mV 3) (mC (.int 2))) zak)))))))
   (zaS (mIf (zx1 (zaj (mFr (zaC 7 "has" zaU (mV 1) (zac (mV 5) (zac (mV 4) (zac (m1 (zcV [0] "one") (mV 0)) zak)))))) (zaj (mFr (zaC 7 "has" zaU (mV 1) (zac (mV 5) (zac (mV 4) (zac (m1 (zcV [0] "other") (mV 0)) zak)))))))
    (zbB (mSh (zel (zac (mV 4) (zac (mFr (zaC 0 "row" zbS (mV 0) zak)) zak)))))
    za7)
   (zbB (mSh (mC .non))))))
def ze7:BdT:=ze6 zcd zaU zbS
def zaT:FnT:=zaD ze7 4 6
def zpQ (zaU:FnT):BdT:=
 (zbB (zaC 7 "has" zaU (mV 1) (zac (mV 2) (zac (mV 3) (zac (m1 (zcV [1,2,3,4,5,6,8] "role") (mV 0)) zak)))))
def zpR:BdT:=zpQ zaU
def zck:FnT:=zaD zpR 4 4
def zpS (zaU:FnT):BdT:=
 (zbB (mSh (mBl (zo6 (zaj (mFr (zaC 7 "has" zaU (mV 1) (zac (mV 2) (zac (mV 3) (zac (m1 (zcV [1,2,3,4,5,6,8] "role") (mV 0)) zak))))))))))
def zpT:BdT:=zpS zaU
def zcl:FnT:=zaD zpT 4 4
def zuK:BdT:=
 (zbB (m2 zbV (mC (.str "has ")) (m1 (zcV [1,2,3,4,5,6,8] "role") (mV 0))))
def zbu:FnT:=zaD zuK 1 1
def zuL:BdT:=
 (zbB (m2 zbV (mC (.str "not ")) (m1 (zcV [1,2,3,4,5,6,8] "role") (mV 0))))
def zbv:FnT:=zaD zuL 1 1
def zeU (zck : FnT) (zcl : FnT) (zbu : FnT) (zbv : FnT) : BdT :=
  (mIf (zo6 (zaj (mFr (zdS (zaC 2 "holds" zck (mV 4) (zac (mV 0) (zac (mV 1) (zac (mV 3) zak))))
      (zaC 6 "holds" zcl (mV 4) (zac (mV 0) (zac (mV 1) (zac (mV 3) zak))))))))
      (zbB (mSh (zel (zac (mV 3) (zac (mFr (zdS (zaC 2 "row" zbu (mV 4) zak)
      (zaC 6 "row" zbv (mV 4) zak))) zak)))))
      za7)
def zaI:BdT:=zeU zck zcl zbu zbv
def zgY (zaI : BdT) : BdT :=
  (zaS (znb 2 (gSq 2 (gCs (gN 3) (gCs (gN 4) gNs)))
    zaI)
   (zbB (mSh (mC .non))))
def zcm:BdT:=zgY zaI
def zaB:FnT:=zaD zcm 3 5
def zcw:BdT:=
 (zbB (zdn 1 [0] (zmn (mV 1)) (gN 0) zdo (zel (zac (mV 1) (zac (mV 0) zak)))))
def zax:FnT:=zaD zcw 2 2
def zox (zaE:InT) (zax:FnT):BdT:=
 (zbB (m2 zbV (mFr (zgv (zac (zel (zac (m2 oIx (mV 1) (mC (.int 1))) (zac (mFr (znd 2 zaE (zac (m1 (zcV [1,8] "by") (mV 0)) zak))) zak))) zak))) (mFr (m1 zax (zac (m2 oIx (mV 1) (mC (.int 3))) (zac (m1 (zcV [1,4,8] "terms") (mV 0)) zak))))))
def zoy:BdT:=zox zaE zax
def zce:FnT:=zaD zoy 2 2
def zls (zaB:FnT) (zce:FnT):BdT:=
 (zbB (m1 zaB (zac (mV 1) (zac (mV 2) (zac (mFr (zaC 1 "asked" zce (mV 0) (zac (mV 3) zak))) zak)))))
def zlt:BdT:=zls zaB zce
def zbh:FnT:=zaD zlt 4 4
def zjT (zap : FnT) (zan : FnT) : BdT :=
  (zaS (mDo (zaC 7 "must_be_state" zap (mV 0) (zac (mV 1) zak)))
   (zaS (mDo (zaC 7 "must_be_role" zan (mV 0) (zac (mV 2) zak)))
   (zbB (zdn 1 [0, 1, 2] (zmn (m1 (zcV [7] "folk") (mV 0))) (gN 0) (zaj (m2 oNe (m2 zIi (mV 2) (m2 zxm (m1 (zcV [7] "right_bits") (mV 1)) (zel (zac (mV 0) (zac (mV 3) zak))))) (mC (.int 0)))) (mV 0)))))
def zjU:BdT:=zjT zap zan
def zaN:FnT:=zaD zjU 3 3
def zrX:BdT:=
 (zbB (m2 zbV (mC (.str "last ")) (m1 (zcV [1,2,3,4,5,6,8] "role") (mV 0))))
def zbT:FnT:=zaD zrX 1 1
def zie (zaN : FnT) (zbT : FnT) : BdT :=
  (zaS (zcW 4 [3] (mSh (m2 oIx (mV 3) (mC (.int 3)))))
   (zaS (zcW 5 [1, 2, 4] (zdn 1 [4] (zmn (mFr (zaC 7 "holders" zaN (mV 1) (zac (mV 2) (zac (m1 (zcV [1, 2, 3, 4, 5, 6, 8] "role") (mV 0)) zak))))) (gN 0) (zaj (m2 oNe (mV 0) (mV 1))) (mV 0)))
   (zaS (mIf (zaj (m2 oEq (mFr (m1 zll (zac (mV 5) zak))) (mC (.int 0))))
    (zbB (mSh (zel (zac (mV 4) (zac (mFr (zaC 3 "row" zbT (mV 0) zak)) zak)))))
    za7)
   (zbB (mSh (mC .non))))))
def zif:BdT:=zie zaN zbT
def za5:FnT:=zaD zif 4 6
def zpU (zax:FnT):BdT:=
 (zbB (m1 zax (zac (m2 oIx (mV 1) (mC (.int 3))) (zac (m1 (zcV [1,4,8] "terms") (mV 0)) zak))))
def zpV:BdT:=zpU zax
def zcI:FnT:=zaD zpV 2 2
def zmz (zaB:FnT) (zcI:FnT):BdT:=
 (zbB (m1 zaB (zac (mV 1) (zac (mV 2) (zac (mFr (zaC 4 "asked" zcI (mV 0) (zac (mV 3) zak))) zak)))))
def zmA:BdT:=zmz zaB zcI
def zbC:FnT:=zaD zmA 4 4
def zrY:BdT:=
 (zbB (m2 zbV (mFr (m2 zbV (mFr (m2 zbV (mC (.str "most ")) (mFr (m1 zne (zac (m1 (zcV [5] "most") (mV 0)) zak))))) (mC (.str " ")))) (m1 (zcV [1,2,3,4,5,6,8] "role") (mV 0))))
def zbU:FnT:=zaD zrY 1 1
def zig (zaN : FnT) (zbU : FnT) : BdT :=
  (zaS (zcW 4 [3] (mSh (m2 oIx (mV 3) (mC (.int 3)))))
   (zaS (zcW 5 [1, 2, 4] (zdn 1 [4] (zmn (mFr (zaC 7 "holders" zaN (mV 1) (zac (mV 2) (zac (m1 (zcV [1, 2, 3, 4, 5, 6, 8] "role") (mV 0)) zak))))) (gN 0) (zaj (m2 oNe (mV 0) (mV 1))) (mV 0)))
   (zaS (mIf (zaj (m2 oGe (mFr (m1 zll (zac (mV 5) zak))) (m1 (zcV [5] "most") (mV 0))))
    (zbB (mSh (zel (zac (mV 4) (zac (mFr (zaC 5 "row" zbU (mV 0) zak)) zak)))))
    za7)
   (zbB (mSh (mC .non))))))
def zih:BdT:=zig zaN zbU
def za6:FnT:=zaD zih 4 6
def zoz (zaE:InT) (zax:FnT):BdT:=
 (zbB (m2 zbV (mFr (zgv (zac (zel (zac (m2 oIx (mV 1) (mC (.int 1))) (zac (mFr (znd 2 zaE (zac (m1 (zcV [1,8] "by") (mV 0)) zak))) zak))) zak))) (mFr (m1 zax (zac (m2 oIx (mV 1) (mC (.int 3))) (zac (m1 (zcV [1,4,8] "terms") (mV 0)) zak))))))
def zoA:BdT:=zoz zaE zax
def zcf:FnT:=zaD zoA 2 2
def zlu (zaB:FnT) (zcf:FnT):BdT:=
 (zbB (m1 zaB (zac (mV 1) (zac (mV 2) (zac (mFr (zaC 8 "asked" zcf (mV 0) (zac (mV 3) zak))) zak)))))
def zlv:BdT:=zlu zaB zcf
def zbi:FnT:=zaD zlv 4 4
def zb8:BdT:=
 (zcW 2 [0,2] (m2 zbV (mV 2) (mFr (zdn 2 [2] (zmn (m2 oIx (mV 0) (mC (.int 2)))) (gSq 2 (gCs (gN 0) (gCs (gN 1) gNs))) (zx1 (zaj (m2 oIn (mV 1) (mV 2))) (zaj (m2 zke (mV 0) (mV 2)))) (mV 0)))))
def zlw (zb8 : BdT) : BdT :=
  (zaS (zcW 2 [1] (zgv (zac (mV 1) zak)))
   (zaS (zuz (mR1 (zac (mFr (m1 zll (zac (m2 oIx (mV 0) (mC (.int 1))) zak))) zak)) (gN 3)
    zb8)
   (zbB (zdn 1 [2] (zmn (m2 oIx (mV 0) (mC (.int 1)))) (gN 0) (zaj (m2 oIn (mV 0) (mV 1))) (mV 0)))))
def ze8:BdT:=zlw zb8
def zbK:FnT:=zaD ze8 2 4
def zkp:BdT:=
 (zbB (mSh (m2 zEq (mC (.int 1)) (mFr (m2 zbV (mFr (m2 zt8 (mFr (mBM zon (m2 oIx (mV 0) (mC (.int 0))) (zac (mV 1) zak))) (mFr (m1 zll (zac (m2 oIx (mV 0) (mC (.int 1))) zak))))) (mFr (mBM zon (m2 oIx (mV 0) (mC (.int 1))) (zac (mV 2) zak))))))))
def zcT:FnT:=zaD zkp 3 3
def zpW (zcT:FnT):BdT:=
 (zbB (mSh (m2 oEq (m2 zgw (m2 zjb (mV 1) (mFr (m1 zcT (zac (mV 0) (zac (mV 2) (zac (mV 3) zak)))))) (mC (.int 2))) (mC (.int 1)))))
def zgZ:BdT:=zpW zcT
def zbF:FnT:=zaD zgZ 4 4
def zuM (zbK:FnT) (zbF:FnT):BdT:=
 (zbB (mSh (m2 oNe (mFr (zdn 1 [0,1,2] (zmn (mFr (m1 zbK (zac (mV 0) (zac (mV 3) zak))))) (gN 0) (zaj (mFr (m1 zbF (zac (mV 1) (zac (mV 2) (zac (mV 3) (zac (mV 0) zak))))))) (mV 0))) (mFr (zgv zak)))))
def zg0:BdT:=zuM zbK zbF
def zcn:FnT:=zaD zg0 4 4
def zdt (zcn : FnT) : BdT :=
  (mIf (zaj (m2 oNe (mFr (m1 zcn (zac (mV 0) (zac (mV 1) (zac (mV 2) (zac (mV 5) zak)))))) (m2 oEq (mV 4) (mC (.str "has")))))
      (zbB (mSh (zel (zac (mV 2) (zac (mFr (m2 zbV (mFr (m2 zbV (mV 4) (mC (.str " ")))) (mV 5))) zak)))))
      za7)
def zat:BdT:=zdt zcn
def zee (zat : BdT) : BdT :=
  (zaS (znb 3 (gSq 2 (gCs (gN 4) (gCs (gN 5) gNs)))
    zat)
   (zbB (mSh (mC .non))))
def zbY:BdT:=zee zat
def zaF:FnT:=zaD zbY 4 6
def zco : BdT :=
  (zaS (mIf (zaj (m2 oEq (mV 1) (mFr (zgv zak))))
    (zbB (mSh (mC (.str ""))))
    za7)
   (zbB (m2 zbV (mFr (m2 zbV (mFr (m2 zbV (mC (.str " ")) (mV 0))) (mC (.str " ")))) (mFr (mBM zhU (mC (.str " and ")) (zac (mFr (zdn 2 [] (zmn (mV 1)) (gSq 2 (gCs (gN 0) (gCs (gN 1) gNs))) zdo (mFr (m2 zbV (mFr (m2 zbV (mV 0) (mC (.str " ")))) (mV 1))))) zak))))))
def zaR:FnT:=zaD zco 2 2
def zg1 (zaR : FnT) : BdT :=
  (zaS (mIf (zaj (m2 oEq (m2 oIx (mV 0) (mC (.int 0))) (mC (.str "give"))))
    (zbB (m2 zbV (mFr (m2 zbV (mFr (m2 zbV (mFr (m2 zbV (mC (.str "give ")) (m2 oIx (mV 0) (mC (.int 1))))) (mC (.str " by ")))) (m2 oIx (mV 0) (mC (.int 2))))) (mFr (m1 zaR (zac (mC (.str "to")) (zac (m2 oIx (mV 0) (mC (.int 3))) zak))))))
    za7)
   (zaS (mIf (zaj (m2 oEq (m2 oIx (mV 0) (mC (.int 0))) (mC (.str "take"))))
    (zbB (m2 zbV (mFr (m2 zbV (mFr (m2 zbV (mFr (m2 zbV (mC (.str "take ")) (m2 oIx (mV 0) (mC (.int 1))))) (mC (.str " by ")))) (m2 oIx (mV 0) (mC (.int 2))))) (mFr (m1 zaR (zac (mC (.str "from")) (zac (m2 oIx (mV 0) (mC (.int 3))) zak))))))
    za7)
   (zaS (mIf (zaj (m2 oEq (m2 oIx (mV 0) (mC (.int 0))) (mC (.str "lay"))))
    (zbB (m2 zbV (mFr (m2 zbV (mC (.str "lay ")) (m2 oIx (mV 0) (mC (.int 1))))) (mFr (m1 zaR (zac (mC (.str "if")) (zac (m2 oIx (mV 0) (mC (.int 2))) zak))))))
    za7)
   (zbB (mBM zhU (mC (.str " ")) (zac (mFr (zdn 1 [] (zmn (mV 0)) (gN 0) zdo (mFr (m1 zne (zac (mV 0) zak))))) zak))))))
def zdu:BdT:=zg1 zaR
def zbM:FnT:=zaD zdu 1 1
def zmB (zbF : FnT) (zcn : FnT) (zaF : FnT) (zcT : FnT) (zbM : FnT) : BdT :=
  (zaS (zcW 4 [3] (mSh (m2 oIx (mV 3) (mC (.int 3)))))
   (zaS (zcW 5 [0, 1, 3, 4] (zdn 1 [0, 1, 3, 4] (zmn (m2 oIx (mV 0) (mC (.int 0)))) (gN 0) (zx1 (zaj (m2 oNe (mV 0) (mV 4))) (zaj (mFr (m1 zbF (zac (mV 1) (zac (mV 2) (zac (mV 0) (zac (m2 oIx (mV 3) (mC (.int 2))) zak)))))))) (mV 0)))
   (zaS (mIf (zaj (m2 oIn (m2 oIx (mV 2) (mC (.int 0))) (mFr (zgv (zac (mC (.str "give")) (zac (mC (.str "take")) zak))))))
    (zaS (mIf (zo6 (zaj (mFr (m1 zcn (zac (mV 0) (zac (mV 1) (zac (m2 oIx (mV 3) (mC (.int 1))) (zac (m2 oIx (mV 2) (mC (.int 2))) zak))))))))
      (zbB (mSh (zel (zac (m2 oIx (mV 3) (mC (.int 1))) (zac (mFr (m2 zbV (mC (.str "has ")) (m2 oIx (mV 2) (mC (.int 2))))) zak)))))
      za7)
     (zbB (m1 zaF (zac (mV 0) (zac (mV 1) (zac (mV 4) (zac (m2 oIx (mV 2) (mC (.int 3))) zak)))))))
    za7)
   (zaS (mIf (zaj (m2 oEq (m2 oIx (mV 2) (mC (.int 0))) (mC (.str "lay"))))
    (zbB (m1 zaF (zac (mV 0) (zac (mV 1) (zac (mV 4) (zac (m2 oIx (mV 2) (mC (.int 2))) zak))))))
    za7)
   (zaS (mIf (zaj (m2 oEq (m2 oIx (mV 2) (mC (.int 0))) (mC (.str "both"))))
    (zaS (zcW 6 [0, 1, 3, 4] (mSh (m2 oOr (mV 1) (mFr (m1 zcT (zac (mV 0) (zac (mV 4) (zac (m2 oIx (mV 3) (mC (.int 2))) zak))))))))
     (mIf (zx1 (zaj (mFr (m1 zcn (zac (mV 0) (zac (mV 6) (zac (mV 4) (zac (m2 oIx (mV 2) (mC (.int 1))) zak))))))) (zaj (mFr (m1 zcn (zac (mV 0) (zac (mV 6) (zac (mV 4) (zac (m2 oIx (mV 2) (mC (.int 2))) zak))))))))
      (zbB (mSh (zel (zac (mV 4) (zac (mFr (m1 zbM (zac (mV 2) zak))) zak)))))
      za7))
    za7)
   (zaS (mIf (mOr (zx1 (zaj (m2 oEq (m2 oIx (mV 2) (mC (.int 0))) (mC (.str "most")))) (zaj (m2 oGe (mFr (m1 zll (zac (mV 5) zak))) (m2 oIx (mV 2) (mC (.int 1)))))) (zx1 (zaj (m2 oEq (m2 oIx (mV 2) (mC (.int 0))) (mC (.str "last")))) (zaj (m2 oEq (mV 5) (mFr (zgv zak))))))
    (zbB (mSh (zel (zac (mV 4) (zac (mFr (m1 zbM (zac (mV 2) zak))) zak)))))
    za7)
   (zbB (mSh (mC .non)))))))))
def zev:BdT:=zmB zbF zcn zaF zcT zbM
def zcb:FnT:=zaD zev 4 7
def zoB:BdT:=
 (zbB (zgv (zac (m1 (zcV [0] "one") (mV 0)) (zac (m1 (zcV [0] "other") (mV 0)) zak))))
def zbo:FnT:=zaD zoB 1 1
def zcx:BdT:=
 (zbB (zdn 1 [] (zmn (mV 0)) (gN 0) zdo (m1 (zcV [1,2,3,4,5,6,8] "role") (mV 0))))
def zay:FnT:=zaD zcx 1 1
def zoC (zay:FnT):BdT:=
 (zbB (m2 zbV (mFr (zgv (zac (m1 (zcV [1,2,3,4,5,6,8] "role") (mV 0)) (zac (m1 (zcV [1,8] "by") (mV 0)) zak)))) (mFr (m1 zay (zac (m1 (zcV [1,4,8] "terms") (mV 0)) zak)))))
def zoD:BdT:=zoC zay
def zbp:FnT:=zaD zoD 1 1
def zoE:BdT:=
 (zbB (zgv (zac (m1 (zcV [1,2,3,4,5,6,8] "role") (mV 0)) zak)))
def zbq:FnT:=zaD zoE 1 1
def zpX (zay:FnT):BdT:=
 (zbB (m2 zbV (mFr (zgv (zac (m1 (zcV [1,2,3,4,5,6,8] "role") (mV 0)) zak))) (mFr (m1 zay (zac (m1 (zcV [1,4,8] "terms") (mV 0)) zak)))))
def zpY:BdT:=zpX zay
def zbN:FnT:=zaD zpY 1 1
def zoF:BdT:=
 (zbB (zgv (zac (m1 (zcV [1,2,3,4,5,6,8] "role") (mV 0)) zak)))
def zbr:FnT:=zaD zoF 1 1
def zoG (zay:FnT):BdT:=
 (zbB (m2 zbV (mFr (zgv (zac (m1 (zcV [1,2,3,4,5,6,8] "role") (mV 0)) (zac (m1 (zcV [1,8] "by") (mV 0)) zak)))) (mFr (m1 zay (zac (m1 (zcV [1,4,8] "terms") (mV 0)) zak)))))
def zoH:BdT:=zoG zay
def zbs:FnT:=zaD zoH 1 1
def zcJ : BdT :=
  (zaS (mIf (zaj (m2 oIn (m2 oIx (mV 0) (mC (.int 0))) (mFr (zgv (zac (mC (.str "give")) (zac (mC (.str "take")) zak))))))
    (zbB (m2 zbV (mFr (zgv (zac (m2 oIx (mV 0) (mC (.int 1))) (zac (m2 oIx (mV 0) (mC (.int 2))) zak)))) (mFr (zdn 2 [] (zmn (m2 oIx (mV 0) (mC (.int 3)))) (gSq 2 (gCs (gN 0) (gCs (gN 1) gNs))) zdo (mV 1)))))
    za7)
   (zaS (mIf (zaj (m2 oEq (m2 oIx (mV 0) (mC (.int 0))) (mC (.str "lay"))))
    (zbB (m2 zbV (mFr (zgv (zac (m2 oIx (mV 0) (mC (.int 1))) zak))) (mFr (zdn 2 [] (zmn (m2 oIx (mV 0) (mC (.int 2)))) (gSq 2 (gCs (gN 0) (gCs (gN 1) gNs))) zdo (mV 1)))))
    za7)
   (zbB (zdn 1 [] (zmn (mFr (mSl (mV 0) (mAt (mC (.int 1))) mNo))) (gN 0) (zaj (mFr (m1 (zmo tab) (zac (mV 0) (zac (mC (.ty "str")) zak))))) (mV 0)))))
def zbn:FnT:=zaD zcJ 1 1
def zjg : BdT :=
  (zaS (zcW 1 [0] (zgv (zac (mFr (m1 (zmo tab) (zac (mV 0) (zac (mC (.cls 1)) zak)))) (zac (mFr (m1 (zmo tab) (zac (mV 0) (zac (mC (.cls 8)) zak)))) (zac (mFr (m1 (zmo tab) (zac (mV 0) (zac (mC (.cls 4)) zak)))) (zac (mFr (m1 (zmo tab) (zac (mV 0) (zac (mC (.cls 0)) zak)))) zak))))))
   (zbB (m2 zbV (mV 1) (mFr (zgv (zac (mFr (m1 (zmo tab) (zac (mV 0) (zac (mC (.cls 5)) zak)))) (zac (mFr (m1 (zmo tab) (zac (mV 0) (zac (mC (.cls 3)) zak)))) (zac (mFr (m1 (zmo tab) (zac (mV 0) (zac (mC (.cls 9)) zak)))) zak))))))))
def zcK:FnT:=zaD zjg 1 2
def zg2:BdT:=
 (zbB (mSh (zuu (zaj (mFr (m1 (zmo tab) (zac (mV 0) (zac (mC (.ty "bool")) zak))))) (m2 oEq (mV 0) (mV 1)) (mC (.bl false)))))
def zbZ:FnT:=zaD zg2 2 2
def zlS (zbu : FnT) (zbv : FnT) : BdT :=
  (zaS (mIf (zaj (m2 oEq (mFr (m1 zll (zac (mV 1) zak))) (mC (.int 0))))
    (zbB (mSh (mC (.str ""))))
    za7)
   (zbB (m2 zbV (mFr (m2 zbV (mFr (m2 zbV (mC (.str " ")) (mV 0))) (mC (.str " ")))) (mFr (mBM zhU (mC (.str " and ")) (zac (mFr (zdn 1 [] (zmn (mV 1)) (gN 0) zdo (mFr (zdS (zaC 2 "row" zbu (mV 0) zak)
      (zaC 6 "row" zbv (mV 0) zak))))) zak))))))
def zef:BdT:=zlS zbu zbv
def zbc:FnT:=zaD zef 2 2
def zrZ (zbc:FnT):BdT:=
 (zbB (m2 zbV (mFr (m2 zbV (mFr (m2 zbV (mFr (m2 zbV (mC (.str "give ")) (m1 (zcV [1,2,3,4,5,6,8] "role") (mV 0)))) (mC (.str " by ")))) (m1 (zcV [1,8] "by") (mV 0)))) (mFr (m1 zbc (zac (mC (.str "to")) (zac (m1 (zcV [1,4,8] "terms") (mV 0)) zak))))))
def zr0:BdT:=zrZ zbc
def zcy:FnT:=zaD zr0 1 1
def zuN (zbc:FnT):BdT:=
 (zbB (m2 zbV (mFr (m2 zbV (mC (.str "lay ")) (m1 (zcV [1,2,3,4,5,6,8] "role") (mV 0)))) (mFr (m1 zbc (zac (mC (.str "if")) (zac (m1 (zcV [1,4,8] "terms") (mV 0)) zak))))))
def zuO:BdT:=zuN zbc
def zc7:FnT:=zaD zuO 1 1
def zr1 (zbc:FnT):BdT:=
 (zbB (m2 zbV (mFr (m2 zbV (mFr (m2 zbV (mFr (m2 zbV (mC (.str "take ")) (m1 (zcV [1,2,3,4,5,6,8] "role") (mV 0)))) (mC (.str " by ")))) (m1 (zcV [1,8] "by") (mV 0)))) (mFr (m1 zbc (zac (mC (.str "from")) (zac (m1 (zcV [1,4,8] "terms") (mV 0)) zak))))))
def zr2:BdT:=zr1 zbc
def zcz:FnT:=zaD zr2 1 1
def zlx:BdT:=
 (zbB (mSh (mC (.bl false))))
def zbw:FnT:=zaD zlx 1 1
def zly:BdT:=
 (zbB (mSh (mC (.bl true))))
def zbx:FnT:=zaD zly 1 1
def zlz:BdT:=
 (zbB (mSh (mC (.bl false))))
def zby:FnT:=zaD zlz 1 1
def zmC:BdT:=
 (zbB (mSh (mC (.bl true))))
def zbO:FnT:=zaD zmC 1 1
def zlA:BdT:=
 (zbB (mSh (mC (.bl false))))
def zbz:FnT:=zaD zlA 1 1
def zlB:BdT:=
 (zbB (mSh (mC (.bl true))))
def zbA:FnT:=zaD zlB 1 1
def zjV:BdT:=
 (zbB (mSh (m2 oEq (m2 oIx (mV 1) (mC (.int 0))) (mC (.str "give")))))
def zaZ:FnT:=zaD zjV 2 2
def zii:BdT:=
 (zbB (mSh (zuu (zaj (m2 oEq (m2 oIx (mV 0) (mC (.int 0))) (mV 1))) (m2 oEq (m2 oIx (mV 0) (mC (.int 2))) (mV 2)) (mC (.bl false)))))
def zcc:FnT:=zaD zii 3 3
def zjW (zcc:FnT):BdT:=
 (zbB (m1 zcc (zac (mV 1) (zac (mC (.str "give")) (zac (m1 (zcV [1,2,3,4,5,6,8] "role") (mV 0)) zak)))))
def zjX:BdT:=zjW zcc
def za0:FnT:=zaD zjX 2 2
def zfZ (zcc:FnT):BdT:=
 (zbB (mSh (zuu (zaj (mFr (m1 zcc (zac (mV 1) (zac (mC (.str "take")) (zac (m1 (zcV [1,2,3,4,5,6,8] "role") (mV 0)) zak)))))) (mC (.bl true)) (mFr (m1 zcc (zac (mV 1) (zac (mC (.str "lay")) (zac (m1 (zcV [1,2,3,4,5,6,8] "role") (mV 0)) zak))))))))
def zf0:BdT:=zfZ zcc
def zaP:FnT:=zaD zf0 2 2
def zkq (zcc:FnT):BdT:=
 (zbB (m1 zcc (zac (mV 1) (zac (mC (.str "lay")) (zac (m1 (zcV [1,2,3,4,5,6,8] "role") (mV 0)) zak)))))
def zkr:BdT:=zkq zcc
def zbd:FnT:=zaD zkr 2 2
def zjY (zcc:FnT):BdT:=
 (zbB (m1 zcc (zac (mV 1) (zac (mC (.str "give")) (zac (m1 (zcV [1,2,3,4,5,6,8] "role") (mV 0)) zak)))))
def zjZ:BdT:=zjY zcc
def za1:FnT:=zaD zjZ 2 2
def zj0 (zcc:FnT):BdT:=
 (zbB (m1 zcc (zac (mV 1) (zac (mC (.str "take")) (zac (m1 (zcV [1,2,3,4,5,6,8] "role") (mV 0)) zak)))))
def zj1:BdT:=zj0 zcc
def za2:FnT:=zaD zj1 2 2
def zcB : BdT :=
  (zaS (mIf (zaj (m2 oEq (m2 oIx (mV 0) (mC (.int 0))) (mC (.str "both"))))
    (zbB (mSh (m2 oEq (m2 oIx (mV 1) (mC (.int 0))) (mC (.str "give")))))
    za7)
   (zaS (mIf (zaj (m2 oEq (m2 oIx (mV 0) (mC (.int 0))) (mC (.str "most"))))
    (zbB (mSh (zuu (zaj (m2 oEq (m2 oIx (mV 1) (mC (.int 0))) (mC (.str "give")))) (m2 oEq (m2 oIx (mV 1) (mC (.int 2))) (m2 oIx (mV 0) (mC (.int 2)))) (mC (.bl false)))))
    za7)
   (zaS (mIf (zaj (m2 oEq (m2 oIx (mV 0) (mC (.int 0))) (mC (.str "last"))))
    (zbB (mSh (zuu (zaj (m2 oNe (m2 oIx (mV 1) (mC (.int 0))) (mC (.str "give")))) (m2 oEq (m2 oIx (mV 1) (mC (.int 2))) (m2 oIx (mV 0) (mC (.int 1)))) (mC (.bl false)))))
    za7)
   (zbB (mSh (zuu (zaj (m2 oEq (m2 oIx (mV 1) (mC (.int 0))) (m2 oIx (mV 0) (mC (.int 0))))) (m2 oEq (m2 oIx (mV 1) (mC (.int 2))) (m2 oIx (mV 0) (mC (.int 1)))) (mC (.bl false))))))))
def zbe:FnT:=zaD zcB 2 2
def zhZ (zbZ : FnT) (zaZ : FnT) (za0 : FnT) (zaP : FnT) (zbd : FnT) (za1 : FnT) (za2 : FnT) (zbe : FnT) : BdT :=
  (zaS (zcW 6 [2, 4, 5] (mSh (zel (zac (mV 4) (zac (m2 oIx (m2 oIx (mV 2) (mC (.int 0))) (mC (.int 0))) (zac (mV 5) (zac (m2 oIx (m2 oIx (mV 2) (mC (.int 0))) (m1 zEr (mFr (m1 zB4 (zac (m2 oNe (mV 4) (mC (.str "lay"))) zak))))) zak)))))))
       (mIf (zo6 (zaj (mFr (m1 zbZ (zac (mFr (zdS (zaC 0 "speaks_of" zaZ (mV 0) (zac (mV 6) zak))
      (zdS (zaC 1 "speaks_of" za0 (mV 0) (zac (mV 6) zak))
      (zdS (zaC 3 "speaks_of" zaP (mV 0) (zac (mV 6) zak))
      (zdS (zaC 4 "speaks_of" zbd (mV 0) (zac (mV 6) zak))
      (zdS (zaC 5 "speaks_of" za1 (mV 0) (zac (mV 6) zak))
      (zaC 8 "speaks_of" za2 (mV 0) (zac (mV 6) zak)))))))) (zac (mFr (m1 zbe (zac (mV 1) (zac (mV 6) zak)))) zak))))))
        (zbB (mSh (mC (.bl false))))
        za7))
def zbP:BdT:=zhZ zbZ zaZ za0 zaP zbd za1 za2 zbe
def zh0 (zbP : BdT) : BdT :=
  (zuz (mIt [2] (mSh (m2 oIx (mV 2) (mC (.int 1))))) (gN 5)
      zbP)
def zbQ:BdT:=zh0 zbP
def zj2 (zcK : FnT) (zbZ : FnT) (zbw : FnT) (zbx : FnT) (zby : FnT) (zbO : FnT) (zbz : FnT) (zbA : FnT) (zbS : FnT) (zcy : FnT) (zbT : FnT) (zc7 : FnT) (zbU : FnT) (zcz : FnT) (zbM : FnT) (zbo : FnT) (zbp : FnT) (zbq : FnT) (zbN : FnT) (zbr : FnT) (zbs : FnT) (zbn : FnT) (zbQ : BdT) : BdT :=
  (zaS (zcW 3 [1] (zdn 1 [1] (zmn (mFr (zgv (zac (mC (.str "give")) (zac (mC (.str "take")) (zac (mC (.str "lay")) (zac (mC (.str "both")) (zac (mC (.str "most")) (zac (mC (.str "last")) zak))))))))) (gN 0) zdo (m2 oEq (m2 oIx (mV 1) (mC (.int 0))) (mV 0))))
   (zaS (mIf (mOr (zaj (m2 oNe (mFr (m1 zcK (zac (mV 0) zak))) (mFr (m2 zbV (mV 3) (mFr (zgv (zac (mC (.bl true)) zak))))))) (zo6 (zaj (mFr (m1 zbZ (zac (mFr (zdS (zaC 0 "permits" zbw (mV 0) zak)
      (zdS (zaC 1 "permits" zbx (mV 0) zak)
      (zdS (zaC 3 "permits" zby (mV 0) zak)
      (zdS (zaC 4 "permits" zbO (mV 0) zak)
      (zdS (zaC 5 "permits" zbz (mV 0) zak)
      (zaC 8 "permits" zbA (mV 0) zak))))))) (zac (m2 oIn (m2 oIx (mV 1) (mC (.int 0))) (mFr (zgv (zac (mC (.str "give")) (zac (mC (.str "take")) (zac (mC (.str "lay")) zak)))))) zak)))))))
    (zbB (mSh (mC (.bl false))))
    za7)
   (zaS (mIf (mOr (zaj (m2 oNe (mFr (zdS (zaC 0 "row" zbS (mV 0) zak)
      (zdS (zaC 1 "row" zcy (mV 0) zak)
      (zdS (zaC 3 "row" zbT (mV 0) zak)
      (zdS (zaC 4 "row" zc7 (mV 0) zak)
      (zdS (zaC 5 "row" zbU (mV 0) zak)
      (zaC 8 "row" zcz (mV 0) zak))))))) (mFr (m1 zbM (zac (mV 1) zak))))) (mOr (zaj (m2 oNe (mFr (zdS (zaC 0 "names" zbo (mV 0) zak)
      (zdS (zaC 1 "names" zbp (mV 0) zak)
      (zdS (zaC 3 "names" zbq (mV 0) zak)
      (zdS (zaC 4 "names" zbN (mV 0) zak)
      (zdS (zaC 5 "names" zbr (mV 0) zak)
      (zaC 8 "names" zbs (mV 0) zak))))))) (mFr (m1 zbn (zac (mV 1) zak))))) (zo6 (zaj (mFr (m1 (zmo tab) (zac (mFr (zdS (zaC 0 "names" zbo (mV 0) zak)
      (zdS (zaC 1 "names" zbp (mV 0) zak)
      (zdS (zaC 3 "names" zbq (mV 0) zak)
      (zdS (zaC 4 "names" zbN (mV 0) zak)
      (zdS (zaC 5 "names" zbr (mV 0) zak)
      (zaC 8 "names" zbs (mV 0) zak))))))) (zac (mC (.ty "list")) zak))))))))
    (zbB (mSh (mC (.bl false))))
    za7)
   (zaS (zzX (zdS (zaC 0 "names" zbo (mV 0) zak)
      (zdS (zaC 1 "names" zbp (mV 0) zak)
      (zdS (zaC 3 "names" zbq (mV 0) zak)
      (zdS (zaC 4 "names" zbN (mV 0) zak)
      (zdS (zaC 5 "names" zbr (mV 0) zak)
      (zaC 8 "names" zbs (mV 0) zak)))))) (mC (.str "x")))
   (zaS (zuz (mIt [] (zgv (zac (mC (.str "give")) (zac (mC (.str "take")) (zac (mC (.str "lay")) zak))))) (gN 4)
    zbQ)
   (zbB (mSh (m2 oEq (mFr (zdS (zaC 0 "names" zbo (mV 0) zak)
      (zdS (zaC 1 "names" zbp (mV 0) zak)
      (zdS (zaC 3 "names" zbq (mV 0) zak)
      (zdS (zaC 4 "names" zbN (mV 0) zak)
      (zdS (zaC 5 "names" zbr (mV 0) zak)
      (zaC 8 "names" zbs (mV 0) zak))))))) (mFr (m1 zbn (zac (mV 1) zak)))))))))))
def zc8:BdT:=zj2 zcK zbZ zbw zbx zby zbO zbz zbA zbS zcy zbT zc7 zbU zcz zbM zbo zbp zbq zbN zbr zbs zbn zbQ
def zbD:FnT:=zaD zc8 3 7
def zdv (zbu : FnT) (zbv : FnT) : BdT :=
  (zaS (mIf (zaj (m2 oIn (m2 oIx (mV 1) (mC (.int 0))) (mFr (zgv (zac (mC (.str "give")) (zac (mC (.str "take")) zak))))))
    (zaS (zcW 2 [] (zgv (zac (m1 (zcV [1, 2, 3, 4, 5, 6, 8] "role") (mV 0)) (zac (m1 (zcV [1, 8] "by") (mV 0)) (zac (mFr (zdn 1 [] (zmn (m1 (zcV [1, 4, 8] "terms") (mV 0))) (gN 0) zdo (zel (zac (mFr (mSl (mFr (zdS (zaC 2 "row" zbu (mV 0) zak)
      (zaC 6 "row" zbv (mV 0) zak))) mNo (mAt (mC (.int 3))))) (zac (m1 (zcV [1, 2, 3, 4, 5, 6, 8] "role") (mV 0)) zak))))) zak)))))
     (zbB (mSh (zuu (zaj (m2 oEq (mV 2) (mFr (m1 zuB (zac (mFr (mSl (mV 1) (mAt (mC (.int 1))) mNo)) zak))))) (mFr (m1 (zmo tab) (zac (m1 (zcV [1, 4, 8] "terms") (mV 0)) (zac (mC (.ty "tuple")) zak)))) (mC (.bl false))))))
    za7)
   (zaS (mIf (zaj (m2 oEq (m2 oIx (mV 1) (mC (.int 0))) (mC (.str "lay"))))
    (zaS (zcW 2 [] (zgv (zac (m1 (zcV [1, 2, 3, 4, 5, 6, 8] "role") (mV 0)) (zac (mFr (zdn 1 [] (zmn (m1 (zcV [1, 4, 8] "terms") (mV 0))) (gN 0) zdo (zel (zac (mFr (mSl (mFr (zdS (zaC 2 "row" zbu (mV 0) zak)
      (zaC 6 "row" zbv (mV 0) zak))) mNo (mAt (mC (.int 3))))) (zac (m1 (zcV [1, 2, 3, 4, 5, 6, 8] "role") (mV 0)) zak))))) zak))))
     (zbB (mSh (zuu (zaj (m2 oEq (mV 2) (mFr (m1 zuB (zac (mFr (mSl (mV 1) (mAt (mC (.int 1))) mNo)) zak))))) (mFr (m1 (zmo tab) (zac (m1 (zcV [1, 4, 8] "terms") (mV 0)) (zac (mC (.ty "tuple")) zak)))) (mC (.bl false))))))
    za7)
   (zaS (mIf (zaj (m2 oEq (m2 oIx (mV 1) (mC (.int 0))) (mC (.str "both"))))
    (zbB (mSh (m2 oEq (mFr (zgv (zac (m1 (zcV [0] "one") (mV 0)) (zac (m1 (zcV [0] "other") (mV 0)) zak)))) (mFr (m1 zuB (zac (mFr (mSl (mV 1) (mAt (mC (.int 1))) mNo)) zak))))))
    za7)
   (zaS (mIf (zaj (m2 oEq (m2 oIx (mV 1) (mC (.int 0))) (mC (.str "most"))))
    (zbB (mSh (m2 oEq (mFr (zgv (zac (m1 (zcV [5] "most") (mV 0)) (zac (m1 (zcV [1, 2, 3, 4, 5, 6, 8] "role") (mV 0)) zak)))) (mFr (m1 zuB (zac (mFr (mSl (mV 1) (mAt (mC (.int 1))) mNo)) zak))))))
    za7)
   (zbB (mSh (m2 oEq (m1 (zcV [1, 2, 3, 4, 5, 6, 8] "role") (mV 0)) (m2 oIx (mV 1) (mC (.int 1))))))))))
def zcC:BdT:=zdv zbu zbv
def zbf:FnT:=zaD zcC 2 3
def zoI (zaT : FnT) (zbh : FnT) (za5 : FnT) (zbC : FnT) (za6 : FnT) (zbi : FnT) (zcb : FnT) : BdT :=
  (zaS (zcW 9 [0, 5, 6, 8] (zdS (zaC 0 "missing" zaT (mV 5) (zac (mV 0) (zac (mV 8) (zac (mV 6) zak))))
      (zdS (zaC 1 "missing" zbh (mV 5) (zac (mV 0) (zac (mV 8) (zac (mV 6) zak))))
      (zdS (zaC 3 "missing" za5 (mV 5) (zac (mV 0) (zac (mV 8) (zac (mV 6) zak))))
      (zdS (zaC 4 "missing" zbC (mV 5) (zac (mV 0) (zac (mV 8) (zac (mV 6) zak))))
      (zdS (zaC 5 "missing" za6 (mV 5) (zac (mV 0) (zac (mV 8) (zac (mV 6) zak))))
      (zaC 8 "missing" zbi (mV 5) (zac (mV 0) (zac (mV 8) (zac (mV 6) zak))))))))))
     (zaS (zcW 10 [1, 4, 6, 8] (m1 zcb (zac (mV 1) (zac (mV 8) (zac (mV 4) (zac (mV 6) zak))))))
     (mIf (mOr (zaj (m2 oNe (mV 9) (mV 10))) (zaj (m2 oNe (m2 oIs (mV 9) (mC .non)) (m2 oIs (mV 10) (mC .non)))))
      (zbB (mSh (mC (.bl false))))
      za7)))
def zdw:BdT:=zoI zaT zbh za5 zbC za6 zbi zcb
def zr3 (zba : FnT) (zcv : FnT) (zbW : FnT) (zbD : FnT) (zbf : FnT) (zbR : FnT) (zdw : BdT) : BdT :=
  (zaS (zcW 3 [2] (m1 zba (zac (mV 2) (zac (mC (.int 18)) zak))))
   (zaS (zcW 4 [1, 3] (m1 zcv (zac (mV 3) (zac (mV 1) zak))))
   (zaS (zcW 5 [4] (m1 zbW (zac (mV 4) zak)))
   (zaS (mIf (mOr (zo6 (zaj (mFr (m1 zbD (zac (mV 5) (zac (mV 4) (zac (mV 1) zak))))))) (zo6 (zaj (mFr (m1 zbf (zac (mV 5) (zac (mV 4) zak)))))))
    (zbB (mSh (mC (.bl false))))
    za7)
   (zaS (zcW 6 [1, 3, 4] (m1 zbR (zac (mFr (mSl (mV 3) (mAt (mC (.int 6))) (mAt (mC (.int 10))))) (zac (mV 1) (zac (mV 4) zak)))))
   (zaS (zcW 7 [1] (mSh (m2 zEq (mC (.int 1)) (mFr (m2 zt8 (mFr (m1 zll (zac (m2 oIx (mV 1) (mC (.int 0))) zak))) (mFr (m1 zll (zac (m2 oIx (mV 1) (mC (.int 1))) zak))))))))
   (zaS (zuz (mIt [3, 7] (m2 zbV (mFr (zgv (zac (mC (.int 0)) (zac (m2 zGW (mV 7) (mC (.int 1))) zak)))) (mFr (zdn 1 [7] (zmn (mFr (mSl (mV 3) (mAt (mC (.int 10))) (mAt (mC (.int 18)))))) (gN 0) zdo (m2 zgw (mV 0) (mV 1)))))) (gN 8)
    zdw)
   (zbB (mSh (mC (.bl true)))))))))))
def ziV:BdT:=zr3 zba zcv zbW zbD zbf zbR zdw
def zdP:FnT:=zaD ziV 3 11
def zAc (zdP : FnT) (zaW : FnT) : BdT :=
  (mIf (zo6 (zaj (mFr (m1 zdP (zac (mV 2) (zac (mV 1) (zac (mFr (m1 zaW (zac (mV 0) (zac (mV 3) zak)))) zak)))))))
      (zbB (mSh (mC (.bl false))))
      za7)
def zlT:BdT:=zAc zdP zaW
def zHy (zcA : FnT) (zaW : FnT) (zds : InT) (zlT : BdT) : BdT :=
  (zaS (zcW 1 [0] (m1 zcA (zac (mFr (m1 zaW (zac (mV 0) (zac (mC (.int 0)) zak)))) zak)))
   (zaS (zcW 2 [1] (znd 7 zds (zac (m2 oIx (mV 1) (mC (.int 0))) (zac (m2 oIx (mV 1) (mC (.int 1))) (zac (m2 oIx (mV 1) (mC (.int 2))) zak)))))
   (zaS (zuz (mR2 (zac (mC (.int 1)) (zac (mFr (m1 zFv (zac (mC (.int 3)) (zac (mFr (m1 zIj (zac (mFr (m1 zll (zac (mV 0) zak))) (zac (mC (.int 31)) zak)))) zak)))) zak))) (gN 3)
    zlT)
   (zbB (mSh (mC (.bl true)))))))
def zCi:BdT:=zHy zcA zaW zds zlT
def zvT:FnT:=zaD zCi 1 4
end
end My
namespace My
open PySem L2
abbrev nL0:List Str:=["self","office","state","deed"]
abbrev nL1:List Str:=["self"]
abbrev nL2:List Str:=["self","deed"]
abbrev nL3:List Str:=["_law_told","_law_state","_law_who","_law_role"]
abbrev nL4:List Str:=["_law_rule_here"]
abbrev nL5:List Str:=["_law_number","_law_many","_law_words","_law_letters","_law_tail","_law_at"]
abbrev nL6:List Str:=["_law_office_here","_law_told","_law_cell","_law_numbers","_law_rule_here","_law_one","_law_deed_here","_law_many","_law_state","_law_found","_law_due"]
abbrev nL7:List Str:=["self","thing"]
abbrev nL8:List Str:=["self","office","state","who"]
abbrev nL9:List Str:=["_law_term_here"]
abbrev zC4:List Str:=["self","role","by","terms"]
abbrev zKO:List Str:=["_law_told","_law_state","_law_rule_here","_law_deed_here","_law_whom","_law_others","_law_behind"]
abbrev zKP:List Str:=["_law_numbers","_law_told","_law_names_here","_law_role","_law_other","_law_terms","_law_kind"]
abbrev zKQ:List Str:=["_law_one","_law_rule_here","_law_told","_law_places","_law_verb","_law_role","_law_deed_here"]
abbrev zyG:List Str:=["self","role"]
abbrev zJC:List Str:=["_law_told","_law_state","_law_rule_here","_law_deed_here"]
abbrev zER:List Str:=["self","who","role"]
abbrev zJD:List Str:=["_law_told","_law_role","_law_known","_law_turn"]
abbrev zJE:List Str:=["_law_told","_law_state","_law_who","_law_terms"]
abbrev zFy:List Str:=["_law_word","_law_role"]
abbrev zIn:List Str:=["_law_told","_law_who","_law_role"]
abbrev zIo:List Str:=["_law_rule_here","_law_deed_here"]
abbrev zJF:List Str:=["_law_numbers","_law_told","_law_rule_here"]
abbrev zHz:List Str:=["_law_number","_law_many"]
abbrev zKR:List Str:=["_law_who","_law_told","_law_state","_law_deed_here","_law_whom"]
abbrev zJG:List Str:=["_law_office_here","_law_told","_law_cell"]
abbrev zIp:List Str:=["self","folk","roles","pairs"]
abbrev zIq:List Str:=["_law_number","_law_names_here"]
abbrev zHA:List Str:=["_law_word","_law_terms"]
abbrev zJH:List Str:=["_law_one","_law_rule_here","_law_found"]
abbrev zKS:List Str:=["_law_k","_law_number","_law_letters","_law_tail","_law_at"]
abbrev zJI:List Str:=["_law_one","_law_rule_here","_law_told"]
abbrev zIr:List Str:=["self","state","who","role"]
abbrev zJJ:List Str:=["_law_upper","_law_lower","_law_known"]
abbrev zHB:List Str:=["self","state","role"]
abbrev zKT:List Str:=["self","office","state","deed","getter","others"]
abbrev zKU:List Str:=["self","office","state","deed","loser","others"]
abbrev zKV:List Str:=["_law_name","_law_told","_law_state","_law_who"]
abbrev zIs:List Str:=["_law_script","_law_k"]
abbrev zIt:List Str:=["self","role","terms"]
abbrev zIu:List Str:=["_law_told","_law_due"]
abbrev zIv:List Str:=["self","one","other"]
abbrev zIw:List Str:=["self","most","role"]
abbrev zIx:List Str:=["deed","verb","role"]
abbrev zKW:List Str:=["roles","pairs","bringers","role","found"]
abbrev zJK:List Str:=["_law_one","_law_rule_here"]
abbrev zKX:List Str:=["_law_k","_law_numbers","_law_names_here"]
abbrev zJL:List Str:=["_law_numbers","_law_told"]
abbrev zHC:List Str:=["link","terms"]
abbrev zJM:List Str:=["office","state","parts"]
abbrev zHD:List Str:=["who","terms"]
abbrev zJN:List Str:=["_law_cell","_law_many"]
abbrev zJO:List Str:=["_law_told","_law_role"]
abbrev zJP:List Str:=["_law_one","_law_role"]
abbrev zIy:List Str:=["thing","names"]
def top (i:Nat):Stmt:=PySem.Challenge.pw_mightever_k13_what_rules_miss.main.body.getD i (.Pass ⟨0,0,0,0⟩)
abbrev zks:Stmt:=top 46
theorem zc2:FnScope ["_law_cell","_law_many","_law_found","_law_left","_law_number","_law_k"] zJN (zaf zks):=scm
abbrev zeV:Stmt:=top 47
theorem zfk:FnScope nL5 zHz (zaf zeV):=scm
abbrev zkt:Stmt:=top 48
theorem za8:FnScope ["_law_cell","_law_numbers","_law_sizes","_law_folk","_law_roles","_law_names_here","_law_order","_law_left","_law_pairs","_law_k","_law_j"] ["_law_cell"] (zaf zkt):=scm
abbrev zmD:Stmt:=top 31
theorem zyf:FnScope ["thing"] ["thing"] (zaf zmD):=scm
abbrev zg3:Stmt:=top 38
theorem zf1:FnScope ["names","most","checked","name"] ["names","most"] (zaf zg3):=scm
abbrev znh:Stmt:=top 37
theorem zvU:FnScope zIy zIy (zaf znh):=scm
abbrev zjh:Stmt:=top 39
theorem zdd:FnScope ["pairs","role","found","place","upper","lower"] ["pairs","role"] (zaf zjh):=scm
abbrev zg4:Stmt:=top 40
theorem zd7:FnScope ["pairs","roles","checked","upper","lower"] ["pairs","roles"] (zaf zg4):=scm
abbrev zf2:Stmt:=top 41
theorem zci:FnScope ["folk","roles","bits","power","who","role"] ["folk","roles"] (zaf zf2):=scm
abbrev zc3:Stmt:=top 42
theorem zcP:FnScope zKW ["roles","pairs"] (zaf zc3):=scm
abbrev zg5:Stmt:=zaw (top 43) 0
theorem zo9:FnScope zIp zIp (zaf zg5):=scm
abbrev zji:Stmt:=top 45
theorem zrf:FnScope zIs zIs (zaf zji):=scm
abbrev zni:Stmt:=top 53
theorem zvV:FnScope zIq zIq (zaf zni):=scm
abbrev zlb:Stmt:=top 54
theorem zeg:FnScope zKP zJL (zaf zlb):=scm
abbrev zjj:Stmt:=zaw (top 17) 0
theorem zrg:FnScope zyG zyG (zaf zjj):=scm
abbrev zjk:Stmt:=zaw (top 12) 0
theorem zrh:FnScope zC4 zC4 (zaf zjk):=scm
abbrev zjl:Stmt:=zaw (top 13) 0
theorem zri:FnScope zC4 zC4 (zaf zjl):=scm
abbrev zku:Stmt:=zaw (top 14) 0
theorem zsJ:FnScope zIt zIt (zaf zku):=scm
abbrev zjm:Stmt:=zaw (top 15) 0
theorem zrj:FnScope zIv zIv (zaf zjm):=scm
abbrev zjn:Stmt:=zaw (top 16) 0
theorem zrk:FnScope zIw zIw (zaf zjn):=scm
abbrev zew:Stmt:=zaw (top 2) 0
theorem zlU:FnScope zyG zyG (zaf zew):=scm
abbrev zg6:Stmt:=top 57
theorem zpa:FnScope nL9 nL9 (zaf zg6):=scm
abbrev zgO:Stmt:=top 58
theorem zvW:FnScope nL4 nL4 (zaf zgO):=scm
abbrev znj:Stmt:=top 59
theorem zcL:FnScope ["_law_numbers","_law_told","_law_rule_here","_law_who","_law_whom","_law_role","_law_verb"] zJF (zaf znj):=scm
abbrev zdx:Stmt:=zaw (top 43) 2
theorem zkb:FnScope nL7 nL7 (zaf zdx):=scm
abbrev zdy:Stmt:=zaw (top 43) 3
theorem zkc:FnScope nL7 nL7 (zaf zdy):=scm
abbrev zkv:Stmt:=zaw (top 43) 6
theorem zsK:FnScope zER zER (zaf zkv):=scm
abbrev znk:Stmt:=top 30
theorem zvX:FnScope ["thing"] ["thing"] (zaf znk):=scm
abbrev zjo:Stmt:=zaw (top 43) 5
theorem zrl:FnScope nL1 nL1 (zaf zjo):=scm
abbrev zeW:Stmt:=zaw (top 43) 7
theorem zmE:FnScope nL7 nL7 (zaf zeW):=scm
abbrev zde:Stmt:=zaw (top 43) 1
theorem zjp:FnScope nL7 nL7 (zaf zde):=scm
abbrev zeX:Stmt:=zaw (top 43) 4
theorem zmF:FnScope zyG zyG (zaf zeX):=scm
abbrev zg7:Stmt:=zaw (top 43) 8
theorem zd8:FnScope ["self","who","role","mask","upper"] zER (zaf zg7):=scm
abbrev zkw:Stmt:=zaw (top 43) 9
theorem zsL:FnScope zIr zIr (zaf zkw):=scm
abbrev znl:Stmt:=zaw (top 15) 2
theorem zvY:FnScope nL1 nL1 (zaf znl):=scm
abbrev zij:Stmt:=zaw (top 15) 5
theorem zg8:FnScope ["self","office","state","deed","getter","behind"] nL0 (zaf zij):=scm
abbrev zlV:Stmt:=zaw (top 3) 0
theorem zuP:FnScope nL8 nL8 (zaf zlV):=scm
abbrev zlW:Stmt:=zaw (top 4) 0
theorem zuQ:FnScope nL8 nL8 (zaf zlW):=scm
abbrev zpZ:Stmt:=zaw (top 3) 1
theorem zyg:FnScope nL1 nL1 (zaf zpZ):=scm
abbrev zp0:Stmt:=zaw (top 4) 1
theorem zyh:FnScope nL1 nL1 (zaf zp0):=scm
abbrev zg9:Stmt:=top 10
theorem zf3:FnScope ["office","state","parts","who","condition"] zJM (zaf zg9):=scm
abbrev zd9:Stmt:=top 9
theorem znm:FnScope zHD zHD (zaf zd9):=scm
abbrev zkx:Stmt:=zaw (top 12) 5
theorem zsM:FnScope nL2 nL2 (zaf zkx):=scm
abbrev zik:Stmt:=zaw (top 12) 6
theorem zp1:FnScope nL0 nL0 (zaf zik):=scm
abbrev zea:Stmt:=zaw (top 43) 10
theorem znn:FnScope zHB zHB (zaf zea):=scm
abbrev zno:Stmt:=zaw (top 17) 2
theorem zvZ:FnScope nL1 nL1 (zaf zno):=scm
abbrev ze9:Stmt:=zaw (top 17) 5
theorem zha:FnScope zKU nL0 (zaf ze9):=scm
abbrev zlX:Stmt:=zaw (top 14) 5
theorem zuR:FnScope nL2 nL2 (zaf zlX):=scm
abbrev zjq:Stmt:=zaw (top 14) 6
theorem zrm:FnScope nL0 nL0 (zaf zjq):=scm
abbrev znp:Stmt:=zaw (top 16) 2
theorem zv0:FnScope nL1 nL1 (zaf znp):=scm
abbrev zfa:Stmt:=zaw (top 16) 5
theorem zhb:FnScope zKT nL0 (zaf zfa):=scm
abbrev zky:Stmt:=zaw (top 13) 5
theorem zsN:FnScope nL2 nL2 (zaf zky):=scm
abbrev zil:Stmt:=zaw (top 13) 6
theorem zp2:FnScope nL0 nL0 (zaf zil):=scm
abbrev zdV:Stmt:=top 49
theorem zex:FnScope zJD zJO (zaf zdV):=scm
abbrev zp3:Stmt:=top 50
theorem zyi:FnScope zIn zIn (zaf zp3):=scm
abbrev zlY:Stmt:=top 51
theorem zuS:FnScope nL3 nL3 (zaf zlY):=scm
abbrev zmG:Stmt:=top 52
theorem zyj:FnScope nL3 nL3 (zaf zmG):=scm
abbrev zeh:Stmt:=top 60
theorem zdR:FnScope ["_law_told","_law_state","_law_who","_law_terms","_law_word","_law_role"] zJE (zaf zeh):=scm
abbrev zey:Stmt:=top 55
theorem zpb:FnScope zHA zHA (zaf zey):=scm
abbrev zmH:Stmt:=top 56
theorem zyk:FnScope nL4 nL4 (zaf zmH):=scm
abbrev zgy:Stmt:=top 61
theorem zfb:FnScope zKO zJC (zaf zgy):=scm
abbrev zkz:Stmt:=zaw (top 15) 3
theorem zsO:FnScope nL1 nL1 (zaf zkz):=scm
abbrev zeb:Stmt:=top 8
theorem znq:FnScope ["terms"] ["terms"] (zaf zeb):=scm
abbrev zkA:Stmt:=zaw (top 12) 3
theorem zsP:FnScope nL1 nL1 (zaf zkA):=scm
abbrev zkB:Stmt:=zaw (top 17) 3
theorem zsQ:FnScope nL1 nL1 (zaf zkB):=scm
abbrev zlZ:Stmt:=zaw (top 14) 3
theorem zuT:FnScope nL1 nL1 (zaf zlZ):=scm
abbrev zkC:Stmt:=zaw (top 16) 3
theorem zsR:FnScope nL1 nL1 (zaf zkC):=scm
abbrev zkD:Stmt:=zaw (top 13) 3
theorem zsS:FnScope nL1 nL1 (zaf zkD):=scm
abbrev zeY:Stmt:=top 64
theorem zuU:FnScope nL4 nL4 (zaf zeY):=scm
abbrev zl0:Stmt:=top 63
theorem zoJ:FnScope ["_law_one","_law_found"] ["_law_one"] (zaf zl0):=scm
abbrev zl1:Stmt:=top 62
theorem zuV:FnScope zIu zIu (zaf zl1):=scm
abbrev zjr:Stmt:=top 7
theorem zuW:FnScope zHC zHC (zaf zjr):=scm
abbrev znr:Stmt:=zaw (top 12) 2
theorem zv1:FnScope nL1 nL1 (zaf znr):=scm
abbrev zp4:Stmt:=zaw (top 14) 2
theorem zyl:FnScope nL1 nL1 (zaf zp4):=scm
abbrev zns:Stmt:=zaw (top 13) 2
theorem zv2:FnScope nL1 nL1 (zaf zns):=scm
abbrev zim:Stmt:=zaw (top 15) 1
theorem zp5:FnScope nL1 nL1 (zaf zim):=scm
abbrev zin:Stmt:=zaw (top 12) 1
theorem zp6:FnScope nL1 nL1 (zaf zin):=scm
abbrev zio:Stmt:=zaw (top 17) 1
theorem zp7:FnScope nL1 nL1 (zaf zio):=scm
abbrev zjs:Stmt:=zaw (top 14) 1
theorem zrn:FnScope nL1 nL1 (zaf zjs):=scm
abbrev ziq:Stmt:=zaw (top 16) 1
theorem zp8:FnScope nL1 nL1 (zaf ziq):=scm
abbrev zir:Stmt:=zaw (top 13) 1
theorem zp9:FnScope nL1 nL1 (zaf zir):=scm
abbrev zf4:Stmt:=zaw (top 15) 4
theorem znt:FnScope nL2 nL2 (zaf zf4):=scm
abbrev zv3:Stmt:=top 6
theorem zCj:FnScope zIx zIx (zaf zv3):=scm
abbrev zf5:Stmt:=zaw (top 12) 4
theorem znu:FnScope nL2 nL2 (zaf zf5):=scm
abbrev zf6:Stmt:=zaw (top 17) 4
theorem znv:FnScope nL2 nL2 (zaf zf6):=scm
abbrev zhc:Stmt:=zaw (top 14) 4
theorem zpc:FnScope nL2 nL2 (zaf zhc):=scm
abbrev zf7:Stmt:=zaw (top 16) 4
theorem znw:FnScope nL2 nL2 (zaf zf7):=scm
abbrev zf8:Stmt:=zaw (top 13) 4
theorem znx:FnScope nL2 nL2 (zaf zf8):=scm
abbrev zkE:Stmt:=top 65
theorem zsT:FnScope zIo zIo (zaf zkE):=scm
abbrev zec:Stmt:=top 66
theorem zcU:FnScope zKQ zJI (zaf zec):=scm
abbrev zfl:Stmt:=top 67
theorem zjt:FnScope zJH zJK (zaf zfl):=scm
abbrev zlc:Stmt:=top 68
theorem zc4:FnScope nL6 zJG (zaf zlc):=scm
abbrev zCk:Stmt:=top 69
theorem zxr:FnScope ["_law_script","_law_told","_law_office_here","_law_k"] ["_law_script"] (zaf zCk):=scm
set_option genInjectivity false in
set_option genSizeOf false in
structure Adr where
 zcD:Addr
 zcp:Addr
 zny:Addr
 zcM:Addr
 zen:Addr
 zcE:Addr
 znz:Addr
 zbE:Addr
 zcq:Addr
 zmI:Addr
 zba:Addr
 zkF:FuncData
 zb7:Addr
 zl2:FuncData
 zcA:Addr
 zkG:FuncData
 zdU:Addr
 zqa:FuncData
 zaX:Addr
 zhd:FuncData
 zbG:Addr
 znA:FuncData
 zbk:Addr
 zju:FuncData
 zbb:Addr
 zhe:FuncData
 zaY:Addr
 zf9:FuncData
 zaK:Addr
 zei:FuncData
 zhf:Addr
 zhg:FuncData
 zaW:Addr
 zjv:FuncData
 zb6:Addr
 znB:FuncData
 zcv:Addr
 znC:FuncData
 zjw:Addr
 zjx:FuncData
 zjy:Addr
 zjz:FuncData
 zjA:Addr
 zjB:FuncData
 zkH:Addr
 zkI:FuncData
 zjC:Addr
 zjD:FuncData
 zjE:Addr
 zjF:FuncData
 zdj:Addr
 zez:FuncData
 zaQ:Addr
 zhh:FuncData
 zbW:Addr
 znD:FuncData
 zbR:Addr
 znE:FuncData
 zas:Addr
 zdz:FuncData
 zan:Addr
 zdA:FuncData
 zcd:Addr
 zkJ:FuncData
 zdc:Addr
 znF:FuncData
 zb1:Addr
 zjG:FuncData
 za3:Addr
 zeZ:FuncData
 zap:Addr
 zdf:FuncData
 za4:Addr
 ze0:FuncData
 zbt:Addr
 zhi:FuncData
 zaU:Addr
 zkK:FuncData
 zbS:Addr
 znG:FuncData
 zaT:Addr
 zis:FuncData
 zck:Addr
 zl3:FuncData
 zcl:Addr
 zl4:FuncData
 zbu:Addr
 zqb:FuncData
 zbv:Addr
 zqc:FuncData
 zaB:Addr
 zhj:FuncData
 zax:Addr
 zga:FuncData
 zce:Addr
 zkL:FuncData
 zbh:Addr
 zit:FuncData
 zaN:Addr
 zgb:FuncData
 zbT:Addr
 znH:FuncData
 za5:Addr
 ziu:FuncData
 zcI:Addr
 zl5:FuncData
 zbC:Addr
 zjH:FuncData
 zbU:Addr
 znI:FuncData
 za6:Addr
 ziv:FuncData
 zcf:Addr
 zkM:FuncData
 zbi:Addr
 ziw:FuncData
 zbK:Addr
 zix:FuncData
 zcT:Addr
 zqd:FuncData
 zbF:Addr
 zl6:FuncData
 zcn:Addr
 zqe:FuncData
 zaF:Addr
 zej:FuncData
 zaR:Addr
 zhk:FuncData
 zbM:Addr
 zqf:FuncData
 zcb:Addr
 zjI:FuncData
 zbo:Addr
 zkN:FuncData
 zay:Addr
 zgc:FuncData
 zbp:Addr
 zkO:FuncData
 zbq:Addr
 zkP:FuncData
 zbN:Addr
 zl7:FuncData
 zbr:Addr
 zkQ:FuncData
 zbs:Addr
 zkR:FuncData
 zbn:Addr
 zl8:FuncData
 zcK:Addr
 zl9:FuncData
 zbZ:Addr
 zma:FuncData
 zbc:Addr
 zmb:FuncData
 zcy:Addr
 znJ:FuncData
 zc7:Addr
 zqg:FuncData
 zcz:Addr
 znK:FuncData
 zbw:Addr
 ziy:FuncData
 zbx:Addr
 ziz:FuncData
 zby:Addr
 ziA:FuncData
 zbO:Addr
 zjJ:FuncData
 zbz:Addr
 ziB:FuncData
 zbA:Addr
 ziC:FuncData
 zaZ:Addr
 zgd:FuncData
 zcc:Addr
 zv4:FuncData
 za0:Addr
 zge:FuncData
 zaP:Addr
 zgf:FuncData
 zbd:Addr
 zhl:FuncData
 za1:Addr
 zgg:FuncData
 za2:Addr
 zgh:FuncData
 zbe:Addr
 zkS:FuncData
 zbD:Addr
 zgi:FuncData
 zbf:Addr
 zkT:FuncData
 zdP:Addr
 znL:FuncData
 zvT:Addr
 zES:FuncData
structure Txt (K:W.Frag) (mg:Str→Option Value) (A:Adr):Prop where
 zh1:Fun K "_law_stream" "_law_stream" zks A.zba A.zkF
 zfd:mg "_law_stream"=some (.ref A.zba)
 zjK:Fun K "_law_names" "_law_names" zeV A.zb7 A.zl2
 zeR:mg "_law_names"=some (.ref A.zb7)
 zkU:Fun K "_law_office" "_law_office" zkt A.zcA A.zkG
 zfe:mg "_law_office"=some (.ref A.zcA)
 zqh:Fun K "is_name" "is_name" zmD A.zdU A.zqa
 zmr:mg "is_name"=some (.ref A.zdU)
 zeA:Fun K "checked_names" "checked_names" zg3 A.zaX A.zhd
 zdr:mg "checked_names"=some (.ref A.zaX)
 zgP:Fun K "is_among" "is_among" znh A.zbG A.znA
 zeS:mg "is_among"=some (.ref A.zbG)
 zgz:Fun K "bringing_by" "bringing_by" zjh A.zbk A.zju
 zet:mg "bringing_by"=some (.ref A.zbk)
 zhm:Fun K "checked_pairs" "checked_pairs" zg4 A.zbb A.zhe
 zeu:mg "checked_pairs"=some (.ref A.zbb)
 zgj:Fun K "bits_of_rights" "bits_of_rights" zf2 A.zaY A.zf9
 zd6:mg "bits_of_rights"=some (.ref A.zaY)
 zek:Fun K "bringers_of_roles" "bringers_of_roles" zc3 A.zaK A.zei
 zc1:mg "bringers_of_roles"=some (.ref A.zaK)
 zkV:Fun K "__init__" "Office.__init__" zg5 A.zhf A.zhg
 zgA:Fun K "_law_cell_at" "_law_cell_at" zji A.zaW A.zjv
 zdI:mg "_law_cell_at"=some (.ref A.zaW)
 znM:Fun K "_law_term" "_law_term" zni A.zb6 A.znB
 ziQ:mg "_law_term"=some (.ref A.zb6)
 znN:Fun K "_law_rule" "_law_rule" zlb A.zcv A.znC
 zng:mg "_law_rule"=some (.ref A.zcv)
 zmJ:Fun K "__init__" "Last.__init__" zjj A.zjw A.zjx
 zmK:Fun K "__init__" "Give.__init__" zjk A.zjy A.zjz
 zmL:Fun K "__init__" "Take.__init__" zjl A.zjA A.zjB
 zoK:Fun K "__init__" "Lay.__init__" zku A.zkH A.zkI
 zmM:Fun K "__init__" "Both.__init__" zjm A.zjC A.zjD
 zmN:Fun K "__init__" "Most.__init__" zjn A.zjE A.zjF
 zh2:Fun K "__init__" "Condition.__init__" zew A.zdj A.zez
 zdB:Fun K "_law_condition" "_law_condition" zg6 A.zaQ A.zhh
 zcS:mg "_law_condition"=some (.ref A.zaQ)
 znO:Fun K "_law_made" "_law_made" zgO A.zbW A.znD
 zdO:mg "_law_made"=some (.ref A.zbW)
 znP:Fun K "_law_deed" "_law_deed" znj A.zbR A.znE
 zdb:mg "_law_deed"=some (.ref A.zbR)
 zfm:Fun K "must_be_folk" "Office.must_be_folk" zdx A.zas A.zdz
 zfn:Fun K "must_be_role" "Office.must_be_role" zdy A.zan A.zdA
 zoL:Fun K "bit" "Office.bit" zkv A.zcd A.zkJ
 znQ:Fun K "is_whole" "is_whole" znk A.zdc A.znF
 zla:mg "is_whole"=some (.ref A.zdc)
 zmO:Fun K "bits" "Office.bits" zjo A.zb1 A.zjG
 ziW:Fun K "is_state" "Office.is_state" zeW A.za3 A.zeZ
 zeK:Fun K "must_be_state" "Office.must_be_state" zde A.zap A.zdf
 ziX:Fun K "bringing" "Office.bringing" zeX A.za4 A.ze0
 zkW:Fun K "having" "Office.having" zg7 A.zbt A.zhi
 zoM:Fun K "has" "Office.has" zkw A.zaU A.zkK
 zr4:Fun K "row" "Both.row" znl A.zbS A.znG
 zlC:Fun K "missing" "Both.missing" zij A.zaT A.zis
 zqi:Fun K "holds" "Has.holds" zlV A.zck A.zl3
 zqj:Fun K "holds" "Not.holds" zlW A.zcl A.zl4
 zuX:Fun K "row" "Has.row" zpZ A.zbu A.zqb
 zuY:Fun K "row" "Not.row" zp0 A.zbv A.zqc
 zdC:Fun K "first_missing" "first_missing" zg9 A.zaB A.zhj
 zcm:mg "first_missing"=some (.ref A.zaB)
 zc9:Fun K "parts_of_terms" "parts_of_terms" zd9 A.zax A.zga
 zcw:mg "parts_of_terms"=some (.ref A.zax)
 zoN:Fun K "asked" "Give.asked" zkx A.zce A.zkL
 zlD:Fun K "missing" "Give.missing" zik A.zbh A.zit
 zj3:Fun K "holders" "Office.holders" zea A.zaN A.zgb
 zr5:Fun K "row" "Last.row" zno A.zbT A.znH
 zlE:Fun K "missing" "Last.missing" ze9 A.za5 A.ziu
 zqk:Fun K "asked" "Lay.asked" zlX A.zcI A.zl5
 zmP:Fun K "missing" "Lay.missing" zjq A.zbC A.zjH
 zr6:Fun K "row" "Most.row" znp A.zbU A.znI
 zlF:Fun K "missing" "Most.missing" zfa A.za6 A.ziv
 zoO:Fun K "asked" "Take.asked" zky A.zcf A.zkM
 zlG:Fun K "missing" "Take.missing" zil A.zbi A.ziw
 ziD:Fun K "_law_bringing" "_law_bringing" zdV A.zbK A.zix
 ze8:mg "_law_bringing"=some (.ref A.zbK)
 zmQ:Fun K "_law_bit" "_law_bit" zp3 A.zcT A.zqd
 zkp:mg "_law_bit"=some (.ref A.zcT)
 zjL:Fun K "_law_holds" "_law_holds" zlY A.zbF A.zl6
 zgZ:mg "_law_holds"=some (.ref A.zbF)
 ziY:Fun K "_law_has" "_law_has" zmG A.zcn A.zqe
 zg0:mg "_law_has"=some (.ref A.zcn)
 zc5:Fun K "_law_terms_missing" "_law_terms_missing" zeh A.zaF A.zej
 zbY:mg "_law_terms_missing"=some (.ref A.zaF)
 zdD:Fun K "_law_terms_row" "_law_terms_row" zey A.zaR A.zhk
 zco:mg "_law_terms_row"=some (.ref A.zaR)
 zkX:Fun K "_law_row" "_law_row" zmH A.zbM A.zqf
 zdu:mg "_law_row"=some (.ref A.zbM)
 zjM:Fun K "_law_missing" "_law_missing" zgy A.zcb A.zjI
 zev:mg "_law_missing"=some (.ref A.zcb)
 zoP:Fun K "names" "Both.names" zkz A.zbo A.zkN
 zda:Fun K "names_of_terms" "names_of_terms" zeb A.zay A.zgc
 zcx:mg "names_of_terms"=some (.ref A.zay)
 zoQ:Fun K "names" "Give.names" zkA A.zbp A.zkO
 zoR:Fun K "names" "Last.names" zkB A.zbq A.zkP
 zql:Fun K "names" "Lay.names" zlZ A.zbN A.zl7
 zoS:Fun K "names" "Most.names" zkC A.zbr A.zkQ
 zoT:Fun K "names" "Take.names" zkD A.zbs A.zkR
 zjN:Fun K "_law_named" "_law_named" zeY A.zbn A.zl8
 zcJ:mg "_law_named"=some (.ref A.zbn)
 zmc:Fun K "_law_class" "_law_class" zl0 A.zcK A.zl9
 zjg:mg "_law_class"=some (.ref A.zcK)
 zjO:Fun K "_law_truth" "_law_truth" zl1 A.zbZ A.zma
 zg2:mg "_law_truth"=some (.ref A.zbZ)
 zhn:Fun K "terms_row" "terms_row" zjr A.zbc A.zmb
 zef:mg "terms_row"=some (.ref A.zbc)
 zr7:Fun K "row" "Give.row" znr A.zcy A.znJ
 zuZ:Fun K "row" "Lay.row" zp4 A.zc7 A.zqg
 zr8:Fun K "row" "Take.row" zns A.zcz A.znK
 zlH:Fun K "permits" "Both.permits" zim A.zbw A.ziy
 zlI:Fun K "permits" "Give.permits" zin A.zbx A.ziz
 zlJ:Fun K "permits" "Last.permits" zio A.zby A.ziA
 zmR:Fun K "permits" "Lay.permits" zjs A.zbO A.zjJ
 zlK:Fun K "permits" "Most.permits" ziq A.zbz A.ziB
 zlL:Fun K "permits" "Take.permits" zir A.zbA A.ziC
 zj4:Fun K "speaks_of" "Both.speaks_of" zf4 A.zaZ A.zgd
 zkY:Fun K "is_of" "is_of" zv3 A.zcc A.zv4
 zii:mg "is_of"=some (.ref A.zcc)
 zj5:Fun K "speaks_of" "Give.speaks_of" zf5 A.za0 A.zge
 zj6:Fun K "speaks_of" "Last.speaks_of" zf6 A.zaP A.zgf
 zkZ:Fun K "speaks_of" "Lay.speaks_of" zhc A.zbd A.zhl
 zj7:Fun K "speaks_of" "Most.speaks_of" zf7 A.za1 A.zgg
 zj8:Fun K "speaks_of" "Take.speaks_of" zf8 A.za2 A.zgh
 zk0:Fun K "_law_speaks" "_law_speaks" zkE A.zbe A.zkS
 zcB:mg "_law_speaks"=some (.ref A.zbe)
 zgk:Fun K "_law_told_right" "_law_told_right" zec A.zbD A.zgi
 zc8:mg "_law_told_right"=some (.ref A.zbD)
 zk1:Fun K "_law_fields" "_law_fields" zfl A.zbf A.zkT
 zcC:mg "_law_fields"=some (.ref A.zbf)
 znR:Fun K "_law_step" "_law_step" zlc A.zdP A.znL
 ziV:mg "_law_step"=some (.ref A.zdP)
 zJQ:Fun K "law" "law" zCk A.zvT A.zES
 zCi:mg "law"=some (.ref A.zvT)
 zAd:mg "Both"=some (.ref A.zcD)
 zAe:mg "Give"=some (.ref A.zcp)
 zAf:mg "Has"=some (.ref A.zny)
 zAg:mg "Last"=some (.ref A.zcM)
 zC5:mg "Lay"=some (.ref A.zen)
 zAh:mg "Most"=some (.ref A.zcE)
 zHE:mg "Not"=some (.ref A.znz)
 zAi:mg "Office"=some (.ref A.zbE)
 zAj:mg "Take"=some (.ref A.zcq)
 zET:mg "Rule"=some (.ref A.zmI)
 zho:Cls K A.zcD
 zHF:Mk K A.zcD A.zjC
 zgl:Cls K A.zcp
 zHG:Mk K A.zcp A.zjy
 zr9:Cls K A.zny
 zEU:Mk K A.zny A.zdj
 ziE:Cls K A.zcM
 zHH:Mk K A.zcM A.zjw
 zk2:Cls K A.zen
 zJR:Mk K A.zen A.zkH
 zhp:Cls K A.zcE
 zHI:Mk K A.zcE A.zjE
 zsa:Cls K A.znz
 zJS:Mk K A.znz A.zdj
 zbg:Cls K A.zbE
 zCl:Mk K A.zbE A.zhf
 zgm:Cls K A.zcq
 zHJ:Mk K A.zcq A.zjA
 zhq:NoAttr K A.zcD "one"
 zeB:NoAttr K A.zcD "other"
 zfo:NoAttr K A.zcp "role"
 ziZ:NoAttr K A.zcp "by"
 zeC:NoAttr K A.zcp "terms"
 zhr:NoAttr K A.zny "role"
 zfp:NoAttr K A.zcM "role"
 zhs:NoAttr K A.zen "role"
 zfq:NoAttr K A.zen "terms"
 zfr:NoAttr K A.zcE "most"
 zfs:NoAttr K A.zcE "role"
 zht:NoAttr K A.znz "role"
 zdW:NoAttr K A.zbE "folk"
 zdE:NoAttr K A.zbE "roles"
 zdF:NoAttr K A.zbE "pairs"
 zb9:NoAttr K A.zbE "right_bits"
 zcF:NoAttr K A.zbE "bringers"
 zft:NoAttr K A.zcq "role"
 zi0:NoAttr K A.zcq "by"
 zeD:NoAttr K A.zcq "terms"
 zqm:Meth K A.zcD "missing" A.zaT
 zgB:Meth K A.zcD "names" A.zbo
 zqn:Meth K A.zcD "permits" A.zbw
 zqo:Meth K A.zcD "row" A.zbS
 znS:Meth K A.zcD "speaks_of" A.zaZ
 zsU:Meth K A.zcp "asked" A.zce
 zqp:Meth K A.zcp "missing" A.zbh
 zgC:Meth K A.zcp "names" A.zbp
 zqq:Meth K A.zcp "permits" A.zbx
 zv5:Meth K A.zcp "row" A.zcy
 znT:Meth K A.zcp "speaks_of" A.za0
 zu0:Meth K A.zny "holds" A.zck
 zld:Meth K A.zny "row" A.zbu
 zqr:Meth K A.zcM "missing" A.za5
 zgD:Meth K A.zcM "names" A.zbq
 zqs:Meth K A.zcM "permits" A.zby
 zqt:Meth K A.zcM "row" A.zbT
 znU:Meth K A.zcM "speaks_of" A.zaP
 zu1:Meth K A.zen "asked" A.zcI
 zro:Meth K A.zen "missing" A.zbC
 zh3:Meth K A.zen "names" A.zbN
 zrp:Meth K A.zen "permits" A.zbO
 zym:Meth K A.zen "row" A.zc7
 zpd:Meth K A.zen "speaks_of" A.zbd
 zqu:Meth K A.zcE "missing" A.za6
 zgE:Meth K A.zcE "names" A.zbr
 zqv:Meth K A.zcE "permits" A.zbz
 zqw:Meth K A.zcE "row" A.zbU
 znV:Meth K A.zcE "speaks_of" A.za1
 zu2:Meth K A.znz "holds" A.zcl
 zle:Meth K A.znz "row" A.zbv
 zsV:Meth K A.zbE "bit" A.zcd
 zrq:Meth K A.zbE "bits" A.zb1
 zmS:Meth K A.zbE "bringing" A.za4
 zgF:Meth K A.zbE "has" A.zaU
 zpe:Meth K A.zbE "having" A.zbt
 zi1:Meth K A.zbE "holders" A.zaN
 zmT:Meth K A.zbE "is_state" A.za3
 zeL:Meth K A.zbE "must_be_folk" A.zas
 zdg:Meth K A.zbE "must_be_role" A.zan
 zeE:Meth K A.zbE "must_be_state" A.zap
 zsW:Meth K A.zcq "asked" A.zcf
 zqx:Meth K A.zcq "missing" A.zbi
 zgG:Meth K A.zcq "names" A.zbs
 zqy:Meth K A.zcq "permits" A.zbA
 zv6:Meth K A.zcq "row" A.zcz
 znW:Meth K A.zcq "speaks_of" A.za2
 ziF:KInst K A.zcD
 ziG:KInst K A.zcp
 ziH:KInst K A.zcM
 zlM:KInst K A.zen
 ziI:KInst K A.zcE
 ziJ:KInst K A.zcq
 zfu:W.kitOne K (.ref A.zcD) (.ref A.zcD)=some true
 zfv:W.kitOne K (.ref A.zcD) (.ref A.zcp)=some false
 zhu:W.kitOne K (.ref A.zcD) (.ref A.zny)=some false
 zfw:W.kitOne K (.ref A.zcD) (.ref A.zcM)=some false
 zhv:W.kitOne K (.ref A.zcD) (.ref A.zen)=some false
 zfx:W.kitOne K (.ref A.zcD) (.ref A.zcE)=some false
 zhw:W.kitOne K (.ref A.zcD) (.ref A.znz)=some false
 zdX:W.kitOne K (.ref A.zcD) (.ref A.zbE)=some false
 zfy:W.kitOne K (.ref A.zcD) (.ref A.zcq)=some false
 zfz:W.kitOne K (.ref A.zcD) (.ref A.zmI)=some true
 zfA:W.kitOne K (.ref A.zcp) (.ref A.zcD)=some false
 zfB:W.kitOne K (.ref A.zcp) (.ref A.zcp)=some true
 zhx:W.kitOne K (.ref A.zcp) (.ref A.zny)=some false
 zfC:W.kitOne K (.ref A.zcp) (.ref A.zcM)=some false
 zhy:W.kitOne K (.ref A.zcp) (.ref A.zen)=some false
 zfD:W.kitOne K (.ref A.zcp) (.ref A.zcE)=some false
 zhz:W.kitOne K (.ref A.zcp) (.ref A.znz)=some false
 zdY:W.kitOne K (.ref A.zcp) (.ref A.zbE)=some false
 zfE:W.kitOne K (.ref A.zcp) (.ref A.zcq)=some false
 zfF:W.kitOne K (.ref A.zcp) (.ref A.zmI)=some true
 zfG:W.kitOne K (.ref A.zcM) (.ref A.zcD)=some false
 zfH:W.kitOne K (.ref A.zcM) (.ref A.zcp)=some false
 zhA:W.kitOne K (.ref A.zcM) (.ref A.zny)=some false
 zfI:W.kitOne K (.ref A.zcM) (.ref A.zcM)=some true
 zhB:W.kitOne K (.ref A.zcM) (.ref A.zen)=some false
 zfJ:W.kitOne K (.ref A.zcM) (.ref A.zcE)=some false
 zhC:W.kitOne K (.ref A.zcM) (.ref A.znz)=some false
 zdZ:W.kitOne K (.ref A.zcM) (.ref A.zbE)=some false
 zfK:W.kitOne K (.ref A.zcM) (.ref A.zcq)=some false
 zfL:W.kitOne K (.ref A.zcM) (.ref A.zmI)=some true
 zhD:W.kitOne K (.ref A.zen) (.ref A.zcD)=some false
 zhE:W.kitOne K (.ref A.zen) (.ref A.zcp)=some false
 zi2:W.kitOne K (.ref A.zen) (.ref A.zny)=some false
 zhF:W.kitOne K (.ref A.zen) (.ref A.zcM)=some false
 zi3:W.kitOne K (.ref A.zen) (.ref A.zen)=some true
 zhG:W.kitOne K (.ref A.zen) (.ref A.zcE)=some false
 zi4:W.kitOne K (.ref A.zen) (.ref A.znz)=some false
 zeF:W.kitOne K (.ref A.zen) (.ref A.zbE)=some false
 zhH:W.kitOne K (.ref A.zen) (.ref A.zcq)=some false
 zhI:W.kitOne K (.ref A.zen) (.ref A.zmI)=some true
 zfM:W.kitOne K (.ref A.zcE) (.ref A.zcD)=some false
 zfN:W.kitOne K (.ref A.zcE) (.ref A.zcp)=some false
 zhJ:W.kitOne K (.ref A.zcE) (.ref A.zny)=some false
 zfO:W.kitOne K (.ref A.zcE) (.ref A.zcM)=some false
 zhK:W.kitOne K (.ref A.zcE) (.ref A.zen)=some false
 zfP:W.kitOne K (.ref A.zcE) (.ref A.zcE)=some true
 zhL:W.kitOne K (.ref A.zcE) (.ref A.znz)=some false
 zd0:W.kitOne K (.ref A.zcE) (.ref A.zbE)=some false
 zfQ:W.kitOne K (.ref A.zcE) (.ref A.zcq)=some false
 zfR:W.kitOne K (.ref A.zcE) (.ref A.zmI)=some true
 zfS:W.kitOne K (.ref A.zcq) (.ref A.zcD)=some false
 zfT:W.kitOne K (.ref A.zcq) (.ref A.zcp)=some false
 zhM:W.kitOne K (.ref A.zcq) (.ref A.zny)=some false
 zfU:W.kitOne K (.ref A.zcq) (.ref A.zcM)=some false
 zhN:W.kitOne K (.ref A.zcq) (.ref A.zen)=some false
 zfV:W.kitOne K (.ref A.zcq) (.ref A.zcE)=some false
 zhO:W.kitOne K (.ref A.zcq) (.ref A.znz)=some false
 zd1:W.kitOne K (.ref A.zcq) (.ref A.zbE)=some false
 zfW:W.kitOne K (.ref A.zcq) (.ref A.zcq)=some true
 zfX:W.kitOne K (.ref A.zcq) (.ref A.zmI)=some true
 zAk:mg "all"=none
 zsb:mg "bool"=none
 zv7:mg "int"=none
 zaL:mg "isinstance"=none
 zeo:mg "len"=none
 zlN:mg "list"=none
 zAl:mg "max"=none
 zAm:mg "min"=none
 ze1:mg "range"=none
 zsX:mg "str"=none
 ze2:mg "tuple"=none
 zAn:GC mg "LETTERS" (V.str "abcdefghijklmnopqrstuvwxyz")
 zrr:GC mg "LONGEST_NAME" (V.int 6)
 zv8:GC mg "MOST_BITS" (V.int 12)
 zv9:GC mg "MOST_FOLK" (V.int 4)
 zu3:GC mg "MOST_PAIRS" (V.int 15)
 zu4:GC mg "MOST_ROLES" (V.int 6)
def bk (K:W.Frag) (A:Adr):Bk:=⟨K,fun c=>match c with | 0=>A.zcD | 1=>A.zcp | 2=>A.zny | 3=>A.zcM | 4=>A.zen | 5=>A.zcE | 6=>A.znz | 7=>A.zbE | 8=>A.zcq | 9=>A.zmI | _=>0⟩
section
variable {K:W.Frag} {mg:Str→Option Value} {A:Adr}
theorem zoU (T:Txt K mg A):Binds K A.zkF zJN []:=T.zh1.b2
theorem zqz (T:Txt K mg A):Binds K A.zl2 zHz []:=T.zjK.b2
theorem zu5 (T:Txt K mg A):Binds K A.zkG ["_law_cell"] []:=T.zkU.b1
theorem zAo (T:Txt K mg A):Binds K A.zqa ["thing"] []:=T.zqh.b1
theorem zk3 (T:Txt K mg A):Binds K A.zhd ["names","most"] []:=T.zeA.b2
theorem zlf (T:Txt K mg A):Binds K A.znA zIy []:=T.zgP.b2
theorem zmU (T:Txt K mg A):Binds K A.zju ["pairs","role"] []:=T.zgz.b2
theorem zqA (T:Txt K mg A):Binds K A.zhe ["pairs","roles"] []:=T.zhm.b2
theorem zpf (T:Txt K mg A):Binds K A.zf9 ["folk","roles"] []:=T.zgj.b2
theorem zmd (T:Txt K mg A):Binds K A.zei ["roles","pairs"] []:=T.zek.b2
theorem zqB (T:Txt K mg A):Binds K A.zhg zIp []:=T.zkV.b4
theorem zmV (T:Txt K mg A):Binds K A.zjv zIs []:=T.zgA.b2
theorem zyn (T:Txt K mg A):Binds K A.znB zIq []:=T.znM.b2
theorem zyo (T:Txt K mg A):Binds K A.znC zJL []:=T.znN.b2
theorem zsY (T:Txt K mg A):Binds K A.zjx zyG []:=T.zmJ.b2
theorem zsZ (T:Txt K mg A):Binds K A.zjz zC4 []:=T.zmK.b4
theorem zs0 (T:Txt K mg A):Binds K A.zjB zC4 []:=T.zmL.b4
theorem zu6 (T:Txt K mg A):Binds K A.zkI zIt []:=T.zoK.b3
theorem zs1 (T:Txt K mg A):Binds K A.zjD zIv []:=T.zmM.b3
theorem zs2 (T:Txt K mg A):Binds K A.zjF zIw []:=T.zmN.b3
theorem zdk (T:Txt K mg A):Binds K A.zez zyG []:=T.zh2.b2
theorem zhP (T:Txt K mg A):Binds K A.zhh nL9 []:=T.zdB.b1
theorem zyp (T:Txt K mg A):Binds K A.znD nL4 []:=T.znO.b1
theorem zyq (T:Txt K mg A):Binds K A.znE zJF []:=T.znP.b3
theorem zfY (T:Txt K mg A):Binds K A.zdz nL7 []:=T.zfm.b2
theorem zdG (T:Txt K mg A):Binds K A.zdA nL7 []:=T.zfn.b2
theorem zu7 (T:Txt K mg A):Binds K A.zkJ zER []:=T.zoL.b3
theorem zyr (T:Txt K mg A):Binds K A.znF ["thing"] []:=T.znQ.b1
theorem zs3 (T:Txt K mg A):Binds K A.zjG nL1 []:=T.zmO.b1
theorem znX (T:Txt K mg A):Binds K A.zeZ nL7 []:=T.ziW.b2
theorem zeM (T:Txt K mg A):Binds K A.zdf nL7 []:=T.zeK.b2
theorem znY (T:Txt K mg A):Binds K A.ze0 zyG []:=T.ziX.b2
theorem zqC (T:Txt K mg A):Binds K A.zhi zER []:=T.zkW.b3
theorem zh4 (T:Txt K mg A):Binds K A.zkK zIr []:=T.zoM.b4
theorem zsc (T:Txt K mg A):Binds K A.znG nL1 []:=T.zr4.b1
theorem zrs (T:Txt K mg A):Binds K A.zis nL0 []:=T.zlC.b4
theorem zwa (T:Txt K mg A):Binds K A.zl3 nL8 []:=T.zqi.b4
theorem zwb (T:Txt K mg A):Binds K A.zl4 nL8 []:=T.zqj.b4
theorem zmW (T:Txt K mg A):Binds K A.zqb nL1 []:=T.zuX.b1
theorem zmX (T:Txt K mg A):Binds K A.zqc nL1 []:=T.zuY.b1
theorem zhQ (T:Txt K mg A):Binds K A.zhj zJM []:=T.zdC.b3
theorem zgn (T:Txt K mg A):Binds K A.zga zHD []:=T.zc9.b2
theorem zu8 (T:Txt K mg A):Binds K A.zkL nL2 []:=T.zoN.b2
theorem zrt (T:Txt K mg A):Binds K A.zit nL0 []:=T.zlD.b4
theorem zj9 (T:Txt K mg A):Binds K A.zgb zHB []:=T.zj3.b3
theorem zsd (T:Txt K mg A):Binds K A.znH nL1 []:=T.zr5.b1
theorem zru (T:Txt K mg A):Binds K A.ziu nL0 []:=T.zlE.b4
theorem zwc (T:Txt K mg A):Binds K A.zl5 nL2 []:=T.zqk.b2
theorem zs4 (T:Txt K mg A):Binds K A.zjH nL0 []:=T.zmP.b4
theorem zse (T:Txt K mg A):Binds K A.znI nL1 []:=T.zr6.b1
theorem zrv (T:Txt K mg A):Binds K A.ziv nL0 []:=T.zlF.b4
theorem zu9 (T:Txt K mg A):Binds K A.zkM nL2 []:=T.zoO.b2
theorem zrw (T:Txt K mg A):Binds K A.ziw nL0 []:=T.zlG.b4
theorem zrx (T:Txt K mg A):Binds K A.zix zJO []:=T.ziD.b2
theorem zva (T:Txt K mg A):Binds K A.zqd zIn []:=T.zmQ.b3
theorem zqD (T:Txt K mg A):Binds K A.zl6 nL3 []:=T.zjL.b4
theorem zmY (T:Txt K mg A):Binds K A.zqe nL3 []:=T.ziY.b4
theorem zhR (T:Txt K mg A):Binds K A.zej zJE []:=T.zc5.b4
theorem zhS (T:Txt K mg A):Binds K A.zhk zHA []:=T.zdD.b2
theorem zqE (T:Txt K mg A):Binds K A.zqf nL4 []:=T.zkX.b1
theorem zs5 (T:Txt K mg A):Binds K A.zjI zJC []:=T.zjM.b4
theorem zh5 (T:Txt K mg A):Binds K A.zkN nL1 []:=T.zoP.b1
theorem zgo (T:Txt K mg A):Binds K A.zgc ["terms"] []:=T.zda.b1
theorem zh6 (T:Txt K mg A):Binds K A.zkO nL1 []:=T.zoQ.b1
theorem zh7 (T:Txt K mg A):Binds K A.zkP nL1 []:=T.zoR.b1
theorem zjP (T:Txt K mg A):Binds K A.zl7 nL1 []:=T.zql.b1
theorem zh8 (T:Txt K mg A):Binds K A.zkQ nL1 []:=T.zoS.b1
theorem zh9 (T:Txt K mg A):Binds K A.zkR nL1 []:=T.zoT.b1
theorem zqF (T:Txt K mg A):Binds K A.zl8 nL4 []:=T.zjN.b1
theorem zwd (T:Txt K mg A):Binds K A.zl9 ["_law_one"] []:=T.zmc.b1
theorem zqG (T:Txt K mg A):Binds K A.zma zIu []:=T.zjO.b2
theorem zme (T:Txt K mg A):Binds K A.zmb zHC []:=T.zhn.b2
theorem zys (T:Txt K mg A):Binds K A.znJ nL1 []:=T.zr7.b1
theorem zAp (T:Txt K mg A):Binds K A.zqg nL1 []:=T.zuZ.b1
theorem zyt (T:Txt K mg A):Binds K A.znK nL1 []:=T.zr8.b1
theorem zry (T:Txt K mg A):Binds K A.ziy nL1 []:=T.zlH.b1
theorem zrz (T:Txt K mg A):Binds K A.ziz nL1 []:=T.zlI.b1
theorem zrA (T:Txt K mg A):Binds K A.ziA nL1 []:=T.zlJ.b1
theorem zs6 (T:Txt K mg A):Binds K A.zjJ nL1 []:=T.zmR.b1
theorem zrB (T:Txt K mg A):Binds K A.ziB nL1 []:=T.zlK.b1
theorem zrC (T:Txt K mg A):Binds K A.ziC nL1 []:=T.zlL.b1
theorem zpg (T:Txt K mg A):Binds K A.zgd nL2 []:=T.zj4.b2
theorem znZ (T:Txt K mg A):Binds K A.zv4 zIx []:=T.zkY.b3
theorem zph (T:Txt K mg A):Binds K A.zge nL2 []:=T.zj5.b2
theorem zpi (T:Txt K mg A):Binds K A.zgf nL2 []:=T.zj6.b2
theorem zqH (T:Txt K mg A):Binds K A.zhl nL2 []:=T.zkZ.b2
theorem zpj (T:Txt K mg A):Binds K A.zgg nL2 []:=T.zj7.b2
theorem zpk (T:Txt K mg A):Binds K A.zgh nL2 []:=T.zj8.b2
theorem zvb (T:Txt K mg A):Binds K A.zkS zIo []:=T.zk0.b2
theorem zpl (T:Txt K mg A):Binds K A.zgi zJI []:=T.zgk.b3
theorem zvc (T:Txt K mg A):Binds K A.zkT zJK []:=T.zk1.b2
theorem zyu (T:Txt K mg A):Binds K A.znL zJG []:=T.znR.b3
theorem zoV (T:Txt K mg A):∀ c∈[7],Cls (bk K A).K ((bk K A).cl c)∧NoAttr (bk K A).K ((bk K A).cl c) "bringers":=by
 intro c h
 simp only [List.mem_cons,List.not_mem_nil,or_false] at h
 subst h
 exact ⟨T.zbg,T.zcF⟩
theorem zmZ (T:Txt K mg A):∀ c∈[1,8],Cls (bk K A).K ((bk K A).cl c)∧NoAttr (bk K A).K ((bk K A).cl c) "by":=by
 intro c h
 simp only [List.mem_cons,List.not_mem_nil,or_false] at h
 rcases h with rfl | rfl
 ·exact ⟨T.zgl,T.ziZ⟩
 ·exact ⟨T.zgm,T.zi0⟩
theorem zm0 (T:Txt K mg A):∀ c∈[7],Cls (bk K A).K ((bk K A).cl c)∧NoAttr (bk K A).K ((bk K A).cl c) "folk":=by
 intro c h
 simp only [List.mem_cons,List.not_mem_nil,or_false] at h
 subst h
 exact ⟨T.zbg,T.zdW⟩
theorem zpv (T:Txt K mg A):∀ c∈[5],Cls (bk K A).K ((bk K A).cl c)∧NoAttr (bk K A).K ((bk K A).cl c) "most":=by
 intro c h
 simp only [List.mem_cons,List.not_mem_nil,or_false] at h
 subst h
 exact ⟨T.zhp,T.zfr⟩
theorem zqI (T:Txt K mg A):∀ c∈[0],Cls (bk K A).K ((bk K A).cl c)∧NoAttr (bk K A).K ((bk K A).cl c) "one":=by
 intro c h
 simp only [List.mem_cons,List.not_mem_nil,or_false] at h
 subst h
 exact ⟨T.zho,T.zhq⟩
theorem zk4 (T:Txt K mg A):∀ c∈[0],Cls (bk K A).K ((bk K A).cl c)∧NoAttr (bk K A).K ((bk K A).cl c) "other":=by
 intro c h
 simp only [List.mem_cons,List.not_mem_nil,or_false] at h
 subst h
 exact ⟨T.zho,T.zeB⟩
theorem zvd (T:Txt K mg A):∀ c∈[7],Cls (bk K A).K ((bk K A).cl c)∧NoAttr (bk K A).K ((bk K A).cl c) "pairs":=by
 intro c h
 simp only [List.mem_cons,List.not_mem_nil,or_false] at h
 subst h
 exact ⟨T.zbg,T.zdF⟩
theorem zd2 (T:Txt K mg A):∀ c∈[7],Cls (bk K A).K ((bk K A).cl c)∧NoAttr (bk K A).K ((bk K A).cl c) "right_bits":=by
 intro c h
 simp only [List.mem_cons,List.not_mem_nil,or_false] at h
 subst h
 exact ⟨T.zbg,T.zb9⟩
theorem zaO (T:Txt K mg A):∀ c∈[1,2,3,4,5,6,8],Cls (bk K A).K ((bk K A).cl c)∧NoAttr (bk K A).K ((bk K A).cl c) "role":=by
 intro c h
 simp only [List.mem_cons,List.not_mem_nil,or_false] at h
 rcases h with rfl | rfl | rfl | rfl | rfl | rfl | rfl
 ·exact ⟨T.zgl,T.zfo⟩
 ·exact ⟨T.zr9,T.zhr⟩
 ·exact ⟨T.ziE,T.zfp⟩
 ·exact ⟨T.zk2,T.zhs⟩
 ·exact ⟨T.zhp,T.zfs⟩
 ·exact ⟨T.zsa,T.zht⟩
 ·exact ⟨T.zgm,T.zft⟩
theorem zi5 (T:Txt K mg A):∀ c∈[7],Cls (bk K A).K ((bk K A).cl c)∧NoAttr (bk K A).K ((bk K A).cl c) "roles":=by
 intro c h
 simp only [List.mem_cons,List.not_mem_nil,or_false] at h
 subst h
 exact ⟨T.zbg,T.zdE⟩
theorem zca (T:Txt K mg A):∀ c∈[1,4,8],Cls (bk K A).K ((bk K A).cl c)∧NoAttr (bk K A).K ((bk K A).cl c) "terms":=by
 intro c h
 simp only [List.mem_cons,List.not_mem_nil,or_false] at h
 rcases h with rfl | rfl | rfl
 ·exact ⟨T.zgl,T.zeC⟩
 ·exact ⟨T.zk2,T.zfq⟩
 ·exact ⟨T.zgm,T.zeD⟩
theorem tab1 {a b:Bool} {p:Prop} {f:Option Bool} (h:some a=some b) (q:p∧f=some a):p∧f=some b:=by cases h; exact q
theorem zgt (T:Txt K mg A):∀ c C b,tab c C=some b→KInst (bk K A).K ((bk K A).cl c)∧W.kitOne (bk K A).K (.ref ((bk K A).cl c)) (.ref ((bk K A).cl C))=some b:=by
 intro c C b h
 rcases c with _|_|_|_|_|_|_|_|_|c
 ·rcases C with _|_|_|_|_|_|_|_|_|_|C
  ·exact tab1 h ⟨T.ziF,T.zfu⟩
  ·exact tab1 h ⟨T.ziF,T.zfv⟩
  ·exact tab1 h ⟨T.ziF,T.zhu⟩
  ·exact tab1 h ⟨T.ziF,T.zfw⟩
  ·exact tab1 h ⟨T.ziF,T.zhv⟩
  ·exact tab1 h ⟨T.ziF,T.zfx⟩
  ·exact tab1 h ⟨T.ziF,T.zhw⟩
  ·exact tab1 h ⟨T.ziF,T.zdX⟩
  ·exact tab1 h ⟨T.ziF,T.zfy⟩
  ·exact tab1 h ⟨T.ziF,T.zfz⟩
  ·cases h
 ·rcases C with _|_|_|_|_|_|_|_|_|_|C
  ·exact tab1 h ⟨T.ziG,T.zfA⟩
  ·exact tab1 h ⟨T.ziG,T.zfB⟩
  ·exact tab1 h ⟨T.ziG,T.zhx⟩
  ·exact tab1 h ⟨T.ziG,T.zfC⟩
  ·exact tab1 h ⟨T.ziG,T.zhy⟩
  ·exact tab1 h ⟨T.ziG,T.zfD⟩
  ·exact tab1 h ⟨T.ziG,T.zhz⟩
  ·exact tab1 h ⟨T.ziG,T.zdY⟩
  ·exact tab1 h ⟨T.ziG,T.zfE⟩
  ·exact tab1 h ⟨T.ziG,T.zfF⟩
  ·cases h
 ·cases h
 ·rcases C with _|_|_|_|_|_|_|_|_|_|C
  ·exact tab1 h ⟨T.ziH,T.zfG⟩
  ·exact tab1 h ⟨T.ziH,T.zfH⟩
  ·exact tab1 h ⟨T.ziH,T.zhA⟩
  ·exact tab1 h ⟨T.ziH,T.zfI⟩
  ·exact tab1 h ⟨T.ziH,T.zhB⟩
  ·exact tab1 h ⟨T.ziH,T.zfJ⟩
  ·exact tab1 h ⟨T.ziH,T.zhC⟩
  ·exact tab1 h ⟨T.ziH,T.zdZ⟩
  ·exact tab1 h ⟨T.ziH,T.zfK⟩
  ·exact tab1 h ⟨T.ziH,T.zfL⟩
  ·cases h
 ·rcases C with _|_|_|_|_|_|_|_|_|_|C
  ·exact tab1 h ⟨T.zlM,T.zhD⟩
  ·exact tab1 h ⟨T.zlM,T.zhE⟩
  ·exact tab1 h ⟨T.zlM,T.zi2⟩
  ·exact tab1 h ⟨T.zlM,T.zhF⟩
  ·exact tab1 h ⟨T.zlM,T.zi3⟩
  ·exact tab1 h ⟨T.zlM,T.zhG⟩
  ·exact tab1 h ⟨T.zlM,T.zi4⟩
  ·exact tab1 h ⟨T.zlM,T.zeF⟩
  ·exact tab1 h ⟨T.zlM,T.zhH⟩
  ·exact tab1 h ⟨T.zlM,T.zhI⟩
  ·cases h
 ·rcases C with _|_|_|_|_|_|_|_|_|_|C
  ·exact tab1 h ⟨T.ziI,T.zfM⟩
  ·exact tab1 h ⟨T.ziI,T.zfN⟩
  ·exact tab1 h ⟨T.ziI,T.zhJ⟩
  ·exact tab1 h ⟨T.ziI,T.zfO⟩
  ·exact tab1 h ⟨T.ziI,T.zhK⟩
  ·exact tab1 h ⟨T.ziI,T.zfP⟩
  ·exact tab1 h ⟨T.ziI,T.zhL⟩
  ·exact tab1 h ⟨T.ziI,T.zd0⟩
  ·exact tab1 h ⟨T.ziI,T.zfQ⟩
  ·exact tab1 h ⟨T.ziI,T.zfR⟩
  ·cases h
 ·cases h
 ·cases h
 ·rcases C with _|_|_|_|_|_|_|_|_|_|C
  ·exact tab1 h ⟨T.ziJ,T.zfS⟩
  ·exact tab1 h ⟨T.ziJ,T.zfT⟩
  ·exact tab1 h ⟨T.ziJ,T.zhM⟩
  ·exact tab1 h ⟨T.ziJ,T.zfU⟩
  ·exact tab1 h ⟨T.ziJ,T.zhN⟩
  ·exact tab1 h ⟨T.ziJ,T.zfV⟩
  ·exact tab1 h ⟨T.ziJ,T.zhO⟩
  ·exact tab1 h ⟨T.ziJ,T.zd1⟩
  ·exact tab1 h ⟨T.ziJ,T.zfW⟩
  ·exact tab1 h ⟨T.ziJ,T.zfX⟩
  ·cases h
 ·cases h
end
section
variable {P:Program} {w:World} {K:W.Frag} {mg:Str→Option Value} {base:Heap} {A:Adr}
theorem zm1 (T : Txt K mg A) : FnOk P w K mg base CX0 1 A.zba A.zkF zJN (SpF (bk K A) 2 zba) :=
  T.zh1.okJ zc2 rfl fun jx =>
   (zag (zaJ 2 (L' := []) (fun _ => zc2.nd) (fun _ => (Or.inl rfl)) (zcR zae))
   (zag (zaJ 3 (L' := [0]) (fun _ => zc2.nd) (fun _ => (Or.inl rfl)) (JD.asE (zgx (fun _ => zeq) zgR (zab 0) zai)))
   (zag (zaJ 4 (L' := [3]) (fun _ => zc2.nd) (fun _ => (Or.inl rfl)) (JD.asE (zgx (fun _ => zcr) zcs (zab 3) zai)))
   (zag (zmp jx (zlR jx T.ze1 (zaa (zab 1) zae aN)) (zau 5 (fun _ => zc2.nd) (fun _ => (Or.inl rfl)))
    (show JB _ _ _ zb0 from (zag (zaJ 4 (L' := [4, 5]) (fun _ => zc2.nd) (fun _ => (Or.inl rfl)) (JD.asE (zgx (fun _ => zcr) zcs (JE.asD (zbl jx (JE.asD (zbl jx (JE.asD (zbl jx (JE.asD (zsF (zab 4) (zab 4))) (JE.asD (zsF zai (zab 4))))) (JE.asD (zsF zai (zab 5))))) zai)) zai)))
     (zag (zuI jx 2 (L' := [0, 3, 4]) (zaV jx (JE.asD (zcR (zaa (zab 4) (zaa (zgx (fun _ => zcr) zcs (zab 3) zai) zae aB) aN))) (JE.asD (zcO jx zHn T.zv7 PyProof.Rows.Boot.«int» (zaa (zo8 (zdT (zep jx) (zgx (fun _ => zcr) zcs (zab 0) zai) zai (zao _)) (zo7 (zdT zHj (zab 3) zai (zao _)))) zae aO) aO))) aS)
     (zah (zaJ 3 (L' := [3]) (fun _ => zc2.nd) (fun _ => (Or.inl rfl)) (JD.asE (zgx (fun _ => zeq) zgR (zab 3) zai))))))))
   (zah (zpM 2))))))
theorem zoW (T : Txt K mg A) : FnOk P w K mg base CX0 1 A.zb7 A.zl2 zHz (SpF (bk K A) 2 zb7) :=
  T.zjK.okJ zfk rfl fun jx =>
   (zag (zaJ 2 (L' := []) (fun _ => zfk.nd) (fun _ => (Or.inr rfl)) (zcR (zaa zaq (zaa zaq (zaa zaq (zaa zaq (zaa zaq (zaa zaq (zaa zaq (zaa zaq (zaa zaq (zaa zaq (zaa zaq (zaa zaq (zaa zaq zae aC) aC) aC) aC) aC) aC) aC) aC) aC) aC) aC) aC) aC)))
   (zag (zbm (zaz (zep jx) (zgx (fun _ => zcr) zcs (zab 0) zai) zai (zao _))
    (zah (zam (zdq jx (NX := nL5) (SX := zaf zeV) (N := ["_law_k", "_law_number", "_law_words"]) (own := 1) (fi := [0, 2]) ⟨rfl, by decide +kernel, by decide +kernel, by decide +kernel, rfl, by decide +kernel⟩ (JI.asC (zlR jx T.ze1 (zaa (zab 1) zae aN))) (zau 0 (fun _ => (show (["_law_k", "_law_number", "_law_words"] : List Str).Nodup by decide +kernel)) (fun _ => Or.inl rfl)) zc0 (zaV (JX.comp jx _ _) (zab 2) (zgx (fun _ => zcr) zcs (JE.asD (zbl (JX.comp jx _ _) (zgx (fun _ => zeq) zgR (zab 1) zai) (JE.asD (zsF zai (zab 0))))) zai)))))
    zaG)
   (zag (zaJ 3 (L' := []) (fun _ => zfk.nd) (fun _ => (Or.inr rfl)) (JD.asE zaq))
   (zag (zaJ 4 (L' := [0, 3]) (fun _ => zfk.nd) (fun _ => (Or.inr rfl)) (zFx jx (zsH jx) zaq (zaa (JE.asD (zdq jx (NX := nL5) (SX := zaf zeV) (N := ["_law_k", "_law_number", "_law_letters"]) (own := 1) (fi := [0, 3]) ⟨rfl, by decide +kernel, by decide +kernel, by decide +kernel, rfl, by decide +kernel⟩ (JI.asC (zlR jx T.ze1 (zaa (zgx (fun _ => zcr) zcs (zgx (fun _ => zeq) zgR (zab 0) zai) zai) zae aB))) (zau 0 (fun _ => (show (["_law_k", "_law_number", "_law_letters"] : List Str).Nodup by decide +kernel)) (fun _ => Or.inl rfl)) zc0 (zaV (JX.comp jx _ _) (zab 2) (zgx (fun _ => zcr) zcs (zgx (fun _ => zeq) zgR (zab 1) (JE.asD (zbl (JX.comp jx _ _) (JE.asD (zsF zai (zab 0))) zai))) zai)))) zae aM) aM))
   (zag (zaJ 5 (L' := [0, 4]) (fun _ => zfk.nd) (fun _ => (Or.inr rfl)) (JD.asE (zgx (fun _ => zcr) zcs (zgx (fun _ => zeq) zgR (zab 0) zai) (JE.asD (zbl jx (JE.asD (zaM jx (zfc jx) T.zeo PyProof.Rows.Boot.«len» (zaa (zab 4) zae aN) aN)) zai)))))
   (zah (zam (zdq jx (NX := nL5) (SX := zaf zeV) (N := zKS) (own := 1) (fi := [0, 3, 4, 5]) ⟨rfl, by decide +kernel, by decide +kernel, by decide +kernel, rfl, by decide +kernel⟩ (JI.asC (zlR jx T.ze1 (zaa (zab 1) zae aN))) (zau 0 (fun _ => (show (zKS : List Str).Nodup by decide +kernel)) (fun _ => Or.inl rfl)) zc0 (JE.asD (zbl (JX.comp jx _ _) (JE.asD (zbl (JX.comp jx _ _) (JE.asD (zya (JX.comp jx _ _) (zab 3) zgU (zed (zab 4)))) (zaV (JX.comp jx _ _) (zab 2) (zgx (fun _ => zcr) zcs (JE.asD (zbl (JX.comp jx _ _) (zgx (fun _ => zeq) zgR (zab 1) zai) (JE.asD (zsF zai (zab 0))))) zai)))) (JE.asD (zya (JX.comp jx _ _) (zab 3) (zed (zab 4)) zgU))))))))))))
theorem zs7 (T : Txt K mg A) : FnOk P w K mg base CX0 2 A.zcA A.zkG ["_law_cell"] (SpF (bk K A) 1 zcA) :=
  T.zkU.okJ za8 rfl fun jx =>
   (zag (zaJ 1 (L' := [0]) (fun _ => za8.nd) (fun _ => (Or.inl rfl)) (zaA jx (zm1 T) (by decide) T.zfd T.zh1.kp (zoU T) zad (zaa (zab 0) (zaa zai zae aC) aN) aN))
   (zag (zaJ 2 (L' := []) (fun _ => za8.nd) (fun _ => (Or.inl rfl)) (zcR (zaa (zct (zaa zai (zaa zai zae aC) aC)) (zaa (zct (zaa zai (zaa zai zae aC) aC)) (zaa (zct (zaa zai (zaa zai zae aC) aC)) (zaa (zct (zaa zai (zaa zai zae aC) aC)) (zaa (zct (zaa zai (zaa zai zae aC) aC)) (zaa (zct (zaa zai (zaa zai zae aC) aC)) (zaa (zct (zaa zai (zaa zai zae aC) aC)) (zaa (zct (zaa zai (zaa zai zae aC) aC)) (zaa (zct (zaa zai (zaa zai zae aC) aC)) (zaa (zct (zaa zai (zaa zai zae aC) aC)) (zaa (zct (zaa zai (zaa zai zae aC) aC)) (zaa (zct (zaa zai (zaa zai zae aC) aC)) zae aT) aT) aT) aT) aT) aT) aT) aT) aT) aT) aT) aT)))
   (zag (zCY (L' := [1, 2]) (JD.asE (zaV jx (zab 2) (zgx (fun _ => zcr) zcs (zaV jx (zab 1) zai) zai))) (zlq jx (zb4 (zau 3 (fun _ => za8.nd) (fun _ => (Or.inl rfl))) (zb4 (zau 4 (fun _ => za8.nd) (fun _ => (Or.inl rfl))) zid))))
   (zag (zbm (zaz (zep jx) (zgx (fun _ => zcr) zcs (zaV jx (zab 1) zai) zai) zai (zao _))
    (zah (zCY (L' := [1]) (JD.asE (zaV jx (JE.asD (zcR (zaa (zct (zaa zai (zaa zai zae aC) aC)) (zaa (zct (zaa zai (zaa zai zae aC) aC)) (zaa (zct (zaa zai (zaa zai zae aC) aC)) (zaa (zct (zaa zai (zaa zai zae aC) aC)) zae aT) aT) aT) aT))) (zgx (fun _ => zcr) zcs (zgx (fun _ => zeq) zgR (zaV jx (zab 1) zai) zai) zai))) (zlq jx (zb4 (zau 3 (fun _ => za8.nd) (fun _ => (Or.inl rfl))) (zb4 (zau 4 (fun _ => za8.nd) (fun _ => (Or.inl rfl))) zid)))))
    zaG)
   (zag (zaJ 5 (L' := [1, 4]) (fun _ => za8.nd) (fun _ => (Or.inl rfl)) (zaA jx (zoW T) (by decide) T.zeR T.zjK.kp (zqz T) zad (zaa (zaV jx (zab 1) zai) (zaa (zab 4) zae aN) aS) aS))
   (zag (zaJ 6 (L' := [5]) (fun _ => za8.nd) (fun _ => (Or.inl rfl)) (zbl jx (JE.asD (zya jx (zab 5) (zed (zgx (fun _ => zcr) zcs (zaV jx (zab 1) zai) (zab 4))) zgU)) (JE.asD (zya jx (zab 5) zgU (zed (zgx (fun _ => zcr) zcs (zaV jx (zab 1) zai) (zab 4)))))))
   (zag (zbm (zaz (zep jx) (zgx (fun _ => zcr) zcs (zaV jx (zab 1) zai) zai) zai (zao _))
    (zah (zHp jx 6))
    zaG)
   (zag (zaJ 7 (L' := [1]) (fun _ => za8.nd) (fun _ => (Or.inl rfl)) (JD.asE (zaV jx (zab 1) zai)))
   (zag (zaJ 8 (L' := []) (fun _ => za8.nd) (fun _ => (Or.inl rfl)) (zcR zae))
   (zag (zmp jx (zlR jx T.ze1 (zaa (zab 4) zae aN)) (zau 9 (fun _ => za8.nd) (fun _ => (Or.inl rfl)))
    (show JB _ _ _ zcH from (zah (zmp jx (zz2 jx T.ze1 (zaa (JE.asD (zbl jx (zab 9) zai)) (zaa (zab 4) zae aN) aB)) (zau 10 (fun _ => za8.nd) (fun _ => (Or.inl rfl)))
      (show JB _ _ _ zcG from (zag (zbm (zaz (zep jx) (zgx (fun _ => zcr) zcs (zab 7) zai) zai (zao _))
        (zah (zuI jx 8 (L' := [6, 9, 10]) (zct (zaa (zaV jx (zab 6) (zab 9)) (zaa (zaV jx (zab 6) (zab 10)) zae aS) aS)) aT))
        zaG)
       (zah (zaJ 7 (L' := [7]) (fun _ => za8.nd) (fun _ => (Or.inl rfl)) (JD.asE (zgx (fun _ => zeq) zgR (zab 7) zai))))))))))
   (zah (zam (JD.asE (zct (zaa (JE.asD (zaA jx (zoW T) (by decide) T.zeR T.zjK.kp (zqz T) zad (zaa (zaV jx (zab 1) zai) (zaa (zab 3) zae aN) aS) aS)) (zaa (zab 5) (zaa (zab 8) zae aN) aN) aL)))))))))))))))
theorem zyv (T : Txt K mg A) : FnOk P w K mg base CX0 1 A.zdU A.zqa ["thing"] (SpF (bk K A) 1 zdU) :=
  T.zqh.okJ zyf rfl fun jx =>
   (zag (zbm (zgT (zdQ (JE.asD (zaM jx (zln jx (zgt T)) T.zaL PyProof.Rows.Boot.«isinstance» (zaa (zab 0) (zaa (zCb jx T.zsX PyProof.Rows.Boot.«str») zae aN) aN) aN))))
    (zah (zam (JD.asE zuF)))
    zaG)
   (zag (zbm (JW.t (zsG (zaz zIl (JE.asD (zaM jx (zfc jx) T.zeo PyProof.Rows.Boot.«len» (zaa (zab 0) zae aN) aN)) zai (zao _)) (zoo (zaz zHj (JE.asD (zaM jx (zfc jx) T.zeo PyProof.Rows.Boot.«len» (zaa (zab 0) zae aN) aN)) (zzZ jx T.zrr) (zao _)))))
    (zah (zam (JD.asE zuF)))
    zaG)
   (zah (zam (zaM jx (zJw jx) T.zAk PyProof.Rows.Boot.«all» (zaa (JE.asD (zdq jx (NX := ["thing"]) (SX := zaf zmD) (N := ["sign"]) (own := 1) (fi := []) ⟨rfl, by decide +kernel, by decide +kernel, by decide +kernel, rfl, by decide +kernel⟩ (zdi jx (zab 0)) (zau 0 (fun _ => (show (["sign"] : List Str).Nodup by decide +kernel)) (fun _ => Or.inl rfl)) zc0 (zdT (zyF (JX.comp jx _ _)) (zab 0) (zJr (JX.comp jx _ _) T.zAn) rfl))) zae aM) aM)))))
theorem zka (T : Txt K mg A) : FnOk P w K mg base CX0 2 A.zaX A.zhd ["names", "most"] (SpF (bk K A) 2 zaX) :=
  T.zeA.okJ zf1 rfl fun jx =>
   (zag (zbm (JW.t (zsG (zaz zIl (JE.asD (zaM jx (zfc jx) T.zeo PyProof.Rows.Boot.«len» (zaa (zab 0) zae aN) aN)) zai (zao _)) (zoo (zaz zHj (JE.asD (zaM jx (zfc jx) T.zeo PyProof.Rows.Boot.«len» (zaa (zab 0) zae aN) aN)) (zab 1) (zao _)))))
    (zah zd5)
    zaG)
   (zag (zaJ 2 (L' := []) (fun _ => zf1.nd) (fun _ => (Or.inl rfl)) (zcR zae))
   (zag (zkh jx 0 (zau 3 (fun _ => zf1.nd) (fun _ => (Or.inl rfl)))
    (show JB _ _ _ zcg from (zag (zbm (zgT (zdQ (JE.asD (zaA jx (zyv T) (by decide) T.zmr T.zqh.kp (zAo T) zad (zaa (zab 3) zae aN) aN))))
      (zah zd5)
      zaG)
     (zag (zbm (zaz (zyF jx) (zab 3) (zab 2) rfl)
      (zah zd5)
      zaG)
     (zah (zuI jx 2 (L' := [3]) (zab 3) aN))))))
   (zah (zam (zcO jx (zlQ jx) T.ze2 PyProof.Rows.Boot.«tuple» (zaa (zab 2) zae aN) aN))))))
theorem zjQ (T:Txt K mg A):FnOk P w K mg base CX0 1 A.zbG A.znA zIy (SpF (bk K A) 2 zbG):=
 T.zgP.okJ zvU rfl fun jx=>
  (zah (zam (JD.asE (zo8 (JE.asD (zaM jx (zln jx (zgt T)) T.zaL PyProof.Rows.Boot.«isinstance» (zaa (zab 0) (zaa (zCb jx T.zsX PyProof.Rows.Boot.«str») zae aN) aN) aN)) (zo7 (zdT (zyF jx) (zab 0) (zab 1) rfl))))))
theorem zlO (T : Txt K mg A) : FnOk P w K mg base CX0 1 A.zbk A.zju ["pairs", "role"] (SpF (bk K A) 2 zbk) :=
  T.zgz.okJ zdd rfl fun jx =>
   (zag (zaJ 2 (L' := [1]) (fun _ => zdd.nd) (fun _ => (Or.inl rfl)) (zcR (zaa (zab 1) zae aN)))
   (zag (zaJ 3 (L' := []) (fun _ => zdd.nd) (fun _ => (Or.inl rfl)) (JD.asE zai))
   (zag (zCd jx (zaz zIl (zab 3) (JE.asD (zaM jx (zfc jx) T.zeo PyProof.Rows.Boot.«len» (zaa (zab 2) zae aN) aN)) (zao _))
    (show JB _ _ _ zcj from (zag (zkh jx 0 (zlq jx (zb4 (zau 4 (fun _ => zdd.nd) (fun _ => (Or.inl rfl))) (zb4 (zau 5 (fun _ => zdd.nd) (fun _ => (Or.inl rfl))) zid)))
      (show JB _ _ _ zb2 from (zah (zbm (JW.t (zop (zaz (zep jx) (zab 5) (zaV jx (zab 2) (zab 3)) (zao _)) (zkf (zaz (zz0 jx) (zab 4) (zab 2) rfl))))
        (zah (zuI jx 2 (L' := [4]) (zab 4) aN))
        zaG))))
     (zah (zaJ 3 (L' := [3]) (fun _ => zdd.nd) (fun _ => (Or.inl rfl)) (zbl jx (zab 3) zai))))))
   (zah (zpM 2)))))
theorem zpm (T : Txt K mg A) : FnOk P w K mg base CX0 2 A.zbb A.zhe ["pairs", "roles"] (SpF (bk K A) 2 zbb) :=
  T.zhm.okJ zd7 rfl fun jx =>
   (zag (zbm (zaz zHj (JE.asD (zaM jx (zfc jx) T.zeo PyProof.Rows.Boot.«len» (zaa (zab 0) zae aN) aN)) (zzZ jx T.zu3) (zao _))
    (zah zd5)
    zaG)
   (zag (zaJ 2 (L' := []) (fun _ => zd7.nd) (fun _ => (Or.inl rfl)) (zcR zae))
   (zag (zkh jx 0 (zlq jx (zb4 (zau 3 (fun _ => zd7.nd) (fun _ => (Or.inl rfl))) (zb4 (zau 4 (fun _ => zd7.nd) (fun _ => (Or.inl rfl))) zid)))
    (show JB _ _ _ zch from (zag (zbm (zgT (zdQ (JE.asD (zaA jx (zjQ T) (by decide) T.zeS T.zgP.kp (zlf T) zad (zaa (zab 3) (zaa (zab 1) zae aN) aN) aN))))
      (zah zd5)
      zaG)
     (zag (zbm (zgT (zdQ (JE.asD (zaA jx (zjQ T) (by decide) T.zeS T.zgP.kp (zlf T) zad (zaa (zab 4) (zaa (zab 1) zae aN) aN) aN))))
      (zah zd5)
      zaG)
     (zag (zbm (zaz (zyF jx) (zct (zaa (zab 3) (zaa (zab 4) zae aN) aN)) (zab 2) rfl)
      (zah zd5)
      zaG)
     (zag (zbm (zaz (zyF jx) (zab 4) (JE.asD (zaA jx (zlO T) (by decide) T.zet T.zgz.kp (zmU T) zad (zaa (zab 2) (zaa (zab 3) zae aN) aN) aN)) rfl)
      (zah zd5)
      zaG)
     (zah (zuI jx 2 (L' := [3, 4]) (zct (zaa (zab 3) (zaa (zab 4) zae aN) aN)) aT))))))))
   (zah (zam (zcO jx (zlQ jx) T.ze2 PyProof.Rows.Boot.«tuple» (zaa (zab 2) zae aN) aN))))))
theorem zn0 (T : Txt K mg A) : FnOk P w K mg base CX0 1 A.zaY A.zf9 ["folk", "roles"] (SpF (bk K A) 2 zaY) :=
  T.zgj.okJ zci rfl fun jx =>
   (zag (zaJ 2 (L' := []) (fun _ => zci.nd) (fun _ => (Or.inl rfl)) zHm)
   (zag (zaJ 3 (L' := []) (fun _ => zci.nd) (fun _ => (Or.inl rfl)) (JD.asE zai))
   (zag (zkh jx 0 (zau 4 (fun _ => zci.nd) (fun _ => (Or.inl rfl)))
    (show JB _ _ _ zbL from (zah (zkh jx 1 (zau 5 (fun _ => zci.nd) (fun _ => (Or.inl rfl)))
      (show JB _ _ _ zb5 from (zag (zCZ jx 2 (L' := [3]) (zct (zaa (zab 4) (zaa (zab 5) zae aN) aN)) (zab 3))
       (zah (zaJ 3 (L' := [3]) (fun _ => zci.nd) (fun _ => (Or.inl rfl)) (zbl jx (zab 3) (zab 3))))))))))
   (zah (zpM 2)))))
theorem zlo (T : Txt K mg A) : FnOk P w K mg base CX0 2 A.zaK A.zei ["roles", "pairs"] (SpF (bk K A) 2 zaK) :=
  T.zek.okJ zcP rfl fun jx =>
   (zag (zaJ 2 (L' := []) (fun _ => zcP.nd) (fun _ => (Or.inl rfl)) zHl)
   (zag (zkh jx 0 (zau 3 (fun _ => zcP.nd) (fun _ => (Or.inl rfl)))
    (show JB _ _ _ zbH from (zag (zaJ 4 (L' := [1, 3]) (fun _ => zcP.nd) (fun _ => (Or.inr rfl)) (zaA jx (zlO T) (by decide) T.zet T.zgz.kp (zmU T) zad (zaa (zab 1) (zaa (zab 3) zae aN) aN) aN))
     (zah (zCZ jx 2 (L' := [0, 4]) (zab 3) (JE.asD (zcO jx (zlQ jx) T.ze2 PyProof.Rows.Boot.«tuple» (zaa (JE.asD (zdq jx (NX := zKW) (SX := zaf zc3) (N := ["upper", "found"]) (own := 1) (fi := [4]) ⟨rfl, by decide +kernel, by decide +kernel, by decide +kernel, rfl, by decide +kernel⟩ (zdi jx (zab 0)) (zau 0 (fun _ => (show (["upper", "found"] : List Str).Nodup by decide +kernel)) (fun _ => Or.inl rfl)) (zjc (zaz (zyF (JX.comp jx _ _)) (zab 0) (zab 1) rfl)) (zab 0))) zae aM) aM)))))))
   (zah (zpM 2))))
theorem zpn (T : Txt K mg A) : FnOk P w K mg base CX0 3 A.zhf A.zhg zIp (SpI (bk K A) 4 zds) :=
  T.zkV.okIJ zo9 rfl fun jx =>
   (zag (zer jx 0 (L' := [1]) (zm0 T) (JE.asD (zaA jx (zka T) (by decide) T.zdr T.zeA.kp (zk3 T) zad (zaa (zab 1) (zaa (zzZ jx T.zv9) zae aN) aN) aN)))
   (zag (zer jx 0 (L' := [2]) (zi5 T) (JE.asD (zaA jx (zka T) (by decide) T.zdr T.zeA.kp (zk3 T) zad (zaa (zab 2) (zaa (zzZ jx T.zu4) zae aN) aN) aN)))
   (zag (zbm (zaz zHj (JE.asD (zsF (JE.asD (zaM jx (zfc jx) T.zeo PyProof.Rows.Boot.«len» (zaa (zav jx 0 (zm0 T) (zab 0)) zae aA) aA)) (JE.asD (zaM jx (zfc jx) T.zeo PyProof.Rows.Boot.«len» (zaa (zav jx 0 (zi5 T) (zab 0)) zae aA) aA)))) (zzZ jx T.zv8) (zao _))
    (zah zd5)
    zaG)
   (zag (zer jx 0 (L' := [3]) (zvd T) (JE.asD (zaA jx (zpm T) (by decide) T.zeu T.zhm.kp (zqA T) zad (zaa (zab 3) (zaa (zav jx 0 (zi5 T) (zab 0)) zae aA) aN) aN)))
   (zag (zer jx 0 (L' := []) (zd2 T) (JE.asD (zaA jx (zn0 T) (by decide) T.zd6 T.zgj.kp (zpf T) zad (zaa (zav jx 0 (zm0 T) (zab 0)) (zaa (zav jx 0 (zi5 T) (zab 0)) zae aA) aA) aA)))
   (zah (zer jx 0 (L' := []) (zoV T) (JE.asD (zaA jx (zlo T) (by decide) T.zc1 T.zek.kp (zmd T) zad (zaa (zav jx 0 (zi5 T) (zab 0)) (zaa (zav jx 0 (zvd T) (zab 0)) zae aA) aA) aA)))))))))
theorem zlP (T : Txt K mg A) : FnOk P w K mg base CX0 1 A.zaW A.zjv zIs (SpF (bk K A) 2 zaW) :=
  T.zgA.okJ zrf rfl fun jx =>
   (zag (zbm (zaz zIl (zab 1) (JE.asD (zaM jx (zfc jx) T.zeo PyProof.Rows.Boot.«len» (zaa (zab 0) zae aN) aN)) (zao _))
    (zah (zam (JD.asE (zaV jx (zab 0) (zab 1)))))
    zaG)
   (zah (zam (JD.asE zai))))
theorem zwe (T:Txt K mg A):FnOk P w K mg base CX0 1 A.zb6 A.znB zIq (SpF (bk K A) 2 zb6):=
 T.znM.okJ zvV rfl fun jx=>
  (zah (zam (JD.asE (zct (zaa (zaV jx (JE.asD (zcR (zaa zaq (zaa zaq zae aC) aC))) (zgx (fun _=>zcr) zcs (zab 0) zai)) (zaa (zaV jx (zab 1) (zgx (fun _=>zcr) zcs (zgx (fun _=>zeq) zgR (zab 0) zai) (JE.asD (zaM jx (zfc jx) T.zeo PyProof.Rows.Boot.«len» (zaa (zab 1) zae aN) aN)))) zae aS) aS)))))
theorem zwf (T : Txt K mg A) : FnOk P w K mg base CX0 2 A.zcv A.znC zJL (SpF (bk K A) 2 zcv) :=
  T.znN.okJ zeg rfl fun jx =>
   (zag (zaJ 2 (L' := [1]) (fun _ => zeg.nd) (fun _ => (Or.inr rfl)) (JD.asE (zaV jx (zab 1) zai)))
   (zag (zaJ 3 (L' := [0, 2]) (fun _ => zeg.nd) (fun _ => (Or.inl rfl)) (JD.asE (zaV jx (zab 2) (zgx (fun _ => zcr) zcs (zaV jx (zab 0) zai) (JE.asD (zaM jx (zfc jx) T.zeo PyProof.Rows.Boot.«len» (zaa (zab 2) zae aN) aN))))))
   (zag (zaJ 4 (L' := [0, 2]) (fun _ => zeg.nd) (fun _ => (Or.inl rfl)) (JD.asE (zaV jx (zab 2) (zgx (fun _ => zcr) zcs (zaV jx (zab 0) zai) (JE.asD (zaM jx (zfc jx) T.zeo PyProof.Rows.Boot.«len» (zaa (zab 2) zae aN) aN))))))
   (zag (ziN jx 5 (L' := [0, 2]) (fun _ => zeg.nd) (NX := zKP) (SX := zaf zlb) (N := zKX) (own := 1) (fi := [0, 2]) ⟨rfl, by decide +kernel, by decide +kernel, by decide +kernel, rfl, by decide +kernel⟩ (JI.asC (zlR jx T.ze1 (zaa (zaV jx (JE.asD (zcR (zaa zai (zaa zai (zaa zai (zaa zai zae aC) aC) aC) aC))) (zgx (fun _ => zcr) zcs (zaV jx (zab 0) zai) zai)) zae aS))) (zau 0 (fun _ => (show (zKX : List Str).Nodup by decide +kernel)) (fun _ => Or.inl rfl)) zc0 (JE.asD (zaA (JX.comp jx _ _) (zwe T) (by decide) T.ziQ T.znM.kp (zyn T) zad (zaa (zaV (JX.comp jx _ _) (zab 1) (JE.asD (zbl (JX.comp jx _ _) zai (zab 0)))) (zaa (zab 2) zae aN) aS) aS)))
   (zag (zaJ 6 (L' := [0]) (fun _ => zeg.nd) (fun _ => (Or.inl rfl)) (JD.asE (zaV jx (JE.asD (zcR (zaa zaq (zaa zaq (zaa zaq (zaa zaq (zaa zaq (zaa zaq (zaa zaq (zaa zaq zae aC) aC) aC) aC) aC) aC) aC) aC))) (zgx (fun _ => zcr) zcs (zaV jx (zab 0) zai) zai))))
   (zag (zbm (JW.t (zop (zaz (zep jx) (zab 6) zaq (zao _)) (zkf (zaz (zep jx) (zab 3) (zab 4) (zao _)))))
    (zah (zaJ 6 (L' := []) (fun _ => zeg.nd) (fun _ => (Or.inl rfl)) (JD.asE zaq)))
    zaG)
   (zag (zbm (zaz (zep jx) (zab 6) zaq (zao _))
    (zah (zam (JD.asE (zct (zaa (zab 6) (zaa (zab 3) (zaa (zab 5) zae aN) aN) aN)))))
    zaG)
   (zag (zbm (zaz (zep jx) (zab 6) zaq (zao _))
    (zah (zam (JD.asE (zct (zaa (zab 6) (zaa (zab 3) (zaa (zab 4) zae aN) aN) aN)))))
    zaG)
   (zag (zbm (zaz (zep jx) (zab 6) zaq (zao _))
    (zah (zam (JD.asE (zct (zaa (zab 6) (zaa (JE.asD (zbl jx zai (zgx (fun _ => zcr) zcs (zaV jx (zab 0) zai) zai))) (zaa (zab 3) zae aN) aB) aN)))))
    zaG)
   (zag (zbm (zaz (zep jx) (zab 6) zaq (zao _))
    (zah (zam (JD.asE (zct (zaa (zab 6) (zaa (zab 3) zae aN) aN)))))
    zaG)
   (zah (zam (JD.asE (zct (zaa (zab 6) (zaa (zab 3) (zaa (zab 4) (zaa (zab 5) zae aN) aN) aN) aN)))))))))))))))
theorem zrD (T:Txt K mg A):FnOk P w K mg base CX0 1 A.zjw A.zjx zyG (SpI (bk K A) 2 zdJ):=
 T.zmJ.okIJ zrg rfl fun jx=>
  (zah (zer jx 0 (L':=[1]) (zaO T) (zab 1)))
theorem zrE (T : Txt K mg A) : FnOk P w K mg base CX0 1 A.zjy A.zjz zC4 (SpI (bk K A) 4 zdK) :=
  T.zmK.okIJ zrh rfl fun jx =>
   (zag (zer jx 0 (L' := [1]) (zaO T) (zab 1))
   (zag (zer jx 0 (L' := [2]) (zmZ T) (zab 2))
   (zah (zer jx 0 (L' := [3]) (zca T) (JE.asD (zcO jx (zlQ jx) T.ze2 PyProof.Rows.Boot.«tuple» (zaa (zab 3) zae aN) aN))))))
theorem zrF (T : Txt K mg A) : FnOk P w K mg base CX0 1 A.zjA A.zjB zC4 (SpI (bk K A) 4 zdL) :=
  T.zmL.okIJ zri rfl fun jx =>
   (zag (zer jx 0 (L' := [1]) (zaO T) (zab 1))
   (zag (zer jx 0 (L' := [2]) (zmZ T) (zab 2))
   (zah (zer jx 0 (L' := [3]) (zca T) (JE.asD (zcO jx (zlQ jx) T.ze2 PyProof.Rows.Boot.«tuple» (zaa (zab 3) zae aN) aN))))))
theorem zs8 (T : Txt K mg A) : FnOk P w K mg base CX0 1 A.zkH A.zkI zIt (SpI (bk K A) 3 zem) :=
  T.zoK.okIJ zsJ rfl fun jx =>
   (zag (zer jx 0 (L' := [1]) (zaO T) (zab 1))
   (zah (zer jx 0 (L' := [2]) (zca T) (JE.asD (zcO jx (zlQ jx) T.ze2 PyProof.Rows.Boot.«tuple» (zaa (zab 2) zae aN) aN)))))
theorem zrG (T : Txt K mg A) : FnOk P w K mg base CX0 1 A.zjC A.zjD zIv (SpI (bk K A) 3 zdM) :=
  T.zmM.okIJ zrj rfl fun jx =>
   (zag (zer jx 0 (L' := [1]) (zqI T) (zab 1))
   (zah (zer jx 0 (L' := [2]) (zk4 T) (zab 2))))
theorem zrH (T : Txt K mg A) : FnOk P w K mg base CX0 1 A.zjE A.zjF zIw (SpI (bk K A) 3 zdN) :=
  T.zmN.okIJ zrk rfl fun jx =>
   (zag (zer jx 0 (L' := [1]) (zpv T) (zab 1))
   (zah (zer jx 0 (L' := [2]) (zaO T) (zab 2))))
theorem zc6 (T:Txt K mg A):FnOk P w K mg base CX0 1 A.zdj A.zez zyG (SpI (bk K A) 2 zaE):=
 T.zh2.okIJ zlU rfl fun jx=>
  (zah (zer jx 0 (L':=[1]) (zaO T) (zab 1)))
theorem zgp (T : Txt K mg A) : FnOk P w K mg base CX0 3 A.zaQ A.zhh nL9 (SpF (bk K A) 1 zaQ) :=
  T.zdB.okJ zpa rfl fun jx =>
   (zag (zbm (zaz (zep jx) (zaV jx (zab 0) zai) zaq (zao _))
    (zah (zam (zkg jx (cn := 2) T.zEU (zc6 T) (by decide) T.zAf (zdk T) rfl zdp (zaa (zaV jx (zab 0) zai) zae aS) aS)))
    zaG)
   (zah (zam (zkg jx (cn := 6) T.zJS (zc6 T) (by decide) T.zHE (zdk T) rfl zdp (zaa (zaV jx (zab 0) zai) zae aS) aS))))
theorem zwg (T : Txt K mg A) : FnOk P w K mg base CX0 4 A.zbW A.znD nL4 (SpF (bk K A) 1 zbW) :=
  T.znO.okJ zvW rfl fun jx =>
   (zag (zbm (zaz (zep jx) (zaV jx (zab 0) zai) zaq (zao _))
    (zah (zam (zkg jx (cn := 1) T.zHG (zrE T) (by decide) T.zAe (zsZ T) rfl zdp (zaa (zaV jx (zab 0) zai) (zaa (zaV jx (zab 0) zai) (zaa (JE.asD (zdq jx (NX := nL4) (SX := zaf zgO) (N := nL9) (own := 1) (fi := []) ⟨rfl, by decide +kernel, by decide +kernel, by decide +kernel, rfl, by decide +kernel⟩ (zdi jx (zaV jx (zab 0) zai)) (zau 0 (fun _ => (show (nL9 : List Str).Nodup by decide +kernel)) (fun _ => Or.inl rfl)) zc0 (JE.asD (zaA (JX.comp jx _ _) (zgp T) (by decide) T.zcS T.zdB.kp (zhP T) zad (zaa (zab 0) zae aN) aN)))) zae aM) aS) aS) aS)))
    zaG)
   (zag (zbm (zaz (zep jx) (zaV jx (zab 0) zai) zaq (zao _))
    (zah (zam (zkg jx (cn := 8) T.zHJ (zrF T) (by decide) T.zAj (zs0 T) rfl zdp (zaa (zaV jx (zab 0) zai) (zaa (zaV jx (zab 0) zai) (zaa (JE.asD (zcO jx (zlQ jx) T.ze2 PyProof.Rows.Boot.«tuple» (zaa (JE.asD (zdq jx (NX := nL4) (SX := zaf zgO) (N := nL9) (own := 1) (fi := []) ⟨rfl, by decide +kernel, by decide +kernel, by decide +kernel, rfl, by decide +kernel⟩ (zdi jx (zaV jx (zab 0) zai)) (zau 0 (fun _ => (show (nL9 : List Str).Nodup by decide +kernel)) (fun _ => Or.inl rfl)) zc0 (JE.asD (zaA (JX.comp jx _ _) (zgp T) (by decide) T.zcS T.zdB.kp (zhP T) zad (zaa (zab 0) zae aN) aN)))) zae aM) aM)) zae aL) aS) aS) aS)))
    zaG)
   (zag (zbm (zaz (zep jx) (zaV jx (zab 0) zai) zaq (zao _))
    (zah (zam (zkg jx (cn := 4) T.zJR (zs8 T) (by decide) T.zC5 (zu6 T) rfl zdp (zaa (zaV jx (zab 0) zai) (zaa (JE.asD (zdq jx (NX := nL4) (SX := zaf zgO) (N := nL9) (own := 1) (fi := []) ⟨rfl, by decide +kernel, by decide +kernel, by decide +kernel, rfl, by decide +kernel⟩ (zdi jx (zaV jx (zab 0) zai)) (zau 0 (fun _ => (show (nL9 : List Str).Nodup by decide +kernel)) (fun _ => Or.inl rfl)) zc0 (JE.asD (zaA (JX.comp jx _ _) (zgp T) (by decide) T.zcS T.zdB.kp (zhP T) zad (zaa (zab 0) zae aN) aN)))) zae aM) aS) aS)))
    zaG)
   (zag (zbm (zaz (zep jx) (zaV jx (zab 0) zai) zaq (zao _))
    (zah (zam (zkg jx (cn := 0) T.zHF (zrG T) (by decide) T.zAd (zs1 T) rfl zdp (zaa (zaV jx (zab 0) zai) (zaa (zaV jx (zab 0) zai) zae aS) aS) aS)))
    zaG)
   (zag (zbm (zaz (zep jx) (zaV jx (zab 0) zai) zaq (zao _))
    (zah (zam (zkg jx (cn := 5) T.zHI (zrH T) (by decide) T.zAh (zs2 T) rfl zdp (zaa (zaV jx (zab 0) zai) (zaa (zaV jx (zab 0) zai) zae aS) aS) aS)))
    zaG)
   (zah (zam (zkg jx (cn := 3) T.zHH (zrD T) (by decide) T.zAg (zsY T) rfl zdp (zaa (zaV jx (zab 0) zai) zae aS) aS))))))))
theorem zwh (T : Txt K mg A) : FnOk P w K mg base CX0 1 A.zbR A.znE zJF (SpF (bk K A) 3 zbR) :=
  T.znP.okJ zcL rfl fun jx =>
   (zag (zaJ 3 (L' := [0, 1]) (fun _ => zcL.nd) (fun _ => (Or.inl rfl)) (JD.asE (zaV jx (zaV jx (zab 1) zai) (zgx (fun _ => zcr) zcs (zaV jx (zab 0) zai) (JE.asD (zaM jx (zfc jx) T.zeo PyProof.Rows.Boot.«len» (zaa (zaV jx (zab 1) zai) zae aS) aS))))))
   (zag (zaJ 4 (L' := [0, 1]) (fun _ => zcL.nd) (fun _ => (Or.inl rfl)) (JD.asE (zaV jx (zaV jx (zab 1) zai) (zgx (fun _ => zcr) zcs (zaV jx (zab 0) zai) (JE.asD (zaM jx (zfc jx) T.zeo PyProof.Rows.Boot.«len» (zaa (zaV jx (zab 1) zai) zae aS) aS))))))
   (zag (zaJ 5 (L' := [0, 1]) (fun _ => zcL.nd) (fun _ => (Or.inl rfl)) (JD.asE (zaV jx (zaV jx (zab 1) zai) (zgx (fun _ => zcr) zcs (zaV jx (zab 0) zai) (JE.asD (zaM jx (zfc jx) T.zeo PyProof.Rows.Boot.«len» (zaa (zaV jx (zab 1) zai) zae aS) aS))))))
   (zag (zaJ 6 (L' := [2]) (fun _ => zcL.nd) (fun _ => (Or.inl rfl)) (JD.asE (zaV jx (zab 2) zai)))
   (zag (zbm (JW.t (zsG (zaz (zep jx) (zaV jx (zab 2) zai) zaq (zao _)) (zoo (zaz (zep jx) (zaV jx (zab 2) zai) zaq (zao _)))))
    (zah (zaJ 6 (L' := []) (fun _ => zcL.nd) (fun _ => (Or.inl rfl)) (JD.asE zaq)))
    zaG)
   (zag (zbm (zaz (zep jx) (zaV jx (zab 2) zai) zaq (zao _))
    (zah (zaJ 6 (L' := [0]) (fun _ => zcL.nd) (fun _ => (Or.inl rfl)) (JD.asE (zaV jx (JE.asD (zcR (zaa zaq (zaa zaq zae aC) aC))) (zgx (fun _ => zcr) zcs (zaV jx (zab 0) zai) zai)))))
    zaG)
   (zag (zbm (zaz (zep jx) (zaV jx (zab 2) zai) zaq (zao _))
    (zah (zaJ 5 (L' := [2]) (fun _ => zcL.nd) (fun _ => (Or.inl rfl)) (JD.asE (zaV jx (zab 2) zai))))
    (zah (zbm (zaz (zvM jx) (zaV jx (zab 2) zai) zaq (zao _))
      (zah (zaJ 5 (L' := [2]) (fun _ => zcL.nd) (fun _ => (Or.inl rfl)) (JD.asE (zaV jx (zab 2) zai))))
      zaG)))
   (zag (zbm (zaz (zep jx) (zab 6) zaq (zao _))
    (zah (zaJ 4 (L' := [3]) (fun _ => zcL.nd) (fun _ => (Or.inl rfl)) (JD.asE (zab 3))))
    zaG)
   (zah (zam (JD.asE (zct (zaa (zab 6) (zaa (zab 3) (zaa (zab 5) (zaa (zab 4) zae aN) aN) aN) aN)))))))))))))
theorem zeN (T : Txt K mg A) : FnOk P w K mg base CX0 2 A.zas A.zdz nL7 (SpF (bk K A) 2 zas) :=
  T.zfm.okJ zkb rfl fun jx =>
   (zah (zbm (zgT (zdQ (JE.asD (zaA jx (zjQ T) (by decide) T.zeS T.zgP.kp (zlf T) zad (zaa (zab 1) (zaa (zav jx 0 (zm0 T) (zab 0)) zae aA) aN) aN))))
    (zah zd5)
    zaG))
theorem zdh (T : Txt K mg A) : FnOk P w K mg base CX0 2 A.zan A.zdA nL7 (SpF (bk K A) 2 zan) :=
  T.zfn.okJ zkc rfl fun jx =>
   (zah (zbm (zgT (zdQ (JE.asD (zaA jx (zjQ T) (by decide) T.zeS T.zgP.kp (zlf T) zad (zaa (zab 1) (zaa (zav jx 0 (zi5 T) (zab 0)) zae aA) aN) aN))))
    (zah zd5)
    zaG))
theorem zs9 (T : Txt K mg A) : FnOk P w K mg base CX0 3 A.zcd A.zkJ zER (SpF (bk K A) 3 zcd) :=
  T.zoL.okJ zsK rfl fun jx =>
   (zag (zvN (zb3 jx (cn := 7) (zab 0) T.zbg T.zeL (zeN T) (by decide) (zfY T) rfl zad (zaa (zab 1) zae aN) aN))
   (zag (zvN (zb3 jx (cn := 7) (zab 0) T.zbg T.zdg (zdh T) (by decide) (zdG T) rfl zad (zaa (zab 2) zae aN) aN))
   (zah (zam (JD.asE (zCc jx (zav jx 0 (zd2 T) (zab 0)) (zct (zaa (zab 1) (zaa (zab 2) zae aN) aN))))))))
theorem zwi (T:Txt K mg A):FnOk P w K mg base CX0 1 A.zdc A.znF ["thing"] (SpF (bk K A) 1 zdc):=
 T.znQ.okJ zvX rfl fun jx=>
  (zah (zam (JD.asE (zo8 (JE.asD (zaM jx (zln jx (zgt T)) T.zaL PyProof.Rows.Boot.«isinstance» (zaa (zab 0) (zaa (zCb jx T.zv7 PyProof.Rows.Boot.«int») zae aN) aN) aN)) (zo7 (zHk (JE.asD (zaM jx (zln jx (zgt T)) T.zaL PyProof.Rows.Boot.«isinstance» (zaa (zab 0) (zaa (zCb jx T.zsb PyProof.Rows.Boot.«bool») zae aN) aN) aN))))))))
theorem zrI (T:Txt K mg A):FnOk P w K mg base CX0 1 A.zb1 A.zjG nL1 (SpF (bk K A) 1 zb1):=
 T.zmO.okJ zrl rfl fun jx=>
  (zah (zam (zaM jx (zfc jx) T.zeo PyProof.Rows.Boot.«len» (zaa (zav jx 0 (zd2 T) (zab 0)) zae aA) aA)))
theorem zm2 (T:Txt K mg A):FnOk P w K mg base CX0 2 A.za3 A.zeZ nL7 (SpF (bk K A) 2 za3):=
 T.ziW.okJ zmE rfl fun jx=>
  (zah (zam (JD.asE (zo8 (JE.asD (zaA jx (zwi T) (by decide) T.zla T.znQ.kp (zyr T) zad (zaa (zab 1) zae aN) aN)) (zo8 (zdT zJs (zab 1) zai (zao _)) (zo7 (zdT zLb (JE.asD (zJx jx zz1 (zab 1))) (JE.asD (zaH jx (cn:=7) (zab 0) T.zbg T.zrq (zrI T) (by decide) (zs3 T) rfl zad)) (zao _))))))))
theorem zeG (T : Txt K mg A) : FnOk P w K mg base CX0 3 A.zap A.zdf nL7 (SpF (bk K A) 2 zap) :=
  T.zeK.okJ zjp rfl fun jx =>
   (zah (zbm (zgT (zdQ (JE.asD (zb3 jx (cn := 7) (zab 0) T.zbg T.zmT (zm2 T) (by decide) (znX T) rfl zad (zaa (zab 1) zae aN) aN))))
    (zah zd5)
    zaG))
theorem zm3 (T : Txt K mg A) : FnOk P w K mg base CX0 3 A.za4 A.ze0 zyG (SpF (bk K A) 2 za4) :=
  T.ziX.okJ zmF rfl fun jx =>
   (zag (zvN (zb3 jx (cn := 7) (zab 0) T.zbg T.zdg (zdh T) (by decide) (zdG T) rfl zad (zaa (zab 1) zae aN) aN))
   (zah (zam (zcO jx (zuH jx) T.zlN PyProof.Rows.Boot.«list» (zaa (zCc jx (zav jx 0 (zoV T) (zab 0)) (zab 1)) zae aS) aS))))
theorem zpo (T : Txt K mg A) : FnOk P w K mg base CX0 4 A.zbt A.zhi zER (SpF (bk K A) 3 zbt) :=
  T.zkW.okJ zd8 rfl fun jx =>
   (zag (zvN (zb3 jx (cn := 7) (zab 0) T.zbg T.zeL (zeN T) (by decide) (zfY T) rfl zad (zaa (zab 1) zae aN) aN))
   (zag (zaJ 3 (L' := []) (fun _ => zd8.nd) (fun _ => (Or.inl rfl)) (JD.asE zai))
   (zag (zmp jx (zxp jx [0, 2] (zb3 jx (cn := 7) (zab 0) T.zbg T.zmS (zm3 T) (by decide) (znY T) rfl zad (zaa (zab 2) zae aN) aN)) (zau 4 (fun _ => zd8.nd) (fun _ => (Or.inl rfl)))
    (show JB _ _ _ zbX from (zah (zaJ 3 (L' := [1, 3, 4]) (fun _ => zd8.nd) (fun _ => (Or.inl rfl)) (JD.asE (zgx (fun _ => zDt) zEs (zab 3) (zCc jx (zav jx 0 (zd2 T) (zab 0)) (zct (zaa (zab 1) (zaa (zab 4) zae aN) aN)))))))))
   (zah (zpM 3)))))
theorem zgH (T : Txt K mg A) : FnOk P w K mg base CX0 5 A.zaU A.zkK zIr (SpF (bk K A) 4 zaU) :=
  T.zoM.okJ zsL rfl fun jx =>
   (zag (zvN (zb3 jx (cn := 7) (zab 0) T.zbg T.zeE (zeG T) (by decide) (zeM T) rfl zad (zaa (zab 1) zae aN) aN))
   (zah (zam (JD.asE (zdT (zvM jx) (zgx (fun _ => zCG) zCS (zab 1) (JE.asD (zb3 jx (cn := 7) (zab 0) T.zbg T.zpe (zpo T) (by decide) (zqC T) rfl zad (zaa (zab 2) (zaa (zab 3) zae aN) aN) aN))) zai (zao _))))))
theorem zqJ (T:Txt K mg A):FnOk P w K mg base CX0 1 A.zbS A.znG nL1 (SpF (bk K A) 1 zbS):=
 T.zr4.okJ zvY rfl fun jx=>
  (zah (zam (zbl jx (JE.asD (zbl jx (JE.asD (zbl jx zaq (zav jx 0 (zqI T) (zab 0)))) zaq)) (zav jx 0 (zk4 T) (zab 0)))))
theorem zqK (T : Txt K mg A) : FnOk P w K mg base CX0 6 A.zaT A.zis nL0 (SpF (bk K A) 4 zaT) :=
  T.zlC.okJ zg8 rfl fun jx =>
   (zag (zaJ 4 (L' := [3]) (fun _ => zg8.nd) (fun _ => (Or.inl rfl)) (JD.asE (zaV jx (zab 3) zai)))
   (zag (zaJ 5 (L' := [1, 2, 3, 4]) (fun _ => zg8.nd) (fun _ => (Or.inl rfl)) (JD.asE (zgx (fun _ => zDt) zEs (zab 2) (JE.asD (zb3 jx (cn := 7) (zab 1) T.zbg T.zsV (zs9 T) (by decide) (zu7 T) rfl zad (zaa (zab 4) (zaa (zaV jx (zab 3) zai) zae aS) aN) aN)))))
   (zag (zbm (JW.t (zop (zdQ (JE.asD (zb3 jx (cn := 7) (zab 1) T.zbg T.zgF (zgH T) (by decide) (zh4 T) rfl zad (zaa (zab 5) (zaa (zab 4) (zaa (zav jx 0 (zqI T) (zab 0)) zae aA) aN) aN) aN))) (zkf (zdQ (JE.asD (zb3 jx (cn := 7) (zab 1) T.zbg T.zgF (zgH T) (by decide) (zh4 T) rfl zad (zaa (zab 5) (zaa (zab 4) (zaa (zav jx 0 (zk4 T) (zab 0)) zae aA) aN) aN) aN))))))
    (zah (zam (JD.asE (zct (zaa (zab 4) (zaa (JE.asD (zaH jx (cn := 0) (zab 0) T.zho T.zqo (zqJ T) (by decide) (zsc T) rfl zad)) zae aL) aN)))))
    zaG)
   (zah (zam (JD.asE zuG))))))
theorem zve (T:Txt K mg A):FnOk P w K mg base CX0 6 A.zck A.zl3 nL8 (SpF (bk K A) 4 zck):=
 T.zqi.okJ zuP rfl fun jx=>
  (zah (zam (zb3 jx (cn:=7) (zab 1) T.zbg T.zgF (zgH T) (by decide) (zh4 T) rfl zad (zaa (zab 2) (zaa (zab 3) (zaa (zav jx 0 (zaO T) (zab 0)) zae aA) aN) aN) aN)))
theorem zvf (T:Txt K mg A):FnOk P w K mg base CX0 6 A.zcl A.zl4 nL8 (SpF (bk K A) 4 zcl):=
 T.zqj.okJ zuQ rfl fun jx=>
  (zah (zam (JD.asE (zHk (JE.asD (zb3 jx (cn:=7) (zab 1) T.zbg T.zgF (zgH T) (by decide) (zh4 T) rfl zad (zaa (zab 2) (zaa (zab 3) (zaa (zav jx 0 (zaO T) (zab 0)) zae aA) aN) aN) aN))))))
theorem zlg (T:Txt K mg A):FnOk P w K mg base CX0 1 A.zbu A.zqb nL1 (SpF (bk K A) 1 zbu):=
 T.zuX.okJ zyg rfl fun jx=>
  (zah (zam (zbl jx zaq (zav jx 0 (zaO T) (zab 0)))))
theorem zlh (T:Txt K mg A):FnOk P w K mg base CX0 1 A.zbv A.zqc nL1 (SpF (bk K A) 1 zbv):=
 T.zuY.okJ zyh rfl fun jx=>
  (zah (zam (zbl jx zaq (zav jx 0 (zaO T) (zab 0)))))
theorem zgq (T : Txt K mg A) : FnOk P w K mg base CX0 7 A.zaB A.zhj zJM (SpF (bk K A) 3 zaB) :=
  T.zdC.okJ zf3 rfl fun jx =>
   (zag (zkh jx 2 (zlq jx (zb4 (zau 3 (fun _ => zf3.nd) (fun _ => (Or.inl rfl))) (zb4 (zau 4 (fun _ => zf3.nd) (fun _ => (Or.inl rfl))) zid)))
    (show JB _ _ _ zaI from (zah (zbm (zgT (zdQ (JE.asD (JE.or (zb3 jx (cn := 2) (zab 4) T.zr9 T.zu0 (zve T) (by decide) (zwa T) rfl zad (zaa (zab 0) (zaa (zab 1) (zaa (zab 3) zae aN) aN) aN) aN)
      (zb3 jx (cn := 6) (zab 4) T.zsa T.zu2 (zvf T) (by decide) (zwb T) rfl zad (zaa (zab 0) (zaa (zab 1) (zaa (zab 3) zae aN) aN) aN) aN)))))
      (zah (zam (JD.asE (zct (zaa (zab 3) (zaa (JE.asD (JE.or (zaH jx (cn := 2) (zab 4) T.zr9 T.zld (zlg T) (by decide) (zmW T) rfl zad)
      (zaH jx (cn := 6) (zab 4) T.zsa T.zle (zlh T) (by decide) (zmX T) rfl zad))) zae aL) aN)))))
      zaG))))
   (zah (zam (JD.asE zuG))))
theorem ze3 (T:Txt K mg A):FnOk P w K mg base CX0 1 A.zax A.zga zHD (SpF (bk K A) 2 zax):=
 T.zc9.okJ znm rfl fun jx=>
  (zah (zam (zdq jx (NX:=zHD) (SX:=zaf zd9) (N:=["term","who"]) (own:=1) (fi:=[0]) ⟨rfl,by decide +kernel,by decide +kernel,by decide +kernel,rfl,by decide +kernel⟩ (zdi jx (zab 1)) (zau 0 (fun _=>(show (["term","who"]:List Str).Nodup by decide +kernel)) (fun _=>Or.inl rfl)) zc0 (zct (zaa (zab 1) (zaa (zab 0) zae aN) aN)))))
theorem zta (T:Txt K mg A):FnOk P w K mg base CX0 3 A.zce A.zkL nL2 (SpF (bk K A) 2 zce):=
 T.zoN.okJ zsM rfl fun jx=>
  (zah (zam (zbl jx (JE.asD (zcR (zaa (zct (zaa (zaV jx (zab 1) zai) (zaa (JE.asD (zkg jx (cn:=2) T.zEU (zc6 T) (by decide) T.zAf (zdk T) rfl zdp (zaa (zav jx 0 (zmZ T) (zab 0)) zae aA) aA)) zae aL) aS)) zae aT))) (JE.asD (zaA jx (ze3 T) (by decide) T.zcw T.zc9.kp (zgn T) zad (zaa (zaV jx (zab 1) zai) (zaa (zav jx 0 (zca T) (zab 0)) zae aA) aS) aS)))))
theorem zqL (T:Txt K mg A):FnOk P w K mg base CX0 8 A.zbh A.zit nL0 (SpF (bk K A) 4 zbh):=
 T.zlD.okJ zp1 rfl fun jx=>
  (zah (zam (zaA jx (zgq T) (by decide) T.zcm T.zdC.kp (zhQ T) zad (zaa (zab 1) (zaa (zab 2) (zaa (JE.asD (zb3 jx (cn:=1) (zab 0) T.zgl T.zsU (zta T) (by decide) (zu8 T) rfl zad (zaa (zab 3) zae aN) aN)) zae aL) aN) aN) aN)))
theorem zi6 (T : Txt K mg A) : FnOk P w K mg base CX0 4 A.zaN A.zgb zHB (SpF (bk K A) 3 zaN) :=
  T.zj3.okJ znn rfl fun jx =>
   (zag (zvN (zb3 jx (cn := 7) (zab 0) T.zbg T.zeE (zeG T) (by decide) (zeM T) rfl zad (zaa (zab 1) zae aN) aN))
   (zag (zvN (zb3 jx (cn := 7) (zab 0) T.zbg T.zdg (zdh T) (by decide) (zdG T) rfl zad (zaa (zab 2) zae aN) aN))
   (zah (zam (zdq jx (NX := zHB) (SX := zaf zea) (N := ["who", "self", "state", "role"]) (own := 1) (fi := [0, 1, 2]) ⟨rfl, by decide +kernel, by decide +kernel, by decide +kernel, rfl, by decide +kernel⟩ (zdi jx (zav jx 0 (zm0 T) (zab 0))) (zau 0 (fun _ => (show (["who", "self", "state", "role"] : List Str).Nodup by decide +kernel)) (fun _ => Or.inl rfl)) (zjc (zaz (zvM (JX.comp jx _ _)) (zgx (fun _ => zCG) zCS (zab 2) (zCc (JX.comp jx _ _) (zav (JX.comp jx _ _) 1 (zd2 T) (zab 1)) (zct (zaa (zab 0) (zaa (zab 3) zae aN) aN)))) zai (zao _))) (zab 0))))))
theorem zqM (T:Txt K mg A):FnOk P w K mg base CX0 1 A.zbT A.znH nL1 (SpF (bk K A) 1 zbT):=
 T.zr5.okJ zvZ rfl fun jx=>
  (zah (zam (zbl jx zaq (zav jx 0 (zaO T) (zab 0)))))
theorem zqN (T : Txt K mg A) : FnOk P w K mg base CX0 5 A.za5 A.ziu nL0 (SpF (bk K A) 4 za5) :=
  T.zlE.okJ zha rfl fun jx =>
   (zag (zaJ 4 (L' := [3]) (fun _ => zha.nd) (fun _ => (Or.inr rfl)) (JD.asE (zaV jx (zab 3) zai)))
   (zag (ziN jx 5 (L' := [1, 2, 4]) (fun _ => zha.nd) (NX := zKU) (SX := zaf ze9) (N := ["who", "loser"]) (own := 1) (fi := [4]) ⟨rfl, by decide +kernel, by decide +kernel, by decide +kernel, rfl, by decide +kernel⟩ (zdi jx (JE.asD (zb3 jx (cn := 7) (zab 1) T.zbg T.zi1 (zi6 T) (by decide) (zj9 T) rfl zad (zaa (zab 2) (zaa (zav jx 0 (zaO T) (zab 0)) zae aA) aN) aN))) (zau 0 (fun _ => (show (["who", "loser"] : List Str).Nodup by decide +kernel)) (fun _ => Or.inl rfl)) (zjc (zaz (zvM (JX.comp jx _ _)) (zab 0) (zab 1) (zao _))) (zab 0))
   (zag (zbm (zaz (zep jx) (JE.asD (zaM jx (zfc jx) T.zeo PyProof.Rows.Boot.«len» (zaa (zab 5) zae aN) aN)) zai (zao _))
    (zah (zam (JD.asE (zct (zaa (zab 4) (zaa (JE.asD (zaH jx (cn := 3) (zab 0) T.ziE T.zqt (zqM T) (by decide) (zsd T) rfl zad)) zae aL) aN)))))
    zaG)
   (zah (zam (JD.asE zuG))))))
theorem zvg (T:Txt K mg A):FnOk P w K mg base CX0 2 A.zcI A.zl5 nL2 (SpF (bk K A) 2 zcI):=
 T.zqk.okJ zuR rfl fun jx=>
  (zah (zam (zaA jx (ze3 T) (by decide) T.zcw T.zc9.kp (zgn T) zad (zaa (zaV jx (zab 1) zai) (zaa (zav jx 0 (zca T) (zab 0)) zae aA) aS) aS)))
theorem zrJ (T:Txt K mg A):FnOk P w K mg base CX0 8 A.zbC A.zjH nL0 (SpF (bk K A) 4 zbC):=
 T.zmP.okJ zrm rfl fun jx=>
  (zah (zam (zaA jx (zgq T) (by decide) T.zcm T.zdC.kp (zhQ T) zad (zaa (zab 1) (zaa (zab 2) (zaa (JE.asD (zb3 jx (cn:=4) (zab 0) T.zk2 T.zu1 (zvg T) (by decide) (zwc T) rfl zad (zaa (zab 3) zae aN) aN)) zae aL) aN) aN) aN)))
theorem zqO (T:Txt K mg A):FnOk P w K mg base CX0 1 A.zbU A.znI nL1 (SpF (bk K A) 1 zbU):=
 T.zr6.okJ zv0 rfl fun jx=>
  (zah (zam (zbl jx (JE.asD (zbl jx (JE.asD (zbl jx zaq (JE.asD (zcO jx zHo T.zsX PyProof.Rows.Boot.«str» (zaa (zav jx 0 (zpv T) (zab 0)) zae aA) aA)))) zaq)) (zav jx 0 (zaO T) (zab 0)))))
theorem zqP (T : Txt K mg A) : FnOk P w K mg base CX0 5 A.za6 A.ziv nL0 (SpF (bk K A) 4 za6) :=
  T.zlF.okJ zhb rfl fun jx =>
   (zag (zaJ 4 (L' := [3]) (fun _ => zhb.nd) (fun _ => (Or.inr rfl)) (JD.asE (zaV jx (zab 3) zai)))
   (zag (ziN jx 5 (L' := [1, 2, 4]) (fun _ => zhb.nd) (NX := zKT) (SX := zaf zfa) (N := ["who", "getter"]) (own := 1) (fi := [4]) ⟨rfl, by decide +kernel, by decide +kernel, by decide +kernel, rfl, by decide +kernel⟩ (zdi jx (JE.asD (zb3 jx (cn := 7) (zab 1) T.zbg T.zi1 (zi6 T) (by decide) (zj9 T) rfl zad (zaa (zab 2) (zaa (zav jx 0 (zaO T) (zab 0)) zae aA) aN) aN))) (zau 0 (fun _ => (show (["who", "getter"] : List Str).Nodup by decide +kernel)) (fun _ => Or.inl rfl)) (zjc (zaz (zvM (JX.comp jx _ _)) (zab 0) (zab 1) (zao _))) (zab 0))
   (zag (zbm (zaz zJs (JE.asD (zaM jx (zfc jx) T.zeo PyProof.Rows.Boot.«len» (zaa (zab 5) zae aN) aN)) (zav jx 0 (zpv T) (zab 0)) (zao _))
    (zah (zam (JD.asE (zct (zaa (zab 4) (zaa (JE.asD (zaH jx (cn := 5) (zab 0) T.zhp T.zqw (zqO T) (by decide) (zse T) rfl zad)) zae aL) aN)))))
    zaG)
   (zah (zam (JD.asE zuG))))))
theorem ztb (T:Txt K mg A):FnOk P w K mg base CX0 3 A.zcf A.zkM nL2 (SpF (bk K A) 2 zcf):=
 T.zoO.okJ zsN rfl fun jx=>
  (zah (zam (zbl jx (JE.asD (zcR (zaa (zct (zaa (zaV jx (zab 1) zai) (zaa (JE.asD (zkg jx (cn:=2) T.zEU (zc6 T) (by decide) T.zAf (zdk T) rfl zdp (zaa (zav jx 0 (zmZ T) (zab 0)) zae aA) aA)) zae aL) aS)) zae aT))) (JE.asD (zaA jx (ze3 T) (by decide) T.zcw T.zc9.kp (zgn T) zad (zaa (zaV jx (zab 1) zai) (zaa (zav jx 0 (zca T) (zab 0)) zae aA) aS) aS)))))
theorem zqQ (T:Txt K mg A):FnOk P w K mg base CX0 8 A.zbi A.ziw nL0 (SpF (bk K A) 4 zbi):=
 T.zlG.okJ zp2 rfl fun jx=>
  (zah (zam (zaA jx (zgq T) (by decide) T.zcm T.zdC.kp (zhQ T) zad (zaa (zab 1) (zaa (zab 2) (zaa (JE.asD (zb3 jx (cn:=8) (zab 0) T.zgm T.zsW (ztb T) (by decide) (zu9 T) rfl zad (zaa (zab 3) zae aN) aN)) zae aL) aN) aN) aN)))
theorem zqR (T : Txt K mg A) : FnOk P w K mg base CX0 1 A.zbK A.zix zJO (SpF (bk K A) 2 zbK) :=
  T.ziD.okJ zex rfl fun jx =>
   (zag (zaJ 2 (L' := [1]) (fun _ => zex.nd) (fun _ => (Or.inr rfl)) (zcR (zaa (zab 1) zae aN)))
   (zag (zmp jx (zlR jx T.ze1 (zaa (JE.asD (zaM jx (zfc jx) T.zeo PyProof.Rows.Boot.«len» (zaa (zaV jx (zab 0) zai) zae aS) aS)) zae aL)) (zau 3 (fun _ => zex.nd) (fun _ => (Or.inl rfl)))
    (show JB _ _ _ zb8 from (zah (zaJ 2 (L' := [0, 2]) (fun _ => zex.nd) (fun _ => (Or.inr rfl)) (zbl jx (zab 2) (JE.asD (zdq jx (NX := zJD) (SX := zaf zdV) (N := zJJ) (own := 2) (fi := [2]) ⟨rfl, by decide +kernel, by decide +kernel, by decide +kernel, rfl, by decide +kernel⟩ (zdi jx (zaV jx (zab 0) zai)) (zlq (JX.comp jx _ _) (zb4 (zau 0 (fun _ => (show (zJJ : List Str).Nodup by decide +kernel)) (fun _ => Or.inl rfl)) (zb4 (zau 1 (fun _ => (show (zJJ : List Str).Nodup by decide +kernel)) (fun _ => Or.inl rfl)) zid))) (zjc (JW.t (zop (zaz (zyF (JX.comp jx _ _)) (zab 1) (zab 2) rfl) (zkf (zaz (zz0 (JX.comp jx _ _)) (zab 0) (zab 2) rfl))))) (zab 0))))))))
   (zah (zam (zdq jx (NX := zJD) (SX := zaf zdV) (N := ["_law_name", "_law_known"]) (own := 1) (fi := [2]) ⟨rfl, by decide +kernel, by decide +kernel, by decide +kernel, rfl, by decide +kernel⟩ (zdi jx (zaV jx (zab 0) zai)) (zau 0 (fun _ => (show (["_law_name", "_law_known"] : List Str).Nodup by decide +kernel)) (fun _ => Or.inl rfl)) (zjc (zaz (zyF (JX.comp jx _ _)) (zab 0) (zab 1) rfl)) (zab 0))))))
theorem zsf (T:Txt K mg A):FnOk P w K mg base CX0 1 A.zcT A.zqd zIn (SpF (bk K A) 3 zcT):=
 T.zmQ.okJ zyi rfl fun jx=>
  (zah (zam (JD.asE (zgx (fun _=>zCF) zCR zai (JE.asD (zbl jx (JE.asD (zsF (JE.asD (zFx jx (zxo jx) (zaV jx (zab 0) zai) (zaa (zab 1) zae aN) aN)) (JE.asD (zaM jx (zfc jx) T.zeo PyProof.Rows.Boot.«len» (zaa (zaV jx (zab 0) zai) zae aS) aS)))) (JE.asD (zFx jx (zxo jx) (zaV jx (zab 0) zai) (zaa (zab 2) zae aN) aN))))))))
theorem zoX (T:Txt K mg A):FnOk P w K mg base CX0 2 A.zbF A.zl6 nL3 (SpF (bk K A) 4 zbF):=
 T.zjL.okJ zuS rfl fun jx=>
  (zah (zam (JD.asE (zdT (zep jx) (zgx (fun _=>zcr) zcs (zgx (fun _=>zeq) zgR (zab 1) (JE.asD (zaA jx (zsf T) (by decide) T.zkp T.zmQ.kp (zva T) zad (zaa (zab 0) (zaa (zab 2) (zaa (zab 3) zae aN) aN) aN) aN))) zai) zai (zao _)))))
theorem zli (T:Txt K mg A):FnOk P w K mg base CX0 3 A.zcn A.zqe nL3 (SpF (bk K A) 4 zcn):=
 T.ziY.okJ zyj rfl fun jx=>
  (zah (zam (JD.asE (zdT (zvM jx) (JE.asD (zdq jx (NX:=nL3) (SX:=zaf zmG) (N:=zKV) (own:=1) (fi:=[0,1,2]) ⟨rfl,by decide +kernel,by decide +kernel,by decide +kernel,rfl,by decide +kernel⟩ (zdi jx (JE.asD (zaA jx (zqR T) (by decide) T.ze8 T.ziD.kp (zrx T) zad (zaa (zab 0) (zaa (zab 3) zae aN) aN) aN))) (zau 0 (fun _=>(show (zKV:List Str).Nodup by decide +kernel)) (fun _=>Or.inl rfl)) (zjc (zdQ (JE.asD (zaA (JX.comp jx _ _) (zoX T) (by decide) T.zgZ T.zjL.kp (zqD T) zad (zaa (zab 1) (zaa (zab 2) (zaa (zab 3) (zaa (zab 0) zae aN) aN) aN) aN) aN)))) (zab 0))) (JE.asD (zcR zae)) (zao _)))))
theorem zgu (T : Txt K mg A) : FnOk P w K mg base CX0 4 A.zaF A.zej zJE (SpF (bk K A) 4 zaF) :=
  T.zc5.okJ zdR rfl fun jx =>
   (zag (zkh jx 3 (zlq jx (zb4 (zau 4 (fun _ => zdR.nd) (fun _ => (Or.inl rfl))) (zb4 (zau 5 (fun _ => zdR.nd) (fun _ => (Or.inl rfl))) zid)))
    (show JB _ _ _ zat from (zah (zbm (zaz (zvM jx) (JE.asD (zaA jx (zli T) (by decide) T.zg0 T.ziY.kp (zmY T) zad (zaa (zab 0) (zaa (zab 1) (zaa (zab 2) (zaa (zab 5) zae aN) aN) aN) aN) aN)) (zdT (zep jx) (zab 4) zaq (zao _)) (zao _))
      (zah (zam (JD.asE (zct (zaa (zab 2) (zaa (JE.asD (zbl jx (JE.asD (zbl jx (zab 4) zaq)) (zab 5))) zae aB) aN)))))
      zaG))))
   (zah (zam (JD.asE zuG))))
theorem zgr (T : Txt K mg A) : FnOk P w K mg base CX0 1 A.zaR A.zhk zHA (SpF (bk K A) 2 zaR) :=
  T.zdD.okJ zpb rfl fun jx =>
   (zag (zbm (zaz (zep jx) (zab 1) (JE.asD (zcR zae)) (zao _))
    (zah (zam (JD.asE zaq)))
    zaG)
   (zah (zam (zbl jx (JE.asD (zbl jx (JE.asD (zbl jx zaq (zab 0))) zaq)) (JE.asD (zFx jx (zsH jx) zaq (zaa (JE.asD (zdq jx (NX := zHA) (SX := zaf zey) (N := zJP) (own := 2) (fi := []) ⟨rfl, by decide +kernel, by decide +kernel, by decide +kernel, rfl, by decide +kernel⟩ (zdi jx (zab 1)) (zlq (JX.comp jx _ _) (zb4 (zau 0 (fun _ => (show (zJP : List Str).Nodup by decide +kernel)) (fun _ => Or.inl rfl)) (zb4 (zau 1 (fun _ => (show (zJP : List Str).Nodup by decide +kernel)) (fun _ => Or.inl rfl)) zid))) zc0 (JE.asD (zbl (JX.comp jx _ _) (JE.asD (zbl (JX.comp jx _ _) (zab 0) zaq)) (zab 1))))) zae aM) aM))))))
theorem zn1 (T : Txt K mg A) : FnOk P w K mg base CX0 2 A.zbM A.zqf nL4 (SpF (bk K A) 1 zbM) :=
  T.zkX.okJ zyk rfl fun jx =>
   (zag (zbm (zaz (zep jx) (zaV jx (zab 0) zai) zaq (zao _))
    (zah (zam (zbl jx (JE.asD (zbl jx (JE.asD (zbl jx (JE.asD (zbl jx zaq (zaV jx (zab 0) zai))) zaq)) (zaV jx (zab 0) zai))) (JE.asD (zaA jx (zgr T) (by decide) T.zco T.zdD.kp (zhS T) zad (zaa zaq (zaa (zaV jx (zab 0) zai) zae aS) aC) aC)))))
    zaG)
   (zag (zbm (zaz (zep jx) (zaV jx (zab 0) zai) zaq (zao _))
    (zah (zam (zbl jx (JE.asD (zbl jx (JE.asD (zbl jx (JE.asD (zbl jx zaq (zaV jx (zab 0) zai))) zaq)) (zaV jx (zab 0) zai))) (JE.asD (zaA jx (zgr T) (by decide) T.zco T.zdD.kp (zhS T) zad (zaa zaq (zaa (zaV jx (zab 0) zai) zae aS) aC) aC)))))
    zaG)
   (zag (zbm (zaz (zep jx) (zaV jx (zab 0) zai) zaq (zao _))
    (zah (zam (zbl jx (JE.asD (zbl jx zaq (zaV jx (zab 0) zai))) (JE.asD (zaA jx (zgr T) (by decide) T.zco T.zdD.kp (zhS T) zad (zaa zaq (zaa (zaV jx (zab 0) zai) zae aS) aC) aC)))))
    zaG)
   (zah (zam (zFx jx (zsH jx) zaq (zaa (JE.asD (zdq jx (NX := nL4) (SX := zaf zmH) (N := ["_law_part"]) (own := 1) (fi := []) ⟨rfl, by decide +kernel, by decide +kernel, by decide +kernel, rfl, by decide +kernel⟩ (zdi jx (zab 0)) (zau 0 (fun _ => (show (["_law_part"] : List Str).Nodup by decide +kernel)) (fun _ => Or.inl rfl)) zc0 (JE.asD (zcO (JX.comp jx _ _) zHo T.zsX PyProof.Rows.Boot.«str» (zaa (zab 0) zae aN) aN)))) zae aM) aM))))))
theorem zrK (T : Txt K mg A) : FnOk P w K mg base CX0 5 A.zcb A.zjI zJC (SpF (bk K A) 4 zcb) :=
  T.zjM.okJ zfb rfl fun jx =>
   (zag (zaJ 4 (L' := [3]) (fun _ => zfb.nd) (fun _ => (Or.inr rfl)) (JD.asE (zaV jx (zab 3) zai)))
   (zag (ziN jx 5 (L' := [0, 1, 3, 4]) (fun _ => zfb.nd) (NX := zKO) (SX := zaf zgy) (N := zKR) (own := 1) (fi := [0, 1, 3, 4]) ⟨rfl, by decide +kernel, by decide +kernel, by decide +kernel, rfl, by decide +kernel⟩ (zdi jx (zaV jx (zab 0) zai)) (zau 0 (fun _ => (show (zKR : List Str).Nodup by decide +kernel)) (fun _ => Or.inl rfl)) (zjc (JW.t (zop (zaz (zvM (JX.comp jx _ _)) (zab 0) (zab 4) (zao _)) (zkf (zdQ (JE.asD (zaA (JX.comp jx _ _) (zoX T) (by decide) T.zgZ T.zjL.kp (zqD T) zad (zaa (zab 1) (zaa (zab 2) (zaa (zab 0) (zaa (zaV (JX.comp jx _ _) (zab 3) zai) zae aS) aN) aN) aN) aN))))))) (zab 0))
   (zag (zbm (zaz (zyF jx) (zaV jx (zab 2) zai) (JE.asD (zcR (zaa zaq (zaa zaq zae aC) aC))) rfl)
    (zag (zbm (zgT (zdQ (JE.asD (zaA jx (zli T) (by decide) T.zg0 T.ziY.kp (zmY T) zad (zaa (zab 0) (zaa (zab 1) (zaa (zaV jx (zab 3) zai) (zaa (zaV jx (zab 2) zai) zae aS) aS) aN) aN) aN))))
      (zah (zam (JD.asE (zct (zaa (zaV jx (zab 3) zai) (zaa (JE.asD (zbl jx zaq (zaV jx (zab 2) zai))) zae aB) aS)))))
      zaG)
     (zah (zam (zaA jx (zgu T) (by decide) T.zbY T.zc5.kp (zhR T) zad (zaa (zab 0) (zaa (zab 1) (zaa (zab 4) (zaa (zaV jx (zab 2) zai) zae aS) aN) aN) aN) aN))))
    zaG)
   (zag (zbm (zaz (zep jx) (zaV jx (zab 2) zai) zaq (zao _))
    (zah (zam (zaA jx (zgu T) (by decide) T.zbY T.zc5.kp (zhR T) zad (zaa (zab 0) (zaa (zab 1) (zaa (zab 4) (zaa (zaV jx (zab 2) zai) zae aS) aN) aN) aN) aN)))
    zaG)
   (zag (zbm (zaz (zep jx) (zaV jx (zab 2) zai) zaq (zao _))
    (zag (zaJ 6 (L' := [0, 1, 3, 4]) (fun _ => zfb.nd) (fun _ => (Or.inl rfl)) (JD.asE (zgx (fun _ => zDt) zEs (zab 1) (JE.asD (zaA jx (zsf T) (by decide) T.zkp T.zmQ.kp (zva T) zad (zaa (zab 0) (zaa (zab 4) (zaa (zaV jx (zab 3) zai) zae aS) aN) aN) aN)))))
     (zah (zbm (JW.t (zop (zdQ (JE.asD (zaA jx (zli T) (by decide) T.zg0 T.ziY.kp (zmY T) zad (zaa (zab 0) (zaa (zab 6) (zaa (zab 4) (zaa (zaV jx (zab 2) zai) zae aS) aN) aN) aN) aN))) (zkf (zdQ (JE.asD (zaA jx (zli T) (by decide) T.zg0 T.ziY.kp (zmY T) zad (zaa (zab 0) (zaa (zab 6) (zaa (zab 4) (zaa (zaV jx (zab 2) zai) zae aS) aN) aN) aN) aN))))))
      (zah (zam (JD.asE (zct (zaa (zab 4) (zaa (JE.asD (zaA jx (zn1 T) (by decide) T.zdu T.zkX.kp (zqE T) zad (zaa (zab 2) zae aN) aN)) zae aL) aN)))))
      zaG)))
    zaG)
   (zag (zbm (JW.t (zsG (JW.t (zop (zaz (zep jx) (zaV jx (zab 2) zai) zaq (zao _)) (zkf (zaz zJs (JE.asD (zaM jx (zfc jx) T.zeo PyProof.Rows.Boot.«len» (zaa (zab 5) zae aN) aN)) (zaV jx (zab 2) zai) (zao _))))) (zoo (JW.t (zop (zaz (zep jx) (zaV jx (zab 2) zai) zaq (zao _)) (zkf (zaz (zep jx) (zab 5) (JE.asD (zcR zae)) (zao _))))))))
    (zah (zam (JD.asE (zct (zaa (zab 4) (zaa (JE.asD (zaA jx (zn1 T) (by decide) T.zdu T.zkX.kp (zqE T) zad (zaa (zab 2) zae aN) aN)) zae aL) aN)))))
    zaG)
   (zah (zam (JD.asE zuG)))))))))
theorem zgI (T:Txt K mg A):FnOk P w K mg base CX0 1 A.zbo A.zkN nL1 (SpF (bk K A) 1 zbo):=
 T.zoP.okJ zsO rfl fun jx=>
  (zah (zam (zcR (zaa (zav jx 0 (zqI T) (zab 0)) (zaa (zav jx 0 (zk4 T) (zab 0)) zae aA) aA))))
theorem ze4 (T:Txt K mg A):FnOk P w K mg base CX0 1 A.zay A.zgc ["terms"] (SpF (bk K A) 1 zay):=
 T.zda.okJ znq rfl fun jx=>
  (zah (zam (zdq jx (NX:=["terms"]) (SX:=zaf zeb) (N:=["term"]) (own:=1) (fi:=[]) ⟨rfl,by decide +kernel,by decide +kernel,by decide +kernel,rfl,by decide +kernel⟩ (zdi jx (zab 0)) (zau 0 (fun _=>(show (["term"]:List Str).Nodup by decide +kernel)) (fun _=>Or.inl rfl)) zc0 (zav (JX.comp jx _ _) 0 (zaO T) (zab 0)))))
theorem zgJ (T:Txt K mg A):FnOk P w K mg base CX0 2 A.zbp A.zkO nL1 (SpF (bk K A) 1 zbp):=
 T.zoQ.okJ zsP rfl fun jx=>
  (zah (zam (zbl jx (JE.asD (zcR (zaa (zav jx 0 (zaO T) (zab 0)) (zaa (zav jx 0 (zmZ T) (zab 0)) zae aA) aA))) (JE.asD (zaA jx (ze4 T) (by decide) T.zcx T.zda.kp (zgo T) zad (zaa (zav jx 0 (zca T) (zab 0)) zae aA) aA)))))
theorem zgK (T:Txt K mg A):FnOk P w K mg base CX0 1 A.zbq A.zkP nL1 (SpF (bk K A) 1 zbq):=
 T.zoR.okJ zsQ rfl fun jx=>
  (zah (zam (zcR (zaa (zav jx 0 (zaO T) (zab 0)) zae aA))))
theorem zia (T:Txt K mg A):FnOk P w K mg base CX0 2 A.zbN A.zl7 nL1 (SpF (bk K A) 1 zbN):=
 T.zql.okJ zuT rfl fun jx=>
  (zah (zam (zbl jx (JE.asD (zcR (zaa (zav jx 0 (zaO T) (zab 0)) zae aA))) (JE.asD (zaA jx (ze4 T) (by decide) T.zcx T.zda.kp (zgo T) zad (zaa (zav jx 0 (zca T) (zab 0)) zae aA) aA)))))
theorem zgL (T:Txt K mg A):FnOk P w K mg base CX0 1 A.zbr A.zkQ nL1 (SpF (bk K A) 1 zbr):=
 T.zoS.okJ zsR rfl fun jx=>
  (zah (zam (zcR (zaa (zav jx 0 (zaO T) (zab 0)) zae aA))))
theorem zgM (T:Txt K mg A):FnOk P w K mg base CX0 2 A.zbs A.zkR nL1 (SpF (bk K A) 1 zbs):=
 T.zoT.okJ zsS rfl fun jx=>
  (zah (zam (zbl jx (JE.asD (zcR (zaa (zav jx 0 (zaO T) (zab 0)) (zaa (zav jx 0 (zmZ T) (zab 0)) zae aA) aA))) (JE.asD (zaA jx (ze4 T) (by decide) T.zcx T.zda.kp (zgo T) zad (zaa (zav jx 0 (zca T) (zab 0)) zae aA) aA)))))
theorem zoY (T : Txt K mg A) : FnOk P w K mg base CX0 1 A.zbn A.zl8 nL4 (SpF (bk K A) 1 zbn) :=
  T.zjN.okJ zuU rfl fun jx =>
   (zag (zbm (zaz (zyF jx) (zaV jx (zab 0) zai) (JE.asD (zcR (zaa zaq (zaa zaq zae aC) aC))) rfl)
    (zah (zam (zbl jx (JE.asD (zcR (zaa (zaV jx (zab 0) zai) (zaa (zaV jx (zab 0) zai) zae aS) aS))) (JE.asD (zdq jx (NX := nL4) (SX := zaf zeY) (N := zFy) (own := 2) (fi := []) ⟨rfl, by decide +kernel, by decide +kernel, by decide +kernel, rfl, by decide +kernel⟩ (zdi jx (zaV jx (zab 0) zai)) (zlq (JX.comp jx _ _) (zb4 (zau 0 (fun _ => (show (zFy : List Str).Nodup by decide +kernel)) (fun _ => Or.inl rfl)) (zb4 (zau 1 (fun _ => (show (zFy : List Str).Nodup by decide +kernel)) (fun _ => Or.inl rfl)) zid))) zc0 (zab 1))))))
    zaG)
   (zag (zbm (zaz (zep jx) (zaV jx (zab 0) zai) zaq (zao _))
    (zah (zam (zbl jx (JE.asD (zcR (zaa (zaV jx (zab 0) zai) zae aS))) (JE.asD (zdq jx (NX := nL4) (SX := zaf zeY) (N := zFy) (own := 2) (fi := []) ⟨rfl, by decide +kernel, by decide +kernel, by decide +kernel, rfl, by decide +kernel⟩ (zdi jx (zaV jx (zab 0) zai)) (zlq (JX.comp jx _ _) (zb4 (zau 0 (fun _ => (show (zFy : List Str).Nodup by decide +kernel)) (fun _ => Or.inl rfl)) (zb4 (zau 1 (fun _ => (show (zFy : List Str).Nodup by decide +kernel)) (fun _ => Or.inl rfl)) zid))) zc0 (zab 1))))))
    zaG)
   (zah (zam (zdq jx (NX := nL4) (SX := zaf zeY) (N := ["_law_part"]) (own := 1) (fi := []) ⟨rfl, by decide +kernel, by decide +kernel, by decide +kernel, rfl, by decide +kernel⟩ (zdi jx (JE.asD (zya jx (zab 0) (zed zai) zgU))) (zau 0 (fun _ => (show (["_law_part"] : List Str).Nodup by decide +kernel)) (fun _ => Or.inl rfl)) (zjc (zdQ (JE.asD (zaM (JX.comp jx _ _) (zln (JX.comp jx _ _) (zgt T)) T.zaL PyProof.Rows.Boot.«isinstance» (zaa (zab 0) (zaa (zCb (JX.comp jx _ _) T.zsX PyProof.Rows.Boot.«str») zae aN) aN) aN)))) (zab 0))))))
theorem zvh (T : Txt K mg A) : FnOk P w K mg base CX0 1 A.zcK A.zl9 ["_law_one"] (SpF (bk K A) 1 zcK) :=
  T.zmc.okJ zoJ rfl fun jx =>
   (zag (zaJ 1 (L' := [0]) (fun _ => zoJ.nd) (fun _ => (Or.inl rfl)) (zcR (zaa (JE.asD (zaM jx (zln jx (zgt T)) T.zaL PyProof.Rows.Boot.«isinstance» (zaa (zab 0) (zaa (zvL jx (n := 1) (C := A.zcp) rfl T.zAe) zae aN) aN) aN)) (zaa (JE.asD (zaM jx (zln jx (zgt T)) T.zaL PyProof.Rows.Boot.«isinstance» (zaa (zab 0) (zaa (zvL jx (n := 8) (C := A.zcq) rfl T.zAj) zae aN) aN) aN)) (zaa (JE.asD (zaM jx (zln jx (zgt T)) T.zaL PyProof.Rows.Boot.«isinstance» (zaa (zab 0) (zaa (zvL jx (n := 4) (C := A.zen) rfl T.zC5) zae aN) aN) aN)) (zaa (JE.asD (zaM jx (zln jx (zgt T)) T.zaL PyProof.Rows.Boot.«isinstance» (zaa (zab 0) (zaa (zvL jx (n := 0) (C := A.zcD) rfl T.zAd) zae aN) aN) aN)) zae aL) aL) aL) aL)))
   (zah (zam (zbl jx (zab 1) (JE.asD (zcR (zaa (JE.asD (zaM jx (zln jx (zgt T)) T.zaL PyProof.Rows.Boot.«isinstance» (zaa (zab 0) (zaa (zvL jx (n := 5) (C := A.zcE) rfl T.zAh) zae aN) aN) aN)) (zaa (JE.asD (zaM jx (zln jx (zgt T)) T.zaL PyProof.Rows.Boot.«isinstance» (zaa (zab 0) (zaa (zvL jx (n := 3) (C := A.zcM) rfl T.zAg) zae aN) aN) aN)) (zaa (JE.asD (zaM jx (zln jx (zgt T)) T.zaL PyProof.Rows.Boot.«isinstance» (zaa (zab 0) (zaa (zvL jx (n := 9) (C := A.zmI) rfl T.zET) zae aN) aN) aN)) zae aL) aL) aL)))))))
theorem zoZ (T:Txt K mg A):FnOk P w K mg base CX0 1 A.zbZ A.zma zIu (SpF (bk K A) 2 zbZ):=
 T.zjO.okJ zuV rfl fun jx=>
  (zah (zam (JD.asE (zo8 (JE.asD (zaM jx (zln jx (zgt T)) T.zaL PyProof.Rows.Boot.«isinstance» (zaa (zab 0) (zaa (zCb jx T.zsb PyProof.Rows.Boot.«bool») zae aN) aN) aN)) (zo7 (zdT (zep jx) (zab 0) (zab 1) (zao _)))))))
theorem zk5 (T : Txt K mg A) : FnOk P w K mg base CX0 2 A.zbc A.zmb zHC (SpF (bk K A) 2 zbc) :=
  T.zhn.okJ zuW rfl fun jx =>
   (zag (zbm (zaz (zep jx) (JE.asD (zaM jx (zfc jx) T.zeo PyProof.Rows.Boot.«len» (zaa (zab 1) zae aN) aN)) zai (zao _))
    (zah (zam (JD.asE zaq)))
    zaG)
   (zah (zam (zbl jx (JE.asD (zbl jx (JE.asD (zbl jx zaq (zab 0))) zaq)) (JE.asD (zFx jx (zsH jx) zaq (zaa (JE.asD (zdq jx (NX := zHC) (SX := zaf zjr) (N := ["term"]) (own := 1) (fi := []) ⟨rfl, by decide +kernel, by decide +kernel, by decide +kernel, rfl, by decide +kernel⟩ (zdi jx (zab 1)) (zau 0 (fun _ => (show (["term"] : List Str).Nodup by decide +kernel)) (fun _ => Or.inl rfl)) zc0 (JE.asD (JE.or (zaH (JX.comp jx _ _) (cn := 2) (zab 0) T.zr9 T.zld (zlg T) (by decide) (zmW T) rfl zad)
      (zaH (JX.comp jx _ _) (cn := 6) (zab 0) T.zsa T.zle (zlh T) (by decide) (zmX T) rfl zad))))) zae aM) aM))))))
theorem zwj (T:Txt K mg A):FnOk P w K mg base CX0 3 A.zcy A.znJ nL1 (SpF (bk K A) 1 zcy):=
 T.zr7.okJ zv1 rfl fun jx=>
  (zah (zam (zbl jx (JE.asD (zbl jx (JE.asD (zbl jx (JE.asD (zbl jx zaq (zav jx 0 (zaO T) (zab 0)))) zaq)) (zav jx 0 (zmZ T) (zab 0)))) (JE.asD (zaA jx (zk5 T) (by decide) T.zef T.zhn.kp (zme T) zad (zaa zaq (zaa (zav jx 0 (zca T) (zab 0)) zae aA) aC) aC)))))
theorem zyw (T:Txt K mg A):FnOk P w K mg base CX0 3 A.zc7 A.zqg nL1 (SpF (bk K A) 1 zc7):=
 T.zuZ.okJ zyl rfl fun jx=>
  (zah (zam (zbl jx (JE.asD (zbl jx zaq (zav jx 0 (zaO T) (zab 0)))) (JE.asD (zaA jx (zk5 T) (by decide) T.zef T.zhn.kp (zme T) zad (zaa zaq (zaa (zav jx 0 (zca T) (zab 0)) zae aA) aC) aC)))))
theorem zwk (T:Txt K mg A):FnOk P w K mg base CX0 3 A.zcz A.znK nL1 (SpF (bk K A) 1 zcz):=
 T.zr8.okJ zv2 rfl fun jx=>
  (zah (zam (zbl jx (JE.asD (zbl jx (JE.asD (zbl jx (JE.asD (zbl jx zaq (zav jx 0 (zaO T) (zab 0)))) zaq)) (zav jx 0 (zmZ T) (zab 0)))) (JE.asD (zaA jx (zk5 T) (by decide) T.zef T.zhn.kp (zme T) zad (zaa zaq (zaa (zav jx 0 (zca T) (zab 0)) zae aA) aC) aC)))))
theorem zqS (T:Txt K mg A):FnOk P w K mg base CX0 1 A.zbw A.ziy nL1 (SpF (bk K A) 1 zbw):=
 T.zlH.okJ zp5 rfl fun jx=>
  (zah (zam (JD.asE zuF)))
theorem zqT (T:Txt K mg A):FnOk P w K mg base CX0 1 A.zbx A.ziz nL1 (SpF (bk K A) 1 zbx):=
 T.zlI.okJ zp6 rfl fun jx=>
  (zah (zam (JD.asE zuF)))
theorem zqU (T:Txt K mg A):FnOk P w K mg base CX0 1 A.zby A.ziA nL1 (SpF (bk K A) 1 zby):=
 T.zlJ.okJ zp7 rfl fun jx=>
  (zah (zam (JD.asE zuF)))
theorem zrL (T:Txt K mg A):FnOk P w K mg base CX0 1 A.zbO A.zjJ nL1 (SpF (bk K A) 1 zbO):=
 T.zmR.okJ zrn rfl fun jx=>
  (zah (zam (JD.asE zuF)))
theorem zqV (T:Txt K mg A):FnOk P w K mg base CX0 1 A.zbz A.ziB nL1 (SpF (bk K A) 1 zbz):=
 T.zlK.okJ zp8 rfl fun jx=>
  (zah (zam (JD.asE zuF)))
theorem zqW (T:Txt K mg A):FnOk P w K mg base CX0 1 A.zbA A.ziC nL1 (SpF (bk K A) 1 zbA):=
 T.zlL.okJ zp9 rfl fun jx=>
  (zah (zam (JD.asE zuF)))
theorem zn2 (T:Txt K mg A):FnOk P w K mg base CX0 1 A.zaZ A.zgd nL2 (SpF (bk K A) 2 zaZ):=
 T.zj4.okJ znt rfl fun jx=>
  (zah (zam (JD.asE (zdT (zep jx) (zaV jx (zab 1) zai) zaq (zao _)))))
theorem zlj (T:Txt K mg A):FnOk P w K mg base CX0 1 A.zcc A.zv4 zIx (SpF (bk K A) 3 zcc):=
 T.zkY.okJ zCj rfl fun jx=>
  (zah (zam (JD.asE (zo8 (zdT (zep jx) (zaV jx (zab 0) zai) (zab 1) (zao _)) (zo7 (zdT (zep jx) (zaV jx (zab 0) zai) (zab 2) (zao _)))))))
theorem zn3 (T:Txt K mg A):FnOk P w K mg base CX0 2 A.za0 A.zge nL2 (SpF (bk K A) 2 za0):=
 T.zj5.okJ znu rfl fun jx=>
  (zah (zam (zaA jx (zlj T) (by decide) T.zii T.zkY.kp (znZ T) zad (zaa (zab 1) (zaa zaq (zaa (zav jx 0 (zaO T) (zab 0)) zae aA) aC) aN) aN)))
theorem zn4 (T:Txt K mg A):FnOk P w K mg base CX0 2 A.zaP A.zgf nL2 (SpF (bk K A) 2 zaP):=
 T.zj6.okJ znv rfl fun jx=>
  (zah (zam (JD.asE (zLc (JE.asD (zaA jx (zlj T) (by decide) T.zii T.zkY.kp (znZ T) zad (zaa (zab 1) (zaa zaq (zaa (zav jx 0 (zaO T) (zab 0)) zae aA) aC) aN) aN)) (zo7 (JE.asD (zaA jx (zlj T) (by decide) T.zii T.zkY.kp (znZ T) zad (zaa (zab 1) (zaa zaq (zaa (zav jx 0 (zaO T) (zab 0)) zae aA) aC) aN) aN)))))))
theorem zpp (T:Txt K mg A):FnOk P w K mg base CX0 2 A.zbd A.zhl nL2 (SpF (bk K A) 2 zbd):=
 T.zkZ.okJ zpc rfl fun jx=>
  (zah (zam (zaA jx (zlj T) (by decide) T.zii T.zkY.kp (znZ T) zad (zaa (zab 1) (zaa zaq (zaa (zav jx 0 (zaO T) (zab 0)) zae aA) aC) aN) aN)))
theorem zn5 (T:Txt K mg A):FnOk P w K mg base CX0 2 A.za1 A.zgg nL2 (SpF (bk K A) 2 za1):=
 T.zj7.okJ znw rfl fun jx=>
  (zah (zam (zaA jx (zlj T) (by decide) T.zii T.zkY.kp (znZ T) zad (zaa (zab 1) (zaa zaq (zaa (zav jx 0 (zaO T) (zab 0)) zae aA) aC) aN) aN)))
theorem zn6 (T:Txt K mg A):FnOk P w K mg base CX0 2 A.za2 A.zgh nL2 (SpF (bk K A) 2 za2):=
 T.zj8.okJ znx rfl fun jx=>
  (zah (zam (zaA jx (zlj T) (by decide) T.zii T.zkY.kp (znZ T) zad (zaa (zab 1) (zaa zaq (zaa (zav jx 0 (zaO T) (zab 0)) zae aA) aC) aN) aN)))
theorem ztc (T : Txt K mg A) : FnOk P w K mg base CX0 1 A.zbe A.zkS zIo (SpF (bk K A) 2 zbe) :=
  T.zk0.okJ zsT rfl fun jx =>
   (zag (zbm (zaz (zep jx) (zaV jx (zab 0) zai) zaq (zao _))
    (zah (zam (JD.asE (zdT (zep jx) (zaV jx (zab 1) zai) zaq (zao _)))))
    zaG)
   (zag (zbm (zaz (zep jx) (zaV jx (zab 0) zai) zaq (zao _))
    (zah (zam (JD.asE (zo8 (zdT (zep jx) (zaV jx (zab 1) zai) zaq (zao _)) (zo7 (zdT (zep jx) (zaV jx (zab 1) zai) (zaV jx (zab 0) zai) (zao _)))))))
    zaG)
   (zag (zbm (zaz (zep jx) (zaV jx (zab 0) zai) zaq (zao _))
    (zah (zam (JD.asE (zo8 (zdT (zvM jx) (zaV jx (zab 1) zai) zaq (zao _)) (zo7 (zdT (zep jx) (zaV jx (zab 1) zai) (zaV jx (zab 0) zai) (zao _)))))))
    zaG)
   (zah (zam (JD.asE (zo8 (zdT (zep jx) (zaV jx (zab 1) zai) (zaV jx (zab 0) zai) (zao _)) (zo7 (zdT (zep jx) (zaV jx (zab 1) zai) (zaV jx (zab 0) zai) (zao _))))))))))
theorem zn7 (T : Txt K mg A) : FnOk P w K mg base CX0 4 A.zbD A.zgi zJI (SpF (bk K A) 3 zbD) :=
  T.zgk.okJ zcU rfl fun jx =>
   (zag (ziN jx 3 (L' := [1]) (fun _ => zcU.nd) (NX := zKQ) (SX := zaf zec) (N := ["_law_kind", "_law_rule_here"]) (own := 1) (fi := [1]) ⟨rfl, by decide +kernel, by decide +kernel, by decide +kernel, rfl, by decide +kernel⟩ (zdi jx (JE.asD (zcR (zaa zaq (zaa zaq (zaa zaq (zaa zaq (zaa zaq (zaa zaq zae aC) aC) aC) aC) aC) aC)))) (zau 0 (fun _ => (show (["_law_kind", "_law_rule_here"] : List Str).Nodup by decide +kernel)) (fun _ => Or.inl rfl)) zc0 (zdT (zep (JX.comp jx _ _)) (zaV (JX.comp jx _ _) (zab 1) zai) (zab 0) (zao _)))
   (zag (zbm (JW.t (zsG (zaz (zvM jx) (JE.asD (zaA jx (zvh T) (by decide) T.zjg T.zmc.kp (zwd T) zad (zaa (zab 0) zae aN) aN)) (JE.asD (zbl jx (zab 3) (JE.asD (zcR (zaa zuF zae aC))))) (zao _)) (zoo (zgT (zdQ (JE.asD (zaA jx (zoZ T) (by decide) T.zg2 T.zjO.kp (zqG T) zad (zaa (JE.asD (JE.or (zaH jx (cn := 0) (zab 0) T.zho T.zqn (zqS T) (by decide) (zry T) rfl zad)
      (JE.or (zaH jx (cn := 1) (zab 0) T.zgl T.zqq (zqT T) (by decide) (zrz T) rfl zad)
      (JE.or (zaH jx (cn := 3) (zab 0) T.ziE T.zqs (zqU T) (by decide) (zrA T) rfl zad)
      (JE.or (zaH jx (cn := 4) (zab 0) T.zk2 T.zrp (zrL T) (by decide) (zs6 T) rfl zad)
      (JE.or (zaH jx (cn := 5) (zab 0) T.zhp T.zqv (zqV T) (by decide) (zrB T) rfl zad)
      (zaH jx (cn := 8) (zab 0) T.zgm T.zqy (zqW T) (by decide) (zrC T) rfl zad))))))) (zaa (zdT (zyF jx) (zaV jx (zab 1) zai) (JE.asD (zcR (zaa zaq (zaa zaq (zaa zaq zae aC) aC) aC))) rfl) zae aP) aL) aL)))))))
    (zah (zam (JD.asE zuF)))
    zaG)
   (zag (zbm (JW.t (zsG (zaz (zvM jx) (JE.asD (JE.or (zaH jx (cn := 0) (zab 0) T.zho T.zqo (zqJ T) (by decide) (zsc T) rfl zad)
      (JE.or (zaH jx (cn := 1) (zab 0) T.zgl T.zv5 (zwj T) (by decide) (zys T) rfl zad)
      (JE.or (zaH jx (cn := 3) (zab 0) T.ziE T.zqt (zqM T) (by decide) (zsd T) rfl zad)
      (JE.or (zaH jx (cn := 4) (zab 0) T.zk2 T.zym (zyw T) (by decide) (zAp T) rfl zad)
      (JE.or (zaH jx (cn := 5) (zab 0) T.zhp T.zqw (zqO T) (by decide) (zse T) rfl zad)
      (zaH jx (cn := 8) (zab 0) T.zgm T.zv6 (zwk T) (by decide) (zyt T) rfl zad))))))) (JE.asD (zaA jx (zn1 T) (by decide) T.zdu T.zkX.kp (zqE T) zad (zaa (zab 1) zae aN) aN)) (zao _)) (zsG (zaz (zvM jx) (JE.asD (JE.or (zaH jx (cn := 0) (zab 0) T.zho T.zgB (zgI T) (by decide) (zh5 T) rfl zad)
      (JE.or (zaH jx (cn := 1) (zab 0) T.zgl T.zgC (zgJ T) (by decide) (zh6 T) rfl zad)
      (JE.or (zaH jx (cn := 3) (zab 0) T.ziE T.zgD (zgK T) (by decide) (zh7 T) rfl zad)
      (JE.or (zaH jx (cn := 4) (zab 0) T.zk2 T.zh3 (zia T) (by decide) (zjP T) rfl zad)
      (JE.or (zaH jx (cn := 5) (zab 0) T.zhp T.zgE (zgL T) (by decide) (zh8 T) rfl zad)
      (zaH jx (cn := 8) (zab 0) T.zgm T.zgG (zgM T) (by decide) (zh9 T) rfl zad))))))) (JE.asD (zaA jx (zoY T) (by decide) T.zcJ T.zjN.kp (zqF T) zad (zaa (zab 1) zae aN) aN)) (zao _)) (zoo (zgT (zdQ (JE.asD (zaM jx (zln jx (zgt T)) T.zaL PyProof.Rows.Boot.«isinstance» (zaa (JE.asD (JE.or (zaH jx (cn := 0) (zab 0) T.zho T.zgB (zgI T) (by decide) (zh5 T) rfl zad)
      (JE.or (zaH jx (cn := 1) (zab 0) T.zgl T.zgC (zgJ T) (by decide) (zh6 T) rfl zad)
      (JE.or (zaH jx (cn := 3) (zab 0) T.ziE T.zgD (zgK T) (by decide) (zh7 T) rfl zad)
      (JE.or (zaH jx (cn := 4) (zab 0) T.zk2 T.zh3 (zia T) (by decide) (zjP T) rfl zad)
      (JE.or (zaH jx (cn := 5) (zab 0) T.zhp T.zgE (zgL T) (by decide) (zh8 T) rfl zad)
      (zaH jx (cn := 8) (zab 0) T.zgm T.zgG (zgM T) (by decide) (zh9 T) rfl zad))))))) (zaa (zCb jx T.zlN PyProof.Rows.Boot.«list») zae aN) aL) aL))))))))
    (zah (zam (JD.asE zuF)))
    zaG)
   (zag (zEI jx (JE.or (zaH jx (cn := 0) (zab 0) T.zho T.zgB (zgI T) (by decide) (zh5 T) rfl zad)
      (JE.or (zaH jx (cn := 1) (zab 0) T.zgl T.zgC (zgJ T) (by decide) (zh6 T) rfl zad)
      (JE.or (zaH jx (cn := 3) (zab 0) T.ziE T.zgD (zgK T) (by decide) (zh7 T) rfl zad)
      (JE.or (zaH jx (cn := 4) (zab 0) T.zk2 T.zh3 (zia T) (by decide) (zjP T) rfl zad)
      (JE.or (zaH jx (cn := 5) (zab 0) T.zhp T.zgE (zgL T) (by decide) (zh8 T) rfl zad)
      (zaH jx (cn := 8) (zab 0) T.zgm T.zgG (zgM T) (by decide) (zh9 T) rfl zad)))))) zaq aC)
   (zag (zmp jx (zxp jx [] (zcR (zaa zaq (zaa zaq (zaa zaq zae aC) aC) aC))) (zau 4 (fun _ => zcU.nd) (fun _ => (Or.inl rfl)))
    (show JB _ _ _ zbQ from (zah (zmp jx (zxp jx [2] (JD.asE (zaV jx (zab 2) zai))) (zau 5 (fun _ => zcU.nd) (fun _ => (Or.inl rfl)))
      (show JB _ _ _ zbP from (zag (zaJ 6 (L' := [2, 4, 5]) (fun _ => zcU.nd) (fun _ => (Or.inl rfl)) (JD.asE (zct (zaa (zab 4) (zaa (zaV jx (zaV jx (zab 2) zai) zai) (zaa (zab 5) (zaa (zaV jx (zaV jx (zab 2) zai) (zJt (JE.asD (zcO jx zHn T.zv7 PyProof.Rows.Boot.«int» (zaa (zdT (zvM jx) (zab 4) zaq (zao _)) zae aP) aP)))) zae aS) aN) aS) aN))))
       (zah (zbm (zgT (zdQ (JE.asD (zaA jx (zoZ T) (by decide) T.zg2 T.zjO.kp (zqG T) zad (zaa (JE.asD (JE.or (zb3 jx (cn := 0) (zab 0) T.zho T.znS (zn2 T) (by decide) (zpg T) rfl zad (zaa (zab 6) zae aN) aN)
      (JE.or (zb3 jx (cn := 1) (zab 0) T.zgl T.znT (zn3 T) (by decide) (zph T) rfl zad (zaa (zab 6) zae aN) aN)
      (JE.or (zb3 jx (cn := 3) (zab 0) T.ziE T.znU (zn4 T) (by decide) (zpi T) rfl zad (zaa (zab 6) zae aN) aN)
      (JE.or (zb3 jx (cn := 4) (zab 0) T.zk2 T.zpd (zpp T) (by decide) (zqH T) rfl zad (zaa (zab 6) zae aN) aN)
      (JE.or (zb3 jx (cn := 5) (zab 0) T.zhp T.znV (zn5 T) (by decide) (zpj T) rfl zad (zaa (zab 6) zae aN) aN)
      (zb3 jx (cn := 8) (zab 0) T.zgm T.znW (zn6 T) (by decide) (zpk T) rfl zad (zaa (zab 6) zae aN) aN))))))) (zaa (JE.asD (zaA jx (ztc T) (by decide) T.zcB T.zk0.kp (zvb T) zad (zaa (zab 1) (zaa (zab 6) zae aN) aN) aN)) zae aL) aL) aL))))
        (zah (zam (JD.asE zuF)))
        zaG))))))))
   (zah (zam (JD.asE (zdT (zep jx) (JE.asD (JE.or (zaH jx (cn := 0) (zab 0) T.zho T.zgB (zgI T) (by decide) (zh5 T) rfl zad)
      (JE.or (zaH jx (cn := 1) (zab 0) T.zgl T.zgC (zgJ T) (by decide) (zh6 T) rfl zad)
      (JE.or (zaH jx (cn := 3) (zab 0) T.ziE T.zgD (zgK T) (by decide) (zh7 T) rfl zad)
      (JE.or (zaH jx (cn := 4) (zab 0) T.zk2 T.zh3 (zia T) (by decide) (zjP T) rfl zad)
      (JE.or (zaH jx (cn := 5) (zab 0) T.zhp T.zgE (zgL T) (by decide) (zh8 T) rfl zad)
      (zaH jx (cn := 8) (zab 0) T.zgm T.zgG (zgM T) (by decide) (zh9 T) rfl zad))))))) (JE.asD (zaA jx (zoY T) (by decide) T.zcJ T.zjN.kp (zqF T) zad (zaa (zab 1) zae aN) aN)) (zao _))))))))))
theorem ztd (T : Txt K mg A) : FnOk P w K mg base CX0 2 A.zbf A.zkT zJK (SpF (bk K A) 2 zbf) :=
  T.zk1.okJ zjt rfl fun jx =>
   (zag (zbm (zaz (zyF jx) (zaV jx (zab 1) zai) (JE.asD (zcR (zaa zaq (zaa zaq zae aC) aC))) rfl)
    (zag (zaJ 2 (L' := []) (fun _ => zjt.nd) (fun _ => (Or.inl rfl)) (zcR (zaa (zav jx 0 (zaO T) (zab 0)) (zaa (zav jx 0 (zmZ T) (zab 0)) (zaa (JE.asD (zdq jx (NX := zJH) (SX := zaf zfl) (N := nL9) (own := 1) (fi := []) ⟨rfl, by decide +kernel, by decide +kernel, by decide +kernel, rfl, by decide +kernel⟩ (zdi jx (zav jx 0 (zca T) (zab 0))) (zau 0 (fun _ => (show (nL9 : List Str).Nodup by decide +kernel)) (fun _ => Or.inl rfl)) zc0 (zct (zaa (JE.asD (zya (JX.comp jx _ _) (JE.asD (JE.or (zaH (JX.comp jx _ _) (cn := 2) (zab 0) T.zr9 T.zld (zlg T) (by decide) (zmW T) rfl zad)
      (zaH (JX.comp jx _ _) (cn := 6) (zab 0) T.zsa T.zle (zlh T) (by decide) (zmX T) rfl zad))) zgU (zed zai))) (zaa (zav (JX.comp jx _ _) 0 (zaO T) (zab 0)) zae aA) aS)))) zae aM) aA) aA)))
     (zah (zam (JD.asE (zo8 (zdT (zep jx) (zab 2) (JE.asD (zcO jx (zuH jx) T.zlN PyProof.Rows.Boot.«list» (zaa (JE.asD (zya jx (zab 1) (zed zai) zgU)) zae aS) aS)) (zao _)) (zo7 (JE.asD (zaM jx (zln jx (zgt T)) T.zaL PyProof.Rows.Boot.«isinstance» (zaa (zav jx 0 (zca T) (zab 0)) (zaa (zCb jx T.ze2 PyProof.Rows.Boot.«tuple») zae aN) aA) aA))))))))
    zaG)
   (zag (zbm (zaz (zep jx) (zaV jx (zab 1) zai) zaq (zao _))
    (zag (zaJ 2 (L' := []) (fun _ => zjt.nd) (fun _ => (Or.inl rfl)) (zcR (zaa (zav jx 0 (zaO T) (zab 0)) (zaa (JE.asD (zdq jx (NX := zJH) (SX := zaf zfl) (N := nL9) (own := 1) (fi := []) ⟨rfl, by decide +kernel, by decide +kernel, by decide +kernel, rfl, by decide +kernel⟩ (zdi jx (zav jx 0 (zca T) (zab 0))) (zau 0 (fun _ => (show (nL9 : List Str).Nodup by decide +kernel)) (fun _ => Or.inl rfl)) zc0 (zct (zaa (JE.asD (zya (JX.comp jx _ _) (JE.asD (JE.or (zaH (JX.comp jx _ _) (cn := 2) (zab 0) T.zr9 T.zld (zlg T) (by decide) (zmW T) rfl zad)
      (zaH (JX.comp jx _ _) (cn := 6) (zab 0) T.zsa T.zle (zlh T) (by decide) (zmX T) rfl zad))) zgU (zed zai))) (zaa (zav (JX.comp jx _ _) 0 (zaO T) (zab 0)) zae aA) aS)))) zae aM) aA)))
     (zah (zam (JD.asE (zo8 (zdT (zep jx) (zab 2) (JE.asD (zcO jx (zuH jx) T.zlN PyProof.Rows.Boot.«list» (zaa (JE.asD (zya jx (zab 1) (zed zai) zgU)) zae aS) aS)) (zao _)) (zo7 (JE.asD (zaM jx (zln jx (zgt T)) T.zaL PyProof.Rows.Boot.«isinstance» (zaa (zav jx 0 (zca T) (zab 0)) (zaa (zCb jx T.ze2 PyProof.Rows.Boot.«tuple») zae aN) aA) aA))))))))
    zaG)
   (zag (zbm (zaz (zep jx) (zaV jx (zab 1) zai) zaq (zao _))
    (zah (zam (JD.asE (zdT (zep jx) (JE.asD (zcR (zaa (zav jx 0 (zqI T) (zab 0)) (zaa (zav jx 0 (zk4 T) (zab 0)) zae aA) aA))) (JE.asD (zcO jx (zuH jx) T.zlN PyProof.Rows.Boot.«list» (zaa (JE.asD (zya jx (zab 1) (zed zai) zgU)) zae aS) aS)) (zao _)))))
    zaG)
   (zag (zbm (zaz (zep jx) (zaV jx (zab 1) zai) zaq (zao _))
    (zah (zam (JD.asE (zdT (zep jx) (JE.asD (zcR (zaa (zav jx 0 (zpv T) (zab 0)) (zaa (zav jx 0 (zaO T) (zab 0)) zae aA) aA))) (JE.asD (zcO jx (zuH jx) T.zlN PyProof.Rows.Boot.«list» (zaa (JE.asD (zya jx (zab 1) (zed zai) zgU)) zae aS) aS)) (zao _)))))
    zaG)
   (zah (zam (JD.asE (zdT (zep jx) (zav jx 0 (zaO T) (zab 0)) (zaV jx (zab 1) zai) (zao _)))))))))
theorem zwl (T : Txt K mg A) : FnOk P w K mg base CX0 9 A.zdP A.znL zJG (SpF (bk K A) 3 zdP) :=
  T.znR.okJ zc4 rfl fun jx =>
   (zag (zaJ 3 (L' := [2]) (fun _ => zc4.nd) (fun _ => (Or.inl rfl)) (zaA jx (zm1 T) (by decide) T.zfd T.zh1.kp (zoU T) zad (zaa (zab 2) (zaa zai zae aC) aN) aN))
   (zag (zaJ 4 (L' := [1, 3]) (fun _ => zc4.nd) (fun _ => (Or.inl rfl)) (zaA jx (zwf T) (by decide) T.zng T.znN.kp (zyo T) zad (zaa (zab 3) (zaa (zab 1) zae aN) aN) aN))
   (zag (zaJ 5 (L' := [4]) (fun _ => zc4.nd) (fun _ => (Or.inl rfl)) (zaA jx (zwg T) (by decide) T.zdO T.znO.kp (zyp T) zad (zaa (zab 4) zae aN) aN))
   (zag (zbm (JW.t (zsG (zgT (zdQ (JE.asD (zaA jx (zn7 T) (by decide) T.zc8 T.zgk.kp (zpl T) zad (zaa (zab 5) (zaa (zab 4) (zaa (zab 1) zae aN) aN) aN) aN)))) (zoo (zgT (zdQ (JE.asD (zaA jx (ztd T) (by decide) T.zcC T.zk1.kp (zvc T) zad (zaa (zab 5) (zaa (zab 4) zae aN) aN) aN)))))))
    (zah (zam (JD.asE zuF)))
    zaG)
   (zag (zaJ 6 (L' := [1, 3, 4]) (fun _ => zc4.nd) (fun _ => (Or.inl rfl)) (zaA jx (zwh T) (by decide) T.zdb T.znP.kp (zyq T) zad (zaa (JE.asD (zya jx (zab 3) (zed zai) (zed zai))) (zaa (zab 1) (zaa (zab 4) zae aN) aN) aS) aS))
   (zag (zaJ 7 (L' := [1]) (fun _ => zc4.nd) (fun _ => (Or.inr rfl)) (JD.asE (zgx (fun _ => zCF) zCR zai (JE.asD (zsF (JE.asD (zaM jx (zfc jx) T.zeo PyProof.Rows.Boot.«len» (zaa (zaV jx (zab 1) zai) zae aS) aS)) (JE.asD (zaM jx (zfc jx) T.zeo PyProof.Rows.Boot.«len» (zaa (zaV jx (zab 1) zai) zae aS) aS)))))))
   (zag (zmp jx (zxp jx [3, 7] (zbl jx (JE.asD (zcR (zaa zai (zaa (zgx (fun _ => zF0) zGX (zab 7) zai) zae aB) aC))) (JE.asD (zdq jx (NX := nL6) (SX := zaf zlc) (N := zHz) (own := 1) (fi := [7]) ⟨rfl, by decide +kernel, by decide +kernel, by decide +kernel, rfl, by decide +kernel⟩ (zdi jx (JE.asD (zya jx (zab 3) (zed zai) (zed zai)))) (zau 0 (fun _ => (show (zHz : List Str).Nodup by decide +kernel)) (fun _ => Or.inl rfl)) zc0 (zgx (fun _ => zcr) zcs (zab 0) (zab 1)))))) (zau 8 (fun _ => zc4.nd) (fun _ => (Or.inl rfl)))
    (show JB _ _ _ zdw from (zag (zaJ 9 (L' := [0, 5, 6, 8]) (fun _ => zc4.nd) (fun _ => (Or.inl rfl)) (JE.or (zb3 jx (cn := 0) (zab 5) T.zho T.zqm (zqK T) (by decide) (zrs T) rfl zad (zaa (zab 0) (zaa (zab 8) (zaa (zab 6) zae aN) aN) aN) aN)
      (JE.or (zb3 jx (cn := 1) (zab 5) T.zgl T.zqp (zqL T) (by decide) (zrt T) rfl zad (zaa (zab 0) (zaa (zab 8) (zaa (zab 6) zae aN) aN) aN) aN)
      (JE.or (zb3 jx (cn := 3) (zab 5) T.ziE T.zqr (zqN T) (by decide) (zru T) rfl zad (zaa (zab 0) (zaa (zab 8) (zaa (zab 6) zae aN) aN) aN) aN)
      (JE.or (zb3 jx (cn := 4) (zab 5) T.zk2 T.zro (zrJ T) (by decide) (zs4 T) rfl zad (zaa (zab 0) (zaa (zab 8) (zaa (zab 6) zae aN) aN) aN) aN)
      (JE.or (zb3 jx (cn := 5) (zab 5) T.zhp T.zqu (zqP T) (by decide) (zrv T) rfl zad (zaa (zab 0) (zaa (zab 8) (zaa (zab 6) zae aN) aN) aN) aN)
      (zb3 jx (cn := 8) (zab 5) T.zgm T.zqx (zqQ T) (by decide) (zrw T) rfl zad (zaa (zab 0) (zaa (zab 8) (zaa (zab 6) zae aN) aN) aN) aN)))))))
     (zag (zaJ 10 (L' := [1, 4, 6, 8]) (fun _ => zc4.nd) (fun _ => (Or.inl rfl)) (zaA jx (zrK T) (by decide) T.zev T.zjM.kp (zs5 T) zad (zaa (zab 1) (zaa (zab 8) (zaa (zab 4) (zaa (zab 6) zae aN) aN) aN) aN) aN))
     (zah (zbm (JW.t (zsG (zaz (zvM jx) (zab 9) (zab 10) (zao _)) (zoo (zaz (zvM jx) (zdT zKK (zab 9) zuG (zao _)) (zdT zKK (zab 10) zuG (zao _)) (zao _)))))
      (zah (zam (JD.asE zuF)))
      zaG))))))
   (zah (zam (JD.asE zuF))))))))))
theorem zHK (T : Txt K mg A) : FnOk P w K mg base CX0 10 A.zvT A.zES ["_law_script"] (SpF (bk K A) 1 zvT) :=
  T.zJQ.okJ zxr rfl fun jx =>
   (zag (zaJ 1 (L' := [0]) (fun _ => zxr.nd) (fun _ => (Or.inl rfl)) (zaA jx (zs7 T) (by decide) T.zfe T.zkU.kp (zu5 T) zad (zaa (JE.asD (zaA jx (zlP T) (by decide) T.zdI T.zgA.kp (zmV T) zad (zaa (zab 0) (zaa zai zae aC) aN) aN)) zae aL) aL))
   (zag (zaJ 2 (L' := [1]) (fun _ => zxr.nd) (fun _ => (Or.inl rfl)) (zkg jx (cn := 7) T.zCl (zpn T) (by decide) T.zAi (zqB T) rfl zdp (zaa (zaV jx (zab 1) zai) (zaa (zaV jx (zab 1) zai) (zaa (zaV jx (zab 1) zai) zae aS) aS) aS) aS))
   (zag (zmp jx (zz2 jx T.ze1 (zaa zai (zaa (JE.asD (zaM jx (zJu jx) T.zAl PyProof.Rows.Boot.«max» (zaa zai (zaa (JE.asD (zaM jx (zJv jx) T.zAm PyProof.Rows.Boot.«min» (zaa (JE.asD (zaM jx (zfc jx) T.zeo PyProof.Rows.Boot.«len» (zaa (zab 0) zae aN) aN)) (zaa zai zae aC) aL) aL)) zae aL) aC) aC)) zae aL) aC)) (zau 3 (fun _ => zxr.nd) (fun _ => (Or.inl rfl)))
    (show JB _ _ _ zlT from (zah (zbm (zgT (zdQ (JE.asD (zaA jx (zwl T) (by decide) T.ziV T.znR.kp (zyu T) zad (zaa (zab 2) (zaa (zab 1) (zaa (JE.asD (zaA jx (zlP T) (by decide) T.zdI T.zgA.kp (zmV T) zad (zaa (zab 0) (zaa (zab 3) zae aN) aN) aN)) zae aL) aN) aN) aN))))
      (zah (zam (JD.asE zuF)))
      zaG))))
   (zah (zam (JD.asE zuF))))))
end
end My
namespace My
open PySem L2 M1
@[simp] theorem zKY:zEt "str" "str"=some true:=rfl
@[simp] theorem zKZ:zEt "int" "int"=some true:=rfl
@[simp] theorem zK0:zEt "int" "bool"=some false:=rfl
theorem zAq {z:Str} (h:z.length≤6):z.length≤sizeLine:=Nat.le_trans h (by rw [zar]; omega)
theorem zJT (cs:List Nat) (h:∀ c∈cs,c∈zjd):∀ x:Option D,zcN (gN 0) zdo (m2 oIn (mV 0) (mC (.str "abcdefghijklmnopqrstuvwxyz"))) (cs.map fun c=>.str ⟨#[c]⟩) [oD' x]=some (cs.map fun _=>.bl true):=by
 induction cs with
 | nil=>intro x; rfl
 | cons c cs ih=>
  intro x
  have hc:inB (.str ⟨#[c]⟩) (.str "abcdefghijklmnopqrstuvwxyz")=some true:=congrArg some (zz3 c (h c (by simp)))
  have i:=ih (fun y hy=>h y (by simp [hy])) (some (.str ⟨#[c]⟩))
  simp only [oD',Option.map_some] at i
  rw [List.map_cons,zcN]
  simp [oIn,hc,i]
theorem zAr {α:Type} (cs:List α):zHd (cs.map fun _=>.bl true)=some (cs.map fun _=>true):=by
 induction cs with
 | nil=>rfl
 | cons c cs ih=>simp [ih]
theorem zHL {z:Str} (g:Good z):zdU [.str z]=some (.sh (.bl true)):=by
 have s:=zJT z.cps.toList g.all none
 simp only [oD',Option.map_none] at s
 have hl:=zAq g.hi
 have h1:¬ ((z.length:Int) < 1):=by have:=g.lo; omega
 have h2:¬ ((6:Int) < (z.length:Int)):=by have:=g.hi; omega
 have hc:z.cps.size≤sizeLine:=hl
 have e1:zmo tab [.str z,.ty "str"]=some (.sh (.bl true)):=rfl
 simp [zdU,zaD,zmr,e1,hl,h1,h2,zzz,hc,s,zAr]
theorem zsg (s0 s1:Option SV):∀ (ys xs:List Str) (x:Option D),(xs++ys).Nodup→(∀ z∈xs++ys,Good z)→xs.length+ys.length < sizeLine→∃ y,
  zbj (gN 3) zcg (ys.map D.str) [s0,s1,some (.li (xs.map D.str)),oD' x]=.nx [s0,s1,some (.li ((xs++ys).map D.str)),oD' y]
 | [],xs,x,_,_,_=>⟨x,by simp [zbj]⟩
 | z :: ys,xs,x,nd,g,hl=>by
  simp only [List.length_cons] at hl
  have nd':((xs++[z])++ys).Nodup:=by simpa using nd
  obtain ⟨y,h⟩:=zsg s0 s1 ys (xs++[z]) (some (.str z)) nd' (by simpa using g) (by simp; omega)
  refine ⟨y,?_⟩
  have gz:Good z:=g z (by simp)
  have hn:z∉xs:=by
   intro hz
   rw [List.nodup_append] at nd
   exact nd.2.2 z hz z (by simp) rfl
  have hi:=zC2 gz.ok (zs:=xs) fun w hw=>(g w (by simp [hw])).ok
  rw [decide_eq_false hn] at hi
  have hx:xs.length < sizeLine:=by omega
  have e:xs++z :: ys=(xs++[z])++ys:=by simp
  rw [e,← h,List.map_cons,zbj]
  simp [zcg,ziO,zHL gz,oIn,hi,hx]
theorem zAs {zs:List Str} {n:Nat} (nd:zs.Nodup) (g:∀ z∈zs,Good z) (h1:1≤zs.length) (h2:zs.length≤n) (hn:n≤100):zaX [.lst (zs.map D.str),.int n]=some (.sh (.tup (zs.map D.str))):=by
 obtain ⟨y,h⟩:=zsg (some (.sh (.lst (zs.map D.str)))) (some (.sh (.int n))) zs [] none (by simpa using nd) (by simpa using g) (by rw [zar]; simp; omega)
 simp only [oD',Option.map_none,List.map_nil,List.nil_append] at h
 have c1:¬ ((zs.length:Int) < 1):=by omega
 have c2:¬ ((n:Int) < (zs.length:Int)):=by omega
 simp [zaX,zaD,zdr,zkk,c1,c2,h]
theorem zte {z:Str} {zs:List Str} (hz:Ok z) (h:∀ x∈zs,Ok x):zbG [.str z,.tup (zs.map D.str)]=some (.sh (.bl (decide (z∈zs)))):=by
 have e1:zmo tab [.str z,.ty "str"]=some (.sh (.bl true)):=rfl
 simp [zbG,zaD,zeS,e1,oIn,zLf hz h]
def zhV (y:Str) (fs:List Str) (p:Pr):List Str:=if p.2=y∧p.1∉fs then fs++[p.1] else fs
def zhT (y:Str) (ps:List Pr) (fs:List Str):List Str:=ps.foldl (zhV y) fs
theorem zvi (y:Str) (fs:List Str) (p:Pr) (x:Str):x∈zhV y fs p↔x∈fs∨(p.2=y∧x=p.1):=by
 unfold zhV
 by_cases c:p.2=y∧p.1∉fs
 ·rw [if_pos c]
  simp only [List.mem_append,List.mem_singleton]
  constructor
  ·rintro (h | h)
   ·exact .inl h
   ·exact .inr ⟨c.1,h⟩
  ·rintro (h | ⟨_,h⟩)
   ·exact .inl h
   ·exact .inr h
 ·rw [if_neg c]
  constructor
  ·exact fun h=>.inl h
  ·rintro (h | ⟨h1,rfl⟩)
   ·exact h
   ·exact Classical.byContradiction fun n=>c ⟨h1,n⟩
theorem zsh (y:Str):∀ (ps:List Pr) (fs:List Str) (x:Str),x∈zhT y ps fs↔x∈fs∨(x,y)∈ps
 | [],fs,x=>by simp [zhT]
 | p :: ps,fs,x=>by
  rw [show zhT y (p :: ps) fs=zhT y ps (zhV y fs p) from rfl,zsh y ps,zvi]
  constructor
  ·rintro ((h | ⟨h1,h2⟩) | h)
   ·exact .inl h
   ·exact .inr (by rw [h2,← h1]; simp)
   ·exact .inr (by simp [h])
  ·rintro (h | h)
   ·exact .inl (.inl h)
   ·rcases List.mem_cons.mp h with h | h
    ·exact .inl (.inr ⟨by rw [← h],by rw [← h]⟩)
    ·exact .inr h
theorem zwm {y:Str} {fs:List Str} {p:Pr} (h:fs.Nodup):(zhV y fs p).Nodup:=by
 unfold zhV
 split
 ·rename_i c
  rw [List.nodup_append]
  exact ⟨h,by simp,fun a ha b hb=>by rw [List.mem_singleton.mp hb]; rintro rfl; exact c.2 ha⟩
 ·exact h
theorem zo0 {y:Str}:∀ {ps:List Pr} {fs:List Str},fs.Nodup→(zhT y ps fs).Nodup
 | [],_,h=>h
 | p :: ps,fs,h=>zo0 (ps:=ps) (zwm h)
theorem zsi {y:Str}:∀ (ps:List Pr) (fs:List Str),∃ r,zhT y ps fs=fs++r
 | [],fs=>⟨[],by simp [zhT]⟩
 | p :: ps,fs=>by
  obtain ⟨r,h⟩:=zsi (y:=y) ps (zhV y fs p)
  rw [show zhT y (p :: ps) fs=zhT y ps (zhV y fs p) from rfl,h]
  unfold zhV
  split
  ·exact ⟨p.1 :: r,by simp⟩
  ·exact ⟨r,rfl⟩
theorem zAt (s0 s1:Option SV) (k:Nat) (y:Str) (hy:Ok y):∀ (ps:List Pr) (fs:List Str) (x4 x5:Option D),(∀ p∈ps,OkP p)→(∀ z∈fs,Ok z)→fs[k]? = some y→fs.length+ps.length < sizeLine→∃ y4 y5,
  zbj (gSq 2 (gCs (gN 4) (gCs (gN 5) gNs))) zb2 (ps.map pD) [s0,s1,some (.li (fs.map D.str)),some (.sh (.int k)),oD' x4,oD' x5]=.nx [s0,s1,some (.li ((zhT y ps fs).map D.str)),some (.sh (.int k)),oD' y4,oD' y5]
 | [],fs,x4,x5,_,_,_,_=>⟨x4,x5,by simp [zbj,zhT]⟩
 | p :: ps,fs,x4,x5,hp,hf,hk,hl=>by
  simp only [List.length_cons] at hl
  have op:=hp p (by simp)
  have hk':(zhV y fs p)[k]? = some y:=by
   unfold zhV
   split
   ·rw [List.getElem?_append_left (List.getElem?_eq_some_iff.mp hk).1]; exact hk
   ·exact hk
  have hf':∀ z∈zhV y fs p,Ok z:=fun z hz=>by
   rcases (zvi y fs p z).mp hz with h | ⟨_,rfl⟩
   ·exact hf z h
   ·exact op.1
  have hl':(zhV y fs p).length≤fs.length+1:=by unfold zhV; split <;> simp
  obtain ⟨y4,y5,h⟩:=zAt s0 s1 k y hy ps (zhV y fs p) (some (.str p.1)) (some (.str p.2)) (fun q hq=>hp q (by simp [hq])) hf' hk' (by omega)
  refine ⟨y4,y5,?_⟩
  rw [show zhT y (p :: ps) fs=zhT y ps (zhV y fs p) from rfl,← h,List.map_cons,zbj]
  have hat:atI (fs.map D.str) (k:Int)=some (.str y):=by
   have hkl:=(List.getElem?_eq_some_iff.mp hk).1
   simp [atI,ixN,hkl,hk]
   exact (List.getElem?_eq_some_iff.mp hk).2
  have hi:=zC2 op.1 hf
  have he:=eqS op.2 hy
  have hx:fs.length < sizeLine:=by omega
  by_cases c1:p.2=y
  ·by_cases c2:p.1∈fs
   ·have ea:zhV y fs p=fs:=by unfold zhV; rw [if_neg fun z=>z.2 c2]
    rw [decide_eq_true c2] at hi
    rw [beq_iff_eq.mpr c1] at he
    rw [ea]
    simp [zb2,pD,hat,he,zke,hi]
   ·have ea:zhV y fs p=fs++[p.1]:=by unfold zhV; rw [if_pos ⟨c1,c2⟩]
    rw [decide_eq_false c2] at hi
    rw [beq_iff_eq.mpr c1] at he
    rw [ea]
    simp [zb2,pD,hat,he,zke,hi,hx]
  ·have ea:zhV y fs p=fs:=by unfold zhV; rw [if_neg fun z=>c1 z.1]
   have:(p.2==y)=false:=by simpa using c1
   rw [this] at he
   rw [ea]
   simp [zb2,pD,hat,he]
theorem zwn (d : D) (ps : List Pr) (hd : zhW d = some (ps.map pD)) (role : Str) (hr : Ok role) (hp : ∀ p ∈ ps, OkP p) (hz : 2 * ps.length + 2 < sizeLine) : ∀ (m k : Nat) (fs : List Str) (x4 x5 : Option D), ps.length + 1 - k ≤ m → k ≤ fs.length → fs.Nodup → role ∈ fs → (∀ x ∈ fs, Reach ps x role) → (∀ x ∈ fs, x ∈ role :: ps.map (·.1)) →
    (∀ j, j < k → ∀ y, fs[j]? = some y → ∀ x, (x, y) ∈ ps → x ∈ fs) → ∃ (fs' : List Str) (y4 y5 : Option D), fs'.Nodup ∧ (∀ x, x ∈ fs' ↔ Reach ps x role) ∧
      ∃ n, zdm (zaj (m2 oLt (mV 3) (mFr (m1 zll (zac (mV 2) zak))))) zcj n [some (.sh d), some (.sh (.str role)), some (.li (fs.map D.str)), some (.sh (.int k)), oD' x4, oD' x5] =
        .nx [some (.sh d), some (.sh (.str role)), some (.li (fs'.map D.str)), some (.sh (.int fs'.length)), oD' y4, oD' y5] := by
  intro m
  induction m with
  | zero =>
    intro k fs x4 x5 hm hk nd h0 h1 h2 h3
    have hlen : fs.length ≤ ps.length + 1 := by have := zpu nd h2; simpa using this
    have e : k = fs.length := by omega
    subst e
    refine ⟨fs, x4, x5, nd, zki h0 h1 fun x y hxy hy => ?_, zrV (by simp)⟩
    obtain ⟨j, hj, e⟩ := List.mem_iff_getElem.mp hy
    exact h3 j hj y (by rw [List.getElem?_eq_getElem hj, e]) x hxy
  | succ m ih =>
    intro k fs x4 x5 hm hk nd h0 h1 h2 h3
    have hlen : fs.length ≤ ps.length + 1 := by have := zpu nd h2; simpa using this
    by_cases e : k = fs.length
    · subst e
      refine ⟨fs, x4, x5, nd, zki h0 h1 fun x y hxy hy => ?_, zrV (by simp)⟩
      obtain ⟨j, hj, e⟩ := List.mem_iff_getElem.mp hy
      exact h3 j hj y (by rw [List.getElem?_eq_getElem hj, e]) x hxy
    · have hkl : k < fs.length := by omega
      have hok : ∀ z ∈ fs, Ok z := fun z hz => by
        rcases List.mem_cons.mp (h2 z hz) with rfl | h
        · exact hr
        · obtain ⟨p, hp1, rfl⟩ := List.mem_map.mp h
          exact (hp p hp1).1
      have hat : fs[k]? = some fs[k] := List.getElem?_eq_getElem hkl
      obtain ⟨z4, z5, hu⟩ := zAt (some (.sh d)) (some (.sh (.str role))) k fs[k] (hok _ (List.getElem_mem hkl)) ps fs x4 x5 hp hok hat (by omega)
      obtain ⟨r, hr2⟩ := zsi (y := fs[k]) ps fs
      have mem := zsh fs[k] ps fs
      have hlen2 : fs.length ≤ (zhT fs[k] ps fs).length := by rw [hr2]; simp
      obtain ⟨fs', y4, y5, q1, q2, q3⟩ := ih (k + 1) (zhT fs[k] ps fs) z4 z5 (by omega) (by omega) (zo0 nd) ((mem role).mpr (.inl h0))
        (fun x hx => by
          rcases (mem x).mp hx with h | h
          · exact h1 x h
          · exact .step h (h1 _ (List.getElem_mem hkl)))
        (fun x hx => by
          rcases (mem x).mp hx with h | h
          · exact h2 x h
          · exact List.mem_cons_of_mem _ (List.mem_map.mpr ⟨_, h, rfl⟩))
        (fun j hj y hy x hxy => by
          have hj' : j < fs.length := by omega
          rw [hr2, List.getElem?_append_left hj'] at hy
          by_cases c : j = k
          · subst c
            rw [hat] at hy; cases hy
            exact (mem x).mpr (.inr hxy)
          · exact (mem x).mpr (.inl (h3 j (by omega) y hy x hxy)))
      refine ⟨fs', y4, y5, q1, q2, zyd (by simp [hkl]) ?_ q3⟩
      have hu' := hu
      simp only [zcj, zkl, zaS, znb, List.getElem?_cons_zero, hd, hu']
      simp
theorem zAu {d:D} {ps:List Pr} (hd:zhW d=some (ps.map pD)) {role:Str} (hr:Ok role) (hp:∀ p∈ps,OkP p) (hz:2*ps.length+2 < sizeLine):∃ fs:List Str,fs.Nodup∧(∀ x,x∈fs↔Reach ps x role)∧zbk [d,.str role]=some (.li (fs.map D.str)):=by
 obtain ⟨fs,y4,y5,h1,h2,h3⟩:=zwn d ps hd role hr hp hz (ps.length+1) 0 [role] none none (by omega) (by simp) (by simp) (by simp) (fun x hx=>by rw [List.mem_singleton.mp hx]; exact .refl _) (fun x hx=>by simp [List.mem_singleton.mp hx]) (fun j hj=>by omega)
 refine ⟨fs,h1,h2,?_⟩
 have w:=zCg h3
 simp only [oD',Option.map_none,List.map_cons,List.map_nil] at w
 have h1:(1:Nat)≤sizeLine:=by omega
 simp only [zbk,zaD,zet,zms]
 simp [h1]
 have w':zol (zaj (m2 oLt (mV 3) (mFr (m1 zll (zac (mV 2) zak))))) zcj [some (.sh d),some (.sh (.str role)),some (.li [.str role]),some (.sh (.int 0)),none,none]=_:=w
 simp [w']
theorem zsj (s0:Option SV) (R:List Str) (hR:∀ z∈R,Ok z) (rk:Str→Nat):∀ (qs ps:List Pr) (x3 x4:Option D),(ps++qs).Nodup→(∀ p∈ps++qs,p.1∈R∧p.2∈R)→(∀ p∈ps++qs,rk p.1 < rk p.2)→2*(ps.length+qs.length)+2 < sizeLine→∃ y3 y4,
  zbj (gSq 2 (gCs (gN 3) (gCs (gN 4) gNs))) zch (qs.map pD) [s0,some (.sh (.tup (R.map D.str))),some (.li (ps.map pD)),oD' x3,oD' x4]=.nx [s0,some (.sh (.tup (R.map D.str))),some (.li ((ps++qs).map pD)),oD' y3,oD' y4]
 | [],ps,x3,x4,_,_,_,_=>⟨x3,x4,by simp [zbj]⟩
 | q :: qs,ps,x3,x4,nd,hm,hk,hl=>by
  simp only [List.length_cons] at hl
  have e0:ps++q :: qs=(ps++[q])++qs:=by simp
  rw [e0] at nd hm hk ⊢
  obtain ⟨y3,y4,h⟩:=zsj s0 R hR rk qs (ps++[q]) (some (.str q.1)) (some (.str q.2)) nd hm hk (by simp; omega)
  refine ⟨y3,y4,?_⟩
  have hq:=hm q (by simp)
  have okq:OkP q:=⟨hR _ hq.1,hR _ hq.2⟩
  have okps:∀ p∈ps,OkP p:=fun p hp=>⟨hR _ (hm p (by simp [hp])).1,hR _ (hm p (by simp [hp])).2⟩
  have g1:=zte okq.1 hR
  have g2:=zte okq.2 hR
  rw [decide_eq_true hq.1] at g1
  rw [decide_eq_true hq.2] at g2
  have nq:q∉ps:=by
   intro z
   have nd1:=(List.nodup_append.mp nd).1
   exact (List.nodup_append.mp nd1).2.2 q z q (by simp) rfl
  have g3:inB (.tup [.str q.1,.str q.2]) (.lst (ps.map pD))=some (decide (q∈ps)):=zLi okq okps
  rw [decide_eq_false nq] at g3
  obtain ⟨fs,f1,f2,f3⟩:=zAu (d:=.lst (ps.map pD)) (ps:=ps) rfl okq.1 okps (by omega)
  have nfs:q.2∉fs:=fun z=>by
   have r:=(f2 q.2).mp z
   have:=r.rank (rk:=rk) fun p hp=>hk p (by simp [hp])
   have:=hk q (by simp)
   omega
  have okf:∀ z∈fs,Ok z:=fun z hz=>by
   have r:=(f2 z).mp hz
   cases r with
   | refl=>exact okq.1
   | step h _=>exact (okps _ h).1
  have g4:=zC2 okq.2 okf
  rw [decide_eq_false nfs] at g4
  have h2:(2:Nat)≤sizeLine:=by omega
  have hx:ps.length < sizeLine:=by omega
  rw [← h,List.map_cons,zbj]
  simp [zch,ziP,pD,g1,g2,h2,oIn,g3,f3,g4,hx]
theorem zEV {ps:List Pr} {R:List Str} (hR:∀ z∈R,Ok z) {rk:Str→Nat} (nd:ps.Nodup) (hm:∀ p∈ps,p.1∈R∧p.2∈R) (hk:∀ p∈ps,rk p.1 < rk p.2) (h15:ps.length≤15):zbb [.lst (ps.map pD),.tup (R.map D.str)]=some (.sh (.tup (ps.map pD))):=by
 obtain ⟨y3,y4,h⟩:=zsj (some (.sh (.lst (ps.map pD)))) R hR rk ps [] none none (by simpa using nd) (by simpa using hm) (by simpa using hk) (by rw [zar]; simp; omega)
 simp only [oD',Option.map_none,List.map_nil,List.nil_append] at h
 have c:¬ ((15:Int) < (ps.length:Int)):=by omega
 simp [zbb,zaD,zeu,zkm,c,h]
def zxs (p:Pr):List Key:=[.inr p.1,.inr p.2]
theorem zxt {a b:Pr} (h:zxs a=zxs b):a=b:=by
 obtain ⟨a1,a2⟩:=a
 obtain ⟨b1,b2⟩:=b
 simp [zxs] at h
 simp [h]
def kvB:Nat→List Pr→List (List Key×D)
 | _,[]=>[]
 | n,p :: ps=>(zxs p,.int (2 ^ n:Nat)) :: kvB (n+1) ps
theorem zwo:∀ (n:Nat) (ps:List Pr),(kvB n ps).length=ps.length
 | _,[]=>rfl
 | n,p :: ps=>by simp [kvB,zwo (n+1) ps]
theorem zAv:∀ (n:Nat) (ps:List Pr) (p:Pr),kvB n (ps++[p])=kvB n ps++[(zxs p,.int (2 ^ (n+ps.length):Nat))]
 | n,[],p=>by simp [kvB]
 | n,q :: ps,p=>by
  simp only [List.cons_append,kvB,zAv (n+1) ps p,List.length_cons]
  rw [show n+1+ps.length=n+(ps.length+1) by omega]
theorem zAw:∀ (n:Nat) (ps:List Pr) (p:Pr),((kvB n ps).any fun kv=>decide (kv.1=zxs p))=decide (p∈ps)
 | _,[],p=>by simp [kvB]
 | n,q :: ps,p=>by
  rw [kvB,List.any_cons,zAw (n+1) ps p,Bool.eq_iff_iff]
  simp only [Bool.or_eq_true,decide_eq_true_eq,List.mem_cons]
  constructor
  ·rintro (h | h)
   ·exact .inl (zxt h).symm
   ·exact .inr h
  ·rintro (h | h)
   ·exact .inl (by rw [h])
   ·exact .inr h
theorem zEW {ps:List Pr} {p:Pr} (h:p∉ps):zB2 (kvB 0 ps) (zxs p) (.int (2 ^ ps.length:Nat))=kvB 0 (ps++[p]):=by
 unfold zB2
 rw [zAw,if_neg (by simpa using h),zAv]
 simp
theorem zAx:∀ (n:Nat) (ps:List Pr) (p:Pr),p∈ps→zrS (kvB n ps) (zxs p)=some (.int (2 ^ (n+ps.idxOf p):Nat))
 | _,[],p,h=>by simp at h
 | n,q :: ps,p,h=>by
  by_cases c:q=p
  ·subst c
   simp [kvB,zrS,List.find?_cons,List.idxOf_cons]
  ·have hp:p∈ps:=by
    rcases List.mem_cons.mp h with rfl | h
    ·exact absurd rfl c
    ·exact h
   have hk:¬ zxs q=zxs p:=fun z=>c (zxt z)
   have ih:=zAx (n+1) ps p hp
   have:zrS (kvB n (q :: ps)) (zxs p)=zrS (kvB (n+1) ps) (zxs p):=by simp [kvB,zrS,List.find?_cons,hk]
   rw [this,ih]
   have hb:(q==p)=false:=by simpa using c
   rw [List.idxOf_cons,hb]
   simp only [cond_false]
   rw [show n+1+ps.idxOf p=n+(ps.idxOf p+1) by omega]
theorem zAy (s0 s1:Option SV) (who:Str):∀ (rs:List Str) (ps:List Pr) (x5:Option D),(ps++rs.map fun r=>(who,r)).Nodup→ps.length+rs.length < sizeLine→∃ y5,
  zbj (gN 5) zb5 (rs.map D.str) [s0,s1,some (.dT (kvB 0 ps)),some (.sh (.int (2 ^ ps.length:Nat))),some (.sh (.str who)),oD' x5] =
   .nx [s0,s1,some (.dT (kvB 0 (ps++rs.map fun r=>(who,r)))),some (.sh (.int (2 ^ (ps++rs.map fun r=>(who,r)).length:Nat))),some (.sh (.str who)),oD' y5]
 | [],ps,x5,_,_=>⟨x5,by simp [zbj]⟩
 | r :: rs,ps,x5,nd,hl=>by
  simp only [List.length_cons] at hl
  have e0:ps++(r :: rs).map (fun r=>(who,r))=(ps++[(who,r)])++rs.map fun r=>(who,r):=by simp
  rw [e0] at nd ⊢
  obtain ⟨y5,h⟩:=zAy s0 s1 who rs (ps++[(who,r)]) (some (.str r)) nd (by simp; omega)
  refine ⟨y5,?_⟩
  have np:(who,r)∉ps:=by
   intro z
   have nd1:=(List.nodup_append.mp nd).1
   exact (List.nodup_append.mp nd1).2.2 _ z _ (by simp) rfl
  have h2:(2:Nat)≤sizeLine:=by omega
  have hx:(kvB 0 ps).length < sizeLine:=by rw [zwo]; omega
  have hp:=zEW np
  have ep:((2 ^ ps.length:Nat):Int)+((2 ^ ps.length:Nat):Int)=((2 ^ (ps.length+1):Nat):Int):=by rw [Nat.pow_succ]; omega
  have el:(ps++[(who,r)]).length=ps.length+1:=by simp
  rw [← h,List.map_cons,zbj,el,← hp]
  simp only [zxs] at *
  generalize (2 ^ ps.length:Nat)=w at *
  generalize (2 ^ (ps.length+1):Nat)=w2 at *
  simp [zb5,h2,hx,ep]
def zd3 (F R:List Str):List Pr:=F.flatMap fun w=>R.map fun r=>(w,r)
theorem zvj (F:List Str) (w:Str) (R:List Str):zd3 (F++[w]) R=zd3 F R++R.map fun r=>(w,r):=by simp [zd3]
theorem zqX (F R:List Str):(zd3 F R).length=F.length*R.length:=by
 induction F with
 | nil=>simp [zd3]
 | cons w F ih=>
  have:zd3 (w :: F) R=(R.map fun r=>(w,r))++zd3 F R:=rfl
  rw [this,List.length_append,List.length_map,ih,List.length_cons,Nat.add_mul,Nat.one_mul,Nat.add_comm]
theorem zqY {F R:List Str} {p:Pr}:p∈zd3 F R↔p.1∈F∧p.2∈R:=by
 unfold zd3
 rw [List.mem_flatMap]
 constructor
 ·rintro ⟨w,hw,h⟩
  obtain ⟨r,hr,rfl⟩:=List.mem_map.mp h
  exact ⟨hw,hr⟩
 ·rintro ⟨h1,h2⟩
  exact ⟨p.1,h1,List.mem_map.mpr ⟨p.2,h2,rfl⟩⟩
theorem zAz {R:List Str} (w:Str) (h:R.Nodup):(R.map fun r=>(w,r)).Nodup:=by
 rw [List.nodup_iff_pairwise_ne] at h ⊢
 rw [List.pairwise_map]
 exact h.imp fun n z=>n (by simpa using z)
theorem zqZ {R:List Str} (hR:R.Nodup):∀ {F:List Str},F.Nodup→(zd3 F R).Nodup
 | [],_=>by simp [zd3]
 | w :: F,h=>by
  obtain ⟨h1,h2⟩:=List.nodup_cons.mp h
  have:zd3 (w :: F) R=(R.map fun r=>(w,r))++zd3 F R:=rfl
  rw [this,List.nodup_append]
  refine ⟨zAz w hR,zqZ hR h2,fun a ha b hb z=>?_⟩
  obtain ⟨r,_,rfl⟩:=List.mem_map.mp ha
  subst z
  exact h1 (zqY.mp hb).1
theorem zxu (s0:Option SV) (R:List Str) (hR:R.Nodup):∀ (ws F:List Str) (x4 x5:Option D),(F++ws).Nodup→(F.length+ws.length)*R.length+R.length < sizeLine→∃ y4 y5,
  zbj (gN 4) zbL (ws.map D.str) [s0,some (.sh (.tup (R.map D.str))),some (.dT (kvB 0 (zd3 F R))),some (.sh (.int (2 ^ (zd3 F R).length:Nat))),oD' x4,oD' x5] =
   .nx [s0,some (.sh (.tup (R.map D.str))),some (.dT (kvB 0 (zd3 (F++ws) R))),some (.sh (.int (2 ^ (zd3 (F++ws) R).length:Nat))),oD' y4,oD' y5]
 | [],F,x4,x5,_,_=>⟨x4,x5,by simp [zbj]⟩
 | w :: ws,F,x4,x5,nd,hl=>by
  simp only [List.length_cons] at hl
  have e0:F++w :: ws=(F++[w])++ws:=by simp
  rw [e0] at nd ⊢
  have e1:F.length+(ws.length+1)=F.length+1+ws.length:=by omega
  obtain ⟨z5,h1⟩:=zAy s0 (some (.sh (.tup (R.map D.str)))) w R (zd3 F R) x5 (by rw [← zvj]; exact zqZ hR (List.nodup_append.mp nd).1) (by rw [zqX]; simp only [Nat.add_mul,Nat.one_mul] at hl; omega)
  obtain ⟨y4,y5,h⟩:=zxu s0 R hR ws (F++[w]) (some (.str w)) z5 nd (by simp only [List.length_append,List.length_cons,List.length_nil,Nat.zero_add]; rw [e1] at hl; exact hl)
  refine ⟨y4,y5,?_⟩
  rw [← zvj] at h1
  rw [← h,List.map_cons,zbj]
  simp only [gN,List.length_cons,List.length_nil,List.getElem?_cons_succ,List.getElem?_cons_zero,zk9,Option.join_some,zEg,List.set_cons_succ,List.set_cons_zero,and_true]
  rw [if_pos (by omega)]
  simp only [zbL,zhX,znb,List.getElem?_cons_succ,List.getElem?_cons_zero,zhW,h1,Option.map_some]
theorem zHM {F R:List Str} (hF:F.Nodup) (hR:R.Nodup) (hl:F.length*R.length+R.length < sizeLine):zaY [.tup (F.map D.str),.tup (R.map D.str)]=some (.dT (kvB 0 (zd3 F R))):=by
 obtain ⟨y4,y5,h⟩:=zxu (some (.sh (.tup (F.map D.str)))) R hR F [] none none (by simpa using hF) (by simpa using hl)
 have e0:zd3 [] R=[]:=rfl
 simp only [oD',Option.map_none,e0,kvB,List.nil_append,List.length_nil] at h
 have h':zbj (gN 4) zbL (F.map D.str) [some (.sh (.tup (F.map D.str))),some (.sh (.tup (R.map D.str))),some (.dT []),some (.sh (.int 1)),none,none]=_:=h
 simp [zaY,zaD,zd6,zjS,h']
open Classical in
noncomputable def rch (ps:List Pr) (u r:Str):Bool:=decide (Reach ps u r)
theorem zwp {ps:List Pr} {u r:Str}:rch ps u r=true↔Reach ps u r:=by simp [rch]
noncomputable def brg (ps:List Pr) (R:List Str) (r:Str):List Str:=R.filter fun u=>rch ps u r
theorem zAA {ps:List Pr} {R:List Str} {r x:Str}:x∈brg ps R r↔x∈R∧Reach ps x r:=by simp [brg,zwp]
theorem zwq (fs:List Str) (hf:∀ z∈fs,Ok z) (p:Str→Bool) (hp:∀ x,p x=decide (x∈fs)):∀ (xs:List Str) (x:Option D),(∀ z∈xs,Ok z)→
  zcN (gN 0) (zaj (m2 oIn (mV 0) (mV 1))) (mV 0) (xs.map D.str) [oD' x,some (.sh (.lst (fs.map D.str)))]=some ((xs.filter p).map D.str)
 | [],_,_=>rfl
 | z :: xs,x,h=>by
  have ih:=zwq fs hf p hp xs (some (.str z)) fun w hw=>h w (by simp [hw])
  simp only [oD',Option.map_some] at ih
  have hi:=zC2 (h z (by simp)) hf
  rw [List.map_cons,zcN,List.filter_cons,hp z]
  by_cases c:z∈fs
  ·rw [decide_eq_true c] at hi
   simp [oIn,hi,ih,c]
  ·rw [decide_eq_false c] at hi
   simp [oIn,hi,ih,c]
noncomputable def kvR (ps:List Pr) (R rs:List Str):List (Key×D):=rs.map fun r=>(.inr r,.tup ((brg ps R r).map D.str))
theorem zEX {ps:List Pr} {R rs:List Str} {r:Str} (h:r∉rs):zB2 (kvR ps R rs) (.inr r) (.tup ((brg ps R r).map D.str))=kvR ps R (rs++[r]):=by
 unfold zB2
 have:((kvR ps R rs).any fun kv=>decide (kv.1=Sum.inr r))=decide (r∈rs):=by
  unfold kvR
  rw [List.any_map,Bool.eq_iff_iff]
  simp
 rw [this,if_neg (by simpa using h)]
 simp [kvR]
theorem zAB {ps:List Pr} {R:List Str} {r:Str}:∀ {rs:List Str},r∈rs→zrS (kvR ps R rs) (.inr r)=some (.tup ((brg ps R r).map D.str))
 | [],h=>by simp at h
 | q :: rs,h=>by
  by_cases c:q=r
  ·subst c; simp [kvR,zrS,List.find?_cons]
  ·have hr:r∈rs:=by
    rcases List.mem_cons.mp h with rfl | h
    ·exact absurd rfl c
    ·exact h
   have ih:=zAB (ps:=ps) (R:=R) hr
   have:zrS (kvR ps R (q :: rs)) (.inr r)=zrS (kvR ps R rs) (.inr r):=by simp [kvR,zrS,List.find?_cons,c]
   rw [this,ih]
theorem zvk (ps:List Pr) (R:List Str) (hR:∀ z∈R,Ok z) (hp:∀ p∈ps,OkP p) (hz:2*ps.length+2 < sizeLine):∀ (qs rs:List Str) (x3:Option D) (x4:Option SV),lkO x4=false→(rs++qs).Nodup→(∀ z∈qs,Ok z)→rs.length+qs.length < sizeLine→R.length≤sizeLine→∃ y3 y4,lkO y4=false∧
  zbj (gN 3) zbH (qs.map D.str) [some (.sh (.tup (R.map D.str))),some (.sh (.tup (ps.map pD))),some (.dK (kvR ps R rs)),oD' x3,x4] =
   .nx [some (.sh (.tup (R.map D.str))),some (.sh (.tup (ps.map pD))),some (.dK (kvR ps R (rs++qs))),oD' y3,y4]
 | [],rs,x3,x4,h4,_,_,_,_=>⟨x3,x4,h4,by simp [zbj]⟩
 | q :: qs,rs,x3,x4,h4,nd,ho,hl,hRl=>by
  simp only [List.length_cons] at hl
  have e0:rs++q :: qs=(rs++[q])++qs:=by simp
  rw [e0] at nd ⊢
  obtain ⟨fs,f1,f2,f3⟩:=zAu (d:=.tup (ps.map pD)) (ps:=ps) rfl (ho q (by simp)) hp hz
  have okf:∀ z∈fs,Ok z:=fun z hz=>by
   have r:=(f2 z).mp hz
   cases r with
   | refl=>exact ho q (by simp)
   | step h _=>exact (hp _ h).1
  obtain ⟨y3,y4,e4,h⟩:=zvk ps R hR hp hz qs (rs++[q]) (some (.str q)) (some (.li (fs.map D.str))) rfl nd (fun z hz=>ho z (by simp [hz])) (by simp; omega) hRl
  refine ⟨y3,y4,e4,?_⟩
  have np:q∉rs:=by
   intro z
   have nd1:=(List.nodup_append.mp nd).1
   exact (List.nodup_append.mp nd1).2.2 _ z _ (by simp) rfl
  have hc:=zwq fs okf (fun u=>rch ps u q) (fun x=>by rw [Bool.eq_iff_iff,zwp,decide_eq_true_iff]; exact (f2 x).symm) R none hR
  simp only [oD',Option.map_none] at hc
  have hput:=zEX (ps:=ps) (R:=R) np
  have hb:(R.filter fun u=>rch ps u q)=brg ps R q:=rfl
  rw [hb] at hc
  have hkl:(kvR ps R rs).length < sizeLine:=by simp [kvR]; omega
  rw [← h,List.map_cons,zbj,← hput]
  simp [zbH,zff,f3,h4,zje,hRl,hc,hkl]
theorem zHN {ps:List Pr} {R:List Str} (nd:R.Nodup) (hR:∀ z∈R,Ok z) (hp:∀ p∈ps,OkP p) (hz:2*ps.length+2 < sizeLine) (hl:R.length < sizeLine):zaK [.tup (R.map D.str),.tup (ps.map pD)]=some (.dK (kvR ps R R)):=by
 obtain ⟨y3,y4,e4,h⟩:=zvk ps R hR hp hz R [] none none rfl (by simpa using nd) hR (by simpa using hl) (by omega)
 simp only [oD',Option.map_none,List.nil_append] at h
 have e0:kvR ps R []=[]:=rfl
 rw [e0] at h
 simp [zaK,zaD,zc1,zgV,h]
noncomputable def zrM (F R:List Str) (ps:List Pr):List (Str×D):=[("folk",.tup (F.map D.str)),("roles",.tup (R.map D.str)),("pairs",.tup (ps.map pD)),("right_bits",.dT (kvB 0 (zd3 F R))),("bringers",.dK (kvR ps R R))]
abbrev zIz:Nat:=7
theorem zwr (fn fp fb fr:List D→Option SV) {F R:List Str} {ps:List Pr} (c:¬ ((12:Int) < (F.length:Int)*(R.length:Int))) (cm:zsA (F.length:Int) (R.length:Int)=true)
  (g1:fn [.lst (F.map D.str),.int 4]=some (.sh (.tup (F.map D.str)))) (g2:fn [.lst (R.map D.str),.int 6]=some (.sh (.tup (R.map D.str)))) (g3:fp [.lst (ps.map pD),.tup (R.map D.str)]=some (.sh (.tup (ps.map pD))))
  (g4:fb [.tup (F.map D.str),.tup (R.map D.str)]=some (.dT (kvB 0 (zd3 F R)))) (g5:fr [.tup (R.map D.str),.tup (ps.map pD)]=some (.dK (kvR ps R R))) :
  zpK (zgW fn fp fb fr) 4 4 zIz [.lst (F.map D.str),.lst (R.map D.str),.lst (ps.map pD)]=some (zrM F R ps):=by
 have n1:¬ (("folk":Str)="roles"):=by decide
 have n2:¬ (("folk":Str)="pairs"):=by decide
 have n3:¬ (("folk":Str)="right_bits"):=by decide
 have n4:¬ (("folk":Str)="bringers"):=by decide
 have n5:¬ (("roles":Str)="pairs"):=by decide
 have n6:¬ (("roles":Str)="right_bits"):=by decide
 have n7:¬ (("roles":Str)="bringers"):=by decide
 have n8:¬ (("pairs":Str)="right_bits"):=by decide
 have n9:¬ (("pairs":Str)="bringers"):=by decide
 have n0:¬ (("right_bits":Str)="bringers"):=by decide
 have m1':(("roles":Str)=="folk")=false:=by decide
 have m2':(("pairs":Str)=="folk")=false:=by decide
 have m3':(("pairs":Str)=="roles")=false:=by decide
 simp [zpK,zgW,g1,g2,g3,g4,g5,c,cm,zlm,n1,n2,n3,n4,n5,n6,n7,n8,n9,n0,List.lookup,m1',m2',m3',zje,zz8,zrM]
theorem zCm {F R:List Str} {ps:List Pr} (v:Valid F R ps):zds zIz [.lst (F.map D.str),.lst (R.map D.str),.lst (ps.map pD)]=some (zrM F R ps):=by
 have okR:∀ z∈R,Ok z:=fun z hz=>(v.rg z hz).ok
 have okP:∀ p∈ps,OkP p:=fun p hp=>⟨okR _ (v.pm p hp).1,okR _ (v.pm p hp).2⟩
 obtain ⟨rk,hrk⟩:=v.rk
 have r6:=v.r6
 have f4:=v.f4
 have hm:=v.fr
 have c:¬ ((12:Int) < (F.length:Int)*(R.length:Int)):=by
  have:((F.length*R.length:Nat):Int)≤12:=by omega
  rw [Int.natCast_mul] at this
  omega
 have cm:zsA (F.length:Int) (R.length:Int)=true:=zpt.mpr (.inl ⟨by omega,by omega⟩)
 exact zwr zaX zbb zaY zaK c cm (zAs (n:=4) v.fn v.fg v.f1 v.f4 (by omega)) (zAs (n:=6) v.rn v.rg v.r1 v.r6 (by omega)) (zEV okR v.pn v.pm hrk v.p15)
  (zHM v.fn v.rn (by rw [zar]; omega)) (zHN v.rn okR okP (by have:=v.p15; rw [zar]; omega) (by rw [zar]; omega))
end My
namespace My
open PySem L2 M1
section
variable {F R:List Str} {ps:List Pr}
theorem zvl (m:Str):(zrM F R ps).lookup m=if m=="folk" then some (.tup (F.map D.str)) else if m=="roles" then some (.tup (R.map D.str)) else if m=="pairs" then some (.tup (ps.map pD)) else if m=="right_bits" then some (.dT (kvB 0 (zd3 F R))) else if m=="bringers" then some (.dK (kvR ps R R)) else none:=by
 simp only [zrM,List.lookup]
 cases (m=="folk") <;> cases (m=="roles") <;> cases (m=="pairs") <;> cases (m=="right_bits") <;> cases (m=="bringers") <;> rfl
@[simp] theorem zJU:(zrM F R ps).lookup ("folk":Str)=some (.tup (F.map D.str)):=by rw [zvl,if_pos (by decide)]
@[simp] theorem zIA:(zrM F R ps).lookup ("roles":Str)=some (.tup (R.map D.str)):=by rw [zvl,if_neg (by decide),if_pos (by decide)]
@[simp] theorem zJV:(zrM F R ps).lookup ("right_bits":Str)=some (.dT (kvB 0 (zd3 F R))):=by rw [zvl,if_neg (by decide),if_neg (by decide),if_neg (by decide),if_pos (by decide)]
@[simp] theorem zEY:(zrM F R ps).lookup ("bringers":Str)=some (.dK (kvR ps R R)):=by rw [zvl,if_neg (by decide),if_neg (by decide),if_neg (by decide),if_neg (by decide),if_pos (by decide)]
theorem ziK {m:Str} (h:(m=="folk"||m=="roles"||m=="pairs"||m=="right_bits"||m=="bringers")=false):(zrM F R ps).lookup m=none:=by
 simp only [Bool.or_eq_false_iff] at h
 rw [zvl,h.1.1.1.1,h.1.1.1.2,h.1.1.2,h.1.2,h.2]
 rfl
@[simp] theorem zLj:(zrM F R ps).lookup ("must_be_folk":Str)=none:=ziK (by decide)
@[simp] theorem zLk:(zrM F R ps).lookup ("must_be_role":Str)=none:=ziK (by decide)
@[simp] theorem zLl:(zrM F R ps).lookup ("must_be_state":Str)=none:=ziK (by decide)
@[simp] theorem zLm:(zrM F R ps).lookup ("is_state":Str)=none:=ziK (by decide)
@[simp] theorem zLn:(zrM F R ps).lookup ("bits":Str)=none:=ziK (by decide)
@[simp] theorem zLo:(zrM F R ps).lookup ("bringing":Str)=none:=ziK (by decide)
@[simp] theorem zLp:(zrM F R ps).lookup ("having":Str)=none:=ziK (by decide)
@[simp] theorem zLq:(zrM F R ps).lookup ("has":Str)=none:=ziK (by decide)
@[simp] theorem zLr:(zrM F R ps).lookup ("bit":Str)=none:=ziK (by decide)
@[simp] theorem zLs:(zrM F R ps).lookup ("holders":Str)=none:=ziK (by decide)
noncomputable abbrev oO (F R:List Str) (ps:List Pr):D:=.ins zIz (zrM F R ps)
theorem zHO (v:Valid F R ps) {w:Str} (hw:w∈F):zas [oO F R ps,.str w]=some (.sh .non):=by
 have h:=zte (v.fg w hw).ok (zs:=F) fun z hz=>(v.fg z hz).ok
 rw [decide_eq_true hw] at h
 simp [zas,zaD,zfh,zfg,h]
theorem zEZ (v:Valid F R ps) {r:Str} (hr:r∈R):zan [oO F R ps,.str r]=some (.sh .non):=by
 have h:=zte (v.rg r hr).ok (zs:=R) fun z hz=>(v.rg z hz).ok
 rw [decide_eq_true hr] at h
 simp [zan,zaD,zfj,zfi,h]
def plc (F R:List Str) (w r:Str):Nat:=(zd3 F R).idxOf (w,r)
theorem zws {w r:Str} (hw:w∈F) (hr:r∈R):zxm (.dT (kvB 0 (zd3 F R))) (.tup [.str w,.str r])=some (.int (2 ^ plc F R w r:Nat)):=by
 have h:=zAx 0 (zd3 F R) (w,r) (zqY.mpr ⟨hw,hr⟩)
 rw [Nat.zero_add] at h
 simp only [zxs] at h
 show (zFt [.str w,.str r]).bind (zrS (kvB 0 (zd3 F R)))=_
 exact h
theorem zJW (v:Valid F R ps) {w r:Str} (hw:w∈F) (hr:r∈R):zcd [oO F R ps,.str w,.str r]=some (.sh (.int (2 ^ plc F R w r:Nat))):=by
 have h1:=zHO v hw
 have h2:=zEZ v hr
 have h3:=zws hw hr
 have h4:(2:Nat)≤sizeLine:=by rw [zar]; omega
 generalize ((2 ^ plc F R w r:Nat):Int)=b at h3 ⊢
 simp [zcd,zaD,zou,zot,h1,h2,h3,h4,-zxm]
theorem zE0:zb1 [oO F R ps]=some (.sh (.int (F.length*R.length:Nat))):=by
 simp [zb1,zaD,zmy,zwo,zqX]
theorem zE1 (n:Int):zdc [.int n]=some (.sh (.bl true)):=by
 have e1:zmo tab [.int n,.ty "int"]=some (.sh (.bl true)):=rfl
 have e2:zmo tab [.int n,.ty "bool"]=some (.sh (.bl false)):=rfl
 simp [zdc,zaD,zla,e1,e2]
theorem zyx {s n:Nat} (h:s < 2 ^ n):Builtin.Int.intBits (s:Int)≤n:=by
 unfold Builtin.Int.intBits
 by_cases z:s=0
 ·subst z; simp
 ·have e:((s:Int)==0)=false:=by simp; omega
  rw [e]
  simp only [Bool.false_eq_true,if_false,Int.natAbs_natCast]
  have:=(Nat.log2_lt z).mpr h
  omega
theorem zHP {s:Nat} (h:s < 2 ^ (F.length*R.length)):za3 [oO F R ps,.int s]=some (.sh (.bl true)):=by
 have h1:=zE1 (s:Int)
 have h2:=zE0 (F:=F) (R:=R) (ps:=ps)
 have h3:=zyx h
 have h4:((Builtin.Int.intBits (s:Int):Nat):Int)≤((F.length*R.length:Nat):Int):=by omega
 have h5:(0:Int)≤s:=by omega
 generalize ((F.length*R.length:Nat):Int)=n at h2 h4
 simp [za3,zaD,ziS,ziR,h1,h2,h4,h5]
theorem zHQ {s:Nat} (h:s < 2 ^ (F.length*R.length)):zap [oO F R ps,.int s]=some (.sh .non):=by
 have h1:=zHP (ps:=ps) h
 simp [zap,zaD,zeJ,zeI,h1]
theorem zyy (v:Valid F R ps) {r:Str} (hr:r∈R):za4 [oO F R ps,.str r]=some (.li ((brg ps R r).map D.str)):=by
 have h1:=zEZ v hr
 have h2:=zAB (ps:=ps) (R:=R) hr
 simp [za4,zaD,ziU,ziT,h1,h2]
noncomputable def hvM (F R:List Str) (w:Str) (us:List Str) (m:Nat):Nat:=us.foldl (fun m u=>m|||2 ^ plc F R w u) m
theorem zAC {w:Str} (hw:w∈F) (x2:Option SV):∀ (us:List Str) (m:Nat) (x4:Option D),(∀ u∈us,u∈R)→∃ y4,
  zbj (gN 4) zbX (us.map D.str) [some (.sh (oO F R ps)),some (.sh (.str w)),x2,some (.sh (.int m)),oD' x4]=.nx [some (.sh (oO F R ps)),some (.sh (.str w)),x2,some (.sh (.int (hvM F R w us m:Nat))),oD' y4]
 | [],m,x4,_=>⟨x4,rfl⟩
 | u :: us,m,x4,h=>by
  obtain ⟨y4,ih⟩:=zAC hw x2 us (m|||2 ^ plc F R w u) (some (.str u)) fun z hz=>h z (by simp [hz])
  refine ⟨y4,?_⟩
  have h3:=zws hw (h u (by simp))
  have h4:(2:Nat)≤sizeLine:=by rw [zar]; omega
  rw [show hvM F R w (u :: us) m=hvM F R w us (m|||2 ^ plc F R w u) from rfl,← ih,List.map_cons,zbj]
  generalize 2 ^ plc F R w u=b at h3 ⊢
  simp [zbX,h3,h4,bOr,-zxm]
theorem zCn (v:Valid F R ps) {w r:Str} (hw:w∈F) (hr:r∈R):zbt [oO F R ps,.str w,.str r]=some (.sh (.int (hvM F R w (brg ps R r) 0:Nat))):=by
 have h1:=zHO v hw
 have h2:=zyy v hr
 obtain ⟨y4,h3⟩:=zAC (ps:=ps) hw (some (.sh (.str r))) (brg ps R r) 0 none fun u hu=>(zAA.mp hu).1
 simp only [oD',Option.map_none] at h3
 have h3':zbj (gN 4) zbX ((brg ps R r).map D.str) [some (.sh (oO F R ps)),some (.sh (.str w)),some (.sh (.str r)),some (.sh (.int 0)),none]=_:=h3
 simp [zbt,zaD,zko,zgX,zgX,h1,h2,h3',zje]
theorem zwt (w:Str) (i:Nat):∀ (us:List Str) (m:Nat),(hvM F R w us m).testBit i=(m.testBit i||us.any fun u=>decide (plc F R w u=i))
 | [],m=>by simp [hvM]
 | u :: us,m=>by
  rw [show hvM F R w (u :: us) m=hvM F R w us (m|||2 ^ plc F R w u) from rfl,zwt w i us,Nat.testBit_or,Nat.testBit_two_pow,List.any_cons,Bool.or_assoc]
noncomputable def zeH (F R:List Str) (ps:List Pr) (s:Nat) (w r:Str):Bool:=(brg ps R r).any fun u=>s.testBit (plc F R w u)
theorem zCo (s:Nat) (w r:Str):(!((s&&&hvM F R w (brg ps R r) 0)==0))=zeH F R ps s w r:=by
 rw [Bool.eq_iff_iff,zeH,List.any_eq_true]
 rw [Bool.not_eq_true',beq_eq_false_iff_ne]
 constructor
 ·intro h
  refine Classical.byContradiction fun n=>h ?_
  rw [zz6]
  intro i hi
  rw [zwt,Nat.zero_testBit,Bool.false_or,List.any_eq_true] at hi
  obtain ⟨u,hu,e⟩:=hi
  have e:=of_decide_eq_true e
  subst e
  cases c:s.testBit (plc F R w u)
  ·rfl
  ·exact absurd ⟨u,hu,c⟩ n
 ·rintro ⟨u,hu,c⟩ z
  rw [zz6] at z
  have:=z (plc F R w u) (by rw [zwt,Nat.zero_testBit,Bool.false_or,List.any_eq_true]; exact ⟨u,hu,by simp⟩)
  rw [this] at c
  cases c
theorem zJX (i j:Int):oNe (.int i) (.int j)=some (.bl (!(i==j))):=rfl
theorem zvv (i j:Int):oEq (.int i) (.int j)=some (.bl (i==j)):=rfl
theorem zE2 (v:Valid F R ps) {s:Nat} {w r:Str} (hs:s < 2 ^ (F.length*R.length)) (hw:w∈F) (hr:r∈R):zaU [oO F R ps,.int s,.str w,.str r]=some (.sh (.bl (zeH F R ps s w r))):=by
 have h1:=zHQ (ps:=ps) hs
 have h2:=zCn v hw hr
 rw [← zCo]
 generalize hvM F R w (brg ps R r) 0=m at h2 ⊢
 simp [zaU,zaD,zow,zov,h1,h2,zJy,zJX,zJz]
theorem zvm (v:Valid F R ps) {s:Nat} {r:Str} (hs:s < 2 ^ (F.length*R.length)) (hr:r∈R):zaN [oO F R ps,.int s,.str r]=some (.li ((F.filter fun w=>s.testBit (plc F R w r)).map D.str)):=by
 have h1:=zHQ (ps:=ps) hs
 have h2:=zEZ v hr
 have f4:=v.f4
 have hz:F.length≤sizeLine:=by rw [zar]; omega
 have h4:(2:Nat)≤sizeLine:=by rw [zar]; omega
 have hc:∀ (xs:List Str) (x:Option D),(∀ w∈xs,w∈F)→zcN (gN 0) (zaj (m2 oNe (m2 zIi (mV 2) (m2 zxm (m1 (zcV [zIz] "right_bits") (mV 1)) (zel (zac (mV 0) (zac (mV 3) zak))))) (mC (.int 0)))) (mV 0) (xs.map D.str) [oD' x,some (.sh (oO F R ps)),some (.sh (.int s)),some (.sh (.str r))]=some ((xs.filter fun w=>s.testBit (plc F R w r)).map D.str):=by
  intro xs
  induction xs with
  | nil=>intro x _; rfl
  | cons w xs ih=>
   intro x h
   have i:=ih (some (.str w)) fun z hz=>h z (by simp [hz])
   simp only [oD',Option.map_some] at i
   have h3:=zws (h w (by simp)) hr
   have h5:=zEK s (plc F R w r)
   rw [List.map_cons,zcN,List.filter_cons]
   generalize 2 ^ plc F R w r=b at h3 h5
   cases c:s.testBit (plc F R w r)
   ·rw [c] at h5
    simp [h3,h4,zJy,zJX,zJz,h5,i,-zxm]
   ·rw [c] at h5
    simp [h3,h4,zJy,zJX,zJz,h5,i,-zxm]
 have h:=hc F none fun w hw=>hw
 simp only [oD',Option.map_none] at h
 simp [zaN,zaD,zjU,zjT,h1,h2,h,hz,zhW]
end
end My
namespace My
open PySem L2 M1
def tD (F R:List Str) (ps:List Pr):D:=.tup [.lst (F.map D.str),.lst (R.map D.str),.lst (ps.map pD)]
def kst (ps:List Pr) (ks:List Str):List Str:=ks++(ps.filter fun p=>decide (p.2∈ks)&&!decide (p.1∈ks)).map (·.1)
theorem zxv (ks:List Str) (hk:∀ z∈ks,Ok z):∀ (ps:List Pr) (x y:Option D),(∀ p∈ps,OkP p)→
  zcN (gSq 2 (gCs (gN 0) (gCs (gN 1) gNs))) (zx1 (zaj (m2 oIn (mV 1) (mV 2))) (zaj (m2 zke (mV 0) (mV 2)))) (mV 0) (ps.map pD) [oD' x,oD' y,some (.sh (.lst (ks.map D.str)))]=some (((ps.filter fun p=>decide (p.2∈ks)&&!decide (p.1∈ks)).map (·.1)).map D.str)
 | [],x,y,_=>rfl
 | p :: ps,x,y,h=>by
  have ih:=zxv ks hk ps (some (.str p.1)) (some (.str p.2)) fun q hq=>h q (by simp [hq])
  simp only [oD',Option.map_some] at ih
  have op:=h p (by simp)
  have h1:=zC2 op.1 hk
  have h2:=zC2 op.2 hk
  have hg:gSq 2 (gCs (gN 0) (gCs (gN 1) gNs)) (pD p) [oD' x,oD' y,some (.sh (.lst (ks.map D.str)))]=some [some (.sh (.str p.1)),some (.sh (.str p.2)),some (.sh (.lst (ks.map D.str)))]:=by simp [pD]
  rw [List.map_cons,zcN,hg,List.filter_cons]
  by_cases c2:p.2∈ks
  ·rw [decide_eq_true c2] at h2
   by_cases c1:p.1∈ks
   ·rw [decide_eq_true c1] at h1
    simp [oIn,zke,h1,h2,c1,c2,ih]
   ·rw [decide_eq_false c1] at h1
    simp [oIn,zke,h1,h2,c1,c2,ih]
  ·rw [decide_eq_false c2] at h2
   simp [oIn,zke,h2,c2,ih]
theorem zE3 (ps:List Pr) (ks:List Str):(kst ps ks).length≤ks.length+ps.length:=by
 unfold kst
 have:=List.length_filter_le (fun p:Pr=>decide (p.2∈ks)&&!decide (p.1∈ks)) ps
 simp only [List.length_append,List.length_map]
 omega
theorem zC6 {ps:List Pr} {ks:List Str} (hp:∀ p∈ps,OkP p) (hk:∀ z∈ks,Ok z):∀ z∈kst ps ks,Ok z:=by
 intro z hz
 unfold kst at hz
 rcases List.mem_append.mp hz with h | h
 ·exact hk z h
 ·obtain ⟨p,h1,rfl⟩:=List.mem_map.mp h
  exact (hp p (List.mem_filter.mp h1).1).1
theorem zCp (F R:List Str) (ps:List Pr) (ks:List Str) (s1 x3:Option SV) (hk:∀ z∈ks,Ok z) (hp:∀ p∈ps,OkP p) (hl:ks.length+ps.length≤sizeLine) :
  zb8 [some (.sh (tD F R ps)),s1,some (.li (ks.map D.str)),x3]=.nx [some (.sh (tD F R ps)),s1,some (.li ((kst ps ks).map D.str)),x3]:=by
 have h:=zxv ks hk ps none none hp
 have h2:=List.length_filter_le (fun p:Pr=>decide (p.2∈ks)&&!decide (p.1∈ks)) ps
 have e0:kst ps ks=ks++(ps.filter fun p=>decide (p.2∈ks)&&!decide (p.1∈ks)).map (·.1):=rfl
 have h3:((ps.filter fun p=>decide (p.2∈ks)&&!decide (p.1∈ks)).map (·.1)).length≤ps.length:=by rw [List.length_map]; exact h2
 generalize ((ps.filter fun p=>decide (p.2∈ks)&&!decide (p.1∈ks)).map (·.1))=us at h e0 h3
 simp only [oD',Option.map_none] at h
 have hz:ps.length≤sizeLine:=by omega
 have hz2:ks.length+us.length≤sizeLine:=by omega
 have pl:D.plains (ks.map D.str++us.map D.str)=true:=by rw [← List.map_append]; exact zje _
 have e:oIx (tD F R ps) (.int 2)=some (.lst (ps.map pD)):=rfl
 rw [e0,List.map_append]
 simp [zb8,e,h,hz,hz2,pl,-oIx]
def kit (ps:List Pr):Nat→List Str→List Str
 | 0,ks=>ks
 | n+1,ks=>kit ps n (kst ps ks)
theorem zxw (F R:List Str) (ps:List Pr) (s1:Option SV) (hp:∀ p∈ps,OkP p):∀ (ds:List D) (ks:List Str) (x3:Option D),(∀ z∈ks,Ok z)→ks.length+ds.length*ps.length≤sizeLine→∃ y3,
  zbj (gN 3) zb8 ds [some (.sh (tD F R ps)),s1,some (.li (ks.map D.str)),oD' x3]=.nx [some (.sh (tD F R ps)),s1,some (.li ((kit ps ds.length ks).map D.str)),oD' y3]
 | [],ks,x3,_,_=>⟨x3,rfl⟩
 | d :: ds,ks,x3,hk,hl=>by
  simp only [List.length_cons,Nat.add_mul,Nat.one_mul] at hl
  have hs:=zE3 ps ks
  obtain ⟨y3,ih⟩:=zxw F R ps s1 hp ds (kst ps ks) (some d) (zC6 hp hk) (by omega)
  refine ⟨y3,?_⟩
  have st:=zCp F R ps ks s1 (some (.sh d)) hk hp (by omega)
  rw [zbj]
  have hg:gN 3 d [some (.sh (tD F R ps)),s1,some (.li (ks.map D.str)),oD' x3]=some [some (.sh (tD F R ps)),s1,some (.li (ks.map D.str)),some (.sh d)]:=by simp
  rw [hg]
  simp only [st]
  exact ih
theorem zq0 {α:Type} {p q:α→Bool}:∀ {xs:List α},(∀ x∈xs,p x=true→q x=true)→(∃ x∈xs,q x=true∧p x=false)→(xs.filter p).length+1≤(xs.filter q).length
 | [],_,h=>by obtain ⟨x,hx,_⟩:=h; cases hx
 | a :: xs,h1,h2=>by
  have le:∀ {ys:List α},(∀ x∈ys,p x=true→q x=true)→(ys.filter p).length≤(ys.filter q).length:=by
   intro ys
   induction ys with
   | nil=>intro _; simp
   | cons y ys ih=>
    intro h
    have ih:=ih fun x hx=>h x (by simp [hx])
    have hy:=h y (by simp)
    rw [List.filter_cons,List.filter_cons]
    cases cp:p y
    ·cases cq:q y
     ·simpa using ih
     ·simp; omega
    ·simp [hy cp]; omega
  rw [List.filter_cons,List.filter_cons]
  cases cp:p a
  ·cases cq:q a
   ·simp only [Bool.false_eq_true,if_false]
    refine zq0 (fun x hx=>h1 x (by simp [hx])) ?_
    obtain ⟨x,hx,e1,e2⟩:=h2
    rcases List.mem_cons.mp hx with rfl | hx
    ·rw [cq] at e1; cases e1
    ·exact ⟨x,hx,e1,e2⟩
   ·have:=le (ys:=xs) fun x hx=>h1 x (by simp [hx])
    simp; omega
  ·have cq:=h1 a (by simp) cp
   simp only [cq,if_true,List.length_cons]
   have:=zq0 (xs:=xs) (fun x hx=>h1 x (by simp [hx])) (by
    obtain ⟨x,hx,e1,e2⟩:=h2
    rcases List.mem_cons.mp hx with rfl | hx
    ·rw [cp] at e2; cases e2
    ·exact ⟨x,hx,e1,e2⟩)
   omega
theorem zn8 {ps:List Pr} {ks:List Str} {x:Str}:x∈kst ps ks↔x∈ks∨(x∉ks∧∃ y,(x,y)∈ps∧y∈ks):=by
 unfold kst
 rw [List.mem_append,List.mem_map]
 constructor
 ·rintro (h | ⟨p,h,rfl⟩)
  ·exact .inl h
  ·obtain ⟨h1,h2⟩:=List.mem_filter.mp h
   simp only [Bool.and_eq_true,decide_eq_true_eq,Bool.not_eq_true',decide_eq_false_iff_not] at h2
   exact .inr ⟨h2.2,p.2,h1,h2.1⟩
 ·rintro (h | ⟨h,y,h1,h2⟩)
  ·exact .inl h
  ·exact .inr ⟨(x,y),List.mem_filter.mpr ⟨h1,by simp [h,h2]⟩,rfl⟩
def zFz (ps:List Pr) (ks:List Str):Prop:=∀ x y,(x,y)∈ps→y∈ks→x∈ks
theorem zxx {ps:List Pr} {ks:List Str} (h:zFz ps ks):zFz ps (kst ps ks):=by
 intro x y hxy hy
 rw [zn8]
 rcases zn8.mp hy with hy | ⟨hn,z,hz,hz2⟩
 ·exact .inl (h x y hxy hy)
 ·exact absurd (h y z hz hz2) hn
theorem zAD {ps:List Pr} {R:List Str} (pm:∀ p∈ps,p.1∈R∧p.2∈R) {r:Str}:∀ (n:Nat) (ks:List Str) (m:Nat),r∈ks→(∀ x∈ks,Reach ps x r)→(zFz ps ks∨m+1≤(R.filter fun x=>decide (x∈ks)).length)→
  r∈kit ps n ks∧(∀ x∈kit ps n ks,Reach ps x r)∧(zFz ps (kit ps n ks)∨n+m+1≤(R.filter fun x=>decide (x∈kit ps n ks)).length)
 | 0,ks,m,h1,h2,h3=>⟨h1,h2,by rw [Nat.zero_add]; exact h3⟩
 | n+1,ks,m,h1,h2,h3=>by
  have a1:r∈kst ps ks:=zn8.mpr (.inl h1)
  have a2:∀ x∈kst ps ks,Reach ps x r:=fun x hx=>by
   rcases zn8.mp hx with h | ⟨_,y,h,hy⟩
   ·exact h2 x h
   ·exact .step h (h2 y hy)
  have a3:zFz ps (kst ps ks)∨(m+1)+1≤(R.filter fun x=>decide (x∈kst ps ks)).length:=by
   rcases h3 with h3 | h3
   ·exact .inl (zxx h3)
   ·refine (Classical.em (zFz ps ks)).elim (fun c=>.inl (zxx c)) fun c=>.inr ?_
    have:∃ x∈R,decide (x∈kst ps ks)=true∧decide (x∈ks)=false:=by
     refine Classical.byContradiction fun nn=>c fun x y hxy hy=>Classical.byContradiction fun hx=>nn ⟨x,(pm _ hxy).1,?_,by simpa using hx⟩
     rw [decide_eq_true_iff]
     exact zn8.mpr (.inr ⟨hx,y,hxy,hy⟩)
    have:=zq0 (p:=fun x=>decide (x∈ks)) (q:=fun x=>decide (x∈kst ps ks)) (xs:=R) (fun x _ hx=>by
     rw [decide_eq_true_iff] at hx ⊢
     exact zn8.mpr (.inl hx)) this
    omega
  obtain ⟨b1,b2,b3⟩:=zAD pm n (kst ps ks) (m+1) a1 a2 a3
  refine ⟨b1,b2,?_⟩
  rcases b3 with b3 | b3
  ·exact .inl b3
  ·exact .inr (by
    have e:n+(m+1)+1=n+1+m+1:=by omega
    rw [e] at b3; exact b3)
theorem zAE {ps:List Pr} {R:List Str} (pm:∀ p∈ps,p.1∈R∧p.2∈R) {r:Str} (hr:r∈R) (x:Str):x∈kit ps R.length [r]↔Reach ps x r:=by
 obtain ⟨h1,h2,h3⟩:=zAD pm (r:=r) R.length [r] 0 (by simp) (fun x hx=>by rw [List.mem_singleton.mp hx]; exact .refl _) (.inr (by
  have:r∈R.filter fun x=>decide (x∈[r]):=List.mem_filter.mpr ⟨hr,by simp⟩
  have:=List.length_pos_of_mem this
  omega))
 refine zki h1 h2 ?_ x
 rcases h3 with h3 | h3
 ·exact h3
 ·have:=List.length_filter_le (fun x=>decide (x∈kit ps R.length [r])) R
  omega
theorem zC7 {ps:List Pr} (hp:∀ p∈ps,OkP p):∀ (n:Nat) (ks:List Str),(∀ z∈ks,Ok z)→∀ z∈kit ps n ks,Ok z
 | 0,ks,h=>h
 | n+1,ks,h=>zC7 hp n (kst ps ks) (zC6 hp h)
theorem _root_.M1.Valid.okR {F R:List Str} {ps:List Pr} (v:Valid F R ps):∀ z∈R,Ok z:=fun z hz=>(v.rg z hz).ok
theorem _root_.M1.Valid.okF {F R:List Str} {ps:List Pr} (v:Valid F R ps):∀ z∈F,Ok z:=fun z hz=>(v.fg z hz).ok
theorem _root_.M1.Valid.okP {F R:List Str} {ps:List Pr} (v:Valid F R ps):∀ p∈ps,OkP p:=fun p hp=>⟨v.okR _ (v.pm p hp).1,v.okR _ (v.pm p hp).2⟩
theorem zwu {F R:List Str} {ps:List Pr} (v:Valid F R ps) {r:Str} (hr:r∈R):zbK [tD F R ps,.str r]=some (.li ((brg ps R r).map D.str)):=by
 have r6:=v.r6
 have p15:=v.p15
 have hm:R.length*ps.length≤6*15:=Nat.mul_le_mul r6 p15
 have rk:=zEL R.length (by omega)
 obtain ⟨y3,h⟩:=zxw F R ps (some (.sh (.str r))) v.okP ((List.range R.length).map nD) [r] none (by intro z hz; rw [List.mem_singleton.mp hz]; exact v.okR r hr) (by rw [zar]; simp; omega)
 simp only [oD',Option.map_none,List.map_cons,List.map_nil,List.length_map,List.length_range] at h
 have hok:=zC7 v.okP R.length [r] (by intro z hz; rw [List.mem_singleton.mp hz]; exact v.okR r hr)
 have hc:=zwq (kit ps R.length [r]) hok (fun u=>rch ps u r) (fun x=>by rw [Bool.eq_iff_iff,zwp,decide_eq_true_iff]; exact (zAE v.pm hr x).symm) R none v.okR
 simp only [oD',Option.map_none] at hc
 have hb:(R.filter fun u=>rch ps u r)=brg ps R r:=rfl
 rw [hb] at hc
 have h1:(1:Nat)≤sizeLine:=by rw [zar]; omega
 have hz:R.length≤sizeLine:=by rw [zar]; omega
 have e:oIx (tD F R ps) (.int 1)=some (.lst (R.map D.str)):=rfl
 generalize (List.range R.length).map nD=its at rk h
 generalize kit ps R.length [r]=ks at h hc
 simp [zbK,zaD,ze8,zlw,e,h1,rk,h,hc,hz,-oIx]
theorem zE4 (w:Str) (F':List Str) (r:Str):∀ (R:List Str),r∈R→(R.map (fun x=>(w,x))++zd3 F' R).idxOf (w,r)=R.idxOf r:=by
 intro R
 have:∀ (R:List Str) (ze5:List Pr),r∈R→(R.map (fun x=>(w,x))++ze5).idxOf (w,r)=R.idxOf r:=by
  intro R
  induction R with
  | nil=>intro ze5 h; cases h
  | cons x R ih=>
   intro ze5 h
   by_cases c:x=r
   ·subst c; simp [List.idxOf_cons]
   ·have hr:r∈R:=by
     rcases List.mem_cons.mp h with rfl | h
     ·exact absurd rfl c
     ·exact h
    have:=ih ze5 hr
    have b1:(x==r)=false:=by simpa using c
    have b2:(((w,x):Pr)==(w,r))=false:=by simpa using c
    rw [List.map_cons,List.cons_append,List.idxOf_cons,List.idxOf_cons,b1,b2]
    simp [this]
 exact this R (zd3 F' R)
theorem zC8 {R:List Str} {w r:Str} (hr:r∈R):∀ {F:List Str},w∈F→plc F R w r=F.idxOf w*R.length+R.idxOf r
 | [],h=>by cases h
 | x :: F,h=>by
  have e:zd3 (x :: F) R=(R.map fun r=>(x,r))++zd3 F R:=rfl
  unfold plc
  rw [e]
  by_cases c:x=w
  ·subst c
   rw [zE4 x F r R hr]
   simp [List.idxOf_cons]
  ·have hw:w∈F:=by
    rcases List.mem_cons.mp h with rfl | h
    ·exact absurd rfl c
    ·exact h
   have b:(x==w)=false:=by simpa using c
   rw [List.idxOf_cons,b,cond_false,Nat.add_mul,Nat.one_mul]
   have ih:=zC8 hr hw
   unfold plc at ih
   have ni:(w,r)∉R.map fun r=>(x,r):=by
    intro z
    obtain ⟨y,_,e⟩:=List.mem_map.mp z
    exact c (congrArg Prod.fst e)
   rw [List.idxOf_append,if_neg ni,ih,List.length_map]
   omega
theorem zlk (zs:List Str):zrU (zs.map D.str)=some zs:=by
 induction zs with
 | nil=>rfl
 | cons z zs ih=>simp [ih]
theorem zxy {z:Str} {zs:List Str} (h:z∈zs):zon (.lst (zs.map D.str)) [.str z]=some (.sh (.int (zs.idxOf z:Nat))):=by
 have:=List.idxOf_lt_length_of_mem h
 simp [zlk,this]
theorem zAF {F R:List Str} {w r:Str} (hw:w∈F) (hr:r∈R):plc F R w r < F.length*R.length:=by
 have:=List.idxOf_lt_length_of_mem (zqY (p:=(w,r)).mpr ⟨hw,hr⟩)
 rw [zqX] at this
 exact this
theorem zC9 {F R:List Str} {ps:List Pr} (v:Valid F R ps) {w r:Str} (hw:w∈F) (hr:r∈R):zcT [tD F R ps,.str w,.str r]=some (.sh (.int (2 ^ plc F R w r:Nat))):=by
 have h1:=zxy hw
 have h2:=zxy hr
 have e0:oIx (tD F R ps) (.int 0)=some (.lst (F.map D.str)):=rfl
 have e1:oIx (tD F R ps) (.int 1)=some (.lst (R.map D.str)):=rfl
 have a1:=List.idxOf_lt_length_of_mem hw
 have f4:=v.f4
 have fr:=v.fr
 have pe:=zC8 hr hw
 have pl:=zAF hw hr
 have cm:zsA ((F.idxOf w:Nat):Int) (R.length:Int)=true:=zrR (by omega) (by omega)
 have pi:((F.idxOf w:Nat):Int)*(R.length:Int)+((R.idxOf r:Nat):Int)=((plc F R w r:Nat):Int):=by rw [pe,Int.natCast_add,Int.natCast_mul]
 have hp:zB0 1 ((plc F R w r:Nat):Int)=true:=by
  rw [zsB]
  exact ⟨by omega,by omega,by decide⟩
 simp [zcT,zaD,zkp,e0,e1,h1,h2,cm,pi,hp,-oIx,-zon]
theorem zE5 (s k:Nat):((s:Int) / ((2 ^ k:Nat):Int)%2==1)=s.testBit k:=by
 have e:((s:Int) / ((2 ^ k:Nat):Int))%2=((s / 2 ^ k%2:Nat):Int):=by simp
 rw [e,Nat.testBit_eq_decide_div_mod_eq]
 generalize s / 2 ^ k%2=t
 rw [Bool.eq_iff_iff,beq_iff_eq,decide_eq_true_iff]
 omega
theorem zAG {k:Nat} (h:k < 100):((2 ^ k:Nat):Int) < 1606938044258990275541962092341162602522202993782792835301376:=by
 have h1:2 ^ k < 2 ^ 100:=Nat.pow_lt_pow_right (by omega) h
 have h2:(2:Nat) ^ 100 < 1606938044258990275541962092341162602522202993782792835301376:=by decide
 omega
theorem zxz {F R:List Str} {ps:List Pr} (v:Valid F R ps) (s:Nat) {w r:Str} (hw:w∈F) (hr:r∈R):zbF [tD F R ps,.int s,.str w,.str r]=some (.sh (.bl (s.testBit (plc F R w r)))):=by
 have h:=zC9 v hw hr
 have d:=zE5 s (plc F R w r)
 have fr:=v.fr
 have lt:=zAF hw hr
 have p1:(0:Int) < ((2 ^ plc F R w r:Nat):Int):=by have:0 < 2 ^ plc F R w r:=Nat.pow_pos (by omega); omega
 have p2:=zAG (k:=plc F R w r) (by omega)
 have cd:=zpI p1 p2
 rw [← d]
 generalize ((2 ^ plc F R w r:Nat):Int)=b at h cd ⊢
 simp [zbF,zaD,zgZ,zpW,h,cd,zvv]
theorem zDa (xs:List Str) (h:∀ z∈xs,Ok z):oNe (.lst (xs.map D.str)) (.lst [])=some (.bl (!xs.isEmpty)):=by
 have h1:shp (.lst (xs.map D.str))=some (.list (xs.map PyData.str)):=by simp [shp,D.dat,zCf,zIm h]
 have h2:shp (.lst [])=some (.list []):=rfl
 cases xs with
 | nil=>rfl
 | cons x xs=>simp [oNe,h1,h2,PyData.eqv,PyData.eqvAll] at *; simp [h1,h2,PyData.eqv,PyData.eqvAll]
theorem zvn {F R:List Str} {ps:List Pr} (v:Valid F R ps) (s:Nat) {w r:Str} (hw:w∈F) (hr:r∈R):zcn [tD F R ps,.int s,.str w,.str r]=some (.sh (.bl (zeH F R ps s w r))):=by
 have h1:=zwu v hr
 have hm:∀ u∈brg ps R r,u∈R:=fun u hu=>(zAA.mp hu).1
 have hc:∀ (xs:List Str) (x:Option D),(∀ u∈xs,u∈R)→zcN (gN 0) (zaj (mFr (m1 zbF (zac (mV 1) (zac (mV 2) (zac (mV 3) (zac (mV 0) zak))))))) (mV 0) (xs.map D.str) [oD' x,some (.sh (tD F R ps)),some (.sh (.int s)),some (.sh (.str w))]=some ((xs.filter fun u=>s.testBit (plc F R w u)).map D.str):=by
  intro xs
  induction xs with
  | nil=>intro x _; rfl
  | cons u xs ih=>
   intro x h
   have i:=ih (some (.str u)) fun z hz=>h z (by simp [hz])
   simp only [oD',Option.map_some] at i
   have h3:=zxz v s hw (h u (by simp))
   rw [List.map_cons,zcN,List.filter_cons]
   cases c:s.testBit (plc F R w u)
   ·rw [c] at h3
    simp [h3,i]
   ·rw [c] at h3
    simp [h3,i]
 have h:=hc (brg ps R r) none hm
 simp only [oD',Option.map_none] at h
 have hl:(brg ps R r).length≤sizeLine:=by
  have:(brg ps R r).length≤R.length:=List.length_filter_le _ _
  have:=v.r6
  rw [zar]; omega
 have ne:=zDa ((brg ps R r).filter fun u=>s.testBit (plc F R w u)) fun z hz=>v.okR z (hm z (List.mem_filter.mp hz).1)
 have e:(!((brg ps R r).filter fun u=>s.testBit (plc F R w u)).isEmpty)=zeH F R ps s w r:=by
  rw [zeH,Bool.eq_iff_iff,List.any_eq_true,Bool.not_eq_true',List.isEmpty_eq_false_iff_exists_mem]
  constructor
  ·rintro ⟨u,hu⟩
   exact ⟨u,(List.mem_filter.mp hu).1,(List.mem_filter.mp hu).2⟩
  ·rintro ⟨u,h1,h2⟩
   exact ⟨u,List.mem_filter.mpr ⟨h1,h2⟩⟩
 rw [← e]
 simp [zcn,zaD,zg0,zuM,h1,h,hl,ne,zhW]
end My
namespace My
open PySem L2 M1
theorem zE6 (c left num:Int) (k:Nat) (s1:Option SV) (xs:List D) (hx:xs.length < sizeLine) (h0:0≤num) (h1:num < 2147483647) (hk:k < 100):∃ (v:Nat) (num':Int),0≤num'∧num' < 2147483647∧
  zb0 [sI' c,s1,some (.li xs),sI' left,sI' num,sI' k]=.nx [sI' c,s1,some (.li (xs++[nD v])),sI' (left / 1000003),sI' num',sI' k]:=by
 have n0:0≤(num*num+48271*num+7919*k+11)%2147483647:=Int.emod_nonneg _ (by omega)
 have n1:(num*num+48271*num+7919*k+11)%2147483647 < 2147483647:=Int.emod_lt_of_pos _ (by omega)
 have c1:zsA num num=true:=zrR (by omega) (by omega)
 have hz:(2:Nat)≤sizeLine:=by rw [zar]; omega
 obtain ⟨v1,e1,_⟩:=zjf left (b:=1000003) (by omega)
 obtain ⟨v2,e2⟩:=Int.eq_ofNat_of_zero_le n0
 generalize hM:(num*num+48271*num+7919*(k:Int)+11)%2147483647=M at n0 n1 e2
 by_cases d:(c%2==1)=true
 ·by_cases e:0 < left
  ·exact ⟨v1,M,n0,n1,by simp [zb0,c1,hM,zvv,d,e,hz,hx,e1,D.plain,atI,ixN]⟩
  ·exact ⟨v2,M,n0,n1,by simp [zb0,c1,hM,zvv,d,e,hz,hx,e1,e2,D.plain,atI,ixN]⟩
 ·exact ⟨v2,M,n0,n1,by simp [zb0,c1,hM,zvv,d,hz,hx,e1,e2,D.plain,atI,ixN]⟩
theorem zAH (c:Int) (s1:Option SV):∀ (ks vs:List Nat) (left num:Int) (x5:Option D),(∀ k∈ks,k < 100)→vs.length+ks.length≤sizeLine→0≤num→num < 2147483647→∃ (ws:List Nat) (left' num':Int) (y5:Option D),ws.length=vs.length+ks.length∧
  zbj (gN 5) zb0 (ks.map nD) [sI' c,s1,some (.li (vs.map nD)),sI' left,sI' num,oD' x5]=.nx [sI' c,s1,some (.li (ws.map nD)),sI' left',sI' num',oD' y5]
 | [],vs,left,num,x5,_,_,_,_=>⟨vs,left,num,x5,rfl,rfl⟩
 | k :: ks,vs,left,num,x5,hk,hl,h0,h1=>by
  simp only [List.length_cons] at hl
  obtain ⟨v,num1,a0,a1,e⟩:=zE6 c left num k s1 (vs.map nD) (by rw [List.length_map]; omega) h0 h1 (hk k (by simp))
  obtain ⟨ws,left',num',y5,hw,h⟩:=zAH c s1 ks (vs++[v]) (left / 1000003) num1 (some (.int k)) (fun z hz=>hk z (by simp [hz])) (by simp; omega) a0 a1
  refine ⟨ws,left',num',y5,by simp at hw ⊢; omega,?_⟩
  rw [List.map_cons,zbj]
  have hg:gN 5 (nD k) [sI' c,s1,some (.li (vs.map nD)),sI' left,sI' num,oD' x5]=some [sI' c,s1,some (.li (vs.map nD)),sI' left,sI' num,sI' k]:=by simp
  rw [hg]
  simp only [e]
  rw [List.map_append] at h
  exact h
theorem zxA (c:Int) (n:Nat) (hn:n < 100):∃ ws:List Nat,ws.length=n∧zba [.int c,.int n]=some (.li (ws.map nD)):=by
 obtain ⟨ws,left',num',y5,hw,h⟩:=zAH c (sI' n) (List.range n) [] (c / 2) (c / 2%2147483647) none (by intro k hk; simp at hk; omega) (by rw [zar]; simp; omega) (Int.emod_nonneg _ (by omega)) (Int.emod_lt_of_pos _ (by omega))
 refine ⟨ws,by simpa using hw,?_⟩
 have hr:=zEL n (by omega)
 generalize (List.range n).map nD=its at hr h
 simp only [sI',oD',Option.map_none,List.map_nil] at h
 simp [zba,zaD,zfd,zoq,hr,h]
def zo1:List Str:=["has","not","by","to","and","give","take","lay","from","if","both","most","last"]
theorem zyz:∀ z∈zo1,Good z:=by
 have:∀ z∈zo1,1≤z.length∧z.length≤6∧∀ c∈z.cps.toList,c∈zjd:=by decide +kernel
 exact fun z hz=>⟨(this z hz).1,(this z hz).2.1,(this z hz).2.2⟩
theorem zq1:zo1.Nodup:=by decide +kernel
def zxB (i:Nat):Str:=zo1.getD i ⟨#[]⟩
theorem zm4 {i:Nat} (h:i < 13):zo1[i]? = some (zxB i):=zmq h
def zvo (m k:Nat):Str:=zxB ((m / 5+4*k)%13)
theorem zAI {m j k:Nat} (hj:j < 6) (hk:k < 6) (h:zvo m j=zvo m k):j=k:=by
 have a:=zm4 (i:=(m / 5+4*j)%13) (Nat.mod_lt _ (by omega))
 have b:=zm4 (i:=(m / 5+4*k)%13) (Nat.mod_lt _ (by omega))
 rw [show zxB ((m / 5+4*j)%13)=zxB ((m / 5+4*k)%13) from h] at a
 have e1:=zes zq1 a
 have e2:=zes zq1 b
 omega
theorem zyA (m k:Nat):Good (zvo m k):=by
 have a:=zm4 (i:=(m / 5+4*k)%13) (Nat.mod_lt _ (by omega))
 exact zyz _ (List.mem_of_getElem? a)
def zib (i:Nat):Nat:=zjd.getD i 0
theorem zm5 {i:Nat} (h:i < 26):zjd[i]? = some (zib i):=by
 have hl:i < zjd.length:=h
 rw [List.getElem?_eq_getElem hl]
 unfold zib
 rw [List.getD_eq_getElem?_getD,List.getElem?_eq_getElem hl]
 rfl
theorem zvp {i:Nat} (h:i < 26):oIx (.str "abcdefghijklmnopqrstuvwxyz") (.int i)=some (.str ⟨#[zib i]⟩):=by
 have hz:(Str.ofString "abcdefghijklmnopqrstuvwxyz").length≤sizeLine:=by rw [zvO,zar]; omega
 have:=atN (zm5 h)
 simp [oIx,hz,zsI,this]
theorem zCq {i j:Nat} (hi:i < 26) (hj:j < 26) (h:zib i=zib j):i=j:=by
 have a:=zm5 hi
 have b:=zm5 hj
 rw [h] at a
 have hi':i < zjd.length:=hi
 have hj':j < zjd.length:=hj
 rw [List.getElem?_eq_getElem hi'] at a
 rw [List.getElem?_eq_getElem hj'] at b
 have:zjd[i]=zjd[j]:=by injection a with a; injection b with b; rw [a,b]
 exact (List.getElem_inj zvQ).mp this
def zwv (t:Str) (a m k:Nat):Str:=Txt.slice t none (some (a:Int))++(⟨#[zib ((m / 11+7*k)%26)]⟩:Str)++Txt.slice t (some (a:Int)) none
theorem zyB {t:Str} {a m k:Nat} (ht:∀ x∈t.cps.toList,x∈zjd) (hl:t.length≤5) (ha:a≤t.length):Good (zwv t a m k):=by
 refine zEJ ?_ ?_ (List.mem_of_getElem? (zm5 (Nat.mod_lt _ (by omega)))) ?_
 ·intro x hx; rw [zpG ha] at hx; exact ht x (List.mem_of_mem_take hx)
 ·intro x hx; rw [zut ha] at hx; exact ht x (List.mem_of_mem_drop hx)
 ·have q1:(Txt.slice t none (some (a:Int))).length=a:=by
   show (Txt.slice t none (some (a:Int))).cps.size=_
   rw [← Array.length_toList,zpG ha,List.length_take,Array.length_toList]
   exact Nat.min_eq_left ha
  have q2:(Txt.slice t (some (a:Int)) none).length=t.length-a:=by
   show (Txt.slice t (some (a:Int)) none).cps.size=_
   rw [← Array.length_toList,zut ha,List.length_drop,Array.length_toList]
   rfl
  omega
theorem zAJ {t:Str} {a m j k:Nat} (hj:j < 6) (hk:k < 6) (h:zwv t a m j=zwv t a m k):j=k:=by
 have:=zHq h
 have:=zCq (Nat.mod_lt _ (by omega)) (Nat.mod_lt _ (by omega)) this
 omega
theorem zAK {t:Str} {a:Nat} (hl:t.length≤5) (c:Nat):(Txt.slice t none (some (a:Int))).length+1≤6∧(Txt.slice t none (some (a:Int))++(⟨#[c]⟩:Str)).length+(Txt.slice t (some (a:Int)) none).length≤11:=by
 have q1:=Txt.slice_le t none (some (a:Int))
 have q2:=Txt.slice_le t (some (a:Int)) none
 have e:((⟨#[c]⟩:Str)).length=1:=rfl
 rw [zal,e]
 omega
theorem nodup_range {n:Nat} {f:Nat→Str} (h:∀ j k,j < n→k < n→f j=f k→j=k):((List.range n).map f).Nodup:=
 M1.nodup_map_on (fun x hx y hy e=>h x y (List.mem_range.mp hx) (List.mem_range.mp hy) e) List.nodup_range
theorem zxC (m n:Nat) (hn:n≤6):∃ zs:List Str,zs.length=n∧zs.Nodup∧(∀ z∈zs,Good z)∧zb7 [.int m,.int n]=some (.li (zs.map D.str)):=by
 have hz:n≤sizeLine:=by rw [zar]; omega
 have hr:=zEL n (by omega)
 have h13:13≤sizeLine:=by rw [zar]; omega
 have plW:D.plains [D.str "has",D.str "not",D.str "by",D.str "to",D.str "and",D.str "give",D.str "take",D.str "lay",D.str "from",D.str "if",D.str "both",D.str "most",D.str "last"]=true:=rfl
 by_cases d:m%5=0
 ·refine ⟨(List.range n).map (zvo m),by simp,nodup_range fun j k hj hk=>zAI (by omega) (by omega),?_,?_⟩
  ·intro z hz
   obtain ⟨k,_,rfl⟩:=List.mem_map.mp hz
   exact zyA m k
  ·have hc:=zpO nD [sI' m,some (.sh (.lst (zo1.map D.str)))] (m2 oIx (mV 2) (m2 zgw (mFr (m2 zbV (m2 zjb (mV 1) (mC (.int 5))) (mFr (m2 zt8 (mC (.int 4)) (mV 0))))) (mC (.int 13)))) (fun k=>.str (zvo m k)) (List.range n) (fun k _=>by
    have e:((m:Int) / 5+4*(k:Int))%13=(((m / 5+4*k)%13:Nat):Int):=by omega
    have:=atN (zm4 (i:=(m / 5+4*k)%13) (Nat.mod_lt _ (by omega)))
    have w:atI (zo1.map D.str) ((((m / 5+4*k)%13:Nat):Int))=some (.str (zvo m k)):=by
     refine atN ?_
     rw [List.getElem?_map,zm4 (Nat.mod_lt _ (by omega))]
     rfl
    simp only [m2,mV,mFr,mC,List.getElem?_cons_succ,List.getElem?_cons_zero,Option.join_some,Option.map_some,SV.fr,Option.bind_some,zjb,fI,zpI (show (0:Int) < 5 by omega) (by omega),if_true,zt8,zrR (show (-18446744073709551616:Int) < 4 by omega) (by omega),zbV,zgw,show (0:Int) < 13 by omega,e,oIx,w]) none
   simp only [oD',Option.map_none,zo1,List.map_cons,List.map_nil] at hc
   have dI:((m:Int)%5==0)=true:=by simp; omega
   have hil:((List.range n).map nD).length≤sizeLine:=by simpa using hz
   rw [show (List.range n).map (fun k=>D.str (zvo m k))=((List.range n).map (zvo m)).map D.str by rw [List.map_map]; rfl] at hc
   generalize (List.range n).map nD=its at hr hc hil
   simp [zb7,zaD,zeR,h13,plW,zvv,dI,hr,hil,hc,-oIx,-List.map_map]
 ·have dI:((m:Int)%5==0)=false:=by simp; omega
  obtain ⟨q,eq,hq⟩:=zjf ((m:Int) / 5) (b:=6) (by omega)
  have hrq:=zEL q (by omega)
  have hilq:((List.range q).map nD).length≤sizeLine:=by rw [zar]; simp; omega
  let cs:List Nat:=(List.range q).map fun k=>zib (m / (7*k+3)%26)
  let ys:List Str:=cs.map fun c=>⟨#[c]⟩
  let t:Str:=Txt.join "" ys
  have ht:∀ x∈t.cps.toList,x∈zjd:=by
   intro x hx
   rw [show t.cps.toList=ys.flatMap fun y=>y.cps.toList from zxq ys,List.mem_flatMap] at hx
   obtain ⟨y,hy,hx⟩:=hx
   obtain ⟨c,hc,rfl⟩:=List.mem_map.mp hy
   obtain ⟨k,_,rfl⟩:=List.mem_map.mp hc
   have:x=zib (m / (7*k+3)%26):=by simpa using hx
   rw [this]
   exact List.mem_of_getElem? (zm5 (Nat.mod_lt _ (by omega)))
  have htl:t.length=q:=by
   show t.cps.size=q
   rw [← Array.length_toList,show t.cps.toList=ys.flatMap fun y=>y.cps.toList from zxq ys]
   have:∀ cs:List Nat,((cs.map fun c=>(⟨#[c]⟩:Str)).flatMap fun y=>y.cps.toList).length=cs.length:=by
    intro cs
    induction cs with
    | nil=>rfl
    | cons c cs ih=>
     simp [List.flatMap_cons] at ih ⊢
     exact ih
   rw [this]
   simp [cs]
  have ht5:t.length≤5:=by omega
  have hc1:=zpO nD [sI' m,some (.sh (.str "abcdefghijklmnopqrstuvwxyz"))] (m2 oIx (mV 2) (m2 zgw (m2 zjb (mV 1) (mFr (m2 zbV (mFr (m2 zt8 (mC (.int 7)) (mV 0))) (mC (.int 3))))) (mC (.int 26)))) (fun k=>.str ⟨#[zib (m / (7*k+3)%26)]⟩) (List.range q) (fun k hk=>by
   have hk':=List.mem_range.mp hk
   have e:(m:Int) / (7*(k:Int)+3)%26=((m / (7*k+3)%26:Nat):Int):=by simp
   have w:=zvp (i:=m / (7*k+3)%26) (Nat.mod_lt _ (by omega))
   have cd:zzM (7*(k:Int)+3)=true:=zpI (by omega) (by omega)
   simp only [m2,mV,mFr,mC,List.getElem?_cons_succ,List.getElem?_cons_zero,Option.join_some,Option.map_some,SV.fr,Option.bind_some,zjb,fI,cd,if_true,zt8,zrR (show (-18446744073709551616:Int) < 7 by omega) (by omega),zbV,zgw,show (0:Int) < 26 by omega,e,w]) none
  simp only [oD',Option.map_none] at hc1
  rw [show (List.range q).map (fun k=>D.str ⟨#[zib (m / (7*k+3)%26)]⟩)=ys.map D.str by simp [ys,cs,List.map_map]] at hc1
  have hj:zhU (.str "") [.lst (ys.map D.str)]=some (.sh (.str t)):=by
   have e0:(Str.ofString "").length=0:=by decide +kernel
   have hsum:∀ cs:List Nat,((cs.map fun c=>(⟨#[c]⟩:Str)).map (·.length)).sum=cs.length:=by
    intro cs
    induction cs with
    | nil=>rfl
    | cons c cs ih=>
     rw [List.map_cons,List.map_cons,List.sum_cons,ih]
     show 1+cs.length=_
     simp; omega
   have h1:(ys.map (·.length)).sum+ys.length*(Str.ofString "").length≤16777216:=by
    rw [hsum cs,e0]
    simp [cs]; omega
   simp only [zhU,zlk,Option.bind_some]
   rw [if_pos h1]
  have cda:zzM ((t.length:Int)+1)=true:=zpI (by omega) (by omega)
  obtain ⟨a,ea,ha⟩:=zjf ((m:Int) / 30) (b:=(t.length:Int)+1) (by omega)
  have ha':a≤t.length:=by omega
  have hlt:0 < (t.length:Int)+1:=by omega
  have htz:t.length≤sizeLine:=by rw [zar]; omega
  refine ⟨(List.range n).map (zwv t a m),by simp,nodup_range fun j k hj hk=>zAJ (by omega) (by omega),?_,?_⟩
  ·intro z hz
   obtain ⟨k,_,rfl⟩:=List.mem_map.mp hz
   exact zyB ht ht5 ha'
  ·have hc:=zpO nD [sI' m,some (.sh (.str "abcdefghijklmnopqrstuvwxyz")),some (.sh (.str t)),sI' a] (mFr (m2 zbV (mFr (m2 zbV (mFr (mSl (mV 3) mNo (mAt (mV 4)))) (m2 oIx (mV 2) (m2 zgw (mFr (m2 zbV (m2 zjb (mV 1) (mC (.int 11))) (mFr (m2 zt8 (mC (.int 7)) (mV 0))))) (mC (.int 26)))))) (mFr (mSl (mV 3) (mAt (mV 4)) mNo)))) (fun k=>.str (zwv t a m k)) (List.range n) (fun k hk=>by
    have e:((m:Int) / 11+7*(k:Int))%26=(((m / 11+7*k)%26:Nat):Int):=by omega
    have w:=zvp (i:=(m / 11+7*k)%26) (Nat.mod_lt _ (by omega))
    obtain ⟨l1,l2⟩:=zAK (a:=a) ht5 (zib ((m / 11+7*k)%26))
    have l3:(Txt.slice t none (some (a:Int))).length+(⟨#[zib ((m / 11+7*k)%26)]⟩:Str).length≤sizeLine:=by
     have:(⟨#[zib ((m / 11+7*k)%26)]⟩:Str).length=1:=rfl
     rw [zar]; omega
    have l4:(Txt.slice t none (some (a:Int))++(⟨#[zib ((m / 11+7*k)%26)]⟩:Str)).length+(Txt.slice t (some (a:Int)) none).length≤sizeLine:=by rw [zar]; omega
    simp only [m2,mV,mFr,mC,mSl,mNo,mAt,List.getElem?_cons_succ,List.getElem?_cons_zero,Option.join_some,Option.map_some,SV.fr,Option.bind_some,zjb,fI,zpI (show (0:Int) < 11 by omega) (by omega),if_true,zt8,zrR (show (-18446744073709551616:Int) < 7 by omega) (by omega),zbV,zgw,show (0:Int) < 26 by omega,e,w,oSl,htz,l3,l4]
    rfl) none
   simp only [oD',Option.map_none] at hc
   have hil:((List.range n).map nD).length≤sizeLine:=by simpa using hz
   rw [show (List.range n).map (fun k=>D.str (zwv t a m k))=((List.range n).map (zwv t a m)).map D.str by rw [List.map_map]; rfl] at hc
   clear_value t
   generalize (List.range n).map nD=its at hr hc hil
   generalize (List.range q).map nD=itq at hrq hc1 hilq
   simp [zb7,zaD,zeR,h13,plW,zvv,dI,eq,hrq,hilq,hc1,hj,htz,ea,hlt,hr,hil,hc,D.plain,-oIx,-zhU,-List.map_map]
end My
namespace My
open PySem L2 M1
abbrev lS (zs:List Str):Option SV:=some (.li (zs.map D.str))
theorem zE7 (s0 s1 s2 s3 s5 : Option SV) (r k : Nat) (O : List Str) (hO : O.length = r) (hk : k < r) : ∀ (js : List Nat) (is : List (Nat × Nat)) (left : Int) (x10 : Option D), (∀ j ∈ js, k < j ∧ j < r) → js.Nodup → is.Nodup → (∀ i ∈ is, i.1 < k ∨ (i.1 = k ∧ i.2 ∉ js)) → (∀ i ∈ is, i.1 < i.2 ∧ i.2 < r) → is.length + js.length < sizeLine → ∃ (is' : List (Nat × Nat)) (left' : Int) (y10 : Option D),
    is'.Nodup ∧ (∀ i ∈ is', i.1 ≤ k) ∧ (∀ i ∈ is', i.1 < i.2 ∧ i.2 < r) ∧ is'.length ≤ is.length + js.length ∧
    zbj (gN 10) zcG (js.map nD) [s0, s1, s2, s3, sI' r, s5, lS O, sI' left, some (.li ((is.map (zkj O)).map pD)), sI' k, oD' x10] =
      .nx [s0, s1, s2, s3, sI' r, s5, lS O, sI' left', some (.li ((is'.map (zkj O)).map pD)), sI' k, oD' y10]
  | [], is, left, x10, _, _, nd, h1, h2, _ => ⟨is, left, x10, nd, fun i hi => by rcases h1 i hi with h | h <;> omega, h2, by simp, rfl⟩
  | j :: js, is, left, x10, hj, jn, nd, h1, h2, hl => by
    simp only [List.length_cons] at hl
    obtain ⟨jn1, jn2⟩ := List.nodup_cons.mp jn
    obtain ⟨kj, jr⟩ := hj j (by simp)
    have ok : atI (O.map D.str) (k : Int) = some (.str (O.getD k ⟨#[]⟩)) := atN (by rw [List.getElem?_map, zmq (by omega)]; rfl)
    have oj : atI (O.map D.str) (j : Int) = some (.str (O.getD j ⟨#[]⟩)) := atN (by rw [List.getElem?_map, zmq (by omega)]; rfl)
    have hx : is.length < sizeLine := by omega
    have h2' : (2 : Nat) ≤ sizeLine := by rw [zar]; omega
    by_cases d : (left % 3 == 0) = true
    · obtain ⟨is', left', y10, a1, a2, a3, a4, ih⟩ := zE7 s0 s1 s2 s3 s5 r k O hO hk js (is ++ [(k, j)]) (left / 3) (some (.int j)) (fun x hx => hj x (by simp [hx])) jn2
        (by
          rw [List.nodup_append]
          refine ⟨nd, by simp, fun a ha b hb e => ?_⟩
          rw [List.mem_singleton.mp hb] at e
          subst e
          rcases h1 _ ha with h | h
          · exact absurd h (Nat.lt_irrefl k)
          · exact h.2 (by simp))
        (fun i hi => by
          rcases List.mem_append.mp hi with hi | hi
          · rcases h1 i hi with h | h
            · exact .inl h
            · exact .inr ⟨h.1, fun z => h.2 (by simp [z])⟩
          · rw [List.mem_singleton.mp hi]; exact .inr ⟨rfl, jn1⟩)
        (fun i hi => by
          rcases List.mem_append.mp hi with hi | hi
          · exact h2 i hi
          · rw [List.mem_singleton.mp hi]; exact ⟨kj, jr⟩) (by simp; omega)
      refine ⟨is', left', y10, a1, a2, a3, by simp at a4 ⊢; omega, ?_⟩
      rw [← ih, List.map_cons, zbj]
      have e : pD (zkj O (k, j)) = .tup [.str (O.getD k ⟨#[]⟩), .str (O.getD j ⟨#[]⟩)] := rfl
      simp [zcG, zvv, d, ok, oj, h2', hx, D.plain, D.plains, e, -List.map_map, -List.getD_eq_getElem?_getD]
    · obtain ⟨is', left', y10, a1, a2, a3, a4, ih⟩ := zE7 s0 s1 s2 s3 s5 r k O hO hk js is (left / 3) (some (.int j)) (fun x hx => hj x (by simp [hx])) jn2 nd
        (fun i hi => by
          rcases h1 i hi with h | h
          · exact .inl h
          · exact .inr ⟨h.1, fun z => h.2 (by simp [z])⟩) h2 (by omega)
      refine ⟨is', left', y10, a1, a2, a3, by simp at a4 ⊢; omega, ?_⟩
      rw [← ih, List.map_cons, zbj]
      simp [zcG, zvv, d, D.plain, -List.map_map]
theorem zDb (s0 s1 s2 s3 s5:Option SV) (r:Nat) (O:List Str) (hO:O.length=r) (hr:r≤6):∀ (ks:List Nat) (is:List (Nat×Nat)) (left:Int) (x9 x10:Option D),(∀ k∈ks,k < r)→ks.Pairwise (·< ·)→is.Nodup→(∀ i∈is,∀ k∈ks,i.1 < k)→(∀ i∈is,i.1 < i.2∧i.2 < r)→is.length+6*ks.length < 100→∃ (is':List (Nat×Nat)) (left':Int) (y9 y10:Option D),
  is'.Nodup∧(∀ i∈is',i.1 < i.2∧i.2 < r)∧
  zbj (gN 9) zcH (ks.map nD) [s0,s1,s2,s3,sI' r,s5,lS O,sI' left,some (.li ((is.map (zkj O)).map pD)),oD' x9,oD' x10] =
   .nx [s0,s1,s2,s3,sI' r,s5,lS O,sI' left',some (.li ((is'.map (zkj O)).map pD)),oD' y9,oD' y10]
 | [],is,left,x9,x10,_,_,nd,_,h2,_=>⟨is,left,x9,x10,nd,h2,rfl⟩
 | k :: ks,is,left,x9,x10,hk,ho,nd,h1,h2,hl=>by
  simp only [List.length_cons] at hl
  obtain ⟨ho1,ho2⟩:=List.pairwise_cons.mp ho
  have kr:=hk k (by simp)
  have rg:=zHs (k+1) r (by omega) (by omega)
  have mem:∀ j∈(List.range (r-(k+1))).map (fun i=>k+1+i),k < j∧j < r:=by
   intro j hj
   obtain ⟨i,hi,rfl⟩:=List.mem_map.mp hj
   have:=List.mem_range.mp hi
   omega
  have ln:((List.range (r-(k+1))).map fun i=>k+1+i).length≤6:=by simp; omega
  obtain ⟨is1,left1,z10,a1,a2,a3,a4,e⟩:=zE7 s0 s1 s2 s3 s5 r k O hO kr ((List.range (r-(k+1))).map fun i=>k+1+i) is left x10 mem
   (M1.nodup_map_on (fun x _ y _ e=>by omega) List.nodup_range) nd (fun i hi=>.inl (h1 i hi k (by simp))) h2 (by rw [zar]; omega)
  obtain ⟨is',left',y9,y10,b1,b2,ih⟩:=zDb s0 s1 s2 s3 s5 r O hO hr ks is1 left1 (some (.int k)) z10 (fun x hx=>hk x (by simp [hx])) ho2 a1
   (fun i hi q hq=>Nat.lt_of_le_of_lt (a2 i hi) (ho1 q hq)) a3 (by omega)
  refine ⟨is',left',y9,y10,b1,b2,?_⟩
  rw [← ih,List.map_cons,zbj]
  generalize ((List.range (r-(k+1))).map fun i=>k+1+i).map nD=its at rg e
  have ek:((k:Int)+1)=((k+1:Nat):Int):=by omega
  have hb:zcH [s0,s1,s2,s3,sI' r,s5,lS O,sI' left,some (.li ((is.map (zkj O)).map pD)),sI' k,oD' x10]=.nx [s0,s1,s2,s3,sI' r,s5,lS O,sI' left1,some (.li ((is1.map (zkj O)).map pD)),sI' k,oD' z10]:=by
   rw [← e]
   simp only [zcH,zlr,zuz,mR2,zac,mFr,m2,mV,mC,zak,List.getElem?_cons_succ,List.getElem?_cons_zero,Option.join_some,Option.map_some,SV.fr,Option.bind_some,zbV,ek,List.length_cons,List.length_nil,if_true,Nat.zero_add,Nat.reduceAdd,rg]
  have hg:gN 9 (nD k) [s0,s1,s2,s3,sI' r,s5,lS O,sI' left,some (.li ((is.map (zkj O)).map pD)),oD' x9,oD' x10]=some [s0,s1,s2,s3,sI' r,s5,lS O,sI' left,some (.li ((is.map (zkj O)).map pD)),sI' k,oD' x10]:=by simp
  rw [hg]
  simp only [hb]
  rfl
def zvq:List (Nat×Nat):=[(2,2),(2,3),(3,2),(1,4),(4,1),(2,4),(4,2),(1,6),(1,1),(3,1),(2,1),(1,2)]
def zvr:List (Nat×Nat):=[(2,6),(3,4),(4,3),(2,5)]
def sP (p:Nat×Nat):D:=.tup [.int p.1,.int p.2]
theorem zCr:∀ p∈zvq++zvr,1≤p.1∧p.1≤4∧1≤p.2∧p.2≤6∧p.1*p.2≤12:=by decide
theorem zAL (c:Int):∃ (F R:List Str) (ps:List Pr),Valid F R ps∧zcA [.int c]=some (.sh (tD F R ps)):=by
 obtain ⟨ws,hw,hs⟩:=zxA c 8 (by omega)
 match ws,hw,hs with
 | [n0,n1,n2,n3,n4,n5,n6,n7],_,hs=>
  have hz:16≤sizeLine:=by rw [zar]; omega
  have h2:2≤sizeLine:=by omega
  have h4:4≤sizeLine:=by omega
  have h12:12≤sizeLine:=by omega
  let NS:List D:=[nD n0,nD n1,nD n2,nD n3,nD n4,nD n5,nD n6,nD n7]
  let SZ:List D:=[.tup [.int 2,.int 2],.tup [.int 2,.int 3],.tup [.int 3,.int 2],.tup [.int 1,.int 4],.tup [.int 4,.int 1],.tup [.int 2,.int 4],.tup [.int 4,.int 2],.tup [.int 1,.int 6],.tup [.int 1,.int 1],.tup [.int 3,.int 1],.tup [.int 2,.int 1],.tup [.int 1,.int 2]]
  obtain ⟨i0,e0,l0⟩:=zjf (n0:Int) (b:=12) (by omega)
  obtain ⟨p0,hp0⟩:∃ p,zvq[i0]? = some p:=⟨_,List.getElem?_eq_getElem (show i0 < zvq.length by show i0 < 12; omega)⟩
  obtain ⟨i1,e1,l1⟩:=zjf ((n1:Int) / 16) (b:=4) (by omega)
  obtain ⟨p1,hp1⟩:∃ p,zvr[i1]? = some p:=⟨_,List.getElem?_eq_getElem (show i1 < zvr.length by show i1 < 4; omega)⟩
  have at0':atI (zvq.map sP) (i0:Int)=some (sP p0):=atN (by rw [List.getElem?_map,hp0]; rfl)
  have at1':atI (zvr.map sP) (i1:Int)=some (sP p1):=atN (by rw [List.getElem?_map,hp1]; rfl)
  have at0:atI SZ (i0:Int)=some (.tup [.int p0.1,.int p0.2]):=at0'
  have at1:atI [D.tup [.int 2,.int 6],D.tup [.int 3,.int 4],D.tup [.int 4,.int 3],D.tup [.int 2,.int 5]] (i1:Int)=some (.tup [.int p1.1,.int p1.2]):=at1'
  -- sizes
  obtain ⟨p,hp,eP⟩:∃ p∈zvq++zvr,(mIf (zaj (m2 oEq (m2 zgw (m2 oIx (mV 1) (mC (.int 1))) (mC (.int 16))) (mC (.int 3))))
  (zFw [1] (mSh (m2 oIx (mFr (zgv (zac (zel (zac (mC (.int 2)) (zac (mC (.int 6)) zak))) (zac (zel (zac (mC (.int 3)) (zac (mC (.int 4)) zak))) (zac (zel (zac (mC (.int 4)) (zac (mC (.int 3)) zak))) (zac (zel (zac (mC (.int 2)) (zac (mC (.int 5)) zak))) zak)))))) (m2 zgw (m2 zjb (m2 oIx (mV 1) (mC (.int 1))) (mC (.int 16))) (mC (.int 4))))) (gSq 2 (gCs (gN 3) (gCs (gN 4) gNs))))
  za7) [sI' c,some (.li NS),some (.li SZ),sI' p0.1,sI' p0.2,none,none,none,none,none,none]=.nx [sI' c,some (.li NS),some (.li SZ),sI' p.1,sI' p.2,none,none,none,none,none,none]:=by
   by_cases d:((n1:Int)%16==3)=true
   ·refine ⟨p1,List.mem_append_right _ (List.mem_of_getElem? hp1),?_⟩
    have a1:atI NS 1=some (nD n1):=rfl
    simp [a1,zvv,d,h2,h4,e1,at1,D.plain,D.plains]
   ·refine ⟨p0,List.mem_append_left _ (List.mem_of_getElem? hp0),?_⟩
    have a1:atI NS 1=some (nD n1):=rfl
    simp [a1,zvv,d]
  obtain ⟨q1,q2,q3,q4,q5⟩:=zCr p hp
  obtain ⟨R,rl,rn,rg,eR⟩:=zxC n2 p.2 q4
  obtain ⟨F,fl,fn,fg,eF⟩:=zxC n6 p.1 (by omega)
  obtain ⟨a,ea,la⟩:=zjf (n3:Int) (b:=(p.2:Int)) (by omega)
  have cd:(0:Int) < (p.2:Int):=by omega
  have c1:zyE (R.map D.str) (some (a:Int)) none=(R.drop a).map D.str:=by rw [zHu _ _ (by rw [List.length_map]; omega),List.map_drop]
  have c2:zyE (R.map D.str) none (some (a:Int))=(R.take a).map D.str:=by rw [zHt _ _ (by rw [List.length_map]; omega),List.map_take]
  have pr0:(R.drop a++R.take a).Perm R:=(List.perm_append_comm).trans (by rw [List.take_append_drop])
  have hlO:(R.drop a).length+(R.take a).length≤sizeLine:=by simp; omega
  -- the order
  obtain ⟨O,hO,eO⟩:∃ O:List Str,O.Perm R∧(mIf (zaj (m2 oEq (m2 zgw (m2 oIx (mV 1) (mC (.int 5))) (mC (.int 2))) (mC (.int 1))))
  (zHh 6)
  za7) [sI' c,some (.li NS),some (.li SZ),sI' p.1,sI' p.2,lS R,lS (R.drop a++R.take a),none,none,none,none]=.nx [sI' c,some (.li NS),some (.li SZ),sI' p.1,sI' p.2,lS R,lS O,none,none,none,none]:=by
   have a5:atI NS 5=some (nD n5):=rfl
   by_cases d:((n5:Int)%2==1)=true
   ·refine ⟨(R.drop a++R.take a).reverse,(List.reverse_perm _).trans pr0,?_⟩
    rw [show lS ((R.drop a++R.take a).reverse)=some (.li ((R.drop a++R.take a).map D.str).reverse) by simp only [lS,List.map_reverse]]
    generalize (R.drop a++R.take a)=Z
    simp [a5,zvv,d]
   ·refine ⟨R.drop a++R.take a,pr0,?_⟩
    generalize (R.drop a++R.take a)=Z
    simp [a5,zvv,d]
  have hOl:O.length=p.2:=by rw [hO.length_eq,rl]
  obtain ⟨is,left',y9,y10,b1,b2,eL⟩:=zDb (sI' c) (some (.li NS)) (some (.li SZ)) (sI' p.1) (lS R) p.2 O hOl q4 (List.range p.2) [] n4 none none (by intro k hk; exact List.mem_range.mp hk) List.pairwise_lt_range (by simp) (by simp) (by simp) (by simp; omega)
  have hr:=zEL p.2 (by omega)
  refine ⟨F,R,is.map (zkj O),zCe (by omega) (by omega) (by omega) (by omega) (by rw [fl,rl]; exact q5) fn rn fg rg hO b1 (fun i hi=>by rw [hOl]; exact b2 i hi) (List.Perm.refl _),?_⟩
  have a0:atI NS 0=some (nD n0):=rfl
  have a2:atI NS 2=some (nD n2):=rfl
  have a3:atI NS 3=some (nD n3):=rfl
  have a4:atI NS 4=some (nD n4):=rfl
  have a6:atI NS 6=some (nD n6):=rfl
  have pN:D.plains NS=true:=rfl
  have pS:D.plains SZ=true:=rfl
  have hs':zba [.int c,.int 8]=some (.li NS):=hs
  have pO:D.plains ((R.drop a).map D.str++(R.take a).map D.str)=true:=by rw [← List.map_append]; exact zje _
  have lS1:lS (R.drop a++R.take a)=some (.li ((R.drop a).map D.str++(R.take a).map D.str)):=by simp only [lS,List.map_append]
  refine znf rfl ?_
  show zfe [sI' c,none,none,none,none,none,none,none,none,none,none]=_
  unfold zfe zor
  refine za9 (S1:=[sI' c,some (.li NS),none,none,none,none,none,none,none,none,none]) ?_ ?_
  ·simp [hs',pN]
  refine za9 (S1:=[sI' c,some (.li NS),some (.li SZ),none,none,none,none,none,none,none,none]) ?_ ?_
  ·simp [h2,h12,SZ,D.plain,D.plains]
  refine za9 (S1:=[sI' c,some (.li NS),some (.li SZ),sI' p0.1,sI' p0.2,none,none,none,none,none,none]) ?_ ?_
  ·simp [a0,e0,at0,D.plain,D.plains]
  refine za9 eP ?_
  refine za9 (S1:=[sI' c,some (.li NS),some (.li SZ),sI' p.1,sI' p.2,lS R,none,none,none,none,none]) ?_ ?_
  ·simp [a2,eR,zje]
  refine za9 (S1:=[sI' c,some (.li NS),some (.li SZ),sI' p.1,sI' p.2,lS R,lS (R.drop a++R.take a),none,none,none,none]) ?_ ?_
  ·rw [lS1]
   simp only [List.length_drop,List.length_take] at hlO
   have cdN:0 < p.2:=by omega
   simp [a3,cd,cdN,ea,c1,c2,hlO,pO,-List.map_drop,-List.map_take]
  refine za9 eO ?_
  refine za9 (S1:=[sI' c,some (.li NS),some (.li SZ),sI' p.1,sI' p.2,lS R,lS O,sI' n4,none,none,none]) ?_ ?_
  ·simp [a4,D.plain]
  refine za9 (S1:=[sI' c,some (.li NS),some (.li SZ),sI' p.1,sI' p.2,lS R,lS O,sI' n4,some (.li []),none,none]) ?_ ?_
  ·simp [D.plains]
  refine za9 (zuJ (zEN (n:=p.2) rfl (by omega)) eL) ?_
  have h3:3≤sizeLine:=by omega
  simp [a6,eF,tD,h3]
end My
namespace My
open PySem L2 M1
theorem zcX {a b:Str} (ha:Ok a) (hb:Ok b):Ok (a++b):=by
 unfold Ok PyData.strOk at *
 rw [← Array.all_toList,List.all_eq_true] at *
 intro c hc
 rw [zcu,List.mem_append] at hc
 rcases hc with h | h
 ·exact ha c h
 ·exact hb c h
theorem zi7 {a b:Str} (h:a.length+b.length≤1000):zbV (.str a) (.str b)=some (.sh (.str (a++b))):=by
 have:a.length+b.length≤sizeLine:=by rw [zar]; omega
 simp [this]
theorem zAM (a b c:Str):a++b++c=a++(b++c):=zz4 (by rw [zcu,zcu,zcu,zcu,List.append_assoc])
abbrev Tm:=Bool×Str
def tw (b:Bool):Str:=if b=true then "has" else "not"
def tmD (t:Tm):D:=.tup [.str (tw t.1),.str t.2]
def cnC (b:Bool):Nat:=if b=true then 2 else 6
def cnD (t:Tm):D:=.ins (cnC t.1) [("role",.str t.2)]
inductive Ru
 | give (r a:Str) (ts:List Tm)
 | take (r a:Str) (ts:List Tm)
 | lay (r:Str) (ts:List Tm)
 | both (p q:Str)
 | most (n:Nat) (r:Str)
 | last (r:Str)
def Ru.kn:Ru→Str
 | .give ..=>"give"
 | .take ..=>"take"
 | .lay ..=>"lay"
 | .both ..=>"both"
 | .most ..=>"most"
 | .last ..=>"last"
def Ru.T:Ru→D
 | .give r a ts=>.tup [.str "give",.str r,.str a,.lst (ts.map tmD)]
 | .take r a ts=>.tup [.str "take",.str r,.str a,.lst (ts.map tmD)]
 | .lay r ts=>.tup [.str "lay",.str r,.lst (ts.map tmD)]
 | .both p q=>.tup [.str "both",.str p,.str q]
 | .most n r=>.tup [.str "most",.int n,.str r]
 | .last r=>.tup [.str "last",.str r]
def Ru.I:Ru→D
 | .give r a ts=>.ins 1 [("role",.str r),("by",.str a),("terms",.tup (ts.map cnD))]
 | .take r a ts=>.ins 8 [("role",.str r),("by",.str a),("terms",.tup (ts.map cnD))]
 | .lay r ts=>.ins 4 [("role",.str r),("terms",.tup (ts.map cnD))]
 | .both p q=>.ins 0 [("one",.str p),("other",.str q)]
 | .most n r=>.ins 5 [("most",.int n),("role",.str r)]
 | .last r=>.ins 3 [("role",.str r)]
def zFA (R:List Str) (ts:List Tm):Prop:=ts.length≤2∧∀ t∈ts,t.2∈R
def Ru.Ok (R:List Str):Ru→Prop
 | .give r a ts=>r∈R∧a∈R∧zFA R ts
 | .take r a ts=>r∈R∧a∈R∧zFA R ts
 | .lay r ts=>r∈R∧zFA R ts
 | .both p q=>p∈R∧q∈R∧p≠q
 | .most n r=>1≤n∧n≤4∧r∈R
 | .last r=>r∈R
theorem oG:Ok "give":=by decide +kernel
theorem oT:Ok "take":=by decide +kernel
theorem oL:Ok "lay":=by decide +kernel
theorem oB:Ok "both":=by decide +kernel
theorem oM:Ok "most":=by decide +kernel
theorem oZ:Ok "last":=by decide +kernel
theorem oH:Ok "has":=by decide +kernel
theorem oN:Ok "not":=by decide +kernel
theorem eqC {a b:Str} {c:Bool} (ha:Ok a) (hb:Ok b) (h:(a==b)=c):oEq (.str a) (.str b)=some (.bl c):=by rw [eqS ha hb,h]
theorem neC {a b:Str} {c:Bool} (ha:Ok a) (hb:Ok b) (h:(!(a==b))=c):oNe (.str a) (.str b)=some (.bl c):=by rw [neS ha hb,h]
section
@[simp] theorem eGG:oEq (.str "give") (.str "give")=some (.bl true):=eqC oG oG (by decide +kernel)
@[simp] theorem eTG:oEq (.str "take") (.str "give")=some (.bl false):=eqC oT oG (by decide +kernel)
@[simp] theorem eLG:oEq (.str "lay") (.str "give")=some (.bl false):=eqC oL oG (by decide +kernel)
@[simp] theorem eBG:oEq (.str "both") (.str "give")=some (.bl false):=eqC oB oG (by decide +kernel)
@[simp] theorem eMG:oEq (.str "most") (.str "give")=some (.bl false):=eqC oM oG (by decide +kernel)
@[simp] theorem eZG:oEq (.str "last") (.str "give")=some (.bl false):=eqC oZ oG (by decide +kernel)
@[simp] theorem eGT:oEq (.str "give") (.str "take")=some (.bl false):=eqC oG oT (by decide +kernel)
@[simp] theorem eTT:oEq (.str "take") (.str "take")=some (.bl true):=eqC oT oT (by decide +kernel)
@[simp] theorem eLT:oEq (.str "lay") (.str "take")=some (.bl false):=eqC oL oT (by decide +kernel)
@[simp] theorem eBT:oEq (.str "both") (.str "take")=some (.bl false):=eqC oB oT (by decide +kernel)
@[simp] theorem eMT:oEq (.str "most") (.str "take")=some (.bl false):=eqC oM oT (by decide +kernel)
@[simp] theorem eZT:oEq (.str "last") (.str "take")=some (.bl false):=eqC oZ oT (by decide +kernel)
@[simp] theorem eGL:oEq (.str "give") (.str "lay")=some (.bl false):=eqC oG oL (by decide +kernel)
@[simp] theorem eTL:oEq (.str "take") (.str "lay")=some (.bl false):=eqC oT oL (by decide +kernel)
@[simp] theorem eLL:oEq (.str "lay") (.str "lay")=some (.bl true):=eqC oL oL (by decide +kernel)
@[simp] theorem eBL:oEq (.str "both") (.str "lay")=some (.bl false):=eqC oB oL (by decide +kernel)
@[simp] theorem eML:oEq (.str "most") (.str "lay")=some (.bl false):=eqC oM oL (by decide +kernel)
@[simp] theorem eZL:oEq (.str "last") (.str "lay")=some (.bl false):=eqC oZ oL (by decide +kernel)
@[simp] theorem eGB:oEq (.str "give") (.str "both")=some (.bl false):=eqC oG oB (by decide +kernel)
@[simp] theorem eTB:oEq (.str "take") (.str "both")=some (.bl false):=eqC oT oB (by decide +kernel)
@[simp] theorem eLB:oEq (.str "lay") (.str "both")=some (.bl false):=eqC oL oB (by decide +kernel)
@[simp] theorem eBB:oEq (.str "both") (.str "both")=some (.bl true):=eqC oB oB (by decide +kernel)
@[simp] theorem eMB:oEq (.str "most") (.str "both")=some (.bl false):=eqC oM oB (by decide +kernel)
@[simp] theorem eZB:oEq (.str "last") (.str "both")=some (.bl false):=eqC oZ oB (by decide +kernel)
@[simp] theorem eGM:oEq (.str "give") (.str "most")=some (.bl false):=eqC oG oM (by decide +kernel)
@[simp] theorem eTM:oEq (.str "take") (.str "most")=some (.bl false):=eqC oT oM (by decide +kernel)
@[simp] theorem eLM:oEq (.str "lay") (.str "most")=some (.bl false):=eqC oL oM (by decide +kernel)
@[simp] theorem eBM:oEq (.str "both") (.str "most")=some (.bl false):=eqC oB oM (by decide +kernel)
@[simp] theorem eMM:oEq (.str "most") (.str "most")=some (.bl true):=eqC oM oM (by decide +kernel)
@[simp] theorem eZM:oEq (.str "last") (.str "most")=some (.bl false):=eqC oZ oM (by decide +kernel)
@[simp] theorem eGZ:oEq (.str "give") (.str "last")=some (.bl false):=eqC oG oZ (by decide +kernel)
@[simp] theorem eTZ:oEq (.str "take") (.str "last")=some (.bl false):=eqC oT oZ (by decide +kernel)
@[simp] theorem eLZ:oEq (.str "lay") (.str "last")=some (.bl false):=eqC oL oZ (by decide +kernel)
@[simp] theorem eBZ:oEq (.str "both") (.str "last")=some (.bl false):=eqC oB oZ (by decide +kernel)
@[simp] theorem eMZ:oEq (.str "most") (.str "last")=some (.bl false):=eqC oM oZ (by decide +kernel)
@[simp] theorem eZZ:oEq (.str "last") (.str "last")=some (.bl true):=eqC oZ oZ (by decide +kernel)
@[simp] theorem eHH:oEq (.str "has") (.str "has")=some (.bl true):=eqC oH oH (by decide +kernel)
@[simp] theorem eNH:oEq (.str "not") (.str "has")=some (.bl false):=eqC oN oH (by decide +kernel)
@[simp] theorem nBB:oNe (.str "both") (.str "both")=some (.bl false):=neC oB oB (by decide +kernel)
@[simp] theorem nGB:oNe (.str "give") (.str "both")=some (.bl true):=neC oG oB (by decide +kernel)
@[simp] theorem nTB:oNe (.str "take") (.str "both")=some (.bl true):=neC oT oB (by decide +kernel)
@[simp] theorem nLB:oNe (.str "lay") (.str "both")=some (.bl true):=neC oL oB (by decide +kernel)
@[simp] theorem nMB:oNe (.str "most") (.str "both")=some (.bl true):=neC oM oB (by decide +kernel)
@[simp] theorem nZB:oNe (.str "last") (.str "both")=some (.bl true):=neC oZ oB (by decide +kernel)
end
theorem eTw (b:Bool):oEq (.str (tw b)) (.str "has")=some (.bl b):=by cases b <;> simp [tw]
theorem zxD (b:Bool) (r:Str):zaE (cnC b) [.str r]=some [(("role":Str),.str r)]:=by
 cases b <;> simp [zaE,zpK,zhY,cnC,zlm]
theorem zE8 (t:Tm):zaQ [tmD t]=some (.sh (cnD t)):=by
 obtain ⟨b,r⟩:=t
 have e:=eTw b
 have h2:=zxD true r
 have h6:=zxD false r
 simp only [cnC,if_true,Bool.false_eq_true,if_false] at h2 h6
 have at0:atI [D.str (tw b),D.str r] 0=some (.str (tw b)):=rfl
 have at1:atI [D.str (tw b),D.str r] 1=some (.str r):=rfl
 cases b <;> simp [zaQ,zaD,zcS,zkn,tmD,at0,at1,e,h2,h6,cnD,cnC]
theorem zAN (ts:List Tm):zcN (gN 0) zdo (mFr (m1 zaQ (zac (mV 0) zak))) (ts.map tmD) [none]=some (ts.map cnD):=
 zpO tmD [] _ cnD ts (fun t _=>by simp [zE8]) none
theorem zHR {R:List Str} {ru:Ru} (h:ru.Ok R):zbW [ru.T]=some (.sh ru.I):=by
 have n1:¬ (("role":Str)="by"):=by decide
 have n2:¬ (("role":Str)="terms"):=by decide
 have n3:¬ (("by":Str)="terms"):=by decide
 have n4:¬ (("one":Str)="other"):=by decide
 have n5:¬ (("most":Str)="role"):=by decide
 cases ru with
 | give r a ts=>
  have hl:ts.length≤sizeLine:=by have:=h.2.2.1; rw [zar]; omega
  have i:zdK 1 [.str r,.str a,.lst (ts.map cnD)]=some [(("role":Str),.str r),(("by":Str),.str a),(("terms":Str),.tup (ts.map cnD))]:=by
   simp [zdK,zpK,zmu,zlm,n1,n2,n3]
  have a0:atI [D.str "give",.str r,.str a,.lst (ts.map tmD)] 0=some (.str "give"):=rfl
  have a1:atI [D.str "give",.str r,.str a,.lst (ts.map tmD)] 1=some (.str r):=rfl
  have a2:atI [D.str "give",.str r,.str a,.lst (ts.map tmD)] 2=some (.str a):=rfl
  have a3:atI [D.str "give",.str r,.str a,.lst (ts.map tmD)] 3=some (.lst (ts.map tmD)):=rfl
  simp [zbW,zaD,zdO,zeT,Ru.T,Ru.I,a0,a1,a2,a3,hl,zAN,i]
 | take r a ts=>
  have hl:ts.length≤sizeLine:=by have:=h.2.2.1; rw [zar]; omega
  have i:zdL 8 [.str r,.str a,.tup (ts.map cnD)]=some [(("role":Str),.str r),(("by":Str),.str a),(("terms":Str),.tup (ts.map cnD))]:=by
   simp [zdL,zpK,zmv,zlm,n1,n2,n3]
  have a0:atI [D.str "take",.str r,.str a,.lst (ts.map tmD)] 0=some (.str "take"):=rfl
  have a1:atI [D.str "take",.str r,.str a,.lst (ts.map tmD)] 1=some (.str r):=rfl
  have a2:atI [D.str "take",.str r,.str a,.lst (ts.map tmD)] 2=some (.str a):=rfl
  have a3:atI [D.str "take",.str r,.str a,.lst (ts.map tmD)] 3=some (.lst (ts.map tmD)):=rfl
  simp [zbW,zaD,zdO,zeT,Ru.T,Ru.I,a0,a1,a2,a3,hl,zAN,i]
 | lay r ts=>
  have hl:ts.length≤sizeLine:=by have:=h.2.1; rw [zar]; omega
  have i:zem 4 [.str r,.lst (ts.map cnD)]=some [(("role":Str),.str r),(("terms":Str),.tup (ts.map cnD))]:=by
   simp [zem,zpK,zos,zlm,n2]
  have a0:atI [D.str "lay",.str r,.lst (ts.map tmD)] 0=some (.str "lay"):=rfl
  have a1:atI [D.str "lay",.str r,.lst (ts.map tmD)] 1=some (.str r):=rfl
  have a2:atI [D.str "lay",.str r,.lst (ts.map tmD)] 2=some (.lst (ts.map tmD)):=rfl
  simp [zbW,zaD,zdO,zeT,Ru.T,Ru.I,a0,a1,a2,hl,zAN,i]
 | both p q=>
  have i:zdM 0 [.str p,.str q]=some [(("one":Str),.str p),(("other":Str),.str q)]:=by
   simp [zdM,zpK,zmw,zlm,n4]
  have a0:atI [D.str "both",.str p,.str q] 0=some (.str "both"):=rfl
  have a1:atI [D.str "both",.str p,.str q] 1=some (.str p):=rfl
  have a2:atI [D.str "both",.str p,.str q] 2=some (.str q):=rfl
  simp [zbW,zaD,zdO,zeT,Ru.T,Ru.I,a0,a1,a2,i]
 | most n r=>
  have i:zdN 5 [.int n,.str r]=some [(("most":Str),.int n),(("role":Str),.str r)]:=by
   simp [zdN,zpK,zmx,zlm,n5]
  have a0:atI [D.str "most",.int n,.str r] 0=some (.str "most"):=rfl
  have a1:atI [D.str "most",.int n,.str r] 1=some (.int n):=rfl
  have a2:atI [D.str "most",.int n,.str r] 2=some (.str r):=rfl
  simp [zbW,zaD,zdO,zeT,Ru.T,Ru.I,a0,a1,a2,i]
 | last r=>
  have i:zdJ 3 [.str r]=some [(("role":Str),.str r)]:=by
   simp [zdJ,zpK,zmt,zlm]
  have a0:atI [D.str "last",.str r] 0=some (.str "last"):=rfl
  have a1:atI [D.str "last",.str r] 1=some (.str r):=rfl
  simp [zbW,zaD,zdO,zeT,Ru.T,Ru.I,a0,a1,i]
end My
namespace My
open PySem L2 M1
@[simp] theorem bq0:(("row":Str)=="role")=false:=by decide +kernel
@[simp] theorem bq1:(("row":Str)=="by")=false:=by decide +kernel
@[simp] theorem bq2:(("row":Str)=="terms")=false:=by decide +kernel
@[simp] theorem bq3:(("row":Str)=="one")=false:=by decide +kernel
@[simp] theorem bq4:(("row":Str)=="other")=false:=by decide +kernel
@[simp] theorem bq5:(("row":Str)=="most")=false:=by decide +kernel
@[simp] theorem bq6:(("names":Str)=="role")=false:=by decide +kernel
@[simp] theorem bq7:(("names":Str)=="by")=false:=by decide +kernel
@[simp] theorem bq8:(("names":Str)=="terms")=false:=by decide +kernel
@[simp] theorem bq9:(("names":Str)=="one")=false:=by decide +kernel
@[simp] theorem zLA:(("names":Str)=="other")=false:=by decide +kernel
@[simp] theorem zLB:(("names":Str)=="most")=false:=by decide +kernel
@[simp] theorem zLC:(("permits":Str)=="role")=false:=by decide +kernel
@[simp] theorem zLD:(("permits":Str)=="by")=false:=by decide +kernel
@[simp] theorem zLE:(("permits":Str)=="terms")=false:=by decide +kernel
@[simp] theorem zLF:(("permits":Str)=="one")=false:=by decide +kernel
@[simp] theorem zLG:(("permits":Str)=="other")=false:=by decide +kernel
@[simp] theorem zLH:(("permits":Str)=="most")=false:=by decide +kernel
@[simp] theorem zLI:(("speaks_of":Str)=="role")=false:=by decide +kernel
@[simp] theorem zLJ:(("speaks_of":Str)=="by")=false:=by decide +kernel
@[simp] theorem zLK:(("speaks_of":Str)=="terms")=false:=by decide +kernel
@[simp] theorem zLL:(("speaks_of":Str)=="one")=false:=by decide +kernel
@[simp] theorem zLM:(("speaks_of":Str)=="other")=false:=by decide +kernel
@[simp] theorem zLN:(("speaks_of":Str)=="most")=false:=by decide +kernel
@[simp] theorem zLO:(("missing":Str)=="role")=false:=by decide +kernel
@[simp] theorem zLP:(("missing":Str)=="by")=false:=by decide +kernel
@[simp] theorem zLQ:(("missing":Str)=="terms")=false:=by decide +kernel
@[simp] theorem zLR:(("missing":Str)=="one")=false:=by decide +kernel
@[simp] theorem zLS:(("missing":Str)=="other")=false:=by decide +kernel
@[simp] theorem zLT:(("missing":Str)=="most")=false:=by decide +kernel
@[simp] theorem zLU:(("asked":Str)=="role")=false:=by decide +kernel
@[simp] theorem zLV:(("asked":Str)=="by")=false:=by decide +kernel
@[simp] theorem zLW:(("asked":Str)=="terms")=false:=by decide +kernel
@[simp] theorem zLX:(("asked":Str)=="one")=false:=by decide +kernel
@[simp] theorem zLY:(("asked":Str)=="other")=false:=by decide +kernel
@[simp] theorem zLZ:(("asked":Str)=="most")=false:=by decide +kernel
@[simp] theorem zL0:(("holds":Str)=="role")=false:=by decide +kernel
@[simp] theorem zL1:(("holds":Str)=="by")=false:=by decide +kernel
@[simp] theorem zL2:(("holds":Str)=="terms")=false:=by decide +kernel
@[simp] theorem zL3:(("holds":Str)=="one")=false:=by decide +kernel
@[simp] theorem zL4:(("holds":Str)=="other")=false:=by decide +kernel
@[simp] theorem zL5:(("holds":Str)=="most")=false:=by decide +kernel
@[simp] theorem zL6:(("by":Str)=="role")=false:=by decide +kernel
@[simp] theorem zL7:(("terms":Str)=="role")=false:=by decide +kernel
@[simp] theorem zL8:(("terms":Str)=="by")=false:=by decide +kernel
@[simp] theorem zL9:(("other":Str)=="one")=false:=by decide +kernel
@[simp] theorem zMa:(("role":Str)=="most")=false:=by decide +kernel
def zgN (t:Tm):Str:=tw t.1++" "++t.2
def ziL (link:Str) (ts:List Tm):Str:=if ts=[] then "" else " "++link++" "++Txt.join " and " (ts.map zgN)
def zCs (n:Nat):Str:=Str.ofString (toString (n:Int))
def Ru.row:Ru→Str
 | .give r a ts=>"give "++r++" by "++a++ziL "to" ts
 | .take r a ts=>"take "++r++" by "++a++ziL "from" ts
 | .lay r ts=>"lay "++r++ziL "if" ts
 | .both p q=>"both "++p++" "++q
 | .most n r=>"most "++(zCs n)++" "++r
 | .last r=>"last "++r
theorem zt9:(" ":Str).length=1:=by decide +kernel
theorem zJY:("has":Str).length=3:=by decide +kernel
theorem zJZ:("not":Str).length=3:=by decide +kernel
theorem zAO:("has ":Str).length=4:=by decide +kernel
theorem zHS:("not ":Str).length=4:=by decide +kernel
theorem zyH:(" by ":Str).length=4:=by decide +kernel
theorem zHT:(" and ":Str).length=5:=by decide +kernel
theorem zo2:("give ":Str).length=5:=by decide +kernel
theorem zo3:("take ":Str).length=5:=by decide +kernel
theorem zCt:("lay ":Str).length=4:=by decide +kernel
theorem zAP:("both ":Str).length=5:=by decide +kernel
theorem zAQ:("most ":Str).length=5:=by decide +kernel
theorem zHU:("last ":Str).length=5:=by decide +kernel
theorem zIB:("to":Str).length=2:=by decide +kernel
theorem zxE:("from":Str).length=4:=by decide +kernel
theorem zIC:("if":Str).length=2:=by decide +kernel
theorem l_0:("":Str).length=0:=by decide +kernel
theorem zAR:("has ":Str)="has"++" ":=by decide +kernel
theorem zHV:("not ":Str)="not"++" ":=by decide +kernel
theorem zq2 (b:Bool):(tw b).length=3:=by cases b <;> simp [tw,zJY,zJZ]
theorem zCu {r:Str} (h:r.length≤6):zbu [cnD (true,r)]=some (.sh (.str (zgN (true,r)))):=by
 have a:=zi7 (a:="has ") (b:=r) (by rw [zAO]; omega)
 have e:zgN (true,r)="has "++r:=by rw [zAR]; rfl
 rw [e]
 simp [zbu,zaD,zuK,cnD,cnC,a,-zbV]
theorem zCv {r:Str} (h:r.length≤6):zbv [cnD (false,r)]=some (.sh (.str (zgN (false,r)))):=by
 have a:=zi7 (a:="not ") (b:=r) (by rw [zHS]; omega)
 have e:zgN (false,r)="not "++r:=by rw [zHV]; rfl
 rw [e]
 simp [zbv,zaD,zuL,cnD,cnC,a,-zbV]
theorem zww (t:Tm) (h:t.2.length≤6) (S:FSt) (i:Nat) (e:S[i]? = some (some (.sh (cnD t)))):zdS (zaC 2 "row" zbu (mV i) zak) (zaC 6 "row" zbv (mV i) zak) S=some (.sh (.str (zgN t))):=by
 obtain ⟨b,r⟩:=t
 cases b
 ·have:=zCv h
  simp only [cnD,cnC,Bool.false_eq_true,if_false] at this e
  simp [e,List.lookup,this]
 ·have:=zCu h
  simp only [cnD,cnC,if_true] at this e
  simp [e,List.lookup,this]
theorem zm6 {t:Tm} (h:t.2.length≤6):(zgN t).length≤10:=by
 unfold zgN
 rw [zal,zal,zq2,zt9]; omega
theorem zCw {ts:List Tm} (h:∀ t∈ts,t.2.length≤6):((ts.map zgN).map (·.length)).sum≤10*ts.length:=by
 induction ts with
 | nil=>simp
 | cons t ts ih=>
  have:=ih fun x hx=>h x (by simp [hx])
  have:=zm6 (h t (by simp))
  simp only [List.map_cons,List.sum_cons,List.length_cons]
  omega
theorem zvs {ts:List Tm} (hl:ts.length≤2) (h:∀ t∈ts,t.2.length≤6):zhU (.str " and ") [.lst ((ts.map zgN).map D.str)]=some (.sh (.str (Txt.join " and " (ts.map zgN)))):=by
 have s:=zCw h
 have h1:((ts.map zgN).map (·.length)).sum+(ts.map zgN).length*(" and ":Str).length≤16777216:=by
  rw [zHT,List.length_map]; omega
 simp only [zhU,zlk,Option.bind_some]
 rw [if_pos h1]
theorem ztf {ts:List Tm} (hl:ts.length≤2) (h:∀ t∈ts,t.2.length≤6):(Txt.join " and " (ts.map zgN)).length≤100:=by
 show (Builtin.Str.glued " and " (ts.map zgN)).length≤100
 rw [StrLaws.glued_eq_join]
 match ts,hl with
 | [],_=>
  show (Str.join " and " []).length≤100
  decide +kernel
 | [t],_=>
  show (zgN t).length≤100
  have:=zm6 (h t (by simp)); omega
 | [t,u],_=>
  show (zgN t++" and "++zgN u).length≤100
  have:=zm6 (h t (by simp))
  have:=zm6 (h u (by simp))
  rw [zal,zal,zHT]; omega
theorem zi8 {link:Str} {ts:List Tm} (hk:link.length≤4) (hl:ts.length≤2) (h:∀ t∈ts,t.2.length≤6):(ziL link ts).length≤106:=by
 unfold ziL
 split
 ·rw [l_0]; omega
 ·have:=ztf hl h
  rw [zal,zal,zal,zt9]; omega
theorem zwx {link:Str} {ts:List Tm} (hk:link.length≤4) (hl:ts.length≤2) (h:∀ t∈ts,t.2.length≤6):zbc [.str link,.tup (ts.map cnD)]=some (.sh (.str (ziL link ts))):=by
 by_cases c:ts=[]
 ·subst c
  simp [zbc,zaD,zef,zlS,ziL,zvv]
 ·have c0:((ts.length:Int)==0)=false:=by
   have:ts.length≠0:=fun z=>c (List.length_eq_zero_iff.mp z)
   simp; omega
  have hz:ts.length≤sizeLine:=by rw [zar]; omega
  have hc:=zpO cnD [] (mFr (zdS (zaC 2 "row" zbu (mV 0) zak) (zaC 6 "row" zbv (mV 0) zak))) (fun t=>.str (zgN t)) ts (fun t ht=>by
   have:=zww t (h t ht) [some (.sh (cnD t))] 0 rfl
   show ((zdS _ _ _).map SV.fr)=_
   rw [this]; rfl) none
  simp only [oD',Option.map_none] at hc
  have hj:=zvs hl h
  have jl:=ztf hl h
  rw [List.map_map] at hj
  have a1:=zi7 (a:=" ") (b:=link) (by rw [zt9]; omega)
  have a2:=zi7 (a:=" "++link) (b:=" ") (by rw [zal,zt9]; omega)
  have a3:=zi7 (a:=" "++link++" ") (b:=Txt.join " and " (ts.map zgN)) (by rw [zal,zal,zt9]; omega)
  have e:ziL link ts=" "++link++" "++Txt.join " and " (ts.map zgN):=by unfold ziL; rw [if_neg c]
  rw [e]
  have hj':zhU (.str " and ") [.lst (ts.map fun t=>.str (zgN t))]=some (.sh (.str (Txt.join " and " (ts.map zgN)))):=hj
  simp [zbc,zaD,zef,zlS,zvv,c0,hz,hc,hj',a1,a2,a3,-zbV,-zhU,-zdS]
theorem zsk (ts:List Tm) (me:FSt→Option D) (g:Tm→D) (h:∀ t∈ts,me [some (.sh (.str (tw t.1))),some (.sh (.str t.2))]=some (g t)):∀ x y:Option D,zcN (gSq 2 (gCs (gN 0) (gCs (gN 1) gNs))) zdo me (ts.map tmD) [oD' x,oD' y]=some (ts.map g):=by
 induction ts with
 | nil=>intro x y; rfl
 | cons t ts ih=>
  intro x y
  have i:=ih (fun u hu=>h u (by simp [hu])) (some (.str (tw t.1))) (some (.str t.2))
  simp only [oD',Option.map_some] at i
  have hg:gSq 2 (gCs (gN 0) (gCs (gN 1) gNs)) (tmD t) [oD' x,oD' y]=some [some (.sh (.str (tw t.1))),some (.sh (.str t.2))]:=by simp [tmD]
  rw [List.map_cons,zcN,hg]
  simp [h t (by simp),i]
theorem zE9 (ts:List Tm) (hk:∀ t∈ts,Ok t.2):oEq (.lst (ts.map tmD)) (.lst [])=some (.bl (decide (ts=[]))):=by
 have ex:∃ xs:List PyData,D.dats (ts.map tmD)=some xs∧SeqAt.shaped (.list xs)=true∧xs.length=ts.length:=by
  have okw:∀ b,Ok (tw b):=fun b=>by
   cases b
   ·exact oN
   ·exact oH
  have e:∀ ts:List Tm,ts.map tmD=(ts.map fun t=>((tw t.1,t.2):Pr)).map pD:=fun ts=>by simp [pD,tmD,Function.comp_def]
  refine ⟨(ts.map fun t=>((tw t.1,t.2):Pr)).map pP,by rw [e,zvR],zKN ?_,by simp⟩
  intro p hp
  obtain ⟨t,ht,rfl⟩:=List.mem_map.mp hp
  exact ⟨okw _,hk t ht⟩
 obtain ⟨xs,h1,h2,h3⟩:=ex
 have s1:shp (.lst (ts.map tmD))=some (.list xs):=by simp [shp,D.dat,h1,h2]
 have s2:shp (.lst [])=some (.list []):=rfl
 unfold oEq
 rw [s1,s2]
 simp only [Option.bind_some]
 cases ts with
 | nil=>
  cases xs with
  | nil=>rfl
  | cons x xs=>simp at h3
 | cons t ts=>
  cases xs with
  | nil=>simp at h3
  | cons x xs=>simp [PyData.eqv,PyData.eqvAll]
theorem ztg {link:Str} {ts:List Tm} (hk:link.length≤4) (hl:ts.length≤2) (h:∀ t∈ts,t.2.length≤6) (ho:∀ t∈ts,Ok t.2):zaR [.str link,.lst (ts.map tmD)]=some (.sh (.str (ziL link ts))):=by
 have q:=zE9 ts ho
 by_cases c:ts=[]
 ·rw [decide_eq_true c] at q
  subst c
  have q':oEq (.lst []) (.lst [])=some (.bl true):=q
  simp [zaR,zaD,zco,ziL,q']
 ·rw [decide_eq_false c] at q
  have hz:ts.length≤sizeLine:=by rw [zar]; omega
  have hc:=zsk ts (mFr (m2 zbV (mFr (m2 zbV (mV 0) (mC (.str " ")))) (mV 1))) (fun t=>.str (zgN t)) (fun t ht=>by
   have b1:=zi7 (a:=tw t.1) (b:=" ") (by rw [zq2,zt9]; omega)
   have b2:=zi7 (a:=tw t.1++" ") (b:=t.2) (by rw [zal,zq2,zt9]; have:=h t ht; omega)
   simp [b1,b2,zgN,-zbV]) none none
  simp only [oD',Option.map_none] at hc
  have hj:=zvs hl h
  have jl:=ztf hl h
  rw [List.map_map] at hj
  have a1:=zi7 (a:=" ") (b:=link) (by rw [zt9]; omega)
  have a2:=zi7 (a:=" "++link) (b:=" ") (by rw [zal,zt9]; omega)
  have a3:=zi7 (a:=" "++link++" ") (b:=Txt.join " and " (ts.map zgN)) (by rw [zal,zal,zt9]; omega)
  have e:ziL link ts=" "++link++" "++Txt.join " and " (ts.map zgN):=by unfold ziL; rw [if_neg c]
  rw [e]
  have hj':zhU (.str " and ") [.lst (ts.map fun t=>.str (zgN t))]=some (.sh (.str (Txt.join " and " (ts.map zgN)))):=hj
  simp [zaR,zaD,zco,q,hz,hc,hj',a1,a2,a3,-zbV,-zhU]
theorem nm6 {F R:List Str} {ps:List Pr} (v:Valid F R ps) {r:Str} (h:r∈R):r.length≤6:=(v.rg r h).hi
theorem zAS {n:Nat} (h1:1≤n) (h4:n≤4):(zCs n).length=1:=by
 have:n=1∨n=2∨n=3∨n=4:=by omega
 rcases this with rfl | rfl | rfl | rfl <;> decide +kernel
theorem zHW {n:Nat} (h1:1≤n) (h4:n≤4):Ok (zCs n):=by
 have:n=1∨n=2∨n=3∨n=4:=by omega
 rcases this with rfl | rfl | rfl | rfl <;> decide +kernel
theorem zAT {n:Nat} (h1:1≤n) (h4:n≤4):zne [.int n]=some (.sh (.str (zCs n))):=by
 have:n=1∨n=2∨n=3∨n=4:=by omega
 rcases this with rfl | rfl | rfl | rfl <;> rfl
def Ru.cl:Ru→Nat
 | .give ..=>1
 | .take ..=>8
 | .lay ..=>4
 | .both ..=>0
 | .most ..=>5
 | .last ..=>3
def Ru.fRow:Ru→List D→Option SV
 | .give ..=>zcy
 | .take ..=>zcz
 | .lay ..=>zc7
 | .both ..=>zbS
 | .most ..=>zbU
 | .last ..=>zbT
theorem zHX {F R:List Str} {ps:List Pr} (v:Valid F R ps) {ru:Ru} (h:ru.Ok R):ru.fRow [ru.I]=some (.sh (.str ru.row)):=by
 cases ru with
 | give r a ts=>
  have lr:=nm6 v h.1
  have la:=nm6 v h.2.1
  have ht:=zwx (link:="to") (ts:=ts) (by rw [zIB]; omega) h.2.2.1 fun t ht=>nm6 v (h.2.2.2 t ht)
  have tl:=zi8 (link:="to") (ts:=ts) (by rw [zIB]; omega) h.2.2.1 fun t ht=>nm6 v (h.2.2.2 t ht)
  have a1:=zi7 (a:="give ") (b:=r) (by rw [zo2]; omega)
  have a2:=zi7 (a:="give "++r) (b:=" by ") (by rw [zal,zo2,zyH]; omega)
  have a3:=zi7 (a:="give "++r++" by ") (b:=a) (by rw [zal,zal,zo2,zyH]; omega)
  have a4:=zi7 (a:="give "++r++" by "++a) (b:=ziL "to" ts) (by rw [zal,zal,zal,zo2,zyH]; omega)
  simp [Ru.fRow,zcy,zaD,zr0,zrZ,Ru.I,Ru.row,List.lookup,ht,a1,a2,a3,a4,-zbV]
 | take r a ts=>
  have lr:=nm6 v h.1
  have la:=nm6 v h.2.1
  have ht:=zwx (link:="from") (ts:=ts) (by rw [zxE]; omega) h.2.2.1 fun t ht=>nm6 v (h.2.2.2 t ht)
  have tl:=zi8 (link:="from") (ts:=ts) (by rw [zxE]; omega) h.2.2.1 fun t ht=>nm6 v (h.2.2.2 t ht)
  have a1:=zi7 (a:="take ") (b:=r) (by rw [zo3]; omega)
  have a2:=zi7 (a:="take "++r) (b:=" by ") (by rw [zal,zo3,zyH]; omega)
  have a3:=zi7 (a:="take "++r++" by ") (b:=a) (by rw [zal,zal,zo3,zyH]; omega)
  have a4:=zi7 (a:="take "++r++" by "++a) (b:=ziL "from" ts) (by rw [zal,zal,zal,zo3,zyH]; omega)
  simp [Ru.fRow,zcz,zaD,zr2,zr1,Ru.I,Ru.row,List.lookup,ht,a1,a2,a3,a4,-zbV]
 | lay r ts=>
  have lr:=nm6 v h.1
  have ht:=zwx (link:="if") (ts:=ts) (by rw [zIC]; omega) h.2.1 fun t ht=>nm6 v (h.2.2 t ht)
  have tl:=zi8 (link:="if") (ts:=ts) (by rw [zIC]; omega) h.2.1 fun t ht=>nm6 v (h.2.2 t ht)
  have a1:=zi7 (a:="lay ") (b:=r) (by rw [zCt]; omega)
  have a2:=zi7 (a:="lay "++r) (b:=ziL "if" ts) (by rw [zal,zCt]; omega)
  simp [Ru.fRow,zc7,zaD,zuO,zuN,Ru.I,Ru.row,List.lookup,ht,a1,a2,-zbV]
 | both p q=>
  have lp:=nm6 v h.1
  have lq:=nm6 v h.2.1
  have a1:=zi7 (a:="both ") (b:=p) (by rw [zAP]; omega)
  have a2:=zi7 (a:="both "++p) (b:=" ") (by rw [zal,zAP,zt9]; omega)
  have a3:=zi7 (a:="both "++p++" ") (b:=q) (by rw [zal,zal,zAP,zt9]; omega)
  simp [Ru.fRow,zbS,zaD,zrW,Ru.I,Ru.row,List.lookup,a1,a2,a3,-zbV]
 | most n r=>
  have lr:=nm6 v h.2.2
  have nl:=zAS h.1 h.2.1
  have ns:=zAT h.1 h.2.1
  have a1:=zi7 (a:="most ") (b:=zCs n) (by rw [zAQ,nl]; omega)
  have a2:=zi7 (a:="most "++zCs n) (b:=" ") (by rw [zal,zAQ,nl,zt9]; omega)
  have a3:=zi7 (a:="most "++zCs n++" ") (b:=r) (by rw [zal,zal,zAQ,nl,zt9]; omega)
  simp [Ru.fRow,zbU,zaD,zrY,Ru.I,Ru.row,List.lookup,ns,a1,a2,a3,-zbV,-zne]
 | last r=>
  have lr:=nm6 v h
  have a1:=zi7 (a:="last ") (b:=r) (by rw [zHU]; omega)
  simp [Ru.fRow,zbT,zaD,zrX,Ru.I,Ru.row,List.lookup,a1,-zbV]
def zFa (mn:Str) (fB fG fZ fL fM fT:List D→Option SV) (a:FSt→Option D) (r:FSt→Option (List D)):FSt→Option SV:=
 zdS (zaC 0 mn fB a r) (zdS (zaC 1 mn fG a r) (zdS (zaC 3 mn fZ a r) (zdS (zaC 4 mn fL a r) (zdS (zaC 5 mn fM a r) (zaC 8 mn fT a r)))))
def Ru.pick (fB fG fZ fL fM fT:List D→Option SV):Ru→List D→Option SV
 | .give ..=>fG
 | .take ..=>fT
 | .lay ..=>fL
 | .both ..=>fB
 | .most ..=>fM
 | .last ..=>fZ
theorem zq3 {mn:Str} {fB fG fZ fL fM fT:List D→Option SV} {a:FSt→Option D} {r:FSt→Option (List D)} {S:FSt} {ru:Ru} {ds:List D} {z:SV} (ha:a S=some ru.I) (hr:r S=some ds)
  (hm:(mn=="role"||mn=="by"||mn=="terms"||mn=="one"||mn=="other"||mn=="most")=false) (h:ru.pick fB fG fZ fL fM fT (ru.I :: ds)=some z):zFa mn fB fG fZ fL fM fT a r S=some z:=by
 simp only [Bool.or_eq_false_iff] at hm
 obtain ⟨⟨⟨⟨⟨m1,m2⟩,m3⟩,m4⟩,m5⟩,m6⟩:=hm
 cases ru <;> simp [Ru.I,Ru.pick] at ha h <;> simp [zFa,ha,hr,List.lookup,m1,m2,m3,m4,m5,m6,h]
theorem zHY (a b c:Str):Txt.join " " [a,b,c]=a++" "++b++" "++c:=by
 show Builtin.Str.glued " " [a,b,c]=_
 rw [StrLaws.glued_eq_join]
 show a++" "++(b++" "++c)=_
 simp only [zAM]
theorem zJ0 (a b:Str):Txt.join " " [a,b]=a++" "++b:=by
 show Builtin.Str.glued " " [a,b]=_
 rw [StrLaws.glued_eq_join]
 rfl
theorem zFb:("both ":Str)="both"++" ":=by decide +kernel
theorem zFc:("most ":Str)="most"++" ":=by decide +kernel
theorem zFd:("last ":Str)="last"++" ":=by decide +kernel
theorem zFe:("both":Str).length=4:=by decide +kernel
theorem zFf:("most":Str).length=4:=by decide +kernel
theorem zFg:("last":Str).length=4:=by decide +kernel
theorem zwy {zs:List Str} (h:(zs.map (·.length)).sum+zs.length≤1000):zhU (.str " ") [.lst (zs.map D.str)]=some (.sh (.str (Txt.join " " zs))):=by
 have h1:(zs.map (·.length)).sum+zs.length*(" ":Str).length≤16777216:=by rw [zt9]; omega
 simp only [zhU,zlk,Option.bind_some]
 rw [if_pos h1]
theorem zDc {F R:List Str} {ps:List Pr} (v:Valid F R ps) {ru:Ru} (h:ru.Ok R):zbM [ru.T]=some (.sh (.str ru.row)):=by
 have h3:3≤sizeLine:=by rw [zar]; omega
 have h2:2≤sizeLine:=by omega
 cases ru with
 | give r a ts=>
  have lr:=nm6 v h.1
  have la:=nm6 v h.2.1
  have ht:=ztg (link:="to") (ts:=ts) (by rw [zIB]; omega) h.2.2.1 (fun t ht=>nm6 v (h.2.2.2 t ht)) fun t ht=>v.okR _ (h.2.2.2 t ht)
  have tl:=zi8 (link:="to") (ts:=ts) (by rw [zIB]; omega) h.2.2.1 fun t ht=>nm6 v (h.2.2.2 t ht)
  have a1:=zi7 (a:="give ") (b:=r) (by rw [zo2]; omega)
  have a2:=zi7 (a:="give "++r) (b:=" by ") (by rw [zal,zo2,zyH]; omega)
  have a3:=zi7 (a:="give "++r++" by ") (b:=a) (by rw [zal,zal,zo2,zyH]; omega)
  have a4:=zi7 (a:="give "++r++" by "++a) (b:=ziL "to" ts) (by rw [zal,zal,zal,zo2,zyH]; omega)
  have b0:atI [D.str "give",.str r,.str a,.lst (ts.map tmD)] 0=some (.str "give"):=rfl
  have b1:atI [D.str "give",.str r,.str a,.lst (ts.map tmD)] 1=some (.str r):=rfl
  have b2:atI [D.str "give",.str r,.str a,.lst (ts.map tmD)] 2=some (.str a):=rfl
  have b3:atI [D.str "give",.str r,.str a,.lst (ts.map tmD)] 3=some (.lst (ts.map tmD)):=rfl
  simp [zbM,zaD,zdu,zg1,Ru.T,Ru.row,b0,b1,b2,b3,ht,a1,a2,a3,a4,-zbV]
 | take r a ts=>
  have lr:=nm6 v h.1
  have la:=nm6 v h.2.1
  have ht:=ztg (link:="from") (ts:=ts) (by rw [zxE]; omega) h.2.2.1 (fun t ht=>nm6 v (h.2.2.2 t ht)) fun t ht=>v.okR _ (h.2.2.2 t ht)
  have tl:=zi8 (link:="from") (ts:=ts) (by rw [zxE]; omega) h.2.2.1 fun t ht=>nm6 v (h.2.2.2 t ht)
  have a1:=zi7 (a:="take ") (b:=r) (by rw [zo3]; omega)
  have a2:=zi7 (a:="take "++r) (b:=" by ") (by rw [zal,zo3,zyH]; omega)
  have a3:=zi7 (a:="take "++r++" by ") (b:=a) (by rw [zal,zal,zo3,zyH]; omega)
  have a4:=zi7 (a:="take "++r++" by "++a) (b:=ziL "from" ts) (by rw [zal,zal,zal,zo3,zyH]; omega)
  have b0:atI [D.str "take",.str r,.str a,.lst (ts.map tmD)] 0=some (.str "take"):=rfl
  have b1:atI [D.str "take",.str r,.str a,.lst (ts.map tmD)] 1=some (.str r):=rfl
  have b2:atI [D.str "take",.str r,.str a,.lst (ts.map tmD)] 2=some (.str a):=rfl
  have b3:atI [D.str "take",.str r,.str a,.lst (ts.map tmD)] 3=some (.lst (ts.map tmD)):=rfl
  simp [zbM,zaD,zdu,zg1,Ru.T,Ru.row,b0,b1,b2,b3,ht,a1,a2,a3,a4,-zbV]
 | lay r ts=>
  have lr:=nm6 v h.1
  have ht:=ztg (link:="if") (ts:=ts) (by rw [zIC]; omega) h.2.1 (fun t ht=>nm6 v (h.2.2 t ht)) fun t ht=>v.okR _ (h.2.2 t ht)
  have tl:=zi8 (link:="if") (ts:=ts) (by rw [zIC]; omega) h.2.1 fun t ht=>nm6 v (h.2.2 t ht)
  have a1:=zi7 (a:="lay ") (b:=r) (by rw [zCt]; omega)
  have a2:=zi7 (a:="lay "++r) (b:=ziL "if" ts) (by rw [zal,zCt]; omega)
  have b0:atI [D.str "lay",.str r,.lst (ts.map tmD)] 0=some (.str "lay"):=rfl
  have b1:atI [D.str "lay",.str r,.lst (ts.map tmD)] 1=some (.str r):=rfl
  have b2:atI [D.str "lay",.str r,.lst (ts.map tmD)] 2=some (.lst (ts.map tmD)):=rfl
  simp [zbM,zaD,zdu,zg1,Ru.T,Ru.row,b0,b1,b2,ht,a1,a2,-zbV]
 | both p q=>
  have lp:=nm6 v h.1
  have lq:=nm6 v h.2.1
  have hj:=zwy (zs:=["both",p,q]) (by simp only [List.map_cons,List.map_nil,List.sum_cons,List.sum_nil,List.length_cons,List.length_nil,zFe]; omega)
  rw [zHY] at hj
  simp only [List.map_cons,List.map_nil] at hj
  have b0:atI [D.str "both",.str p,.str q] 0=some (.str "both"):=rfl
  have hc:zcN (gN 0) zdo (mFr (m1 zne (zac (mV 0) zak))) [D.str "both",.str p,.str q] [none]=some [D.str "both",.str p,.str q]:=by simp [zcN]
  simp [zbM,zaD,zdu,zg1,Ru.T,Ru.row,b0,h3,hc,hj,zFb,-zbV,-zhU]
 | most n r=>
  have lr:=nm6 v h.2.2
  have nl:=zAS h.1 h.2.1
  have ns:=zAT h.1 h.2.1
  have hj:=zwy (zs:=["most",zCs n,r]) (by simp only [List.map_cons,List.map_nil,List.sum_cons,List.sum_nil,List.length_cons,List.length_nil,zFf,nl]; omega)
  rw [zHY] at hj
  simp only [List.map_cons,List.map_nil] at hj
  have b0:atI [D.str "most",.int n,.str r] 0=some (.str "most"):=rfl
  have s1:zne [.str "most"]=some (.sh (.str "most")):=rfl
  have s2:zne [.str r]=some (.sh (.str r)):=rfl
  have hc:zcN (gN 0) zdo (mFr (m1 zne (zac (mV 0) zak))) [D.str "most",.int n,.str r] [none]=some [D.str "most",.str (zCs n),.str r]:=by simp [zcN,ns,s1,s2,-zne]
  simp [zbM,zaD,zdu,zg1,Ru.T,Ru.row,b0,h3,hc,hj,zFc,-zbV,-zhU]
 | last r=>
  have lr:=nm6 v h
  have hj:=zwy (zs:=["last",r]) (by simp only [List.map_cons,List.map_nil,List.sum_cons,List.sum_nil,List.length_cons,List.length_nil,zFg]; omega)
  rw [zJ0] at hj
  simp only [List.map_cons,List.map_nil] at hj
  have b0:atI [D.str "last",.str r] 0=some (.str "last"):=rfl
  have hc:zcN (gN 0) zdo (mFr (m1 zne (zac (mV 0) zak))) [D.str "last",.str r] [none]=some [D.str "last",.str r]:=by simp [zcN]
  simp [zbM,zaD,zdu,zg1,Ru.T,Ru.row,b0,h2,hc,hj,zFd,-zbV,-zhU]
end My
namespace My
open PySem L2 M1
theorem zjR {d:D} {p:PyData} (h:shp d=some p):oEq d d=some (.bl true):=by
 have hs:=(zd4 h).2
 unfold oEq
 rw [h]
 simp only [Option.bind_some]
 rw [SeqAt.eqv_refl p (SeqAt.canLay_of_shaped hs)]
theorem zth {d:D} {p:PyData} (h:shp d=some p):oNe d d=some (.bl false):=by
 have hs:=(zd4 h).2
 unfold oNe
 rw [h]
 simp only [Option.bind_some]
 rw [SeqAt.eqv_refl p (SeqAt.canLay_of_shaped hs)]
 rfl
theorem zFh {zs:List Str} (h:∀ z∈zs,Ok z):shp (.lst (zs.map D.str))=some (.list (zs.map PyData.str)):=by simp [shp,D.dat,zCf,zIm h]
def Ru.nms:Ru→List Str
 | .give r a ts=>r :: a :: ts.map (·.2)
 | .take r a ts=>r :: a :: ts.map (·.2)
 | .lay r ts=>r :: ts.map (·.2)
 | .both p q=>[p,q]
 | .most _ r=>[r]
 | .last r=>[r]
def zq4:Ru→List D→Option SV:=Ru.pick zbo zbp zbq zbN zbr zbs
theorem zFi (ts:List Tm) (hl:ts.length≤2):zay [.tup (ts.map cnD)]=some (.li ((ts.map (·.2)).map D.str)):=by
 have hz:ts.length≤sizeLine:=by rw [zar]; omega
 have hc:=zpO cnD [] (m1 (zcV [1,2,3,4,5,6,8] "role") (mV 0)) (fun t=>.str t.2) ts (fun t ht=>by
  obtain ⟨b,r⟩:=t
  cases b <;> simp [cnD,cnC,List.lookup]) none
 simp only [oD',Option.map_none] at hc
 have e:(ts.map (·.2)).map D.str=ts.map fun t=>.str t.2:=by rw [List.map_map]; rfl
 rw [e]
 simp [zay,zaD,zcx,hz,hc]
theorem zJ1 {R:List Str} {ru:Ru} (h:ru.Ok R):zq4 ru [ru.I]=some (.li (ru.nms.map D.str)):=by
 have h2:2≤sizeLine:=by rw [zar]; omega
 have h1:1≤sizeLine:=by omega
 cases ru with
 | give r a ts=>
  have n:=zFi ts h.2.2.1
  have hl:ts.length+1+1≤sizeLine:=by have:=h.2.2.1; rw [zar]; omega
  have hl':2+ts.length≤sizeLine:=by omega
  simp only [List.map_map] at n
  simp [zq4,Ru.pick,zbp,zaD,zoD,zoC,Ru.I,Ru.nms,List.lookup,n,h2,hl,hl']
 | take r a ts=>
  have n:=zFi ts h.2.2.1
  have hl:ts.length+1+1≤sizeLine:=by have:=h.2.2.1; rw [zar]; omega
  have hl':2+ts.length≤sizeLine:=by omega
  simp only [List.map_map] at n
  simp [zq4,Ru.pick,zbs,zaD,zoH,zoG,Ru.I,Ru.nms,List.lookup,n,h2,hl,hl']
 | lay r ts=>
  have n:=zFi ts h.2.1
  have hl:ts.length+1≤sizeLine:=by have:=h.2.1; rw [zar]; omega
  have hl':1+ts.length≤sizeLine:=by omega
  simp only [List.map_map] at n
  simp [zq4,Ru.pick,zbN,zaD,zpY,zpX,Ru.I,Ru.nms,List.lookup,n,h1,hl,hl']
 | both p q=>simp [zq4,Ru.pick,zbo,zaD,zoB,Ru.I,Ru.nms,List.lookup,h2]
 | most n r=>simp [zq4,Ru.pick,zbr,zaD,zoF,Ru.I,Ru.nms,List.lookup,h1]
 | last r=>simp [zq4,Ru.pick,zbq,zaD,zoE,Ru.I,Ru.nms,List.lookup,h1]
theorem zFB (z:Str) (hz:Ok z):oIn (.str z) (.lst [.str "give",.str "take"])=some (.bl (decide (z="give"∨z="take"))):=by
 have h:=zC2 hz (zs:=["give","take"]) (by intro x hx; simp at hx; rcases hx with rfl | rfl; exact oG; exact oT)
 simp only [List.map_cons,List.map_nil] at h
 simp [oIn,h]
theorem zyC (z:Str) (hz:Ok z):oIn (.str z) (.lst [.str "give",.str "take",.str "lay"])=some (.bl (decide (z="give"∨z="take"∨z="lay"))):=by
 have h:=zC2 hz (zs:=["give","take","lay"]) (by intro x hx; simp at hx; rcases hx with rfl | rfl | rfl; exact oG; exact oT; exact oL)
 simp only [List.map_cons,List.map_nil] at h
 simp [oIn,h]
@[simp] theorem i2G:oIn (.str "give") (.lst [.str "give",.str "take"])=some (.bl true):=by rw [zFB _ oG]; exact congrArg (fun b=>some (D.bl b)) (by decide +kernel)
@[simp] theorem i2T:oIn (.str "take") (.lst [.str "give",.str "take"])=some (.bl true):=by rw [zFB _ oT]; exact congrArg (fun b=>some (D.bl b)) (by decide +kernel)
@[simp] theorem i2L:oIn (.str "lay") (.lst [.str "give",.str "take"])=some (.bl false):=by rw [zFB _ oL]; exact congrArg (fun b=>some (D.bl b)) (by decide +kernel)
@[simp] theorem i2B:oIn (.str "both") (.lst [.str "give",.str "take"])=some (.bl false):=by rw [zFB _ oB]; exact congrArg (fun b=>some (D.bl b)) (by decide +kernel)
@[simp] theorem i2M:oIn (.str "most") (.lst [.str "give",.str "take"])=some (.bl false):=by rw [zFB _ oM]; exact congrArg (fun b=>some (D.bl b)) (by decide +kernel)
@[simp] theorem i2Z:oIn (.str "last") (.lst [.str "give",.str "take"])=some (.bl false):=by rw [zFB _ oZ]; exact congrArg (fun b=>some (D.bl b)) (by decide +kernel)
@[simp] theorem i3G:oIn (.str "give") (.lst [.str "give",.str "take",.str "lay"])=some (.bl true):=by rw [zyC _ oG]; exact congrArg (fun b=>some (D.bl b)) (by decide +kernel)
@[simp] theorem i3T:oIn (.str "take") (.lst [.str "give",.str "take",.str "lay"])=some (.bl true):=by rw [zyC _ oT]; exact congrArg (fun b=>some (D.bl b)) (by decide +kernel)
@[simp] theorem i3L:oIn (.str "lay") (.lst [.str "give",.str "take",.str "lay"])=some (.bl true):=by rw [zyC _ oL]; exact congrArg (fun b=>some (D.bl b)) (by decide +kernel)
@[simp] theorem i3B:oIn (.str "both") (.lst [.str "give",.str "take",.str "lay"])=some (.bl false):=by rw [zyC _ oB]; exact congrArg (fun b=>some (D.bl b)) (by decide +kernel)
@[simp] theorem i3M:oIn (.str "most") (.lst [.str "give",.str "take",.str "lay"])=some (.bl false):=by rw [zyC _ oM]; exact congrArg (fun b=>some (D.bl b)) (by decide +kernel)
@[simp] theorem i3Z:oIn (.str "last") (.lst [.str "give",.str "take",.str "lay"])=some (.bl false):=by rw [zyC _ oZ]; exact congrArg (fun b=>some (D.bl b)) (by decide +kernel)
theorem zCx {R:List Str} {ru:Ru} (h:ru.Ok R):zbn [ru.T]=some (.li (ru.nms.map D.str)):=by
 have h3:3≤sizeLine:=by rw [zar]; omega
 have h2:2≤sizeLine:=by omega
 have h1:1≤sizeLine:=by omega
 have isS:∀ z:Str,zmo tab [.str z,.ty "str"]=some (.sh (.bl true)):=fun _=>rfl
 have isI:∀ n:Int,zmo tab [.int n,.ty "str"]=some (.sh (.bl false)):=fun _=>rfl
 have hc:∀ ts:List Tm,zcN (gSq 2 (gCs (gN 0) (gCs (gN 1) gNs))) zdo (mV 1) (ts.map tmD) [none,none]=some (ts.map fun t=>.str t.2):=fun ts=>zsk ts (mV 1) (fun t=>.str t.2) (fun t _=>rfl) none none
 cases ru with
 | give r a ts=>
  have hl:ts.length≤sizeLine:=by have:=h.2.2.1; rw [zar]; omega
  have hl':2+ts.length≤sizeLine:=by have:=h.2.2.1; rw [zar]; omega
  have b0:atI [D.str "give",.str r,.str a,.lst (ts.map tmD)] 0=some (.str "give"):=rfl
  have b1:atI [D.str "give",.str r,.str a,.lst (ts.map tmD)] 1=some (.str r):=rfl
  have b2:atI [D.str "give",.str r,.str a,.lst (ts.map tmD)] 2=some (.str a):=rfl
  have b3:atI [D.str "give",.str r,.str a,.lst (ts.map tmD)] 3=some (.lst (ts.map tmD)):=rfl
  simp [zbn,zaD,zcJ,Ru.T,Ru.nms,b0,b1,b2,b3,h2,hl,hl',hc,Function.comp_def]
 | take r a ts=>
  have hl:ts.length≤sizeLine:=by have:=h.2.2.1; rw [zar]; omega
  have hl':2+ts.length≤sizeLine:=by have:=h.2.2.1; rw [zar]; omega
  have b0:atI [D.str "take",.str r,.str a,.lst (ts.map tmD)] 0=some (.str "take"):=rfl
  have b1:atI [D.str "take",.str r,.str a,.lst (ts.map tmD)] 1=some (.str r):=rfl
  have b2:atI [D.str "take",.str r,.str a,.lst (ts.map tmD)] 2=some (.str a):=rfl
  have b3:atI [D.str "take",.str r,.str a,.lst (ts.map tmD)] 3=some (.lst (ts.map tmD)):=rfl
  simp [zbn,zaD,zcJ,Ru.T,Ru.nms,b0,b1,b2,b3,h2,hl,hl',hc,Function.comp_def]
 | lay r ts=>
  have hl:ts.length≤sizeLine:=by have:=h.2.1; rw [zar]; omega
  have hl':1+ts.length≤sizeLine:=by have:=h.2.1; rw [zar]; omega
  have b0:atI [D.str "lay",.str r,.lst (ts.map tmD)] 0=some (.str "lay"):=rfl
  have b1:atI [D.str "lay",.str r,.lst (ts.map tmD)] 1=some (.str r):=rfl
  have b2:atI [D.str "lay",.str r,.lst (ts.map tmD)] 2=some (.lst (ts.map tmD)):=rfl
  simp [zbn,zaD,zcJ,Ru.T,Ru.nms,b0,b1,b2,h1,h2,hl,hl',hc,Function.comp_def]
 | both p q=>
  have b0:atI [D.str "both",.str p,.str q] 0=some (.str "both"):=rfl
  have sl:oSl (.tup [D.str "both",.str p,.str q]) (some 1) none=some (.sh (.tup [.str p,.str q])):=rfl
  simp [zbn,zaD,zcJ,Ru.T,Ru.nms,b0,sl,h2,zcN,isS,-oSl]
 | most n r=>
  have b0:atI [D.str "most",.int n,.str r] 0=some (.str "most"):=rfl
  have sl:oSl (.tup [D.str "most",.int n,.str r]) (some 1) none=some (.sh (.tup [.int n,.str r])):=rfl
  simp [zbn,zaD,zcJ,Ru.T,Ru.nms,b0,sl,h2,zcN,isS,isI,-oSl]
 | last r=>
  have b0:atI [D.str "last",.str r] 0=some (.str "last"):=rfl
  have sl:oSl (.tup [D.str "last",.str r]) (some 1) none=some (.sh (.tup [.str r])):=rfl
  simp [zbn,zaD,zcJ,Ru.T,Ru.nms,b0,sl,h1,h2,zcN,isS,-oSl]
theorem zHZ {F R:List Str} {ps:List Pr} (v:Valid F R ps) {ru:Ru} (h:ru.Ok R):∀ z∈ru.nms,Ok z:=by
 intro z hz
 refine v.okR z ?_
 cases ru with
 | give r a ts=>
  simp only [Ru.nms,List.mem_cons,List.mem_map] at hz
  rcases hz with rfl | rfl | ⟨t,ht,rfl⟩
  ·exact h.1
  ·exact h.2.1
  ·exact h.2.2.2 t ht
 | take r a ts=>
  simp only [Ru.nms,List.mem_cons,List.mem_map] at hz
  rcases hz with rfl | rfl | ⟨t,ht,rfl⟩
  ·exact h.1
  ·exact h.2.1
  ·exact h.2.2.2 t ht
 | lay r ts=>
  simp only [Ru.nms,List.mem_cons,List.mem_map] at hz
  rcases hz with rfl | ⟨t,ht,rfl⟩
  ·exact h.1
  ·exact h.2.2 t ht
 | both p q=>
  simp only [Ru.nms,List.mem_cons,List.not_mem_nil,or_false] at hz
  rcases hz with rfl | rfl
  ·exact h.1
  ·exact h.2.1
 | most n r=>
  simp only [Ru.nms,List.mem_cons,List.not_mem_nil,or_false] at hz
  rw [hz]; exact h.2.2
 | last r=>
  simp only [Ru.nms,List.mem_cons,List.not_mem_nil,or_false] at hz
  rw [hz]; exact h
def dD (v w r x:Str):D:=.tup [.str v,.str w,.str r,.str x]
def zDd:Ru→List D→Option SV:=Ru.pick zaZ za0 zaP zbd za1 za2
theorem zsl {v w r x u s:Str} (hv:Ok v) (hu:Ok u) (hr:Ok r) (hs:Ok s):zcc [dD v w r x,.str u,.str s]=some (.sh (.bl (v==u&&r==s))):=by
 have b0:atI [D.str v,.str w,.str r,.str x] 0=some (.str v):=rfl
 have b2:atI [D.str v,.str w,.str r,.str x] 2=some (.str r):=rfl
 have e1:=eqS hv hu
 have e2:=eqS hr hs
 cases c:v==u
 ·rw [c] at e1
  simp [zcc,zaD,zii,dD,b0,b2,e1]
 ·rw [c] at e1
  simp [zcc,zaD,zii,dD,b0,b2,e1,e2]
inductive Vb:Str→Prop
 | g:Vb "give"
 | t:Vb "take"
 | l:Vb "lay"
theorem Vb.ok {v:Str} (h:Vb v):Ok v:=by cases h <;> first | exact oG | exact oT | exact oL
def Ru.spk (v r:Str):Ru→Bool
 | .give s _ _=>v=="give"&&r==s
 | .take s _ _=>v=="take"&&r==s
 | .lay s _=>v=="lay"&&r==s
 | .both _ _=>v=="give"
 | .most _ s=>v=="give"&&r==s
 | .last s=>(v=="take"&&r==s)||(v=="lay"&&r==s)
theorem zJ2 {F R:List Str} {ps:List Pr} (va:Valid F R ps) {ru:Ru} (h:ru.Ok R) {v w r x:Str} (hv:Ok v) (hr:Ok r):zDd ru [ru.I,dD v w r x]=some (.sh (.bl (ru.spk v r))):=by
 cases ru with
 | give s a ts=>
  have i:=zsl (w:=w) (x:=x) hv oG hr (va.okR s h.1)
  simp [zDd,Ru.pick,za0,zaD,zjX,zjW,Ru.I,Ru.spk,List.lookup,i]
 | take s a ts=>
  have i:=zsl (w:=w) (x:=x) hv oT hr (va.okR s h.1)
  simp [zDd,Ru.pick,za2,zaD,zj1,zj0,Ru.I,Ru.spk,List.lookup,i]
 | lay s ts=>
  have i:=zsl (w:=w) (x:=x) hv oL hr (va.okR s h.1)
  simp [zDd,Ru.pick,zbd,zaD,zkr,zkq,Ru.I,Ru.spk,List.lookup,i]
 | both p q=>
  have b0:atI [D.str v,.str w,.str r,.str x] 0=some (.str v):=rfl
  have e:=eqS hv oG
  simp [zDd,Ru.pick,zaZ,zaD,zjV,Ru.I,Ru.spk,dD,b0,e]
 | most n s=>
  have i:=zsl (w:=w) (x:=x) hv oG hr (va.okR s h.2.2)
  simp [zDd,Ru.pick,za1,zaD,zjZ,zjY,Ru.I,Ru.spk,List.lookup,i]
 | last s=>
  have i:=zsl (w:=w) (x:=x) hv oT hr (va.okR s h)
  have j:=zsl (w:=w) (x:=x) hv oL hr (va.okR s h)
  cases c:(v=="take"&&r==s)
  ·rw [c] at i
   simp [zDd,Ru.pick,zaP,zaD,zf0,zfZ,Ru.I,Ru.spk,List.lookup,i,j,c]
  ·rw [c] at i
   simp [zDd,Ru.pick,zaP,zaD,zf0,zfZ,Ru.I,Ru.spk,List.lookup,i,c]
theorem zH0 {F R:List Str} {ps:List Pr} (va:Valid F R ps) {ru:Ru} (h:ru.Ok R) {v w r x:Str} (hv:Vb v) (hr:Ok r):zbe [ru.T,dD v w r x]=some (.sh (.bl (ru.spk v r))):=by
 have b0:atI [D.str v,.str w,.str r,.str x] 0=some (.str v):=rfl
 have b2:atI [D.str v,.str w,.str r,.str x] 2=some (.str r):=rfl
 have eG:=eqS hv.ok oG
 have nG:=neS hv.ok oG
 have eT:=eqS hv.ok oT
 have eL:=eqS hv.ok oL
 have two:((v=="give")=true∧(v=="take")=false∧(v=="lay")=false)∨((v=="give")=false∧(v=="take")=true∧(v=="lay")=false)∨((v=="give")=false∧(v=="take")=false∧(v=="lay")=true):=by
  cases hv
  ·exact .inl (by decide +kernel)
  ·exact .inr (.inl (by decide +kernel))
  ·exact .inr (.inr (by decide +kernel))
 cases ru with
 | give s a ts=>
  have q:=eqS hr (va.okR s h.1)
  have a0:atI [D.str "give",.str s,.str a,.lst (ts.map tmD)] 0=some (.str "give"):=rfl
  have a1:atI [D.str "give",.str s,.str a,.lst (ts.map tmD)] 1=some (.str s):=rfl
  rcases two with ⟨t1,t2,t3⟩ | ⟨t1,t2,t3⟩ | ⟨t1,t2,t3⟩ <;> rw [t1] at eG <;> simp [zbe,zaD,zcB,Ru.T,Ru.spk,dD,a0,a1,b0,b2,eG,q,t1]
 | take s a ts=>
  have q:=eqS hr (va.okR s h.1)
  have a0:atI [D.str "take",.str s,.str a,.lst (ts.map tmD)] 0=some (.str "take"):=rfl
  have a1:atI [D.str "take",.str s,.str a,.lst (ts.map tmD)] 1=some (.str s):=rfl
  rcases two with ⟨t1,t2,t3⟩ | ⟨t1,t2,t3⟩ | ⟨t1,t2,t3⟩ <;> rw [t2] at eT <;> simp [zbe,zaD,zcB,Ru.T,Ru.spk,dD,a0,a1,b0,b2,eT,q,t2]
 | lay s ts=>
  have q:=eqS hr (va.okR s h.1)
  have a0:atI [D.str "lay",.str s,.lst (ts.map tmD)] 0=some (.str "lay"):=rfl
  have a1:atI [D.str "lay",.str s,.lst (ts.map tmD)] 1=some (.str s):=rfl
  rcases two with ⟨t1,t2,t3⟩ | ⟨t1,t2,t3⟩ | ⟨t1,t2,t3⟩ <;> rw [t3] at eL <;> simp [zbe,zaD,zcB,Ru.T,Ru.spk,dD,a0,a1,b0,b2,eL,q,t3]
 | both p q=>
  have a0:atI [D.str "both",.str p,.str q] 0=some (.str "both"):=rfl
  simp [zbe,zaD,zcB,Ru.T,Ru.spk,dD,a0,b0,eG]
 | most n s=>
  have q:=eqS hr (va.okR s h.2.2)
  have a0:atI [D.str "most",.int n,.str s] 0=some (.str "most"):=rfl
  have a2:atI [D.str "most",.int n,.str s] 2=some (.str s):=rfl
  rcases two with ⟨t1,t2,t3⟩ | ⟨t1,t2,t3⟩ | ⟨t1,t2,t3⟩ <;> rw [t1] at eG <;> simp [zbe,zaD,zcB,Ru.T,Ru.spk,dD,a0,a2,b0,b2,eG,q,t1]
 | last s=>
  have q:=eqS hr (va.okR s h)
  have a0:atI [D.str "last",.str s] 0=some (.str "last"):=rfl
  have a1:atI [D.str "last",.str s] 1=some (.str s):=rfl
  rcases two with ⟨t1,t2,t3⟩ | ⟨t1,t2,t3⟩ | ⟨t1,t2,t3⟩ <;> rw [t1] at nG <;> simp [zbe,zaD,zcB,Ru.T,Ru.spk,dD,a0,a1,b0,b2,nG,q,t1,t2,t3]
end My
namespace My
open PySem L2 M1
theorem zLt (a b:Bool):oEq (.bl a) (.bl b)=some (.bl (a==b)):=rfl
theorem zK1 (a b:Bool):oNe (.bl a) (.bl b)=some (.bl (!(a==b))):=rfl
theorem zAU (a b:Bool):zbZ [.bl a,.bl b]=some (.sh (.bl (a==b))):=by
 have k:zmo tab [.bl a,.ty "bool"]=some (.sh (.bl true)):=rfl
 simp [zbZ,zaD,zg2,k,zLt]
def Ru.prm:Ru→Bool
 | .give ..=>true
 | .take ..=>true
 | .lay ..=>true
 | _=>false
def Ru.is (k:Nat) (ru:Ru):Bool:=ru.cl==k
def zAV (ru:Ru):List D:=[.bl (ru.is 1),.bl (ru.is 8),.bl (ru.is 4),.bl (ru.is 0),.bl (ru.is 5),.bl (ru.is 3)]
theorem zFj (ru:Ru):zcK [ru.I]=some (.li (zAV ru++[.bl true])):=by
 have h7:7≤sizeLine:=by rw [zar]; omega
 have h4:4≤sizeLine:=by omega
 have h3:3≤sizeLine:=by omega
 cases ru <;> simp [zcK,zaD,zjg,Ru.I,zmo,tab,zAV,Ru.is,Ru.cl,h3,h4,h7,D.plain,D.plains]
theorem zJ3 (ru:Ru):ru.pick zbw zbx zby zbO zbz zbA [ru.I]=some (.sh (.bl ru.prm)):=by
 cases ru <;> simp [Ru.pick,Ru.prm,zbw,zbx,zby,zbO,zbz,zbA,zaD,zlx,zly,zlz,zmC,zlA,zlB]
theorem T0 (ru:Ru):oIx ru.T (.int 0)=some (.str ru.kn):=by cases ru <;> rfl
theorem zH1 (ru:Ru):oIn (.str ru.kn) (.lst [.str "give",.str "take",.str "lay"])=some (.bl ru.prm):=by cases ru <;> simp [Ru.kn,Ru.prm]
theorem zJ4 (ru:Ru):zcN (gN 0) zdo (m2 oEq (m2 oIx (mV 1) (mC (.int 0))) (mV 0)) [.str "give",.str "take",.str "lay",.str "both",.str "most",.str "last"] [none,some (.sh ru.T)]=some (zAV ru):=by
 have h:=T0 ru
 cases ru <;> simp only [Ru.T] at h <;> simp [zcN,Ru.T,h,Ru.kn,zAV,Ru.is,Ru.cl,-oIx]
theorem zH2 (ru:Ru):oNe (.lst (zAV ru++[.bl true])) (.lst (zAV ru++[.bl true]))=some (.bl false):=by
 cases ru <;> rfl
def zJ5:Ru→List D→Option SV:=Ru.pick zbS zcy zbT zc7 zbU zcz
theorem zCy (ru:Ru):zJ5 ru=ru.fRow:=by cases ru <;> rfl
theorem zxF {F R:List Str} {ps:List Pr} (v:Valid F R ps) {ru:Ru} (h:ru.Ok R):Ok ru.row:=by
 have okt:∀ t:Tm,t.2∈R→Ok (zgN t):=fun t ht=>zcX (zcX (by cases t.1; exact oN; exact oH) (by decide +kernel)) (v.okR _ ht)
 have okj:∀ ts:List Tm,zFA R ts→Ok (Txt.join " and " (ts.map zgN)):=by
  intro ts hts
  show Ok (Builtin.Str.glued " and " (ts.map zgN))
  rw [StrLaws.glued_eq_join]
  obtain ⟨hl,hm⟩:=hts
  match ts,hl with
  | [],_=>show Ok (Str.join " and " []); decide +kernel
  | [t],_=>exact okt t (hm t (by simp))
  | [t,u],_=>exact zcX (zcX (okt t (hm t (by simp))) (by decide +kernel)) (okt u (hm u (by simp)))
 have oks:∀ (l:Str) (ts:List Tm),Ok l→zFA R ts→Ok (ziL l ts):=by
  intro l ts hl hts
  unfold ziL
  split
  ·decide +kernel
  ·exact zcX (zcX (zcX (by decide +kernel) hl) (by decide +kernel)) (okj ts hts)
 cases ru with
 | give r a ts=>exact zcX (zcX (zcX (zcX (by decide +kernel) (v.okR _ h.1)) (by decide +kernel)) (v.okR _ h.2.1)) (oks _ _ (by decide +kernel) h.2.2)
 | take r a ts=>exact zcX (zcX (zcX (zcX (by decide +kernel) (v.okR _ h.1)) (by decide +kernel)) (v.okR _ h.2.1)) (oks _ _ (by decide +kernel) h.2.2)
 | lay r ts=>exact zcX (zcX (by decide +kernel) (v.okR _ h.1)) (oks _ _ (by decide +kernel) h.2)
 | both p q=>exact zcX (zcX (zcX (by decide +kernel) (v.okR _ h.1)) (by decide +kernel)) (v.okR _ h.2.1)
 | most n r=>exact zcX (zcX (zcX (by decide +kernel) (zHW h.1 h.2.1)) (by decide +kernel)) (v.okR _ h.2.2)
 | last r=>exact zcX (by decide +kernel) (v.okR _ h)
theorem zFk {F R:List Str} {ps:List Pr} (va:Valid F R ps) {ru:Ru} (h:ru.Ok R) (s3:Option SV) (x6:Option D) {v r:Str} (hv:Vb v) (hr:r∈R):∃ y6,
  zbP [some (.sh ru.I),some (.sh ru.T),some (.sh (tD F R ps)),s3,some (.sh (.str v)),some (.sh (.str r)),oD' x6]=.nx [some (.sh ru.I),some (.sh ru.T),some (.sh (tD F R ps)),s3,some (.sh (.str v)),some (.sh (.str r)),oD' y6]:=by
 have f1:=va.f1
 have e0:oIx (tD F R ps) (.int 0)=some (.lst (F.map D.str)):=rfl
 have g0:F[0]? = some F[0]:=List.getElem?_eq_getElem (by omega)
 have a0:atI (F.map D.str) 0=some (.str F[0]):=atN (k:=0) (by rw [List.getElem?_map,g0]; rfl)
 have h4:4≤sizeLine:=by rw [zar]; omega
 obtain ⟨w1,aw⟩:∃ w1:Str,m2 oIx (m2 oIx (mV 2) (mC (.int 0))) (m1 zEr (mFr (m1 zB4 (zac (m2 oNe (mV 4) (mC (.str "lay"))) zak)))) [some (.sh ru.I),some (.sh ru.T),some (.sh (tD F R ps)),s3,some (.sh (.str v)),some (.sh (.str r)),oD' x6]=some (.str w1):=by
  have n:=neS hv.ok oL
  have al:atI (F.map D.str) (-1)=some (.str F[F.length-1]):=by
   have hl:F.length-1 < F.length:=by omega
   simp [atI,ixN]
   rw [if_pos (by omega),show (-1+(F.length:Int)).toNat=F.length-1 by omega,Option.bind_some,List.getElem?_eq_getElem hl]
   rfl
  cases c:v=="lay"
  ·rw [c] at n
   exact ⟨F[F.length-1],by simp [e0,n,al,-oIx]; simp [al]⟩
  ·rw [c] at n
   exact ⟨F[0],by simp [e0,n,-oIx]; simp [a0]⟩
 refine ⟨some (dD v F[0] r w1),?_⟩
 have s1:=zJ2 va h (w:=F[0]) (x:=w1) hv.ok (va.okR r hr)
 have s2:=zH0 va h (w:=F[0]) (x:=w1) hv (va.okR r hr)
 have s3':=zAU (ru.spk v r) (ru.spk v r)
 rw [beq_self_eq_true] at s3'
 unfold zbP zhZ
 refine za9 (S1:=[some (.sh ru.I),some (.sh ru.T),some (.sh (tD F R ps)),s3,some (.sh (.str v)),some (.sh (.str r)),some (.sh (dD v F[0] r w1))]) ?_ ?_
 ·have t:zel (zac (mV 4) (zac (m2 oIx (m2 oIx (mV 2) (mC (.int 0))) (mC (.int 0))) (zac (mV 5) (zac (m2 oIx (m2 oIx (mV 2) (mC (.int 0))) (m1 zEr (mFr (m1 zB4 (zac (m2 oNe (mV 4) (mC (.str "lay"))) zak))))) zak)))) [some (.sh ru.I),some (.sh ru.T),some (.sh (tD F R ps)),s3,some (.sh (.str v)),some (.sh (.str r)),oD' x6]=some (dD v F[0] r w1):=by
   generalize m2 oIx (m2 oIx (mV 2) (mC (.int 0))) (m1 zEr (mFr (m1 zB4 (zac (m2 oNe (mV 4) (mC (.str "lay"))) zak))))=mm at aw ⊢
   have i0:oIx (.lst (F.map D.str)) (.int 0)=some (.str F[0]):=a0
   simp [e0,i0,aw,h4,dD,-oIx]
  generalize zel (zac (mV 4) (zac (m2 oIx (m2 oIx (mV 2) (mC (.int 0))) (mC (.int 0))) (zac (mV 5) (zac (m2 oIx (m2 oIx (mV 2) (mC (.int 0))) (m1 zEr (mFr (m1 zB4 (zac (m2 oNe (mV 4) (mC (.str "lay"))) zak))))) zak))))=mt at t
  simp [t,dD,D.plain,D.plains]
 ·have al:=zq3 (mn:="speaks_of") (fB:=zaZ) (fG:=za0) (fZ:=zaP) (fL:=zbd) (fM:=za1) (fT:=za2) (a:=mV 0) (r:=zac (mV 6) zak) (S:=[some (.sh ru.I),some (.sh ru.T),some (.sh (tD F R ps)),s3,some (.sh (.str v)),some (.sh (.str r)),some (.sh (dD v F[0] r w1))]) (ru:=ru) (ds:=[dD v F[0] r w1]) rfl rfl (by decide +kernel) s1
  unfold zFa at al
  simp [al,s2,s3',-zdS,-zaC]
theorem zH3 {F R:List Str} {ps:List Pr} (va:Valid F R ps) {ru:Ru} (h:ru.Ok R) (s3:Option SV) {v:Str} (hv:Vb v):∀ (rs:List Str) (x5 x6:Option D),(∀ r∈rs,r∈R)→∃ y5 y6,
  zbj (gN 5) zbP (rs.map D.str) [some (.sh ru.I),some (.sh ru.T),some (.sh (tD F R ps)),s3,some (.sh (.str v)),oD' x5,oD' x6]=.nx [some (.sh ru.I),some (.sh ru.T),some (.sh (tD F R ps)),s3,some (.sh (.str v)),oD' y5,oD' y6]
 | [],x5,x6,_=>⟨x5,x6,rfl⟩
 | r :: rs,x5,x6,hr=>by
  obtain ⟨z6,e⟩:=zFk va h s3 x6 hv (hr r (by simp))
  obtain ⟨y5,y6,ih⟩:=zH3 va h s3 hv rs (some (.str r)) z6 fun z hz=>hr z (by simp [hz])
  refine ⟨y5,y6,?_⟩
  rw [List.map_cons,zbj]
  have hg:gN 5 (.str r) [some (.sh ru.I),some (.sh ru.T),some (.sh (tD F R ps)),s3,some (.sh (.str v)),oD' x5,oD' x6]=some [some (.sh ru.I),some (.sh ru.T),some (.sh (tD F R ps)),s3,some (.sh (.str v)),some (.sh (.str r)),oD' x6]:=by simp
  rw [hg]
  simp only [e]
  exact ih
theorem zFl {F R:List Str} {ps:List Pr} (va:Valid F R ps) {ru:Ru} (h:ru.Ok R) (s3:Option SV) {v:Str} (hv:Vb v) (x5 x6:Option D):∃ y5 y6,
  zbQ [some (.sh ru.I),some (.sh ru.T),some (.sh (tD F R ps)),s3,some (.sh (.str v)),oD' x5,oD' x6]=.nx [some (.sh ru.I),some (.sh ru.T),some (.sh (tD F R ps)),s3,some (.sh (.str v)),oD' y5,oD' y6]:=by
 obtain ⟨y5,y6,e⟩:=zH3 va h s3 hv R x5 x6 fun r hr=>hr
 refine ⟨y5,y6,?_⟩
 unfold zbQ zh0
 refine zuJ (its:=R.map D.str) ?_ e
 have e1:oIx (tD F R ps) (.int 1)=some (.lst (R.map D.str)):=rfl
 simp [e1,-oIx]
theorem zDe {F R:List Str} {ps:List Pr} (va:Valid F R ps) {ru:Ru} (h:ru.Ok R) (s3:Option SV):∀ (vs:List Str) (x4 x5 x6:Option D),(∀ v∈vs,Vb v)→∃ y4 y5 y6,
  zbj (gN 4) zbQ (vs.map D.str) [some (.sh ru.I),some (.sh ru.T),some (.sh (tD F R ps)),s3,oD' x4,oD' x5,oD' x6]=.nx [some (.sh ru.I),some (.sh ru.T),some (.sh (tD F R ps)),s3,oD' y4,oD' y5,oD' y6]
 | [],x4,x5,x6,_=>⟨x4,x5,x6,rfl⟩
 | v :: vs,x4,x5,x6,hv=>by
  obtain ⟨z5,z6,e⟩:=zFl va h s3 (hv v (by simp)) x5 x6
  obtain ⟨y4,y5,y6,ih⟩:=zDe va h s3 vs (some (.str v)) z5 z6 fun z hz=>hv z (by simp [hz])
  refine ⟨y4,y5,y6,?_⟩
  rw [List.map_cons,zbj]
  have hg:gN 4 (.str v) [some (.sh ru.I),some (.sh ru.T),some (.sh (tD F R ps)),s3,oD' x4,oD' x5,oD' x6]=some [some (.sh ru.I),some (.sh ru.T),some (.sh (tD F R ps)),s3,some (.sh (.str v)),oD' x5,oD' x6]:=by simp
  rw [hg]
  simp only [e]
  exact ih
theorem zCz {F R:List Str} {ps:List Pr} (va:Valid F R ps) {ru:Ru} (h:ru.Ok R):zbD [ru.I,ru.T,tD F R ps]=some (.sh (.bl true)):=by
 have hz:10≤sizeLine:=by rw [zar]; omega
 have h6:6≤sizeLine:=by omega
 have h7:7≤sizeLine:=by omega
 have h3:3≤sizeLine:=by omega
 have h1:1≤sizeLine:=by omega
 let S3:FSt:=[some (.sh ru.I),some (.sh ru.T),some (.sh (tD F R ps)),some (.li (zAV ru)),none,none,none]
 have cl:=zFj ru
 have nc:=zH2 ru
 have pr:=zq3 (mn:="permits") (fB:=zbw) (fG:=zbx) (fZ:=zby) (fL:=zbO) (fM:=zbz) (fT:=zbA) (a:=mV 0) (r:=zak) (S:=S3) (ru:=ru) (ds:=[]) rfl rfl (by decide +kernel) (zJ3 ru)
 have rw':=zq3 (mn:="row") (fB:=zbS) (fG:=zcy) (fZ:=zbT) (fL:=zc7) (fM:=zbU) (fT:=zcz) (a:=mV 0) (r:=zak) (S:=S3) (ru:=ru) (ds:=[]) rfl rfl (by decide +kernel) ((congrFun (zCy ru) _).trans (zHX va h))
 have nm:∀ S:FSt,S[0]? = some (some (.sh ru.I))→zFa "names" zbo zbp zbq zbN zbr zbs (mV 0) zak S=some (.li (ru.nms.map D.str)):=fun S hS=>
  zq3 (ru:=ru) (ds:=[]) (by unfold mV; rw [hS]; rfl) rfl (by decide +kernel) (zJ1 h)
 have nm3:=nm S3 rfl
 have lr:=zDc va h
 have ln:=zCx h
 have ne1:=zth (zC1 (zxF va h))
 have shn:=zFh (zHZ va h)
 have ne2:=zth shn
 have eq2:=zjR shn
 have kl:zmo tab [.lst (ru.nms.map D.str),.ty "list"]=some (.sh (.bl true)):=rfl
 have tru:=zAU ru.prm ru.prm
 rw [beq_self_eq_true] at tru
 have cp:=zJ4 ru
 have ip:=zH1 ru
 have t0:=T0 ru
 have lc:(zAV ru).length=6:=rfl
 have pc:D.plains (zAV ru)=true:=by cases ru <;> rfl
 have ln6:ru.nms.length < sizeLine:=by
  have:ru.nms.length≤4:=by
   cases ru with
   | give r a ts=>have:=h.2.2.1; simp [Ru.nms]; omega
   | take r a ts=>have:=h.2.2.1; simp [Ru.nms]; omega
   | lay r ts=>have:=h.2.1; simp [Ru.nms]; omega
   | both p q=>simp [Ru.nms]
   | most n r=>simp [Ru.nms]
   | last r=>simp [Ru.nms]
  omega
 obtain ⟨y4,y5,y6,lo⟩:=zDe va h (some (.li (zAV ru))) ["give","take","lay"] none none none (by
  intro v hv
  simp only [List.mem_cons,List.not_mem_nil,or_false] at hv
  rcases hv with rfl | rfl | rfl
  ·exact .g
  ·exact .t
  ·exact .l)
 simp only [List.map_cons,List.map_nil,oD',Option.map_none] at lo
 refine znf rfl ?_
 show zc8 [some (.sh ru.I),some (.sh ru.T),some (.sh (tD F R ps)),none,none,none,none]=_
 unfold zc8 zj2
 unfold zFa at pr rw' nm3
 refine za9 (S1:=S3) ?_ ?_
 ·simp [S3,h6,cp,pc]
 refine za9 (S1:=S3) ?_ ?_
 ·simp only [S3] at pr ⊢
  simp [cl,lc,h7,h1,nc,pr,t0,h3,ip,tru,-zdS,-zaC,-oIx]
 refine za9 (S1:=S3) ?_ ?_
 ·simp only [S3] at rw' nm3 ⊢
  simp [rw',lr,ne1,nm3,ln,ne2,kl,-zdS,-zaC]
 refine za9 (S1:=S3) ?_ ?_
 ·unfold zzX
  rw [nm3]
  simp [ln6]
 refine za9 (zuJ (its:=[.str "give",.str "take",.str "lay"]) (by simp [S3,h3,D.plain,D.plains]) lo) ?_
 have nm4:=nm [some (.sh ru.I),some (.sh ru.T),some (.sh (tD F R ps)),some (.li (zAV ru)),oD' y4,oD' y5,oD' y6] rfl
 unfold zFa at nm4
 simp only [oD'] at nm4
 simp [nm4,ln,eq2,-zdS,-zaC]
end My
namespace My
open PySem L2 M1
theorem zH4 (t:Tm):Txt.slice (zgN t) none (some 3)=tw t.1:=by
 refine zz4 ?_
 have hl:3≤(zgN t).length:=by
  unfold zgN
  rw [zal,zal,zq2,zt9]; omega
 have:=zpG (x:=zgN t) (k:=3) hl
 rw [show ((3:Nat):Int)=3 from rfl] at this
 rw [this]
 unfold zgN
 rw [zcu,zcu,List.append_assoc]
 have h3:(tw t.1).cps.toList.length=3:=by rw [Array.length_toList]; exact zq2 t.1
 rw [List.take_append_of_le_length (by omega),List.take_of_length_le (by omega)]
theorem okw (b:Bool):Ok (tw b):=by
 cases b
 ·exact oN
 ·exact oH
theorem zDf (ts:List Tm):ts.map tmD=(ts.map fun t=>((tw t.1,t.2):Pr)).map pD:=by simp [pD,tmD,Function.comp_def]
theorem zvt {ts:List Tm} (ho:∀ t∈ts,Ok t.2):∃ xs:List PyData,D.dats (ts.map tmD)=some xs∧PyData.canLayAll0 xs=true∧PyData.depthAll xs≤1:=by
 refine ⟨(ts.map fun t=>((tw t.1,t.2):Pr)).map pP,by rw [zDf,zvR],?_,?_⟩
 ·induction ts with
  | nil=>rfl
  | cons t ts ih=>
   simp only [List.map_cons,PyData.canLayAll0,Bool.and_eq_true]
   exact ⟨zz7 ⟨okw _,ho t (by simp)⟩,ih fun x hx=>ho x (by simp [hx])⟩
 ·clear ho
  induction ts with
  | nil=>simp [PyData.depthAll]
  | cons t ts ih=>
   have:PyData.depth (pP (tw t.1,t.2))=1:=rfl
   simp only [List.map_cons,PyData.depthAll,this]
   omega
theorem zK2 {r a:Str} {ts:List Tm} (hr:Ok r) (ha:Ok a) (ho:∀ t∈ts,Ok t.2):∃ p,shp (.lst [.str r,.str a,.lst (ts.map tmD)])=some p:=by
 obtain ⟨xs,h1,h2,h3⟩:=zvt ho
 have hr':PyData.strOk r=true:=hr
 have ha':PyData.strOk a=true:=ha
 have hs:SeqAt.shaped (.list [.str r,.str a,.list xs])=true:=by
  simp [SeqAt.shaped,PyData.canLay0,PyData.canLayAll0,hr',ha',h2,PyData.depth,PyData.depthAll]
  omega
 exact ⟨_,by simp [shp,D.dat,D.dats,h1,hs]; rfl⟩
theorem zLu {r:Str} {ts:List Tm} (hr:Ok r) (ho:∀ t∈ts,Ok t.2):∃ p,shp (.lst [.str r,.lst (ts.map tmD)])=some p:=by
 obtain ⟨xs,h1,h2,h3⟩:=zvt ho
 have hr':PyData.strOk r=true:=hr
 have hs:SeqAt.shaped (.list [.str r,.list xs])=true:=by
  simp [SeqAt.shaped,PyData.canLay0,PyData.canLayAll0,hr',h2,PyData.depth,PyData.depthAll]
  omega
 exact ⟨_,by simp [shp,D.dat,D.dats,h1,hs]; rfl⟩
theorem zAW {ts:List Tm} (h:∀ t∈ts,t.2.length≤6):zcN (gN 0) zdo (zel (zac (mFr (mSl (mFr (zdS (zaC 2 "row" zbu (mV 0) zak)
   (zaC 6 "row" zbv (mV 0) zak))) mNo (mAt (mC (.int 3))))) (zac (m1 (zcV [1,2,3,4,5,6,8] "role") (mV 0)) zak))) (ts.map cnD) [none]=some (ts.map tmD):=by
 refine zpO cnD [] _ tmD ts (fun t ht=>?_) none
 have h2:2≤sizeLine:=by rw [zar]; omega
 have ar:=zww t (h t ht) [some (.sh (cnD t))] 0 rfl
 have hl:(zgN t).length≤sizeLine:=by have:=zm6 (h t ht); rw [zar]; omega
 have s3:=zH4 t
 generalize zdS (zaC 2 "row" zbu (mV 0) zak) (zaC 6 "row" zbv (mV 0) zak)=mm at ar ⊢
 have fl:zcV [1,2,3,4,5,6,8] "role" (cnD t)=some (.str t.2):=by
  obtain ⟨b,r⟩:=t
  cases b <;> simp [cnD,cnC,List.lookup]
 simp [ar,hl,s3,fl,h2,tmD,-zcV]
theorem zH5 {F R:List Str} {ps:List Pr} (va:Valid F R ps) {ru:Ru} (h:ru.Ok R):zbf [ru.I,ru.T]=some (.sh (.bl true)):=by
 have h3:3≤sizeLine:=by rw [zar]; omega
 have h2:2≤sizeLine:=by omega
 have kt:∀ xs,zmo tab [.tup xs,.ty "tuple"]=some (.sh (.bl true)):=fun _=>rfl
 cases ru with
 | give r a ts=>
  have hl:ts.length≤sizeLine:=by have:=h.2.2.1; omega
  have b0:atI [D.str "give",.str r,.str a,.lst (ts.map tmD)] 0=some (.str "give"):=rfl
  have sl:oSl (.tup [D.str "give",.str r,.str a,.lst (ts.map tmD)]) (some 1) none=some (.sh (.tup [.str r,.str a,.lst (ts.map tmD)])):=rfl
  obtain ⟨p,hp⟩:=zK2 (va.okR r h.1) (va.okR a h.2.1) (ts:=ts) fun t ht=>va.okR _ (h.2.2.2 t ht)
  have e:=zjR hp
  have c:=zAW (ts:=ts) fun t ht=>nm6 va (h.2.2.2 t ht)
  simp [zbf,zaD,zcC,zdv,Ru.I,Ru.T,b0,h2,h3,List.lookup,hl,c,sl,e,kt,-oSl]
 | take r a ts=>
  have hl:ts.length≤sizeLine:=by have:=h.2.2.1; omega
  have b0:atI [D.str "take",.str r,.str a,.lst (ts.map tmD)] 0=some (.str "take"):=rfl
  have sl:oSl (.tup [D.str "take",.str r,.str a,.lst (ts.map tmD)]) (some 1) none=some (.sh (.tup [.str r,.str a,.lst (ts.map tmD)])):=rfl
  obtain ⟨p,hp⟩:=zK2 (va.okR r h.1) (va.okR a h.2.1) (ts:=ts) fun t ht=>va.okR _ (h.2.2.2 t ht)
  have e:=zjR hp
  have c:=zAW (ts:=ts) fun t ht=>nm6 va (h.2.2.2 t ht)
  simp [zbf,zaD,zcC,zdv,Ru.I,Ru.T,b0,h2,h3,List.lookup,hl,c,sl,e,kt,-oSl]
 | lay r ts=>
  have hl:ts.length≤sizeLine:=by have:=h.2.1; omega
  have b0:atI [D.str "lay",.str r,.lst (ts.map tmD)] 0=some (.str "lay"):=rfl
  have sl:oSl (.tup [D.str "lay",.str r,.lst (ts.map tmD)]) (some 1) none=some (.sh (.tup [.str r,.lst (ts.map tmD)])):=rfl
  obtain ⟨p,hp⟩:=zLu (va.okR r h.1) (ts:=ts) fun t ht=>va.okR _ (h.2.2 t ht)
  have e:=zjR hp
  have c:=zAW (ts:=ts) fun t ht=>nm6 va (h.2.2 t ht)
  simp [zbf,zaD,zcC,zdv,Ru.I,Ru.T,b0,h2,List.lookup,hl,c,sl,e,kt,-oSl]
 | both p q=>
  have b0:atI [D.str "both",.str p,.str q] 0=some (.str "both"):=rfl
  have sl:oSl (.tup [D.str "both",.str p,.str q]) (some 1) none=some (.sh (.tup [.str p,.str q])):=rfl
  have e:=zjR (zFh (zs:=[p,q]) (by intro z hz; simp at hz; rcases hz with rfl | rfl; exact va.okR _ h.1; exact va.okR _ h.2.1))
  simp only [List.map_cons,List.map_nil] at e
  simp [zbf,zaD,zcC,zdv,Ru.I,Ru.T,b0,h2,List.lookup,sl,e,-oSl]
 | most n r=>
  have b0:atI [D.str "most",.int n,.str r] 0=some (.str "most"):=rfl
  have sl:oSl (.tup [D.str "most",.int n,.str r]) (some 1) none=some (.sh (.tup [.int n,.str r])):=rfl
  have hr':PyData.strOk r=true:=va.okR r h.2.2
  have hp:shp (.lst [.int n,.str r])=some (.list [.int n,.str r]):=by
   have hs:SeqAt.shaped (.list [.int n,.str r])=true:=by
    simp [SeqAt.shaped,PyData.canLay0,PyData.canLayAll0,hr',PyData.depth,PyData.depthAll]
   simp [shp,D.dat,D.dats,hs]
  have e:=zjR hp
  simp [zbf,zaD,zcC,zdv,Ru.I,Ru.T,b0,h2,List.lookup,sl,e,-oSl]
 | last r=>
  have b0:atI [D.str "last",.str r] 0=some (.str "last"):=rfl
  have b1:atI [D.str "last",.str r] 1=some (.str r):=rfl
  have e:=zjR (zC1 (va.okR r h))
  simp [zbf,zaD,zcC,zdv,Ru.I,Ru.T,b0,b1,h2,List.lookup,e]
theorem zsm {R:List Str} (hR:1≤R.length) (n:Int):∃ r,r∈R∧(0:Int) < R.length∧atI (R.map D.str) (n%(R.length:Int))=some (.str r):=by
 obtain ⟨k,ek,lk⟩:=zjf n (b:=(R.length:Int)) (by omega)
 have hk:k < R.length:=by omega
 refine ⟨R[k],List.getElem_mem hk,by omega,?_⟩
 rw [ek]
 exact atN (by rw [List.getElem?_map,List.getElem?_eq_getElem hk]; rfl)
theorem zDg {R:List Str} (hR:1≤R.length) (m:Nat):∃ t:Tm,t.2∈R∧zb6 [.int m,.lst (R.map D.str)]=some (.sh (tmD t)):=by
 obtain ⟨r,hr,p,e⟩:=zsm hR ((m:Int) / 2)
 have h2:2≤sizeLine:=by rw [zar]; omega
 have pn:0 < R.length:=by omega
 have:(m:Int)%2=0∨(m:Int)%2=1:=by omega
 rcases this with d | d
 ·refine ⟨(true,r),hr,?_⟩
  have a:atI [D.str "has",.str "not"] 0=some (.str "has"):=rfl
  simp [zb6,zaD,ziQ,h2,d,a,p,pn,e,tmD,tw]
 ·refine ⟨(false,r),hr,?_⟩
  have a:atI [D.str "has",.str "not"] 1=some (.str "not"):=rfl
  simp [zb6,zaD,ziQ,h2,d,a,p,pn,e,tmD,tw]
end My
namespace My
open PySem L2 M1
def zvu:List Str:=["give","take","lay","give","take","both","most","last"]
theorem zH6 {F R : List Str} {ps : List Pr} (va : Valid F R ps) (ws : List Nat) (hw : ws.length = 18) : ∃ ru : Ru, ru.Ok R ∧ zcv [.lst (ws.map nD), tD F R ps] = some (.sh ru.T) := by
  have r1 := va.r1
  have hz : 10 ≤ sizeLine := by rw [zar]; omega
  have h8 : 8 ≤ sizeLine := by omega
  have h2 : 2 ≤ sizeLine := by omega
  have h3 : 3 ≤ sizeLine := by omega
  have h4 : 4 ≤ sizeLine := by omega
  have at_ : ∀ k : Nat, k < 18 → ∃ n : Nat, atI (ws.map nD) (k : Int) = some (nD n) := fun k hk =>
    ⟨ws[k], atN (by rw [List.getElem?_map, List.getElem?_eq_getElem (by omega)]; rfl)⟩
  obtain ⟨n0, a0⟩ := at_ 0 (by omega)
  obtain ⟨n1, a1⟩ := at_ 1 (by omega)
  obtain ⟨n4, a4⟩ := at_ 4 (by omega)
  obtain ⟨n5, a5⟩ := at_ 5 (by omega)
  rw [show ((0 : Nat) : Int) = 0 from rfl] at a0
  rw [show ((1 : Nat) : Int) = 1 from rfl] at a1
  rw [show ((4 : Nat) : Int) = 4 from rfl] at a4
  rw [show ((5 : Nat) : Int) = 5 from rfl] at a5
  obtain ⟨r, hr, pR, er⟩ := zsm r1 (n0 : Int)
  obtain ⟨o, ho, _, eo⟩ := zsm r1 (n1 : Int)
  have pn : 0 < R.length := by omega
  have e1 : oIx (tD F R ps) (.int 1) = some (.lst (R.map D.str)) := rfl
  -- how many terms
  obtain ⟨m, hm, em⟩ : ∃ m : Nat, m ≤ 2 ∧ atI [D.int 0, .int 1, .int 1, .int 2] ((n4 : Int) % 4) = some (.int m) := by
    have : (n4 : Int) % 4 = 0 ∨ (n4 : Int) % 4 = 1 ∨ (n4 : Int) % 4 = 2 ∨ (n4 : Int) % 4 = 3 := by omega
    rcases this with d | d | d | d <;> rw [d]
    · exact ⟨0, by omega, rfl⟩
    · exact ⟨1, by omega, rfl⟩
    · exact ⟨1, by omega, rfl⟩
    · exact ⟨2, by omega, rfl⟩
  -- the terms
  obtain ⟨ts, htl, htm, hts⟩ : ∃ ts : List Tm, ts.length = m ∧ (∀ t ∈ ts, t.2 ∈ R) ∧ zcN (gN 0) zdo (mFr (m1 zb6 (zac (m2 oIx (mV 1) (mFr (m2 zbV (mC (.int 2)) (mV 0)))) (zac (mV 2) zak)))) ((List.range m).map nD) [none, some (.sh (.lst (ws.map nD))), some (.sh (.lst (R.map D.str)))] = some (ts.map tmD) := by
    have ex : ∀ k : Nat, ∃ t : Tm, t.2 ∈ R ∧ (k < 2 → mFr (m1 zb6 (zac (m2 oIx (mV 1) (mFr (m2 zbV (mC (.int 2)) (mV 0)))) (zac (mV 2) zak))) [some (.sh (nD k)), some (.sh (.lst (ws.map nD))), some (.sh (.lst (R.map D.str)))] = some (tmD t)) := by
      intro k
      by_cases hk : k < 2
      · obtain ⟨n, an⟩ := at_ (2 + k) (by omega)
        obtain ⟨t, ht, et⟩ := zDg r1 n
        refine ⟨t, ht, fun _ => ?_⟩
        rw [show (((2 + k : Nat)) : Int) = 2 + (k : Int) by omega] at an
        simp [an, et]
      · obtain ⟨t, ht, et⟩ := zDg r1 0
        exact ⟨t, ht, fun z => absurd z hk⟩
    refine ⟨(List.range m).map fun k => Classical.choose (ex k), by simp, ?_, ?_⟩
    · intro t ht
      obtain ⟨k, _, rfl⟩ := List.mem_map.mp ht
      exact (Classical.choose_spec (ex k)).1
    · rw [List.map_map]
      exact zpO nD _ _ (fun k => tmD (Classical.choose (ex k))) (List.range m) (fun k hk => (Classical.choose_spec (ex k)).2 (by have := List.mem_range.mp hk; omega)) none
  -- the kind
  obtain ⟨kd, hk, ek⟩ : ∃ kd : Str, kd ∈ zvu ∧ atI [D.str "give", .str "take", .str "lay", .str "give", .str "take", .str "both", .str "most", .str "last"] ((n5 : Int) % 8) = some (.str kd) := by
    obtain ⟨j, ej, lj⟩ := zjf (n5 : Int) (b := 8) (by omega)
    have hj : j < zvu.length := by show j < 8; omega
    refine ⟨zvu[j], List.getElem_mem hj, ?_⟩
    rw [ej]
    exact atN (xs := zvu.map D.str) (by rw [List.getElem?_map, List.getElem?_eq_getElem hj]; rfl)
  have hrm := zEL m (by omega)
  have hlm : ((List.range m).map nD).length ≤ sizeLine := by simp; omega
  let tsD : List D := ts.map tmD
  have hT : zFA R ts := ⟨by omega, htm⟩
  have eqo := eqS (va.okR r hr) (va.okR o ho)
  let S0 : FSt := [some (.sh (.lst (ws.map nD))), some (.sh (tD F R ps)), none, none, none, none, none]
  let S1 : Str → FSt := fun kd => [some (.sh (.lst (ws.map nD))), some (.sh (tD F R ps)), some (.sh (.lst (R.map D.str))), some (.sh (.str r)), some (.sh (.str o)), some (.li (ts.map tmD)), some (.sh (.str kd))]
  -- all up to the kind
  have pre : ∀ (ze5 : FSt → Fl) (x : SV), ze5 (S1 kd) = .rt x → (zaS (zcW 2 [1] (mSh (m2 oIx (mV 1) (mC (.int 1)))))
   (zaS (zcW 3 [0, 2] (mSh (m2 oIx (mV 2) (m2 zgw (m2 oIx (mV 0) (mC (.int 0))) (mFr (m1 zll (zac (mV 2) zak)))))))
   (zaS (zcW 4 [0, 2] (mSh (m2 oIx (mV 2) (m2 zgw (m2 oIx (mV 0) (mC (.int 1))) (mFr (m1 zll (zac (mV 2) zak)))))))
   (zaS (zcW 5 [0, 2] (zdn 1 [0, 2] (mR1 (zac (m2 oIx (mFr (zgv (zac (mC (.int 0)) (zac (mC (.int 1)) (zac (mC (.int 1)) (zac (mC (.int 2)) zak)))))) (m2 zgw (m2 oIx (mV 0) (mC (.int 4))) (mC (.int 4)))) zak)) (gN 0) zdo (mFr (m1 zb6 (zac (m2 oIx (mV 1) (mFr (m2 zbV (mC (.int 2)) (mV 0)))) (zac (mV 2) zak))))))
   (zaS (zcW 6 [0] (mSh (m2 oIx (mFr (zgv (zac (mC (.str "give")) (zac (mC (.str "take")) (zac (mC (.str "lay")) (zac (mC (.str "give")) (zac (mC (.str "take")) (zac (mC (.str "both")) (zac (mC (.str "most")) (zac (mC (.str "last")) zak)))))))))) (m2 zgw (m2 oIx (mV 0) (mC (.int 5))) (mC (.int 8)))))) ze5))))) S0 = .rt x := by
    intro ze5 x hx
    refine za9 (S1 := [some (.sh (.lst (ws.map nD))), some (.sh (tD F R ps)), some (.sh (.lst (R.map D.str))), none, none, none, none]) ?_ ?_
    · simp [S0, e1, -oIx]
    refine za9 (S1 := [some (.sh (.lst (ws.map nD))), some (.sh (tD F R ps)), some (.sh (.lst (R.map D.str))), some (.sh (.str r)), none, none, none]) ?_ ?_
    · simp [a0, pR, pn, er, D.plain]
    refine za9 (S1 := [some (.sh (.lst (ws.map nD))), some (.sh (tD F R ps)), some (.sh (.lst (R.map D.str))), some (.sh (.str r)), some (.sh (.str o)), none, none]) ?_ ?_
    · simp [a1, pR, pn, eo, D.plain]
    refine za9 (S1 := [some (.sh (.lst (ws.map nD))), some (.sh (tD F R ps)), some (.sh (.lst (R.map D.str))), some (.sh (.str r)), some (.sh (.str o)), some (.li (ts.map tmD)), none]) ?_ ?_
    · have ptm : D.plains (ts.map tmD) = true := by rw [zDf]; exact zz8 _
      generalize (List.range m).map nD = its at hrm hlm hts
      simp [a4, em, h4, hrm, hlm, hts, ptm]
    refine za9 (S1 := S1 kd) ?_ hx
    simp [S1, a5, ek, h8, D.plain]
  have ptT : (D.lst (ts.map tmD)).plain = false := rfl
  have run : ∀ (ru : Ru), ru.Ok R → (zaS (mIf (zx1 (zaj (m2 oEq (mV 6) (mC (.str "both")))) (zaj (m2 oEq (mV 3) (mV 4))))
    (zcW 6 [] (mSh (mC (.str "last"))))
    za7)
   (zaS (mIf (zaj (m2 oEq (mV 6) (mC (.str "lay"))))
    (zbB (mSh (zel (zac (mV 6) (zac (mV 3) (zac (mV 5) zak))))))
    za7)
   (zaS (mIf (zaj (m2 oEq (mV 6) (mC (.str "both"))))
    (zbB (mSh (zel (zac (mV 6) (zac (mV 3) (zac (mV 4) zak))))))
    za7)
   (zaS (mIf (zaj (m2 oEq (mV 6) (mC (.str "most"))))
    (zbB (mSh (zel (zac (mV 6) (zac (mFr (m2 zbV (mC (.int 1)) (m2 zgw (m2 oIx (mV 0) (mC (.int 1))) (mC (.int 4))))) (zac (mV 3) zak))))))
    za7)
   (zaS (mIf (zaj (m2 oEq (mV 6) (mC (.str "last"))))
    (zbB (mSh (zel (zac (mV 6) (zac (mV 3) zak)))))
    za7)
   (zbB (mSh (zel (zac (mV 6) (zac (mV 3) (zac (mV 4) (zac (mV 5) zak))))))))))))
    (S1 kd) = .rt (.sh ru.T) → ∃ ru : Ru, ru.Ok R ∧ zcv [.lst (ws.map nD), tD F R ps] = some (.sh ru.T) := by
    intro ru hru h
    exact ⟨ru, hru, znf rfl (pre _ _ h)⟩
  obtain ⟨q4, eq4, lq4⟩ := zjf (n1 : Int) (b := 4) (by omega)
  simp only [zvu, List.mem_cons, List.not_mem_nil, or_false] at hk
  have hg : kd = "give" ∨ kd = "take" ∨ kd = "lay" ∨ kd = "both" ∨ kd = "most" ∨ kd = "last" := by
    rcases hk with h | h | h | h | h | h | h | h <;> simp [h]
  rcases hg with rfl | rfl | rfl | rfl | rfl | rfl
  · exact run (.give r o ts) ⟨hr, ho, hT⟩ (by simp [S1, Ru.T, h4])
  · exact run (.take r o ts) ⟨hr, ho, hT⟩ (by simp [S1, Ru.T, h4])
  · exact run (.lay r ts) ⟨hr, hT⟩ (by simp [S1, Ru.T, h3])
  · by_cases c : r = o
    · rw [beq_iff_eq.mpr c] at eqo
      exact run (.last r) hr (by simp [S1, Ru.T, h2, eqo, D.plain])
    · have cb : (r == o) = false := by simpa using c
      rw [cb] at eqo
      exact run (.both r o) ⟨hr, ho, c⟩ (by simp [S1, Ru.T, h3, eqo])
  · have e : (1 : Int) + (q4 : Int) = ((1 + q4 : Nat) : Int) := by omega
    exact run (.most (1 + q4) r) ⟨by omega, by omega, hr⟩ (by simp [S1, Ru.T, h3, a1, eq4])
  · exact run (.last r) hr (by simp [S1, Ru.T, h2])
def DOk (v r:Str):Ru→Prop
 | .most _ s=>r=s
 | .last s=>r=s
 | _=>True
theorem zH7 {F R:List Str} {ps:List Pr} (va:Valid F R ps) {ru:Ru} (h:ru.Ok R) (d0 d1 d2 d3:Nat):∃ v w r x:Str,Vb v∧w∈F∧r∈R∧x∈F∧DOk v r ru∧zbR [.lst [nD d0,nD d1,nD d2,nD d3],tD F R ps,ru.T]=some (.sh (dD v w r x)):=by
 obtain ⟨w,hw,pF,ew⟩:=zsm va.f1 (d0:Int)
 obtain ⟨x,hx,_,ex⟩:=zsm va.f1 (d1:Int)
 obtain ⟨r,hr,pR,er⟩:=zsm va.r1 (d2:Int)
 have f1:=va.f1
 have r1:=va.r1
 have pfn:0 < F.length:=by omega
 have prn:0 < R.length:=by omega
 have h2:2≤sizeLine:=by rw [zar]; omega
 have h4:4≤sizeLine:=by rw [zar]; omega
 have a0:atI [nD d0,nD d1,nD d2,nD d3] 0=some (nD d0):=rfl
 have a1:atI [nD d0,nD d1,nD d2,nD d3] 1=some (nD d1):=rfl
 have a2:atI [nD d0,nD d1,nD d2,nD d3] 2=some (nD d2):=rfl
 have a3:atI [nD d0,nD d1,nD d2,nD d3] 3=some (nD d3):=rfl
 have t0:atI [D.lst (F.map D.str),.lst (R.map D.str),.lst (ps.map pD)] 0=some (.lst (F.map D.str)):=rfl
 have t1:atI [D.lst (F.map D.str),.lst (R.map D.str),.lst (ps.map pD)] 1=some (.lst (R.map D.str)):=rfl
 have nTL:oEq (.str "take") (.str "lay")=some (.bl false):=by simp
 cases ru with
 | give s a ts=>
  have b0:atI [D.str "give",.str s,.str a,.lst (ts.map tmD)] 0=some (.str "give"):=rfl
  have b1:atI [D.str "give",.str s,.str a,.lst (ts.map tmD)] 1=some (.str s):=rfl
  exact ⟨"give",w,s,x,.g,hw,h.1,hx,trivial,by simp [zbR,zaD,zdb,tD,Ru.T,a0,a1,a2,t0,t1,pF,pR,pfn,prn,ew,ex,er,b0,b1,D.plain,h4,dD]⟩
 | take s a ts=>
  have b0:atI [D.str "take",.str s,.str a,.lst (ts.map tmD)] 0=some (.str "take"):=rfl
  have b1:atI [D.str "take",.str s,.str a,.lst (ts.map tmD)] 1=some (.str s):=rfl
  exact ⟨"take",w,s,x,.t,hw,h.1,hx,trivial,by simp [zbR,zaD,zdb,tD,Ru.T,a0,a1,a2,t0,t1,pF,pR,pfn,prn,ew,ex,er,b0,b1,D.plain,h4,dD]⟩
 | lay s ts=>
  have b0:atI [D.str "lay",.str s,.lst (ts.map tmD)] 0=some (.str "lay"):=rfl
  have b1:atI [D.str "lay",.str s,.lst (ts.map tmD)] 1=some (.str s):=rfl
  exact ⟨"lay",w,s,w,.l,hw,h.1,hw,trivial,by simp [zbR,zaD,zdb,tD,Ru.T,a0,a1,a2,t0,t1,pF,pR,pfn,prn,ew,ex,er,b0,b1,D.plain,h4,dD]⟩
 | both p q=>
  have b0:atI [D.str "both",.str p,.str q] 0=some (.str "both"):=rfl
  exact ⟨"give",w,r,x,.g,hw,hr,hx,trivial,by simp [zbR,zaD,zdb,tD,Ru.T,a0,a1,a2,t0,t1,pF,pR,pfn,prn,ew,ex,er,b0,D.plain,h4,dD]⟩
 | most n s=>
  have b0:atI [D.str "most",.int n,.str s] 0=some (.str "most"):=rfl
  have b2:atI [D.str "most",.int n,.str s] 2=some (.str s):=rfl
  exact ⟨"give",w,s,x,.g,hw,h.2.2,hx,rfl,by simp [zbR,zaD,zdb,tD,Ru.T,a0,a1,a2,t0,t1,pF,pR,pfn,prn,ew,ex,er,b0,b2,D.plain,h4,dD]⟩
 | last s=>
  have b0:atI [D.str "last",.str s] 0=some (.str "last"):=rfl
  have b1:atI [D.str "last",.str s] 1=some (.str s):=rfl
  have:(d3:Int)%2=0∨(d3:Int)%2=1:=by omega
  rcases this with d | d
  ·have c:atI [D.str "take",.str "lay"] 0=some (.str "take"):=rfl
   exact ⟨"take",w,s,x,.t,hw,h,hx,rfl,by simp [zbR,zaD,zdb,tD,Ru.T,a0,a1,a2,a3,t0,t1,pF,pR,pfn,prn,ew,ex,er,b0,b1,D.plain,h2,h4,d,c,dD]⟩
  ·have c:atI [D.str "take",.str "lay"] 1=some (.str "lay"):=rfl
   exact ⟨"lay",w,s,w,.l,hw,h,hw,rfl,by simp [zbR,zaD,zdb,tD,Ru.T,a0,a1,a2,a3,t0,t1,pF,pR,pfn,prn,ew,ex,er,b0,b1,D.plain,h2,h4,d,c,dD]⟩
end My
namespace My
open PySem L2 M1
def miD:Option (Str×Str)→D
 | none=>.non
 | some p=>.tup [.str p.1,.str p.2]
noncomputable def zkd (F R:List Str) (ps:List Pr) (s:Nat):List (Str×Tm)→Option (Str×Str)
 | []=>none
 | (w,t) :: r=>if zeH F R ps s w t.2=t.1 then zkd F R ps s r else some (w,zgN t)
def ptD (p:Str×Tm):D:=.tup [.str p.1,cnD p.2]
section
variable {F R:List Str} {ps:List Pr}
theorem zFm (v:Valid F R ps) {s:Nat} {w:Str} {t:Tm} (hs:s < 2 ^ (F.length*R.length)) (hw:w∈F) (ht:t.2∈R) (S:FSt) (i j k l:Nat) (ei:S[i]? = some (some (.sh (cnD t)))) (ej:S[j]? = some (some (.sh (oO F R ps)))) (ek:S[k]? = some (sI' s)) (el:S[l]? = some (some (.sh (.str w)))) :
  zdS (zaC 2 "holds" zck (mV i) (zac (mV j) (zac (mV k) (zac (mV l) zak)))) (zaC 6 "holds" zcl (mV i) (zac (mV j) (zac (mV k) (zac (mV l) zak)))) S=some (.sh (.bl (zeH F R ps s w t.2==t.1))):=by
 obtain ⟨b,r⟩:=t
 have hh:=zE2 v hs hw ht
 cases b
 ·have h6:zcl [.ins 6 [("role",.str r)],oO F R ps,.int s,.str w]=some (.sh (.bl (!zeH F R ps s w r))):=by
   simp [zcl,zaD,zpT,zpS,List.lookup,hh]
  simp only [cnD,cnC,Bool.false_eq_true,if_false] at ei
  simp [ei,ej,ek,el,List.lookup,h6]
 ·have h2:zck [.ins 2 [("role",.str r)],oO F R ps,.int s,.str w]=some (.sh (.bl (zeH F R ps s w r))):=by
   simp [zck,zaD,zpR,zpQ,List.lookup,hh]
  simp only [cnD,cnC,if_true] at ei
  simp [ei,ej,ek,el,List.lookup,h2]
theorem zAX (v : Valid F R ps) {s : Nat} (hs : s < 2 ^ (F.length * R.length)) (s2 : Option SV) : ∀ (qs : List (Str × Tm)) (x3 x4 : Option D), (∀ q ∈ qs, q.1 ∈ F ∧ q.2.2 ∈ R) →
    (match zkd F R ps s qs with
     | none => ∃ y3 y4, zbj (gSq 2 (gCs (gN 3) (gCs (gN 4) gNs))) zaI (qs.map ptD) [some (.sh (oO F R ps)), sI' s, s2, oD' x3, oD' x4] = .nx [some (.sh (oO F R ps)), sI' s, s2, oD' y3, oD' y4]
     | some p => zbj (gSq 2 (gCs (gN 3) (gCs (gN 4) gNs))) zaI (qs.map ptD) [some (.sh (oO F R ps)), sI' s, s2, oD' x3, oD' x4] = .rt (.sh (miD (some p))))
  | [], x3, x4, _ => ⟨x3, x4, rfl⟩
  | (w, t) :: qs, x3, x4, h => by
    have h2 : 2 ≤ sizeLine := by rw [zar]; omega
    obtain ⟨hw, ht⟩ := h (w, t) (by simp)
    have hg : gSq 2 (gCs (gN 3) (gCs (gN 4) gNs)) (ptD (w, t)) [some (.sh (oO F R ps)), sI' s, s2, oD' x3, oD' x4] = some [some (.sh (oO F R ps)), sI' s, s2, some (.sh (.str w)), some (.sh (cnD t))] := by simp [ptD]
    have ho := zFm v hs hw ht [some (.sh (oO F R ps)), sI' s, s2, some (.sh (.str w)), some (.sh (cnD t))] 4 0 1 3 rfl rfl rfl rfl
    have ar := zww t (nm6 v ht) [some (.sh (oO F R ps)), sI' s, s2, some (.sh (.str w)), some (.sh (cnD t))] 4 rfl
    have ih := zAX v hs s2 qs (some (.str w)) (some (cnD t)) fun q hq => h q (by simp [hq])
    by_cases c : zeH F R ps s w t.2 = t.1
    · have e : zkd F R ps s ((w, t) :: qs) = zkd F R ps s qs := by rw [zkd, if_pos c]
      rw [e]
      rw [beq_iff_eq.mpr c] at ho
      have hb : zaI [some (.sh (oO F R ps)), sI' s, s2, some (.sh (.str w)), some (.sh (cnD t))] = .nx [some (.sh (oO F R ps)), sI' s, s2, some (.sh (.str w)), some (.sh (cnD t))] := by
        unfold zaI zeU
        simp only [mIf, zo6, zaj, mFr, ho]
        rfl
      have st : zbj (gSq 2 (gCs (gN 3) (gCs (gN 4) gNs))) zaI (((w, t) :: qs).map ptD) [some (.sh (oO F R ps)), sI' s, s2, oD' x3, oD' x4] = zbj (gSq 2 (gCs (gN 3) (gCs (gN 4) gNs))) zaI (qs.map ptD) [some (.sh (oO F R ps)), sI' s, s2, oD' (some (.str w)), oD' (some (cnD t))] := by
        rw [List.map_cons, zbj, hg]
        simp only [hb]
        rfl
      rw [st]
      exact ih
    · have e : zkd F R ps s ((w, t) :: qs) = some (w, zgN t) := by rw [zkd, if_neg c]
      rw [e]
      have cb : (zeH F R ps s w t.2 == t.1) = false := by simpa using c
      rw [cb] at ho
      have hb : zaI [some (.sh (oO F R ps)), sI' s, s2, some (.sh (.str w)), some (.sh (cnD t))] = .rt (.sh (.tup [.str w, .str (zgN t)])) := by
        unfold zaI zeU
        simp only [mIf, zo6, zaj, mFr, ho, zbB, mSh, zel, zac, ar, zak]
        simp [h2]
      show zbj (gSq 2 (gCs (gN 3) (gCs (gN 4) gNs))) zaI (((w, t) :: qs).map ptD) [some (.sh (oO F R ps)), sI' s, s2, oD' x3, oD' x4] = .rt (.sh (.tup [.str w, .str (zgN t)]))
      rw [List.map_cons, zbj, hg]
      simp only [hb]
theorem zJ6 (v:Valid F R ps) {s:Nat} (hs:s < 2 ^ (F.length*R.length)) (qs:List (Str×Tm)) (h:∀ q∈qs,q.1∈F∧q.2.2∈R):zaB [oO F R ps,.int s,.lst (qs.map ptD)]=some (.sh (miD (zkd F R ps s qs))):=by
 have l:=zAX v hs (some (.sh (.lst (qs.map ptD)))) qs none none h
 simp only [oD',Option.map_none] at l
 cases e:zkd F R ps s qs with
 | none=>
  rw [e] at l
  obtain ⟨y3,y4,l⟩:=l
  simp [zaB,zaD,zcm,zgY,l,miD]
 | some p=>
  rw [e] at l
  simp only [] at l
  simp [zaB,zaD,zcm,zgY,l]
theorem zFn (w:Str) (ts:List Tm) (hl:ts.length≤2):zax [.str w,.tup (ts.map cnD)]=some (.li ((ts.map fun t=>(w,t)).map ptD)):=by
 have hz:ts.length≤sizeLine:=by rw [zar]; omega
 have h2:2≤sizeLine:=by rw [zar]; omega
 have hc:=zpO cnD [some (.sh (.str w))] (zel (zac (mV 1) (zac (mV 0) zak))) (fun t=>ptD (w,t)) ts (fun t _=>by simp [h2,ptD]) none
 simp only [oD',Option.map_none] at hc
 rw [List.map_map]
 simp [zax,zaD,zcw,hz,hc,Function.comp_def]
noncomputable def zpq (F R:List Str) (s:Nat) (r x:Str):List Str:=(F.filter fun w=>s.testBit (plc F R w r)).filter fun w=>!(w==x)
noncomputable def Ru.mis (F R:List Str) (ps:List Pr) (s:Nat) (w r x:Str) (ru:Ru):Option (Str×Str):=
 match ru with
 | .give _ a ts=>zkd F R ps s ((w,(true,a)) :: ts.map fun t=>(x,t))
 | .take _ a ts=>zkd F R ps s ((w,(true,a)) :: ts.map fun t=>(x,t))
 | .lay _ ts=>zkd F R ps s (ts.map fun t=>(x,t))
 | .both p q=>if zeH F R ps (s|||2 ^ plc F R x r) x p=true∧zeH F R ps (s|||2 ^ plc F R x r) x q=true then some (x,ru.row) else none
 | .most n _=>if n≤(zpq F R s r x).length then some (x,ru.row) else none
 | .last _=>if zpq F R s r x=[] then some (x,ru.row) else none
def zLv:Ru→List D→Option SV:=Ru.pick zaT zbh za5 zbC za6 zbi
theorem zJ7 {s k n:Nat} (hs:s < 2 ^ n) (hk:k < n):s|||2 ^ k < 2 ^ n:=Nat.or_lt_two_pow hs (Nat.pow_lt_pow_right (by omega) hk)
theorem zH8 (v:Valid F R ps) {s:Nat} {r x:Str} (hx:x∈F):zcN (gN 0) (zaj (m2 oNe (mV 0) (mV 1))) (mV 0) ((F.filter fun w=>s.testBit (plc F R w r)).map D.str) [none,some (.sh (.str x))]=some ((zpq F R s r x).map D.str):=by
 refine zEM D.str [some (.sh (.str x))] _ (mV 0) (fun w=>!(w==x)) D.str (F.filter fun w=>s.testBit (plc F R w r)) (fun w hw=>⟨?_,fun _=>rfl⟩) none
 have:=neS (v.okF w (List.mem_filter.mp hw).1) (v.okF x hx)
 simp [this]
theorem zJ8 (v:Valid F R ps) {ru:Ru} (h:ru.Ok R) {s:Nat} (hs:s < 2 ^ (F.length*R.length)) {vb w r x:Str} (hw:w∈F) (hr:r∈R) (hx:x∈F) (hd:DOk vb r ru):zLv ru [ru.I,oO F R ps,.int s,dD vb w r x]=some (.sh (miD (ru.mis F R ps s w r x))):=by
 have d1:atI [D.str vb,.str w,.str r,.str x] 1=some (.str w):=rfl
 have d2:atI [D.str vb,.str w,.str r,.str x] 2=some (.str r):=rfl
 have d3:atI [D.str vb,.str w,.str r,.str x] 3=some (.str x):=rfl
 have hz:10≤sizeLine:=by rw [zar]; omega
 have h2:2≤sizeLine:=by omega
 have h1:1≤sizeLine:=by omega
 have rw':=zHX v h
 cases ru with
 | give ro a ts=>
  have hl:1+ts.length≤sizeLine:=by have:=h.2.2.1; omega
  have pt:=zFn x ts h.2.2.1
  have ic:=zxD true a
  simp only [cnC,if_true] at ic
  have fm:=zJ6 v hs ((w,(true,a)) :: ts.map fun t=>(x,t)) (by
   intro q hq
   rcases List.mem_cons.mp hq with rfl | hq
   ·exact ⟨hw,h.2.1⟩
   ·obtain ⟨t,ht,rfl⟩:=List.mem_map.mp hq
    exact ⟨hx,h.2.2.2 t ht⟩)
  have as:zce [Ru.I (.give ro a ts),dD vb w r x]=some (.li (((w,((true,a):Tm)) :: ts.map fun t=>(x,t)).map ptD)):=by
   simp only [List.map_map] at pt
   simp [zce,zaD,zoy,zox,Ru.I,dD,d1,d3,List.lookup,ic,h1,h2,pt,hl,ptD,cnD,cnC]
  show zbh [Ru.I (.give ro a ts),oO F R ps,.int s,dD vb w r x]=some (.sh (miD (zkd F R ps s ((w,(true,a)) :: ts.map fun t=>(x,t)))))
  generalize ((w,((true,a):Tm)) :: ts.map fun t=>(x,t)).map ptD=QD at as fm
  generalize miD (zkd F R ps s ((w,(true,a)) :: ts.map fun t=>(x,t)))=Z at fm ⊢
  simp only [Ru.I] at as
  simp [zbh,zaD,zlt,zls,Ru.I,List.lookup,as,fm]
 | take ro a ts=>
  have hl:1+ts.length≤sizeLine:=by have:=h.2.2.1; omega
  have pt:=zFn x ts h.2.2.1
  have ic:=zxD true a
  simp only [cnC,if_true] at ic
  have fm:=zJ6 v hs ((w,(true,a)) :: ts.map fun t=>(x,t)) (by
   intro q hq
   rcases List.mem_cons.mp hq with rfl | hq
   ·exact ⟨hw,h.2.1⟩
   ·obtain ⟨t,ht,rfl⟩:=List.mem_map.mp hq
    exact ⟨hx,h.2.2.2 t ht⟩)
  have as:zcf [Ru.I (.take ro a ts),dD vb w r x]=some (.li (((w,((true,a):Tm)) :: ts.map fun t=>(x,t)).map ptD)):=by
   simp only [List.map_map] at pt
   simp [zcf,zaD,zoA,zoz,Ru.I,dD,d1,d3,List.lookup,ic,h1,h2,pt,hl,ptD,cnD,cnC]
  show zbi [Ru.I (.take ro a ts),oO F R ps,.int s,dD vb w r x]=some (.sh (miD (zkd F R ps s ((w,(true,a)) :: ts.map fun t=>(x,t)))))
  generalize ((w,((true,a):Tm)) :: ts.map fun t=>(x,t)).map ptD=QD at as fm
  generalize miD (zkd F R ps s ((w,(true,a)) :: ts.map fun t=>(x,t)))=Z at fm ⊢
  simp only [Ru.I] at as
  simp [zbi,zaD,zlv,zlu,Ru.I,List.lookup,as,fm]
 | lay ro ts=>
  have pt:=zFn x ts h.2.1
  have fm:=zJ6 v hs (ts.map fun t=>(x,t)) (by
   intro q hq
   obtain ⟨t,ht,rfl⟩:=List.mem_map.mp hq
   exact ⟨hx,h.2.2 t ht⟩)
  have as:zcI [Ru.I (.lay ro ts),dD vb w r x]=some (.li ((ts.map fun t=>(x,t)).map ptD)):=by
   generalize (ts.map fun t=>(x,t)).map ptD=QD at pt ⊢
   simp [zcI,zaD,zpV,zpU,Ru.I,dD,d3,List.lookup,pt]
  show zbC [Ru.I (.lay ro ts),oO F R ps,.int s,dD vb w r x]=some (.sh (miD (zkd F R ps s (ts.map fun t=>(x,t)))))
  generalize (ts.map fun t=>(x,t)).map ptD=QD at as fm
  generalize miD (zkd F R ps s (ts.map fun t=>(x,t)))=Z at fm ⊢
  simp only [Ru.I] at as
  simp [zbC,zaD,zmA,zmz,Ru.I,List.lookup,as,fm]
 | both p q=>
  have fb:=zJW v hx hr
  have hs':=zJ7 hs (zAF hx hr)
  have hp:=zE2 v hs' hx h.1
  have hq:=zE2 v hs' hx h.2.1
  have rb:zbS [Ru.I (.both p q)]=some (.sh (.str (Ru.row (.both p q)))):=rw'
  show zaT [Ru.I (.both p q),oO F R ps,.int s,dD vb w r x]=some (.sh (miD (if zeH F R ps (s|||2 ^ plc F R x r) x p=true∧zeH F R ps (s|||2 ^ plc F R x r) x q=true then some (x,Ru.row (.both p q)) else none)))
  have bo:=bOr s (2 ^ plc F R x r)
  generalize Ru.row (.both p q)=row at rb ⊢
  simp only [Ru.I] at rb ⊢
  generalize 2 ^ plc F R x r=b at *
  cases c1:zeH F R ps (s|||b) x p
  ·rw [c1] at hp
   simp [zaT,zaD,ze7,ze6,List.lookup,dD,d2,d3,D.plain,fb,bo,hp,miD]
  ·rw [c1] at hp
   cases c2:zeH F R ps (s|||b) x q
   ·rw [c2] at hq
    simp [zaT,zaD,ze7,ze6,List.lookup,dD,d2,d3,D.plain,fb,bo,hp,hq,miD]
   ·rw [c2] at hq
    simp [zaT,zaD,ze7,ze6,List.lookup,dD,d2,d3,D.plain,fb,bo,hp,hq,rb,h2,miD]
 | most n ro=>
  have er:r=ro:=hd
  subst er
  have ho:=zvm v hs hr
  have co:=zH8 v (s:=s) (r:=r) hx
  have hl:(F.filter fun w=>s.testBit (plc F R w r)).length≤sizeLine:=by
   have:=List.length_filter_le (fun w=>s.testBit (plc F R w r)) F
   have:=v.f4
   omega
  have rb:zbU [Ru.I (.most n r)]=some (.sh (.str (Ru.row (.most n r)))):=rw'
  show za6 [Ru.I (.most n r),oO F R ps,.int s,dD vb w r x]=some (.sh (miD (if n≤(zpq F R s r x).length then some (x,Ru.row (.most n r)) else none)))
  have pO:=zje (zpq F R s r x)
  generalize Ru.row (.most n r)=row at rb ⊢
  simp only [Ru.I] at rb ⊢
  generalize (F.filter fun w=>s.testBit (plc F R w r))=H at *
  generalize zpq F R s r x=O at *
  by_cases c:n≤O.length
  ·have ci:(n:Int)≤(O.length:Int):=by omega
   simp [za6,zaD,zih,zig,List.lookup,dD,d3,D.plain,ho,hl,co,pO,c,ci,rb,h2,miD,zhW]
  ·have ci:¬ (n:Int)≤(O.length:Int):=by omega
   simp [za6,zaD,zih,zig,List.lookup,dD,d3,D.plain,ho,hl,co,pO,c,ci,rb,h2,miD,zhW]
 | last ro=>
  have er:r=ro:=hd
  subst er
  have ho:=zvm v hs hr
  have co:=zH8 v (s:=s) (r:=r) hx
  have hl:(F.filter fun w=>s.testBit (plc F R w r)).length≤sizeLine:=by
   have:=List.length_filter_le (fun w=>s.testBit (plc F R w r)) F
   have:=v.f4
   omega
  have rb:zbT [Ru.I (.last r)]=some (.sh (.str (Ru.row (.last r)))):=rw'
  show za5 [Ru.I (.last r),oO F R ps,.int s,dD vb w r x]=some (.sh (miD (if zpq F R s r x=[] then some (x,Ru.row (.last r)) else none)))
  have pO:=zje (zpq F R s r x)
  generalize Ru.row (.last r)=row at rb ⊢
  simp only [Ru.I] at rb ⊢
  generalize (F.filter fun w=>s.testBit (plc F R w r))=H at *
  generalize zpq F R s r x=O at *
  by_cases c:O=[]
  ·subst c
   have ci:((0:Int)==0)=true:=rfl
   simp only [List.map_nil] at co
   simp [za5,zaD,zif,zie,List.lookup,dD,d3,D.plain,D.plains,ho,hl,co,zvv,rb,h2,miD,zhW]
  ·have ci:((O.length:Int)==0)=false:=by
    have:O.length≠0:=fun z=>c (List.length_eq_zero_iff.mp z)
    simp; omega
   simp [za5,zaD,zif,zie,List.lookup,dD,d3,D.plain,ho,hl,co,pO,c,zvv,ci,rb,h2,miD,zhW]
end
end My
namespace My
open PySem L2 M1
section
variable {F R:List Str} {ps:List Pr}
theorem zAY (v : Valid F R ps) (s : Nat) {w : Str} (hw : w ∈ F) (s3 : Option SV) : ∀ (ts : List Tm) (x4 x5 : Option D), (∀ t ∈ ts, t.2 ∈ R) →
    (match zkd F R ps s (ts.map fun t => (w, t)) with
     | none => ∃ y4 y5, zbj (gSq 2 (gCs (gN 4) (gCs (gN 5) gNs))) zat (ts.map tmD) [some (.sh (tD F R ps)), sI' s, some (.sh (.str w)), s3, oD' x4, oD' x5] = .nx [some (.sh (tD F R ps)), sI' s, some (.sh (.str w)), s3, oD' y4, oD' y5]
     | some p => zbj (gSq 2 (gCs (gN 4) (gCs (gN 5) gNs))) zat (ts.map tmD) [some (.sh (tD F R ps)), sI' s, some (.sh (.str w)), s3, oD' x4, oD' x5] = .rt (.sh (miD (some p))))
  | [], x4, x5, _ => ⟨x4, x5, rfl⟩
  | t :: ts, x4, x5, h => by
    have h2 : 2 ≤ sizeLine := by rw [zar]; omega
    have ht := h t (by simp)
    have hg : gSq 2 (gCs (gN 4) (gCs (gN 5) gNs)) (tmD t) [some (.sh (tD F R ps)), sI' s, some (.sh (.str w)), s3, oD' x4, oD' x5] = some [some (.sh (tD F R ps)), sI' s, some (.sh (.str w)), s3, some (.sh (.str (tw t.1))), some (.sh (.str t.2))] := by simp [tmD]
    have hh := zvn v s hw ht
    have et := eTw t.1
    have nb := zK1 (zeH F R ps s w t.2) t.1
    have ih := zAY v s hw s3 ts (some (.str (tw t.1))) (some (.str t.2)) fun q hq => h q (by simp [hq])
    by_cases c : zeH F R ps s w t.2 = t.1
    · have e : zkd F R ps s ((t :: ts).map fun t => (w, t)) = zkd F R ps s (ts.map fun t => (w, t)) := by rw [List.map_cons, zkd, if_pos c]
      rw [e]
      rw [beq_iff_eq.mpr c] at nb
      have hb : zat [some (.sh (tD F R ps)), sI' s, some (.sh (.str w)), s3, some (.sh (.str (tw t.1))), some (.sh (.str t.2))] = .nx [some (.sh (tD F R ps)), sI' s, some (.sh (.str w)), s3, some (.sh (.str (tw t.1))), some (.sh (.str t.2))] := by
        simp [zat, zdt, hh, et, nb]
      have st : zbj (gSq 2 (gCs (gN 4) (gCs (gN 5) gNs))) zat ((t :: ts).map tmD) [some (.sh (tD F R ps)), sI' s, some (.sh (.str w)), s3, oD' x4, oD' x5] = zbj (gSq 2 (gCs (gN 4) (gCs (gN 5) gNs))) zat (ts.map tmD) [some (.sh (tD F R ps)), sI' s, some (.sh (.str w)), s3, oD' (some (.str (tw t.1))), oD' (some (.str t.2))] := by
        rw [List.map_cons, zbj, hg]
        simp only [hb]
        rfl
      rw [st]
      exact ih
    · have e : zkd F R ps s ((t :: ts).map fun t => (w, t)) = some (w, zgN t) := by rw [List.map_cons, zkd, if_neg c]
      rw [e]
      have cb : (zeH F R ps s w t.2 == t.1) = false := by simpa using c
      rw [cb] at nb
      have a1 := zi7 (a := tw t.1) (b := " ") (by rw [zq2, zt9]; omega)
      have a2 := zi7 (a := tw t.1 ++ " ") (b := t.2) (by rw [zal, zq2, zt9]; have := nm6 v ht; omega)
      have hb : zat [some (.sh (tD F R ps)), sI' s, some (.sh (.str w)), s3, some (.sh (.str (tw t.1))), some (.sh (.str t.2))] = .rt (.sh (.tup [.str w, .str (zgN t)])) := by
        simp [zat, zdt, hh, et, nb, a1, a2, h2, zgN, -zbV]
      show zbj (gSq 2 (gCs (gN 4) (gCs (gN 5) gNs))) zat ((t :: ts).map tmD) [some (.sh (tD F R ps)), sI' s, some (.sh (.str w)), s3, oD' x4, oD' x5] = .rt (.sh (.tup [.str w, .str (zgN t)]))
      rw [List.map_cons, zbj, hg]
      simp only [hb]
theorem zFo (v:Valid F R ps) (s:Nat) {w:Str} (hw:w∈F) (ts:List Tm) (h:∀ t∈ts,t.2∈R):zaF [tD F R ps,.int s,.str w,.lst (ts.map tmD)]=some (.sh (miD (zkd F R ps s (ts.map fun t=>(w,t))))):=by
 have l:=zAY v s hw (some (.sh (.lst (ts.map tmD)))) ts none none h
 simp only [oD',Option.map_none] at l
 cases e:zkd F R ps s (ts.map fun t=>(w,t)) with
 | none=>
  rw [e] at l
  obtain ⟨y4,y5,l⟩:=l
  simp [zaF,zaD,zbY,zee,l,miD]
 | some p=>
  rw [e] at l
  simp only [] at l
  simp [zaF,zaD,zbY,zee,l]
theorem zH9 (v:Valid F R ps) (s:Nat) {vb w r x:Str} (hr:r∈R) (hx:x∈F):zcN (gN 0) (zx1 (zaj (m2 oNe (mV 0) (mV 4))) (zaj (mFr (m1 zbF (zac (mV 1) (zac (mV 2) (zac (mV 0) (zac (m2 oIx (mV 3) (mC (.int 2))) zak)))))))) (mV 0) (F.map D.str) [none,some (.sh (tD F R ps)),sI' s,some (.sh (dD vb w r x)),some (.sh (.str x))]=some ((zpq F R s r x).map D.str):=by
 have e:zpq F R s r x=F.filter fun w=>(!(w==x))&&s.testBit (plc F R w r):=by unfold zpq; rw [List.filter_filter]
 rw [e]
 refine zEM D.str _ _ (mV 0) _ D.str F (fun u hu=>⟨?_,fun _=>rfl⟩) none
 have n:=neS (v.okF u hu) (v.okF x hx)
 have hh:=zxz v s hu hr
 have d2:oIx (dD vb w r x) (.int 2)=some (.str r):=rfl
 cases c:u==x
 ·rw [c] at n
  simp [n,d2,hh,-oIx]
 ·rw [c] at n
  simp [n]
theorem zIa (v:Valid F R ps) {ru:Ru} (h:ru.Ok R) (s:Nat) {vb w r x:Str} (hw:w∈F) (hr:r∈R) (hx:x∈F):zcb [tD F R ps,.int s,ru.T,dD vb w r x]=some (.sh (miD (ru.mis F R ps s w r x))):=by
 have hz:10≤sizeLine:=by rw [zar]; omega
 have h2:2≤sizeLine:=by omega
 have co:=zH9 v s (vb:=vb) (w:=w) hr hx
 have f4:=v.f4
 have hF:F.length≤sizeLine:=by omega
 have pO:=zje (zpq F R s r x)
 have d1:oIx (dD vb w r x) (.int 1)=some (.str w):=rfl
 have d2:oIx (dD vb w r x) (.int 2)=some (.str r):=rfl
 have d3:oIx (dD vb w r x) (.int 3)=some (.str x):=rfl
 have t0:oIx (tD F R ps) (.int 0)=some (.lst (F.map D.str)):=rfl
 have k0:=T0 ru
 have lrow:=zDc v h
 have nO:=zDa (zpq F R s r x)
 have okO:∀ z∈zpq F R s r x,Ok z:=fun z hz=>v.okF z (List.mem_filter.mp (List.mem_filter.mp hz).1).1
 have eO:oEq (.lst ((zpq F R s r x).map D.str)) (.lst [])=some (.bl (zpq F R s r x).isEmpty):=by
  have s1:=zFh okO
  have s2:shp (.lst [])=some (.list []):=rfl
  unfold oEq
  rw [s1,s2]
  cases zpq F R s r x <;> rfl
 refine znf rfl ?_
 show zev [some (.sh (tD F R ps)),sI' s,some (.sh ru.T),some (.sh (dD vb w r x)),none,none,none]=_
 unfold zev zmB
 refine za9 (S1:=[some (.sh (tD F R ps)),sI' s,some (.sh ru.T),some (.sh (dD vb w r x)),some (.sh (.str x)),none,none]) ?_ ?_
 ·simp [d3,D.plain,-oIx]
 refine za9 (S1:=[some (.sh (tD F R ps)),sI' s,some (.sh ru.T),some (.sh (dD vb w r x)),some (.sh (.str x)),some (.li ((zpq F R s r x).map D.str)),none]) ?_ ?_
 ·simp [t0,hF,co,pO,-oIx]
 cases ru with
 | give ro a ts=>
  have e2:oIx (Ru.T (.give ro a ts)) (.int 2)=some (.str a):=rfl
  have e3:oIx (Ru.T (.give ro a ts)) (.int 3)=some (.lst (ts.map tmD)):=rfl
  have hh:=zvn v s hw h.2.1
  have tm:=zFo v s hx ts h.2.2.2
  have ad:=zi7 (a:="has ") (b:=a) (by rw [zAO]; have:=nm6 v h.2.1; omega)
  simp only [Ru.kn] at k0
  show _=Fl.rt (.sh (miD (zkd F R ps s ((w,(true,a)) :: ts.map fun t=>(x,t)))))
  rw [zkd]
  cases c:zeH F R ps s w a
  ·rw [c] at hh
   have tr:zgN (true,a)="has "++a:=by rw [zAR]; rfl
   simp [k0,d1,e2,e3,hh,ad,h2,miD,tr,-oIx,-zbV]
  ·rw [c] at hh
   rw [if_pos rfl]
   generalize miD (zkd F R ps s (ts.map fun t=>(x,t)))=Z at *
   simp [k0,d1,e2,e3,hh,tm,h2,-oIx,-zbV]
 | take ro a ts=>
  have e2:oIx (Ru.T (.take ro a ts)) (.int 2)=some (.str a):=rfl
  have e3:oIx (Ru.T (.take ro a ts)) (.int 3)=some (.lst (ts.map tmD)):=rfl
  have hh:=zvn v s hw h.2.1
  have tm:=zFo v s hx ts h.2.2.2
  have ad:=zi7 (a:="has ") (b:=a) (by rw [zAO]; have:=nm6 v h.2.1; omega)
  simp only [Ru.kn] at k0
  show _=Fl.rt (.sh (miD (zkd F R ps s ((w,(true,a)) :: ts.map fun t=>(x,t)))))
  rw [zkd]
  cases c:zeH F R ps s w a
  ·rw [c] at hh
   have tr:zgN (true,a)="has "++a:=by rw [zAR]; rfl
   simp [k0,d1,e2,e3,hh,ad,h2,miD,tr,-oIx,-zbV]
  ·rw [c] at hh
   rw [if_pos rfl]
   generalize miD (zkd F R ps s (ts.map fun t=>(x,t)))=Z at *
   simp [k0,d1,e2,e3,hh,tm,h2,-oIx,-zbV]
 | lay ro ts=>
  have e2:oIx (Ru.T (.lay ro ts)) (.int 2)=some (.lst (ts.map tmD)):=rfl
  have tm:=zFo v s hx ts h.2.2
  simp only [Ru.kn] at k0
  show _=Fl.rt (.sh (miD (zkd F R ps s (ts.map fun t=>(x,t)))))
  generalize miD (zkd F R ps s (ts.map fun t=>(x,t)))=Z at *
  simp [k0,e2,tm,h2,-oIx,-zbV]
 | both p q=>
  have e1:oIx (Ru.T (.both p q)) (.int 1)=some (.str p):=rfl
  have e2:oIx (Ru.T (.both p q)) (.int 2)=some (.str q):=rfl
  have fb:=zC9 v hx hr
  have hp:=zvn v (s|||2 ^ plc F R x r) hx h.1
  have hq:=zvn v (s|||2 ^ plc F R x r) hx h.2.1
  have bo:=bOr s (2 ^ plc F R x r)
  simp only [Ru.kn] at k0
  show _=Fl.rt (.sh (miD (if zeH F R ps (s|||2 ^ plc F R x r) x p=true∧zeH F R ps (s|||2 ^ plc F R x r) x q=true then some (x,Ru.row (.both p q)) else none)))
  generalize Ru.row (.both p q)=row at lrow ⊢
  generalize 2 ^ plc F R x r=b at *
  cases c1:zeH F R ps (s|||b) x p
  ·rw [c1] at hp
   simp [k0,d2,e1,e2,fb,bo,hp,h2,miD,D.plain,-oIx,-zbV]
  ·rw [c1] at hp
   cases c2:zeH F R ps (s|||b) x q
   ·rw [c2] at hq
    simp [k0,d2,e1,e2,fb,bo,hp,hq,h2,miD,D.plain,-oIx,-zbV]
   ·rw [c2] at hq
    simp [k0,d2,e1,e2,fb,bo,hp,hq,h2,lrow,miD,D.plain,-oIx,-zbV]
 | most n ro=>
  have e1:oIx (Ru.T (.most n ro)) (.int 1)=some (.int n):=rfl
  simp only [Ru.kn] at k0
  show _=Fl.rt (.sh (miD (if n≤(zpq F R s r x).length then some (x,Ru.row (.most n ro)) else none)))
  generalize Ru.row (.most n ro)=row at lrow ⊢
  generalize zpq F R s r x=O at *
  by_cases c:n≤O.length
  ·simp [k0,e1,h2,c,lrow,miD,-oIx,-zbV]
  ·simp [k0,e1,h2,c,miD,-oIx,-zbV]
 | last ro=>
  simp only [Ru.kn] at k0
  show _=Fl.rt (.sh (miD (if zpq F R s r x=[] then some (x,Ru.row (.last ro)) else none)))
  generalize Ru.row (.last ro)=row at lrow ⊢
  generalize zpq F R s r x=O at *
  by_cases c:O=[]
  ·subst c
   simp only [List.map_nil,List.isEmpty_nil] at eO
   simp [k0,h2,eO,lrow,miD,-oIx,-zbV]
  ·have ce:O.isEmpty=false:=by simpa using c
   rw [ce] at eO
   simp [k0,h2,eO,c,miD,-oIx,-zbV]
theorem zAZ {ru:Ru} (v:Valid F R ps) (h:ru.Ok R) (s:Nat) {w r x:Str} (hw:w∈F) (hx:x∈F):∃ p,shp (miD (ru.mis F R ps s w r x))=some p:=by
 have key:∀ o:Option (Str×Str),(∀ p,o=some p→Ok p.1∧Ok p.2)→∃ p,shp (miD o)=some p:=by
  intro o ho
  cases o with
  | none=>exact ⟨_,rfl⟩
  | some p=>exact ⟨_,zKM (p:=p) (ho p rfl)⟩
 have kt:∀ t:Tm,t.2∈R→Ok (zgN t):=fun t ht=>zcX (zcX (okw _) (by decide +kernel)) (v.okR _ ht)
 have km:∀ (qs:List (Str×Tm)),(∀ q∈qs,q.1∈F∧q.2.2∈R)→∀ p,zkd F R ps s qs=some p→Ok p.1∧Ok p.2:=by
  intro qs
  induction qs with
  | nil=>intro _ p e; cases e
  | cons q qs ih=>
   intro hq p e
   obtain ⟨u,t⟩:=q
   rw [zkd] at e
   split at e
   ·exact ih (fun z hz=>hq z (by simp [hz])) p e
   ·cases e
    exact ⟨v.okF _ (hq (u,t) (by simp)).1,kt t (hq (u,t) (by simp)).2⟩
 refine key _ fun p e=>?_
 cases ru with
 | give ro a ts=>
  refine km _ ?_ p e
  intro q hq
  rcases List.mem_cons.mp hq with rfl | hq
  ·exact ⟨hw,h.2.1⟩
  ·obtain ⟨t,ht,rfl⟩:=List.mem_map.mp hq
   exact ⟨hx,h.2.2.2 t ht⟩
 | take ro a ts=>
  refine km _ ?_ p e
  intro q hq
  rcases List.mem_cons.mp hq with rfl | hq
  ·exact ⟨hw,h.2.1⟩
  ·obtain ⟨t,ht,rfl⟩:=List.mem_map.mp hq
   exact ⟨hx,h.2.2.2 t ht⟩
 | lay ro ts=>
  refine km _ ?_ p e
  intro q hq
  obtain ⟨t,ht,rfl⟩:=List.mem_map.mp hq
  exact ⟨hx,h.2.2 t ht⟩
 | both p' q=>
  have e':(if zeH F R ps (s|||2 ^ plc F R x r) x p'=true∧zeH F R ps (s|||2 ^ plc F R x r) x q=true then some (x,Ru.row (.both p' q)) else none)=some p:=e
  split at e'
  ·cases e'; exact ⟨v.okF x hx,zxF v h⟩
  ·cases e'
 | most n ro=>
  have e':(if n≤(zpq F R s r x).length then some (x,Ru.row (.most n ro)) else none)=some p:=e
  split at e'
  ·cases e'; exact ⟨v.okF x hx,zxF v h⟩
  ·cases e'
 | last ro=>
  have e':(if zpq F R s r x=[] then some (x,Ru.row (.last ro)) else none)=some p:=e
  split at e'
  ·cases e'; exact ⟨v.okF x hx,zxF v h⟩
  ·cases e'
theorem zA0 (o:Option (Str×Str)):(miD o).plain=true:=by cases o <;> rfl
theorem zA1 (v:Valid F R ps) {ru:Ru} (h:ru.Ok R) {s:Nat} (hs:s < 2 ^ (F.length*R.length)) {vb w r x:Str} (hw:w∈F) (hr:r∈R) (hx:x∈F) (hd:DOk vb r ru) (s2 s3 s7:Option SV) (x9 x10:Option D) :
  zdw [some (.sh (oO F R ps)),some (.sh (tD F R ps)),s2,s3,some (.sh ru.T),some (.sh ru.I),some (.sh (dD vb w r x)),s7,sI' s,oD' x9,oD' x10] =
   .nx [some (.sh (oO F R ps)),some (.sh (tD F R ps)),s2,s3,some (.sh ru.T),some (.sh ru.I),some (.sh (dD vb w r x)),s7,sI' s,some (.sh (miD (ru.mis F R ps s w r x))),some (.sh (miD (ru.mis F R ps s w r x)))]:=by
 have fm:=zJ8 v h hs hw hr hx hd
 have lm:=zIa v h s (vb:=vb) hw hr hx
 obtain ⟨p,hp⟩:=zAZ v h s (r:=r) hw hx
 have ne:=zth hp
 have pl:=zA0 (ru.mis F R ps s w r x)
 have al:=zq3 (mn:="missing") (fB:=zaT) (fG:=zbh) (fZ:=za5) (fL:=zbC) (fM:=za6) (fT:=zbi) (a:=mV 5) (r:=zac (mV 0) (zac (mV 8) (zac (mV 6) zak))) (S:=[some (.sh (oO F R ps)),some (.sh (tD F R ps)),s2,s3,some (.sh ru.T),some (.sh ru.I),some (.sh (dD vb w r x)),s7,sI' s,oD' x9,oD' x10]) (ru:=ru) (ds:=[oO F R ps,.int s,dD vb w r x]) rfl rfl (by decide +kernel) fm
 unfold zFa at al
 generalize miD (ru.mis F R ps s w r x)=Z at *
 unfold zdw zoI
 refine za9 (S1:=[some (.sh (oO F R ps)),some (.sh (tD F R ps)),s2,s3,some (.sh ru.T),some (.sh ru.I),some (.sh (dD vb w r x)),s7,sI' s,some (.sh Z),oD' x10]) ?_ ?_
 ·simp [al,pl,-zdS,-zaC]
 refine za9 (S1:=[some (.sh (oO F R ps)),some (.sh (tD F R ps)),s2,s3,some (.sh ru.T),some (.sh ru.I),some (.sh (dD vb w r x)),s7,sI' s,some (.sh Z),some (.sh Z)]) ?_ ?_
 ·simp [lm,pl]
 simp [ne,oIs,zK1,D.isNon]
theorem zq5 (v:Valid F R ps) {ru:Ru} (h:ru.Ok R) {vb w r x:Str} (hw:w∈F) (hr:r∈R) (hx:x∈F) (hd:DOk vb r ru) (s2 s3 s7:Option SV):∀ (ss:List Nat) (x8 x9 x10:Option D),(∀ s∈ss,s < 2 ^ (F.length*R.length))→∃ y8 y9 y10,
  zbj (gN 8) zdw (ss.map nD) [some (.sh (oO F R ps)),some (.sh (tD F R ps)),s2,s3,some (.sh ru.T),some (.sh ru.I),some (.sh (dD vb w r x)),s7,oD' x8,oD' x9,oD' x10] =
   .nx [some (.sh (oO F R ps)),some (.sh (tD F R ps)),s2,s3,some (.sh ru.T),some (.sh ru.I),some (.sh (dD vb w r x)),s7,oD' y8,oD' y9,oD' y10]
 | [],x8,x9,x10,_=>⟨x8,x9,x10,rfl⟩
 | s :: ss,x8,x9,x10,hs=>by
  have e:=zA1 v h (hs s (by simp)) hw hr hx hd s2 s3 s7 x9 x10
  obtain ⟨y8,y9,y10,ih⟩:=zq5 v h hw hr hx hd s2 s3 s7 ss (some (.int s)) (some (miD (ru.mis F R ps s w r x))) (some (miD (ru.mis F R ps s w r x))) fun z hz=>hs z (by simp [hz])
  refine ⟨y8,y9,y10,?_⟩
  rw [List.map_cons,zbj]
  have hg:gN 8 (nD s) [some (.sh (oO F R ps)),some (.sh (tD F R ps)),s2,s3,some (.sh ru.T),some (.sh ru.I),some (.sh (dD vb w r x)),s7,oD' x8,oD' x9,oD' x10]=some [some (.sh (oO F R ps)),some (.sh (tD F R ps)),s2,s3,some (.sh ru.T),some (.sh ru.I),some (.sh (dD vb w r x)),s7,sI' s,oD' x9,oD' x10]:=by simp
  rw [hg]
  simp only [e]
  exact ih
end
end My
namespace My
open PySem L2 M1
section
variable {F R:List Str} {ps:List Pr}
theorem zIb (v:Valid F R ps) (c:Int):zdP [oO F R ps,tD F R ps,.int c]=some (.sh (.bl true)):=by
 obtain ⟨ws,hw,hs⟩:=zxA c 18 (by omega)
 obtain ⟨ru,h,hru⟩:=zH6 v ws hw
 have hm:=zHR h
 have htr:=zCz v h
 have hfl:=zH5 v h
 have hz:20≤sizeLine:=by rw [zar]; omega
 have h2:2≤sizeLine:=by omega
 have h8:8≤sizeLine:=by omega
 have h10:10≤sizeLine:=by omega
 have fr:=v.fr
 obtain ⟨T,hT⟩:∃ T:Nat,T=2 ^ (F.length*R.length):=⟨_,rfl⟩
 have hT0:0 < T:=by rw [hT]; exact Nat.pow_pos (by omega)
 match ws,hw,hs,hru with
 | [a0,a1,a2,a3,a4,a5,a6,a7,a8,a9,b0,b1,b2,b3,b4,b5,b6,b7],_,hs,hru=>
  obtain ⟨vb,w,r,x,hv,hw',hr,hx,hd,hde⟩:=zH7 v h a6 a7 a8 a9
  let W:List D:=[nD a0,nD a1,nD a2,nD a3,nD a4,nD a5,nD a6,nD a7,nD a8,nD a9,nD b0,nD b1,nD b2,nD b3,nD b4,nD b5,nD b6,nD b7]
  have hs':zba [.int c,.int 18]=some (.li W):=hs
  have hru':zcv [.lst W,tD F R ps]=some (.sh ru.T):=hru
  have pW:D.plains W=true:=rfl
  let bs:List Nat:=[b0,b1,b2,b3,b4,b5,b6,b7]
  have s1:oSl (.lst W) (some 6) (some 10)=some (.li [nD a6,nD a7,nD a8,nD a9]):=rfl
  have s2:oSl (.lst W) (some 10) (some 18)=some (.li (bs.map nD)):=rfl
  have pI:ru.I.plain=false:=by cases ru <;> rfl
  have pt:(tD F R ps).plain=false:=rfl
  -- the rule is kept; what it reaches into is shared then
  obtain ⟨X3,hX,eT⟩:∃ X3:Option SV,(X3=some (.li W)∨X3=some (.sh (.lst W)))∧zcW 4 [1,3] (m1 zcv (zac (mV 3) (zac (mV 1) zak))) [some (.sh (oO F R ps)),some (.sh (tD F R ps)),sI' c,some (.li W),none,none,none,none,none,none,none]=.nx [some (.sh (oO F R ps)),some (.sh (tD F R ps)),sI' c,X3,some (.sh ru.T),none,none,none,none,none,none]:=by
   cases pr:ru.T.plain
   ·exact ⟨some (.sh (.lst W)),.inr rfl,by simp [hru',pr]⟩
   ·exact ⟨some (.li W),.inl rfl,by simp [hru',pr]⟩
  have x3:∀ (S:FSt),S[3]? = some X3→mV 3 S=some (.lst W):=by
   intro S e
   unfold mV
   rw [e]
   rcases hX with rfl | rfl <;> rfl
  have lk3:lkO X3=false:=by rcases hX with rfl | rfl <;> rfl
  have tf0:oIx (tD F R ps) (.int 0)=some (.lst (F.map D.str)):=rfl
  have tf1:oIx (tD F R ps) (.int 1)=some (.lst (R.map D.str)):=rfl
  have f4:=v.f4
  have cm:zsA (F.length:Int) (R.length:Int)=true:=zrR (by omega) (by omega)
  have sh1:=zEO (F.length*R.length) (by omega)
  rw [← hT] at sh1
  -- the states
  let ss:List Nat:=0 :: (T-1) :: bs.map fun n=>n%T
  have hss:∀ s∈ss,s < 2 ^ (F.length*R.length):=by
   intro s hs
   rw [← hT]
   simp only [ss,List.mem_cons,List.mem_map] at hs
   rcases hs with rfl | rfl | ⟨n,_,rfl⟩
   ·exact hT0
   ·omega
   ·exact Nat.mod_lt _ hT0
  have cmp:=zpO nD [sI' T] (m2 zgw (mV 0) (mV 1)) (fun n=>nD (n%T)) bs (fun n _=>by
   have e:(n:Int)%(T:Int)=((n%T:Nat):Int):=rfl
   have p:(0:Int) < (T:Int):=by omega
   simp only [m2,mV,List.getElem?_cons_succ,List.getElem?_cons_zero,Option.join_some,Option.map_some,SV.fr,Option.bind_some,zgw,fI,if_pos p,e]) none
  simp only [oD',Option.map_none] at cmp
  obtain ⟨y8,y9,y10,lo⟩:=zq5 v h hw' hr hx hd (sI' c) X3 (sI' T) ss none none none hss
  simp only [oD',Option.map_none] at lo
  refine znf rfl ?_
  show ziV [some (.sh (oO F R ps)),some (.sh (tD F R ps)),sI' c,none,none,none,none,none,none,none,none]=_
  unfold ziV zr3
  refine za9 (S1:=[some (.sh (oO F R ps)),some (.sh (tD F R ps)),sI' c,some (.li W),none,none,none,none,none,none,none]) ?_ ?_
  ·simp [hs',pW]
  refine za9 eT ?_
  refine za9 (S1:=[some (.sh (oO F R ps)),some (.sh (tD F R ps)),sI' c,X3,some (.sh ru.T),some (.sh ru.I),none,none,none,none,none]) ?_ ?_
  ·simp [hm,pI]
  refine za9 (S1:=[some (.sh (oO F R ps)),some (.sh (tD F R ps)),sI' c,X3,some (.sh ru.T),some (.sh ru.I),none,none,none,none,none]) ?_ ?_
  ·simp [htr,hfl]
  refine za9 (S1:=[some (.sh (oO F R ps)),some (.sh (tD F R ps)),sI' c,X3,some (.sh ru.T),some (.sh ru.I),some (.sh (dD vb w r x)),none,none,none,none]) ?_ ?_
  ·have pd:(dD vb w r x).plain=true:=rfl
   have q:=zvS (zAa (l:=mAt (mC (.int 6))) (h:=mAt (mC (.int 10))) (x3 [some (.sh (oO F R ps)),some (.sh (tD F R ps)),sI' c,X3,some (.sh ru.T),some (.sh ru.I),none,none,none,none,none] rfl) rfl rfl s1)
   simp only [SV.fr] at q
   generalize mFr (mSl (mV 3) (mAt (mC (.int 6))) (mAt (mC (.int 10))))=mm at q ⊢
   simp [q,hde,pd]
  refine za9 (S1:=[some (.sh (oO F R ps)),some (.sh (tD F R ps)),sI' c,X3,some (.sh ru.T),some (.sh ru.I),some (.sh (dD vb w r x)),sI' T,none,none,none]) ?_ ?_
  ·refine zEP (zEQ (zHw (F.length*R.length) T sh1 _ _ ?_)) (by simp [D.plain])
   rw [Int.natCast_mul]
   simp [tf0,tf1,cm,-oIx]
  refine za9 (zuJ (its:=ss.map nD) ?_ lo) ?_
  ·have q:=zvS (zAa (l:=mAt (mC (.int 10))) (h:=mAt (mC (.int 18))) (x3 [some (.sh (oO F R ps)),some (.sh (tD F R ps)),sI' c,X3,some (.sh ru.T),some (.sh ru.I),some (.sh (dD vb w r x)),sI' T,none,none,none] rfl) rfl rfl s2)
   simp only [SV.fr] at q
   have B:=zvS (zAb (own:=1) (fi:=[7]) (mg:=gN 0) (mt:=zdo) (me:=m2 zgw (mV 0) (mV 1)) (zCh q) (by simp [bs]; omega) cmp)
   have A:mFr (zgv (zac (mC (.int 0)) (zac (m2 zGW (mV 7) (mC (.int 1))) zak))) [some (.sh (oO F R ps)),some (.sh (tD F R ps)),sI' c,X3,some (.sh ru.T),some (.sh ru.I),some (.sh (dD vb w r x)),sI' T,none,none,none]=some (.lst [nD 0,nD (T-1)]):=by
    have e:(T:Int)-1=((T-1:Nat):Int):=by omega
    simp only [mFr,zgv,zac,mC,zak,m2,mV,List.getElem?_cons_succ,List.getElem?_cons_zero,Option.join_some,Option.map_some,SV.fr,Option.bind_some,zGW,fI,e]
    simp [h2]
   simp only [SV.fr] at B
   have es:ss.map nD=[nD 0,nD (T-1)]++bs.map fun n=>nD (n%T):=by simp [ss,Function.comp_def]
   rw [es]
   have pl:D.plains ([nD 0,nD (T-1)]++bs.map fun n=>nD (n%T))=true:=by rw [← es]; exact zz9 ss
   have ln:2+bs.length≤sizeLine:=by simp [bs]; omega
   generalize mFr (zgv (zac (mC (.int 0)) (zac (m2 zGW (mV 7) (mC (.int 1))) zak)))=ma at A ⊢
   generalize mFr (zdn 1 [7] (zmn (mFr (mSl (mV 3) (mAt (mC (.int 10))) (mAt (mC (.int 18)))))) (gN 0) zdo (m2 zgw (mV 0) (mV 1)))=mb at B ⊢
   generalize hY:(bs.map fun n=>nD (n%T))=Y at *
   have lY:Y.length=bs.length:=by rw [← hY]; simp
   unfold mIt
   rw [zHx A B]
   have ln':2+Y.length≤sizeLine:=by omega
   simp only [List.cons_append,List.nil_append] at pl ⊢
   have pY:D.plains Y=true:=by simpa using pl
   simp [ln',pY]
  ·rfl
theorem zDh (ns:List Int) (k:Nat):∃ v,zaW [.fz (ns.map D.int),.int k]=some (.sh (.int v)):=by
 by_cases h:(k:Int) < ns.length
 ·have hk:k < ns.length:=by omega
  refine ⟨ns[k],?_⟩
  have:atI (ns.map D.int) (k:Int)=some (.int ns[k]):=atN (by rw [List.getElem?_map,List.getElem?_eq_getElem hk]; rfl)
  simp [zaW,zaD,zdI,hk,this]
 ·have hk:¬ k < ns.length:=by omega
  exact ⟨0,by simp [zaW,zaD,zdI,hk]⟩
theorem zxG (v:Valid F R ps) (ns:List Int):∀ (ks:List Nat) (x3:Option D),∃ y3,
  zbj (gN 3) zlT (ks.map nD) [some (.sh (.fz (ns.map D.int))),some (.sh (tD F R ps)),some (.sh (oO F R ps)),oD' x3]=.nx [some (.sh (.fz (ns.map D.int))),some (.sh (tD F R ps)),some (.sh (oO F R ps)),oD' y3]
 | [],x3=>⟨x3,rfl⟩
 | k :: ks,x3=>by
  obtain ⟨y3,ih⟩:=zxG v ns ks (some (.int k))
  refine ⟨y3,?_⟩
  obtain ⟨c,hc⟩:=zDh ns k
  have st:=zIb v c
  have hb:zlT [some (.sh (.fz (ns.map D.int))),some (.sh (tD F R ps)),some (.sh (oO F R ps)),sI' k]=.nx [some (.sh (.fz (ns.map D.int))),some (.sh (tD F R ps)),some (.sh (oO F R ps)),sI' k]:=by
   simp [zlT,zAc,hc,st]
  rw [List.map_cons,zbj]
  have hg:gN 3 (nD k) [some (.sh (.fz (ns.map D.int))),some (.sh (tD F R ps)),some (.sh (oO F R ps)),oD' x3]=some [some (.sh (.fz (ns.map D.int))),some (.sh (tD F R ps)),some (.sh (oO F R ps)),sI' k]:=by simp
  rw [hg]
  simp only [hb]
  exact ih
end
theorem zCA (ns:List Int) (hl:ns.length≤63):zvT [.fz (ns.map D.int)]=some (.sh (.bl true)):=by
 obtain ⟨c,hc⟩:=zDh ns 0
 obtain ⟨F,R,ps,v,ho⟩:=zAL c
 have hof:=zCm v
 obtain ⟨m,hmx,hm⟩:∃ m:Nat,zFv [.int 3,.int (if (31:Int) < ns.length then 31 else (ns.length:Int))]=some (.sh (.int m))∧m≤63:=by
  by_cases q:31 < ns.length
  ·have qi:(31:Int) < ns.length:=by omega
   exact ⟨31,by rw [if_pos qi]; rfl,by omega⟩
  ·have qi:¬ (31:Int) < ns.length:=by omega
   rw [if_neg qi]
   by_cases q3:3 < ns.length
   ·refine ⟨ns.length,?_,by omega⟩
    show some (SV.sh (.int (if (ns.length:Int) > 3 then (ns.length:Int) else 3)))=_
    rw [if_pos (by omega)]
   ·refine ⟨3,?_,by omega⟩
    show some (SV.sh (.int (if (ns.length:Int) > 3 then (ns.length:Int) else 3)))=_
    rw [if_neg (by omega)]
    rfl
 have hr:=zHs 1 m (by omega) (by omega)
 obtain ⟨y3,lo⟩:=zxG v ns ((List.range (m-1)).map fun k=>1+k) none
 simp only [oD',Option.map_none] at lo
 have hc':zaW [.fz (ns.map D.int),.int 0]=some (.sh (.int c)):=hc
 have pt:(tD F R ps).plain=false:=rfl
 have t0:oIx (tD F R ps) (.int 0)=some (.lst (F.map D.str)):=rfl
 have t1:oIx (tD F R ps) (.int 1)=some (.lst (R.map D.str)):=rfl
 have t2:oIx (tD F R ps) (.int 2)=some (.lst (ps.map pD)):=rfl
 refine znf rfl ?_
 show zCi [some (.sh (.fz (ns.map D.int))),none,none,none]=_
 unfold zCi zHy
 refine za9 (S1:=[some (.sh (.fz (ns.map D.int))),some (.sh (tD F R ps)),none,none]) ?_ ?_
 ·simp [hc',ho,pt]
 refine za9 (S1:=[some (.sh (.fz (ns.map D.int))),some (.sh (tD F R ps)),some (.sh (oO F R ps)),none]) ?_ ?_
 ·simp [t0,t1,t2,hof,-oIx]
 refine za9 (zuJ (its:=((List.range (m-1)).map fun k=>1+k).map nD) ?_ lo) ?_
 ·generalize ((List.range (m-1)).map fun k=>1+k).map nD=its at hr
  rw [show ((1:Nat):Int)=1 from rfl] at hr
  simp [hmx,hr,-zFv]
 ·rfl
end My
namespace My
open PySem L2
def Fx (K:W.Frag) (x q:Str) (s:Stmt) (f:Addr):Prop:=∃ fd,Fun K x q s f fd
theorem fx_mk {K:W.Frag} {x q:Str} {st:Stmt} {f:Addr} {oc:Value} {od an:Option Addr} {osl:Array (Option Value)} {kV doc pm cdv ct:Value} (l:K.lookup f=some ⟨oc,od,.func (W.fnOf x q (zeP st) (zdl st) (zaf st) .none kV doc pm an cdv ct),osl⟩:=by k_is) (c:W.codeIn K cdv q=true:=by k_is) (k:W.keepIn K (.ref f)=true:=by k_is):Fx K x q st f:=⟨_,zCK l c k⟩
section
variable {P:Program} {w:World} {K:W.Frag} {mg:Str→Option Value} {base:Heap} {A:Adr}
theorem zFp (T:Txt K mg A):FnOk P w K mg base CX0 10 A.zvT A.zES ["_law_script"] (zuC K):=(zHK T).imp (zzU (B:=bk K A) rfl zCA)
end
theorem all_mk {l:W.OpenLaw} {w:World} {K:W.Frag} {h:Heap} {mg:Str→Option Value} {fa:Addr} (X:K.In h) (G:h.Ns mainGlobals mg) (hfa:mg "law"=some (.ref fa))
  {C_Both:Addr}
  {C_Give:Addr}
  {C_Has:Addr}
  {C_Last:Addr}
  {C_Lay:Addr}
  {C_Most:Addr}
  {C_Not:Addr}
  {C_Office:Addr}
  {C_Take:Addr}
  {C_Rule:Addr}
  {f0:Addr}
  {f1:Addr}
  {f2:Addr}
  {f3:Addr}
  {f4:Addr}
  {f5:Addr}
  {f6:Addr}
  {f7:Addr}
  {f8:Addr}
  {f9:Addr}
  {f10:Addr}
  {f11:Addr}
  {f12:Addr}
  {f13:Addr}
  {f14:Addr}
  {f15:Addr}
  {f16:Addr}
  {f17:Addr}
  {f18:Addr}
  {f19:Addr}
  {f20:Addr}
  {f21:Addr}
  {f22:Addr}
  {f23:Addr}
  {f24:Addr}
  {f25:Addr}
  {f26:Addr}
  {f27:Addr}
  {f28:Addr}
  {f29:Addr}
  {f30:Addr}
  {f31:Addr}
  {f32:Addr}
  {f33:Addr}
  {f34:Addr}
  {f35:Addr}
  {f36:Addr}
  {f37:Addr}
  {f38:Addr}
  {f39:Addr}
  {f40:Addr}
  {f41:Addr}
  {f42:Addr}
  {f43:Addr}
  {f44:Addr}
  {f45:Addr}
  {f46:Addr}
  {f47:Addr}
  {f48:Addr}
  {f49:Addr}
  {f50:Addr}
  {f51:Addr}
  {f52:Addr}
  {f53:Addr}
  {f54:Addr}
  {f55:Addr}
  {f56:Addr}
  {f57:Addr}
  {f58:Addr}
  {f59:Addr}
  {f60:Addr}
  {f61:Addr}
  {f62:Addr}
  {f63:Addr}
  {f64:Addr}
  {f65:Addr}
  {f66:Addr}
  {f67:Addr}
  {f68:Addr}
  {f69:Addr}
  {f70:Addr}
  {f71:Addr}
  {f72:Addr}
  {f73:Addr}
  {f74:Addr}
  {f75:Addr}
  {f76:Addr}
  {f77:Addr}
  {f78:Addr}
  {f79:Addr}
  {f80:Addr}
  {f81:Addr}
  {f82:Addr}
  {f83:Addr}
  {f84:Addr}
  {f85:Addr}
  {f86:Addr}
  {f87:Addr}
  {f88:Addr}
  {f89:Addr}
  {f90:Addr}
  {f91:Addr}
  {f92:Addr}
  {tk0:Tok}
  {tk1:Tok}
  {tk2:Tok}
  {tk3:Tok}
  {tk4:Tok}
  {tk5:Tok}
  (zwz:W.nsIn K mainGlobals "Both"=some (some (.ref C_Both)))
  (zwA:W.nsIn K mainGlobals "Give"=some (some (.ref C_Give)))
  (zA2:W.nsIn K mainGlobals "Has"=some (some (.ref C_Has)))
  (zwB:W.nsIn K mainGlobals "Last"=some (some (.ref C_Last)))
  (zA3:W.nsIn K mainGlobals "Lay"=some (some (.ref C_Lay)))
  (zwC:W.nsIn K mainGlobals "Most"=some (some (.ref C_Most)))
  (zA4:W.nsIn K mainGlobals "Not"=some (some (.ref C_Not)))
  (zq6:W.nsIn K mainGlobals "Office"=some (some (.ref C_Office)))
  (zwD:W.nsIn K mainGlobals "Take"=some (some (.ref C_Take)))
  (zwE:W.nsIn K mainGlobals "Rule"=some (some (.ref C_Rule)))
  (zti:W.plainGet K C_Both Str.empty=true)
  (ztj:W.hasDictIn K C_Both=true)
  (ztk:W.plainOver K C_Both=true)
  (ztl:W.findIn K (.ref C_Both) "__setattr__"=some (some (.builtin "object.__setattr__")))
  (zwF:W.makesIn K C_Both=true)
  (zwG:W.keepIn K (.ref C_Both)=true)
  (ztm:W.plainGet K C_Give Str.empty=true)
  (ztn:W.hasDictIn K C_Give=true)
  (zto:W.plainOver K C_Give=true)
  (ztp:W.findIn K (.ref C_Give) "__setattr__"=some (some (.builtin "object.__setattr__")))
  (zwH:W.makesIn K C_Give=true)
  (zwI:W.keepIn K (.ref C_Give)=true)
  (zA5:W.plainGet K C_Has Str.empty=true)
  (zA6:W.hasDictIn K C_Has=true)
  (zA7:W.plainOver K C_Has=true)
  (zA8:W.findIn K (.ref C_Has) "__setattr__"=some (some (.builtin "object.__setattr__")))
  (zA9:W.makesIn K C_Has=true)
  (zBa:W.keepIn K (.ref C_Has)=true)
  (ztq:W.plainGet K C_Last Str.empty=true)
  (ztr:W.hasDictIn K C_Last=true)
  (zts:W.plainOver K C_Last=true)
  (ztt:W.findIn K (.ref C_Last) "__setattr__"=some (some (.builtin "object.__setattr__")))
  (zwJ:W.makesIn K C_Last=true)
  (zwK:W.keepIn K (.ref C_Last)=true)
  (zxH:W.plainGet K C_Lay Str.empty=true)
  (zxI:W.hasDictIn K C_Lay=true)
  (zxJ:W.plainOver K C_Lay=true)
  (zxK:W.findIn K (.ref C_Lay) "__setattr__"=some (some (.builtin "object.__setattr__")))
  (zBb:W.makesIn K C_Lay=true)
  (zBc:W.keepIn K (.ref C_Lay)=true)
  (ztu:W.plainGet K C_Most Str.empty=true)
  (ztv:W.hasDictIn K C_Most=true)
  (ztw:W.plainOver K C_Most=true)
  (ztx:W.findIn K (.ref C_Most) "__setattr__"=some (some (.builtin "object.__setattr__")))
  (zwL:W.makesIn K C_Most=true)
  (zwM:W.keepIn K (.ref C_Most)=true)
  (zBd:W.plainGet K C_Not Str.empty=true)
  (zBe:W.hasDictIn K C_Not=true)
  (zBf:W.plainOver K C_Not=true)
  (zBg:W.findIn K (.ref C_Not) "__setattr__"=some (some (.builtin "object.__setattr__")))
  (zBh:W.makesIn K C_Not=true)
  (zBi:W.keepIn K (.ref C_Not)=true)
  (zq7:W.plainGet K C_Office Str.empty=true)
  (zq8:W.hasDictIn K C_Office=true)
  (zq9:W.plainOver K C_Office=true)
  (zra:W.findIn K (.ref C_Office) "__setattr__"=some (some (.builtin "object.__setattr__")))
  (zrb:W.makesIn K C_Office=true)
  (zrc:W.keepIn K (.ref C_Office)=true)
  (zty:W.plainGet K C_Take Str.empty=true)
  (ztz:W.hasDictIn K C_Take=true)
  (ztA:W.plainOver K C_Take=true)
  (ztB:W.findIn K (.ref C_Take) "__setattr__"=some (some (.builtin "object.__setattr__")))
  (zwN:W.makesIn K C_Take=true)
  (zwO:W.keepIn K (.ref C_Take)=true)
  (zhq:W.findIn K (.ref C_Both) "one"=some none)
  (zeB:W.findIn K (.ref C_Both) "other"=some none)
  (zfo:W.findIn K (.ref C_Give) "role"=some none)
  (ziZ:W.findIn K (.ref C_Give) "by"=some none)
  (zeC:W.findIn K (.ref C_Give) "terms"=some none)
  (zhr:W.findIn K (.ref C_Has) "role"=some none)
  (zfp:W.findIn K (.ref C_Last) "role"=some none)
  (zhs:W.findIn K (.ref C_Lay) "role"=some none)
  (zfq:W.findIn K (.ref C_Lay) "terms"=some none)
  (zfr:W.findIn K (.ref C_Most) "most"=some none)
  (zfs:W.findIn K (.ref C_Most) "role"=some none)
  (zht:W.findIn K (.ref C_Not) "role"=some none)
  (zdW:W.findIn K (.ref C_Office) "folk"=some none)
  (zdE:W.findIn K (.ref C_Office) "roles"=some none)
  (zdF:W.findIn K (.ref C_Office) "pairs"=some none)
  (zb9:W.findIn K (.ref C_Office) "right_bits"=some none)
  (zcF:W.findIn K (.ref C_Office) "bringers"=some none)
  (zft:W.findIn K (.ref C_Take) "role"=some none)
  (zi0:W.findIn K (.ref C_Take) "by"=some none)
  (zeD:W.findIn K (.ref C_Take) "terms"=some none)
  (a0:W.nsIn K mainGlobals "_law_stream"=some (some (.ref f0)))
  (F0:Fx K "_law_stream" "_law_stream" zks f0)
  (a1:W.nsIn K mainGlobals "_law_names"=some (some (.ref f1)))
  (F1:Fx K "_law_names" "_law_names" zeV f1)
  (a2:W.nsIn K mainGlobals "_law_office"=some (some (.ref f2)))
  (F2:Fx K "_law_office" "_law_office" zkt f2)
  (a3:W.nsIn K mainGlobals "is_name"=some (some (.ref f3)))
  (F3:Fx K "is_name" "is_name" zmD f3)
  (a4:W.nsIn K mainGlobals "checked_names"=some (some (.ref f4)))
  (F4:Fx K "checked_names" "checked_names" zg3 f4)
  (a5:W.nsIn K mainGlobals "is_among"=some (some (.ref f5)))
  (F5:Fx K "is_among" "is_among" znh f5)
  (a6:W.nsIn K mainGlobals "bringing_by"=some (some (.ref f6)))
  (F6:Fx K "bringing_by" "bringing_by" zjh f6)
  (a7:W.nsIn K mainGlobals "checked_pairs"=some (some (.ref f7)))
  (F7:Fx K "checked_pairs" "checked_pairs" zg4 f7)
  (a8:W.nsIn K mainGlobals "bits_of_rights"=some (some (.ref f8)))
  (F8:Fx K "bits_of_rights" "bits_of_rights" zf2 f8)
  (a9:W.nsIn K mainGlobals "bringers_of_roles"=some (some (.ref f9)))
  (F9:Fx K "bringers_of_roles" "bringers_of_roles" zc3 f9)
  (zn9:W.findIn K (.ref C_Office) "__init__"=some (some (.ref f10)))
  (i10:W.isFn K (.ref f10)=true)
  (F10:Fx K "__init__" "Office.__init__" zg5 f10)
  (a11:W.nsIn K mainGlobals "_law_cell_at"=some (some (.ref f11)))
  (F11:Fx K "_law_cell_at" "_law_cell_at" zji f11)
  (a12:W.nsIn K mainGlobals "_law_term"=some (some (.ref f12)))
  (F12:Fx K "_law_term" "_law_term" zni f12)
  (a13:W.nsIn K mainGlobals "_law_rule"=some (some (.ref f13)))
  (F13:Fx K "_law_rule" "_law_rule" zlb f13)
  (ztC:W.findIn K (.ref C_Last) "__init__"=some (some (.ref f14)))
  (i14:W.isFn K (.ref f14)=true)
  (F14:Fx K "__init__" "Last.__init__" zjj f14)
  (ztD:W.findIn K (.ref C_Give) "__init__"=some (some (.ref f15)))
  (i15:W.isFn K (.ref f15)=true)
  (F15:Fx K "__init__" "Give.__init__" zjk f15)
  (ztE:W.findIn K (.ref C_Take) "__init__"=some (some (.ref f16)))
  (i16:W.isFn K (.ref f16)=true)
  (F16:Fx K "__init__" "Take.__init__" zjl f16)
  (zwP:W.findIn K (.ref C_Lay) "__init__"=some (some (.ref f17)))
  (i17:W.isFn K (.ref f17)=true)
  (F17:Fx K "__init__" "Lay.__init__" zku f17)
  (ztF:W.findIn K (.ref C_Both) "__init__"=some (some (.ref f18)))
  (i18:W.isFn K (.ref f18)=true)
  (F18:Fx K "__init__" "Both.__init__" zjm f18)
  (ztG:W.findIn K (.ref C_Most) "__init__"=some (some (.ref f19)))
  (i19:W.isFn K (.ref f19)=true)
  (F19:Fx K "__init__" "Most.__init__" zjn f19)
  (zwQ:W.findIn K (.ref C_Has) "__init__"=some (some (.ref f20)))
  (zwR:W.findIn K (.ref C_Not) "__init__"=some (some (.ref f20)))
  (i20:W.isFn K (.ref f20)=true)
  (F20:Fx K "__init__" "Condition.__init__" zew f20)
  (a21:W.nsIn K mainGlobals "_law_condition"=some (some (.ref f21)))
  (F21:Fx K "_law_condition" "_law_condition" zg6 f21)
  (a22:W.nsIn K mainGlobals "_law_made"=some (some (.ref f22)))
  (F22:Fx K "_law_made" "_law_made" zgO f22)
  (a23:W.nsIn K mainGlobals "_law_deed"=some (some (.ref f23)))
  (F23:Fx K "_law_deed" "_law_deed" znj f23)
  (zoa:W.findIn K (.ref C_Office) "must_be_folk"=some (some (.ref f24)))
  (i24:W.isFn K (.ref f24)=true)
  (F24:Fx K "must_be_folk" "Office.must_be_folk" zdx f24)
  (zob:W.findIn K (.ref C_Office) "must_be_role"=some (some (.ref f25)))
  (i25:W.isFn K (.ref f25)=true)
  (F25:Fx K "must_be_role" "Office.must_be_role" zdy f25)
  (zoc:W.findIn K (.ref C_Office) "bit"=some (some (.ref f26)))
  (i26:W.isFn K (.ref f26)=true)
  (F26:Fx K "bit" "Office.bit" zkv f26)
  (a27:W.nsIn K mainGlobals "is_whole"=some (some (.ref f27)))
  (F27:Fx K "is_whole" "is_whole" znk f27)
  (zod:W.findIn K (.ref C_Office) "bits"=some (some (.ref f28)))
  (i28:W.isFn K (.ref f28)=true)
  (F28:Fx K "bits" "Office.bits" zjo f28)
  (zoe:W.findIn K (.ref C_Office) "is_state"=some (some (.ref f29)))
  (i29:W.isFn K (.ref f29)=true)
  (F29:Fx K "is_state" "Office.is_state" zeW f29)
  (zof:W.findIn K (.ref C_Office) "must_be_state"=some (some (.ref f30)))
  (i30:W.isFn K (.ref f30)=true)
  (F30:Fx K "must_be_state" "Office.must_be_state" zde f30)
  (zog:W.findIn K (.ref C_Office) "bringing"=some (some (.ref f31)))
  (i31:W.isFn K (.ref f31)=true)
  (F31:Fx K "bringing" "Office.bringing" zeX f31)
  (zoh:W.findIn K (.ref C_Office) "having"=some (some (.ref f32)))
  (i32:W.isFn K (.ref f32)=true)
  (F32:Fx K "having" "Office.having" zg7 f32)
  (zoi:W.findIn K (.ref C_Office) "has"=some (some (.ref f33)))
  (i33:W.isFn K (.ref f33)=true)
  (F33:Fx K "has" "Office.has" zkw f33)
  (ztH:W.findIn K (.ref C_Both) "row"=some (some (.ref f34)))
  (i34:W.isFn K (.ref f34)=true)
  (F34:Fx K "row" "Both.row" znl f34)
  (ztI:W.findIn K (.ref C_Both) "missing"=some (some (.ref f35)))
  (i35:W.isFn K (.ref f35)=true)
  (F35:Fx K "missing" "Both.missing" zij f35)
  (zwS:W.findIn K (.ref C_Has) "holds"=some (some (.ref f36)))
  (i36:W.isFn K (.ref f36)=true)
  (F36:Fx K "holds" "Has.holds" zlV f36)
  (zwT:W.findIn K (.ref C_Not) "holds"=some (some (.ref f37)))
  (i37:W.isFn K (.ref f37)=true)
  (F37:Fx K "holds" "Not.holds" zlW f37)
  (zwU:W.findIn K (.ref C_Has) "row"=some (some (.ref f38)))
  (i38:W.isFn K (.ref f38)=true)
  (F38:Fx K "row" "Has.row" zpZ f38)
  (zwV:W.findIn K (.ref C_Not) "row"=some (some (.ref f39)))
  (i39:W.isFn K (.ref f39)=true)
  (F39:Fx K "row" "Not.row" zp0 f39)
  (a40:W.nsIn K mainGlobals "first_missing"=some (some (.ref f40)))
  (F40:Fx K "first_missing" "first_missing" zg9 f40)
  (a41:W.nsIn K mainGlobals "parts_of_terms"=some (some (.ref f41)))
  (F41:Fx K "parts_of_terms" "parts_of_terms" zd9 f41)
  (ztJ:W.findIn K (.ref C_Give) "asked"=some (some (.ref f42)))
  (i42:W.isFn K (.ref f42)=true)
  (F42:Fx K "asked" "Give.asked" zkx f42)
  (ztK:W.findIn K (.ref C_Give) "missing"=some (some (.ref f43)))
  (i43:W.isFn K (.ref f43)=true)
  (F43:Fx K "missing" "Give.missing" zik f43)
  (zoj:W.findIn K (.ref C_Office) "holders"=some (some (.ref f44)))
  (i44:W.isFn K (.ref f44)=true)
  (F44:Fx K "holders" "Office.holders" zea f44)
  (ztL:W.findIn K (.ref C_Last) "row"=some (some (.ref f45)))
  (i45:W.isFn K (.ref f45)=true)
  (F45:Fx K "row" "Last.row" zno f45)
  (ztM:W.findIn K (.ref C_Last) "missing"=some (some (.ref f46)))
  (i46:W.isFn K (.ref f46)=true)
  (F46:Fx K "missing" "Last.missing" ze9 f46)
  (zwW:W.findIn K (.ref C_Lay) "asked"=some (some (.ref f47)))
  (i47:W.isFn K (.ref f47)=true)
  (F47:Fx K "asked" "Lay.asked" zlX f47)
  (zwX:W.findIn K (.ref C_Lay) "missing"=some (some (.ref f48)))
  (i48:W.isFn K (.ref f48)=true)
  (F48:Fx K "missing" "Lay.missing" zjq f48)
  (ztN:W.findIn K (.ref C_Most) "row"=some (some (.ref f49)))
  (i49:W.isFn K (.ref f49)=true)
  (F49:Fx K "row" "Most.row" znp f49)
  (ztO:W.findIn K (.ref C_Most) "missing"=some (some (.ref f50)))
  (i50:W.isFn K (.ref f50)=true)
  (F50:Fx K "missing" "Most.missing" zfa f50)
  (ztP:W.findIn K (.ref C_Take) "asked"=some (some (.ref f51)))
  (i51:W.isFn K (.ref f51)=true)
  (F51:Fx K "asked" "Take.asked" zky f51)
  (ztQ:W.findIn K (.ref C_Take) "missing"=some (some (.ref f52)))
  (i52:W.isFn K (.ref f52)=true)
  (F52:Fx K "missing" "Take.missing" zil f52)
  (a53:W.nsIn K mainGlobals "_law_bringing"=some (some (.ref f53)))
  (F53:Fx K "_law_bringing" "_law_bringing" zdV f53)
  (a54:W.nsIn K mainGlobals "_law_bit"=some (some (.ref f54)))
  (F54:Fx K "_law_bit" "_law_bit" zp3 f54)
  (a55:W.nsIn K mainGlobals "_law_holds"=some (some (.ref f55)))
  (F55:Fx K "_law_holds" "_law_holds" zlY f55)
  (a56:W.nsIn K mainGlobals "_law_has"=some (some (.ref f56)))
  (F56:Fx K "_law_has" "_law_has" zmG f56)
  (a57:W.nsIn K mainGlobals "_law_terms_missing"=some (some (.ref f57)))
  (F57:Fx K "_law_terms_missing" "_law_terms_missing" zeh f57)
  (a58:W.nsIn K mainGlobals "_law_terms_row"=some (some (.ref f58)))
  (F58:Fx K "_law_terms_row" "_law_terms_row" zey f58)
  (a59:W.nsIn K mainGlobals "_law_row"=some (some (.ref f59)))
  (F59:Fx K "_law_row" "_law_row" zmH f59)
  (a60:W.nsIn K mainGlobals "_law_missing"=some (some (.ref f60)))
  (F60:Fx K "_law_missing" "_law_missing" zgy f60)
  (ztR:W.findIn K (.ref C_Both) "names"=some (some (.ref f61)))
  (i61:W.isFn K (.ref f61)=true)
  (F61:Fx K "names" "Both.names" zkz f61)
  (a62:W.nsIn K mainGlobals "names_of_terms"=some (some (.ref f62)))
  (F62:Fx K "names_of_terms" "names_of_terms" zeb f62)
  (ztS:W.findIn K (.ref C_Give) "names"=some (some (.ref f63)))
  (i63:W.isFn K (.ref f63)=true)
  (F63:Fx K "names" "Give.names" zkA f63)
  (ztT:W.findIn K (.ref C_Last) "names"=some (some (.ref f64)))
  (i64:W.isFn K (.ref f64)=true)
  (F64:Fx K "names" "Last.names" zkB f64)
  (zwY:W.findIn K (.ref C_Lay) "names"=some (some (.ref f65)))
  (i65:W.isFn K (.ref f65)=true)
  (F65:Fx K "names" "Lay.names" zlZ f65)
  (ztU:W.findIn K (.ref C_Most) "names"=some (some (.ref f66)))
  (i66:W.isFn K (.ref f66)=true)
  (F66:Fx K "names" "Most.names" zkC f66)
  (ztV:W.findIn K (.ref C_Take) "names"=some (some (.ref f67)))
  (i67:W.isFn K (.ref f67)=true)
  (F67:Fx K "names" "Take.names" zkD f67)
  (a68:W.nsIn K mainGlobals "_law_named"=some (some (.ref f68)))
  (F68:Fx K "_law_named" "_law_named" zeY f68)
  (a69:W.nsIn K mainGlobals "_law_class"=some (some (.ref f69)))
  (F69:Fx K "_law_class" "_law_class" zl0 f69)
  (a70:W.nsIn K mainGlobals "_law_truth"=some (some (.ref f70)))
  (F70:Fx K "_law_truth" "_law_truth" zl1 f70)
  (a71:W.nsIn K mainGlobals "terms_row"=some (some (.ref f71)))
  (F71:Fx K "terms_row" "terms_row" zjr f71)
  (ztW:W.findIn K (.ref C_Give) "row"=some (some (.ref f72)))
  (i72:W.isFn K (.ref f72)=true)
  (F72:Fx K "row" "Give.row" znr f72)
  (zwZ:W.findIn K (.ref C_Lay) "row"=some (some (.ref f73)))
  (i73:W.isFn K (.ref f73)=true)
  (F73:Fx K "row" "Lay.row" zp4 f73)
  (ztX:W.findIn K (.ref C_Take) "row"=some (some (.ref f74)))
  (i74:W.isFn K (.ref f74)=true)
  (F74:Fx K "row" "Take.row" zns f74)
  (ztY:W.findIn K (.ref C_Both) "permits"=some (some (.ref f75)))
  (i75:W.isFn K (.ref f75)=true)
  (F75:Fx K "permits" "Both.permits" zim f75)
  (ztZ:W.findIn K (.ref C_Give) "permits"=some (some (.ref f76)))
  (i76:W.isFn K (.ref f76)=true)
  (F76:Fx K "permits" "Give.permits" zin f76)
  (zt0:W.findIn K (.ref C_Last) "permits"=some (some (.ref f77)))
  (i77:W.isFn K (.ref f77)=true)
  (F77:Fx K "permits" "Last.permits" zio f77)
  (zw0:W.findIn K (.ref C_Lay) "permits"=some (some (.ref f78)))
  (i78:W.isFn K (.ref f78)=true)
  (F78:Fx K "permits" "Lay.permits" zjs f78)
  (zt1:W.findIn K (.ref C_Most) "permits"=some (some (.ref f79)))
  (i79:W.isFn K (.ref f79)=true)
  (F79:Fx K "permits" "Most.permits" ziq f79)
  (zt2:W.findIn K (.ref C_Take) "permits"=some (some (.ref f80)))
  (i80:W.isFn K (.ref f80)=true)
  (F80:Fx K "permits" "Take.permits" zir f80)
  (zt3:W.findIn K (.ref C_Both) "speaks_of"=some (some (.ref f81)))
  (i81:W.isFn K (.ref f81)=true)
  (F81:Fx K "speaks_of" "Both.speaks_of" zf4 f81)
  (a82:W.nsIn K mainGlobals "is_of"=some (some (.ref f82)))
  (F82:Fx K "is_of" "is_of" zv3 f82)
  (zt4:W.findIn K (.ref C_Give) "speaks_of"=some (some (.ref f83)))
  (i83:W.isFn K (.ref f83)=true)
  (F83:Fx K "speaks_of" "Give.speaks_of" zf5 f83)
  (zt5:W.findIn K (.ref C_Last) "speaks_of"=some (some (.ref f84)))
  (i84:W.isFn K (.ref f84)=true)
  (F84:Fx K "speaks_of" "Last.speaks_of" zf6 f84)
  (zw1:W.findIn K (.ref C_Lay) "speaks_of"=some (some (.ref f85)))
  (i85:W.isFn K (.ref f85)=true)
  (F85:Fx K "speaks_of" "Lay.speaks_of" zhc f85)
  (zt6:W.findIn K (.ref C_Most) "speaks_of"=some (some (.ref f86)))
  (i86:W.isFn K (.ref f86)=true)
  (F86:Fx K "speaks_of" "Most.speaks_of" zf7 f86)
  (zt7:W.findIn K (.ref C_Take) "speaks_of"=some (some (.ref f87)))
  (i87:W.isFn K (.ref f87)=true)
  (F87:Fx K "speaks_of" "Take.speaks_of" zf8 f87)
  (a88:W.nsIn K mainGlobals "_law_speaks"=some (some (.ref f88)))
  (F88:Fx K "_law_speaks" "_law_speaks" zkE f88)
  (a89:W.nsIn K mainGlobals "_law_told_right"=some (some (.ref f89)))
  (F89:Fx K "_law_told_right" "_law_told_right" zec f89)
  (a90:W.nsIn K mainGlobals "_law_fields"=some (some (.ref f90)))
  (F90:Fx K "_law_fields" "_law_fields" zfl f90)
  (a91:W.nsIn K mainGlobals "_law_step"=some (some (.ref f91)))
  (F91:Fx K "_law_step" "_law_step" zlc f91)
  (a92:W.nsIn K mainGlobals "law"=some (some (.ref f92)))
  (F92:Fx K "law" "law" zCk f92)
  (hn:W.specialIn K (.builtin "object.__class__") "__get__"=some (some (.builtin "getset_descriptor.__get__")))
  (htk:W.takesIn K (.builtin "object.__class__")=some true)
  (zw2:W.findIn K (.ref C_Both) "__class__"=some (some (.builtin "object.__class__")))
  (zw3:W.mroIn K C_Both (.type "object")=some true)
  (zfu:W.kitOne K (.ref C_Both) (.ref C_Both)=some true)
  (zfv:W.kitOne K (.ref C_Both) (.ref C_Give)=some false)
  (zhu:W.kitOne K (.ref C_Both) (.ref C_Has)=some false)
  (zfw:W.kitOne K (.ref C_Both) (.ref C_Last)=some false)
  (zhv:W.kitOne K (.ref C_Both) (.ref C_Lay)=some false)
  (zfx:W.kitOne K (.ref C_Both) (.ref C_Most)=some false)
  (zhw:W.kitOne K (.ref C_Both) (.ref C_Not)=some false)
  (zdX:W.kitOne K (.ref C_Both) (.ref C_Office)=some false)
  (zfy:W.kitOne K (.ref C_Both) (.ref C_Take)=some false)
  (zfz:W.kitOne K (.ref C_Both) (.ref C_Rule)=some true)
  (zw4:W.findIn K (.ref C_Give) "__class__"=some (some (.builtin "object.__class__")))
  (zw5:W.mroIn K C_Give (.type "object")=some true)
  (zfA:W.kitOne K (.ref C_Give) (.ref C_Both)=some false)
  (zfB:W.kitOne K (.ref C_Give) (.ref C_Give)=some true)
  (zhx:W.kitOne K (.ref C_Give) (.ref C_Has)=some false)
  (zfC:W.kitOne K (.ref C_Give) (.ref C_Last)=some false)
  (zhy:W.kitOne K (.ref C_Give) (.ref C_Lay)=some false)
  (zfD:W.kitOne K (.ref C_Give) (.ref C_Most)=some false)
  (zhz:W.kitOne K (.ref C_Give) (.ref C_Not)=some false)
  (zdY:W.kitOne K (.ref C_Give) (.ref C_Office)=some false)
  (zfE:W.kitOne K (.ref C_Give) (.ref C_Take)=some false)
  (zfF:W.kitOne K (.ref C_Give) (.ref C_Rule)=some true)
  (zw6:W.findIn K (.ref C_Last) "__class__"=some (some (.builtin "object.__class__")))
  (zw7:W.mroIn K C_Last (.type "object")=some true)
  (zfG:W.kitOne K (.ref C_Last) (.ref C_Both)=some false)
  (zfH:W.kitOne K (.ref C_Last) (.ref C_Give)=some false)
  (zhA:W.kitOne K (.ref C_Last) (.ref C_Has)=some false)
  (zfI:W.kitOne K (.ref C_Last) (.ref C_Last)=some true)
  (zhB:W.kitOne K (.ref C_Last) (.ref C_Lay)=some false)
  (zfJ:W.kitOne K (.ref C_Last) (.ref C_Most)=some false)
  (zhC:W.kitOne K (.ref C_Last) (.ref C_Not)=some false)
  (zdZ:W.kitOne K (.ref C_Last) (.ref C_Office)=some false)
  (zfK:W.kitOne K (.ref C_Last) (.ref C_Take)=some false)
  (zfL:W.kitOne K (.ref C_Last) (.ref C_Rule)=some true)
  (zBj:W.findIn K (.ref C_Lay) "__class__"=some (some (.builtin "object.__class__")))
  (zBk:W.mroIn K C_Lay (.type "object")=some true)
  (zhD:W.kitOne K (.ref C_Lay) (.ref C_Both)=some false)
  (zhE:W.kitOne K (.ref C_Lay) (.ref C_Give)=some false)
  (zi2:W.kitOne K (.ref C_Lay) (.ref C_Has)=some false)
  (zhF:W.kitOne K (.ref C_Lay) (.ref C_Last)=some false)
  (zi3:W.kitOne K (.ref C_Lay) (.ref C_Lay)=some true)
  (zhG:W.kitOne K (.ref C_Lay) (.ref C_Most)=some false)
  (zi4:W.kitOne K (.ref C_Lay) (.ref C_Not)=some false)
  (zeF:W.kitOne K (.ref C_Lay) (.ref C_Office)=some false)
  (zhH:W.kitOne K (.ref C_Lay) (.ref C_Take)=some false)
  (zhI:W.kitOne K (.ref C_Lay) (.ref C_Rule)=some true)
  (zw8:W.findIn K (.ref C_Most) "__class__"=some (some (.builtin "object.__class__")))
  (zw9:W.mroIn K C_Most (.type "object")=some true)
  (zfM:W.kitOne K (.ref C_Most) (.ref C_Both)=some false)
  (zfN:W.kitOne K (.ref C_Most) (.ref C_Give)=some false)
  (zhJ:W.kitOne K (.ref C_Most) (.ref C_Has)=some false)
  (zfO:W.kitOne K (.ref C_Most) (.ref C_Last)=some false)
  (zhK:W.kitOne K (.ref C_Most) (.ref C_Lay)=some false)
  (zfP:W.kitOne K (.ref C_Most) (.ref C_Most)=some true)
  (zhL:W.kitOne K (.ref C_Most) (.ref C_Not)=some false)
  (zd0:W.kitOne K (.ref C_Most) (.ref C_Office)=some false)
  (zfQ:W.kitOne K (.ref C_Most) (.ref C_Take)=some false)
  (zfR:W.kitOne K (.ref C_Most) (.ref C_Rule)=some true)
  (zxa:W.findIn K (.ref C_Take) "__class__"=some (some (.builtin "object.__class__")))
  (zxb:W.mroIn K C_Take (.type "object")=some true)
  (zfS:W.kitOne K (.ref C_Take) (.ref C_Both)=some false)
  (zfT:W.kitOne K (.ref C_Take) (.ref C_Give)=some false)
  (zhM:W.kitOne K (.ref C_Take) (.ref C_Has)=some false)
  (zfU:W.kitOne K (.ref C_Take) (.ref C_Last)=some false)
  (zhN:W.kitOne K (.ref C_Take) (.ref C_Lay)=some false)
  (zfV:W.kitOne K (.ref C_Take) (.ref C_Most)=some false)
  (zhO:W.kitOne K (.ref C_Take) (.ref C_Not)=some false)
  (zd1:W.kitOne K (.ref C_Take) (.ref C_Office)=some false)
  (zfW:W.kitOne K (.ref C_Take) (.ref C_Take)=some true)
  (zfX:W.kitOne K (.ref C_Take) (.ref C_Rule)=some true)
  (zAk:W.nsIn K mainGlobals "all"=some none)
  (zsb:W.nsIn K mainGlobals "bool"=some none)
  (zv7:W.nsIn K mainGlobals "int"=some none)
  (zaL:W.nsIn K mainGlobals "isinstance"=some none)
  (zeo:W.nsIn K mainGlobals "len"=some none)
  (zlN:W.nsIn K mainGlobals "list"=some none)
  (zAl:W.nsIn K mainGlobals "max"=some none)
  (zAm:W.nsIn K mainGlobals "min"=some none)
  (ze1:W.nsIn K mainGlobals "range"=some none)
  (zsX:W.nsIn K mainGlobals "str"=some none)
  (ze2:W.nsIn K mainGlobals "tuple"=some none)
  (zrd:W.nsIn K mainGlobals "LETTERS"=some (some (.str "abcdefghijklmnopqrstuvwxyz" tk0)))
  (ziM:W.nsIn K mainGlobals "LONGEST_NAME"=some (some (.int 6 tk1)))
  (zmf:W.nsIn K mainGlobals "MOST_BITS"=some (some (.int 12 tk2)))
  (zmg:W.nsIn K mainGlobals "MOST_FOLK"=some (some (.int 4 tk3)))
  (zk6:W.nsIn K mainGlobals "MOST_PAIRS"=some (some (.int 15 tk4)))
  (zk7:W.nsIn K mainGlobals "MOST_ROLES"=some (some (.int 6 tk5))) :
  ∃ fd:FuncData,(∀ (s:Shared) (v:Value),BindsTo s fd ⟨[v],[]⟩ [("_law_script",v)])∧∀ base:Heap,K.In base→base.Ns mainGlobals mg→FnOk l.prog w K mg base CX0 10 fa fd ["_law_script"] (zuC K):=by
 have e:=hfa.symm.trans (W.mg_of X G a92)
 have e2:f92=fa:=by
  injection e with e
  injection e with e
  exact e.symm
 subst e2
 obtain ⟨d0,F0⟩:=F0
 obtain ⟨d1,F1⟩:=F1
 obtain ⟨d2,F2⟩:=F2
 obtain ⟨d3,F3⟩:=F3
 obtain ⟨d4,F4⟩:=F4
 obtain ⟨d5,F5⟩:=F5
 obtain ⟨d6,F6⟩:=F6
 obtain ⟨d7,F7⟩:=F7
 obtain ⟨d8,F8⟩:=F8
 obtain ⟨d9,F9⟩:=F9
 obtain ⟨d10,F10⟩:=F10
 obtain ⟨d11,F11⟩:=F11
 obtain ⟨d12,F12⟩:=F12
 obtain ⟨d13,F13⟩:=F13
 obtain ⟨d14,F14⟩:=F14
 obtain ⟨d15,F15⟩:=F15
 obtain ⟨d16,F16⟩:=F16
 obtain ⟨d17,F17⟩:=F17
 obtain ⟨d18,F18⟩:=F18
 obtain ⟨d19,F19⟩:=F19
 obtain ⟨d20,F20⟩:=F20
 obtain ⟨d21,F21⟩:=F21
 obtain ⟨d22,F22⟩:=F22
 obtain ⟨d23,F23⟩:=F23
 obtain ⟨d24,F24⟩:=F24
 obtain ⟨d25,F25⟩:=F25
 obtain ⟨d26,F26⟩:=F26
 obtain ⟨d27,F27⟩:=F27
 obtain ⟨d28,F28⟩:=F28
 obtain ⟨d29,F29⟩:=F29
 obtain ⟨d30,F30⟩:=F30
 obtain ⟨d31,F31⟩:=F31
 obtain ⟨d32,F32⟩:=F32
 obtain ⟨d33,F33⟩:=F33
 obtain ⟨d34,F34⟩:=F34
 obtain ⟨d35,F35⟩:=F35
 obtain ⟨d36,F36⟩:=F36
 obtain ⟨d37,F37⟩:=F37
 obtain ⟨d38,F38⟩:=F38
 obtain ⟨d39,F39⟩:=F39
 obtain ⟨d40,F40⟩:=F40
 obtain ⟨d41,F41⟩:=F41
 obtain ⟨d42,F42⟩:=F42
 obtain ⟨d43,F43⟩:=F43
 obtain ⟨d44,F44⟩:=F44
 obtain ⟨d45,F45⟩:=F45
 obtain ⟨d46,F46⟩:=F46
 obtain ⟨d47,F47⟩:=F47
 obtain ⟨d48,F48⟩:=F48
 obtain ⟨d49,F49⟩:=F49
 obtain ⟨d50,F50⟩:=F50
 obtain ⟨d51,F51⟩:=F51
 obtain ⟨d52,F52⟩:=F52
 obtain ⟨d53,F53⟩:=F53
 obtain ⟨d54,F54⟩:=F54
 obtain ⟨d55,F55⟩:=F55
 obtain ⟨d56,F56⟩:=F56
 obtain ⟨d57,F57⟩:=F57
 obtain ⟨d58,F58⟩:=F58
 obtain ⟨d59,F59⟩:=F59
 obtain ⟨d60,F60⟩:=F60
 obtain ⟨d61,F61⟩:=F61
 obtain ⟨d62,F62⟩:=F62
 obtain ⟨d63,F63⟩:=F63
 obtain ⟨d64,F64⟩:=F64
 obtain ⟨d65,F65⟩:=F65
 obtain ⟨d66,F66⟩:=F66
 obtain ⟨d67,F67⟩:=F67
 obtain ⟨d68,F68⟩:=F68
 obtain ⟨d69,F69⟩:=F69
 obtain ⟨d70,F70⟩:=F70
 obtain ⟨d71,F71⟩:=F71
 obtain ⟨d72,F72⟩:=F72
 obtain ⟨d73,F73⟩:=F73
 obtain ⟨d74,F74⟩:=F74
 obtain ⟨d75,F75⟩:=F75
 obtain ⟨d76,F76⟩:=F76
 obtain ⟨d77,F77⟩:=F77
 obtain ⟨d78,F78⟩:=F78
 obtain ⟨d79,F79⟩:=F79
 obtain ⟨d80,F80⟩:=F80
 obtain ⟨d81,F81⟩:=F81
 obtain ⟨d82,F82⟩:=F82
 obtain ⟨d83,F83⟩:=F83
 obtain ⟨d84,F84⟩:=F84
 obtain ⟨d85,F85⟩:=F85
 obtain ⟨d86,F86⟩:=F86
 obtain ⟨d87,F87⟩:=F87
 obtain ⟨d88,F88⟩:=F88
 obtain ⟨d89,F89⟩:=F89
 obtain ⟨d90,F90⟩:=F90
 obtain ⟨d91,F91⟩:=F91
 obtain ⟨d92,⟨⟨oc,od,kV,doc,pm,an,cdv,ct,osl,rfl,l,c⟩,k⟩⟩:=F92
 have F92:=zCK (st:=zCk) l c k
 have T:Txt K mg ⟨C_Both,C_Give,C_Has,C_Last,C_Lay,C_Most,C_Not,C_Office,C_Take,C_Rule,f0,d0,f1,d1,f2,d2,f3,d3,f4,d4,f5,d5,f6,d6,f7,d7,f8,d8,f9,d9,f10,d10,f11,d11,f12,d12,f13,d13,f14,d14,f15,d15,f16,d16,f17,d17,f18,d18,f19,d19,f20,d20,f21,d21,f22,d22,f23,d23,f24,d24,f25,d25,f26,d26,f27,d27,f28,d28,f29,d29,f30,d30,f31,d31,f32,d32,f33,d33,f34,d34,f35,d35,f36,d36,f37,d37,f38,d38,f39,d39,f40,d40,f41,d41,f42,d42,f43,d43,f44,d44,f45,d45,f46,d46,f47,d47,f48,d48,f49,d49,f50,d50,f51,d51,f52,d52,f53,d53,f54,d54,f55,d55,f56,d56,f57,d57,f58,d58,f59,d59,f60,d60,f61,d61,f62,d62,f63,d63,f64,d64,f65,d65,f66,d66,f67,d67,f68,d68,f69,d69,f70,d70,f71,d71,f72,d72,f73,d73,f74,d74,f75,d75,f76,d76,f77,d77,f78,d78,f79,d79,f80,d80,f81,d81,f82,d82,f83,d83,f84,d84,f85,d85,f86,d86,f87,d87,f88,d88,f89,d89,f90,d90,f91,d91,f92,_⟩:=⟨F0,W.mg_of X G a0,F1,W.mg_of X G a1,F2,W.mg_of X G a2,F3,W.mg_of X G a3,F4,W.mg_of X G a4,F5,W.mg_of X G a5,F6,W.mg_of X G a6,F7,W.mg_of X G a7,F8,W.mg_of X G a8,F9,W.mg_of X G a9,F10,F11,W.mg_of X G a11,F12,W.mg_of X G a12,F13,W.mg_of X G a13,F14,F15,F16,F17,F18,F19,F20,F21,W.mg_of X G a21,F22,W.mg_of X G a22,F23,W.mg_of X G a23,F24,F25,F26,F27,W.mg_of X G a27,F28,F29,F30,F31,F32,F33,F34,F35,F36,F37,F38,F39,F40,W.mg_of X G a40,F41,W.mg_of X G a41,F42,F43,F44,F45,F46,F47,F48,F49,F50,F51,F52,F53,W.mg_of X G a53,F54,W.mg_of X G a54,F55,W.mg_of X G a55,F56,W.mg_of X G a56,F57,W.mg_of X G a57,F58,W.mg_of X G a58,F59,W.mg_of X G a59,F60,W.mg_of X G a60,F61,F62,W.mg_of X G a62,F63,F64,F65,F66,F67,F68,W.mg_of X G a68,F69,W.mg_of X G a69,F70,W.mg_of X G a70,F71,W.mg_of X G a71,F72,F73,F74,F75,F76,F77,F78,F79,F80,F81,F82,W.mg_of X G a82,F83,F84,F85,F86,F87,F88,W.mg_of X G a88,F89,W.mg_of X G a89,F90,W.mg_of X G a90,F91,W.mg_of X G a91,F92,W.mg_of X G a92,W.mg_of X G zwz,W.mg_of X G zwA,W.mg_of X G zA2,W.mg_of X G zwB,W.mg_of X G zA3,W.mg_of X G zwC,W.mg_of X G zA4,W.mg_of X G zq6,W.mg_of X G zwD,W.mg_of X G zwE,⟨zti,ztj,ztk,ztl⟩,⟨zwF,ztF,i18,zwG⟩,⟨ztm,ztn,zto,ztp⟩,⟨zwH,ztD,i15,zwI⟩,⟨zA5,zA6,zA7,zA8⟩,⟨zA9,zwQ,i20,zBa⟩,⟨ztq,ztr,zts,ztt⟩,⟨zwJ,ztC,i14,zwK⟩,⟨zxH,zxI,zxJ,zxK⟩,⟨zBb,zwP,i17,zBc⟩,⟨ztu,ztv,ztw,ztx⟩,⟨zwL,ztG,i19,zwM⟩,⟨zBd,zBe,zBf,zBg⟩,⟨zBh,zwR,i20,zBi⟩,⟨zq7,zq8,zq9,zra⟩,⟨zrb,zn9,i10,zrc⟩,⟨zty,ztz,ztA,ztB⟩,⟨zwN,ztE,i16,zwO⟩,zhq,zeB,zfo,ziZ,zeC,zhr,zfp,zhs,zfq,zfr,zfs,zht,zdW,zdE,zdF,zb9,zcF,zft,zi0,zeD,⟨ztI,i35,F35.kp⟩,⟨ztR,i61,F61.kp⟩,⟨ztY,i75,F75.kp⟩,⟨ztH,i34,F34.kp⟩,⟨zt3,i81,F81.kp⟩,⟨ztJ,i42,F42.kp⟩,⟨ztK,i43,F43.kp⟩,⟨ztS,i63,F63.kp⟩,⟨ztZ,i76,F76.kp⟩,⟨ztW,i72,F72.kp⟩,⟨zt4,i83,F83.kp⟩,⟨zwS,i36,F36.kp⟩,⟨zwU,i38,F38.kp⟩,⟨ztM,i46,F46.kp⟩,⟨ztT,i64,F64.kp⟩,⟨zt0,i77,F77.kp⟩,⟨ztL,i45,F45.kp⟩,⟨zt5,i84,F84.kp⟩,⟨zwW,i47,F47.kp⟩,⟨zwX,i48,F48.kp⟩,⟨zwY,i65,F65.kp⟩,⟨zw0,i78,F78.kp⟩,⟨zwZ,i73,F73.kp⟩,⟨zw1,i85,F85.kp⟩,⟨ztO,i50,F50.kp⟩,⟨ztU,i66,F66.kp⟩,⟨zt1,i79,F79.kp⟩,⟨ztN,i49,F49.kp⟩,⟨zt6,i86,F86.kp⟩,⟨zwT,i37,F37.kp⟩,⟨zwV,i39,F39.kp⟩,⟨zoc,i26,F26.kp⟩,⟨zod,i28,F28.kp⟩,⟨zog,i31,F31.kp⟩,⟨zoi,i33,F33.kp⟩,⟨zoh,i32,F32.kp⟩,⟨zoj,i44,F44.kp⟩,⟨zoe,i29,F29.kp⟩,⟨zoa,i24,F24.kp⟩,⟨zob,i25,F25.kp⟩,⟨zof,i30,F30.kp⟩,⟨ztP,i51,F51.kp⟩,⟨ztQ,i52,F52.kp⟩,⟨ztV,i67,F67.kp⟩,⟨zt2,i80,F80.kp⟩,⟨ztX,i74,F74.kp⟩,⟨zt7,i87,F87.kp⟩,⟨⟨zti,ztj,ztk,ztl⟩,zw2,hn,htk,zw3⟩,⟨⟨ztm,ztn,zto,ztp⟩,zw4,hn,htk,zw5⟩,⟨⟨ztq,ztr,zts,ztt⟩,zw6,hn,htk,zw7⟩,⟨⟨zxH,zxI,zxJ,zxK⟩,zBj,hn,htk,zBk⟩,⟨⟨ztu,ztv,ztw,ztx⟩,zw8,hn,htk,zw9⟩,⟨⟨zty,ztz,ztA,ztB⟩,zxa,hn,htk,zxb⟩,zfu,zfv,zhu,zfw,zhv,zfx,zhw,zdX,zfy,zfz,zfA,zfB,zhx,zfC,zhy,zfD,zhz,zdY,zfE,zfF,zfG,zfH,zhA,zfI,zhB,zfJ,zhC,zdZ,zfK,zfL,zhD,zhE,zi2,zhF,zi3,zhG,zi4,zeF,zhH,zhI,zfM,zfN,zhJ,zfO,zhK,zfP,zhL,zd0,zfQ,zfR,zfS,zfT,zhM,zfU,zhN,zfV,zhO,zd1,zfW,zfX,W.mg_none_of X G zAk,W.mg_none_of X G zsb,W.mg_none_of X G zv7,W.mg_none_of X G zaL,W.mg_none_of X G zeo,W.mg_none_of X G zlN,W.mg_none_of X G zAl,W.mg_none_of X G zAm,W.mg_none_of X G ze1,W.mg_none_of X G zsX,W.mg_none_of X G ze2,⟨_,W.mg_of X G zrd,_,rfl⟩,⟨_,W.mg_of X G ziM,_,rfl⟩,⟨_,W.mg_of X G zmf,_,rfl⟩,⟨_,W.mg_of X G zmg,_,rfl⟩,⟨_,W.mg_of X G zk6,_,rfl⟩,⟨_,W.mg_of X G zk7,_,rfl⟩⟩
 exact ⟨_,fun s v=>.of_eq rfl,fun base _ _=>zFp T⟩
theorem walk {l : W.OpenLaw} {q : Program} {loose : List Str} {XP : (Str → Option Value) → Heap → Prop} {YP : World → Heap → Prop} {d : DefRec} {K : Params → W.Frag} (hn : l.most = some 63) (hdf : d.params.defaults = [])
    (hY : ∀ (w : World) (h : Heap), YP w h → (K w.params).In h)
    (F : ∀ (w : World) (mg : Str → Option Value) (fa : Addr) (h : Heap), (K w.params).In h → h.Ns mainGlobals mg → mg d.name = some (.ref fa) →
      ∃ fd : FuncData, (∀ (s : Shared) (u : Value), BindsTo s fd ⟨[u], []⟩ [("_law_script", u)]) ∧ ∀ base : Heap, (K w.params).In base → base.Ns mainGlobals mg → FnOk l.prog w (K w.params) mg base CX0 10 fa fd ["_law_script"] (zuC (K w.params))) :
    W.WalkO q loose XP YP l.row.toRowW d [] (fun f vs => PySem.call f vs) :=
  L2.walk_of (n := 63) (k := 10) (x := "_law_script") (CX := fun _ => CX0) (sp := fun w => zuC (K w.params)) hn (by decide) hdf ⟨rfl, by decide, by decide⟩ hY F (fun _ _ a ns hl hO hS => ⟨a, ns, rfl, hS, hO, hl, fun _ => rfl⟩) fun _ _ _ _ _ z => z
end My
namespace PySem.W.Fast
def tw12988857992093957816:=()
def tw14774924662790183190:=()
def tw4459086671618872116:=()
def tw2453993325751171268:=()
def tw5222895655316711554:=()
def tw16852164751609799193:=()
def tw9223801187105363277:=()
def tw14577773537197363909:=()
def tw11028640040795011108:=()
def tw8701436206884845216:=()
def tw55733650641075628:=()
def tw17415140471375887357:=()
def tw4220409862250016450:=()
def tw4942375280859864444:=()
def tw3112336027292317270:=()
def tw14504022870049124546:=()
def tw7028320775707376144:=()
def tw3383161901711913310:=()
def tw11784684226192560592:=()
def tw13780651497406981835:=()
def tw52723376614168726:=()
def tw14142278769742434342:=()
def tw108297116994650032:=()
def tw5141188797599104368:=()
def tw6226429304039852784:=()
def tw2237113930164227476:=()
def tw14066381461131675829:=()
def tw12048904031212071678:=()
def tw14189480779502964949:=()
def tw8614232925034898430:=()
def tw9700526206144373547:=()
def tw17232517922373038976:=()
def tw3655067073654408798:=()
def tw6548103064432866062:=()
def tw3720947794991917606:=()
def tw3900931459821146791:=()
def tw11536116827387210126:=()
def tw1322868842029153204:=()
def tw10443782150193186436:=()
def tw9206363626866641708:=()
def tw17277610093794993806:=()
def tw11390070838279157601:=()
def tw15729009618701564748:=()
def tw7346802833728197539:=()
def tw1086625141245020797:=()
def tw10657313192886171363:=()
def tw11744056859337457325:=()
def tw12803070543327651373:=()
def tw15712763888616696898:=()
def tw2052808376391866793:=()
def tw16354214415957889169:=()
def tw6849527416863174696:=()
def tw3868176432916197693:=()
def tw16495066700722662995:=()
def tw4379842223876584240:=()
def tw12019547993191224628:=()
def tw6162181767411490985:=()
def tw9030196750287038856:=()
def tw7948096542105957688:=()
def tw9347650324589880608:=()
def tw12446903222932961135:=()
def tw14600814591272139483:=()
def tw15343057390292900235:=()
def tw16293836373611465273:=()
def tw979040024096665861:=()
def tw6789110059079779418:=()
def tw16656261706087330076:=()
def tw1876206435792882441:=()
def tw17090352666252041906:=()
def tw10626733979135604494:=()
def tw13533708919108049831:=()
def tw8649904801463228339:=()
def tw3238713219509679280:=()
def tw9171289666154971159:=()
def tw1975887849016835217:=()
def tw1783141052085685135:=()
def tw17467596706623934123:=()
def tw7471806424937448644:=()
def tw1358136670259836057:=()
def tw13700710435559088753:=()
def tw14622126547494595033:=()
def tw7574644644960991011:=()
def tw8003787204049798950:=()
def tw7542707721372921121:=()
def tw15917956357002726711:=()
def tw11659885602595591568:=()
def tw9810306357477976428:=()
def tw15125710802975355066:=()
def tw17268756370611586932:=()
def tw18247413362496548667:=()
def tw132452098198279459:=()
def tw9638948438174861475:=()
def tw17341665406330377296:=()
def tw7413581456413697720:=()
def tw650125582140619249:=()
def tw5562246850395768799:=()
def tw10391908780269271950:=()
def tw15664775886183275919:=()
def tw16181256780200690321:=()
def tw3179793808103752234:=()
def tw18363871091294776234:=()
def tw7721045036538677058:=()
def tw8273874490671462490:=()
def tw15097748179835930213:=()
def tw4416745892320927911:=()
def tw12637418090667080680:=()
def tw18259333533281724735:=()
def tw18434887375251302970:=()
def tw5269999988991830098:=()
def tw15362652144028437021:=()
def tw8601969168531933720:=()
def tw15894442252795918937:=()
def tw12786720456454611995:=()
def tw6029971510755969978:=()
def tw2604230555208497218:=()
def tw3827801629764107350:=()
def tw2157080682887700125:=()
def tw12275202692828998825:=()
def tw5226593133289065633:=()
def tw14972386230146643117:=()
def tw10247974853618411655:=()
def tw7093122554181332447:=()
def tw8164573825280372370:=()
def tw9619012580681099607:=()
def tw2832372345345260859:=()
def tw10036352658107223707:=()
def tw2502134332639010739:=()
def tw16404363920897883487:=()
def tw11223361986918344176:=()
def tw11062283286720538542:=()
def tw10426838368859234817:=()
def tw15783405020700747978:=()
def tw10136820687603007267:=()
def tw2880125270026813775:=()
def tw2431700172029723598:=()
def tw17938028804985975133:=()
def tw16568189604667498597:=()
def tw7797362625006196254:=()
def tw945078524787743886:=()
def tw16683931046190655790:=()
def tw5185054791292292973:=()
def tw9763890096928369702:=()
def tw957316580952478795:=()
def tw1915008498202862395:=()
def tw18373136552299419676:=()
def tw6351023688899277813:=()
def tw10722710756353357945:=()
def tw5889917536659566808:=()
def tw12697136649441550300:=()
def tw14298665041429013251:=()
def tw15692079618727880413:=()
def tw14693078604015811594:=()
def tw5385521225078717167:=()
def tw7407298286938127734:=()
def tw1371873899817716806:=()
def tw9778797830325499425:=()
def tw10108008179604860642:=()
def tw17505777027295243877:=()
def tw16913466999414874832:=()
def tw12772555246084849434:=()
def tw16995361738411387170:=()
def tw13401396774719311907:=()
def tw6592684776083909319:=()
def tw10636929089886303086:=()
def tw5297346038253875466:=()
def tw2431925052767304751:=()
def tw13942847597754288104:=()
def tw3259038415541222924:=()
def tw11469791830744923356:=()
def tw17752440022205931228:=()
def tw17982310091831075983:=()
def tw11137970937592694458:=()
def tw10397694480314112147:=()
def tw16387041739386300999:=()
def tw2455154686874808182:=()
def tw13337873584201653904:=()
def tw1230949925866342997:=()
def tw10043359444660228153:=()
def tw2390741296904307953:=()
def tw4264407085523407880:=()
def tw17886261664592274917:=()
def tw9264401233214656844:=()
def tw11215907861229339699:=()
def tw4803223688545889865:=()
def tw1617076021551617580:=()
def tw17926518080898582816:=()
def tw13145611355262547137:=()
def tw7201916964123028204:=()
def tw14375624460950661371:=()
def tw12620776780331325303:=()
def tw3263008221043867792:=()
def tw1825201573647549591:=()
def tw912403653897830746:=()
def tw15279173741367998110:=()
def tw4352552682440551172:=()
def tw8180408310089834354:=()
def tw10897869298089095035:=()
def tw12428069611866441374:=()
def tw11830045481967611984:=()
def tw12914566529128570697:=()
def tw15008651337693177328:=()
def tw3540327589835297342:=()
def tw1242071088583533825:=()
def tw14765885391062253955:=()
def tw6964745215060256598:=()
def tw4711341940951319221:=()
def tw17536736845146068443:=()
def tw1899167399757562383:=()
def tw2970102584481309559:=()
def tw5090631177012041476:=()
def tw2817437667150378924:=()
def tw1788495036919726697:=()
def tw10032338168660450187:=()
def tw15499480139906885856:=()
def tw5989154020628278242:=()
def tw17534021855935392407:=()
def tw15717372286126262376:=()
def tw16375764698359839108:=()
def tw15645071904228267714:=()
def tw15436839163779354611:=()
def tw2614921254714786096:=()
def tw10230427336556639240:=()
def tw6890746276650752533:=()
def tw6014999427889031279:=()
def tw5349794748771535365:=()
def tw15195070034294063720:=()
def tw14998625868015698363:=()
def tw4038072025760233901:=()
def tw11404313757475624869:=()
def tw2924516608961232774:=()
def tw17548285557130222422:=()
def tw6370548732878159227:=()
def tw7721466967554121830:=()
def tw328533433026924154:=()
def tw6210503688681118889:=()
def tw13439303156625777090:=()
def tw9179411362600553868:=()
def tw18106321386728636921:=()
def tw2703085639921915131:=()
def tw478689977396355078:=()
def tw17423346900713801828:=()
def tw7830987709304855628:=()
def tw11103353442447859789:=()
def tw3445691995668916138:=()
def tw1004787302431582957:=()
def tw10021646821744480728:=()
def tw16152041153160902401:=()
def tw8579504474203873045:=()
def tw7210257822345033469:=()
def tw3925056063749562427:=()
def tw5237161860095010259:=()
def tw319421553078011532:=()
def tw16148908026060053758:=()
def tw16154452964700127147:=()
def tw5041272771237066959:=()
def tw18424065590597665814:=()
def tw16542400194804429919:=()
def tw8884889331599388255:=()
def tw6474875921168599703:=()
def tw15868381303295301612:=()
def tw9784247065456794943:=()
def tw12599850964235196582:=()
def tw4674787574236096337:=()
def tw18442071880542083291:=()
def tw15771980004807467261:=()
def tw6876389805816573577:=()
def tw14692235738129735080:=()
def tw4426531463138815087:=()
def tw9324990263518281722:=()
def tw4708500931306151435:=()
def tw580218981374312743:=()
def tw8518512792250688423:=()
def tw6604913680238877334:=()
def tw9813478409375938242:=()
def tw4931131690860404238:=()
def tw11737811521674952619:=()
def tw17031494196456141231:=()
def tw4157245656023241427:=()
def tw5290579448172777348:=()
def tw4595590405726319634:=()
def tw8490426349395438454:=()
def tw2328128183495841180:=()
def tw927496079769430251:=()
def tw12946784847808526032:=()
def tw7934703266057969905:=()
def tw8220802612905908549:=()
def tw6794493284286818044:=()
def tw2575084937579041282:=()
def tw16970791786937797639:=()
def tw9288487159350457808:=()
def tw4638928962921023519:=()
end PySem.W.Fast
open PySem PySem.W PyProof.Rows
set_option maxRecDepth 100000 in
set_option maxHeartbeats 0 in
theorem PySem.Challenge.cw_mightever_k13_what_rules_miss_holds : PySem.Challenge.rw_mightever_k13_what_rules_miss.Holds := by
 w_on; o_law; k_head; (case hw=>w_witness2)
 k_fill
 refine My.walk (l:=PySem.Challenge.rw_mightever_k13_what_rules_miss) rfl rfl (fun w h Y=>W.kIn_of Y) ?F
 case F=>
  intro w mg fa h KX G hmg
  refine' My.all_mk KX G hmg ?zwz ?zwA ?zA2 ?zwB ?zA3 ?zwC ?zA4 ?zq6 ?zwD ?zwE ?zti ?ztj ?ztk ?ztl ?zwF ?zwG ?ztm ?ztn ?zto ?ztp ?zwH ?zwI ?zA5 ?zA6 ?zA7 ?zA8 ?zA9 ?zBa ?ztq ?ztr ?zts ?ztt ?zwJ ?zwK ?zxH ?zxI ?zxJ ?zxK ?zBb ?zBc ?ztu ?ztv ?ztw ?ztx ?zwL ?zwM ?zBd ?zBe ?zBf ?zBg ?zBh ?zBi ?zq7 ?zq8 ?zq9 ?zra ?zrb ?zrc ?zty ?ztz ?ztA ?ztB ?zwN ?zwO ?zhq ?zeB ?zfo ?ziZ ?zeC ?zhr ?zfp ?zhs ?zfq ?zfr ?zfs ?zht ?zdW ?zdE ?zdF ?zb9 ?zcF ?zft ?zi0 ?zeD ?a0 ?F0 ?a1 ?F1 ?a2 ?F2 ?a3 ?F3 ?a4 ?F4 ?a5 ?F5 ?a6 ?F6 ?a7 ?F7 ?a8 ?F8 ?a9 ?F9 ?zn9 ?i10 ?F10 ?a11 ?F11 ?a12 ?F12 ?a13 ?F13 ?ztC ?i14 ?F14 ?ztD ?i15 ?F15 ?ztE ?i16 ?F16 ?zwP ?i17 ?F17 ?ztF ?i18 ?F18 ?ztG ?i19 ?F19 ?zwQ ?zwR ?i20 ?F20 ?a21 ?F21 ?a22 ?F22 ?a23 ?F23 ?zoa ?i24 ?F24 ?zob ?i25 ?F25 ?zoc ?i26 ?F26 ?a27 ?F27 ?zod ?i28 ?F28 ?zoe ?i29 ?F29 ?zof ?i30 ?F30 ?zog ?i31 ?F31 ?zoh ?i32 ?F32 ?zoi ?i33 ?F33 ?ztH ?i34 ?F34 ?ztI ?i35 ?F35 ?zwS ?i36 ?F36 ?zwT ?i37 ?F37 ?zwU ?i38 ?F38 ?zwV ?i39 ?F39 ?a40 ?F40 ?a41 ?F41 ?ztJ ?i42 ?F42 ?ztK ?i43 ?F43 ?zoj ?i44 ?F44 ?ztL ?i45 ?F45 ?ztM ?i46 ?F46 ?zwW ?i47 ?F47 ?zwX ?i48 ?F48 ?ztN ?i49 ?F49 ?ztO ?i50 ?F50 ?ztP ?i51 ?F51 ?ztQ ?i52 ?F52 ?a53 ?F53 ?a54 ?F54 ?a55 ?F55 ?a56 ?F56 ?a57 ?F57 ?a58 ?F58 ?a59 ?F59 ?a60 ?F60 ?ztR ?i61 ?F61 ?a62 ?F62 ?ztS ?i63 ?F63 ?ztT ?i64 ?F64 ?zwY ?i65 ?F65 ?ztU ?i66 ?F66 ?ztV ?i67 ?F67 ?a68 ?F68 ?a69 ?F69 ?a70 ?F70 ?a71 ?F71 ?ztW ?i72 ?F72 ?zwZ ?i73 ?F73 ?ztX ?i74 ?F74 ?ztY ?i75 ?F75 ?ztZ ?i76 ?F76 ?zt0 ?i77 ?F77 ?zw0 ?i78 ?F78 ?zt1 ?i79 ?F79 ?zt2 ?i80 ?F80 ?zt3 ?i81 ?F81 ?a82 ?F82 ?zt4 ?i83 ?F83 ?zt5 ?i84 ?F84 ?zw1 ?i85 ?F85 ?zt6 ?i86 ?F86 ?zt7 ?i87 ?F87 ?a88 ?F88 ?a89 ?F89 ?a90 ?F90 ?a91 ?F91 ?a92 ?F92 ?hn ?htk ?zw2 ?zw3 ?zfu ?zfv ?zhu ?zfw ?zhv ?zfx ?zhw ?zdX ?zfy ?zfz ?zw4 ?zw5 ?zfA ?zfB ?zhx ?zfC ?zhy ?zfD ?zhz ?zdY ?zfE ?zfF ?zw6 ?zw7 ?zfG ?zfH ?zhA ?zfI ?zhB ?zfJ ?zhC ?zdZ ?zfK ?zfL ?zBj ?zBk ?zhD ?zhE ?zi2 ?zhF ?zi3 ?zhG ?zi4 ?zeF ?zhH ?zhI ?zw8 ?zw9 ?zfM ?zfN ?zhJ ?zfO ?zhK ?zfP ?zhL ?zd0 ?zfQ ?zfR ?zxa ?zxb ?zfS ?zfT ?zhM ?zfU ?zhN ?zfV ?zhO ?zd1 ?zfW ?zfX ?zAk ?zsb ?zv7 ?zaL ?zeo ?zlN ?zAl ?zAm ?ze1 ?zsX ?ze2 ?zrd ?ziM ?zmf ?zmg ?zk6 ?zk7
  (case zwz=>k_is)
  (case zwA=>k_is)
  (case zA2=>k_is)
  (case zwB=>k_is)
  (case zA3=>k_is)
  (case zwC=>k_is)
  (case zA4=>k_is)
  (case zq6=>k_is)
  (case zwD=>k_is)
  (case zwE=>k_is)
  (case zti=>k_is)
  (case ztj=>k_is)
  (case ztk=>k_is)
  (case ztl=>k_is)
  (case zwF=>k_is)
  (case zwG=>k_is)
  (case ztm=>k_is)
  (case ztn=>k_is)
  (case zto=>k_is)
  (case ztp=>k_is)
  (case zwH=>k_is)
  (case zwI=>k_is)
  (case zA5=>k_is)
  (case zA6=>k_is)
  (case zA7=>k_is)
  (case zA8=>k_is)
  (case zA9=>k_is)
  (case zBa=>k_is)
  (case ztq=>k_is)
  (case ztr=>k_is)
  (case zts=>k_is)
  (case ztt=>k_is)
  (case zwJ=>k_is)
  (case zwK=>k_is)
  (case zxH=>k_is)
  (case zxI=>k_is)
  (case zxJ=>k_is)
  (case zxK=>k_is)
  (case zBb=>k_is)
  (case zBc=>k_is)
  (case ztu=>k_is)
  (case ztv=>k_is)
  (case ztw=>k_is)
  (case ztx=>k_is)
  (case zwL=>k_is)
  (case zwM=>k_is)
  (case zBd=>k_is)
  (case zBe=>k_is)
  (case zBf=>k_is)
  (case zBg=>k_is)
  (case zBh=>k_is)
  (case zBi=>k_is)
  (case zq7=>k_is)
  (case zq8=>k_is)
  (case zq9=>k_is)
  (case zra=>k_is)
  (case zrb=>k_is)
  (case zrc=>k_is)
  (case zty=>k_is)
  (case ztz=>k_is)
  (case ztA=>k_is)
  (case ztB=>k_is)
  (case zwN=>k_is)
  (case zwO=>k_is)
  (case zhq=>k_is)
  (case zeB=>k_is)
  (case zfo=>k_is)
  (case ziZ=>k_is)
  (case zeC=>k_is)
  (case zhr=>k_is)
  (case zfp=>k_is)
  (case zhs=>k_is)
  (case zfq=>k_is)
  (case zfr=>k_is)
  (case zfs=>k_is)
  (case zht=>k_is)
  (case zdW=>k_is)
  (case zdE=>k_is)
  (case zdF=>k_is)
  (case zb9=>k_is)
  (case zcF=>k_is)
  (case zft=>k_is)
  (case zi0=>k_is)
  (case zeD=>k_is)
  (case a0=>k_is)
  (case F0=>exact My.fx_mk)
  (case a1=>k_is)
  (case F1=>exact My.fx_mk)
  (case a2=>k_is)
  (case F2=>exact My.fx_mk)
  (case a3=>k_is)
  (case F3=>exact My.fx_mk)
  (case a4=>k_is)
  (case F4=>exact My.fx_mk)
  (case a5=>k_is)
  (case F5=>exact My.fx_mk)
  (case a6=>k_is)
  (case F6=>exact My.fx_mk)
  (case a7=>k_is)
  (case F7=>exact My.fx_mk)
  (case a8=>k_is)
  (case F8=>exact My.fx_mk)
  (case a9=>k_is)
  (case F9=>exact My.fx_mk)
  (case zn9=>k_is)
  (case i10=>k_is)
  (case F10=>exact My.fx_mk)
  (case a11=>k_is)
  (case F11=>exact My.fx_mk)
  (case a12=>k_is)
  (case F12=>exact My.fx_mk)
  (case a13=>k_is)
  (case F13=>exact My.fx_mk)
  (case ztC=>k_is)
  (case i14=>k_is)
  (case F14=>exact My.fx_mk)
  (case ztD=>k_is)
  (case i15=>k_is)
  (case F15=>exact My.fx_mk)
  (case ztE=>k_is)
  (case i16=>k_is)
  (case F16=>exact My.fx_mk)
  (case zwP=>k_is)
  (case i17=>k_is)
  (case F17=>exact My.fx_mk)
  (case ztF=>k_is)
  (case i18=>k_is)
  (case F18=>exact My.fx_mk)
  (case ztG=>k_is)
  (case i19=>k_is)
  (case F19=>exact My.fx_mk)
  (case zwQ=>k_is)
  (case zwR=>k_is)
  (case i20=>k_is)
  (case F20=>exact My.fx_mk)
  (case a21=>k_is)
  (case F21=>exact My.fx_mk)
  (case a22=>k_is)
  (case F22=>exact My.fx_mk)
  (case a23=>k_is)
  (case F23=>exact My.fx_mk)
  (case zoa=>k_is)
  (case i24=>k_is)
  (case F24=>exact My.fx_mk)
  (case zob=>k_is)
  (case i25=>k_is)
  (case F25=>exact My.fx_mk)
  (case zoc=>k_is)
  (case i26=>k_is)
  (case F26=>exact My.fx_mk)
  (case a27=>k_is)
  (case F27=>exact My.fx_mk)
  (case zod=>k_is)
  (case i28=>k_is)
  (case F28=>exact My.fx_mk)
  (case zoe=>k_is)
  (case i29=>k_is)
  (case F29=>exact My.fx_mk)
  (case zof=>k_is)
  (case i30=>k_is)
  (case F30=>exact My.fx_mk)
  (case zog=>k_is)
  (case i31=>k_is)
  (case F31=>exact My.fx_mk)
  (case zoh=>k_is)
  (case i32=>k_is)
  (case F32=>exact My.fx_mk)
  (case zoi=>k_is)
  (case i33=>k_is)
  (case F33=>exact My.fx_mk)
  (case ztH=>k_is)
  (case i34=>k_is)
  (case F34=>exact My.fx_mk)
  (case ztI=>k_is)
  (case i35=>k_is)
  (case F35=>exact My.fx_mk)
  (case zwS=>k_is)
  (case i36=>k_is)
  (case F36=>exact My.fx_mk)
  (case zwT=>k_is)
  (case i37=>k_is)
  (case F37=>exact My.fx_mk)
  (case zwU=>k_is)
  (case i38=>k_is)
  (case F38=>exact My.fx_mk)
  (case zwV=>k_is)
  (case i39=>k_is)
  (case F39=>exact My.fx_mk)
  (case a40=>k_is)
  (case F40=>exact My.fx_mk)
  (case a41=>k_is)
  (case F41=>exact My.fx_mk)
  (case ztJ=>k_is)
  (case i42=>k_is)
  (case F42=>exact My.fx_mk)
  (case ztK=>k_is)
  (case i43=>k_is)
  (case F43=>exact My.fx_mk)
  (case zoj=>k_is)
  (case i44=>k_is)
  (case F44=>exact My.fx_mk)
  (case ztL=>k_is)
  (case i45=>k_is)
  (case F45=>exact My.fx_mk)
  (case ztM=>k_is)
  (case i46=>k_is)
  (case F46=>exact My.fx_mk)
  (case zwW=>k_is)
  (case i47=>k_is)
  (case F47=>exact My.fx_mk)
  (case zwX=>k_is)
  (case i48=>k_is)
  (case F48=>exact My.fx_mk)
  (case ztN=>k_is)
  (case i49=>k_is)
  (case F49=>exact My.fx_mk)
  (case ztO=>k_is)
  (case i50=>k_is)
  (case F50=>exact My.fx_mk)
  (case ztP=>k_is)
  (case i51=>k_is)
  (case F51=>exact My.fx_mk)
  (case ztQ=>k_is)
  (case i52=>k_is)
  (case F52=>exact My.fx_mk)
  (case a53=>k_is)
  (case F53=>exact My.fx_mk)
  (case a54=>k_is)
  (case F54=>exact My.fx_mk)
  (case a55=>k_is)
  (case F55=>exact My.fx_mk)
  (case a56=>k_is)
  (case F56=>exact My.fx_mk)
  (case a57=>k_is)
  (case F57=>exact My.fx_mk)
  (case a58=>k_is)
  (case F58=>exact My.fx_mk)
  (case a59=>k_is)
  (case F59=>exact My.fx_mk)
  (case a60=>k_is)
  (case F60=>exact My.fx_mk)
  (case ztR=>k_is)
  (case i61=>k_is)
  (case F61=>exact My.fx_mk)
  (case a62=>k_is)
  (case F62=>exact My.fx_mk)
  (case ztS=>k_is)
  (case i63=>k_is)
  (case F63=>exact My.fx_mk)
  (case ztT=>k_is)
  (case i64=>k_is)
  (case F64=>exact My.fx_mk)
  (case zwY=>k_is)
  (case i65=>k_is)
  (case F65=>exact My.fx_mk)
  (case ztU=>k_is)
  (case i66=>k_is)
  (case F66=>exact My.fx_mk)
  (case ztV=>k_is)
  (case i67=>k_is)
  (case F67=>exact My.fx_mk)
  (case a68=>k_is)
  (case F68=>exact My.fx_mk)
  (case a69=>k_is)
  (case F69=>exact My.fx_mk)
  (case a70=>k_is)
  (case F70=>exact My.fx_mk)
  (case a71=>k_is)
  (case F71=>exact My.fx_mk)
  (case ztW=>k_is)
  (case i72=>k_is)
  (case F72=>exact My.fx_mk)
  (case zwZ=>k_is)
  (case i73=>k_is)
  (case F73=>exact My.fx_mk)
  (case ztX=>k_is)
  (case i74=>k_is)
  (case F74=>exact My.fx_mk)
  (case ztY=>k_is)
  (case i75=>k_is)
  (case F75=>exact My.fx_mk)
  (case ztZ=>k_is)
  (case i76=>k_is)
  (case F76=>exact My.fx_mk)
  (case zt0=>k_is)
  (case i77=>k_is)
  (case F77=>exact My.fx_mk)
  (case zw0=>k_is)
  (case i78=>k_is)
  (case F78=>exact My.fx_mk)
  (case zt1=>k_is)
  (case i79=>k_is)
  (case F79=>exact My.fx_mk)
  (case zt2=>k_is)
  (case i80=>k_is)
  (case F80=>exact My.fx_mk)
  (case zt3=>k_is)
  (case i81=>k_is)
  (case F81=>exact My.fx_mk)
  (case a82=>k_is)
  (case F82=>exact My.fx_mk)
  (case zt4=>k_is)
  (case i83=>k_is)
  (case F83=>exact My.fx_mk)
  (case zt5=>k_is)
  (case i84=>k_is)
  (case F84=>exact My.fx_mk)
  (case zw1=>k_is)
  (case i85=>k_is)
  (case F85=>exact My.fx_mk)
  (case zt6=>k_is)
  (case i86=>k_is)
  (case F86=>exact My.fx_mk)
  (case zt7=>k_is)
  (case i87=>k_is)
  (case F87=>exact My.fx_mk)
  (case a88=>k_is)
  (case F88=>exact My.fx_mk)
  (case a89=>k_is)
  (case F89=>exact My.fx_mk)
  (case a90=>k_is)
  (case F90=>exact My.fx_mk)
  (case a91=>k_is)
  (case F91=>exact My.fx_mk)
  (case a92=>k_is)
  (case F92=>exact My.fx_mk)
  (case hn=>k_is)
  (case htk=>k_is)
  (case zw2=>k_is)
  (case zw3=>k_is)
  (case zfu=>kit_is)
  (case zfv=>kit_is)
  (case zhu=>kit_is)
  (case zfw=>kit_is)
  (case zhv=>kit_is)
  (case zfx=>kit_is)
  (case zhw=>kit_is)
  (case zdX=>kit_is)
  (case zfy=>kit_is)
  (case zfz=>kit_is)
  (case zw4=>k_is)
  (case zw5=>k_is)
  (case zfA=>kit_is)
  (case zfB=>kit_is)
  (case zhx=>kit_is)
  (case zfC=>kit_is)
  (case zhy=>kit_is)
  (case zfD=>kit_is)
  (case zhz=>kit_is)
  (case zdY=>kit_is)
  (case zfE=>kit_is)
  (case zfF=>kit_is)
  (case zw6=>k_is)
  (case zw7=>k_is)
  (case zfG=>kit_is)
  (case zfH=>kit_is)
  (case zhA=>kit_is)
  (case zfI=>kit_is)
  (case zhB=>kit_is)
  (case zfJ=>kit_is)
  (case zhC=>kit_is)
  (case zdZ=>kit_is)
  (case zfK=>kit_is)
  (case zfL=>kit_is)
  (case zBj=>k_is)
  (case zBk=>k_is)
  (case zhD=>kit_is)
  (case zhE=>kit_is)
  (case zi2=>kit_is)
  (case zhF=>kit_is)
  (case zi3=>kit_is)
  (case zhG=>kit_is)
  (case zi4=>kit_is)
  (case zeF=>kit_is)
  (case zhH=>kit_is)
  (case zhI=>kit_is)
  (case zw8=>k_is)
  (case zw9=>k_is)
  (case zfM=>kit_is)
  (case zfN=>kit_is)
  (case zhJ=>kit_is)
  (case zfO=>kit_is)
  (case zhK=>kit_is)
  (case zfP=>kit_is)
  (case zhL=>kit_is)
  (case zd0=>kit_is)
  (case zfQ=>kit_is)
  (case zfR=>kit_is)
  (case zxa=>k_is)
  (case zxb=>k_is)
  (case zfS=>kit_is)
  (case zfT=>kit_is)
  (case zhM=>kit_is)
  (case zfU=>kit_is)
  (case zhN=>kit_is)
  (case zfV=>kit_is)
  (case zhO=>kit_is)
  (case zd1=>kit_is)
  (case zfW=>kit_is)
  (case zfX=>kit_is)
  (case zAk=>k_is)
  (case zsb=>k_is)
  (case zv7=>k_is)
  (case zaL=>k_is)
  (case zeo=>k_is)
  (case zlN=>k_is)
  (case zAl=>k_is)
  (case zAm=>k_is)
  (case ze1=>k_is)
  (case zsX=>k_is)
  (case ze2=>k_is)
  (case zrd=>k_is)
  (case ziM=>k_is)
  (case zmf=>k_is)
  (case zmg=>k_is)
  (case zk6=>k_is)
  (case zk7=>k_is)
#print axioms PySem.Challenge.cw_mightever_k13_what_rules_miss_holds
