import PyProof.Rows.All
import Wide.All
import OpenK.AllK
import Wide.FinOn
import Lean
import PyProof.EqAt
import PyProof.EqKinds
import PyProof.NeKinds
import PyProof.TupleCall
import KE.KLam
import KE.KMinKey
import KE.KNestM
import PyProof.WalkInts
import PySem.Eval
import PySem.SetOps
import PySem.Syntax
import PySem.Challenge.RW_planeyard_k08_faces
set_option Elab.async false
set_option linter.all false
set_option maxRecDepth 100000
open PySem.W (Frag nsIn keepIn codeIn fnOf)
set_option genInjectivity false
set_option genSizeOf false
namespace L2
open PySem PySem.Spec PyProof.Rows
abbrev Key:=Sum Int Str
def keyIs:Key→Value→Bool
 | .inl k,v=>Value.isInt k v
 | .inr x,v=>Value.isStrOf x v
def keyH (w:World):Key→Int
 | .inl k=>hashInt k
 | .inr x=>hashStr w x
theorem zp:∀ {k:Key} {v:Value},keyIs k v=true→(∃ i t,k=Sum.inl i∧v=Value.int i t)∨(∃ x t,k=Sum.inr x∧v=Value.str x t)
 | .inl i,v,h=>by
  obtain ⟨t,e⟩:=Value.isInt_shape (k:=i) (v:=v) h
  exact .inl ⟨i,t,rfl,e⟩
 | .inr x,v,h=>by
  obtain ⟨t,e⟩:=Value.isStrOf_shape (x:=x) (v:=v) h
  exact .inr ⟨x,t,rfl,e⟩
theorem zjy (i:Int) (t:Tok):keyIs (.inl i) (.int i t)=true:=by simp [keyIs,Value.isInt]
theorem zi2 (x:Str) (t:Tok):keyIs (.inr x) (.str x t)=true:=by simp [keyIs,Value.isStrOf]
theorem zps (a b:Int):decide ((Sum.inl a:Key)=Sum.inl b)=(a==b):=by
 by_cases e:a=b
 ·subst e; simp
 ·have h:¬ (Sum.inl a:Key)=Sum.inl b:=fun q=>e (Sum.inl.inj q)
  rw [decide_eq_false h]
  exact (beq_eq_false_iff_ne.mpr e).symm
theorem zqq (a b:Str):decide ((Sum.inr a:Key)=Sum.inr b)=decide (a=b):=by
 by_cases e:a=b
 ·subst e; simp
 ·have h:¬ (Sum.inr a:Key)=Sum.inr b:=fun q=>e (Sum.inr.inj q)
  rw [decide_eq_false h,decide_eq_false e]
theorem zrm (a:Int) (b:Str):decide ((Sum.inl a:Key)=Sum.inr b)=false:=decide_eq_false (fun q=>nomatch q)
theorem zqo (a:Str) (b:Int):decide ((Sum.inr a:Key)=Sum.inl b)=false:=decide_eq_false (fun q=>nomatch q)
def mixKind (prog:Program) (w:World):PySem.KeyKind prog w Key where
 is:=keyIs
 hash:=keyH w
 inj:=fun v a b ha hb=>by
  rcases zp ha with ⟨i,t,rfl,rfl⟩ | ⟨x,t,rfl,rfl⟩
  ·rcases zp hb with ⟨j,u,rfl,e⟩ | ⟨y,u,rfl,e⟩
   ·injection e with e1 _; rw [e1]
   ·exact nomatch e
  ·rcases zp hb with ⟨j,u,rfl,e⟩ | ⟨y,u,rfl,e⟩
   ·exact nomatch e
   ·injection e with e1 _; rw [e1]
 byValue:=fun k v h=>by
  rcases zp h with ⟨i,t,rfl,rfl⟩ | ⟨x,t,rfl,rfl⟩ <;> rfl
 pyHash:=fun hv h=>by
  rcases zp hv with ⟨i,t,rfl,rfl⟩ | ⟨x,t,rfl,rfl⟩
  ·exact wpAny_pyHash_int h
  ·exact wpAny_pyHash_str h
 eqBool:=fun hu hv h=>by
  rcases zp hu with ⟨i,t,rfl,rfl⟩ | ⟨x,t,rfl,rfl⟩
  ·rcases zp hv with ⟨j,u,rfl,rfl⟩ | ⟨y,u,rfl,rfl⟩
   ·rw [zps] at h; exact wpAny_eqBool_int h
   ·rw [zrm] at h; exact SeqAt.EqAt.int_str i t y u _ _ _ _ h
  ·rcases zp hv with ⟨j,u,rfl,rfl⟩ | ⟨y,u,rfl,rfl⟩
   ·rw [zqo] at h; exact SeqAt.EqAt.str_int x t j u _ _ _ _ h
   ·rw [zqq] at h; exact wpAny_eqBool_str h
 «strs»:=fun k x t v h=>by
  rcases zp h with ⟨i,u,rfl,e⟩ | ⟨y,u,rfl,e⟩
  ·exact nomatch e
  ·injection e with e1 _
   subst e1
   cases v <;> rfl
theorem zgk (prog:Program) (w:World) (i:Int) (t:Tok):(mixKind prog w).is (.inl i) (.int i t)=true:=zjy i t
theorem zfp (prog:Program) (w:World) (x:Str) (t:Tok):(mixKind prog w).is (.inr x) (.str x t)=true:=zi2 x t
end L2
namespace L2
open PySem PySem.Spec PyProof.Rows
inductive V where
 | non | bl (b:Bool) | int (i:Int) | str (x:Str) | byt (b:Array UInt8) | flt (b:UInt64) | ref (a:Addr) | ty (n:String)
 deriving DecidableEq
def RelV:V→Value→Prop
 | .non,u=>u=Value.none
 | .bl b,u=>u=Value.bool b
 | .int i,u=>∃ t,u=Value.int i t
 | .str x,u=>∃ t,u=Value.str x t
 | .byt b,u=>∃ t,u=Value.bytes b t
 | .flt b,u=>∃ t,u=Value.float b t
 | .ref a,u=>u=Value.ref a
 | .ty n,u=>u=Value.type n
abbrev Vals:List V→List Value→Prop:=Paired RelV
theorem Vals.length {xs:List V} {us:List Value} (r:Vals xs us):xs.length=us.length:=Paired.length r
theorem Vals.get:∀ {xs:List V} {us:List Value} {i:Nat} {x:V},Vals xs us→xs[i]? = some x→∃ u,us[i]? = some u∧RelV x u
 | _,_,_,_,.nil,e=>by simp at e
 | _,_,0,_,.cons r _,e=>by simp at e; subst e; exact ⟨_,rfl,r⟩
 | _,_,i+1,x,.cons _ t,e=>by
  obtain ⟨u,h1,h2⟩:=Vals.get (i:=i) (x:=x) t (by simpa using e)
  exact ⟨u,by simpa using h1,h2⟩
theorem Vals.set {x:V} {u:Value} (r:RelV x u):∀ {xs:List V} {us:List Value} (i:Nat),Vals xs us→Vals (xs.set i x) (us.set i u)
 | _,_,_,.nil=>.nil
 | _,_,0,.cons _ t=>.cons r t
 | _,_,i+1,.cons q t=>.cons q (Vals.set r i t)
theorem Vals.append:∀ {xs ys:List V} {us ws:List Value},Vals xs us→Vals ys ws→Vals (xs++ys) (us++ws)
 | _,_,_,_,.nil,s=>s
 | _,_,_,_,.cons r t,s=>.cons r (Vals.append t s)
theorem Vals.take:∀ {xs:List V} {us:List Value} (n:Nat),Vals xs us→Vals (xs.take n) (us.take n)
 | _,_,0,_=>.nil
 | _,_,_+1,.nil=>.nil
 | _,_,n+1,.cons r t=>.cons r (Vals.take n t)
theorem Vals.drop:∀ {xs:List V} {us:List Value} (n:Nat),Vals xs us→Vals (xs.drop n) (us.drop n)
 | _,_,0,r=>r
 | _,_,_+1,.nil=>.nil
 | _,_,n+1,.cons _ t=>Vals.drop n t
def RelO:Option V→Option Value→Prop
 | some v,some u=>RelV v u
 | none,none=>True
 | _,_=>False
def KV {κ:Type}:List (κ×V)→List (κ×Value)→Prop:=Paired fun (p:κ×V) (q:κ×Value)=>p.1=q.1∧RelV p.2 q.2
def kV:Key→V
 | .inl i=>.int i
 | .inr x=>.str x
set_option genInjectivity true in
inductive HO where
 | lst (xs:List V)
 | tup (xs:List V)
 | dK (kvs:List (Key×V)) | dT (kvs:List (List Key×V))
 | set (S:Int→Bool) (n:Nat)
 | ins (C dx:Addr) (fs:List (Str×V))
 | own (x:Addr)
 | xd (fs:List (Str×V))
 | met (f x:Addr)
 | rng (lo hi:Int)
 | frz (o:Obj) (u:HO)
 | tbl (ps:Array Value)
 | ext (φ:Heap→Prop)
abbrev Hp:=Addr→Option HO
def upd (H:Hp) (a:Addr) (o:HO):Hp:=fun b=>if b=a then some o else H b
theorem zg {H:Hp} {a:Addr} {o:HO}:upd H a o a=some o:=by unfold upd; rw [if_pos rfl]
theorem zj {H:Hp} {a b:Addr} {o:HO} (h:b≠a):upd H a o b=H b:=by unfold upd; rw [if_neg h]
theorem zd4 {H:Hp} {a:Addr} {o u:HO}:upd (upd H a o) a u=upd H a u:=by
 funext b; unfold upd; split <;> rfl
theorem zrk {H:Hp} {a b:Addr} {o u:HO} (h:H a=some o) (h':H b=some u) (d:o≠u):a≠b:=by
 intro e; subst e; rw [h] at h'; exact d (Option.some.inj h')
theorem zh {H:Hp} {a b:Addr} {o:HO} (h:H a=some o) (h':H b=none):a≠b:=by
 intro e; subst e; rw [h] at h'; cases h'
def IsTupN (h:Heap) (a:Addr) (its:Array Value):Prop:=IsTup h a its∧∃ o,h.get? a=some o∧o.dict=none
theorem IsTupN.new (h:Heap) (its:Array Value):IsTupN (h.push { cls:=.type "tuple",data:=.seq its}) h.objs.size its:=⟨IsTup.new _ _,_,Heap.get?_push_size _ rfl,rfl⟩
theorem IsTupN.keep {h h':Heap} {a:Addr} {its:Array Value} (x:IsTupN h a its) (k:∀ o,h.get? a=some o→h'.get? a=some o):IsTupN h' a its:=let ⟨⟨o,e,r⟩,o',e',d⟩:=x; ⟨⟨o,k o e,r⟩,o',k o' e',d⟩
section
variable (P:Program) (w:World)
def ObjOk (H:Hp) (h:Heap) (a:Addr):HO→Prop
 | .lst xs=>xs.length≤sizeLine∧∃ (its:List Value) (n:Nat),Vals xs its∧h.get? a=some { cls:=.type "list",data:=.seq its.toArray n}
 | .tup xs=>xs.length≤sizeLine∧∃ its:List Value,Vals xs its∧IsTupN h a its.toArray
 | .dK kvs=>kvs.length≤sizeLine∧(a==sysModules)=false∧∃ vs,KV kvs vs∧h.DictOf (mixKind P w) a vs
 | .dT kvs=>kvs.length≤sizeLine∧(a==sysModules)=false∧∃ xs:List (List Key×Addr×Value),
   Paired (fun (p:List Key×V) (q:List Key×Addr×Value)=>p.1=q.1∧H q.2.1=some (.tup (p.1.map kV))∧RelV p.2 q.2.2) kvs xs ∧
   ∃ o es ep,h.get? a=some o∧o.ExactDict∧o.data=.dict es ep∧es.toList=xs.map (entryOfKey (tupleKind (mixKind P w)))∧(xs.map (·.1)).Nodup
 | .set S n=>h.SetOf (intKind P w) a S n
 | .ins C dx fs=>H dx=some (.own a)∧fs.length≤1000∧dx≠a∧h.get? a=some (PySem.W.instObj C dx) ∧
   ∃ mA,h.Ns1 dx mA∧(∀ f,RelO (fs.lookup f) (mA f))∧PySem.Within mA (fs.map (·.1))
 | .own _=>∃ o,h.get? a=some o
 | .xd fs=>∃ mA,h.Ns1 a mA∧∀ f,RelO (fs.lookup f) (mA f)
 | .rng lo hi=>∃ t u v,h.get? a=some { cls:=.type "range",data:=.fields #[.int lo t,.int hi u,.int 1 v]}
 | .frz o u=>h.get? a=some o∧ObjOk H h a u
 | .tbl ps=>h.get? a=some { cls:=.none,data:=.fields ps}
 | .met f x=>h.get? a=some (PySem.W.methodObj (.ref f) (.ref x))
 | .ext φ=>φ h∧(∃ o,h.get? a=some o)∧∀ h1 h2:Heap,φ h1→(∀ o,h1.get? a=some o→h2.get? a=some o)→φ h2
def HOk (H:Hp) (h:Heap):Prop:=∀ a o,H a=some o→ObjOk P w H h a o
end
section
variable {P:Program} {w:World} {H H':Hp} {h h':Heap} {a:Addr} {o:HO}
theorem ObjOk.lt (x:ObjOk P w H h a o):a < h.objs.size:=by
 cases o with
 | lst xs=>obtain ⟨_,_,_,_,e⟩:=x; exact Heap.lt_size e
 | tup xs=>obtain ⟨_,_,_,p⟩:=x; exact p.1.lt
 | dK kvs=>obtain ⟨_,_,_,_,o,_,_,e,_⟩:=x; exact Heap.lt_size e
 | dT kvs=>obtain ⟨_,_,_,_,o,_,_,e,_⟩:=x; exact Heap.lt_size e
 | set S n=>obtain ⟨o,_,_,_,e,_⟩:=x; exact Heap.lt_size e
 | ins C dx fs=>obtain ⟨_,_,_,e,_⟩:=x; exact Heap.lt_size e
 | own y=>obtain ⟨_,e⟩:=x; exact Heap.lt_size e
 | xd fs=>obtain ⟨_,⟨_,_,_,e,_⟩,_⟩:=x; exact Heap.lt_size e
 | rng lo hi=>obtain ⟨_,_,_,e⟩:=x; exact Heap.lt_size e
 | frz ob u=>obtain ⟨e,_⟩:=x; exact Heap.lt_size e
 | tbl ps=>exact Heap.lt_size (show h.get? a=some _ from x)
 | met f y=>exact Heap.lt_size (show h.get? a=some _ from x)
 | ext φ=>obtain ⟨_,⟨_,e⟩,_⟩:=x; exact Heap.lt_size e
theorem Paired.mapP {α β:Type} {F G:α→β→Prop}:∀ {l₁:List α} {l₂:List β},Paired F l₁ l₂→(∀ a b,F a b→G a b)→Paired G l₁ l₂
 | _,_,.nil,_=>.nil
 | _,_,.cons r t,f=>.cons (f _ _ r) (Paired.mapP t f)
theorem ObjOk.stay (x:ObjOk P w H h a o) (k:∀ b u,(b=a∨H b=some (.own a))→h.get? b=some u→h'.get? b=some u)
  (ho:∀ b,H b=some (.own a)→H' b=some (.own a)) (ht:∀ b xs,H b=some (.tup xs)→H' b=some (.tup xs)):ObjOk P w H' h' a o:=by
 induction o with
 | lst xs=>obtain ⟨z,its,n,r,e⟩:=x; exact ⟨z,its,n,r,k _ _ (.inl rfl) e⟩
 | tup xs=>obtain ⟨z,its,r,p⟩:=x; exact ⟨z,its,r,p.keep fun o e=>k _ _ (.inl rfl) e⟩
 | dK kvs=>obtain ⟨z,y,vs,r,ob,es,ep,e,c⟩:=x; exact ⟨z,y,vs,r,ob,es,ep,k _ _ (.inl rfl) e,c⟩
 | dT kvs =>
  obtain ⟨z,y,xs,r,ob,es,ep,e,c⟩:=x
  exact ⟨z,y,xs,Paired.mapP r fun p q z=>⟨z.1,ht _ _ z.2.1,z.2.2⟩,ob,es,ep,k _ _ (.inl rfl) e,c⟩
 | set S n=>obtain ⟨ob,es,ep,t,e,c⟩:=x; exact ⟨ob,es,ep,t,k _ _ (.inl rfl) e,c⟩
 | ins C dx fs =>
  obtain ⟨d,z,ne,e,mA,⟨od,es,ep,e2,c⟩,r⟩:=x
  exact ⟨ho _ d,z,ne,k _ _ (.inl rfl) e,mA,⟨od,es,ep,k _ _ (.inr d) e2,c⟩,r⟩
 | own y=>obtain ⟨ob,e⟩:=x; exact ⟨ob,k _ _ (.inl rfl) e⟩
 | xd fs=>obtain ⟨mA,⟨od,es,ep,e,c⟩,r⟩:=x; exact ⟨mA,⟨od,es,ep,k _ _ (.inl rfl) e,c⟩,r⟩
 | rng lo hi=>obtain ⟨t,u,v,e⟩:=x; exact ⟨t,u,v,k _ _ (.inl rfl) e⟩
 | frz ob u ih=>obtain ⟨e,q⟩:=x; exact ⟨k _ _ (.inl rfl) e,ih q⟩
 | tbl ps =>
  have e:h.get? a=some { cls:=.none,data:=.fields ps}:=x
  show h'.get? a=some { cls:=.none,data:=.fields ps}
  exact k a _ (.inl rfl) e
 | met f y =>
  have e:h.get? a=some (PySem.W.methodObj (.ref f) (.ref y)):=x
  show h'.get? a=some (PySem.W.methodObj (.ref f) (.ref y))
  exact k a _ (.inl rfl) e
 | ext φ=>obtain ⟨p,⟨o,e⟩,st⟩:=x; exact ⟨st _ _ p fun o q=>k _ _ (.inl rfl) q,⟨o,k _ _ (.inl rfl) e⟩,st⟩
theorem HOk.lt (x:HOk P w H h) (e:H a=some o):a < h.objs.size:=(x a o e).lt
theorem HOk.fresh (x:HOk P w H h) (e:h.objs.size≤a):H a=none:=by
 cases q:H a with
 | none=>rfl
 | some u=>exact absurd (Nat.lt_of_lt_of_le (x.lt q) e) (Nat.lt_irrefl _)
theorem HOk.kept (x:HOk P w H h) (k:∀ b u,h.get? b=some u→h'.get? b=some u):HOk P w H h':=fun a o e =>
 (x a o e).stay (fun b u _ q=>k b u q) (fun _ q=>q) fun _ _ q=>q
theorem HOk.laid (x:HOk P w H h) (k:∀ b u,h.get? b=some u→h'.get? b=some u) (hp:h.objs.size≤a) (new:ObjOk P w (upd H a o) h' a o):HOk P w (upd H a o) h':=fun b u e=>by
 have hn:=x.fresh hp
 by_cases hb:b=a
 ·subst hb; rw [zg] at e; cases e; exact new
 ·rw [zj hb] at e
  exact (x b u e).stay (fun c v _ q=>k c v q) (fun c q=>by rw [zj (zh q hn)]; exact q) fun c xs q=>by rw [zj (zh q hn)]; exact q
end
def Rd (H:Hp) (a:Addr) (u:HO):Prop:=H a=some u∨∃ o,H a=some (.frz o u)
theorem Rd.of {H:Hp} {a:Addr} {u:HO} (h:H a=some u):Rd H a u:=.inl h
theorem Rd.ok {P:Program} {w:World} {H:Hp} {h:Heap} {a:Addr} {u:HO} (r:Rd H a u) (x:HOk P w H h):ObjOk P w H h a u:=by
 rcases r with r | ⟨o,r⟩
 ·exact x a u r
 ·obtain ⟨_,q⟩:=x a _ r
  exact q
def Mut:Option HO→Prop
 | some (.lst _)=>True
 | some (.dK _)=>True
 | some (.dT _)=>True
 | some (.set _ _)=>True
 | some (.ins _ _ _)=>True
 | some (.ext _)=>True
 | _=>False
section
variable {P:Program} {w:World} {H:Hp} {h h':Heap} {x e:Addr} {o':HO}
theorem HOk.write (ok:HOk P w H h) (mu:Mut (H x)) (he:e=x∨H e=some (.own x)) (k:∀ b u,b≠e→h.get? b=some u→h'.get? b=some u) (heo:∃ u,h'.get? e=some u)
  (new:ObjOk P w (upd H x o') h' x o'):HOk P w (upd H x o') h':=fun b u q=>by
 have nown:∀ c y,H c=some (.own y)→c≠x:=fun c y r z=>by subst z; rw [r] at mu; exact mu
 have ntup:∀ c xs,H c=some (.tup xs)→c≠x:=fun c xs r z=>by subst z; rw [r] at mu; exact mu
 by_cases hb:b=x
 ·subst hb; rw [zg] at q; cases q; exact new
 ·rw [zj hb] at q
  by_cases hbe:b=e
  ·have q':H b=some (.own x):=by
    rcases he with z | z
    ·exact absurd (hbe.trans z) hb
    ·rw [hbe]; exact z
   rw [q] at q'; cases q'
   obtain ⟨v,hv⟩:=heo
   exact ⟨v,by rw [hbe]; exact hv⟩
  ·refine (ok b u q).stay (fun c v hc r=>k c v ?_ r) (fun c r=>by rw [zj (nown c b r)]; exact r) fun c xs r=>by rw [zj (ntup c xs r)]; exact r
   rcases hc with rfl | hc
   ·exact hbe
   ·rintro rfl
    rcases he with z | z
    ·exact nown c b hc z
    ·rw [hc] at z; cases z; exact hb rfl
end
structure Un (fs ex:List Addr) (H H':Hp) (h h':Heap):Prop where
 keep:∀ b o,h.get? b=some o→H b=none→b∉fs→b∉ex→h'.get? b=some o
 slot:∀ b o,h.get? b=some o→H b=none→b∈fs→b∉ex→∃ sl,h'.get? b=some { o with slots:=sl}
 free:∀ b o,h.get? b=some o→H b=none→b∉ex→H' b=none
 there:∀ b o,h.get? b=some o→b∉ex→∃ o',h'.get? b=some o'
 tups:∀ b xs,H b=some (.tup xs)→H' b=some (.tup xs)
 frzs:∀ b o u,H b=some (.frz o u)→H' b=some (.frz o u)
 tbls:∀ b ps,H b=some (.tbl ps)→∃ more,H' b=some (.tbl (ps++more))
section
variable {fs fs' ex ex':List Addr} {H H1 H2:Hp} {h h1 h2 h':Heap} {a x e:Addr} {o:HO}
theorem Un.any (u:Un fs ex H H1 h h1) {b:Addr} {ob:Obj} (q:h.get? b=some ob) (n:H b=none) (hx:b∉ex):∃ sl,h1.get? b=some { ob with slots:=sl}:=by
 by_cases hb:b∈fs
 ·exact u.slot b ob q n hb hx
 ·exact ⟨ob.slots,u.keep b ob q n hb hx⟩
theorem Un.trans (a:Un fs ex H H1 h h1) (b:Un fs ex H1 H2 h1 h2):Un fs ex H H2 h h2 where
 keep:=fun c ob q n hc hx=>b.keep c ob (a.keep c ob q n hc hx) (a.free c ob q n hx) hc hx
 slot:=fun c ob q n hc hx=>by
  obtain ⟨sl,e1⟩:=a.slot c ob q n hc hx
  obtain ⟨sl',e2⟩:=b.slot c _ e1 (a.free c ob q n hx) hc hx
  exact ⟨sl',e2⟩
 free:=fun c ob q n hx=>by
  obtain ⟨o',e1⟩:=a.there c ob q hx
  exact b.free c o' e1 (a.free c ob q n hx) hx
 there:=fun c ob q hx=>by
  obtain ⟨o',e1⟩:=a.there c ob q hx
  exact b.there c o' e1 hx
 tups:=fun c xs q=>b.tups c xs (a.tups c xs q)
 frzs:=fun c ob xs q=>b.frzs c ob xs (a.frzs c ob xs q)
 tbls:=fun c ps q=>by
  obtain ⟨m1,e1⟩:=a.tbls c ps q
  obtain ⟨m2,e2⟩:=b.tbls c _ e1
  exact ⟨m1++m2,by rw [e2,Array.append_assoc]⟩
theorem Un.kept (k:∀ b u,h.get? b=some u→h'.get? b=some u):Un fs ex H H h h' :=
 ⟨fun b ob q _ _ _=>k b ob q,fun b ob q _ _ _=>⟨ob.slots,k b ob q⟩,fun _ _ _ n _=>n,fun b ob q _=>⟨ob,k b ob q⟩,fun _ _ q=>q,fun _ _ _ q=>q,fun _ ps q=>⟨#[],by rw [q]; simp⟩⟩
theorem Un.refl:Un fs ex H H h h:=Un.kept fun _ _ q=>q
theorem Un.laid (k:∀ b u,h.get? b=some u→h'.get? b=some u) (hp:h.objs.size≤a) (hn:H a=none):Un fs ex H (upd H a o) h h' where
 keep:=fun b u q _ _ _=>k b u q
 slot:=fun b u q _ _ _=>⟨u.slots,k b u q⟩
 free:=fun b u q n _=>by rw [zj (Nat.ne_of_lt (Nat.lt_of_lt_of_le (Heap.lt_size q) hp))]; exact n
 there:=fun b u q _=>⟨u,k b u q⟩
 tups:=fun b xs q=>by rw [zj (zh q hn)]; exact q
 frzs:=fun b u xs q=>by rw [zj (zh q hn)]; exact q
 tbls:=fun b ps q=>⟨#[],by rw [zj (zh q hn),q]; simp⟩
theorem Un.write (mu:Mut (H x)) (he:e=x∨H e=some (.own x)) (k:∀ b u,b≠e→h.get? b=some u→h'.get? b=some u) (heo:∃ u,h'.get? e=some u):Un fs ex H (upd H x o) h h':=by
 have hx:∀ b,H b=none→b≠x:=fun b n z=>by subst z; rw [n] at mu; exact mu
 have hb:∀ b,H b=none→b≠e:=fun b n z=>by
  subst z
  rcases he with r | r
  ·exact hx b n r
  ·rw [n] at r; cases r
 have hm:∀ b u,H b=some u→¬ Mut (some u)→b≠x:=fun b u q nm z=>by subst z; rw [q] at mu; exact nm mu
 refine ⟨fun b u q n _ _=>k b u (hb b n) q,fun b u q n _ _=>⟨u.slots,k b u (hb b n) q⟩,fun b u q n _=>by rw [zj (hx b n)]; exact n,fun b u q _=>?_,
  fun b xs q=>by rw [zj (hm b _ q fun z=>z)]; exact q,fun b u xs q=>by rw [zj (hm b _ q fun z=>z)]; exact q,fun b ps q=>⟨#[],by rw [zj (hm b _ q fun z=>z),q]; simp⟩⟩
 by_cases hbe:b=e
 ·subst hbe; exact heo
 ·exact ⟨u,k b u hbe q⟩
theorem Un.mono (u:Un fs ex H H1 h h1) (hs:∀ b∈fs,b∈fs') (hx:∀ b∈ex,b∈ex'):Un fs' ex' H H1 h h1 :=
 ⟨fun b ob q n hb he=>u.keep b ob q n (fun z=>hb (hs b z)) fun z=>he (hx b z),fun _ _ q n _ he=>u.any q n fun z=>he (hx _ z),fun b ob q n he=>u.free b ob q n fun z=>he (hx b z),fun b ob q he=>u.there b ob q fun z=>he (hx b z),u.tups,u.frzs,u.tbls⟩
end
def trk (h:Heap) (H:Hp):List Addr:=(List.range h.objs.size).filter fun a=>(H a).isSome
def hidT (h:Heap) (H:Hp):Heap:=PySem.W.hideAll h (trk h H)
theorem ze1 (h:Heap) (H:Hp):(hidT h H).objs.size=h.objs.size:=PySem.W.hideAll_size _ _
theorem zg4 {h:Heap} {H:Hp} {b:Addr} {o:Obj} (e:h.get? b=some o) (n:H b=none):(hidT h H).get? b=some o :=
 PySem.W.hideAll_get _ e fun hm=>by
  have q:(H b).isSome=true:=(List.mem_filter.mp hm).2
  rw [n] at q; simp at q
theorem zik {h:Heap} {H:Hp} {b:Addr} {o:Obj} (e:(hidT h H).get? b=some o):h.get? b=some o∧H b=none:=by
 have e':h.get? b=some o:=PySem.W.of_hideAll (trk h H) e
 refine ⟨e',?_⟩
 cases q:H b with
 | none=>rfl
 | some x =>
  have hm:b∈trk h H:=List.mem_filter.mpr ⟨List.mem_range.mpr (Heap.lt_size e'),by simp [q]⟩
  have z:(hidT h H).get? b=none:=PySem.W.hideAll_none (trk h H) hm
  rw [z] at e; cases e
def allNews (g h:Heap) (L:Addr):List (Addr×Obj):=(List.range h.objs.size).filterMap fun a=>if a=L∨(g.get? a).isSome=true then none else (h.get? a).map fun o=>(a,o)
def rest (g h:Heap) (L d:Addr):List (Addr×Obj):=(allNews g h L).filter fun p=>decide (p.1≠d)
end L2
namespace L2
open PySem PySem.Spec PyProof.Rows
structure Mod (K:Frag) (mg:Str→Option Value) (base:Heap):Prop where
 kin:K.In base
 glob:base.Ns mainGlobals mg
 blt:∃ mb,base.Ns builtinsNs mb∧∀ x:Str,x≠"__name__"→mb x=bootBuiltins x
 nolimit:base.NoLimit
structure Cx where
 prog:Program
 w:World
 K:Frag
 mg:Str→Option Value
 base:Heap
 A:Around
 N:List Str
 s₀:Shared
 H₀:Hp
 env:Env
 outer:List Env
 stack:List Env
 ex:List Addr
 fn:Str→Bool
 calm:Bool
 pn:List (Addr×Obj)
 xe:Value→Shared→Prop
def frs (l:List Env):List Addr:=l.filterMap (·.frame)
abbrev Cx.fs (X:Cx):List Addr:=frs X.outer
def Vis (sc:Scope) (x:Str):Prop:=sc.names.lookup x=some .local∨sc.names.lookup x=some .cell∨sc.names.lookup x=some .free
def Loc (sc:Scope) (x:Str):Prop:=sc.names.lookup x=some .local∨sc.names.lookup x=some .cell
def Look (env:Env) (h:Heap) (m:Str→Option Value) (x:Str) (u:Value):Prop :=
 (env.kindOf x=some .local∧m x=some u)∨((env.kindOf x=some .cell∨env.kindOf x=some .free)∧∃ c,env.cells.lookup x=some c∧h.IsCell c (some u))
structure Cx.Ok (X:Cx):Prop where
 mod:Mod X.K X.mg X.base
 kind:X.env.scope.kind=.function
 glob:X.env.globals=mainGlobals
 blt:X.env.builtins=builtinsNs
 above:X.s₀.heap.objs.size≤X.env.locals
 inj:∀ x y c,X.env.cells.lookup x=some c→X.env.cells.lookup y=some c→x=y
 has:∀ x,(X.env.kindOf x=some .cell∨X.env.kindOf x=some .free)→∃ c,X.env.cells.lookup x=some c
 cab:∀ x c,X.fn x=true→X.env.cells.lookup x=some c→X.s₀.heap.objs.size≤c
 hd:X.calm=true→X.A.handled=none
 frames:X.A.frames=some X.stack
 stk:X.stack=X.outer∨(X.stack=X.env::X.outer∧X.env.frame=some X.env.locals)
 exf:∀ b∈X.ex,b≠X.env.locals∧∀ x c,X.env.cells.lookup x=some c→c≠b
 bs:∀ b o,X.base.get? b=some o→X.s₀.heap.get? b=some o∧X.H₀ b=none
 bsz:X.base.objs.size≤X.s₀.heap.objs.size
 noex:∀ b o,X.base.get? b=some o→b∉X.ex
 exfs:∀ b∈X.ex,b∉X.fs
 funs:X.s₀.heap.FunFrames X.base X.outer
 frf:∀ b∈X.fs,X.H₀ b=none
structure Inv (X:Cx) (pins:List (Addr×Obj)) (σ:List (Option V)) (H:Hp) (s:Shared):Prop where
 ok:X.Ok
 os:s.os=X.s₀.os
 bare:AllBare s.gens
 base:Un X.fs X.ex X.H₀ H X.s₀.heap s.heap
 loc:∃ m,s.heap.Ns X.env.locals m∧∀ (i:Nat) (x:Str) (v:V),X.N[i]? = some x→σ[i]? = some (some v)→Vis X.env.scope x→∃ u,RelV v u∧Look X.env s.heap m x u
 cell:∀ x c,X.env.cells.lookup x=some c→∃ v,s.heap.IsCell c v
 free:H X.env.locals=none
 freeC:∀ x c,X.env.cells.lookup x=some c→H c=none
 pin:∀ p∈X.pn++pins,s.heap.get? p.1=some p.2∧H p.1=none∧p.1≠X.env.locals∧p.1∉X.fs∧∀ v,p.2.data≠.cell v
 hok:HOk X.prog X.w H s.heap
 len:σ.length=X.N.length
section
variable {X:Cx} {pins:List (Addr×Obj)} {σ:List (Option V)} {H H':Hp} {s:Shared} {h':Heap}
theorem Cx.Ok.nofr (ok:X.Ok) {b:Addr} {o:Obj} (e:X.base.get? b=some o):b∉X.fs:=fun hb=>by
 have:=(ok.funs.mem hb).1
 rw [e] at this; cases this
theorem Inv.bs (I:Inv X pins σ H s):∀ b o,X.base.get? b=some o→s.heap.get? b=some o∧H b=none:=fun b o e =>
 ⟨I.base.keep b o (I.ok.bs b o e).1 (I.ok.bs b o e).2 (I.ok.nofr e) (I.ok.noex b o e),I.base.free b o (I.ok.bs b o e).1 (I.ok.bs b o e).2 (I.ok.noex b o e)⟩
theorem Inv.bk (I:Inv X pins σ H s):∀ b o,X.base.get? b=some o→s.heap.get? b=some o:=fun b o e=>(I.bs b o e).1
theorem Inv.mod (I:Inv X pins σ H s):Mod X.K X.mg X.base:=I.ok.mod
theorem Inv.kIn (I:Inv X pins σ H s):X.K.In s.heap:=I.ok.mod.kin.keeps I.bk
theorem Inv.nolimit (I:Inv X pins σ H s):s.heap.NoLimit:=I.ok.mod.nolimit.keeps I.bk
theorem Inv.fr (I:Inv X pins σ H s):∃ m,Fr X.base X.env.locals s.heap m :=
 let ⟨m,hn,_⟩:=I.loc
 ⟨m,hn,I.bk,Nat.le_trans I.ok.bsz I.ok.above⟩
theorem Inv.lt (I:Inv X pins σ H s):X.env.locals < s.heap.objs.size:=let ⟨_,hn,_⟩:=I.loc; hn.lt
theorem Inv.sz (I:Inv X pins σ H s):X.s₀.heap.objs.size≤s.heap.objs.size:=Nat.le_trans I.ok.above (Nat.le_of_lt I.lt)
theorem Inv.nofs (I:Inv X pins σ H s) {a:Addr} (h:s.heap.objs.size≤a):a∉X.fs:=fun hb=>by
 obtain ⟨_,o,ho,_⟩:=I.ok.funs.mem hb
 exact absurd (Nat.lt_of_lt_of_le (Heap.lt_size ho) (Nat.le_trans I.sz h)) (Nat.lt_irrefl _)
theorem Inv.cne (I:Inv X pins σ H s):∀ x c,X.env.cells.lookup x=some c→c≠X.env.locals:=fun x c e z=>by
 obtain ⟨v,o,ho,hd⟩:=I.cell x c e
 obtain ⟨m,⟨o',es,ep,ho',hd',_⟩,_⟩:=I.loc
 rw [z,ho'] at ho; cases ho; rw [hd'] at hd; cases hd
theorem Inv.funs (I:Inv X pins σ H s):s.heap.FunFrames X.base X.outer:=by
 have all:∀ (l:List Env),(∀ b∈frs l,b∈X.fs)→X.s₀.heap.FunFrames X.base l→s.heap.FunFrames X.base l:=by
  intro l
  induction l with
  | nil=>intro _ _; trivial
  | cons env r ih =>
   intro hs hl
   obtain ⟨hk,⟨L,o,hf,hn,ho,hd⟩,hr⟩:=hl
   have hL:L∈X.fs:=hs L (by unfold frs; rw [List.filterMap_cons,hf]; exact List.mem_cons_self)
   obtain ⟨sl,e⟩:=I.base.slot L o ho (I.ok.frf L hL) hL fun z=>I.ok.exfs L z hL
   exact ⟨hk,⟨L,_,hf,hn,e,hd⟩,ih (fun b hb=>hs b (by unfold frs; rw [List.filterMap_cons,hf]; exact List.mem_cons_of_mem _ hb)) hr⟩
 exact all X.outer (fun _ hb=>hb) I.ok.funs
theorem Inv.stack (I:Inv X pins σ H s):s.heap.FunFrames X.base X.stack:=by
 rcases I.ok.stk with e | ⟨e,hf⟩
 ·rw [e]; exact I.funs
 ·rw [e]
  obtain ⟨m,hn,_⟩:=I.loc
  refine .cons (by rw [I.ok.kind]; decide) hf hn ?_ I.funs
  exact Heap.get?_none_of_le (Nat.le_trans I.ok.bsz I.ok.above)
theorem Inv.stkSub (I:Inv X pins σ H s):∀ b∈frs X.stack,b∈X.env.locals::X.fs:=fun b hb=>by
 rcases I.ok.stk with e | ⟨e,hf⟩
 ·rw [e] at hb; exact List.mem_cons_of_mem _ hb
 ·rw [e] at hb
  unfold frs at hb
  rw [List.filterMap_cons,hf] at hb
  exact hb
theorem Inv.stkFree (I:Inv X pins σ H s):∀ b∈frs X.stack,H b=none:=fun b hb=>by
 rcases List.mem_cons.mp (I.stkSub b hb) with e | hb
 ·rw [e]; exact I.free
 ·obtain ⟨_,o,ho,_⟩:=I.ok.funs.mem hb
  exact I.base.free b o ho (I.ok.frf b hb) fun z=>I.ok.exfs b z hb
theorem Inv.step {g':Array GenState} {t':Nat} {d':Drawn} {ch:List Addr} (I:Inv X pins σ H s)
  (hch:∀ b∈ch,(b∈X.ex∨X.s₀.heap.objs.size≤b)∧b≠X.env.locals∧(∀ x c,X.env.cells.lookup x=some c→c≠b)∧∀ p∈X.pn++pins,p.1≠b)
  (keep:∀ b o,b≠X.env.locals→b∉X.fs→b∉ch→s.heap.get? b=some o→H b=none→h'.get? b=some o)
  (slot:∀ b o,b≠X.env.locals→b∈X.fs→b∉ch→s.heap.get? b=some o→H b=none→∃ sl,h'.get? b=some { o with slots:=sl}) (free:∀ b o,b∉ch→s.heap.get? b=some o→H b=none→H' b=none)
  (there:∀ b o,b∉ch→s.heap.get? b=some o→∃ o',h'.get? b=some o')
  (tups:∀ b xs,H b=some (.tup xs)→H' b=some (.tup xs)) (frzs:∀ b o u,H b=some (.frz o u)→H' b=some (.frz o u)) (tbls:∀ b ps,H b=some (.tbl ps)→∃ more,H' b=some (.tbl (ps++more)))
  (ns:∀ m,s.heap.Ns X.env.locals m→h'.Ns X.env.locals m) (hok:HOk X.prog X.w H' h') (hg:AllBare g') :
  Inv X pins σ H' { s with heap:=h',gens:=g',drawn:=d',toks:=t'}:=by
 have neL:∀ b o,X.s₀.heap.get? b=some o→b≠X.env.locals:=fun b o e=>Nat.ne_of_lt (Nat.lt_of_lt_of_le (Heap.lt_size e) I.ok.above)
 have neC:∀ b o,X.s₀.heap.get? b=some o→b∉X.ex→b∉ch:=fun b o e hx hb=>by
  rcases (hch b hb).1 with z | z
  ·exact hx z
  ·exact absurd (Nat.lt_of_lt_of_le (Heap.lt_size e) z) (Nat.lt_irrefl _)
 have cellK:∀ x c,X.env.cells.lookup x=some c→∀ v,s.heap.IsCell c v→h'.IsCell c v:=fun x c e v ⟨o,ho,hd⟩=>by
  have nch:c∉ch:=fun z=>(hch c z).2.2.1 x c e rfl
  by_cases hc:c∈X.fs
  ·obtain ⟨sl,q⟩:=slot c o (I.cne x c e) hc nch ho (I.freeC x c e)
   exact ⟨_,q,hd⟩
  ·exact ⟨o,keep c o (I.cne x c e) hc nch ho (I.freeC x c e),hd⟩
 refine ⟨I.ok,I.os,hg,⟨fun b o e n hb hx=>?_,fun b o e n hb hx=>?_,fun b o e n hx=>?_,fun b o e hx=>?_,fun b xs e=>tups b xs (I.base.tups b xs e),fun b o xs e=>frzs b o xs (I.base.frzs b o xs e),fun b ps e=>?_⟩,?_,fun x c e=>?_,?_,fun x c e=>?_,fun p hp=>?_,hok,I.len⟩
 ·exact keep b o (neL b o e) hb (neC b o e hx) (I.base.keep b o e n hb hx) (I.base.free b o e n hx)
 ·obtain ⟨sl,e1⟩:=I.base.slot b o e n hb hx
  obtain ⟨sl',e2⟩:=slot b _ (neL b o e) hb (neC b o e hx) e1 (I.base.free b o e n hx)
  exact ⟨sl',e2⟩
 ·obtain ⟨o',e1⟩:=I.base.there b o e hx
  exact free b o' (neC b o e hx) e1 (I.base.free b o e n hx)
 ·obtain ⟨o',e1⟩:=I.base.there b o e hx
  exact there b o' (neC b o e hx) e1
 ·obtain ⟨m1,e1⟩:=I.base.tbls b ps e
  obtain ⟨m2,e2⟩:=tbls b _ e1
  exact ⟨m1++m2,by rw [e2,Array.append_assoc]⟩
 ·obtain ⟨m,hn,hl⟩:=I.loc
  refine ⟨m,ns m hn,fun i x v e1 e2 e3=>?_⟩
  obtain ⟨u,r,l⟩:=hl i x v e1 e2 e3
  refine ⟨u,r,?_⟩
  rcases l with l | ⟨k,c,e,z⟩
  ·exact .inl l
  ·exact .inr ⟨k,c,e,cellK x c e _ z⟩
 ·obtain ⟨v,z⟩:=I.cell x c e
  exact ⟨v,cellK x c e v z⟩
 ·obtain ⟨m,⟨o,_,_,ho,_⟩,_⟩:=I.loc
  exact free _ o (fun z=>(hch _ z).2.1 rfl) ho I.free
 ·obtain ⟨v,o,ho,hd⟩:=I.cell x c e
  exact free c o (fun z=>(hch c z).2.2.1 x c e rfl) ho (I.freeC x c e)
 ·obtain ⟨e,n,ne,nf,d⟩:=I.pin p hp
  have nch:p.1∉ch:=fun z=>(hch p.1 z).2.2.2 p hp rfl
  exact ⟨keep p.1 p.2 ne nf nch e n,free p.1 p.2 nch e n,ne,nf,d⟩
theorem Inv.un {t':Nat} (I:Inv X pins σ H s) (u:Un X.fs [] H H' s.heap h') (hok:HOk X.prog X.w H' h'):Inv X pins σ H' { s with heap:=h',toks:=t'}:=by
 obtain ⟨m,⟨o,es,ep,ho,r⟩,_⟩:=id I.loc
 obtain ⟨sl,hL⟩:=u.any ho I.free (by simp)
 exact I.step (g':=s.gens) (d':=s.drawn) (ch:=[]) (fun _ z=>nomatch z) (fun b o _ hb _ e n=>u.keep b o e n hb (by simp)) (fun b o _ hb _ e n=>u.slot b o e n hb (by simp)) (fun b o _ e n=>u.free b o e n (by simp)) (fun b o _ e=>u.there b o e (by simp)) u.tups u.frzs u.tbls (fun m' hm=>by
  obtain ⟨o',es',ep',ho',r'⟩:=hm
  rw [ho] at ho'; cases ho'
  exact ⟨_,es',ep',hL,r'⟩) hok I.bare
theorem Inv.call {g':Array GenState} {t':Nat} {d':Drawn} {ch:List Addr} (I:Inv X pins σ H s) (u:Un (frs X.stack) ch H H' s.heap h') (hok:HOk X.prog X.w H' h') (hg:AllBare g')
  (hch:∀ b∈ch,(b∈X.ex∨X.s₀.heap.objs.size≤b)∧b≠X.env.locals∧(∀ x c,X.env.cells.lookup x=some c→c≠b)∧∀ p∈X.pn++pins,p.1≠b) :
  Inv X pins σ H' { s with heap:=h',gens:=g',drawn:=d',toks:=t'}:=by
 obtain ⟨m,⟨o,es,ep,ho,r⟩,_⟩:=id I.loc
 obtain ⟨sl,hL⟩:=u.any ho I.free fun z=>(hch _ z).2.1 rfl
 exact I.step (ch:=ch) hch (fun b o hL hb hc e n=>u.keep b o e n (fun z=>(List.mem_cons.mp (I.stkSub b z)).elim hL hb) hc) (fun b o _ _ hc e n=>u.any e n hc) (fun b o hc e n=>u.free b o e n hc) (fun b o hc e=>u.there b o e hc) u.tups u.frzs u.tbls (fun m' hm=>by
  obtain ⟨o',es',ep',ho',r'⟩:=hm
  rw [ho] at ho'; cases ho'
  exact ⟨_,es',ep',hL,r'⟩) hok hg
theorem Inv.turned {t':Nat} {it:Addr} (I:Inv X pins σ H s) (k:∀ b o,b≠it→s.heap.get? b=some o→h'.get? b=some o) (hn:H it=none) (hL:it≠X.env.locals)
  (h1:it∈X.ex∨X.s₀.heap.objs.size≤it) (h2:∀ x c,X.env.cells.lookup x=some c→c≠it) (h3:∀ p∈X.pn++pins,p.1≠it):Inv X pins σ H { s with heap:=h',toks:=t'}:=by
 have nit:∀ b u,H b=some u→b≠it:=fun b u e z=>by rw [z,hn] at e; cases e
 refine I.step (g':=s.gens) (d':=s.drawn) (ch:=[it]) (fun b hb=>?_) (fun b o _ _ hc e _=>k b o (fun z=>hc (by simp [z])) e) (fun b o _ _ hc e _=>⟨o.slots,k b o (fun z=>hc (by simp [z])) e⟩) (fun _ _ _ _ n=>n)
  (fun b o hc e=>⟨o,k b o (fun z=>hc (by simp [z])) e⟩) (fun _ _ e=>e) (fun _ _ _ e=>e) (fun b ps e=>⟨#[],by rw [e]; simp⟩) (fun m hm=>?_) (fun b u e=>?_) I.bare
 ·have e:b=it:=by simpa using hb
  subst e
  exact ⟨h1,hL,h2,h3⟩
 ·obtain ⟨o,es,ep,ho,r⟩:=hm
  exact ⟨o,es,ep,k _ o (Ne.symm hL) ho,r⟩
 ·refine (I.hok b u e).stay (fun c v hc q=>k c v ?_ q) (fun _ q=>q) fun _ _ q=>q
  rcases hc with z | z
  ·rw [z]; exact nit b u e
  ·exact nit c _ z
theorem Inv.tok (I:Inv X pins σ H s) (t:Nat):Inv X pins σ H { s with toks:=t}:=I.un (h':=s.heap) (t':=t) Un.refl I.hok
theorem Inv.kept {t':Nat} (I:Inv X pins σ H s) (k:∀ b u,s.heap.get? b=some u→h'.get? b=some u):Inv X pins σ H { s with heap:=h',toks:=t'}:=I.un (Un.kept k) (I.hok.kept k)
theorem Inv.laid {a:Addr} {o:HO} {t':Nat} (I:Inv X pins σ H s) (k:∀ b u,s.heap.get? b=some u→h'.get? b=some u) (hp:s.heap.objs.size≤a) (new:ObjOk X.prog X.w (upd H a o) h' a o) :
  Inv X pins σ (upd H a o) { s with heap:=h',toks:=t'}:=I.un (Un.laid k hp (I.hok.fresh hp)) (I.hok.laid k hp new)
theorem Inv.write {x e:Addr} {o:HO} {t':Nat} (I:Inv X pins σ H s) (mu:Mut (H x)) (he:e=x∨H e=some (.own x)) (k:∀ b u,b≠e→s.heap.get? b=some u→h'.get? b=some u) (heo:∃ u,h'.get? e=some u)
  (new:ObjOk X.prog X.w (upd H x o) h' x o):Inv X pins σ (upd H x o) { s with heap:=h',toks:=t'}:=I.un (Un.write mu he k heo) (I.hok.write mu he k heo new)
theorem Inv.weak {σ':List (Option V)} (I:Inv X pins σ H s) (hl:σ'.length=σ.length) (w:∀ (i:Nat) v,σ'[i]? = some (some v)→σ[i]? = some (some v)):Inv X pins σ' H s :=
 ⟨I.ok,I.os,I.bare,I.base,let ⟨m,hn,hl'⟩:=I.loc; ⟨m,hn,fun i x v e1 e2 e3=>hl' i x v e1 (w i v e2) e3⟩,I.cell,I.free,I.freeC,I.pin,I.hok,hl.trans I.len⟩
theorem Inv.pins_of {pins':List (Addr×Obj)} (I:Inv X pins σ H s) (h:∀ p∈pins',s.heap.get? p.1=some p.2∧H p.1=none∧p.1≠X.env.locals∧p.1∉X.fs∧∀ v,p.2.data≠.cell v):Inv X pins' σ H s :=
 ⟨I.ok,I.os,I.bare,I.base,I.loc,I.cell,I.free,I.freeC,fun p hp=>(List.mem_append.mp hp).elim (fun z=>I.pin p (List.mem_append_left _ z)) (h p),I.hok,I.len⟩
theorem zhn {N:List Str} (hN:N.Nodup) {i j:Nat} {x:Str} (a:N[i]? = some x) (b:N[j]? = some x):i=j:=by
 obtain ⟨h1,e1⟩:=List.getElem?_eq_some_iff.mp a
 obtain ⟨h2,e2⟩:=List.getElem?_eq_some_iff.mp b
 exact (List.getElem_inj hN).mp (e1.trans e2.symm)
theorem zjd {M:Model} {A:Around} {E:Value→Shared→Prop} {i:Nat} {x:Str} {v:V} {u:Value} {Q:Unit→Shared→Prop} (I:Inv X pins σ H s) (hN:X.N.Nodup) (hi:X.N[i]? = some x) (hx:Loc X.env.scope x) (r:RelV v u)
  (h:∀ s',Inv X pins (σ.set i (some v)) H s'→(∃ a,Heap.SameBut a s.heap s'.heap∧(a=X.env.locals∨X.env.cells.lookup x=some a))→Q () s') (hf:X.fn x=true∨X.env.scope.names.lookup x=some .local:=by first | exact .inl rfl | exact .inr rfl | assumption):wpAny M A (storeName X.env x u) Q E s:=by
 obtain ⟨m,hn,hl⟩:=id I.loc
 have hcls:(X.env.scope.kind == .class||(X.env.scope.kind == .module&&X.env.locals != X.env.globals))=false:=by rw [I.ok.kind]; rfl
 have hiσ:i < σ.length:=by rw [I.len]; exact (List.getElem?_eq_some_iff.mp hi).1
 have cne:=I.cne
 have tracked:∀ {a:Addr} {h':Heap},(∃ o,s.heap.get? a=some o∧H a=none)→Heap.SameBut a s.heap h'→HOk X.prog X.w H h':=fun {a h'} ha hs b ob e=>by
  obtain ⟨_,_,hfree⟩:=ha
  refine (I.hok b ob e).stay (fun c w' hc q=>(hs.2 c ?_).trans q) (fun _ q=>q) fun _ _ q=>q
  rintro rfl
  rcases hc with rfl | hc
  ·rw [hfree] at e; cases e
  ·rw [hfree] at hc; cases hc
 rcases hx with hk | hk
 ·refine wpAny_storeName_local hk hn (fun h' hn' hs=>?_) hcls
  obtain ⟨oL,_,_,hoL,_⟩:=id hn
  refine h _ ⟨I.ok,I.os,I.bare,⟨fun b o e n hb hx=>?_,fun b o e n hb hx=>?_,I.base.free,fun b o e hx=>?_,I.base.tups,I.base.frzs,I.base.tbls⟩,⟨_,hn',fun j y v' e1 e2 e3=>?_⟩,fun y c e=>?_,I.free,I.freeC,fun p hp=>?_,tracked ⟨oL,hoL,I.free⟩ hs,by simpa using I.len⟩ ⟨_,hs,.inl rfl⟩
  ·exact (hs.2 b (Nat.ne_of_lt (Nat.lt_of_lt_of_le (Heap.lt_size e) I.ok.above))).trans (I.base.keep b o e n hb hx)
  ·obtain ⟨sl,e1⟩:=I.base.slot b o e n hb hx
   exact ⟨sl,(hs.2 b (Nat.ne_of_lt (Nat.lt_of_lt_of_le (Heap.lt_size e) I.ok.above))).trans e1⟩
  ·obtain ⟨o',e1⟩:=I.base.there b o e hx
   exact ⟨o',(hs.2 b (Nat.ne_of_lt (Nat.lt_of_lt_of_le (Heap.lt_size e) I.ok.above))).trans e1⟩
  ·by_cases hj:j=i
   ·subst hj
    rw [hi] at e1; cases e1
    rw [List.getElem?_set_self hiσ] at e2
    cases e2
    exact ⟨u,r,.inl ⟨hk,by simp⟩⟩
   ·rw [List.getElem?_set_ne (Ne.symm hj)] at e2
    obtain ⟨u',r',q⟩:=hl j y v' e1 e2 e3
    refine ⟨u',r',?_⟩
    rcases q with ⟨k,e⟩ | ⟨k,c,e,z⟩
    ·refine .inl ⟨k,?_⟩
     have:y≠x:=fun e=>hj (zhn hN e1 (e▸hi))
     simp [this,e]
    ·exact .inr ⟨k,c,e,z.sameBut hs (cne y c e)⟩
  ·obtain ⟨w',z⟩:=I.cell y c e
   exact ⟨w',z.sameBut hs (cne y c e)⟩
  ·obtain ⟨e,n,ne,nf,d⟩:=I.pin p hp
   exact ⟨(hs.2 p.1 ne).trans e,n,ne,nf,d⟩
 ·have hfn:X.fn x=true:=by
   rcases hf with z | z
   ·exact z
   ·rw [z] at hk; cases hk
  obtain ⟨c,hc⟩:=I.ok.has x (.inl hk)
  obtain ⟨w',z⟩:=I.cell x c hc
  refine wpAny_storeName_cell I.ok.kind hk hc z (fun h' hc' hs=>?_)
  obtain ⟨oc,hoc,hocd⟩:=id z
  refine h { s with heap:=h'} ⟨I.ok,I.os,I.bare,⟨fun b o e n hb hx=>?_,fun b o e n hb hx=>?_,I.base.free,fun b o e hx=>?_,I.base.tups,I.base.frzs,I.base.tbls⟩,⟨m,hn.sameBut hs (Ne.symm (cne x c hc)),fun j y v' e1 e2 e3=>?_⟩,fun y c' e=>?_,I.free,I.freeC,fun p hp=>?_,tracked ⟨oc,hoc,I.freeC x c hc⟩ hs,by simpa using I.len⟩ ⟨c,hs,.inr hc⟩
  ·exact (hs.2 b (Nat.ne_of_lt (Nat.lt_of_lt_of_le (Heap.lt_size e) (I.ok.cab x c hfn hc)))).trans (I.base.keep b o e n hb hx)
  ·obtain ⟨sl,e1⟩:=I.base.slot b o e n hb hx
   exact ⟨sl,(hs.2 b (Nat.ne_of_lt (Nat.lt_of_lt_of_le (Heap.lt_size e) (I.ok.cab x c hfn hc)))).trans e1⟩
  ·obtain ⟨o',e1⟩:=I.base.there b o e hx
   exact ⟨o',(hs.2 b (Nat.ne_of_lt (Nat.lt_of_lt_of_le (Heap.lt_size e) (I.ok.cab x c hfn hc)))).trans e1⟩
  ·by_cases hj:j=i
   ·subst hj
    rw [hi] at e1; cases e1
    rw [List.getElem?_set_self hiσ] at e2
    cases e2
    exact ⟨u,r,.inr ⟨.inl hk,c,hc,hc'⟩⟩
   ·rw [List.getElem?_set_ne (Ne.symm hj)] at e2
    obtain ⟨u',r',q⟩:=hl j y v' e1 e2 e3
    refine ⟨u',r',?_⟩
    rcases q with q | ⟨k,c',e,z'⟩
    ·exact .inl q
    ·refine .inr ⟨k,c',e,z'.sameBut hs ?_⟩
     rintro rfl
     exact hj (zhn hN e1 (I.ok.inj _ _ _ e hc▸hi))
  ·by_cases hcc:c'=c
   ·subst hcc; exact ⟨_,hc'⟩
   ·obtain ⟨w2,z2⟩:=I.cell y c' e
    exact ⟨w2,z2.sameBut hs hcc⟩
  ·obtain ⟨e,n,ne,nf,d⟩:=I.pin p hp
   refine ⟨(hs.2 p.1 ?_).trans e,n,ne,nf,d⟩
   intro q
   rw [q,hoc] at e
   have q':oc=p.2:=Option.some.inj e
   exact d w' (by rw [← q']; exact hocd)
theorem zly {M:Model} {A:Around} {E:Value→Shared→Prop} {i:Nat} {x:Str} {v:V} {u:Value} {Q:Unit→Shared→Prop} (I:Inv X pins σ H s) (hN:X.N.Nodup) (hi:X.N[i]? = some x) (hx:Loc X.env.scope x) (r:RelV v u)
  (h:∀ s',Inv X pins (σ.set i (some v)) H s'→Q () s') (hf:X.fn x=true∨X.env.scope.names.lookup x=some .local:=by first | exact .inl rfl | exact .inr rfl | assumption):wpAny M A (storeName X.env x u) Q E s :=
 zjd I hN hi hx r (fun s' I' _=>h s' I') hf
theorem Inv.call' {s':Shared} {ch:List Addr} (I:Inv X pins σ H s) (ho:s'.os=s.os) (u:Un (frs X.stack) ch H H' s.heap s'.heap) (hok:HOk X.prog X.w H' s'.heap) (hg:AllBare s'.gens)
  (hch:∀ b∈ch,(b∈X.ex∨X.s₀.heap.objs.size≤b)∧b≠X.env.locals∧(∀ x c,X.env.cells.lookup x=some c→c≠b)∧∀ p∈X.pn++pins,p.1≠b):Inv X pins σ H' s':=by
 obtain ⟨h',g',d',t',o'⟩:=s'
 have e:o'=s.os:=ho
 subst e
 exact I.call (g':=g') (t':=t') (d':=d') u hok hg hch
end
abbrev XK:=Value→Option Addr→Hp→Prop
abbrev St:=List (Option V)
abbrev VK:=V→Hp→Prop
abbrev TE:=St→Hp→VK→Prop
abbrev TT:=St→Hp→(Bool→Hp→Prop)→Prop
abbrev TA:=St→Hp→(List V→Hp→Prop)→Prop
structure Ends where
 nx:St→Hp→Prop
 rt:VK
 bk:St→Hp→Prop:=fun _ _=>False
 ct:St→Hp→Prop:=fun _ _=>False
abbrev TS:=Ends→St→Hp→Prop
inductive EP (X:Cx) (pins:List (Addr×Obj)) (σ:St) (Q:VK) (u:Value) (s':Shared):Prop
 | mk (v:V) (H':Hp) (I:Inv X pins σ H' s') (r:RelV v u) (q:Q v H')
inductive TP (X:Cx) (pins:List (Addr×Obj)) (σ:St) (Q:Bool→Hp→Prop) (b:Bool) (s':Shared):Prop
 | mk (H':Hp) (I:Inv X pins σ H' s') (q:Q b H')
inductive AP (X:Cx) (pins:List (Addr×Obj)) (σ:St) (Q:List V→Hp→Prop) (us:List Value) (s':Shared):Prop
 | mk (vs:List V) (H':Hp) (I:Inv X pins σ H' s') (r:Vals vs us) (q:Q vs H')
def SP (X:Cx) (pins:List (Addr×Obj)) (D:Ends) (f:Flow) (s':Shared):Prop :=
 match f with
 | .next=>∃ σ' H',Inv X pins σ' H' s'∧D.nx σ' H'
 | .brk=>∃ σ' H',Inv X pins σ' H' s'∧D.bk σ' H'
 | .cont=>∃ σ' H',Inv X pins σ' H' s'∧D.ct σ' H'
 | .ret u=>∃ v σ' H',Inv X pins σ' H' s'∧RelV v u∧D.rt v H'
def PE (X:Cx) (e:Expr) (t:TE):Prop :=
 ∀ (pins:List (Addr×Obj)) (s:Shared) (σ:St) (H:Hp) (Q:VK),Inv X pins σ H s→t σ H Q→wpAny (model X.prog X.w) X.A (eval e X.env) (EP X pins σ Q) X.xe s
def PT (X:Cx) (e:Expr) (t:TT):Prop :=
 ∀ (pins:List (Addr×Obj)) (s:Shared) (σ:St) (H:Hp) (Q:Bool→Hp→Prop),Inv X pins σ H s→t σ H Q→wpAny (model X.prog X.w) X.A (isTrue e X.env (eval e X.env)) (TP X pins σ Q) X.xe s
def PW (X:Cx) (e:Expr) (t:TT):Prop :=
 ∀ (whole:Sem Value) (pins:List (Addr×Obj)) (s:Shared) (σ:St) (H:Hp) (Q:Bool→Hp→Prop),Inv X pins σ H s→t σ H Q→wpAny (model X.prog X.w) X.A (isTrue e X.env whole) (TP X pins σ Q) X.xe s
theorem PW.pt {X:Cx} {e:Expr} {t:TT} (h:PW X e t):PT X e t:=h _
def PA (X:Cx) (es:List Expr) (t:TA):Prop :=
 ∀ (pos:Pos) (pins:List (Addr×Obj)) (s:Shared) (σ:St) (H:Hp) (Q:List V→Hp→Prop),Inv X pins σ H s→t σ H Q→wpAny (model X.prog X.w) X.A (spliced (backTo pos (starEach es X.env))) (AP X pins σ Q) X.xe s
def PS (X:Cx) (st:Stmt) (t:TS):Prop :=
 ∀ (pins:List (Addr×Obj)) (s:Shared) (σ:St) (H:Hp) (D:Ends),Inv X pins σ H s→t D σ H→wpAny (model X.prog X.w) X.A (exec st X.env) (SP X pins D) X.xe s
def PSs (X:Cx) (st:List Stmt) (t:TS):Prop :=
 ∀ (pins:List (Addr×Obj)) (s:Shared) (σ:St) (H:Hp) (D:Ends),Inv X pins σ H s→t D σ H→wpAny (model X.prog X.w) X.A (execs st X.env) (SP X pins D) X.xe s
theorem thn {α:Type} {t:Sem α} {Q Q':α→Shared→Prop} {M:Model} {A:Around} {E:Value→Shared→Prop} {s:Shared} (h:wpAny M A t Q E s) (hQ:∀ a s,Q a s→Q' a s):wpAny M A t Q' E s:=wpAny_mono h hQ fun _ _ x=>x
end L2
namespace L2
open PySem PySem.Spec PyProof.Rows
section
variable {X:Cx}
theorem bin {a b:Expr} {ta tb:TE} (ha:PE X a ta) (hb:PE X b tb) {pins:List (Addr×Obj)} {s:Shared} {σ:St} {H:Hp} {R:V→V→Hp→Prop} (I:Inv X pins σ H s) (h:ta σ H fun x H1=>tb σ H1 fun y H2=>R x y H2)
  {α:Type} {Q:α→Shared→Prop} {f:Value→Value→Sem α}
  (hf:∀ v u s2 x y H2,Inv X pins σ H2 s2→RelV x v→RelV y u→R x y H2→wpAny (model X.prog X.w) X.A (f v u) Q X.xe s2) :
  wpAny (model X.prog X.w) X.A (eval a X.env) (fun v s₁=>wpAny (model X.prog X.w) X.A (eval b X.env) (fun u s₂=>wpAny (model X.prog X.w) X.A (f v u) Q X.xe s₂) X.xe s₁) X.xe s:=by
 refine thn (ha pins s σ H _ I h) fun v s1 ⟨x,H1,I1,r1,q1⟩=>?_
 refine thn (hb pins s1 σ H1 _ I1 q1) fun u s2 ⟨y,H2,I2,r2,q2⟩=>?_
 exact hf v u s2 x y H2 I2 r1 r2 q2
def tVar (i:Nat):TE:=fun σ H Q=>∃ v,σ[i]? = some (some v)∧Q v H
def tC (v:V):TE:=fun _ H Q=>Q v H
theorem zdm {i:Nat} {x:Str} {pos:Pos} (hN:X.N[i]? = some x) (hv:Vis X.env.scope x) (hd:(x==("__debug__" : Str))=false:=by decide) (hcd:(x==("__classdict__" : Str))=false:=by decide):PE X (.Name x pos) (tVar i):=by
 intro pins s σ H Q I h
 obtain ⟨v,e,h⟩:=h
 obtain ⟨m,hn,hl⟩:=I.loc
 obtain ⟨u,r,l⟩:=hl i x v hN e hv
 have fin:EP X pins σ Q u s:=⟨v,H,I,r,h⟩
 rcases l with ⟨hk,hm⟩ | ⟨hk,c,hc,hcell⟩
 ·exact wpAny_Name (wpAny_loadName_local I.ok.kind hk hn hm fin) hd
 ·rcases hk with hk | hk
  ·exact wpAny_Name (wpAny_loadName_cell I.ok.kind hk hc hcell fin) hd
  ·exact wpAny_Name (wpAny_loadName_free I.ok.kind hk hc hcell fin hcd) hd
theorem zpt {i j pos}:PE X (.Constant (.int i) j pos) (tC (.int i)):=fun _ _ _ H _ I h=>wpAny_Constant_int ⟨.int i,H,I.tok _,⟨_,rfl⟩,h⟩
theorem zr9 {b j pos}:PE X (.Constant (.bool b) j pos) (tC (.bl b)):=fun _ _ _ H _ I h=>Constant_bool ⟨.bl b,H,I,rfl,h⟩
theorem zqu {j pos}:PE X (.Constant .none j pos) (tC .non):=fun _ _ _ H _ I h=>Constant_none ⟨.non,H,I,rfl,h⟩
theorem zq2 {x j pos}:PE X (.Constant (.str x) j pos) (tC (.str x)):=fun _ _ _ H _ I h=>Calls.Constant_str ⟨.str x,H,I.tok _,⟨_,rfl⟩,h⟩
def Gl (X:Cx) (x:Str):Prop:=X.env.kindOf x=some .globalImplicit
theorem zko {E:Value→Shared→Prop} {pins:List (Addr×Obj)} {s:Shared} {σ:St} {H:Hp} {x:Str} {u:Value} {pos:Pos} {Q:Value→Shared→Prop} (I:Inv X pins σ H s) (hg:Gl X x) (hm:X.mg x=some u) (h:Q u s)
  (hd:(x==("__debug__" : Str))=false:=by decide):wpAny (model X.prog X.w) X.A (eval (.Name x pos) X.env) Q E s :=
 Calls.Name_function_global I.ok.kind hg (Calls.loadGlobal_global (by rw [I.ok.glob]; exact I.mod.glob.keeps I.bk) hm h) hd
theorem zce {E:Value→Shared→Prop} {pins:List (Addr×Obj)} {s:Shared} {σ:St} {H:Hp} {x:Str} {u:Value} {pos:Pos} {Q:Value→Shared→Prop} (I:Inv X pins σ H s) (hg:Gl X x) (hm:X.mg x=none) (hv:bootBuiltins x=some u) (h:Q u s)
  (hn:x≠"__name__":=by decide) (hd:(x==("__debug__" : Str))=false:=by decide):wpAny (model X.prog X.w) X.A (eval (.Name x pos) X.env) Q E s:=by
 obtain ⟨mb,h1,h2⟩:=I.mod.blt
 exact Calls.Name_function_global I.ok.kind hg (Calls.loadGlobal_builtin (by rw [I.ok.glob]; exact I.mod.glob.keeps I.bk) hm (by rw [I.ok.blt]; exact h1.keeps I.bk) ((h2 x hn).trans hv) h) hd
theorem zpa {x:Str} {v:V} {u:Value} {pos:Pos} (hg:Gl X x) (hm:X.mg x=some u) (r:RelV v u) (hd:(x==("__debug__" : Str))=false:=by decide):PE X (.Name x pos) (tC v) :=
 fun _ _ _ H _ I h=>zko I hg hm ⟨v,H,I,r,h⟩ hd
theorem zow {x:Str} {v:V} {u:Value} {pos:Pos} (hg:Gl X x) (hm:X.mg x=none) (hv:bootBuiltins x=some u) (r:RelV v u) (hn:x≠"__name__":=by decide) (hd:(x==("__debug__" : Str))=false:=by decide):PE X (.Name x pos) (tC v) :=
 fun _ _ _ H _ I h=>zce I hg hm hv ⟨v,H,I,r,h⟩ hn hd
variable {a b:Expr} {ta tb:TE} {pos:Pos}
variable {tA tB':TT} {rest:List Expr}
def tAnd (t u:TT):TT:=fun σ H Q=>t σ H fun c H1=>if c=true then u σ H1 Q else Q false H1
def tOr (t u:TT):TT:=fun σ H Q=>t σ H fun c H1=>if c=true then Q true H1 else u σ H1 Q
def tNot (t:TT):TT:=fun σ H Q=>t σ H fun c H1=>Q (!c) H1
theorem pw_and1 (ha:PT X a tA):PW X (.BoolOp .And [a] pos) tA:=by
 intro wh pins s σ H Q I h
 refine isTrue_and (thn (ha pins s σ H Q I h) fun c s1 e=>?_)
 cases c with
 | true=>exact isTrue_and_nil e
 | false=>exact e
theorem pw_or1 (ha:PT X a tA):PW X (.BoolOp .Or [a] pos) tA:=by
 intro wh pins s σ H Q I h
 refine isTrue_or (thn (ha pins s σ H Q I h) fun c s1 e=>?_)
 cases c with
 | false=>exact isTrue_or_nil e
 | true=>exact e
theorem pw_and (ha:PT X a tA) (hb:PW X (.BoolOp .And (b::rest) pos) tB'):PW X (.BoolOp .And (a::b::rest) pos) (tAnd tA tB'):=by
 intro wh pins s σ H Q I h
 refine isTrue_and (thn (ha pins s σ H _ I h) fun c s1 ⟨H1,I1,q1⟩=>?_)
 cases c with
 | true=>exact hb wh pins s1 σ H1 Q I1 q1
 | false=>exact ⟨H1,I1,q1⟩
theorem pw_or (ha:PT X a tA) (hb:PW X (.BoolOp .Or (b::rest) pos) tB'):PW X (.BoolOp .Or (a::b::rest) pos) (tOr tA tB'):=by
 intro wh pins s σ H Q I h
 refine isTrue_or (thn (ha pins s σ H _ I h) fun c s1 ⟨H1,I1,q1⟩=>?_)
 cases c with
 | true=>exact ⟨H1,I1,q1⟩
 | false=>exact hb wh pins s1 σ H1 Q I1 q1
theorem zqz (ha:PT X a tA):PT X (.UnaryOp .Not a pos) (tNot tA):=by
 intro pins s σ H Q I h
 exact isTrue_not (thn (ha pins s σ H (fun c H1=>Q (!c) H1) I h) fun _ _ ⟨H',I',q⟩=>⟨H',I',q⟩)
def tAndV (ta tb:TE):TE:=fun σ H Q=>ta σ H fun x H1=>∃ c,x=.bl c∧if c=true then tb σ H1 Q else Q (.bl false) H1
def tOrV (ta tb:TE):TE:=fun σ H Q=>ta σ H fun x H1=>∃ c,x=.bl c∧if c=true then Q (.bl true) H1 else tb σ H1 Q
theorem znl {op} {t:TE} (h:PE X a t):PE X (.BoolOp op [a] pos) t:=fun pins s σ H Q I hw=>BoolOp_one (h pins s σ H Q I hw)
theorem zrl (ha:PE X a ta) (hb:PE X (.BoolOp .And (b::rest) pos) tb):PE X (.BoolOp .And (a::b::rest) pos) (tAndV ta tb):=by
 intro pins s σ H Q I h
 refine BoolOp_and (thn (ha pins s σ H _ I h) fun v s1 ⟨x,H1,I1,r1,q1⟩=>?_)
 obtain ⟨c,rfl,q1⟩:=q1
 cases r1
 refine wpAny_truthy_bool ?_
 cases c with
 | true=>exact hb pins s1 σ H1 Q I1 q1
 | false=>exact ⟨.bl false,H1,I1,rfl,q1⟩
theorem zsr (ha:PE X a ta) (hb:PE X (.BoolOp .Or (b::rest) pos) tb):PE X (.BoolOp .Or (a::b::rest) pos) (tOrV ta tb):=by
 intro pins s σ H Q I h
 refine BoolOp_or (thn (ha pins s σ H _ I h) fun v s1 ⟨x,H1,I1,r1,q1⟩=>?_)
 obtain ⟨c,rfl,q1⟩:=q1
 cases r1
 refine wpAny_truthy_bool ?_
 cases c with
 | false=>exact hb pins s1 σ H1 Q I1 q1
 | true=>exact ⟨.bl true,H1,I1,rfl,q1⟩
end
end L2
namespace L2
open PySem PySem.Spec PyProof.Rows
def SqL (K:Frag) (H:Hp) (a:Addr) (xs:List V):Prop :=
 Rd H a (.lst xs) ∨
  ∃ (o:Obj) (its:Array Value) (n:Nat),K.lookup a=some o∧o.cls=.type "list"∧o.dict=none∧o.data=.seq its n∧its.size≤sizeLine∧Vals xs its.toList
def SqT (K:Frag) (H:Hp) (a:Addr) (xs:List V):Prop :=
 Rd H a (.tup xs) ∨
  ∃ (o:Obj) (its:Array Value) (n:Nat),K.lookup a=some o∧o.cls=.type "tuple"∧o.data=.seq its n∧its.size≤sizeLine∧Vals xs its.toList
def absV:Value→Option V
 | .none=>some .non
 | .bool b=>some (.bl b)
 | .int i _=>some (.int i)
 | .str x _=>some (.str x)
 | .bytes b _=>some (.byt b)
 | .float b _=>some (.flt b)
 | .ref a=>some (.ref a)
 | .type n=>some (.ty n)
 | _=>none
theorem RelV.abs {x:V} {u:Value} (r:RelV x u):absV u=some x:=by
 cases x with
 | non=>cases r; rfl
 | bl _=>cases r; rfl
 | int _=>obtain ⟨t,rfl⟩:=r; rfl
 | str _=>obtain ⟨t,rfl⟩:=r; rfl
 | byt _=>obtain ⟨t,rfl⟩:=r; rfl
 | flt _=>obtain ⟨t,rfl⟩:=r; rfl
 | ref _=>cases r; rfl
 | ty _=>cases r; rfl
theorem RelV.inj {x y:V} {u:Value} (r:RelV x u) (q:RelV y u):x=y:=Option.some.inj (r.abs.symm.trans q.abs)
theorem Vals.inj:∀ {xs ys:List V} {us:List Value},Vals xs us→Vals ys us→xs=ys
 | _,_,_,.nil,.nil=>rfl
 | _,_,_,.cons r t,.cons r' t'=>by rw [r.inj r',Vals.inj t t']
section
variable {X:Cx} {pins:List (Addr×Obj)} {σ:St} {H:Hp} {s:Shared} {a:Addr} {xs ys:List V}
theorem SqL.of {K:Frag} (h:H a=some (.lst xs)):SqL K H a xs:=.inl (.inl h)
theorem SqT.of {K:Frag} (h:H a=some (.tup xs)):SqT K H a xs:=.inl (.inl h)
theorem Inv.list (I:Inv X pins σ H s) (h:SqL X.K H a xs):∃ its:List Value,Vals xs its∧PlainL s.heap a its.toArray∧xs.length≤sizeLine:=by
 rcases h with h | ⟨o,its,n,hk,hc,hd,hs,hz,r⟩
 ·obtain ⟨z,its,n,r,e⟩:=h.ok I.hok
  exact ⟨its,r,⟨_,n,e,rfl,rfl,rfl⟩,z⟩
 ·refine ⟨its.toList,r,⟨o,n,I.kIn a o hk,hc,hd,by simpa using hs⟩,?_⟩
  have e:=r.length
  simp only [Array.length_toList] at e
  lia
theorem Inv.tuple (I:Inv X pins σ H s) (h:SqT X.K H a xs):∃ its:List Value,Vals xs its∧IsTup s.heap a its.toArray∧xs.length≤sizeLine:=by
 rcases h with h | ⟨o,its,n,hk,hc,hs,hz,r⟩
 ·obtain ⟨z,its,r,p⟩:=h.ok I.hok
  exact ⟨its,r,p.1,z⟩
 ·refine ⟨its.toList,r,⟨o,I.kIn a o hk,hc,n,by simpa using hs⟩,?_⟩
  have e:=r.length
  simp only [Array.length_toList] at e
  lia
theorem Inv.list_inj (I:Inv X pins σ H s) (h:SqL X.K H a xs) (h':SqL X.K H a ys):xs=ys:=by
 obtain ⟨its,r,⟨o,n,e,_,_,d⟩,_⟩:=I.list h
 obtain ⟨its',r',⟨o',n',e',_,_,d'⟩,_⟩:=I.list h'
 rw [e] at e'; cases e'
 rw [d] at d'
 injection d' with d1 _
 have:its=its':=by simpa using congrArg Array.toList d1
 subst this
 exact r.inj r'
theorem Inv.tuple_inj (I:Inv X pins σ H s) (h:SqT X.K H a xs) (h':SqT X.K H a ys):xs=ys:=by
 obtain ⟨its,r,⟨o,e,_,n,d⟩,_⟩:=I.tuple h
 obtain ⟨its',r',⟨o',e',_,n',d'⟩,_⟩:=I.tuple h'
 rw [e] at e'; cases e'
 rw [d] at d'
 injection d' with d1 _
 have:its=its':=by simpa using congrArg Array.toList d1
 subst this
 exact r.inj r'
end
abbrev Cx.wish (X:Cx) (E:Value→Shared→Prop):Cx:={ X with xe:=E}
abbrev Cx.nox (X:Cx):Cx:=X.wish fun _ _=>False
theorem Cx.Ok.wish {X:Cx} (ok:X.Ok) (E:Value→Shared→Prop):(X.wish E).Ok :=
 ⟨ok.mod,ok.kind,ok.glob,ok.blt,ok.above,ok.inj,ok.has,ok.cab,ok.hd,ok.frames,ok.stk,ok.exf,ok.bs,ok.bsz,ok.noex,ok.exfs,ok.funs,ok.frf⟩
theorem Cx.Ok.unwish {X:Cx} {E:Value→Shared→Prop} (ok:(X.wish E).Ok):X.Ok :=
 ⟨ok.mod,ok.kind,ok.glob,ok.blt,ok.above,ok.inj,ok.has,ok.cab,ok.hd,ok.frames,ok.stk,ok.exf,ok.bs,ok.bsz,ok.noex,ok.exfs,ok.funs,ok.frf⟩
section
variable {X:Cx} {pins:List (Addr×Obj)} {σ:St} {H:Hp} {s:Shared} {E:Value→Shared→Prop}
theorem Inv.wish (I:Inv X pins σ H s) (E:Value→Shared→Prop):Inv (X.wish E) pins σ H s:=⟨I.ok.wish E,I.os,I.bare,I.base,I.loc,I.cell,I.free,I.freeC,I.pin,I.hok,I.len⟩
theorem Inv.unwish (I:Inv (X.wish E) pins σ H s):Inv X pins σ H s:=⟨I.ok.unwish,I.os,I.bare,I.base,I.loc,I.cell,I.free,I.freeC,I.pin,I.hok,I.len⟩
theorem SP.unwish {D:Ends} {f:Flow} {s':Shared} (h:SP (X.wish E) pins D f s'):SP X pins D f s':=by
 cases f with
 | next=>obtain ⟨σ',H',I,q⟩:=h; exact ⟨σ',H',I.unwish,q⟩
 | brk=>obtain ⟨σ',H',I,q⟩:=h; exact ⟨σ',H',I.unwish,q⟩
 | cont=>obtain ⟨σ',H',I,q⟩:=h; exact ⟨σ',H',I.unwish,q⟩
 | ret u=>obtain ⟨v,σ',H',I,r,q⟩:=h; exact ⟨v,σ',H',I.unwish,r,q⟩
theorem PE.nox {e:Expr} {t:TE} (h:PE X.nox e t):PE X e t:=fun pins s σ H Q I hw =>
 wpAny_mono (h pins s σ H Q (I.wish _) hw) (fun _ _ ⟨v,H',I',r,q⟩=>⟨v,H',I'.unwish,r,q⟩) fun _ _ z=>False.elim z
theorem PT.nox {e:Expr} {t:TT} (h:PT X.nox e t):PT X e t:=fun pins s σ H Q I hw =>
 wpAny_mono (h pins s σ H Q (I.wish _) hw) (fun _ _ ⟨H',I',q⟩=>⟨H',I'.unwish,q⟩) fun _ _ z=>False.elim z
theorem PSs.nox {st:List Stmt} {t:TS} (h:PSs X.nox st t):PSs X st t:=fun pins s σ H D I hw =>
 wpAny_mono (h pins s σ H D (I.wish _) hw) (fun _ _ q=>q.unwish) fun _ _ z=>False.elim z
end
section
variable {X:Cx} {st:Stmt} {rest:List Stmt} {t u:TS} {e:Expr} {te:TE} {pos:Pos}
def tNext:TS:=fun D σ H=>D.nx σ H
def tSeq (t u:TS):TS:=fun D σ H=>t { D with nx:=u D} σ H
theorem znx:PSs X [] tNext:=fun _ _ σ H _ I h=>wpAny_execs_nil ⟨σ,H,I,h⟩
theorem zln (h1:PS X st t) (h2:PSs X rest u):PSs X (st::rest) (tSeq t u):=by
 intro pins s σ H D I h
 refine wpAny_execs_cons (thn (h1 pins s σ H { D with nx:=u D} I h) fun f s1 q=>?_)
 cases f with
 | next =>
  obtain ⟨σ',H',I',q⟩:=q
  exact h2 pins s1 σ' H' D I' q
 | ret v=>exact q
 | brk=>exact q
 | cont=>exact q
def tBreak:TS:=fun D σ H=>D.bk σ H
def tCont:TS:=fun D σ H=>D.ct σ H
theorem zok:PS X (.Pass pos) tNext:=fun _ _ σ H _ I h=>wpAny_Pass ⟨σ,H,I,h⟩
theorem zmg:PS X (.Break pos) tBreak:=fun _ _ σ H _ I h=>wpAny_Break ⟨σ,H,I,h⟩
theorem zgl:PS X (.Continue pos) tCont:=fun _ _ σ H _ I h=>wpAny_Continue ⟨σ,H,I,h⟩
theorem Inv.quiet {pins:List (Addr×Obj)} {σ:St} {H:Hp} {s:Shared} (I:Inv X pins σ H s):interactive X.env=false:=by simp [interactive,I.ok.kind]
def tDrop (te:TE):TS:=fun D σ H=>te σ H fun _ H1=>D.nx σ H1
theorem zj8 (he:PE X e te) (hs:swapsWith e none pos.line X.env=pure false:=by rfl):PS X (.Expr e pos) (tDrop te):=by
 intro pins s σ H D I h
 exact wpAny_Expr_any (thn (he pins s σ H _ I h) fun v s1 ⟨x,H1,I1,r1,q1⟩=>⟨σ,H1,I1,q1⟩) I.quiet hs
def tRet (te:TE):TS:=fun D σ H=>te σ H D.rt
theorem zm5 (he:PE X e te):PS X (.Return (some e) pos) (tRet te):=by
 intro pins s σ H D I h
 exact wpAny_Return_some (thn (he pins s σ H _ I h) fun v s1 ⟨x,H1,I1,r1,q1⟩=>⟨x,σ,H1,I1,r1,q1⟩)
def tIfS (c:TT) (t u:TS):TS:=fun D σ H=>c σ H fun b H1=>if b=true then t D σ H1 else u D σ H1
theorem zsd {c:Expr} {a b:List Stmt} {tc:TT} (hc:PT X c tc) (ha:PSs X a t) (hb:PSs X b u):PS X (.If c a b pos) (tIfS tc t u):=by
 intro pins s σ H D I h
 refine wpAny_If (thn (hc pins s σ H _ I h) fun d s1 ⟨H1,I1,q1⟩=>?_)
 cases d with
 | true=>exact ha pins s1 σ H1 D I1 q1
 | false=>exact hb pins s1 σ H1 D I1 q1
end
abbrev TG:=V→St→Hp→(St→Hp→Prop)→Prop
abbrev TGs:=List V→St→Hp→(St→Hp→Prop)→Prop
def PG (X:Cx) (target:Expr) (t:TG):Prop :=
 ∀ (pins:List (Addr×Obj)) (s:Shared) (σ:St) (H:Hp) (v:V) (u:Value) (Q:St→Hp→Prop),Inv X pins σ H s→RelV v u→t v σ H Q →
  wpAny (model X.prog X.w) X.A (assign target X.env u) (fun _ s'=>∃ σ' H',Inv X pins σ' H' s'∧Q σ' H') X.xe s
def PGs (X:Cx) (ts:List Expr) (t:TGs):Prop :=
 ∀ (pins:List (Addr×Obj)) (s:Shared) (σ:St) (H:Hp) (vs:List V) (us:List Value) (Q:St→Hp→Prop),Inv X pins σ H s→Vals vs us→t vs σ H Q →
  wpAny (model X.prog X.w) X.A (assignInOrder ((assignEach ts X.env).map (·.2)) us) (fun _ s'=>∃ σ' H',Inv X pins σ' H' s'∧Q σ' H') X.xe s
abbrev TSet:=V→V→V→Hp→(Hp→Prop)→Prop
section
variable {X:Cx} {pos:Pos}
def gName (i:Nat):TG:=fun v σ H Q=>Q (σ.set i (some v)) H
theorem zfz {i:Nat} {x:Str} (hN:X.N.Nodup) (hi:X.N[i]? = some x) (hx:Loc X.env.scope x) (hf:X.fn x=true∨X.env.scope.names.lookup x=some .local:=by first | exact .inl rfl | exact .inr rfl | assumption):PG X (.Name x pos) (gName i):=by
 intro pins s σ H v u Q I r h
 exact wpAny_assign_Name (zly I hN hi hx r (fun s' I'=>⟨_,H,I',h⟩) hf)
def gNil:TGs:=fun vs σ H Q=>vs=[]∧Q σ H
def gCons (t:TG) (u:TGs):TGs:=fun vs σ H Q=>∃ v r,vs=v::r∧t v σ H fun σ' H'=>u r σ' H' Q
theorem zo3:PGs X [] gNil:=by
 intro pins s σ H vs us Q I r h
 obtain ⟨e,h⟩:=h
 subst e
 cases r
 exact assignInOrder_nil ⟨σ,H,I,h⟩
theorem zl2 {e:Expr} {es:List Expr} {t:TG} {u:TGs} (h1:PG X e t) (h2:PGs X es u)
  (hs:(assignEach (e::es) X.env).map (·.2)=assign e X.env::(assignEach es X.env).map (·.2):=by rfl):PGs X (e::es) (gCons t u):=by
 intro pins s σ H vs us Q I r h
 obtain ⟨v,vr,e1,h⟩:=h
 subst e1
 cases r with
 | cons r rr =>
  rw [hs]
  refine assignInOrder_cons (thn (h1 pins s σ H _ _ _ I r h) fun _ s1 ⟨σ1,H1,I1,q1⟩=>?_)
  exact h2 pins s1 σ1 H1 _ _ Q I1 rr q1
def gTup (K:Frag) (n:Nat) (t:TGs):TG:=fun v σ H Q=>∃ a xs,v=.ref a∧SqT K H a xs∧xs.length=n∧t xs σ H Q
theorem zq9 {es:List Expr} {k:Nat} {t:TGs} {n:Nat} (hc:X.calm=true) (h:PGs X es t)
  (hn:(assignEach es X.env).length=n:=by rfl) (hst:(assignEach es X.env).findIdx? (·.1)=none:=by rfl):PG X (.Tuple es k pos) (gTup X.K n t):=by
 intro pins s σ H v u Q I r hw
 obtain ⟨a,xs,e1,hq,hl,hw⟩:=hw
 subst e1
 cases r
 obtain ⟨its,rv,ht,hz⟩:=I.tuple hq
 refine assign_Tuple_tuple (I.ok.hd hc) ht (by simp [hn,← hl,rv.length]) hst fun h' hx=>?_
 have I1:Inv X pins σ H { s with heap:=h'}:=I.kept (t':=s.toks) fun b o e=>hx b o (Nat.ne_of_lt (Heap.lt_size e)) e
 exact h pins _ σ H xs _ Q I1 (by simpa using rv) hw
def tAsg (te:TE) (g:TG):TS:=fun D σ H=>te σ H fun x H1=>g x σ H1 D.nx
theorem zj2 {tg e:Expr} {te:TE} {g:TG} (he:PE X e te) (hg:PG X tg g) (hs:swapsWithSole [tg] e pos.line X.env=pure false:=by rfl) (hw:swappedStores [tg] e X.env=pure none:=by rfl)
  (h1:(assignEach [tg] X.env).map (·.2)=[assign tg X.env]:=by rfl):PS X (.Assign [tg] e pos) (tAsg te g):=by
 intro pins s σ H D I h
 refine wpAny_Assign_stores (thn (he pins s σ H _ I h) fun v s1 ⟨x,H1,I1,r1,q1⟩=>?_) hs hw
 rw [h1]
 exact thn (hg pins s1 σ H1 x v _ I1 r1 q1) fun _ s2 q=>q
end
section
variable {X:Cx} {pos:Pos}
def tWhile (c:TT) (tb:TS):TS:=fun D σ H=>∃ W:Nat→St→Hp→Prop,(∃ m,W m σ H)∧∀ m σ H,W m σ H →
 c σ H fun b H1=>if b=true then ∃ N:St→Hp→Prop,(∀ σ' H',N σ' H'→∃ m',m' < m∧W m' σ' H')∧tb { D with nx:=N,ct:=N,bk:=D.nx} σ H1 else D.nx σ H1
theorem zmi {c:Expr} {body:List Stmt} {tc:TT} {tb:TS} (hp:PassesOwn (model X.prog X.w) X.A X.env X.xe) (hc:PT X c tc) (hb:PSs X body tb):PS X (.While c body [] pos) (tWhile tc tb):=by
 intro pins s σ H D I h
 obtain ⟨W,⟨m0,w0⟩,turn⟩:=h
 refine wpAny_While (codeAny_whileLoop (fun n s'=>∃ σ' H',Inv X pins σ' H' s'∧W n σ' H') ?_ m0 ⟨σ,H,I,w0⟩)
 rintro n s1 ⟨σ1,H1,I1,w1⟩
 refine wpAny_passesOwn hp (thn (hc pins s1 σ1 H1 _ I1 (turn n σ1 H1 w1)) fun b s2 ⟨H2,I2,q2⟩=>?_)
 cases b with
 | true =>
  obtain ⟨N,hN,q2⟩:=q2
  rw [if_pos rfl]
  refine wpAny_passesOwn hp (thn (hb pins s2 σ1 H2 _ I2 q2) fun f s3 q3=>?_)
  cases f with
  | next =>
   obtain ⟨σ3,H3,I3,n3⟩:=q3
   obtain ⟨m',hm,w3⟩:=hN σ3 H3 n3
   exact ⟨m',hm,σ3,H3,I3,w3⟩
  | cont =>
   obtain ⟨σ3,H3,I3,n3⟩:=q3
   obtain ⟨m',hm,w3⟩:=hN σ3 H3 n3
   exact ⟨m',hm,σ3,H3,I3,w3⟩
  | brk=>exact q3
  | ret v=>exact q3
 | false =>
  rw [if_neg Bool.false_ne_true]
  exact wpAny_execs_nil ⟨σ1,H2,I2,q2⟩
end
structure It where
 go:Nat→Hp→Prop
 yld:Nat→Hp→V→Hp→Prop
 stop:Nat→Hp→Prop
def FpOk (X:Cx) (pins:List (Addr×Obj)) (H:Hp) (b:Addr):Prop :=
 H b=none∧b≠X.env.locals∧b∉X.fs∧(b∈X.ex∨X.s₀.heap.objs.size≤b)∧(∀ x c,X.env.cells.lookup x=some c→c≠b)∧∀ p∈X.pn++pins,p.1≠b
theorem Inv.fpOk {X:Cx} {pins:List (Addr×Obj)} {σ:St} {H H':Hp} {s:Shared} {b:Addr} (I:Inv X pins σ H s) (hb:s.heap.objs.size≤b) (hn:H' b=none):FpOk X pins H' b:=by
 refine ⟨hn,Nat.ne_of_gt (Nat.lt_of_lt_of_le I.lt hb),I.nofs hb,.inr (Nat.le_trans I.sz hb),fun x c e z=>?_,fun p hp z=>?_⟩
 ·obtain ⟨v,q⟩:=I.cell x c e
  exact absurd (Nat.lt_of_lt_of_le q.lt (by rw [z]; exact hb)) (Nat.lt_irrefl _)
 ·exact absurd (Nat.lt_of_lt_of_le (Heap.lt_size (I.pin p hp).1) (by rw [z]; exact hb)) (Nat.lt_irrefl _)
structure Turn (P:Program) (w:World) (K:Frag) (tg:Expr) (J:It) (fp:List Addr) (it:Addr) (tn:Nat→Heap→Prop):Prop where
 mem:it∈fp
 obj:∀ i h,tn i h→∀ b∈fp,∃ o,h.get? b=some o∧∀ v,o.data≠.cell v
 keep:∀ i h h',tn i h→(∀ b∈fp,∀ o,h.get? b=some o→h'.get? b=some o)→tn i h'
 item:∀ (X:Cx),X.prog=P→X.w=w→X.K=K→X.calm=true→∀ (i:Nat) (pins:List (Addr×Obj)) (s:Shared) (σ:St) (H:Hp) (E:Value→Shared→Prop),Inv X pins σ H s→(∀ b∈fp,FpOk X pins H b)→tn i s.heap→J.go i H →
  wpAny (model P w) X.A (pyNext (.ref it)) (fun r s1=>∃ u,r=some u ∧
   wpAny (model P w) X.A (letOwnedTupleGo tg (.ref it) u) (fun _ s2=>∃ x H',Inv X pins σ H' s2∧RelV x u∧J.yld i H x H'∧tn (i+1) s2.heap∧∀ b∈fp,H' b=none) E s1) E s
 done:∀ (X:Cx),X.prog=P→X.w=w→X.K=K→X.calm=true→∀ (i:Nat) (pins:List (Addr×Obj)) (s:Shared) (σ:St) (H:Hp) (E:Value→Shared→Prop),Inv X pins σ H s→(∀ b∈fp,FpOk X pins H b)→tn i s.heap→J.stop i H →
  wpAny (model P w) X.A (pyNext (.ref it)) (fun r s1=>r=none∧Inv X pins σ H s1) E s
 self:∀ (A:Around) (i:Nat) (s:Shared) (Q:Value→Shared→Prop) (E:Value→Shared→Prop),tn i s.heap→Q (.ref it) s→wpAny (model P w) A (pyIter (.ref it)) Q E s
abbrev TI:=St→Hp→(It→Hp→Prop)→Prop
def PIE (X:Cx) (pins:List (Addr×Obj)) (σ:St) (tg:Expr) (R:It→Hp→Prop) (itv:Value) (s2:Shared):Prop :=
 ∃ (it:Addr) (fp:List Addr) (tn:Nat→Heap→Prop) (J:It) (H':Hp),itv=.ref it∧Inv X pins σ H' s2∧Turn X.prog X.w X.K tg J fp it tn∧tn 0 s2.heap∧(∀ b∈fp,FpOk X pins H' b)∧R J H'
def PI (X:Cx) (tg iter:Expr) (wi:TI):Prop :=
 ∀ (pins:List (Addr×Obj)) (s:Shared) (σ:St) (H:Hp) (R:It→Hp→Prop),Inv X pins σ H s→wi σ H R →
  wpAny (model X.prog X.w) X.A (eval iter X.env) (fun v s1=>wpAny (model X.prog X.w) X.A (pyIter v) (PIE X pins σ tg R) X.xe s1) X.xe s
theorem znv {M : Model} {A : Around} {E : Value → Shared → Prop} {s : Shared} {tg : Expr} {it : Addr} {u : Value} {o : Obj} {n : String} {vs : Array Value} {Q : Unit → Shared → Prop} (ho : s.heap.get? it = some o) (hc : o.cls = .type n) (hd : o.data = .fields vs)
    (hn:["enumerate", "zip", "dict_itemiterator", "dict_reverseitemiterator", "odict_iterator", "itertools.zip_longest", "itertools.pairwise"].contains n=false) (hQ:Q () s):wpAny M A (letOwnedTupleGo tg (.ref it) u) Q E s:=by
  unfold letOwnedTupleGo
  cases tg <;> first
    | exact wpAny_pure hQ
    | (cases u <;> first
        | exact wpAny_pure hQ
        | (refine wpAny_bind (wpAny_load ho ?_)
           rw [hc,hd]
           show wpAny M A (if (["enumerate", "zip", "dict_itemiterator", "dict_reverseitemiterator", "odict_iterator", "itertools.zip_longest", "itertools.pairwise"].contains n&&vs[0]? == some (rawInt _))=true then _ else _) Q E s
           rw [if_neg (by intro h; rw [hn,Bool.false_and] at h; cases h)]
           exact wpAny_pure hQ))
def Itl (K:Frag) (a:Addr):It :=
 ⟨fun i H=>∃ xs x,SqL K H a xs∧xs[i]? = some x,fun i H x H'=>H'=H∧∀ xs,SqL K H a xs→xs[i]? = some x,fun i H=>∃ xs,SqL K H a xs∧xs.length≤i⟩
def Itt (K:Frag) (a:Addr):It :=
 ⟨fun i H=>∃ xs x,SqT K H a xs∧xs[i]? = some x,fun i H x H'=>H'=H∧∀ xs,SqT K H a xs→xs[i]? = some x,fun i H=>∃ xs,SqT K H a xs∧xs.length≤i⟩
def Itr (lo:Int) (n:Nat):It:=⟨fun i _=>i < n,fun i H x H'=>H'=H∧x=.int (lo+i),fun i _=>n≤i⟩
theorem ziy {P:Program} {w:World} {K:Frag} {tg:Expr} (a it:Addr):Turn P w K tg (Itl K a) [it] it (fun i h=>h.IsListIter it a i) where
 mem:=by simp
 obj:=fun i h st b hb=>by
  have e:b=it:=by simpa using hb
  subst e
  obtain ⟨o,e,c,d⟩:=st
  exact ⟨o,e,fun v z=>by rw [d] at z; cases z⟩
 keep:=fun i h h' st k=>st.at fun o e=>k it (by simp) o e
 item:=by
  intro X hP hw hK hc i pins s σ H E I hf st hg
  subst hP hw hK
  obtain ⟨xs,x,hq,hx⟩:=hg
  obtain ⟨its,rv,p,hz⟩:=I.list hq
  obtain ⟨u,hu,ru⟩:=rv.get hx
  obtain ⟨f0,f1,f2,f3,f4,f5⟩:=hf it (by simp)
  refine wpAny_pyNext_list_item st p.isList (x:=u) (by simpa using hu) fun h' st' sb=>?_
  have I1:Inv X pins σ H { s with heap:=h'}:=I.turned (t':=s.toks) (fun b o hb e=>(sb.2 b hb).trans e) f0 f1 f3 f4 f5
  obtain ⟨o,e,c,d⟩:=id st'
  exact ⟨u,rfl,znv (s:={ s with heap:=h'}) e c d (by decide) ⟨x,H,I1,ru,⟨rfl,fun ys hy=>by rw [I.list_inj hy hq]; exact hx⟩,st',fun b hb=>(hf b hb).1⟩⟩
 done:=by
  intro X hP hw hK hc i pins s σ H E I hf st hg
  subst hP hw hK
  obtain ⟨xs,hq,hx⟩:=hg
  obtain ⟨its,rv,p,hz⟩:=I.list hq
  obtain ⟨f0,f1,f2,f3,f4,f5⟩:=hf it (by simp)
  have hl:=rv.length
  exact wpAny_pyNext_list_end (I.ok.hd hc) st p.isList (by simp; lia) fun h' eb=>⟨rfl,I.turned (t':=s.toks) (fun b o hb e=>eb b o hb e) f0 f1 f3 f4 f5⟩
 self:=fun _ _ _ _ _ st h=>wpAny_pyIter_listiter st h
theorem zih {P:Program} {w:World} {K:Frag} {tg:Expr} (a it:Addr):Turn P w K tg (Itt K a) [it] it (fun i h=>h.IsTupleIter it a i) where
 mem:=by simp
 obj:=fun i h st b hb=>by
  have e:b=it:=by simpa using hb
  subst e
  obtain ⟨o,e,c,d⟩:=st
  exact ⟨o,e,fun v z=>by rw [d] at z; cases z⟩
 keep:=fun i h h' st k=>st.at fun o e=>k it (by simp) o e
 item:=by
  intro X hP hw hK hc i pins s σ H E I hf st hg
  subst hP hw hK
  obtain ⟨xs,x,hq,hx⟩:=hg
  obtain ⟨its,rv,p,hz⟩:=I.tuple hq
  obtain ⟨u,hu,ru⟩:=rv.get hx
  obtain ⟨f0,f1,f2,f3,f4,f5⟩:=hf it (by simp)
  refine wpAny_pyNext_tuple_item st (show s.heap.IsTuple a its.toArray from p) (x:=u) (by simpa using hu) fun h' st' sb=>?_
  have I1:Inv X pins σ H { s with heap:=h'}:=I.turned (t':=s.toks) (fun b o hb e=>(sb.2 b hb).trans e) f0 f1 f3 f4 f5
  obtain ⟨o,e,c,d⟩:=id st'
  exact ⟨u,rfl,znv (s:={ s with heap:=h'}) e c d (by decide) ⟨x,H,I1,ru,⟨rfl,fun ys hy=>by rw [I.tuple_inj hy hq]; exact hx⟩,st',fun b hb=>(hf b hb).1⟩⟩
 done:=by
  intro X hP hw hK hc i pins s σ H E I hf st hg
  subst hP hw hK
  obtain ⟨xs,hq,hx⟩:=hg
  obtain ⟨its,rv,p,hz⟩:=I.tuple hq
  obtain ⟨f0,f1,f2,f3,f4,f5⟩:=hf it (by simp)
  have hl:=rv.length
  exact wpAny_pyNext_tuple_end (I.ok.hd hc) st (show s.heap.IsTuple a its.toArray from p) (by simp; lia) fun h' eb=>⟨rfl,I.turned (t':=s.toks) (fun b o hb e=>eb b o hb e) f0 f1 f3 f4 f5⟩
 self:=fun _ _ _ _ _ st h=>wpAny_pyIter_tupleiter st h
theorem zhv {P:Program} {w:World} {K:Frag} {tg:Expr} (it:Addr) (lo:Int) (n:Nat):Turn P w K tg (Itr lo n) [it] it (fun i h=>IsRangeIter h it (lo+(i:Nat) * 1) ((n:Int) - (i:Nat)) 1) where
 mem:=by simp
 obj:=fun i h st b hb=>by
  have e:b=it:=by simpa using hb
  subst e
  exact ⟨_,st,fun v z=>by
   have z':Data.fields _=Data.cell v:=z
   cases z'⟩
 keep:=fun i h h' st k=>k it (by simp) _ st
 item:=by
  intro X hP hw hK hc i pins s σ H E I hf st hg
  subst hP hw hK
  obtain ⟨f0,f1,f2,f3,f4,f5⟩:=hf it (by simp)
  have W:=Walks.range (prog:=X.prog) (w:=X.w) (I.ok.hd hc) it lo 1 n
  refine W.item i s _ _ hg st fun v h' tk hv st' kk=>?_
  obtain ⟨t,rfl⟩:=hv
  have I1:Inv X pins σ H { s with heap:=h',toks:=tk}:=I.turned (fun b o hb e=>kk b o (by simpa using hb) e) f0 f1 f3 f4 f5
  refine ⟨_,rfl,znv (s:={ s with heap:=h',toks:=tk}) (n:="range_iterator") st' rfl rfl (by decide) ⟨.int (lo+i),H,I1,⟨t,?_⟩,⟨rfl,rfl⟩,st',fun b hb=>(hf b hb).1⟩⟩
  rw [Int.mul_one]
 done:=by
  intro X hP hw hK hc i pins s σ H E I hf st hg
  subst hP hw hK
  obtain ⟨f0,f1,f2,f3,f4,f5⟩:=hf it (by simp)
  exact wpAny_pyNext_range_end (I.ok.hd hc) st (by have:n≤i:=hg; lia) fun h' eb=>⟨rfl,I.turned (t':=s.toks) (fun b o hb e=>eb b o hb e) f0 f1 f3 f4 f5⟩
 self:=fun _ _ _ _ _ st h=>wpAny_pyIter_rangeiter st h
end L2
namespace L2
open PySem PySem.Spec PyProof.Rows
section
variable {X:Cx} {tg:Expr}
theorem range_it {pins:List (Addr×Obj)} {σ:St} {H:Hp} {s:Shared} {R:It→Hp→Prop} {E:Value→Shared→Prop} {lo hi:Int} {t u v:Tok} {tk:Nat} (I:Inv X pins σ H s) (h1:-(2 ^ 62)≤lo) (h2:lo < 2 ^ 62) (h3:-(2 ^ 62)≤hi) (h4:hi < 2 ^ 62)
  (q:R (Itr lo (hi - lo).toNat) H):wpAny (model X.prog X.w) X.A (pyIter (.ref s.heap.objs.size)) (PIE X pins σ tg R) E { s with heap:=s.heap.push { cls:=.type "range",data:=.fields #[.int lo t,.int hi u,.int 1 v]},toks:=tk}:=by
 refine wpAny_pyIter_range (IsRange.new ..) (small_one h1 h2 h3 h4) ?_
 have I1:Inv X pins σ H { s with heap:=s.heap.push { cls:=.type "range",data:=.fields #[.int lo t,.int hi u,.int 1 v]},toks:=tk}:=I.kept fun b o e=>Heap.get?_push_of_some _ e
 refine ⟨(s.heap.push { cls:=.type "range",data:=.fields #[.int lo t,.int hi u,.int 1 v]}).objs.size,[(s.heap.push { cls:=.type "range",data:=.fields #[.int lo t,.int hi u,.int 1 v]}).objs.size],_,_,H,rfl,
  I1.kept (t':=tk) fun b o e=>Heap.get?_push_of_some _ e,zhv _ lo (hi - lo).toNat,?_,fun b hb=>?_,q⟩
 ·have e1:lo+((0:Nat):Int) * 1=lo:=by simp
  have e2:(((hi - lo).toNat:Nat):Int) - ((0:Nat):Int)=Builtin.Range.rangeSize lo hi 1:=by rw [rangeSize_one]; split <;> lia
  show IsRangeIter _ _ (lo+((0:Nat):Int) * 1) ((((hi - lo).toNat:Nat):Int) - ((0:Nat):Int)) 1
  rw [e1,e2]
  exact Heap.get?_push_size _ rfl
 ·have e:b=(s.heap.push { cls:=.type "range",data:=.fields #[.int lo t,.int hi u,.int 1 v]}).objs.size:=by simpa using hb
  subst e
  exact I1.fpOk (Nat.le_refl _) (I1.hok.fresh (Nat.le_refl _))
def iRng1 (ta:TA):TI:=fun σ H R=>ta σ H fun vs H1=>∃ j:Int,vs=[.int j]∧-(2 ^ 62)≤j∧j < 2 ^ 62∧R (Itr 0 j.toNat) H1
def iRng2 (ta:TA):TI:=fun σ H R=>ta σ H fun vs H1=>∃ i j:Int,vs=[.int i,.int j]∧(-(2 ^ 62)≤i∧i < 2 ^ 62∧-(2 ^ 62)≤j∧j < 2 ^ 62)∧R (Itr i (j - i).toNat) H1
theorem zku {a:Expr} {ta:TA} {p pos:Pos} (hg:Gl X "range") (hm:X.mg "range" = none) (ha:PA X [a] ta) (hs:starEach [a] X.env=[(false,eval a X.env)]:=by rfl):PI X tg (.Call (.Name "range" p) [a] [] pos) (iRng1 ta):=by
 intro pins s σ H R I h
 refine Call_ (zce I hg hm boot_range (PyProof.Rows.callWith_type1 (thn (ha pos pins s σ H _ I h) fun us s1 ⟨vs,H1,I1,r1,q1⟩=>?_) hs rfl))
 obtain ⟨j,e,q1,q2,q⟩:=q1
 subst e
 cases r1 with
 | cons r rr =>
  cases rr
  obtain ⟨t,rfl⟩:=r
  exact call_range_1 (range_it I1 (by lia) (by lia) q1 q2 (by simpa using q))
theorem zi4 {a b:Expr} {ta:TA} {p pos:Pos} (hg:Gl X "range") (hm:X.mg "range" = none) (ha:PA X [a,b] ta) (hs:starEach [a,b] X.env=[(false,eval a X.env),(false,eval b X.env)]:=by rfl) (hs2:starEach [b] X.env=[(false,eval b X.env)]:=by rfl) :
  PI X tg (.Call (.Name "range" p) [a,b] [] pos) (iRng2 ta):=by
 intro pins s σ H R I h
 refine Call_ (zce I hg hm boot_range (PyProof.Rows.callWith_type1 (thn (ha pos pins s σ H _ I h) fun us s1 ⟨vs,H1,I1,r1,q1⟩=>?_) (by rw [hs,hs2]) (by rw [hs2]; rfl)))
 obtain ⟨i,j,e,⟨q1,q2,q3,q4⟩,q⟩:=q1
 subst e
 cases r1 with
 | cons r rr =>
  cases rr with
  | cons r' rr =>
   cases rr
   obtain ⟨t,rfl⟩:=r
   obtain ⟨t',rfl⟩:=r'
   exact call_range_2 (range_it I1 q1 q2 q3 q4 q)
def tFor (wi:TI) (g:TG) (tb:TS):TS:=fun D σ H=>wi σ H fun J H1=>∃ W:Nat→Nat→St→Hp→Prop,(∃ m,W 0 m σ H1)∧∀ i m σ H,W i m σ H →
 (J.stop i H∧D.nx σ H)∨(J.go i H∧∃ N:St→Hp→Prop,(∀ σ' H',N σ' H'→∃ m',m' < m∧W (i+1) m' σ' H')∧∀ x H',J.yld i H x H'→g x σ H' fun σ2 H2=>tb { D with nx:=N,ct:=N,bk:=D.nx} σ2 H2)
def pinsAt (fp:List Addr) (h:Heap):List (Addr×Obj):=fp.filterMap fun b=>(h.get? b).map fun o=>(b,o)
theorem zbe {fp:List Addr} {h:Heap} {b:Addr} {o:Obj} (hb:b∈fp) (e:h.get? b=some o):(b,o)∈pinsAt fp h:=List.mem_filterMap.mpr ⟨b,hb,by rw [e]; rfl⟩
theorem zju {fp:List Addr} {h:Heap} {p:Addr×Obj} (hp:p∈pinsAt fp h):p.1∈fp∧h.get? p.1=some p.2:=by
 obtain ⟨b,hb,e⟩:=List.mem_filterMap.mp hp
 cases q:h.get? b with
 | none=>rw [q] at e; cases e
 | some o =>
  rw [q] at e
  have e':(b,o)=p:=Option.some.inj e
  subst e'
  exact ⟨hb,q⟩
theorem Inv.pinned {pins:List (Addr×Obj)} {σ:St} {H:Hp} {s:Shared} {fp:List Addr} (I:Inv X pins σ H s) (hf:∀ b∈fp,FpOk X pins H b) (ho:∀ b∈fp,∃ o,s.heap.get? b=some o∧∀ v,o.data≠.cell v):Inv X (pins++pinsAt fp s.heap) σ H s :=
 I.pins_of fun p hp=>(List.mem_append.mp hp).elim (fun z=>I.pin p (List.mem_append_right _ z)) fun z=>by
  obtain ⟨hb,e⟩:=zju z
  obtain ⟨f0,f1,f2,_⟩:=hf p.1 hb
  obtain ⟨o,e',d⟩:=ho p.1 hb
  rw [e] at e'; cases e'
  exact ⟨e,f0,f1,f2,d⟩
theorem Inv.unpinned {pins pl:List (Addr×Obj)} {σ:St} {H:Hp} {s:Shared} (I:Inv X (pins++pl) σ H s):Inv X pins σ H s:=I.pins_of fun p hp=>I.pin p (List.mem_append_right _ (List.mem_append_left _ hp))
theorem zrb {iter:Expr} {body:List Stmt} {wi:TI} {g:TG} {tb:TS} {pos:Pos} (hp:PassesOwn (model X.prog X.w) X.A X.env X.xe) (hc:X.calm=true) (hi:PI X tg iter wi) (hg:PG X tg g) (hb:PSs X body tb)
  (hs:∀ x,foldedSetIterable iter X.env x=pure x:=by intro _; rfl):PS X (.For tg iter body [] pos) (tFor wi g tb):=by
 intro pins s σ H D I h
 refine wpAny_For (thn (hi pins s σ H _ I h) fun v s1 h1=>thn h1 fun itv s2 h2=>?_) hs
 obtain ⟨it,fp,tn,J,H2,e,I2,T,st2,f2,W,⟨m0,w0⟩,turn⟩:=h2
 subst e
 -- what stays true of the iterator's objects through the loop
 have stat:∀ {H':Hp},(∀ b∈fp,H' b=none)→∀ b∈fp,FpOk X pins H' b:=fun hn b hb=>⟨hn b hb,(f2 b hb).2⟩
 refine codeAny_forLoop_any (fun n s'=>∃ i σ' H',Inv X pins σ' H' s'∧tn i s'.heap∧(∀ b∈fp,H' b=none)∧W i n σ' H') ?_ m0 ⟨0,σ,H2,I2,st2,fun b hb=>(f2 b hb).1,w0⟩
 rintro n s3 ⟨i,σ3,H3,I3,st3,fr3,w3⟩
 rcases turn i n σ3 H3 w3 with ⟨stop,qn⟩ | ⟨go,N,hN,step⟩
 ·refine wpAny_passesOwn hp (thn (T.done X rfl rfl rfl hc i pins s3 σ3 H3 X.xe I3 (stat fr3) st3 stop) fun r s4 ⟨hr,I4⟩=>?_)
  subst hr
  exact wpAny_execs_nil ⟨σ3,H3,I4,qn⟩
 ·refine wpAny_passesOwn hp (thn (T.item X rfl rfl rfl hc i pins s3 σ3 H3 X.xe I3 (stat fr3) st3 go) fun r s4 ⟨u,hr,h4⟩=>?_)
  subst hr
  refine wpAny_passesOwn hp (thn h4 fun _ s5 ⟨x,H5,I5,r5,y5,st5,fr5⟩=>?_)
  have I5':=I5.pinned (stat fr5) (T.obj _ _ st5)
  refine wpAny_passesOwn hp (thn (hg _ s5 σ3 H5 x u _ I5' r5 (step x H5 y5)) fun _ s6 ⟨σ6,H6,I6,q6⟩=>?_)
  refine wpAny_passesOwn hp (thn (hb _ s6 σ6 H6 _ I6 q6) fun f s7 q7=>?_)
  have again:∀ {σ7:St} {H7:Hp},Inv X (pins++pinsAt fp s5.heap) σ7 H7 s7→N σ7 H7→∃ m,m < n∧∃ i σ' H',Inv X pins σ' H' s7∧tn i s7.heap∧(∀ b∈fp,H' b=none)∧W i m σ' H':=fun {σ7 H7} I7 n7=>by
   obtain ⟨m',hm,w7⟩:=hN σ7 H7 n7
   refine ⟨m',hm,i+1,σ7,H7,I7.unpinned,T.keep _ _ _ st5 fun b hb o e=>(I7.pin (b,o) (List.mem_append_right _ (List.mem_append_right _ (zbe hb e)))).1,fun b hb=>?_,w7⟩
   obtain ⟨o,e,d⟩:=T.obj _ _ st5 b hb
   exact (I7.pin (b,o) (List.mem_append_right _ (List.mem_append_right _ (zbe hb e)))).2.1
  cases f with
  | next=>obtain ⟨σ7,H7,I7,n7⟩:=q7; exact again I7 n7
  | cont=>obtain ⟨σ7,H7,I7,n7⟩:=q7; exact again I7 n7
  | brk=>obtain ⟨σ7,H7,I7,q7⟩:=q7; exact ⟨σ7,H7,I7.unpinned,q7⟩
  | ret v=>obtain ⟨x7,σ7,H7,I7,r7,q7⟩:=q7; exact ⟨x7,σ7,H7,I7.unpinned,r7,q7⟩
end
end L2
namespace L2
open PySem PySem.Spec PyProof.Rows
abbrev R2:=V→V→Hp→VK→Prop
def OpR (X:Cx) (f:Value→Value→Sem Value) (r:R2):Prop :=
 ∀ (pins:List (Addr×Obj)) (s:Shared) (σ:St) (H:Hp) (x y:V) (v u:Value) (Q:VK),Inv X pins σ H s→RelV x v→RelV y u→r x y H Q →
  wpAny (model X.prog X.w) X.A (f v u) (EP X pins σ Q) X.xe s
def UnR (X:Cx) (f:Value→Sem Value) (r:V→Hp→VK→Prop):Prop :=
 ∀ (pins:List (Addr×Obj)) (s:Shared) (σ:St) (H:Hp) (x:V) (v:Value) (Q:VK),Inv X pins σ H s→RelV x v→r x H Q →
  wpAny (model X.prog X.w) X.A (f v) (EP X pins σ Q) X.xe s
def CallR (X:Cx) (f:Value) (r:List V→Hp→VK→Prop):Prop :=
 ∀ (pins:List (Addr×Obj)) (s:Shared) (σ:St) (H:Hp) (xs:List V) (us:List Value) (Q:VK),Inv X pins σ H s→Vals xs us→r xs H Q →
  wpAny (model X.prog X.w) X.A (call f us) (EP X pins σ Q) X.xe s
def TruR (X:Cx) (r:V→Hp→(Bool→Hp→Prop)→Prop):Prop :=
 ∀ (pins:List (Addr×Obj)) (s:Shared) (σ:St) (H:Hp) (x:V) (v:Value) (Q:Bool→Hp→Prop),Inv X pins σ H s→RelV x v→r x H Q →
  wpAny (model X.prog X.w) X.A (truthy v) (TP X pins σ Q) X.xe s
def tOp (r:R2) (ta tb:TE):TE:=fun σ H Q=>ta σ H fun x H1=>tb σ H1 fun y H2=>r x y H2 Q
def tUn (r:V→Hp→VK→Prop) (ta:TE):TE:=fun σ H Q=>ta σ H fun x H1=>r x H1 Q
def rI (C:Int→Int→Prop) (g:Int→Int→V):R2:=fun x y H Q=>∃ i j,x=.int i∧y=.int j∧C i j∧Q (g i j) H
def rI0 (g:Int→Int→V):R2:=fun x y H Q=>∃ i j,x=.int i∧y=.int j∧Q (g i j) H
def rU (g:Int→V):V→Hp→VK→Prop:=fun x H Q=>∃ i,x=.int i∧Q (g i) H
section
variable {X:Cx} {a b c:Expr} {ta tb tc:TE} {pos:Pos}
theorem binT (ha:PE X a ta) (hb:PE X b tb) {pins:List (Addr×Obj)} {s:Shared} {σ:St} {H:Hp} {R:V→V→Hp→Prop} (I:Inv X pins σ H s)
  (h:ta σ H fun x H1=>tb σ H1 fun y H2=>R x y H2) {Q:Value→Shared→Prop} {f:Value→Value→Sem Value}
  (hf:∀ v u s2 x y H2,Inv X pins σ H2 s2→RelV x v→RelV y u→R x y H2→wpAny (model X.prog X.w) X.A (f v u) Q X.xe s2) :
  wpAny (model X.prog X.w) X.A (eval a X.env) (fun v s₁=>wpAny (model X.prog X.w) X.A (eval b X.env) (fun u s₂=>wpAny (model X.prog X.w) X.A (f v u) Q X.xe s₂) X.xe s₁) X.xe s:=by
 refine thn (ha pins s σ H _ I h) fun v s1 ⟨x,H1,I1,r1,q1⟩=>?_
 refine thn (hb pins s1 σ H1 _ I1 q1) fun u s2 ⟨y,H2,I2,r2,q2⟩=>?_
 exact hf v u s2 x y H2 I2 r1 r2 q2
theorem zsh {op:Operator} {r:R2} (ho:OpR X (binaryOp op) r) (ha:PE X a ta) (hb:PE X b tb):PE X (.BinOp a op b pos) (tOp r ta tb):=by
 intro pins s σ H Q I h
 exact wpAny_BinOp (binT ha hb I h fun v u s2 x y H2 I2 rx ry q=>ho pins s2 σ H2 x y v u Q I2 rx ry q)
theorem zsg {op:UnaryOp} {r:V→Hp→VK→Prop} (ho:UnR X (unaryOp op) r) (ha:PE X a ta):PE X (.UnaryOp op a pos) (tUn r ta):=by
 intro pins s σ H Q I h
 exact UnaryOp_ (thn (ha pins s σ H _ I h) fun v s1 ⟨x,H1,I1,r1,q1⟩=>ho pins s1 σ H1 x v Q I1 r1 q1)
theorem opI {f:Value→Value→Sem Value} {C:Int→Int→Prop} {g:Int→Int→Int}
  (rule:∀ (i j:Int) (t u:Tok) (s:Shared) (Q:Value→Shared→Prop) (E:Value→Shared→Prop),C i j→Q (.int (g i j) s.toks) { s with toks:=s.toks+1}→wpAny (model X.prog X.w) X.A (f (.int i t) (.int j u)) Q E s) :
  OpR X f (rI C fun i j=>.int (g i j)):=by
 intro pins s σ H x y v u Q I rx ry h
 obtain ⟨i,j,rfl,rfl,hc,q⟩:=h
 obtain ⟨t,rfl⟩:=rx
 obtain ⟨t',rfl⟩:=ry
 exact rule i j t t' s _ _ hc ⟨.int (g i j),H,I.tok _,⟨_,rfl⟩,q⟩
theorem opI0 {f:Value→Value→Sem Value} {g:Int→Int→Int}
  (rule:∀ (i j:Int) (t u:Tok) (s:Shared) (Q:Value→Shared→Prop) (E:Value→Shared→Prop),Q (.int (g i j) s.toks) { s with toks:=s.toks+1}→wpAny (model X.prog X.w) X.A (f (.int i t) (.int j u)) Q E s) :
  OpR X f (rI0 fun i j=>.int (g i j)):=by
 intro pins s σ H x y v u Q I rx ry h
 obtain ⟨i,j,rfl,rfl,q⟩:=h
 obtain ⟨t,rfl⟩:=rx
 obtain ⟨t',rfl⟩:=ry
 exact rule i j t t' s _ _ ⟨.int (g i j),H,I.tok _,⟨_,rfl⟩,q⟩
theorem opB0 {f:Value→Value→Sem Value} {g:Int→Int→Bool}
  (rule:∀ (i j:Int) (t u:Tok) (s:Shared) (Q:Value→Shared→Prop) (E:Value→Shared→Prop),Q (.bool (g i j)) s→wpAny (model X.prog X.w) X.A (f (.int i t) (.int j u)) Q E s) :
  OpR X f (rI0 fun i j=>.bl (g i j)):=by
 intro pins s σ H x y v u Q I rx ry h
 obtain ⟨i,j,rfl,rfl,q⟩:=h
 obtain ⟨t,rfl⟩:=rx
 obtain ⟨t',rfl⟩:=ry
 exact rule i j t t' s _ _ ⟨.bl (g i j),H,I,rfl,q⟩
def CDiv (i j:Int):Prop:=0 < j∧j < 1073741824
def CMul (i j:Int):Prop:=(-(2 ^ 64) < i∧i < 2 ^ 64)∨(-(2 ^ 64) < j∧j < 2 ^ 64)
theorem CMul.ok {i j:Int} (h:CMul i j):IntMulOk i j:=by
 rcases h with ⟨h1,h2⟩ | ⟨h1,h2⟩
 ·exact .of_left (intBits_le_64 h1 h2)
 ·exact .of_right (intBits_le_64 h1 h2)
theorem zrr:OpR X (binaryOp .Add) (rI0 fun i j=>.int (i+j)):=opI0 fun _ _ _ _ _ _ _ q=>add_int q
theorem zqt:OpR X (binaryOp .Sub) (rI0 fun i j=>.int (i - j)):=opI0 fun _ _ _ _ _ _ _ q=>sub_int q
theorem zrh:OpR X (binaryOp .Mult) (rI CMul fun i j=>.int (i * j)):=opI fun _ _ _ _ _ _ _ hc q=>mul_int q hc.ok
theorem zo7:OpR X (binaryOp .FloorDiv) (rI CDiv fun i j=>.int (i / j)):=opI fun i j _ _ _ _ _ hc q=>by
 have h1:(0:Int) < j:=hc.1
 have h2:j < 1073741824:=hc.2
 exact floordiv_int (by lia) (by rw [Int.fdiv_eq_ediv_of_nonneg i (by lia)]; exact q) (.inl (PyProof.noPylong_small (by lia)))
theorem zrx:OpR X (binaryOp .Mod) (rI (fun _ j=>0 < j) fun i j=>.int (i % j)):=opI fun i j _ _ _ _ _ hc q=>by
 have h1:(0:Int) < j:=hc
 exact mod_int' (by lia) (by rw [Int.fmod_eq_emod_of_nonneg i (by lia)]; exact q)
theorem unI {f:Value→Sem Value} {g:Int→Int}
  (rule:∀ (i:Int) (t:Tok) (s:Shared) (Q:Value→Shared→Prop) (E:Value→Shared→Prop),Q (.int (g i) s.toks) { s with toks:=s.toks+1}→wpAny (model X.prog X.w) X.A (f (.int i t)) Q E s) :
  UnR X f (rU fun i=>.int (g i)):=by
 intro pins s σ H x v Q I rx h
 obtain ⟨i,rfl,q⟩:=h
 obtain ⟨t,rfl⟩:=rx
 exact rule i t s _ _ ⟨.int (g i),H,I.tok _,⟨_,rfl⟩,q⟩
theorem zqi:UnR X (unaryOp .USub) (rU fun i=>.int (-i)):=unI fun _ _ _ _ _ q=>neg_int q
end
def scal:V→V→Bool
 | .non,.non=>true | .non,.int _=>true | .int _,.non=>true | .non,.bl _=>true | .bl _,.non=>true | .non,.str _=>true | .str _,.non=>true
 | .int _,.int _=>true | .bl _,.bl _=>true | .str _,.str _=>true | .byt _,.byt _=>true
 | .int _,.str _=>true | .str _,.int _=>true | .bl _,.str _=>true | .str _,.bl _=>true
 | _,_=>false
section
variable {X:Cx} {a b c:Expr} {ta tb tc:TE} {pos:Pos}
theorem zm0 {pins:List (Addr×Obj)} {σ:St} {H:Hp} {s:Shared} {Q:VK} {k k':Bool} (I:Inv X pins σ H s) (q:Q (.bl k) H) (e:k=k'):EP X pins σ Q (.bool k') s:=by
 subst e
 exact ⟨.bl k,H,I,rfl,q⟩
theorem zsa:OpR X (compareOp .Lt) (rI0 fun i j=>.bl (decide (i < j))):=opB0 fun _ _ _ _ _ _ _ q=>lt_int q
theorem zsp:OpR X (compareOp .LtE) (rI0 fun i j=>.bl (decide (i≤j))):=opB0 fun _ _ _ _ _ _ _ q=>le_int q
theorem zsx:OpR X (compareOp .Gt) (rI0 fun i j=>.bl (decide (j < i))):=opB0 fun _ _ _ _ _ _ _ q=>gt_int q
theorem zs1:OpR X (compareOp .GtE) (rI0 fun i j=>.bl (decide (j≤i))):=opB0 fun _ _ _ _ _ _ _ q=>ge_int q
theorem zp6:OpR X (compareOp .Is) (fun x y H Q=>y=.non∧Q (.bl (decide (x=.non))) H):=by
 intro pins s σ H x y v u Q I rx ry h
 obtain ⟨rfl,q⟩:=h
 cases ry
 refine is_none_gen (zm0 I q ?_)
 cases x <;> first
  | (cases rx; rfl)
  | (obtain ⟨t,rfl⟩:=rx; rfl)
theorem zoo:OpR X (compareOp .IsNot) (fun x y H Q=>y=.non∧Q (.bl (!decide (x=.non))) H):=by
 intro pins s σ H x y v u Q I rx ry h
 obtain ⟨rfl,q⟩:=h
 cases ry
 refine isnot_none_gen (zm0 I q ?_)
 cases x <;> first
  | (cases rx; rfl)
  | (obtain ⟨t,rfl⟩:=rx; rfl)
theorem OpR.or {f:Value→Value→Sem Value} {r r':R2} (h:OpR X f r) (h':OpR X f r'):OpR X f (fun x y H Q=>r x y H Q∨r' x y H Q):=by
 intro pins s σ H x y v u Q I rx ry q
 rcases q with q | q
 ·exact h pins s σ H x y v u Q I rx ry q
 ·exact h' pins s σ H x y v u Q I rx ry q
theorem zno {op:CmpOp} {r:R2} (ho:OpR X (compareOp op) r) (ha:PE X a ta) (hb:PE X b tb) (hm:behindInMarks op b=false):PE X (.Compare a [op] [b] pos) (tOp r ta tb):=by
 intro pins s σ H Q I h
 exact wpAny_Compare1 (binT ha hb I h fun v u s2 x y H2 I2 rx ry q=>ho pins s2 σ H2 x y v u Q I2 rx ry q) hm
def tTest (t:TE):TT:=fun σ H Q=>t σ H fun x H'=>∃ k,x=.bl k∧Q k H'
theorem zop {op:CmpOp} {r:R2} (ho:OpR X (compareOp op) r) (ha:PE X a ta) (hb:PE X b tb) (hm:behindInMarks op b=false):PT X (.Compare a [op] [b] pos) (tTest (tOp r ta tb)):=by
 intro pins s σ H Q I h
 refine wpAny_isTrue_Compare1 (thn (ha pins s σ H _ I h) fun v s1 ⟨x,H1,I1,r1,q1⟩=>thn (hb pins s1 σ H1 _ I1 q1) fun u s2 ⟨y,H2,I2,r2,q2⟩ =>
  thn (ho pins s2 σ H2 x y v u _ I2 r1 r2 q2) fun c s3 ⟨z,H3,I3,r3,k,e,q3⟩=>?_) hm
 subst e
 cases r3
 exact wpAny_truthy_bool ⟨H3,I3,q3⟩
def TruV (K:Frag) (x:V) (H:Hp) (k:Bool):Prop :=
 match x with
 | .non=>k=false
 | .bl b=>k=b
 | .int i=>k=(i != 0)
 | .str y=>y.length≤sizeLine∧k=((y.length:Int) != 0)
 | .byt y=>y.size≤sizeLine∧k=((y.size:Int) != 0)
 | .ref p=>(∃ xs,SqL K H p xs∧k = !xs.isEmpty)∨(∃ xs,SqT K H p xs∧k = !xs.isEmpty)∨∃ kvs,H p=some (.dK kvs)∧k = !kvs.isEmpty
 | _=>False
theorem zia {κ:Type} {kvs:List (κ×V)} {vs:List (κ×Value)} (r:KV kvs vs):(!vs.isEmpty) = !kvs.isEmpty:=by
 cases r <;> rfl
theorem zdx {xs:List V} {its:List Value} (r:Vals xs its):(!its.toArray.isEmpty) = !xs.isEmpty:=by
 cases r <;> simp
theorem line63:(sizeLine:Nat) < 2 ^ 63:=by rw [sizeLine_eq]; decide
theorem zni:TruR X (fun x H Q=>∃ k,TruV X.K x H k∧Q k H):=by
 intro pins s σ H x v Q I rx h
 obtain ⟨k,e,q⟩:=h
 have hl:=line63
 have hs:sizeLine=16777216:=sizeLine_eq
 cases x with
 | non =>
  cases rx
  have e':k=false:=e
  subst e'
  exact truthy_none ⟨H,I,q⟩
 | bl b =>
  cases rx
  have e':k=b:=e
  subst e'
  exact wpAny_truthy_bool ⟨H,I,q⟩
 | int i =>
  obtain ⟨t,rfl⟩:=rx
  have e':k=(i != 0):=e
  subst e'
  exact PySem.P.truthy_int ⟨H,I,q⟩
 | str y =>
  obtain ⟨t,rfl⟩:=rx
  obtain ⟨hy,e'⟩:y.length≤sizeLine∧k=((y.length:Int) != 0):=e
  subst e'
  exact PySem.P.truthy_str (by lia) ⟨H,I.tok _,q⟩
 | byt y =>
  obtain ⟨t,rfl⟩:=rx
  obtain ⟨hy,e'⟩:y.size≤sizeLine∧k=((y.size:Int) != 0):=e
  subst e'
  exact PySem.W.truthy_bytes (by lia) ⟨H,I.tok _,q⟩
 | ref p =>
  cases rx
  have e':(∃ xs,SqL X.K H p xs∧k = !xs.isEmpty)∨(∃ xs,SqT X.K H p xs∧k = !xs.isEmpty)∨∃ kvs,H p=some (.dK kvs)∧k = !kvs.isEmpty:=e
  rcases e' with ⟨xs,hx,e'⟩ | ⟨xs,hx,e'⟩ | ⟨kvs,hx,e'⟩
  ·subst e'
   obtain ⟨its,r,pl,hz⟩:=I.list hx
   have hlen:=r.length
   exact wpAny_truthy_list pl.isList (by simp only [List.size_toArray]; lia) ⟨H,I.tok _,by rw [zdx r]; exact q⟩
  ·subst e'
   obtain ⟨its,r,pl,hz⟩:=I.tuple hx
   have hlen:=r.length
   exact truthy_tuple pl (by simp only [List.size_toArray]; lia) ⟨H,I.tok _,by rw [zdx r]; exact q⟩
  ·subst e'
   obtain ⟨hz,hS,vs,r,m⟩:kvs.length≤sizeLine∧(p==sysModules)=false∧∃ vs,KV kvs vs∧s.heap.DictOf (mixKind X.prog X.w) p vs:=I.hok p _ hx
   have hlen:kvs.length=vs.length:=Paired.length r
   exact wpAny_truthy_dict hS m (by lia) ⟨H,I.tok _,by rw [zia r]; exact q⟩
 | _=>exact (show False from e).elim
theorem zlt (ha:PE X a ta) (he:∀ whole,isTrue a X.env whole=(do let v ← whole; standAt a.pos; holding [v] (truthy v))) :
  PT X a (fun σ H Q=>ta σ H fun x H'=>∃ k,TruV X.K x H' k∧Q k H'):=by
 intro pins s σ H Q I h
 exact isTrue_plain (thn (ha pins s σ H _ I h) fun v s1 ⟨x,H1,I1,r1,q1⟩=>zni pins s1 σ H1 x v Q I1 r1 q1) (he _)
theorem vals1 {x:V} {us:List Value} (r:Vals [x] us):∃ u,us=[u]∧RelV x u:=by
 cases r with
 | cons r1 r2=>cases r2; exact ⟨_,rfl,r1⟩
theorem vals2 {x y:V} {us:List Value} (r:Vals [x,y] us):∃ u w',us=[u,w']∧RelV x u∧RelV y w':=by
 cases r with
 | cons r1 r2 =>
  cases r2 with
  | cons r3 r4=>cases r4; exact ⟨_,_,rfl,r1,r3⟩
end
end L2
namespace L2
open PySem PySem.Spec PyProof.Rows
structure ObjM (h:Heap) (x dx C:Addr) (mA:Str→Option Value):Prop where
 obj:h.get? x=some (PySem.W.instObj C dx)
 ns:h.Ns1 dx mA
 ne:dx≠x
theorem zi0 {h:Heap} {dx:Addr} {mA:Str→Option Value} (n:h.Ns1 dx mA):∃ od,h.get? dx=some od∧∀ name,PySem.W.lookIn name od=some (mA name):=by
 obtain ⟨o,es,ep,ho,hd,hk,_,hm⟩:=n
 refine ⟨o,ho,fun name=>?_⟩
 have e:=hm name
 unfold nsFind findBy at e
 rw [← Array.find?_toList] at e
 unfold PySem.W.lookIn
 rw [hd]
 dsimp only
 split
 ·rename_i y q
  rw [q] at e
  exact congrArg some e
 ·rename_i q
  rw [q] at e
  have a:es.toList.any (·.refKey)=false:=by
   rw [List.any_eq_false]
   intro y hy
   obtain ⟨z,t,hkey⟩:=hk y (Array.mem_toList_iff.mp hy)
   simp [DictEntry.refKey,hkey]
  have a':¬ es.toList.any (·.refKey)=true:=by rw [a]; exact Bool.false_ne_true
  rw [if_neg a']
  exact congrArg some e
theorem ObjM.look {h:Heap} {x dx C:Addr} {mA:Str→Option Value} (I:ObjM h x dx C mA):∃ od,PySem.W.InstAt h x (PySem.W.instObj C dx) C (some od)∧∀ name,PySem.W.lookIn name od=some (mA name) :=
 let ⟨od,ho,hl⟩:=zi0 I.ns
 ⟨od,⟨I.obj,rfl,rfl,ho⟩,hl⟩
section
variable {prog:Program} {w:World} {A:Around} {E:Value→Shared→Prop} {s:Shared} {K:Frag} {x dx C f:Addr} {mA:Str→Option Value} {name:Str} {v:Value}
end
theorem RelO.some_of {v:V} {o:Option Value} (r:RelO (some v) o):∃ u,o=some u∧RelV v u:=by
 cases o with
 | none=>exact (show False from r).elim
 | some u=>exact ⟨u,rfl,r⟩
section
variable {P:Program} {w:World} {H H':Hp} {h h':Heap} {a C dx:Addr} {fs fs':List (Str×V)}
end
structure Cls (K:Frag) (C:Addr):Prop where
 pg:PySem.W.plainGet K C Str.empty=true
 hd:PySem.W.hasDictIn K C=true
 po:PySem.W.plainOver K C=true
 sa:PySem.W.findIn K (.ref C) "__setattr__" = some (some (.builtin "object.__setattr__"))
theorem Cls.get {K:Frag} {C:Addr} (c:Cls K C) (f:Str):PySem.W.plainGet K C f=true:=c.pg
structure Con (K:Frag) (C:Addr) (f:Str) (v:V) (u:Value):Prop where
 at_:PySem.W.findIn K (.ref C) f=some (some u)
 rel:RelV v u
 get:PySem.W.specialIn K u "__get__" = some none
 cp:PySem.W.copiedNames.contains f=false
structure Meth (K:Frag) (C:Addr) (m:Str) (f:Addr):Prop where
 at_:PySem.W.findIn K (.ref C) m=some (some (.ref f))
 fn:PySem.W.isFn K (.ref f)=true
 kp:keepIn K (.ref f)=true
section
variable {X:Cx} {pins:List (Addr×Obj)} {σ:St} {H:Hp} {s:Shared} {a C dx:Addr} {fs:List (Str×V)} {f:Str} {v:V} {A:Around} {E:Value→Shared→Prop}
theorem Inv.made (I:Inv X pins σ H s):Inv X pins σ (upd (upd H s.heap.objs.size (.own (s.heap.objs.size+1))) (s.heap.objs.size+1) (.ins C s.heap.objs.size []))
  { s with heap:=(s.heap.push PySem.W.emptyDict).push (PySem.W.instObj C s.heap.objs.size)}:=by
 have e1:(s.heap.push PySem.W.emptyDict).get? s.heap.objs.size=some PySem.W.emptyDict:=Heap.get?_push_size s.heap rfl
 have e2:((s.heap.push PySem.W.emptyDict).push (PySem.W.instObj C s.heap.objs.size)).get? (s.heap.objs.size+1)=some (PySem.W.instObj C s.heap.objs.size):=by
  have:=Heap.get?_push_size (s.heap.push PySem.W.emptyDict) (o:=PySem.W.instObj C s.heap.objs.size) rfl
  rwa [Heap.size_push] at this
 have e3:(s.heap.push PySem.W.emptyDict).Ns s.heap.objs.size (fun _=>none):=⟨PySem.W.emptyDict,#[],_,e1,rfl,(fun e he=>absurd he (by simp)),fun _=>rfl⟩
 have I1:=I.laid (a:=s.heap.objs.size) (o:=.own (s.heap.objs.size+1)) (h':=s.heap.push PySem.W.emptyDict) (t':=s.toks) (fun b u q=>Heap.get?_push_of_some _ q) (Nat.le_refl _) ⟨_,e1⟩
 refine I1.laid (a:=s.heap.objs.size+1) (o:=.ins C s.heap.objs.size []) (t':=s.toks) (fun b u q=>Heap.get?_push_of_some _ q) (Nat.le_of_eq (Heap.size_push _ _)) ?_
 have ne:s.heap.objs.size≠s.heap.objs.size+1:=Nat.ne_of_lt (Nat.lt_succ_self _)
 refine ⟨by rw [zj ne,zg],Nat.zero_le _,ne,e2,fun _=>none,(Heap.Ns1.of_empty e3).at fun o q=>Heap.get?_push_of_some _ q,fun _=>True.intro,fun y hy=>absurd rfl hy⟩
end
section
variable {X:Cx} {o e value:Expr} {f:Str} {pos pos' tpos:Pos} {ta tv:TE}
end
section
variable {X:Cx} {pins:List (Addr×Obj)} {σ:St} {H:Hp} {s:Shared} {A:Around} {E:Value→Shared→Prop} {Q:Value→Shared→Prop} {c:Value} {b:Bool}
inductive TyOf (K:Frag) (H:Hp):V→Value→Prop where
 | non:TyOf K H .non (.type "NoneType")
 | bl (x:Bool):TyOf K H (.bl x) (.type "bool")
 | int (i:Int):TyOf K H (.int i) (.type "int")
 | str (x:Str):TyOf K H (.str x) (.type "str")
 | flt (x:UInt64):TyOf K H (.flt x) (.type "float")
 | lst {a:Addr} {xs:List V} (e:H a=some (.lst xs)):TyOf K H (.ref a) (.type "list")
 | frz {a:Addr} {o:Obj} {xs:List V} (e:H a=some (.frz o (.lst xs))):TyOf K H (.ref a) (.type "list")
 | tup {a:Addr} {xs:List V} (e:H a=some (.tup xs)):TyOf K H (.ref a) (.type "tuple")
 | dK {a:Addr} {kvs:List (Key×V)} (e:H a=some (.dK kvs)):TyOf K H (.ref a) (.type "dict")
 | dT {a:Addr} {kvs:List (List Key×V)} (e:H a=some (.dT kvs)):TyOf K H (.ref a) (.type "dict")
 | ins {a C dx:Addr} {fs:List (Str×V)} (e:H a=some (.ins C dx fs)) (cl:Cls K C) (ha:PySem.W.findIn K (.ref C) "__class__" = some (some (.builtin "object.__class__")))
   (hn:PySem.W.specialIn K (.builtin "object.__class__") "__get__" = some (some (.builtin "getset_descriptor.__get__"))) (htk:PySem.W.takesIn K (.builtin "object.__class__")=some true)
   (hm:PySem.W.mroIn K C (.type "object")=some true):TyOf K H (.ref a) (.ref C)
end
end L2
namespace L2
open PySem PySem.Spec PyProof.Rows
structure Room (k:Nat) (A:Around):Prop where
 hd:A.handled=none
 dp:A.depth+3 * k+5 < recursionLimit
 un:A.units+16 * k+200 < cLine
theorem Room.mono {j k:Nat} {A:Around} (r:Room k A) (h:j≤k):Room j A:=⟨r.hd,by have:=r.dp; lia,by have:=r.un; lia⟩
theorem Room.deeper {k:Nat} {A:Around} (r:Room (k+1) A) (env:Env):Room k (A.deeper env) :=
 ⟨r.hd,by have:=r.dp; show A.depth+1+3 * k+5 < _; lia,by have:=r.un; show A.units+3+16 * k+200 < _; lia⟩
theorem Room.in1 {k:Nat} {A:Around} (r:Room (k+1) A):Room k A.in1 :=
 ⟨r.hd,by have:=r.dp; show A.depth+3 * k+5 < _; lia,by have:=r.un; show A.units+1+16 * k+200 < _; lia⟩
theorem Room.depth {k:Nat} {A:Around} (r:Room k A):A.depth < recursionLimit:=by have:=r.dp; lia
theorem Room.units {k:Nat} {A:Around} (r:Room k A):A.units+64 < cLine:=by have:=r.un; lia
def tNil:TA:=fun _ H Q=>Q [] H
def tCons (ta:TE) (tr:TA):TA:=fun σ H Q=>ta σ H fun x H1=>tr σ H1 fun xs H2=>Q (x::xs) H2
section
variable {X:Cx} {e:Expr} {es:List Expr} {te:TE} {t:TA} {pos:Pos}
theorem zak:PA X [] tNil:=fun _ _ _ _ H Q I h=>Calls.spliced_nil ⟨[],H,I,.nil,h⟩
theorem zq (ha:PE X e te) (hr:PA X es t) (hs:starEach (e::es) X.env=(false,eval e X.env)::starEach es X.env:=by rfl):PA X (e::es) (tCons te t):=by
 intro pos pins s σ H Q I h
 rw [hs]
 show wpAny _ _ (spliced ((false,eval e X.env)::backTo pos (starEach es X.env))) _ _ s
 refine Calls.spliced_cons (thn (ha pins s σ H _ I h) fun u s1 ⟨x,H1,I1,r1,q1⟩=>?_)
 exact thn (hr pos pins s1 σ H1 _ I1 q1) fun us s2 ⟨xs,H2,I2,r2,q2⟩=>⟨x::xs,H2,I2,.cons r1 r2,q2⟩
def tTup (t:TA):TE:=fun σ H Q=>t σ H fun xs H1=>xs.length≤sizeLine∧∀ p,H1 p=none→Q (.ref p) (upd H1 p (.tup xs))
def tLst (t:TA):TE:=fun σ H Q=>t σ H fun xs H1=>xs.length≤sizeLine∧∀ p,H1 p=none→Q (.ref p) (upd H1 p (.lst xs))
theorem zre {x1} (h:PA X es t):PE X (.Tuple es x1 pos) (tTup t):=by
 intro pins s σ H Q I hq
 refine wpAny_Tuple_spliced (thn (h pos pins s σ H _ I hq) fun us s1 ⟨xs,H1,I1,r,z,q⟩=>⟨by rw [← r.length]; exact z,?_⟩)
 have hf:H1 s1.heap.objs.size=none:=I1.hok.fresh (Nat.le_refl _)
 refine ⟨.ref s1.heap.objs.size,upd H1 s1.heap.objs.size (.tup xs),I1.laid (t':=s1.toks) (fun b u e=>Heap.get?_push_of_some _ e) (Nat.le_refl _) ?_,rfl,q _ hf⟩
 exact ⟨z,us,r,⟨_,Heap.get?_push_size _ rfl,rfl,_,rfl⟩,_,Heap.get?_push_size _ rfl,rfl⟩
theorem zqp (h:PA X es t):PE X (.List es pos) (tLst t):=by
 intro pins s σ H Q I hq
 refine wpAny_List_spliced (thn (h pos pins s σ H _ I hq) fun us s1 ⟨xs,H1,I1,r,z,q⟩=>⟨by rw [← r.length]; exact z,?_⟩)
 have hf:H1 s1.heap.objs.size=none:=I1.hok.fresh (Nat.le_refl _)
 refine ⟨.ref s1.heap.objs.size,upd H1 s1.heap.objs.size (.lst xs),I1.laid (t':=s1.toks) (fun b u e=>Heap.get?_push_of_some _ e) (Nat.le_refl _) ?_,rfl,q _ hf⟩
 exact ⟨z,us,0,r,Heap.get?_push_size _ rfl⟩
end
abbrev Sp:=List V→Hp→VK→XK→Prop
abbrev CXT:=List Env→Hp→Shared→XK→Value→Shared→Prop
structure Env0 (P:Program) (w:World) (K:Frag) (mg:Str→Option Value) (base:Heap) (A:Around) (outer:List Env) (s:Shared) (H:Hp):Prop where
 frames:A.frames=some outer
 mod:Mod K mg base
 bs:∀ b o,base.get? b=some o→s.heap.get? b=some o∧H b=none
 bsz:base.objs.size≤s.heap.objs.size
 funs:s.heap.FunFrames base outer
 frf:∀ b∈frs outer,H b=none
 hok:HOk P w H s.heap
 bare:AllBare s.gens
def CE (outer:List Env) (P:Program) (w:World) (H:Hp) (s:Shared) (Q:VK) (u:Value) (s':Shared):Prop :=
 ∃ v H',s'.os=s.os∧AllBare s'.gens∧Un (frs outer) [] H H' s.heap s'.heap∧HOk P w H' s'.heap∧RelV v u∧Q v H'
def CR (CX:CXT) (outer:List Env) (P:Program) (w:World) (H:Hp) (s:Shared) (Q:VK) (E:XK) (r:Result) (s':Shared):Prop :=
 match r with
 | .ok (.ret u)=>CE outer P w H s Q u s'
 | .ok _=>False
 | .error e=>CX outer H s E e s'
structure FnOk (P:Program) (w:World) (K:Frag) (mg:Str→Option Value) (base:Heap) (CX:CXT) (k:Nat) (f:Addr) (fd:FuncData) (ps:List Str) (sp:Sp):Prop where
 len:∀ vs H Q E,sp vs H Q E→vs.length=ps.length
 run:∀ (A:Around) (outer:List Env) (s:Shared) (H:Hp) (args:Args) (us:List Value) (vs:List V) (Q:VK) (E:XK),Room k A→Env0 P w K mg base A outer s H→BindsTo s fd args (ps.zip us)→Vals vs us→sp vs H Q E →
  codeAny (model P w) A (.call (.ref f) args) (CR CX outer P w H s Q E) s
theorem FnOk.mono {P:Program} {w:World} {K:Frag} {mg:Str→Option Value} {base:Heap} {CX:CXT} {j k:Nat} {f:Addr} {fd:FuncData} {ps:List Str} {sp:Sp} (F:FnOk P w K mg base CX j f fd ps sp) (h:j≤k) :
  FnOk P w K mg base CX k f fd ps sp:=⟨F.len,fun A outer s H args us vs Q E hr=>F.run A outer s H args us vs Q E (hr.mono h)⟩
theorem FnOk.imp {P:Program} {w:World} {K:Frag} {mg:Str→Option Value} {base:Heap} {CX:CXT} {k:Nat} {f:Addr} {fd:FuncData} {ps:List Str} {sp sp':Sp} (F:FnOk P w K mg base CX k f fd ps sp)
  (h:∀ vs H Q E,sp' vs H Q E→sp vs H Q E):FnOk P w K mg base CX k f fd ps sp' :=
 ⟨fun vs H Q E q=>F.len vs H Q E (h _ _ _ _ q),fun A outer s H args us vs Q E hr he hb hv hs=>F.run A outer s H args us vs Q E hr he hb hv (h _ _ _ _ hs)⟩
theorem Env0.in1 {P:Program} {w:World} {K:Frag} {mg:Str→Option Value} {base:Heap} {A:Around} {outer:List Env} {s:Shared} {H:Hp} (e:Env0 P w K mg base A outer s H) :
  Env0 P w K mg base A.in1 outer s H:=⟨e.frames,e.mod,e.bs,e.bsz,e.funs,e.frf,e.hok,e.bare⟩
section
variable {X:Cx} {pins:List (Addr×Obj)} {σ:St} {H:Hp} {s s':Shared}
theorem Inv.env0 (I:Inv X pins σ H s):Env0 X.prog X.w X.K X.mg X.base X.A X.stack s H :=
 ⟨I.ok.frames,I.ok.mod,I.bs,Nat.le_trans I.ok.bsz I.sz,I.stack,I.stkFree,I.hok,I.bare⟩
theorem Inv.after {Q:VK} {u:Value} (I:Inv X pins σ H s) (h:CE X.stack X.prog X.w H s Q u s'):EP X pins σ Q u s':=by
 obtain ⟨v,H',os,bare,un,hok,r,q⟩:=h
 obtain ⟨hh,g,d,t,os'⟩:=s'
 obtain rfl:os'=s.os:=os
 exact ⟨v,H',I.call (h':=hh) (g':=g) (d':=d) (t':=t) (ch:=[]) un hok bare (fun b z=>absurd z (by simp)),r,q⟩
end
def tCall (sp:Sp) (dvs:List V) (E:XK) (t:TA):TE:=fun σ H Q=>t σ H fun vs H1=>sp (vs++dvs) H1 Q E
def Binds (K:Frag) (fd:FuncData) (ps:List Str) (ds:List Value):Prop :=
 ∀ (s:Shared) (us:List Value),K.In s.heap→(us++ds).length=ps.length→BindsTo s fd ⟨us,[]⟩ (ps.zip (us++ds))
theorem Binds.all {K:Frag} {fd:FuncData} {ps:List Str} (h:∀ us:List Value,us.length=ps.length→bindArgs fd ⟨us,[]⟩=pure (ps.zip us)):Binds K fd ps []:=fun s us _ hl=>by
 rw [List.append_nil] at hl ⊢
 exact .of_eq (h us hl)
def Passes (CX:CXT) (X:Cx) (E:XK):Prop:=∀ (pins:List (Addr×Obj)) (σ:St) (H:Hp) (s:Shared) (e:Value) (s':Shared),Inv X pins σ H s→CX X.stack H s E e s'→X.xe e s'
section
variable {X:Cx} {CX:CXT} {k:Nat} {f C:Addr} {fd:FuncData} {ps:List Str} {sp:Sp} {dvs:List V} {ds:List Value} {E:XK} {x m:Str} {p pos apos:Pos} {e o:Expr} {es:List Expr} {ta:TE} {t:TA}
theorem zra {pins:List (Addr×Obj)} {σ:St} {H:Hp} {s:Shared} {Q:VK} {us:List Value} {vs:List V} (F:FnOk X.prog X.w X.K X.mg X.base CX k f fd ps sp) (hr:Room k X.A) (hb:Binds X.K fd ps ds) (hd:Vals dvs ds) (hx:Passes CX X E)
  (I:Inv X pins σ H s) (r:Vals vs us) (h:sp (vs++dvs) H Q E):wpAny (model X.prog X.w) X.A (call (.ref f) us) (EP X pins σ Q) X.xe s:=by
 have r2:Vals (vs++dvs) (us++ds):=r.append hd
 have hl:(us++ds).length=ps.length:=by rw [← r2.length]; exact F.len _ _ _ _ h
 refine wpAny_call (codeAny_mono (F.run X.A X.stack s H ⟨us,[]⟩ (us++ds) (vs++dvs) Q E hr I.env0 (hb s us I.kIn hl) r2 h) fun r s' hq=>?_)
 cases r with
 | error e=>exact hx pins σ H s e s' I hq
 | ok fl =>
  cases fl with
  | ret u=>exact I.after hq
  | next=>exact False.elim hq
  | brk=>exact False.elim hq
  | cont=>exact False.elim hq
theorem zn4 (F:FnOk X.prog X.w X.K X.mg X.base CX k f fd ps sp) (hr:Room k X.A) (hg:Gl X x) (hm:X.mg x=some (.ref f)) (hk:keepIn X.K (.ref f)=true) (hb:Binds X.K fd ps ds) (hd:Vals dvs ds) (hx:Passes CX X E)
  (ha:PA X (e::es) t) (hdb:(x==("__debug__" : Str))=false:=by decide) (he:starEach (e::es) X.env=(false,eval e X.env)::starEach es X.env:=by rfl) (hpl:(backTo pos (starEach es X.env)).any (·.1)=false:=by rfl) :
  PE X (.Call (.Name x p) (e::es) [] pos) (tCall sp dvs E t):=by
 intro pins s σ H Q I h
 refine wpAny_Call_Name_kw (zko I hg hm ?_ hdb)
 refine PySem.W.callWith_K (h₀:=X.base) I.ok.mod.kin hk (thn (ha pos pins s σ H _ I h) fun us s1 ⟨vs,H1,I1,r,q⟩=>⟨I1.kIn,?_⟩) he hpl
 exact zra F hr hb hd hx I1 r q
structure Mk (K:Frag) (C f:Addr):Prop where
 makes:PySem.W.makesIn K C=true
 init:PySem.W.findIn K (.ref C) "__init__" = some (some (.ref f))
 fn:PySem.W.isFn K (.ref f)=true
 kp:keepIn K (.ref C)=true
end
section
variable {X:Cx} {CX:CXT} {k:Nat} {f C:Addr} {fd:FuncData} {ps ks:List Str} {sp:Sp} {E:XK} {x m:Str} {p pos apos kpos:Pos} {e o:Expr} {es:List Expr} {kws:List Keyword} {te ta:TE} {t tk:TA} {nm:Option Str}
structure KBinds (K:Frag) (fd:FuncData) (ps ks:List Str) (g:List Value→List Value→List Value) (gV:List V→List V→List V):Prop where
 to:∀ (s:Shared) (us ws:List Value),K.In s.heap→(g us ws).length=ps.length→BindsTo s fd ⟨us,ks.zip ws⟩ (ps.zip (g us ws))
 rel:∀ {vs:List V} {us:List Value} {zs:List V} {ws:List Value},Vals vs us→Vals zs ws→Vals (gV vs zs) (g us ws)
variable {g:List Value→List Value→List Value} {gV:List V→List V→List V}
end
structure FnScope (N P:List Str) (sc:Scope):Prop where
 kind:sc.kind=.function
 co:sc.isCoroutine=false
 gen:sc.isGenerator=false
 nd:N.Nodup
 pre:N.take P.length=P
 par:∀ x∈P,sc.names.lookup x=some .local∨sc.names.lookup x=some .cell
 nofree:∀ y∈sc.names,y.2≠.free
theorem zfb {kindOf:Str→Option NameKind} {x:Str}:∀ {binds:List (Str×Value)} {m:Str→Option Value},(∀ v,(x,v)∉binds)→bindL kindOf binds m x=m x
 | [],_,_=>rfl
 | (n,v)::r,m,h=>by
  unfold bindL
  rw [zfb fun w hw=>h w (List.mem_cons_of_mem _ hw)]
  split
  ·have:x≠n:=by rintro rfl; exact h v List.mem_cons_self
   simp [this]
  ·rfl
theorem zek {kindOf:Str→Option NameKind} {x:Str}:∀ {binds:List (Str×Value)} {m:Str→Option Value},(∀ v,(x,v)∉binds)→bindC kindOf binds m x=m x
 | [],_,_=>rfl
 | (n,v)::r,m,h=>by
  unfold bindC
  rw [zek fun w hw=>h w (List.mem_cons_of_mem _ hw)]
  split
  ·rfl
  ·have:x≠n:=by rintro rfl; exact h v List.mem_cons_self
   simp [this]
theorem zex {kindOf:Str→Option NameKind} {x:Str} {v:Value}:∀ {P:List Str} {vs:List Value} {i:Nat} {m:Str→Option Value},P.Nodup→P[i]? = some x→vs[i]? = some v→kindOf x=some .local →
  bindL kindOf (P.zip vs) m x=some v
 | [],_,_,_,_,h,_,_=>by simp at h
 | _::_,[],_,_,_,_,h,_=>by simp at h
 | p::P,w::vs,0,m,nd,h1,h2,hk=>by
  simp at h1 h2; subst h1; subst h2
  show bindL kindOf ((p,w)::P.zip vs) m p=_
  unfold bindL
  rw [zfb fun v hv=>(List.nodup_cons.mp nd).1 (List.of_mem_zip hv).1,if_pos hk]
  simp
 | p::P,w::vs,i+1,m,nd,h1,h2,hk=>by
  show bindL kindOf ((p,w)::P.zip vs) m x=_
  unfold bindL
  exact zex (i:=i) (List.nodup_cons.mp nd).2 (by simpa using h1) (by simpa using h2) hk
theorem zfa {kindOf:Str→Option NameKind} {x:Str} {v:Value}:∀ {P:List Str} {vs:List Value} {i:Nat} {m:Str→Option Value},P.Nodup→P[i]? = some x→vs[i]? = some v→kindOf x≠some .local →
  bindC kindOf (P.zip vs) m x=some v
 | [],_,_,_,_,h,_,_=>by simp at h
 | _::_,[],_,_,_,_,h,_=>by simp at h
 | p::P,w::vs,0,m,nd,h1,h2,hk=>by
  simp at h1 h2; subst h1; subst h2
  show bindC kindOf ((p,w)::P.zip vs) m p=_
  unfold bindC
  rw [zek fun v hv=>(List.nodup_cons.mp nd).1 (List.of_mem_zip hv).1,if_neg hk]
  simp
 | p::P,w::vs,i+1,m,nd,h1,h2,hk=>by
  show bindC kindOf ((p,w)::P.zip vs) m x=_
  unfold bindC
  exact zfa (i:=i) (List.nodup_cons.mp nd).2 (by simpa using h1) (by simpa using h2) hk
def start (N:List Str) (vs:List V):St:=vs.map some++List.replicate (N.length - vs.length) none
def cxOf (CX:CXT) (P:Program) (w:World) (K:Frag) (mg:Str→Option Value) (base:Heap) (N:List Str) (qual:Str) (scope:Scope) (f:Addr) (cd:Value) (A:Around) (outer:List Env) (s:Shared) (H:Hp) (E:XK):Cx where
 prog:=P
 w:=w
 K:=K
 mg:=mg
 base:=base
 A:=A.deeper (envOfC qual scope s.heap.objs.size f cd)
 N:=N
 s₀:=s
 H₀:=H
 env:=envOfC qual scope s.heap.objs.size f cd
 outer:=outer
 stack:=envOfC qual scope s.heap.objs.size f cd::outer
 ex:=[]
 calm:=true
 fn:=fun _=>true
 pn:=[]
 xe:=fun e s'=>wpAny (model P w) (A.deeper (envOfC qual scope s.heap.objs.size f cd)) (leaving (envOfC qual scope s.heap.objs.size f cd) e) (fun _ s''=>CX outer H s E e s'') (fun e' s''=>CX outer H s E e' s'') s'
theorem zg0 {sc:Scope} {n:Nat} {x:Str} (h:sc.names.lookup x=some .cell):∃ c,(cellsFrom n sc.names []).lookup x=some c:=by
 have q:=PySem.W.cellsFrom_some sc.names n [] (.inl h)
 exact Option.isSome_iff_exists.mp q
theorem zj1 {CX:CXT} {P:Program} {w:World} {K:Frag} {mg:Str→Option Value} {base:Heap} {N ps:List Str} {qual:Str} {scope:Scope} {f:Addr} {cd:Value} {A:Around} {outer:List Env} {s s1:Shared} {H:Hp} {E:XK} {us:List Value} {vs:List V}
  (S:FnScope N ps scope) (hd:A.handled=none) (e0:Env0 P w K mg base A outer s H) (hl:vs.length=ps.length) (r:Vals vs us)
  (x:InCallC s s.heap.objs.size (bindL (envOfC qual scope s.heap.objs.size f cd).kindOf (ps.zip us) fun _=>none) (cellsFrom (s.heap.objs.size+1) scope.names []) (bindC (envOfC qual scope s.heap.objs.size f cd).kindOf (ps.zip us) fun _=>none) s1) :
  Inv (cxOf CX P w K mg base N qual scope f cd A outer s H E) [] (start N vs) H s1:=by
 have hpl:ps.length≤N.length:=by have:=congrArg List.length S.pre; rw [List.length_take] at this; lia
 obtain ⟨h1,tk,rfl,hk⟩:=x.done
 have noA:∀ b:Addr,b∉(cxOf CX P w K mg base N qual scope f cd A outer s H E).ex:=fun b z=>absurd (show b∈([]:List Addr) from z) (by simp)
 refine ⟨⟨e0.mod,S.kind,rfl,rfl,Nat.le_refl _,fun y z c h1 h2=>?_,fun y hy=>?_,fun y c _ h=>?_,fun _=>hd,Around.frames_deeper e0.frames,.inr ⟨rfl,rfl⟩,fun b z=>absurd z (noA b),e0.bs,e0.bsz,fun b _ _=>noA b,fun b z=>absurd z (noA b),e0.funs,e0.frf⟩,
  rfl,e0.bare,Un.kept hk,⟨_,x.toInCall.ns,fun i y v h1 h2 h3=>?_⟩,fun y c h=>⟨_,x.cell y c h⟩,e0.hok.fresh (Nat.le_refl _),fun y c h=>?_,fun p hp=>absurd (show p∈([]:List (Addr×Obj)) from hp) (by simp),e0.hok.kept hk,?_⟩
 ·exact name_of_addr x.apart (PySem.mem_of_lookup h1) (PySem.mem_of_lookup h2)
 ·have hy:scope.names.lookup y=some .cell∨scope.names.lookup y=some .free:=hy
  rcases hy with hy | hy
  ·exact zg0 hy
  ·exact absurd rfl (S.nofree _ (PySem.mem_of_lookup hy))
 ·exact Nat.le_of_lt (x.above y c (PySem.mem_of_lookup h))
 ·have hi:i < vs.length:=by
   unfold start at h2
   by_cases hi:i < vs.length
   ·exact hi
   ·rw [List.getElem?_append_right (by simpa using hi)] at h2
    rw [List.getElem?_replicate] at h2
    split at h2 <;> cases h2
  have ha:vs[i]? = some v:=by
   unfold start at h2
   rw [List.getElem?_append_left (by simpa using hi),List.getElem?_map] at h2
   cases e:vs[i]? with
   | none=>rw [e] at h2; cases h2
   | some a=>rw [e] at h2; cases h2; rfl
  obtain ⟨u,hu,rv⟩:=r.get ha
  have hp:ps[i]? = some y:=by
   rw [← S.pre,List.getElem?_take_of_lt (by lia)]; exact h1
  have ndP:ps.Nodup:=by rw [← S.pre]; exact S.nd.sublist (List.take_sublist _ _)
  refine ⟨u,rv,?_⟩
  rcases S.par y (List.mem_of_getElem? hp) with k | k
  ·exact .inl ⟨k,zex ndP hp hu k⟩
  ·obtain ⟨c,e⟩:=zg0 (n:=s.heap.objs.size+1) k
   refine .inr ⟨.inl k,c,e,?_⟩
   have q:=x.cell y c e
   rw [zfa ndP hp hu (by show scope.names.lookup y≠_; rw [k]; decide)] at q
   exact q
 ·exact e0.hok.fresh (Nat.le_of_lt (x.above y c (PySem.mem_of_lookup h)))
 ·unfold start
  show _=N.length
  rw [List.length_append,List.length_map,List.length_replicate]
  lia
theorem zq1 {CX:CXT} {P:Program} {w:World} {K:Frag} {mg:Str→Option Value} {base:Heap} {k:Nat} {f:Addr} {name qual:Str} {params:Arguments} {body:List Stmt} {scope:Scope} {dV kV doc pm cdv ct oc:Value} {an od:Option Addr}
  {osl:Array (Option Value)} {N ps:List Str} {sp:Sp} (lk:K.lookup f=some ⟨oc,od,.func (fnOf name qual params body scope dV kV doc pm an cdv ct),osl⟩) (hcd:codeIn K cdv qual=true) (S:FnScope N ps scope)
  (len:∀ vs H Q E,sp vs H Q E→vs.length=ps.length)
  (hbody:∀ (A:Around) (outer:List Env) (s:Shared) (H:Hp) (vs:List V) (Q:VK) (E:XK),Room k (A.deeper (envOfC qual scope s.heap.objs.size f cdv))→sp vs H Q E →
   ∃ t,PSs (cxOf CX P w K mg base N qual scope f cdv A outer s H E) body t∧t { nx:=fun _ H'=>Q .non H',rt:=Q} (start N vs) H) :
  FnOk P w K mg base CX (k+1) f (fnOf name qual params body scope dV kV doc pm an cdv ct) ps sp:=by
 refine ⟨len,fun A outer s H args us vs Q E hr e0 hb r hsp=>?_⟩
 have hl:=len _ _ _ _ hsp
 have KX:K.In s.heap:=e0.mod.kin.keeps fun b o e=>(e0.bs b o e).1
 have lim:s.heap.NoLimit:=e0.mod.nolimit.keeps fun b o e=>(e0.bs b o e).1
 have hkind:∀ y∈ps.zip us,scope.names.lookup y.1=some .local∨(scope.names.lookup y.1=some .cell∧((cellsFrom (s.heap.objs.size+1) scope.names []).lookup y.1).isSome=true):=fun ⟨n,v⟩ hy=>by
  rcases S.par n (List.of_mem_zip hy).1 with q | q
  ·exact .inl q
  ·exact .inr ⟨q,PySem.W.cellsFrom_some _ _ _ (.inl q)⟩
 refine codeAny_call_function hr.depth (KX _ _ lk) rfl S.co S.gen rfl (PySem.W.codeRec_of KX hcd) (hb _ _ _ _ ?_)
 refine wpAny_newFunctionEnv_cells S.kind hkind fun env he s1 x=>?_
 subst he
 refine ⟨lim.keeps x.toInCall.keep,codeAny_func ?_⟩
 obtain ⟨t,ht,hq⟩:=hbody A outer s H vs Q E (hr.deeper _) hsp
 have I:Inv (cxOf CX P w K mg base N qual scope f cdv A outer s H E) [] (start N vs) H s1:=zj1 S hr.hd e0 hl r x
 refine wpAny_mono (ht [] s1 (start N vs) H _ I hq) (fun fl s' hs=>?_) fun e s' hs=>hs
 have fin:∀ {σ':St} {H':Hp} {v:V} {u:Value},Inv (cxOf CX P w K mg base N qual scope f cdv A outer s H E) [] σ' H' s'→RelV v u→Q v H'→CE outer P w H s Q u s' :=
  fun {σ' H' v u} J rv q=>⟨v,H',J.os,J.bare,J.base,J.hok,rv,q⟩
 cases fl with
 | ret u =>
  obtain ⟨v,σ',H',J,rv,q⟩:=hs
  exact fin J rv q
 | next =>
  obtain ⟨σ',H',J,q⟩:=hs
  exact fin (v:=V.non) (u:=Value.none) J rfl q
 | brk =>
  obtain ⟨_,_,_,q⟩:=hs
  exact False.elim q
 | cont =>
  obtain ⟨_,_,_,q⟩:=hs
  exact False.elim q
end L2
namespace L2
open PySem PySem.Spec PyProof.Rows
section
variable {X:Cx} {x:Str} {p pos:Pos} {e:Expr} {es:List Expr} {t:TA} {id T:String} {r:List V→Hp→VK→Prop}
def tCB (r:List V→Hp→VK→Prop) (t:TA):TE:=fun σ H Q=>t σ H fun vs H1=>r vs H1 Q
theorem zay (hc:CallR X (.builtin id) r) (hg:Gl X x) (hm:X.mg x=none) (hv:bootBuiltins x=some (.builtin id)) (ha:PA X (e::es) t) (hn:x≠"__name__":=by decide) (hdb:(x==("__debug__" : Str))=false:=by decide)
  (he:starEach (e::es) X.env=(false,eval e X.env)::starEach es X.env:=by rfl) (hpl:(backTo pos (starEach es X.env)).any (·.1)=false:=by rfl):PE X (.Call (.Name x p) (e::es) [] pos) (tCB r t):=by
 intro pins s σ H Q I h
 refine wpAny_Call_Name_kw (zce I hg hm hv ?_ hn hdb)
 exact PyProof.Rows.callWith_builtin1 (thn (ha pos pins s σ H _ I h) fun us s1 ⟨vs,H1,I1,r1,q1⟩=>hc pins s1 σ H1 vs us Q I1 r1 q1) he hpl
theorem zcy (hc:CallR X (.type T) r) (hg:Gl X x) (hm:X.mg x=none) (hv:bootBuiltins x=some (.type T)) (ha:PA X (e::es) t) (hn:x≠"__name__":=by decide) (hdb:(x==("__debug__" : Str))=false:=by decide)
  (he:starEach (e::es) X.env=(false,eval e X.env)::starEach es X.env:=by rfl) (hpl:(backTo pos (starEach es X.env)).any (·.1)=false:=by rfl):PE X (.Call (.Name x p) (e::es) [] pos) (tCB r t):=by
 intro pins s σ H Q I h
 refine wpAny_Call_Name_kw (zce I hg hm hv ?_ hn hdb)
 exact PyProof.Rows.callWith_type1 (thn (ha pos pins s σ H _ I h) fun us s1 ⟨vs,H1,I1,r1,q1⟩=>hc pins s1 σ H1 vs us Q I1 r1 q1) he hpl
end
end L2
namespace HT
open PySem PyProof.Rows
def lexLt:List Int→List Int→Bool
 | [],[]=>false
 | [],_::_=>true
 | _::_,[]=>false
 | x::xs,y::ys=>if x=y then lexLt xs ys else decide (x < y)
theorem zib (x y:Int) (xs ys:List Int):lexLt (x::xs) (y::ys)=if x=y then lexLt xs ys else decide (x < y):=rfl
theorem zea:lexLt [] []=false:=rfl
theorem zdf (y:Int) (ys:List Int):lexLt [] (y::ys)=true:=rfl
theorem zde (x:Int) (xs:List Int):lexLt (x::xs) []=false:=rfl
theorem zee (A:Around) (s:Shared) (a:Int) (t:Tok) (c:Int) (u:Tok):∃ e,SeqAt.EqAt A s (.int a t) (.int c u) e∧(e=true↔a=c) :=
 ⟨(a==c),SeqAt.EqAt.int_int a t c u,by simp⟩
theorem zec (A:Around) (s:Shared) (a:Int) (t:Tok) (c:Int) (u:Tok) (prog:Program) (w:World) (E:Value→Shared→Prop) (Q:Value→Shared→Prop) (h:Q (.bool (decide (a < c))) s) :
  wpAny (model prog w) A (richCompare .Lt (.int a t) (.int c u)) Q E s :=
 (PyProof.Rows.lt_int h:wpAny (model prog w) A (compareOp .Lt (.int a t) (.int c u)) Q E s)
section
open PySem.SeqAt
open PySem.AutoSeq1 (wpAny_loadPart')
open PySem.MeetsSeq PySem.MeetsSeq2 PySem.MeetsSeq3
theorem zd5 (l b:Addr) (items items2:Array Value) (n n2:Nat) (dd dd2:Option Addr) (sl sl2:Array (Option Value)) (ns ms:List Int) (hi:IntsAre items.toList ns) (hj:IntsAre items2.toList ms) :
  Meets (Builtin.«tuple.__lt__» ⟨[.ref l,.ref b],[]⟩)
   (fun _ R s=>s.heap.get? l=some { cls:=.type "tuple",dict:=dd,data:=.seq items n,slots:=sl}∧s.heap.get? b=some { cls:=.type "tuple",dict:=dd2,data:=.seq items2 n2,slots:=sl2} ∧
    R (.ok (.ret (.bool (lexLt ns ms)))) s) :=
 .of_wp fun prog w A R s h=>by
  obtain ⟨hp,g,d,tk,os⟩:=s; obtain ⟨hl,hb,h⟩:=h
  have f2:=AutoSeq1.sub_tuple_tuple
  have z1:items.size=ns.length:=by rw [← hi.length]; simp
  have z2:items2.size=ms.length:=by rw [← hj.length]; simp
  wp_walk using wpAny_loadPart' hl,wpAny_loadPart' hb,wpAny_forIn_list _ (fun rest b s'=>b.1=none∧s'=⟨hp,g,d,tk,os⟩∧∃ (vs ws:List Value) (ns' ms':List Int),rest=vs.zip ws ∧
   IntsAre vs ns'∧IntsAre ws ms'∧ns'.length+items2.size=ms'.length+items.size∧R (.ok (.ret (.bool (lexLt ns' ms')))) ⟨hp,g,d,tk,os⟩) _
  case turn =>
   rintro ⟨y,x⟩ rest b s' ⟨hb',rfl,vs,ws,ns',ms',hz,hvi,hwi,hlen,hR⟩
   cases hvi with
   | nil=>rw [List.zip_nil_left] at hz; cases hz
   | cons a t hvi' =>
    cases hwi with
    | nil=>rw [List.zip_nil_right] at hz; cases hz
    | cons c u hwi' =>
     rw [List.zip_cons_cons] at hz
     injection hz with hyx hrest
     injection hyx with hy hx
     subst hy hx
     rw [zib] at hR
     simp only [List.length_cons] at hlen
     obtain ⟨e,he,hiff⟩:=zee A.in1 ⟨hp,g,d,tk,os⟩ a t c u
     refine wpAny_bind (he prog w _ _ ?_)
     cases e with
     | true =>
      rw [if_pos (hiff.mp rfl)] at hR
      wp_walk
      exact ⟨rfl,rfl,_,_,_,_,hrest,hvi',hwi',by lia,hR⟩
     | false =>
      rw [if_neg (fun q=>absurd (hiff.mpr q) Bool.false_ne_true)] at hR
      have hri:=zec A.in1 ⟨hp,g,d,tk,os⟩ a t c u prog w
      wp_walk using hri
      exact ⟨_,rfl,by simpa using hR⟩
  case fin =>
   rintro ⟨b1,b2⟩ s' ⟨hb',rfl,vs,ws,ns',ms',hz,hvi,hwi,hlen,hR⟩
   simp only at hb'
   subst hb'
   have hv:lexLt ns' ms'=decide (items.size < items2.size):=by
    cases hvi with
    | nil =>
     cases hwi with
     | nil =>
      simp only [List.length_nil] at hlen
      rw [zea]
      exact (decide_eq_false (by lia)).symm
     | cons c u hw =>
      simp only [List.length_nil,List.length_cons] at hlen
      rw [zdf]
      exact (decide_eq_true (by lia)).symm
    | cons a t hv =>
     cases hwi with
     | nil =>
      simp only [List.length_nil,List.length_cons] at hlen
      rw [zde]
      exact (decide_eq_false (by lia)).symm
     | cons c u hw =>
      rw [List.zip_cons_cons] at hz
      cases hz
   rw [hv] at hR
   wp_walk
   exact ⟨_,rfl,by simpa [Builtin.Tuple.tupleCompareSizes] using hR⟩
  case h =>
   exact ⟨rfl,rfl,items.toList,items2.toList,ns,ms,rfl,hi,hj,by lia,h⟩
end
section
variable {prog:Program} {w:World} {A:Around} {E:Value→Shared→Prop} {s:Shared}
theorem zdy {l b:Addr} {items items2:Array Value} {ns ms:List Int} {Q:Value→Shared→Prop} (hl:IsTup s.heap l items) (hb:IsTup s.heap b items2) (hi:IntsAre items.toList ns) (hj:IntsAre items2.toList ms)
  (hu:A.units < cLine) (h:Q (.bool (lexLt ns ms)) s):wpAny (model prog w) A (compareOp .Lt (.ref l) (.ref b)) Q E s:=by
 obtain ⟨⟨cls,dd,data,sl⟩,ho,hc,n,hd⟩:=id hl
 obtain ⟨⟨cls2,dd2,data2,sl2⟩,ho2,hc2,n2,hd2⟩:=id hb
 simp only at hc hd hc2 hd2
 subst hc hd hc2 hd2
 exact richCompare_meets_room (op:=.Lt) ⟨_,ho,rfl⟩ ⟨_,ho2,rfl⟩ PySem.F.slot_tuple_lt PySem.F.entry_tuple_lt (PySem.F.args_tuple_lt_2 _ _) (zd5 l b items items2 n n2 dd dd2 sl sl2 ns ms hi hj)
  ⟨ho,ho2,show Value.bool (lexLt ns ms)≠Value.notImplemented∧Q (.bool (lexLt ns ms)) s from ⟨(fun x=>nomatch x),h⟩⟩ hu
def sIx (n d:Nat):Option Int→Nat
 | none=>d
 | some v=>if v < 0 then (v+(n:Int)).toNat else min v.toNat n
end
end HT
namespace L2
open PySem PySem.Spec PyProof.Rows
abbrev TO:=St→Hp→(Option Int→Hp→Prop)→Prop
def PO (X:Cx) (e:Option Expr) (t:TO):Prop :=
 ∀ (pins:List (Addr×Obj)) (s:Shared) (σ:St) (H:Hp) (Q:Option Int→Hp→Prop),Inv X pins σ H s→t σ H Q →
  wpAny (model X.prog X.w) X.A (evalPart e X.env) (fun u s'=>∃ o H',Inv X pins σ H' s'∧IsPart u o∧Q o H') X.xe s
def tNoPart:TO:=fun _ H Q=>Q none H
def tPart (t:TE):TO:=fun σ H Q=>t σ H fun x H1=>∃ i,x=.int i∧Q (some i) H1
theorem zv {ns:List Int}:∀ {us:List Value},Vals (ns.map V.int) us→IntsAre us ns:=by
 induction ns with
 | nil=>intro us r; rw [List.map_nil] at r; cases r; exact .nil
 | cons n ns ih =>
  intro us r
  rw [List.map_cons] at r
  cases r with
  | cons r1 r2 =>
   obtain ⟨t,e⟩:=r1
   subst e
   exact .cons n t (ih r2)
section
variable {X:Cx} {e:Expr} {te:TE} {lo hi:Option Expr} {tl th:TO} {pos p2:Pos}
theorem zo6:PO X none tNoPart:=by
 intro pins s σ H Q I h
 rw [evalPart_none]
 exact wpAny_pure ⟨none,H,I,.none,h⟩
theorem zob (h:PE X e te):PO X (some e) (tPart te):=by
 intro pins s σ H Q I hw
 rw [evalPart_some]
 refine thn (h pins s σ H _ I hw) fun u s1 ⟨x,H1,I1,r1,q1⟩=>?_
 obtain ⟨i,rfl,q⟩:=q1
 obtain ⟨t,rfl⟩:=r1
 exact ⟨some i,H1,I1,.int i t,q⟩
def SlR (X:Cx) (r:V→Option Int→Option Int→Hp→VK→Prop):Prop :=
 ∀ (pins:List (Addr×Obj)) (s:Shared) (σ:St) (H:Hp) (x:V) (v vl vu:Value) (lo hi:Option Int) (sl:Addr) (Q:VK),Inv X pins σ H s→RelV x v→s.heap.IsSliceOf sl vl vu .none→IsPart vl lo→IsPart vu hi→r x lo hi H Q →
  ∃ T id,typeLookup (.type T) "__getitem__" = pure (some (.builtin id))∧s.TypeIs v T∧wpAny (model X.prog X.w) X.A (getItem v (.ref sl)) (EP X pins σ Q) X.xe s
theorem SlR.or {r r':V→Option Int→Option Int→Hp→VK→Prop} (h:SlR X r) (h':SlR X r'):SlR X (fun x lo hi H Q=>r x lo hi H Q∨r' x lo hi H Q):=by
 intro pins s σ H x v vl vu lo hi sl Q I rx hs pl pu q
 rcases q with q | q
 ·exact h pins s σ H x v vl vu lo hi sl Q I rx hs pl pu q
 ·exact h' pins s σ H x v vl vu lo hi sl Q I rx hs pl pu q
def tSl (r:V→Option Int→Option Int→Hp→VK→Prop) (te:TE) (tl th:TO):TE:=fun σ H Q=>te σ H fun x H1=>tl σ H1 fun l H2=>th σ H2 fun u H3=>r x l u H3 Q
theorem zk9 {r:V→Option Int→Option Int→Hp→VK→Prop} (hr:SlR X r) (he:PE X e te) (hl:PO X lo tl) (hu:PO X hi th):PE X (.Subscript e (.Slice lo hi none p2) pos) (tSl r te tl th):=by
 intro pins s σ H Q I h
 refine Subscript_ (thn (he pins s σ H _ I h) fun v s1 ⟨x,H1,I1,r1,q1⟩=>?_)
 refine wpAny_Slice (thn (hl pins s1 σ H1 _ I1 q1) fun vl s2 ⟨l,H2,I2,pl,q2⟩=>thn (hu pins s2 σ H2 _ I2 q2) fun vu s3 ⟨u,H3,I3,pu,q3⟩=>?_)
 rw [evalPart_none]
 refine wpAny_pure ?_
 have I4:Inv X pins σ H3 { s3 with heap:=s3.heap.push { cls:=.type "slice",data:=.fields #[vl,vu,.none]}}:=I3.kept (t':=s3.toks) fun b ob q=>Heap.get?_push_of_some _ q
 obtain ⟨T,id,hT,ht,hg⟩:=hr pins { s3 with heap:=s3.heap.push { cls:=.type "slice",data:=.fields #[vl,vu,.none]}} σ H3 x v vl vu l u s3.heap.objs.size Q I4 r1 (Heap.IsSliceOf.new ..) pl pu q3
 show wpAny (model X.prog X.w) X.A (subscriptTail e (.Slice lo hi none p2) v (.ref s3.heap.objs.size)) (EP X pins σ Q) X.xe { s3 with heap:=s3.heap.push { cls:=.type "slice",data:=.fields #[vl,vu,.none]}}
 exact tail_any (ops:=[.ref s3.heap.objs.size,v]) ht hT hg (by with_unfolding_all rfl)
def cutV (xs:List V) (lo hi:Option Int):List V:=(xs.drop (HT.sIx xs.length 0 lo)).take (HT.sIx xs.length xs.length hi - HT.sIx xs.length 0 lo)
theorem zfq (xs:List V) (lo hi:Option Int):(cutV xs lo hi).length≤xs.length:=by
 unfold cutV
 rw [List.length_take,List.length_drop]
 lia
def rLtT (K:Frag):R2:=fun x y H Q=>∃ a b ns ms,x=.ref a∧y=.ref b∧SqT K H a (ns.map V.int)∧SqT K H b (ms.map V.int)∧Q (.bl (HT.lexLt ns ms)) H
theorem zp4 (hu:X.A.units < cLine):OpR X (compareOp .Lt) (rLtT X.K):=by
 intro pins s σ H x y v u Q I rx ry h
 obtain ⟨a,b,ns,ms,rfl,rfl,ha,hb,q⟩:=h
 cases rx
 cases ry
 obtain ⟨its,r1,p1,_⟩:=I.tuple ha
 obtain ⟨its2,r2,p2,_⟩:=I.tuple hb
 have i1:IntsAre its.toArray.toList ns:=zv r1
 have i2:IntsAre its2.toArray.toList ms:=zv r2
 exact HT.zdy p1 p2 i1 i2 hu ⟨.bl (HT.lexLt ns ms),H,I,rfl,q⟩
end
end L2
namespace L2
open PySem PySem.Spec PyProof.Rows
def ixN (n:Nat) (i:Int):Option Nat:=if 0≤i then (if i < n then some i.toNat else none) else if -(n:Int)≤i then some (i+n).toNat else none
def atI {α:Type} (xs:List α) (i:Int):Option α:=(ixN xs.length i).bind fun j=>xs[j]?
theorem zj0 {n:Nat} {i:Int} {j:Nat} (h:ixN n i=some j):seqIndex? i n=some j∧j < n∧-(n:Int)≤i∧i < n:=by
 unfold ixN at h
 by_cases h0:0≤i
 ·rw [if_pos h0] at h
  by_cases h1:i < n
  ·rw [if_pos h1] at h
   have e:i.toNat=j:=Option.some.inj h
   exact ⟨by rw [seqIndex_of h0 h1,e],by lia,by lia,h1⟩
  ·rw [if_neg h1] at h; cases h
 ·rw [if_neg h0] at h
  by_cases h1:-(n:Int)≤i
  ·rw [if_pos h1] at h
   have e:(i+n).toNat=j:=Option.some.inj h
   exact ⟨by rw [seqIndex_neg (by lia) h1,e],by lia,h1,by lia⟩
  ·rw [if_neg h1] at h; cases h
theorem zj5 {α:Type} {xs:List α} {i:Int} {v:α} (h:atI xs i=some v):∃ j,seqIndex? i xs.length=some j∧xs[j]? = some v∧j < xs.length∧-(xs.length:Int)≤i∧i < xs.length:=by
 unfold atI at h
 cases e:ixN xs.length i with
 | none=>rw [e] at h; cases h
 | some j =>
  rw [e] at h
  obtain ⟨h1,h2,h3,h4⟩:=zj0 e
  exact ⟨j,h1,h,h2,h3,h4⟩
def PlainIx (b:Expr):Prop:=∀ o i,subscripted b false o i=operate [o,i] (getItem o i)
def IxR (X:Cx) (r:R2):Prop :=
 ∀ (value slice:Expr) (pins:List (Addr×Obj)) (s:Shared) (σ:St) (H:Hp) (x y:V) (v u:Value) (Q:VK),Inv X pins σ H s→RelV x v→RelV y u→r x y H Q →
  subscripted slice false v u=operate [v,u] (getItem v u)→wpAny (model X.prog X.w) X.A (subscriptTail value slice v u) (EP X pins σ Q) X.xe s
def MtR (X:Cx) (id:String) (r:V→List V→Hp→VK→Prop):Prop :=
 ∀ (pins:List (Addr×Obj)) (s:Shared) (σ:St) (H:Hp) (x:V) (xs:List V) (v:Value) (us:List Value) (Q:VK),Inv X pins σ H s→RelV x v→Vals xs us→r x xs H Q →
  wpAny (model X.prog X.w) X.A (call (.builtin id) (v::us)) (EP X pins σ Q) X.xe s
section
variable {X:Cx} {a b:Expr} {ta tb:TE} {pos:Pos}
theorem IxR.or {r r':R2} (h:IxR X r) (h':IxR X r'):IxR X (fun x y H Q=>r x y H Q∨r' x y H Q):=by
 intro value slice pins s σ H x y v u Q I rx ry q hs
 rcases q with q | q
 ·exact h value slice pins s σ H x y v u Q I rx ry q hs
 ·exact h' value slice pins s σ H x y v u Q I rx ry q hs
theorem MtR.or {id:String} {r r':V→List V→Hp→VK→Prop} (h:MtR X id r) (h':MtR X id r'):MtR X id (fun x xs H Q=>r x xs H Q∨r' x xs H Q):=by
 intro pins s σ H x xs v us Q I rx rs q
 rcases q with q | q
 ·exact h pins s σ H x xs v us Q I rx rs q
 ·exact h' pins s σ H x xs v us Q I rx rs q
theorem zse {r:R2} (hr:IxR X r) (ha:PE X a ta) (hb:PE X b tb) (hs:PlainIx b):PE X (.Subscript a b pos) (tOp r ta tb):=by
 intro pins s σ H Q I h
 exact Subscript_ (binT ha hb I h fun v u s2 x y H2 I2 rx ry q=>hr a b pins s2 σ H2 x y v u Q I2 rx ry q (hs _ _))
def rIxL (K:Frag):R2:=fun x y H Q=>∃ p xs i v,x=.ref p∧y=.int i∧SqL K H p xs∧atI xs i=some v∧Q v H
def rIxT (K:Frag):R2:=fun x y H Q=>∃ p xs i v,x=.ref p∧y=.int i∧SqT K H p xs∧atI xs i=some v∧Q v H
theorem zox:IxR X (rIxL X.K):=by
 intro value slice pins s σ H x y v u Q I rx ry h hs
 obtain ⟨p,xs,i,z,rfl,rfl,hq,he,q⟩:=h
 cases rx
 obtain ⟨t,rfl⟩:=ry
 obtain ⟨its,r,pl,hz⟩:=I.list hq
 obtain ⟨j,h1,h2,h3,h4,h5⟩:=zj5 he
 obtain ⟨w,ew,rw'⟩:=r.get h2
 have hl:=r.length
 have hn:=line63
 have fin:EP X pins σ Q w s:=⟨z,H,I,rw',q⟩
 by_cases h0:0≤i
 ·have hj:i.toNat=j:=by
   rw [seqIndex_of h0 h5] at h1
   exact Option.some.inj h1
  exact item_listR pl.isList h0 (by lia) (by rw [hj]; simpa using ew) fin hs
 ·have hj:(i+(its.toArray.size:Int)).toNat=j:=by
   rw [seqIndex_neg (by lia) h4] at h1
   rw [List.size_toArray,← hl]
   exact Option.some.inj h1
  exact subscriptTail_builtinR (x:=w) pl.isList.typeIs slot_list_getitem.lookup
   (wpAny_getItem_list_neg (Q:=fun r s'=>r=w∧EP X pins σ Q r s') pl.isList (by lia) (by rw [List.size_toArray] <;> lia) (by lia) (by rw [hj]; simpa using ew) ⟨rfl,fin⟩) hs
theorem zqk:IxR X (rIxT X.K):=by
 intro value slice pins s σ H x y v u Q I rx ry h hs
 obtain ⟨p,xs,i,z,rfl,rfl,hq,he,q⟩:=h
 cases rx
 obtain ⟨t,rfl⟩:=ry
 obtain ⟨its,r,pl,hz⟩:=I.tuple hq
 obtain ⟨j,h1,h2,h3,h4,h5⟩:=zj5 he
 obtain ⟨w,ew,rw'⟩:=r.get h2
 have hl:=r.length
 have hn:=line63
 have fin:EP X pins σ Q w s:=⟨z,H,I,rw',q⟩
 exact subscriptTail_builtinR (x:=w) pl.typeIs slot_tuple_getitem.lookup
  (getItem_tuple (j:=j) (Q:=fun r s'=>r=w∧EP X pins σ Q r s') pl (by lia) (by lia) (by rw [List.size_toArray,← hl]; exact h1) (by simpa using ew) ⟨rfl,fin⟩) hs
theorem Inv.lst {pins:List (Addr×Obj)} {σ:St} {H:Hp} {s:Shared} {p:Addr} {xs:List V} (I:Inv X pins σ H s) (h:H p=some (.lst xs)) :
  ∃ (its:List Value) (n:Nat),Vals xs its∧s.heap.get? p=some { cls:=.type "list",data:=.seq its.toArray n}∧xs.length≤sizeLine:=by
 obtain ⟨z,its,n,r,e⟩:=I.hok p _ h
 exact ⟨its,n,r,e,z⟩
theorem zey (lo hi:Option Int) (n:Nat):(sliceBounds lo hi none n).1=((HT.sIx n 0 lo:Nat):Int)∧(sliceBounds lo hi none n).2.1=((HT.sIx n n hi:Nat):Int)∧(sliceBounds lo hi none n).2.2=1:=by
 refine ⟨?_,?_,rfl⟩
 ·cases lo with
  | none=>simp [sliceBounds,HT.sIx]
  | some i =>
   simp only [sliceBounds,HT.sIx,Option.getD_none,show (1:Int) > 0 by decide,if_true]
   by_cases h:i < 0
   ·simp only [h,if_true] <;> lia
   ·simp only [h,if_false] <;> lia
 ·cases hi with
  | none=>simp [sliceBounds,HT.sIx]
  | some i =>
   simp only [sliceBounds,HT.sIx,Option.getD_none,show (1:Int) > 0 by decide,if_true]
   by_cases h:i < 0
   ·simp only [h,if_true] <;> lia
   ·simp only [h,if_false] <;> lia
theorem zed (its:List Value) (lo hi:Option Int):slicePick its.toArray lo hi none=((its.drop (HT.sIx its.length 0 lo)).take (HT.sIx its.length its.length hi - HT.sIx its.length 0 lo)).toArray:=by
 obtain ⟨h1,h2,h3⟩:=zey lo hi its.toArray.size
 unfold slicePick
 rw [h1,h2,h3]
 simp only [sliceRange_one,pick_run,List.size_toArray] <;> rfl
def rSlL (K:Frag):V→Option Int→Option Int→Hp→VK→Prop:=fun x lo hi H Q=>∃ a xs,x=.ref a∧SqL K H a xs∧∀ p,H p=none→Q (.ref p) (upd H p (.lst (cutV xs lo hi)))
theorem zn5:SlR X (rSlL X.K):=by
 intro pins s σ H x v vl vu lo hi sl Q I rx hs pl pu h
 obtain ⟨a,xs,rfl,hx,q⟩:=h
 cases rx
 obtain ⟨its,r,ht,hz⟩:=I.list hx
 have hlen:=r.length
 refine ⟨"list",_,slot_list_getitem.lookup,ht.isList.typeIs,?_⟩
 refine wpAny_getItem_list_slice ht.isList hs pl pu .none (by simp) ?_ (by rw [List.size_toArray] <;> lia)
 rw [zed,← hlen]
 refine ⟨.ref s.heap.objs.size,_,I.laid (t':=s.toks) (o:=.lst (cutV xs lo hi)) (fun b ob q=>Heap.get?_push_of_some _ q) (Nat.le_refl _) ?_,rfl,q _ (I.hok.fresh (Nat.le_refl _))⟩
 exact ⟨Nat.le_trans (zfq xs lo hi) hz,_,0,(r.drop (HT.sIx xs.length 0 lo)).take (HT.sIx xs.length xs.length hi - HT.sIx xs.length 0 lo),Heap.get?_push_size _ rfl⟩
def flatV:V→Bool
 | .non=>true
 | .bl _=>true
 | .int _=>true
 | .str _=>true
 | _=>false
def eqV:V→V→Bool
 | .non,.non=>true
 | .bl a,.bl b=>a==b
 | .bl a,.int b=>(if a then 1 else 0)==b
 | .int a,.bl b=>a==(if b then 1 else 0)
 | .int a,.int b=>a==b
 | .str a,.str b=>a==b
 | _,_=>false
theorem zq7 {A:Around} {s:Shared} {y x:V} {u v:Value} (ry:RelV y u) (rx:RelV x v) (fy:flatV y=true) (fx:flatV x=true):SeqAt.EqAt A s u v (eqV y x):=by
 cases y with
 | non =>
  cases ry
  cases x with
  | non=>cases rx; exact SeqAt.EqAt.same _
  | bl b=>cases rx; exact SeqAt.EqAt.none_bool b
  | int b=>obtain ⟨t,rfl⟩:=rx; exact SeqAt.EqAt.none_int b t
  | str b=>obtain ⟨t,rfl⟩:=rx; exact SeqAt.EqAt.none_str b t
  | _=>exact absurd (show false=true from fx) Bool.false_ne_true
 | bl a =>
  cases ry
  cases x with
  | non=>cases rx; exact SeqAt.EqAt.bool_none a
  | bl b=>cases rx; exact SeqAt.EqAt.bool_bool a b
  | int b=>obtain ⟨t,rfl⟩:=rx; exact SeqAt.EqAt.bool_int a b t
  | str b=>obtain ⟨t,rfl⟩:=rx; exact SeqAt.EqAt.bool_str a b t
  | _=>exact absurd (show false=true from fx) Bool.false_ne_true
 | int a =>
  obtain ⟨t',rfl⟩:=ry
  cases x with
  | non=>cases rx; exact SeqAt.EqAt.int_none a t'
  | bl b=>cases rx; exact SeqAt.EqAt.int_bool a t' b
  | int b=>obtain ⟨t,rfl⟩:=rx; exact SeqAt.EqAt.int_int a t' b t
  | str b=>obtain ⟨t,rfl⟩:=rx; exact SeqAt.EqAt.int_str a t' b t
  | _=>exact absurd (show false=true from fx) Bool.false_ne_true
 | str a =>
  obtain ⟨t',rfl⟩:=ry
  cases x with
  | non=>cases rx; exact SeqAt.EqAt.str_none a t'
  | bl b=>cases rx; exact SeqAt.EqAt.str_bool a t' b
  | int b=>obtain ⟨t,rfl⟩:=rx; exact SeqAt.EqAt.str_int a t' b t
  | str b=>obtain ⟨t,rfl⟩:=rx; exact SeqAt.EqAt.str_str a t' b t
  | _=>exact absurd (show false=true from fx) Bool.false_ne_true
 | _=>exact absurd (show false=true from fy) Bool.false_ne_true
theorem zcd:CallR X (.builtin "len") (fun xs H Q=>∃ p ys,xs=[.ref p]∧(SqL X.K H p ys∨SqT X.K H p ys)∧Q (.int ys.length) H):=by
 intro pins s σ H xs us Q I r h
 obtain ⟨p,ys,rfl,hq,q⟩:=h
 obtain ⟨u,rfl,rx⟩:=vals1 r
 cases rx
 have hn:=line63
 rcases hq with hq | hq
 ·obtain ⟨its,r',pl,hz⟩:=I.list hq
  have hlen:=r'.length
  exact Calls.call_len_list pl.isList (by simp only [List.size_toArray] <;> lia) ⟨.int ys.length,H,I.tok _,⟨s.toks+1,by rw [List.size_toArray,hlen]⟩,q⟩
 ·obtain ⟨its,r',pl,hz⟩:=I.tuple hq
  have hlen:=r'.length
  exact len_tuple pl (by simp only [List.size_toArray] <;> lia) ⟨.int ys.length,H,I.tok _,⟨s.toks+1,by rw [List.size_toArray,hlen]⟩,q⟩
theorem zej:CallR X (.builtin "len") (fun xs H Q=>∃ z,xs=[.str z]∧z.length≤sizeLine∧Q (.int z.length) H):=by
 intro pins s σ H xs us Q I r h
 obtain ⟨z,rfl,hz,q⟩:=h
 obtain ⟨u,rfl,t,rfl⟩:=vals1 r
 have hn:=line63
 exact len_str (by lia) ⟨.int z.length,H,I.tok _,⟨_,rfl⟩,q⟩
theorem CallR.or {f:Value} {r r':List V→Hp→VK→Prop} (h:CallR X f r) (h':CallR X f r'):CallR X f (fun xs H Q=>r xs H Q∨r' xs H Q):=by
 intro pins s σ H xs us Q I rs q
 rcases q with q | q
 ·exact h pins s σ H xs us Q I rs q
 ·exact h' pins s σ H xs us Q I rs q
theorem zcb:CallR X (.type "list") (fun xs H Q=>∃ p ys,xs=[.ref p]∧(SqL X.K H p ys∨SqT X.K H p ys)∧∀ l,H l=none→Q (.ref l) (upd H l (.lst ys))):=by
 intro pins s σ H xs us Q I r h
 obtain ⟨p,ys,rfl,hq,q⟩:=h
 obtain ⟨u,rfl,rx⟩:=vals1 r
 cases rx
 have fin:∀ (its:List Value),Vals ys its→ys.length≤sizeLine→∀ (h':Heap) (c':Nat),(∀ b o',s.heap.get? b=some o'→h'.get? b=some o') →
   h'.get? s.heap.objs.size=some { cls:=.type "list",dict:=none,data:=.seq its.toArray c',slots:=#[]}→EP X pins σ Q (.ref s.heap.objs.size) { s with heap:=h'}:=fun its r' hz h' c' kp e =>
  ⟨.ref s.heap.objs.size,_,I.laid (t':=s.toks) kp (Nat.le_refl _) (show ObjOk X.prog X.w _ h' _ (.lst ys) from ⟨hz,its,c',r',e⟩),rfl,q _ (I.hok.fresh (Nat.le_refl _))⟩
 rcases hq with hq | hq
 ·obtain ⟨its,r',pl,hz⟩:=I.list hq
  have hlen:=r'.length
  obtain ⟨o,ho,hc,n,hd⟩:=pl.isList
  exact call_list_seq p (.inl rfl) ho hc hd (fun h' c' kp e=>fin its r' hz h' c' kp e) (by simp only [List.size_toArray] <;> lia)
 ·obtain ⟨its,r',pl,hz⟩:=I.tuple hq
  have hlen:=r'.length
  obtain ⟨o,ho,hc,n,hd⟩:=pl
  exact call_list_seq p (.inr rfl) ho hc hd (fun h' c' kp e=>fin its r' hz h' c' kp e) (by simp only [List.size_toArray] <;> lia)
theorem zby:CallR X (.type "tuple") (fun xs H Q=>∃ p ys,xs=[.ref p]∧((SqL X.K H p ys∧∀ l,H l=none→Q (.ref l) (upd H l (.tup ys)))∨(SqT X.K H p ys∧Q (.ref p) H))):=by
 intro pins s σ H xs us Q I r h
 obtain ⟨p,ys,rfl,h⟩:=h
 obtain ⟨u,rfl,rx⟩:=vals1 r
 cases rx
 rcases h with ⟨hq,q⟩ | ⟨hq,q⟩
 ·obtain ⟨its,r',pl,hz⟩:=I.list hq
  have hlen:=r'.length
  refine call_tuple_list pl.isList (fun h' kp=>?_) (by simp only [List.size_toArray] <;> lia)
  have I1:Inv X pins σ H { s with heap:=h'}:=I.kept (t':=s.toks) kp
  have I2:Inv X pins σ (upd H h'.objs.size (.tup ys)) { s with heap:=h'.push { cls:=.type "tuple",data:=.seq its.toArray}} :=
   I1.laid (t':=s.toks) (fun b o e=>Heap.get?_push_of_some _ e) (Nat.le_refl _) (show ObjOk X.prog X.w _ _ _ (.tup ys) from ⟨hz,its,r',IsTupN.new _ _⟩)
  exact ⟨.ref h'.objs.size,_,I2,rfl,q _ (I1.hok.fresh (Nat.le_refl _))⟩
 ·obtain ⟨its,r',pl,hz⟩:=I.tuple hq
  exact call_tuple_same pl ⟨.ref p,H,I,rfl,q⟩
def tyV (K:Frag) (T:String) (x:V) (H:Hp):Prop:=match x with
 | .str _=>T = "str"
 | .int _=>T = "int"
 | .ref p=>(T = "list"∧∃ xs,SqL K H p xs)∨(T = "tuple"∧∃ o,K.lookup p=some o∧o.cls=.type "tuple"∧o.dict=none) ∨
   (T = "dict"∧((∃ kvs,H p=some (.dK kvs))∨∃ kvs,H p=some (.dT kvs)))∨(T = "set"∧∃ S n,H p=some (.set S n))
 | _=>False
theorem zmy {pins:List (Addr×Obj)} {σ:St} {H:Hp} {s:Shared} {T:String} {x:V} {v:Value} (I:Inv X pins σ H s) (r:RelV x v) (ty:tyV X.K T x H) :
  s.TypeIs v T∧∀ a,v=.ref a→∃ ob,s.heap.get? a=some ob∧ob.dict=none:=by
 cases x with
 | str z =>
  obtain ⟨t,rfl⟩:=r
  cases (show T = "str" from ty)
  exact ⟨typeIs_str s z t,fun _ e=>nomatch e⟩
 | int i =>
  obtain ⟨t,rfl⟩:=r
  cases (show T = "int" from ty)
  exact ⟨typeIs_int s i t,fun _ e=>nomatch e⟩
 | ref p =>
  cases r
  rcases ty with ⟨rfl,xs,hq⟩ | ⟨rfl,o,hk,hc,hd⟩ | ⟨rfl,hk⟩ | ⟨rfl,S,n,hk⟩
  ·obtain ⟨its,_,pl,_⟩:=I.list hq
   refine ⟨pl.isList.typeIs,fun a e=>?_⟩
   cases e
   obtain ⟨o,n,e,c,hd,_⟩:=pl
   exact ⟨o,e,hd⟩
  ·refine ⟨⟨o,I.kIn p o hk,hc⟩,fun a e=>?_⟩
   cases e
   exact ⟨o,I.kIn _ o hk,hd⟩
  ·have z:∃ o,s.heap.get? p=some o∧o.ExactDict:=by
    rcases hk with ⟨kvs,hk⟩ | ⟨kvs,hk⟩
    ·obtain ⟨_,_,_,_,o,_,_,e,ex,_⟩:=I.hok p _ hk
     exact ⟨o,e,ex⟩
    ·obtain ⟨_,_,_,_,o,_,_,e,ex,_⟩:=I.hok p _ hk
     exact ⟨o,e,ex⟩
   obtain ⟨o,e,ex⟩:=z
   refine ⟨⟨o,e,ex.1⟩,fun a e2=>?_⟩
   cases e2
   exact ⟨o,e,ex.2.1⟩
  ·obtain ⟨o,_,_,_,e,ex,_⟩:=I.hok p _ hk
   refine ⟨⟨o,e,ex.1⟩,fun a e2=>?_⟩
   cases e2
   exact ⟨o,e,ex.2.1⟩
 | _=>exact False.elim ty
def tBM0 (K:Frag) (T:String) (r:V→List V→Hp→VK→Prop) (to:TE):TE:=fun σ H Q=>to σ H fun x H1=>tyV K T x H1∧r x [] H1 Q
def tBM (K:Frag) (T:String) (r:V→List V→Hp→VK→Prop) (to:TE) (t:TA):TE:=fun σ H Q=>to σ H fun x H1=>tyV K T x H1∧t σ H1 fun xs H2=>r x xs H2 Q
variable {o e:Expr} {es:List Expr} {to:TE} {t:TA} {name:Str} {apos cpos:Pos} {T id:String} {r:V→List V→Hp→VK→Prop}
theorem zpo (pa:PlainAttrs T) (slot:Slot T name id) (hty:typeOf (.builtin id)=pure (.type "method_descriptor")) (hm:MtR X id r) (ho:PE X o to)
  (hbase:attributeBase o name X.env (eval o X.env)=eval o X.env:=by rfl) (hline:(apos.endLine==cpos.line)=true:=by rfl):PE X (.Call (.Attribute o name apos) [] [] cpos) (tBM0 X.K T r to):=by
 intro pins s σ H Q I h
 refine wpAny_Call_method0_late hbase hline (thn (ho pins s σ H _ I h) fun v s1 ⟨x,H1,I1,r1,ty,q1⟩=>?_)
 obtain ⟨h1,h2⟩:=zmy I1 r1 ty
 exact ⟨T,id,pa,slot,hty,h1,h2,Calls.callWith_builtin rfl (PySem.evalArgs_none (hm pins s1 σ H1 x [] v [] Q I1 r1 .nil q1))⟩
theorem zqc (pa:PlainAttrs T) (slot:Slot T name id) (hty:typeOf (.builtin id)=pure (.type "method_descriptor")) (hm:MtR X id r) (ho:PE X o to) (ha:PA X (e::es) t)
  (hbase:attributeBase o name X.env (eval o X.env)=eval o X.env:=by rfl)
  (hfew:((backTo cpos (starEach (e::es) X.env)).all (fun x=>!x.1)&&(backToKw cpos (keywordEach [] X.env)).all (fun x=>x.1.isSome)
   && decide ((e::es).length+([]:List Keyword).length+(if ([]:List Keyword).isEmpty then 0 else 1) < 30))=true:=by rfl)
  (hline:(apos.endLine==cpos.line)=true:=by rfl) (hs:starEach (e::es) X.env=(false,eval e X.env)::starEach es X.env:=by rfl) (hplain:(backTo cpos (starEach es X.env)).any (·.1)=false:=by rfl) :
  PE X (.Call (.Attribute o name apos) (e::es) [] cpos) (tBM X.K T r to t):=by
 intro pins s σ H Q I h
 refine wpAny_Call_method_late hbase hfew hline rfl (thn (ho pins s σ H _ I h) fun v s1 ⟨x,H1,I1,r1,ty,q1⟩=>?_)
 obtain ⟨h1,h2⟩:=zmy I1 r1 ty
 refine ⟨T,id,pa,slot,hty,h1,h2,?_⟩
 have hA:=ha cpos pins s1 σ H1 _ I1 q1
 rw [hs] at hA ⊢
 refine Calls.callWith_builtin (by show (false||(backTo cpos (starEach es X.env)).any (·.1))=false; rw [hplain] <;> rfl) (Calls.evalArgs_plain ?_)
 exact thn hA fun us s2 ⟨vs,H2,I2,r2,q2⟩=>hm pins s2 σ H2 x vs v us Q I2 r1 r2 q2
/- xs.append(e),list.index on a module's tuple .. are MtR facts of 06m -/
end
end L2
namespace L2
open PySem PySem.Spec PyProof.Rows
def MtM (X:Cx) (id:String) (r:V→List V→Hp→VK→Prop):Prop :=
 ∀ (pins:List (Addr×Obj)) (s:Shared) (σ:St) (H:Hp) (x:V) (xs:List V) (v:Value) (us:List Value) (Q:VK),Inv X pins σ H s→RelV x v→Vals xs us→r x xs H Q →
  wpAny (model X.prog X.w) X.A (call (.builtin id) (v::us)) (EP X pins σ Q) X.xe s
theorem Vals.one {x:V} {us:List Value} (h:Vals [x] us):∃ u,us=[u]∧RelV x u:=by
 cases h with
 | cons r h=>cases h; exact ⟨_,rfl,r⟩
theorem Vals.two {x y:V} {us:List Value} (h:Vals [x,y] us):∃ u v,us=[u,v]∧RelV x u∧RelV y v:=by
 cases h with
 | cons r h=>cases h with
  | cons q h=>cases h; exact ⟨_,_,rfl,r,q⟩
theorem Vals.zero:∀ {us:List Value},Vals [] us→us=[]
 | _,.nil=>rfl
theorem Vals.dropLast {xs:List V} {us:List Value} (h:Vals xs us):Vals xs.dropLast us.dropLast:=by
 induction h with
 | nil=>exact .nil
 | cons r t ih =>
  cases t with
  | nil=>exact .nil
  | cons q t'=>exact .cons r ih
theorem Vals.eraseIdx:∀ {xs:List V} {us:List Value} (i:Nat),Vals xs us→Vals (xs.eraseIdx i) (us.eraseIdx i)
 | _,_,_,.nil=>.nil
 | _,_,0,.cons _ t=>t
 | _,_,i+1,.cons r t=>.cons r (Vals.eraseIdx i t)
theorem Vals.reverse {xs:List V} {us:List Value} (h:Vals xs us):Vals xs.reverse us.reverse:=by
 induction h with
 | nil=>exact .nil
 | cons r t ih=>rw [List.reverse_cons,List.reverse_cons]; exact Vals.append ih (.cons r .nil)
theorem zic {α:Type} (l:List α):l.eraseIdx (l.length - 1)=l.dropLast:=by
 induction l with
 | nil=>rfl
 | cons a r ih =>
  cases r with
  | nil=>rfl
  | cons b r =>
   have e:(a::b::r).length - 1=((b::r).length - 1)+1:=by
    have h1:(a::b::r).length=r.length+2:=rfl
    have h2:(b::r).length=r.length+1:=rfl
    lia
   rw [e,List.eraseIdx_cons_succ,ih]
   all_goals rfl
section
variable {X:Cx} {pins:List (Addr×Obj)} {σ:St} {H:Hp} {s:Shared} {l b:Addr} {xs ys zs:List V}
theorem Inv.lset {its its':List Value} {n:Nat} {f:Array Value→Array Value} {t':Nat} (I:Inv X pins σ H s) (hH:H l=some (.lst xs))
  (e:s.heap.get? l=some { cls:=.type "list",data:=.seq its.toArray n}) (hf:f its.toArray=its'.toArray) (hv:Vals ys its') (hz:ys.length≤sizeLine) :
  Inv X pins σ (upd H l (.lst ys)) { s with heap:=s.heap.update l (Obj.mapSeq f),toks:=t'}:=by
 have q:=PySem.IsL.update e f
 rw [hf] at q
 refine I.write (x:=l) (e:=l) (by rw [hH]; exact trivial) (.inl rfl) (fun b' u hb hu=>(Heap.get?_update_other s.heap (Obj.mapSeq f) (Ne.symm hb)).trans hu) ⟨_,q⟩ ?_
 exact ⟨hz,its',_,hv,q⟩
theorem Inv.lnew {its:List Value} {t':Nat} (I:Inv X pins σ H s) (hv:Vals ys its) (hz:ys.length≤sizeLine) :
  Inv X pins σ (upd H s.heap.objs.size (.lst ys)) { s with heap:=s.heap.push { cls:=.type "list",data:=.seq its.toArray},toks:=t'} :=
 I.laid (fun _ _ q=>Heap.get?_push_of_some _ q) (Nat.le_refl _) ⟨hz,its,0,hv,Heap.get?_push_size _ rfl⟩
theorem Inv.fresh (I:Inv X pins σ H s):H s.heap.objs.size=none:=I.hok.fresh (Nat.le_refl _)
theorem Inv.lstM (I:Inv X pins σ H s) (hH:H l=some (.lst xs)):xs.length≤sizeLine∧∃ (its:List Value) (n:Nat),Vals xs its∧xs.length=its.length∧s.heap.get? l=some { cls:=.type "list",data:=.seq its.toArray n}:=by
 obtain ⟨z,its,n,r,e⟩:=I.hok l _ hH
 exact ⟨z,its,n,r,r.length,e⟩
theorem notLongL {n:Nat} (h:n≤sizeLine):Builtin.List.listTooLong n=false:=by
 unfold Builtin.List.listTooLong
 exact decide_eq_false (by lia)
end
section
variable {X:Cx}
def rAppend:V→List V→Hp→VK→Prop:=fun x vs H Q=>∃ l xs y,x=.ref l∧vs=[y]∧H l=some (.lst xs)∧xs.length < sizeLine∧Q .non (upd H l (.lst (xs++[y])))
theorem ze0:MtM X "list.append" rAppend:=by
 intro pins s σ H x vs v us Q I rx rv h
 obtain ⟨l,xs,y,rfl,rfl,hH,hz,q⟩:=h
 cases rx
 obtain ⟨u,rfl,ru⟩:=rv.one
 obtain ⟨z,its,n,r,hl,e⟩:=I.lstM hH
 refine call_meets F.slot_list_append ⟨_,e,rfl⟩ F.entry_list_append (F.args_list_append_2 _ _) (PySem.list_append l its.toArray n u (by rw [List.size_toArray]; lia)) ⟨e,?_⟩
 refine ⟨.non,_,I.lset (its':=its++[u]) hH e (by simp) (r.append (.cons ru .nil)) ?_,rfl,q⟩
 rw [List.length_append,List.length_singleton]
 lia
def rPop:V→List V→Hp→VK→Prop:=fun x vs H Q=>∃ l xs y,x=.ref l∧vs=[]∧H l=some (.lst xs)∧xs[xs.length - 1]? = some y∧Q y (upd H l (.lst xs.dropLast))
theorem zp9:MtM X "list.pop" rPop:=by
 intro pins s σ H x vs v us Q I rx rv h
 obtain ⟨l,xs,y,rfl,rfl,hH,hy,q⟩:=h
 cases rx
 have hus:=rv.zero
 subst hus
 obtain ⟨z,its,n,r,hl,e⟩:=I.lstM hH
 obtain ⟨u,hu,ru⟩:=r.get hy
 have hy':its.toArray[its.toArray.size - 1]? = some u:=by
  show its.toArray[its.length - 1]? = some u
  rw [← Array.getElem?_toList,← hl]
  exact hu
 refine call_meets F.slot_list_pop ⟨_,e,rfl⟩ F.entry_list_pop (F.args_list_pop_1 _) (MeetsSeq.list_pop_last l its.toArray n u hy' (by rw [List.size_toArray]; lia)) ⟨e,?_⟩
 refine ⟨y,_,I.lset (its':=its.dropLast) hH e ?_ r.dropLast ?_,ru,q⟩
 ·show its.toArray.eraseIdxIfInBounds (its.toArray.size - 1)=its.dropLast.toArray
  rw [List.size_toArray,List.eraseIdxIfInBounds_toArray,zic]
 ·rw [List.length_dropLast]
  lia
end
section
variable {prog:Program} {w:World} {A:Around} {E:Value→Shared→Prop} {s:Shared}
theorem zh8 {a c n:Nat} (hac:a≤c) (hc:c≤n):sliceBounds (some (a:Int)) (some (c:Int)) none n=((a:Int),(c:Int),1):=by
 simp only [sliceBounds,Option.getD_none]
 have h1:¬ ((a:Int) < 0):=by lia
 have h2:¬ ((c:Int) < 0):=by lia
 simp only [h1,h2,if_false,show (1:Int) > 0 by decide,if_true]
 congr 1
 ·lia
 ·congr 1; lia
set_option maxRecDepth 100000 in
theorem zlv {l b sl : Addr} {items new : Array Value} {n n2 : Nat} {vl vu : Value} {a c : Nat} {Q : Unit → Shared → Prop}
    (e:s.heap.get? l=some { cls:=.type "list",data:=.seq items n}) (e2:s.heap.get? b=some { cls:=.type "list",data:=.seq new n2}) (hne:l≠b)
    (hs:s.heap.IsSliceOf sl vl vu .none) (pl:IsPart vl (some (a:Int))) (pu:IsPart vu (some (c:Int))) (hac:a≤c) (hc:c≤items.size)
    (hsz:items.size+new.size≤sizeLine) (h:Q () { s with heap:=s.heap.update l (Obj.mapSeq fun xs=>xs.extract 0 a++new++xs.extract c xs.size)}) :
    wpAny (model prog w) A (setItem (.ref l) (.ref sl) (.ref b)) Q E s:=by
  have hl:s.heap.IsList l items:=PySem.IsL.isList e
  have hb:s.heap.IsList b new:=PySem.IsL.isList e2
  obtain ⟨os,hos,hcs,hds⟩:=id hs
  have hTs:s.TypeIs (.ref sl) "slice":=⟨os,hos,hcs⟩
  have hstep:¬ ((rawPart none==rawInt 0)=true):=Bool.false_ne_true
  have hsame:Builtin.List.listSameRef (.ref l) (.ref b)=false:=by
    unfold Builtin.List.listSameRef
    exact beq_eq_false_iff_ne.mpr hne
  have hmax:(max (a:Int) (c:Int)).toNat=c:=by lia
  have hz':((fun xs:Array Value=>xs.extract 0 a++new++xs.extract c xs.size) items).size≤sizeLine+1:=by
    simp only [Array.size_append,Array.size_extract]
    lia
  unfold setItem
  try with_reducible refine wpAny_holding ?_
  first | refine wpAny_bind (wpAny_pure ?_) | skip
  refine wpAny_bind (wpAny_sequenceKey hl.typeIs (by decide) ?_)
  refine wpAny_bind (wpAny_callSpecial?_slot (name:=Str.ofString "__setitem__") hl.typeIs slot_list_setitem
    (wpAny_call_entry slot_list_setitem hl.typeIs entry_list_setitem ?_ (args_list_setitem _ _ _)))
  show wpAny _ _ (Builtin.List.listSubscript? (.ref sl) >>= _) _ _ s
  refine wpAny_bind ?_
  unfold Builtin.List.listSubscript?
  refine wpAny_bind (wpAny_specialOf hTs slice_no_index ?_)
  simp only [Option.isNone_none,if_true]
  refine wpAny_pure ?_
  show wpAny _ _ (typeOf (.ref sl) >>= _) _ _ s
  refine wpAny_bind (wpAny_typeOf hTs ?_)
  first
    | rw [if_neg (by decide)]
    | refine PySem.W.KFB.if_not (by decide) ?_
  rw [listSliceParts_eq]
  refine wpAny_bind (wpAny_bind (wpAny_field hos hds (x:=.none) rfl (wpAny_bind (wpAny_listPart .none ?_))))
  rw [if_neg hstep]
  refine wpAny_bind (wpAny_field hos hds (x:=vl) rfl (wpAny_bind (wpAny_listPart pl ?_)))
  refine wpAny_bind (wpAny_field hos hds (x:=vu) rfl (wpAny_bind (wpAny_listPart pu (wpAny_pure ?_))))
  first
    | simp only [hsame,Bool.false_eq_true,if_false]
    | refine PySem.W.KFB.if_not hsame ?_
    | (dsimp only
       rw [if_neg (by rw [hsame]; exact Bool.false_ne_true)])
  refine wpAny_bind (m:=Builtin.List.listAllItems (.ref b) "must assign iterable to extended slice") ?_
  unfold Builtin.List.listAllItems
  refine wpAny_bind (wpAny_typeOf hb.typeIs ?_)
  first
    | refine PySem.W.KFB.if_so (by decide) ?_
    | rw [if_pos (by decide)]
    | simp only [beq_self_eq_true,Bool.true_or,if_true]
  unfold Builtin.List.listItems
  refine wpAny_bind (wpAny_seqItems e2 rfl (wpAny_pure ?_))
  refine wpAny_bind (wpAny_bind (wpAny_seqItems e rfl (wpAny_pure ?_)))
  refine wpAny_bind (wpAny_of_eq ((sliceIndices_raw (some (a:Int)) (some (c:Int)) none items.size (by simp)).trans (congrArg (pure:Int×Int×Int→Sem (Int×Int×Int)) (zh8 hac hc))) ?_)
  show wpAny _ _ (if ((1:Int)==1)=true then _ else _) _ _ s
  rw [if_pos (by decide)]
  refine wpAny_bind (wpAny_rule ?_)
  first
    | simp only [notLongL hsz,Bool.false_eq_true,if_false]
    | refine PySem.W.KFB.if_not (notLongL hsz) ?_
  first | refine wpAny_bind (wpAny_pure ?_) | skip
  show wpAny _ _ (updateSeq l (fun xs=>xs.extract 0 ((a:Int)).toNat++new++xs.extract (max (a:Int) (c:Int)).toNat xs.size) >>= _) _ _ s
  rw [hmax,Int.toNat_natCast]
  refine wpAny_bind (wpAny_updateSeq (hz:=Nat.le_trans (Nat.le_add_right _ _) hsz) (_hz':=hz') e rfl ?_)
  refine wpAny_bind (wpAny_letGo ?_)
  first
    | exact wpAny_bind (wpAny_pure (wpAny_pure ⟨.none,rfl,wpAny_pure h⟩))
    | exact wpAny_pure ⟨.none,rfl,wpAny_pure h⟩
end
section
variable {X:Cx}
end
end L2
namespace Att
open PySem PySem.W PySem.Calls PyProof.Rows
theorem zc4 {P:Params} {h:Heap}:∀ (ns:List Int) (vs:List Value),WellAll P h vs (ns.map WData.int)→IntsAre vs ns:=by
 intro ns
 induction ns with
 | nil =>
  intro vs w
  rw [List.map_nil] at w
  cases w
  exact .nil
 | cons n ns ih =>
  intro vs w
  rw [List.map_cons] at w
  cases w with
  | cons a b =>
   cases a
   exact .cons _ _ (ih _ b)
theorem zjz {l:OpenLaw} {n:Nat} (hn:l.most=some n) {P:Params} {h:Heap} {args:List WData} {vals:List Value}
  (hpre:l.row.toRowW.claim.pre args=true) (hwl:WellAll P h vals args) :
  ∃ a vs ns,vals=[Value.ref a]∧args=[WData.list (ns.map WData.int)]∧h.get? a=some { cls:=.type "list",data:=.seq vs.toArray}∧IntsAre vs ns∧ns.length≤n:=by
 have hsh:WShape.hasAll [] args [.list .int]=true:=(pre_splitW hpre).1
 have hc:l.pre.holds [] { args:=args}=true:=(pre_splitW hpre).2
 obtain ⟨d,r,rfl,h1,h2⟩:=hasAllW_cons hsh
 obtain rfl:=hasAllW_nil h2
 obtain ⟨xs,rfl,h3⟩:=hasW_list h1
 obtain ⟨ns,rfl⟩:=items_int h3
 have hlen:ns.length≤n:=by
  unfold OpenLaw.pre at hc
  have h4:(WTm.not (.lt (.lit (.int (n:Int))) (.len (.arg 0)))).holds [] { args:=[.list (ns.map .int)]}=true:=by
   have h4:=(holds_andW hc).1
   rw [hn] at h4
   exact h4
  have h5:=condW_of h4 (w_not (w_lt w_lit (w_len_list (w_arg rfl))))
  rw [List.length_map] at h5
  refine Nat.le_of_not_lt fun q=>?_
  have q':(n:Int) < ((ns.length:Nat):Int):=by lia
  first
   | (rw [decide_eq_true q'] at h5; exact absurd h5 (by decide))
   | (simp at h5; lia)
 cases hwl with
 | cons w1 w2 =>
  cases w2
  cases w1 with
  | list ho hall=>exact ⟨_,_,ns,rfl,rfl,ho,zc4 ns _ hall,hlen⟩
theorem zjq (l:OpenLaw) (args:List WData):l.row.toRowW.claim.post args (.bool true) args=true :=
 postW_of (r:=l.row.toRowW) (X:=(true==true))
  (show WShape.has [] (.bool true) .bool=true by first | rfl | decide | simp [WShape.has,WShape.arms,WShape.armsAll])
  (show (WTm.eq .res (.lit (.bool true))).value [] { args:=args,res:=some (.bool true),after:=args}=some (.bool (true==true)) from w_eq_bool (w_res rfl) w_lit) rfl
theorem attach_call {l:OpenLaw} {n:Nat} {q:Program} {loose:List Str} {XP:(Str→Option Value)→Heap→Prop} {YP:World→Heap→Prop} {d:DefRec}
  (hn:l.most=some n) (hdf:d.params.defaults=[])
  (call:∀ (w:World) (s₀ s₁:Shared) (mg mb:Str→Option Value) (fa:Addr) (o:Obj) (pm cd doc:Value) (a:Addr) (vs:List Value) (ns:List Int),
   Ground q loose [] XP w s₀ mg mb s₁.heap→YP w s₁.heap →
   s₁.heap.get? fa=some o→o.data=.func (docDef d.name d.params d.body d.scope pm cd doc)→s₁.heap.CodeRec cd d.name→mg d.name=some (.ref fa) →
   s₁.heap.get? a=some { cls:=.type "list",data:=.seq vs.toArray}→IntsAre vs ns→ns.length≤n→s₁.gens=#[] →
   codeAny (model l.prog w) callerA (.call (.ref fa) ⟨[.ref a],[]⟩) (fun r s'=>r=.ok (.ret (.bool true))∧OldK s₁.heap s'.heap∧s'.os=s₁.os∧AllBare s'.gens) s₁) :
  WalkO q loose XP YP l.row.toRowW d [] (fun f vs=>PySem.call f vs):=by
 intro w s₀ s₁ mg mb G Y fa o pm cd doc dV kV ho hd hcd hD hmg hg args vals as hpre hlay hrd hwl hlo
 obtain rfl:dV=.none:=Dflts.none hD hdf
 obtain rfl:kV=.none:=Dflts.noKw hD
 obtain ⟨a,vs,ns,rfl,rfl,hobj,hints,hlen⟩:=zjz hn hpre hwl
 refine enter_call (codeAny_mono (call w s₀ s₁ mg mb fa o pm cd doc a vs ns G Y ho (fd_plain hd) hcd hmg hobj hints hlen hg) fun r s' hq=>?_)
 obtain ⟨rfl,h2,h3,h4⟩:=hq
 exact ⟨.inl ⟨.bool true,.bool true,[],rfl,fun _=>rfl,.bool true,zjq l _,fun _=>⟨List.Pairwise.nil,fun _ hm=>(nomatch hm)⟩⟩,h2,h3,h4⟩
section
variable {prog:Program} {w:World} {A:Around} {E:Value→Shared→Prop} {s:Shared} {K:Frag}
end
end Att
namespace L2
open PySem PySem.Spec PyProof.Rows
theorem za7:∀ {vs:List Value} {ns:List Int},IntsAre vs ns→Vals (ns.map V.int) vs
 | _,_,.nil=>.nil
 | _,_,.cons n t h=>.cons ⟨t,rfl⟩ (za7 h)
def Only (H:Hp):Prop:=∀ b,H b=none∨∃ o xs,H b=some (.frz o (.lst xs))
theorem zk3 {P:Program} {w:World} {K:Frag} {mg mb:Str→Option Value} {CX:CXT} {k:Nat} {fa a:Addr} {fd:FuncData} {x:Str} {sp:Sp} {s₁:Shared} {vs:List Value} {ns:List Int}
  (KX:K.In s₁.heap) (hns:s₁.heap.Ns mainGlobals mg) (hb:s₁.heap.Ns builtinsNs mb) (hbb:∀ x:Str,x≠"__name__"→mb x=bootBuiltins x) (hlim:s₁.heap.NoLimit) (hg:s₁.gens=#[])
  (ha:s₁.heap.get? a=some { cls:=.type "list",data:=.seq vs.toArray}) (hi:IntsAre vs ns) (hl:ns.length≤sizeLine) (hr:Room k callerA)
  (F:∀ base:Heap,K.In base→base.Ns mainGlobals mg→FnOk P w K mg base CX k fa fd [x] sp) (hbind:∀ (s:Shared) (u:Value),BindsTo s fd ⟨[u],[]⟩ [(x,u)])
  (hsp:∀ H:Hp,Only H→SqL K H a (ns.map V.int)→sp [.ref a] H (fun v _=>v=.bl true) fun _ _ _=>False)
  (hCX:∀ H e s',CX [] H s₁ (fun _ _ _=>False) e s'→False) :
  codeAny (model P w) callerA (.call (.ref fa) ⟨[.ref a],[]⟩) (fun r s'=>r=.ok (.ret (.bool true))∧OldK s₁.heap s'.heap∧s'.os=s₁.os∧AllBare s'.gens) s₁:=by
 have rv:=za7 hi
 have lenV:=hi.length
 -- from an abstract heap in which nothing but the script may be tracked
 have core:∀ H:Hp,Only H→SqL K H a (ns.map V.int)→HOk P w H s₁.heap→(∀ b,H b≠none→b=a)→(H a≠none→K.lookup a=none) →
   codeAny (model P w) callerA (.call (.ref fa) ⟨[.ref a],[]⟩) (fun r s'=>r=.ok (.ret (.bool true))∧OldK s₁.heap s'.heap∧s'.os=s₁.os∧AllBare s'.gens) s₁:=by
  intro H hO hS hok hA hK
  have base_of:∀ {b:Addr} {o:Obj},s₁.heap.get? b=some o→H b=none→(hidT s₁.heap H).get? b=some o:=fun e n=>zg4 e n
  have noA:∀ {b:Addr} {o:Obj} {es:Array DictEntry} {ep:Nat},s₁.heap.get? b=some o→o.data=.dict es ep→H b=none:=fun {b o es ep} e d=>by
   cases q:H b with
   | none=>rfl
   | some u =>
    have e':b=a:=hA b (by rw [q]; simp)
    subst e'
    rw [ha] at e; cases e
    have d':Data.seq vs.toArray _=Data.dict es ep:=d
    cases d'
  have nsK:∀ {b:Addr} {m:Str→Option Value},s₁.heap.Ns b m→(hidT s₁.heap H).Ns b m:=fun {b m} ⟨o,es,ep,e,d,r⟩=>⟨o,es,ep,base_of e (noA e d),d,r⟩
  have hKb:K.In (hidT s₁.heap H):=fun b o e=>base_of (KX b o e) (by
   cases q:H b with
   | none=>rfl
   | some u =>
    have e':b=a:=hA b (by rw [q]; simp)
    subst e'
    rw [hK (by rw [q]; simp)] at e; cases e)
  have hM:Mod K mg (hidT s₁.heap H):=⟨hKb,nsK hns,⟨mb,nsK hb,hbb⟩,let ⟨mc,h1,h2⟩:=hlim; ⟨mc,nsK h1,h2⟩⟩
  have e0:Env0 P w K mg (hidT s₁.heap H) callerA [] s₁ H:=⟨rfl,hM,fun b o e=>zik e,Nat.le_of_eq (ze1 _ _),trivial,fun b hb=>absurd (show b∈([]:List Addr) from hb) (by simp),hok,.of_eq hg⟩
  refine codeAny_mono ((F _ hKb (nsK hns)).run callerA [] s₁ H ⟨[.ref a],[]⟩ [.ref a] [.ref a] _ _ hr e0 (hbind s₁ (.ref a)) (.cons rfl .nil) (hsp H hO hS)) fun r s' h=>?_
  cases r with
  | error e=>exact (hCX H e s' h).elim
  | ok fl =>
   cases fl with
   | next=>exact False.elim h
   | brk=>exact False.elim h
   | cont=>exact False.elim h
   | ret u =>
    obtain ⟨v,H',os,bare,un,hok',r',q⟩:=h
    have q':v=.bl true:=q
    subst q'
    obtain rfl:u=Value.bool true:=r'
    refine ⟨rfl,OldK.of_keep fun b o e=>?_,os,bare⟩
    cases q:H b with
    | none=>exact un.keep b o e q (by intro z; exact absurd (show b∈([]:List Addr) from z) (by simp)) (by simp)
    | some u =>
     rcases hO b with z | ⟨ob,xs,z⟩
     ·rw [q] at z; cases z
     ·have z2:=un.frzs b ob _ z
      obtain ⟨e1,_⟩:=hok b _ z
      obtain ⟨e2,_⟩:=hok' b _ z2
      rw [e] at e1; cases e1
      exact e2
 cases hk:K.lookup a with
 | some o =>
  -- the script is one of the module's own objects
  have e:=KX a o hk
  rw [ha] at e
  cases e
  refine core (fun _=>none) (fun _=>.inl rfl) (.inr ⟨_,vs.toArray,_,hk,rfl,rfl,rfl,by rw [List.size_toArray,lenV]; exact hl,by simpa using rv⟩) (fun b u z=>by have z':(none:Option HO)=some u:=z; cases z') (fun b z=>absurd rfl z) fun z=>absurd rfl z
 | none =>
  refine core (fun b=>if b=a then some (.frz { cls:=.type "list",data:=.seq vs.toArray} (.lst (ns.map V.int))) else none) (fun b=>?_) (.inl (.inr ⟨{ cls:=.type "list",data:=.seq vs.toArray},if_pos rfl⟩)) (fun b u z=>?_) (fun b z=>?_) fun _=>hk
  ·by_cases hb:b=a
   ·exact .inr ⟨_,_,if_pos hb⟩
   ·exact .inl (if_neg hb)
  ·by_cases hb:b=a
   ·have z':=(if_pos hb).symm.trans z
    cases z'
    subst hb
    exact ⟨ha,by rw [List.length_map]; exact hl,vs,_,rv,ha⟩
   ·have z':=(if_neg hb).symm.trans z
    cases z'
  ·by_cases hb:b=a
   ·exact hb
   ·exact absurd (if_neg hb) z
end L2
namespace L2
open PySem PySem.Spec PyProof.Rows
abbrev KOf {K:Frag} {h:Heap} (_:K.In h):Frag:=K
theorem zsy {l:PySem.W.OpenLaw} {n k:Nat} {q:Program} {loose:List Str} {XP:(Str→Option Value)→Heap→Prop} {YP:World→Heap→Prop} {d:DefRec} {K:Params→Frag} {CX:World→CXT} {sp:World→Sp} {x:Str}
  (hn:l.most=some n) (hn2:n≤sizeLine) (hdf:d.params.defaults=[]) (hr:Room k callerA)
  (hY:∀ (w:World) (h:Heap),YP w h→(K w.params).In h)
  (F:∀ (w:World) (mg:Str→Option Value) (fa:Addr) (h:Heap),(K w.params).In h→h.Ns mainGlobals mg→mg d.name=some (.ref fa) →
   ∃ fd:FuncData,(∀ (s:Shared) (u:Value),BindsTo s fd ⟨[u],[]⟩ [(x,u)]) ∧
    ∀ base:Heap,(K w.params).In base→base.Ns mainGlobals mg→FnOk l.prog w (K w.params) mg base (CX w) k fa fd [x] (sp w))
  (hsp:∀ (w:World) (H:Hp) (a:Addr) (ns:List Int),ns.length≤n→Only H→SqL (K w.params) H a (ns.map V.int)→sp w [.ref a] H (fun v _=>v=.bl true) fun _ _ _=>False)
  (hCX:∀ (w:World) (H:Hp) (s:Shared) (e:Value) (s':Shared),CX w [] H s (fun _ _ _=>False) e s'→False) :
  PySem.W.WalkO q loose XP YP l.row.toRowW d [] (fun f vs=>PySem.call f vs):=by
 refine Att.attach_call hn hdf fun w s₀ s₁ mg mb fa o pm cd doc a vs ns G Y ho hd hcd hmg hobj hints hlen hg=>?_
 have KX:=hY w _ Y
 obtain ⟨fd,hb,hF⟩:=F w mg fa _ KX G.T.g hmg
 exact zk3 KX G.T.g G.T.b G.T.builtins G.T.nolimit hg hobj hints (Nat.le_trans hlen hn2) hr hF hb (fun H hO hS=>hsp w H a ns hlen hO hS) fun H e s'=>hCX w H s₁ e s'
end L2
namespace L2
open PySem PySem.Spec PyProof.Rows
def defArgs (s:Stmt):Arguments:=match s with
 | .FunctionDef _ a _ _ _ _ _ _ _ _=>a
 | _=>{ posonlyargs:=[],args:=[],vararg:=none,kwonlyargs:=[],kw_defaults:=[],kwarg:=none,defaults:=[]}
def defBody (s:Stmt):List Stmt:=match s with
 | .FunctionDef _ _ b _ _ _ _ _ _ _=>b
 | _=>[]
def defScope (s:Stmt):Scope:=match s with
 | .FunctionDef _ _ _ _ _ _ sc _ _ _=>sc
 | _=>{ kind:=.function,names:=[],isGenerator:=false,isCoroutine:=false}
abbrev CX0:CXT:=fun _ _ _ _ _ _=>False
abbrev E0:XK:=fun _ _ _=>False
theorem pass0 {X:Cx}:Passes CX0 X E0:=fun _ _ _ _ _ _ _ h=>h.elim
structure Fun (K:Frag) (x qual:Str) (st:Stmt) (f:Addr) (fd:FuncData):Prop where
 ex:∃ (oc:Value) (od:Option Addr) (kV doc pm:Value) (an:Option Addr) (cdv ct:Value) (osl:Array (Option Value)),
  fd=fnOf x qual (defArgs st) (defBody st) (defScope st) .none kV doc pm an cdv ct∧K.lookup f=some ⟨oc,od,.func fd,osl⟩∧codeIn K cdv qual=true
 kp:keepIn K (.ref f)=true
section
variable {P:Program} {w:World} {K:Frag} {mg:Str→Option Value} {base:Heap}
theorem Fun.ok {x qual:Str} {st:Stmt} {f:Addr} {fd:FuncData} {N ps:List Str} {k:Nat} {sp:Sp} (F:Fun K x qual st f fd) (S:FnScope N ps (defScope st)) (len:∀ vs H Q E,sp vs H Q E→vs.length=ps.length)
  (hbody:∀ (cdv:Value) (A:Around) (outer:List Env) (s:Shared) (H:Hp) (vs:List V) (Q:VK) (E:XK),Room k (A.deeper (envOfC qual (defScope st) s.heap.objs.size f cdv))→sp vs H Q E →
   ∃ t,PSs (cxOf CX0 P w K mg base N qual (defScope st) f cdv A outer s H E).nox (defBody st) t∧t { nx:=fun _ H'=>Q .non H',rt:=Q} (start N vs) H):FnOk P w K mg base CX0 (k+1) f fd ps sp:=by
 obtain ⟨oc,od,kV,doc,pm,an,cdv,ct,osl,rfl,lk,hcd⟩:=F.ex
 refine zq1 lk hcd S len fun A outer s H vs Q E hr hsp=>?_
 obtain ⟨t,h,q⟩:=hbody cdv A outer s H vs Q E hr hsp
 exact ⟨t,h.nox,q⟩
theorem Fun.binds {x qual:Str} {st:Stmt} {f:Addr} {fd:FuncData} {ps:List Str} (F:Fun K x qual st f fd)
  (h:∀ (kV doc pm:Value) (an:Option Addr) (cdv ct:Value) (us:List Value),us.length=ps.length→bindArgs (fnOf x qual (defArgs st) (defBody st) (defScope st) .none kV doc pm an cdv ct) ⟨us,[]⟩=pure (ps.zip us)):Binds K fd ps []:=by
 obtain ⟨oc,od,kV,doc,pm,an,cdv,ct,osl,rfl,lk,hcd⟩:=F.ex
 exact .all (h kV doc pm an cdv ct)
theorem zad {x qual:Str} {st:Stmt} {f:Addr} {oc:Value} {od an:Option Addr} {osl:Array (Option Value)} {kV doc pm cdv ct:Value} (l:K.lookup f=some ⟨oc,od,.func (fnOf x qual (defArgs st) (defBody st) (defScope st) .none kV doc pm an cdv ct),osl⟩)
  (c:codeIn K cdv qual=true) (k:keepIn K (.ref f)=true):Fun K x qual st f (fnOf x qual (defArgs st) (defBody st) (defScope st) .none kV doc pm an cdv ct):=⟨⟨oc,od,kV,doc,pm,an,cdv,ct,osl,rfl,l,c⟩,k⟩
end
section
variable {X:Cx}
end
def Same (H H':Hp):Prop:=∀ b o,H b=some o→H' b=some o
theorem Same.refl (H:Hp):Same H H:=fun _ _ h=>h
theorem Same.trans {H H1 H2:Hp} (a:Same H H1) (b:Same H1 H2):Same H H2:=fun c o h=>b c o (a c o h)
theorem Same.free {H H':Hp} (e:Same H H') {l:Addr} (h:H' l=Option.none):H l=Option.none:=by
 cases q:H l with
 | none=>rfl
 | some o =>
  rw [e l o q] at h
  cases h
theorem Same.seq {K:Frag} {H H':Hp} {a:Addr} {xs:List V} (e:Same H H') (h:SqL K H a xs):SqL K H' a xs:=by
 rcases h with (h | ⟨o,h⟩) | h
 ·exact .inl (.inl (e _ _ h))
 ·exact .inl (.inr ⟨o,e _ _ h⟩)
 ·exact .inr h
end L2
namespace L2
open PySem PySem.Spec PyProof.Rows
noncomputable def clo:List (Str×NameKind)→List (Str×Addr)→List (Str×Addr)→List (Str×Addr)
 | [],_,cs=>cs
 | (n,k)::r,cells,cs=>if k == .free then clo r cells ((n,(cells.lookup n).getD 0)::cs) else clo r cells cs
theorem zdh {scope:Scope} {env:Env} (h:∀ n,(n,NameKind.free)∈scope.names→∃ c,env.cells.lookup n=some c):closureFor scope env=pure (clo scope.names env.cells []):=by
 have aux:∀ (names:List (Str×NameKind)) (cs:List (Str×Addr)),(∀ n,(n,NameKind.free)∈names→∃ c,env.cells.lookup n=some c) →
   (forIn names cs (fun x r=>match x with | (name,kind)=>if (kind==NameKind.free)=true then do let __do_lift ← cellOf env name; pure (ForInStep.yield ((name,__do_lift)::r)) else pure (ForInStep.yield r)):Sem (List (Str×Addr)))=pure (clo names env.cells cs):=by
  intro names
  induction names with
  | nil=>intro cs _; rfl
  | cons x r ih =>
   intro cs h
   obtain ⟨n,k⟩:=x
   have hr:∀ n,(n,NameKind.free)∈r→∃ c,env.cells.lookup n=some c:=fun m hm=>h m (List.mem_cons_of_mem _ hm)
   rw [List.forIn_cons]
   dsimp only
   by_cases hk:k=.free
   ·subst hk
    obtain ⟨c,hc⟩:=h n List.mem_cons_self
    have e:cellOf env n=pure c:=by unfold cellOf; rw [hc]
    rw [if_pos (show (NameKind.free==NameKind.free)=true from rfl),e]
    refine (ih ((n,c)::cs) hr).trans ?_
    show _=pure (if (NameKind.free==NameKind.free)=true then clo r env.cells ((n,(env.cells.lookup n).getD 0)::cs) else _)
    rw [if_pos (show (NameKind.free==NameKind.free)=true from rfl),hc]
    rfl
   ·have hb:¬ (k==NameKind.free)=true:=by simpa using hk
    rw [if_neg hb]
    refine (ih cs hr).trans ?_
    show _=pure (if (k==NameKind.free)=true then _ else clo r env.cells cs)
    rw [if_neg hb]
 show (forIn scope.names [] (fun x r=>match x with | (name,kind)=>if (kind==NameKind.free)=true then do let __do_lift ← cellOf env name; pure (ForInStep.yield ((name,__do_lift)::r)) else pure (ForInStep.yield r)) >>= fun s=>pure s)=_
 rw [aux scope.names [] h]
 rfl
theorem zfu {cells:List (Str×Addr)} {x:Str} {a:Addr}:∀ {names:List (Str×NameKind)} {cs:List (Str×Addr)},(x,a)∈clo names cells cs→(x,a)∈cs∨(a=(cells.lookup x).getD 0∧(x,NameKind.free)∈names)
 | [],_,h=>.inl h
 | (n,k)::r,cs,h=>by
  unfold clo at h
  split at h
  ·rename_i hk
   have hk:k=.free:=by simpa using hk
   subst hk
   rcases zfu h with h | ⟨h1,h2⟩
   ·rcases List.mem_cons.mp h with h | h
    ·cases h
     exact .inr ⟨rfl,List.mem_cons_self⟩
    ·exact .inl h
   ·exact .inr ⟨h1,List.mem_cons_of_mem _ h2⟩
  ·rcases zfu h with h | ⟨h1,h2⟩
   ·exact .inl h
   ·exact .inr ⟨h1,List.mem_cons_of_mem _ h2⟩
theorem zge {cells:List (Str×Addr)} {p:Str×Addr}:∀ {names:List (Str×NameKind)} {cs:List (Str×Addr)},p∈cs→p∈clo names cells cs
 | [],_,h=>h
 | (n,k)::r,cs,h=>by
  unfold clo
  split
  ·exact zge (List.mem_cons_of_mem _ h)
  ·exact zge h
theorem zgg {cells:List (Str×Addr)} {x:Str}:∀ {names:List (Str×NameKind)} {cs:List (Str×Addr)},(x,NameKind.free)∈names→(x,(cells.lookup x).getD 0)∈clo names cells cs
 | [],_,h=>by cases h
 | (n,k)::r,cs,h=>by
  unfold clo
  rcases List.mem_cons.mp h with h | h
  ·cases h
   rw [if_pos (show (NameKind.free==NameKind.free)=true from rfl)]
   exact zge List.mem_cons_self
  ·split
   ·exact zgg h
   ·exact zgg h
theorem zat {x:Str} {a:Addr}:∀ {l:List (Str×Addr)},(x,a)∈l→∃ b,l.lookup x=some b
 | [],h=>by cases h
 | (n,c)::r,h=>by
  rw [List.lookup_cons]
  cases e:x==n with
  | true=>exact ⟨c,rfl⟩
  | false =>
   rcases List.mem_cons.mp h with h | h
   ·cases h
    rw [beq_self_eq_true] at e; cases e
   ·exact zat h
theorem zah {names:List (Str×NameKind)} {cells:List (Str×Addr)} {x:Str} {c:Addr} (h:(clo names cells []).lookup x=some c) (hc:∀ n,(n,NameKind.free)∈names→∃ c,cells.lookup n=some c):cells.lookup x=some c:=by
 rcases zfu (PySem.mem_of_lookup h) with z | ⟨z1,z2⟩
 ·cases z
 ·obtain ⟨c',e⟩:=hc x z2
  rw [e] at z1 ⊢
  rw [z1]; rfl
theorem znd {names:List (Str×NameKind)} {cells:List (Str×Addr)} {x:Str} (h:(x,NameKind.free)∈names) (hc:∀ n,(n,NameKind.free)∈names→∃ c,cells.lookup n=some c):∃ c,(clo names cells []).lookup x=some c∧cells.lookup x=some c:=by
 obtain ⟨c,e⟩:=zat (zgg (cells:=cells) (cs:=[]) h)
 exact ⟨c,e,zah e hc⟩
theorem zaw {env:Env}:∀ {names:List (Str×NameKind)} {x:Str},
  (names.map fun (n,k)=>if (k==NameKind.free&&env.scope.kind == .function&&env.kindOf n==some .cell) then (n,NameKind.cell) else (n,k)).lookup x =
   (names.lookup x).map fun k=>if (k==NameKind.free&&env.scope.kind == .function&&env.kindOf x==some .cell) then NameKind.cell else k
 | [],_=>rfl
 | (n,k)::r,x=>by
  have ih:=@zaw env r x
  show List.lookup x ((if (k==NameKind.free&&env.scope.kind == .function&&env.kindOf n==some .cell)=true then (n,NameKind.cell) else (n,k))::_)=_
  cases hx:x==n with
  | true =>
   have e:x=n:=beq_iff_eq.mp hx
   subst e
   split
   ·rename_i hc; simp only [List.lookup_cons,beq_self_eq_true,Option.map_some,hc,if_true]
   ·rename_i hc; simp only [List.lookup_cons,beq_self_eq_true,Option.map_some]; rw [if_neg hc]
  | false =>
   split
   ·simp only [List.lookup_cons,hx]; exact ih
   ·simp only [List.lookup_cons,hx]; exact ih
section
variable {prog:Program} {w:World} {A:Around} {R:Result→Shared→Prop} {s:Shared}
noncomputable abbrev NoE:Value→Shared→Prop:=fun _ _=>False
theorem zkh {elt target iter:Expr} {ifs:List Expr} {scope:Scope} {pos:Pos} {it acc:Value} {env:Env} (I:Nat→Shared→Prop)
  (turn:∀ n s,I n s→wpAny (model prog w) A (pyNext it) (fun r s₁=>match r with
   | none=>R (.ok .next) s₁
   | some v=>wpAny (model prog w) A (letOwnedTupleGo target it v) (fun _ s₁'=>wpAny (model prog w) A (assign target env v) (fun _ s₂ =>
     wpAny (model prog w) A (forIn ifs true fun c r=>if r=true then do let ok ← isTrue c env (eval c env); pure (ForInStep.yield ok) else pure (ForInStep.yield r)) (fun ok s₃ =>
      if ok=true then wpAny (model prog w) A (eval elt env) (fun x s₄ =>
       wpAny (model prog w) A (call (.builtin "list.append") [acc,x]) (fun _ s₅=>∃ m,m < n∧I m s₅) NoE s₄) NoE s₃
      else ∃ m,m < n∧I m s₃) NoE s₂) NoE s₁') NoE s₁) NoE s)
  (n:Nat) (h:I n s) :
  codeAny (model prog w) A (.compLoop (.ListComp elt [⟨target,iter,ifs,0⟩] scope pos) 0 it acc env) R s:=by
 refine codeAny_loop rfl I (fun n s hI=>?_) n h
 show wpAny _ A ((compTurn (.ListComp elt [⟨target,iter,ifs,0⟩] scope pos) 0 it acc env).onRaise (fun x=>do noteFrame x env; theTreesLotGoes x)) _ _ s
 refine wpAny_noted ?_
 rw [compTurn_list]
 refine wpAny_bind (wpAny_standAt (wpAny_bind (wpAny_mono (turn n s hI) (fun r s₁ h₁=>?_) fun _ _ h'=>h'.elim)))
 cases r with
 | none=>exact wpAny_pure h₁
 | some v =>
  refine wpAny_bind (wpAny_mono h₁ (fun _ s₁' h₁'=>?_) fun _ _ h'=>h'.elim)
  refine wpAny_bind (wpAny_mono h₁' (fun _ s₂ h₂=>wpAny_bind (wpAny_mono h₂ (fun ok s₃ h₃=>?_) fun _ _ h'=>h'.elim)) fun _ _ h'=>h'.elim)
  cases ok with
  | false=>exact wpAny_pure ⟨rfl,h₃⟩
  | true =>
   exact wpAny_bind (wpAny_bind (wpAny_mono h₃ (fun x s₄ h₄=>wpAny_bind (wpAny_mono h₄ (fun _ s₅ h₅=>wpAny_pure (wpAny_pure ⟨rfl,h₅⟩)) fun _ _ h'=>h'.elim)) fun _ _ h'=>h'.elim))
end
noncomputable def blockCx (X:Cx) (N':List Str) (scope:Scope) (C:Addr) (fp:List Addr) (pins:List (Addr×Obj)) (s:Shared) (H:Hp):Cx :=
 { X with N:=N',s₀:=s,H₀:=H,env:=compEnvC scope (clo scope.names X.env.cells []) C X.env,outer:=X.stack,stack:=X.stack,ex:=fp,fn:=fun _=>false,pn:=X.pn++pins,xe:=NoE}
noncomputable def PTs (X:Cx) (ifs:List Expr) (t:TT):Prop :=
 ∀ (pins:List (Addr×Obj)) (s:Shared) (σ:St) (H:Hp) (Q:Bool→Hp→Prop),Inv X pins σ H s→t σ H Q →
  wpAny (model X.prog X.w) X.A (forIn ifs true fun c r=>if r=true then do let ok ← isTrue c X.env (eval c X.env); pure (ForInStep.yield ok) else pure (ForInStep.yield r)) (TP X pins σ Q) X.xe s
theorem zoy {X:Cx}:PTs X [] (fun _ H Q=>Q true H):=fun _ _ _ H _ I h=>wpAny_tests_nil ⟨H,I,h⟩
theorem zpb {X:Cx} {c:Expr} {t:TT} (h:PT X c t):PTs X [c] t:=fun pins s σ H Q I q=>wpAny_tests_one (h pins s σ H Q I q)
noncomputable def caps (n:Nat) (keep:List Nat) (σ:St):St:=List.replicate n none++keep.map fun j=>(σ[j]?).join
noncomputable def Wk (σ σ2:St):Prop:=σ.length=σ2.length∧∀ (i:Nat) v,σ[i]? = some (some v)→σ2[i]? = some (some v)
noncomputable def tComp (wi:TI) (n:Nat) (keep:List Nat) (g:TG) (tc:TT) (te:TE):TE:=fun σ H Q=>wi σ H fun J H1=>∀ acc,H1 acc=none→∃ W:Nat→Nat→List V→Hp→Prop,(∃ m,W 0 m [] (upd H1 acc (.lst []))) ∧
 ∀ i m ys H,W i m ys H→H acc=some (.lst ys)∧((J.stop i H∧Q (.ref acc) H)∨(J.go i H∧∀ x H',J.yld i H x H'→g x (caps n keep σ) H' fun σ2 H2=>Wk (caps n keep σ) σ2∧tc σ2 H2 fun k H3 =>
  if k=true then te σ2 H3 fun y H4=>H4 acc=some (.lst ys)∧ys.length < sizeLine∧∃ m',m' < m∧W (i+1) m' (ys++[y]) (upd H4 acc (.lst (ys++[y])))
  else ∃ m',m' < m∧W (i+1) m' ys H3))
end L2
namespace L2
open PySem PySem.Spec PyProof.Rows
section
variable {κ:Type} [DecidableEq κ]
def valV (kvs:List (κ×V)) (k:κ):Option V:=(kvs.find? fun kv=>decide (kv.1=k)).map (·.2)
def putK (kvs:List (κ×V)) (k:κ) (v:V):List (κ×V) :=
 if (kvs.any fun kv=>decide (kv.1=k))=true then kvs.map (fun kv=>if kv.1=k then (kv.1,v) else kv) else kvs++[(k,v)]
def dropK (kvs:List (κ×V)) (k:κ):List (κ×V):=kvs.filter fun kv=>decide (kv.1≠k)
theorem zcm {p:κ×V} {r:List (κ×V)} {k:κ} (e:p.1=k):valV (p::r) k=some p.2:=by simp [valV,List.find?_cons,e]
theorem zcl {p:κ×V} {r:List (κ×V)} {k:κ} (e:¬ p.1=k):valV (p::r) k=valV r k:=by simp [valV,List.find?_cons,e]
theorem zd9 (k:κ):∀ kvs:List (κ×V),(kvs.any fun kv=>decide (kv.1=k))=(valV kvs k).isSome
 | []=>rfl
 | p::r=>by
  rw [List.any_cons]
  by_cases e:p.1=k
  ·simp only [zcm e,decide_eq_true e,Bool.true_or,Option.isSome_some]
  ·rw [zcl e,decide_eq_false e,Bool.false_or]; exact zd9 k r
theorem zbh (kvs:List (κ×V)) (k:κ) (v:V):(putK kvs k v).length≤kvs.length+1:=by
 unfold putK
 split
 ·rw [List.length_map]; lia
 ·rw [List.length_append,List.length_cons,List.length_nil]; lia
theorem RelO.isSome_eq {o:Option V} {u:Option Value} (r:RelO o u):o.isSome=u.isSome:=by
 cases o with
 | none=>cases u with
  | none=>rfl
  | some _=>exact (show False from r).elim
 | some _=>cases u with
  | none=>exact (show False from r).elim
  | some _=>rfl
theorem RelO.getD {o:Option V} {u:Option Value} {d:V} {d':Value} (r:RelO o u) (rd:RelV d d'):RelV (o.getD d) (u.getD d'):=by
 cases o with
 | none=>cases u with
  | none=>exact rd
  | some _=>exact (show False from r).elim
 | some _=>cases u with
  | none=>exact (show False from r).elim
  | some _=>exact r
theorem KV.val {kvs:List (κ×V)} {vs:List (κ×Value)} (r:KV kvs vs) (k:κ):RelO (valV kvs k) (valueAt vs k):=by
 unfold KV at r
 induction r with
 | nil=>exact True.intro
 | @cons p q ps qs h t ih =>
  obtain ⟨h1,h2⟩:=h
  by_cases e:p.1=k
  ·have e':q.1=k:=h1.symm.trans e
   have b:valueAt (q::qs) k=some q.2:=by simp [valueAt,List.find?_cons,e']
   rw [zcm e,b]; exact h2
  ·have e':¬ q.1=k:=fun z=>e (h1.trans z)
   have b:valueAt (q::qs) k=valueAt qs k:=by simp [valueAt,List.find?_cons,e']
   rw [zcl e,b]; exact ih
theorem KV.any {kvs:List (κ×V)} {vs:List (κ×Value)} (r:KV kvs vs) (k:κ):(kvs.any fun kv=>decide (kv.1=k))=vs.any fun kv=>decide (kv.1=k):=by
 unfold KV at r
 induction r with
 | nil=>rfl
 | cons h t ih=>rw [List.any_cons,List.any_cons,ih,h.1]
theorem KV.repl {kvs:List (κ×V)} {vs:List (κ×Value)} (r:KV kvs vs) (k:κ) {y:V} {u:Value} (ry:RelV y u) :
  KV (kvs.map fun kv=>if kv.1=k then (kv.1,y) else kv) (vs.map fun kv=>if kv.1=k then (kv.1,u) else kv):=by
 unfold KV at r ⊢
 induction r with
 | nil=>exact .nil
 | @cons p q ps qs h t ih =>
  rw [List.map_cons,List.map_cons]
  refine .cons ?_ ih
  obtain ⟨h1,h2⟩:=h
  by_cases e:p.1=k
  ·rw [if_pos e,if_pos (h1.symm.trans e)]; exact ⟨h1,ry⟩
  ·rw [if_neg e,if_neg (fun z=>e (h1.trans z))]; exact ⟨h1,h2⟩
theorem KV.put {kvs:List (κ×V)} {vs:List (κ×Value)} (r:KV kvs vs) (k:κ) {y:V} {u:Value} (ry:RelV y u):KV (putK kvs k y) (stored vs k u):=by
 unfold putK stored
 rw [r.any k]
 by_cases e:(vs.any fun kv=>decide (kv.1=k))=true
 ·rw [if_pos e,if_pos e]; exact r.repl k ry
 ·rw [if_neg e,if_neg e]; exact Paired.snoc r ⟨rfl,ry⟩
theorem KV.drop {kvs:List (κ×V)} {vs:List (κ×Value)} (r:KV kvs vs) (k:κ):KV (dropK kvs k) (without vs k):=by
 unfold KV at r ⊢
 unfold dropK without
 induction r with
 | nil=>exact .nil
 | @cons p q ps qs h t ih =>
  obtain ⟨h1,h2⟩:=h
  rw [List.filter_cons,List.filter_cons]
  by_cases e:p.1=k
  ·have a:¬ decide (p.1≠k)=true:=by simp [e]
   have b:¬ decide (q.1≠k)=true:=by simp [h1.symm.trans e]
   rw [if_neg a,if_neg b]; exact ih
  ·have e':¬ q.1=k:=fun z=>e (h1.trans z)
   have a:decide (p.1≠k)=true:=by simp [e]
   have b:decide (q.1≠k)=true:=by simp [e']
   rw [if_pos a,if_pos b]; exact .cons ⟨h1,h2⟩ ih
theorem KV.keys {kvs:List (κ×V)} {vs:List (κ×Value)} (r:KV kvs vs):kvs.map (·.1)=vs.map (·.1):=by
 unfold KV at r
 induction r with
 | nil=>rfl
 | cons h t ih=>rw [List.map_cons,List.map_cons,ih,h.1]
theorem KV.length {kvs:List (κ×V)} {vs:List (κ×Value)} (r:KV kvs vs):kvs.length=vs.length:=Paired.length r
end
theorem zif {P:Program} {w:World} {k:Key} {u:Value} (r:RelV (kV k) u):(mixKind P w).is k u=true:=by
 cases k with
 | inl i=>obtain ⟨t,e⟩:=(show ∃ t,u=Value.int i t from r); subst e; exact zgk P w i t
 | inr x=>obtain ⟨t,e⟩:=(show ∃ t,u=Value.str x t from r); subst e; exact zfp P w x t
theorem zeu {P:Program} {w:World}:∀ {ks:List Key} {us:List Value},Vals (ks.map kV) us→ItemsAre (mixKind P w) ks us
 | [],_,r=>by rw [List.map_nil] at r; cases r; exact .nil
 | k::ks,_,r=>by
  rw [List.map_cons] at r
  cases r with
  | cons h t=>exact .cons (zif h) (zeu t)
abbrev KT (H:Hp):List (List Key×V)→List (List Key×Addr×Value)→Prop:=Paired fun p q=>p.1=q.1∧H q.2.1=some (.tup (p.1.map kV))∧RelV p.2 q.2.2
theorem KT.val {H:Hp} {kvs:List (List Key×V)} {xs:List (List Key×Addr×Value)} (r:KT H kvs xs) (k:List Key):RelO (valV kvs k) ((atKey xs k).map (·.2)):=by
 induction r with
 | nil=>exact True.intro
 | @cons p q ps qs h t ih =>
  obtain ⟨h1,_,h2⟩:=h
  by_cases e:p.1=k
  ·have e':q.1=k:=h1.symm.trans e
   have b:atKey (q::qs) k=some q.2:=by simp [atKey,List.find?_cons,e']
   rw [zcm e,b]; exact h2
  ·have e':¬ q.1=k:=fun z=>e (h1.trans z)
   have b:atKey (q::qs) k=atKey qs k:=by simp [atKey,List.find?_cons,e']
   rw [zcl e,b]; exact ih
theorem KT.repl {H:Hp} {kvs:List (List Key×V)} {xs:List (List Key×Addr×Value)} (r:KT H kvs xs) (k:List Key) {y:V} {u:Value} (ry:RelV y u) :
  KT H (kvs.map fun kv=>if kv.1=k then (kv.1,y) else kv) (xs.map (putAt k u)):=by
 induction r with
 | nil=>exact .nil
 | @cons p q ps qs h t ih =>
  rw [List.map_cons,List.map_cons]
  refine .cons ?_ ih
  obtain ⟨h1,h2,h3⟩:=h
  unfold putAt
  by_cases e:p.1=k
  ·rw [if_pos e,if_pos (h1.symm.trans e)]; exact ⟨h1,h2,ry⟩
  ·rw [if_neg e,if_neg (fun z=>e (h1.trans z))]; exact ⟨h1,h2,h3⟩
theorem KT.put {H:Hp} {kvs:List (List Key×V)} {xs:List (List Key×Addr×Value)} (r:KT H kvs xs) (k:List Key) {b:Addr} {y:V} {u:Value} (hb:H b=some (.tup (k.map kV))) (ry:RelV y u) :
  KT H (putK kvs k y) (storedH xs k b u):=by
 have e:(kvs.any fun kv=>decide (kv.1=k))=(atKey xs k).isSome:=by
  rw [zd9,(r.val k).isSome_eq,Option.isSome_map]
 unfold putK storedH
 rw [e]
 by_cases q:(atKey xs k).isSome=true
 ·rw [if_pos q,if_pos q]; exact r.repl k ry
 ·rw [if_neg q,if_neg q]; exact Paired.snoc r ⟨rfl,hb,ry⟩
theorem KT.keeps {H H':Hp} {kvs:List (List Key×V)} {xs:List (List Key×Addr×Value)} (r:KT H kvs xs) (ht:∀ b ys,H b=some (.tup ys)→H' b=some (.tup ys)):KT H' kvs xs :=
 Paired.mapP r fun _ _ z=>⟨z.1,ht _ _ z.2.1,z.2.2⟩
section
variable {P:Program} {w:World} {H:Hp} {h:Heap} {a:Addr}
theorem zqx {u:HO} (ok:HOk P w H h) (e:Rd H a u):ObjOk P w H h a u:=e.ok ok
theorem zls {kvs:List (Key×V)} (ok:HOk P w H h) (e:Rd H a (.dK kvs)):kvs.length≤sizeLine∧(a==sysModules)=false∧∃ vs,KV kvs vs∧h.DictOf (mixKind P w) a vs :=
 show ObjOk P w H h a (.dK kvs) from zqx ok e
theorem zh4 {kvs:List (Key×V)} (ok:HOk P w H h) (e:H a=some (.dK kvs)):kvs.length≤sizeLine∧(a==sysModules)=false∧∃ vs,KV kvs vs∧h.DictOf (mixKind P w) a vs:=zls ok (.inl e)
theorem zfg {ks:List Key} (ok:HOk P w H h) (e:H a=some (.tup (ks.map kV))):(tupleKind (mixKind P w)).is h ks a:=by
 obtain ⟨_,its,r,⟨o,h1,h2,n,h3⟩,_⟩:=(show ObjOk P w H h a (.tup (ks.map kV)) from ok a _ e)
 exact ⟨o,its.toArray,n,h1,h2,h3,by simpa using zeu r⟩
theorem zmb {kvs:List (List Key×V)} (ok:HOk P w H h) (e:Rd H a (.dT kvs)):kvs.length≤sizeLine∧(a==sysModules)=false ∧
  ∃ xs,KT H kvs xs∧h.DictOfH (tupleKind (mixKind P w)) a xs:=by
 obtain ⟨z,y,xs,r,o,es,ep,h1,h2,h3,h4,h5⟩:=(show ObjOk P w H h a (.dT kvs) from zqx ok e)
 refine ⟨z,y,xs,r,o,es,ep,h1,h2,h3,h4,fun x hx=>?_,h5⟩
 have all:∀ {l:List (List Key×V)} {m:List (List Key×Addr×Value)},KT H l m→∀ x∈m,(tupleKind (mixKind P w)).is h x.1 x.2.1:=by
  intro l m q
  induction q with
  | nil=>intro x hx; exact nomatch hx
  | @cons p q ps qs hq t ih =>
   intro x hx
   rcases List.mem_cons.mp hx with e | hx
   ·subst e
    exact zfg ok (by rw [← hq.1]; exact hq.2.1)
   ·exact ih x hx
 exact all r x hx
theorem zl9 {kvs:List (List Key×V)} (ok:HOk P w H h) (e:H a=some (.dT kvs)):kvs.length≤sizeLine∧(a==sysModules)=false ∧
  ∃ xs,KT H kvs xs∧h.DictOfH (tupleKind (mixKind P w)) a xs:=zmb ok (.inl e)
end
def DGet (H:Hp) (a:Addr) (y:V) (r:Option V):Prop :=
 (∃ kvs k,Rd H a (.dK kvs)∧y=kV k∧r=valV kvs k)∨∃ kvs k b,Rd H a (.dT kvs)∧y=.ref b∧H b=some (.tup (k.map kV))∧r=valV kvs k
def DPut (H:Hp) (a:Addr) (y v:V) (H':Hp):Prop :=
 (∃ kvs k,H a=some (.dK kvs)∧y=kV k∧kvs.length < sizeLine∧H'=upd H a (.dK (putK kvs k v))) ∨
 ∃ kvs k b,H a=some (.dT kvs)∧y=.ref b∧H b=some (.tup (k.map kV))∧kvs.length < sizeLine∧H'=upd H a (.dT (putK kvs k v))
theorem DGet.k {H:Hp} {a:Addr} {kvs:List (Key×V)} {k:Key} (e:H a=some (.dK kvs)):DGet H a (kV k) (valV kvs k):=.inl ⟨kvs,k,.inl e,rfl,rfl⟩
theorem DGet.t {H:Hp} {a b:Addr} {kvs:List (List Key×V)} {k:List Key} (e:H a=some (.dT kvs)) (eb:H b=some (.tup (k.map kV))):DGet H a (.ref b) (valV kvs k):=.inr ⟨kvs,k,b,.inl e,rfl,eb,rfl⟩
theorem DPut.k {H:Hp} {a:Addr} {kvs:List (Key×V)} {k:Key} {v:V} (e:H a=some (.dK kvs)) (hl:kvs.length < sizeLine):DPut H a (kV k) v (upd H a (.dK (putK kvs k v))):=.inl ⟨kvs,k,e,rfl,hl,rfl⟩
theorem DPut.t {H:Hp} {a b:Addr} {kvs:List (List Key×V)} {k:List Key} {v:V} (e:H a=some (.dT kvs)) (eb:H b=some (.tup (k.map kV))) (hl:kvs.length < sizeLine) :
  DPut H a (.ref b) v (upd H a (.dT (putK kvs k v))):=.inr ⟨kvs,k,b,e,rfl,eb,hl,rfl⟩
section
variable {X:Cx} {pins:List (Addr×Obj)} {σ:St} {H:Hp} {s:Shared} {a:Addr} {y v:V} {u r:Value} {o:Option V} {A:Around} {E:Value→Shared→Prop}
theorem Inv.big (I:Inv X pins σ H s):sysModules < s.heap.objs.size:=by
 have h:mainGlobals < s.heap.objs.size:=(I.mod.glob.keeps I.bk).lt
 exact Nat.lt_trans (by decide) h
theorem zkk {Q:Value→Shared→Prop} (hu:A.units+1 < cLine) (I:Inv X pins σ H s) (g:DGet H a y (some v)) (ry:RelV y u) (h:∀ w' s',Inv X pins σ H s'→RelV v w'→Q w' s') :
  wpAny (model X.prog X.w) A (getItem (.ref a) u) Q E s:=by
 rcases g with ⟨kvs,k,e,ey,l⟩ | ⟨kvs,k,b,e,ey,eb,l⟩
 ·subst ey
  obtain ⟨z,hd,vs,rel,dd⟩:=zls I.hok e
  obtain ⟨w',hw,rw'⟩:=RelO.some_of (v:=v) (o:=valueAt vs k) (by rw [l]; exact rel.val k)
  exact wpAny_getItem_of (zif ry) dd.mapOf hw (h w' _ (I.tok _) rw')
 ·subst ey
  cases (show u=Value.ref b from ry)
  obtain ⟨z,hd,xs,rel,dd⟩:=zmb I.hok e
  obtain ⟨w',hw,rw'⟩:=RelO.some_of (v:=v) (o:=(atKey xs k).map (·.2)) (by rw [l]; exact rel.val k)
  obtain ⟨p,hp,hp2⟩:=Option.map_eq_some_iff.mp hw
  refine wpAny_getItem_heap (tupleKind_room_in1 hu) (zfg I.hok eb) dd hp ?_
  rw [hp2]
  exact h w' _ (I.tok _) rw'
theorem zs7 {Q:Value→Shared→Prop} (hu:A.units+1 < cLine) (I:Inv X pins σ H s) (g:DGet H a y o) (ry:RelV y u) (h:∀ s',Inv X pins σ H s'→Q (.bool o.isSome) s') :
  wpAny (model X.prog X.w) A (compareOp .In u (.ref a)) Q E s:=by
 rcases g with ⟨kvs,k,e,ey,l⟩ | ⟨kvs,k,b,e,ey,eb,l⟩
 ·subst ey
  obtain ⟨z,hd,vs,rel,dd⟩:=zls I.hok e
  refine wpAny_in_of (zif ry) hd dd.mapOf ?_
  rw [← (rel.val k).isSome_eq,← l]
  exact h _ (I.tok _)
 ·subst ey
  cases (show u=Value.ref b from ry)
  obtain ⟨z,hd,xs,rel,dd⟩:=zmb I.hok e
  refine wpAny_in_heap (tupleKind_room_in1 hu) (zfg I.hok eb) hd dd ?_
  have q:=(rel.val k).isSome_eq
  rw [Option.isSome_map] at q
  rw [← q,← l]
  exact h _ (I.tok _)
theorem zn3 {Q:Value→Shared→Prop} (hu:A.units+1 < cLine) (I:Inv X pins σ H s) (g:DGet H a y o) (ry:RelV y u) (h:∀ s',Inv X pins σ H s'→Q (.bool (!o.isSome)) s') :
  wpAny (model X.prog X.w) A (compareOp .NotIn u (.ref a)) Q E s:=by
 rcases g with ⟨kvs,k,e,ey,l⟩ | ⟨kvs,k,b,e,ey,eb,l⟩
 ·subst ey
  obtain ⟨z,hd,vs,rel,dd⟩:=zls I.hok e
  refine wpAny_notIn_of (zif ry) hd dd.mapOf ?_
  rw [← (rel.val k).isSome_eq,← l]
  exact h _ (I.tok _)
 ·subst ey
  cases (show u=Value.ref b from ry)
  obtain ⟨z,hd,xs,rel,dd⟩:=zmb I.hok e
  refine wpAny_notIn_heap (tupleKind_room_in1 hu) (zfg I.hok eb) hd dd ?_
  have q:=(rel.val k).isSome_eq
  rw [Option.isSome_map] at q
  rw [← q,← l]
  exact h _ (I.tok _)
theorem zcq {h':Heap} {t':Nat} {ob:HO} (I:Inv X pins σ H s) (mu:Mut (H a)) (hs:Heap.SameBut a s.heap h') (he:∃ q,h'.get? a=some q) (new:ObjOk X.prog X.w (upd H a ob) h' a ob) :
  Inv X pins σ (upd H a ob) { s with heap:=h',toks:=t'} :=
 I.write (x:=a) (e:=a) mu (.inl rfl) (fun b q hb z=>(hs.2 b hb).trans z) he new
theorem zng {P:Program} {w:World} {H':Hp} {h':Heap} {kvs:List (Key×V)} {vs:List (Key×Value)} (z:kvs.length≤sizeLine) (hd:(a==sysModules)=false) (rel:KV kvs vs) (dd:h'.DictOf (mixKind P w) a vs) :
  ObjOk P w H' h' a (.dK kvs):=⟨z,hd,vs,rel,dd⟩
theorem zjh {H':Hp} {Q:Unit→Shared→Prop} (hu:A.units+1 < cLine) (I:Inv X pins σ H s) (g:DPut H a y v H') (ry:RelV y u) (rv:RelV v r) (h:∀ s',Inv X pins σ H' s'→Q () s') :
  wpAny (model X.prog X.w) A (setItem (.ref a) u r) Q E s:=by
 rcases g with ⟨kvs,k,e,ey,l,eH⟩ | ⟨kvs,k,b,e,ey,eb,l,eH⟩
 ·subst ey eH
  obtain ⟨z,hd,vs,rel,dd⟩:=zh4 I.hok e
  have hz:vs.length≤sizeLine:=by rw [← rel.length]; exact z
  have hl:(putK kvs k v).length≤sizeLine:=by have:=zbh kvs k v; lia
  refine wpAny_setItem_pairs (hsz:=hz) (zif ry) dd fun h' dd' hs=>h _ ?_
  have he:∃ q,h'.get? a=some q:=let ⟨q,_,_,hq,_⟩:=dd'; ⟨q,hq⟩
  exact zcq I (by rw [e]; exact True.intro) hs he (zng hl hd (rel.put k rv) dd')
 ·subst ey eH
  cases (show u=Value.ref b from ry)
  obtain ⟨z,hd,xs,rel,dd⟩:=zl9 I.hok e
  have hz:xs.length≤sizeLine:=by rw [← Paired.length rel]; exact z
  have hl:(putK kvs k v).length≤sizeLine:=by have:=zbh kvs k v; lia
  refine wpAny_setItem_heap (hsz:=hz) (tupleKind_room_in1 hu) (zfg I.hok eb) dd fun h' dd' hs=>h _ ?_
  obtain ⟨q,es,ep,hq,h2,h3,h4,_,h5⟩:=dd'
  refine zcq I (by rw [e]; exact True.intro) hs ⟨q,hq⟩ ⟨hl,hd,_,(rel.put k eb rv).keeps fun c ys ec=>?_,q,es,ep,hq,h2,h3,h4,h5⟩
  rw [zj (zrk ec e (fun z=>nomatch z))]
  exact ec
end
section
variable {X:Cx} {pins:List (Addr×Obj)} {σ:St} {H:Hp} {s:Shared} {a:Addr} {kvs:List (Key×V)} {k:Key} {u:Value} {A:Around} {E:Value→Shared→Prop}
end
section
variable {X:Cx} {o i e value:Expr} {pos pos' tpos:Pos} {td ty tv:TE}
end
theorem zhj {P:Program} {w:World} {H:Hp} (h:Heap) (hb:sysModules < h.objs.size):ObjOk P w H (h.push { cls:=.type "dict",data:=.dict #[]}) h.objs.size (.dK []) :=
 ⟨Nat.zero_le _,beq_eq_false_iff_ne.mpr (Ne.symm (Nat.ne_of_lt hb)),[],.nil,Heap.DictOf.new h⟩
def tDNewK:TE:=fun _ H Q=>∀ p,H p=none→Q (.ref p) (upd H p (.dK []))
section
variable {X:Cx} {pos:Pos}
theorem zl6:PE X (.Dict [] [] pos) tDNewK:=fun pins s σ H Q I h =>
 wpAny_Dict_empty ⟨.ref s.heap.objs.size,_,I.laid (a:=s.heap.objs.size) (o:=.dK []) (t':=s.toks) (fun _ _ q=>Heap.get?_push_of_some _ q) (Nat.le_refl _) (zhj s.heap I.big),rfl,h _ (I.hok.fresh (Nat.le_refl _))⟩
end
def tPairs:List (TE×TE)→St→Hp→(List (V×V)→Hp→Prop)→Prop
 | [],_,H,Q=>Q [] H
 | (tk,tv)::r,σ,H,Q=>tk σ H fun x H1=>tv σ H1 fun y H2=>tPairs r σ H2 fun ps H3=>Q ((x,y)::ps) H3
abbrev VV:List (V×V)→List (Value×Value)→Prop:=Paired fun p q=>RelV p.1 q.1∧RelV p.2 q.2
def PPs (X:Cx) (pos:Pos) (keys:List (Option Expr)) (values:List Expr) (trs:List (TE×TE)):Prop :=
 ∀ (pins:List (Addr×Obj)) (s:Shared) (σ:St) (H:Hp) (Q:List (V×V)→Hp→Prop),Inv X pins σ H s→tPairs trs σ H Q →
  wpAny (model X.prog X.w) X.A (evalPairs (pairTrees keys values X.env pos)) (fun vs s'=>∃ ps H',Inv X pins σ H' s'∧VV ps vs∧Q ps H') X.xe s
theorem znw {X:Cx} {pos:Pos}:PPs X pos [] [] []:=fun pins s σ H Q I h=>pairTrees_nil_walk ⟨[],H,I,.nil,h⟩
theorem zli {X:Cx} {pos:Pos} {k v:Expr} {ks:List (Option Expr)} {vs:List Expr} {tk tv:TE} {trs:List (TE×TE)} (hk:PE X k tk) (hv:PE X v tv) (hr:PPs X pos ks vs trs) :
  PPs X pos (some k::ks) (v::vs) ((tk,tv)::trs):=fun pins s σ H Q I h =>
 pairTrees_cons_walk (thn (hk pins s σ H _ I h) fun u s1 ⟨x,H1,I1,rx,q1⟩=>thn (hv pins s1 σ H1 _ I1 q1) fun w2 s2 ⟨y,H2,I2,ry,q2⟩ =>
  thn (hr pins s2 σ H2 _ I2 q2) fun ws s3 ⟨ps,H3,I3,rel,q3⟩=>⟨(x,y)::ps,H3,I3,.cons ⟨rx,ry⟩ rel,q3⟩)
def mergeK (kvs more:List (Key×V)):List (Key×V):=more.foldl (fun acc kv=>putK acc kv.1 kv.2) kvs
theorem KV.merge:∀ {more:List (Key×V)} {rs:List (Key×Value)} {kvs:List (Key×V)} {vs:List (Key×Value)},KV more rs→KV kvs vs→KV (mergeK kvs more) (merged vs rs):=by
 intro more rs kvs vs r
 unfold KV at r
 induction r generalizing kvs vs with
 | nil=>intro q; exact q
 | @cons p q ps qs h t ih =>
  intro r0
  have e:KV (putK kvs p.1 p.2) (stored vs q.1 q.2):=by
   have:=r0.put p.1 h.2
   rw [← h.1]; exact this
  exact ih e
theorem zbp:∀ (more kvs:List (Key×V)),(mergeK kvs more).length≤kvs.length+more.length
 | [],kvs=>by show kvs.length≤kvs.length+0; lia
 | p::r,kvs=>by
  have h1:=zbp r (putK kvs p.1 p.2)
  have h2:=zbh kvs p.1 p.2
  show (mergeK (putK kvs p.1 p.2) r).length≤_
  rw [List.length_cons]; lia
theorem zds {P:Program} {w:World}:∀ {kvs:List (Key×V)} {ws:List (Value×Value)},VV (kvs.map fun kv=>(kV kv.1,kv.2)) ws→∃ rs,Carries (mixKind P w) ws rs∧KV kvs rs
 | [],_,r=>by rw [List.map_nil] at r; cases r; exact ⟨[],True.intro,.nil⟩
 | p::kvs,_,r=>by
  rw [List.map_cons] at r
  cases r with
  | @cons a b as bs h t =>
   obtain ⟨rs,c,q⟩:=zds (P:=P) (w:=w) t
   obtain ⟨b1,b2⟩:=b
   exact ⟨(p.1,b2)::rs,⟨zif h.1,rfl,c⟩,.cons ⟨rfl,h.2⟩ q⟩
def tDisp (trs:List (TE×TE)):TE:=fun σ H Q=>∀ p,H p=none→tPairs trs σ (upd H p (.dK [])) fun ps H2=>H2 p=some (.dK [])∧∃ kvs:List (Key×V),ps=kvs.map (fun kv=>(kV kv.1,kv.2))∧kvs.length≤15∧Q (.ref p) (upd H2 p (.dK (mergeK [] kvs)))
theorem zoe {X:Cx} {pos:Pos} {keys:List (Option Expr)} {values:List Expr} {trs:List (TE×TE)} (h:PPs X pos keys values trs) (hall:keys.all (·.isSome)=true) (hl:keys.length=values.length) (h0:keys≠[])
  (h15:keys.length≤15):PE X (.Dict keys values pos) (tDisp trs):=by
 intro pins s σ H Q I q
 have hn:=I.hok.fresh (Nat.le_refl s.heap.objs.size)
 have I1:=I.laid (a:=s.heap.objs.size) (o:=.dK []) (h':=s.heap.push { cls:=.type "dict",data:=.dict #[]}) (t':=s.toks) (fun _ _ q=>Heap.get?_push_of_some _ q) (Nat.le_refl _) (zhj s.heap I.big)
 refine wpAny_Dict_walk (knd:=mixKind X.prog X.w) hall hl h0 h15 (thn (h pins _ σ _ _ I1 (q _ hn)) fun ws s2 ⟨ps,H2,I2,rel,e,kvs,ep,lk,q2⟩=>?_)
 subst ep
 obtain ⟨rs,c,rk⟩:=zds (P:=X.prog) (w:=X.w) rel
 obtain ⟨z,hd,vs0,r0,dd⟩:=zh4 I2.hok e
 cases r0
 refine ⟨rs,c,dd,fun h' dd' hs=>⟨.ref s.heap.objs.size,_,?_,rfl,q2⟩⟩
 have hz:(mergeK [] kvs).length≤sizeLine:=by
  have h1:=zbp kvs []
  rw [List.length_nil] at h1
  rw [sizeLine_eq]; lia
 have he:∃ q,h'.get? s.heap.objs.size=some q:=let ⟨q,_,_,hq,_⟩:=dd'; ⟨q,hq⟩
 exact zcq I2 (by rw [e]; exact True.intro) hs he (zng hz hd (rk.merge .nil) dd')
end L2
namespace HT
open PySem PyProof.Rows
section
variable {prog:Program} {w:World} {A:Around} {E:Value→Shared→Prop} {s:Shared}
end
end HT
namespace L2
open PySem PySem.Spec PyProof.Rows
section
variable {X:Cx}
theorem RelV.bool_iff {x:V} {v:Value} {c:Bool} (r:RelV x v):(v==Value.bool c)=decide (x=.bl c):=by
 cases x with
 | bl b=>cases r; cases b <;> cases c <;> rfl
 | non=>cases r; rfl
 | int _=>obtain ⟨t,rfl⟩:=r; rfl
 | str _=>obtain ⟨t,rfl⟩:=r; rfl
 | byt _=>obtain ⟨t,rfl⟩:=r; rfl
 | flt _=>obtain ⟨t,rfl⟩:=r; rfl
 | ref _=>cases r; rfl
 | ty _=>cases r; rfl
theorem zcc {x:V} {v:Value} {c:Bool} (r:RelV x v):plainIs v (.bool c)=true:=by
 cases x with
 | bl b=>cases r; rfl
 | non=>cases r; rfl
 | int _=>obtain ⟨t,rfl⟩:=r; rfl
 | str _=>obtain ⟨t,rfl⟩:=r; rfl
 | byt _=>obtain ⟨t,rfl⟩:=r; rfl
 | flt _=>obtain ⟨t,rfl⟩:=r; rfl
 | ref _=>cases r; rfl
 | ty _=>cases r; rfl
theorem zpq:OpR X (compareOp .Is) (fun x y H Q=>∃ c,y=.bl c∧Q (.bl (decide (x=.bl c))) H):=by
 intro pins s σ H x y v u Q I rx ry h
 obtain ⟨c,rfl,q⟩:=h
 cases ry
 exact wpAny_is_plain (zcc rx) ⟨.bl _,H,I,by rw [rx.bool_iff]; rfl,q⟩
theorem zn2:OpR X (compareOp .IsNot) (fun x y H Q=>∃ c,y=.bl c∧Q (.bl (!decide (x=.bl c))) H):=by
 intro pins s σ H x y v u Q I rx ry h
 obtain ⟨c,rfl,q⟩:=h
 cases ry
 exact wpAny_isNot_plain (zcc rx) ⟨.bl _,H,I,by rw [rx.bool_iff]; rfl,q⟩
theorem zn0:OpR X (binaryOp .Add) (fun x y H Q=>∃ a b xs ys,x=.ref a∧y=.ref b∧SqL X.K H a xs∧SqL X.K H b ys∧xs.length+ys.length≤sizeLine∧∀ p,H p=none→Q (.ref p) (upd H p (.lst (xs++ys)))):=by
 intro pins s σ H x y v u Q I rx ry h
 obtain ⟨a,b,xs,ys,rfl,rfl,ha,hb,hz,q⟩:=h
 cases rx
 cases ry
 obtain ⟨its,r1,⟨⟨c1,d1,t1,sl1⟩,n,ho,hc,hdd,hd⟩,_⟩:=I.list ha
 obtain ⟨its2,r2,⟨⟨c2,d2,t2,sl2⟩,n2,ho2,hc2,hdd2,hd2⟩,_⟩:=I.list hb
 simp only at hc hd hc2 hd2 hdd hdd2
 subst hc hd hc2 hd2
 have e:its.toArray++its2.toArray=(its++its2).toArray:=by simp
 refine concat_meets ⟨_,ho,rfl⟩ ⟨_,ho2,rfl⟩ noFill_list_add seq_list_add PySem.F.slot_list_add PySem.F.entry_list_add (PySem.F.args_list_add_2 _ _) (list_addW a b its.toArray its2.toArray n n2 d1 d2 sl1 sl2 (by rw [List.size_toArray,List.size_toArray,← r1.length,← r2.length]; exact hz)) ⟨ho,ho2,?_⟩
 rw [e]
 exact ⟨.ref _,_,I.lnew (t':=s.toks) (r1.append r2) (by rw [List.length_append]; exact hz),rfl,q _ I.fresh⟩
inductive TyV (K:Frag) (H:Hp):V→String→Prop where
 | non:TyV K H .non "NoneType"
 | bl (x:Bool):TyV K H (.bl x) "bool"
 | int (i:Int):TyV K H (.int i) "int"
 | str (x:Str):TyV K H (.str x) "str"
 | lst {a:Addr} {xs:List V} (h:SqL K H a xs):TyV K H (.ref a) "list"
 | tup {a:Addr} {xs:List V} (h:SqT K H a xs):TyV K H (.ref a) "tuple"
 | dic {a:Addr} (h:(∃ kvs,H a=some (.dK kvs))∨∃ kvs,H a=some (.dT kvs)):TyV K H (.ref a) "dict"
theorem zmo:CallR X (.builtin "isinstance") (fun xs H Q=>∃ x T t k,xs=[x,.ty T]∧TyV X.K H x t∧PySem.W.kitOne X.K (.type t) (.type T)=some k∧Q (.bl k) H):=by
 intro pins s σ H xs us Q I r h
 obtain ⟨x,T,t,k,rfl,ty,e,q⟩:=h
 obtain ⟨u,u2,rfl,rx,ry⟩:=vals2 r
 cases (show u2=Value.type T from ry)
 have fin:∀ tk,EP X pins σ Q (.bool k) { s with toks:=tk}:=fun tk=>⟨.bl k,H,I.tok tk,rfl,q⟩
 cases ty with
 | non=>cases (show u=Value.none from rx); exact PySem.W.kia_one PySem.W.kitx_none I.kIn True.intro e (fun z=>nomatch z) fin
 | bl y=>cases (show u=Value.bool y from rx); exact PySem.W.kia_one PySem.W.kitx_bool I.kIn True.intro e (fun z=>nomatch z) fin
 | int i=>obtain ⟨t,z⟩:=(show ∃ t,u=Value.int i t from rx); cases z; exact PySem.W.kia_one PySem.W.kitx_int I.kIn True.intro e (fun z=>nomatch z) fin
 | str y=>obtain ⟨t,z⟩:=(show ∃ t,u=Value.str y t from rx); cases z; exact PySem.W.kia_one PySem.W.kitx_str I.kIn True.intro e (fun z=>nomatch z) fin
 | @lst a xs ha =>
  cases (show u=Value.ref a from rx)
  obtain ⟨its,_,⟨o,n,h1,h2,_⟩,_⟩:=I.list ha
  exact PySem.W.kia_one PySem.W.kitx_list I.kIn ⟨_,h1,h2⟩ e (fun z=>nomatch z) fin
 | @tup a xs ha =>
  cases (show u=Value.ref a from rx)
  obtain ⟨its,_,⟨o,h1,h2,_⟩,_⟩:=I.tuple ha
  exact PySem.W.kia_one PySem.W.kitx_tuple I.kIn ⟨_,h1,h2⟩ e (fun z=>nomatch z) fin
 | @dic a ha =>
  cases (show u=Value.ref a from rx)
  have ht:s.TypeIs (.ref a) "dict":=by
   rcases ha with ⟨kvs,ha⟩ | ⟨kvs,ha⟩
   ·obtain ⟨_,_,vs,_,dd⟩:=zh4 I.hok ha
    exact dd.typeIs
   ·obtain ⟨_,_,vs,_,dd⟩:=zl9 I.hok ha
    exact dd.typeIs
  obtain ⟨o,h1,h2⟩:=ht
  exact PySem.W.kia_one PySem.W.kitx_dict I.kIn ⟨_,h1,h2⟩ e (fun z=>nomatch z) fin
theorem zmm:CallR X (.builtin "any") (fun xs H Q=>∃ (p:Addr) (ks:List Bool),xs=[.ref p]∧SqL X.K H p (ks.map V.bl)∧X.calm=true∧Q (.bl (ks.any id)) H):=by
 intro pins s σ H xs us Q I r h
 obtain ⟨p,ks,rfl,hq,hc,q⟩:=h
 obtain ⟨u,rfl,ru⟩:=vals1 r
 cases ru
 obtain ⟨its,rv,pl,hz⟩:=I.list hq
 have hlen:its.length=ks.length:=by rw [← rv.length,List.length_map]
 have hlt:p < s.heap.objs.size:=by obtain ⟨o,n,h1,_⟩:=pl; exact Heap.lt_size h1
 have bits:∀ (i:Nat) (v:Value),its.toArray[i]? = some v→∃ k,ks[i]? = some k∧v=Value.bool k:=fun i v hv=>by
  have hi:its[i]? = some v:=by simpa using hv
  have hl:i < ks.length:=by rw [← hlen]; exact (List.getElem?_eq_some_iff.mp hi).1
  obtain ⟨u,h1,h2⟩:=rv.get (i:=i) (x:=.bl ks[i]) (by rw [List.getElem?_map,List.getElem?_eq_getElem hl]; rfl)
  rw [hi] at h1
  cases h1
  exact ⟨ks[i],List.getElem?_eq_getElem hl,h2⟩
 refine call_any_walk (wpAny_pyIter_list pl.isList ?_)
 refine ⟨s.heap.objs.size,_,_,its.toArray.size,_,_,fun i=>ks.getD i false,rfl,Walks.list (A:=X.A.in1) (I.ok.hd hc) s.heap.objs.size p (Nat.ne_of_lt hlt) its.toArray,⟨⟨_,Heap.get?_push_size _ rfl,rfl,rfl⟩,?_⟩,fun i v s' Q' E' hv hQ=>?_,fun h' tk hk=>?_⟩
 ·obtain ⟨o,n,h1,h2,h3,h4⟩:=pl
  exact ⟨o,Heap.get?_push_of_some _ h1,h2,n,h4⟩
 ·obtain ⟨k,h1,rfl⟩:=bits i v hv
  refine wpAny_truthy_bool ?_
  have e:ks.getD i false=k:=by simp [List.getD,h1]
  rw [← e]
  exact hQ
 ·have I1:Inv X pins σ H { s with heap:=h',toks:=tk}:=I.kept fun b o e=>hk b o (by simp; exact Nat.ne_of_lt (Heap.lt_size e)) (Heap.get?_push_of_some _ e)
  refine ⟨.bl _,H,I1,rfl,?_⟩
  have e:((List.range its.toArray.size).any fun i=>ks.getD i false)=ks.any id:=by
   rw [List.size_toArray,hlen]
   clear q I1 bits rv hq hlen hz
   induction ks with
   | nil=>rfl
   | cons k r ih =>
    rw [List.length_cons,List.range_succ_eq_map,List.any_cons,List.any_map,List.any_cons,← ih]
    rfl
  rw [e]
  exact q
end
end L2
namespace L2
open PySem PySem.Spec PyProof.Rows
open PySem.AutoSeq1 (wpAny_loadPart')
section
variable {prog:Program} {w:World} {A:Around} {E:Value→Shared→Prop} {s:Shared}
end
noncomputable def Ite (S:Hp→List V→Prop):It :=
 ⟨fun i H=>∃ xs x,S H xs∧xs[i]? = some x,fun i H v H'=>∃ p,H p=none∧v=.ref p∧∀ xs,S H xs→∃ x,xs[i]? = some x∧H'=upd H p (.tup [.int i,x]),fun i H=>∃ xs,S H xs∧xs.length≤i⟩
theorem zh6 {P:Program} {w:World} {K:Frag} {es:List Expr} {k:Nat} {pos:Pos} (a e j:Addr) (hej:e≠j) (hae:a≠e) (haj:a≠j) :
  Turn P w K (.Tuple es k pos) (Ite fun H xs=>SqL K H a xs) [e,j] e (fun i h=>(∃ old,IsEnum h e j (i:Nat) old)∧h.IsListIter j a i) where
 mem:=by simp
 obj:=fun i h st b hb=>by
  rcases List.mem_cons.mp hb with rfl | hb
  ·obtain ⟨⟨old,x⟩,_⟩:=st
   exact ⟨_,x,fun v z=>by cases (show Data.fields _=Data.cell v from z)⟩
  ·have z:b=j:=by simpa using hb
   subst z
   obtain ⟨_,⟨o,x,_,d⟩⟩:=st
   exact ⟨o,x,fun v z=>by rw [d] at z; cases z⟩
 keep:=fun i h h' st kk=>by
  obtain ⟨⟨old,x⟩,it⟩:=st
  exact ⟨⟨old,kk e (by simp) _ x⟩,it.at fun o y=>kk j (by simp) o y⟩
 item:=by
  intro X hP hw hK hc i pins s σ H E I hf st hg
  subst hP hw hK
  obtain ⟨⟨old,he⟩,hj⟩:=st
  obtain ⟨xs,x,hq,hx⟩:=hg
  obtain ⟨its,rv,p,hz⟩:=I.list hq
  obtain ⟨u,hu,ru⟩:=rv.get hx
  obtain ⟨f0,f1,f2,f3,f4,f5⟩:=hf e (by simp)
  obtain ⟨g0,g1,g2,g3,g4,g5⟩:=hf j (by simp)
  have le:e < s.heap.objs.size:=Heap.lt_size he
  have lj:j < s.heap.objs.size:=by obtain ⟨_,z,_⟩:=hj; exact Heap.lt_size z
  refine wpAny_pyNext_enum_item he hj p.isList (x:=u) (by simpa using hu) hej fun h' ho hj' hT hsz hk=>⟨_,rfl,?_⟩
  refine wpAny_letOwnedTupleGo_enum ho fun h'' he'' hs''=>?_
  -- a pair is new,the two records have turned
  have k2:∀ b o,b≠e→b≠j→s.heap.get? b=some o→h''.get? b=some o:=fun b o n1 n2 z=>(hs''.2 b n1).trans (hk b o n1 n2 z)
  have tT:h''.get? s.heap.objs.size=some { cls:=.type "tuple",data:=.seq #[.int i s.toks,u]}:=(hs''.2 _ (Nat.ne_of_gt le)).trans hT
  have fr:H s.heap.objs.size=none:=I.fresh
  have I1:Inv X pins σ (upd H s.heap.objs.size (.tup [.int i,x])) { s with heap:=h'',toks:=s.toks+1}:=by
   refine I.step (g':=s.gens) (d':=s.drawn) (ch:=[e,j]) (fun b hb=>?_) (fun b o _ _ hcb z _=>k2 b o (fun y=>hcb (by simp [y])) (fun y=>hcb (by simp [y])) z) (fun b o _ _ hcb z _=>⟨o.slots,k2 b o (fun y=>hcb (by simp [y])) (fun y=>hcb (by simp [y])) z⟩)
    (fun b o _ z n=>by rw [zj (Nat.ne_of_lt (Heap.lt_size z))]; exact n) (fun b o hcb z=>⟨o,k2 b o (fun y=>hcb (by simp [y])) (fun y=>hcb (by simp [y])) z⟩)
    (fun b ys z=>by rw [zj (zh z fr)]; exact z) (fun b o v z=>by rw [zj (zh z fr)]; exact z) (fun b ps z=>⟨#[],by rw [zj (zh z fr),z]; simp⟩) (fun m hm=>?_) (fun b v z=>?_) I.bare
   ·rcases List.mem_cons.mp hb with rfl | hb
    ·exact ⟨f3,f1,f4,f5⟩
    ·have z:b=j:=by simpa using hb
     subst z
     exact ⟨g3,g1,g4,g5⟩
   ·obtain ⟨o,es',ep,ho',r⟩:=hm
    exact ⟨o,es',ep,k2 _ o (Ne.symm f1) (Ne.symm g1) ho',r⟩
   ·by_cases hb:b=s.heap.objs.size
    ·subst hb
     rw [zg] at z
     cases z
     exact ⟨by show 2≤sizeLine; decide,[.int i s.toks,u],.cons ⟨_,rfl⟩ (.cons ru .nil),⟨⟨_,tT,rfl,_,rfl⟩,_,tT,rfl⟩⟩
    ·rw [zj hb] at z
     refine (I.hok b v z).stay (fun c o hc' y=>k2 c o ?_ ?_ y) (fun c y=>by rw [zj (zh y fr)]; exact y) fun c ys y=>by rw [zj (zh y fr)]; exact y
     ·rcases hc' with y | y
      ·rw [y]; exact zh z f0
      ·exact zh y f0
     ·rcases hc' with y | y
      ·rw [y]; exact zh z g0
      ·exact zh y g0
  refine ⟨.ref s.heap.objs.size,_,I1,rfl,⟨_,fr,rfl,fun ys hy=>⟨x,by rw [I.list_inj hy hq]; exact hx,rfl⟩⟩,⟨⟨u,by simpa using he''⟩,?_⟩,fun b hb=>?_⟩
  ·exact hj'.at fun o z=>(hs''.2 j (Ne.symm hej)).trans z
  ·have hb':b < s.heap.objs.size:=by
    rcases List.mem_cons.mp hb with rfl | hb
    ·exact le
    ·have z:b=j:=by simpa using hb
     subst z; exact lj
   rw [zj (Nat.ne_of_lt hb')]
   exact (hf b hb).1
 done:=by
  intro X hP hw hK hc i pins s σ H E I hf st hg
  subst hP hw hK
  obtain ⟨⟨old,he⟩,hj⟩:=st
  obtain ⟨xs,hq,hx⟩:=hg
  obtain ⟨its,rv,p,hz⟩:=I.list hq
  obtain ⟨g0,g1,g2,g3,g4,g5⟩:=hf j (by simp)
  have hl:=rv.length
  exact wpAny_pyNext_enum_end (I.ok.hd hc) he hj p.isList (by simp; lia) fun h' eb=>⟨rfl,I.turned (t':=s.toks) (fun b o hb z=>eb b o hb z) g0 g1 g3 g4 g5⟩
 self:=fun A i s Q E st h=>by
  obtain ⟨⟨old,he⟩,hj⟩:=st
  exact wpAny_pyIter_enum he h
section
variable {X:Cx} {l:Expr} {tl:TE} {tg:Expr}
theorem zlq (hl:PE X l tl):PI X tg l (fun σ H R=>tl σ H fun x H1=>∃ a xs,x=.ref a∧SqL X.K H1 a xs∧(xs.length≤sizeLine→R (Itl X.K a) H1)):=by
 intro pins s σ H R I h
 refine thn (hl pins s σ H _ I h) fun v s1 ⟨x,H1,I1,r1,q1⟩=>?_
 obtain ⟨a,xs,e,hq,q⟩:=q1
 subst e
 cases r1
 obtain ⟨its,rv,p,hz⟩:=I1.list hq
 refine wpAny_pyIter_list p.isList ⟨s1.heap.objs.size,[s1.heap.objs.size],_,_,H1,rfl,I1.kept (t':=s1.toks) fun b o e=>Heap.get?_push_of_some _ e,ziy a _,⟨_,Heap.get?_push_size _ rfl,rfl,rfl⟩,fun b hb=>?_,q hz⟩
 have e:b=s1.heap.objs.size:=by simpa using hb
 subst e
 exact I1.fpOk (Nat.le_refl _) I1.fresh
theorem zon (hl:PE X l tl):PI X tg l (fun σ H R=>tl σ H fun x H1=>∃ a xs,x=.ref a∧SqT X.K H1 a xs∧(xs.length≤sizeLine→R (Itt X.K a) H1)):=by
 intro pins s σ H R I h
 refine thn (hl pins s σ H _ I h) fun v s1 ⟨x,H1,I1,r1,q1⟩=>?_
 obtain ⟨a,xs,e,hq,q⟩:=q1
 subst e
 cases r1
 obtain ⟨its,rv,p,hz⟩:=I1.tuple hq
 refine wpAny_pyIter_tuple (show s1.heap.IsTuple a its.toArray from p) ⟨s1.heap.objs.size,[s1.heap.objs.size],_,_,H1,rfl,I1.kept (t':=s1.toks) fun b o e=>Heap.get?_push_of_some _ e,zih a _,⟨_,Heap.get?_push_size _ rfl,rfl,rfl⟩,fun b hb=>?_,q hz⟩
 have e:b=s1.heap.objs.size:=by simpa using hb
 subst e
 exact I1.fpOk (Nat.le_refl _) I1.fresh
theorem zl4 {ta:TA} {es:List Expr} {k:Nat} {pt p pos:Pos} (hg:Gl X "enumerate") (hm:X.mg "enumerate" = none) (ha:PA X [l] ta) (hs:starEach [l] X.env=[(false,eval l X.env)]) :
  PI X (.Tuple es k pt) (.Call (.Name "enumerate" p) [l] [] pos) (fun σ H R=>ta σ H fun vs H1=>∃ a xs,vs=[.ref a]∧SqL X.K H1 a xs∧(xs.length≤sizeLine→R (Ite fun H xs=>SqL X.K H a xs) H1)):=by
 intro pins s σ H R I h
 refine Call_ (zce I hg hm boot_enumerate (PyProof.Rows.callWith_type1 (thn (ha pos pins s σ H _ I h) fun us s1 ⟨vs,H1,I1,r1,q1⟩=>?_) hs rfl))
 obtain ⟨a,xs,rfl,hq,q⟩:=q1
 obtain ⟨u,rfl,ru⟩:=vals1 r1
 cases ru
 obtain ⟨its,rv,pl,hz⟩:=I1.list hq
 have la:a < s1.heap.objs.size:=by obtain ⟨o,n,z,_⟩:=pl; exact Heap.lt_size z
 refine call_enumerate_list pl.isList fun g he hj hsz hk=>wpAny_pyIter_enum he ?_
 refine ⟨s1.heap.objs.size+1,[s1.heap.objs.size+1,s1.heap.objs.size],_,_,H1,rfl,I1.kept (t':=s1.toks) hk,zh6 a _ _ (Nat.succ_ne_self _) (Nat.ne_of_lt (Nat.lt_succ_of_lt la)) (Nat.ne_of_lt la),⟨⟨_,by simpa using he⟩,hj⟩,fun b hb=>?_,q hz⟩
 have hb':s1.heap.objs.size≤b:=by
  rcases List.mem_cons.mp hb with rfl | hb
  ·exact Nat.le_succ _
  ·have:b=s1.heap.objs.size:=by simpa using hb
   exact Nat.le_of_eq this.symm
 exact I1.fpOk hb' (I1.hok.fresh hb')
end
end L2
namespace L2
open PySem PySem.Spec PyProof.Rows
theorem zel {X:Cx} {elt iter tg:Expr} {ifs:List Expr} {scope:Scope} {pos:Pos} {N':List Str} {n:Nat} {keep:List Nat} {wi:TI} {g:TG} {tc:TT} {te:TE}
  (hcalm:X.calm=true) (hkind:scope.kind=.function) (hcell:∀ y∈scope.names,y.2≠.cell) (hlook:∀ y∈scope.names,scope.names.lookup y.1=some y.2)
  (hfr:∀ x,(x,NameKind.free)∈scope.names→X.env.kindOf x=some .cell∨X.env.kindOf x=some .free)
  (hlen:N'.length=n+keep.length) (hcap:∀ (k:Nat) (x:Str),N'[n+k]? = some x→(x,NameKind.free)∈scope.names∧∃ j,keep[k]? = some j∧X.N[j]? = some x)
  (hi:PI X tg iter wi)
  (hb:∀ C fp pins s H,PG (blockCx X N' scope C fp pins s H) tg g∧PTs (blockCx X N' scope C fp pins s H) ifs tc∧PE (blockCx X N' scope C fp pins s H) elt te)
  (hs:∀ x,foldedSetIterable iter X.env x=pure x) {use:Option (Value→Sem Unit)} {Qp:Value→Shared→Prop} {ppos:Pos}
  {pins:List (Addr×Obj)} {s:Shared} {σ:St} {H:Hp} {Q:VK} (I:Inv X pins σ H s) (h:tComp wi n keep g tc te σ H Q)
  (fin:∀ (D C:Addr) (s6:Shared) (H5:Hp) (m6:Str→Option Value),s6.heap.Ns C m6→(∀ h',Heap.SameBut C s6.heap h'→Inv X pins σ H5 { s6 with heap:=h'})→FpOk X pins H5 C→Q (.ref D) H5 →
   compPost (model X.prog X.w) X.A X.xe use Qp (.ref D) C (.ok .next) s6) :
  wpAny (model X.prog X.w) X.A (comprehension (.ListComp elt [⟨tg,iter,ifs,0⟩] scope pos) scope X.env ppos (newList []) false (eval iter X.env) use) Qp X.xe s:=by
 have hclo:∀ n,(n,NameKind.free)∈scope.names→∃ c,X.env.cells.lookup n=some c:=fun n hn=>I.ok.has n (hfr n hn)
 have hnames:∀ x∈scope.names,x.2=.local→scope.names.lookup x.1=some .local:=fun x hx e=>e▸hlook x hx
 refine wpAny_comprehension_free (use:=use) rfl hs (zdh hclo) hkind hnames (wpAny_mono (hi pins s σ H _ I h) (fun xv s₁ h₁=>wpAny_mono h₁ (fun itv s₂ h₂=>?_) fun _ _ e=>e) fun _ _ e=>e)
 obtain ⟨it,fp,tn,J,H2,rfl,I2,T,st2,f2,hR⟩:=h₂
 refine wpAny_newObj_type (wpAny_newFunctionEnv hcell (by intro y hy; simp at hy) (fun h₁ hns₁ hsb₁=>?_) hkind)
 dsimp only at hns₁ hsb₁ ⊢
 -- acc,at the heap's end
 have I3:Inv X pins σ (upd H2 s₂.heap.objs.size (.lst [])) { s₂ with heap:=s₂.heap.push { cls:=.type "list",dict:=none,data:=.seq ([]:List Value).toArray}}:=I2.lnew (ys:=[]) (its:=[]) (t':=s₂.toks) .nil (Nat.zero_le _)
 have fr2:H2 s₂.heap.objs.size=none:=I2.fresh
 generalize hD:s₂.heap.objs.size=D at I3 fr2
 generalize hP2:s₂.heap.push { cls:=.type "list",dict:=none,data:=.seq ([]:List Value).toArray}=P2 at hns₁ hsb₁ I3 ⊢
 have push2:∀ b o,s₂.heap.get? b=some o→P2.get? b=some o:=fun b o e=>hP2▸Heap.get?_push_of_some _ e
 have hC:P2.objs.size=D+1:=by rw [← hP2,Heap.size_push,hD]
 generalize hCC:P2.objs.size=C at hns₁ hsb₁ hC ⊢
 have old:∀ b o,P2.get? b=some o→h₁.get? b=some o:=fun b o e=>hsb₁.extBut b o (by rw [← hCC]; exact Nat.ne_of_lt (Heap.lt_size e)) (Heap.get?_push_of_some _ e)
 obtain ⟨W,⟨m0,w0⟩,turn⟩:=hR D fr2
 let s3:Shared:={ s₂ with heap:=P2}
 let X':Cx:=blockCx X N' scope C fp pins s3 (upd H2 D (.lst []))
 have fpL:∀ b∈fp,b < D:=fun b hb=>by
  obtain ⟨o,e,_⟩:=T.obj _ _ st2 b hb
  rw [← hD]; exact Heap.lt_size e
 have kOf:∀ x,X'.env.kindOf x=(scope.names.lookup x).map fun k=>if (k==NameKind.free&&X.env.scope.kind == .function&&X.env.kindOf x==some .cell) then NameKind.cell else k:=fun x=>zaw
 have free_of:∀ x,(X'.env.kindOf x=some .cell∨X'.env.kindOf x=some .free)→(x,NameKind.free)∈scope.names:=fun x hx=>by
  rw [kOf] at hx
  cases e:scope.names.lookup x with
  | none=>rw [e] at hx; rcases hx with h | h <;> cases h
  | some k =>
   have hm:=PySem.mem_of_lookup e
   have hnc:k≠.cell:=hcell _ hm
   by_cases hk:k=.free
   ·rw [← hk]; exact hm
   ·rw [e] at hx
    have hb:(k==NameKind.free)=false:=by simpa using hk
    simp only [Option.map_some,hb,Bool.false_and,Bool.false_eq_true,if_false,Option.some.injEq] at hx
    rcases hx with h | h
    ·exact absurd h hnc
    ·exact absurd h hk
 have vis_free:∀ x,(x,NameKind.free)∈scope.names→(X'.env.kindOf x=some .cell∨X'.env.kindOf x=some .free):=fun x hx=>by
  rw [kOf,hlook _ hx]
  simp only [Option.map_some]
  split
  ·exact .inl rfl
  ·exact .inr rfl
 have ok':X'.Ok:=by
  refine ⟨I.ok.mod,hkind,I.ok.glob,I.ok.blt,?_,fun x y c h1 h2=>I.ok.inj x y c (zah h1 hclo) (zah h2 hclo),fun x hx=>?_,fun x c hf=>absurd hf Bool.false_ne_true,fun _=>I.ok.hd hcalm,I.ok.frames,.inl rfl,fun b hb=>⟨?_,fun x c e=>?_⟩,I3.bs,Nat.le_trans I.ok.bsz I3.sz,fun b o e hb=>?_,fun b hb hz=>?_,I3.stack,I3.stkFree⟩
  ·show P2.objs.size≤C
   rw [hCC]; exact Nat.le_refl _
  ·obtain ⟨c,e,_⟩:=znd (free_of x hx) hclo
   exact ⟨c,e⟩
  ·exact Nat.ne_of_lt (Nat.lt_of_lt_of_le (fpL b hb) (by show D≤C; rw [hC]; exact Nat.le_succ D))
  ·exact (f2 b hb).2.2.2.2.1 x c (zah e hclo)
  ·rcases (f2 b hb).2.2.2.1 with z | z
   ·exact I.ok.noex b o e z
   ·exact absurd (Nat.lt_of_lt_of_le (Nat.lt_of_lt_of_le (Heap.lt_size e) I.ok.bsz) z) (Nat.lt_irrefl _)
  ·rcases List.mem_cons.mp (I3.stkSub b hz) with z | z
   ·exact (f2 b hb).2.1 z
   ·exact (f2 b hb).2.2.1 z
 have I4:Inv X' [] (caps n keep σ) (upd H2 D (.lst [])) { s3 with heap:=h₁,toks:=s3.toks+([]:List (Str×Value)).length}:=by
  refine ⟨ok',rfl,I3.bare,Un.kept old,⟨_,hns₁,fun i x v e1 e2 e3=>?_⟩,fun x c e=>?_,I3.hok.fresh (by show P2.objs.size≤C; rw [hCC]; exact Nat.le_refl _),fun x c e=>I3.freeC x c (zah e hclo),fun p hp=>?_,I3.hok.kept old,?_⟩
  ·have hin:n≤i:=by
    by_cases hlt:i < n
    ·unfold caps at e2
     rw [List.getElem?_append_left (by simpa using hlt),List.getElem?_replicate] at e2
     split at e2 <;> cases e2
    ·lia
   obtain ⟨k,rfl⟩:∃ k,i=n+k:=⟨i - n,by lia⟩
   obtain ⟨hm,j,hj,hjN⟩:=hcap k x e1
   have e2':(σ[j]?).join=some v:=by
    unfold caps at e2
    rw [List.getElem?_append_right (by simp),List.length_replicate,show n+k - n=k by lia,List.getElem?_map,hj] at e2
    exact Option.some.inj e2
   have e2'':σ[j]? = some (some v):=by
    cases q:σ[j]? with
    | none=>rw [q] at e2'; cases e2'
    | some o=>rw [q] at e2'; cases o with
     | none=>cases e2'
     | some v'=>exact congrArg some e2'
   obtain ⟨m3,_,hl3⟩:=I3.loc
   have hv:Vis X.env.scope x:=(hfr x hm).elim (fun z=>.inr (.inl z)) fun z=>.inr (.inr z)
   obtain ⟨u,r,l⟩:=hl3 j x v hjN e2'' hv
   refine ⟨u,r,.inr ⟨vis_free x hm,?_⟩⟩
   rcases l with ⟨z,_⟩ | ⟨_,c,hc,o,ho,hd⟩
   ·rcases hfr x hm with y | y <;> (rw [y] at z; cases z)
   ·obtain ⟨c',e',e''⟩:=znd hm hclo
    rw [hc] at e''; cases e''
    exact ⟨c,e',o,old _ _ ho,hd⟩
  ·obtain ⟨v,o,ho,hd⟩:=I3.cell x c (zah e hclo)
   exact ⟨v,o,old _ _ ho,hd⟩
  ·have hp':p∈X.pn++pins:=by simpa using (show p∈(X.pn++pins)++[] from hp)
   obtain ⟨a1,a2,a3,a4,a5⟩:=I3.pin p hp'
   refine ⟨old _ _ a1,a2,?_,fun hz=>?_,a5⟩
   ·exact Nat.ne_of_lt (Nat.lt_of_lt_of_eq (show p.1 < P2.objs.size from Heap.lt_size a1) hCC)
   ·rcases List.mem_cons.mp (I3.stkSub p.1 hz) with z | z
    ·exact a3 z
    ·exact a4 z
  ·show (caps n keep σ).length=N'.length
   unfold caps
   rw [List.length_append,List.length_replicate,List.length_map,hlen]
 have fp':∀ {H':Hp},(∀ b∈fp,H' b=none)→∀ b∈fp,FpOk X' [] H' b:=fun hn b hb=>by
  refine ⟨hn b hb,?_,fun hz=>?_,.inl hb,fun x c e=>(f2 b hb).2.2.2.2.1 x c (zah e hclo),fun p hp=>?_⟩
  ·exact Nat.ne_of_lt (Nat.lt_of_lt_of_le (fpL b hb) (by show D≤C; rw [hC]; exact Nat.le_succ D))
  ·rcases List.mem_cons.mp (I3.stkSub b hz) with z | z
   ·exact (f2 b hb).2.1 z
   ·exact (f2 b hb).2.2.1 z
  ·have hp':p∈X.pn++pins:=by simpa using (show p∈(X.pn++pins)++[] from hp)
   exact (f2 b hb).2.2.2.2.2 p hp'
 have fr3:∀ b∈fp,(upd H2 D (.lst [])) b=none:=fun b hb=>by
  rw [zj (Nat.ne_of_lt (fpL b hb))]
  exact (f2 b hb).1
 have st4:tn 0 h₁:=T.keep _ _ _ st2 fun b hb o e=>old b o (push2 b o e)
 have loop:codeAny (model X.prog X.w) X.A (.compLoop (.ListComp elt [⟨tg,iter,ifs,0⟩] scope pos) 0 (.ref it) (.ref D) X'.env) (compPost (model X.prog X.w) X.A X.xe use Qp (.ref D) C) { s3 with heap:=h₁,toks:=s3.toks+([]:List (Str×Value)).length}:=by
  refine zkh (fun m s'=>∃ i ys H',Inv X' [] (caps n keep σ) H' s'∧tn i s'.heap∧(∀ b∈fp,H' b=none)∧W i m ys H') ?_ m0 ⟨0,[],_,I4,st4,fr3,w0⟩
  rintro m s5 ⟨i,ys,H5,I5,st5,fr5,w5⟩
  obtain ⟨hacc,alt⟩:=turn i m ys H5 w5
  rcases alt with ⟨stop,qn⟩ | ⟨go,step⟩
  ·refine wpAny_mono (T.done X' rfl rfl rfl hcalm i [] s5 (caps n keep σ) H5 NoE I5 (fp' fr5) st5 stop) (fun r s6 ⟨hr,I6⟩=>?_) fun _ _ z=>z
   subst hr
   obtain ⟨m6,hn6,_⟩:=id I6.loc
   refine fin D C s6 H5 m6 hn6 (fun h' hsb=>?_) (I2.fpOk (by rw [hD,hC]; exact Nat.le_succ D) I6.free) qn
   have hgo:∀ b o,b≠C→s6.heap.get? b=some o→h'.get? b=some o:=fun b o hb e=>(hsb.2 b hb).trans e
   have neC:∀ b o,P2.get? b=some o→b≠C:=fun b o e=>Nat.ne_of_lt (Nat.lt_of_lt_of_eq (Heap.lt_size e) hCC)
   have u6:Un (frs X.stack) fp (upd H2 D (.lst [])) H5 P2 s6.heap:=I6.base
   have u7:Un (frs X.stack) fp (upd H2 D (.lst [])) H5 P2 h':=by
    refine ⟨fun b o e n1 n2 n3=>hgo b o (neC b o e) (u6.keep b o e n1 n2 n3),fun b o e n1 n2 n3=>?_,u6.free,fun b o e n1=>?_,u6.tups,u6.frzs,u6.tbls⟩
    ·obtain ⟨sl,q⟩:=u6.slot b o e n1 n2 n3
     exact ⟨sl,hgo b _ (neC b o e) q⟩
    ·obtain ⟨o',q⟩:=u6.there b o e n1
     exact ⟨o',hgo b _ (neC b o e) q⟩
   have hfC:H5 C=none:=I6.free
   have hok7:HOk X.prog X.w H5 h':=fun b u e=>by
    refine (I6.hok b u e).stay (fun c v hc q=>hgo c v ?_ q) (fun _ q=>q) fun _ _ q=>q
    rcases hc with z | z
    ·rw [z]; exact zh e hfC
    ·exact zh z hfC
   have I7:Inv X pins σ H5 { s6 with heap:=h'}:=I3.call' (ch:=fp) (s':={ s6 with heap:=h'}) I6.os u7 hok7 I6.bare fun b hb=>⟨(f2 b hb).2.2.2.1,(f2 b hb).2.1,(f2 b hb).2.2.2.2.1,(f2 b hb).2.2.2.2.2⟩
   exact I7
  ·refine wpAny_mono (T.item X' rfl rfl rfl hcalm i [] s5 (caps n keep σ) H5 NoE I5 (fp' fr5) st5 go) (fun r s6 ⟨u,hr,h6⟩=>?_) fun _ _ z=>z
   subst hr
   refine wpAny_mono h6 (fun _ s7 ⟨x,H7,I7,r7,y7,st7,fr7⟩=>?_) fun _ _ z=>z
   have I7':=I7.pinned (fp' fr7) (T.obj _ _ st7)
   obtain ⟨bg,bt,be⟩:=hb C fp pins s3 (upd H2 D (.lst []))
   have back:∀ {σ9:St} {H9:Hp} {s9:Shared} {ys':List V},Wk (caps n keep σ) σ9→Inv X' ([]++pinsAt fp s7.heap) σ9 H9 s9→(∃ m',m' < m∧W (i+1) m' ys' H9) →
     ∃ m',m' < m∧∃ i ys H',Inv X' [] (caps n keep σ) H' s9∧tn i s9.heap∧(∀ b∈fp,H' b=none)∧W i m' ys H':=fun {σ9 H9 s9 ys'} hw I9 ⟨m',hm,w9⟩=>by
    refine ⟨m',hm,i+1,ys',H9,I9.unpinned.weak hw.1 hw.2,T.keep _ _ _ st7 fun b hb o e=>(I9.pin (b,o) (List.mem_append_right _ (List.mem_append_right _ (zbe hb e)))).1,fun b hb=>?_,w9⟩
    obtain ⟨o,e,d⟩:=T.obj _ _ st7 b hb
    exact (I9.pin (b,o) (List.mem_append_right _ (List.mem_append_right _ (zbe hb e)))).2.1
   refine wpAny_mono (bg _ s7 (caps n keep σ) H7 x u _ I7' r7 (step x H7 y7)) (fun _ s8 ⟨σ8,H8,I8,wk8,q8⟩=>?_) fun _ _ z=>z
   refine wpAny_mono (bt _ s8 σ8 H8 _ I8 q8) (fun ok s9 ⟨H9,I9,q9⟩=>?_) fun _ _ z=>z
   cases ok with
   | false =>
    rw [if_neg Bool.false_ne_true] at q9 ⊢
    exact back wk8 I9 q9
   | true =>
    rw [if_pos rfl] at q9 ⊢
    refine wpAny_mono (be _ s9 σ8 H9 _ I9 q9) (fun y s10 ⟨yv,H10,I10,r10,hacc10,hz10,w10⟩=>?_) fun _ _ z=>z
    refine wpAny_mono (ze0 (X:=X') _ s10 σ8 H10 (.ref D) [yv] (.ref D) [y] (fun _ H11=>H11=upd H10 D (.lst (ys++[yv]))) I10 rfl (.cons r10 .nil) ⟨D,ys,yv,rfl,rfl,hacc10,hz10,rfl⟩) (fun _ s11 ⟨_,H11,I11,_,e11⟩=>?_) fun _ _ z=>z
    subst e11
    exact back wk8 I11 w10
 exact codeAny_compStart_list loop (T.self _ 0 _ _ _ st4 loop)
theorem zlz {X:Cx} {elt iter tg:Expr} {ifs:List Expr} {scope:Scope} {pos:Pos} {N':List Str} {n:Nat} {keep:List Nat} {wi:TI} {g:TG} {tc:TT} {te:TE}
  (hcalm:X.calm=true) (hkind:scope.kind=.function) (hcell:∀ y∈scope.names,y.2≠.cell) (hlook:∀ y∈scope.names,scope.names.lookup y.1=some y.2)
  (hfr:∀ x,(x,NameKind.free)∈scope.names→X.env.kindOf x=some .cell∨X.env.kindOf x=some .free)
  (hlen:N'.length=n+keep.length) (hcap:∀ (k:Nat) (x:Str),N'[n+k]? = some x→(x,NameKind.free)∈scope.names∧∃ j,keep[k]? = some j∧X.N[j]? = some x)
  (hi:PI X tg iter wi)
  (hb:∀ C fp pins s H,PG (blockCx X N' scope C fp pins s H) tg g∧PTs (blockCx X N' scope C fp pins s H) ifs tc∧PE (blockCx X N' scope C fp pins s H) elt te)
  (hs:∀ x,foldedSetIterable iter X.env x=pure x:=by intro _; rfl) :
  PE X (.ListComp elt [⟨tg,iter,ifs,0⟩] scope pos) (tComp wi n keep g tc te):=by
 intro pins s σ H Q I h
 rw [eval_ListComp]
 exact zel (use:=none) (Qp:=EP X pins σ Q) hcalm hkind hcell hlook hfr hlen hcap hi hb hs I h fun D C s6 H5 m6 hn hI hf q=>⟨m6,hn,fun h' hsb=>⟨.ref D,H5,hI h' hsb,rfl,q⟩⟩
theorem zmr {X:Cx} {elt iter tg:Expr} {ifs:List Expr} {scope:Scope} {pos py spos:Pos} {N':List Str} {n:Nat} {keep:List Nat} {wi:TI} {g:TG} {tc:TT} {te:TE} {y:Str} {gy:TG}
  (hcalm:X.calm=true) (hkind:scope.kind=.function) (hcell:∀ y∈scope.names,y.2≠.cell) (hlook:∀ y∈scope.names,scope.names.lookup y.1=some y.2)
  (hfr:∀ x,(x,NameKind.free)∈scope.names→X.env.kindOf x=some .cell∨X.env.kindOf x=some .free)
  (hlen:N'.length=n+keep.length) (hcap:∀ (k:Nat) (x:Str),N'[n+k]? = some x→(x,NameKind.free)∈scope.names∧∃ j,keep[k]? = some j∧X.N[j]? = some x)
  (hi:PI X tg iter wi)
  (hb:∀ C fp pins s H,PG (blockCx X N' scope C fp pins s H) tg g∧PTs (blockCx X N' scope C fp pins s H) ifs tc∧PE (blockCx X N' scope C fp pins s H) elt te)
  (hs:∀ x,foldedSetIterable iter X.env x=pure x) (hg:PG X (.Name y py) gy)
  (hsw:swapsWith (.ListComp elt [⟨tg,iter,ifs,0⟩] scope pos) (some (.Name y py)) spos.line X.env=pure true) :
  PS X (.Assign [.Name y py] (.ListComp elt [⟨tg,iter,ifs,0⟩] scope pos) spos) (tAsg (tComp wi n keep g tc te) gy):=by
 intro pins s σ H E I h
 rw [exec_Assign_Name_used _ _ _ _ hsw]
 refine wpAny_bind (wpAny_standAt (wpAny_bind ?_))
 show wpAny _ X.A (do let _ ← comprehension (.ListComp elt [⟨tg,iter,ifs,0⟩] scope pos) scope X.env _ (newList []) false (eval iter X.env) (some (assign (.Name y py) X.env))) _ _ s
 refine wpAny_bind (wpAny_mono (zel (use:=some (assign (.Name y py) X.env)) (Qp:=fun _ s'=>SP X pins E .next s') hcalm hkind hcell hlook hfr hlen hcap hi hb hs I h fun D C s6 H5 m6 hn hI hf q=>?_) (fun _ s' hq=>wpAny_pure (wpAny_pure hq)) fun _ _ e=>e)
 have I6:Inv X pins σ H5 s6:=hI s6.heap (Heap.SameBut.refl _ _)
 obtain ⟨f0,f1,f2,f3,f4,f5⟩:=hf
 obtain ⟨oC,es,ep,e1,e2,e3⟩:=id hn
 have I7:Inv X (pins++[(C,oC)]) σ H5 s6:=I6.pins_of fun p hp=>(List.mem_append.mp hp).elim (fun z=>I6.pin p (List.mem_append_right _ z)) fun z=>by
  have z:p=(C,oC):=by simpa using z
  subst z
  exact ⟨e1,f0,f1,f2,fun v z=>by rw [e2] at z; cases z⟩
 refine wpAny_mono (hg (pins++[(C,oC)]) s6 σ H5 (.ref D) (.ref D) E.nx I7 rfl q) (fun _ s8 ⟨σ8,H8,I8,q8⟩=>?_) fun _ _ z=>z
 have p8:=I8.pin (C,oC) (List.mem_append_right _ (List.mem_append_right _ (by simp)))
 refine ⟨m6,⟨oC,es,ep,p8.1,e2,e3⟩,fun h' hsb=>?_⟩
 have I9:=I8.unpinned
 exact ⟨σ8,H8,I9.turned (t':=s8.toks) (fun b o hb e=>hsb.extBut b o hb e) p8.2.1 f1 f3 f4 f5,q8⟩
end L2
namespace PY
open PySem (Str)
inductive D where
 | non | bl (b:Bool) | int (i:Int) | str (x:Str) | tup (l:List D) | lst (l:List D) | dic (ks vs:List D)
 deriving Inhabited
noncomputable def D.scal:D→Bool
 | .tup _=>false
 | .lst _=>false
 | .dic _ _=>false
 | _=>true
noncomputable def b2 (b:Bool):Int:=if b then 1 else 0
mutual
noncomputable def D.eq:D→D→Bool
 | .non,.non=>true
 | .bl a,.bl b=>a==b
 | .bl a,.int b=>b2 a==b
 | .int a,.bl b=>a==b2 b
 | .int a,.int b=>a==b
 | .str a,.str b=>a==b
 | .tup a,.tup b=>D.eqs a b
 | .lst a,.lst b=>D.eqs a b
 | .dic a b,.dic c d=>D.eqs a c&&D.eqs b d
 | _,_=>false
noncomputable def D.eqs:List D→List D→Bool
 | [],[]=>true
 | x::xs,y::ys=>D.eq x y&&D.eqs xs ys
 | _,_=>false
end
noncomputable def ints?:List D→Option (List Int)
 | []=>some []
 | .int i::r=>(ints? r).map (i::·)
 | _=>none
noncomputable def lexLt:List Int→List Int→Bool
 | [],[]=>false
 | [],_::_=>true
 | _::_,[]=>false
 | a::as,b::bs=>if a==b then lexLt as bs else decide (a < b)
noncomputable def D.lt:D→D→Option Bool
 | .int a,.int b=>some (decide (a < b))
 | .tup a,.tup b=>match ints? a,ints? b with
  | some x,some y=>some (lexLt x y)
  | _,_=>none
 | _,_=>none
noncomputable def D.truthy:D→Bool
 | .non=>false
 | .bl b=>b
 | .int i=>i != 0
 | .str x=>x.length != 0
 | .tup l=>!l.isEmpty
 | .lst l=>!l.isEmpty
 | .dic l _=>!l.isEmpty
noncomputable def tru:D→Option Bool
 | .str x=>if x.length≤4000 then some (x.length != 0) else none
 | .dic _ _=>none
 | d=>some d.truthy
inductive Sl where
 | no | val (d:D) | own (l:List D) | dk (ks vs:List D) | dl (t:Bool) (ks:List D) (ls:List (List D))
 deriving Inhabited
noncomputable abbrev Rho:=List Sl
inductive Fl where | solid | fresh | peek
 deriving DecidableEq,Inhabited
inductive Bop where | add | sub | mul | fdiv | mod
 deriving DecidableEq
inductive Cop where | eq | ne | lt | le | gt | ge | isC | notC | isin | notin
 deriving DecidableEq
inductive Bi where | len  | any | tuple | list | sorted  | min1  | lenset  | sum
 deriving DecidableEq
inductive B2 where | min2 | max2
 deriving DecidableEq
inductive Ty where | int | bool | str | tuple | list
 deriving DecidableEq
inductive Cn where | non | bl (b:Bool) | int (i:Int) | str (x:Str)
 deriving DecidableEq
noncomputable def Cn.d:Cn→D
 | .non=>.non | .bl b=>.bl b | .int i=>.int i | .str x=>.str x
inductive Tg where | one (i:Nat) | many (is:List Nat)
 deriving DecidableEq
mutual
inductive E where
 | con (c:Cn) | var (i:Nat) | glob (x:Str) (c:Cn)
 | call (f:Nat) (as:Es)
 | bi (b:Bi) (a:E)
 | isi (a:E) (t:Ty)
 | tup (as:Es) | lst (as:Es)
 | bin (o:Bop) (a b:E)
 | cmp (o:Cop) (a b:E)
 | and (a b:E) | or (a b:E) | not (a:E) | neg (a:E)
 | ix (a i:E) | sl (a:E) (lo hi:Eo)
 | comp (e:E) (t:Tg) (it:I) (c:Eo) (n:Nat) (keep:List Nat)
  | ixof (a b:E)
 | dic0 | dic1 (k v:E) | lrng (i:I)
inductive Es where | nil | cons (e:E) (r:Es)
inductive Eo where | no | so (e:E)
inductive I where | seq (e:E) | rng1 (a:E) | rng2 (a b:E) | enum (e:E)
end
mutual
inductive S where
 | asg (t:Tg) (e:E) | ret (e:E)
 | cond (c:E) (a b:Ss) | loop (t:Tg) (it:I) (b:Ss) | while (c:E) (b:Ss)
 | app (i:Nat) (e:E) | never | brk | cnt | skip | drop (e:E) | frz (is:List Nat) (s:S)
 | ins (i:Nat) (k e:E) | pop (t:Tg) (i:Nat) (k:E) | dput (i:Nat) (k e:E)
 | dputL (i:Nat) (k:E) | dapp (i:Nat) (k e:E) | mcall (f:Nat) (as:Es) (i:Nat) | io
 | rse (x:Str) | tryx (b:Ss) (i:Option Nat) (j:Nat) (c:Cn) (x:Str)
inductive Ss where | nil | cons (s:S) (r:Ss)
end
noncomputable def big:Nat:=4000
noncomputable abbrev R:=D×Fl
noncomputable def solid?:R→Option D
 | (_,.peek)=>none
 | (d,_)=>some d
noncomputable def binop:Bop→D→D→Option R
 | .add,.int a,.int b=>some (.int (a+b),.solid)
 | .sub,.int a,.int b=>some (.int (a - b),.solid)
 | .mul,.int a,.int b=>if (-1000000000000000000 < a∧a < 1000000000000000000)∨(-1000000000000000000 < b∧b < 1000000000000000000) then some (.int (a * b),.solid) else none
 | .fdiv,.int a,.int b=>if 0 < b∧b < 1073741824 then some (.int (a / b),.solid) else none
 | .mod,.int a,.int b=>if 0 < b then some (.int (a % b),.solid) else none
 | .add,.lst a,.lst b=>if a.length+b.length≤big then some (.lst (a++b),.fresh) else none
 | _,_,_=>none
noncomputable def tups?:List D→Option (List (List Int))
 | []=>some []
 | .tup l::r=>match ints? l with
  | some (x::ns)=>(tups? r).map ((x::ns)::·)
  | _=>none
 | _=>none
noncomputable def keyAt (x:D) (ks:List D):Option (Option Nat):=match x with
 | .int i=>(ints? ks).map fun ns=>ns.findIdx? (· == i)
 | .tup l=>(ints? l).bind fun n=>(tups? ks).map fun nss=>nss.findIdx? (· == n)
 | _=>none
noncomputable def memD (x:D) (l:List D):Bool:=l.any fun y=>D.eq y x
noncomputable def D.deep:Nat→D→Bool
 | 0,d=>d.scal
 | n+1,.tup l=>l.all (D.deep n)
 | n+1,.lst l=>l.all (D.deep n)
 | _+1,.dic _ _=>false
 | _+1,_=>true
noncomputable def cmpop:Cop→D→D→Option Bool
 | .eq,a,b=>if a.deep 8&&b.deep 8 then some (D.eq a b) else none
 | .ne,a,b=>if a.deep 8&&b.deep 8 then some (!D.eq a b) else none
 | .lt,a,b=>D.lt a b
 | .gt,.int a,.int b=>some (decide (b < a))
 | .le,.int a,.int b=>some (decide (a≤b))
 | .ge,.int a,.int b=>some (decide (b≤a))
 | .isC,a,.non=>some (match a with | .non=>true | _=>false)
 | .isC,a,.bl c=>some (match a with | .bl b=>b==c | _=>false)
 | .notC,a,.non=>some (match a with | .non=>false | _=>true)
 | .notC,a,.bl c=>some (match a with | .bl b=>!(b==c) | _=>true)
 | .isin,x,.tup l=>if x.deep 8&&l.all (D.deep 8) then some (memD x l) else none
 | .isin,x,.lst l=>if x.deep 8&&l.all (D.deep 8) then some (memD x l) else none
 | .notin,x,.tup l=>if x.deep 8&&l.all (D.deep 8) then some (!memD x l) else none
 | .notin,x,.lst l=>if x.deep 8&&l.all (D.deep 8) then some (!memD x l) else none
 | .isin,x,.dic ks _=>(keyAt x ks).map fun o=>o.isSome
 | .notin,x,.dic ks _=>(keyAt x ks).map fun o=>!o.isSome
 | _,_,_=>none
noncomputable def isTy:Ty→D→Bool
 | .int,.int _=>true
 | .int,.bl _=>true
 | .bool,.bl _=>true
 | .str,.str _=>true
 | .tuple,.tup _=>true
 | .list,.lst _=>true
 | _,_=>false
noncomputable def place (n:Nat) (i:Int):Option Nat :=
 if 0≤i then (if i.toNat < n then some i.toNat else none) else (if 0≤i+n then some (i+n).toNat else none)
noncomputable def index:D→D→Option R
 | .lst l,.int i=>(place l.length i).bind fun k=>(l[k]?).map fun d=>(d,.solid)
 | .tup l,.int i=>(place l.length i).bind fun k=>(l[k]?).map fun d=>(d,.solid)
 | .dic ks vs,k=>(keyAt k ks).bind fun o=>o.bind fun j=>(vs[j]?).map fun d=>(d,.solid)
 | _,_=>none
noncomputable def six (n d:Nat):Option Int→Nat
 | none=>d
 | some v=>if v < 0 then (v+(n:Int)).toNat else min v.toNat n
noncomputable def cutL {α:Type} (l:List α) (lo hi:Option Int):List α:=(l.drop (six l.length 0 lo)).take (six l.length l.length hi - six l.length 0 lo)
noncomputable def slice:D→Option Int→Option Int→Option R
 | .lst l,lo,hi=>some (.lst (cutL l lo hi),.fresh)
 | _,_,_=>none
noncomputable def insI (x:Int):List Int→List Int
 | []=>[x]
 | y::r=>if x≤y then x::y::r else y::insI x r
noncomputable def sortI:List Int→List Int
 | []=>[]
 | x::r=>insI x (sortI r)
noncomputable def minI:List Int→Int
 | []=>0
 | x::r=>r.foldl (fun a b=>if b < a then b else a) x
noncomputable def putAt {α:Type} (xs:List α) (k:Int) (y:α):List α:=xs.take (if k < 0 then (k+(xs.length:Int)).toNat else min k.toNat xs.length)++y::xs.drop (if k < 0 then (k+(xs.length:Int)).toNat else min k.toNat xs.length)
noncomputable def insT (x:List Int):List (List Int)→List (List Int)
 | []=>[x]
 | y::r=>if lexLt y x then y::insT x r else x::y::r
noncomputable def sortT:List (List Int)→List (List Int)
 | []=>[]
 | x::r=>insT x (sortT r)
noncomputable def tupI (ns:List Int):D:=.tup (ns.map .int)
noncomputable def lstI (ns:List Int):D:=.lst (ns.map .int)
noncomputable def lsts?:List D→Option (List (List Int))
 | []=>some []
 | .lst l::r=>(ints? l).bind fun ns=>(lsts? r).map (ns::·)
 | _=>none
noncomputable def sortO (l:List D):Option R:=match ints? l with
 | some ns=>if ns.length < 64 then some (.lst ((sortI ns).map .int),.fresh) else none
 | none=>match tups? l with
  | some nss=>if nss.length < 64 then some (.lst ((sortT nss).map tupI),.fresh) else none
  | none=>(lsts? l).bind fun nss=>if nss.length < 64 then some (.lst ((sortT nss).map lstI),.fresh) else none
noncomputable def sortK (ks:List D):Option R:=match ints? ks with
 | some _=>sortO ks
 | none=>none
noncomputable def minT:List (List Int)→List Int
 | []=>[]
 | x::r=>r.foldl (fun a b=>if lexLt b a then b else a) x
noncomputable def nubT (ns:List (List Int)):List (List Int):=ns.foldl (fun σ v=>if σ.any (· == v) then σ else σ++[v]) []
noncomputable def sumI (ns:List Int):Int:=ns.foldl (· + ·) 0
noncomputable def minO (l:List D):Option R:=(ints? l).bind fun ns=>match ns with | []=>none | x::r=>some (.int (minI (x::r)),.solid)
noncomputable def maxI:List Int→Int
 | []=>0
 | x::r=>r.foldl (fun a b=>if b > a then b else a) x
noncomputable def maxO (l:List D):Option R:=(ints? l).bind fun ns=>match ns with | []=>none | x::r=>some (.int (maxI (x::r)),.solid)
noncomputable def minP (l:List D):Option R:=(tups? l).bind fun nss=>match nss with
  | []=>none
  | x::r=>some (tupI (minT (x::r)),.solid)
noncomputable def lensL (l:List D):Option R:=(tups? l).bind fun nss=>if nss.length < 64 then some (.int (nubT nss).length,.solid) else none
noncomputable def isBl:D→Bool
 | .bl _=>true
 | _=>false
noncomputable def bltin:Bi→D→Option R
 | .len,.lst l=>some (.int l.length,.solid)
 | .len,.tup l=>some (.int l.length,.solid)
 | .len,.str x=>if x.length≤big then some (.int x.length,.solid) else none
 | .any,.lst l=>if l.all isBl then some (.bl (l.any D.truthy),.solid) else none
 | .tuple,.lst l=>some (.tup l,.solid)
 | .tuple,.tup l=>some (.tup l,.solid)
 | .list,.lst l=>some (.lst l,.fresh)
 | .list,.tup l=>some (.lst l,.fresh)
 | .sorted,.lst l=>sortO l
 | .sorted,.tup l=>sortO l
 | .sorted,.dic ks _=>if ks.isEmpty then none else sortK ks
 | .min1,.lst l=>minO l
 | .min1,.tup l=>minP l
 | .lenset,.lst l=>lensL l
 | .sum,.lst l=>(ints? l).bind fun ns=>if decide (ns.length≤4000)&&ns.all (fun n=>decide (-4000≤n)&&decide (n≤4000)) then some (.int (sumI ns),.solid) else none
 | _,_=>none
noncomputable def bltin2:B2→D→D→Option R
 | .min2,.int a,.int b=>some (.int (if b < a then b else a),.solid)
 | .max2,.int a,.int b=>some (.int (if b > a then b else a),.solid)
 | _,_,_=>none
noncomputable def whereD:D→D→Option R
 | .lst l,x=>if x.deep 8&&l.all (D.deep 8)&&decide (l.length≤big) then (l.findIdx? fun y=>D.eq y x).map (fun (j:Nat)=>((D.int (j:Int),Fl.solid):R)) else none
 | .tup l,x=>if x.deep 8&&l.all (D.deep 8)&&decide (l.length≤big) then (l.findIdx? fun y=>D.eq y x).map (fun (j:Nat)=>((D.int (j:Int),Fl.solid):R)) else none
 | _,_=>none
noncomputable def slot (ρ:Rho) (i:Nat):Option R:=match ρ[i]? with
 | some (.val d)=>some (d,.solid)
 | some (.own l)=>some (.lst l,.peek)
 | some (.dk ks vs)=>some (.dic ks vs,.peek)
 | _=>none
noncomputable def setAll:List Nat→List D→Rho→Option Rho
 | [],[],ρ=>some ρ
 | i::is,d::ds,ρ=>setAll is ds (ρ.set i (.val d))
 | _,_,_=>none
noncomputable def give:Tg→D→Rho→Option Rho
 | .one i,d,ρ=>some (ρ.set i (.val d))
 | .many is,.tup ds,ρ=>setAll is ds ρ
 | .many _,_,_=>none
noncomputable def inner (ρ:Rho) (n:Nat) (keep:List Nat):Rho:=List.replicate n .no++keep.map fun i=>ρ.getD i .no
noncomputable def rangeD (lo:Int) (n:Nat):List D:=(List.range n).map fun i=>.int (lo+(i:Nat))
noncomputable def small (i:Int):Bool:=decide (-4000≤i)&&decide (i≤4000)
noncomputable def enumD:Nat→List D→List D
 | _,[]=>[]
 | k,d::r=>.tup [.int k,d]::enumD (k+1) r
noncomputable def range1:D→Option (List D)
 | .int j=>if small j then some (rangeD 0 j.toNat) else none
 | _=>none
noncomputable def range2:D→D→Option (List D)
 | .int i,.int j=>if small i&&small j&&decide (j - i≤4000) then some (rangeD i (j - i).toNat) else none
 | _,_=>none
noncomputable def items:D→Option (List D)
 | .lst l=>some l
 | .tup l=>some l
 | _=>none
noncomputable def filterMapO {α β:Type} (f:α→Option (Option β)):List α→Option (List β)
 | []=>some []
 | x::r=>(f x).bind fun y=>(filterMapO f r).map fun ys=>match y with | some z=>z::ys | none=>ys
noncomputable def bl?:D→Option Bool
 | .bl b=>some b
 | _=>none
noncomputable def int?:D→Option Int
 | .int i=>some i
 | _=>none
noncomputable def handed (lent:Bool) (d:D):Option R:=if lent&&!d.scal then none else some (d,.solid)
noncomputable def lstsD:List D→Option (List (List D))
 | []=>some []
 | .lst l::r=>(lstsD r).map (l::·)
 | _=>none
noncomputable def isRng:I→Bool
 | .rng1 _=>true
 | .rng2 _ _=>true
 | _=>false
noncomputable def dputO (ks vs:List D) (k d:D):Option (List D×List D):=(keyAt k ks).bind fun o=>if ks.length < big then (match o with
 | some j=>some (ks,vs.set j d)
 | none=>some (ks++[k],vs++[d])) else none
noncomputable def lsti:D→Option (List D)
 | .lst l=>some l
 | _=>none
noncomputable def keyI:D→Option (List Int)
 | .tup l=>ints? l
 | _=>none
noncomputable def maxR (f:D→Option (List Int)):D→List Int→List D→Option D
 | d,_,[]=>some d
 | d,k,e::r=>(f e).bind fun l=>if lexLt k l then maxR f e l r else maxR f d k r
noncomputable def maxF (f:D→Option (List Int)):List D→Option D
 | []=>none
 | d::r=>(f d).bind fun k=>maxR f d k r
section
variable (cl:Nat→List D→Option D)
mutual
noncomputable def ev:E→Rho→Option R
 | .con c,_=>some (c.d,.solid)
 | .glob _ c,_=>some (c.d,.solid)
 | .var i,ρ=>slot ρ i
 | .call f as,ρ=>(evs as ρ).bind fun (ds,lent)=>(cl f ds).bind (handed lent)
 | .bi b a,ρ=>(ev a ρ).bind fun r=>bltin b r.1
 | .isi a t,ρ=>(ev a ρ).map fun r=>(.bl (isTy t r.1),.solid)
 | .tup as,ρ=>(evs as ρ).bind fun (ds,lent)=>if lent=false∧ds.length≤big then some (.tup ds,.solid) else none
 | .lst as,ρ=>(evs as ρ).bind fun (ds,lent)=>if lent=false∧ds.length≤big then some (.lst ds,.fresh) else none
 | .bin o a b,ρ=>(ev a ρ).bind fun x=>(ev b ρ).bind fun y=>binop o x.1 y.1
 | .cmp o a b,ρ=>(ev a ρ).bind fun x=>(ev b ρ).bind fun y=>(cmpop o x.1 y.1).map fun k=>(.bl k,.solid)
 | .and a b,ρ=>(ev a ρ).bind fun x=>(bl? x.1).bind fun k=>if k then ev b ρ else some (.bl false,.solid)
 | .or a b,ρ=>(ev a ρ).bind fun x=>(bl? x.1).bind fun k=>if k then some (.bl true,.solid) else ev b ρ
 | .not a,ρ=>(ev a ρ).bind fun r=>(tru r.1).map fun k=>(.bl (!k),.solid)
 | .neg a,ρ=>(ev a ρ).bind fun x=>(int? x.1).map fun i=>(.int (-i),.solid)
 | .ix a i,ρ=>(ev a ρ).bind fun x=>(ev i ρ).bind fun y=>index x.1 y.1
 | .sl a lo hi,ρ=>(ev a ρ).bind fun x=>(evo lo ρ).bind fun l=>(evo hi ρ).bind fun h=>slice x.1 l h
 | .comp e t it c n keep,ρ=>(evi it ρ).bind fun (ds,_) =>
   (filterMapO (fun d=>(give t d (inner ρ n keep)).bind fun ρ'=>(evc c ρ').bind fun k=>if k then (ev e ρ').bind fun r=>(solid? r).map some else some none) ds).map fun ys =>
    (.lst ys,.fresh)
 | .ixof a b,ρ=>(ev a ρ).bind fun x=>(ev b ρ).bind fun y=>whereD x.1 y.1
 | .dic0,_=>some (.dic [] [],.fresh)
 | .dic1 k v,ρ=>(ev k ρ).bind fun x=>(ev v ρ).bind fun y=>(int? x.1).bind fun i=>(solid? y).map fun d=>(.dic [.int i] [d],.fresh)
 | .lrng i,ρ=>(evi i ρ).bind fun l=>if isRng i then some (.lst l.1,.fresh) else none
noncomputable def evT:E→Rho→Option Bool
 | .and a b,ρ=>(evT a ρ).bind fun k=>if k then evT b ρ else some false
 | .or a b,ρ=>(evT a ρ).bind fun k=>if k then some true else evT b ρ
 | .not a,ρ=>(evT a ρ).map fun k=>!k
 | .con c,_=>tru c.d
 | .glob _ c,_=>tru c.d
 | .var i,ρ=>(slot ρ i).bind fun r=>tru r.1
 | .call f as,ρ=>(evs as ρ).bind fun (ds,lent)=>(cl f ds).bind fun d=>(handed lent d).bind fun r=>tru r.1
 | .bi b a,ρ=>(ev a ρ).bind fun r=>(bltin b r.1).bind fun r=>tru r.1
 | .isi a t,ρ=>(ev a ρ).map fun r=>isTy t r.1
 | .cmp o a b,ρ=>(ev a ρ).bind fun x=>(ev b ρ).bind fun y=>cmpop o x.1 y.1
 | .ix a i,ρ=>(ev a ρ).bind fun x=>(ev i ρ).bind fun y=>(index x.1 y.1).bind fun r=>tru r.1
 | _,_=>none
noncomputable def evs:Es→Rho→Option (List D×Bool)
 | .nil,_=>some ([],false)
 | .cons e r,ρ=>(ev e ρ).bind fun x=>(evs r ρ).map fun (ds,lent)=>(x.1::ds,lent||x.2 == .peek)
noncomputable def evo:Eo→Rho→Option (Option Int)
 | .no,_=>some none
 | .so e,ρ=>(ev e ρ).bind fun x=>(int? x.1).map some
noncomputable def evc:Eo→Rho→Option Bool
 | .no,_=>some true
 | .so e,ρ=>evT e ρ
noncomputable def evi:I→Rho→Option (List D×Bool)
 | .seq e,ρ=>(ev e ρ).bind fun x=>(items x.1).map fun l=>(l,x.2 == .peek)
 | .rng1 a,ρ=>(ev a ρ).bind fun x=>(range1 x.1).map fun l=>(l,false)
 | .rng2 a b,ρ=>(ev a ρ).bind fun x=>(ev b ρ).bind fun y=>(range2 x.1 y.1).map fun l=>(l,false)
 | .enum e,ρ=>(ev e ρ).bind fun x=>(lsti x.1).map fun l=>(enumD 0 l,x.2 == .peek)
end
noncomputable def dlOf:E→Rho→Option (List D×List (List D))
 | .var i,ρ=>match ρ[i]? with | some (.dl false ks ls)=>some (ks,ls) | _=>none
 | _,_=>none
noncomputable def dicL (ks:List D) (ls:List (List D)):D:=.dic ks (ls.map .lst)
noncomputable def undic:D→Option (List D×List (List D))
 | .dic ks vs=>(lstsD vs).map fun ls=>(ks,ls)
 | _=>none
inductive Out where | nx (ρ:Rho) | rt (d:D) | bk (ρ:Rho) | ct (ρ:Rho)
 deriving Inhabited
noncomputable def giveR:Tg→R→Rho→Option Rho
 | .one i,(.lst l,.fresh),ρ=>some (ρ.set i (.own l))
 | .one i,(.dic ks vs,.fresh),ρ=>some (ρ.set i (.dk ks vs))
 | t,(d,.solid),ρ=>give t d ρ
 | t,(d,.fresh),ρ=>give t d ρ
 | _,_,_=>none
noncomputable def loopO (f:D→Rho→Option Out):List D→Rho→Option Out
 | [],ρ=>some (.nx ρ)
 | d::r,ρ=>(f d ρ).bind fun o=>match o with | .nx ρ'=>loopO f r ρ' | .rt v=>some (.rt v) | .bk ρ'=>some (.nx ρ') | .ct ρ'=>loopO f r ρ'
noncomputable def whileO (c:Rho→Option Bool) (f:Rho→Option Out):Nat→Rho→Option Out
 | 0,_=>none
 | n+1,ρ=>(c ρ).bind fun k=>if k then (f ρ).bind fun o=>match o with | .nx ρ'=>whileO c f n ρ' | .rt v=>some (.rt v) | .bk ρ'=>some (.nx ρ') | .ct ρ'=>whileO c f n ρ' else some (.nx ρ)
noncomputable def froze:List Nat→Rho→Rho
 | [],ρ=>ρ
 | i::is,ρ=>froze is (match ρ[i]? with | some (.own l)=>ρ.set i (.val (.lst l)) | some (.dk ks vs)=>ρ.set i (.val (.dic ks vs)) | _=>ρ)
mutual
noncomputable def ex (W:Nat):S→Rho→Option Out
 | .asg t e,ρ=>(ev cl e ρ).bind fun r=>(giveR t r ρ).map .nx
 | .ret e,ρ=>match dlOf e ρ with
   | some p=>some (.rt (dicL p.1 p.2))
   | none=>(ev cl e ρ).map fun r=>.rt r.1
 | .cond c a b,ρ=>(evT cl c ρ).bind fun k=>if k then exs W a ρ else exs W b ρ
 | .loop t it b,ρ=>(evi cl it ρ).bind fun (ds,lent)=>if lent then none else loopO (fun d ρ=>(give t d ρ).bind fun ρ'=>exs W b ρ') ds ρ
 | .while c b,ρ=>whileO (fun ρ=>evT cl c ρ) (fun ρ=>exs W b ρ) W ρ
 | .app i e,ρ=>(ev cl e ρ).bind fun r=>(solid? r).bind fun d=>match ρ[i]? with
   | some (.own l)=>if l.length < big then some (.nx (ρ.set i (.own (l++[d])))) else none
   | _=>none
 | .never,_=>none
 | .brk,ρ=>some (.bk ρ)
 | .cnt,ρ=>some (.ct ρ)
 | .skip,ρ=>some (.nx ρ)
 | .drop e,ρ=>(ev cl e ρ).map fun _=>.nx ρ
 | .frz is s,ρ=>ex W s (froze is ρ)
 | .ins i k e,ρ=>(ev cl k ρ).bind fun x=>(int? x.1).bind fun k=>(ev cl e ρ).bind fun r=>(solid? r).bind fun d=>match ρ[i]? with
   | some (.own l)=>if l.length < big∧small k=true then some (.nx (ρ.set i (.own (putAt l k d)))) else none
   | _=>none
 | .pop t i k,ρ=>(ev cl k ρ).bind fun x=>(int? x.1).bind fun k=>match ρ[i]? with
   | some (.own l)=>if small k then (place l.length k).bind fun j=>(l[j]?).bind fun d=>(give t d (ρ.set i (.own (l.eraseIdx j)))).map .nx else none
   | _=>none
 | .dput i k e,ρ=>(ev cl e ρ).bind fun r=>(solid? r).bind fun d=>(ev cl k ρ).bind fun x=>match ρ[i]? with
   | some (.dk ks vs)=>(dputO ks vs x.1 d).map fun p=>.nx (ρ.set i (.dk p.1 p.2))
   | _=>none
 | .dputL i k,ρ=>(ev cl k ρ).bind fun x=>match ρ[i]? with
   | some (.dk [] [])=>(keyAt x.1 []).map fun _=>.nx (ρ.set i (.dl false [x.1] [[]]))
   | some (.dl t ks ls)=>(keyAt x.1 ks).bind fun o=>if o.isNone&&decide (ks.length < big) then some (.nx (ρ.set i (.dl t (ks++[x.1]) (ls++[[]])))) else none
   | _=>none
 | .dapp i k e,ρ=>(ev cl k ρ).bind fun x=>match ρ[i]? with
   | some (.dl t ks ls)=>(keyAt x.1 ks).bind fun o=>o.bind fun j=>(ls[j]?).bind fun l=>(ev cl e ρ).bind fun r=>(solid? r).bind fun d=>if l.length < big then some (.nx (ρ.set i (.dl t ks (ls.set j (l++[d]))))) else none
   | _=>none
 | .mcall f as i,ρ=>(evs cl as ρ).bind fun (ds,lent)=>if lent then none else match ρ[i]? with
   | some (.dl t ks ls)=>(cl f (ds++[dicL ks ls])).bind fun d=>(undic d).map fun p=>.nx (ρ.set i (.dl t p.1 p.2))
   | _=>none
 | .io,_=>none
 | .rse _,_=>none
 | .tryx _ _ _ _ _,_=>none
noncomputable def exs (W:Nat):Ss→Rho→Option Out
 | .nil,ρ=>some (.nx ρ)
 | .cons s r,ρ=>(ex W s ρ).bind fun o=>match o with | .nx ρ'=>exs W r ρ' | o=>some o
end
end
structure Fn where
 ps:Nat
 n:Nat
 body:Ss
noncomputable def runF (cl:Nat→List D→Option D) (W:Nat) (f:Fn) (as:List D):Option D :=
 if as.length=f.ps∧f.ps≤f.n then (match f.body with
  | .cons .io b=>(as.getLast?).bind fun z=>(undic z).bind fun p =>
   (exs cl W b (as.dropLast.map .val++.dl true p.1 p.2::List.replicate (f.n - f.ps) .no)).bind fun o=>match o with
    | .nx ρ=>(match ρ[f.ps - 1]? with | some (.dl true ks ls)=>some (dicL ks ls) | _=>none)
    | _=>none
  | b=>(exs cl W b (as.map .val++List.replicate (f.n - f.ps) .no)).bind fun o=>match o with | .rt d=>some d | .nx _=>some .non | _=>none)
 else none
noncomputable def run (fs:List Fn) (W:Nat):Nat→Nat→List D→Option D
 | 0=>fun _ _=>none
 | k+1=>fun i as=>(fs[i]?).bind fun f=>runF (run fs W k) W f as
section
variable (cl:Nat→List D→Option D) (rx:Nat→List D→Option Str)
noncomputable def xC (as:Es) (f:Nat) (ρ:Rho):Option (Str×Rho):=(evs cl as ρ).bind fun (ds,lent)=>if lent then none else (rx f ds).map fun x=>(x,ρ)
mutual
noncomputable def xS (W:Nat):S→Rho→Option (Str×Rho)
 | .rse x,ρ=>some (x,ρ)
 | .cond c a b,ρ=>(evT cl c ρ).bind fun k=>if k then xs W a ρ else xs W b ρ
 | .asg _ (.call f as),ρ=>xC cl rx as f ρ
 | .drop (.call f as),ρ=>xC cl rx as f ρ
 | .frz is s,ρ=>xS W s (froze is ρ)
 | _,_=>none
noncomputable def xs (W:Nat):Ss→Rho→Option (Str×Rho)
 | .nil,_=>none
 | .cons s r,ρ=>match ex cl W s ρ with
  | some (.nx ρ')=>xs W r ρ'
  | _=>xS W s ρ
end
end
end PY
namespace L2
open PY (insI sortI minI)
theorem zc7 (x:Int):∀ l,(insI x l).Perm (x::l)
 | []=>List.Perm.refl _
 | y::r=>by
  unfold insI
  split
  ·exact List.Perm.refl _
  ·exact ((zc7 x r).cons y).trans (List.Perm.swap x y r)
theorem zu:∀ l,(sortI l).Perm l
 | []=>List.Perm.refl _
 | x::r=>(zc7 x (sortI r)).trans ((zu r).cons x)
theorem zjf (x:Int):∀ l:List Int,l.Pairwise (·≤·)→(insI x l).Pairwise (·≤·)
 | [],_=>by simp [insI]
 | y::r,h=>by
  unfold insI
  rw [List.pairwise_cons] at h
  split
  ·rename_i hxy
   exact List.pairwise_cons.mpr ⟨fun z hz=>by
    rcases List.mem_cons.mp hz with rfl | hz
    ·exact hxy
    ·exact Int.le_trans hxy (h.1 z hz),List.pairwise_cons.mpr h⟩
  ·rename_i hxy
   refine List.pairwise_cons.mpr ⟨fun z hz=>?_,zjf x r h.2⟩
   rcases List.mem_cons.mp ((zc7 x r).mem_iff.mp hz) with rfl | hz
   ·lia
   ·exact h.1 z hz
theorem zb0:∀ l:List Int,(sortI l).Pairwise (·≤·)
 | []=>List.Pairwise.nil
 | x::r=>zjf x _ (zb0 r)
theorem za9:∀ {l m:List Int},l.Perm m→l.Pairwise (·≤·)→m.Pairwise (·≤·)→l=m
 | [],m,h,_,_=>by rw [List.nil_perm.mp h]
 | x::l,[],h,_,_=>by have:=h.length_eq; simp at this
 | x::l,y::m,h,h1,h2=>by
  rw [List.pairwise_cons] at h1 h2
  have hx:x∈y::m:=h.mem_iff.mp List.mem_cons_self
  have hy:y∈x::l:=h.mem_iff.mpr List.mem_cons_self
  have e:x=y:=by
   rcases List.mem_cons.mp hx with e | hx
   ·exact e
   ·rcases List.mem_cons.mp hy with e | hy
    ·exact e.symm
    ·have:=h1.1 y hy
     have:=h2.1 x hx
     lia
  subst e
  rw [za9 (List.perm_cons x |>.mp h) h1.2 h2.2]
end L2
namespace HS
theorem zdz:∀ a:List Int,PY.lexLt a a=false
 | []=>rfl
 | x::r=>by unfold PY.lexLt; simp [zdz r]
theorem zb4:∀ {a b c:List Int},PY.lexLt a b=true→PY.lexLt b c=true→PY.lexLt a c=true
 | [],[],_,h,_=>by simp [PY.lexLt] at h
 | [],_::_,[],_,h=>by simp [PY.lexLt] at h
 | [],_::_,_::_,_,_=>rfl
 | _::_,[],_,h,_=>by simp [PY.lexLt] at h
 | _::_,_::_,[],_,h=>by simp [PY.lexLt] at h
 | x::a,y::b,z::c,h,h'=>by
  unfold PY.lexLt at h h' ⊢
  by_cases e:x=y
  ·subst e
   simp only [beq_self_eq_true,if_true] at h
   by_cases e':x=z
   ·subst e'
    simp only [beq_self_eq_true,if_true] at h' ⊢
    exact zb4 h h'
   ·rw [if_neg (by simpa using e')] at h' ⊢
    exact h'
  ·rw [if_neg (by simpa using e),decide_eq_true_eq] at h
   by_cases e':y=z
   ·subst e'
    rw [if_neg (by simpa using e),decide_eq_true_eq]; exact h
   ·rw [if_neg (by simpa using e'),decide_eq_true_eq] at h'
    rw [if_neg (by simp; lia),decide_eq_true_eq]; lia
theorem zc6:∀ {a b:List Int},PY.lexLt a b=false→PY.lexLt b a=false→a=b
 | [],[],_,_=>rfl
 | [],_::_,h,_=>by simp [PY.lexLt] at h
 | _::_,[],_,h=>by simp [PY.lexLt] at h
 | x::a,y::b,h,h'=>by
  unfold PY.lexLt at h h'
  by_cases e:x=y
  ·subst e
   simp only [beq_self_eq_true,if_true] at h h'
   rw [zc6 h h']
  ·rw [if_neg (by simpa using e),decide_eq_false_iff_not] at h
   rw [if_neg (by simp; exact fun q=>e q.symm),decide_eq_false_iff_not] at h'
   lia
end HS
namespace L2
open PY (lexLt insT sortT)
theorem zcs (x:List Int):∀ l,(insT x l).Perm (x::l)
 | []=>List.Perm.refl _
 | y::r=>by
  unfold insT
  split
  ·exact ((zcs x r).cons y).trans (List.Perm.swap x y r)
  ·exact List.Perm.refl _
theorem zax:∀ l,(sortT l).Perm l
 | []=>List.Perm.refl _
 | x::r=>(zcs x (sortT r)).trans ((zax r).cons x)
theorem zd2 {a b:List Int} (h:lexLt a b=true):lexLt b a=false:=by
 cases e:lexLt b a with
 | false=>rfl
 | true=>have:=HS.zb4 h e; rw [HS.zdz] at this; cases this
theorem zjm (x:List Int):∀ l:List (List Int),l.Pairwise (fun a b=>lexLt b a=false)→(insT x l).Pairwise (fun a b=>lexLt b a=false)
 | [],_=>by simp [insT]
 | y::r,h=>by
  unfold insT
  rw [List.pairwise_cons] at h
  split
  ·rename_i hyx
   refine List.pairwise_cons.mpr ⟨fun z hz=>?_,zjm x r h.2⟩
   rcases List.mem_cons.mp ((zcs x r).mem_iff.mp hz) with rfl | hz
   ·exact zd2 hyx
   ·exact h.1 z hz
  ·rename_i hyx
   have hyx:lexLt y x=false:=by simpa using hyx
   refine List.pairwise_cons.mpr ⟨fun z hz=>?_,List.pairwise_cons.mpr h⟩
   rcases List.mem_cons.mp hz with rfl | hz
   ·exact hyx
   ·have hzy:=h.1 z hz
    cases e:lexLt z x with
    | false=>rfl
    | true =>
     cases e':lexLt x y with
     | true=>rw [HS.zb4 e e'] at hzy; cases hzy
     | false =>
      have:=HS.zc6 e' hyx
      subst this
      rw [e] at hzy; cases hzy
theorem zbx:∀ l:List (List Int),(sortT l).Pairwise (fun a b=>lexLt b a=false)
 | []=>List.Pairwise.nil
 | x::r=>zjm x _ (zbx r)
theorem zas:∀ {l m:List (List Int)},l.Perm m→l.Pairwise (fun a b=>lexLt b a=false)→m.Pairwise (fun a b=>lexLt b a=false)→l=m
 | [],m,h,_,_=>by rw [List.nil_perm.mp h]
 | x::l,[],h,_,_=>by have:=h.length_eq; simp at this
 | x::l,y::m,h,h1,h2=>by
  rw [List.pairwise_cons] at h1 h2
  have hx:x∈y::m:=h.mem_iff.mp List.mem_cons_self
  have hy:y∈x::l:=h.mem_iff.mpr List.mem_cons_self
  have e:x=y:=by
   rcases List.mem_cons.mp hx with e | hx
   ·exact e
   ·rcases List.mem_cons.mp hy with e | hy
    ·exact e.symm
    ·exact HS.zc6 (h2.1 x hx) (h1.1 y hy)
  subst e
  rw [zas (List.perm_cons x |>.mp h) h1.2 h2.2]
end L2
namespace HT
open PySem PyProof.Rows
section
variable {prog:Program} {w:World} {A:Around} {E:Value→Shared→Prop} {s:Shared}
noncomputable def gathered (h:Heap) (vs:List Value):Heap:=(h.push (seqObj "list" #[] 0)).update h.objs.size (Obj.mapSeq (·++vs.toArray))
theorem zn (h:Heap) (vs:List Value):(gathered h vs).objs.size=h.objs.size+1:=(Heap.size_update ..).trans (size_push' ..)
theorem zfo (h:Heap) (vs:List Value):∃ n,(gathered h vs).get? h.objs.size=some (seqObj "list" vs.toArray n):=by
 have e:=get?_update_seq (Heap.get?_push_size h (o:=seqObj "list" #[] 0) rfl) (·++vs.toArray)
 rw [Array.empty_append] at e
 exact ⟨_,e⟩
theorem zbi {l:Addr} {vs:List Value} {Q:List Value→Shared→Prop} (hl:IsTup s.heap l vs.toArray) (h:Q vs { s with heap:=gathered s.heap vs}) (hz:vs.length≤sizeLine):wpAny (model prog w) A (collect (.ref l)) Q E s:=by
 obtain ⟨o,ho,hc,n,hd⟩:=hl
 have on:(s.heap.push (seqObj "list" #[] 0)).get? l=some o:=Heap.get?_push_of_some _ ho
 have new:(s.heap.push (seqObj "list" #[] 0)).get? s.heap.objs.size=some (seqObj "list" #[] 0):=Heap.get?_push_size _ rfl
 unfold collect
 refine wpAny_bind (wpAny_runValue (codeAny_builtin entry_proto_collect' (wpAny_bind (wpAny_newList (wpAny_pure ⟨Code.quiet_builtin _ (by decide +kernel),codeAny_builtin entry_list_iadd' ?_⟩)))))
 show wpAny _ _ (Builtin.List.listExtendWith (.ref s.heap.objs.size) (.ref l) (.ref s.heap.objs.size)) _ _ { s with heap:=s.heap.push (seqObj "list" #[] 0)}
 unfold Builtin.List.listExtendWith
 refine wpAny_bind (wpAny_typeOf (T:="tuple") ⟨o,on,hc⟩ ?_)
 rw [if_pos (by rw [show (Value.type "tuple" == Value.type "tuple")=true from rfl]; simp)]
 refine wpAny_bind (listItems_at on hd (wpAny_bind (listItems_at new rfl ?_)))
 rw [if_neg (by simp)]
 refine wpAny_bind (listUpdate_at new rfl (wpAny_pure ?_) (Nat.zero_le _) (by show (#[]++vs.toArray).size≤sizeLine+1; rw [Array.empty_append,List.size_toArray]; lia))
 obtain ⟨m,e⟩:=zfo s.heap vs
 show wpAny (model prog w) A (load s.heap.objs.size >>= fun o=>match o.data with | .seq xs _=>pure xs.toList | _=>unsupported "internal:collect") Q E { s with heap:=gathered s.heap vs}
 refine wpAny_bind (wpAny_load e ?_)
 show wpAny _ _ (pure vs.toArray.toList) Q E _
 rw [List.toList_toArray]
 exact wpAny_pure h
theorem zcr {l:Addr} {vs:List Value} {ns:List Int} {Q:Value→Shared→Prop} (hl:IsTup s.heap l vs.toArray) (hI:IntsAre vs ns) (h64:vs.length < 64)
  (h:∀ (out:Array Value) (ns':List Int),IntsAre out.toList ns'→ns'.Perm ns→ns'.Pairwise (·≤·)→Q (.ref (s.heap.objs.size+1)) { s with heap:=sortedAll s.heap vs out}):wpAny (model prog w) A (call (.builtin "sorted") [.ref l]) Q E s:=by
 refine Calls.call_function_entry kind_sorted plain_sorted entry_sorted (args_sorted1 _) ?_
 unfold Builtin.«sorted»
 refine wpAny_bind (m:=checkCount "sorted" 1 1 _) (wpAny_pure (wpAny_bind (zbi hl (wpAny_bind (wpAny_newList ?_)) (Nat.le_trans (Nat.le_of_lt h64) (by decide)))))
 have hoL:((gathered s.heap vs).push (seqObj "list" vs.toArray 0)).get? (s.heap.objs.size+1)=some (seqObj "list" vs.toArray 0):=by
  rw [← zn s.heap vs]; exact Heap.get?_push_size _ rfl
 show wpAny _ _ _ _ _ { s with heap:=(gathered s.heap vs).push (seqObj "list" vs.toArray 0)}
 rw [zn]
 exact wpAny_bind (wpAny_holding (wpAny_call_entry slot_list_sort ⟨_,hoL,rfl⟩ entry_list_sort (list_sort_tree hoL hI h64 fun out ns' a1 a2 a3=>⟨_,rfl,wpAny_pure ⟨_,rfl,h out ns' a1 a2 a3⟩⟩) (args_list_sort _)))
end
end HT
namespace L2
open PySem PySem.Spec PyProof.Rows
open PY (insI sortI minI)
section
variable {X:Cx}
theorem zfd:CallR X (.builtin "sorted") (fun xs H Q=>∃ (p:Addr) (ns:List Int),xs=[.ref p]∧(SqL X.K H p (ns.map V.int)∨SqT X.K H p (ns.map V.int))∧ns.length < 64∧∀ l,H l=none→Q (.ref l) (upd H l (.lst ((sortI ns).map V.int)))):=by
 intro pins s σ H xs us Q I r h
 obtain ⟨p,ns,rfl,hq,hl,q⟩:=h
 obtain ⟨u,rfl,ru⟩:=vals1 r
 cases ru
 have fin:∀ (vs:List Value) (out:Array Value) (ns':List Int),IntsAre out.toList ns'→ns'.Perm ns→ns'.Pairwise (·≤·)→EP X pins σ Q (.ref (s.heap.objs.size+1)) { s with heap:=sortedAll s.heap vs out}:=fun vs out ns' a1 a2 a3=>by
  have e:ns'=sortI ns:=za9 (a2.trans (zu ns).symm) a3 (zb0 ns)
  subst e
  obtain ⟨ep,ha⟩:=sortedAll_at s.heap vs out
  have hle:s.heap.objs.size≤s.heap.objs.size+1:=Nat.le_succ _
  have hf:H (s.heap.objs.size+1)=none:=I.hok.fresh hle
  refine ⟨.ref (s.heap.objs.size+1),upd H (s.heap.objs.size+1) (.lst ((sortI ns).map V.int)),I.laid (t':=s.toks) (fun b o e=>sortedAll_old e) hle ?_,rfl,q _ hf⟩
  refine ⟨?_,out.toList,ep,za7 a1,?_⟩
  ·rw [List.length_map,(zu ns).length_eq]
   exact Nat.le_trans (Nat.le_of_lt hl) (by decide)
  ·simpa using ha
 rcases hq with hq | hq
 ·obtain ⟨its,rv,pl,hz⟩:=I.list hq
  exact sorted_ints pl.isList (zv rv) (by rw [← rv.length,List.length_map]; exact hl) fun out ns' a1 a2 a3=>fin its out ns' a1 a2 a3
 ·obtain ⟨its,rv,pl,hz⟩:=I.tuple hq
  exact HT.zcr pl (zv rv) (by rw [← rv.length,List.length_map]; exact hl) fun out ns' a1 a2 a3=>fin its out ns' a1 a2 a3
theorem zgt (ns:List Int):∀ k,k < ns.length→ns.getD (argBest (fun i j=>decide (ns.getD i 0 < ns.getD j 0)) k) 0=minI (ns.take (k+1))
 | 0,h=>by
  cases ns with
  | nil=>simp at h
  | cons x r=>rfl
 | k+1,h=>by
  have ih:=zgt ns k (by lia)
  have e:ns.take (k+1+1)=ns.take (k+1)++[ns[k+1]]:=by rw [List.take_succ_eq_append_getElem h]
  have m:minI (ns.take (k+1)++[ns[k+1]])=(if ns[k+1] < minI (ns.take (k+1)) then ns[k+1] else minI (ns.take (k+1))):=by
   cases ns with
   | nil=>simp at h
   | cons x r =>
    rw [List.take_succ_cons]
    show (r.take k++[_]).foldl _ x=_
    rw [List.foldl_append]
    rfl
  rw [e,m]
  show ns.getD (if decide (ns.getD (k+1) 0 < ns.getD (argBest (fun i j=>decide (ns.getD i 0 < ns.getD j 0)) k) 0)=true then k+1 else argBest (fun i j=>decide (ns.getD i 0 < ns.getD j 0)) k) 0=_
  rw [ih]
  have g:ns.getD (k+1) 0=ns[k+1]:=by simp [List.getD,h]
  rw [g]
  split
  ·rename_i hc
   rw [if_pos (of_decide_eq_true hc)]
   exact g
  ·rename_i hc
   rw [if_neg (by simpa using hc)]
   exact ih
theorem zjv (hc:X.calm=true):CallR X (.builtin "min") (fun xs H Q=>∃ (p:Addr) (ns:List Int),xs=[.ref p]∧(SqL X.K H p (ns.map V.int)∨SqT X.K H p (ns.map V.int))∧ns≠[]∧Q (.int (minI ns)) H):=by
 intro pins s σ H xs us Q I r h
 obtain ⟨p,ns,rfl,hq,hl,q⟩:=h
 obtain ⟨u,rfl,ru⟩:=vals1 r
 cases ru
 have n0:0 < ns.length:=List.length_pos_iff.mpr hl
 have at_:∀ {its:List Value},Vals (ns.map V.int) its→∀ (i:Nat) (v:Value),its.toArray[i]? = some v→∃ t,v=Value.int (ns.getD i 0) t:=fun {its} rv i v hv=>(zv rv).int_at i v (by simpa using hv)
 have cmp:∀ {its:List Value},Vals (ns.map V.int) its→CmpOf X.prog X.w X.A.in1 .Lt (fun i v=>its.toArray[i]? = some v) (fun i j=>decide (ns.getD i 0 < ns.getD j 0)):=fun {its} rv i j vi vj s' Q' E' h1 h2 hQ=>by
  obtain ⟨t,rfl⟩:=at_ rv i vi h1
  obtain ⟨t',rfl⟩:=at_ rv j vj h2
  exact PyProof.Rows.lt_int hQ
 have fin:∀ {its:List Value} (v:Value) (h':Heap) (tk:Nat) (o:Obj),Vals (ns.map V.int) its→its.toArray[argBest (fun i j=>decide (ns.getD i 0 < ns.getD j 0)) (its.toArray.size - 1)]? = some v →
   (∀ b o',b∉[s.heap.objs.size]→(s.heap.push o).get? b=some o'→h'.get? b=some o')→EP X pins σ Q v { s with heap:=h',toks:=tk}:=fun {its} v h' tk o rv hv hk=>by
  obtain ⟨t,rfl⟩:=at_ rv _ v hv
  have sz:its.toArray.size=ns.length:=by rw [List.size_toArray,← rv.length,List.length_map]
  rw [sz,zgt ns _ (by lia),show ns.length - 1+1=ns.length by lia,List.take_length]
  exact ⟨.int (minI ns),H,I.kept fun b ob e=>hk b ob (by simp; exact Nat.ne_of_lt (Heap.lt_size e)) (Heap.get?_push_of_some _ e),⟨t,rfl⟩,q⟩
 rcases hq with hq | hq
 ·obtain ⟨its,rv,pl,hz⟩:=I.list hq
  have hlt:p < s.heap.objs.size:=by obtain ⟨o,n,h1,_⟩:=pl; exact Heap.lt_size h1
  have sz:its.toArray.size=ns.length:=by rw [List.size_toArray,← rv.length,List.length_map]
  refine call_min_walk (wpAny_pyIter_list pl.isList ?_)
  refine ⟨s.heap.objs.size,_,_,its.toArray.size,_,_,_,rfl,Walks.list (A:=X.A.in1) (I.ok.hd hc) s.heap.objs.size p (Nat.ne_of_lt hlt) its.toArray,⟨⟨_,Heap.get?_push_size _ rfl,rfl,rfl⟩,?_⟩,fun b hb=>?_,by rw [sz]; exact n0,cmp rv,fun v h' tk hP hk=>fin v h' tk _ rv hP hk⟩
  ·obtain ⟨o,n,h1,h2,h3,h4⟩:=pl
   exact ⟨o,Heap.get?_push_of_some _ h1,h2,n,h4⟩
  ·have:(s.heap.push { cls:=.type "list_iterator",data:=.fields #[.ref p,.int 0 0]}).objs.size=s.heap.objs.size+1:=Heap.size_push ..
   show b < (s.heap.push { cls:=.type "list_iterator",data:=.fields #[.ref p,.int 0 0]}).objs.size
   rw [this]
   rcases List.mem_cons.mp hb with rfl | hb
   ·exact Nat.lt_succ_self _
   ·have:b=p:=by simpa using hb
    subst this
    exact Nat.lt_succ_of_lt hlt
 ·obtain ⟨its,rv,pl,hz⟩:=I.tuple hq
  have hlt:p < s.heap.objs.size:=by obtain ⟨o,h1,_⟩:=pl; exact Heap.lt_size h1
  have sz:its.toArray.size=ns.length:=by rw [List.size_toArray,← rv.length,List.length_map]
  refine call_min_walk (wpAny_pyIter_tuple (show s.heap.IsTuple p its.toArray from pl) ?_)
  refine ⟨s.heap.objs.size,_,_,its.toArray.size,_,_,_,rfl,Walks.tuple (A:=X.A.in1) (I.ok.hd hc) s.heap.objs.size p (Nat.ne_of_lt hlt) its.toArray,⟨⟨_,Heap.get?_push_size _ rfl,rfl,rfl⟩,?_⟩,fun b hb=>?_,by rw [sz]; exact n0,cmp rv,fun v h' tk hP hk=>fin v h' tk _ rv hP hk⟩
  ·obtain ⟨o,h1,h2⟩:=pl
   exact ⟨o,Heap.get?_push_of_some _ h1,h2⟩
  ·have:(s.heap.push { cls:=.type "tuple_iterator",data:=.fields #[.ref p,.int 0 0]}).objs.size=s.heap.objs.size+1:=Heap.size_push ..
   show b < (s.heap.push { cls:=.type "tuple_iterator",data:=.fields #[.ref p,.int 0 0]}).objs.size
   rw [this]
   rcases List.mem_cons.mp hb with rfl | hb
   ·exact Nat.lt_succ_self _
   ·have:b=p:=by simpa using hb
    subst this
    exact Nat.lt_succ_of_lt hlt
end
end L2
namespace SP
open PySem PySem.W PyProof.Rows
variable {n:Nat} {rk:Nat→Int}
noncomputable def Tr {α:Type} (n:Nat) (rk:Nat→Int) (Q:α→Prop):KasT α→Prop
 | .ret a=>Q a
 | .ask i j k=>i < n∧j < n∧Tr n rk Q (k (decide (rk i < rk j)))
theorem Tr.bind {α β:Type} {Q:β→Prop} {R:α→Prop} {f:α→KasT β}:∀ {t:KasT α},Tr n rk R t→(∀ a,R a→Tr n rk Q (f a))→Tr n rk Q (t.bind f)
 | .ret a,h,hf=>hf a h
 | .ask i j k,h,hf=>⟨h.1,h.2.1,Tr.bind h.2.2 hf⟩
theorem Tr.wp {α:Type} {cmp:Nat→Nat→(Bool→Shared→Prop)→Shared→Prop} {G:α→Shared→Prop} {s:Shared} {Q:α→Prop} (hc:∀ i j (C:Bool→Shared→Prop),i < n→j < n→C (decide (rk i < rk j)) s→cmp i j C s) (hq:∀ a,Q a→G a s) :
  ∀ {t:KasT α},Tr n rk Q t→t.kasWp cmp G s
 | .ret a,h=>hq a h
 | .ask i j k,h=>hc i j _ h.1 h.2.1 (Tr.wp hc hq h.2.2)
noncomputable abbrev ke (rk:Nat→Int) (p:Array Nat) (k:Nat):Int:=rk (p.getD k 0)
structure Ok (n:Nat) (p:Array Nat):Prop where
 sz:p.size=n
 pm:p.Perm (List.range n).toArray
theorem Ok.lt {p:Array Nat} (h:Ok n p) (h0:0 < n) (k:Nat):p.getD k 0 < n:=by
 by_cases hk:k < p.size
 ·have e:p.getD k 0=p[k]:=by simp [Array.getD,hk]
  rw [e]
  have:p[k]∈(List.range n).toArray:=h.pm.mem_iff.mp (Array.getElem_mem hk)
  simpa using this
 ·have e:p.getD k 0=0:=by simp [Array.getD,hk]
  rw [e]; exact h0
theorem Ok.rev {p:Array Nat} (h:Ok n p) (i j:Nat):Ok n (kas_rev p i j):=⟨by unfold kas_rev; rw [mirror_size,h.sz],(mirror_perm _ _ _ _).trans h.pm⟩
theorem Ok.bub {p:Array Nat} (h:Ok n p) (i j:Nat):Ok n (bubble p i j):=⟨by rw [bubble_size,h.sz],(bubble_perm _ _ _).trans h.pm⟩
theorem zdi (p:Array Nat) (k:Nat):p.getD k 0=(p[k]?).getD 0:=by
 rw [Array.getD_eq_getD_getElem?]
theorem zjs {p:Array Nat} {i j:Nat} (hj:j≤p.size) (k:Nat):ke rk (kas_rev p i j) k=if i≤k∧k < j then ke rk p (i+j - 1 - k) else ke rk p k:=by
 unfold ke kas_rev
 rw [zdi,getElem?_mirror_all hj]
 split <;> rw [← zdi]
theorem zq4 {p:Array Nat} {a d:Nat} (hs:a < p.size) (hd:d≤a) (k:Nat):ke rk (bubble p a d) k=if k=a - d then ke rk p a else if a - d < k∧k≤a then ke rk p (k - 1) else ke rk p k:=by
 unfold ke
 rw [zdi,getElem?_bubble hs d hd]
 by_cases h1:k=a - d
 ·rw [if_pos h1,if_pos h1,← zdi]
 ·rw [if_neg h1,if_neg h1]
  by_cases h2:a - d < k∧k≤a
  ·rw [if_pos h2,if_pos h2,← zdi]
  ·rw [if_neg h2,if_neg h2,← zdi]
noncomputable def Up (rk:Nat→Int) (p:Array Nat) (m:Nat):Prop:=∀ i j,i≤j→j < m→ke rk p i≤ke rk p j
noncomputable def Dn (rk:Nat→Int) (p:Array Nat) (m:Nat):Prop:=∀ i j,i≤j→j < m→ke rk p j≤ke rk p i
theorem asc {p:Array Nat} (hp:Ok n p):∀ (f m:Nat),1≤m→m+f=n→Up rk p m→Tr n rk (fun m'=>m≤m'∧m'≤n∧Up rk p m'∧(m' < n→ke rk p m' < ke rk p (m' - 1))) (kas_asc p f m)
 | 0,m,h1,hm,hu=>⟨Nat.le_refl _,by lia,hu,fun h=>by lia⟩
 | f+1,m,h1,hm,hu=>by
  unfold kas_asc
  refine ⟨hp.lt (by lia) _,hp.lt (by lia) _,?_⟩
  by_cases hc:ke rk p m < ke rk p (m - 1)
  ·rw [decide_eq_true hc]
   exact ⟨Nat.le_refl _,by lia,hu,fun _=>hc⟩
  ·rw [decide_eq_false hc]
   have:=asc hp f (m+1) (by lia) (by lia) (fun i j hij hj=>by
    by_cases hjm:j < m
    ·exact hu i j hij hjm
    ·have:j=m:=by lia
     subst this
     by_cases e:i=j
     ·subst e; exact Int.le_refl _
     ·have:=hu i (j - 1) (by lia) (by lia)
      lia)
   simp only [Bool.false_eq_true,if_false]
   clear hc
   revert this
   generalize kas_asc p f (m+1)=t
   intro h
   have mono:∀ {t:KasT Nat},Tr n rk (fun m'=>m+1≤m'∧m'≤n∧Up rk p m'∧(m' < n→ke rk p m' < ke rk p (m' - 1))) t→Tr n rk (fun m'=>m≤m'∧m'≤n∧Up rk p m'∧(m' < n→ke rk p m' < ke rk p (m' - 1))) t:=by
    intro t
    induction t with
    | ret a=>exact fun h=>⟨by have:=h.1; lia,h.2⟩
    | ask i j k ih=>exact fun h=>⟨h.1,h.2.1,ih _ h.2.2⟩
   exact mono h
theorem Tr.mono {α:Type} {Q R:α→Prop} (h:∀ a,Q a→R a):∀ {t:KasT α},Tr n rk Q t→Tr n rk R t
 | .ret a,x=>h a x
 | .ask i j k,x=>⟨x.1,x.2.1,Tr.mono h x.2.2⟩
noncomputable def Alike (rk:Nat→Int) (p:Array Nat) (m q:Nat):Prop:=q+1≤m∧∀ k,m - (q+1)≤k→k < m→ke rk p k=ke rk p (m - 1)
theorem Alike.rev {p:Array Nat} (hp:Ok n p) {m q:Nat} (hm:m≤n) (h:Alike rk p m q) (k:Nat):ke rk (kas_rev p (m - (q+1)) m) k=ke rk p k:=by
 rw [zjs (by rw [hp.sz]; exact hm)]
 split
 ·rename_i hk
  rw [h.2 k hk.1 hk.2,h.2 (m - (q+1)+m - 1 - k) (by have:=h.1; lia) (by have:=h.1; lia)]
 ·rfl
theorem desc:∀ (f:Nat) (p:Array Nat) (m q:Nat),Ok n p→m+f=n→1≤m→Dn rk p m→Alike rk p m q→Tr n rk (fun r:Array Nat×Nat×Nat=>Ok n r.1∧m≤r.2.1∧r.2.1≤n∧Dn rk r.1 r.2.1∧Alike rk r.1 r.2.1 r.2.2) (kas_desc f p m q)
 | 0,p,m,q,hp,hm,h1,hd,ha=>⟨hp,Nat.le_refl _,(by show m≤n; lia),hd,ha⟩
 | f+1,p,m,q,hp,hm,h1,hd,ha=>by
  unfold kas_desc
  have step:∀ p' q',Ok n p'→(∀ k,ke rk p' k=ke rk p k)→ke rk p m≤ke rk p (m - 1)→Alike rk p' (m+1) q'→Tr n rk (fun r:Array Nat×Nat×Nat=>Ok n r.1∧m≤r.2.1∧r.2.1≤n∧Dn rk r.1 r.2.1∧Alike rk r.1 r.2.1 r.2.2) (kas_desc f p' (m+1) q'):=by
   intro p' q' hp' he hle ha'
   refine Tr.mono (fun r hr=>⟨hr.1,by have:=hr.2.1; lia,hr.2.2⟩) (desc f p' (m+1) q' hp' (by lia) (by lia) (fun i j hij hj=>?_) ha')
   rw [he,he]
   by_cases hjm:j < m
   ·exact hd i j hij hjm
   ·have:j=m:=by lia
    subst this
    by_cases e:i=j
    ·subst e; exact Int.le_refl _
    ·have:=hd i (j - 1) (by lia) (by lia)
     lia
  have one:∀ p',Alike rk p' (m+1) 0:=fun p'=>⟨by lia,fun k h h'=>by rw [show k=m+1 - 1 by lia]⟩
  refine ⟨hp.lt (by lia) _,hp.lt (by lia) _,?_⟩
  by_cases hc:ke rk p m < ke rk p (m - 1)
  ·rw [decide_eq_true hc]
   simp only [if_true]
   split
   ·exact step _ _ (hp.rev _ _) (ha.rev hp (by lia)) (by lia) (one _)
   ·exact step _ _ hp (fun _=>rfl) (by lia) (one _)
  ·rw [decide_eq_false hc]
   simp only [Bool.false_eq_true,if_false]
   refine ⟨hp.lt (by lia) _,hp.lt (by lia) _,?_⟩
   by_cases hc':ke rk p (m - 1) < ke rk p m
   ·rw [decide_eq_true hc']
    exact ⟨hp,Nat.le_refl _,(by show m≤n; lia),hd,ha⟩
   ·rw [decide_eq_false hc']
    simp only [Bool.false_eq_true,if_false]
    have e:ke rk p m=ke rk p (m - 1):=by lia
    refine step _ _ hp (fun _=>rfl) (by lia) ⟨by have:=ha.1; lia,fun k h h'=>?_⟩
    rw [show m+1 - 1=m by lia]
    by_cases hk:k=m
    ·rw [hk]
    ·rw [ha.2 k (by have:=ha.1; lia) (by lia),e]
noncomputable def Done (n:Nat) (rk:Nat→Int) (r:Nat×Array Nat):Prop:=Ok n r.2∧1≤r.1∧r.1≤n∧Up rk r.2 r.1
theorem tail3 {p:Array Nat} {m:Nat} (hp:Ok n p) (h1:1≤m) (hm:m≤n) (hd:Dn rk p m):Tr n rk (Done n rk) (kas_tail3 m n p):=by
 unfold kas_tail3
 refine (asc (hp.rev 0 m) (n - m) m h1 (by lia) (fun i j hij hj=>?_)).bind fun a ha=>⟨hp.rev 0 m,by have:=ha.1; lia,ha.2.1,ha.2.2.1⟩
 rw [zjs (by rw [hp.sz]; exact hm),zjs (by rw [hp.sz]; exact hm),if_pos (by lia),if_pos (by lia)]
 exact hd _ _ (by lia) (by lia)
theorem descPart {p:Array Nat} {m:Nat} (hp:Ok n p) (h1:1≤m) (hm:m < n) (hd:Dn rk p m) (hlt:ke rk p m < ke rk p (m - 1)):Tr n rk (Done n rk) (kas_descPart m n p):=by
 unfold kas_descPart
 refine (desc (n - (m+1)) p (m+1) 0 hp (by lia) (by lia) (fun i j hij hj=>?_) ⟨by lia,fun k h h'=>by rw [show k=m+1 - 1 by lia]⟩).bind fun r hr=>?_
 ·by_cases hjm:j < m
  ·exact hd i j hij hjm
  ·have:j=m:=by lia
   subst this
   by_cases e:i=j
   ·subst e; exact Int.le_refl _
   ·have:=hd i (j - 1) (by lia) (by lia)
    lia
 ·obtain ⟨a,b,c,d,e⟩:=hr
  split
  ·refine tail3 (a.rev _ _) (by lia) c fun i j hij hj=>?_
   rw [e.rev a c,e.rev a c]
   exact d i j hij hj
  ·exact tail3 a (by lia) c d
theorem count {p:Array Nat} (hp:Ok n p) (h2:2≤n):Tr n rk (Done n rk) (kas_count n p):=by
 unfold kas_count
 refine (asc (rk:=rk) hp (n - 1) 1 (by lia) (by lia) (fun i j hij hj=>by rw [show i=j by lia]; exact Int.le_refl _)).bind fun m hm=>?_
 obtain ⟨a,b,c,d⟩:=hm
 split
 ·exact ⟨hp,a,b,c⟩
 ·rename_i hne
  have hlt:m < n:=by
   have:m≠n:=fun e=>hne (by rw [e]; simp)
   lia
  split
  ·refine ⟨hp.lt (by lia) _,hp.lt (by lia) _,?_⟩
   by_cases hc:ke rk p 0 < ke rk p (m - 1)
   ·rw [decide_eq_true hc]
    exact ⟨hp,a,b,c⟩
   ·rw [decide_eq_false hc]
    simp only [Bool.false_eq_true,if_false]
    have al:Alike rk p m (m - 1):=⟨by lia,fun k h h'=>by
     have x:=c 0 k (by lia) h'
     have y:=c k (m - 1) (by lia) (by lia)
     lia⟩
    have e:∀ k,ke rk (kas_rev p 0 m) k=ke rk p k:=fun k=>by
     have:=al.rev hp (by lia) k
     rw [show m - (m - 1+1)=0 by lia] at this
     exact this
    refine descPart (hp.rev 0 m) (by lia) hlt (fun i j hij hj=>?_) (by rw [e,e]; exact d hlt)
    rw [e,e,al.2 i (by lia) (by lia),al.2 j (by lia) (by lia)]
    exact Int.le_refl _
  ·have:m=1:=by lia
   subst this
   exact descPart hp (by lia) hlt (fun i j hij hj=>by rw [show i=j by lia]; exact Int.le_refl _) (d hlt)
theorem place {p:Array Nat} (hp:Ok n p) {k:Nat} (hk:k < n) (hu:Up rk p k):∀ (f l r:Nat),l≤r→r≤k→r - l≤f→(∀ i,i < l→ke rk p i≤ke rk p k)→(∀ i,r≤i→i < k→ke rk p k < ke rk p i) →
  Tr n rk (fun l=>l≤k∧(∀ i,i < l→ke rk p i≤ke rk p k)∧∀ i,l≤i→i < k→ke rk p k < ke rk p i) (kas_place p k f l r)
 | 0,l,r,h1,h2,h3,ha,hb=>by
  have:l=r:=by lia
  subst this
  exact ⟨h2,ha,hb⟩
 | f+1,l,r,h1,h2,h3,ha,hb=>by
  unfold kas_place
  split
  ·have:l=r:=by lia
   subst this
   exact ⟨h2,ha,hb⟩
  ·refine ⟨hp.lt (by lia) _,hp.lt (by lia) _,?_⟩
   by_cases hc:ke rk p k < ke rk p ((l+r) / 2)
   ·rw [decide_eq_true hc]
    simp only [if_true]
    refine place hp hk hu f l ((l+r) / 2) (by lia) (by lia) (by lia) ha fun i hi hik=>?_
    have:=hu ((l+r) / 2) i hi hik
    lia
   ·rw [decide_eq_false hc]
    simp only [Bool.false_eq_true,if_false]
    refine place hp hk hu f ((l+r) / 2+1) r (by lia) h2 (by lia) (fun i hi=>?_) hb
    have:=hu i ((l+r) / 2) (by lia) (by lia)
    lia
theorem binI:∀ (f:Nat) (p:Array Nat) (k:Nat),Ok n p→Up rk p k→k+f=n→Tr n rk (fun p'=>Ok n p'∧Up rk p' n) (kas_bin f p k)
 | 0,p,k,hp,hu,hk=>by
  have:k=n:=by lia
  subst this
  exact ⟨hp,hu⟩
 | f+1,p,k,hp,hu,hk=>by
  unfold kas_bin
  refine (place (rk:=rk) hp (by lia) hu k 0 k (by lia) (by lia) (by lia) (fun i hi=>by lia) (fun i hi hik=>by lia)).bind fun l hl=>?_
  obtain ⟨h1,h2,h3⟩:=hl
  refine binI f _ (k+1) (hp.bub _ _) (fun i j hij hj=>?_) (by lia)
  have g:=zq4 (rk:=rk) (p:=p) (a:=k) (d:=k - l) (by rw [hp.sz]; lia) (by lia)
  rw [g i,g j,show k - (k - l)=l by lia]
  by_cases hi:i=l
  ·rw [if_pos hi]
   by_cases hjl:j=l
   ·rw [if_pos hjl]; exact Int.le_refl _
   ·rw [if_neg hjl,if_pos (by lia)]
    have:=h3 (j - 1) (by lia) (by lia)
    lia
  ·rw [if_neg hi]
   by_cases hil:i < l
   ·rw [if_neg (by lia)]
    by_cases hjl:j=l
    ·rw [if_pos hjl]; exact h2 i hil
    ·rw [if_neg hjl]
     split
     ·exact hu i (j - 1) (by lia) (by lia)
     ·exact hu i j hij (by lia)
   ·rw [if_pos (by lia),if_neg (by lia),if_pos (by lia)]
    exact hu (i - 1) (j - 1) (by lia) (by lia)
theorem zka (h2:2≤n):Tr n rk (fun p=>Ok n p∧Up rk p n) (kas_sort n):=by
 unfold kas_sort
 have h0:Ok n (List.toArray (List.range n)):=⟨by simp,Array.Perm.refl _⟩
 refine (count h0 h2).bind fun r hr=>?_
 obtain ⟨a,b,c,d⟩:=hr
 split
 ·have e:max r.1 1=r.1:=by lia
  rw [e]
  exact binI _ _ _ a d (by lia)
 ·have:r.1=n:=by lia
  rw [this] at d
  exact ⟨a,d⟩
end SP
namespace HS
open PySem PySem.W PySem.Calls PyProof.Rows
theorem zew {α:Type} {p q:α→Bool}:∀ {l:List α},(∀ x∈l,p x=true→q x=true)→(l.filter p).length≤(l.filter q).length
 | [],_=>Nat.le_refl _
 | x::r,h=>by
  have ih:=zew (l:=r) fun y hy=>h y (List.mem_cons_of_mem _ hy)
  have hx:=h x List.mem_cons_self
  simp only [List.filter_cons]
  cases e:p x <;> cases e':q x <;> simp <;> first | lia | (rw [e,e'] at hx; simp at hx)
theorem ze4 {α:Type} {p q:α→Bool}:∀ {l:List α},(∀ x∈l,p x=true→q x=true)→(∃ x∈l,q x=true∧p x=false)→(l.filter p).length < (l.filter q).length
 | [],_,h=>by obtain ⟨_,h,_⟩:=h; cases h
 | x::r,h,hx=>by
  have hr:∀ y∈r,p y=true→q y=true:=fun y hy=>h y (List.mem_cons_of_mem _ hy)
  have h0:=h x List.mem_cons_self
  obtain ⟨y,hy,hq,hp⟩:=hx
  simp only [List.filter_cons]
  rcases List.mem_cons.mp hy with rfl | hy
  ·rw [hp,hq]
   have:=zew hr
   simp; lia
  ·have ih:=ze4 hr ⟨y,hy,hq,hp⟩
   cases e:p x <;> cases e':q x <;> simp <;> first | lia | (rw [e,e'] at h0; simp at h0)
noncomputable def rank (nss:List (List Int)) (i:Nat):Int:=((nss.filter fun x=>PY.lexLt x (nss.getD i [])).length:Nat)
theorem zf6 {nss:List (List Int)} {i j:Nat} (hi:i < nss.length) (hj:j < nss.length):decide (rank nss i < rank nss j)=PY.lexLt (nss.getD i []) (nss.getD j []):=by
 have up:∀ i j,i < nss.length→PY.lexLt (nss.getD i []) (nss.getD j [])=true→rank nss i < rank nss j:=fun i j hi h=>by
  unfold rank
  have:=ze4 (l:=nss) (p:=fun x=>PY.lexLt x (nss.getD i [])) (q:=fun x=>PY.lexLt x (nss.getD j [])) (fun x _ hx=>zb4 hx h) ⟨nss.getD i [],by
   rw [List.getD_eq_getElem?_getD,List.getElem?_eq_getElem hi]; exact List.getElem_mem _,h,zdz _⟩
  lia
 cases h:PY.lexLt (nss.getD i []) (nss.getD j []) with
 | true=>rw [decide_eq_true (up i j hi h)]
 | false =>
  cases h':PY.lexLt (nss.getD j []) (nss.getD i []) with
  | true=>have:=up j i hj h'; rw [decide_eq_false (by lia)]
  | false =>
   have e:=zc6 h h'
   have:rank nss i=rank nss j:=by unfold rank; rw [e]
   rw [decide_eq_false (by lia)]
section
variable {prog:Program} {w:World} {A:Around} {E:Value→Shared→Prop} {s:Shared}
theorem zi6 {b:Bool} {Q:Bool→Shared→Prop}:∀ {xs ys:List Value} {ns ms:List Int} {i:Nat},IntsAre xs ns→IntsAre ys ms→Q (PY.lexLt ns ms) s→KatLex prog w A b (decide (xs.length < ys.length)) Q (xs.zip ys) i s
 | [],[],_,_,i,.nil,.nil,h=>kat_nil h
 | [],_::_,_,_,i,.nil,.cons _ _ _,h=>kat_nil (by
   show Q (decide (0 < _)) s
   rw [decide_eq_true (by simp)]; exact h)
 | _::_,[],_,_,i,.cons _ _ _,.nil,h=>kat_nil (by
   show Q (decide (_ < 0)) s
   rw [decide_eq_false (by simp)]; exact h)
 | _::xs,_::ys,_,_,i,.cons n t (ns:=ns) hx,.cons m u (ns:=ms) hy,h=>by
  refine kat_cons (wpAny_eqBool_int ?_)
  have h:Q (if n==m then PY.lexLt ns ms else decide (n < m)) s:=h
  refine kat_go (fun e=>kat_yes ?_) fun e=>kat_no ?_
  ·rw [e] at h
   have:=zi6 (b:=b) (i:=i+1) hx hy h
   have q:∀ {p q:Bool},p=q→KatLex prog w A b p Q (xs.zip ys) (i+1) s→KatLex prog w A b q Q (xs.zip ys) (i+1) s:=fun e h=>e▸h
   exact q (by simp) this
  ·rw [e] at h
   simp only [Bool.false_eq_true,if_false] at h
   cases hb:(b&&i==0) with
   | true=>exact oneLt_int h
   | false=>exact kat_one _ _ (wpAny_lt_int h)
noncomputable def Tups (h:Heap) (vs:List Value) (nss:List (List Int)):Prop:=vs.length=nss.length∧∀ i,i < vs.length→∃ a o xs n,vs.getD i Value.none=.ref a∧h.get? a=some o∧o.cls=.type "tuple"∧o.data=.seq xs n∧IntsAre xs.toList (nss.getD i [])∧nss.getD i []≠[]
theorem Tups.asked {vs:List Value} {nss:List (List Int)} (h:Tups s.heap vs nss) {b:Bool} {i j:Nat} {C:Bool→Shared→Prop} (hi:i < vs.length) (hj:j < vs.length) (hc:C (decide (rank nss i < rank nss j)) s):kas_ask prog w A (tuples' b) vs i j C s:=by
 obtain ⟨a,o,xs,n,e1,e2,_,e4,e5,_⟩:=h.2 i hi
 obtain ⟨a',o',xs',n',f1,f2,_,f4,f5,_⟩:=h.2 j hj
 unfold kas_ask
 rw [e1,f1]
 refine kat_lt e2 e4 f2 f4 ?_
 have:=zi6 (prog:=prog) (w:=w) (A:=A) (s:=s) (b:=b) (i:=0) (Q:=C) e5 f5 (by rw [← zf6 (by rw [← h.1]; exact hi) (by rw [← h.1]; exact hj)]; exact hc)
 simpa using this
theorem Tups.kind:∀ {vs:List Value} {nss:List (List Int)},Tups s.heap vs nss→∃ fs:List Value,KatTups s.heap vs fs∧fs.length=vs.length∧∀ v∈fs,∃ i t,v=.int i t
 | [],nss,h=>⟨[],.nil,rfl,fun v hv=>by cases hv⟩
 | v::vs,[],h=>by have:=h.1; simp at this
 | v::vs,ns::nss,h=>by
  obtain ⟨fs,h1,h2,h3⟩:=Tups.kind (vs:=vs) (nss:=nss) ⟨by have:=h.1; simpa using this,fun i hi=>by
   have:=h.2 (i+1) (by simpa using hi)
   simpa using this⟩
  obtain ⟨a,o,xs,n,e1,e2,e3,e4,e5,e6⟩:=h.2 0 (by simp)
  have e1:v=.ref a:=e1
  have e5:IntsAre xs.toList ns:=e5
  have e6:ns≠[]:=e6
  subst e1
  obtain ⟨xl⟩:=xs
  cases e5 with
  | nil=>exact absurd rfl e6
  | cons k t r =>
   exact ⟨.int k t::fs,.cons e2 e3 e4 (by simp) h1,by simp [h2],fun v hv=>by
    rcases List.mem_cons.mp hv with rfl | hv
    ·exact ⟨k,t,rfl⟩
    ·exact h3 v hv⟩
structure Sorted (nss:List (List Int)) (pp:List Nat):Prop where
 pm:pp.Perm (List.range nss.length)
 up:(pp.map fun i=>nss.getD i []).Pairwise fun a b=>PY.lexLt b a=false
theorem zfk {nss:List (List Int)} {p:Array Nat} {n:Nat} (hn:nss.length=n) (h:SP.Ok n p) (hu:SP.Up (rank nss) p n):Sorted nss p.toList:=by
 have hlen:p.toList.length=n:=by rw [Array.length_toList,h.sz]
 have hpm:p.toList.Perm (List.range nss.length):=by
  have:=h.pm.toList
  rw [hn]
  simpa using this
 refine ⟨hpm,?_⟩
 rw [List.pairwise_map,List.pairwise_iff_getElem]
 intro i j hi hj hij
 have hb:∀ k (hk:k < p.toList.length),p.toList[k] < nss.length:=fun k hk=>by
  have:=hpm.mem_iff.mp (List.getElem_mem hk)
  simpa using this
 have:=hu i j (by lia) (by lia)
 have g:∀ k (hk:k < p.toList.length),p.getD k 0=p.toList[k]:=fun k hk=>by
  rw [Array.length_toList] at hk
  simp [Array.getD,hk]
 unfold SP.ke at this
 rw [g i hi,g j hj] at this
 rw [← zf6 (hb j hj) (hb i hi),decide_eq_false (by lia)]
theorem zj7:∀ {vs:List Value},vs.length < 2→(vs.toArray.zip vs.toArray).map (·.2)=vs.toArray
 | [],_=>by simp
 | [x],_=>by simp
 | _::_::_,h=>by simp only [List.length_cons] at h; lia
theorem zgh:∀ {vs:List Value},vs.length < 2→((List.range vs.length).map fun i=>vs.getD i Value.none)=vs
 | [],_=>rfl
 | [x],_=>rfl
 | _::_::_,h=>by simp only [List.length_cons] at h; lia
theorem zeq {a:Addr} {vs:List Value} {nss:List (List Int)} {n:Nat} {P:PySem.Fin→Shared→Prop} (ho:s.heap.get? a=some (seqObj "list" vs.toArray n)) (ht:Tups s.heap vs nss) (h64:vs.length < 64)
  (h:∀ pp:List Nat,Sorted nss pp→P (.done (.ret .none)) { s with heap:=sortedHeap s.heap a vs (pp.map fun i=>vs.getD i Value.none).toArray}):wpAny (model prog w) A (Builtin.«list.sort» ⟨[.ref a],[]⟩) P E s:=by
 have ha:=Heap.lt_size ho
 obtain ⟨e1,ho1⟩:∃ e1,(s.heap.update a (Obj.mapSeq fun _=>(#[]:Array Value))).get? a=some (seqObj "list" #[] e1):=⟨_,get?_update_seq ho (fun _=>#[])⟩
 rw [list_sort_plain]
 refine wpAny_bind (listItems_at ho rfl (wpAny_bind (listUpdate_at ho rfl (wpAny_bind (seqEpoch_at ho1 rfl (wpAny_bind (wpAny_newTuple (wpAny_bind (wpAny_newList (wpAny_holding ?_))))))))))
 let H1:=((s.heap.update a (Obj.mapSeq fun _=>(#[]:Array Value))).push (seqObj "tuple" vs.toArray 0)).push (seqObj "list" #[] 0)
 have old:∀ b o,b≠a→s.heap.get? b=some o→H1.get? b=some o:=fun b o hb hg=>by
  have hlt:=Heap.lt_size hg
  show (((s.heap.update a _).push _).push _).get? b=_
  rw [Heap.get?_push_ne _ _ _ (by rw [size_push',Heap.size_update]; exact Nat.ne_of_lt (Nat.lt_succ_of_lt hlt)),Heap.get?_push_ne _ _ _ (by rw [Heap.size_update]; exact Nat.ne_of_lt hlt)]
  rw [Heap.get?_update_ne _ _ _ _ hb]
  exact hg
 have hoH:H1.get? a=some (seqObj "list" #[] e1):=by
  show (((s.heap.update a _).push _).push _).get? a=_
  rw [Heap.get?_push_ne _ _ _ (by rw [size_push',Heap.size_update]; exact Nat.ne_of_lt (Nat.lt_succ_of_lt ha)),Heap.get?_push_ne _ _ _ (by rw [Heap.size_update]; exact Nat.ne_of_lt ha)]
  exact ho1
 have htH:Tups H1 vs nss:=⟨ht.1,fun i hi=>by
  obtain ⟨b,o,xs,k,f1,f2,f3,f4,f5,f6⟩:=ht.2 i hi
  refine ⟨b,o,xs,k,f1,old b o (fun e=>?_) f2,f3,f4,f5,f6⟩
  subst e
  rw [ho] at f2
  cases f2
  exact absurd f3 (by show ¬ Value.type "list" = Value.type "tuple"; decide)⟩
 show wpAny (model prog w) A _ P E { s with heap:=H1}
 dsimp only
 have hsz:vs.toArray.size=vs.length:=by simp
 by_cases h2:vs.length < 2
 ·rw [if_pos (by rw [hsz]; exact h2),if_pos (by rw [hsz]; exact h2)]
  refine wpAny_bind (wpAny_pure ?_)
  rw [StateT.run_pure]
  refine wpAny_bind (wpAny_pure ?_)
  dsimp only
  have hv:(arrOf (SortSt.mk' general' (vs.toArray.zip vs.toArray) #[] 7 none)).map (·.2)=vs.toArray:=by
   show (vs.toArray.zip vs.toArray).map (·.2)=_
   exact zj7 h2
  refine wpAny_bind (seqEpoch_at hoH rfl (wpAny_bind (listUpdate_at hoH rfl ?_ (hsz2:=by rw [hv,hsz,sizeLine_eq]; lia))))
  simp only [bne_self_eq_false,Bool.false_eq_true,if_false]
  have:=h (List.range vs.length) ⟨by rw [ht.1],by
   rw [List.pairwise_map,List.pairwise_iff_getElem]
   intro i j hi hj hij
   simp at hi hj
   lia⟩
  have er:((List.range vs.length).map fun i=>vs.getD i Value.none)=vs:=by
   exact zgh h2
  rw [er] at this
  rw [hv]
  exact wpAny_pure this
 ·rw [if_neg (by rw [hsz]; exact h2),if_neg (by rw [hsz]; exact h2)]
  obtain ⟨fs,k1,k2,k3⟩:=htH.kind (s:={ s with heap:=H1})
  refine wpAny_bind (kat_kind (s:={ s with heap:=H1}) (T:=.type "int") k1 (by lia) (fun v hv=>?_) (by decide) ?_)
  ·obtain ⟨i,t,rfl⟩:=k3 v hv
   exact .now
  have tr:=SP.zka (n:=vs.length) (rk:=rank nss) (by lia)
  refine wpAny_bind (wpAny_mono (kat_run (E:=E) (s:={ s with heap:=H1}) (ks:=vs) (vs:=vs) (κ:=tuples' (Value.type "int" != Value.type "tuple")) (Q:=fun st' s'=>s'={ s with heap:=H1}∧failedOf st'=none∧∃ pp,Sorted nss pp∧pp.length=vs.length∧(arrOf st').map (·.2)=(pp.map fun i=>vs.getD i Value.none).toArray)
   (G:=fun p s'=>s'={ s with heap:=H1}∧Sorted nss p.toList) rfl (by lia) h64 (fun p st' s' hp har hf hg=>⟨hg.1,hf,p.toList,hg.2,by rw [Array.length_toList,hp],kat_snds rfl har⟩) ?_) ?_ fun _ _ e=>e)
  ·exact SP.Tr.wp (n:=vs.length) (rk:=rank nss) (fun i j C hi hj hc=>htH.asked (s:={ s with heap:=H1}) hi hj hc) (fun p hp=>⟨rfl,zfk ht.1.symm hp.1 hp.2⟩) tr
  ·rintro ⟨⟨⟩,st'⟩ s' ⟨rfl,hf,pp,hpp,hpl,hout⟩
   dsimp only
   refine wpAny_bind (seqEpoch_at hoH rfl (wpAny_bind (listUpdate_at hoH rfl ?_ (hsz2:=by rw [hout,sizeLine_eq]; simp; lia))))
   rw [hf]
   simp only [bne_self_eq_false,Bool.false_eq_true,if_false]
   rw [hout]
   exact wpAny_pure (h pp hpp)
theorem Tups.old {h h':Heap} {vs:List Value} {nss:List (List Int)} (t:Tups h vs nss) (k:∀ b o,h.get? b=some o→h'.get? b=some o):Tups h' vs nss :=
 ⟨t.1,fun i hi=>by
  obtain ⟨a,o,xs,n,e1,e2,e3⟩:=t.2 i hi
  exact ⟨a,o,xs,n,e1,k a o e2,e3⟩⟩
theorem zca {h:Heap} {vs:List Value} {b:Addr} {o:Obj} (e:h.get? b=some o):(HT.gathered h vs).get? b=some o:=by
 have hlt:=Heap.lt_size e
 unfold HT.gathered
 rw [Heap.get?_update_ne _ _ _ _ (Nat.ne_of_lt hlt)]
 exact Heap.get?_push_of_some _ e
theorem zdd {l:Addr} {vs:List Value} {nss:List (List Int)} {Q:Value→Shared→Prop} (hl:s.heap.IsList l vs.toArray∨IsTup s.heap l vs.toArray) (ht:Tups s.heap vs nss) (h64:vs.length < 64)
  (h:∀ pp:List Nat,Sorted nss pp→Q (.ref (s.heap.objs.size+1)) { s with heap:=sortedAll s.heap vs (pp.map fun i=>vs.getD i Value.none).toArray}):wpAny (model prog w) A (call (.builtin "sorted") [.ref l]) Q E s:=by
 refine Calls.call_function_entry kind_sorted plain_sorted entry_sorted (args_sorted1 _) ?_
 have hz:vs.length≤sizeLine:=Nat.le_trans (Nat.le_of_lt h64) (by decide)
 unfold Builtin.«sorted»
 have hoL:((HT.gathered s.heap vs).push (seqObj "list" vs.toArray 0)).get? (s.heap.objs.size+1)=some (seqObj "list" vs.toArray 0):=by
  rw [← HT.zn s.heap vs]; exact Heap.get?_push_size _ rfl
 have htL:Tups ((HT.gathered s.heap vs).push (seqObj "list" vs.toArray 0)) vs nss:=ht.old fun b o e=>Heap.get?_push_of_some _ (zca e)
 rcases hl with hl | hl
 ·refine wpAny_bind (m:=checkCount "sorted" 1 1 _) (wpAny_pure (wpAny_bind (collect_list hl (wpAny_bind (wpAny_newList ?_)) hz)))
  show wpAny _ _ _ _ _ { s with heap:=(HT.gathered s.heap vs).push (seqObj "list" vs.toArray 0)}
  rw [show ((s.heap.push (seqObj "list" #[] 0)).update s.heap.objs.size (Obj.mapSeq (·++vs.toArray))).objs.size=s.heap.objs.size+1 from HT.zn s.heap vs]
  exact wpAny_bind (wpAny_holding (wpAny_call_entry slot_list_sort ⟨_,hoL,rfl⟩ entry_list_sort (zeq hoL htL h64 fun pp hp=>⟨_,rfl,wpAny_pure ⟨_,rfl,h pp hp⟩⟩) (args_list_sort _)))
 ·refine wpAny_bind (m:=checkCount "sorted" 1 1 _) (wpAny_pure (wpAny_bind (HT.zbi hl (wpAny_bind (wpAny_newList ?_)) hz)))
  show wpAny _ _ _ _ _ { s with heap:=(HT.gathered s.heap vs).push (seqObj "list" vs.toArray 0)}
  rw [HT.zn]
  exact wpAny_bind (wpAny_holding (wpAny_call_entry slot_list_sort ⟨_,hoL,rfl⟩ entry_list_sort (zeq hoL htL h64 fun pp hp=>⟨_,rfl,wpAny_pure ⟨_,rfl,h pp hp⟩⟩) (args_list_sort _)))
end
end HS
namespace L2
open PySem PySem.Spec PyProof.Rows
theorem zf2 {xs:List V} {us:List Value} (r:Vals xs us) {i:Nat} (hi:i < xs.length):RelV (xs.getD i .non) (us.getD i Value.none):=by
 obtain ⟨u,h1,h2⟩:=r.get (List.getElem?_eq_getElem hi)
 rw [List.getD_eq_getElem?_getD,List.getD_eq_getElem?_getD,h1,List.getElem?_eq_getElem hi]
 exact h2
theorem zdb {xs:List V} {us:List Value} (r:Vals xs us):∀ {pp:List Nat},(∀ i∈pp,i < xs.length)→Vals (pp.map fun i=>xs.getD i .non) (pp.map fun i=>us.getD i Value.none)
 | [],_=>.nil
 | i::pp,h=>.cons (zf2 r (h i List.mem_cons_self)) (zdb r fun j hj=>h j (List.mem_cons_of_mem _ hj))
section
variable {X:Cx}
theorem zem:CallR X (.builtin "sorted") (fun xs H Q=>∃ (p:Addr) (ys:List V) (nss:List (List Int)),xs=[.ref p]∧(SqL X.K H p ys∨SqT X.K H p ys)∧ys.length=nss.length ∧
  (∀ i,i < ys.length→nss.getD i []≠[]∧∃ a,ys.getD i .non=.ref a∧SqT X.K H a ((nss.getD i []).map V.int))∧ys.length < 64∧∀ pp l,HS.Sorted nss pp→H l=none→Q (.ref l) (upd H l (.lst (pp.map fun i=>ys.getD i .non)))):=by
 intro pins s σ H xs us Q I r h
 obtain ⟨p,ys,nss,rfl,hq,hlen,hel,hl,q⟩:=h
 obtain ⟨u,rfl,ru⟩:=vals1 r
 cases ru
 have tups:∀ its,Vals ys its→HS.Tups s.heap its nss:=fun its rv=>⟨by rw [← rv.length,hlen],fun i hi=>by
  rw [← rv.length] at hi
  obtain ⟨hne,a,e,ht⟩:=hel i hi
  have hr:=zf2 rv hi
  rw [e] at hr
  obtain ⟨its',rv',⟨o,ho,hc,n,hd⟩,_⟩:=I.tuple ht
  exact ⟨a,o,its'.toArray,n,hr,ho,hc,hd,zv rv',hne⟩⟩
 have fin:∀ (its:List Value),Vals ys its→∀ pp,HS.Sorted nss pp→EP X pins σ Q (.ref (s.heap.objs.size+1)) { s with heap:=sortedAll s.heap its (pp.map fun i=>its.getD i Value.none).toArray}:=fun its rv pp hp=>by
  obtain ⟨ep,ha⟩:=sortedAll_at s.heap its (pp.map fun i=>its.getD i Value.none).toArray
  have hle:s.heap.objs.size≤s.heap.objs.size+1:=Nat.le_succ _
  have hf:H (s.heap.objs.size+1)=none:=I.hok.fresh hle
  have hin:∀ i∈pp,i < ys.length:=fun i hi=>by
   have:=hp.pm.mem_iff.mp hi
   rw [hlen]; simpa using this
  refine ⟨.ref (s.heap.objs.size+1),upd H (s.heap.objs.size+1) (.lst (pp.map fun i=>ys.getD i .non)),I.laid (t':=s.toks) (fun b o e=>sortedAll_old e) hle ?_,rfl,q pp _ hp hf⟩
  refine ⟨?_,pp.map fun i=>its.getD i Value.none,ep,zdb rv hin,ha⟩
  rw [List.length_map,hp.pm.length_eq,List.length_range,← hlen]
  exact Nat.le_trans (Nat.le_of_lt hl) (by decide)
 rcases hq with hq | hq
 ·obtain ⟨its,rv,pl,hz⟩:=I.list hq
  exact HS.zdd (.inl pl.isList) (tups its rv) (by rw [← rv.length]; exact hl) (fin its rv)
 ·obtain ⟨its,rv,pl,hz⟩:=I.tuple hq
  exact HS.zdd (.inr pl) (tups its rv) (by rw [← rv.length]; exact hl) (fin its rv)
end
end L2
namespace L2
open PY (lexLt insT sortT)
theorem zmh {α:Type} (l:List α) (d:α):((List.range l.length).map fun i=>l.getD i d)=l:=by
 apply List.ext_getElem
 ·simp
 ·intro i h1 h2
  simp [List.getD_eq_getElem?_getD,List.getElem?_eq_getElem h2]
theorem zb8 {nss:List (List Int)} {pp:List Nat} (h:HS.Sorted nss pp):(pp.map fun i=>nss.getD i [])=sortT nss:=by
 refine zas ?_ h.up (zbx nss)
 have:=h.pm.map fun i=>nss.getD i []
 rw [zmh] at this
 exact this.trans (zax nss).symm
end L2
namespace HS
open PySem PySem.W PySem.Calls PyProof.Rows
theorem zf0 {vs:List Value} {ns:List Int} (h:IntsAre vs ns) {i:Nat} (hi:i < vs.length):∃ n t,vs[i]? = some (.int n t)∧ns.drop i=n::ns.drop (i+1):=by
 induction h generalizing i with
 | nil=>simp at hi
 | cons n t hr ih =>
  cases i with
  | zero=>exact ⟨n,t,rfl,rfl⟩
  | succ i =>
   obtain ⟨m,u,h1,h2⟩:=ih (i:=i) (by simpa using hi)
   exact ⟨m,u,by simpa using h1,by simpa using h2⟩
section
open PySem.SeqAt
open HT (zee zec)
open PySem.AutoSeq1 (wpAny_loadPart')
open PySem.MeetsSeq PySem.MeetsSeq2 PySem.MeetsSeq3
theorem zoq (l b:Addr) (items items2:Array Value) (ns ms:List Int) (n n2:Nat) (dd dd2:Option Addr) (sl sl2:Array (Option Value)) (hx:IntsAre items.toList ns) (hy:IntsAre items2.toList ms) (k:Nat) :
  ∀ i:Nat,items.size - i=k→i≤items.size→i≤items2.size→Meets (Builtin.«list.__eq__.loop» ⟨[.ref l,.ref b,rawInt i,rawInt 0],[]⟩)
   (fun A R s=>s.heap.get? l=some { cls:=.type "list",dict:=dd,data:=.seq items n,slots:=sl}∧s.heap.get? b=some { cls:=.type "list",dict:=dd2,data:=.seq items2 n2,slots:=sl2} ∧
    R (.ok (.ret (.bool (PY.lexLt (ns.drop i) (ms.drop i))))) s):=by
 have z1:items.size=ns.length:=by rw [← hx.length]; simp
 have z2:items2.size=ms.length:=by rw [← hy.length]; simp
 induction k with
 | zero =>
  intro i hk hi hi' prog w A R s h
  obtain ⟨hp,g,d,tk,os⟩:=s; obtain ⟨hl,hb,h⟩:=h
  wp_walk using wpAny_loadPart' hl,wpAny_loadPart' hb
  have hi1:items[((i:Nat):Int).toNat]? = none:=by simp; lia
  have hd:ns.drop i=[]:=List.drop_eq_nil_of_le (by lia)
  rw [hd] at h
  rw [hi1]
  wp_walk using wpAny_loadPart' hl,wpAny_loadPart' hb
  show R (.ok (.ret (.bool (decide (items.size < items2.size))))) _
  by_cases hlt:items.size < items2.size
  ·rw [decide_eq_true hlt]
   obtain ⟨m,t,_,e2⟩:=zf0 hy (i:=i) (by simp; lia)
   rw [e2] at h
   exact h
  ·rw [decide_eq_false hlt]
   rw [List.drop_eq_nil_of_le (show ms.length≤i by lia)] at h
   exact h
 | succ k ih =>
  intro i hk hi hi' prog w A R s h
  obtain ⟨hp,g,d,tk,os⟩:=s; obtain ⟨hl,hb,h⟩:=h
  wp_walk using wpAny_loadPart' hl,wpAny_loadPart' hb
  have hlt:i < items.size:=by lia
  obtain ⟨a,t,a1,a2⟩:=zf0 hx (i:=i) (by simpa using hlt)
  have hi1:items[((i:Nat):Int).toNat]? = some (.int a t):=by simpa using a1
  have hc:((i:Int)+1)=((i+1:Nat):Int):=by push_cast; rfl
  rw [hi1]
  by_cases hlt2:i < items2.size
  ·obtain ⟨c,u,c1,c2⟩:=zf0 hy (i:=i) (by simpa using hlt2)
   have hi2:items2[((i:Nat):Int).toNat]? = some (.int c u):=by simpa using c1
   rw [hi2]
   rw [a2,c2] at h
   obtain ⟨e,he,hiff⟩:=zee A.in1 ⟨hp,g,d,tk,os⟩ a t c u
   refine wpAny_bind (he prog w _ _ ?_)
   cases e with
   | true =>
    have eq:a=c:=hiff.mp rfl
    subst eq
    wp_walk
    rw [hc]
    exact ⟨plainId_quiet plain_eq_loop _,codeAny_builtin entry_eq_loop (by
     rw [Around.under_plainId plain_eq_loop _]
     exact ih (i+1) (by lia) (by lia) (by lia) prog w A R _ ⟨hl,hb,by simpa [PY.lexLt] using h⟩)⟩
   | false =>
    have ne:¬ a=c:=fun q=>absurd (hiff.mpr q) Bool.false_ne_true
    have hri:=zec A.in1 ⟨hp,g,d,tk,os⟩ a t c u prog w
    wp_walk using wpAny_loadPart' hl,wpAny_loadPart' hb
    rw [hi1,hi2]
    wp_walk using hri
    have:PY.lexLt (a::ns.drop (i+1)) (c::ms.drop (i+1))=decide (a < c):=by
     unfold PY.lexLt; rw [if_neg (by simpa using ne)]
    rw [this] at h
    exact h
  ·have hi2:items2[((i:Nat):Int).toNat]? = none:=by simp; lia
   rw [hi2]
   rw [a2,List.drop_eq_nil_of_le (show ms.length≤i by lia)] at h
   wp_walk using wpAny_loadPart' hl,wpAny_loadPart' hb
   show R (.ok (.ret (.bool (decide (items.size < items2.size))))) _
   rw [decide_eq_false (by lia)]
   exact h
theorem zot (l b:Addr) (items items2:Array Value) (ns ms:List Int) (n n2:Nat) (dd dd2:Option Addr) (sl sl2:Array (Option Value)) (hx:IntsAre items.toList ns) (hy:IntsAre items2.toList ms) :
  Meets (Builtin.«list.__lt__» ⟨[.ref l,.ref b],[]⟩)
   (fun A R s=>s.heap.get? l=some { cls:=.type "list",dict:=dd,data:=.seq items n,slots:=sl}∧s.heap.get? b=some { cls:=.type "list",dict:=dd2,data:=.seq items2 n2,slots:=sl2} ∧
    R (.ok (.ret (.bool (PY.lexLt ns ms)))) s):=by
 intro prog w A R s h
 obtain ⟨hp,g,d,tk,os⟩:=s; obtain ⟨hl,hb,h⟩:=h
 have f3:=AutoSeq1.sub_list_list
 wp_walk using wpAny_loadPart' hl,wpAny_loadPart' hb
 exact ⟨plainId_quiet plain_eq_loop _,codeAny_builtin entry_eq_loop (by
  rw [Around.under_plainId plain_eq_loop _]
  exact zoq l b items items2 ns ms n n2 dd dd2 sl sl2 hx hy _ 0 rfl (Nat.zero_le _) (Nat.zero_le _) prog w A R _ ⟨hl,hb,by simpa using h⟩)⟩
end
end HS
namespace HS
open PySem PySem.W PySem.Calls PyProof.Rows
section
variable {prog:Program} {w:World} {A:Around} {E:Value→Shared→Prop} {s:Shared}
theorem zhz {l b:Addr} {items items2:Array Value} {ns ms:List Int} {Q:Bool→Shared→Prop} (hu:A.units < cLine) (hl:s.heap.IsList l items) (hb:s.heap.IsList b items2) (hx:IntsAre items.toList ns) (hy:IntsAre items2.toList ms)
  (h:Q (PY.lexLt ns ms) s):wpAny (model prog w) A (oneLt' true (.ref l) (.ref b)) Q E s:=by
 obtain ⟨⟨oc,od,odt,osl⟩,ho,hc,n,hd⟩:=hl
 obtain ⟨⟨oc2,od2,odt2,osl2⟩,ho2,hc2,n2,hd2⟩:=hb
 simp only at hc hd hc2 hd2
 subst hc hd hc2 hd2
 rw [oneLt'_eq]
 simp only [if_true]
 refine wpAny_bind (wpAny_cRoomFor hu ?_)
 refine wpAny_bind (wpAny_callSpecialIfBound?_slot (T:="list") ⟨_,ho,rfl⟩ PySem.F.slot_list_lt (call_meets PySem.F.slot_list_lt ⟨_,ho,rfl⟩ PySem.F.entry_list_lt (PySem.F.args_list_lt_2 _ _) (zot l b items items2 ns ms n n2 od od2 osl osl2 hx hy) ⟨ho,ho2,?_⟩))
 exact wpAny_truthy_bool h
noncomputable def Lsts (h:Heap) (vs:List Value) (nss:List (List Int)):Prop:=vs.length=nss.length∧∀ i,i < vs.length→∃ a xs,vs.getD i Value.none=.ref a∧h.IsList a xs∧IntsAre xs.toList (nss.getD i [])
theorem Lsts.asked {vs:List Value} {nss:List (List Int)} (hu:A.units < cLine) (h:Lsts s.heap vs nss) {i j:Nat} {C:Bool→Shared→Prop} (hi:i < vs.length) (hj:j < vs.length) (hc:C (decide (rank nss i < rank nss j)) s):kas_ask prog w A oneType' vs i j C s:=by
 obtain ⟨a,xs,e1,e2,e3⟩:=h.2 i hi
 obtain ⟨a',xs',f1,f2,f3⟩:=h.2 j hj
 unfold kas_ask
 rw [e1,f1,keyLt'_oneType]
 refine zhz hu e2 f2 e3 f3 ?_
 rw [← zf6 (by rw [← h.1]; exact hi) (by rw [← h.1]; exact hj)]
 exact hc
theorem Lsts.old {h h':Heap} {vs:List Value} {nss:List (List Int)} (t:Lsts h vs nss) (k:∀ b o,h.get? b=some o→h'.get? b=some o):Lsts h' vs nss :=
 ⟨t.1,fun i hi=>by
  obtain ⟨a,xs,e1,⟨o,e2,e3⟩,e4⟩:=t.2 i hi
  exact ⟨a,xs,e1,⟨o,k a o e2,e3⟩,e4⟩⟩
theorem sort_lists {a:Addr} {vs:List Value} {nss:List (List Int)} {n:Nat} {P:PySem.Fin→Shared→Prop} (ho:s.heap.get? a=some (seqObj "list" vs.toArray n)) (hu:A.units < cLine) (ht:Lsts s.heap vs nss) (hna:∀ i,i < vs.length→vs.getD i Value.none≠.ref a) (h64:vs.length < 64)
  (h:∀ pp:List Nat,Sorted nss pp→P (.done (.ret .none)) { s with heap:=sortedHeap s.heap a vs (pp.map fun i=>vs.getD i Value.none).toArray}):wpAny (model prog w) A (Builtin.«list.sort» ⟨[.ref a],[]⟩) P E s:=by
 have ha:=Heap.lt_size ho
 obtain ⟨e1,ho1⟩:∃ e1,(s.heap.update a (Obj.mapSeq fun _=>(#[]:Array Value))).get? a=some (seqObj "list" #[] e1):=⟨_,get?_update_seq ho (fun _=>#[])⟩
 rw [list_sort_plain]
 refine wpAny_bind (listItems_at ho rfl (wpAny_bind (listUpdate_at ho rfl (wpAny_bind (seqEpoch_at ho1 rfl (wpAny_bind (wpAny_newTuple (wpAny_bind (wpAny_newList (wpAny_holding ?_))))))))))
 let H1:=((s.heap.update a (Obj.mapSeq fun _=>(#[]:Array Value))).push (seqObj "tuple" vs.toArray 0)).push (seqObj "list" #[] 0)
 have old:∀ b o,b≠a→s.heap.get? b=some o→H1.get? b=some o:=fun b o hb hg=>by
  have hlt:=Heap.lt_size hg
  show (((s.heap.update a _).push _).push _).get? b=_
  rw [Heap.get?_push_ne _ _ _ (by rw [size_push',Heap.size_update]; exact Nat.ne_of_lt (Nat.lt_succ_of_lt hlt)),Heap.get?_push_ne _ _ _ (by rw [Heap.size_update]; exact Nat.ne_of_lt hlt)]
  rw [Heap.get?_update_ne _ _ _ _ hb]
  exact hg
 have hoH:H1.get? a=some (seqObj "list" #[] e1):=by
  show (((s.heap.update a _).push _).push _).get? a=_
  rw [Heap.get?_push_ne _ _ _ (by rw [size_push',Heap.size_update]; exact Nat.ne_of_lt (Nat.lt_succ_of_lt ha)),Heap.get?_push_ne _ _ _ (by rw [Heap.size_update]; exact Nat.ne_of_lt ha)]
  exact ho1
 have htH:Lsts H1 vs nss:=⟨ht.1,fun i hi=>by
  obtain ⟨b,xs,f1,⟨o,f2,f3⟩,f4⟩:=ht.2 i hi
  exact ⟨b,xs,f1,⟨o,old b o (fun e=>hna i hi (by rw [f1,e])) f2,f3⟩,f4⟩⟩
 show wpAny (model prog w) A _ P E { s with heap:=H1}
 dsimp only
 have hsz:vs.toArray.size=vs.length:=by simp
 by_cases h2:vs.length < 2
 ·rw [if_pos (by rw [hsz]; exact h2),if_pos (by rw [hsz]; exact h2)]
  refine wpAny_bind (wpAny_pure ?_)
  rw [StateT.run_pure]
  refine wpAny_bind (wpAny_pure ?_)
  dsimp only
  have hv:(arrOf (SortSt.mk' general' (vs.toArray.zip vs.toArray) #[] 7 none)).map (·.2)=vs.toArray:=by
   show (vs.toArray.zip vs.toArray).map (·.2)=_
   apply Array.toList_inj.mp
   match vs,h2 with
   | [],_=>simp
   | [x],_=>simp
  refine wpAny_bind (seqEpoch_at hoH rfl (wpAny_bind (listUpdate_at hoH rfl ?_ (hsz2:=by rw [hv,hsz,sizeLine_eq]; lia))))
  simp only [bne_self_eq_false,Bool.false_eq_true,if_false]
  have:=h (List.range vs.length) ⟨by rw [ht.1],by
   rw [List.pairwise_map,List.pairwise_iff_getElem]
   intro i j hi hj hij
   simp at hi hj
   lia⟩
  have er:((List.range vs.length).map fun i=>vs.getD i Value.none)=vs:=by
   match vs,h2 with
   | [],_=>rfl
   | [x],_=>rfl
  rw [er] at this
  rw [hv]
  exact wpAny_pure this
 ·rw [if_neg (by rw [hsz]; exact h2),if_neg (by rw [hsz]; exact h2)]
  refine wpAny_bind (kas_kind (s:={ s with heap:=H1}) (T:=.type "list") (by lia) (fun v hv=>?_) (by decide) (by decide) ?_)
  ·obtain ⟨i,hi,e⟩:=List.getElem_of_mem hv
   obtain ⟨b,xs,f1,⟨o,f2,f3,_⟩,_⟩:=htH.2 i hi
   have:v=.ref b:=by rw [← f1,List.getD_eq_getElem?_getD,List.getElem?_eq_getElem hi,← e]; rfl
   rw [this]
   exact kitAt_ty _ _ ⟨o,f2,f3⟩
  have tr:=SP.zka (n:=vs.length) (rk:=rank nss) (by lia)
  refine wpAny_bind (wpAny_mono (kat_run (E:=E) (s:={ s with heap:=H1}) (ks:=vs) (vs:=vs) (κ:=oneType') (Q:=fun st' s'=>s'={ s with heap:=H1}∧failedOf st'=none∧∃ pp,Sorted nss pp∧pp.length=vs.length∧(arrOf st').map (·.2)=(pp.map fun i=>vs.getD i Value.none).toArray)
   (G:=fun p s'=>s'={ s with heap:=H1}∧Sorted nss p.toList) rfl (by lia) h64 (fun p st' s' hp har hf hg=>⟨hg.1,hf,p.toList,hg.2,by rw [Array.length_toList,hp],kat_snds rfl har⟩) ?_) ?_ fun _ _ e=>e)
  ·exact SP.Tr.wp (n:=vs.length) (rk:=rank nss) (fun i j C hi hj hc=>htH.asked (s:={ s with heap:=H1}) hu hi hj hc) (fun p hp=>⟨rfl,zfk ht.1.symm hp.1 hp.2⟩) tr
  ·rintro ⟨⟨⟩,st'⟩ s' ⟨rfl,hf,pp,hpp,hpl,hout⟩
   dsimp only
   refine wpAny_bind (seqEpoch_at hoH rfl (wpAny_bind (listUpdate_at hoH rfl ?_ (hsz2:=by rw [hout,sizeLine_eq]; simp; lia))))
   rw [hf]
   simp only [bne_self_eq_false,Bool.false_eq_true,if_false]
   rw [hout]
   exact wpAny_pure (h pp hpp)
theorem zcf {l:Addr} {vs:List Value} {nss:List (List Int)} {Q:Value→Shared→Prop} (hu:A.units+2 < cLine) (hl:s.heap.IsList l vs.toArray∨IsTup s.heap l vs.toArray) (ht:Lsts s.heap vs nss) (h64:vs.length < 64)
  (h:∀ pp:List Nat,Sorted nss pp→Q (.ref (s.heap.objs.size+1)) { s with heap:=sortedAll s.heap vs (pp.map fun i=>vs.getD i Value.none).toArray}):wpAny (model prog w) A (call (.builtin "sorted") [.ref l]) Q E s:=by
 refine Calls.call_function_entry kind_sorted plain_sorted entry_sorted (args_sorted1 _) ?_
 have hz:vs.length≤sizeLine:=Nat.le_trans (Nat.le_of_lt h64) (by decide)
 unfold Builtin.«sorted»
 have hoL:((HT.gathered s.heap vs).push (seqObj "list" vs.toArray 0)).get? (s.heap.objs.size+1)=some (seqObj "list" vs.toArray 0):=by
  rw [← HT.zn s.heap vs]; exact Heap.get?_push_size _ rfl
 have htL:Lsts ((HT.gathered s.heap vs).push (seqObj "list" vs.toArray 0)) vs nss:=ht.old fun b o e=>Heap.get?_push_of_some _ (zca e)
 have hna:∀ i,i < vs.length→vs.getD i Value.none≠.ref (s.heap.objs.size+1):=fun i hi e=>by
  obtain ⟨b,xs,f1,⟨o,f2,_⟩,_⟩:=ht.2 i hi
  rw [f1] at e
  injection e with e
  have:=Heap.lt_size f2
  rw [e] at this
  exact absurd this (Nat.not_lt.mpr (Nat.le_succ _))
 rcases hl with hl | hl
 ·refine wpAny_bind (m:=checkCount "sorted" 1 1 _) (wpAny_pure (wpAny_bind (collect_list hl (wpAny_bind (wpAny_newList ?_)) hz)))
  show wpAny _ _ _ _ _ { s with heap:=(HT.gathered s.heap vs).push (seqObj "list" vs.toArray 0)}
  rw [show ((s.heap.push (seqObj "list" #[] 0)).update s.heap.objs.size (Obj.mapSeq (·++vs.toArray))).objs.size=s.heap.objs.size+1 from HT.zn s.heap vs]
  exact wpAny_bind (wpAny_holding (wpAny_call_entry slot_list_sort ⟨_,hoL,rfl⟩ entry_list_sort (sort_lists hoL (by show A.units+1+1 < cLine; lia) htL hna h64 fun pp hp=>⟨_,rfl,wpAny_pure ⟨_,rfl,h pp hp⟩⟩) (args_list_sort _)))
 ·refine wpAny_bind (m:=checkCount "sorted" 1 1 _) (wpAny_pure (wpAny_bind (HT.zbi hl (wpAny_bind (wpAny_newList ?_)) hz)))
  show wpAny _ _ _ _ _ { s with heap:=(HT.gathered s.heap vs).push (seqObj "list" vs.toArray 0)}
  rw [HT.zn]
  exact wpAny_bind (wpAny_holding (wpAny_call_entry slot_list_sort ⟨_,hoL,rfl⟩ entry_list_sort (sort_lists hoL (by show A.units+1+1 < cLine; lia) htL hna h64 fun pp hp=>⟨_,rfl,wpAny_pure ⟨_,rfl,h pp hp⟩⟩) (args_list_sort _)))
end
end HS
namespace HT
open PySem PySem.W PyProof.Rows
section
variable {prog:Program} {w:World} {A:Around} {E:Value→Shared→Prop} {s:Shared}
theorem zgc {T:String} {r d:Addr} {n:Nat} {P:Nat→Value→Prop} {OK:Heap→Prop} {Q:List Value→Shared→Prop} (Kd:KdlSrc prog w T r d n P OK) (hh:A.handled=none) (hok:OK s.heap) (hn:n≤sizeLine)
  (hQ:∀ h' tk (vs:List Value),(∀ b o,s.heap.get? b=some o→h'.get? b=some o)→s.heap.objs.size≤h'.objs.size→vs.length=n→(∀ j v,vs[j]? = some v→P j v)→Q vs { s with heap:=h',toks:=tk}):wpAny (model prog w) A (collect (.ref r)) Q E s:=by
 have hlt:=Kd.there _ hok
 unfold collect
 refine wpAny_bind (wpAny_runValue (codeAny_builtin entry_proto_collect' ?_))
 rw [Around.under_plainId PySem.F.plain_proto_collect _]
 refine wpAny_bind (wpAny_newList (wpAny_pure ⟨Code.quiet_builtin _ (by decide +kernel),codeAny_builtin entry_list_iadd' ?_⟩))
 rw [Around.under_plainId PySem.F.plain_list_iadd _]
 have new:(s.heap.push (seqObj "list" #[] 0)).get? s.heap.objs.size=some (seqObj "list" #[] 0):=Heap.get?_push_size _ rfl
 show wpAny _ _ (Builtin.List.listExtendWith (.ref s.heap.objs.size) (.ref r) (.ref s.heap.objs.size)) _ _ { s with heap:=s.heap.push (seqObj "list" #[] 0)}
 refine kdl_extend (R:=fun r s'=>match r with | .ok (.ret v)=>wpAny (model prog w) A (match v with | .ref a=>(do let o ← load a; match o.data with | .seq xs _=>pure xs.toList | _=>unsupported "internal:collect") | _=>unsupported "internal:collect") Q E s' | .ok _=>False | .error e=>E e s') Kd hh (s:={ s with heap:=s.heap.push (seqObj "list" #[] 0)}) (Kd.keep _ _ hok fun b _ o e=>Heap.get?_push_of_some _ e) s.heap.objs.size (Nat.ne_of_gt hlt.1) (Nat.ne_of_gt hlt.2) (.ref s.heap.objs.size) 0 new (fun h' tk acc' c' hk hS hacc=>?_) hn
 show wpAny _ _ (load s.heap.objs.size >>= _) _ _ _
 refine wpAny_bind (wpAny_load hS ?_)
 show wpAny _ _ (pure acc'.toList) _ _ _
 refine wpAny_pure (hQ h' tk acc'.toList (fun b o e=>hk b o (Nat.ne_of_lt (Heap.lt_size e)) (Heap.get?_push_of_some _ e)) (Nat.le_of_lt (Heap.lt_size hS)) (by rw [Array.length_toList]; exact hacc.1) fun j v e=>hacc.2 j v (by rw [← Array.getElem?_toList]; exact e))
end
end HT
namespace L2
open PySem PySem.Spec PyProof.Rows
open PY (sortI)
section
variable {X:Cx}
theorem zeg (hu:X.A.units+64 < cLine):CallR X (.builtin "sorted") (fun xs H Q=>∃ (p:Addr) (ys:List V) (nss:List (List Int)),xs=[.ref p]∧(SqL X.K H p ys∨SqT X.K H p ys)∧ys.length=nss.length ∧
  (∀ i,i < ys.length→∃ a,ys.getD i .non=.ref a∧SqL X.K H a ((nss.getD i []).map V.int))∧ys.length < 64∧∀ pp l,HS.Sorted nss pp→H l=none→Q (.ref l) (upd H l (.lst (pp.map fun i=>ys.getD i .non)))):=by
 intro pins s σ H xs us Q I r h
 obtain ⟨p,ys,nss,rfl,hq,hlen,hel,hl,q⟩:=h
 obtain ⟨u,rfl,ru⟩:=vals1 r
 cases ru
 have tups:∀ its,Vals ys its→HS.Lsts s.heap its nss:=fun its rv=>⟨by rw [← rv.length,hlen],fun i hi=>by
  rw [← rv.length] at hi
  obtain ⟨a,e,ht⟩:=hel i hi
  have hr:=zf2 rv hi
  rw [e] at hr
  obtain ⟨its',rv',pl,_⟩:=I.list ht
  exact ⟨a,its'.toArray,hr,pl.isList,zv rv'⟩⟩
 have fin:∀ (its:List Value),Vals ys its→∀ pp,HS.Sorted nss pp→EP X pins σ Q (.ref (s.heap.objs.size+1)) { s with heap:=sortedAll s.heap its (pp.map fun i=>its.getD i Value.none).toArray}:=fun its rv pp hp=>by
  obtain ⟨ep,ha⟩:=sortedAll_at s.heap its (pp.map fun i=>its.getD i Value.none).toArray
  have hle:s.heap.objs.size≤s.heap.objs.size+1:=Nat.le_succ _
  have hf:H (s.heap.objs.size+1)=none:=I.hok.fresh hle
  have hin:∀ i∈pp,i < ys.length:=fun i hi=>by
   have:=hp.pm.mem_iff.mp hi
   rw [hlen]; simpa using this
  refine ⟨.ref (s.heap.objs.size+1),upd H (s.heap.objs.size+1) (.lst (pp.map fun i=>ys.getD i .non)),I.laid (t':=s.toks) (fun b o e=>sortedAll_old e) hle ?_,rfl,q pp _ hp hf⟩
  refine ⟨?_,pp.map fun i=>its.getD i Value.none,ep,zdb rv hin,ha⟩
  rw [List.length_map,hp.pm.length_eq,List.length_range,← hlen]
  exact Nat.le_trans (Nat.le_of_lt hl) (by decide)
 rcases hq with hq | hq
 ·obtain ⟨its,rv,pl,hz⟩:=I.list hq
  exact HS.zcf (by lia) (.inl pl.isList) (tups its rv) (by rw [← rv.length]; exact hl) (fin its rv)
 ·obtain ⟨its,rv,pl,hz⟩:=I.tuple hq
  exact HS.zcf (by lia) (.inr pl) (tups its rv) (by rw [← rv.length]; exact hl) (fin its rv)
theorem zgw:∀ {ns:List Int} {ys:List V},ys.length=ns.length→((ns.map (Sum.inl:Int→Key)).zip ys).map (·.1)=ns.map Sum.inl
 | [],_,_=>rfl
 | n::ns,[],h=>by simp at h
 | n::ns,y::ys,h=>by
  rw [List.map_cons,List.zip_cons_cons,List.map_cons,zgw (by simpa using h)]
theorem zfi (hc:X.calm=true):CallR X (.builtin "sorted") (fun xs H Q=>∃ (p:Addr) (ns:List Int) (ys:List V),xs=[.ref p]∧H p=some (.dK ((ns.map Sum.inl).zip ys))∧ys.length=ns.length∧ns.length < 64∧∀ l,H l=none→Q (.ref l) (upd H l (.lst ((sortI ns).map V.int)))):=by
 intro pins s σ H xs us Q I r h
 obtain ⟨p,ns,ys,rfl,hp,hlen,hl,q⟩:=h
 obtain ⟨u,rfl,ru⟩:=vals1 r
 cases ru
 obtain ⟨z,hd,vs,rel,dd⟩:=zh4 I.hok hp
 obtain ⟨ep,da⟩:=dd.dictAt
 have hk:vs.map (·.1)=ns.map Sum.inl:=by rw [← rel.keys,zgw hlen]
 have hvl:vs.length=ns.length:=by have:=congrArg List.length hk; simpa using this
 refine Calls.call_function_entry kind_sorted plain_sorted entry_sorted (args_sorted1 _) ?_
 unfold Builtin.«sorted»
 refine wpAny_bind (m:=checkCount "sorted" 1 1 _) (wpAny_pure (wpAny_bind (HT.zgc (PySem.W.kdl_dict (kvs:=vs) (ep:=ep) hd) (I.ok.hd hc) da (by rw [hvl]; exact Nat.le_trans (Nat.le_of_lt hl) (by decide)) fun h' tk its hkeep hsz hlen' hits=>wpAny_bind (wpAny_newList ?_))))
 have hints:IntsAre its ns:=by
  have:∀ (its:List Value) (ns:List Int),its.length=ns.length→(∀ (j:Nat) v,its[j]? = some v→∃ n t,ns[j]? = some n∧v=Value.int n t)→IntsAre its ns:=by
   intro its
   induction its with
   | nil=>intro ns h1 _; cases ns with
    | nil=>exact .nil
    | cons _ _=>simp at h1
   | cons v its ih =>
    intro ns h1 h2
    cases ns with
    | nil=>simp at h1
    | cons n ns =>
     obtain ⟨m,t,e1,e2⟩:=h2 0 v rfl
     cases e1
     subst e2
     exact .cons _ _ (ih ns (by simpa using h1) fun j v hv=>by
      have:=h2 (j+1) v (by simpa using hv)
      simpa using this)
  refine this its ns (by rw [hlen',hvl]) fun j v hv=>?_
  obtain ⟨k,x,e1,e2⟩:=hits j v hv
  have e3:(vs.map (·.1))[j]? = some k:=by rw [List.getElem?_map,e1]; rfl
  rw [hk,List.getElem?_map] at e3
  cases e4:ns[j]? with
  | none=>rw [e4] at e3; cases e3
  | some n =>
   rw [e4] at e3
   cases e3
   rcases zp (show keyIs (Sum.inl n) v=true from e2) with ⟨i,t,e5,e6⟩ | ⟨i,t,e5,e6⟩
   ·cases e5; exact ⟨n,t,rfl,e6⟩
   ·cases e5
 have hoL:(h'.push (seqObj "list" its.toArray 0)).get? h'.objs.size=some (seqObj "list" its.toArray 0):=Heap.get?_push_size _ rfl
 refine wpAny_bind (wpAny_holding (wpAny_call_entry slot_list_sort ⟨_,hoL,rfl⟩ entry_list_sort (list_sort_tree hoL hints (by rw [hlen',hvl]; exact hl) fun out ns' a1 a2 a3=>⟨_,rfl,wpAny_pure ⟨_,rfl,?_⟩⟩) (args_list_sort _)))
 have e:ns'=sortI ns:=za9 (a2.trans (zu ns).symm) a3 (zb0 ns)
 subst e
 obtain ⟨ep2,ha⟩:=sortedHeap_at (out:=out) hoL
 have hf:H h'.objs.size=none:=I.hok.fresh hsz
 refine ⟨.ref h'.objs.size,upd H h'.objs.size (.lst ((sortI ns).map V.int)),I.laid (t':=tk) (fun b o e=>?_) hsz ?_,rfl,q _ hf⟩
 ·have hb:=hkeep b o e
  have hlt:=Heap.lt_size hb
  rw [sortedHeap_old (Nat.ne_of_lt hlt) (by rw [size_push']; exact Nat.lt_succ_of_lt hlt)]
  exact Heap.get?_push_of_some _ hb
 ·refine ⟨?_,out.toList,ep2,za7 a1,?_⟩
  ·rw [List.length_map,(zu ns).length_eq]
   exact Nat.le_trans (Nat.le_of_lt hl) (by decide)
  ·simpa using ha
theorem zg6:∀ (l:List Value) (f:Nat→Int),(∀ (j:Nat) v,l[j]? = some v→∃ t,v=Value.int (f j) t)→Vals ((List.range l.length).map fun i=>V.int (f i)) l
 | [],f,_=>.nil
 | v::l,f,h=>by
  rw [List.length_cons,List.range_succ_eq_map,List.map_cons,List.map_map]
  obtain ⟨t,e⟩:=h 0 v rfl
  exact .cons ⟨t,e⟩ (zg6 l (fun i=>f (i+1)) fun j v hv=>h (j+1) v (by simpa using hv))
theorem zl1 {a:Expr} {ta:TE} {p p2 p3 pos:Pos} (hc:X.calm=true) (hg:Gl X "list") (hm:X.mg "list" = none) (hg2:Gl X "range") (hm2:X.mg "range" = none) (hs:starEach [a] X.env=[(false,eval a X.env)]) (ha:PE X a ta) :
  PE X (.Call (.Name "list" p) [.Call (.Name "range" p2) [a] [] p3] [] pos) (fun σ H Q=>ta σ H fun x H1=>∃ j:Int,x=.int j∧-4000≤j∧j≤4000∧∀ l,H1 l=none→Q (.ref l) (upd H1 l (.lst ((List.range j.toNat).map fun i=>V.int (0+(i:Nat)))))):=by
 intro pins s σ H Q I h
 refine wpAny_Call_Name_kw (zce I hg hm PyProof.Rows.boot_list ?_)
 refine PyProof.Rows.callWith_type1 ?_ rfl rfl
 show wpAny _ _ (spliced [(false,eval (.Call (.Name "range" p2) [a] [] p3) X.env)]) _ _ s
 refine Calls.spliced_cons (wpAny_Call_Name_kw (zce I hg2 hm2 boot_range (PyProof.Rows.callWith_type1 ?_ hs rfl)))
 rw [hs]
 refine Calls.spliced_cons (thn (ha pins s σ H _ I h) fun v s1 ⟨x,H1,I1,r1,j,e,h1,h2,q⟩=>?_)
 subst e
 obtain ⟨t,rfl⟩:=r1
 refine Calls.spliced_nil (call_range_1 (Calls.spliced_nil ?_))
 have hrs:Builtin.Range.rangeSize 0 j 1=(j.toNat:Nat):=by rw [rangeSize_one]; split <;> lia
 refine call_list_range (n:=j.toNat) (I.ok.hd hc) (IsRange.new ..) (small_one (by lia) (by lia) (by lia) (by lia)) hrs (by lia) fun h' tk acc c hk hS hacc=>?_
 have hsz:(s1.heap.push { cls:=.type "range",data:=.fields #[.int 0 s1.toks,.int j t,.int 1 (s1.toks+1)]}).objs.size=s1.heap.objs.size+1:=Heap.size_push ..
 have hle:s1.heap.objs.size≤s1.heap.objs.size+1:=Nat.le_succ _
 show EP X pins σ Q (.ref (s1.heap.push { cls:=.type "range",data:=.fields #[.int 0 s1.toks,.int j t,.int 1 (s1.toks+1)]}).objs.size) _
 rw [hsz]
 have hS':h'.get? (s1.heap.objs.size+1)=some { cls:=.type "list",dict:=none,data:=.seq acc c,slots:=#[]}:=by rw [← hsz]; exact hS
 refine ⟨.ref (s1.heap.objs.size+1),upd H1 (s1.heap.objs.size+1) _,I1.laid (t':=tk) (fun b o e=>hk b o (Heap.get?_push_of_some _ e)) hle ?_,rfl,q _ (I1.hok.fresh hle)⟩
 refine ⟨by rw [List.length_map,List.length_range]; exact Nat.le_trans (show j.toNat≤4000 by lia) (by decide),acc.toList,c,?_,by simpa using hS'⟩
 have hl:acc.toList.length=j.toNat:=by rw [Array.length_toList]; exact hacc.1
 have:=zg6 acc.toList (fun i=>0+(i:Nat)) fun i v hv=>by
  obtain ⟨t,e⟩:=hacc.2 i v (by rw [← Array.getElem?_toList]; exact hv)
  exact ⟨t,by rw [e]; congr 1; lia⟩
 rw [hl] at this
 exact this
end
end L2
namespace L2
open PySem PySem.Spec PyProof.Rows
section
variable {X:Cx}
end
end L2
namespace HT
open PySem PyProof.Rows
section
open PySem.SeqAt
open PySem.AutoSeq1 (wpAny_loadPart')
open PySem.MeetsSeq PySem.MeetsSeq2 PySem.MeetsSeq3
end
section
variable {prog:Program} {w:World} {A:Around} {E:Value→Shared→Prop} {s:Shared}
end
end HT
namespace HT
open PySem PyProof.Rows
section
variable {prog:Program} {w:World} {A:Around} {E:Value→Shared→Prop} {s:Shared}
theorem ze2 {T newId initId:String} {args:List Value} {Q Q₁:Value→Shared→Prop} (ft:TypeCalled T newId initId) (hct:checkTypeCall T ⟨args,[]⟩=pure ())
  (hnew:codeAny (model prog w) A.in1 (.call (.builtin newId) ⟨.type T::args,[]⟩) (wants Q₁ E) s)
  (hinit:∀ obj s₁,Q₁ obj s₁→s₁.TypeIs obj T∧codeAny (model prog w) A.in1 (.call (.builtin initId) ⟨obj::args,[]⟩) (wants (fun r s₂=>r=.none∧Q obj s₂) E) s₁):wpAny (model prog w) A (call (.type T) args) Q E s:=by
 obtain ⟨c0,tl0,hm⟩:=ft.mro
 have a1:=ft.made
 have a2:=ft.sub
 have a3:=ft.notType
 have a4:=ft.canCreate
 have a5:=ft.init.lookup
 refine wpAny_call (codeAny_of_tree (show wpAny _ _ (callAny (.type T) _) _ _ _ from wpAny_pure ⟨Code.quiet_builtin _ (by decide +kernel),codeAny_builtin F.entry_type_call ?_⟩))
 rw [Around.under_plain (weight_type_call_type T args []) rfl]
 repeat (any_goals (first | assumption | wp_step))
 refine codeAny_mono hnew fun r s₁ hr=>?_
 cases r with
 | error e=>exact hr
 | ok fl =>
  cases fl with
  | ret obj =>
   obtain ⟨hT,hc⟩:=hinit obj s₁ hr
   have a6:=ft.init.bind obj
   repeat (any_goals (first | assumption | wp_step))
   refine codeAny_mono hc fun r₂ s₂ hr₂=>?_
   cases r₂ with
   | error e=>exact hr₂
   | ok fl₂ =>
    cases fl₂ with
    | ret v =>
     obtain ⟨rfl,hq⟩:=hr₂
     repeat (any_goals (first | assumption | wp_step))
    | next=>exact hr₂.elim
    | brk=>exact hr₂.elim
    | cont=>exact hr₂.elim
  | next=>exact hr.elim
  | brk=>exact hr.elim
  | cont=>exact hr.elim
end
end HT
namespace L2
open PySem PySem.Spec PyProof.Rows
open PY (insI sortI minI)
section
variable {X:Cx}
noncomputable def rInsert:V→List V→Hp→VK→Prop:=fun x vs H Q=>∃ (l:Addr) (xs:List V) (k:Int) (y:V),x=.ref l∧vs=[.int k,y]∧H l=some (.lst xs)∧-(2 ^ 62)≤k∧k < 2 ^ 62∧xs.length < sizeLine∧Q .non (upd H l (.lst (PY.putAt xs k y)))
theorem zjw:MtM X "list.insert" rInsert:=by
 intro pins s σ H x vs v us Q I rx rv h
 obtain ⟨l,xs,k,y,rfl,rfl,hH,k1,k2,hz,q⟩:=h
 cases rx
 obtain ⟨u,u',rfl,⟨t,rfl⟩,ru⟩:=rv.two
 obtain ⟨z,its,n,r,hl,e⟩:=I.lstM hH
 refine call_meets PySem.F.slot_list_insert ⟨_,e,rfl⟩ PySem.F.entry_list_insert (PySem.F.args_list_insert_3 _ _ _) (PySem.AutoListH.list_insert_list_int_val_1 l its.toArray n k t u' (by unfold Builtin.List.listFitsIndex; simp; lia) (by rw [List.size_toArray,← hl]; exact z)) ⟨e,?_⟩
 have hp:xs.length=its.length:=hl
 refine ⟨.non,_,I.lset (its':=PY.putAt its k u') hH e ?_ ?_ ?_,rfl,q⟩
 ·unfold PY.putAt
  simp only [List.extract_toArray,List.push_toArray,List.append_toArray,List.extract_eq_drop_take,List.size_toArray,List.drop_zero,Nat.sub_zero,List.append_assoc]
  rw [List.take_of_length_le (l:=List.drop _ _) (by rw [List.length_drop]; exact Nat.le_refl _)]
  rfl
 ·unfold PY.putAt
  rw [hp]
  exact (r.take _).append (.cons ru (r.drop _))
 ·unfold PY.putAt
  rw [List.length_append,List.length_cons,List.length_take,List.length_drop]
  lia
end
end L2
namespace L2
open PySem PySem.Spec PyProof.Rows
open PY (maxI)
section
variable {X:Cx}
end
end L2
namespace PY
open PySem
structure Cfg where
 fns:List Str
 cons:List (Str×Cn)
 bls:List Str
 here:Bool
noncomputable def lamNames:List Str :=
 []
noncomputable def idx (N:List Str) (x:Str):Option Nat:=N.findIdx? (· == x)
noncomputable def seen (sc:Scope) (x:Str):Bool:=match sc.names.lookup x with
 | some .local=>true | some .cell=>true | some .free=>true | _=>false
noncomputable def gl (sc:Scope) (x:Str):Bool:=match sc.names.lookup x with
 | some .globalImplicit=>true | _=>false
noncomputable def nice (x:Str):Bool:=!(x==("__debug__" : Str))&&!(x==("__classdict__" : Str))&&!(x==("__name__" : Str))
noncomputable def guard' {α:Type} (b:Bool) (o:Option α):Option α:=if b then o else none
noncomputable def cBop:Operator→Option Bop
 | .Add=>some .add | .Sub=>some .sub | .Mult=>some .mul | .FloorDiv=>some .fdiv | .Mod=>some .mod | _=>none
noncomputable def cCop:CmpOp→Cop
 | .Eq=>.eq | .NotEq=>.ne | .Lt=>.lt | .LtE=>.le | .Gt=>.gt | .GtE=>.ge | .Is=>.isC | .IsNot=>.notC | .In=>.isin | .NotIn=>.notin
noncomputable def cCon:Const→Option Cn
 | .none=>some .non | .bool b=>some (.bl b) | .int i=>some (.int i) | .str x=>some (.str x) | _=>none
noncomputable def cTy (x:Str):Option Ty :=
 if x==("int" : Str) then some .int else if x==("bool" : Str) then some .bool else if x==("str" : Str) then some .str
 else if x==("tuple" : Str) then some .tuple else if x==("list" : Str) then some .list else none
noncomputable def cBi (x:Str):Option Bi :=
 if x==("len" : Str) then some .len else
 if x==("tuple" : Str) then some .tuple else
 if x==("list" : Str) then some .list else
 if x==("sorted" : Str) then some .sorted else
 if x==("min" : Str) then some .min1 else
 if x==("any" : Str) then some .any else
 if x==("sum" : Str) then some .sum else
 none
noncomputable def nameOf:Expr→Option Str
 | .Name x _=>some x
 | _=>none
noncomputable def callOf:Expr→Option (Str×List Expr)
 | .Call f as [] _=>(nameOf f).map fun x=>(x,as)
 | _=>none
noncomputable def oneOf {α:Type}:List α→Option α
 | [a]=>some a
 | _=>none
noncomputable def nest (x:Str) (e:Expr):Option (Str×Bi×Expr):=(callOf e).bind fun (y,as)=>(oneOf as).bind fun a =>
  if x==("len" : Str)&&y==("set" : Str) then some (y,.lenset,a) else
  none
noncomputable def rangeArg (x:Str) (e:Expr):Option Expr:=(callOf e).bind fun (y,as)=>if x==("list" : Str)&&y==("range" : Str) then oneOf as else none
noncomputable def isPlainConst:Expr→Bool
 | .Constant .none _ _=>true
 | .Constant (.bool _) _ _=>true
 | _=>false
noncomputable def opOk (op:CmpOp) (b:Expr):Bool:=match op with
 | .Is=>isPlainConst b
 | .IsNot=>isPlainConst b
 | _=>true
noncomputable def isSlice:Expr→Bool
 | .Slice ..=>true
 | _=>false
noncomputable def namesOf:List Expr→Option (List Str)
 | []=>some []
 | .Name x _::r=>(namesOf r).map (x::·)
 | _=>none
noncomputable def tgNames:Expr→Option (Bool×List Str)
 | .Name x _=>some (true,[x])
 | .Tuple es _ _=>(namesOf es).map fun l=>(false,l)
 | _=>none
noncomputable def allIdx (N:List Str):List Str→Option (List Nat)
 | []=>some []
 | x::r=>(idx N x).bind fun i=>(allIdx N r).map (i::·)
noncomputable def frees (sc:Scope):List Str:=(sc.names.filter fun p=>p.2 == .free).map (·.1)
noncomputable def capt (sc:Scope) (x:Str):Bool:=sc.names.lookup x==some .cell||sc.names.lookup x==some .free
noncomputable def isLocal (sc:Scope) (x:Str):Bool:=sc.names.lookup x==some .local
noncomputable def xOk:Expr→Option E→Option E
 | .BoolOp _ _ _,some (.call _ _)=>none
 | _,o=>o
noncomputable def enumOk:I→Expr→Bool
 | .enum _,.Tuple ..=>true
 | .enum _,_=>false
 | _,_=>true
noncomputable def tgOf (one:Bool) (is:List Nat):Option Tg:=if one then (match is with | [i]=>some (.one i) | _=>none) else some (.many is)
noncomputable def plainBase:Expr→Bool
 | .Call ..=>false
 | _=>true
section
variable (cf:Cfg)
noncomputable def blk (sc:Scope) (x:Str):Bool:=gl sc x&&nice x&&cf.bls.contains x
mutual
noncomputable def cE:Nat→Scope→List Str→Expr→Option E
 | 0,_,_,_=>none
 | n+1,sc,N,e=>match e with
  | .Constant c _ _=>(cCon c).map .con
  | .Name x _=>guard' (nice x) (if seen sc x then (idx N x).map .var else guard' (gl sc x) ((cf.cons.lookup x).map (.glob x)))
  | .BinOp a o b _=>(cBop o).bind fun o=>(cE n sc N a).bind fun a=>(cE n sc N b).map (.bin o a)
  | .UnaryOp .Not a _=>(cE n sc N a).map .not
  | .UnaryOp .USub a _=>(cE n sc N a).map .neg
  | .BoolOp .And vs _=>cAnd n sc N vs
  | .BoolOp .Or vs _=>cOr n sc N vs
  | .Compare a [o] [b] _=>guard' (opOk o b&&!behindInMarks o b) ((cE n sc N a).bind fun a=>(cE n sc N b).map (.cmp (cCop o) a))
  | .Tuple es _ _=>(cEs n sc N es).map .tup
  | .List es _=>(cEs n sc N es).map .lst
  | .Dict [] [] _=>some .dic0
  | .Dict [some k] [v] _=>(cE n sc N k).bind fun k=>(cE n sc N v).map (.dic1 k)
  | .Subscript a (.Slice lo hi none _) _=>(cE n sc N a).bind fun a=>(cEo n sc N lo).bind fun lo=>(cEo n sc N hi).map (.sl a lo)
  | .Subscript a i _=>guard' (!isSlice i) ((cE n sc N a).bind fun a=>(cE n sc N i).map (.ix a))
  | .Call (.Name x _) args [] _ =>
    guard' (gl sc x&&nice x) (match idx cf.fns x with
     | some f =>
      match args with
      | []=>none
      | _::_=>(cEs n sc N args).map (.call f)
     | none=>guard' (cf.bls.contains x) (match args with
      | [a,b]=>if x==("isinstance" : Str) then (match b with
        | .Name t _=>guard' (blk cf sc t) ((cTy t).bind fun t=>(cE n sc N a).map fun a=>.isi a t)
        | _=>none) else
        none
      | [a]=>match nest x a with
       | some (y,b,a')=>guard' (blk cf sc y) ((cE n sc N a').map (.bi b))
       | none =>
        match rangeArg x a with
        | some a'=>guard' (blk cf sc "range") ((cE n sc N a').map fun a=>.lrng (.rng1 a))
        | none =>
        (cBi x).bind fun b=>(cE n sc N a).map (.bi b)
      | _=>none))
  | .Call (.Attribute o m apos) [e] [] cpos=>guard' (m==("index" : Str)&&apos.endLine==cpos.line&&plainBase o) ((cE n sc N o).bind fun o=>(cE n sc N e).map (.ixof o))
  | .ListComp elt [⟨tg,it,ifs,0⟩] scope _ =>
    (tgNames tg).bind fun (one,T)=>(allIdx N (frees scope)).bind fun keep=>(cI n sc N it).bind fun i =>
     guard' (enumOk i tg&&decide (T++frees scope).Nodup&&T.all (isLocal scope)&&decide (scope.kind=.function)&&scope.names.all (fun p=>p.2 != .cell)&&scope.names.all (fun p=>scope.names.lookup p.1==some p.2)&&(frees scope).all (capt sc))
      ((tgOf one (List.range T.length)).bind fun t=>(match ifs with | []=>some Eo.no | [c]=>(cE n scope (T++frees scope) c).map Eo.so | _=>none).bind fun c =>
       (cE n scope (T++frees scope) elt).map fun e=>.comp e t i c T.length keep)
  | _=>none
noncomputable def cAnd:Nat→Scope→List Str→List Expr→Option E
 | 0,_,_,_=>none
 | n+1,sc,N,es=>match es with
  | [a]=>cE n sc N a
  | a::b::r=>(cE n sc N a).bind fun x=>(cAnd n sc N (b::r)).map (.and x)
  | []=>none
noncomputable def cOr:Nat→Scope→List Str→List Expr→Option E
 | 0,_,_,_=>none
 | n+1,sc,N,es=>match es with
  | [a]=>cE n sc N a
  | a::b::r=>(cE n sc N a).bind fun x=>(cOr n sc N (b::r)).map (.or x)
  | []=>none
noncomputable def cEs:Nat→Scope→List Str→List Expr→Option Es
 | 0,_,_,_=>none
 | n+1,sc,N,es=>match es with
  | []=>some .nil
  | .Starred ..::_=>none
  | e::r=>(cE n sc N e).bind fun x=>(cEs n sc N r).map (.cons x)
noncomputable def cEo:Nat→Scope→List Str→Option Expr→Option Eo
 | 0,_,_,_=>none
 | n+1,sc,N,o=>match o with
  | none=>some .no
  | some e=>(cE n sc N e).map .so
noncomputable def cI:Nat→Scope→List Str→Expr→Option I
 | 0,_,_,_=>none
 | n+1,sc,N,e=>match e with
  | .Call (.Name x _) args [] _ =>
    if blk cf sc x&&x==("range" : Str) then (match args with
     | [a]=>(cE n sc N a).map .rng1
     | [a,b]=>(cE n sc N a).bind fun a=>(cE n sc N b).map (.rng2 a)
     | _=>none)
    else if blk cf sc x&&x==("enumerate" : Str) then (match args with
     | [a]=>(cE n sc N a).map .enum
     | _=>none)
    else (cE n sc N e).map .seq
  | .Set ..=>none
  | _=>(cE n sc N e).map .seq
end
noncomputable def isComp:Expr→Bool
 | .ListComp ..=>true
 | .SetComp ..=>true
 | .DictComp ..=>true
 | _=>false
noncomputable def isTupE:Expr→Bool
 | .Tuple ..=>true
 | .List ..=>true
 | _=>false
noncomputable def popOf:Expr→Option (Str×Option Expr)
 | .Call (.Attribute (.Name x _) m apos) [] [] cpos=>if m==("pop" : Str)&&apos.endLine==cpos.line then some (x,none) else none
 | _=>none
noncomputable def putOf:Expr→Option (Str×Expr)
 | .Subscript (.Name x _) k _=>if isSlice k then none else some (x,k)
 | _=>none
noncomputable def isLC:Expr→Bool
 | .ListComp ..=>true
 | _=>false
noncomputable def frzI:I→S→S
 | .seq (.var i),s=>.frz [i] s
 | .enum (.var i),s=>.frz [i] s
 | _,s=>s
noncomputable def retOk:Expr→E→Bool
 | .Name ..,_=>true
 | _,.var _=>false
 | _,_=>true
inductive SK where
 | asg (tg v:Expr) | ret (e:Expr) | cond (c:Expr) (a b:List Stmt) | brk | cnt | skip | loop (tg it:Expr) (b:List Stmt) | whl (c:Expr) (b:List Stmt) | exp (e:Expr)
 | tri (b:List Stmt) (hs:List ExceptHandler) | rse (o:Option Expr) | other
noncomputable def sk:Stmt→SK
 | .Assign [tg] v _=>.asg tg v
 | .Return (some e) _=>.ret e
 | .If c a b _=>.cond c a b
 | .Break _=>.brk
 | .Continue _=>.cnt
 | .Pass _=>.skip
 | .For tg it b [] _=>.loop tg it b
 | .While c b [] _=>.whl c b
 | .Expr e _=>.exp e
 | .Try b hs [] [] _=>.tri b hs
 | .Raise o none _=>.rse o
 | _=>.other
noncomputable def methOf:Expr→Option (Str×Str×List Expr×Bool)
 | .Call (.Attribute o m apos) as [] cpos=>(nameOf o).map fun x=>(x,m,as,apos.endLine==cpos.line)
 | _=>none
mutual
noncomputable def cS:Nat→Scope→List Str→Stmt→Option S
 | 0,_,_,_=>none
 | n+1,sc,N,st=>match sk st with
  | .asg tg v =>
   match popOf v with
   | some (x,k)=>guard' (nice x&&seen sc x) ((tgNames tg).bind fun (one,T)=>guard' (T.all (fun x=>seen sc x&&!(sc.names.lookup x==some .free)))
     ((allIdx N T).bind fun is=>(tgOf one is).bind fun t=>(idx N x).bind fun i=>match k with
      | some _=>none
      | none=>some (.pop t i (.con (.int (-1))))))
   | none =>
   match putOf tg with
    | some (x,k) =>
     guard' (nice x&&seen sc x&&!isComp v) ((idx N x).bind fun i=>(cE cf n sc N k).bind fun k=>(cE cf n sc N v).map fun v=>.dput i k v)
    | none =>
    if isLC v then (match tg with
     | .Name y _=>guard' (seen sc y&&!(sc.names.lookup y==some .free)) ((idx N y).bind fun i=>(cE cf n sc N v).map
      (.asg (.one i)))
     | _=>none)
    else guard' (!isComp v) ((tgNames tg).bind fun (one,T)=>guard' (T.all (fun x=>seen sc x&&!(sc.names.lookup x==some .free))&&(one||!isTupE v))
     ((allIdx N T).bind fun is=>(tgOf one is).bind fun t=>(xOk v (cE cf n sc N v)).map
      (.asg t)))
  | .ret e=>(cE cf n sc N e).bind fun e'=>guard' (retOk e e') (some (.ret e'))
  | .cond c a b=>(cE cf n sc N c).bind fun c=>(cSs n sc N a).bind fun a=>(cSs n sc N b).map (.cond c a)
  | .brk=>some .brk
  | .cnt=>some .cnt
  | .skip=>some .skip
  | .loop tg it b=>(tgNames tg).bind fun (one,T)=>guard' (T.all (fun x=>seen sc x&&!(sc.names.lookup x==some .free)))
    ((allIdx N T).bind fun is=>(tgOf one is).bind fun t=>(cI cf n sc N it).bind fun i=>guard' (enumOk i tg) ((cSs n sc N b).map fun b=>frzI i (.loop t i b)))
  | .whl c b =>
   (cE cf n sc N c).bind fun c=>(cSs n sc N b).map (.while c)
  | .exp e=>match methOf e with
   | some (x,m,as,g)=>(match as with
    | [e]=>guard' (nice x&&seen sc x&&m==("append" : Str)&&g) ((idx N x).bind fun i=>(cE cf n sc N e).map (.app i))
    | [k,e]=>guard' (nice x&&seen sc x&&m==("insert" : Str)&&g) ((idx N x).bind fun i=>(cE cf n sc N k).bind fun k=>(cE cf n sc N e).map (.ins i k))
    | _=>none)
   | none =>
    none
  | .tri b hs =>
   none
  | .rse o =>
    some .never
  | .other=>none
noncomputable def cSs:Nat→Scope→List Str→List Stmt→Option Ss
 | 0,_,_,_=>none
 | n+1,sc,N,sts=>match sts with
  | []=>some .nil
  | s::r=>(cS n sc N s).bind fun x=>(cSs n sc N r).map (.cons x)
end
end
noncomputable def argNames (a:Arguments):List Str:=a.args.map (·.arg)
noncomputable def locals (sc:Scope):List Str:=(sc.names.filter fun p=>p.2 == .local||p.2 == .cell).map (·.1)
noncomputable def frameNames (ps:List Str) (sc:Scope):List Str:=ps++(locals sc).filter fun x=>!ps.contains x
noncomputable def plainArgs (a:Arguments):Bool:=a.posonlyargs.isEmpty&&a.vararg.isNone&&a.kwonlyargs.isEmpty&&a.kwarg.isNone&&a.defaults.isEmpty
noncomputable def fnOk (ps N:List Str) (sc:Scope):Bool:=decide (sc.kind=.function)&&!sc.isCoroutine&&!sc.isGenerator&&decide N.Nodup&&decide (N.take ps.length=ps)
 && ps.all (fun x=>sc.names.lookup x==some .local||sc.names.lookup x==some .cell)&&sc.names.all (fun p=>p.2 != .free)
noncomputable def ioB:Ss→Bool
 | .cons .io _=>true
 | _=>false
noncomputable def hereOf (cf:Cfg) (nm:Str):Cfg :=
 { cf with here:=lamNames.contains nm}
noncomputable def cFn (cf:Cfg):Stmt→Option Fn
 | .FunctionDef nm as body p1 p2 p3 sc p4 p5 p6=>guard' (plainArgs as&&fnOk (argNames as) (frameNames (argNames as) sc) sc) ((cSs (hereOf cf nm) 60 sc (frameNames (argNames as) sc) body).bind fun b=>guard' (!ioB b) (some ⟨(argNames as).length,(frameNames (argNames as) sc).length,
   b⟩))
 | _=>none
noncomputable def defName:Stmt→Option Str
 | .FunctionDef n ..=>some n
 | _=>none
noncomputable def topDefs (p:Program):List Stmt:=p.main.body.filter fun s=>(defName s).isSome
noncomputable def topCons:List Stmt→List (Str×Cn)
 | []=>[]
 | .Assign [.Name x _] (.Constant c _ _) _::r=>if x==("__name__" : Str) then topCons r else (match cCon c with | some d=>(x,d)::topCons r | none=>topCons r)
 | _::r=>topCons r
noncomputable def bnames:List Str:=["isinstance", "int", "bool", "str", "tuple", "list", "len", "all", "any", "sorted", "range", "enumerate", "min", "max", "set", "reversed", "sum", "ValueError"]
noncomputable def cfgOf (p:Program):Cfg:=⟨(topDefs p).filterMap defName,topCons p.main.body,bnames
 ,false
 ⟩
noncomputable def dead:Fn:=⟨0,0,.cons .never .nil⟩
noncomputable def compile (p:Program):Option (List Fn):=some ((topDefs p).map fun s=>(cFn (cfgOf p) s).getD dead)
end PY
namespace SD
open PySem PySem.Spec PyProof.Rows L2 PY
abbrev St:=L2.St
abbrev Fz:=Addr→Prop
def FT (K:Frag) (F:Fz) (H:Hp) (a:Addr) (xs:List V):Prop:=H a=some (.tup xs)
def FL (K:Frag) (F:Fz) (H:Hp) (a:Addr) (xs:List V):Prop:=(F a∧Rd H a (.lst xs))∨∀ H',SqL K H' a xs
def DH (H:Hp) (a:Addr) (ks:List D) (us:List V):Prop :=
 (∃ ns:List Int,ks=ns.map .int∧ns.Nodup∧us.length=ns.length∧H a=some (.dK ((ns.map Sum.inl).zip us))) ∨
 ∃ nss:List (List Int),ks=nss.map tupI∧nss.Nodup∧us.length=nss.length∧H a=some (.dT ((nss.map fun n=>n.map Sum.inl).zip us))
def NT:HO→Prop
 | .tbl _=>False
 | _=>True
def Chg:HO→Prop
 | .lst _=>True
 | .dK _=>True
 | .dT _=>True
 | _=>False
def TabsOk (H:Hp):Prop:=∀ P ps,H P=some (.tbl ps)→TriplesOk ps.toList∧∀ pos cv,codeAmong pos ps.toList=some cv→∃ c oc vs q t,cv=.ref c∧H c=some (.frz oc (.own 0))∧oc.data=.fields vs∧vs[1]? = some (.str q t)
def TabR (H H':Hp):Prop:=(∀ a ps,H a=some (.tbl ps)→∃ ps',H' a=some (.tbl ps'))∧(TabsOk H→TabsOk H')
def Tabs (K:Frag) (H:Hp):Prop:=TabsOk H∧∀ x∈lamNames,∀ c P,PySem.W.tabIn K x=some (c,P)→∃ ps,H P=some (.tbl ps)
theorem TabR.refl (H:Hp):TabR H H:=⟨fun _ ps e=>⟨ps,e⟩,id⟩
theorem TabR.trans {H H' H'':Hp} (a:TabR H H') (b:TabR H' H''):TabR H H'':=⟨fun x ps e=>let ⟨_,e1⟩:=a.1 x ps e; b.1 x _ e1,fun z=>b.2 (a.2 z)⟩
theorem TabR.upd {H:Hp} {p:Addr} {o:HO} (h:∀ u,H p=some u→Chg u) (n:NT o):TabR H (L2.upd H p o):=by
 have ne:∀ a u,H a=some u→¬ Chg u→a≠p:=fun a u e nm z=>nm (h u (by rw [← z]; exact e))
 refine ⟨fun a ps e=>⟨ps,by rw [zj (ne a _ e id)]; exact e⟩,fun z P ps e=>?_⟩
 by_cases hp:P=p
 ·rw [hp,zg] at e; cases e; exact n.elim
 ·rw [zj hp] at e
  obtain ⟨h1,h2⟩:=z P ps e
  refine ⟨h1,fun pos cv hc=>?_⟩
  obtain ⟨c,oc,vs,q,t,g1,g2,g3⟩:=h2 pos cv hc
  exact ⟨c,oc,vs,q,t,g1,by rw [zj (ne c _ g2 id)]; exact g2,g3⟩
theorem Tabs.step {K:Frag} {H H':Hp} (t:Tabs K H) (r:TabR H H'):Tabs K H':=⟨r.2 t.1,fun x hx c P e=>let ⟨ps,e1⟩:=t.2 x hx c P e; r.1 P ps e1⟩
mutual
def Rep (K:Frag) (F:Fz) (H:Hp):D→V→Prop
 | .non,v=>v=.non
 | .bl b,v=>v=.bl b
 | .int i,v=>v=.int i
 | .str x,v=>v=.str x
 | .tup l,v=>∃ a xs,v=.ref a∧FT K F H a xs∧Reps K F H l xs
 | .lst l,v=>∃ a xs,v=.ref a∧FL K F H a xs∧Reps K F H l xs
 | .dic ks vs,v=>∃ a us,v=.ref a∧F a∧DH H a ks us∧Reps K F H vs us
def Reps (K:Frag) (F:Fz) (H:Hp):List D→List V→Prop
 | [],vs=>vs=[]
 | d::ds,vs=>∃ v r,vs=v::r∧Rep K F H d v∧Reps K F H ds r
end
section
variable {K:Frag} {F F' F'':Fz} {H H' H'':Hp}
theorem FT.seq {a:Addr} {xs:List V} (h:FT K F H a xs):SqT K H a xs:=.inl (.inl h)
theorem FL.seq {a:Addr} {xs:List V} (h:FL K F H a xs):SqL K H a xs:=h.elim (fun h=>.inl h.2) fun h=>h H
def Keep (F:Fz) (H:Hp) (F':Fz) (H':Hp):Prop:=(∀ a,F a→F' a)∧(∀ a o,F a→NT o→H a=some o→H' a=some o)∧∀ a xs,H a=some (.tup xs)→H' a=some (.tup xs)
theorem Rd.keep {a:Addr} {u:HO} (h:Rd H a u) (k:∀ o,NT o→H a=some o→H' a=some o) (n:NT u:=by exact True.intro):Rd H' a u:=h.elim (fun e=>.inl (k _ n e)) fun ⟨o,e⟩=>.inr ⟨o,k _ True.intro e⟩
theorem FT.keep {a:Addr} {xs:List V} (h:FT K F H a xs) (k:Keep F H F' H'):FT K F' H' a xs:=k.2.2 a xs h
theorem FL.keep {a:Addr} {xs:List V} (h:FL K F H a xs) (k:Keep F H F' H'):FL K F' H' a xs:=h.elim (fun h=>.inl ⟨k.1 a h.1,Rd.keep h.2 fun o n e=>k.2.1 a o h.1 n e⟩) .inr
theorem DH.keep {a:Addr} {ks:List D} {us:List V} (h:DH H a ks us) (k:∀ o,NT o→H a=some o→H' a=some o):DH H' a ks us :=
 h.imp (fun ⟨ns,h1,h2,h3,h4⟩=>⟨ns,h1,h2,h3,k _ True.intro h4⟩) fun ⟨ns,h1,h2,h3,h4⟩=>⟨ns,h1,h2,h3,k _ True.intro h4⟩
theorem DH.mut {a:Addr} {ks:List D} {us:List V} (h:DH H a ks us):∀ u,H a=some u→Chg u:=fun u e=>by
 rcases h with ⟨_,_,_,_,h⟩ | ⟨_,_,_,_,h⟩ <;> (rw [h] at e; cases e; exact True.intro)
theorem DH.nt {a:Addr} {ks:List D} {us:List V} {ob:HO} (h:DH (upd H a ob) a ks us):NT ob:=by
 rcases h with ⟨_,_,_,_,h⟩ | ⟨_,_,_,_,h⟩ <;> (rw [zg] at h; cases h; exact True.intro)
theorem DH.ne {a:Addr} {ks:List D} {us:List V} (h:DH H a ks us):H a≠none:=by
 rcases h with ⟨_,_,_,_,h⟩ | ⟨_,_,_,_,h⟩ <;> rw [h] <;> simp
mutual
theorem Rep.keep (k:Keep F H F' H'):∀ {d:D} {v:V},Rep K F H d v→Rep K F' H' d v
 | .non,_,h=>h
 | .bl _,_,h=>h
 | .int _,_,h=>h
 | .str _,_,h=>h
 | .tup l,v,h=>by
  rw [Rep] at h ⊢
  obtain ⟨a,xs,e,h1,h2⟩:=h
  exact ⟨a,xs,e,h1.keep k,Reps.keep k h2⟩
 | .lst l,v,h=>by
  rw [Rep] at h ⊢
  obtain ⟨a,xs,e,h1,h2⟩:=h
  exact ⟨a,xs,e,h1.keep k,Reps.keep k h2⟩
 | .dic ks vs,v,h=>by
  rw [Rep] at h ⊢
  obtain ⟨a,us,e,h0,h1,h2⟩:=h
  exact ⟨a,us,e,k.1 a h0,h1.keep fun o n q=>k.2.1 a o h0 n q,Reps.keep k h2⟩
theorem Reps.keep (k:Keep F H F' H'):∀ {ds:List D} {vs:List V},Reps K F H ds vs→Reps K F' H' ds vs
 | [],_,h=>h
 | d::ds,vs,h=>by
  rw [Reps] at h ⊢
  obtain ⟨v,r,e,h1,h2⟩:=h
  exact ⟨v,r,e,Rep.keep k h1,Reps.keep k h2⟩
end
theorem Reps.length:∀ {ds:List D} {vs:List V},Reps K F H ds vs→ds.length=vs.length
 | [],vs,h=>by rw [Reps] at h; subst h; rfl
 | d::ds,vs,h=>by
  rw [Reps] at h
  obtain ⟨v,r,rfl,_,h2⟩:=h
  rw [List.length_cons,List.length_cons,Reps.length h2]
theorem Reps.get:∀ {ds:List D} {vs:List V} {i:Nat} {d:D},Reps K F H ds vs→ds[i]? = some d→∃ v,vs[i]? = some v∧Rep K F H d v
 | [],_,_,_,_,e=>by simp at e
 | x::ds,vs,0,d,h,e=>by
  rw [Reps] at h
  obtain ⟨v,r,rfl,h1,_⟩:=h
  simp at e; subst e
  exact ⟨v,rfl,h1⟩
 | x::ds,vs,i+1,d,h,e=>by
  rw [Reps] at h
  obtain ⟨v,r,rfl,_,h2⟩:=h
  obtain ⟨u,h3,h4⟩:=Reps.get (i:=i) h2 (by simpa using e)
  exact ⟨u,by simpa using h3,h4⟩
theorem Reps.nil:Reps K F H [] []:=by rw [Reps]
theorem Reps.cons {d:D} {v:V} {ds:List D} {vs:List V} (h:Rep K F H d v) (t:Reps K F H ds vs):Reps K F H (d::ds) (v::vs):=by rw [Reps]; exact ⟨v,vs,rfl,h,t⟩
theorem Reps.append:∀ {ds es:List D} {vs us:List V},Reps K F H ds vs→Reps K F H es us→Reps K F H (ds++es) (vs++us)
 | [],es,vs,us,h,t=>by rw [Reps] at h; subst h; exact t
 | d::ds,es,vs,us,h,t=>by
  rw [Reps] at h
  obtain ⟨v,r,rfl,h1,h2⟩:=h
  exact .cons h1 (Reps.append h2 t)
theorem Reps.take:∀ {ds:List D} {vs:List V} (n:Nat),Reps K F H ds vs→Reps K F H (ds.take n) (vs.take n)
 | _,_,0,_=>.nil
 | [],vs,n+1,h=>by rw [Reps] at h; subst h; exact .nil
 | d::ds,vs,n+1,h=>by
  rw [Reps] at h
  obtain ⟨v,r,rfl,h1,h2⟩:=h
  exact .cons h1 (Reps.take n h2)
theorem Reps.drop:∀ {ds:List D} {vs:List V} (n:Nat),Reps K F H ds vs→Reps K F H (ds.drop n) (vs.drop n)
 | _,_,0,h=>h
 | [],vs,n+1,h=>by rw [Reps] at h; subst h; exact .nil
 | d::ds,vs,n+1,h=>by
  rw [Reps] at h
  obtain ⟨v,r,rfl,h1,h2⟩:=h
  exact Reps.drop n h2
theorem Reps.snoc {ds:List D} {vs:List V} {d:D} {v:V} (h:Reps K F H ds vs) (r:Rep K F H d v):Reps K F H (ds++[d]) (vs++[v]):=h.append (.cons r .nil)
structure Grow (F:Fz) (H:Hp) (F':Fz) (H':Hp):Prop where
 sub:∀ a,F a→F' a
 same:∀ a o,H a=some o→(n:NT o:=by exact True.intro)→H' a=some o
 tab:TabR H H'
 new:∀ a,F' a→F a∨(H a=none∧H' a≠none)
theorem Grow.free (g:Grow F H F' H') {l:Addr} (h:H' l=none):H l=none:=by
 cases e:H l with
 | none=>rfl
 | some o =>
  cases o <;> first | (rw [g.same l _ e] at h; cases h; done) | skip
  obtain ⟨_,e1⟩:=g.tab.1 l _ e
  rw [e1] at h; cases h
theorem Grow.refl (F:Fz) (H:Hp):Grow F H F H:=⟨fun _ h=>h,fun _ _ e _=>e,TabR.refl H,fun _ h=>.inl h⟩
theorem Grow.trans (a:Grow F H F' H') (b:Grow F' H' F'' H''):Grow F H F'' H'' :=
 ⟨fun x h=>b.sub x (a.sub x h),fun x o e n=>b.same x o (a.same x o e n) n,a.tab.trans b.tab,fun x h=>(b.new x h).elim (fun h=>(a.new x h).imp id fun ⟨h1,h2⟩=>⟨h1,fun z=>h2 (b.free z)⟩) fun ⟨h1,h2⟩=>.inr ⟨a.free h1,h2⟩⟩
theorem Grow.keep (g:Grow F H F' H'):Keep F H F' H':=⟨g.sub,fun a o _ n e=>g.same a o e n,fun a xs e=>g.same a _ e⟩
theorem Rep.grow {d:D} {v:V} (h:Rep K F H d v) (g:Grow F H F' H'):Rep K F' H' d v:=h.keep g.keep
theorem Reps.grow {d:List D} {v:List V} (h:Reps K F H d v) (g:Grow F H F' H'):Reps K F' H' d v:=h.keep g.keep
structure GrowM (M:Fz) (F:Fz) (H:Hp) (F':Fz) (H':Hp):Prop where
 sub:∀ a,F a→F' a
 same:∀ a o,¬ M a→H a=some o→(n:NT o:=by exact True.intro)→H' a=some o
 tab:TabR H H'
 tups:∀ a xs,H a=some (.tup xs)→H' a=some (.tup xs)
 new:∀ a,F' a→F a∨(H a=none∧H' a≠none)
 there:∀ a,H a≠none→H' a≠none
def addF (F:Fz) (p:Addr):Fz:=fun a=>F a∨a=p
theorem Grow.laid {p:Addr} {o:HO} (h:H p=none) (n:NT o:=by exact True.intro):Grow F H (addF F p) (upd H p o) :=
 ⟨fun a h=>.inl h,fun b u q _=>by rw [zj (zh q h)]; exact q,.upd (fun u z=>by rw [h] at z; cases z) n,fun a z=>z.elim .inl fun e=>.inr (by rw [e]; exact ⟨h,by rw [zg]; simp⟩)⟩
theorem Grow.loose {p:Addr} {o:HO} (h:H p=none) (n:NT o:=by exact True.intro):Grow F H F (upd H p o) :=
 ⟨fun a h=>h,fun b u q _=>by rw [zj (zh q h)]; exact q,.upd (fun u z=>by rw [h] at z; cases z) n,fun a z=>.inl z⟩
theorem Grow.prot {p:Addr} (g:Grow F H F' H') (h:H p=none) (h':H' p≠none):Grow F H (addF F' p) H' :=
 ⟨fun a h=>.inl (g.sub a h),fun a o e n=>g.same a o e n,g.tab,fun a z=>z.elim (fun z=>g.new a z) fun e=>.inr (by rw [e]; exact ⟨h,h'⟩)⟩
theorem Keep.prot {p:Addr}:Keep F H (addF F p) H:=⟨fun _ h=>.inl h,fun _ _ _ _ e=>e,fun _ _ e=>e⟩
def Cont (K:Frag) (F:Fz) (H:Hp) (a:Addr):D→Prop
 | .lst l=>∃ xs,H a=some (.lst xs)∧Reps K F H l xs
 | .dic ks vs=>∃ us,DH H a ks us∧Reps K F H vs us
 | _=>False
theorem Cont.ne {a:Addr} {d:D} (h:Cont K F H a d):H a≠none:=by
 cases d with
 | lst l=>obtain ⟨xs,h,_⟩:=h; rw [h]; simp
 | dic ks vs=>obtain ⟨us,h,_⟩:=h; exact h.ne
 | _=>exact h.elim
theorem Cont.keep {a:Addr} {d:D} (h:Cont K F H a d) (k:Keep F H F' H') (ka:∀ o,NT o→H a=some o→H' a=some o):Cont K F' H' a d:=by
 cases d with
 | lst l=>obtain ⟨xs,h,r⟩:=h; exact ⟨xs,ka _ True.intro h,r.keep k⟩
 | dic ks vs=>obtain ⟨us,h,r⟩:=h; exact ⟨us,h.keep ka,r.keep k⟩
 | _=>exact h.elim
def Loose (K:Frag) (F:Fz) (H:Hp) (d:D) (v:V) (a:Addr):Prop:=v=.ref a∧¬ F a∧Cont K F H a d
theorem Loose.lst {l:List D} {v:V} {a:Addr} (h:Loose K F H (.lst l) v a):∃ xs,v=.ref a∧H a=some (.lst xs)∧¬ F a∧Reps K F H l xs:=by
 obtain ⟨e,n,xs,h1,h2⟩:=h
 exact ⟨xs,e,h1,n,h2⟩
def Val (K:Frag) (F:Fz) (H:Hp) (d:D) (v:V) (H₀:Hp) (O:Fz):Fl→Prop
 | .solid=>Rep K F H d v
 | .fresh=>∃ a,Loose K F H d v a∧H₀ a=none
 | .peek=>∃ a,Loose K F H d v a∧O a
def Now (K:Frag) (F:Fz) (H:Hp) (d:D) (v:V):Prop:=Rep K F H d v∨∃ a,Loose K F H d v a
theorem Val.now {d:D} {v:V} {H₀:Hp} {O:Fz} {f:Fl} (h:Val K F H d v H₀ O f):Now K F H d v:=by
 cases f with
 | solid=>exact .inl h
 | fresh=>obtain ⟨a,h,_⟩:=h; exact .inr ⟨a,h⟩
 | peek=>obtain ⟨a,h,_⟩:=h; exact .inr ⟨a,h⟩
theorem Val.back {d:D} {v:V} {H₀ H₁:Hp} {O:Fz} {f:Fl} (h:Val K F H d v H₁ O f) (e:∀ l,H₁ l=none→H₀ l=none):Val K F H d v H₀ O f:=by
 cases f with
 | solid=>exact h
 | fresh=>obtain ⟨a,h,n⟩:=h; exact ⟨a,h,e a n⟩
 | peek=>exact h
theorem Loose.grow {d:D} {v:V} {a:Addr} (h:Loose K F H d v a) (g:Grow F H F' H'):Loose K F' H' d v a:=by
 obtain ⟨e1,e2,e3⟩:=h
 exact ⟨e1,fun z=>(g.new a z).elim e2 fun ⟨n,_⟩=>e3.ne n,e3.keep g.keep fun o n q=>g.same a o q n⟩
theorem Now.grow {d:D} {v:V} (h:Now K F H d v) (g:Grow F H F' H'):Now K F' H' d v:=h.elim (fun h=>.inl (h.grow g)) fun ⟨a,h⟩=>.inr ⟨a,h.grow g⟩
theorem Loose.prot {d:D} {v:V} {a:Addr} (h:Loose K F H d v a):Rep K (addF F a) H d v:=by
 obtain ⟨e1,e2,e3⟩:=h
 cases d with
 | lst l =>
  obtain ⟨xs,e3,e5⟩:=e3
  rw [Rep]
  exact ⟨a,xs,e1,.inl ⟨.inr rfl,.inl e3⟩,e5.keep Keep.prot⟩
 | dic ks vs =>
  obtain ⟨us,e3,e5⟩:=e3
  rw [Rep]
  exact ⟨a,us,e1,.inr rfl,e3,e5.keep Keep.prot⟩
 | _=>exact e3.elim
theorem Val.firm {d:D} {v:V} {H₀:Hp} {F₀ O:Fz} {f:Fl} (h:Val K F H d v H₀ O f) (hf:f≠.peek) (g:Grow F₀ H₀ F H):∃ F',Grow F₀ H₀ F' H∧Keep F H F' H∧Rep K F' H d v:=by
 cases f with
 | solid=>exact ⟨F,g,⟨fun _ h=>h,fun _ _ _ _ e=>e,fun _ _ e=>e⟩,h⟩
 | fresh=>obtain ⟨a,h,n⟩:=h; exact ⟨addF F a,g.prot n h.2.2.ne,Keep.prot,h.prot⟩
 | peek=>exact absurd rfl hf
end
def ContL (K:Frag) (F:Fz) (H:Hp) (a:Addr) (ks:List D) (ls:List (List D)) (bs:List Addr):Prop :=
 DH H a ks (bs.map .ref)∧bs.Nodup∧a∉bs∧bs.length=ls.length∧∀ (j:Nat) (b:Addr) (l:List D),bs[j]? = some b→ls[j]? = some l→¬ F b∧∃ xs,H b=some (.lst xs)∧Reps K F H l xs
theorem ContL.there {K:Frag} {F:Fz} {H:Hp} {a:Addr} {ks:List D} {ls:List (List D)} {bs:List Addr} (h:ContL K F H a ks ls bs) {b:Addr} (hb:b∈bs):¬ F b∧∃ xs,H b=some (.lst xs):=by
 obtain ⟨j,hj,e⟩:=List.getElem_of_mem hb
 obtain ⟨h1,xs,h2,_⟩:=h.2.2.2.2 j b (ls[j]'(by rw [← h.2.2.2.1]; exact hj)) (by rw [← e]; exact List.getElem?_eq_getElem hj) (List.getElem?_eq_getElem _)
 exact ⟨h1,xs,h2⟩
theorem ContL.grow {K:Frag} {F F':Fz} {H H':Hp} {a:Addr} {ks:List D} {ls:List (List D)} {bs:List Addr} (h:ContL K F H a ks ls bs) (k:Keep F H F' H') (ka:∀ c o,c=a∨c∈bs→NT o→H c=some o→H' c=some o) (kf:∀ c,c∈bs→¬ F c→¬ F' c):ContL K F' H' a ks ls bs:=by
 refine ⟨h.1.keep fun o n q=>ka a o (.inl rfl) n q,h.2.1,h.2.2.1,h.2.2.2.1,fun j b l h1 h2=>?_⟩
 obtain ⟨p1,xs,p2,p3⟩:=h.2.2.2.2 j b l h1 h2
 have hb:b∈bs:=List.mem_of_getElem? h1
 exact ⟨kf b hb p1,xs,ka b _ (.inr hb) True.intro p2,p3.keep k⟩
def Sl.thing:Sl→Option D
 | .own l=>some (.lst l)
 | .dk ks vs=>some (.dic ks vs)
 | _=>none
def mine (ρ:Rho) (i:Nat):Option D:=(ρ[i]?).bind Sl.thing
structure EnvR (K:Frag) (F:Fz) (H:Hp) (σ:St) (ρ:Rho):Prop where
 val:∀ (i:Nat) d,ρ[i]? = some (.val d)→∃ v,σ[i]? = some (some v)∧Rep K F H d v
 own:∀ (i:Nat) d,mine ρ i=some d→∃ a,σ[i]? = some (some (.ref a))∧¬ F a∧Cont K F H a d
 dl:∀ (i:Nat) t ks ls,ρ[i]? = some (.dl t ks ls)→∃ a bs,σ[i]? = some (some (.ref a))∧¬ F a∧ContL K F H a ks ls bs
 len:σ.length=ρ.length
 dom:∀ a,F a→H a≠none
 tab:Tabs K H
def OwnA (σ:St) (ρ:Rho):Fz:=fun a=>∃ (i:Nat) (d:D),mine ρ i=some d∧σ[i]? = some (some (.ref a))
theorem EnvR.grow {K:Frag} {F F':Fz} {H H':Hp} {σ:St} {ρ:Rho} (e:EnvR K F H σ ρ) (g:Grow F H F' H'):EnvR K F' H' σ ρ where
 val:=fun i d h=>by obtain ⟨v,h1,h2⟩:=e.val i d h; exact ⟨v,h1,h2.grow g⟩
 own:=fun i l h=>by
  obtain ⟨a,h1,h3,h5⟩:=e.own i l h
  exact ⟨a,h1,fun z=>(g.new a z).elim h3 fun ⟨n,_⟩=>h5.ne n,h5.keep g.keep fun o n q=>g.same a o q n⟩
 dl:=fun i t ks ls h=>by
  obtain ⟨a,bs,h1,h3,h5⟩:=e.dl i t ks ls h
  exact ⟨a,bs,h1,fun z=>(g.new a z).elim h3 fun ⟨n,_⟩=>h5.1.ne n,h5.grow g.keep (fun c o _ n q=>g.same c o q n) fun c hc nc z=>(g.new c z).elim nc fun ⟨n,_⟩=>by
   obtain ⟨_,xs,hx⟩:=h5.there hc
   rw [hx] at n; cases n⟩
 len:=e.len
 dom:=fun a h=>(g.new a h).elim (fun h=>by
  intro z
  exact e.dom a h (g.free z)) fun h=>h.2
 tab:=e.tab.step g.tab
abbrev Cl:=Nat→List D→Option D
inductive UE (K:Frag) (cl:Cl) (e:E) (σ:St) (H:Hp) (Q:VK):Prop
 | mk (ρ:Rho) (d:D) (f:Fl) (he:ev cl e ρ=some (d,f)) (F:Fz) (env:EnvR K F H σ ρ) (q:∀ v F' H',Grow F H F' H'→Val K F' H' d v H (OwnA σ ρ) f→Q v H'):UE K cl e σ H Q
def uE (K:Frag) (cl:Cl) (e:E):TE:=UE K cl e
inductive UT (K:Frag) (cl:Cl) (e:E) (σ:St) (H:Hp) (Q:Bool→Hp→Prop):Prop
 | mk (ρ:Rho) (k:Bool) (he:evT cl e ρ=some k) (F:Fz) (env:EnvR K F H σ ρ) (q:∀ F' H',Grow F H F' H'→Q k H'):UT K cl e σ H Q
def uT (K:Frag) (cl:Cl) (e:E):TT:=UT K cl e
inductive UA (K:Frag) (cl:Cl) (es:Es) (σ:St) (H:Hp) (Q:List V→Hp→Prop):Prop
 | mk (ρ:Rho) (ds:List D) (lent:Bool) (he:evs cl es ρ=some (ds,lent)) (F:Fz) (env:EnvR K F H σ ρ) (q:∀ vs F' H' P,Grow F H F' H'→(∀ a,F' a→P a)→(lent=false→P=F')→(∀ a,P a→H' a≠none)→Reps K P H' ds vs→Q vs H'):UA K cl es σ H Q
def uA (K:Frag) (cl:Cl) (es:Es):TA:=UA K cl es
def uO (K:Frag) (cl:Cl) (o:Eo):TO:=fun σ H Q=>∃ ρ v,evo cl o ρ=some v∧∃ F,EnvR K F H σ ρ∧∀ F' H',Grow F H F' H'→Q v H'
inductive UC (K:Frag) (cl:Cl) (o:Eo) (σ:St) (H:Hp) (Q:Bool→Hp→Prop):Prop
 | mk (ρ:Rho) (k:Bool) (he:evc cl o ρ=some k) (F:Fz) (env:EnvR K F H σ ρ) (q:∀ F' H',Grow F H F' H'→Q k H'):UC K cl o σ H Q
def uC (K:Frag) (cl:Cl) (o:Eo):TT:=UC K cl o
def Iter (K:Frag) (F:Fz) (H:Hp) (J:It) (ds:List D) (P:Fz):Prop:=ds.length≤sizeLine∧∀ (i:Nat) F1 H1,(∀ a,F a→F1 a)→(∀ a o,F a∨P a→NT o→H a=some o→H1 a=some o)→(∀ a xs,H a=some (.tup xs)→H1 a=some (.tup xs)) →
 (∀ d,ds[i]? = some d→J.go i H1∧∀ x H2,J.yld i H1 x H2→∃ F2,Grow F1 H1 F2 H2∧Rep K F2 H2 d x)∧(ds.length≤i→J.stop i H1)
inductive UI (K:Frag) (cl:Cl) (it:I) (σ:St) (H:Hp) (R:It→Hp→Prop):Prop
 | mk (ρ:Rho) (ds:List D) (lent:Bool) (he:evi cl it ρ=some (ds,lent)) (F:Fz) (env:EnvR K F H σ ρ) (q:∀ J F' H' P,Grow F H F' H'→(lent=false→∀ a,P a→F' a)→Iter K F' H' J ds P→R J H'):UI K cl it σ H R
def uI (K:Frag) (cl:Cl) (it:I):TI:=UI K cl it
theorem PE.imp {X:Cx} {e:Expr} {t t':TE} (h:PE X e t) (i:∀ σ H Q,t' σ H Q→t σ H Q):PE X e t':=fun pins s σ H Q I q=>h pins s σ H Q I (i σ H Q q)
theorem PT.imp {X:Cx} {e:Expr} {t t':TT} (h:PT X e t) (i:∀ σ H Q,t' σ H Q→t σ H Q):PT X e t':=fun pins s σ H Q I q=>h pins s σ H Q I (i σ H Q q)
theorem PW.imp {X:Cx} {e:Expr} {t t':TT} (h:PW X e t) (i:∀ σ H Q,t' σ H Q→t σ H Q):PW X e t':=fun w pins s σ H Q I q=>h w pins s σ H Q I (i σ H Q q)
theorem PA.imp {X:Cx} {e:List Expr} {t t':TA} (h:PA X e t) (i:∀ σ H Q,t' σ H Q→t σ H Q):PA X e t':=fun pos pins s σ H Q I q=>h pos pins s σ H Q I (i σ H Q q)
theorem PO.imp {X:Cx} {e:Option Expr} {t t':TO} (h:PO X e t) (i:∀ σ H Q,t' σ H Q→t σ H Q):PO X e t':=fun pins s σ H Q I q=>h pins s σ H Q I (i σ H Q q)
theorem PI.imp {X:Cx} {tg e:Expr} {t t':TI} (h:PI X tg e t) (i:∀ σ H R,t' σ H R→t σ H R):PI X tg e t':=fun pins s σ H R I q=>h pins s σ H R I (i σ H R q)
theorem PTs.imp {X:Cx} {e:List Expr} {t t':TT} (h:PTs X e t) (i:∀ σ H Q,t' σ H Q→t σ H Q):PTs X e t':=fun pins s σ H Q I q=>h pins s σ H Q I (i σ H Q q)
theorem PG.imp {X:Cx} {e:Expr} {t t':TG} (h:PG X e t) (i:∀ v σ H Q,t' v σ H Q→t v σ H Q):PG X e t':=fun pins s σ H v u Q I r q=>h pins s σ H v u Q I r (i v σ H Q q)
theorem PS.imp {X:Cx} {e:Stmt} {t t':TS} (h:PS X e t) (i:∀ D σ H,t' D σ H→t D σ H):PS X e t':=fun pins s σ H D I q=>h pins s σ H D I (i D σ H q)
theorem PSs.imp {X:Cx} {e:List Stmt} {t t':TS} (h:PSs X e t) (i:∀ D σ H,t' D σ H→t D σ H):PSs X e t':=fun pins s σ H D I q=>h pins s σ H D I (i D σ H q)
theorem Now.tup {K:Frag} {F:Fz} {H:Hp} {l:List D} {v:V} (h:Now K F H (.tup l) v):∃ a xs,v=.ref a∧FT K F H a xs∧Reps K F H l xs:=by
 rcases h with h | ⟨a,_,_,e⟩
 ·rw [Rep] at h; exact h
 ·exact e.elim
theorem Now.lst {K:Frag} {F:Fz} {H:Hp} {l:List D} {v:V} (h:Now K F H (.lst l) v):∃ a xs,v=.ref a∧SqL K H a xs∧Reps K F H l xs∧(∀ H':Hp,(∀ o,NT o→H a=some o→H' a=some o)→SqL K H' a xs)∧(FL K F H a xs∨¬ F a):=by
 rcases h with h | ⟨a,lo⟩
 ·rw [Rep] at h
  obtain ⟨a,xs,e,h1,h2⟩:=h
  refine ⟨a,xs,e,h1.seq,h2,fun H' k=>?_,.inl h1⟩
  rcases h1 with h1 | h1
  ·exact .inl (Rd.keep h1.2 k)
  ·exact h1 H'
 ·obtain ⟨xs,e2,e3,e4,e5⟩:=lo.lst
  exact ⟨a,xs,e2,.of e3,e5,fun H' k=>.of (k _ True.intro e3),.inr e4⟩
theorem Now.dic {K:Frag} {F:Fz} {H:Hp} {ks vs:List D} {v:V} (h:Now K F H (.dic ks vs) v):∃ a us,v=.ref a∧DH H a ks us∧Reps K F H vs us:=by
 rcases h with h | ⟨a,e,_,us,h1,h2⟩
 ·rw [Rep] at h
  obtain ⟨a,us,e,_,h1,h2⟩:=h
  exact ⟨a,us,e,h1,h2⟩
 ·exact ⟨a,us,e,h1,h2⟩
theorem Now.scal {K:Frag} {F:Fz} {H:Hp} {d:D} {v:V} (h:Now K F H d v) (hs:d.scal=true):Rep K F H d v:=by
 rcases h with h | ⟨a,_,_,e⟩
 ·exact h
 ·cases d <;> first | exact e.elim | cases hs
theorem Now.int {K:Frag} {F:Fz} {H:Hp} {i:Int} {v:V} (h:Now K F H (.int i) v):v=.int i:=by have:=h.scal rfl; rw [Rep] at this; exact this
theorem Now.bl {K:Frag} {F:Fz} {H:Hp} {b:Bool} {v:V} (h:Now K F H (.bl b) v):v=.bl b:=by have:=h.scal rfl; rw [Rep] at this; exact this
theorem Now.non {K:Frag} {F:Fz} {H:Hp} {v:V} (h:Now K F H .non v):v=.non:=by have:=h.scal rfl; rw [Rep] at this; exact this
theorem Now.str {K:Frag} {F:Fz} {H:Hp} {x:Str} {v:V} (h:Now K F H (.str x) v):v=.str x:=by have:=h.scal rfl; rw [Rep] at this; exact this
theorem zr {K:Frag} {F:Fz} {H:Hp} {i:Int}:Rep K F H (.int i) (.int i):=by rw [Rep]
theorem zmz {K:Frag} {F:Fz} {H:Hp} {i:Bool}:Rep K F H (.bl i) (.bl i):=by rw [Rep]
theorem zke {K:Frag} {F:Fz} {H:Hp}:Rep K F H .non .non:=by rw [Rep]
theorem zph {K:Frag} {F:Fz} {H:Hp} {i:Str}:Rep K F H (.str i) (.str i):=by rw [Rep]
theorem zgn {K:Frag} {F:Fz} {H:Hp} {p:Addr} {l:List D} {xs:List V} (h:H p=none) (r:Reps K F H l xs):Rep K (addF F p) (upd H p (.tup xs)) (.tup l) (.ref p):=by
 rw [Rep]; exact ⟨p,xs,rfl,zg,r.grow (Grow.laid h)⟩
theorem zcv {K:Frag} {F:Fz} {H:Hp} {p:Addr} {l:List D} {xs:List V} (h:H p=none) (hF:∀ a,F a→H a≠none) (r:Reps K F H l xs):Loose K F (upd H p (.lst xs)) (.lst l) (.ref p) p :=
 ⟨rfl,fun z=>hF p z h,xs,zg,r.grow (Grow.loose h)⟩
end SD
namespace SD
open PySem PySem.Spec PyProof.Rows L2 PY
theorem zhk {n:Nat} (h:n≤big):n≤sizeLine:=Nat.le_trans h (by decide)
section
variable {X:Cx}
def Res (K:Frag) (F:Fz) (H:Hp) (d:D) (f:Fl) (Q:VK):Prop:=∀ v F' H',Grow F H F' H'→Val K F' H' d v H (fun _=>False) f→Q v H'
theorem Val.wide {K:Frag} {F:Fz} {H H₀:Hp} {d:D} {v:V} {O O':Fz} {f:Fl} (h:Val K F H d v H₀ O f) (w:∀ a,O a→O' a):Val K F H d v H₀ O' f:=by
 cases f with
 | solid=>exact h
 | fresh=>exact h
 | peek=>obtain ⟨a,h,n⟩:=h; exact ⟨a,h,w a n⟩
theorem Res.here {K:Frag} {F:Fz} {H:Hp} {d:D} {Q:VK} {v:V} (q:Res K F H d .solid Q) (h:Rep K F H d v):Q v H:=q v F H (Grow.refl F H) h
theorem Res.tup {K:Frag} {F:Fz} {H:Hp} {l:List D} {xs:List V} {Q:VK} (q:Res K F H (.tup l) .solid Q) (r:Reps K F H l xs):∀ p,H p=none→Q (.ref p) (upd H p (.tup xs)) :=
 fun p hp=>q _ _ _ (Grow.laid hp) (zgn hp r)
theorem Res.lst {K:Frag} {F:Fz} {H:Hp} {l:List D} {xs:List V} {Q:VK} (q:Res K F H (.lst l) .fresh Q) (dom:∀ a,F a→H a≠none) (r:Reps K F H l xs):∀ p,H p=none→Q (.ref p) (upd H p (.lst xs)) :=
 fun p hp=>q _ _ _ (Grow.loose hp) ⟨p,zcv hp dom r,hp⟩
inductive RBin (K:Frag) (o:Bop) (x:V) (y:V) (H:Hp) (Q:VK):Prop
 | mk (F:Fz) (dx:D) (dy:D) (d:D) (f:Fl) (dom:∀ a,F a→H a≠none) (nx:Now K F H dx x) (ny:Now K F H dy y) (hb:binop o dx dy=some (d,f)) (q:Res K F H d f Q):RBin K o x y H Q
def rBin (K:Frag) (o:Bop):R2:=RBin K o
def opOf:Bop→Operator
 | .add=>.Add | .sub=>.Sub | .mul=>.Mult | .fdiv=>.FloorDiv | .mod=>.Mod
theorem zha {o:Bop} {dx dy:D} {d:D} {f:Fl} (h:binop o dx dy=some (d,f)) (ho:o≠.add):∃ a b,dx=.int a∧dy=.int b:=by
 cases o <;> first | exact absurd rfl ho | (cases dx <;> cases dy <;> first | exact ⟨_,_,rfl,rfl⟩ | (cases h))
theorem zql:∀ o:Bop,OpR X (binaryOp (opOf o)) (rBin X.K o)
 | .sub=>by
  intro pins s σ H x y v u Q I rx ry ⟨F,dx,dy,d,f,dom,nx,ny,hb,q⟩
  obtain ⟨a,b,rfl,rfl⟩:=zha hb (by decide)
  cases hb
  exact zqt pins s σ H x y v u Q I rx ry ⟨a,b,nx.int,ny.int,q.here zr⟩
 | .mul=>by
  intro pins s σ H x y v u Q I rx ry ⟨F,dx,dy,d,f,dom,nx,ny,hb,q⟩
  obtain ⟨a,b,rfl,rfl⟩:=zha hb (by decide)
  replace hb:(if (-1000000000000000000 < a∧a < 1000000000000000000)∨(-1000000000000000000 < b∧b < 1000000000000000000) then some (D.int (a * b),Fl.solid) else none)=some (d,f):=hb
  split at hb
  ·rename_i hc
   cases hb
   refine zrh pins s σ H x y v u Q I rx ry ⟨a,b,nx.int,ny.int,?_,q.here zr⟩
   rcases hc with hc | hc
   ·exact .inl ⟨by lia,by lia⟩
   ·exact .inr ⟨by lia,by lia⟩
  ·cases hb
 | .fdiv=>by
  intro pins s σ H x y v u Q I rx ry ⟨F,dx,dy,d,f,dom,nx,ny,hb,q⟩
  obtain ⟨a,b,rfl,rfl⟩:=zha hb (by decide)
  replace hb:(if 0 < b∧b < 1073741824 then some (D.int (a / b),Fl.solid) else none)=some (d,f):=hb
  split at hb
  ·rename_i hc
   cases hb
   exact zo7 pins s σ H x y v u Q I rx ry ⟨a,b,nx.int,ny.int,hc,q.here zr⟩
  ·cases hb
 | .mod=>by
  intro pins s σ H x y v u Q I rx ry ⟨F,dx,dy,d,f,dom,nx,ny,hb,q⟩
  obtain ⟨a,b,rfl,rfl⟩:=zha hb (by decide)
  replace hb:(if 0 < b then some (D.int (a % b),Fl.solid) else none)=some (d,f):=hb
  split at hb
  ·rename_i hc
   cases hb
   exact zrx pins s σ H x y v u Q I rx ry ⟨a,b,nx.int,ny.int,hc,q.here zr⟩
  ·cases hb
 | .add=>by
  intro pins s σ H x y v u Q I rx ry ⟨F,dx,dy,d,f,dom,nx,ny,hb,q⟩
  cases dx with
  | int a =>
   cases dy <;> first | (cases hb; done) | skip
   rename_i b
   cases hb
   exact zrr pins s σ H x y v u Q I rx ry ⟨a,b,nx.int,ny.int,q.here zr⟩
  | lst a =>
   cases dy <;> first | (cases hb; done) | skip
   rename_i b
   replace hb:(if a.length+b.length≤big then some (D.lst (a++b),Fl.fresh) else none)=some (d,f):=hb
   split at hb
   ·rename_i hc
    cases hb
    obtain ⟨p,xs,rfl,h1,h2,_⟩:=nx.lst
    obtain ⟨p',ys,rfl,h3,h4,_⟩:=ny.lst
    exact zn0 pins s σ H _ _ v u Q I rx ry ⟨p,p',xs,ys,rfl,rfl,h1,h3,zhk (by rw [← h2.length,← h4.length]; exact hc),q.lst dom (h2.append h4)⟩
   ·cases hb
  | _=>cases dy <;> cases hb
end
end SD
namespace SD
open PySem PySem.Spec PyProof.Rows L2 PY
section
variable {X:Cx} {pins:List (Addr×Obj)} {σ:St} {H:Hp} {s:Shared} {F:Fz}
theorem za3:∀ (l m:List D),D.eqs l m=((List.range (min l.length m.length)).all (fun j=>D.eq (l.getD j .non) (m.getD j .non))&&l.length==m.length)
 | [],[]=>rfl
 | [],y::m=>by simp [D.eqs]
 | x::l,[]=>by simp [D.eqs]
 | x::l,y::m=>by
  rw [D.eqs,za3 l m,List.length_cons,List.length_cons,Nat.succ_min_succ,List.range_succ_eq_map,List.all_cons,List.all_map]
  have e:(l.length+1==m.length+1)=(l.length==m.length):=by
   rw [Bool.eq_iff_iff,beq_iff_eq,beq_iff_eq]; lia
  rw [e,Bool.and_assoc]
  rfl
theorem zb9 {a:Addr} {xs ys:List V} (I:Inv X pins σ H s) (h:SqT X.K H a xs) (h':SqL X.K H a ys):False:=by
 obtain ⟨its,_,⟨o,e,c,_⟩,_⟩:=I.tuple h
 obtain ⟨its',_,⟨o',n',e',c',_⟩,_⟩:=I.list h'
 rw [e] at e'; cases e'
 rw [c] at c'
 injection c' with z
 exact absurd z (by decide)
theorem zbq:∀ a b:List Int,a.map (Sum.inl:Int→Key)=b.map Sum.inl→a=b
 | [],[],_=>rfl
 | [],_::_,h=>by simp at h
 | _::_,[],h=>by simp at h
 | x::a,y::b,h=>by
  rw [List.map_cons,List.map_cons] at h
  injection h with h1 h2
  rw [Sum.inl.inj h1,zbq a b h2]
theorem zep:∀ a b:List (List Int),a.map (fun n=>n.map (Sum.inl:Int→Key))=b.map (fun n=>n.map Sum.inl)→a=b
 | [],[],_=>rfl
 | [],_::_,h=>by simp at h
 | _::_,[],h=>by simp at h
 | x::a,y::b,h=>by
  rw [List.map_cons,List.map_cons] at h
  injection h with h1 h2
  rw [zbq _ _ h1,zep a b h2]
theorem DH.inj {a:Addr} {ks ks':List D} {us us':List V} (h:DH H a ks us) (h':DH H a ks' us'):ks=ks'∧us=us':=by
 rcases h with ⟨ns,rfl,_,l1,e1⟩ | ⟨ns,rfl,_,l1,e1⟩ <;> rcases h' with ⟨ms,rfl,_,l2,e2⟩ | ⟨ms,rfl,_,l2,e2⟩
 ·rw [e1] at e2
  have e:=congrArg List.unzip (HO.dK.inj (Option.some.inj e2))
  rw [List.unzip_zip (by rw [List.length_map,l1]),List.unzip_zip (by rw [List.length_map,l2])] at e
  obtain ⟨e3,e4⟩:=Prod.mk.inj e
  have e5:ns=ms:=zbq _ _ e3
  exact ⟨by rw [e5],e4⟩
 ·rw [e1] at e2; cases e2
 ·rw [e1] at e2; cases e2
 ·rw [e1] at e2
  have e:=congrArg List.unzip (HO.dT.inj (Option.some.inj e2))
  rw [List.unzip_zip (by rw [List.length_map,l1]),List.unzip_zip (by rw [List.length_map,l2])] at e
  obtain ⟨e3,e4⟩:=Prod.mk.inj e
  have e5:ns=ms:=zep _ _ e3
  exact ⟨by rw [e5],e4⟩
theorem DH.not_tup {a:Addr} {ks:List D} {us xs:List V} (h:DH H a ks us) (h':H a=some (.tup xs)):False:=by
 rcases h with ⟨_,_,_,_,e⟩ | ⟨_,_,_,_,e⟩ <;> rw [e] at h' <;> cases h'
theorem DH.typeIs {a:Addr} {ks:List D} {us:List V} (I:Inv X pins σ H s) (h:DH H a ks us):∃ o,s.heap.get? a=some o∧o.cls=.type "dict":=by
 rcases h with ⟨_,_,_,_,e⟩ | ⟨_,_,_,_,e⟩
 ·obtain ⟨_,_,vs,_,dd⟩:=zh4 I.hok e
  exact dd.typeIs
 ·obtain ⟨_,_,vs,_,dd⟩:=zl9 I.hok e
  exact dd.typeIs
theorem DH.not_list {a:Addr} {ks:List D} {us xs:List V} (I:Inv X pins σ H s) (h:DH H a ks us) (h':SqL X.K H a xs):False:=by
 obtain ⟨o,e,c⟩:=h.typeIs I
 obtain ⟨its',_,⟨o',n',e',c',_⟩,_⟩:=I.list h'
 rw [e] at e'; cases e'
 rw [c] at c'
 injection c' with z
 exact absurd z (by decide)
mutual
theorem Rep.inj (I:Inv X pins σ H s):∀ {d d':D} {v:V},Rep X.K F H d v→Rep X.K F H d' v→d=d'
 | .non,d',v,h,h'=>by
  rw [Rep] at h; subst h
  cases d' <;> rw [Rep] at h' <;> first | rfl | (cases h'; done) | (obtain ⟨_,_,e,_⟩:=h'; cases e)
 | .bl b,d',v,h,h'=>by
  rw [Rep] at h; subst h
  cases d' <;> rw [Rep] at h' <;> first | (cases h'; done) | (cases h'; rfl) | (obtain ⟨_,_,e,_⟩:=h'; cases e)
 | .int b,d',v,h,h'=>by
  rw [Rep] at h; subst h
  cases d' <;> rw [Rep] at h' <;> first | (cases h'; done) | (cases h'; rfl) | (obtain ⟨_,_,e,_⟩:=h'; cases e)
 | .str b,d',v,h,h'=>by
  rw [Rep] at h; subst h
  cases d' <;> rw [Rep] at h' <;> first | (cases h'; done) | (cases h'; rfl) | (obtain ⟨_,_,e,_⟩:=h'; cases e)
 | .tup l,d',v,h,h'=>by
  rw [Rep] at h
  obtain ⟨a,xs,rfl,h1,h2⟩:=h
  cases d' with
  | tup l' =>
   rw [Rep] at h'
   obtain ⟨a',xs',e,h3,h4⟩:=h'
   cases e
   have:=I.tuple_inj h1.seq h3.seq
   subst this
   rw [Reps.inj I h2 h4]
  | lst l' =>
   rw [Rep] at h'
   obtain ⟨a',xs',e,h3,h4⟩:=h'
   cases e
   exact (zb9 I h1.seq h3.seq).elim
  | dic ks vs =>
   rw [Rep] at h'
   obtain ⟨a',us,e,_,h3,_⟩:=h'
   cases e
   exact (h3.not_tup h1).elim
  | non=>rw [Rep] at h'; cases h'
  | bl _=>rw [Rep] at h'; cases h'
  | int _=>rw [Rep] at h'; cases h'
  | str _=>rw [Rep] at h'; cases h'
 | .lst l,d',v,h,h'=>by
  rw [Rep] at h
  obtain ⟨a,xs,rfl,h1,h2⟩:=h
  cases d' with
  | lst l' =>
   rw [Rep] at h'
   obtain ⟨a',xs',e,h3,h4⟩:=h'
   cases e
   have:=I.list_inj h1.seq h3.seq
   subst this
   rw [Reps.inj I h2 h4]
  | tup l' =>
   rw [Rep] at h'
   obtain ⟨a',xs',e,h3,h4⟩:=h'
   cases e
   exact (zb9 I h3.seq h1.seq).elim
  | dic ks vs =>
   rw [Rep] at h'
   obtain ⟨a',us,e,_,h3,_⟩:=h'
   cases e
   exact (h3.not_list I h1.seq).elim
  | non=>rw [Rep] at h'; cases h'
  | bl _=>rw [Rep] at h'; cases h'
  | int _=>rw [Rep] at h'; cases h'
  | str _=>rw [Rep] at h'; cases h'
 | .dic ks vs,d',v,h,h'=>by
  rw [Rep] at h
  obtain ⟨a,us,rfl,_,h1,h2⟩:=h
  cases d' with
  | dic ks' vs' =>
   rw [Rep] at h'
   obtain ⟨a',us',e,_,h3,h4⟩:=h'
   cases e
   obtain ⟨e1,e2⟩:=h1.inj h3
   subst e1 e2
   rw [Reps.inj I h2 h4]
  | tup l' =>
   rw [Rep] at h'
   obtain ⟨a',xs',e,h3,h4⟩:=h'
   cases e
   exact (h1.not_tup h3).elim
  | lst l' =>
   rw [Rep] at h'
   obtain ⟨a',xs',e,h3,h4⟩:=h'
   cases e
   exact (h1.not_list I h3.seq).elim
  | non=>rw [Rep] at h'; cases h'
  | bl _=>rw [Rep] at h'; cases h'
  | int _=>rw [Rep] at h'; cases h'
  | str _=>rw [Rep] at h'; cases h'
theorem Reps.inj (I:Inv X pins σ H s):∀ {ds ds':List D} {vs:List V},Reps X.K F H ds vs→Reps X.K F H ds' vs→ds=ds'
 | [],[],_,_,_=>rfl
 | [],d::r,vs,h,h'=>by
  rw [Reps] at h; rw [Reps] at h'; subst h
  obtain ⟨_,_,e,_⟩:=h'; cases e
 | d::r,[],vs,h,h'=>by
  rw [Reps] at h; rw [Reps] at h'; subst h'
  obtain ⟨_,_,e,_⟩:=h; cases e
 | d::r,d'::r',vs,h,h'=>by
  rw [Reps] at h h'
  obtain ⟨v,w,rfl,h1,h2⟩:=h
  obtain ⟨v',w',e,h3,h4⟩:=h'
  cases e
  rw [Rep.inj I h1 h3,Reps.inj I h2 h4]
end
mutual
theorem zit:∀ d:D,D.eq d d=true
 | .non=>rfl
 | .bl b=>by rw [D.eq]; exact beq_self_eq_true b
 | .int b=>by rw [D.eq]; exact beq_self_eq_true b
 | .str b=>by rw [D.eq]; exact beq_self_eq_true b
 | .tup l=>by rw [D.eq]; exact eqs_refl l
 | .lst l=>by rw [D.eq]; exact eqs_refl l
 | .dic a b=>by rw [D.eq,eqs_refl a,eqs_refl b]; rfl
theorem eqs_refl:∀ l:List D,D.eqs l l=true
 | []=>rfl
 | d::r=>by rw [D.eqs,zit d,eqs_refl r]; rfl
end
theorem za4 {A:Around} {dx dy:D} {x y:V} {u v:Value} (hx:Rep X.K F H dx x) (hy:Rep X.K F H dy y) (rx:RelV x u) (ry:RelV y v) (sx:dx.scal=true) (sy:dy.scal=true):SeqAt.EqAt A s u v (D.eq dx dy):=by
 have key:∀ {d:D} {z:V},Rep X.K F H d z→d.scal=true→flatV z=true:=fun {d z} h hs=>by
  cases d <;> first | (rw [Rep] at h; subst h; rfl) | cases hs
 have e:D.eq dx dy=eqV x y:=by
  cases dx <;> first | cases sx | skip
  all_goals (cases dy <;> first | cases sy | skip)
  all_goals (rw [Rep] at hx; rw [Rep] at hy; subst hx; subst hy; rfl)
 rw [e]
 exact zq7 rx ry (key hx sx) (key hy sy)
theorem zho (I:Inv X pins σ H s):∀ (n:Nat) {A:Around} {dx dy:D} {x y:V} {u v:Value},A.units+n < cLine→dx.deep n=true→dy.deep n=true→Rep X.K F H dx x→Rep X.K F H dy y→RelV x u→RelV y v →
  SeqAt.EqAt A s u v (D.eq dx dy)∧(dx.scal=false∨dy.scal=false→SeqAt.RcAt A s u v (D.eq dx dy))
 | 0,A,dx,dy,x,y,u,v,hu,hx,hy,nx,ny,rx,ry=>by
  have hx':dx.scal=true:=hx
  have hy':dy.scal=true:=hy
  exact ⟨za4 nx ny rx ry hx' hy',fun h=>by rcases h with h | h <;> simp_all⟩
 | n+1,A,dx,dy,x,y,u,v,hu,hx,hy,nx,ny,rx,ry=>by
  have ih:=fun {dx dy:D} {x y:V} {u v:Value} (a:dx.deep n=true) (b:dy.deep n=true) (c:Rep X.K F H dx x) (d:Rep X.K F H dy y) (e:RelV x u) (f:RelV y v)=>(zho I n (A:=A.in1) (by show A.units+1+n < cLine; lia) a b c d e f).1
  have hu':A.units < cLine:=by lia
  -- two sequences,item by item
  have items:∀ {l m:List D} {xs ys:List V} {its its2:List Value},l.all (D.deep n)=true→m.all (D.deep n)=true→Reps X.K F H l xs→Reps X.K F H m ys→Vals xs its→Vals ys its2 →
    ∀ j (h1:j < its.toArray.size) (h2:j < its2.toArray.size),SeqAt.EqAt A.in1 s its.toArray[j] its2.toArray[j] (D.eq (l.getD j .non) (m.getD j .non)):=fun {l m xs ys its its2} hl hm r1 r2 v1 v2 j h1 h2=>by
   have j1:j < l.length:=by rw [r1.length,v1.length]; simpa using h1
   have j2:j < m.length:=by rw [r2.length,v2.length]; simpa using h2
   obtain ⟨z,e1,q1⟩:=r1.get (i:=j) (d:=l[j]) (by simp [j1])
   obtain ⟨z2,e2,q2⟩:=r2.get (i:=j) (d:=m[j]) (by simp [j2])
   obtain ⟨w1,e3,q3⟩:=v1.get e1
   obtain ⟨w2,e4,q4⟩:=v2.get e2
   have a1:its.toArray[j]=w1:=by
    have:its[j]? = some w1:=e3
    have hj:j < its.length:=by simpa using h1
    rw [List.getElem?_eq_getElem hj] at this
    simpa using Option.some.inj this
   have a2:its2.toArray[j]=w2:=by
    have:its2[j]? = some w2:=e4
    have hj:j < its2.length:=by simpa using h2
    rw [List.getElem?_eq_getElem hj] at this
    simpa using Option.some.inj this
   rw [a1,a2]
   have b1:l.getD j .non=l[j]:=by simp [List.getD,j1]
   have b2:m.getD j .non=m[j]:=by simp [List.getD,j2]
   rw [b1,b2]
   exact ih (List.all_eq_true.mp hl _ (List.getElem_mem j1)) (List.all_eq_true.mp hm _ (List.getElem_mem j2)) q1 q2 q3 q4
  -- RcAt gives EqAt
  have fin:(SeqAt.RcAt A s u v (D.eq dx dy))→(∃ a b,u=.ref a∧v=.ref b)→SeqAt.EqAt A s u v (D.eq dx dy):=fun h ⟨a,b,e1,e2⟩=>by
   subst e1 e2
   by_cases hab:a=b
   ·subst hab
    have zx:x=.ref a:=by cases x <;> first | (obtain ⟨_,e⟩:=rx; cases e; done) | (cases rx; done) | (cases rx; rfl)
    have zy:y=.ref a:=by cases y <;> first | (obtain ⟨_,e⟩:=ry; cases e; done) | (cases ry; done) | (cases ry; rfl)
    subst zx zy
    rw [Rep.inj I nx ny,zit]
    exact SeqAt.EqAt.same _
   ·exact .of_refs hab h
  cases dx with
  | tup l =>
   rw [Rep] at nx
   obtain ⟨a,xs,rfl,h1,h2⟩:=id nx
   cases (show u=Value.ref a from rx)
   obtain ⟨its,v1,p1,_⟩:=I.tuple h1.seq
   cases dy with
   | tup m =>
    obtain ⟨b,ys,rfl,h3,h4⟩:=(by rw [Rep] at ny; exact ny:∃ a xs,y=.ref a∧FT X.K F H a xs∧Reps X.K F H m xs)
    cases (show v=Value.ref b from ry)
    obtain ⟨its2,v2,p2,_⟩:=I.tuple h3.seq
    have rc:SeqAt.RcAt A s (.ref a) (.ref b) (D.eq (.tup l) (.tup m)):=by
     have q:=SeqAt.RcAt.tuples (A:=A) (s:=s) p1 p2 hu' (items hx hy h2 h4 v1 v2)
     rw [List.size_toArray,List.size_toArray,← v1.length,← v2.length,← h2.length,← h4.length] at q
     rw [D.eq,za3]
     exact q
    exact ⟨fin rc ⟨a,b,rfl,rfl⟩,fun _=>rc⟩
   | lst m =>
    obtain ⟨b,ys,rfl,h3,h4⟩:=(by rw [Rep] at ny; exact ny:∃ a xs,y=.ref a∧FL X.K F H a xs∧Reps X.K F H m xs)
    cases (show v=Value.ref b from ry)
    obtain ⟨its2,v2,p2,_⟩:=I.list h3.seq
    exact ⟨SeqAt.EqAt.tuple_list p1 p2.isList hu',fun _=>SeqAt.RcAt.tuple_list p1 p2.isList hu'⟩
   | non=>rw [Rep] at ny; subst ny; cases ry; exact ⟨SeqAt.EqAt.tuple_none p1 hu',fun _=>SeqAt.RcAt.tuple_none p1 hu'⟩
   | bl b=>rw [Rep] at ny; subst ny; cases ry; exact ⟨SeqAt.EqAt.tuple_bool b p1 hu',fun _=>SeqAt.RcAt.tuple_bool b p1 hu'⟩
   | int b=>rw [Rep] at ny; subst ny; obtain ⟨t,rfl⟩:=ry; exact ⟨SeqAt.EqAt.tuple_int b t p1 hu',fun _=>SeqAt.RcAt.tuple_int b t p1 hu'⟩
   | str b=>rw [Rep] at ny; subst ny; obtain ⟨t,rfl⟩:=ry; exact ⟨SeqAt.EqAt.tuple_str b t p1 hu',fun _=>SeqAt.RcAt.tuple_str b t p1 hu'⟩
   | dic _ _=>exact nomatch (show false=true from hy)
  | lst l =>
   rw [Rep] at nx
   obtain ⟨a,xs,rfl,h1,h2⟩:=id nx
   cases (show u=Value.ref a from rx)
   obtain ⟨its,v1,p1,_⟩:=I.list h1.seq
   cases dy with
   | lst m =>
    obtain ⟨b,ys,rfl,h3,h4⟩:=(by rw [Rep] at ny; exact ny:∃ a xs,y=.ref a∧FL X.K F H a xs∧Reps X.K F H m xs)
    cases (show v=Value.ref b from ry)
    obtain ⟨its2,v2,p2,_⟩:=I.list h3.seq
    have rc:SeqAt.RcAt A s (.ref a) (.ref b) (D.eq (.lst l) (.lst m)):=by
     rw [D.eq,za3]
     by_cases hz:l.length=m.length
     ·have hsz:its.toArray.size=its2.toArray.size:=by rw [List.size_toArray,List.size_toArray,← v1.length,← v2.length,← h2.length,← h4.length,hz]
      have q:=SeqAt.RcAt.lists (A:=A) (s:=s) p1.isList p2.isList hsz hu' (items hx hy h2 h4 v1 v2)
      rw [List.size_toArray,← v1.length,← h2.length] at q
      rw [hz,Nat.min_self,beq_self_eq_true,Bool.and_true,← hz]
      exact q
     ·have hsz:(its.toArray.size != its2.toArray.size)=true:=by
       rw [List.size_toArray,List.size_toArray,← v1.length,← v2.length,← h2.length,← h4.length]
       simpa using hz
      have q:=SeqAt.RcAt.lists_lengths (A:=A) (s:=s) p1.isList p2.isList hsz hu'
      rw [show (l.length==m.length)=false by simpa using hz,Bool.and_false]
      exact q
    exact ⟨fin rc ⟨a,b,rfl,rfl⟩,fun _=>rc⟩
   | tup m =>
    obtain ⟨b,ys,rfl,h3,h4⟩:=(by rw [Rep] at ny; exact ny:∃ a xs,y=.ref a∧FT X.K F H a xs∧Reps X.K F H m xs)
    cases (show v=Value.ref b from ry)
    obtain ⟨its2,v2,p2,_⟩:=I.tuple h3.seq
    exact ⟨SeqAt.EqAt.list_tuple p1.isList p2 hu',fun _=>SeqAt.RcAt.list_tuple p1.isList p2 hu'⟩
   | non=>rw [Rep] at ny; subst ny; cases ry; exact ⟨SeqAt.EqAt.list_none p1.isList hu',fun _=>SeqAt.RcAt.list_none p1.isList hu'⟩
   | bl b=>rw [Rep] at ny; subst ny; cases ry; exact ⟨SeqAt.EqAt.list_bool b p1.isList hu',fun _=>SeqAt.RcAt.list_bool b p1.isList hu'⟩
   | int b=>rw [Rep] at ny; subst ny; obtain ⟨t,rfl⟩:=ry; exact ⟨SeqAt.EqAt.list_int b t p1.isList hu',fun _=>SeqAt.RcAt.list_int b t p1.isList hu'⟩
   | str b=>rw [Rep] at ny; subst ny; obtain ⟨t,rfl⟩:=ry; exact ⟨SeqAt.EqAt.list_str b t p1.isList hu',fun _=>SeqAt.RcAt.list_str b t p1.isList hu'⟩
   | dic _ _=>exact nomatch (show false=true from hy)
  | non =>
   cases dy with
   | tup m =>
    obtain ⟨b,ys,rfl,h3,h4⟩:=(by rw [Rep] at ny; exact ny:∃ a xs,y=.ref a∧FT X.K F H a xs∧Reps X.K F H m xs)
    cases (show v=Value.ref b from ry)
    obtain ⟨its2,v2,p2,_⟩:=I.tuple h3.seq
    rw [Rep] at nx
    subst nx
    cases rx
    exact ⟨SeqAt.EqAt.none_tuple  p2 hu',fun _=>SeqAt.RcAt.none_tuple  p2 hu'⟩
   | lst m =>
    obtain ⟨b,ys,rfl,h3,h4⟩:=(by rw [Rep] at ny; exact ny:∃ a xs,y=.ref a∧FL X.K F H a xs∧Reps X.K F H m xs)
    cases (show v=Value.ref b from ry)
    obtain ⟨its2,v2,p2,_⟩:=I.list h3.seq
    rw [Rep] at nx
    subst nx
    cases rx
    exact ⟨SeqAt.EqAt.none_list  p2.isList hu',fun _=>SeqAt.RcAt.none_list  p2.isList hu'⟩
   | dic _ _=>exact nomatch (show false=true from hy)
   | _=>exact ⟨za4 nx ny rx ry rfl rfl,fun h=>by rcases h with h | h <;> cases h⟩
  | bl b0 =>
   cases dy with
   | tup m =>
    obtain ⟨b,ys,rfl,h3,h4⟩:=(by rw [Rep] at ny; exact ny:∃ a xs,y=.ref a∧FT X.K F H a xs∧Reps X.K F H m xs)
    cases (show v=Value.ref b from ry)
    obtain ⟨its2,v2,p2,_⟩:=I.tuple h3.seq
    rw [Rep] at nx
    subst nx
    cases rx
    exact ⟨SeqAt.EqAt.bool_tuple b0 p2 hu',fun _=>SeqAt.RcAt.bool_tuple b0 p2 hu'⟩
   | lst m =>
    obtain ⟨b,ys,rfl,h3,h4⟩:=(by rw [Rep] at ny; exact ny:∃ a xs,y=.ref a∧FL X.K F H a xs∧Reps X.K F H m xs)
    cases (show v=Value.ref b from ry)
    obtain ⟨its2,v2,p2,_⟩:=I.list h3.seq
    rw [Rep] at nx
    subst nx
    cases rx
    exact ⟨SeqAt.EqAt.bool_list b0 p2.isList hu',fun _=>SeqAt.RcAt.bool_list b0 p2.isList hu'⟩
   | dic _ _=>exact nomatch (show false=true from hy)
   | _=>exact ⟨za4 nx ny rx ry rfl rfl,fun h=>by rcases h with h | h <;> cases h⟩
  | int b0 =>
   cases dy with
   | tup m =>
    obtain ⟨b,ys,rfl,h3,h4⟩:=(by rw [Rep] at ny; exact ny:∃ a xs,y=.ref a∧FT X.K F H a xs∧Reps X.K F H m xs)
    cases (show v=Value.ref b from ry)
    obtain ⟨its2,v2,p2,_⟩:=I.tuple h3.seq
    rw [Rep] at nx
    subst nx
    obtain ⟨t,rfl⟩:=rx
    exact ⟨SeqAt.EqAt.int_tuple b0 t p2 hu',fun _=>SeqAt.RcAt.int_tuple b0 t p2 hu'⟩
   | lst m =>
    obtain ⟨b,ys,rfl,h3,h4⟩:=(by rw [Rep] at ny; exact ny:∃ a xs,y=.ref a∧FL X.K F H a xs∧Reps X.K F H m xs)
    cases (show v=Value.ref b from ry)
    obtain ⟨its2,v2,p2,_⟩:=I.list h3.seq
    rw [Rep] at nx
    subst nx
    obtain ⟨t,rfl⟩:=rx
    exact ⟨SeqAt.EqAt.int_list b0 t p2.isList hu',fun _=>SeqAt.RcAt.int_list b0 t p2.isList hu'⟩
   | dic _ _=>exact nomatch (show false=true from hy)
   | _=>exact ⟨za4 nx ny rx ry rfl rfl,fun h=>by rcases h with h | h <;> cases h⟩
  | str b0 =>
   cases dy with
   | tup m =>
    obtain ⟨b,ys,rfl,h3,h4⟩:=(by rw [Rep] at ny; exact ny:∃ a xs,y=.ref a∧FT X.K F H a xs∧Reps X.K F H m xs)
    cases (show v=Value.ref b from ry)
    obtain ⟨its2,v2,p2,_⟩:=I.tuple h3.seq
    rw [Rep] at nx
    subst nx
    obtain ⟨t,rfl⟩:=rx
    exact ⟨SeqAt.EqAt.str_tuple b0 t p2 hu',fun _=>SeqAt.RcAt.str_tuple b0 t p2 hu'⟩
   | lst m =>
    obtain ⟨b,ys,rfl,h3,h4⟩:=(by rw [Rep] at ny; exact ny:∃ a xs,y=.ref a∧FL X.K F H a xs∧Reps X.K F H m xs)
    cases (show v=Value.ref b from ry)
    obtain ⟨its2,v2,p2,_⟩:=I.list h3.seq
    rw [Rep] at nx
    subst nx
    obtain ⟨t,rfl⟩:=rx
    exact ⟨SeqAt.EqAt.str_list b0 t p2.isList hu',fun _=>SeqAt.RcAt.str_list b0 t p2.isList hu'⟩
   | dic _ _=>exact nomatch (show false=true from hy)
   | _=>exact ⟨za4 nx ny rx ry rfl rfl,fun h=>by rcases h with h | h <;> cases h⟩
  | dic _ _=>exact nomatch (show false=true from hx)
end
end SD
namespace SD
open PySem PySem.Spec PyProof.Rows L2 PY
theorem za {α β:Type} {o:Option α} {f:α→Option β} {b:β} (h:o.bind f=some b):∃ a,o=some a∧f a=some b:=by
 cases o with
 | none=>cases h
 | some a=>exact ⟨a,rfl,h⟩
theorem zb {α β:Type} {o:Option α} {f:α→β} {b:β} (h:o.map f=some b):∃ a,o=some a∧f a=b:=by
 cases o with
 | none=>cases h
 | some a=>exact ⟨a,rfl,Option.some.inj h⟩
def nks {α:Type} (o:Option Nat) (ks:List α) (k:α):List α:=match o with
 | some _=>ks
 | none=>ks++[k]
def nvs {α:Type} (o:Option Nat) (vs:List α) (v:α):List α:=match o with
 | some j=>vs.set j v
 | none=>vs++[v]
section
variable {X:Cx} {pins:List (Addr×Obj)} {σ:St} {H:Hp} {s:Shared} {F:Fz}
theorem zab:∀ {l:List D} {ns:List Int} {xs:List V},ints? l=some ns→Reps X.K F H l xs→xs=ns.map V.int
 | [],ns,xs,h,r=>by
  cases h
  rw [Reps] at r; exact r
 | .int i::l,ns,xs,h,r=>by
  rw [Reps] at r
  obtain ⟨v,r',rfl,h1,h2⟩:=r
  rw [Rep] at h1
  subst h1
  simp only [ints?] at h
  cases e:ints? l with
  | none=>rw [e] at h; cases h
  | some ms =>
   rw [e] at h
   cases h
   rw [zab e h2]
   rfl
 | .non::_,_,_,h,_=>by simp [ints?] at h
 | .bl _::_,_,_,h,_=>by simp [ints?] at h
 | .str _::_,_,_,h,_=>by simp [ints?] at h
 | .tup _::_,_,_,h,_=>by simp [ints?] at h
 | .lst _::_,_,_,h,_=>by simp [ints?] at h
 | .dic _ _::_,_,_,h,_=>by simp [ints?] at h
theorem zci:∀ {l:List D} {ns:List Int},ints? l=some ns→l=ns.map .int
 | [],_,h=>by cases h; rfl
 | .int i::r,ns,h=>by
  unfold ints? at h
  cases hq:ints? r with
  | none=>rw [hq] at h; cases h
  | some ms=>rw [hq] at h; cases h; rw [zci hq]; rfl
 | .non::_,_,h=>by simp [ints?] at h
 | .bl _::_,_,h=>by simp [ints?] at h
 | .str _::_,_,h=>by simp [ints?] at h
 | .tup _::_,_,h=>by simp [ints?] at h
 | .lst _::_,_,h=>by simp [ints?] at h
 | .dic _ _::_,_,h=>by simp [ints?] at h
theorem zb6:∀ ns:List Int,ints? (ns.map .int)=some ns
 | []=>rfl
 | x::r=>by
  show (ints? (r.map .int)).map (x::·)=_
  rw [zb6 r]; rfl
theorem zhl:∀ {nss ms:List (List Int)},tups? (nss.map tupI)=some ms→ms=nss
 | [],ms,h=>by cases h; rfl
 | n::r,ms,h=>by
  rw [List.map_cons] at h
  unfold tupI tups? at h
  rw [zb6] at h
  cases n with
  | nil=>cases h
  | cons x n =>
   simp only at h
   cases e:tups? (List.map tupI r) with
   | none=>unfold tupI at e; rw [e] at h; cases h
   | some q =>
    have e':=zhl e
    unfold tupI at e
    rw [e] at h
    cases h
    rw [e']
theorem zcp {a:Addr} {o:HO} (h:H a=some o):upd H a o=H:=by
 funext b
 by_cases e:b=a
 ·rw [e,zg,h]
 ·rw [zj e]
theorem zj9 {a:Addr} (I:Inv X pins σ H s) (h:H a=some (.dK [])):Inv X pins σ (upd H a (.dT [])) s:=by
 obtain ⟨z,hd,vs,rel,o,es,ep,e1,e2,e3,e4,e5,e6⟩:=zh4 I.hok h
 cases rel
 have e7:es.toList=[]:=List.eq_nil_of_length_eq_zero (by have:=e5.length; simpa using this)
 exact zcq (h':=s.heap) (t':=s.toks) (ob:=.dT []) I (by rw [h]; exact True.intro) ⟨rfl,fun _ _=>rfl⟩ ⟨o,e1⟩ ⟨Nat.zero_le _,hd,[],.nil,o,es,ep,e1,e2,e3,e7,List.nodup_nil⟩
theorem zkd {a:Addr} (I:Inv X pins σ H s) (h:H a=some (.dT [])):Inv X pins σ (upd H a (.dK [])) s:=by
 obtain ⟨z,hd,vs,rel,o,es,ep,e1,e2,e3,e4,e5,e6⟩:=zl9 I.hok h
 cases rel
 have e7:es.toList=[]:=e4
 have e8:es=#[]:=by cases es; simp at e7; rw [e7]
 subst e8
 exact zcq (h':=s.heap) (t':=s.toks) (ob:=.dK []) I (by rw [h]; exact True.intro) ⟨rfl,fun _ _=>rfl⟩ ⟨o,e1⟩ ⟨Nat.zero_le _,hd,[],.nil,o,#[],ep,e1,e2,e3,fun e he=>by simp at he,.nil,List.nodup_nil⟩
theorem zkq {a:Addr} (h:H a=some (.dT [])) (I:Inv X pins σ (upd H a (.dK [])) s):Inv X pins σ H s:=by
 have:=zj9 I zg
 rw [zd4,zcp h] at this
 exact this
theorem zjt {a:Addr} (h:H a=some (.dK [])) (I:Inv X pins σ (upd H a (.dT [])) s):Inv X pins σ H s:=by
 have:=zkd I zg
 rw [zd4,zcp h] at this
 exact this
theorem zcj {α κ:Type} [BEq α] [LawfulBEq α] [DecidableEq κ] {f:α→κ} (hf:∀ a b,f a=f b→a=b):∀ (l:List α) (us:List V) (x:α),us.length=l.length→valV ((l.map f).zip us) (f x)=(l.findIdx? (· == x)).bind fun j=>us[j]?
 | [],us,x,_=>rfl
 | a::l,[],x,h=>by simp at h
 | a::l,u::us,x,h=>by
  rw [List.map_cons,List.zip_cons_cons,List.findIdx?_cons]
  by_cases e:a=x
  ·subst e
   rw [zcm rfl]; simp
  ·rw [zcl (fun z=>e (hf _ _ z)),zcj hf l us x (by simpa using h)]
   rw [if_neg (by simpa using e)]
   cases l.findIdx? (· == x) <;> simp
theorem zga {α:Type} [BEq α] {l:List α} {x:α} {j:Nat} (h:l.findIdx? (· == x)=some j):j < l.length:=(List.findIdx?_eq_some_iff_getElem.mp h).1
theorem zgu {α κ:Type} [BEq α] [LawfulBEq α] [DecidableEq κ] {f:α→κ} (hf:∀ a b,f a=f b→a=b) (v:V):∀ (l:List α) (us:List V) (x:α) (j:Nat),l.Nodup→us.length=l.length→l.findIdx? (· == x)=some j →
  ((l.map f).zip us).map (fun kv=>if kv.1=f x then (kv.1,v) else kv)=(l.map f).zip (us.set j v)
 | [],us,x,j,_,_,h=>by cases h
 | a::l,[],x,j,_,h,_=>by simp at h
 | a::l,u::us,x,j,hn,hl,hj=>by
  rw [List.nodup_cons] at hn
  rw [List.map_cons,List.zip_cons_cons,List.map_cons]
  rw [List.findIdx?_cons] at hj
  by_cases e:a=x
  ·subst e
   rw [if_pos (by simp)] at hj
   cases hj
   rw [if_pos rfl,List.set_cons_zero,List.zip_cons_cons]
   congr 1
   have:∀ (m:List α) (ws:List V),a∉m→((m.map f).zip ws).map (fun kv=>if kv.1=f a then (kv.1,v) else kv)=(m.map f).zip ws:=by
    intro m
    induction m with
    | nil=>intro ws _; rfl
    | cons b m ih =>
     intro ws hb
     cases ws with
     | nil=>rfl
     | cons w ws =>
      rw [List.map_cons,List.zip_cons_cons,List.map_cons,if_neg (fun z=>hb (by rw [hf _ _ z]; exact List.mem_cons_self)),ih ws fun z=>hb (List.mem_cons_of_mem _ z)]
   exact this l us hn.1
  ·rw [if_neg (by simpa using e)] at hj
   obtain ⟨i,hi,rfl⟩:=Option.map_eq_some_iff.mp hj
   rw [if_neg (fun z=>e (hf _ _ z)),List.set_cons_succ,List.zip_cons_cons,zgu hf v l us x i hn.2 (by simpa using hl) hi]
theorem zi9 {α κ:Type} [BEq α] [LawfulBEq α] [DecidableEq κ] {f:α→κ} (hf:∀ a b,f a=f b→a=b) (v:V) {l:List α} {us:List V} {x:α} (hn:l.Nodup) (hl:us.length=l.length) :
  putK ((l.map f).zip us) (f x) v=match l.findIdx? (· == x) with | some j=>(l.map f).zip (us.set j v) | none=>((l++[x]).map f).zip (us++[v]):=by
 unfold putK
 rw [zd9,zcj hf l us x hl]
 cases e:l.findIdx? (· == x) with
 | none =>
  rw [if_neg (by simp)]
  simp only
  rw [List.map_append,List.zip_append (by rw [List.length_map,hl])]
  rfl
 | some j =>
  have:=zga e
  rw [Option.bind_some,List.getElem?_eq_getElem (by lia),if_pos (show (some _).isSome=true from rfl),zgu hf v l us x j hn hl e]
theorem zja:∀ a b:Int,(Sum.inl a:Key)=Sum.inl b→a=b:=fun a b h=>Sum.inl.inj h
theorem zn6 (n:List Int):(n.map (Sum.inl:Int→Key)).map kV=n.map V.int:=by rw [List.map_map]; rfl
theorem zcn {a:Addr} {ks:List D} {us:List V} {dx:D} {x:V} {o:Option Nat} (I:Inv X pins σ H s) (h:DH H a ks us) (nx:Now X.K F H dx x) (hk:keyAt dx ks=some o) :
  ∃ H1,Inv X pins σ H1 s∧(∀ s',Inv X pins σ H1 s'→Inv X pins σ H s')∧DGet H1 a x (o.bind fun j=>us[j]?)∧(∀ j,o=some j→j < us.length) ∧
   ∀ v,ks.length < sizeLine→∃ H2 us',DPut H1 a x v H2∧(∃ ob,H2=upd H a ob)∧DH H2 a (nks o ks dx) us'∧us'=(nvs o us v):=by
 have goK:∀ (i:Int) (H1:Hp) (ns:List Int),ns.Nodup→us.length=ns.length→H1 a=some (.dK ((ns.map Sum.inl).zip us))→(∃ ob,H1=upd H a ob)→Inv X pins σ H1 s→(∀ s',Inv X pins σ H1 s'→Inv X pins σ H s') →
   ∃ H1,Inv X pins σ H1 s∧(∀ s',Inv X pins σ H1 s'→Inv X pins σ H s')∧DGet H1 a (.int i) ((ns.findIdx? (· == i)).bind fun j=>us[j]?)∧(∀ j,ns.findIdx? (· == i)=some j→j < us.length) ∧
   ∀ v,ns.length < sizeLine→∃ H2 us',DPut H1 a (.int i) v H2∧(∃ ob,H2=upd H a ob)∧DH H2 a (nks (ns.findIdx? (· == i)) (ns.map .int) (.int i)) us'∧us'=(nvs (ns.findIdx? (· == i)) us v):=fun i H1 ns hn hl e ⟨ob,eo⟩ I1 back=>by
  refine ⟨H1,I1,back,?_,fun j hj=>by rw [hl]; exact zga hj,fun v hz=>⟨_,_,DPut.k (k:=Sum.inl i) e (by rw [List.length_zip,List.length_map,hl,Nat.min_self]; exact hz),⟨_,by rw [eo,zd4]⟩,?_,rfl⟩⟩
  ·have:=DGet.k (k:=Sum.inl i) e
   rw [zcj zja ns us i hl] at this
   exact this
  ·rw [zi9 zja v hn hl]
   cases ej:ns.findIdx? (· == i) with
   | some j=>exact .inl ⟨ns,rfl,hn,by show (us.set j v).length=_; rw [List.length_set]; exact hl,zg⟩
   | none =>
    refine .inl ⟨ns++[i],by simp [nks],?_,by simp [nvs,hl],zg⟩
    rw [List.nodup_append]
    refine ⟨hn,by simp,fun p hp q hq z=>?_⟩
    rw [List.mem_singleton] at hq
    have:=List.findIdx?_eq_none_iff.mp ej p hp
    rw [z,hq] at this
    simp at this
 have goT:∀ (n:List Int) (b:Addr) (H1:Hp) (ns:List (List Int)),ns.Nodup→us.length=ns.length→H1 a=some (.dT ((ns.map fun n=>n.map Sum.inl).zip us))→H1 b=some (.tup (n.map V.int))→(∃ ob,H1=upd H a ob)→Inv X pins σ H1 s→(∀ s',Inv X pins σ H1 s'→Inv X pins σ H s') →
   ∃ H1,Inv X pins σ H1 s∧(∀ s',Inv X pins σ H1 s'→Inv X pins σ H s')∧DGet H1 a (.ref b) ((ns.findIdx? (· == n)).bind fun j=>us[j]?)∧(∀ j,ns.findIdx? (· == n)=some j→j < us.length) ∧
   ∀ v,ns.length < sizeLine→∃ H2 us',DPut H1 a (.ref b) v H2∧(∃ ob,H2=upd H a ob)∧DH H2 a (nks (ns.findIdx? (· == n)) (ns.map tupI) (tupI n)) us'∧us'=(nvs (ns.findIdx? (· == n)) us v):=fun n b H1 ns hn hl e eb ⟨ob,eo⟩ I1 back=>by
  have eb':H1 b=some (.tup ((n.map (Sum.inl:Int→Key)).map kV)):=by rw [zn6]; exact eb
  refine ⟨H1,I1,back,?_,fun j hj=>by rw [hl]; exact zga hj,fun v hz=>⟨_,_,DPut.t (k:=n.map Sum.inl) e eb' (by rw [List.length_zip,List.length_map,hl,Nat.min_self]; exact hz),⟨_,by rw [eo,zd4]⟩,?_,rfl⟩⟩
  ·have:=DGet.t (k:=n.map Sum.inl) e eb'
   rw [zcj zbq ns us n hl] at this
   exact this
  ·rw [zi9 zbq v hn hl]
   cases ej:ns.findIdx? (· == n) with
   | some j=>exact .inr ⟨ns,rfl,hn,by show (us.set j v).length=_; rw [List.length_set]; exact hl,zg⟩
   | none =>
    refine .inr ⟨ns++[n],by simp [nks],?_,by simp [nvs,hl],zg⟩
    rw [List.nodup_append]
    refine ⟨hn,by simp,fun p hp q hq z=>?_⟩
    rw [List.mem_singleton] at hq
    have:=List.findIdx?_eq_none_iff.mp ej p hp
    rw [z,hq] at this
    simp at this
 cases dx with
 | int i =>
  have ex:=nx.int
  subst ex
  have hk:(ints? ks).map (fun ns=>ns.findIdx? (· == i))=some o:=hk
  obtain ⟨ns,hi,rfl⟩:=zb hk
  rcases h with ⟨ms,rfl,hn,hl,e⟩ | ⟨ms,rfl,hn,hl,e⟩
  ·rw [zb6] at hi
   cases hi
   obtain ⟨H1,a1,a2,a3,a4,a5⟩:=goK i H _ hn hl e ⟨_,(zcp e).symm⟩ I fun _ z=>z
   exact ⟨H1,a1,a2,a3,a4,fun v hz=>a5 v (by simpa using hz)⟩
  ·cases ms with
   | cons m ms=>simp [tupI,ints?] at hi
   | nil =>
    cases hi
    have hu:us=[]:=List.eq_nil_of_length_eq_zero (by simpa using hl)
    subst hu
    obtain ⟨H1,a1,a2,a3,a4,a5⟩:=goK i (upd H a (.dK [])) [] List.nodup_nil hl zg ⟨_,rfl⟩ (zkd I e) fun s' z=>zkq e z
    exact ⟨H1,a1,a2,a3,a4,a5⟩
 | tup l =>
  have hk:(ints? l).bind (fun n=>(tups? ks).map fun nss=>nss.findIdx? (· == n))=some o:=hk
  obtain ⟨n,hi,hk⟩:=za hk
  obtain ⟨nss,ht,rfl⟩:=zb hk
  obtain ⟨b,xs,rfl,hb,hr⟩:=nx.tup
  have ex:=zab (X:=X) hi hr
  subst ex
  have el:=zci hi
  have hbt:H b=some (.tup (n.map V.int)):=hb
  have el':D.tup l=tupI n:=by rw [el]; rfl
  rw [el']
  rcases h with ⟨ms,rfl,hn,hl,e⟩ | ⟨ms,rfl,hn,hl,e⟩
  ·cases ms with
   | cons m ms=>simp [tups?] at ht
   | nil =>
    cases ht
    have hu:us=[]:=List.eq_nil_of_length_eq_zero (by simpa using hl)
    subst hu
    obtain ⟨H1,a1,a2,a3,a4,a5⟩:=goT n b (upd H a (.dT [])) [] List.nodup_nil hl zg (by rw [zj (zrk hbt e (fun z=>nomatch z))]; exact hbt) ⟨_,rfl⟩ (zj9 I e) fun s' z=>zjt e z
    exact ⟨H1,a1,a2,a3,a4,a5⟩
  ·have:=zhl ht
   subst this
   obtain ⟨H1,a1,a2,a3,a4,a5⟩:=goT n b H nss hn hl e hbt ⟨_,(zcp e).symm⟩ I fun _ z=>z
   exact ⟨H1,a1,a2,a3,a4,fun v hz=>a5 v (by simpa using hz)⟩
 | _=>cases hk
variable {A:Around} {E:Value→Shared→Prop}
theorem zkc {us:List V} {o:Option Nat} (h:∀ j,o=some j→j < us.length):(o.bind fun j=>us[j]?).isSome=o.isSome:=by
 cases o with
 | none=>rfl
 | some j=>rw [Option.bind_some,List.getElem?_eq_getElem (h j rfl)]; rfl
theorem zp5 {a:Addr} {ks:List D} {us:List V} {dx:D} {x:V} {u:Value} {o:Option Nat} {Q:Value→Shared→Prop} (hu:A.units+1 < cLine) (I:Inv X pins σ H s) (h:DH H a ks us) (nx:Now X.K F H dx x) (hk:keyAt dx ks=some o) (rx:RelV x u)
  (q:∀ s',Inv X pins σ H s'→Q (.bool o.isSome) s'):wpAny (model X.prog X.w) A (compareOp .In u (.ref a)) Q E s:=by
 obtain ⟨H1,I1,back,g,hj,_⟩:=zcn I h nx hk
 exact zs7 hu I1 g rx fun s' I'=>by rw [zkc hj]; exact q s' (back s' I')
theorem ziv {a:Addr} {ks:List D} {us:List V} {dx:D} {x:V} {u:Value} {o:Option Nat} {Q:Value→Shared→Prop} (hu:A.units+1 < cLine) (I:Inv X pins σ H s) (h:DH H a ks us) (nx:Now X.K F H dx x) (hk:keyAt dx ks=some o) (rx:RelV x u)
  (q:∀ s',Inv X pins σ H s'→Q (.bool (!o.isSome)) s'):wpAny (model X.prog X.w) A (compareOp .NotIn u (.ref a)) Q E s:=by
 obtain ⟨H1,I1,back,g,hj,_⟩:=zcn I h nx hk
 exact zn3 hu I1 g rx fun s' I'=>by rw [zkc hj]; exact q s' (back s' I')
theorem zoi {a:Addr} {ks:List D} {us:List V} {dx:D} {x v:V} {u:Value} {j:Nat} {Q:Value→Shared→Prop} (hu:A.units+1 < cLine) (I:Inv X pins σ H s) (h:DH H a ks us) (nx:Now X.K F H dx x) (hk:keyAt dx ks=some (some j)) (hv:us[j]? = some v) (rx:RelV x u)
  (q:∀ w' s',Inv X pins σ H s'→RelV v w'→Q w' s'):wpAny (model X.prog X.w) A (getItem (.ref a) u) Q E s:=by
 obtain ⟨H1,I1,back,g,hj,_⟩:=zcn I h nx hk
 rw [Option.bind_some,hv] at g
 exact zkk hu I1 g rx fun w' s' I' r'=>q w' s' (back s' I') r'
theorem zod {a:Addr} {ks:List D} {us:List V} {dx:D} {x v:V} {u r:Value} {o:Option Nat} {Q:Unit→Shared→Prop} (hu:A.units+1 < cLine) (I:Inv X pins σ H s) (h:DH H a ks us) (nx:Now X.K F H dx x) (hk:keyAt dx ks=some o) (rx:RelV x u) (rv:RelV v r) (hz:ks.length < sizeLine)
  (q:∀ ob s',Inv X pins σ (upd H a ob) s'→DH (upd H a ob) a (nks o ks dx) (nvs o us v)→Q () s'):wpAny (model X.prog X.w) A (setItem (.ref a) u r) Q E s:=by
 obtain ⟨H1,I1,back,g,hj,pt⟩:=zcn I h nx hk
 obtain ⟨H2,us',p1,⟨ob,rfl⟩,p3,rfl⟩:=pt v hz
 exact zjh hu I1 p1 rx rv fun s' I'=>q ob s' I' p3
theorem znp {a:Addr} {u:Value} {value slice:Expr} {Q:Value→Shared→Prop} (ht:∃ o,s.heap.get? a=some o∧o.cls=.type "dict") (hs:subscripted slice false (.ref a) u=operate [.ref a,u] (getItem (.ref a) u))
  (h:wpAny (model X.prog X.w) A (getItem (.ref a) u) Q E s):wpAny (model X.prog X.w) A (subscriptTail value slice (.ref a) u) Q E s:=by
 have hT:s.TypeIs (.ref a) "dict":=ht
 unfold subscriptTail
 refine wpAny_bind ?_
 rw [getitemInPython_of_ne hT.not_modules]
 refine wpAny_bind (wpAny_specialOf hT PySem.F.slot_dict_getitem.lookup ?_)
 have fin:wpAny (model X.prog X.w) A (subscripted slice false (.ref a) u) (fun r s₃=>wpAny (model X.prog X.w) A (letTemporaryGo value (.ref a) r >>= fun _=>pure r) Q E s₃) E s:=by
  rw [hs]
  exact wpAny_operating (wpAny_mono h (fun r s₃ h₃=>wpAny_bind (wpAny_letTemporaryGo (wpAny_pure h₃))) fun _ _ x=>x)
 first
  | exact wpAny_pure (wpAny_bind fin)
  | exact wpAny_bind (wpAny_pure (wpAny_bind fin))
  | exact wpAny_bind fin
end
end SD
namespace HT
open PySem PySem.W PyProof.Rows
section
variable {prog:Program} {w:World} {A:Around} {E:Value→Shared→Prop} {s:Shared}
noncomputable def DAny (h:Heap) (d:Addr) (ks:List Value) (ep:Nat):Prop:=∃ o es,h.get? d=some o∧o.ExactDict∧o.data=.dict es ep∧es.toList.map (·.key)=ks
theorem DAny.size {es:Array DictEntry} {ks:List Value} (e:es.toList.map (·.key)=ks):es.size=ks.length:=by rw [← e]; simp
theorem DAny.keep {h h':Heap} {d:Addr} {ks:List Value} {ep:Nat} (x:DAny h d ks ep) (k:∀ o,h.get? d=some o→h'.get? d=some o):DAny h' d ks ep:=let ⟨o,es,e,r⟩:=x; ⟨o,es,k o e,r⟩
theorem DAny.lt {h:Heap} {d:Addr} {ks:List Value} {ep:Nat} (x:DAny h d ks ep):d < h.objs.size:=let ⟨_,_,e,_⟩:=x; Heap.lt_size e
theorem DAny.typeIs {d:Addr} {ks:List Value} {ep:Nat} (x:DAny s.heap d ks ep):s.TypeIs (.ref d) "dict":=let ⟨o,_,e,c,_⟩:=x; ⟨o,e,c.1⟩
end
end HT
namespace L2
open PySem PySem.Spec PyProof.Rows
section
variable {X:Cx}
end
end L2
namespace L2
open PySem PySem.Spec PyProof.Rows
theorem ze7:∀ {ns:List Int} {its:List Value},Vals (ns.map V.int) its→∃ xs:List (Int×Tok),its=xs.map (fun p=>Value.int p.1 p.2)∧xs.map (·.1)=ns
 | [],_,r=>by cases r; exact ⟨[],rfl,rfl⟩
 | n::ns,_,r=>by
  rw [List.map_cons] at r
  cases r with
  | @cons a b as bs h t =>
   obtain ⟨tk,e⟩:=(show ∃ t,b=Value.int n t from h)
   obtain ⟨xs,h1,h2⟩:=ze7 t
   exact ⟨(n,tk)::xs,by rw [e,h1]; rfl,by rw [← h2]; rfl⟩
theorem zes (f:Nat→Int):∀ (n:Nat),preSum f n=((List.range n).map f).foldl (· + ·) 0
 | 0=>rfl
 | n+1=>by
  rw [List.range_succ,List.map_append,List.foldl_append,← zes f n]
  rfl
theorem ze5 (f:Nat→Int) (h:∀ i,-4000≤f i∧f i≤4000):∀ n:Nat,-(4000 * (n:Int))≤preSum f n∧preSum f n≤4000 * n
 | 0=>by simp [preSum]
 | n+1=>by
  have h1:=ze5 f h n
  have h2:=h n
  have:preSum f (n+1)=preSum f n+f n:=rfl
  rw [this]
  constructor <;> (push_cast; lia)
section
variable {X:Cx}
theorem zkn (hc:X.calm=true):CallR X (.builtin "sum") (fun xs H Q=>∃ (p:Addr) (ns:List Int),xs=[.ref p]∧SqL X.K H p (ns.map V.int)∧ns.length≤4000∧(∀ n∈ns,-4000≤n∧n≤4000)∧Q (.int (ns.foldl (· + ·) 0)) H):=by
 intro pins s σ H xs us Q I r h
 obtain ⟨p,ns,rfl,hq,hl,hb,q⟩:=h
 obtain ⟨u,rfl,ru⟩:=vals1 r
 cases ru
 obtain ⟨its,rv,pl,hz⟩:=I.list hq
 obtain ⟨ps,e1,e2⟩:=ze7 rv
 subst e1
 have hi:s.heap.IsList p (intItems ps.toArray):=by
  have:=pl.isList
  unfold intItems
  simpa using this
 have hlen:ps.length=ns.length:=by rw [← e2,List.length_map]
 have hnum:∀ i,numAt ps.toArray i=ns.getD i 0:=fun i=>by
  unfold numAt
  rw [← e2,List.getD_eq_getElem?_getD,List.getElem?_map]
  simp
 have hsm:∀ i,-4000≤numAt ps.toArray i∧numAt ps.toArray i≤4000:=fun i=>by
  rw [hnum,List.getD_eq_getElem?_getD]
  cases e:ns[i]? with
  | none=>simp
  | some n=>exact hb n (List.mem_of_getElem? e)
 have hsum:preSum (numAt ps.toArray) ps.toArray.size=ns.foldl (· + ·) 0:=by
  rw [zes]
  congr 1
  apply List.ext_getElem
  ·simp [hlen]
  ·intro i h1 h2
   simp only [List.getElem_map,List.getElem_range]
   rw [hnum,List.getD_eq_getElem?_getD,List.getElem?_eq_getElem h2]; rfl
 refine sum_intList (I.ok.hd hc) hi (fun j hj=>?_) fun h' tk t' hk=>?_
 ·have h1:=hsm j
  have h2:=ze5 _ hsm (j+1)
  have h3:j < ps.length:=by simpa using hj
  constructor <;> (unfold InLong; lia)
 ·rw [hsum]
  exact ⟨.int (ns.foldl (· + ·) 0),H,I.kept hk,⟨t',rfl⟩,q⟩
end
end L2
namespace ST
open PySem PySem.SetTable
abbrev Ris (l:List Nat):Prop:=l.Pairwise (· < ·)
theorem zc3 {l:List Nat} (h:Ris l) {i k:Nat} {a b:Nat} (hi:l[i]? = some a) (hk:l[k]? = some b) (lt:i < k):a < b:=by
 obtain ⟨h1,rfl⟩:=List.getElem?_eq_some_iff.mp hi
 obtain ⟨h2,rfl⟩:=List.getElem?_eq_some_iff.mp hk
 exact List.pairwise_iff_getElem.mp h i k h1 h2 lt
def Parts (l:List Nat) (j r:Nat):Prop:=r≤l.length∧(∀ i a,l[i]? = some a→i < r→a < j)∧∀ i a,l[i]? = some a→r≤i→j≤a
theorem zd1 {xs:Array Nat} (hx:Ris xs.toList) (j:Nat):∀ (fuel lo hi:Nat),lo≤hi→hi≤xs.size→hi - lo≤fuel→(∀ i a,xs.toList[i]? = some a→i < lo→a < j)→(∀ i a,xs.toList[i]? = some a→hi≤i→j≤a)→Parts xs.toList j (below.go xs j fuel lo hi)
 | 0,lo,hi,h1,h2,h3,h4,h5=>by
  have e:lo=hi:=by lia
  subst e
  unfold below.go
  exact ⟨by simpa using h2,h4,h5⟩
 | fuel+1,lo,hi,h1,h2,h3,h4,h5=>by
  unfold below.go
  by_cases hlt:lo < hi
  ·rw [if_pos hlt]
   have hm:(lo+hi) / 2 < xs.size:=by lia
   have em:xs.toList[(lo+hi) / 2]? = some (xs[(lo+hi) / 2]):=by rw [Array.getElem?_toList]; exact Array.getElem?_eq_getElem hm
   have eg:xs.getD ((lo+hi) / 2) j=xs[(lo+hi) / 2]:=by simp [Array.getD,hm]
   dsimp only
   rw [eg]
   split
   ·rename_i hc
    refine zd1 hx j fuel _ _ (by lia) h2 (by lia) (fun i a ha hi'=>?_) h5
    by_cases e:i=(lo+hi) / 2
    ·subst e; rw [em] at ha; cases ha; exact hc
    ·exact Nat.lt_trans (zc3 hx ha em (by lia)) hc
   ·rename_i hc
    refine zd1 hx j fuel _ _ (by lia) (by lia) (by lia) h4 (fun i a ha hi'=>?_)
    by_cases e:i=(lo+hi) / 2
    ·subst e; rw [em] at ha; cases ha; lia
    ·have:=zc3 hx em ha (by lia); lia
  ·rw [if_neg hlt]
   have e:lo=hi:=by lia
   subst e
   exact ⟨by simpa using h2,h4,h5⟩
theorem zc0 {xs:Array Nat} (hx:Ris xs.toList) (j:Nat):Parts xs.toList j (below xs j) :=
 zd1 hx j _ _ _ (Nat.zero_le _) (Nat.le_refl _) (by lia) (fun i a _ h=>by lia) fun i a ha h=>by
  have:=(List.getElem?_eq_some_iff.mp ha).1
  rw [Array.length_toList] at this; lia
theorem zl8 {l:List Nat} (hl:Ris l) {j r i:Nat} (p:Parts l j r) (h:l[i]? = some j):r=i:=by
 rcases Nat.lt_trichotomy r i with lt | e | gt
 ·have hr:r < l.length:=by have:=(List.getElem?_eq_some_iff.mp h).1; lia
  have:=p.2.2 r _ (List.getElem?_eq_getElem hr) (Nat.le_refl _)
  have:=zc3 hl (List.getElem?_eq_getElem hr) h lt
  lia
 ·exact e
 ·have:=p.2.1 i j h gt; lia
theorem zny {l:List Nat} (hl:Ris l) {j r:Nat} (p:Parts l j r) (hj:j∉l):Ris (l.take r++j::l.drop r):=by
 have hlt:∀ a∈l.take r,a < j:=fun a ha=>by
  obtain ⟨i,hi,e⟩:=List.mem_take_iff_getElem.mp ha
  exact p.2.1 i a (by rw [← e]; exact List.getElem?_eq_getElem (by lia)) (by lia)
 have hgt:∀ a∈l.drop r,j < a:=fun a ha=>by
  obtain ⟨i,hi,e⟩:=List.mem_drop_iff_getElem.mp ha
  have h1:=p.2.2 (r+i) a (by rw [← e]; exact List.getElem?_eq_getElem (by lia)) (by lia)
  have:j≠a:=fun z=>hj (by rw [z]; exact List.mem_of_mem_drop ha)
  lia
 refine List.pairwise_append.mpr ⟨hl.sublist (List.take_sublist _ _),List.pairwise_cons.mpr ⟨hgt,hl.sublist (List.drop_sublist _ _)⟩,fun a ha b hb=>?_⟩
 rcases List.mem_cons.mp hb with rfl | hb
 ·exact hlt a ha
 ·exact Nat.lt_trans (hlt a ha) (hgt b hb)
theorem zev {t:SetTable} (h:Ris t.place.toList) {i j:Nat} (e:t.place.toList[i]? = some j):t.slot j=.live i:=by
 unfold SetTable.slot
 have:below t.place j=i:=zl8 h (zc0 h j) e
 dsimp only
 rw [this,← Array.getElem?_toList,e]
 simp
theorem zie {t:SetTable} (h:Ris t.place.toList) (hd:t.dummies=#[]) {j:Nat} (e:j∉t.place.toList):t.slot j=.empty:=by
 unfold SetTable.slot
 dsimp only
 have h1:(t.place[below t.place j]? == some j)=false:=by
  cases hq:t.place[below t.place j]? with
  | none=>rfl
  | some a =>
   have:a≠j:=fun z=>e (by rw [← z]; exact List.mem_of_getElem? (by rw [Array.getElem?_toList]; exact hq))
   simpa using this
 have h2:has t.dummies j=false:=by
  rw [hd]; unfold has
  simp
 rw [h1,h2]
 rfl
def adv (mask:Nat) (p:Probe):Probe :=
 if p.more > 0 then { p with j:=p.j+1,more:=p.more - 1} else
 { p with j:=(leap mask p.i p.perturb).1,more:=runEnd mask (leap mask p.i p.perturb).1 - (leap mask p.i p.perturb).1,i:=(leap mask p.i p.perturb).1,perturb:=(leap mask p.i p.perturb).2}
def lead (mask:Nat) (q:Nat×Nat):Probe:={ j:=q.1,more:=runEnd mask q.1 - q.1,i:=q.1,perturb:=q.2,dummy:=none}
def lp (mask:Nat) (h:Int):Nat→Nat×Nat
 | 0=>(bits h % (mask+1),bits h)
 | k+1=>leap mask (lp mask h k).1 (lp mask h k).2
def pth (mask:Nat) (h:Int):Nat→Probe
 | 0=>lead mask (lp mask h 0)
 | n+1=>adv mask (pth mask h n)
theorem zfm (mask:Nat) (h:Int):∀ n,(pth mask h n).dummy=none
 | 0=>rfl
 | n+1=>by
  have:=zfm mask h n
  unfold pth adv
  split <;> exact this
def len (mask i:Nat):Nat:=runEnd mask i - i
theorem zm2 (mask i:Nat):len mask i≤9:=by unfold len runEnd; split <;> lia
def pos (mask:Nat) (h:Int):Nat→Nat
 | 0=>0
 | k+1=>pos mask h k+len mask (lp mask h k).1+1
theorem zir (mask:Nat) (h:Int):∀ k,pos mask h k≤10 * k
 | 0=>Nat.le_refl _
 | k+1=>by have:=zir mask h k; have:=zm2 mask (lp mask h k).1; unfold pos; lia
theorem zmt (mask:Nat) (h:Int) {k:Nat}:∀ {l:Nat},k < l→pos mask h k < pos mask h l
 | 0,hl=>by lia
 | l+1,hl=>by
  by_cases e:k=l
  ·subst e; show pos mask h k < pos mask h k+_+1; lia
  ·have:=zmt mask h (k:=k) (l:=l) (by lia)
   show _ < pos mask h l+_+1; lia
theorem zf4 {mask:Nat} {h:Int} {n:Nat} {q:Nat×Nat} (e:pth mask h n=lead mask q):∀ r,r≤len mask q.1→pth mask h (n+r)={ lead mask q with j:=q.1+r,more:=len mask q.1 - r}
 | 0,_=>by rw [Nat.add_zero,e]; rfl
 | r+1,hr=>by
  have:=zf4 e r (by lia)
  show adv mask (pth mask h (n+r))=_
  rw [this]
  unfold adv
  dsimp only
  rw [if_pos (by lia)]
  have:len mask q.1 - r - 1=len mask q.1 - (r+1):=by lia
  rw [this]; rfl
theorem zd7 (mask:Nat) (h:Int):∀ k,pth mask h (pos mask h k)=lead mask (lp mask h k)
 | 0=>rfl
 | k+1=>by
  have e:=zf4 (zd7 mask h k) (len mask (lp mask h k).1) (Nat.le_refl _)
  show adv mask (pth mask h (pos mask h k+len mask (lp mask h k).1))=_
  rw [e]
  unfold adv
  dsimp only
  rw [if_neg (by lia)]
  rfl
theorem zos {mask:Nat} {h:Int} {k r:Nat} (hr:r≤len mask (lp mask h k).1):(pth mask h (pos mask h k+r)).j=(lp mask h k).1+r:=by
 rw [zf4 (zd7 mask h k) r hr]
def stp (N i:Nat):Nat:=(i * 5+1) % N
def its (N:Nat):Nat→Nat→Nat
 | 0,i=>i
 | k+1,i=>stp N (its N k i)
theorem zc5 (N:Nat) (i:Nat) (a:Nat):∀ b,its N (a+b) i=its N b (its N a i)
 | 0=>rfl
 | b+1=>by show stp N (its N (a+b) i)=stp N (its N b (its N a i)); rw [zc5 N i a b]
theorem pert (mask:Nat) (h:Int):∀ k,(lp mask h k).2=bits h / 32 ^ k
 | 0=>by simp [lp]
 | k+1=>by
  show (lp mask h k).2 / 32=_
  rw [pert mask h k,Nat.div_div_eq_div_mul,Nat.pow_succ]
theorem zov (h:Int):bits h < 2 ^ 64:=by
 unfold bits
 have h1:h % (2 ^ 64:Int) < 2 ^ 64:=Int.emod_lt_of_pos _ (by decide)
 have h2:0≤h % (2 ^ 64:Int):=Int.emod_nonneg _ (by decide)
 lia
theorem zro (mask:Nat) (h:Int) {k:Nat} (hk:13≤k):(lp mask h (k+1)).1=stp (mask+1) (lp mask h k).1:=by
 have:(lp mask h k).2=0:=by
  rw [pert]
  refine Nat.div_eq_of_lt (Nat.lt_of_lt_of_le (zov h) ?_)
  calc 2 ^ 64≤32 ^ 13:=by decide
   _≤32 ^ k:=Nat.pow_le_pow_right (by decide) hk
 show ((lp mask h k).1 * 5+1+(lp mask h k).2 / 32) % (mask+1)=_
 rw [this]; rfl
theorem znm (mask:Nat) (h:Int):∀ m,(lp mask h (13+m)).1=its (mask+1) m (lp mask h 13).1
 | 0=>rfl
 | m+1=>by
  show (lp mask h (13+m+1)).1=stp (mask+1) (its (mask+1) m _)
  rw [zro mask h (by lia),znm mask h m]
theorem zpe (mask:Nat) (h:Int):∀ k,(lp mask h k).1 < mask+1
 | 0=>Nat.mod_lt _ (Nat.succ_pos _)
 | k+1=>Nat.mod_lt _ (Nat.succ_pos _)
def Msk (mask:Nat):Prop:=mask=7∨mask=31∨mask=127
def row (N:Nat):Nat→Nat→List Nat
 | 0,_=>[]
 | k+1,i=>i::row N k (stp N i)
theorem zix (N:Nat):∀ (k i m:Nat),m < k→(row N k i)[m]? = some (its N m i)
 | 0,_,_,h=>by lia
 | k+1,i,0,_=>rfl
 | k+1,i,m+1,h=>by
  show (row N k (stp N i))[m]? = _
  rw [zix N k (stp N i) m (by lia)]
  have:=zc5 N i 1 m
  rw [Nat.add_comm] at this
  exact congrArg some this.symm
theorem zgx {mask:Nat} (h:Msk mask):(List.range (mask+1)).all (fun j=>(row (mask+1) (mask+1) 0).contains j)=true∧its (mask+1) (mask+1) 0=0:=by
 rcases h with rfl | rfl | rfl <;> exact ⟨by decide +kernel,by decide +kernel⟩
theorem from0 {mask:Nat} (h:Msk mask) {j:Nat} (hj:j < mask+1):∃ m,m < mask+1∧its (mask+1) m 0=j:=by
 have:=List.all_eq_true.mp (zgx h).1 j (List.mem_range.mpr hj)
 rw [List.contains_iff_mem] at this
 obtain ⟨m,hm,e⟩:=List.getElem_of_mem this
 have hl:∀ k i,(row (mask+1) k i).length=k:=fun k=>by
  induction k with
  | zero=>intro i; rfl
  | succ k ih=>intro i; show (row _ k _).length+1=_; rw [ih]
 rw [hl] at hm
 refine ⟨m,hm,?_⟩
 have h1:=zix (mask+1) (mask+1) 0 m hm
 rw [List.getElem?_eq_getElem (by rw [hl]; exact hm),e] at h1
 exact (Option.some.inj h1).symm
theorem zmc {mask:Nat} (h:Msk mask) {i j:Nat} (hi:i < mask+1) (hj:j < mask+1):∃ m,m < mask+1∧its (mask+1) m i=j:=by
 obtain ⟨a,ha,ea⟩:=from0 h hi
 obtain ⟨b,hb,eb⟩:=from0 h hj
 by_cases hab:a≤b
 ·refine ⟨b - a,by lia,?_⟩
  rw [← ea,← zc5,show a+(b - a)=b by lia,eb]
 ·refine ⟨b+(mask+1) - a,by lia,?_⟩
  rw [← ea,← zc5,show a+(b+(mask+1) - a)=(mask+1)+b by lia,zc5,(zgx h).2,eb]
theorem cover {mask:Nat} (hm:Msk mask) (h:Int) {j:Nat} (hj:j < mask+1):∃ k,k < mask+14∧(lp mask h k).1=j:=by
 obtain ⟨m,h1,h2⟩:=zmc hm (zpe mask h 13) hj
 exact ⟨13+m,by lia,by rw [znm]; exact h2⟩
end ST
namespace ST
open PySem PySem.SetTable
def Way (mask:Nat) (L:Nat→Prop) (h:Int) (p:Nat):Prop:=∃ n,n < 10 * turns mask∧(pth mask h n).j=p∧∀ m,m < n→L (pth mask h m).j
theorem Way.mono {mask:Nat} {L L':Nat→Prop} {h:Int} {p:Nat} (w:Way mask L h p) (f:∀ j,L j→L' j):Way mask L' h p:=let ⟨n,h1,h2,h3⟩:=w; ⟨n,h1,h2,fun m hm=>f _ (h3 m hm)⟩
structure Good (t:SetTable) (hs:List Int):Prop where
 msk:Msk t.mask
 dum:t.dummies=#[]
 ris:Ris t.place.toList
 le:∀ p∈t.place.toList,p≤t.mask
 len:t.place.toList.length=hs.length
 way:∀ q∈t.place.toList.zip hs,Way t.mask (·∈t.place.toList) q.2 q.1
theorem least {P:Nat→Prop} {n:Nat} (h:P n):∃ m,m≤n∧P m∧∀ k,k < m→¬ P k:=by
 induction n using Nat.strongRecOn with
 | ind n ih =>
  by_cases hh:∃ k,k < n∧P k
  ·obtain ⟨k,h1,h2⟩:=hh
   obtain ⟨m,h3,h4,h5⟩:=ih k h1 h2
   exact ⟨m,by lia,h4,h5⟩
  ·exact ⟨n,Nat.le_refl _,h,fun k hk z=>hh ⟨k,hk,z⟩⟩
theorem nodup_range (n:Nat):(List.range n).Nodup:=List.nodup_range
theorem zjg {l:List Nat} (h:Ris l):l.Nodup:=h.imp fun a=>Nat.ne_of_lt a
theorem zi1 {l:List Nat} (hl:l.Nodup) {N:Nat} (h:l.length < N):∃ j,j < N∧j∉l:=by
 apply Classical.byContradiction
 intro hn
 have hall:∀ j,j < N→j∈l:=fun j hj=>Classical.byContradiction fun z=>hn ⟨j,hj,z⟩
 have p:(List.range N).Perm (l.filter fun j=>decide (j < N)):=(List.perm_ext_iff_of_nodup (nodup_range N) (hl.filter _)).mpr fun a=>by
  rw [List.mem_range,List.mem_filter,decide_eq_true_eq]
  exact ⟨fun z=>⟨hall a z,z⟩,fun z=>z.2⟩
 have:=p.length_eq
 rw [List.length_range] at this
 have:=List.length_filter_le (fun j=>decide (j < N)) l
 lia
theorem Good.first {t:SetTable} {hs:List Int} (G:Good t hs) (hf:t.place.toList.length≤t.mask) (h:Int):∃ n,n < 10 * turns t.mask∧(pth t.mask h n).j∉t.place.toList∧(pth t.mask h n).j≤t.mask∧∀ m,m < n→(pth t.mask h m).j∈t.place.toList:=by
 obtain ⟨j,hj,hn⟩:=zi1 (zjg G.ris) (N:=t.mask+1) (by lia)
 obtain ⟨k,hk,e⟩:=cover G.msk h hj
 have hp:(pth t.mask h (pos t.mask h k)).j=j:=by rw [zd7]; exact e
 obtain ⟨n,h1,h2,h3⟩:=least (P:=fun n=>(pth t.mask h n).j∉t.place.toList) (n:=pos t.mask h k) (by rw [hp]; exact hn)
 have hpos:=zir t.mask h k
 refine ⟨n,by unfold turns; lia,h2,?_,fun m hm=>Classical.byContradiction fun z=>h3 m hm z⟩
 -- the slot is within the mask
 have:∀ n,(pth t.mask h n).j+(pth t.mask h n).more≤t.mask:=by
  intro n
  have run:∀ i,i < t.mask+1→i+(runEnd t.mask i - i)≤t.mask:=fun i hi=>by unfold runEnd; split <;> lia
  induction n with
  | zero=>exact run _ (zpe t.mask h 0)
  | succ n ih =>
   show (adv t.mask (pth t.mask h n)).j+(adv t.mask (pth t.mask h n)).more≤t.mask
   unfold adv
   split
   ·dsimp only; lia
   ·dsimp only
    exact run _ (Nat.mod_lt _ (Nat.succ_pos _))
 have:=this n
 lia
theorem Good.put {t:SetTable} {hs:List Int} (G:Good t hs) {j:Nat} {h:Int} (hj:j∉t.place.toList) (hm:j≤t.mask) (w:Way t.mask (·∈t.place.toList) h j) :
  (t.put j).2=below t.place j∧Good (t.put j).1 (hs.take (below t.place j)++h::hs.drop (below t.place j))∧(t.put j).1.place.toList.length=t.place.toList.length+1:=by
 have hd:has t.dummies j=false:=by rw [G.dum]; unfold has; simp
 have pl:(t.put j).1.place.toList=t.place.toList.take (below t.place j)++j::t.place.toList.drop (below t.place j):=by
  unfold SetTable.put insertAt
  simp [List.extract_eq_drop_take,List.take_of_length_le]
 have P:=zc0 G.ris j
 refine ⟨rfl,⟨G.msk,?_,?_,?_,?_,?_⟩,?_⟩
 ·unfold SetTable.put
  dsimp only
  rw [hd]; exact G.dum
 ·rw [pl]; exact zny G.ris P hj
 ·intro p hp
  rw [pl] at hp
  show p≤t.mask
  rcases List.mem_append.mp hp with h1 | h1
  ·exact G.le p (List.mem_of_mem_take h1)
  ·rcases List.mem_cons.mp h1 with rfl | h1
   ·exact hm
   ·exact G.le p (List.mem_of_mem_drop h1)
 ·rw [pl]
  have:=G.len
  have:=P.1
  simp only [List.length_append,List.length_cons,List.length_take,List.length_drop]
  lia
 ·rw [pl]
  have hl:=G.len
  rw [List.zip_append (by rw [List.length_take,List.length_take,hl]),List.zip_cons_cons,show ∀ n,(t.place.toList.take n).zip (hs.take n)=(t.place.toList.zip hs).take n from fun n=>by simp [List.zip,List.take_zipWith],show ∀ n,(t.place.toList.drop n).zip (hs.drop n)=(t.place.toList.zip hs).drop n from fun n=>by simp [List.zip,List.drop_zipWith]]
  have mono:∀ i,i∈t.place.toList→i∈t.place.toList.take (below t.place j)++j::t.place.toList.drop (below t.place j):=fun i hi=>by
   rw [← List.take_append_drop (below t.place j) t.place.toList] at hi
   rcases List.mem_append.mp hi with h1 | h1
   ·exact List.mem_append_left _ h1
   ·exact List.mem_append_right _ (List.mem_cons_of_mem _ h1)
  intro q hq
  show Way t.mask _ _ _
  rcases List.mem_append.mp hq with h1 | h1
  ·exact (G.way q (List.mem_of_mem_take h1)).mono mono
  ·rcases List.mem_cons.mp h1 with rfl | h1
   ·exact w.mono mono
   ·exact (G.way q (List.mem_of_mem_drop h1)).mono mono
 ·rw [pl]
  have:=P.1
  simp only [List.length_append,List.length_cons,List.length_take,List.length_drop]
  lia
theorem zhf {t:SetTable} {hs:List Int} (G:Good t hs) (hashAt:Nat→Int) (h:Int) {B:Nat} (hB:(pth t.mask h B).j∉t.place.toList∨∃ i,t.place.toList[i]? = some (pth t.mask h B).j∧hashAt i=h):∀ (fuel n:Nat),B - n < fuel→n≤B→(∀ m,n≤m→m < B→(pth t.mask h m).j∈t.place.toList) →
  (∃ m i,n≤m∧m≤B∧t.place.toList[i]? = some (pth t.mask h m).j∧hashAt i=h∧probe.go t hashAt h fuel (pth t.mask h n)=some (.candidate (pth t.mask h m).j i (pth t.mask h (m+1)))) ∨
  ((pth t.mask h B).j∉t.place.toList∧probe.go t hashAt h fuel (pth t.mask h n)=some (.empty (pth t.mask h B).j none))
 | 0,n,hf,_,_=>by lia
 | fuel+1,n,hf,hn,hl=>by
  have live:∀ i,t.place.toList[i]? = some (pth t.mask h n).j→probe.go t hashAt h (fuel+1) (pth t.mask h n)=if hashAt i==h then some (.candidate (pth t.mask h n).j i (pth t.mask h (n+1))) else probe.go t hashAt h fuel (pth t.mask h (n+1)):=fun i e=>by
   show (match t.slot (pth t.mask h n).j with | .empty=>_ | .dummy=>_ | .live i=>_)=_
   rw [zev G.ris e]
   rfl
  by_cases hb:n=B
  ·subst hb
   rcases hB with hB | ⟨i,h1,h2⟩
   ·refine .inr ⟨hB,?_⟩
    show (match t.slot (pth t.mask h n).j with | .empty=>_ | .dummy=>_ | .live i=>_)=_
    rw [zie G.ris G.dum hB]
    dsimp only
    rw [zfm]
   ·exact .inl ⟨n,i,Nat.le_refl _,Nat.le_refl _,h1,h2,by rw [live i h1,h2]; simp⟩
  ·obtain ⟨i,hi,e⟩:=List.getElem_of_mem (hl n (Nat.le_refl _) (by lia))
   have h1:t.place.toList[i]? = some (pth t.mask h n).j:=by rw [← e]; exact List.getElem?_eq_getElem hi
   by_cases hh:hashAt i=h
   ·exact .inl ⟨n,i,Nat.le_refl _,hn,h1,hh,by rw [live i h1,hh]; simp⟩
   ·have e2:(hashAt i==h)=false:=by simpa using hh
    rw [live i h1,e2]
    simp only [Bool.false_eq_true,if_false]
    rcases zhf G hashAt h hB fuel (n+1) (by lia) (by lia) (fun m h2 h3=>hl m (by lia) h3) with ⟨m,i',a1,a2,a3⟩ | a
    ·exact .inl ⟨m,i',by lia,a2,a3⟩
    ·exact .inr a
abbrev Got (owner:Array (Option Nat)) (j:Nat):Prop:=∃ i,owner[j]? = some (some i)
structure Own (mask:Nat) (owner:Array (Option Nat)) (hs:List Int):Prop where
 size:owner.size=mask+1
 cnt:owner.toList.countP Option.isSome=hs.length
 at_:∀ i:Nat,i < hs.length→∃ j:Nat,owner[j]? = some (some i)
 one:∀ j j' i:Nat,owner[j]? = some (some i)→owner[j']? = some (some i)→j=j'
 lt:∀ j i:Nat,owner[j]? = some (some i)→i < hs.length
 way:∀ (j i:Nat) (h:Int),owner[j]? = some (some i)→hs[i]? = some h→Way mask (Got owner) h j
theorem zje {owner:Array (Option Nat)} {j:Nat} (hj:j < owner.size):¬ Got owner j↔owner[j]? = some none:=by
 rw [Array.getElem?_eq_getElem hj]
 cases e:owner[j] with
 | none=>exact ⟨fun _=>rfl,fun _ ⟨i,z⟩=>by rw [Array.getElem?_eq_getElem hj,e] at z; cases z⟩
 | some i=>exact ⟨fun h=>(h ⟨i,by rw [Array.getElem?_eq_getElem hj,e]⟩).elim,fun h=>by cases h⟩
theorem zj4 {mask:Nat} (hm:Msk mask) {owner:Array (Option Nat)} (hz:owner.size=mask+1) (h:Int) {e:Nat} (he:owner[e]? = some none):∀ fuel k,k+fuel=mask+15→(∀ m,m < pos mask h k→Got owner (pth mask h m).j) →
  ∃ j,layClean.free mask owner fuel (lp mask h k).1 (lp mask h k).2=some j∧owner[j]? = some none∧Way mask (Got owner) h j
 | 0,k,hk,hp=>by
  have elt:e < mask+1:=by rw [← hz]; exact (Array.getElem?_eq_some_iff.mp he).1
  obtain ⟨k0,h1,h2⟩:=cover hm h elt
  have:=hp (pos mask h k0) (zmt mask h (by lia))
  rw [zd7] at this
  have this:Got owner (lp mask h k0).1:=this
  rw [h2] at this
  obtain ⟨i,hi⟩:=this
  rw [he] at hi; cases hi
 | fuel+1,k,hk,hp=>by
  have hi:=zpe mask h k
  have hlen:runEnd mask (lp mask h k).1+1 - (lp mask h k).1=len mask (lp mask h k).1+1:=by unfold len runEnd; split <;> lia
  have hin:∀ r,r≤len mask (lp mask h k).1→(lp mask h k).1+r < owner.size:=fun r hr=>by
   rw [hz]; unfold len runEnd at hr; split at hr <;> lia
  have hg:∀ r,r≤len mask (lp mask h k).1→((owner.getD ((lp mask h k).1+r) (some 0)).isNone=true↔owner[(lp mask h k).1+r]? = some none):=fun r hr=>by
   have hb:=hin r hr
   rw [Array.getElem?_eq_getElem hb]
   simp [Array.getD,hb]
  unfold layClean.free
  rw [hlen]
  cases hfd:(List.range (len mask (lp mask h k).1+1)).find? fun r=>(owner.getD ((lp mask h k).1+r) (some 0)).isNone with
  | some r =>
   obtain ⟨p1,p2,p3⟩:=List.find?_range_eq_some.mp hfd
   have hr:r≤len mask (lp mask h k).1:=by have:=List.mem_range.mp p2; lia
   refine ⟨_,rfl,(hg r hr).mp p1,pos mask h k+r,?_,zos hr,fun m hmm=>?_⟩
   ·have:=zir mask h k
    have:=zm2 mask (lp mask h k).1
    unfold turns; lia
   ·by_cases hmk:m < pos mask h k
    ·exact hp m hmk
    ·have e0:m=pos mask h k+(m - pos mask h k):=by lia
     rw [e0,zos (by lia)]
     apply Classical.byContradiction
     intro z
     have z:=(zje (hin (m - pos mask h k) (by lia))).mp z
     have:=p3 (m - pos mask h k) (by lia)
     rw [(hg _ (by lia)).mpr z] at this
     cases this
  | none =>
   have hn:=List.find?_range_eq_none.mp hfd
   refine zj4 hm hz h he fuel (k+1) (by lia) fun m hmm=>?_
   by_cases hmk:m < pos mask h k
   ·exact hp m hmk
   ·have hmm:m < pos mask h k+len mask (lp mask h k).1+1:=hmm
    have e0:m=pos mask h k+(m - pos mask h k):=by lia
    rw [e0,zos (by lia)]
    apply Classical.byContradiction
    intro z
    have z:=(zje (hin (m - pos mask h k) (by lia))).mp z
    have:=hn (m - pos mask h k) (by lia)
    rw [(hg _ (by lia)).mpr z] at this
    cases this
theorem Own.add {mask:Nat} {owner:Array (Option Nat)} {hs:List Int} (O:Own mask owner hs) {j:Nat} {h:Int} (hj:owner[j]? = some none) (w:Way mask (Got owner) h j):Own mask (owner.setIfInBounds j (some hs.length)) (hs++[h]):=by
 have jl:j < owner.size:=(Array.getElem?_eq_some_iff.mp hj).1
 have self:(owner.setIfInBounds j (some hs.length))[j]? = some (some hs.length):=by simp [jl]
 have other:∀ i,i≠j→(owner.setIfInBounds j (some hs.length))[i]? = owner[i]?:=fun i hi=>Array.getElem?_setIfInBounds_ne (Ne.symm hi)
 have mono:∀ i,Got owner i→Got (owner.setIfInBounds j (some hs.length)) i:=fun i ⟨a,ha⟩=>by
  by_cases e:i=j
  ·subst e; exact ⟨_,self⟩
  ·exact ⟨a,by rw [other i e]; exact ha⟩
 have cases_:∀ i a,(owner.setIfInBounds j (some hs.length))[i]? = some (some a)→(i=j∧a=hs.length)∨(i≠j∧owner[i]? = some (some a)):=fun i a ha=>by
  by_cases e:i=j
  ·subst e; rw [self] at ha; cases ha; exact .inl ⟨rfl,rfl⟩
  ·rw [other i e] at ha; exact .inr ⟨e,ha⟩
 refine ⟨by rw [Array.size_setIfInBounds]; exact O.size,?_,fun i hi=>?_,fun a b i ha hb=>?_,fun a i ha=>?_,fun a i h' ha hh=>?_⟩
 ·have e:owner.toList[j]'(by simpa using jl)=none:=by
   have:=hj
   rw [Array.getElem?_eq_getElem jl] at this
   simpa using Option.some.inj this
  rw [Array.toList_setIfInBounds,List.countP_set (by simpa using jl),e,O.cnt]
  simp
 ·rw [List.length_append,List.length_singleton] at hi
  by_cases e:i=hs.length
  ·subst e; exact ⟨j,self⟩
  ·obtain ⟨a,ha⟩:=O.at_ i (by lia)
   refine ⟨a,?_⟩
   rw [other a (fun z=>by subst z; rw [hj] at ha; cases ha)]
   exact ha
 ·rcases cases_ a i ha with ⟨h1,h2⟩ | ⟨h1,h2⟩ <;> rcases cases_ b i hb with ⟨g1,g2⟩ | ⟨g1,g2⟩
  ·rw [h1,g1]
  ·have:=O.lt _ _ g2; lia
  ·have:=O.lt _ _ h2; lia
  ·exact O.one _ _ _ h2 g2
 ·rw [List.length_append,List.length_singleton]
  rcases cases_ a i ha with ⟨h1,h2⟩ | ⟨h1,h2⟩
  ·lia
  ·have:=O.lt _ _ h2; lia
 ·rcases cases_ a i ha with ⟨h1,h2⟩ | ⟨h1,h2⟩
  ·subst h1 h2
   rw [List.getElem?_append_right (Nat.le_refl _)] at hh
   simp at hh; subst hh
   exact w.mono mono
  ·have:=O.lt _ _ h2
   rw [List.getElem?_append_left this] at hh
   exact (O.way a i h' h2 hh).mono mono
theorem Own.free {mask:Nat} {owner:Array (Option Nat)} {hs:List Int} (O:Own mask owner hs) (h:hs.length≤mask):∃ e:Nat,owner[e]? = some none:=by
 apply Classical.byContradiction
 intro hn
 have:owner.toList.countP Option.isSome=owner.toList.length:=List.countP_eq_length.mpr fun a ha=>by
  cases a with
  | some i=>rfl
  | none =>
   obtain ⟨i,hi,e⟩:=List.getElem_of_mem ha
   exact (hn ⟨i,by rw [← Array.getElem?_toList,List.getElem?_eq_getElem hi,e]⟩).elim
 have h2:=O.cnt
 have h3:owner.toList.length=mask+1:=by rw [Array.length_toList]; exact O.size
 lia
def stepL (mask:Nat) (acc:Option (Array (Option Nat)×Nat)) (h:Int):Option (Array (Option Nat)×Nat):=do
 let (owner,k) ← acc
 let j ← layClean.free mask owner (turns mask) (bits h % (mask+1)) (bits h)
 pure (owner.setIfInBounds j (some k),k+1)
theorem zg3 {mask:Nat} (hm:Msk mask):∀ (rest hs:List Int) (owner:Array (Option Nat)),Own mask owner hs→hs.length+rest.length≤mask+1→∃ owner',rest.foldl (stepL mask) (some (owner,hs.length))=some (owner',(hs++rest).length)∧Own mask owner' (hs++rest)
 | [],hs,owner,O,_=>⟨owner,by simp,by simpa using O⟩
 | h::rest,hs,owner,O,hl=>by
  rw [List.length_cons] at hl
  obtain ⟨e,he⟩:=O.free (by lia)
  obtain ⟨j,h1,h2,h3⟩:=zj4 hm O.size h he (turns mask) 0 (by unfold turns; lia) fun m hm=>absurd hm (Nat.not_lt_zero _)
  have O2:=O.add h2 h3
  obtain ⟨o',h4,h5⟩:=zg3 hm rest (hs++[h]) _ O2 (by rw [List.length_append,List.length_singleton]; lia)
  have e1:stepL mask (some (owner,hs.length)) h=some (owner.setIfInBounds j (some hs.length),(hs++[h]).length):=by
   unfold stepL
   show (layClean.free mask owner (turns mask) (lp mask h 0).1 (lp mask h 0).2).bind _=_
   rw [h1]
   simp
  refine ⟨o',?_,by simpa using h5⟩
  rw [List.foldl_cons,e1,h4]
  simp
theorem znz (mask:Nat):Own mask (Array.replicate (mask+1) none) []:=by
 have no:∀ (j:Nat) (i:Nat),(Array.replicate (mask+1) (none:Option Nat))[j]?≠some (some i):=fun j i h=>by
  rw [Array.getElem?_replicate] at h
  split at h <;> cases h
 refine ⟨by simp,?_,fun i hi=>absurd hi (Nat.not_lt_zero _),fun j j' i h=>(no j i h).elim,fun j i h=>(no j i h).elim,fun j i h a=>(no j i a).elim⟩
 simp [List.countP_replicate]
theorem zjk {mask:Nat} (hm:Msk mask) (hs:Array Int) (hl:hs.size≤mask+1):∃ owner,layClean mask hs=some owner∧Own mask owner hs.toList:=by
 obtain ⟨o,h1,h2⟩:=zg3 hm hs.toList [] _ (znz mask) (by simpa using hl)
 refine ⟨o,?_,by simpa using h2⟩
 have e:layClean mask hs=(hs.foldl (stepL mask) (some (Array.replicate (mask+1) none,0))).map (·.1):=rfl
 rw [e,← Array.foldl_toList]
 rw [show (some (Array.replicate (mask+1) (none:Option Nat),0))=some (Array.replicate (mask+1) none,([]:List Int).length) from rfl,h1]
 rfl
def livesOf (mask:Nat) (owner:Array (Option Nat)):List (Nat×Nat):=(List.range (mask+1)).filterMap fun j=>(owner.getD j none).map (j,·)
theorem zao {mask:Nat} {owner:Array (Option Nat)} (hz:owner.size=mask+1) {j i:Nat}:(j,i)∈livesOf mask owner↔owner[j]? = some (some i):=by
 unfold livesOf
 rw [List.mem_filterMap]
 constructor
 ·rintro ⟨a,ha,e⟩
  have hb:a < owner.size:=by rw [hz]; exact List.mem_range.mp ha
  simp only [Array.getD,hb,dite_true] at e
  cases ho:owner[a] with
  | none=>simp [ho] at e
  | some b =>
   simp [ho] at e
   obtain ⟨rfl,rfl⟩:=e
   rw [Array.getElem?_eq_getElem hb,ho]
 ·intro h
  obtain ⟨hb,e⟩:=Array.getElem?_eq_some_iff.mp h
  refine ⟨j,List.mem_range.mpr (by rw [← hz]; exact hb),?_⟩
  simp [Array.getD,hb,e]
theorem zei (mask:Nat) (owner:Array (Option Nat)):(livesOf mask owner).Pairwise (fun a b=>a.1 < b.1):=by
 unfold livesOf
 refine List.pairwise_filterMap.mpr (List.pairwise_lt_range.imp fun {a b} hab x hx y hy=>?_)
 cases h1:owner.getD a none with
 | none=>rw [h1] at hx; cases hx
 | some u =>
  cases h2:owner.getD b none with
  | none=>rw [h2] at hy; cases hy
  | some v =>
   rw [h1] at hx; rw [h2] at hy
   cases hx; cases hy
   exact hab
theorem zoc {mask:Nat} (hm:Msk mask) (hs:Array Int) (hl:hs.size≤mask+1) (finger moves:Nat) (led plain:Bool):∃ t order,laid mask finger moves led plain hs=some (t,order)∧t.mask=mask∧t.led=led∧t.plain=plain ∧
  Good t (order.toList.map fun i=>hs.toList.getD i 0)∧order.toList.Perm (List.range hs.size):=by
 obtain ⟨owner,h1,O⟩:=zjk hm hs hl
 refine ⟨{ mask,place:=((livesOf mask owner).map (·.1)).toArray,dummies:=#[],finger,led,moves,plain},((livesOf mask owner).map (·.2)).toArray,?_,rfl,rfl,rfl,⟨hm,rfl,?_,?_,?_,?_⟩,?_⟩
 ·unfold laid
  rw [h1]
  rfl
 ·exact List.pairwise_map.mpr (zei mask owner)
 ·intro p hp
  obtain ⟨⟨j,i⟩,h2,rfl⟩:=List.mem_map.mp (show p∈(livesOf mask owner).map (·.1) from hp)
  have:=(Array.getElem?_eq_some_iff.mp ((zao O.size).mp h2)).1
  rw [O.size] at this
  show j≤mask
  lia
 ·show ((livesOf mask owner).map (·.1)).length=_
  simp
 ·intro q hq
  have hq:q∈((livesOf mask owner).map (·.1)).zip (((livesOf mask owner).map (·.2)).map fun i=>hs.toList.getD i 0):=hq
  rw [List.map_map,List.zip_map'] at hq
  obtain ⟨⟨j,i⟩,h2,rfl⟩:=List.mem_map.mp hq
  have h3:=(zao O.size).mp h2
  have h4:=O.lt _ _ h3
  have h5:hs.toList[i]? = some (hs.toList.getD i 0):=by
   rw [List.getElem?_eq_getElem h4]; unfold List.getD; rw [List.getElem?_eq_getElem h4]; rfl
  refine (O.way j i _ h3 h5).mono fun a ⟨b,hb⟩=>?_
  exact List.mem_map.mpr ⟨(a,b),(zao O.size).mpr hb,rfl⟩
 ·refine (List.perm_ext_iff_of_nodup ?_ (nodup_range _)).mpr fun i=>?_
  ·show ((livesOf mask owner).map (·.2)).Nodup
   refine List.pairwise_map.mpr (List.Pairwise.imp_of_mem (fun {a b} ha hb hab e=>?_) (zei mask owner))
   have h2:=(zao O.size).mp ha
   have h3:=(zao O.size).mp hb
   rw [e] at h2
   have:=O.one _ _ _ h2 h3
   lia
  ·show i∈(livesOf mask owner).map (·.2)↔_
   rw [List.mem_range,List.mem_map]
   constructor
   ·rintro ⟨⟨j,i'⟩,h2,rfl⟩
    have:=O.lt _ _ ((zao O.size).mp h2)
    simpa using this
   ·intro hi
    obtain ⟨j,hj⟩:=O.at_ i (by simpa using hi)
    exact ⟨(j,i),(zao O.size).mpr hj,rfl⟩
end ST
namespace HT
open PySem PyProof.Rows
section
variable {prog:Program} {w:World} {A:Around} {E:Value→Shared→Prop} {s:Shared}
abbrev TK (prog:Program) (w:World) (h:Heap) (n:List Int) (a:Addr):Prop:=IsTupleKey (intKind prog w) h n a
abbrev tH (prog:Program) (w:World) (n:List Int):Int:=tupleKeyHash (intKind prog w) n
theorem items_int {prog:Program} {w:World}:∀ {n:List Int} {vs:List Value},ItemsAre (intKind prog w) n vs→∀ v∈vs,∃ i t,v=.int i t
 | _,_,.nil,v,h=>by cases h
 | _,_,.cons (v:=u) h1 r,v,h=>by
  rcases List.mem_cons.mp h with rfl | h
  ·cases v <;> first | exact ⟨_,_,rfl⟩ | (cases h1; done)
  ·exact items_int r v h
theorem hbv {n:List Int} {a:Addr} {Q:Bool→Shared→Prop} (hk:TK prog w s.heap n a) (q:Q true s):wpAny (model prog w) A (hashByValue 8 (.ref a)) Q E s:=by
 have hT:=hk.typeIs
 obtain ⟨o,items,m,ho,_,hd,hi⟩:=hk
 have hv:=items_int hi
 unfold hashByValue
 refine wpAny_bind (wpAny_specialOf hT PySem.F.slot_tuple_hash.lookup ?_)
 dsimp only
 refine wpAny_bind (wpAny_seqItems ho hd ?_)
 refine wpAny_bind ?_
 show wpAny _ _ (forIn items _ _) _ _ s
 rw [← Array.forIn_toList]
 refine wpAny_forIn_list _ (fun rest r s'=>r.1=none∧s'=s∧∀ v∈rest,∃ i t,v=.int i t) _ ?_ ?_ _ _ ⟨rfl,rfl,hv⟩
 ·rintro v rest r s' ⟨hr,rfl,hall⟩
  obtain ⟨i,t,rfl⟩:=hall v List.mem_cons_self
  rw [show hashByValue 7 (.int i t)=pure true from by unfold hashByValue; rfl]
  refine wpAny_bind (wpAny_pure ?_)
  simp only [Bool.not_true,Bool.false_eq_true,if_false]
  exact wpAny_pure ⟨rfl,rfl,fun u hu'=>hall u (List.mem_cons_of_mem _ hu')⟩
 ·rintro ⟨r1,r2⟩ s' ⟨hr,rfl,_⟩
  simp only at hr
  subst hr
  exact wpAny_pure q
theorem noCls {n:List Int} {a:Addr} {Q:Bool→Shared→Prop} (hk:TK prog w s.heap n a) (q:Q false s):wpAny (model prog w) A (ofAClassStatement 8 (.ref a)) Q E s:=by
 have hT:=hk.typeIs
 obtain ⟨o,items,m,ho,_,hd,hi⟩:=hk
 have hv:=items_int hi
 unfold ofAClassStatement
 refine wpAny_bind (wpAny_typeOf hT ?_)
 dsimp only
 refine wpAny_bind ?_
 refine wpAny_pure ?_
 simp only [Bool.not_true,Bool.false_eq_true,if_false]
 refine wpAny_bind (wpAny_seqItems ho hd ?_)
 dsimp only
 refine wpAny_bind ?_
 show wpAny _ _ (forIn items _ _) _ _ s
 rw [← Array.forIn_toList]
 refine wpAny_forIn_list _ (fun rest r s'=>r.1=none∧s'=s∧∀ v∈rest,∃ i t,v=.int i t) _ ?_ ?_ _ _ ⟨rfl,rfl,hv⟩
 ·rintro v rest r s' ⟨hr,rfl,hall⟩
  obtain ⟨i,t,rfl⟩:=hall v List.mem_cons_self
  rw [show ofAClassStatement 7 (.int i t)=pure false from by unfold ofAClassStatement; rfl]
  refine wpAny_bind (wpAny_pure ?_)
  simp only [Bool.false_eq_true,if_false]
  exact wpAny_pure ⟨rfl,rfl,fun u hu'=>hall u (List.mem_cons_of_mem _ hu')⟩
 ·rintro ⟨r1,r2⟩ s' ⟨hr,rfl,_⟩
  simp only at hr
  subst hr
  exact wpAny_pure q
theorem unseen {n:List Int} {a:Addr} {l:List Value} {Q:Bool→Shared→Prop} (hk:TK prog w s.heap n a) (hl:∀ y∈l,∃ m b,y=.ref b∧TK prog w s.heap m b) (q:Q false s):wpAny (model prog w) A (searchCouldBeSeen (.ref a) l) Q E s:=by
 unfold searchCouldBeSeen
 refine wpAny_bind ?_
 refine wpAny_forIn_list _ (fun rest r s'=>r.1=none∧s'=s∧∀ y∈rest,∃ m b,y=.ref b∧TK prog w s.heap m b) _ ?_ ?_ _ _ ⟨rfl,rfl,hl⟩
 ·rintro v rest r s' ⟨hr,rfl,hall⟩
  obtain ⟨m,b,rfl,hb⟩:=hall v List.mem_cons_self
  have fin:∀ u∈rest,∃ m b,u=.ref b∧TK prog w s'.heap m b:=fun u hu'=>hall u (List.mem_cons_of_mem _ hu')
  dsimp only
  split
  ·exact wpAny_pure ⟨rfl,rfl,fin⟩
  ·refine wpAny_bind (wpAny_eqIsQuiet_tuple hk ?_)
   simp only [Bool.not_true,Bool.false_eq_true,if_false]
   refine wpAny_bind (wpAny_eqIsQuiet_tuple hb ?_)
   simp only [Bool.not_true,Bool.false_eq_true,if_false]
   refine wpAny_bind (noCls hk ?_)
   simp only [Bool.false_eq_true,if_false]
   refine wpAny_bind (noCls hb ?_)
   simp only [Bool.false_eq_true,if_false]
   exact wpAny_pure ⟨rfl,rfl,fin⟩
 ·rintro ⟨r1,r2⟩ s' ⟨hr,rfl,_⟩
  simp only at hr
  subst hr
  exact wpAny_pure q
def Ent (prog:Program) (w:World) (h:Heap) (es:Array (Int×Value)):Prop:=∀ (i:Nat) (q:Int×Value),es.toList[i]? = some q→∃ n b,q=(tH prog w n,.ref b)∧TK prog w h n b
theorem zf5 {t:SetTable} {es:Array (Int×Value)} (G:ST.Good t (es.toList.map (·.1))) (hf:t.place.toList.length * 5 < t.mask * 3):t.fits es.size=true:=by
 have h1:=G.len
 simp only [Array.length_toList,List.length_map] at h1 hf
 unfold SetTable.fits SetTable.fill
 rw [G.dum,h1]
 simp
 lia
theorem zlc {t:SetTable} (h:ST.Msk t.mask):t.gaveWay=false:=by
 unfold SetTable.gaveWay
 rcases h with e | e | e <;> rw [e] <;> rfl
theorem zjl {l:List Nat} (h:ST.Ris l) {i k a:Nat} (hi:l[i]? = some a) (hk:l[k]? = some a):i=k:=by
 rcases Nat.lt_trichotomy i k with x | x | x
 ·have:=ST.zc3 h hi hk x; lia
 ·exact x
 ·have:=ST.zc3 h hk hi x; lia
theorem zcw {a x:Addr} {k:List Int} {o:Obj} {es:Array (Int×Value)} {ep:Nat} {t:SetTable} (ho:s.heap.get? a=some o) (hd:o.data=.set es ep t) (G:ST.Good t (es.toList.map (·.1))) (hf:t.place.toList.length * 5 < t.mask * 3) (hu:A.units < cLine) (hk:TK prog w s.heap k x) (he:Ent prog w s.heap es) {B:Nat} (hBt:B < 10 * SetTable.turns t.mask)
  (hB:(ST.pth t.mask (tH prog w k) B).j∉t.place.toList∨∃ (i:Nat) (b:Addr),t.place.toList[i]? = some (ST.pth t.mask (tH prog w k) B).j∧es.toList[i]? = some (tH prog w k,Value.ref b)∧TK prog w s.heap k b) (hl:∀ m,m < B→(ST.pth t.mask (tH prog w k) m).j∈t.place.toList) {Q:SetFound→Shared→Prop}
  (q1:(∃ (i:Nat) (b:Addr),es.toList[i]? = some (tH prog w k,Value.ref b)∧TK prog w s.heap k b)→Q (.there none) s) (q2:(ST.pth t.mask (tH prog w k) B).j∉t.place.toList→Q (.free (ST.pth t.mask (tH prog w k) B).j false) s) :
  ∀ (fuel n:Nat) (stand:Option SetTable.Probe),stand.getD (t.probeStart (tH prog w k))=ST.pth t.mask (tH prog w k) n→n≤B→B - n < fuel→wpAny (model prog w) A (setSearchFrom a (.ref x) (tH prog w k) true fuel stand) Q E s
 | 0,n,_,_,_,hfu=>by lia
 | fuel+1,n,stand,hst,hn,hfu=>by
  have ft:=zf5 G hf
  unfold setSearchFrom
  refine wpAny_bind (wpAny_setState_of ho hd ft ?_)
  dsimp only
  rw [zlc G.msk]
  simp only [Bool.false_eq_true,if_false]
  rw [hst]
  have hat:∀ (i:Nat) (h:Int) (y:Value),es.toList[i]? = some (h,y)→((es[i]?.map (·.1)).getD 0)=h:=fun i h y e=>by rw [← Array.getElem?_toList,e]; rfl
  have hB':(ST.pth t.mask (tH prog w k) B).j∉t.place.toList∨∃ i:Nat,t.place.toList[i]? = some (ST.pth t.mask (tH prog w k) B).j∧((es[i]?.map (·.1)).getD 0)=tH prog w k:=hB.imp id fun ⟨i,b,h1,h2,_⟩=>⟨i,h1,hat i _ _ h2⟩
  rcases ST.zhf G (fun i:Nat=>(es[i]?.map (·.1)).getD 0) (tH prog w k) hB' (10 * SetTable.turns t.mask) n (by lia) hn (fun m _ h2=>hl m h2) with ⟨m,i,h1,h2,h3,h4,h5⟩ | ⟨h1,h2⟩
  ·have e0:t.probe (fun i:Nat=>(es[i]?.map (·.1)).getD 0) (tH prog w k) (ST.pth t.mask (tH prog w k) n)=some (.candidate (ST.pth t.mask (tH prog w k) m).j i (ST.pth t.mask (tH prog w k) (m+1))):=h5
   have ie:i < es.toList.length:=by
    have:=(List.getElem?_eq_some_iff.mp h3).1
    have:=G.len
    simp only [List.length_map] at this
    lia
   have hei:es.toList[i]? = some es.toList[i]:=List.getElem?_eq_getElem ie
   obtain ⟨nn,b,hq,hb⟩:=he i _ hei
   rw [hq] at hei
   have hnn:tH prog w nn=tH prog w k:=by rw [← h4]; exact (hat i _ _ hei).symm
   show wpAny _ _ (match t.probe (fun i:Nat=>(es[i]?.map (·.1)).getD 0) (tH prog w k) (ST.pth t.mask (tH prog w k) n) with | some met=>_ | x=>_) _ _ s
   rw [e0]
   dsimp only
   have go:wpAny (model prog w) A (do
     let equal ← holding [Value.ref b] (eqBool (.ref b) (.ref x))
     let (es',_,t') ← setState a
     if (true&&equal)=true then pure (SetFound.there none) else
     let some same:=t'.sameMemory t.moves t.mask | unsupported "set.changed-during-lookup:is-the-new-block-at-the-old-address"
     let still ← match (if same=true then t'.slot (ST.pth t.mask (tH prog w k) m).j else .empty) with
      | .live i'=>match es'[i']? with
       | some (_,y')=>do pure (if (← isSame y' (.ref b))=true then some i' else none)
       | none=>pure none
      | _=>pure none
     match still with
     | none=>do rule "set.search.anew"; setSearchFrom a (.ref x) (tH prog w k) true fuel none
     | some i'=>if equal=true then pure (.there (some i')) else setSearchFrom a (.ref x) (tH prog w k) true fuel (some (ST.pth t.mask (tH prog w k) (m+1)))) Q E s:=by
    refine wpAny_bind (wpAny_holding ((tupleKind (intKind prog w)).eqBool (x:=nn) (y:=k) hu hb hk ?_))
    refine wpAny_bind (wpAny_setState_of ho hd ft ?_)
    dsimp only
    by_cases hkk:nn=k
    ·subst hkk
     rw [decide_eq_true rfl]
     simp only [Bool.and_self,if_true]
     exact wpAny_pure (q1 ⟨i,b,hei,hb⟩)
    ·rw [decide_eq_false hkk]
     simp only [Bool.and_false,Bool.false_eq_true,if_false]
     rw [show t.sameMemory t.moves t.mask=some true by unfold SetTable.sameMemory; simp]
     dsimp only
     rw [if_pos rfl,ST.zev G.ris h3]
     dsimp only
     rw [← Array.getElem?_toList,hei]
     dsimp only
     refine wpAny_bind (wpAny_isSame_ref_self ?_)
     refine wpAny_bind (wpAny_pure ?_)
     simp only [if_true]
     have hmB:m < B:=by
      rcases Nat.lt_or_ge m B with z | z
      ·exact z
      ·have:m=B:=by lia
       subst this
       rcases hB with hB | ⟨i',b',g1,g2,g3⟩
       ·exact (hB (List.mem_of_getElem? h3)).elim
       ·have e2:=zjl G.ris h3 g1
        subst e2
        rw [hei] at g2
        have e3:b=b':=by injection g2 with z; injection z with z1 z2; injection z2
        subst e3
        exact (hkk (hb.inj g3)).elim
     exact zcw ho hd G hf hu hk he hBt hB hl q1 q2 fuel (m+1) _ rfl hmB (by lia)
   have hei':es[i]? = some (tH prog w nn,Value.ref b):=by rw [← Array.getElem?_toList]; exact hei
   rw [hei']
   split
   ·refine wpAny_bind (unseen hk (fun y hy=>?_) ?_)
    ·obtain ⟨q,hq1,rfl⟩:=List.mem_map.mp hy
     rw [Array.toList_filter] at hq1
     obtain ⟨j,hj,e⟩:=List.getElem_of_mem (List.mem_filter.mp hq1).1
     obtain ⟨n',b',hq',hb'⟩:=he j q (by rw [← e]; exact List.getElem?_eq_getElem hj)
     exact ⟨n',b',by rw [hq'],hb'⟩
    ·simp only [Bool.false_eq_true,if_false]
     exact go
   ·exact go
  ·have e0:t.probe (fun i:Nat=>(es[i]?.map (·.1)).getD 0) (tH prog w k) (ST.pth t.mask (tH prog w k) n)=some (.empty (ST.pth t.mask (tH prog w k) B).j none):=h2
   show wpAny _ _ (match t.probe (fun i:Nat=>(es[i]?.map (·.1)).getD 0) (tH prog w k) (ST.pth t.mask (tH prog w k) n) with | some met=>_ | x=>_) _ _ s
   rw [e0]
   exact wpAny_pure (q2 h1)
def TSet (prog:Program) (w:World) (h:Heap) (S:Addr) (σ:List (List Int×Addr)):Prop:=∃ es ep t,h.get? S=some { cls:=.type "set",data:=.set es ep t}∧t.plain=true∧t.led = !w.params.followText "set-order"∧ST.Good t (es.toList.map (·.1))∧t.place.toList.length * 5 < t.mask * 3 ∧
 es.toList.Perm (σ.map fun q=>(tH prog w q.1,Value.ref q.2))∧(σ.map (·.1)).Nodup∧∀ q∈σ,TK prog w h q.1 q.2
def addK (σ:List (List Int×Addr)) (q:List Int×Addr):List (List Int×Addr):=if σ.any (·.1==q.1) then σ else σ++[q]
theorem zlu (σ:List (List Int×Addr)) (q:List Int×Addr):(addK σ q).length≤σ.length+1:=by
 unfold addK; split <;> simp
theorem TK.keep {h h':Heap} {n:List Int} {a:Addr} (x:TK prog w h n a) (k:∀ o,h.get? a=some o→h'.get? a=some o):TK prog w h' n a:=let ⟨o,its,m,e,r⟩:=x; ⟨o,its,m,k o e,r⟩
theorem TK.ne {h:Heap} {n:List Int} {a S:Addr} {o:Obj} {es:Array (Int×Value)} {ep:Nat} {t:SetTable} (x:TK prog w h n a) (e:h.get? S=some o) (d:o.data=.set es ep t):a≠S:=by
 rintro rfl
 obtain ⟨o',its,m,e',_,d',_⟩:=x
 rw [e] at e'; cases e'
 rw [d] at d'; cases d'
theorem TSet.mk' {h h':Heap} {S:Addr} {σ:List (List Int×Addr)} {es:Array (Int×Value)} {ep:Nat} {t:SetTable} (hS:h'.get? S=some { cls:=.type "set",data:=.set es ep t}) (p1:t.plain=true) (p2:t.led = !w.params.followText "set-order") (G:ST.Good t (es.toList.map (·.1))) (hf:t.place.toList.length * 5 < t.mask * 3)
  (hp:es.toList.Perm (σ.map fun q=>(tH prog w q.1,Value.ref q.2))) (hn:(σ.map (·.1)).Nodup) (hk:∀ q∈σ,TK prog w h q.1 q.2∧q.2≠S) (sb:Heap.SameBut S h h'):TSet prog w h' S σ :=
 ⟨es,ep,t,hS,p1,p2,G,hf,hp,hn,fun q hq=>TK.keep (hk q hq).1 fun o e=>(sb.2 q.2 (hk q hq).2).trans e⟩
theorem zp3 {h:Heap} {es:Array (Int×Value)} {σ:List (List Int×Addr)} (hp:es.toList.Perm (σ.map fun q=>(tH prog w q.1,Value.ref q.2))) (hk:∀ q∈σ,TK prog w h q.1 q.2):Ent prog w h es:=fun i q hq=>by
 obtain ⟨r,hr,e⟩:=List.mem_map.mp (hp.mem_iff.mp (List.mem_of_getElem? hq))
 exact ⟨r.1,r.2,e.symm,hk r hr⟩
theorem zhm {m:Nat} (h:ST.Msk m):SetTable.turns m≤142:=by
 unfold SetTable.turns
 rcases h with e | e | e <;> rw [e] <;> lia
theorem zp1 {S x:Addr} {σ:List (List Int×Addr)} {k:List Int} {Q:Bool→Shared→Prop} (hu:A.units < cLine) (T:TSet prog w s.heap S σ) (hl:σ.length < 64) (hk:TK prog w s.heap k x)
  (q:∀ b h',Heap.SameBut S s.heap h'→TSet prog w h' S (addK σ (k,x))→Q b { s with heap:=h'}):wpAny (model prog w) A (setAddHashed S (.ref x) (tH prog w k)) Q E s:=by
 obtain ⟨es,ep,t,hS,p1,p2,G,hf,hp,hn,hks⟩:=T
 have ft:=zf5 G hf
 have he:=zp3 hp hks
 have sz:es.toList.length=σ.length:=by rw [hp.length_eq,List.length_map]
 have pl:t.place.toList.length=σ.length:=by have:=G.len; rw [List.length_map] at this; lia
 unfold setAddHashed setAddHashedIn
 refine wpAny_holding (wpAny_bind (wpAny_setState_of hS rfl ft ?_))
 dsimp only
 rw [show byScan (.ref x) es=false from rfl]
 simp only [Bool.false_eq_true,if_false]
 by_cases hin:σ.any (·.1==k)=true
 ·-- it is there
  have fin:wpAny (model prog w) A (pure false) Q E s:=wpAny_pure (by
   have e:s={ s with heap:=s.heap}:=by cases s; rfl
   rw [e]
   refine q false s.heap (Heap.SameBut.refl S s.heap) ?_
   unfold addK
   rw [if_pos hin]
   exact ⟨es,ep,t,hS,p1,p2,G,hf,hp,hn,hks⟩)
  obtain ⟨⟨k',b⟩,hb1,hb2⟩:=List.any_eq_true.mp hin
  have hb2:k'=k:=beq_iff_eq.mp hb2
  subst hb2
  have hmem:(tH prog w k',Value.ref b)∈es.toList:=hp.mem_iff.mpr (List.mem_map.mpr ⟨(k',b),hb1,rfl⟩)
  obtain ⟨i,hi,ei⟩:=List.getElem_of_mem hmem
  have hi1:es.toList[i]? = some (tH prog w k',Value.ref b):=by rw [← ei]; exact List.getElem?_eq_getElem hi
  have hi2:i < t.place.toList.length:=by lia
  have hz:(t.place.toList[i],tH prog w k')∈t.place.toList.zip (es.toList.map (·.1)):=by
   refine List.mem_of_getElem? (i:=i) ?_
   rw [List.getElem?_zip_eq_some]
   exact ⟨List.getElem?_eq_getElem hi2,by rw [List.getElem?_map,hi1]; rfl⟩
  obtain ⟨B,w1,w2,w3⟩:=G.way _ hz
  refine wpAny_bind (zcw hS rfl G hf hu hk he w1 (.inr ⟨i,b,by rw [w2]; exact List.getElem?_eq_getElem hi2,hi1,hks _ hb1⟩) w3 (fun _=>?_) (fun z=>(z (by rw [w2]; exact List.getElem_mem hi2)).elim) 100000 0 none rfl (Nat.zero_le _) ?_)
  ·exact fin
  ·have:SetTable.turns t.mask≤142:=zhm G.msk
   lia
 ·-- it is new
  obtain ⟨B,w1,w2,w2',w3⟩:=G.first (by lia) (tH prog w k)
  have no:¬ ∃ (i:Nat) (b:Addr),es.toList[i]? = some (tH prog w k,Value.ref b)∧TK prog w s.heap k b:=fun ⟨i,b,z1,z2⟩=>by
   obtain ⟨r,hr,e⟩:=List.mem_map.mp (hp.mem_iff.mp (List.mem_of_getElem? z1))
   have e2:r.2=b:=by injection e with a1 a2; injection a2
   have hr2:=hks r hr
   rw [e2] at hr2
   have e3:=hr2.inj z2
   exact hin (List.any_eq_true.mpr ⟨r,hr,by rw [e3]; exact beq_self_eq_true _⟩)
  have tl:SetTable.turns t.mask≤142:=zhm G.msk
  refine wpAny_bind (zcw hS rfl G hf hu hk he w1 (.inl w2) w3 (fun z=>(no z).elim) (fun _=>?_) 100000 0 none rfl (Nat.zero_le _) (by lia))
  obtain ⟨e1,G2,len2⟩:=G.put w2 w2' ⟨B,w1,rfl,w3⟩
  have hσ:addK σ (k,x)=σ++[(k,x)]:=by unfold addK; rw [if_neg hin]
  rw [hσ] at q
  have es1:(SetTable.insertAt es (SetTable.below t.place (ST.pth t.mask (tH prog w k) B).j) (tH prog w k,Value.ref x)).toList.map (·.1)=(es.toList.map (·.1)).take (SetTable.below t.place (ST.pth t.mask (tH prog w k) B).j)++tH prog w k::(es.toList.map (·.1)).drop (SetTable.below t.place (ST.pth t.mask (tH prog w k) B).j):=by
   rw [SetTable.toList_insertAt,List.map_append,List.map_cons,List.map_take,List.map_drop]
  rw [← es1] at G2
  have hp1:(SetTable.insertAt es (SetTable.below t.place (ST.pth t.mask (tH prog w k) B).j) (tH prog w k,Value.ref x)).toList.Perm ((σ++[(k,x)]).map fun q=>(tH prog w q.1,Value.ref q.2)):=by
   refine (SetTable.insertAt_perm _ _ _).trans ?_
   rw [Array.toList_push,List.map_append]
   exact hp.append_right _
  have hn1:((σ++[(k,x)]).map (·.1)).Nodup:=by
   rw [List.map_append]
   refine List.nodup_append.mpr ⟨hn,by simp,fun a ha b hb e=>?_⟩
   obtain ⟨r,hr,rfl⟩:=List.mem_map.mp ha
   have hb:b=k:=by simpa using hb
   exact hin (List.any_eq_true.mpr ⟨r,hr,by rw [e,hb]; exact beq_self_eq_true _⟩)
  have hk1:∀ q∈σ++[(k,x)],TK prog w s.heap q.1 q.2∧q.2≠S:=fun q hq=>by
   rcases List.mem_append.mp hq with h | h
   ·exact ⟨hks q h,TK.ne (hks q h) hS rfl⟩
   ·obtain rfl:=List.mem_singleton.mp h
    exact ⟨hk,TK.ne hk hS rfl⟩
  generalize hes1:SetTable.insertAt es (SetTable.below t.place (ST.pth t.mask (tH prog w k) B).j) (tH prog w k,Value.ref x)=es1' at *
  have sz1:es1'.toList.length=σ.length+1:=by rw [hp1.length_eq]; simp
  generalize ht1:(t.put (ST.pth t.mask (tH prog w k) B).j).1=t1 at *
  have tm:t1.mask=t.mask:=by rw [← ht1]; rfl
  have tp:t1.plain=true:=by rw [← ht1]; exact p1
  have tled:t1.led = !w.params.followText "set-order":=by rw [← ht1]; exact p2
  have fill:t1.fill=σ.length+1:=by
   unfold SetTable.fill
   rw [G2.dum]
   have:=len2
   rw [Array.length_toList] at this
   simp only [List.size_toArray,List.length_nil,Nat.add_zero]
   lia
  dsimp only
  refine wpAny_bind (wpAny_setState_of hS rfl ft ?_)
  dsimp only
  rw [ht1,tp]
  simp only [if_true]
  refine wpAny_bind (hbv hk ?_)
  simp only [if_true]
  rw [show (t.put (ST.pth t.mask (tH prog w k) B).j).2=SetTable.below t.place (ST.pth t.mask (tH prog w k) B).j from e1,hes1]
  have hfit1:es1'.size≤sizeLine:=by
   have:es1'.size=σ.length+1:=by rw [← Array.length_toList]; exact sz1
   rw [this,sizeLine_eq]; lia
  refine wpAny_bind (wpAny_storeSet_of hS rfl ?_ hfit1)
  have hg1:(s.heap.update S (Obj.putSet es1' t1)).get? S=some { cls:=.type "set",data:=.set es1' (ep+1) t1}:=by
   have:=Heap.get?_update_self (Obj.putSet es1' t1) hS (by rw [putSet_of es1' t1 rfl]; rfl)
   rw [putSet_of es1' t1 rfl] at this; exact this
  have sb1:Heap.SameBut S s.heap (s.heap.update S (Obj.putSet es1' t1)):=Heap.SameBut.update s.heap S _
  by_cases hfull:t1.tooFull=true
  ·rw [hfull]
   simp only [Bool.not_false,Bool.and_self,if_true]
   have hfull':(σ.length+1) * 5≥t1.mask * 3:=by
    unfold SetTable.tooFull at hfull
    rw [fill] at hfull
    exact of_decide_eq_true hfull
   rw [tm] at hfull'
   have key:(σ.length+1=5∧SetTable.sizeAbove (SetTable.grown (es.size+1))=32)∨(σ.length+1=19∧SetTable.sizeAbove (SetTable.grown (es.size+1))=128):=by
    have ez:es.size+1=σ.length+1:=by rw [← sz,Array.length_toList]
    rw [ez]
    rcases G.msk with e | e | e
    ·rw [e] at hfull' hf
     have:σ.length+1=5:=by lia
     rw [this]
     exact .inl ⟨rfl,by decide⟩
    ·rw [e] at hfull' hf
     have:σ.length+1=19:=by lia
     rw [this]
     exact .inr ⟨rfl,by decide⟩
    ·rw [e] at hfull' hf; lia
   have ft1:t1.fits es1'.size=true:=by
    have h1:=G2.len
    rw [List.length_map] at h1
    unfold SetTable.fits
    rw [fill,tm]
    have e1:t1.place.size=es1'.size:=by rw [← Array.length_toList,← Array.length_toList]; exact h1
    rw [e1]
    simp
    lia
   generalize hwt:SetTable.grown (es.size+1)=wanted at key
   unfold setRelay
   refine wpAny_bind (wpAny_bind (wpAny_setState_of hg1 rfl ft1 ?_))
   dsimp only
   have hml:∃ mk,SetTable.sizeAbove wanted - 1=mk∧ST.Msk mk∧¬ SetTable.sizeAbove wanted > sizeLine∧(σ.length+1) * 5 < mk * 3:=by
    rcases key with ⟨z1,z2⟩ | ⟨z1,z2⟩ <;> rw [z1,z2]
    ·exact ⟨31,rfl,.inr (.inl rfl),by rw [sizeLine_eq]; lia,by lia⟩
    ·exact ⟨127,rfl,.inr (.inr rfl),by rw [sizeLine_eq]; lia,by lia⟩
   obtain ⟨mk,m1,m2,m3,m4⟩:=hml
   rw [if_neg m3]
   obtain ⟨t2,order,l1,l2,l3,l4,l5,l6⟩:=ST.zoc m2 (es1'.map (·.1)) (by rw [Array.size_map,← Array.length_toList,sz1]; lia) t1.finger (t1.movedTo mk) t1.led t1.plain
   have hr:t1.relaid (es1'.map (·.1)) wanted=some (t2,order):=by unfold SetTable.relaid; rw [m1]; exact l1
   rw [hr]
   have hsz:es1'.size=es1'.toList.length:=(Array.length_toList ..).symm
   have hlt:∀ i∈order.toList,i < es1'.toList.length:=fun i hi=>by
    have:=List.mem_range.mp (l6.mem_iff.mp hi)
    rw [Array.size_map] at this
    lia
   have fm:∀ l:List Nat,(∀ i∈l,i < es1'.toList.length)→l.filterMap (fun i=>es1'[i]?)=l.map fun i=>es1'.toList.getD i (0,.none):=fun l=>by
    induction l with
    | nil=>intro _; rfl
    | cons i l ih =>
     intro h
     have hi:=h i List.mem_cons_self
     rw [List.filterMap_cons,← Array.getElem?_toList,List.getElem?_eq_getElem hi,List.map_cons,ih fun j hj=>h j (List.mem_cons_of_mem _ hj)]
     unfold List.getD
     rw [List.getElem?_eq_getElem hi]
     rfl
   have el:(order.filterMap (fun i=>es1'[i]?)).toList=order.toList.map fun i=>es1'.toList.getD i (0,.none):=by rw [Array.toList_filterMap]; exact fm _ hlt
   have full:(List.range es1'.toList.length).map (fun i=>es1'.toList.getD i (0,.none))=es1'.toList:=by
    apply List.ext_getElem
    ·simp
    ·intro i h1 h2
     rw [List.getElem_map,List.getElem_range]
     unfold List.getD
     rw [List.getElem?_eq_getElem h2]
     rfl
   have hp2:(order.filterMap (fun i=>es1'[i]?)).toList.Perm es1'.toList:=by
    rw [el]
    have:=l6.map fun i=>es1'.toList.getD i (0,Value.none)
    rw [Array.size_map,hsz,full] at this
    exact this
   have hs2:(order.filterMap (fun i=>es1'[i]?)).toList.map (·.1)=order.toList.map fun i=>(es1'.map (·.1)).toList.getD i 0:=by
    rw [el,List.map_map]
    refine List.map_congr_left fun i hi=>?_
    have h3:=hlt i hi
    rw [Array.toList_map]
    simp only [Function.comp,List.getD]
    rw [List.getElem?_map,List.getElem?_eq_getElem h3]
    rfl
   have sz2:(order.filterMap (fun i=>es1'[i]?)).size=es1'.size:=by rw [← Array.length_toList,hp2.length_eq,Array.length_toList]
   rw [← hs2] at l5
   generalize hes2:order.filterMap (fun i=>es1'[i]?)=es2 at *
   refine wpAny_bind ?_
   show wpAny _ _ (if ((order.filterMap (fun i=>es1'[i]?)).size != es1'.size)=true then _ else _) _ _ _
   rw [hes2,sz2,if_neg (by simp)]
   refine wpAny_pure ?_
   dsimp only
   have hfit2:es2.size≤sizeLine:=by rw [sz2]; exact hfit1
   refine wpAny_storeSet_of hg1 rfl ?_ hfit2
   refine wpAny_pure ?_
   have hg2:((s.heap.update S (Obj.putSet es1' t1)).update S (Obj.putSet es2 t2)).get? S=some { cls:=.type "set",data:=.set es2 (ep+1+1) t2}:=by
    have:=Heap.get?_update_self (Obj.putSet es2 t2) hg1 (by rw [putSet_of es2 t2 rfl]; rfl)
    rw [putSet_of es2 t2 rfl] at this; exact this
   have sb2:=sb1.trans (Heap.SameBut.update (s.heap.update S (Obj.putSet es1' t1)) S (Obj.putSet es2 t2))
   refine q true _ sb2 (TSet.mk' hg2 (l4.trans tp) (l3.trans tled) l5 ?_ (hp2.trans hp1) hn1 hk1 sb2)
   have:=l5.len
   rw [List.length_map,hp2.length_eq,sz1] at this
   rw [l2]
   lia
  ·have hff:t1.tooFull=false:=by simpa using hfull
   rw [hff]
   simp only [Bool.and_false,Bool.false_eq_true,if_false]
   refine wpAny_pure (q true _ sb1 (TSet.mk' hg1 tp tled G2 ?_ hp1 hn1 hk1 sb1))
   unfold SetTable.tooFull at hff
   rw [fill] at hff
   have:=of_decide_eq_false hff
   have:=len2
   lia
end
end HT
namespace HT
open PySem PySem.W PyProof.Rows
section
variable {prog:Program} {w:World} {A:Around} {E:Value→Shared→Prop} {s:Shared}
structure SObj (w:World) (h:Heap) (S:Addr) (es:Array (Int×Value)) (ep:Nat) (t:SetTable):Prop where
 at_:h.get? S=some { cls:=.type "set",data:=.set es ep t}
 plain:t.plain=true
 led:t.led = !w.params.followText "set-order"
 fits:t.fits es.size=true
 ris:ST.Ris t.place.toList
theorem SObj.keep {h h':Heap} {S:Addr} {es:Array (Int×Value)} {ep:Nat} {t:SetTable} (x:SObj w h S es ep t) (k:∀ o,h.get? S=some o→h'.get? S=some o):SObj w h' S es ep t:=⟨k _ x.at_,x.plain,x.led,x.fits,x.ris⟩
theorem SObj.typeIs {S:Addr} {es:Array (Int×Value)} {ep:Nat} {t:SetTable} (x:SObj w s.heap S es ep t):s.TypeIs (.ref S) "set":=⟨_,x.at_,rfl⟩
def IsSI (h:Heap) (it S:Addr) (slot i n ep:Nat):Prop:=∃ o,h.get? it=some o∧o.cls=.type "set_iterator"∧o.data=.fields #[.int slot 0,.int i 0,.ref S,.int n 0,.int ep 0]
theorem IsSI.typeIs {it S:Addr} {slot i n ep:Nat} (x:IsSI s.heap it S slot i n ep):s.TypeIs (.ref it) "set_iterator":=let ⟨o,e,c,_⟩:=x; ⟨o,e,c⟩
end
end HT
namespace HT
open PySem PySem.W PyProof.Rows
section
variable {prog:Program} {w:World} {A:Around} {E:Value→Shared→Prop} {s:Shared}
abbrev nubK (ks:List (List Int×Addr)):List (List Int×Addr):=ks.foldl addK []
theorem zjn (ks:List (List Int×Addr)) {i:Nat} {q:List Int×Addr} (h:ks[i]? = some q):nubK (ks.take (i+1))=addK (nubK (ks.take i)) q:=by
 obtain ⟨hi,rfl⟩:=List.getElem?_eq_some_iff.mp h
 unfold nubK
 rw [List.take_succ_eq_append_getElem hi,List.foldl_append]
 rfl
theorem zmn (ks:List (List Int×Addr)):∀ σ:List (List Int×Addr),(ks.foldl addK σ).length≤σ.length+ks.length:=by
 induction ks with
 | nil=>intro σ; simp
 | cons q ks ih =>
  intro σ
  have:=ih (addK σ q)
  have:=zlu σ q
  rw [List.foldl_cons,List.length_cons]
  lia
theorem zi7 {R:Result→Shared→Prop} {I:Addr} {fp wr:List Addr} {G:Array GenState→Array GenState→Prop} {n:Nat} {P:Nat→Value→Prop} {St:Nat→Shared→Prop} (W:WalksS prog w A.in1 I fp wr G n P St) (S:Addr) (hSf:S∉fp) (hu:A.in1.units < cLine)
  (ks:List (List Int×Addr)) (hn:ks.length=n) (h64:n < 64) (hP:∀ i v,P i v→∃ q,ks[i]? = some q∧v=Value.ref q.2) (hwr:∀ q∈ks,q.2∉S::wr) :
  ∀ (k i:Nat) (s:Shared),n - i=k→i≤n→St i s→(∀ q∈ks,TK prog w s.heap q.1 q.2)→TSet prog w s.heap S (nubK (ks.take i)) →
   (∀ s',Moved (S::wr) G s s'→TSet prog w s'.heap S (nubK ks)→R (.ok (.ret .none)) s') →
   codeAny (model prog w) A (.builtin "set.update.loop" ⟨[.ref S,.ref I],[]⟩) R s:=by
 have hSw:S∉wr:=fun h=>hSf (W.sub _ h)
 have hsub:∀ b∈wr,b∈S::wr:=fun b hb=>List.mem_cons_of_mem _ hb
 have keepT:∀ {h h':Heap} {σ:List (List Int×Addr)},TSet prog w h S σ→(∀ o,h.get? S=some o→h'.get? S=some o)→(∀ q∈σ,∀ o,h.get? q.2=some o→h'.get? q.2=some o)→TSet prog w h' S σ:=fun {h h' σ} T k1 k2=>by
  obtain ⟨es,ep,t,a1,a2,a3,a4,a5,a6,a7,a8⟩:=T
  exact ⟨es,ep,t,k1 _ a1,a2,a3,a4,a5,a6,a7,fun q hq=>TK.keep (a8 q hq) (k2 q hq)⟩
 have sub:∀ (l:List (List Int×Addr)) (σ:List (List Int×Addr)) (q:List Int×Addr),q∈l.foldl addK σ→q∈σ∨q∈l:=fun l=>by
  induction l with
  | nil=>intro σ q h; exact .inl h
  | cons x l ih =>
   intro σ q h
   rcases ih _ q h with h | h
   ·unfold addK at h
    split at h
    ·exact .inl h
    ·rcases List.mem_append.mp h with h | h
     ·exact .inl h
     ·exact .inr (by rw [List.mem_singleton.mp h]; exact List.mem_cons_self)
   ·exact .inr (List.mem_cons_of_mem _ h)
 intro k
 induction k with
 | zero =>
  intro i s hk hi hst hks hS hR
  have hin:i=n:=by lia
  subst hin
  refine codeAny_builtin F.entry_set_update_loop ?_
  rw [Around.under_plainId F.plain_set_update_loop _]
  show wpAny _ A.in1 (pyNext (.ref I) >>= _) _ _ s
  refine wpAny_bind (W.done s _ _ hst fun s' hm=>?_)
  show wpAny _ A.in1 (ret Value.none) _ _ s'
  rw [← hn,List.take_length] at hS
  refine wpAny_pure (hR s' (hm.mono hsub) (keepT hS (fun o e=>hm.heap S _ hSw e) fun q hq o e=>hm.heap q.2 o (fun z=>?_) e))
  rcases sub ks [] q hq with h | h
  ·cases h
  ·exact hwr q h (List.mem_cons_of_mem _ z)
 | succ k ih =>
  intro i s hk hi hst hks hS hR
  have hlt:i < n:=by lia
  refine codeAny_builtin F.entry_set_update_loop ?_
  rw [Around.under_plainId F.plain_set_update_loop _]
  show wpAny _ A.in1 (pyNext (.ref I) >>= _) _ _ s
  refine wpAny_bind (W.item i s _ _ hlt hst fun v s' hPv hst' hm=>?_)
  obtain ⟨q,hq,rfl⟩:=hP i v hPv
  have qm:q∈ks:=List.mem_of_getElem? hq
  have hks':∀ q∈ks,TK prog w s'.heap q.1 q.2:=fun q hq=>TK.keep (hks q hq) fun o e=>hm.heap q.2 o (fun z=>hwr q hq (List.mem_cons_of_mem _ z)) e
  have hS':TSet prog w s'.heap S (nubK (ks.take i)):=keepT hS (fun o e=>hm.heap S _ hSw e) fun q hq o e=>hm.heap q.2 o (fun z=>by
   rcases sub (ks.take i) [] q hq with h | h
   ·cases h
   ·exact hwr q (List.mem_of_mem_take h) (List.mem_cons_of_mem _ z)) e
  show wpAny _ A.in1 (holding [Value.ref q.2] (setAdd S (.ref q.2)) >>= _) _ _ s'
  refine wpAny_bind (wpAny_holding ?_)
  unfold setAdd
  refine wpAny_holding ?_
  refine wpAny_bind (wpAny_pyHash_tuple (knd:=intKind prog w) hu (hks' q qm) ?_)
  have hl64:(nubK (ks.take i)).length < 64:=by
   have:=zmn (ks.take i) []
   rw [List.length_nil,List.length_take] at this
   show (List.foldl addK [] (List.take i ks)).length < 64
   lia
  refine zp1 (s:={ s' with toks:=s'.toks+(q.1.length+1)}) hu hS' hl64 (hks' q qm) fun b h' hsb hS2=>?_
  rw [← zjn ks hq] at hS2
  refine wpAny_pure ⟨plainId_quiet F.plain_set_update_loop _,ih (i+1) _ (by lia) hlt (W.frame _ s' _ _ hst' (Nat.le_add_right _ _) fun b hb o e=>?_) (fun q' hq'=>TK.keep (hks' q' hq') fun o e=>?_) hS2 fun s'' hm'' hS''=>?_⟩
  ·rw [hsb.2 b (fun h:b=S=>hSf (by rw [← h]; exact hb))]; exact e
  ·rw [hsb.2 q'.2 (fun h=>hwr q' hq' (by rw [h]; exact List.mem_cons_self))]; exact e
  ·refine hR s'' (Moved.trans W.gtrans ((hm.mono hsub).then_heap (Nat.le_add_right _ _) fun b o hb e=>?_) hm'') hS''
   rw [hsb.2 b (fun h:b=S=>hb (by rw [h]; exact List.mem_cons_self))]; exact e
abbrev newT (w:World):Obj:={ cls:=.type "set",dict:=none,data:=.set #[] 0 (.fresh 0 0 (!w.params.followText "set-order"))}
theorem zig (led:Bool):ST.Good (.fresh 0 0 led) []:=⟨.inl rfl,rfl,List.Pairwise.nil,fun p hp=>(by cases hp),rfl,fun q hq=>(by cases hq)⟩
theorem zmd {h:Heap} {S:Addr} (e:h.get? S=some (newT w)):TSet prog w h S []:=⟨#[],0,_,e,rfl,rfl,zig _,(show 0 * 5 < 7 * 3 by decide),List.Perm.refl _,by simp,fun q hq=>(by cases hq)⟩
theorem ziu (a:Value) {Q₁:Value→Shared→Prop} (h:Q₁ (.ref s.heap.objs.size) { s with heap:=s.heap.push (newT w)}) :
  codeAny (model prog w) A (.call (.builtin "set.__new__") ⟨[.type "set",a],[]⟩) (wants Q₁ E) s:=by
 refine codeAny_of_tree ?_
 show wpAny _ A.in1 (do checkBuiltinCall "set.__new__" ⟨[.type "set",a],[]⟩; again (.builtin "set.__new__" ⟨[.type "set",a],[]⟩)) _ _ s
 refine wpAny_bind (wpAny_of_eq (PySem.F.newCall_set_1 a) (wpAny_pure ⟨plainId_quiet PySem.F.plain_set_new _,codeAny_builtin PySem.F.entry_set_new ?_⟩))
 rw [Around.under_plainId PySem.F.plain_set_new _]
 unfold Builtin.«set.__new__» Builtin.Frozenset.newClass
 have hsub:=PySem.sub_set_self
 obtain ⟨hp,g,d,tk,os⟩:=s
 dsimp only
 wp_walk
 refine wpAny_askSetting (wpAny_pure ?_)
 dsimp only
 simp only [newObj]
 refine wpAny_bind (wpAny_alloc (wpAny_pure ?_))
 exact wpAny_pure h
def MadeT (prog:Program) (w:World) (s:Shared) (S:Addr) (ks:List (List Int×Addr)) (s':Shared):Prop:=∃ h' tk,s'={ s with heap:=h',toks:=tk}∧TSet prog w h' S (nubK ks)∧∀ b o,b < S→s.heap.get? b=some o→h'.get? b=some o
theorem zjj {l S:Addr} {vs:List Value} {ks:List (List Int×Addr)} (hu:A.units+2 < cLine) (hh:A.handled=none) (hS:s.heap.get? S=some (newT w)) (hz:s.heap.objs.size=S+1) (hl:s.heap.IsList l vs.toArray) (hlS:l < S) (hv:vs=ks.map fun q=>Value.ref q.2) (hk:∀ q∈ks,TK prog w s.heap q.1 q.2) (h64:ks.length < 64) :
  wpAny (model prog w) A.in1 (Builtin.«set.__init__» ⟨[.ref S,.ref l],[]⟩) (fun fin s'=>fin=.done (.ret .none)∧MadeT prog w s S ks s') E s:=by
 obtain ⟨ol,hol,hcl,nl,hdl⟩:=id hl
 obtain ⟨oc,od,odt,osl⟩:=ol
 simp only at hcl hdl
 subst hcl hdl
 have f1:=PySem.F.sub_list_set
 have f2:=PySem.F.sub_list_frozenset
 have f3:(Value.type "list" == Value.type "dict")=false:=by decide
 have sz:vs.toArray.size=ks.length:=by rw [List.size_toArray,hv,List.length_map]
 unfold Builtin.«set.__init__» noKeywords Builtin.Frozenset.updateFrom
 generalize hPI:pyIter=PI
 wp_walk
 subst hPI
 refine wpAny_pyIter_list hl (wpAny_bind (wpAny_runValue ?_))
 have h3:A.in1.in1.handled=none:=hh
 have n1:l≠s.heap.objs.size:=Nat.ne_of_lt (by rw [hz]; exact Nat.lt_succ_of_lt hlS)
 have n2:S∉[s.heap.objs.size,l]:=by
  intro z
  rcases List.mem_cons.mp z with z | z
  ·rw [hz] at z; exact absurd z (Nat.ne_of_lt (Nat.lt_succ_self _))
  ·exact absurd (List.mem_singleton.mp z) (Nat.ne_of_gt hlS)
 have hlt:∀ q∈ks,q.2∉[S,s.heap.objs.size]:=fun q hq z=>by
  have k0:=hk q hq
  rcases List.mem_cons.mp z with z | z
  ·exact TK.ne k0 hS rfl z
  ·have z:=List.mem_singleton.mp z
   obtain ⟨o,_,_,e,_⟩:=k0
   exact absurd z (Nat.ne_of_lt (Heap.lt_size e))
 refine zi7 ((Walks.list h3 _ l n1 vs.toArray).toS) S n2 hu ks (by rw [sz]) (by rw [sz]; exact h64) (fun i v hv'=>?_) hlt _ 0 _ rfl (Nat.zero_le _)
  ⟨⟨_,Heap.get?_push_size _ rfl,rfl,rfl⟩,hl.push _⟩ (fun q hq=>TK.keep (hk q hq) fun o e=>Heap.get?_push_of_some _ e) (zmd (Heap.get?_push_of_some _ hS)) fun s' hm hS'=>?_
 ·have hv':vs[i]? = some v:=by simpa using hv'
  rw [hv,List.getElem?_map] at hv'
  cases e:ks[i]? with
  | none=>rw [e] at hv'; cases hv'
  | some q=>rw [e] at hv'; exact ⟨q,rfl,(Option.some.inj hv').symm⟩
 obtain ⟨h',g',d',tk',os'⟩:=s'
 obtain rfl:g'=s.gens:=hm.gens
 obtain rfl:d'=s.drawn:=hm.drawn
 obtain rfl:os'=s.os:=hm.os
 show wpAny _ _ _ _ _ _
 refine wpAny_pure ?_
 show wpAny _ _ (ret Value.none) _ _ _
 refine wpAny_pure ⟨rfl,h',tk',rfl,hS',fun b o hb e=>hm.heap b o (fun z=>?_) (Heap.get?_push_of_some _ e)⟩
 rcases List.mem_cons.mp z with z | z
 ·exact absurd z (Nat.ne_of_lt hb)
 ·have:=List.mem_singleton.mp z
  rw [hz] at this
  exact absurd this (Nat.ne_of_lt (Nat.lt_succ_of_lt hb))
theorem zfr {l:Addr} {vs:List Value} {ks:List (List Int×Addr)} {Q:Value→Shared→Prop} (hu:A.units+3 < cLine) (hh:A.handled=none) (hl:s.heap.IsList l vs.toArray) (hv:vs=ks.map fun q=>Value.ref q.2) (hk:∀ q∈ks,TK prog w s.heap q.1 q.2) (h64:ks.length < 64)
  (h:∀ (h':Heap) (tk:Nat),TSet prog w h' s.heap.objs.size (nubK ks)→(∀ b o,s.heap.get? b=some o→h'.get? b=some o)→Q (.ref s.heap.objs.size) { s with heap:=h',toks:=tk}) :
  wpAny (model prog w) A (call (.type "set") [.ref l]) Q E s:=by
 refine ze2 (Q₁:=fun obj s₁=>obj=.ref s.heap.objs.size∧s₁={ s with heap:=s.heap.push (newT w)}) PySem.F.called_set (PySem.F.typeCall_set_1 _) (ziu _ ⟨rfl,rfl⟩) ?_
 rintro _ _ ⟨rfl,rfl⟩
 have hS:(s.heap.push (newT w)).get? s.heap.objs.size=some (newT w):=Heap.get?_push_size _ rfl
 refine ⟨⟨_,hS,rfl⟩,codeAny_call_builtin PySem.F.called_set.init.plain PySem.F.entry_set_init (check_set_init_1 ⟨_,hS,rfl⟩ ?_)⟩
 have hlt:l < s.heap.objs.size:=by obtain ⟨o,e,_⟩:=hl; exact Heap.lt_size e
 refine wpAny_mono (zjj (A:=A.in1) (s:={ s with heap:=s.heap.push (newT w)}) hu hh hS (Heap.size_push ..) (hl.push _) hlt hv (fun q hq=>TK.keep (hk q hq) fun o e=>Heap.get?_push_of_some _ e) h64) (fun fin s' ⟨e,h',tk,e2,hS',hk'⟩=>?_) fun _ _ x=>x
 subst e e2
 exact ⟨rfl,h h' tk hS' fun b o e=>hk' b o (Heap.lt_size e) (Heap.get?_push_of_some _ e)⟩
theorem zgr:∀ {vs:List Value} {ns:List Int},IntsAre vs ns→ItemsAre (intKind prog w) ns vs
 | _,_,.nil=>.nil
 | _,_,.cons n t r=>.cons (intKind_is _ _ _ _) (zgr r)
end
end HT
namespace L2
open PySem PySem.W PySem.Spec PyProof.Rows
section
variable {X:Cx}
def SetV (w:World) (prog:Program) (oc:Obj) (σ:List (List Int×Addr)):Prop:=∃ es ep t,oc={ cls:=.type "set",data:=.set es ep t}∧t.plain=true∧t.led=(!w.params.followText "set-order")∧t.fits es.size=true∧ST.Ris t.place.toList∧es.toList.Perm (σ.map fun q=>(HT.tH prog w q.1,Value.ref q.2))
theorem zr2 {pins:List (Addr×Obj)} {σ:St} {H:Hp} {s:Shared} (I:Inv X pins σ H s) {a:Addr} {n:List Int} (h:SqT X.K H a (n.map V.int)):HT.TK X.prog X.w s.heap n a:=by
 obtain ⟨its,rv,⟨o,ho,hc,m,hd⟩,_⟩:=I.tuple h
 exact ⟨o,its.toArray,m,ho,hc,hd,by simpa using HT.zgr (zv rv)⟩
theorem zkg (hu:X.A.units+3 < cLine) (hc:X.calm=true):CallR X (.type "set") (fun xs H Q=>∃ (p:Addr) (ks:List (List Int×Addr)),xs=[.ref p]∧SqL X.K H p (ks.map fun q=>V.ref q.2)∧(∀ q∈ks,SqT X.K H q.2 (q.1.map V.int))∧ks.length < 64∧∀ l oc,H l=none→SetV X.w X.prog oc (HT.nubK ks)→Q (.ref l) (upd H l (.frz oc (.own 0)))):=by
 intro pins s σ H xs us Q I r h
 obtain ⟨p,ks,rfl,hq,hk,h64,q⟩:=h
 obtain ⟨u,rfl,ru⟩:=vals1 r
 cases ru
 obtain ⟨its,rv,pl,hz⟩:=I.list hq
 have ev:its=ks.map fun q=>Value.ref q.2:=by
  have:∀ (ks:List (List Int×Addr)) (its:List Value),Vals (ks.map fun q=>V.ref q.2) its→its=ks.map fun q=>Value.ref q.2:=fun ks=>by
   induction ks with
   | nil=>intro its h; cases h; rfl
   | cons q ks ih =>
    intro its h
    cases h with
    | cons h1 h2=>cases h1; rw [List.map_cons,← ih _ h2]
  exact this ks its rv
 refine HT.zfr hu (I.ok.hd hc) pl.isList ev (fun q hq=>zr2 I (hk q hq)) h64 fun h' tk hT hkeep=>?_
 obtain ⟨es,ep,t,a1,a2,a3,a4,a5,a6,a7,a8⟩:=hT
 exact ⟨.ref s.heap.objs.size,_,I.laid (o:=.frz _ (.own 0)) (t':=tk) hkeep (Nat.le_refl _) ⟨a1,_,a1⟩,rfl,q _ _ I.fresh ⟨es,ep,t,rfl,a2,a3,HT.zf5 a4 a5,a4.ris,a6⟩⟩
end
end L2
namespace HT
open PySem PySem.Builtin PyProof.Rows
noncomputable def lesser (a b:List Int×Addr):List Int×Addr:=if lexLt b.1 a.1 then b else a
noncomputable def TsOk (h:Heap) (z:Addr) (ks:List (List Int×Addr)):Prop:=∀ q∈ks,q.2 < z∧∃ its,IsTup h q.2 its∧IntsAre its.toList q.1
theorem TsOk.keep {g g':Heap} {z:Addr} {ks:List (List Int×Addr)} (h:TsOk g z ks) (k:∀ b o,b < z→g.get? b=some o→g'.get? b=some o):TsOk g' z ks:=fun q hq =>
 let ⟨l,its,⟨o,e,r⟩,i⟩:=h q hq
 ⟨l,its,⟨o,k _ _ l e,r⟩,i⟩
theorem zdn {ks:List (List Int×Addr)}:∀ {r:List (List Int×Addr)} {b:List Int×Addr},b∈ks→(∀ q∈r,q∈ks)→r.foldl lesser b∈ks
 | [],_,h,_=>h
 | q::r,b,h,hr=>by
  rw [List.foldl_cons]
  refine zdn ?_ fun x hx=>hr x (List.mem_cons_of_mem _ hx)
  unfold lesser
  split
  ·exact hr q List.mem_cons_self
  ·exact h
noncomputable abbrev refsOf (ks:List (List Int×Addr)):Array Value:=(ks.map fun q=>Value.ref q.2).toArray
section
variable {prog:Program} {w:World} {A:Around} {E:Value→Shared→Prop} {s:Shared} {R:Result→Shared→Prop} {It S z:Addr} {fp wr:List Addr} {St:Nat→Heap→Prop} {ks:List (List Int×Addr)}
theorem zh3 (hu:A.in1.units < cLine) (W:Walks prog w A.in1 It fp wr (refsOf ks).size (fun i v=>(refsOf ks)[i]? = some v) St) (hS:S∉fp) (hz:z≤S) (hw:∀ b∈wr,z≤b) :
  ∀ (r:List (List Int×Addr)) (j:Nat) (b:List Int×Addr) (c:Nat) (s:Shared),ks.drop j=r→j≤ks.length→St j s.heap→TsOk s.heap z ks→b∈ks→s.heap.get? S=some (seqObj "list" #[.ref b.2,.ref b.2] c) →
   (∀ h' tk,(∀ b o,b < z→s.heap.get? b=some o→h'.get? b=some o)→R (.ok (.ret (.ref (r.foldl lesser b).2))) { s with heap:=h',toks:=tk})→codeAny (model prog w) A (.builtin "min.loop" ⟨[.ref It,.none,.ref S],[]⟩) R s:=by
 have hSw:S∉wr:=fun h=>hS (W.sub _ h)
 have nS:∀ {b:Addr},b < z→b≠S:=fun {b} h e=>by subst e; exact Nat.lt_irrefl _ (Nat.lt_of_lt_of_le h hz)
 have nW:∀ {b:Addr},b < z→b∉wr:=fun {b} h e=>Nat.lt_irrefl _ (Nat.lt_of_lt_of_le h (hw _ e))
 have nm:(toString "min"++toString ".loop" : String) = "min.loop":=by decide
 intro r
 induction r with
 | nil =>
  intro j b c s hr hj hst ok hb gS hR
  have hlen:j=ks.length:=by
   have:=congrArg List.length hr
   rw [List.length_drop] at this
   simp at this
   lia
  subst hlen
  refine codeAny_builtin PySem.F.entry_min_loop ?_
  rw [Around.under_plainId PySem.F.plain_min_loop _]
  refine wpAny_bind (m:=seqItems? (.ref S)) (wpAny_seqItems gS rfl ?_)
  refine wpAny_bind (m:=tryCatch (pyNext (.ref It)) _) (wpAny_tryCatch (W.done s _ _ (by simpa using hst) fun h' tk k=>?_))
  refine wpAny_bind (m:=updateSeq S _) (wpAny_updateSeq (k S _ hSw gS) rfl (wpAny_bind (wpAny_letGo (wpAny_pure ?_))))
  exact hR _ tk fun a o l e=>(Heap.get?_update_other _ _ (Ne.symm (nS l))).trans (k a o (nW l) e)
 | cons x r ih =>
  intro j b c s hr hj hst ok hb gS hR
  have hx:ks[j]? = some x:=by
   have:=congrArg (fun l:List (List Int×Addr)=>l[0]?) hr
   simpa using this
  have hr':ks.drop (j+1)=r:=by rw [← List.drop_drop,hr]; rfl
  have hjl:j < ks.length:=(List.getElem?_eq_some_iff.mp hx).1
  have hxm:x∈ks:=List.mem_of_getElem? hx
  refine codeAny_builtin PySem.F.entry_min_loop ?_
  rw [Around.under_plainId PySem.F.plain_min_loop _]
  refine wpAny_bind (m:=seqItems? (.ref S)) (wpAny_seqItems gS rfl ?_)
  refine wpAny_bind (m:=tryCatch (pyNext (.ref It)) _) (wpAny_tryCatch (W.item j s _ _ (by simpa using hjl) hst fun v h' tk hP hst' k=>?_))
  have hv:v=.ref x.2:=by simpa [hx] using hP.symm
  subst hv
  have gS':=k S _ hSw gS
  have ok':TsOk h' z ks:=ok.keep fun a o l e=>k a o (nW l) e
  obtain ⟨_,ix,tx,nx⟩:=ok' x hxm
  obtain ⟨_,ib,tb,nb⟩:=ok' b hb
  show wpAny _ A.in1 (tryCatch (holding [.ref x.2,.ref x.2] (richCompare .Lt (.ref x.2) (.ref b.2) >>= _)) _ >>= _) _ _ _
  refine wpAny_bind (wpAny_tryCatch (wpAny_holding (wpAny_bind (show wpAny _ _ (compareOp .Lt (.ref x.2) (.ref b.2)) _ _ _ from zdy (s:={ s with heap:=h',toks:=tk}) tx tb nx nb hu ?_))))
  refine wpAny_bind (wpAny_holding (wpAny_truthy_bool (wpAny_bind (wpAny_letGo (wpAny_pure ?_)))))
  rw [List.foldl_cons] at hR
  unfold lesser at hR
  cases hc:lexLt x.1 b.1 with
  | true =>
   rw [hc,if_pos rfl] at hR
   simp only [if_true]
   obtain ⟨c2,hc2⟩:∃ c2,(h'.update S (Obj.mapSeq fun _=>#[.ref x.2,.ref x.2])).get? S=some (seqObj "list" #[.ref x.2,.ref x.2] c2):=⟨_,get?_update_seq gS' fun _=>#[.ref x.2,.ref x.2]⟩
   refine wpAny_bind (wpAny_updateSeq gS' rfl (wpAny_bind (wpAny_letGo ?_)))
   rw [nm]
   have keepU:∀ a o,a≠S→h'.get? a=some o→(h'.update S (Obj.mapSeq fun _=>#[.ref x.2,.ref x.2])).get? a=some o:=fun a o n e=>(Heap.get?_update_other _ _ (Ne.symm n)).trans e
   exact wpAny_pure ⟨plainId_quiet PySem.F.plain_min_loop _,ih (j+1) x c2 _ hr' hjl (W.frame _ _ _ hst' fun a ha o e=>keepU a o (fun z=>hS (z▸ha)) e) (ok'.keep fun a o l e=>keepU a o (nS l) e) hxm hc2 fun h'' tk'' k''=>hR h'' tk'' fun a o l e=>k'' a o l (keepU a o (nS l) (k a o (nW l) e))⟩
  | false =>
   rw [hc,if_neg Bool.false_ne_true] at hR
   simp only [Bool.false_eq_true,if_false]
   refine wpAny_bind (wpAny_letGo ?_)
   rw [nm]
   exact wpAny_pure ⟨plainId_quiet PySem.F.plain_min_loop _,ih (j+1) b c _ hr' hjl hst' ok' hb gS' fun h'' tk'' k''=>hR h'' tk'' fun a o l e=>k'' a o l (k a o (nW l) e)⟩
theorem zid {t:Addr} {x:List Int×Addr} {r:List (List Int×Addr)} {Q:Value→Shared→Prop} (hu:A.in1.units < cLine) (hh:A.handled=none) (ht:s.heap.IsTuple t (refsOf (x::r))) (ok:TsOk s.heap s.heap.objs.size (x::r))
  (q:∀ h' tk,(∀ b o,s.heap.get? b=some o→h'.get? b=some o)→Q (.ref (r.foldl lesser x).2) { s with heap:=h',toks:=tk}):wpAny (model prog w) A (call (.builtin "min") [.ref t]) Q E s:=by
 have nm:(toString "min"++toString ".loop" : String) = "min.loop":=by decide
 have lt:t < s.heap.objs.size:=by obtain ⟨o,h1,_⟩:=ht; exact Heap.lt_size h1
 refine call_function_tree PySem.F.kind_min PySem.F.plain_min PySem.F.entry_min (PySem.F.args_min1 _) ?_
 refine wpAny_bind (m:=Builtins.bindParams "min" ["key", "default"] 0 ⟨[],[]⟩) (wpAny_of_eq (a:=[none,none]) rfl ?_)
 refine wpAny_bind (wpAny_pure (wpAny_bind (wpAny_pyIter_tuple ht ?_)))
 let g1:=s.heap.push { cls:=.type "tuple_iterator",data:=.fields #[.ref t,.int 0 0]}
 have z1:g1.objs.size=s.heap.objs.size+1:=Heap.size_push ..
 refine wpAny_bind (wpAny_newObj_type ?_)
 rw [nm]
 let g2:=g1.push { cls:=.type "list",data:=.seq #[]}
 have old:∀ b o,s.heap.get? b=some o→g2.get? b=some o:=fun b o e=>Heap.get?_push_of_some _ (Heap.get?_push_of_some _ e)
 have W0:=Walks.tuple (prog:=prog) (w:=w) (A:=A.in1) hh s.heap.objs.size t (Nat.ne_of_lt lt) (refsOf (x::r))
 have gS:g2.get? g1.objs.size=some (seqObj "list" #[] 0):=Heap.get?_push_size _ rfl
 refine wpAny_pure ⟨plainId_quiet PySem.F.plain_min_loop _,?_⟩
 have st0:g2.IsTupleIter s.heap.objs.size t 0∧g2.IsTuple t (refsOf (x::r)):=⟨⟨_,Heap.get?_push_of_some _ (Heap.get?_push_size _ rfl),rfl,rfl⟩,let ⟨o,e,z⟩:=ht; ⟨o,old _ _ e,z⟩⟩
 refine codeAny_builtin PySem.F.entry_min_loop ?_
 rw [Around.under_plainId PySem.F.plain_min_loop _]
 refine wpAny_bind (m:=seqItems? (.ref g1.objs.size)) (wpAny_seqItems gS rfl ?_)
 have nS:g1.objs.size∉[s.heap.objs.size]:=by rw [z1]; simp
 have up:∀ a:Addr,a≤s.heap.objs.size→a≠g1.objs.size:=fun a l=>by rw [z1]; exact Nat.ne_of_lt (Nat.lt_succ_of_le l)
 refine wpAny_bind (m:=tryCatch (pyNext (.ref s.heap.objs.size)) _) (wpAny_tryCatch (W0.item 0 { s with heap:=g2} _ _ (by simp) st0 fun v h' tk hP hst' k=>?_))
 have hv:v=.ref x.2:=by simpa using hP.symm
 subst hv
 have gS':=k g1.objs.size _ nS gS
 obtain ⟨c2,hc2⟩:∃ c2,(h'.update g1.objs.size (Obj.mapSeq fun _=>#[.ref x.2,.ref x.2])).get? g1.objs.size=some (seqObj "list" #[.ref x.2,.ref x.2] c2):=⟨_,get?_update_seq gS' fun _=>#[.ref x.2,.ref x.2]⟩
 have keepU:∀ a o,a≠g1.objs.size→h'.get? a=some o→(h'.update g1.objs.size (Obj.mapSeq fun _=>#[.ref x.2,.ref x.2])).get? a=some o:=fun a o n e=>(Heap.get?_update_other _ _ (Ne.symm n)).trans e
 have kk:∀ a o,a < s.heap.objs.size→g2.get? a=some o→(h'.update g1.objs.size (Obj.mapSeq fun _=>#[.ref x.2,.ref x.2])).get? a=some o:=fun a o l e=>keepU a o (up a (Nat.le_of_lt l)) (k a o (by simp; exact Nat.ne_of_lt l) e)
 refine wpAny_bind (m:=updateSeq g1.objs.size _) (wpAny_updateSeq gS' rfl ?_)
 rw [nm]
 refine wpAny_pure ⟨plainId_quiet PySem.F.plain_min_loop _,zh3 (z:=s.heap.objs.size) (ks:=x::r) hu W0 (fun h=>(List.mem_cons.mp h).elim (fun h=>up _ (Nat.le_refl _) h.symm) fun h=>up _ (Nat.le_of_lt lt) (List.mem_singleton.mp h).symm) (by rw [z1]; exact Nat.le_succ _) (fun b hb=>by simp at hb; rw [hb]; exact Nat.le_refl _) r 1 x c2 _ rfl (by simp) (W0.frame _ _ _ hst' fun a ha o e=>keepU a o ?_ e) ((ok.keep fun a o l e=>old a o e).keep kk) List.mem_cons_self hc2 fun h'' tk'' k''=>?_⟩
 ·have ha:a=s.heap.objs.size∨a=t:=by simpa using ha
  rcases ha with rfl | rfl
  ·exact up _ (Nat.le_refl _)
  ·exact up _ (Nat.le_of_lt lt)
 ·exact q h'' tk'' fun b o e=>k'' b o (Heap.lt_size e) (kk b o (Heap.lt_size e) (old b o e))
theorem zky {t:Addr} {its:Array Value} {x:Value} {e:Value→Bool} {j:Nat} {Q:Value→Shared→Prop} (ht:IsTup s.heap t its) (hj:j < its.size) (hit:e its[j]=true) (hno:∀ m (hm:m < its.size),m < j→e its[m]=false)
  (he:∀ y,y∈its→SeqAt.EqAt A.in1 s y x (e y)) (q:Q (.int j s.toks) { s with toks:=s.toks+1}):wpAny (model prog w) A (call (.builtin "tuple.index") [.ref t,x]) Q E s:=by
 refine wpAny_call_entry PySem.F.slot_tuple_index ht.typeIs PySem.F.entry_tuple_index ?_ (PySem.F.args_tuple_index_2 _ _)
 unfold Builtin.«tuple.index»
 refine wpAny_bind (m:=selfAndSome _ _ _ _ _) (wpAny_pure ?_)
 dsimp only
 refine wpAny_bind (tupleItemsOf_ ht ?_)
 refine wpAny_bind (wpAny_pure (wpAny_bind (wpAny_pure ?_)))
 rw [Nat.min_self,Std.Legacy.Range.forIn_eq_forIn_range']
 refine wpAny_bind (wpAny_mono (wpAny_forIn_list _ (fun l b s'=>s'=s∧b=(none,())∧∃ i,l=List.range' i (its.size - i) 1∧i≤j) (fun b s'=>s'={ s with toks:=s.toks+1}∧b=(some (Fin.done (.ret (.int j s.toks))),())) ?_ ?_ _ _ ?_) (fun b s' z=>?_) fun _ _ z=>z)
 ·rintro i r b s' ⟨rfl,rfl,k,hl,hk⟩
  obtain ⟨m,hm⟩:∃ m,its.size - k=m+1:=⟨its.size - k - 1,by lia⟩
  rw [hm,List.range'_succ] at hl
  obtain ⟨rfl,rfl⟩:=List.cons.inj hl
  have hi:i < its.size:=by lia
  rw [show its[i]? = some its[i] by simp [hi]]
  dsimp only
  refine wpAny_bind (he _ (Array.getElem_mem hi) _ _ _ _ ?_)
  by_cases hij:i=j
  ·subst hij
   rw [hit,if_pos rfl]
   exact wpAny_bind (wpAny_bind (wpAny_mkInt (wpAny_pure (wpAny_pure ⟨rfl,rfl⟩))))
  ·rw [hno i hi (by lia),if_neg Bool.false_ne_true]
   exact wpAny_pure ⟨rfl,rfl,i+1,by rw [show its.size - (i+1)=m by lia],by lia⟩
 ·rintro b s' ⟨rfl,rfl,i,hl,hi⟩
  exfalso
  have:=congrArg List.length hl
  simp at this
  lia
 ·exact ⟨rfl,rfl,0,by simp [Std.Legacy.Range.size],Nat.zero_le _⟩
 ·obtain ⟨rfl,rfl⟩:=z
  exact wpAny_pure ⟨_,rfl,q⟩
end
end HT
namespace L2
open PySem PySem.W PySem.Spec PyProof.Rows
section
variable {X:Cx}
theorem zks (hu:X.A.units+3 < cLine) (hc:X.calm=true):CallR X (.builtin "min") (fun xs H Q=>∃ (p:Addr) (x:List Int×Addr) (r:List (List Int×Addr)),xs=[.ref p]∧SqT X.K H p ((x::r).map fun q=>V.ref q.2)∧(∀ q∈x::r,SqT X.K H q.2 (q.1.map V.int))∧Q (.ref (r.foldl HT.lesser x).2) H):=by
 intro pins s σ H xs us Q I r h
 obtain ⟨p,x,ks,rfl,hq,hk,q⟩:=h
 obtain ⟨u,rfl,ru⟩:=vals1 r
 cases ru
 obtain ⟨its,rv,pl,hz⟩:=I.tuple hq
 have ev:its=(x::ks).map fun q=>Value.ref q.2:=by
  have:∀ (ks:List (List Int×Addr)) (its:List Value),Vals (ks.map fun q=>V.ref q.2) its→its=ks.map fun q=>Value.ref q.2:=fun ks=>by
   induction ks with
   | nil=>intro its h; cases h; rfl
   | cons q ks ih =>
    intro its h
    cases h with
    | cons h1 h2=>cases h1; rw [List.map_cons,← ih _ h2]
  exact this _ its rv
 subst ev
 refine HT.zid (x:=x) (r:=ks) (by show X.A.units+1 < cLine; lia) (I.ok.hd hc) pl (fun q hq=>?_) fun h' tk hk'=>⟨.ref _,H,I.kept hk',rfl,q⟩
 obtain ⟨its',rv',t',_⟩:=I.tuple (hk q hq)
 obtain ⟨o,ho,_⟩:=id t'
 exact ⟨Heap.lt_size ho,its'.toArray,t',by simpa using zv rv'⟩
theorem zji:CallR X (.builtin "len") (fun xs H Q=>∃ (S:Addr) (oc:Obj) (ks:List (List Int×Addr)),xs=[.ref S]∧H S=some (.frz oc (.own 0))∧SetV X.w X.prog oc ks∧ks.length < 64∧Q (.int ks.length) H):=by
 intro pins s σ H xs us Q I r h
 obtain ⟨S,oc,ks,rfl,hS,⟨es,ep,t,rfl,v1,v2,v3,v4,v5⟩,h64,q⟩:=h
 obtain ⟨u,rfl,ru⟩:=vals1 r
 cases ru
 have el:es.size=ks.length:=by rw [← Array.length_toList,v5.length_eq,List.length_map]
 exact call_len_set (I.hok _ _ hS).1 ⟨rfl,rfl,rfl⟩ rfl v3 (by lia) ⟨.int es.size,H,I.tok _,⟨_,rfl⟩,by rw [el]; exact q⟩
end
end L2
namespace SD
open PySem PySem.Spec PyProof.Rows L2 PY
section
variable {X:Cx} {pins:List (Addr×Obj)} {σ:St} {H:Hp} {s:Shared} {F:Fz}
abbrev Ev:Fz:=fun _=>True
theorem Now.all {K:Frag} {d:D} {v:V} (h:Now K F H d v):Rep K Ev H d v:=by
 rcases h with h | ⟨a,lo⟩
 ·exact h.keep ⟨fun _ _=>trivial,fun _ _ _ _ e=>e,fun _ _ e=>e⟩
 ·exact lo.prot.keep ⟨fun _ _=>trivial,fun _ _ _ _ e=>e,fun _ _ e=>e⟩
theorem zjb {A:Around} {dx dy:D} {x y:V} {u v:Value} (hx:Rep X.K F H dx x) (hy:Rep X.K F H dy y) (rx:RelV x u) (ry:RelV y v) (sx:dx.scal=true) (sy:dy.scal=true):SeqAt.RcAt A s u v (D.eq dx dy):=by
 cases dx with
 | tup _=>cases sx
 | lst _=>cases sx
 | dic _ _=>cases sx
 | non =>
  rw [Rep] at hx; subst hx; cases rx
  cases dy with
  | tup _=>cases sy
  | lst _=>cases sy
  | dic _ _=>cases sy
  | non=>rw [Rep] at hy; subst hy; cases ry; exact SeqAt.RcAt.none_none
  | bl b1=>rw [Rep] at hy; subst hy; cases ry; exact SeqAt.RcAt.none_bool  b1
  | int b1=>rw [Rep] at hy; subst hy; obtain ⟨t1,rfl⟩:=ry; exact SeqAt.RcAt.none_int  b1 t1
  | str b1=>rw [Rep] at hy; subst hy; obtain ⟨t1,rfl⟩:=ry; exact SeqAt.RcAt.none_str  b1 t1
 | bl b0 =>
  rw [Rep] at hx; subst hx; cases rx
  cases dy with
  | tup _=>cases sy
  | lst _=>cases sy
  | dic _ _=>cases sy
  | non=>rw [Rep] at hy; subst hy; cases ry; exact SeqAt.RcAt.bool_none b0
  | bl b1=>rw [Rep] at hy; subst hy; cases ry; exact SeqAt.RcAt.bool_bool b0 b1
  | int b1=>rw [Rep] at hy; subst hy; obtain ⟨t1,rfl⟩:=ry; exact SeqAt.RcAt.bool_int b0 b1 t1
  | str b1=>rw [Rep] at hy; subst hy; obtain ⟨t1,rfl⟩:=ry; exact SeqAt.RcAt.bool_str b0 b1 t1
 | int b0 =>
  rw [Rep] at hx; subst hx; obtain ⟨t,rfl⟩:=rx
  cases dy with
  | tup _=>cases sy
  | lst _=>cases sy
  | dic _ _=>cases sy
  | non=>rw [Rep] at hy; subst hy; cases ry; exact SeqAt.RcAt.int_none b0 t
  | bl b1=>rw [Rep] at hy; subst hy; cases ry; exact SeqAt.RcAt.int_bool b0 t b1
  | int b1=>rw [Rep] at hy; subst hy; obtain ⟨t1,rfl⟩:=ry; exact SeqAt.RcAt.int_int b0 t b1 t1
  | str b1=>rw [Rep] at hy; subst hy; obtain ⟨t1,rfl⟩:=ry; exact SeqAt.RcAt.int_str b0 t b1 t1
 | str b0 =>
  rw [Rep] at hx; subst hx; obtain ⟨t,rfl⟩:=rx
  cases dy with
  | tup _=>cases sy
  | lst _=>cases sy
  | dic _ _=>cases sy
  | non=>rw [Rep] at hy; subst hy; cases ry; exact SeqAt.RcAt.str_none b0 t
  | bl b1=>rw [Rep] at hy; subst hy; cases ry; exact SeqAt.RcAt.str_bool b0 t b1
  | int b1=>rw [Rep] at hy; subst hy; obtain ⟨t1,rfl⟩:=ry; exact SeqAt.RcAt.str_int b0 t b1 t1
  | str b1=>rw [Rep] at hy; subst hy; obtain ⟨t1,rfl⟩:=ry; exact SeqAt.RcAt.str_str b0 t b1 t1
inductive RCmp (K:Frag) (o:Cop) (x:V) (y:V) (H:Hp) (Q:VK):Prop
 | mk (F:Fz) (dx:D) (dy:D) (k:Bool) (nx:Now K F H dx x) (ny:Now K F H dy y) (hc:cmpop o dx dy=some k) (q:Q (.bl k) H):RCmp K o x y H Q
def rCmp (K:Frag) (o:Cop):R2:=RCmp K o
theorem zp0 (hu:X.A.units+64 < cLine):OpR X (compareOp .Eq) (rCmp X.K .eq):=by
 intro pins s σ H x y v u Q I rx ry ⟨F,dx,dy,k,nx,ny,hc,q⟩
 replace hc:(if dx.deep 8&&dy.deep 8 then some (D.eq dx dy) else none)=some k:=hc
 split at hc
 ·rename_i hd
  rw [Bool.and_eq_true] at hd
  cases hc
  have fin:EP X pins σ Q (.bool (D.eq dx dy)) s:=⟨.bl _,H,I,rfl,q⟩
  by_cases h:dx.scal=false∨dy.scal=false
  ·exact (zho I 8 (A:=X.A) (by lia) hd.1 hd.2 nx.all ny.all rx ry).2 h _ _ _ _ fin
  ·have hx:dx.scal=true:=by cases e:dx.scal <;> simp_all
   have hy:dy.scal=true:=by cases e:dy.scal <;> simp_all
   exact zjb (A:=X.A) (s:=s) nx.all ny.all rx ry hx hy _ _ _ _ fin
 ·cases hc
theorem zbn {A:Around} {dx dy:D} {x y:V} {u v:Value} (hx:Rep X.K F H dx x) (hy:Rep X.K F H dy y) (rx:RelV x u) (ry:RelV y v) (sx:dx.scal=true) (sy:dy.scal=true):SeqAt.RcNeAt A s u v (!D.eq dx dy):=by
 cases dx with
 | tup _=>cases sx
 | lst _=>cases sx
 | dic _ _=>cases sx
 | non =>
  rw [Rep] at hx; subst hx; cases rx
  cases dy with
  | tup _=>cases sy
  | lst _=>cases sy
  | dic _ _=>cases sy
  | non=>rw [Rep] at hy; subst hy; cases ry; exact SeqAt.RcNeAt.none_none
  | bl b1=>rw [Rep] at hy; subst hy; cases ry; exact SeqAt.RcNeAt.none_bool  b1
  | int b1=>rw [Rep] at hy; subst hy; obtain ⟨t1,rfl⟩:=ry; exact SeqAt.RcNeAt.none_int  b1 t1
  | str b1=>rw [Rep] at hy; subst hy; obtain ⟨t1,rfl⟩:=ry; exact SeqAt.RcNeAt.none_str  b1 t1
 | bl b0 =>
  rw [Rep] at hx; subst hx; cases rx
  cases dy with
  | tup _=>cases sy
  | lst _=>cases sy
  | dic _ _=>cases sy
  | non=>rw [Rep] at hy; subst hy; cases ry; exact SeqAt.RcNeAt.bool_none b0
  | bl b1=>rw [Rep] at hy; subst hy; cases ry; exact SeqAt.RcNeAt.bool_bool b0 b1
  | int b1=>rw [Rep] at hy; subst hy; obtain ⟨t1,rfl⟩:=ry; exact SeqAt.RcNeAt.bool_int b0 b1 t1
  | str b1=>rw [Rep] at hy; subst hy; obtain ⟨t1,rfl⟩:=ry; exact SeqAt.RcNeAt.bool_str b0 b1 t1
 | int b0 =>
  rw [Rep] at hx; subst hx; obtain ⟨t,rfl⟩:=rx
  cases dy with
  | tup _=>cases sy
  | lst _=>cases sy
  | dic _ _=>cases sy
  | non=>rw [Rep] at hy; subst hy; cases ry; exact SeqAt.RcNeAt.int_none b0 t
  | bl b1=>rw [Rep] at hy; subst hy; cases ry; exact SeqAt.RcNeAt.int_bool b0 t b1
  | int b1=>rw [Rep] at hy; subst hy; obtain ⟨t1,rfl⟩:=ry; exact SeqAt.RcNeAt.int_int b0 t b1 t1
  | str b1=>rw [Rep] at hy; subst hy; obtain ⟨t1,rfl⟩:=ry; exact SeqAt.RcNeAt.int_str b0 t b1 t1
 | str b0 =>
  rw [Rep] at hx; subst hx; obtain ⟨t,rfl⟩:=rx
  cases dy with
  | tup _=>cases sy
  | lst _=>cases sy
  | dic _ _=>cases sy
  | non=>rw [Rep] at hy; subst hy; cases ry; exact SeqAt.RcNeAt.str_none b0 t
  | bl b1=>rw [Rep] at hy; subst hy; cases ry; exact SeqAt.RcNeAt.str_bool b0 t b1
  | int b1=>rw [Rep] at hy; subst hy; obtain ⟨t1,rfl⟩:=ry; exact SeqAt.RcNeAt.str_int b0 t b1 t1
  | str b1=>rw [Rep] at hy; subst hy; obtain ⟨t1,rfl⟩:=ry; exact SeqAt.RcNeAt.str_str b0 t b1 t1
theorem zpp (I:Inv X pins σ H s) {A:Around} {dx dy:D} {x y:V} {u v:Value} (hu:A.units+8 < cLine) (hx:dx.deep 8=true) (hy:dy.deep 8=true) (nx:Rep X.K F H dx x) (ny:Rep X.K F H dy y) (rx:RelV x u) (ry:RelV y v) :
  SeqAt.RcNeAt A s u v (!D.eq dx dy):=by
 have ih:=fun {dx dy:D} {x y:V} {u v:Value} (a:dx.deep 7=true) (b:dy.deep 7=true) (c:Rep X.K F H dx x) (d:Rep X.K F H dy y) (e:RelV x u) (f:RelV y v)=>(zho I 7 (A:=A.in1) (by show A.units+1+7 < cLine; lia) a b c d e f).1
 have hu':A.units < cLine:=by lia
 have items:∀ {l m:List D} {xs ys:List V} {its its2:List Value},l.all (D.deep 7)=true→m.all (D.deep 7)=true→Reps X.K F H l xs→Reps X.K F H m ys→Vals xs its→Vals ys its2 →
   ∀ j (h1:j < its.toArray.size) (h2:j < its2.toArray.size),SeqAt.EqAt A.in1 s its.toArray[j] its2.toArray[j] (D.eq (l.getD j .non) (m.getD j .non)):=fun {l m xs ys its its2} hl hm r1 r2 v1 v2 j h1 h2=>by
  have j1:j < l.length:=by rw [r1.length,v1.length]; simpa using h1
  have j2:j < m.length:=by rw [r2.length,v2.length]; simpa using h2
  obtain ⟨z,e1,q1⟩:=r1.get (i:=j) (d:=l[j]) (by simp [j1])
  obtain ⟨z2,e2,q2⟩:=r2.get (i:=j) (d:=m[j]) (by simp [j2])
  obtain ⟨w1,e3,q3⟩:=v1.get e1
  obtain ⟨w2,e4,q4⟩:=v2.get e2
  have a1:its.toArray[j]=w1:=by
   have:its[j]? = some w1:=e3
   have hj:j < its.length:=by simpa using h1
   rw [List.getElem?_eq_getElem hj] at this
   simpa using Option.some.inj this
  have a2:its2.toArray[j]=w2:=by
   have:its2[j]? = some w2:=e4
   have hj:j < its2.length:=by simpa using h2
   rw [List.getElem?_eq_getElem hj] at this
   simpa using Option.some.inj this
  rw [a1,a2]
  have b1:l.getD j .non=l[j]:=by simp [List.getD,j1]
  have b2:m.getD j .non=m[j]:=by simp [List.getD,j2]
  rw [b1,b2]
  exact ih (List.all_eq_true.mp hl _ (List.getElem_mem j1)) (List.all_eq_true.mp hm _ (List.getElem_mem j2)) q1 q2 q3 q4
 cases dx with
 | tup l =>
  rw [Rep] at nx
  obtain ⟨a,xs,rfl,h1,h2⟩:=id nx
  cases (show u=Value.ref a from rx)
  obtain ⟨its,v1,p1,_⟩:=I.tuple h1.seq
  cases dy with
  | tup m =>
   obtain ⟨b,ys,rfl,h3,h4⟩:=(by rw [Rep] at ny; exact ny:∃ a xs,y=.ref a∧FT X.K F H a xs∧Reps X.K F H m xs)
   cases (show v=Value.ref b from ry)
   obtain ⟨its2,v2,p2,_⟩:=I.tuple h3.seq
   have q:=SeqAt.RcNeAt.tuples (A:=A) (s:=s) p1 p2 hu' (items hx hy h2 h4 v1 v2)
   rw [List.size_toArray,List.size_toArray,← v1.length,← v2.length,← h2.length,← h4.length] at q
   rw [D.eq,za3]
   exact q
  | lst m =>
   obtain ⟨b,ys,rfl,h3,h4⟩:=(by rw [Rep] at ny; exact ny:∃ a xs,y=.ref a∧FL X.K F H a xs∧Reps X.K F H m xs)
   cases (show v=Value.ref b from ry)
   obtain ⟨its2,v2,p2,_⟩:=I.list h3.seq
   exact SeqAt.RcNeAt.tuple_list p1 p2.isList hu'
  | non=>rw [Rep] at ny; subst ny; cases ry; exact SeqAt.RcNeAt.tuple_none p1 hu'
  | bl b=>rw [Rep] at ny; subst ny; cases ry; exact SeqAt.RcNeAt.tuple_bool b p1 hu'
  | int b=>rw [Rep] at ny; subst ny; obtain ⟨t,rfl⟩:=ry; exact SeqAt.RcNeAt.tuple_int b t p1 hu'
  | str b=>rw [Rep] at ny; subst ny; obtain ⟨t,rfl⟩:=ry; exact SeqAt.RcNeAt.tuple_str b t p1 hu'
  | dic _ _=>exact nomatch (show false=true from hy)
 | lst l =>
  rw [Rep] at nx
  obtain ⟨a,xs,rfl,h1,h2⟩:=id nx
  cases (show u=Value.ref a from rx)
  obtain ⟨its,v1,p1,_⟩:=I.list h1.seq
  cases dy with
  | lst m =>
   obtain ⟨b,ys,rfl,h3,h4⟩:=(by rw [Rep] at ny; exact ny:∃ a xs,y=.ref a∧FL X.K F H a xs∧Reps X.K F H m xs)
   cases (show v=Value.ref b from ry)
   obtain ⟨its2,v2,p2,_⟩:=I.list h3.seq
   rw [D.eq,za3]
   by_cases hz:l.length=m.length
   ·have hsz:its.toArray.size=its2.toArray.size:=by rw [List.size_toArray,List.size_toArray,← v1.length,← v2.length,← h2.length,← h4.length,hz]
    have q:=SeqAt.RcNeAt.lists (A:=A) (s:=s) p1.isList p2.isList hsz hu' (items hx hy h2 h4 v1 v2)
    rw [List.size_toArray,← v1.length,← h2.length] at q
    rw [hz,Nat.min_self,beq_self_eq_true,Bool.and_true,← hz]
    exact q
   ·have hsz:(its.toArray.size != its2.toArray.size)=true:=by
     rw [List.size_toArray,List.size_toArray,← v1.length,← v2.length,← h2.length,← h4.length]
     simpa using hz
    have q:=SeqAt.RcNeAt.lists_lengths (A:=A) (s:=s) p1.isList p2.isList hsz hu'
    rw [show (l.length==m.length)=false by simpa using hz,Bool.and_false]
    exact q
  | tup m =>
   obtain ⟨b,ys,rfl,h3,h4⟩:=(by rw [Rep] at ny; exact ny:∃ a xs,y=.ref a∧FT X.K F H a xs∧Reps X.K F H m xs)
   cases (show v=Value.ref b from ry)
   obtain ⟨its2,v2,p2,_⟩:=I.tuple h3.seq
   exact SeqAt.RcNeAt.list_tuple p1.isList p2 hu'
  | non=>rw [Rep] at ny; subst ny; cases ry; exact SeqAt.RcNeAt.list_none p1.isList hu'
  | bl b=>rw [Rep] at ny; subst ny; cases ry; exact SeqAt.RcNeAt.list_bool b p1.isList hu'
  | int b=>rw [Rep] at ny; subst ny; obtain ⟨t,rfl⟩:=ry; exact SeqAt.RcNeAt.list_int b t p1.isList hu'
  | str b=>rw [Rep] at ny; subst ny; obtain ⟨t,rfl⟩:=ry; exact SeqAt.RcNeAt.list_str b t p1.isList hu'
  | dic _ _=>exact nomatch (show false=true from hy)
 | non =>
  cases dy with
  | tup m =>
   obtain ⟨b,ys,rfl,h3,h4⟩:=(by rw [Rep] at ny; exact ny:∃ a xs,y=.ref a∧FT X.K F H a xs∧Reps X.K F H m xs)
   cases (show v=Value.ref b from ry)
   obtain ⟨its2,v2,p2,_⟩:=I.tuple h3.seq
   rw [Rep] at nx
   subst nx
   cases rx
   exact SeqAt.RcNeAt.none_tuple  p2 hu'
  | lst m =>
   obtain ⟨b,ys,rfl,h3,h4⟩:=(by rw [Rep] at ny; exact ny:∃ a xs,y=.ref a∧FL X.K F H a xs∧Reps X.K F H m xs)
   cases (show v=Value.ref b from ry)
   obtain ⟨its2,v2,p2,_⟩:=I.list h3.seq
   rw [Rep] at nx
   subst nx
   cases rx
   exact SeqAt.RcNeAt.none_list  p2.isList hu'
  | dic _ _=>exact nomatch (show false=true from hy)
  | _=>exact zbn nx ny rx ry rfl rfl
 | bl b0 =>
  cases dy with
  | tup m =>
   obtain ⟨b,ys,rfl,h3,h4⟩:=(by rw [Rep] at ny; exact ny:∃ a xs,y=.ref a∧FT X.K F H a xs∧Reps X.K F H m xs)
   cases (show v=Value.ref b from ry)
   obtain ⟨its2,v2,p2,_⟩:=I.tuple h3.seq
   rw [Rep] at nx
   subst nx
   cases rx
   exact SeqAt.RcNeAt.bool_tuple b0 p2 hu'
  | lst m =>
   obtain ⟨b,ys,rfl,h3,h4⟩:=(by rw [Rep] at ny; exact ny:∃ a xs,y=.ref a∧FL X.K F H a xs∧Reps X.K F H m xs)
   cases (show v=Value.ref b from ry)
   obtain ⟨its2,v2,p2,_⟩:=I.list h3.seq
   rw [Rep] at nx
   subst nx
   cases rx
   exact SeqAt.RcNeAt.bool_list b0 p2.isList hu'
  | dic _ _=>exact nomatch (show false=true from hy)
  | _=>exact zbn nx ny rx ry rfl rfl
 | int b0 =>
  cases dy with
  | tup m =>
   obtain ⟨b,ys,rfl,h3,h4⟩:=(by rw [Rep] at ny; exact ny:∃ a xs,y=.ref a∧FT X.K F H a xs∧Reps X.K F H m xs)
   cases (show v=Value.ref b from ry)
   obtain ⟨its2,v2,p2,_⟩:=I.tuple h3.seq
   rw [Rep] at nx
   subst nx
   obtain ⟨t,rfl⟩:=rx
   exact SeqAt.RcNeAt.int_tuple b0 t p2 hu'
  | lst m =>
   obtain ⟨b,ys,rfl,h3,h4⟩:=(by rw [Rep] at ny; exact ny:∃ a xs,y=.ref a∧FL X.K F H a xs∧Reps X.K F H m xs)
   cases (show v=Value.ref b from ry)
   obtain ⟨its2,v2,p2,_⟩:=I.list h3.seq
   rw [Rep] at nx
   subst nx
   obtain ⟨t,rfl⟩:=rx
   exact SeqAt.RcNeAt.int_list b0 t p2.isList hu'
  | dic _ _=>exact nomatch (show false=true from hy)
  | _=>exact zbn nx ny rx ry rfl rfl
 | str b0 =>
  cases dy with
  | tup m =>
   obtain ⟨b,ys,rfl,h3,h4⟩:=(by rw [Rep] at ny; exact ny:∃ a xs,y=.ref a∧FT X.K F H a xs∧Reps X.K F H m xs)
   cases (show v=Value.ref b from ry)
   obtain ⟨its2,v2,p2,_⟩:=I.tuple h3.seq
   rw [Rep] at nx
   subst nx
   obtain ⟨t,rfl⟩:=rx
   exact SeqAt.RcNeAt.str_tuple b0 t p2 hu'
  | lst m =>
   obtain ⟨b,ys,rfl,h3,h4⟩:=(by rw [Rep] at ny; exact ny:∃ a xs,y=.ref a∧FL X.K F H a xs∧Reps X.K F H m xs)
   cases (show v=Value.ref b from ry)
   obtain ⟨its2,v2,p2,_⟩:=I.list h3.seq
   rw [Rep] at nx
   subst nx
   obtain ⟨t,rfl⟩:=rx
   exact SeqAt.RcNeAt.str_list b0 t p2.isList hu'
  | dic _ _=>exact nomatch (show false=true from hy)
  | _=>exact zbn nx ny rx ry rfl rfl
 | dic _ _=>exact nomatch (show false=true from hx)
theorem zrc (hu:X.A.units+64 < cLine):OpR X (compareOp .NotEq) (rCmp X.K .ne):=by
 intro pins s σ H x y v u Q I rx ry ⟨F,dx,dy,k,nx,ny,hc,q⟩
 replace hc:(if dx.deep 8&&dy.deep 8 then some (!D.eq dx dy) else none)=some k:=hc
 split at hc
 ·rename_i hd
  rw [Bool.and_eq_true] at hd
  cases hc
  exact zpp I (A:=X.A) (by lia) hd.1 hd.2 nx.all ny.all rx ry _ _ _ _ ⟨.bl _,H,I,rfl,q⟩
 ·cases hc
theorem zeb:∀ (a b:List Int),PY.lexLt a b=HT.lexLt a b
 | [],[]=>rfl
 | [],_::_=>rfl
 | _::_,[]=>rfl
 | x::a,y::b=>by
  by_cases e:x=y <;> simp [PY.lexLt,HT.lexLt,e,zeb a b]
theorem zqj (hu:X.A.units+64 < cLine):OpR X (compareOp .Lt) (rCmp X.K .lt):=by
 intro pins s σ H x y v u Q I rx ry ⟨F,dx,dy,k,nx,ny,hc,q⟩
 replace hc:D.lt dx dy=some k:=hc
 cases dx with
 | int a =>
  cases dy <;> first | (cases hc; done) | skip
  rename_i b
  cases hc
  exact zsa pins s σ H x y v u Q I rx ry ⟨a,b,nx.int,ny.int,q⟩
 | tup a =>
  cases dy <;> first | (cases hc; done) | skip
  rename_i b
  replace hc:(match ints? a,ints? b with | some x,some y=>some (PY.lexLt x y) | _,_=>none)=some k:=hc
  cases e1:ints? a with
  | none=>rw [e1] at hc; cases hc
  | some ns =>
   cases e2:ints? b with
   | none=>rw [e1,e2] at hc; cases hc
   | some ms =>
    rw [e1,e2] at hc
    cases hc
    obtain ⟨p,xs,rfl,h1,h2⟩:=nx.tup
    obtain ⟨p',ys,rfl,h3,h4⟩:=ny.tup
    rw [zab e1 h2] at h1
    rw [zab e2 h4] at h3
    exact zp4 (by lia) pins s σ H _ _ v u Q I rx ry ⟨p,p',ns,ms,rfl,rfl,h1.seq,h3.seq,by rw [← zeb]; exact q⟩
 | _=>cases dy <;> cases hc
theorem zqv (hu:X.A.units+64 < cLine):OpR X (compareOp .LtE) (rCmp X.K .le):=by
 intro pins s σ H x y v u Q I rx ry ⟨F,dx,dy,k,nx,ny,hc,q⟩
 cases dx with
 | int a =>
  cases dy <;> first | (cases hc; done) | skip
  rename_i b
  cases hc
  exact zsp pins s σ H x y v u Q I rx ry ⟨a,b,nx.int,ny.int,q⟩
 | _=>cases dy <;> cases hc
theorem zqr:OpR X (compareOp .Gt) (rCmp X.K .gt):=by
 intro pins s σ H x y v u Q I rx ry ⟨F,dx,dy,k,nx,ny,hc,q⟩
 cases dx <;> cases dy <;> first | (cases hc; done) | skip
 rename_i a b
 cases hc
 exact zsx pins s σ H x y v u Q I rx ry ⟨a,b,nx.int,ny.int,q⟩
theorem zpu:OpR X (compareOp .GtE) (rCmp X.K .ge):=by
 intro pins s σ H x y v u Q I rx ry ⟨F,dx,dy,k,nx,ny,hc,q⟩
 cases dx <;> cases dy <;> first | (cases hc; done) | skip
 rename_i a b
 cases hc
 exact zs1 pins s σ H x y v u Q I rx ry ⟨a,b,nx.int,ny.int,q⟩
theorem Rep.isN {K:Frag} {d:D} {x:V} (h:Rep K F H d x):decide (x=.non)=(match d with | .non=>true | _=>false):=by
 cases d <;> rw [Rep] at h <;> first | (subst h; rfl) | (obtain ⟨a,_,rfl,_⟩:=h; rfl)
theorem Rep.isB {K:Frag} {d:D} {x:V} {c:Bool} (h:Rep K F H d x):decide (x=.bl c)=(match d with | .bl b=>b==c | _=>false):=by
 cases d <;> rw [Rep] at h <;> first | (subst h; first | rfl | (rename_i b; cases b <;> cases c <;> rfl)) | (obtain ⟨a,_,rfl,_⟩:=h; rfl)
theorem zpw:OpR X (compareOp .Is) (rCmp X.K .isC):=by
 intro pins s σ H x y v u Q I rx ry ⟨F,dx,dy,k,nx,ny,hc,q⟩
 cases dy with
 | non =>
  have e:k=decide (x=.non):=by rw [nx.all.isN]; cases dx <;> exact (Option.some.inj hc).symm
  subst e
  exact zp6 pins s σ H x y v u Q I rx ry ⟨ny.non,q⟩
 | bl c =>
  have e:k=decide (x=.bl c):=by rw [nx.all.isB]; cases dx <;> exact (Option.some.inj hc).symm
  subst e
  exact zpq pins s σ H x y v u Q I rx ry ⟨c,ny.bl,q⟩
 | _=>cases dx <;> cases hc
theorem znr:OpR X (compareOp .IsNot) (rCmp X.K .notC):=by
 intro pins s σ H x y v u Q I rx ry ⟨F,dx,dy,k,nx,ny,hc,q⟩
 cases dy with
 | non =>
  have e:k = !decide (x=.non):=by rw [nx.all.isN]; cases dx <;> exact (Option.some.inj hc).symm
  subst e
  exact zoo pins s σ H x y v u Q I rx ry ⟨ny.non,q⟩
 | bl c =>
  have e:k = !decide (x=.bl c):=by rw [nx.all.isB]; cases dx <;> exact (Option.some.inj hc).symm
  subst e
  exact zn2 pins s σ H x y v u Q I rx ry ⟨c,ny.bl,q⟩
 | _=>cases dx <;> cases hc
noncomputable def likeU (K:Frag) (H:Hp) (dx:D) (u:Value):Bool:=@decide (∃ d v,RelV v u∧Rep K Ev H d v∧D.eq d dx=true) (Classical.propDecidable _)
theorem zck (I:Inv X pins σ H s) {dx d:D} {x:V} {u:Value} (r:RelV x u) (h:Rep X.K Ev H d x):likeU X.K H dx u=D.eq d dx:=by
 unfold likeU
 cases e:D.eq d dx with
 | true=>exact @decide_eq_true _ (Classical.propDecidable _) ⟨d,x,r,h,e⟩
 | false =>
  refine @decide_eq_false _ (Classical.propDecidable _) ?_
  rintro ⟨d',x',r',h',e'⟩
  have:=r'.inj r
  subst this
  rw [Rep.inj I h' h,e] at e'
  cases e'
theorem za6 (I:Inv X pins σ H s) {dx:D}:∀ {l:List D} {xs:List V} {its:List Value},Reps X.K Ev H l xs→Vals xs its→its.any (likeU X.K H dx)=memD dx l
 | [],xs,its,r,v=>by
  rw [Reps] at r; subst r; cases v; rfl
 | d::l,xs,its,r,v=>by
  rw [Reps] at r
  obtain ⟨x,xr,rfl,h1,h2⟩:=r
  cases v with
  | cons a b =>
   rw [List.any_cons,zck I a h1,za6 I h2 b]
   rfl
theorem zaq (I:Inv X pins σ H s) {A:Around} {dx:D} {x:V} {u:Value} (hu:A.units+8 < cLine) (hd:dx.deep 8=true) (nx:Rep X.K Ev H dx x) (rx:RelV x u):∀ {l:List D} {xs:List V} {its:List Value},l.all (D.deep 8)=true→Reps X.K Ev H l xs→Vals xs its →
  ∀ w∈its,SeqAt.EqAt A s w u (likeU X.K H dx w)
 | [],xs,its,_,r,v=>by
  rw [Reps] at r; subst r; cases v; intro w hw; cases hw
 | d::l,xs,its,ha,r,v=>by
  rw [Reps] at r
  obtain ⟨y,xr,rfl,h1,h2⟩:=r
  rw [List.all_cons,Bool.and_eq_true] at ha
  cases v with
  | cons a b =>
   intro w hw
   rcases List.mem_cons.mp hw with rfl | hw
   ·rw [zck I a h1]
    exact (zho I 8 (A:=A) hu ha.1 hd h1 nx a rx).1
   ·exact zaq I hu hd nx rx ha.2 h2 b w hw
theorem zpn (hu:X.A.units+64 < cLine):OpR X (compareOp .In) (rCmp X.K .isin):=by
 intro pins s σ H x y v u Q I rx ry ⟨F,dx,dy,k,nx,ny,hc,q⟩
 cases dy with
 | tup l =>
  have hc':(if dx.deep 8&&l.all (D.deep 8) then some (memD dx l) else none)=some k:=by cases dx <;> exact hc
  split at hc'
  ·rename_i hd
   rw [Bool.and_eq_true] at hd
   cases hc'
   obtain ⟨p,xs,rfl,h1,h2⟩:=(by have:=ny.all; rw [Rep] at this; exact this:∃ a xs,y=.ref a∧FT X.K Ev H a xs∧Reps X.K Ev H l xs)
   cases (show u=Value.ref p from ry)
   obtain ⟨its,r,pl,hz⟩:=I.tuple h1.seq
   refine SeqAt.in_tupleAt (likeU X.K H dx) pl (fun w hw=>zaq I (by show X.A.units+1+8 < cLine; lia) hd.1 nx.all rx hd.2 h2 r w (by simpa using hw)) ⟨.bl _,H,I,rfl,?_⟩
   rw [show its.toArray.any (likeU X.K H dx)=its.any (likeU X.K H dx) by simp,za6 I h2 r]
   exact q
  ·cases hc'
 | lst l =>
  have hc':(if dx.deep 8&&l.all (D.deep 8) then some (memD dx l) else none)=some k:=by cases dx <;> exact hc
  split at hc'
  ·rename_i hd
   rw [Bool.and_eq_true] at hd
   cases hc'
   obtain ⟨p,xs,rfl,h1,h2⟩:=(by have:=ny.all; rw [Rep] at this; exact this:∃ a xs,y=.ref a∧FL X.K Ev H a xs∧Reps X.K Ev H l xs)
   cases (show u=Value.ref p from ry)
   obtain ⟨its,r,pl,hz⟩:=I.list h1.seq
   refine SeqAt.in_listAt (likeU X.K H dx) pl.isList (fun w hw=>zaq I (by show X.A.units+1+8 < cLine; lia) hd.1 nx.all rx hd.2 h2 r w (by simpa using hw)) ⟨.bl _,H,I,rfl,?_⟩
   rw [show its.toArray.any (likeU X.K H dx)=its.any (likeU X.K H dx) by simp,za6 I h2 r]
   exact q
  ·cases hc'
 | dic ks vs =>
  have hc':((keyAt dx ks).map fun o=>o.isSome)=some k:=by cases dx <;> exact hc
  obtain ⟨o,h1,h2⟩:=zb hc'
  obtain ⟨a,us,rfl,h3,_⟩:=ny.dic
  cases (show u=Value.ref a from ry)
  exact zp5 (by lia) I h3 nx h1 rx fun s' I'=>⟨.bl _,H,I',rfl,by rw [h2]; exact q⟩
 | _=>cases dx <;> cases hc
theorem zn9 (hu:X.A.units+64 < cLine):OpR X (compareOp .NotIn) (rCmp X.K .notin):=by
 intro pins s σ H x y v u Q I rx ry ⟨F,dx,dy,k,nx,ny,hc,q⟩
 cases dy with
 | tup l =>
  have hc':(if dx.deep 8&&l.all (D.deep 8) then some (!memD dx l) else none)=some k:=by cases dx <;> exact hc
  split at hc'
  ·rename_i hd
   rw [Bool.and_eq_true] at hd
   cases hc'
   obtain ⟨p,xs,rfl,h1,h2⟩:=(by have:=ny.all; rw [Rep] at this; exact this:∃ a xs,y=.ref a∧FT X.K Ev H a xs∧Reps X.K Ev H l xs)
   cases (show u=Value.ref p from ry)
   obtain ⟨its,r,pl,hz⟩:=I.tuple h1.seq
   refine SeqAt.notIn_tupleAt (likeU X.K H dx) pl (fun w hw=>zaq I (by show X.A.units+1+8 < cLine; lia) hd.1 nx.all rx hd.2 h2 r w (by simpa using hw)) ⟨.bl _,H,I,rfl,?_⟩
   rw [show its.toArray.any (likeU X.K H dx)=its.any (likeU X.K H dx) by simp,za6 I h2 r]
   exact q
  ·cases hc'
 | lst l =>
  have hc':(if dx.deep 8&&l.all (D.deep 8) then some (!memD dx l) else none)=some k:=by cases dx <;> exact hc
  split at hc'
  ·rename_i hd
   rw [Bool.and_eq_true] at hd
   cases hc'
   obtain ⟨p,xs,rfl,h1,h2⟩:=(by have:=ny.all; rw [Rep] at this; exact this:∃ a xs,y=.ref a∧FL X.K Ev H a xs∧Reps X.K Ev H l xs)
   cases (show u=Value.ref p from ry)
   obtain ⟨its,r,pl,hz⟩:=I.list h1.seq
   refine SeqAt.notIn_listAt (likeU X.K H dx) pl.isList (fun w hw=>zaq I (by show X.A.units+1+8 < cLine; lia) hd.1 nx.all rx hd.2 h2 r w (by simpa using hw)) ⟨.bl _,H,I,rfl,?_⟩
   rw [show its.toArray.any (likeU X.K H dx)=its.any (likeU X.K H dx) by simp,za6 I h2 r]
   exact q
  ·cases hc'
 | dic ks vs =>
  have hc':((keyAt dx ks).map fun o=>!o.isSome)=some k:=by cases dx <;> exact hc
  obtain ⟨o,h1,h2⟩:=zb hc'
  obtain ⟨a,us,rfl,h3,_⟩:=ny.dic
  cases (show u=Value.ref a from ry)
  exact ziv (by lia) I h3 nx h1 rx fun s' I'=>⟨.bl _,H,I',rfl,by rw [h2]; exact q⟩
 | _=>cases dx <;> cases hc
theorem zm9 (hu:X.A.units+64 < cLine):∀ o:CmpOp,OpR X (compareOp o) (rCmp X.K (cCop o))
 | .Eq=>zp0 hu
 | .NotEq=>zrc hu
 | .Lt=>zqj hu
 | .LtE=>zqv hu
 | .Gt=>zqr
 | .GtE=>zpu
 | .Is=>zpw
 | .IsNot=>znr
 | .In=>zpn hu
 | .NotIn=>zn9 hu
inductive RIxD (K:Frag) (x:V) (y:V) (H:Hp) (Q:VK):Prop
 | mk (F:Fz) (dx:D) (dy:D) (d:D) (f:Fl) (nx:Now K F H dx x) (ny:Now K F H dy y) (hc:index dx dy=some (d,f)) (q:Res K F H d f Q):RIxD K x y H Q
def rIxD (K:Frag):R2:=RIxD K
theorem zg1 (n:Nat) (i:Int) (k:Nat) (h:place n i=some k):ixN n i=some k:=by
 unfold place at h
 unfold ixN
 by_cases h0:0≤i
 ·rw [if_pos h0] at h ⊢
  by_cases h1:i.toNat < n
  ·rw [if_pos h1] at h
   rw [if_pos (by lia)]
   exact h
  ·rw [if_neg h1] at h; cases h
 ·rw [if_neg h0] at h ⊢
  by_cases h1:0≤i+n
  ·rw [if_pos h1] at h
   rw [if_pos (by lia)]
   exact h
  ·rw [if_neg h1] at h; cases h
theorem zpy {K:Frag} {l:List D} {xs:List V} {i:Int} {d:D} {f:Fl} (r:Reps K F H l xs) (h:((place l.length i).bind fun k=>(l[k]?).map fun d=>(d,Fl.solid))=some (d,f)):f=.solid∧∃ v,atI xs i=some v∧Rep K F H d v:=by
 cases e:place l.length i with
 | none=>rw [e] at h; cases h
 | some k =>
  rw [e] at h
  cases e2:l[k]? with
  | none=>rw [Option.bind_some,e2] at h; cases h
  | some d' =>
   rw [Option.bind_some,e2] at h
   cases h
   obtain ⟨v,h1,h2⟩:=r.get e2
   refine ⟨rfl,v,?_,h2⟩
   unfold atI
   rw [← r.length,zg1 _ _ _ e]
   exact h1
theorem zta (hu:X.A.units+64 < cLine):IxR X (rIxD X.K):=by
 intro value slice pins s σ H x y v u Q I rx ry ⟨F,dx,dy,d,f,nx,ny,hc,q⟩ hs
 cases dx with
 | tup l =>
  cases dy <;> first | (cases hc; done) | skip
  rename_i i
  replace hc:((place l.length i).bind fun k=>(l[k]?).map fun d=>(d,Fl.solid))=some (d,f):=hc
  obtain ⟨p,xs,rfl,h1,h2⟩:=nx.tup
  obtain ⟨rfl,w,h3,h4⟩:=zpy h2 hc
  exact zqk value slice pins s σ H _ _ v u Q I rx ry ⟨p,xs,i,w,rfl,ny.int,h1.seq,h3,q.here h4⟩ hs
 | lst l =>
  cases dy <;> first | (cases hc; done) | skip
  rename_i i
  replace hc:((place l.length i).bind fun k=>(l[k]?).map fun d=>(d,Fl.solid))=some (d,f):=hc
  obtain ⟨p,xs,rfl,h1,h2,_⟩:=nx.lst
  obtain ⟨rfl,w,h3,h4⟩:=zpy h2 hc
  exact zox value slice pins s σ H _ _ v u Q I rx ry ⟨p,xs,i,w,rfl,ny.int,h1,h3,q.here h4⟩ hs
 | dic ks vs =>
  have hc':((keyAt dy ks).bind fun o=>o.bind fun j=>(vs[j]?).map fun d=>(d,Fl.solid))=some (d,f):=by cases dy <;> exact hc
  obtain ⟨o,h1,h2⟩:=za hc'
  obtain ⟨j,rfl,h4⟩:=za h2
  obtain ⟨d',h5,h6⟩:=zb h4
  cases h6
  obtain ⟨a,us,rfl,h3,hr⟩:=nx.dic
  cases (show v=Value.ref a from rx)
  obtain ⟨w,hw,rw'⟩:=hr.get h5
  exact znp (h3.typeIs I) hs (zoi (by lia) I h3 ny h1 hw ry fun u' s' I' r'=>⟨w,H,I',r',q.here rw'⟩)
 | _=>cases dy <;> cases hc
def rSlD (K:Frag):V→Option Int→Option Int→Hp→VK→Prop:=fun x lo hi H Q=>∃ F dx d f,(∀ a,F a→H a≠none)∧Now K F H dx x∧slice dx lo hi=some (d,f)∧Res K F H d f Q
theorem zm3 (n d:Nat) (o:Option Int):six n d o=HT.sIx n d o:=by cases o <;> rfl
theorem zld {K:Frag} {l:List D} {xs:List V} {lo hi:Option Int} (r:Reps K F H l xs):Reps K F H (cutL l lo hi) (cutV xs lo hi):=by
 unfold cutL cutV
 rw [r.length,zm3,zm3]
 exact (r.drop _).take _
theorem zs9:SlR X (rSlD X.K):=by
 intro pins s σ H x v vl vu lo hi sl Q I rx hs pl pu ⟨F,dx,d,f,dom,nx,hc,q⟩
 cases dx with
 | lst l =>
  cases hc
  obtain ⟨p,xs,rfl,h1,h2,_⟩:=nx.lst
  exact zn5 pins s σ H _ v vl vu lo hi sl Q I rx hs pl pu ⟨p,xs,rfl,h1,q.lst dom (zld h2)⟩
 | _=>simp [slice] at hc
def tyS:Ty→String
 | .int=>"int" | .bool=>"bool" | .str=>"str" | .tuple=>"tuple" | .list=>"list"
def kindS:D→String
 | .non=>"NoneType" | .bl _=>"bool" | .int _=>"int" | .str _=>"str" | .tup _=>"tuple" | .lst _=>"list" | .dic _ _=>"dict"
theorem zsi (K:Frag) (d:D) (t:Ty):PySem.W.kitOne K (.type (kindS d)) (.type (tyS t))=some (isTy t d):=by
 cases d <;> cases t <;> rfl
theorem zsj {d:D} {x:V} (h:Now X.K F H d x):TyV X.K H x (kindS d):=by
 cases d with
 | tup l=>obtain ⟨a,xs,rfl,h1,_⟩:=h.tup; exact .tup h1.seq
 | lst l=>obtain ⟨a,xs,rfl,h1,_⟩:=h.lst; exact .lst h1
 | dic ks vs=>obtain ⟨a,us,rfl,h1,_⟩:=h.dic; exact .dic (h1.imp (fun ⟨_,_,_,_,h⟩=>⟨_,h⟩) fun ⟨_,_,_,_,h⟩=>⟨_,h⟩)
 | non=>rw [h.non]; exact .non
 | bl b=>rw [h.bl]; exact .bl b
 | int b=>rw [h.int]; exact .int b
 | str b=>rw [h.str]; exact .str b
theorem zpz {d:D} {x:V} {k:Bool} (h:Now X.K F H d x) (e:tru d=some k):TruV X.K x H k:=by
 cases d with
 | tup l =>
  obtain ⟨a,xs,rfl,h1,h2⟩:=h.tup
  cases e
  refine .inr (.inl ⟨xs,h1.seq,?_⟩)
  have:=h2.length
  cases l <;> cases xs <;> simp_all [D.truthy]
 | lst l =>
  obtain ⟨a,xs,rfl,h1,h2,_⟩:=h.lst
  cases e
  refine .inl ⟨xs,h1,?_⟩
  have:=h2.length
  cases l <;> cases xs <;> simp_all [D.truthy]
 | dic ks vs=>cases e
 | non=>rw [h.non]; cases e; rfl
 | bl b=>rw [h.bl]; cases e; rfl
 | int b=>rw [h.int]; cases e; rfl
 | str b =>
  rw [h.str]
  simp only [tru] at e
  split at e
  ·rename_i hz
   cases e
   refine ⟨Nat.le_trans hz (by decide),?_⟩
   rw [Bool.eq_iff_iff]; simp
  ·cases e
inductive RBiD (K:Frag) (b:Bi) (xs:List V) (H:Hp) (Q:VK):Prop
 | mk (x:V) (F:Fz) (dx:D) (d:D) (f:Fl) (e:xs=[x]) (dom:∀ a,F a→H a≠none) (nx:Now K F H dx x) (hb:bltin b dx=some (d,f)) (q:Res K F H d f Q):RBiD K b xs H Q
def rBiD (K:Frag) (b:Bi):List V→Hp→VK→Prop:=RBiD K b
theorem zpr:CallR X (.builtin "len") (rBiD X.K .len):=by
 intro pins s σ H xs us Q I r ⟨x,F,dx,d,f,e,dom,nx,hc,q⟩
 subst e
 cases dx with
 | tup l =>
  obtain ⟨a,ys,rfl,h1,h2⟩:=nx.tup
  cases hc
  exact zcd pins s σ H _ us Q I r ⟨a,ys,rfl,.inr h1.seq,by rw [← h2.length]; exact q.here zr⟩
 | lst l =>
  obtain ⟨a,ys,rfl,h1,h2,_⟩:=nx.lst
  cases hc
  exact zcd pins s σ H _ us Q I r ⟨a,ys,rfl,.inl h1,by rw [← h2.length]; exact q.here zr⟩
 | str z =>
  replace hc:(if z.length≤big then some (D.int z.length,Fl.solid) else none)=some (d,f):=hc
  split at hc
  ·rename_i hz
   cases hc
   rw [nx.str] at r
   exact zej pins s σ H _ us Q I r ⟨z,rfl,zhk hz,q.here zr⟩
  ·cases hc
 | _=>cases hc
theorem zff:∀ {l:List D} {xs:List V},l.all isBl=true→Reps X.K F H l xs→∃ ks:List Bool,xs=ks.map V.bl∧l.any D.truthy=ks.any id
 | [],xs,_,r=>by rw [Reps] at r; exact ⟨[],r,rfl⟩
 | d::l,xs,h,r=>by
  rw [Reps] at r
  obtain ⟨v,w,rfl,h1,h2⟩:=r
  rw [List.all_cons,Bool.and_eq_true] at h
  obtain ⟨ks,e1,e2⟩:=zff h.2 h2
  cases d with
  | bl b =>
   rw [Rep] at h1
   subst h1
   exact ⟨b::ks,by rw [e1]; rfl,by rw [List.any_cons,List.any_cons,e2]; rfl⟩
  | _=>cases h.1
theorem zom (hc:X.calm=true):CallR X (.builtin "any") (rBiD X.K .any):=by
 intro pins s σ H xs us Q I r ⟨x,F,dx,d,f,e,dom,nx,hb,q⟩
 subst e
 cases dx with
 | lst l =>
  replace hb:(if l.all isBl then some (D.bl (l.any D.truthy),Fl.solid) else none)=some (d,f):=hb
  split at hb
  ·rename_i hl
   cases hb
   obtain ⟨a,ys,rfl,h1,h2,_⟩:=nx.lst
   obtain ⟨ks,e1,e2⟩:=zff hl h2
   subst e1
   exact zmm pins s σ H _ us Q I r ⟨a,ks,rfl,h1,hc,by rw [← e2]; exact q.here zmz⟩
  ·cases hb
 | _=>cases hb
theorem zlh:CallR X (.type "tuple") (rBiD X.K .tuple):=by
 intro pins s σ H xs us Q I r ⟨x,F,dx,d,f,e,dom,nx,hb,q⟩
 subst e
 cases dx with
 | tup l =>
  obtain ⟨a,ys,rfl,h1,h2⟩:=nx.tup
  cases hb
  exact zby pins s σ H _ us Q I r ⟨a,ys,rfl,.inr ⟨h1.seq,q.here (by rw [Rep]; exact ⟨a,ys,rfl,h1,h2⟩)⟩⟩
 | lst l =>
  obtain ⟨a,ys,rfl,h1,h2,_⟩:=nx.lst
  cases hb
  exact zby pins s σ H _ us Q I r ⟨a,ys,rfl,.inl ⟨h1,q.tup h2⟩⟩
 | _=>cases hb
theorem zo2:CallR X (.type "list") (rBiD X.K .list):=by
 intro pins s σ H xs us Q I r ⟨x,F,dx,d,f,e,dom,nx,hb,q⟩
 subst e
 cases dx with
 | tup l =>
  obtain ⟨a,ys,rfl,h1,h2⟩:=nx.tup
  cases hb
  exact zcb pins s σ H _ us Q I r ⟨a,ys,rfl,.inr h1.seq,q.lst dom h2⟩
 | lst l =>
  obtain ⟨a,ys,rfl,h1,h2,_⟩:=nx.lst
  cases hb
  exact zcb pins s σ H _ us Q I r ⟨a,ys,rfl,.inl h1,q.lst dom h2⟩
 | _=>cases hb
theorem zbb:∀ ns:List Int,Reps X.K F H (ns.map .int) (ns.map V.int)
 | []=>.nil
 | _::r=>.cons zr (zbb r)
theorem zfe:∀ {l:List D} {nss:List (List Int)} {ys:List V},tups? l=some nss→Reps X.K F H l ys→l=nss.map tupI∧ys.length=nss.length∧∀ i,i < ys.length→nss.getD i []≠[]∧∃ a,ys.getD i .non=.ref a∧SqT X.K H a ((nss.getD i []).map V.int)
 | [],nss,ys,h,r=>by
  rw [Reps] at r
  subst r
  cases h
  exact ⟨rfl,rfl,fun i hi=>by simp at hi⟩
 | .tup l::r,nss,ys,h,hr=>by
  rw [Reps] at hr
  obtain ⟨v,vs,rfl,h1,h2⟩:=hr
  rw [Rep] at h1
  obtain ⟨a,xs,rfl,ht,hx⟩:=h1
  unfold tups? at h
  split at h
  ·rename_i x ns hi
   cases hq:tups? r with
   | none=>rw [hq] at h; cases h
   | some nss' =>
    rw [hq] at h
    cases h
    obtain ⟨e1,e2,e3⟩:=zfe hq h2
    have e:=zab (X:=X) hi hx
    have el:=zci hi
    subst e
    refine ⟨by rw [e1,el]; rfl,by simp [e2],fun i hi=>?_⟩
    cases i with
    | zero=>exact ⟨by simp,a,rfl,ht.seq⟩
    | succ i =>
     have:=e3 i (by simpa using hi)
     simpa using this
  ·cases h
 | .non::_,_,_,h,_=>by simp [tups?] at h
 | .bl _::_,_,_,h,_=>by simp [tups?] at h
 | .int _::_,_,_,h,_=>by simp [tups?] at h
 | .str _::_,_,_,h,_=>by simp [tups?] at h
 | .lst _::_,_,_,h,_=>by simp [tups?] at h
 | .dic _ _::_,_,_,h,_=>by simp [tups?] at h
theorem zgb:∀ {l:List D} {ys:List V} {i:Nat} {d:D},Reps X.K F H l ys→l[i]? = some d→Rep X.K F H d (ys.getD i .non)
 | [],_,_,_,_,h=>by simp at h
 | d::ds,ys,i,x,r,h=>by
  rw [Reps] at r
  obtain ⟨v,vs,rfl,h1,h2⟩:=r
  cases i with
  | zero=>simp at h; subst h; exact h1
  | succ i =>
   have:=zgb h2 (by simpa using h)
   simpa using this
theorem zfj {nss:List (List Int)} {ys:List V} (r:Reps X.K F H (nss.map tupI) ys):∀ {pp:List Nat},(∀ i∈pp,i < nss.length)→Reps X.K F H ((pp.map fun i=>nss.getD i []).map tupI) (pp.map fun i=>ys.getD i .non)
 | [],_=>by rw [List.map_nil,List.map_nil,List.map_nil,Reps]
 | i::pp,h=>by
  rw [List.map_cons,List.map_cons,List.map_cons,Reps]
  have hi:=h i List.mem_cons_self
  refine ⟨_,_,rfl,zgb r ?_,zfj r fun j hj=>h j (List.mem_cons_of_mem _ hj)⟩
  rw [List.getElem?_map,List.getElem?_eq_getElem hi,List.getD_eq_getElem?_getD,List.getElem?_eq_getElem hi]; rfl
theorem zeo:∀ {l:List D} {nss:List (List Int)} {ys:List V},lsts? l=some nss→Reps X.K F H l ys→l=nss.map lstI∧ys.length=nss.length∧∀ i,i < ys.length→∃ a,ys.getD i .non=.ref a∧SqL X.K H a ((nss.getD i []).map V.int)
 | [],nss,ys,h,r=>by
  rw [Reps] at r
  subst r
  cases h
  exact ⟨rfl,rfl,fun i hi=>by simp at hi⟩
 | .lst l::r,nss,ys,h,hr=>by
  rw [Reps] at hr
  obtain ⟨v,vs,rfl,h1,h2⟩:=hr
  rw [Rep] at h1
  obtain ⟨a,xs,rfl,ht,hx⟩:=h1
  unfold lsts? at h
  obtain ⟨ns,hi,h⟩:=za h
  obtain ⟨nss',hq,rfl⟩:=zb h
  obtain ⟨e1,e2,e3⟩:=zeo hq h2
  have e:=zab (X:=X) hi hx
  have el:=zci hi
  subst e
  refine ⟨by rw [e1,el]; rfl,by simp [e2],fun i hi=>?_⟩
  cases i with
  | zero=>exact ⟨a,rfl,ht.seq⟩
  | succ i =>
   have:=e3 i (by simpa using hi)
   simpa using this
 | .non::_,_,_,h,_=>by simp [lsts?] at h
 | .bl _::_,_,_,h,_=>by simp [lsts?] at h
 | .int _::_,_,_,h,_=>by simp [lsts?] at h
 | .str _::_,_,_,h,_=>by simp [lsts?] at h
 | .tup _::_,_,_,h,_=>by simp [lsts?] at h
 | .dic _ _::_,_,_,h,_=>by simp [lsts?] at h
theorem zdr {nss:List (List Int)} {ys:List V} (r:Reps X.K F H (nss.map lstI) ys):∀ {pp:List Nat},(∀ i∈pp,i < nss.length)→Reps X.K F H ((pp.map fun i=>nss.getD i []).map lstI) (pp.map fun i=>ys.getD i .non)
 | [],_=>by rw [List.map_nil,List.map_nil,List.map_nil,Reps]
 | i::pp,h=>by
  rw [List.map_cons,List.map_cons,List.map_cons,Reps]
  have hi:=h i List.mem_cons_self
  refine ⟨_,_,rfl,zgb r ?_,zdr r fun j hj=>h j (List.mem_cons_of_mem _ hj)⟩
  rw [List.getElem?_map,List.getElem?_eq_getElem hi,List.getD_eq_getElem?_getD,List.getElem?_eq_getElem hi]; rfl
theorem zkl (hc:X.calm=true) (hu:X.A.units+64 < cLine):CallR X (.builtin "sorted") (rBiD X.K .sorted):=by
 intro pins s σ H xs us Q I r ⟨x,F,dx,d,f,e,dom,nx,hb,q⟩
 subst e
 have key:∀ (l:List D) (a:Addr) (ys:List V),x=.ref a→(SqL X.K H a ys∨SqT X.K H a ys)→Reps X.K F H l ys→sortO l=some (d,f)→wpAny (model X.prog X.w) X.A (call (.builtin "sorted") us) (EP X pins σ Q) X.xe s:=fun l a ys ex hs hr hb=>by
  subst ex
  unfold sortO at hb
  cases hi:ints? l with
  | none =>
   rw [hi] at hb
   simp only at hb
   cases ht:tups? l with
   | none =>
    rw [ht] at hb
    simp only at hb
    obtain ⟨nss,hls,hb1⟩:=za hb
    split at hb1
    ·rename_i hl
     cases hb1
     obtain ⟨e1,e2,e3⟩:=zeo (X:=X) hls hr
     subst e1
     refine zeg hu pins s σ H _ us Q I r ⟨a,ys,nss,rfl,hs,e2,e3,by rw [e2]; exact hl,fun pp l' hp hf=>?_⟩
     have hin:∀ i∈pp,i < nss.length:=fun i hi=>by simpa using hp.pm.mem_iff.mp hi
     have:=zdr hr hin
     rw [zb8 hp] at this
     exact q.lst dom this l' hf
    ·cases hb1
   | some nss =>
   rw [ht] at hb
   simp only at hb
   split at hb
   ·rename_i hl
    cases hb
    obtain ⟨e1,e2,e3⟩:=zfe (X:=X) ht hr
    subst e1
    refine zem pins s σ H _ us Q I r ⟨a,ys,nss,rfl,hs,e2,e3,by rw [e2]; exact hl,fun pp l' hp hf=>?_⟩
    have hin:∀ i∈pp,i < nss.length:=fun i hi=>by simpa using hp.pm.mem_iff.mp hi
    have:=zfj hr hin
    rw [zb8 hp] at this
    exact q.lst dom this l' hf
   ·cases hb
  | some ns =>
   rw [hi] at hb
   simp only at hb
   split at hb
   ·rename_i hl
    cases hb
    have e:=zab (X:=X) hi hr
    subst e
    exact zfd pins s σ H _ us Q I r ⟨a,ns,rfl,hs,hl,q.lst dom (zbb _)⟩
   ·cases hb
 cases dx with
 | tup l=>obtain ⟨a,ys,e,h1,h2⟩:=nx.tup; exact key l a ys e (.inr h1.seq) h2 hb
 | lst l=>obtain ⟨a,ys,e,h1,h2,_⟩:=nx.lst; exact key l a ys e (.inl h1) h2 hb
 | dic ks vs =>
  have hb:(if ks.isEmpty then none else sortK ks)=some (d,f):=hb
  split at hb
  ·cases hb
  rename_i hne
  obtain ⟨a,ys,rfl,h1,h2⟩:=nx.dic
  unfold sortK at hb
  rcases h1 with ⟨ns,rfl,hn,hl,e⟩ | ⟨nss,rfl,hn,hl,e⟩
  ·rw [zb6] at hb
   simp only at hb
   unfold sortO at hb
   rw [zb6] at hb
   simp only at hb
   split at hb
   ·rename_i hlt
    cases hb
    exact zfi hc pins s σ H _ us Q I r ⟨a,ns,ys,rfl,e,hl,hlt,q.lst dom (zbb _)⟩
   ·cases hb
  ·have hi:ints? (nss.map tupI)=none:=by
    cases nss with
    | nil=>exact absurd rfl hne
    | cons n nss=>simp [tupI,ints?]
   rw [hi] at hb
   cases hb
 | _=>cases hb
theorem zns (hc:X.calm=true):CallR X (.builtin "sum") (rBiD X.K .sum):=by
 intro pins s σ H xs us Q I r ⟨x,F,dx,d,f,e,dom,nx,hb,q⟩
 subst e
 cases dx with
 | lst l =>
  obtain ⟨a,ys,rfl,h1,h2,_⟩:=nx.lst
  have hb:(ints? l).bind (fun ns=>if decide (ns.length≤4000)&&ns.all (fun n=>decide (-4000≤n)&&decide (n≤4000)) then some (D.int (sumI ns),Fl.solid) else none)=some (d,f):=hb
  obtain ⟨ns,hi,hb⟩:=za hb
  split at hb
  ·rename_i hc'
   cases hb
   rw [Bool.and_eq_true,decide_eq_true_eq,List.all_eq_true] at hc'
   have e:=zab (X:=X) hi h2
   subst e
   exact zkn hc pins s σ H _ us Q I r ⟨a,ns,rfl,h1,hc'.1,fun n hn=>by simpa using hc'.2 n hn,q.here zr⟩
  ·cases hb
 | _=>cases hb
theorem zcu:∀ {l:List D} {nss:List (List Int)} {ys:List V} {F:Fz} {H:Hp},tups? l=some nss→Reps X.K F H l ys→∃ ks:List (List Int×Addr),ks.map (·.1)=nss∧ys=ks.map (fun q=>V.ref q.2)∧∀ q∈ks,H q.2=some (.tup (q.1.map V.int))∧q.1≠[]
 | [],nss,ys,F,H,h,r=>by
  rw [Reps] at r
  subst r
  cases h
  exact ⟨[],rfl,rfl,fun q hq=>by cases hq⟩
 | d::l,nss,ys,F,H,h,r=>by
  rw [Reps] at r
  obtain ⟨v,r',rfl,h1,h2⟩:=r
  cases d with
  | tup m =>
   unfold tups? at h
   split at h
   ·rename_i x ns hi
    obtain ⟨ms,hm,rfl⟩:=zb h
    obtain ⟨ks,k1,k2,k3⟩:=zcu hm h2
    rw [Rep] at h1
    obtain ⟨a,xs,rfl,t1,t2⟩:=h1
    have e:=zab (X:=X) hi t2
    subst e
    refine ⟨(x::ns,a)::ks,by rw [List.map_cons,k1],by rw [List.map_cons,k2],fun q hq=>?_⟩
    rcases List.mem_cons.mp hq with rfl | hq
    ·exact ⟨t1,by simp⟩
    ·exact k3 q hq
   ·cases h
  | _=>cases h
theorem zk8 (ks:List (List Int×Addr)):(HT.nubK ks).map (·.1)=nubT (ks.map (·.1)):=by
 have step:∀ (l:List (List Int×Addr)) (σ:List (List Int×Addr)),(l.foldl HT.addK σ).map (·.1)=(l.map (·.1)).foldl (fun σ v=>if σ.any (· == v) then σ else σ++[v]) (σ.map (·.1)):=fun l=>by
  induction l with
  | nil=>intro σ; rfl
  | cons q l ih =>
   intro σ
   rw [List.foldl_cons,ih,List.map_cons,List.foldl_cons]
   congr 1
   unfold HT.addK
   have e:(σ.map (·.1)).any (· == q.1)=σ.any (·.1==q.1):=by rw [List.any_map]; rfl
   rw [e]
   split
   ·rfl
   ·rw [List.map_append]; rfl
 exact step ks []
theorem zpg (nss:List (List Int)):(nubT nss).length≤nss.length:=by
 have step:∀ (l σ:List (List Int)),(l.foldl (fun σ v=>if σ.any (· == v) then σ else σ++[v]) σ).length≤σ.length+l.length:=fun l=>by
  induction l with
  | nil=>intro σ; simp
  | cons x l ih =>
   intro σ
   rw [List.foldl_cons]
   refine Nat.le_trans (ih _) ?_
   split <;> simp only [List.length_append,List.length_cons,List.length_nil] <;> lia
 have:=step nss []
 simpa [nubT] using this
theorem znq (hu:X.A.units+64 < cLine) (hc:X.calm=true):CallR X (.builtin "min") (rBiD X.K .min1):=by
 intro pins s σ H xs us Q I r ⟨x,F,dx,d,f,e,dom,nx,hb,q⟩
 subst e
 have key:∀ (l:List D) (a:Addr) (ys:List V),x=.ref a→(SqL X.K H a ys∨SqT X.K H a ys)→Reps X.K F H l ys→minO l=some (d,f)→wpAny (model X.prog X.w) X.A (call (.builtin "min") us) (EP X pins σ Q) X.xe s:=fun l a ys ex hs hr hb=>by
  subst ex
  unfold minO at hb
  cases hi:ints? l with
  | none=>rw [hi] at hb; cases hb
  | some ns =>
   rw [hi,Option.bind_some] at hb
   cases ns with
   | nil=>cases hb
   | cons n0 nr =>
    cases hb
    have e:=zab (X:=X) hi hr
    subst e
    exact zjv hc pins s σ H _ us Q I r ⟨a,n0::nr,rfl,hs,by simp,q.here zr⟩
 cases dx with
 | tup l =>
  obtain ⟨a,ys,e,h1,h2⟩:=nx.tup
  have hb:minP l=some (d,f):=hb
  unfold minP at hb
  obtain ⟨nss,ht,hb⟩:=za hb
  cases nss with
  | nil=>cases hb
  | cons n0 nr =>
   cases hb
   subst e
   obtain ⟨ks,k1,k2,k3⟩:=zcu (X:=X) ht h2
   subst k2
   cases ks with
   | nil=>cases k1
   | cons x0 kr =>
    refine zks (by lia) hc pins s σ H _ us Q I r ⟨a,x0,kr,rfl,h1.seq,fun q' hq=>.inl (.inl (k3 q' hq).1),q.here ?_⟩
    have hm:kr.foldl HT.lesser x0∈x0::kr:=HT.zdn List.mem_cons_self fun q' hq=>List.mem_cons_of_mem _ hq
    have he:(kr.foldl HT.lesser x0).1=minT (n0::nr):=by
     have step:∀ (l:List (List Int×Addr)) (b:List Int×Addr),(l.foldl HT.lesser b).1=(l.map (·.1)).foldl (fun a b=>if PY.lexLt b a then b else a) b.1:=fun l=>by
      induction l with
      | nil=>intro b; rfl
      | cons y l ih =>
       intro b
       rw [List.foldl_cons,ih,List.map_cons,List.foldl_cons]
       congr 1
       unfold HT.lesser
       rw [zeb]
       split <;> rfl
     rw [List.map_cons] at k1
     injection k1 with k1 k1'
     rw [step,k1,k1']
     rfl
    rw [← he]
    unfold tupI
    rw [Rep]
    refine ⟨_,_,rfl,(k3 _ hm).1,?_⟩
    have:∀ ns:List Int,Reps X.K F H (ns.map D.int) (ns.map V.int):=fun ns=>by
     induction ns with
     | nil=>exact .nil
     | cons n ns ih=>exact .cons zr ih
    exact this _
 | lst l=>obtain ⟨a,ys,e,h1,h2,_⟩:=nx.lst; exact key l a ys e (.inl h1) h2 hb
 | _=>cases hb
inductive RB2D (K:Frag) (o:B2) (xs:List V) (H:Hp) (Q:VK):Prop
 | mk (x:V) (y:V) (F:Fz) (dx:D) (dy:D) (d:D) (f:Fl) (e:xs=[x,y]) (nx:Now K F H dx x) (ny:Now K F H dy y) (hb:bltin2 o dx dy=some (d,f)) (q:Res K F H d f Q):RB2D K o xs H Q
def isT:D→Bool
 | .tup _=>true
 | _=>false
def rWhere (K:Frag) (k:Bool):V→List V→Hp→VK→Prop:=fun x vs H Q=>∃ y F dx dy d f,vs=[y]∧isT dx=k∧Now K F H dx x∧Now K F H dy y∧whereD dx dy=some (d,f)∧Res K F H d f Q
theorem zmk (hu:X.A.units+64 < cLine):MtR X "list.index" (rWhere X.K false):=by
 intro pins s σ H x vs v us Q I rx rv ⟨y,F,dx,dy,d,f,e,ek,nx,ny,hb,q⟩
 subst e
 obtain ⟨u,rfl,ru⟩:=rv.one
 cases dx with
 | lst l =>
  simp only [whereD] at hb
  split at hb
  ·rename_i hd
   simp only [Bool.and_eq_true,decide_eq_true_eq] at hd
   obtain ⟨⟨d1,d2⟩,d3⟩:=hd
   obtain ⟨j,hj,hb⟩:=Option.map_eq_some_iff.mp hb
   cases hb
   obtain ⟨p,xs,rfl,h1,h2⟩:=(by have:=nx.all; rw [Rep] at this; exact this:∃ a xs,x=.ref a∧FL X.K Ev H a xs∧Reps X.K Ev H l xs)
   cases (show v=Value.ref p from rx)
   obtain ⟨its,r,pl,hz⟩:=I.list h1.seq
   obtain ⟨jl,j1,j2⟩:=List.findIdx?_eq_some_iff_getElem.mp hj
   have lk:∀ (m:Nat) (hm:m < its.toArray.size),∃ (hl:m < l.length),likeU X.K H dy its.toArray[m]=D.eq l[m] dy:=fun m hm=>by
    have hl:m < l.length:=by rw [h2.length,r.length]; simpa using hm
    obtain ⟨z,e1,q1⟩:=h2.get (i:=m) (d:=l[m]) (by simp [hl])
    obtain ⟨w1,e3,q3⟩:=r.get e1
    have a1:its.toArray[m]=w1:=by
     have hj:m < its.length:=by simpa using hm
     rw [List.getElem?_eq_getElem hj] at e3
     simpa using Option.some.inj e3
    exact ⟨hl,by rw [a1,zck I q3 q1]⟩
   have hsz:its.toArray.size=l.length:=by rw [List.size_toArray,← r.length,← h2.length]
   have b4:big=4000:=rfl
   obtain ⟨o,n,ho,hc,hdd,hd⟩:=id pl
   obtain ⟨oc,od,odt,osl⟩:=o
   simp only at hc hdd hd
   subst hc hdd hd
   refine call_meets PySem.F.slot_list_index ⟨_,ho,rfl⟩ PySem.F.entry_list_index (PySem.F.args_list_index_2 _ _) (SeqAt.list_indexAt p its.toArray n none osl u (likeU X.K H dy) j (by rw [hsz]; exact jl) (by lia) ?_ ?_) ⟨ho,fun w hw=>zaq I (by show X.A.units+1+8 < cLine; lia) d1 ny.all ru d2 h2 r w (by simpa using hw),.int j,H,I.tok _,⟨_,rfl⟩,q.here zr⟩
   ·obtain ⟨_,e⟩:=lk j (by rw [hsz]; exact jl)
    rw [e]; exact j1
   ·intro m hm hlt
    obtain ⟨hl,e⟩:=lk m hm
    rw [e]
    simpa using j2 m hlt
  ·cases hb
 | tup l=>cases ek
 | _=>cases dy <;> simp [whereD] at hb
theorem zjc (hu:X.A.units+64 < cLine):MtR X "tuple.index" (rWhere X.K true):=by
 intro pins s σ H x vs v us Q I rx rv ⟨y,F,dx,dy,d,f,e,ek,nx,ny,hb,q⟩
 subst e
 obtain ⟨u,rfl,ru⟩:=rv.one
 cases dx with
 | tup l =>
  simp only [whereD] at hb
  split at hb
  ·rename_i hd
   simp only [Bool.and_eq_true,decide_eq_true_eq] at hd
   obtain ⟨⟨d1,d2⟩,d3⟩:=hd
   obtain ⟨j,hj,hb⟩:=Option.map_eq_some_iff.mp hb
   cases hb
   obtain ⟨p,xs,rfl,h1,h2⟩:=(by have:=nx.all; rw [Rep] at this; exact this:∃ a xs,x=.ref a∧FT X.K Ev H a xs∧Reps X.K Ev H l xs)
   cases (show v=Value.ref p from rx)
   obtain ⟨its,r,pl,hz⟩:=I.tuple h1.seq
   obtain ⟨jl,j1,j2⟩:=List.findIdx?_eq_some_iff_getElem.mp hj
   have lk:∀ (m:Nat) (hm:m < its.toArray.size),∃ (hl:m < l.length),likeU X.K H dy its.toArray[m]=D.eq l[m] dy:=fun m hm=>by
    have hl:m < l.length:=by rw [h2.length,r.length]; simpa using hm
    obtain ⟨z,e1,q1⟩:=h2.get (i:=m) (d:=l[m]) (by simp [hl])
    obtain ⟨w1,e3,q3⟩:=r.get e1
    have a1:its.toArray[m]=w1:=by
     have hj:m < its.length:=by simpa using hm
     rw [List.getElem?_eq_getElem hj] at e3
     simpa using Option.some.inj e3
    exact ⟨hl,by rw [a1,zck I q3 q1]⟩
   have hsz:its.toArray.size=l.length:=by rw [List.size_toArray,← r.length,← h2.length]
   have b4:big=4000:=rfl
   refine HT.zky (e:=likeU X.K H dy) (j:=j) pl (by rw [hsz]; exact jl) ?_ ?_ (fun w hw=>zaq I (by show X.A.units+1+8 < cLine; lia) d1 ny.all ru d2 h2 r w (by simpa using hw)) ⟨.int j,H,I.tok _,⟨_,rfl⟩,q.here zr⟩
   ·obtain ⟨_,e⟩:=lk j (by rw [hsz]; exact jl)
    rw [e]; exact j1
   ·intro m hm hlt
    obtain ⟨hl,e⟩:=lk m hm
    rw [e]
    simpa using j2 m hlt
  ·cases hb
 | _=>cases ek
end
end SD
namespace L2
open PySem PySem.Spec PyProof.Rows
section
variable {X:Cx} {pins pins':List (Addr×Obj)} {σ:List (Option V)} {H:Hp} {s:Shared}
theorem Inv.sub (I:Inv X pins σ H s) (h:∀ p∈pins',p∈pins):Inv X pins' σ H s:=I.pins_of fun p hp=>I.pin p (List.mem_append_right _ (h p hp))
end
section
variable {prog:Program} {w:World} {A:Around} {R:Result→Shared→Prop} {s:Shared}
end
structure LamScope (X:Cx) (N':List Str) (y:Str) (keep:List Nat) (scope:Scope):Prop where
 kind:scope.kind=.function
 co:scope.isCoroutine=false
 gen:scope.isGenerator=false
 cell:∀ p∈scope.names,p.2≠.cell
 look:∀ p∈scope.names,scope.names.lookup p.1=some p.2
 fr:∀ x,(x,NameKind.free)∈scope.names→X.env.kindOf x=some .cell∨X.env.kindOf x=some .free
 loc:scope.names.lookup y=some .local
 hd:N'[0]? = some y
 len:N'.length=1+keep.length
 cap:∀ (k:Nat) (x:Str),N'[1+k]? = some x→(x,NameKind.free)∈scope.names∧∃ j,keep[k]? = some j∧X.N[j]? = some x
inductive Made (P:Addr) (ps:Array Value) (pos:Pos) (H:Hp) (c':Addr) (oc:Obj):Hp→Prop
 | hit:codeAmong pos ps.toList=some (.ref c')→H c'=some (.frz oc (.own 0))→Made P ps pos H c' oc H
 | new:codeAmong pos ps.toList=none→H c'=none→c'≠P→Made P ps pos H c' oc (upd (upd H P (.tbl (ps++#[rawInt pos.line,rawInt pos.col,.ref c']))) c' (.frz oc (.own 0)))
end L2
namespace L2
open PySem PySem.Spec PyProof.Rows
section
variable {X:Cx} {pins:List (Addr×Obj)} {σ:St} {l f It S:Addr} {xs:List V} {te:V→Hp→VK→Prop} {ok:Hp→Prop} {Q:VK}
end
end L2
namespace SD
open PySem PySem.Spec PyProof.Rows L2 PY
def cnV:Cn→V
 | .non=>.non | .bl b=>.bl b | .int i=>.int i | .str x=>.str x
def spD (K:Frag) (ds:List D) (d:D):Sp:=fun vs H Q _=>∃ F,(∀ a,F a→H a≠none)∧Tabs K H∧Reps K F H ds vs∧∀ v F' H',Grow F H F' H'→Rep K F' H' d v→Q v H'
structure Tops (cf:Cfg) (cl:Cl) (X:Cx):Prop where
 fn:∀ (f:Nat) x ds d,cf.fns[f]? = some x →
  cl f ds=some d→∃ k fa fd ps,FnOk X.prog X.w X.K X.mg X.base CX0 k fa fd ps (spD X.K ds d)∧Room k X.A∧X.mg x=some (.ref fa)∧keepIn X.K (.ref fa)=true∧Binds X.K fd ps []
 bl:∀ x,cf.bls.contains x=true→X.mg x=none
 con:∀ x c,cf.cons.lookup x=some c→∃ u,X.mg x=some u∧RelV (cnV c) u
 un:X.A.units+64 < cLine
def LamC (cf:Cfg) (cl:Cl) (X:Cx):Prop:=∃ c P,X.env.code=.ref c∧(∃ x∈lamNames,PySem.W.tabIn X.K x=some (c,P))∧PySem.W.CodeHd X.base c P∧X.base.BuiltinsAt X.mg P∧mainGlobals≠P∧∃ k,Room (k+3) X.A ∧
 ∀ (f:Nat) x ds d,cf.fns[f]? = some x →
  cl f ds=some d→∃ fa fd ps,FnOk X.prog X.w X.K X.mg X.base CX0 k fa fd ps (spD X.K ds d)∧X.mg x=some (.ref fa)∧keepIn X.K (.ref fa)=true∧Binds X.K fd ps []
structure Ctx (cf:Cfg) (cl:Cl) (sc:Scope) (N:List Str) (X:Cx):Prop where
 hN:X.N=N
 nd:N.Nodup
 calm:X.calm=true
 xe:X.xe=NoE
 vis:∀ x,seen sc x=true→Vis X.env.scope x
 glo:∀ x,gl sc x=true→Gl X x
 cap:∀ x,capt sc x=true→X.env.kindOf x=some .cell∨X.env.kindOf x=some .free
 loc:∀ x,isLocal sc x=true→X.env.scope.names.lookup x=some .local
 top:Tops cf cl X
 lam:cf.here=true→sc.names.any (fun p=>p.2 == .cell)=true→LamC cf cl X
theorem za0 {N:List Str} {x:Str} {i:Nat} (h:idx N x=some i):N[i]? = some x:=by
 unfold idx at h
 obtain ⟨h1,h2,_⟩:=List.findIdx?_eq_some_iff_getElem.mp h
 rw [List.getElem?_eq_getElem h1]
 exact congrArg some (beq_iff_eq.mp h2)
theorem zf {α:Type} {b:Bool} {o:Option α} {a:α} (h:guard' b o=some a):b=true∧o=some a:=by
 unfold guard' at h
 split at h
 ·exact ⟨by assumption,h⟩
 ·cases h
theorem zbl {x:Str} (h:nice x=true):(x==("__debug__" : Str))=false∧(x==("__classdict__" : Str))=false∧x≠"__name__":=by
 unfold nice at h
 rw [Bool.and_eq_true,Bool.and_eq_true,Bool.not_eq_true',Bool.not_eq_true',Bool.not_eq_true'] at h
 exact ⟨h.1.1,h.1.2,fun e=>by rw [e,beq_self_eq_true] at h; cases h.2⟩
theorem ze {e:Expr} {es:List Expr} {env:Env} (h:∀ v p,e≠.Starred v p):starEach (e::es) env=(false,eval e env)::starEach es env:=by
 cases e <;> first | rfl | exact absurd rfl (h _ _)
section
variable {K:Frag} {F O:Fz} {H H₀:Hp}
theorem zgm:Val K F H .non .non H₀ O .solid:=zke (K:=K) (F:=F) (H:=H)
theorem zb7 {k:Bool}:Val K F H (.bl k) (.bl k) H₀ O .solid:=zmz (K:=K) (F:=F) (H:=H)
theorem zda {k:Int}:Val K F H (.int k) (.int k) H₀ O .solid:=zr (K:=K) (F:=F) (H:=H)
theorem zf1 {k:Str}:Val K F H (.str k) (.str k) H₀ O .solid:=zph (K:=K) (F:=F) (H:=H)
end
section
variable {X:Cx} {cl:Cl} {a b c d:Expr} {a' b' c' d':E} {pos:Pos}
theorem zru {c:Const} {k:Nat} {c':Cn} (h:cCon c=some c'):PE X (.Constant c k pos) (uE X.K cl (.con c')):=by
 cases c <;> simp only [cCon,Option.some.injEq] at h <;> first | (cases h; done) | skip
 all_goals subst h
 ·exact PE.imp zqu fun σ H Q ⟨ρ,d,f,he,F,env,q⟩=>by cases he; show Q V.non H; exact q V.non F H (Grow.refl F H) zgm
 ·exact PE.imp zr9 fun σ H Q ⟨ρ,d,f,he,F,env,q⟩=>by cases he; exact q (V.bl _) F H (Grow.refl F H) zb7
 ·exact PE.imp zpt fun σ H Q ⟨ρ,d,f,he,F,env,q⟩=>by cases he; exact q (V.int _) F H (Grow.refl F H) zda
 ·exact PE.imp zq2 fun σ H Q ⟨ρ,d,f,he,F,env,q⟩=>by cases he; exact q (V.str _) F H (Grow.refl F H) zf1
theorem zrv {x:Str} {i:Nat} (hN:X.N[i]? = some x) (hv:Vis X.env.scope x) (hd:(x==("__debug__" : Str))=false) (hcd:(x==("__classdict__" : Str))=false):PE X (.Name x pos) (uE X.K cl (.var i)):=by
 refine PE.imp (zdm hN hv hd hcd) fun σ H Q ⟨ρ,d,f,he,F,env,q⟩=>?_
 have he:slot ρ i=some (d,f):=he
 unfold slot at he
 cases e:ρ[i]? with
 | none=>rw [e] at he; cases he
 | some sl =>
  rw [e] at he
  cases sl with
  | no=>cases he
  | val d' =>
   cases he
   obtain ⟨v,h1,h2⟩:=env.val i _ e
   exact ⟨v,h1,q v F H (Grow.refl F H) h2⟩
  | own l =>
   cases he
   have em:mine ρ i=some (.lst l):=by unfold mine; rw [e]; rfl
   obtain ⟨p,h1,h3,h4⟩:=env.own i _ em
   exact ⟨.ref p,h1,q _ F H (Grow.refl F H) ⟨p,⟨rfl,h3,h4⟩,i,_,em,h1⟩⟩
  | dl t ks ls=>cases he
  | dk ks vs =>
   cases he
   have em:mine ρ i=some (.dic ks vs):=by unfold mine; rw [e]; rfl
   obtain ⟨p,h1,h3,h4⟩:=env.own i _ em
   exact ⟨.ref p,h1,q _ F H (Grow.refl F H) ⟨p,⟨rfl,h3,h4⟩,i,_,em,h1⟩⟩
theorem zm8 {x:Str} {c:Cn} {u:Value} (hg:Gl X x) (hm:X.mg x=some u) (r:RelV (cnV c) u) (hd:(x==("__debug__" : Str))=false):PE X (.Name x pos) (uE X.K cl (.glob x c)):=by
 refine PE.imp (zpa hg hm r hd) fun σ H Q ⟨ρ,d,f,he,F,env,q⟩=>?_
 cases he
 refine q _ F H (Grow.refl F H) ?_
 cases c
 ·exact zgm
 ·exact zb7
 ·exact zda
 ·exact zf1
theorem zr5 {o:Operator} {o':Bop} (ho:cBop o=some o') (ha:PE X a (uE X.K cl a')) (hb:PE X b (uE X.K cl b')):PE X (.BinOp a o b pos) (uE X.K cl (.bin o' a' b')):=by
 have e:opOf o'=o:=by cases o <;> simp [cBop] at ho <;> subst ho <;> rfl
 subst e
 refine PE.imp (zsh (zql o') ha hb) fun σ H Q ⟨ρ,d,f,he,F,env,q⟩=>?_
 rw [ev] at he
 obtain ⟨⟨dx,fx⟩,h1,he⟩:=za he
 obtain ⟨⟨dy,fy⟩,h2,he⟩:=za he
 exact ⟨ρ,dx,fx,h1,F,env,fun x F1 H1 g1 v1=>⟨ρ,dy,fy,h2,F1,env.grow g1,fun y F2 H2 g2 v2=>⟨F2,dx,dy,d,f,((env.grow g1).grow g2).dom,v1.now.grow g2,v2.now,he,
  fun v F3 H3 g3 v3=>q v F3 H3 ((g1.trans g2).trans g3) ((v3.back fun _ z=>(g1.trans g2).free z).wide fun _ z=>z.elim)⟩⟩⟩
theorem zsn {o:CmpOp} (hu:X.A.units+64 < cLine) (hm:behindInMarks o b=false) (ha:PE X a (uE X.K cl a')) (hb:PE X b (uE X.K cl b')):PE X (.Compare a [o] [b] pos) (uE X.K cl (.cmp (cCop o) a' b')):=by
 refine PE.imp (zno (zm9 hu o) ha hb hm) fun σ H Q ⟨ρ,d,f,he,F,env,q⟩=>?_
 rw [ev] at he
 obtain ⟨⟨dx,fx⟩,h1,he⟩:=za he
 obtain ⟨⟨dy,fy⟩,h2,he⟩:=za he
 obtain ⟨k,h3,he⟩:=zb he
 cases he
 exact ⟨ρ,dx,fx,h1,F,env,fun x F1 H1 g1 v1=>⟨ρ,dy,fy,h2,F1,env.grow g1,fun y F2 H2 g2 v2=>⟨F2,dx,dy,k,v1.now.grow g2,v2.now,h3,q _ F2 H2 (g1.trans g2) zb7⟩⟩⟩
theorem zr7 {o:CmpOp} (hu:X.A.units+64 < cLine) (hm:behindInMarks o b=false) (ha:PE X a (uE X.K cl a')) (hb:PE X b (uE X.K cl b')):PT X (.Compare a [o] [b] pos) (uT X.K cl (.cmp (cCop o) a' b')):=by
 refine PT.imp (zop (zm9 hu o) ha hb hm) fun σ H Q ⟨ρ,k,he,F,env,q⟩=>?_
 rw [evT] at he
 obtain ⟨⟨dx,fx⟩,h1,he⟩:=za he
 obtain ⟨⟨dy,fy⟩,h2,he⟩:=za he
 exact ⟨ρ,dx,fx,h1,F,env,fun x F1 H1 g1 v1=>⟨ρ,dy,fy,h2,F1,env.grow g1,fun y F2 H2 g2 v2=>⟨F2,dx,dy,k,v1.now.grow g2,v2.now,he,k,rfl,q F2 H2 (g1.trans g2)⟩⟩⟩
theorem zn1 {ta:TE} (ha:PE X a ta):PE X (.UnaryOp .Not a pos) (fun σ H Q=>ta σ H fun x H1=>∃ k,TruV X.K x H1 k∧Q (.bl (!k)) H1):=by
 intro pins s σ H Q I h
 refine UnaryOp_ (thn (ha pins s σ H _ I h) fun v s1 ⟨x,H1,I1,r1,k,tv,q⟩=>?_)
 exact not_of (thn (zni pins s1 σ H1 x v (fun b H'=>Q (.bl (!b)) H') I1 r1 ⟨k,tv,q⟩) fun b s2 ⟨H2,I2,q2⟩=>⟨.bl (!b),H2,I2,rfl,q2⟩)
theorem zsu (ha:PE X a (uE X.K cl a')):PE X (.UnaryOp .Not a pos) (uE X.K cl (.not a')):=by
 refine PE.imp (zn1 ha) fun σ H Q ⟨ρ,d,f,he,F,env,q⟩=>?_
 rw [ev] at he
 obtain ⟨⟨dx,fx⟩,h1,he⟩:=za he
 obtain ⟨k,h2,he⟩:=zb he
 cases he
 exact ⟨ρ,dx,fx,h1,F,env,fun x F1 H1 g1 v1=>⟨k,zpz v1.now h2,q _ F1 H1 g1 zb7⟩⟩
theorem zr1 (ha:PT X a (uT X.K cl a')):PT X (.UnaryOp .Not a pos) (uT X.K cl (.not a')):=by
 refine PT.imp (zqz ha) fun σ H Q ⟨ρ,k,he,F,env,q⟩=>?_
 rw [evT] at he
 obtain ⟨k',h1,he⟩:=zb he
 subst he
 exact ⟨ρ,k',h1,F,env,fun F1 H1 g1=>q F1 H1 g1⟩
theorem zss (ha:PE X a (uE X.K cl a')):PE X (.UnaryOp .USub a pos) (uE X.K cl (.neg a')):=by
 refine PE.imp (zsg zqi ha) fun σ H Q ⟨ρ,d,f,he,F,env,q⟩=>?_
 rw [ev] at he
 obtain ⟨⟨dx,fx⟩,h1,he⟩:=za he
 obtain ⟨i,h2,he⟩:=zb he
 cases he
 refine ⟨ρ,dx,fx,h1,F,env,fun x F1 H1 g1 v1=>?_⟩
 cases dx <;> simp only [int?] at h2 <;> cases h2
 exact ⟨i,v1.now.int,q _ F1 H1 g1 zda⟩
theorem zr4 {r:List Expr} (ha:PE X a (uE X.K cl a')) (hb:PE X (.BoolOp .And (b::r) pos) (uE X.K cl b')):PE X (.BoolOp .And (a::b::r) pos) (uE X.K cl (.and a' b')):=by
 refine PE.imp (zrl ha hb) fun σ H Q ⟨ρ,d,f,he,F,env,q⟩=>?_
 rw [ev] at he
 obtain ⟨⟨dx,fx⟩,h1,he1⟩:=za he
 obtain ⟨k,h2,he2⟩:=za he1
 refine ⟨ρ,dx,fx,h1,F,env,fun x F1 H1 g1 v1=>?_⟩
 cases dx <;> simp only [bl?] at h2 <;> cases h2
 refine ⟨k,v1.now.bl,?_⟩
 cases k with
 | false =>
  rw [if_neg Bool.false_ne_true] at he2 ⊢
  cases he2
  exact q _ F1 H1 g1 zb7
 | true =>
  rw [if_pos rfl] at he2 ⊢
  exact ⟨ρ,d,f,he2,F1,env.grow g1,fun v F2 H2 g2 v2=>q v F2 H2 (g1.trans g2) (v2.back fun _ z=>g1.free z)⟩
theorem zs3 {r:List Expr} (ha:PE X a (uE X.K cl a')) (hb:PE X (.BoolOp .Or (b::r) pos) (uE X.K cl b')):PE X (.BoolOp .Or (a::b::r) pos) (uE X.K cl (.or a' b')):=by
 refine PE.imp (zsr ha hb) fun σ H Q ⟨ρ,d,f,he,F,env,q⟩=>?_
 rw [ev] at he
 obtain ⟨⟨dx,fx⟩,h1,he1⟩:=za he
 obtain ⟨k,h2,he2⟩:=za he1
 refine ⟨ρ,dx,fx,h1,F,env,fun x F1 H1 g1 v1=>?_⟩
 cases dx <;> simp only [bl?] at h2 <;> cases h2
 refine ⟨k,v1.now.bl,?_⟩
 cases k with
 | false =>
  rw [if_neg Bool.false_ne_true] at he2 ⊢
  exact ⟨ρ,d,f,he2,F1,env.grow g1,fun v F2 H2 g2 v2=>q v F2 H2 (g1.trans g2) (v2.back fun _ z=>g1.free z)⟩
 | true =>
  rw [if_pos rfl] at he2 ⊢
  cases he2
  exact q _ F1 H1 g1 zb7
theorem zst {r:List Expr} (ha:PT X a (uT X.K cl a')) (hb:PW X (.BoolOp .And (b::r) pos) (uT X.K cl b')):PW X (.BoolOp .And (a::b::r) pos) (uT X.K cl (.and a' b')):=by
 refine PW.imp (pw_and ha hb) fun σ H Q ⟨ρ,kk,he,F,env,q⟩=>?_
 rw [evT] at he
 obtain ⟨k,h2,he⟩:=za he
 refine ⟨ρ,k,h2,F,env,fun F1 H1 g1=>?_⟩
 cases k with
 | false =>
  rw [if_neg Bool.false_ne_true] at he ⊢
  cases he
  exact q F1 H1 g1
 | true =>
  rw [if_pos rfl] at he ⊢
  exact ⟨ρ,kk,he,F1,env.grow g1,fun F2 H2 g2=>q F2 H2 (g1.trans g2)⟩
theorem zs8 {r:List Expr} (ha:PT X a (uT X.K cl a')) (hb:PW X (.BoolOp .Or (b::r) pos) (uT X.K cl b')):PW X (.BoolOp .Or (a::b::r) pos) (uT X.K cl (.or a' b')):=by
 refine PW.imp (pw_or ha hb) fun σ H Q ⟨ρ,kk,he,F,env,q⟩=>?_
 rw [evT] at he
 obtain ⟨k,h2,he⟩:=za he
 refine ⟨ρ,k,h2,F,env,fun F1 H1 g1=>?_⟩
 cases k with
 | false =>
  rw [if_neg Bool.false_ne_true] at he ⊢
  exact ⟨ρ,kk,he,F1,env.grow g1,fun F2 H2 g2=>q F2 H2 (g1.trans g2)⟩
 | true =>
  rw [if_pos rfl] at he ⊢
  cases he
  exact q F1 H1 g1
theorem zen {e:Expr} {e':E} (h:PE X e (uE X.K cl e')) (hw:∀ whole,isTrue e X.env whole=(do let v ← whole; standAt e.pos; holding [v] (truthy v))) (ht:∀ ρ k,evT cl e' ρ=some k→∃ d f,ev cl e' ρ=some (d,f)∧tru d=some k):PT X e (uT X.K cl e'):=by
 refine PT.imp (zlt h hw) fun σ H Q ⟨ρ,k,he,F,env,q⟩=>?_
 obtain ⟨d,f,h1,h2⟩:=ht ρ k he
 exact ⟨ρ,d,f,h1,F,env,fun v F1 H1 g1 v1=>⟨k,zpz v1.now h2,q F1 H1 g1⟩⟩
theorem zs2 (hu:X.A.units+64 < cLine) (hs:isSlice b=false) (ha:PE X a (uE X.K cl a')) (hb:PE X b (uE X.K cl b')):PE X (.Subscript a b pos) (uE X.K cl (.ix a' b')):=by
 refine PE.imp (zse (zta hu) ha hb (fun o i=>by cases b <;> first | rfl | cases hs)) fun σ H Q ⟨ρ,d,f,he,F,env,q⟩=>?_
 rw [ev] at he
 obtain ⟨⟨dx,fx⟩,h1,he⟩:=za he
 obtain ⟨⟨dy,fy⟩,h2,he⟩:=za he
 exact ⟨ρ,dx,fx,h1,F,env,fun x F1 H1 g1 v1=>⟨ρ,dy,fy,h2,F1,env.grow g1,fun y F2 H2 g2 v2=>⟨F2,dx,dy,d,f,v1.now.grow g2,v2.now,he,
  fun v F3 H3 g3 v3=>q v F3 H3 ((g1.trans g2).trans g3) ((v3.back fun _ z=>(g1.trans g2).free z).wide fun _ z=>z.elim)⟩⟩⟩
theorem zpx:PO X none (uO X.K cl .no):=by
 refine PO.imp zo6 fun σ H Q ⟨ρ,v,he,F,env,q⟩=>?_
 cases he
 exact q F H (Grow.refl F H)
theorem zqy (ha:PE X a (uE X.K cl a')):PO X (some a) (uO X.K cl (.so a')):=by
 refine PO.imp (zob ha) fun σ H Q ⟨ρ,v,he,F,env,q⟩=>?_
 rw [evo] at he
 obtain ⟨⟨dx,fx⟩,h1,he⟩:=za he
 obtain ⟨i,h2,he⟩:=zb he
 subst he
 refine ⟨ρ,dx,fx,h1,F,env,fun x F1 H1 g1 v1=>?_⟩
 cases dx <;> simp only [int?] at h2 <;> cases h2
 exact ⟨i,v1.now.int,q F1 H1 g1⟩
theorem zs4 {lo hi:Option Expr} {lo' hi':Eo} {p2:Pos} (ha:PE X a (uE X.K cl a')) (hl:PO X lo (uO X.K cl lo')) (hh:PO X hi (uO X.K cl hi')):PE X (.Subscript a (.Slice lo hi none p2) pos) (uE X.K cl (.sl a' lo' hi')):=by
 refine PE.imp (zk9 zs9 ha hl hh) fun σ H Q ⟨ρ,d,f,he,F,env,q⟩=>?_
 rw [ev] at he
 obtain ⟨⟨dx,fx⟩,h1,he⟩:=za he
 obtain ⟨l,h2,he⟩:=za he
 obtain ⟨h,h3,he⟩:=za he
 exact ⟨ρ,dx,fx,h1,F,env,fun x F1 H1 g1 v1=>⟨ρ,l,h2,F1,env.grow g1,fun F2 H2 g2=>⟨ρ,h,h3,F2,(env.grow g1).grow g2,fun F3 H3 g3=>⟨F3,dx,d,f,(((env.grow g1).grow g2).grow g3).dom,(v1.now.grow g2).grow g3,he,
  fun v F4 H4 g4 v4=>q v F4 H4 (((g1.trans g2).trans g3).trans g4) ((v4.back fun _ z=>((g1.trans g2).trans g3).free z).wide fun _ z=>z.elim)⟩⟩⟩⟩
theorem zsm:PA X [] (uA X.K cl .nil):=by
 refine PA.imp zak fun σ H Q ⟨ρ,ds,lent,he,F,env,q⟩=>?_
 cases he
 exact q [] F H F (Grow.refl F H) (fun _ h=>h) (fun _=>rfl) env.dom Reps.nil
theorem zqd {es:List Expr} {es':Es} (hs:∀ v p,a≠.Starred v p) (ha:PE X a (uE X.K cl a')) (hr:PA X es (uA X.K cl es')):PA X (a::es) (uA X.K cl (.cons a' es')):=by
 refine PA.imp (zq ha hr (ze hs)) fun σ H Q ⟨ρ,ds,lent,he,F,env,q⟩=>?_
 rw [evs] at he
 obtain ⟨⟨d1,f1⟩,h1,he⟩:=za he
 obtain ⟨⟨ds',lent'⟩,h2,he⟩:=zb he
 cases he
 refine ⟨ρ,d1,f1,h1,F,env,fun v F1 H1 g1 v1=>?_⟩
 by_cases hf:f1=.peek
 ·subst hf
  obtain ⟨p,lo,_⟩:=v1
  refine ⟨ρ,ds',lent',h2,F1,env.grow g1,fun vs F2 H2 P g2 hP _ dom r=>?_⟩
  have lo2:=lo.grow g2
  refine q _ F2 H2 (addF P p) (g1.trans g2) (fun b h=>.inl (hP b h)) (fun z=>by simp at z) (fun b h=>h.elim (dom b) fun z=>by rw [z]; exact lo2.2.2.ne) (.cons ?_ (r.keep Keep.prot))
  exact lo2.prot.keep ⟨fun b h=>h.elim (fun h=>.inl (hP b h)) .inr,fun _ _ _ _ e=>e,fun _ _ e=>e⟩
 ·obtain ⟨F1',g1',k1,r1⟩:=v1.firm hf g1
  refine ⟨ρ,ds',lent',h2,F1',env.grow g1',fun vs F2 H2 P g2 hP hl dom r=>?_⟩
  refine q _ F2 H2 P (g1'.trans g2) hP (fun z=>hl ?_) dom (.cons ((r1.grow g2).keep ⟨hP,fun _ _ _ _ e=>e,fun _ _ e=>e⟩) r)
  rw [Bool.or_eq_false_iff] at z
  exact z.1
theorem zs0 {es:List Expr} {es':Es} {k:Nat} (h:PA X es (uA X.K cl es')):PE X (.Tuple es k pos) (uE X.K cl (.tup es')):=by
 refine PE.imp (zre h) fun σ H Q ⟨ρ,d,f,he,F,env,q⟩=>?_
 rw [ev] at he
 obtain ⟨⟨ds,lent⟩,h1,he⟩:=za he
 dsimp only at he
 split at he
 ·rename_i hc
  cases he
  refine ⟨ρ,ds,lent,h1,F,env,fun vs F1 H1 P g1 hP hl dom r=>⟨zhk (by rw [← r.length]; exact hc.2),fun p hp=>?_⟩⟩
  have:=hl hc.1
  subst this
  exact q _ _ _ (g1.trans (Grow.laid hp)) (zgn hp r)
 ·cases he
theorem zsc {es:List Expr} {es':Es} (h:PA X es (uA X.K cl es')):PE X (.List es pos) (uE X.K cl (.lst es')):=by
 refine PE.imp (zqp h) fun σ H Q ⟨ρ,d,f,he,F,env,q⟩=>?_
 rw [ev] at he
 obtain ⟨⟨ds,lent⟩,h1,he⟩:=za he
 dsimp only at he
 split at he
 ·rename_i hc
  cases he
  refine ⟨ρ,ds,lent,h1,F,env,fun vs F1 H1 P g1 hP hl dom r=>⟨zhk (by rw [← r.length]; exact hc.2),fun p hp=>?_⟩⟩
  have:=hl hc.1
  subst this
  exact q _ _ _ (g1.trans (Grow.loose hp)) ⟨p,zcv hp dom r,g1.free hp⟩
 ·cases he
theorem zqm {cf:Cfg} {x:Str} {f:Nat} {p:Pos} {es:List Expr} {es':Es} (T:Tops cf cl X) (hg:Gl X x) (hx:cf.fns[f]? = some x)
  (hd:(x==("__debug__" : Str))=false) (hs:∀ v p,a≠.Starred v p) (hst:(backTo pos (starEach es X.env)).any (·.1)=false)
  (h:PA X (a::es) (uA X.K cl es')):PE X (.Call (.Name x p) (a::es) [] pos) (uE X.K cl (.call f es')):=by
 intro pins s σ H Q I ⟨ρ,d,fl,he,F,env,q⟩
 rw [ev] at he
 obtain ⟨⟨ds,lent⟩,h1,he⟩:=za he
 obtain ⟨d',h2,he⟩:=za he
 obtain ⟨k,fa,fd,ps,Fn,hr,hm,hk,hb⟩:=T.fn f x ds d' hx h2
 refine zn4 Fn hr hg hm hk hb .nil pass0 h hd (ze hs) hst pins s σ H Q I ?_
 refine ⟨ρ,ds,lent,h1,F,env,fun vs F1 H1 P g1 hP hl dom r=>⟨P,dom,env.tab.step g1.tab,by rw [List.append_nil]; exact r,fun v F2 H2 g2 rv=>?_⟩⟩
 unfold handed at he
 cases lent with
 | false =>
  rw [Bool.false_and,if_neg Bool.false_ne_true] at he
  cases he
  have:=hl rfl
  subst this
  exact q v F2 H2 (g1.trans g2) rv
 | true =>
  rw [Bool.true_and] at he
  split at he
  ·cases he
  ·rename_i hsc
   cases he
   have hsc:d.scal=true:=by simpa using hsc
   have g3:Grow F1 H1 F1 H2:=⟨fun _ h=>h,fun a o e n=>g2.same a o e n,g2.tab,fun _ h=>.inl h⟩
   refine q v F1 H2 (g1.trans g3) ?_
   cases d with
   | tup _=>cases hsc
   | lst _=>cases hsc
   | dic _ _=>cases hsc
   | non=>rw [Rep] at rv; subst rv; exact zgm
   | bl _=>rw [Rep] at rv; subst rv; exact zb7
   | int _=>rw [Rep] at rv; subst rv; exact zda
   | str _=>rw [Rep] at rv; subst rv; exact zf1
theorem zsf {t:Str} {ty:Ty} {p p2:Pos} (ht:cTy t=some ty) (hg:Gl X "isinstance") (hm:X.mg "isinstance" = none) (hgt:Gl X t) (hmt:X.mg t=none) (hs:∀ v p,a≠.Starred v p) (ha:PE X a (uE X.K cl a')) :
  PE X (.Call (.Name "isinstance" p) [a,.Name t p2] [] pos) (uE X.K cl (.isi a' ty)):=by
 have e:t=(tyS ty:Str)∧bootBuiltins (tyS ty:Str)=some (.type (tyS ty))∧((tyS ty:Str)≠"__name__")∧((tyS ty:Str)==("__debug__" : Str))=false:=by
  unfold cTy at ht
  split at ht
  ·rename_i h; cases ht; exact ⟨beq_iff_eq.mp h,by decide +kernel,by decide,by decide⟩
  ·split at ht
   ·rename_i h; cases ht; exact ⟨beq_iff_eq.mp h,by decide +kernel,by decide,by decide⟩
   ·split at ht
    ·rename_i h; cases ht; exact ⟨beq_iff_eq.mp h,by decide +kernel,by decide,by decide⟩
    ·split at ht
     ·rename_i h; cases ht; exact ⟨beq_iff_eq.mp h,by decide +kernel,by decide,by decide⟩
     ·split at ht
      ·rename_i h; cases ht; exact ⟨beq_iff_eq.mp h,by decide +kernel,by decide,by decide⟩
      ·cases ht
 obtain ⟨rfl,hb,hn,hdb⟩:=e
 refine PE.imp (zay zmo hg hm boot_isinstance (zq ha (zq (zow hgt hmt hb (v:=.ty (tyS ty)) rfl hn hdb) zak) (hs:=ze hs)) (he:=ze hs)) fun σ H Q ⟨ρ,d,f,he,F,env,q⟩=>?_
 rw [ev] at he
 obtain ⟨⟨dx,fx⟩,h1,he⟩:=zb he
 cases he
 exact ⟨ρ,dx,fx,h1,F,env,fun x F1 H1 g1 v1=>⟨x,tyS ty,kindS dx,isTy ty dx,rfl,zsj v1.now,zsi X.K dx ty,q _ F1 H1 g1 zb7⟩⟩
theorem zbj {t:TE} {o:Bi} {σ:St} {H:Hp} {Q:VK} (h:uE X.K cl (.bi o a') σ H Q):tCB (rBiD X.K o) (tCons (uE X.K cl a') tNil) σ H Q:=by
 obtain ⟨ρ,d,f,he,F,env,q⟩:=h
 rw [ev] at he
 obtain ⟨⟨dx,fx⟩,h1,he⟩:=za he
 exact ⟨ρ,dx,fx,h1,F,env,fun x F1 H1 g1 v1=>⟨x,F1,dx,d,f,rfl,(env.grow g1).dom,v1.now,he,fun v F2 H2 g2 v2=>q v F2 H2 (g1.trans g2) ((v2.back fun _ z=>g1.free z).wide fun _ z=>z.elim)⟩⟩
theorem zs6 {x:Str} {o:Bi} {p:Pos} (hu:X.A.units+64 < cLine) (hc:X.calm=true) (hx:cBi x=some o) (hg:Gl X x) (hm:X.mg x=none) (hs:∀ v p,a≠.Starred v p) (ha:PE X a (uE X.K cl a')):PE X (.Call (.Name x p) [a] [] pos) (uE X.K cl (.bi o a')):=by
 unfold cBi at hx
 split at hx
 ·rename_i e
  cases hx
  have e:=beq_iff_eq.mp e
  subst e
  exact PE.imp (zay zpr hg hm PySem.boot_len (zq ha zak (hs:=ze hs)) (he:=ze hs)) fun σ H Q h=>zbj (t:=tC .non) h
 split at hx
 ·rename_i e
  cases hx
  have e:=beq_iff_eq.mp e
  subst e
  exact PE.imp (zcy zlh hg hm PyProof.Rows.boot_tuple (zq ha zak (hs:=ze hs)) (he:=ze hs)) fun σ H Q h=>zbj (t:=tC .non) h
 split at hx
 ·rename_i e
  cases hx
  have e:=beq_iff_eq.mp e
  subst e
  exact PE.imp (zcy zo2 hg hm PyProof.Rows.boot_list (zq ha zak (hs:=ze hs)) (he:=ze hs)) fun σ H Q h=>zbj (t:=tC .non) h
 split at hx
 ·rename_i e
  cases hx
  have e:=beq_iff_eq.mp e
  subst e
  exact PE.imp (zay (zkl hc hu) hg hm (by decide +kernel) (zq ha zak (hs:=ze hs)) (he:=ze hs)) fun σ H Q h=>zbj (t:=tC .non) h
 split at hx
 ·rename_i e
  cases hx
  have e:=beq_iff_eq.mp e
  subst e
  exact PE.imp (zay (znq hu hc) hg hm (by decide +kernel) (zq ha zak (hs:=ze hs)) (he:=ze hs)) fun σ H Q h=>zbj (t:=tC .non) h
 split at hx
 ·rename_i e
  cases hx
  have e:=beq_iff_eq.mp e
  subst e
  exact PE.imp (zay (zom hc) hg hm (by decide +kernel) (zq ha zak (hs:=ze hs)) (he:=ze hs)) fun σ H Q h=>zbj (t:=tC .non) h
 split at hx
 ·rename_i e
  cases hx
  have e:=beq_iff_eq.mp e
  subst e
  exact PE.imp (zay (zns hc) hg hm (by decide +kernel) (zq ha zak (hs:=ze hs)) (he:=ze hs)) fun σ H Q h=>zbj (t:=tC .non) h
 cases hx
theorem zl0 {p p2 p3:Pos} (hu:X.A.units+64 < cLine) (hc:X.calm=true) (hg:Gl X "len") (hm:X.mg "len" = none) (hg2:Gl X "set") (hm2:X.mg "set" = none) (hs:∀ v p,a≠.Starred v p) (ha:PE X a (uE X.K cl a')):PE X (.Call (.Name "len" p) [.Call (.Name "set" p2) [a] [] p3] [] pos) (uE X.K cl (.bi .lenset a')):=by
 refine PE.imp (zay zji hg hm PySem.boot_len (zq (zcy (zkg (by lia) hc) hg2 hm2 (by decide +kernel) (zq ha zak (hs:=ze hs)) (he:=ze hs)) zak)) fun σ H Q ⟨ρ,d,f,he,F,env,q⟩=>?_
 rw [ev] at he
 obtain ⟨⟨dx,fx⟩,h1,he1⟩:=za he
 refine ⟨ρ,dx,fx,h1,F,env,fun x F1 H1 g1 v1=>?_⟩
 cases dx with
 | lst l =>
  obtain ⟨p,xs,rfl,h3,h4,_⟩:=v1.now.lst
  obtain ⟨nss,ht,he2⟩:=za (show (tups? l).bind (fun nss=>if nss.length < 64 then some (D.int (nubT nss).length,Fl.solid) else none)=some (d,f) from he1)
  split at he2
  ·rename_i hl
   cases he2
   obtain ⟨ks,k1,k2,k3⟩:=zcu (X:=X) ht h4
   subst k2
   have e:(HT.nubK ks).length=(nubT nss).length:=by rw [← List.length_map (as:=HT.nubK ks) (f:=(·.1)),zk8,k1]
   refine ⟨p,ks,rfl,h3,fun q hq=>.inl (.inl (k3 q hq).1),by rw [← k1,List.length_map] at hl; exact hl,fun l' oc hl' hv=>⟨l',oc,_,rfl,zg,hv,?_,?_⟩⟩
   ·rw [e]
    exact Nat.lt_of_le_of_lt (zpg nss) hl
   ·rw [e]
    exact q _ F1 _ (g1.trans (Grow.loose hl')) zda
  ·cases he2
 | _=>cases he1
theorem zqn {o e:Expr} {to:TE} {t:TA} {name:Str} {apos cpos:Pos} {id id':String} {r:Bool→V→List V→Hp→VK→Prop} (slot:Slot "list" name id) (hty:typeOf (.builtin id)=pure (.type "method_descriptor")) (hm:MtR X id (r false)) (slot':Slot "tuple" name id') (hty':typeOf (.builtin id')=pure (.type "method_descriptor")) (hm':MtR X id' (r true)) (ho:PE X o to) (ha:PA X [e] t)
  (hbase:attributeBase o name X.env (eval o X.env)=eval o X.env) (hfew:((backTo cpos (starEach [e] X.env)).all (fun x=>!x.1)&&(backToKw cpos (keywordEach [] X.env)).all (fun x=>x.1.isSome)&&decide ([e].length+([]:List Keyword).length+(if ([]:List Keyword).isEmpty then 0 else 1) < 30))=true)
  (hline:(apos.endLine==cpos.line)=true) (hs:starEach [e] X.env=[(false,eval e X.env)]):PE X (.Call (.Attribute o name apos) [e] [] cpos) (fun σ H Q=>to σ H fun x H1=>∃ k p xs,x=.ref p∧(if k then H1 p=some (.tup xs) else SqL X.K H1 p xs)∧t σ H1 fun xs H2=>r k x xs H2 Q):=by
 intro pins s σ H Q I h
 refine wpAny_Call_method_late hbase hfew hline rfl (thn (ho pins s σ H _ I h) fun v s1 ⟨x,H1,I1,r1,k,p,xs,ex,ty,q1⟩=>?_)
 subst ex
 cases r1
 have hA:=ha cpos pins s1 σ H1 _ I1 q1
 rw [hs] at hA ⊢
 cases k
 ·obtain ⟨its,_,pl,_⟩:=I1.list ty
  refine ⟨"list",id,PySem.F.plainAttrs_list,slot,hty,pl.isList.typeIs,fun a e=>?_,Calls.callWith_builtin rfl (Calls.evalArgs_plain (thn hA fun us s2 ⟨vs,H2,I2,r2,q2⟩=>hm pins s2 σ H2 (.ref p) vs _ us Q I2 rfl r2 q2))⟩
  cases e
  obtain ⟨o,n,e,c,hd,_⟩:=pl
  exact ⟨o,e,hd⟩
 ·obtain ⟨_,its,_,tp,o,e1,e2⟩:=I1.hok p _ ty
  refine ⟨"tuple",id',PySem.F.plainAttrs_tuple,slot',hty',tp.typeIs,fun a e=>?_,Calls.callWith_builtin rfl (Calls.evalArgs_plain (thn hA fun us s2 ⟨vs,H2,I2,r2,q2⟩=>hm' pins s2 σ H2 (.ref p) vs _ us Q I2 rfl r2 q2))⟩
  cases e
  exact ⟨o,e1,e2⟩
theorem zrf {apos:Pos} (hu:X.A.units+64 < cLine) (hbs:plainBase a=true) (hline:(apos.endLine==pos.line)=true) (hs:∀ v p,b≠.Starred v p) (ha:PE X a (uE X.K cl a')) (hb:PE X b (uE X.K cl b')):PE X (.Call (.Attribute a "index" apos) [b] [] pos) (uE X.K cl (.ixof a' b')):=by
 refine PE.imp (zqn PySem.F.slot_list_index PySem.F.type_list_index (zmk hu) PySem.F.slot_tuple_index PySem.F.type_tuple_index (zjc hu) (r:=rWhere X.K) ha (zq hb zak (hs:=ze hs)) (by cases a <;> first | rfl | cases hbs) (by rw [ze hs]; rfl) hline (ze hs)) fun σ H Q ⟨ρ,d,f,he,F,env,q⟩=>?_
 rw [ev] at he
 obtain ⟨⟨dx,fx⟩,h1,he1⟩:=za he
 obtain ⟨⟨dy,fy⟩,h2,he2⟩:=za he1
 refine ⟨ρ,dx,fx,h1,F,env,fun x F1 H1 g1 v1=>?_⟩
 have fin:tCons (uE X.K cl b') tNil σ H1 fun xs H2=>rWhere X.K (isT dx) x xs H2 Q:=⟨ρ,dy,fy,h2,F1,env.grow g1,fun y F2 H2 g2 v2=>⟨y,F2,dx,dy,d,f,rfl,rfl,v1.now.grow g2,v2.now,he2,fun v F3 H3 g3 v3=>q v F3 H3 ((g1.trans g2).trans g3) ((v3.back fun _ z=>(g1.trans g2).free z).wide fun _ z=>z.elim)⟩⟩
 cases dx with
 | lst l=>obtain ⟨p,xs,rfl,h3,_⟩:=v1.now.lst; exact ⟨false,p,xs,rfl,h3,fin⟩
 | tup l=>obtain ⟨p,xs,rfl,h3,_⟩:=v1.now.tup; exact ⟨true,p,xs,rfl,h3,fin⟩
 | _=>cases dy <;> simp [whereD] at he2
end
end SD
namespace HT
open PySem PyProof.Rows
section
variable {prog:Program} {w:World} {A:Around} {E:Value→Shared→Prop} {s:Shared}
end
end HT
namespace HT
open PySem PyProof.Rows
section
variable {prog:Program} {w:World} {A:Around} {E:Value→Shared→Prop} {s:Shared}
end
end HT
namespace L2
open PySem PySem.Spec PyProof.Rows
section
variable {X:Cx}
theorem Vals.rev:∀ {xs:List V} {its:List Value},Vals xs its→Vals xs.reverse its.reverse
 | _,_,.nil=>.nil
 | _,_,.cons r rr=>by
  rw [List.reverse_cons,List.reverse_cons]
  exact (Vals.rev rr).append (.cons r .nil)
end
end L2
namespace PY
theorem zio {α β:Type} {f:α→Option (Option β)} {g:α→β}:∀ {l:List α},(∀ x∈l,f x=some (some (g x)))→filterMapO f l=some (l.map g)
 | [],_=>rfl
 | x::r,h=>by
  show (f x).bind _=_
  rw [h x List.mem_cons_self,zio (l:=r) fun y hy=>h y (List.mem_cons_of_mem _ hy)]
  rfl
theorem zc9 {α β:Type} {f:α→Option (Option β)} {p:α→Bool} {g:α→β}:∀ {l:List α},(∀ x∈l,f x=some (if p x then some (g x) else none))→filterMapO f l=some ((l.filter p).map g)
 | [],_=>rfl
 | x::r,h=>by
  show (f x).bind _=_
  rw [h x List.mem_cons_self,zc9 (l:=r) fun y hy=>h y (List.mem_cons_of_mem _ hy)]
  cases e:p x <;> simp [e]
theorem ze9 {f:D→Rho→Option Out} (P:Nat→Rho→Prop):∀ (ds:List D) (k:Nat) (ρ:Rho),P k ρ →
  (∀ i d ρ,ds[i]? = some d→P (k+i) ρ→∃ ρ',f d ρ=some (.nx ρ')∧P (k+i+1) ρ')→∃ ρ',loopO f ds ρ=some (.nx ρ')∧P (k+ds.length) ρ'
 | [],k,ρ,h,_=>⟨ρ,rfl,h⟩
 | d::r,k,ρ,h,st=>by
  obtain ⟨ρ1,e,h1⟩:=st 0 d ρ rfl h
  obtain ⟨ρ2,e2,h2⟩:=ze9 P r (k+1) ρ1 h1 fun i d' ρ' hi hp=>by
   have:=st (i+1) d' ρ' (by simpa using hi) (by rw [show k+(i+1)=k+1+i by lia]; exact hp)
   rw [show k+(i+1)+1=k+1+i+1 by lia] at this
   exact this
  refine ⟨ρ2,?_,?_⟩
  ·show (f d ρ).bind _=_
   rw [e]
   exact e2
  ·rw [show k+(d::r).length=k+1+r.length by simp; lia]
   exact h2
theorem zbu {n i:Nat} {lo:Int} {d:D} (h:(rangeD lo n)[i]? = some d):i < n∧d=.int (lo+i):=by
 unfold rangeD at h
 rw [List.getElem?_map] at h
 by_cases hi:i < n
 ·rw [List.getElem?_range hi] at h
  exact ⟨hi,(Option.some.inj h).symm⟩
 ·rw [List.getElem?_eq_none (by simpa using hi)] at h
  cases h
theorem zcg:∀ {l:List D} {k i:Nat} {d:D},(enumD k l)[i]? = some d→∃ x,l[i]? = some x∧d=.tup [.int ((k+i:Nat):Int),x]
 | [],_,_,_,h=>by simp [enumD] at h
 | x::r,k,0,d,h=>by
  simp [enumD] at h
  exact ⟨x,rfl,by rw [← h]; simp⟩
 | x::r,k,i+1,d,h=>by
  simp only [enumD,List.getElem?_cons_succ] at h
  obtain ⟨y,h1,h2⟩:=zcg h
  exact ⟨y,by simpa using h1,by rw [h2]; congr 3; lia⟩
theorem zb5:∀ (l:List D) (k:Nat),(enumD k l).length=l.length
 | [],_=>rfl
 | x::r,k=>by simp [enumD,zb5 r]
end PY
namespace PY
section
variable {cl:Nat→List D→Option D} {W:Nat} {ρ ρ':Rho}
theorem zd {s:S} {r:Ss} (h:ex cl W s ρ=some (.nx ρ')):exs cl W (.cons s r) ρ=exs cl W r ρ':=by
 simp only [exs,h,Option.bind_some]
theorem zw {s:S} {r:Ss} {v:D} (h:ex cl W s ρ=some (.rt v)):exs cl W (.cons s r) ρ=some (.rt v):=by
 simp only [exs,h,Option.bind_some]
theorem zae {f:Fn} {as:List D} {v:D} (hp:as.length=f.ps∧f.ps≤f.n) (h:exs cl W f.body (as.map .val++List.replicate (f.n - f.ps) .no)=some (.rt v)):runF cl W f as=some v:=by
 unfold runF
 rw [if_pos hp]
 split
 ·rename_i b e
  rw [e] at h
  simp only [exs,ex,Option.bind_none] at h
  cases h
 ·rw [h]; rfl
theorem zt {t:Tg} {e:E} {r:R} (h:ev cl e ρ=some r) (hg:giveR t r ρ=some ρ'):ex cl W (.asg t e) ρ=some (.nx ρ'):=by
 simp only [ex,h,Option.bind_some,hg,Option.map_some]
theorem zac {e:E} {d:D} {fl:Fl} (h:ev cl e ρ=some (d,fl)):ex cl W (.ret e) ρ=some (.rt d):=by
 have hn:dlOf e ρ=none:=by
  cases e with
  | var i =>
   simp only [ev,slot] at h
   cases hs:ρ[i]? with
   | none=>simp only [dlOf,hs]
   | some sl =>
    cases sl with
    | dl t ks ls=>rw [hs] at h; cases h
    | _=>simp only [dlOf,hs]
  | _=>rfl
 simp only [ex,hn,h,Option.map_some]
theorem zdg {c:E} {a b:Ss} {k:Bool} (h:evT cl c ρ=some k):ex cl W (.cond c a b) ρ=if k then exs cl W a ρ else exs cl W b ρ:=by
 simp only [ex,h,Option.bind_some]
theorem za1 {c:E} {a:Ss} (h:evT cl c ρ=some false):ex cl W (.cond c a .nil) ρ=some (.nx ρ):=by
 rw [zdg h]; rfl
theorem zav {t:Tg} {it:I} {b:Ss} {ds:List D} (h:evi cl it ρ=some (ds,false)) (P:Nat→Rho→Prop) (h0:P 0 ρ)
  (st:∀ i d ρ,ds[i]? = some d→P i ρ→∃ ρ1 ρ',give t d ρ=some ρ1∧exs cl W b ρ1=some (.nx ρ')∧P (i+1) ρ'):∃ ρ',ex cl W (.loop t it b) ρ=some (.nx ρ')∧P ds.length ρ':=by
 obtain ⟨ρ2,e,h2⟩:=ze9 (f:=fun d ρ=>(give t d ρ).bind fun ρ'=>exs cl W b ρ') P ds 0 ρ h0 fun i d ρ hi hp=>by
  rw [Nat.zero_add] at hp
  obtain ⟨ρ1,ρ',g,e,q⟩:=st i d ρ hi hp
  exact ⟨ρ',by simp only [g,Option.bind_some,e],by rw [Nat.zero_add]; exact q⟩
 refine ⟨ρ2,?_,by rw [Nat.zero_add] at h2; exact h2⟩
 simp only [ex,h,Option.bind_some]
 exact e
theorem zgs {e:E} {t:Tg} {it:I} {n:Nat} {keep:List Nat} {ds:List D} {b:Bool} (g:D→D) (hi:evi cl it ρ=some (ds,b))
  (h:∀ d∈ds,∃ ρ' r,give t d (inner ρ n keep)=some ρ'∧ev cl e ρ'=some r∧solid? r=some (g d)):ev cl (.comp e t it .no n keep) ρ=some (.lst (ds.map g),.fresh):=by
 simp only [ev,hi,Option.bind_some]
 rw [zio (g:=g) fun x hx=>?_]
 ·rfl
 ·obtain ⟨ρ',r,h1,h2,h3⟩:=h x hx
  simp only [h1,Option.bind_some,evc,if_true,h2,h3,Option.map_some]
theorem zbz {e c:E} {t:Tg} {it:I} {n:Nat} {keep:List Nat} {ds:List D} {b:Bool} (p:D→Bool) (g:D→D) (hi:evi cl it ρ=some (ds,b))
  (h:∀ d∈ds,∃ ρ',give t d (inner ρ n keep)=some ρ'∧evT cl c ρ'=some (p d)∧(p d=true→∃ r,ev cl e ρ'=some r∧solid? r=some (g d))) :
  ev cl (.comp e t it (.so c) n keep) ρ=some (.lst ((ds.filter p).map g),.fresh):=by
 simp only [ev,hi,Option.bind_some]
 rw [zc9 (p:=p) (g:=g) fun x hx=>?_]
 ·rfl
 ·obtain ⟨ρ',h1,h2,h3⟩:=h x hx
  simp only [h1,Option.bind_some,evc,h2]
  cases e:p x with
  | false=>rfl
  | true =>
   obtain ⟨r,h4,h5⟩:=h3 e
   simp only [if_true,h4,Option.bind_some,h5,Option.map_some]
end
end PY
namespace PY
theorem zfx (t:Tg) (d:D) (ρ:Rho):giveR t (d,.solid) ρ=give t d ρ:=by cases t <;> cases d <;> rfl
section
variable {cl:Nat→List D→Option D} {W:Nat} {ρ ρ':Rho}
theorem zm {t:Tg} {e:E} {d:D} (h:ev cl e ρ=some (d,.solid)) (hg:give t d ρ=some ρ'):ex cl W (.asg t e) ρ=some (.nx ρ'):=zt h (by rw [zfx]; exact hg)
end
end PY
namespace PY
section
variable {cl:Nat→List D→Option D} {W:Nat} {ρ ρ':Rho} {a b c:E} {x y z:D} {f g:Fl} {r:R}
theorem zhg {p q:Bool} (h:evT cl a ρ=some p) (h':evT cl b ρ=some q):evT cl (.or a b) ρ=some (p||q):=by
 rw [evT,h,Option.bind_some]; cases p <;> simp [h']
theorem zfy {p q:Bool} (h:evT cl a ρ=some p) (h':evT cl b ρ=some q):evT cl (.and a b) ρ=some (p&&q):=by
 rw [evT,h,Option.bind_some]; cases p <;> simp [h']
theorem zo1 {p:Bool} (h:evT cl a ρ=some p):evT cl (.not a) ρ=some (!p):=by
 rw [evT,h,Option.map_some]
theorem zi:evs cl .nil ρ=some ([],false):=by rw [evs]
theorem zc {as:Es} {ds:List D} (h:ev cl a ρ=some (x,.solid)) (h':evs cl as ρ=some (ds,false)):evs cl (.cons a as) ρ=some (x::ds,false):=by
 rw [evs,h,Option.bind_some,h']; rfl
theorem zfc {as:Es} {ds:List D} (h:ev cl a ρ=some (x,.fresh)) (h':evs cl as ρ=some (ds,false)):evs cl (.cons a as) ρ=some (x::ds,false):=by
 rw [evs,h,Option.bind_some,h']; rfl
theorem zk {n:Nat} {as:Es} {ds:List D} (h:evs cl as ρ=some (ds,false)) (hc:cl n ds=some x):ev cl (.call n as) ρ=some (x,.solid):=by
 rw [ev,h,Option.bind_some]; show (cl n ds).bind _=_; rw [hc]; rfl
theorem zl {o:Bop} (ha:ev cl a ρ=some (x,f)) (hb:ev cl b ρ=some (y,g)) (h:binop o x y=some r):ev cl (.bin o a b) ρ=some r:=by
 rw [ev,ha,Option.bind_some,hb,Option.bind_some,h]
theorem zi3 {o:Cop} {k:Bool} (ha:ev cl a ρ=some (x,f)) (hb:ev cl b ρ=some (y,g)) (h:cmpop o x y=some k):ev cl (.cmp o a b) ρ=some (.bl k,.solid):=by
 rw [ev,ha,Option.bind_some,hb,Option.bind_some,h]; rfl
theorem zo {o:Cop} {k:Bool} (ha:ev cl a ρ=some (x,f)) (hb:ev cl b ρ=some (y,g)) (h:cmpop o x y=some k):evT cl (.cmp o a b) ρ=some k:=by
 rw [evT,ha,Option.bind_some,hb,Option.bind_some,h]
theorem zaa {o:Bi} (ha:ev cl a ρ=some (x,f)) (h:bltin o x=some r):ev cl (.bi o a) ρ=some r:=by
 rw [ev,ha,Option.bind_some,h]
theorem zc2 (ha:ev cl a ρ=some (x,f)) (hb:ev cl b ρ=some (y,g)) (h:index x y=some r):ev cl (.ix a b) ρ=some r:=by
 rw [ev,ha,Option.bind_some,hb,Option.bind_some,h]
theorem zis {as:Es} {ds:List D} (h:evs cl as ρ=some (ds,false)) (hl:ds.length≤big):ev cl (.tup as) ρ=some (.tup ds,.solid):=by
 rw [ev,h,Option.bind_some]; show (if false=false∧ds.length≤big then _ else _)=_; rw [if_pos ⟨rfl,hl⟩]
theorem zp7 {as:Es} {ds:List D} (h:evs cl as ρ=some (ds,false)) (hl:ds.length≤big):ev cl (.lst as) ρ=some (.lst ds,.fresh):=by
 rw [ev,h,Option.bind_some]; show (if false=false∧ds.length≤big then _ else _)=_; rw [if_pos ⟨rfl,hl⟩]
theorem zai {l:List D} (h:ev cl a ρ=some (x,.solid)) (hi:items x=some l):evi cl (.seq a) ρ=some (l,false):=by
 rw [evi,h,Option.bind_some,hi]; rfl
theorem zg2 {l:List D} (h:ev cl a ρ=some (x,.solid)) (hi:lsti x=some l):evi cl (.enum a) ρ=some (enumD 0 l,false):=by
 rw [evi,h,Option.bind_some,hi]; rfl
theorem zm7 {p:Bool} {d:D} (ha:ev cl a ρ=some (.bl true,f)) (hb:ev cl b ρ=some r):ev cl (.and a b) ρ=some r:=by
 rw [ev,ha,Option.bind_some]; exact hb
end
end PY
namespace PY
section
variable {cl:Nat→List D→Option D} {W:Nat} {ρ ρ':Rho} {a b c:E} {x y z:D} {f g:Fl} {r:R}
theorem zrj {lo hi:Eo} {l h:Option Int} (ha:ev cl a ρ=some (x,f)) (hl:evo cl lo ρ=some l) (hh:evo cl hi ρ=some h) (hs:slice x l h=some r):ev cl (.sl a lo hi) ρ=some r:=by
 rw [ev,ha,Option.bind_some,hl,Option.bind_some,hh,Option.bind_some,hs]
theorem zl5 {α:Type} (l:List α) (k:Nat):cutL l none (some (k:Int))=l.take k:=by
 unfold cutL six
 simp only [List.drop_zero,Nat.sub_zero]
 rw [if_neg (by lia),Int.toNat_natCast]
 rw [Nat.min_def]
 split
 ·rfl
 ·rename_i h
  rw [List.take_of_length_le (by lia),List.take_of_length_le (by lia)]
theorem zmf {α:Type} (l:List α) (k:Nat):cutL l (some (k:Int)) none=l.drop k:=by
 unfold cutL six
 simp only []
 rw [if_neg (by lia),Int.toNat_natCast]
 rw [Nat.min_def]
 split
 ·rw [List.take_of_length_le (by rw [List.length_drop]; lia)]
 ·rename_i h
  rw [List.drop_eq_nil_of_le (by lia),List.drop_eq_nil_of_le (by lia)]
  simp
end
end PY
namespace PY
theorem zk2 {α:Type} (q:α→Bool) (l:List α):(l.map fun d=>D.bl (q d)).all isBl=true:=by
 rw [List.all_map,List.all_eq_true]; intro _ _; rfl
end PY
namespace PY
theorem za8 {c:Rho→Option Bool} {f:Rho→Option Out} (P:Nat→Rho→Prop)
  (st:∀ m ρ,P m ρ→c ρ=some false∨(c ρ=some true∧∃ ρ' m',f ρ=some (.nx ρ')∧P m' ρ'∧m' < m)) :
  ∀ (N m:Nat) (ρ:Rho),P m ρ→m < N→∃ ρ' m',whileO c f N ρ=some (.nx ρ')∧P m' ρ'∧c ρ'=some false
 | 0,m,ρ,_,h=>absurd h (Nat.not_lt_zero _)
 | N+1,m,ρ,hp,hm=>by
  rcases st m ρ hp with hc | ⟨hc,ρ',m',e,hp',hlt⟩
  ·refine ⟨ρ,m,?_,hp,hc⟩
   simp only [whileO,hc,Option.bind_some]; rfl
  ·have q:whileO c f (N+1) ρ=whileO c f N ρ':=by
    simp only [whileO,hc,Option.bind_some,if_true,e]
   rw [q]
   exact za8 P st N m' ρ' hp' (by lia)
theorem zp8 {α:Type} (q:α→Bool) (l:List α):bltin .any (.lst (l.map fun d=>D.bl (q d)))=some (.bl (l.any q),.solid):=by
 show (if (l.map fun d=>D.bl (q d)).all isBl then some (D.bl ((l.map fun d=>D.bl (q d)).any D.truthy),Fl.solid) else none)=_
 rw [zk2,List.any_map]; rfl
end PY
namespace SD
open PySem PySem.Spec PyProof.Rows L2 PY
theorem Reps.rev {K:Frag} {F:Fz} {H:Hp}:∀ {ds:List D} {vs:List V},Reps K F H ds vs→Reps K F H ds.reverse vs.reverse
 | [],vs,h=>by rw [Reps] at h; subst h; exact .nil
 | d::ds,vs,h=>by
  rw [Reps] at h
  obtain ⟨v,r,rfl,h1,h2⟩:=h
  rw [List.reverse_cons,List.reverse_cons]
  exact (Reps.rev h2).append (.cons h1 .nil)
theorem zqs {X:Cx} {cl:Cl} {pos:Pos}:PE X (.Dict [] [] pos) (uE X.K cl .dic0):=by
 refine PE.imp zl6 fun σ H Q ⟨ρ,d,f,he,F,env,q⟩=>?_
 cases he
 exact fun p hp=>q _ F _ (Grow.loose hp) ⟨p,⟨rfl,fun z=>env.dom p z hp,[],.inl ⟨[],rfl,List.nodup_nil,rfl,zg⟩,.nil⟩,hp⟩
theorem zdt {K:Frag} {F:Fz} {H:Hp} (f:Nat→Int):∀ l:List Nat,Reps K F H (l.map fun i=>.int (f i)) (l.map fun i=>V.int (f i))
 | []=>.nil
 | i::r=>.cons zr (zdt f r)
theorem zpc {X:Cx} {cl:Cl} {a:Expr} {a':E} {pos p p2 p3:Pos} (hc:X.calm=true) (hg:Gl X "list") (hm:X.mg "list" = none) (hg2:Gl X "range") (hm2:X.mg "range" = none) (hs:∀ v p,a≠.Starred v p) (ha:PE X a (uE X.K cl a')) :
  PE X (.Call (.Name "list" p) [.Call (.Name "range" p2) [a] [] p3] [] pos) (uE X.K cl (.lrng (.rng1 a'))):=by
 refine PE.imp (zl1 hc hg hm hg2 hm2 (ze hs) ha) fun σ H Q ⟨ρ,d,f,he,F,env,q⟩=>?_
 rw [ev] at he
 obtain ⟨⟨ds,lent⟩,h1,he1⟩:=za he
 rw [evi] at h1
 obtain ⟨⟨dx,fx⟩,h2,h3⟩:=za h1
 obtain ⟨l,h4,e4⟩:=zb h3
 cases e4
 rw [if_pos (show isRng (.rng1 a')=true from rfl)] at he1
 cases he1
 refine ⟨ρ,dx,fx,h2,F,env,fun x F1 H1 g1 v1=>?_⟩
 cases dx with
 | int j =>
  simp only [range1] at h4
  split at h4
  ·rename_i hj
   cases h4
   unfold small at hj
   rw [Bool.and_eq_true,decide_eq_true_eq,decide_eq_true_eq] at hj
   rw [v1.now.int]
   refine ⟨j,rfl,hj.1,hj.2,fun l hl=>q _ F1 _ (g1.trans (Grow.loose hl)) ⟨l,zcv hl (env.grow g1).dom ?_,g1.free hl⟩⟩
   exact zdt (fun i=>0+(i:Nat)) _
  ·cases h4
 | _=>cases h4
def gNs:List Nat→TGs
 | []=>gNil
 | i::r=>gCons (gName i) (gNs r)
def uG (K:Frag):Tg→TG
 | .one i=>gName i
 | .many is=>gTup K is.length (gNs is)
def tgIs:Tg→List Nat
 | .one i=>[i]
 | .many is=>is
section
variable {K:Frag} {F:Fz} {H:Hp} {σ:St} {ρ:Rho}
theorem zaj {i j:Nat} {sl:Sl} {d:D} (h:mine (ρ.set i sl) j=some d):(i=j∧(Sl.thing sl)=some d∧i < ρ.length)∨(i≠j∧mine ρ j=some d):=by
 unfold mine at h
 rw [List.getElem?_set] at h
 by_cases hj:i=j
 ·rw [if_pos hj] at h
  by_cases hl:i < ρ.length
  ·rw [if_pos hl,Option.bind_some] at h
   exact .inl ⟨hj,h,hl⟩
  ·rw [if_neg hl] at h; cases h
 ·rw [if_neg hj] at h
  exact .inr ⟨hj,h⟩
theorem zb2 {i:Nat} {d:D} (h:mine ρ i=some d):∃ sl,ρ[i]? = some sl∧(Sl.thing sl)=some d:=za h
theorem zal {i:Nat} {sl:Sl} {d:D} (h:ρ[i]? = some sl) (h':(Sl.thing sl)=some d):mine ρ i=some d:=by unfold mine; rw [h]; exact h'
theorem EnvR.set (e:EnvR K F H σ ρ) {d:D} {v:V} (r:Rep K F H d v) (i:Nat):EnvR K F H (σ.set i (some v)) (ρ.set i (.val d)) where
 val:=fun j d' h=>by
  rw [List.getElem?_set] at h ⊢
  by_cases hj:i=j
  ·subst hj
   by_cases hl:i < ρ.length
   ·rw [if_pos rfl,if_pos hl] at h
    cases h
    rw [if_pos rfl,if_pos (by rw [e.len]; exact hl)]
    exact ⟨v,rfl,r⟩
   ·rw [if_pos rfl,if_neg hl] at h; cases h
  ·rw [if_neg hj] at h ⊢
   exact e.val j d' h
 own:=fun j l h=>by
  rcases zaj h with ⟨_,h,_⟩ | ⟨hj,h⟩
  ·cases h
  ·rw [List.getElem?_set,if_neg hj]
   exact e.own j l h
 dl:=fun j t ks ls h=>by
  rw [List.getElem?_set] at h
  by_cases hj:i=j
  ·rw [if_pos hj] at h
   split at h <;> cases h
  ·rw [if_neg hj] at h
   rw [List.getElem?_set,if_neg hj]
   exact e.dl j t ks ls h
 len:=by rw [List.length_set,List.length_set]; exact e.len
 dom:=e.dom
 tab:=e.tab
theorem zdl:∀ {is:List Nat} {ds:List D} {ρ ρ':Rho},setAll is ds ρ=some ρ'→is.length=ds.length
 | [],[],_,_,_=>rfl
 | [],_::_,_,_,h=>by cases h
 | _::_,[],_,_,h=>by cases h
 | i::is,d::ds,ρ,ρ',h=>by
  have:=zdl (is:=is) (ds:=ds) h
  simp [this]
theorem zgv {Q:St→Hp→Prop}:∀ {is:List Nat} {ds:List D} {xs:List V} {σ:St} {ρ ρ':Rho},EnvR K F H σ ρ→Reps K F H ds xs→setAll is ds ρ=some ρ' →
  (∀ σ',EnvR K F H σ' ρ'→(∀ j,j∉is→σ'[j]? = σ[j]?)→Q σ' H)→gNs is xs σ H Q
 | [],[],xs,σ,ρ,ρ',e,r,h,q=>by
  rw [Reps] at r; subst r
  cases h
  exact ⟨rfl,q σ e fun _ _=>rfl⟩
 | [],_::_,_,_,_,_,_,_,h,_=>by cases h
 | _::_,[],_,_,_,_,_,_,h,_=>by cases h
 | i::is,d::ds,xs,σ,ρ,ρ',e,r,h,q=>by
  rw [Reps] at r
  obtain ⟨v,w,rfl,h1,h2⟩:=r
  refine ⟨v,w,rfl,zgv (is:=is) (e.set h1 i) h2 h fun σ' e' k=>q σ' e' fun j hj=>?_⟩
  rw [k j fun z=>hj (List.mem_cons_of_mem _ z),List.getElem?_set,if_neg fun z=>hj (by rw [z]; exact List.mem_cons_self)]
theorem zi8 {Q:St→Hp→Prop} {t:Tg} {d:D} {v:V} {ρ':Rho} (e:EnvR K F H σ ρ) (r:Rep K F H d v) (h:give t d ρ=some ρ') (q:∀ σ',EnvR K F H σ' ρ'→(∀ j,j∉tgIs t→σ'[j]? = σ[j]?)→Q σ' H):uG K t v σ H Q:=by
 cases t with
 | one i =>
  cases h
  refine q _ (e.set r i) fun j hj=>?_
  rw [List.getElem?_set,if_neg fun z=>hj (by rw [z]; exact List.mem_singleton.mpr rfl)]
 | many is =>
  cases d with
  | tup ds =>
   rw [Rep] at r
   obtain ⟨a,xs,rfl,h1,h2⟩:=r
   have h:setAll is ds ρ=some ρ':=h
   exact ⟨a,xs,rfl,h1.seq,by rw [← h2.length,zdl h],zgv e h2 h q⟩
  | _=>cases h
theorem EnvR.inner (e:EnvR K F H σ ρ) (n:Nat) (keep:List Nat):EnvR K F H (caps n keep σ) (PY.inner ρ n keep) where
 val:=fun i d h=>by
  unfold PY.inner at h
  by_cases hi:i < n
  ·rw [List.getElem?_append_left (by simpa using hi),List.getElem?_replicate] at h
   split at h <;> cases h
  ·rw [List.getElem?_append_right (by simpa using hi),List.length_replicate,List.getElem?_map] at h
   cases e1:keep[i - n]? with
   | none=>rw [e1] at h; cases h
   | some j =>
    rw [e1] at h
    have h:ρ.getD j .no=.val d:=Option.some.inj h
    have hj:ρ[j]? = some (.val d):=by
     rw [List.getD] at h
     cases e2:ρ[j]? with
     | none=>rw [e2] at h; cases h
     | some z=>rw [e2] at h; exact congrArg some h
    obtain ⟨v,h1,h2⟩:=e.val j d hj
    refine ⟨v,?_,h2⟩
    unfold caps
    rw [List.getElem?_append_right (by simpa using hi),List.length_replicate,List.getElem?_map,e1]
    show some ((σ[j]?).join)=_
    rw [h1]; rfl
 own:=fun i l h=>by
  obtain ⟨sl,h,ht⟩:=zb2 h
  unfold PY.inner at h
  by_cases hi:i < n
  ·rw [List.getElem?_append_left (by simpa using hi),List.getElem?_replicate] at h
   split at h <;> cases h <;> cases ht
  ·rw [List.getElem?_append_right (by simpa using hi),List.length_replicate,List.getElem?_map] at h
   cases e1:keep[i - n]? with
   | none=>rw [e1] at h; cases h
   | some j =>
    rw [e1] at h
    have h:ρ.getD j .no=sl:=Option.some.inj h
    have hj:ρ[j]? = some sl:=by
     rw [List.getD] at h
     cases e2:ρ[j]? with
     | none=>rw [e2] at h; subst h; cases ht
     | some z=>rw [e2] at h; exact congrArg some h
    obtain ⟨a,h1,h2⟩:=e.own j l (zal hj ht)
    refine ⟨a,?_,h2⟩
    unfold caps
    rw [List.getElem?_append_right (by simpa using hi),List.length_replicate,List.getElem?_map,e1]
    show some ((σ[j]?).join)=_
    rw [h1]; rfl
 dl:=fun i t ks ls h=>by
  unfold PY.inner at h
  by_cases hi:i < n
  ·rw [List.getElem?_append_left (by simpa using hi),List.getElem?_replicate] at h
   split at h <;> cases h
  ·rw [List.getElem?_append_right (by simpa using hi),List.length_replicate,List.getElem?_map] at h
   cases e1:keep[i - n]? with
   | none=>rw [e1] at h; cases h
   | some j =>
    rw [e1] at h
    have h:ρ.getD j .no=.dl t ks ls:=Option.some.inj h
    have hj:ρ[j]? = some (.dl t ks ls):=by
     rw [List.getD] at h
     cases e2:ρ[j]? with
     | none=>rw [e2] at h; cases h
     | some z=>rw [e2] at h; exact congrArg some h
    obtain ⟨a,bs,h1,h2⟩:=e.dl j t ks ls hj
    refine ⟨a,bs,?_,h2⟩
    unfold caps
    rw [List.getElem?_append_right (by simpa using hi),List.length_replicate,List.getElem?_map,e1]
    show some ((σ[j]?).join)=_
    rw [h1]; rfl
 len:=by
  unfold caps PY.inner
  rw [List.length_append,List.length_append,List.length_replicate,List.length_replicate,List.length_map,List.length_map]
 dom:=e.dom
 tab:=e.tab
end
section
variable {K:Frag} {F F':Fz} {H H':Hp} {σ:St} {ρ:Rho}
def ItS (S:Hp→List V→Prop):It:=⟨fun i H=>∃ xs x,S H xs∧xs[i]? = some x,fun i H x H'=>H'=H∧∀ xs,S H xs→xs[i]? = some x,fun i H=>∃ xs,S H xs∧xs.length≤i⟩
theorem zmu {S:Hp→List V→Prop} {xs:List V} {l:List D} {P:Fz} (hs:∀ H1:Hp,(∀ b o,F b∨P b→NT o→H b=some o→H1 b=some o)→(∀ b ys,H b=some (.tup ys)→H1 b=some (.tup ys))→S H1 xs) (r:Reps K F H l xs) (hz:xs.length≤sizeLine):Iter K F H (ItS S) l P:=by
 refine ⟨by rw [r.length]; exact hz,fun i F1 H1 hF hk ht=>⟨fun d hd=>?_,fun hl=>⟨xs,hs H1 hk ht,by rw [← r.length]; exact hl⟩⟩⟩
 obtain ⟨v,h1,h2⟩:=r.get hd
 refine ⟨⟨xs,v,hs H1 hk ht,h1⟩,fun x H2 y=>?_⟩
 obtain ⟨rfl,y⟩:=y
 have:=y xs (hs _ hk ht)
 rw [h1] at this
 cases this
 exact ⟨F1,Grow.refl _ _,h2.keep ⟨hF,fun a o ha n e=>hk a o (.inl ha) n e,ht⟩⟩
theorem zrn {S:Hp→List V→Prop} {xs:List V} {l:List D} {P:Fz} (hs:∀ H1:Hp,(∀ b o,F b∨P b→NT o→H b=some o→H1 b=some o)→(∀ b ys,H b=some (.tup ys)→H1 b=some (.tup ys))→S H1 xs) (r:Reps K F H l xs) (hz:xs.length≤sizeLine):Iter K F H (Ite S) (enumD 0 l) P:=by
 refine ⟨by rw [zb5,r.length]; exact hz,fun i F1 H1 hF hk ht=>⟨fun d hd=>?_,fun hl=>⟨xs,hs H1 hk ht,by rw [← r.length,← zb5 l 0]; exact hl⟩⟩⟩
 obtain ⟨d1,hd1,rfl⟩:=zcg hd
 obtain ⟨v,h1,h2⟩:=r.get hd1
 refine ⟨⟨xs,v,hs H1 hk ht,h1⟩,fun x H2 y=>?_⟩
 obtain ⟨p,hp,rfl,y⟩:=y
 obtain ⟨x1,e1,rfl⟩:=y xs (hs _ hk ht)
 rw [h1] at e1
 cases e1
 refine ⟨addF F1 p,Grow.laid hp,?_⟩
 rw [Nat.zero_add]
 exact zgn hp (.cons zr (.cons (h2.keep ⟨hF,fun a o ha n e=>hk a o (.inl ha) n e,ht⟩) .nil))
theorem znb {lo:Int} {n:Nat} {P:Fz} (hz:n≤sizeLine):Iter K F H (Itr lo n) (rangeD lo n) P:=by
 have hl:(rangeD lo n).length=n:=by unfold rangeD; rw [List.length_map,List.length_range]
 refine ⟨by rw [hl]; exact hz,fun i F1 H1 hF hk ht=>⟨fun d hd=>?_,fun h=>by rw [hl] at h; exact h⟩⟩
 obtain ⟨h1,rfl⟩:=zbu hd
 refine ⟨h1,fun x H2 y=>?_⟩
 obtain ⟨rfl,rfl⟩:=y
 exact ⟨F1,Grow.refl _ _,zr⟩
theorem Val.walk {l:List D} {v:V} {H₀:Hp} {F₀ O:Fz} {f:Fl} (h:Val K F H (.lst l) v H₀ O f) (g:Grow F₀ H₀ F H):∃ (F1 P:Fz) (a:Addr) (xs:List V),Grow F₀ H₀ F1 H∧((f==Fl.peek)=false→∀ b,P b→F1 b)∧v=.ref a∧Reps K F1 H l xs∧SqL K H a xs ∧
  ∀ H1:Hp,(∀ b o,F1 b∨P b→NT o→H b=some o→H1 b=some o)→(∀ b ys,H b=some (.tup ys)→H1 b=some (.tup ys))→SqL K H1 a xs:=by
 cases f with
 | solid =>
  have h:Rep K F H (.lst l) v:=h
  rw [Rep] at h
  obtain ⟨a,xs,e,h1,h2⟩:=h
  refine ⟨F,fun _=>False,a,xs,g,fun _ b z=>z.elim,e,h2,h1.seq,fun H1 k _=>?_⟩
  rcases h1 with ⟨h1,h3⟩ | h1
  ·exact .inl (Rd.keep h3 fun o n e=>k a o (.inl h1) n e)
  ·exact h1 H1
 | fresh =>
  obtain ⟨a,lo,n⟩:=h
  obtain ⟨xs,e2,e3,e4,e5⟩:=lo.lst
  refine ⟨addF F a,fun _=>False,a,xs,g.prot n (by rw [e3]; simp),fun _ b z=>z.elim,e2,e5.keep Keep.prot,.of e3,fun H1 k _=>.of (k a _ (.inl (.inr rfl)) True.intro e3)⟩
 | peek =>
  obtain ⟨a,lo,n⟩:=h
  obtain ⟨xs,e2,e3,e4,e5⟩:=lo.lst
  exact ⟨F,fun b=>b=a,a,xs,g,fun z=>(by cases z),e2,e5,.of e3,fun H1 k _=>.of (k a _ (.inr rfl) True.intro e3)⟩
end
section
variable {X:Cx} {cl:Cl} {a b:Expr} {a' b':E} {pos:Pos} {tg:Expr}
theorem zrz (ha:PE X a (uE X.K cl a')):PI X tg a (uI X.K cl (.seq a')):=by
 intro pins s σ H R I ⟨ρ,ds,lent,he,F,env,q⟩
 rw [evi] at he
 obtain ⟨⟨d,f⟩,h1,he⟩:=za he
 obtain ⟨l,h2,he⟩:=zb he
 cases he
 cases d with
 | lst l' =>
  cases h2
  refine zlq ha pins s σ H R I ⟨ρ,_,f,h1,F,env,fun v F1 H1 g1 v1=>?_⟩
  obtain ⟨F2,P,p,xs,g2,hP,rfl,r2,sq,ks⟩:=v1.walk g1
  exact ⟨p,xs,rfl,sq,fun hz=>q _ F2 H1 P g2 hP (zmu (S:=fun H xs=>SqL X.K H p xs) ks r2 hz)⟩
 | tup l' =>
  cases h2
  refine zon ha pins s σ H R I ⟨ρ,_,f,h1,F,env,fun v F1 H1 g1 v1=>?_⟩
  obtain ⟨p,xs,rfl,h3,h4⟩:=v1.now.tup
  refine ⟨p,xs,rfl,h3.seq,fun hz=>q _ F1 H1 (fun _=>False) g1 (fun _ b z=>z.elim) (zmu (S:=fun H xs=>SqT X.K H p xs) (fun H2 _ k=>.inl (.inl (k p xs h3))) h4 hz)⟩
 | _=>cases h2
theorem zp2 {es:List Expr} {k:Nat} {pt p:Pos} (hg:Gl X "enumerate") (hm:X.mg "enumerate" = none) (hs:∀ v p,a≠.Starred v p) (ha:PE X a (uE X.K cl a')):PI X (.Tuple es k pt) (.Call (.Name "enumerate" p) [a] [] pos) (uI X.K cl (.enum a')):=by
 intro pins s σ H R I ⟨ρ,ds,lent,he,F,env,q⟩
 rw [evi] at he
 obtain ⟨⟨d,f⟩,h1,he⟩:=za he
 obtain ⟨l,h2,he⟩:=zb he
 cases he
 cases d with
 | lst l' =>
  cases h2
  refine zl4 hg hm (zq ha zak (hs:=ze hs)) (ze hs) pins s σ H R I ⟨ρ,_,f,h1,F,env,fun v F1 H1 g1 v1=>?_⟩
  obtain ⟨F2,P,p,xs,g2,hP,rfl,r2,sq,ks⟩:=v1.walk g1
  exact ⟨p,xs,rfl,sq,fun hz=>q _ F2 H1 P g2 hP (zrn (S:=fun H xs=>SqL X.K H p xs) ks r2 hz)⟩
 | _=>cases h2
theorem zrd {p:Pos} (hg:Gl X "range") (hm:X.mg "range" = none) (hs:∀ v p,a≠.Starred v p) (ha:PE X a (uE X.K cl a')):PI X tg (.Call (.Name "range" p) [a] [] pos) (uI X.K cl (.rng1 a')):=by
 refine PI.imp (zku hg hm (zq ha zak (hs:=ze hs)) (ze hs)) fun σ H R ⟨ρ,ds,lent,he,F,env,q⟩=>?_
 rw [evi] at he
 obtain ⟨⟨d,f⟩,h1,he⟩:=za he
 obtain ⟨l,h2,he⟩:=zb he
 cases he
 refine ⟨ρ,d,f,h1,F,env,fun v F1 H1 g1 v1=>?_⟩
 cases d with
 | int j =>
  simp only [range1] at h2
  split at h2
  ·rename_i hj
   cases h2
   unfold small at hj
   rw [Bool.and_eq_true,decide_eq_true_eq,decide_eq_true_eq] at hj
   rw [v1.now.int]
   exact ⟨j,rfl,by lia,by lia,q _ F1 H1 (fun _=>False) g1 (fun _ b z=>z.elim) (znb (Nat.le_trans (show j.toNat≤4000 by lia) (by decide)))⟩
  ·cases h2
 | _=>cases h2
theorem zq8 {p:Pos} (hg:Gl X "range") (hm:X.mg "range" = none) (hs:∀ v p,a≠.Starred v p) (hs2:∀ v p,b≠.Starred v p) (ha:PE X a (uE X.K cl a')) (hb:PE X b (uE X.K cl b')):PI X tg (.Call (.Name "range" p) [a,b] [] pos) (uI X.K cl (.rng2 a' b')):=by
 refine PI.imp (zi4 hg hm (zq ha (zq hb zak (hs:=ze hs2)) (hs:=ze hs)) (by rw [ze hs,ze hs2]; rfl) (ze hs2)) fun σ H R ⟨ρ,ds,lent,he,F,env,q⟩=>?_
 rw [evi] at he
 obtain ⟨⟨d,f⟩,h1,he⟩:=za he
 obtain ⟨⟨d2,f2⟩,h1',he⟩:=za he
 obtain ⟨l,h2,he⟩:=zb he
 cases he
 refine ⟨ρ,d,f,h1,F,env,fun v F1 H1 g1 v1=>⟨ρ,d2,f2,h1',F1,env.grow g1,fun v2 F2 H2 g2 v2'=>?_⟩⟩
 cases d with
 | int i =>
  cases d2 with
  | int j =>
   simp only [range2] at h2
   split at h2
   ·rename_i hj
    cases h2
    unfold small at hj
    simp only [Bool.and_eq_true,decide_eq_true_eq] at hj
    rw [v1.now.int,v2'.now.int]
    exact ⟨i,j,rfl,⟨by lia,by lia,by lia,by lia⟩,q _ F2 H2 (fun _=>False) (g1.trans g2) (fun _ b z=>z.elim) (znb (Nat.le_trans (show (j - i).toNat≤4000 by lia) (by decide)))⟩
   ·cases h2
  | _=>cases h2
 | _=>cases h2
end
section
variable {K:Frag} {cl:Cl}
theorem Grow.put {F F':Fz} {H H':Hp} {p:Addr} {o:HO} (g:Grow F H F' H') (h:H p=none) (hm:∀ u,H' p=some u→Chg u) (no:NT o:=by exact True.intro):Grow F H F' (upd H' p o) :=
 ⟨g.sub,fun b u e n=>by rw [zj (zh e h)]; exact g.same b u e n,g.tab.trans (.upd hm no),fun a z=>(g.new a z).imp id fun ⟨h1,h2⟩=>⟨h1,by
  by_cases e:a=p
  ·rw [e,zg]; simp
  ·rw [zj e]; exact h2⟩⟩
theorem Keep.put {F:Fz} {H:Hp} {p:Addr} {o:HO} (h:¬ F p) (nt:∀ xs,H p≠some (.tup xs)):Keep F H F (upd H p o) :=
 ⟨fun _ z=>z,fun a u ha _ e=>by rw [zj (fun z=>h (by rw [← z]; exact ha))]; exact e,fun a xs e=>by rw [zj (fun z=>nt xs (by rw [← z]; exact e))]; exact e⟩
theorem zb3 {H:Hp} {p:Addr} {ys:List V} (h:H p=some (.lst ys)):∀ xs,H p≠some (.tup xs):=fun xs z=>by rw [h] at z; cases z
theorem zpi {K:Frag} {F:Fz} {H:Hp} {p:Addr} {d:D} (h:Cont K F H p d):∀ xs,H p≠some (.tup xs):=fun xs z=>by
 cases d with
 | lst l=>obtain ⟨ys,h,_⟩:=h; exact zb3 h xs z
 | dic ks vs=>obtain ⟨us,h,_⟩:=h; exact h.not_tup z
 | _=>exact h.elim
theorem zbm:∀ {is:List Nat} {ds:List D} {ρ ρ':Rho},setAll is ds ρ=some ρ'→ρ'.length=ρ.length
 | [],[],_,_,h=>by cases h; rfl
 | [],_::_,_,_,h=>by cases h
 | _::_,[],_,_,h=>by cases h
 | i::is,d::ds,ρ,ρ',h=>by
  have:=zbm (is:=is) (ds:=ds) h
  rw [this,List.length_set]
theorem zlm {t:Tg} {d:D} {ρ ρ':Rho} (h:give t d ρ=some ρ'):ρ'.length=ρ.length:=by
 cases t with
 | one i=>cases h; rw [List.length_set]
 | many is =>
  cases d with
  | tup ds=>exact zbm h
  | _=>cases h
theorem zb1 {d d':D} {f:Fl} (h:solid? (d,f)=some d'):f≠.peek∧d'=d:=by
 cases f <;> first | (cases h; done) | (cases h; exact ⟨fun z=>(by cases z),rfl⟩)
theorem zrg {X:Cx} {cl:Cl} {k v:Expr} {k' v':E} {pos:Pos} (hu:X.A.units+64 < cLine) (hk:PE X k (uE X.K cl k')) (hv:PE X v (uE X.K cl v')):PE X (.Dict [some k] [v] pos) (uE X.K cl (.dic1 k' v')):=by
 intro pins s σ H Q I ⟨ρ,d,f,he,F,env,q⟩
 rw [ev] at he
 obtain ⟨⟨dx,fx⟩,h1,he1⟩:=za he
 obtain ⟨⟨dy,fy⟩,h2,he2⟩:=za he1
 obtain ⟨i,h3,he3⟩:=za he2
 obtain ⟨d',h4,he4⟩:=zb he3
 cases he4
 obtain ⟨hf,rfl⟩:=zb1 h4
 have ek:dx=.int i:=by
  cases dx <;> first | (cases h3; rfl) | cases h3
 subst ek
 refine zoe (zli hk hv znw) rfl rfl (by simp) (by simp) pins s σ H Q I fun p hp=>?_
 have g0:Grow F H F (upd H p (.dK [])):=Grow.loose hp
 refine ⟨ρ,_,fx,h1,F,env.grow g0,fun x F1 H1 g1 v1=>⟨ρ,d',fy,h2,F1,(env.grow g0).grow g1,fun y F2 H2 g2 v2=>?_⟩⟩
 obtain ⟨F3,g3,k3,r3⟩:=v2.firm hf g2
 have ex:=v1.now.int
 subst ex
 have gg:Grow F (upd H p (.dK [])) F3 H2:=g1.trans g3
 have hp2:H2 p=some (.dK []):=gg.same _ _ zg
 have nF:¬ F3 p:=fun z=>(gg.new p z).elim (fun z=>env.dom p z hp) fun ⟨n,_⟩=>by rw [zg] at n; cases n
 have nt:∀ xs,H2 p≠some (.tup xs):=fun xs z=>by rw [hp2] at z; cases z
 refine ⟨hp2,[(Sum.inl i,y)],rfl,by simp,q _ F3 _ ((g0.trans gg).put hp fun u z=>by rw [hp2] at z; cases z; exact True.intro) ⟨p,⟨rfl,nF,[y],.inl ⟨[i],rfl,by simp,rfl,zg⟩,.cons (r3.keep (Keep.put nF nt)) .nil⟩,hp⟩⟩
theorem ze8 {e:E} {t:Tg} {it:I} {c:Eo} {n:Nat} {keep:List Nat} (ht:∀ j∈tgIs t,j < n) {σ:St} {H:Hp} {Q:VK} (h:uE K cl (.comp e t it c n keep) σ H Q):tComp (uI K cl it) n keep (uG K t) (uC K cl c) (uE K cl e) σ H Q:=by
 obtain ⟨ρ,d,fl0,he,F,env,q⟩:=h
 rw [ev] at he
 obtain ⟨⟨ds,lent⟩,hi,he⟩:=za he
 obtain ⟨zs,hz,he⟩:=zb he
 cases he
 obtain ⟨f,hf,hz⟩:∃ f:D→Option (Option D),(∀ d,f d=(give t d (PY.inner ρ n keep)).bind fun ρ'=>(evc cl c ρ').bind fun k=>if k then (ev cl e ρ').bind fun r=>(solid? r).map some else some none)∧filterMapO f ds=some zs:=⟨_,fun _=>rfl,hz⟩
 refine ⟨ρ,ds,lent,hi,F,env,fun J F1 H1 P g1 hP iter acc hacc=>?_⟩
 refine ⟨fun i m ys Hc=>m=ds.length - i∧i≤ds.length∧∃ (Fc:Fz) (z1 z2:List D),Hc acc=some (.lst ys)∧¬ Fc acc∧Grow F1 H1 Fc Hc∧Reps K Fc Hc z1 ys∧filterMapO f (ds.drop i)=some z2∧zs=z1++z2∧z1.length≤i,
  ⟨ds.length,by simp,Nat.zero_le _,F1,[],zs,zg,fun z=>(env.grow g1).dom acc z hacc,Grow.loose hacc,.nil,by rw [List.drop_zero]; exact hz,rfl,Nat.le_refl _⟩,?_⟩
 rintro i m ys Hc ⟨rfl,hi,Fc,z1,z2,hc,nF,gc,rs,hz2,ez,hl1⟩
 refine ⟨hc,?_⟩
 have itr:=iter.2 i Fc Hc gc.sub (fun a o _ n z=>gc.same a o z n) fun a _ z=>gc.same a _ z
 have out:∀ {F5:Fz} {H5:Hp},Grow Fc Hc F5 H5→¬ F5 acc:=fun g z=>(g.new acc z).elim nF fun ⟨n,_⟩=>(by rw [n] at hc; cases hc)
 by_cases hlt:i < ds.length
 ·refine .inr ⟨(itr.1 ds[i] (by simp [hlt])).1,fun x H2 y=>?_⟩
  obtain ⟨F2,g2,r2⟩:=(itr.1 ds[i] (by simp [hlt])).2 x H2 y
  rw [List.drop_eq_getElem_cons hlt] at hz2
  rw [filterMapO] at hz2
  obtain ⟨y1,hy1,hz2⟩:=za hz2
  obtain ⟨z3,hz3,hz2⟩:=zb hz2
  rw [hf] at hy1
  obtain ⟨ρ',hg,hy1⟩:=za hy1
  obtain ⟨k,hk,hy1⟩:=za hy1
  have env2:=(((env.grow g1).grow gc).grow g2).inner n keep
  refine zi8 env2 r2 hg fun σ2 env3 hσ=>⟨⟨by rw [env2.len,env3.len,zlm hg],fun j v hj=>?_⟩,ρ',k,hk,F2,env3,fun F3 H3 g3=>?_⟩
  ·rw [hσ j fun z=>?_]
   ·exact hj
   ·have:=ht j z
    unfold caps at hj
    rw [List.getElem?_append_left (by simpa using this),List.getElem?_replicate] at hj
    split at hj <;> cases hj
  ·have gd:Grow Fc Hc F3 H3:=g2.trans g3
   dsimp only
   cases k with
   | false =>
    rw [if_neg Bool.false_ne_true] at hy1 ⊢
    cases hy1
    exact ⟨ds.length - (i+1),by lia,rfl,hlt,F3,z1,z3,gd.same _ _ hc,out gd,gc.trans gd,rs.grow gd,hz3,by rw [ez,← hz2],by lia⟩
   | true =>
    rw [if_pos rfl] at hy1 ⊢
    obtain ⟨⟨d',fl⟩,hev,hy1⟩:=za hy1
    obtain ⟨d2,hs,hy1⟩:=zb hy1
    subst hy1
    obtain ⟨hfl,rfl⟩:=zb1 hs
    refine ⟨ρ',d2,fl,hev,F3,env3.grow g3,fun y F4 H4 g4 v4=>?_⟩
    obtain ⟨F5,g5,k5,r5⟩:=v4.firm hfl g4
    have ge:Grow Fc Hc F5 H4:=gd.trans g5
    refine ⟨ge.same _ _ hc,?_,ds.length - (i+1),by lia,rfl,hlt,F5,z1++[d2],z3,zg,out ge,(gc.trans ge).put hacc (fun u z=>by rw [ge.same _ _ hc] at z; cases z; exact True.intro),((rs.grow ge).snoc r5).keep (Keep.put (out ge) (zb3 (ge.same _ _ hc))),hz3,?_,?_⟩
    ·have:=rs.length
     have:=iter.1
     lia
    ·rw [ez,← hz2,List.append_assoc]; rfl
    ·rw [List.length_append,List.length_singleton]; lia
 ·have e:i=ds.length:=by lia
  subst e
  rw [List.drop_length] at hz2
  cases hz2
  rw [List.append_nil] at ez
  subst ez
  exact .inl ⟨itr.2 (Nat.le_refl _),q _ Fc Hc (g1.trans gc) ⟨acc,⟨rfl,nF,ys,hc,rs⟩,g1.free hacc⟩⟩
end
end SD
namespace SD
open PySem PySem.Spec PyProof.Rows L2 PY
section
variable {cf:Cfg} {cl:Cl} {sc:Scope} {N:List Str} {X:Cx}
theorem zbc {scope:Scope} {N':List Str} {C:Addr} {fp:List Addr} {pins:List (Addr×Obj)} {s:Shared} {H:Hp} (x:Str):(blockCx X N' scope C fp pins s H).env.scope.names.lookup x =
  (scope.names.lookup x).map fun k=>if (k==NameKind.free&&X.env.scope.kind == .function&&X.env.kindOf x==some .cell) then NameKind.cell else k:=zaw
theorem Ctx.block (c:Ctx cf cl sc N X) (scope:Scope) (nc:scope.names.all (fun p=>p.2 != .cell)=true) {N':List Str} (nd:N'.Nodup) (C:Addr) (fp:List Addr) (pins:List (Addr×Obj)) (s:Shared) (H:Hp):Ctx cf cl scope N' (blockCx X N' scope C fp pins s H) where
 hN:=rfl
 nd:=nd
 calm:=c.calm
 xe:=rfl
 vis:=fun x h=>by
  unfold PY.seen at h
  unfold Vis
  rw [zbc]
  cases e:scope.names.lookup x with
  | none=>rw [e] at h; cases h
  | some k =>
   rw [e] at h
   cases k <;> first | (cases h; done) | skip
   ·exact .inl rfl
   ·exact .inr (.inl rfl)
   ·simp only [Option.map_some]
    split
    ·exact .inr (.inl rfl)
    ·exact .inr (.inr rfl)
 glo:=fun x h=>by
  unfold gl at h
  show (blockCx X N' scope C fp pins s H).env.scope.names.lookup x=_
  rw [zbc]
  cases e:scope.names.lookup x with
  | none=>rw [e] at h; cases h
  | some k =>
   rw [e] at h
   cases k <;> first | (cases h; done) | rfl
 cap:=fun x h=>by
  unfold capt at h
  show (blockCx X N' scope C fp pins s H).env.scope.names.lookup x=_∨(blockCx X N' scope C fp pins s H).env.scope.names.lookup x=_
  rw [zbc]
  cases e:scope.names.lookup x with
  | none=>rw [e] at h; cases h
  | some k =>
   rw [e] at h
   cases k <;> first | (cases h; done) | skip
   ·exact .inl rfl
   ·simp only [Option.map_some]
    split
    ·exact .inl rfl
    ·exact .inr rfl
 loc:=fun x h=>by
  unfold isLocal at h
  rw [zbc]
  cases e:scope.names.lookup x with
  | none=>rw [e] at h; cases h
  | some k =>
   rw [e] at h
   cases k <;> first | (cases h; done) | rfl
 top:={
  fn:=c.top.fn
  bl:=c.top.bl
  con:=c.top.con
  un:=c.top.un}
 lam:=fun _ h=>by
  obtain ⟨p,hp,hc⟩:=List.any_eq_true.mp h
  have:=List.all_eq_true.mp nc p hp
  rw [beq_iff_eq.mp hc] at this
  cases this
theorem zam:∀ {T:List Str} {is:List Nat},allIdx N T=some is→is.length=T.length∧∀ (k:Nat) (x:Str),T[k]? = some x→∃ j,is[k]? = some j∧N[j]? = some x
 | [],is,h=>by cases h; exact ⟨rfl,fun k x e=>by simp at e⟩
 | y::T,is,h=>by
  obtain ⟨i,h1,h⟩:=za (show (idx N y).bind (fun i=>(allIdx N T).map (i::·))=some is from h)
  obtain ⟨r,h2,rfl⟩:=zb h
  obtain ⟨l,ih⟩:=zam h2
  refine ⟨by simp [l],fun k x e=>?_⟩
  cases k with
  | zero=>simp at e; subst e; exact ⟨i,rfl,za0 h1⟩
  | succ k=>simpa using ih k x (by simpa using e)
theorem zet (nd:X.N.Nodup):∀ {es:List Expr} {T:List Str} {is:List Nat},PY.namesOf es=some T→is.length=T.length→(∀ (k:Nat) (x:Str),T[k]? = some x→∃ j,is[k]? = some j∧X.N[j]? = some x)→(∀ x∈T,Loc X.env.scope x∧(X.fn x=true∨X.env.scope.names.lookup x=some .local)) →
  PGs X es (gNs is)∧(assignEach es X.env).length=is.length∧(assignEach es X.env).findIdx? (·.1)=none
 | [],T,is,h,hl,hi,hx=>by
  cases h
  have:is=[]:=List.eq_nil_of_length_eq_zero hl
  subst this
  exact ⟨zo3,rfl,rfl⟩
 | e::es,T,is,h,hl,hi,hx=>by
  cases e <;> first | (cases h; done) | skip
  rename_i x pos
  obtain ⟨T',h1,rfl⟩:=zb (show (PY.namesOf es).map (x::·)=some T from h)
  cases is with
  | nil=>cases hl
  | cons i is =>
   obtain ⟨p1,p2,p3⟩:=zet nd (es:=es) (T:=T') (is:=is) h1 (by simpa using hl) (fun k x e=>by simpa using hi (k+1) x (by simpa using e)) fun y hy=>hx y (List.mem_cons_of_mem _ hy)
   obtain ⟨j,e1,e2⟩:=hi 0 x rfl
   simp at e1; subst e1
   obtain ⟨l1,l2⟩:=hx x List.mem_cons_self
   refine ⟨zl2 (zfz nd e2 l1 l2) p1 (hs:=rfl),?_,?_⟩
   ·show (assignEach es X.env).length+1=is.length+1
    rw [p2]
   ·show List.findIdx? (·.1) ((false,assign (.Name x pos) X.env)::assignEach es X.env)=none
    rw [List.findIdx?_cons,p3]
    rfl
theorem zml (nd:X.N.Nodup) (hc:X.calm=true) {tg:Expr} {one:Bool} {T:List Str} {is:List Nat} {t:Tg} (h:tgNames tg=some (one,T)) (hl:is.length=T.length) (hi:∀ (k:Nat) (x:Str),T[k]? = some x→∃ j,is[k]? = some j∧X.N[j]? = some x) (ht:tgOf one is=some t) (hx:∀ x∈T,Loc X.env.scope x∧(X.fn x=true∨X.env.scope.names.lookup x=some .local)) :
  PG X tg (uG X.K t)∧tgIs t=is:=by
 cases tg with
 | Tuple es k pos =>
  obtain ⟨T',h1,h2⟩:=zb (show (PY.namesOf es).map (fun l=>(false,l))=some (one,T) from h)
  cases h2
  cases ht
  obtain ⟨p1,p2,p3⟩:=zet nd h1 hl hi hx
  exact ⟨zq9 hc p1 p2 p3,rfl⟩
 | Name x pos =>
  cases h
  cases is with
  | nil=>cases hl
  | cons i is =>
   have:is=[]:=List.eq_nil_of_length_eq_zero (by simpa using hl)
   subst this
   cases ht
   obtain ⟨j,e1,e2⟩:=hi 0 x rfl
   simp at e1; subst e1
   obtain ⟨l1,l2⟩:=hx x List.mem_cons_self
   exact ⟨zfz nd e2 l1 l2,rfl⟩
 | _=>cases h
theorem zhx {es:List Expr} {env:Env} {pos:Pos} (h:∀ e∈es,∀ v p,e≠.Starred v p):(backTo pos (starEach es env)).any (·.1)=false:=by
 induction es with
 | nil=>rfl
 | cons e r ih =>
  rw [ze (h e List.mem_cons_self)]
  show (false||(backTo pos (starEach r env)).any (·.1))=false
  rw [ih fun e' he=>h e' (List.mem_cons_of_mem _ he)]
  rfl
end
structure Snd (cf:Cfg) (cl:Cl) (n:Nat):Prop where
 e:∀ sc N X x x',Ctx cf cl sc N X→cE cf n sc N x=some x'→PE X x (uE X.K cl x')∧PT X x (uT X.K cl x')
 an:∀ sc N X xs x' pos,Ctx cf cl sc N X→cAnd cf n sc N xs=some x'→PE X (.BoolOp .And xs pos) (uE X.K cl x')∧PW X (.BoolOp .And xs pos) (uT X.K cl x')
 or:∀ sc N X xs x' pos,Ctx cf cl sc N X→cOr cf n sc N xs=some x'→PE X (.BoolOp .Or xs pos) (uE X.K cl x')∧PW X (.BoolOp .Or xs pos) (uT X.K cl x')
 es:∀ sc N X xs xs',Ctx cf cl sc N X→cEs cf n sc N xs=some xs'→PA X xs (uA X.K cl xs')∧∀ e∈xs,∀ v p,e≠.Starred v p
 eo:∀ sc N X o o',Ctx cf cl sc N X→cEo cf n sc N o=some o'→PO X o (uO X.K cl o')
 it:∀ sc N X tg x i',Ctx cf cl sc N X→cI cf n sc N x=some i'→enumOk i' tg=true→PI X tg x (uI X.K cl i')∧∀ v,foldedSetIterable x X.env v=pure v
theorem zaf {cf:Cfg} {n:Nat} {sc:Scope} {N:List Str} {x:Expr} {x':E} (h:cE cf n sc N x=some x'):∀ v p,x≠.Starred v p:=by
 rintro v p rfl
 cases n <;> cases h
theorem zna {cf:Cfg} {n:Nat} {sc:Scope} {N:List Str} {x:Expr} {x':E} (h:cE cf n sc N x=some x') (env:Env):∀ v,foldedSetIterable x env v=pure v:=by
 intro v
 cases x <;> first | rfl | (cases n <;> cases h)
theorem zbg {X:Cx} {cl:Cl} {x:Expr} {x':E} (h:∀ ρ,evT cl x' ρ=none):PT X x (uT X.K cl x'):=by
 intro pins s σ H Q I ⟨ρ,k,he,_,_,_⟩
 rw [h] at he
 cases he
theorem zhi {sc:Scope} {x:Str}:(x,NameKind.free)∈sc.names↔x∈frees sc:=by
 unfold frees
 rw [List.mem_map]
 constructor
 ·intro h
  exact ⟨(x,.free),List.mem_filter.mpr ⟨h,rfl⟩,rfl⟩
 ·rintro ⟨⟨y,k⟩,h,rfl⟩
  obtain ⟨h1,h2⟩:=List.mem_filter.mp h
  have:k=.free:=by simpa using h2
  subst this
  exact h1
theorem zhh {n:Nat} {one:Bool} {t:Tg} (h:tgOf one (List.range n)=some t):∀ j∈tgIs t,j < n:=by
 unfold tgOf at h
 cases one with
 | false=>cases h; intro j hj; exact List.mem_range.mp hj
 | true =>
  rw [if_pos rfl] at h
  split at h
  ·rename_i i e
   cases h
   intro j hj
   have:j∈List.range n:=by rw [e]; exact hj
   exact List.mem_range.mp this
  ·cases h
theorem zdj {cf:Cfg} {cl:Cl} {n:Nat} (S:Snd cf cl n) {sc:Scope} {N:List Str} {X:Cx} (c:Ctx cf cl sc N X) {elt tg:Expr} {ifs:List Expr} {scope:Scope} {one:Bool} {T:List Str} {keep:List Nat} {i:I} {t:Tg} {co:Eo} {e:E}
  (h1:tgNames tg=some (one,T)) (h2:allIdx N (frees scope)=some keep) (g1:enumOk i tg=true) (g2:(T++frees scope).Nodup) (g3:T.all (isLocal scope)=true)
  (g5:scope.names.all (fun p=>p.2 != .cell)=true) (g6:scope.names.all (fun p=>scope.names.lookup p.1==some p.2)=true) (g7:(frees scope).all (capt sc)=true)
  (h4:tgOf one (List.range T.length)=some t) (h5:(match ifs with | []=>some Eo.no | [c]=>(cE cf n scope (T++frees scope) c).map Eo.so | _=>none)=some co) (h6:cE cf n scope (T++frees scope) elt=some e) :
  (∀ y∈scope.names,y.2≠.cell)∧(∀ y∈scope.names,scope.names.lookup y.1=some y.2)∧(∀ x,(x,NameKind.free)∈scope.names→X.env.kindOf x=some .cell∨X.env.kindOf x=some .free)∧(T++frees scope).length=T.length+keep.length ∧
   (∀ (k:Nat) (x:Str),(T++frees scope)[T.length+k]? = some x→(x,NameKind.free)∈scope.names∧∃ j,keep[k]? = some j∧X.N[j]? = some x) ∧
   ∀ C fp pins s H,PG (blockCx X (T++frees scope) scope C fp pins s H) tg (uG X.K t)∧PTs (blockCx X (T++frees scope) scope C fp pins s H) ifs (uC X.K cl co)∧PE (blockCx X (T++frees scope) scope C fp pins s H) elt (uE X.K cl e):=by
 obtain ⟨kl,ki⟩:=zam h2
 refine ⟨fun y hy=>?_,fun y hy=>?_,fun x hx=>?_,?_,fun k x hk=>?_,fun C fp pins s H=>?_⟩
 ·have:=List.all_eq_true.mp g5 y hy
  simpa using this
 ·have:=List.all_eq_true.mp g6 y hy
  simpa using this
 ·exact c.cap x (List.all_eq_true.mp g7 x (zhi.mp hx))
 ·rw [List.length_append,kl]
 ·rw [List.getElem?_append_right (by lia),show T.length+k - T.length=k by lia] at hk
  refine ⟨zhi.mpr (List.mem_of_getElem? hk),?_⟩
  rw [c.hN]
  exact ki k x hk
 ·have c':=c.block scope g5 (N':=T++frees scope) g2 C fp pins s H
  refine ⟨?_,?_,(S.e scope _ _ elt e c' h6).1⟩
  ·refine (zml c'.nd c'.calm h1 (by rw [List.length_range]) (fun k x hk=>?_) h4 fun x hx=>?_).1
   ·have hl:k < T.length:=(List.getElem?_eq_some_iff.mp hk).1
    refine ⟨k,by rw [List.getElem?_range hl],?_⟩
    show (T++frees scope)[k]? = some x
    rw [List.getElem?_append_left hl]
    exact hk
   ·have:=c'.loc x (List.all_eq_true.mp g3 x hx)
    exact ⟨.inl this,.inr this⟩
  ·match ifs,h5 with
   | [],h5 =>
    cases h5
    refine PTs.imp zoy fun σ H Q ⟨ρ,k,he,F,env,q⟩=>?_
    cases he
    exact q F H (Grow.refl F H)
   | [c1],h5 =>
    obtain ⟨c2,h7,rfl⟩:=zb h5
    exact PTs.imp (zpb (S.e scope _ _ c1 c2 c' h7).2) fun σ H Q ⟨ρ,k,he,F,env,q⟩=>⟨ρ,k,he,F,env,q⟩
   | _::_::_,h5=>cases h5
theorem zlp {cf:Cfg} {cl:Cl} {n:Nat} (S:Snd cf cl n) {sc:Scope} {N:List Str} {X:Cx} (c:Ctx cf cl sc N X) {elt tg it:Expr} {ifs:List Expr} {scope:Scope} {pos:Pos} {one:Bool} {T:List Str} {keep:List Nat} {i:I} {t:Tg} {co:Eo} {e:E}
  (h1:tgNames tg=some (one,T)) (h2:allIdx N (frees scope)=some keep) (h3:cI cf n sc N it=some i) (g1:enumOk i tg=true) (g2:(T++frees scope).Nodup) (g3:T.all (isLocal scope)=true) (g4:scope.kind=.function)
  (g5:scope.names.all (fun p=>p.2 != .cell)=true) (g6:scope.names.all (fun p=>scope.names.lookup p.1==some p.2)=true) (g7:(frees scope).all (capt sc)=true)
  (h4:tgOf one (List.range T.length)=some t) (h5:(match ifs with | []=>some Eo.no | [c]=>(cE cf n scope (T++frees scope) c).map Eo.so | _=>none)=some co) (h6:cE cf n scope (T++frees scope) elt=some e) :
  PE X (.ListComp elt [⟨tg,it,ifs,0⟩] scope pos) (uE X.K cl (.comp e t i co T.length keep)):=by
 obtain ⟨pi,fs⟩:=S.it sc N X tg it i c h3 g1
 obtain ⟨b1,b2,b3,b4,b5,b6⟩:=zdj S c h1 h2 g1 g2 g3 g5 g6 g7 h4 h5 h6
 exact PE.imp (zlz (N':=T++frees scope) (n:=T.length) (keep:=keep) (wi:=uI X.K cl i) (g:=uG X.K t) (tc:=uC X.K cl co) (te:=uE X.K cl e) c.calm g4 b1 b2 b3 b4 b5 pi b6 fs) fun σ H Q h=>ze8 (zhh h4) h
theorem zhr {e:Expr} {x:Str} (h:nameOf e=some x):∃ p,e=.Name x p:=by
 cases e <;> first | (cases h; done) | skip
 cases h
 exact ⟨_,rfl⟩
theorem zkx {α:Type} {l:List α} {a:α} (h:oneOf l=some a):l=[a]:=by
 cases l with
 | nil=>cases h
 | cons x l=>cases l with
  | nil=>cases h; rfl
  | cons y l=>cases h
theorem zdq {e:Expr} {x:Str} {as:List Expr} (h:callOf e=some (x,as)):∃ p q,e=.Call (.Name x p) as [] q:=by
 cases e <;> first | (cases h; done) | skip
 rename_i f as' ks p
 cases ks with
 | cons _ _=>cases h
 | nil =>
  obtain ⟨y,h1,h2⟩:=zb (show (nameOf f).map (fun x=>(x,as'))=some (x,as) from h)
  cases h2
  obtain ⟨p',rfl⟩:=zhr h1
  exact ⟨_,_,rfl⟩
theorem zme {x y:Str} {a a1:Expr} {b:Bi} (h:PY.nest x a=some (y,b,a1)):∃ py pc,a=.Call (.Name y py) [a1] [] pc∧(
  (x = "len"∧y = "set"∧b=.lenset) ∨
  False):=by
 unfold PY.nest at h
 obtain ⟨⟨y1,as⟩,u1,hA⟩:=za h
 clear h
 obtain ⟨a0,u2,h⟩:=za hA
 clear hA
 obtain ⟨py,pc,rfl⟩:=zdq u1
 cases zkx u2
 ·skip
  split at h
  ·rename_i g
   rw [Bool.and_eq_true] at g
   cases h
   exact ⟨_,_,rfl,.inl ⟨beq_iff_eq.mp g.1,beq_iff_eq.mp g.2,rfl⟩⟩
  cases h
theorem zkt {x:Str} {a a1:Expr} (h:rangeArg x a=some a1):∃ py pc,a=.Call (.Name "range" py) [a1] [] pc∧x = "list":=by
 unfold rangeArg at h
 obtain ⟨⟨y1,as⟩,u1,hA⟩:=za h
 clear h
 obtain ⟨py,pc,rfl⟩:=zdq u1
 have h:=hA
 clear hA
 dsimp only at h
 split at h
 ·rename_i g
  rw [Bool.and_eq_true] at g
  cases zkx h
  exact ⟨_,_,by rw [beq_iff_eq.mp g.2],beq_iff_eq.mp g.1⟩
 ·cases h
theorem zgq {cl:Cl} {o:Option R} {k:Bool} (h:(o.bind fun r=>tru r.1)=some k):∃ d f,o=some (d,f)∧tru d=some k:=by
 obtain ⟨⟨d,f⟩,h1,h2⟩:=za h
 exact ⟨d,f,h1,h2⟩
theorem zsv {cf:Cfg} {cl:Cl} {n:Nat} (S:Snd cf cl n) (sc:Scope) (N:List Str) (X:Cx) (x:Expr) (x':E) (c:Ctx cf cl sc N X) (h:cE cf (n+1) sc N x=some x'):PE X x (uE X.K cl x')∧PT X x (uT X.K cl x'):=by
 have hu:=c.top.un
 unfold cE at h
 split at h
 ·obtain ⟨c',h1,rfl⟩:=zb h
  exact ⟨zru h1,zen (zru h1) (fun _=>rfl) fun ρ k hk=>⟨_,_,rfl,hk⟩⟩
 ·rename_i xn pn
  obtain ⟨g,h⟩:=zf h
  obtain ⟨n1,n2,n3⟩:=zbl g
  split at h
  ·rename_i hs
   obtain ⟨i,h1,rfl⟩:=zb h
   have hv:X.N[i]? = some xn:=by rw [c.hN]; exact za0 h1
   exact ⟨zrv hv (c.vis _ hs) n1 n2,zen (zrv hv (c.vis _ hs) n1 n2) (fun _=>rfl) fun ρ k hk=>by rw [evT] at hk; obtain ⟨d,f,a,b⟩:=zgq (cl:=cl) hk; exact ⟨d,f,by rw [ev]; exact a,b⟩⟩
  ·obtain ⟨g2,h⟩:=zf h
   obtain ⟨cn,h1,rfl⟩:=zb h
   obtain ⟨u,m1,m2⟩:=c.top.con _ _ h1
   exact ⟨zm8 (c.glo _ g2) m1 m2 n1,zen (zm8 (c.glo _ g2) m1 m2 n1) (fun _=>rfl) fun ρ k hk=>⟨_,_,rfl,hk⟩⟩
 ·obtain ⟨o',h1,h⟩:=za h
  obtain ⟨a',h2,h⟩:=za h
  obtain ⟨b',h3,rfl⟩:=zb h
  exact ⟨zr5 h1 (S.e _ _ _ _ _ c h2).1 (S.e _ _ _ _ _ c h3).1,zbg fun ρ=>by rw [evT] <;> simp⟩
 ·obtain ⟨a',h2,rfl⟩:=zb h
  exact ⟨zsu (S.e _ _ _ _ _ c h2).1,zr1 (S.e _ _ _ _ _ c h2).2⟩
 ·obtain ⟨a',h2,rfl⟩:=zb h
  exact ⟨zss (S.e _ _ _ _ _ c h2).1,zbg fun ρ=>by rw [evT] <;> simp⟩
 ·obtain ⟨p,q⟩:=S.an _ _ _ _ _ _ c h
  exact ⟨p,q.pt⟩
 ·obtain ⟨p,q⟩:=S.or _ _ _ _ _ _ c h
  exact ⟨p,q.pt⟩
 ·obtain ⟨g,h⟩:=zf h
  rw [Bool.and_eq_true,Bool.not_eq_true'] at g
  obtain ⟨a',h2,h⟩:=za h
  obtain ⟨b',h3,rfl⟩:=zb h
  exact ⟨zsn hu g.2 (S.e _ _ _ _ _ c h2).1 (S.e _ _ _ _ _ c h3).1,zr7 hu g.2 (S.e _ _ _ _ _ c h2).1 (S.e _ _ _ _ _ c h3).1⟩
 ·obtain ⟨es,h1,rfl⟩:=zb h
  exact ⟨zs0 (S.es _ _ _ _ _ c h1).1,zbg fun ρ=>by rw [evT] <;> simp⟩
 ·obtain ⟨es,h1,rfl⟩:=zb h
  exact ⟨zsc (S.es _ _ _ _ _ c h1).1,zbg fun ρ=>by rw [evT] <;> simp⟩
 ·cases h
  exact ⟨zqs,zbg fun ρ=>by rw [evT] <;> simp⟩
 ·obtain ⟨k',h1,h⟩:=za h
  obtain ⟨v',h2,rfl⟩:=zb h
  exact ⟨zrg c.top.un (S.e _ _ _ _ _ c h1).1 (S.e _ _ _ _ _ c h2).1,zbg fun ρ=>by rw [evT] <;> simp⟩
 ·obtain ⟨a',h1,h⟩:=za h
  obtain ⟨lo,h2,h⟩:=za h
  obtain ⟨hi,h3,rfl⟩:=zb h
  exact ⟨zs4 (S.e _ _ _ _ _ c h1).1 (S.eo _ _ _ _ _ c h2) (S.eo _ _ _ _ _ c h3),zbg fun ρ=>by rw [evT] <;> simp⟩
 ·obtain ⟨g,h⟩:=zf h
  rw [Bool.not_eq_true'] at g
  obtain ⟨a',h1,h⟩:=za h
  obtain ⟨i',h2,rfl⟩:=zb h
  refine ⟨zs2 hu g (S.e _ _ _ _ _ c h1).1 (S.e _ _ _ _ _ c h2).1,zen (zs2 hu g (S.e _ _ _ _ _ c h1).1 (S.e _ _ _ _ _ c h2).1) (fun _=>rfl) fun ρ k hk=>?_⟩
  rw [evT] at hk
  obtain ⟨x1,e1,hk⟩:=za hk
  obtain ⟨y1,e2,hk⟩:=za hk
  obtain ⟨d,f,e3,e4⟩:=zgq (cl:=cl) hk
  exact ⟨d,f,by rw [ev,e1,Option.bind_some,e2,Option.bind_some]; exact e3,e4⟩
 ·rename_i xn p1 args p2
  obtain ⟨g,hA⟩:=zf h
  clear h
  rw [Bool.and_eq_true] at g
  obtain ⟨n1,n2,n3⟩:=zbl g.2
  cases hf:idx cf.fns xn with
  | some f =>
   rw [hf] at hA
   cases args with
   | nil=>cases hA
   | cons a0 as0 =>
    obtain ⟨es,h1,rfl⟩:=zb hA
    obtain ⟨pa,ns⟩:=S.es _ _ _ _ _ c h1
    have p:PE X (.Call (.Name xn p1) (a0::as0) [] p2) (uE X.K cl (.call f es)):=zqm (cl:=cl) c.top (c.glo _ g.1) (za0 hf)
     n1 (ns _ List.mem_cons_self) (zhx fun e he=>ns e (List.mem_cons_of_mem _ he)) pa
    refine ⟨p,zen p (fun _=>rfl) fun ρ k hk=>?_⟩
    rw [evT] at hk
    obtain ⟨⟨ds,lent⟩,e1,hk⟩:=za hk
    obtain ⟨d1,e2,hk⟩:=za hk
    obtain ⟨d,f,e3,e4⟩:=zgq (cl:=cl) hk
    exact ⟨d,f,by rw [ev,e1,Option.bind_some]; show (cl _ ds).bind _=_; rw [e2]; exact e3,e4⟩
  | none =>
   rw [hf] at hA
   obtain ⟨g2,hB⟩:=zf hA
   clear hA
   have tv:∀ (e':E) (ρ:Rho) (k:Bool) (b':Bi) (a':E),evT cl (.bi b' a') ρ=some k→∃ d f,ev cl (.bi b' a') ρ=some (d,f)∧tru d=some k:=fun e' ρ k b' a' hk=>by
    rw [evT] at hk
    obtain ⟨r,e1,hk⟩:=za hk
    obtain ⟨d,f,e3,e4⟩:=zgq (cl:=cl) hk
    exact ⟨d,f,by rw [ev,e1,Option.bind_some]; exact e3,e4⟩
   split at hB
   ·rename_i a0 b0
    split at hB
    ·rename_i hx
     have e0:xn=("isinstance" : Str):=beq_iff_eq.mp hx
     subst e0
     split at hB
     ·rename_i t0 p0
      obtain ⟨g4,hC⟩:=zf hB
      clear hB
      unfold blk at g4
      rw [Bool.and_eq_true,Bool.and_eq_true] at g4
      obtain ⟨ty,h1,hD⟩:=za hC
      obtain ⟨a',h2,rfl⟩:=zb hD
      have p:PE X (.Call (.Name "isinstance" p1) [a0,.Name t0 p0] [] p2) (uE X.K cl (.isi a' ty)):=zsf (cl:=cl) h1 (c.glo _ g.1) (c.top.bl _ g2) (c.glo _ g4.1.1) (c.top.bl _ g4.2) (zaf h2) (S.e _ _ _ _ _ c h2).1
      refine ⟨p,zen p (fun _=>rfl) fun ρ k hk=>?_⟩
      rw [evT] at hk
      obtain ⟨r,e1,rfl⟩:=zb hk
      exact ⟨.bl (isTy ty r.1),.solid,by rw [ev,e1]; rfl,rfl⟩
     ·cases hB
    ·skip
     cases hB
   ·rename_i a0
    split at hB
    ·rename_i y0 b0 a1 hne
     obtain ⟨g4,hC⟩:=zf hB
     clear hB
     unfold blk at g4
     rw [Bool.and_eq_true,Bool.and_eq_true] at g4
     obtain ⟨a',h2,rfl⟩:=zb hC
     obtain ⟨py,pc,rfl,hh⟩:=zme hne
     rcases hh with ⟨rfl,rfl,rfl⟩ | hh
     ·have p:PE X (.Call (.Name "len" p1) [.Call (.Name "set" py) [a1] [] pc] [] p2) (uE X.K cl (.bi .lenset a')):=zl0 (cl:=cl) hu c.calm (c.glo _ g.1) (c.top.bl _ g2) (c.glo _ g4.1.1) (c.top.bl _ g4.2) (zaf h2) (S.e _ _ _ _ _ c h2).1
      exact ⟨p,zen p (fun _=>rfl) fun ρ k hk=>tv (.con .non) ρ k _ _ hk⟩
     exact hh.elim
    ·skip
     split at hB
     ·rename_i a1 hra
      obtain ⟨g4,hC⟩:=zf hB
      clear hB
      unfold blk at g4
      rw [Bool.and_eq_true,Bool.and_eq_true] at g4
      obtain ⟨a',h2,rfl⟩:=zb hC
      obtain ⟨py,pc,rfl,rfl⟩:=zkt hra
      exact ⟨zpc (cl:=cl) c.calm (c.glo _ g.1) (c.top.bl _ g2) (c.glo _ g4.1.1) (c.top.bl _ g4.2) (zaf h2) (S.e _ _ _ _ _ c h2).1,zbg fun ρ=>by rw [evT] <;> simp⟩
     obtain ⟨b',h1,hC⟩:=za hB
     obtain ⟨a',h2,rfl⟩:=zb hC
     have p:PE X (.Call (.Name xn p1) [a0] [] p2) (uE X.K cl (.bi b' a')):=zs6 (cl:=cl) hu c.calm h1 (c.glo _ g.1) (c.top.bl _ g2) (zaf h2) (S.e _ _ _ _ _ c h2).1
     exact ⟨p,zen p (fun _=>rfl) fun ρ k hk=>tv (.con .non) ρ k _ _ hk⟩
   ·cases hB
 ·obtain ⟨g,hA⟩:=zf h
  clear h
  simp only [Bool.and_eq_true] at g
  obtain ⟨⟨g1,g2⟩,g3⟩:=g
  obtain ⟨o',h1,hB⟩:=za hA
  obtain ⟨e',h2,rfl⟩:=zb hB
  have e0:=beq_iff_eq.mp g1
  subst e0
  exact ⟨zrf hu g3 g2 (zaf h2) (S.e _ _ _ _ _ c h1).1 (S.e _ _ _ _ _ c h2).1,zbg fun ρ=>by rw [evT] <;> simp⟩
 ·obtain ⟨⟨one,T⟩,h1,h⟩:=za h
  obtain ⟨keep,h2,h⟩:=za h
  obtain ⟨i,h3,h⟩:=za h
  obtain ⟨g,h⟩:=zf h
  simp only [Bool.and_eq_true,decide_eq_true_eq] at g
  obtain ⟨⟨⟨⟨⟨⟨g1,g2⟩,g3⟩,g4⟩,g5⟩,g6⟩,g7⟩:=g
  obtain ⟨t,h4,h⟩:=za h
  obtain ⟨co,h5,h⟩:=za h
  obtain ⟨e,h6,rfl⟩:=zb h
  exact ⟨zlp S c h1 h2 h3 g1 g2 g3 g4 g5 g6 g7 h4 h5 h6,zbg fun ρ=>by rw [evT] <;> simp⟩
 ·cases h
theorem zef (cf:Cfg) (cl:Cl):∀ n,Snd cf cl n
 | 0=>{
   e:=fun _ _ _ _ _ _ h=>(by cases h)
   an:=fun _ _ _ _ _ _ _ h=>(by cases h)
   or:=fun _ _ _ _ _ _ _ h=>(by cases h)
   es:=fun _ _ _ _ _ _ h=>(by cases h)
   eo:=fun _ _ _ _ _ _ h=>(by cases h)
   it:=fun _ _ _ _ _ _ _ h=>(by cases h)}
 | n+1=>by
  have S:=zef cf cl n
  refine {
   e:=zsv S
   an:=?_
   or:=?_
   es:=?_
   eo:=?_
   it:=?_}
  ·intro sc N X xs x' pos c h
   unfold cAnd at h
   split at h
   ·obtain ⟨p,q⟩:=S.e _ _ _ _ _ c h
    exact ⟨znl p,pw_and1 q⟩
   ·obtain ⟨a',h1,h⟩:=za h
    obtain ⟨b',h2,rfl⟩:=zb h
    obtain ⟨p,q⟩:=S.e _ _ _ _ _ c h1
    obtain ⟨p2,q2⟩:=S.an _ _ _ _ _ pos c h2
    exact ⟨zr4 p p2,zst q q2⟩
   ·cases h
  ·intro sc N X xs x' pos c h
   unfold cOr at h
   split at h
   ·obtain ⟨p,q⟩:=S.e _ _ _ _ _ c h
    exact ⟨znl p,pw_or1 q⟩
   ·obtain ⟨a',h1,h⟩:=za h
    obtain ⟨b',h2,rfl⟩:=zb h
    obtain ⟨p,q⟩:=S.e _ _ _ _ _ c h1
    obtain ⟨p2,q2⟩:=S.or _ _ _ _ _ pos c h2
    exact ⟨zs3 p p2,zs8 q q2⟩
   ·cases h
  ·intro sc N X xs xs' c h
   unfold cEs at h
   split at h
   ·cases h
    exact ⟨zsm,fun e he=>by cases he⟩
   ·cases h
   ·obtain ⟨a',h1,h⟩:=za h
    obtain ⟨r',h2,rfl⟩:=zb h
    obtain ⟨p,q⟩:=S.es _ _ _ _ _ c h2
    refine ⟨zqd (zaf h1) (S.e _ _ _ _ _ c h1).1 p,fun e he=>?_⟩
    rcases List.mem_cons.mp he with rfl | he
    ·exact zaf h1
    ·exact q e he
  ·intro sc N X o o' c h
   unfold cEo at h
   split at h
   ·cases h
    exact zpx
   ·obtain ⟨a',h1,rfl⟩:=zb h
    exact zqy (S.e _ _ _ _ _ c h1).1
  ·intro sc N X tg x i' c h ho
   unfold cI at h
   split at h
   ·rename_i xn p1 args p2
    split at h
    ·rename_i g
     rw [Bool.and_eq_true] at g
     have e0:xn=("range" : Str):=beq_iff_eq.mp g.2
     subst e0
     have g4:=g.1
     unfold blk at g4
     rw [Bool.and_eq_true,Bool.and_eq_true] at g4
     split at h
     ·obtain ⟨a',h1,rfl⟩:=zb h
      exact ⟨zrd (c.glo _ g4.1.1) (c.top.bl _ g4.2) (zaf h1) (S.e _ _ _ _ _ c h1).1,fun _=>rfl⟩
     ·obtain ⟨a',h1,h⟩:=za h
      obtain ⟨b',h2,rfl⟩:=zb h
      exact ⟨zq8 (c.glo _ g4.1.1) (c.top.bl _ g4.2) (zaf h1) (zaf h2) (S.e _ _ _ _ _ c h1).1 (S.e _ _ _ _ _ c h2).1,fun _=>rfl⟩
     ·cases h
    ·split at h
     ·rename_i g
      rw [Bool.and_eq_true] at g
      have e0:xn=("enumerate" : Str):=beq_iff_eq.mp g.2
      subst e0
      have g4:=g.1
      unfold blk at g4
      rw [Bool.and_eq_true,Bool.and_eq_true] at g4
      split at h
      ·obtain ⟨a',h1,rfl⟩:=zb h
       cases tg <;> first | (cases ho; done) | skip
       exact ⟨zp2 (c.glo _ g4.1.1) (c.top.bl _ g4.2) (zaf h1) (S.e _ _ _ _ _ c h1).1,fun _=>rfl⟩
      ·cases h
     ·obtain ⟨a',h1,rfl⟩:=zb h
      exact ⟨zrz (S.e _ _ _ _ _ c h1).1,zna h1 _⟩
   ·cases h
   ·obtain ⟨a',h1,rfl⟩:=zb h
    exact ⟨zrz (S.e _ _ _ _ _ c h1).1,zna h1 _⟩
end SD
namespace SD
open PySem PySem.Spec PyProof.Rows L2 PY
abbrev NoM:Fz:=fun _=>False
def Owns (H:Hp) (σ:St) (ρ:Rho) (i:Nat) (b:Addr):Prop :=
 (∃ d,mine ρ i=some d∧σ[i]? = some (some (.ref b)))∨∃ t ks ls a us,ρ[i]? = some (.dl t ks ls)∧σ[i]? = some (some (.ref a))∧DH H a ks us∧(b=a∨V.ref b∈us)
structure Bd where
 M:Fz
 a:Addr
structure EnvS (B:Bd) (K:Frag) (F₀:Fz) (H₀:Hp) (F:Fz) (H:Hp) (σ:St) (ρ:Rho):Prop where
 env:EnvR K F H σ ρ
 grow:GrowM B.M F₀ H₀ F H
 new:∀ (i:Nat) (d:D) (b:Addr),mine ρ i=some d→σ[i]? = some (some (.ref b))→H₀ b=none
 newL:∀ (i:Nat) (b:Addr),Owns H σ ρ i b→H₀ b=none∨B.M b
 newF:∀ (i:Nat) ks ls (b:Addr),ρ[i]? = some (.dl false ks ls)→Owns H σ ρ i b→H₀ b=none
 sep:∀ (i j:Nat) (b:Addr),Owns H σ ρ i b→Owns H σ ρ j b→i=j
 io:∀ (i:Nat) ks ls,ρ[i]? = some (.dl true ks ls)→σ[i]? = some (some (.ref B.a))
 m0:∀ a,B.M a→H₀ a≠none∧¬ F₀ a
def oEnd (B:Bd) (K:Frag) (F₀:Fz) (H₀:Hp) (F:Fz) (H:Hp) (E:Ends):Out→Prop
 | .nx ρ'=>∀ σ' F' H',EnvS B K F₀ H₀ F' H' σ' ρ'→Keep F H F' H'→E.nx σ' H'
 | .bk ρ'=>∀ σ' F' H',EnvS B K F₀ H₀ F' H' σ' ρ'→Keep F H F' H'→E.bk σ' H'
 | .ct ρ'=>∀ σ' F' H',EnvS B K F₀ H₀ F' H' σ' ρ'→Keep F H F' H'→E.ct σ' H'
 | .rt d=>∀ v F' H',GrowM B.M F₀ H₀ F' H'→Rep K F' H' d v→E.rt v H'
inductive US (B:Bd) (K:Frag) (cl:Cl) (W:Nat) (F₀:Fz) (H₀:Hp) (s:S) (E:Ends) (σ:St) (H:Hp):Prop
 | mk (ρ:Rho) (o:Out) (F:Fz) (he:ex cl W s ρ=some o) (env:EnvS B K F₀ H₀ F H σ ρ) (oe:oEnd B K F₀ H₀ F H E o):US B K cl W F₀ H₀ s E σ H
def uS (B:Bd) (K:Frag) (cl:Cl) (W:Nat) (F₀:Fz) (H₀:Hp) (s:S):TS:=US B K cl W F₀ H₀ s
inductive USs (B:Bd) (K:Frag) (cl:Cl) (W:Nat) (F₀:Fz) (H₀:Hp) (s:Ss) (E:Ends) (σ:St) (H:Hp):Prop
 | mk (ρ:Rho) (o:Out) (F:Fz) (he:exs cl W s ρ=some o) (env:EnvS B K F₀ H₀ F H σ ρ) (oe:oEnd B K F₀ H₀ F H E o):USs B K cl W F₀ H₀ s E σ H
def uSs (B:Bd) (K:Frag) (cl:Cl) (W:Nat) (F₀:Fz) (H₀:Hp) (s:Ss):TS:=USs B K cl W F₀ H₀ s
section
variable {B:Bd} {K:Frag} {F₀ F F' F'':Fz} {H₀ H H' H'':Hp} {σ:St} {ρ:Rho} {E:Ends}
theorem Keep.refl:Keep F H F H:=⟨fun _ h=>h,fun _ _ _ _ e=>e,fun _ _ e=>e⟩
theorem Keep.trans (a:Keep F H F' H') (b:Keep F' H' F'' H''):Keep F H F'' H'':=⟨fun x h=>b.1 x (a.1 x h),fun x o h n e=>b.2.1 x o (a.1 x h) n (a.2.1 x o h n e),fun x xs e=>b.2.2 x xs (a.2.2 x xs e)⟩
theorem GrowM.refl (M F:Fz) (H:Hp):GrowM M F H F H:=⟨fun _ h=>h,fun _ _ _ e _=>e,TabR.refl H,fun _ _ e=>e,fun _ h=>.inl h,fun _ h=>h⟩
theorem Grow.there (g:Grow F H F' H'):∀ a,H a≠none→H' a≠none:=fun a h z=>h (g.free z)
theorem GrowM.trans {M:Fz} (a:GrowM M F H F' H') (b:Grow F' H' F'' H''):GrowM M F H F'' H'' :=
 ⟨fun x h=>b.sub x (a.sub x h),fun x o n e nt=>b.same x o (a.same x o n e nt) nt,a.tab.trans b.tab,fun x xs e=>b.same x _ (a.tups x xs e),fun x h=>(b.new x h).elim (fun h=>(a.new x h).imp id fun ⟨h1,h2⟩=>⟨h1,Grow.there b x h2⟩) fun ⟨h1,h2⟩=>.inr ⟨by
  cases e:H x with
  | none=>rfl
  | some o=>exact absurd h1 (a.there x (by rw [e]; simp)),h2⟩,fun x h=>Grow.there b x (a.there x h)⟩
theorem GrowM.put {M:Fz} {c:Addr} {o:HO} (g:GrowM M F H F' H') (h:H c=none∨M c) (nt:∀ xs,H' c≠some (.tup xs)) (hm:∀ u,H' c=some u→Chg u) (no:NT o:=by exact True.intro):GrowM M F H F' (upd H' c o):=by
 have up:∀ b,H' b≠none→(upd H' c o) b≠none:=fun b hb=>by
  by_cases z:b=c
  ·rw [z,zg]; simp
  ·rw [zj z]; exact hb
 refine ⟨g.sub,fun b u n e nn=>?_,g.tab.trans (.upd hm no),fun b xs e=>?_,fun b z=>(g.new b z).imp id fun ⟨h1,h2⟩=>⟨h1,up b h2⟩,fun b hb=>up b (g.there b hb)⟩
 ·rw [zj (fun z=>by subst z; exact h.elim (fun z=>by rw [z] at e; cases e) n)]; exact g.same b u n e nn
 ·rw [zj (fun z=>nt xs (by rw [← z]; exact g.tups b xs e))]; exact g.tups b xs e
theorem GrowM.prot {M:Fz} {p:Addr} (g:GrowM M F H F' H') (h:H p=none) (h':H' p≠none):GrowM M F H (addF F' p) H' :=
 ⟨fun a h=>.inl (g.sub a h),fun a o m e n=>g.same a o m e n,g.tab,g.tups,fun a z=>z.elim (fun z=>g.new a z) fun e=>.inr (by rw [e]; exact ⟨h,h'⟩),g.there⟩
theorem Owns.is (e:EnvR K F H σ ρ) {i:Nat} {b:Addr} (h:Owns H σ ρ i b):H b≠none∧¬ F b∧∀ xs,H b≠some (.tup xs):=by
 rcases h with ⟨d,h1,h2⟩ | ⟨t,ks,ls,a,us,h1,h2,h3,h4⟩
 ·obtain ⟨a,p1,p2,p3⟩:=e.own i d h1
  rw [h2] at p1
  cases p1
  exact ⟨p3.ne,p2,zpi p3⟩
 ·obtain ⟨a',bs,p1,p2,p3⟩:=e.dl i t ks ls h1
  rw [h2] at p1
  cases p1
  rcases h4 with rfl | h4
  ·exact ⟨h3.ne,p2,fun xs z=>h3.not_tup z⟩
  ·have:=(h3.inj p3.1).2
   rw [this] at h4
   obtain ⟨c,hc,e⟩:=List.mem_map.mp h4
   cases e
   obtain ⟨q1,xs,q2⟩:=p3.there hc
   exact ⟨by rw [q2]; simp,q1,zb3 q2⟩
theorem Owns.back (e:EnvR K F H σ ρ) (k:∀ (i:Nat) t ks ls (a:Addr),ρ[i]? = some (.dl t ks ls)→σ[i]? = some (some (V.ref a))→∀ o,NT o→H a=some o→H' a=some o) {i:Nat} {b:Addr} (h:Owns H' σ ρ i b):Owns H σ ρ i b:=by
 rcases h with h | ⟨t,ks,ls,a,us,h1,h2,h3,h4⟩
 ·exact .inl h
 ·obtain ⟨a',bs,p1,p2,p3⟩:=e.dl i t ks ls h1
  rw [h2] at p1
  cases p1
  have q:=p3.1.keep fun o n z=>k i t ks ls a h1 h2 o n z
  have:=(h3.inj q).2
  exact .inr ⟨t,ks,ls,a,_,h1,h2,p3.1,by rw [← this]; exact h4⟩
theorem EnvS.step (e:EnvS B K F₀ H₀ F H σ ρ) (g:Grow F H F' H'):EnvS B K F₀ H₀ F' H' σ ρ:=by
 have bk:∀ {i b},Owns H' σ ρ i b→Owns H σ ρ i b:=fun h=>Owns.back e.env (fun _ _ _ _ a _ _ o n z=>g.same a o z n) h
 exact ⟨e.env.grow g,e.grow.trans g,e.new,fun i b h=>e.newL i b (bk h),fun i ks ls b h1 h=>e.newF i ks ls b h1 (bk h),fun i j b h h'=>e.sep i j b (bk h) (bk h'),e.io,e.m0⟩
theorem oEnd.mono {o:Out} (h:oEnd B K F₀ H₀ F H E o) (k:Keep F H F' H'):oEnd B K F₀ H₀ F' H' E o:=by
 cases o with
 | nx ρ'=>exact fun σ1 F1 H1 e k1=>h σ1 F1 H1 e (k.trans k1)
 | bk ρ'=>exact fun σ1 F1 H1 e k1=>h σ1 F1 H1 e (k.trans k1)
 | ct ρ'=>exact fun σ1 F1 H1 e k1=>h σ1 F1 H1 e (k.trans k1)
 | rt d=>exact h
theorem EnvS.new' (e:EnvS B K F₀ H₀ F H σ ρ) {b:Addr} (h:H b=none):H₀ b=none:=by
 cases z:H₀ b with
 | none=>rfl
 | some o=>exact absurd h (e.grow.there b (by rw [z]; simp))
theorem zag {i j:Nat} {sl s':Sl} (h:(ρ.set i sl)[j]? = some s'):(i=j∧s'=sl∧i < ρ.length)∨(i≠j∧ρ[j]? = some s'):=by
 rw [List.getElem?_set] at h
 by_cases hj:i=j
 ·rw [if_pos hj] at h
  split at h
  ·rename_i hl; cases h; exact .inl ⟨hj,rfl,hl⟩
  ·cases h
 ·rw [if_neg hj] at h
  exact .inr ⟨hj,h⟩
def Sl.mineB:Sl→Bool
 | .own _=>true
 | .dk _ _=>true
 | .dl _ _ _=>true
 | _=>false
theorem zdp {j:Nat} {s':Sl} (hm:Sl.mineB s'=true):∀ {is:List Nat} {ds:List D} {ρ ρ':Rho},setAll is ds ρ=some ρ'→ρ'[j]? = some s'→ρ[j]? = some s'∧j∉is
 | [],[],_,_,h,e=>by cases h; exact ⟨e,by simp⟩
 | [],_::_,_,_,h,_=>by cases h
 | _::_,[],_,_,h,_=>by cases h
 | i::is,d::ds,ρ,ρ',h,e=>by
  obtain ⟨h1,h2⟩:=zdp hm (is:=is) (ds:=ds) h e
  rcases zag h1 with ⟨_,h3,_⟩ | ⟨hj,h3⟩
  ·subst h3; cases hm
  ·exact ⟨h3,by simp [h2,Ne.symm hj]⟩
theorem zbo {t:Tg} {d:D} {ρ':Rho} {j:Nat} {s':Sl} (hm:Sl.mineB s'=true) (h:give t d ρ=some ρ') (e:ρ'[j]? = some s'):ρ[j]? = some s'∧j∉tgIs t:=by
 cases t with
 | one i =>
  cases h
  rcases zag e with ⟨_,h3,_⟩ | ⟨hj,h3⟩
  ·subst h3; cases hm
  ·exact ⟨h3,fun z=>hj (List.mem_singleton.mp z).symm⟩
 | many is =>
  cases d with
  | tup ds=>exact zdp hm h e
  | _=>cases h
theorem zfs {i:Nat} {d:D} (h:mine ρ i=some d):∃ sl,ρ[i]? = some sl∧Sl.thing sl=some d∧Sl.mineB sl=true:=by
 obtain ⟨sl,h1,h2⟩:=zb2 h
 refine ⟨sl,h1,h2,?_⟩
 cases sl <;> first | rfl | cases h2
theorem EnvS.give {Q:St→Hp→Prop} {t:Tg} {d:D} {v:V} {ρ':Rho} (e:EnvS B K F₀ H₀ F H σ ρ) (r:Rep K F H d v) (h:PY.give t d ρ=some ρ') (q:∀ σ',EnvS B K F₀ H₀ F H σ' ρ'→Q σ' H):uG K t v σ H Q :=
 zi8 e.env r h fun σ' e' k=>by
  have own:∀ {i b},Owns H σ' ρ' i b→Owns H σ ρ i b:=fun {i b} ho=>by
   rcases ho with ⟨d',h1,h2⟩ | ⟨t,ks,ls,a,us,h1,h2,h3,h4⟩
   ·obtain ⟨sl,p1,p2,p3⟩:=zfs h1
    obtain ⟨p4,p5⟩:=zbo p3 h p1
    exact .inl ⟨d',zal p4 p2,by rw [← k i p5]; exact h2⟩
   ·obtain ⟨p4,p5⟩:=zbo (s':=.dl t ks ls) rfl h h1
    exact .inr ⟨t,ks,ls,a,us,p4,by rw [← k i p5]; exact h2,h3,h4⟩
  exact q σ' ⟨e',e.grow,fun i d' b h1 h2=>by
   obtain ⟨sl,p1,p2,p3⟩:=zfs h1
   obtain ⟨p4,p5⟩:=zbo p3 h p1
   exact e.new i d' b (zal p4 p2) (by rw [← k i p5]; exact h2),fun i b ho=>e.newL i b (own ho),fun i ks ls b h1 ho=>by
   obtain ⟨p4,p5⟩:=zbo (s':=.dl false ks ls) rfl h h1
   exact e.newF i ks ls b p4 (own ho),fun i j b h1 h2=>e.sep i j b (own h1) (own h2),fun i ks ls h1=>by
   obtain ⟨p4,p5⟩:=zbo (s':=.dl true ks ls) rfl h h1
   rw [k i p5]; exact e.io i ks ls p4,e.m0⟩
theorem EnvS.giveOwn {d:D} {v:V} {a:Addr} {sl:Sl} (ht:(Sl.thing sl)=some d) (e:EnvS B K F₀ H₀ F H σ ρ) (g:Grow F H F' H') (lo:Loose K F' H' d v a) (n:H a=none) (i:Nat):EnvS B K F₀ H₀ F' H' (σ.set i (some v)) (ρ.set i sl):=by
 obtain ⟨rfl,e4,e5⟩:=lo
 have e':=e.env.grow g
 have nd:∀ t ks ls,sl≠.dl t ks ls:=fun t ks ls z=>by subst z; cases ht
 have at_:∀ {j:Nat},i=j→i < ρ.length→(σ.set i (some (V.ref a)))[j]? = some (some (.ref a)):=fun {j} hj hl=>by
  subst hj
  rw [List.getElem?_set,if_pos rfl,if_pos (by rw [e.env.len]; exact hl)]
 have off:∀ {j:Nat},i≠j→(σ.set i (some (V.ref a)))[j]? = σ[j]?:=fun {j} hj=>by rw [List.getElem?_set,if_neg hj]
 have own:∀ {j b},Owns H' (σ.set i (some (V.ref a))) (ρ.set i sl) j b→(i=j∧b=a)∨(i≠j∧Owns H σ ρ j b):=fun {j b} ho=>by
  rcases ho with ⟨d',h1,h2⟩ | ⟨t,ks,ls,c,us,h1,h2,h3,h4⟩
  ·rcases zaj h1 with ⟨hj,_,hl⟩ | ⟨hj,h⟩
   ·rw [at_ hj hl] at h2; cases h2; exact .inl ⟨hj,rfl⟩
   ·rw [off hj] at h2; exact .inr ⟨hj,.inl ⟨d',h,h2⟩⟩
  ·rcases zag h1 with ⟨hj,h,hl⟩ | ⟨hj,h⟩
   ·exact absurd h.symm (nd _ _ _)
   ·rw [off hj] at h2
    exact .inr ⟨hj,Owns.back e.env (fun _ _ _ _ a _ _ o n z=>g.same a o z n) (.inr ⟨t,ks,ls,c,us,h,h2,h3,h4⟩)⟩
 refine ⟨⟨fun j d' h=>?_,fun j l' h=>?_,fun j t ks ls h=>?_,by rw [List.length_set,List.length_set]; exact e.env.len,e'.dom,e'.tab⟩,e.grow.trans g,fun j d' b h1 h2=>?_,fun j b ho=>?_,fun j ks ls b h ho=>?_,fun j k b h1 h2=>?_,fun j ks ls h=>?_,e.m0⟩
 ·rcases zag h with ⟨hj,h,hl⟩ | ⟨hj,h⟩
  ·subst h; cases ht
  ·rw [off hj]; exact e'.val j d' h
 ·rcases zaj h with ⟨hj,h,hl⟩ | ⟨hj,h⟩
  ·rw [ht] at h
   cases h
   exact ⟨a,at_ hj hl,e4,e5⟩
  ·rw [off hj]; exact e'.own j l' h
 ·rcases zag h with ⟨hj,h,hl⟩ | ⟨hj,h⟩
  ·exact absurd h.symm (nd _ _ _)
  ·rw [off hj]; exact e'.dl j t ks ls h
 ·rcases zaj h1 with ⟨hj,_,hl⟩ | ⟨hj,h⟩
  ·rw [at_ hj hl] at h2; cases h2; exact e.new' n
  ·rw [off hj] at h2; exact e.new j d' b h h2
 ·rcases own ho with ⟨_,rfl⟩ | ⟨_,h⟩
  ·exact .inl (e.new' n)
  ·exact e.newL j b h
 ·rcases own ho with ⟨_,rfl⟩ | ⟨hj,h'⟩
  ·exact e.new' n
  ·rcases zag h with ⟨z,_⟩ | ⟨_,h⟩
   ·exact absurd z hj
   ·exact e.newF j ks ls b h h'
 ·rcases own h1 with ⟨hj,rfl⟩ | ⟨hj,p1⟩
  ·rcases own h2 with ⟨hk,_⟩ | ⟨hk,p2⟩
   ·rw [← hj,← hk]
   ·exact absurd n (p2.is e.env).1
  ·rcases own h2 with ⟨hk,rfl⟩ | ⟨hk,p2⟩
   ·exact absurd n (p1.is e.env).1
   ·exact e.sep j k b p1 p2
 ·rcases zag h with ⟨hj,h,hl⟩ | ⟨hj,h⟩
  ·exact absurd h.symm (nd _ _ _)
  ·rw [off hj]; exact e.io j ks ls h
def SlotOk (K:Frag) (F:Fz) (H:Hp) (a:Addr):Sl→Prop
 | .own l=>Cont K F H a (.lst l)
 | .dk ks vs=>Cont K F H a (.dic ks vs)
 | .dl _ ks ls=>∃ bs,ContL K F H a ks ls bs
 | _=>False
theorem EnvS.turn {a:Addr} {sl:Sl} {i:Nat} {N:Fz} (e:EnvS B K F₀ H₀ F H σ ρ) (ha:σ[i]? = some (some (.ref a))) (hi:i < ρ.length) (nF:¬ F' a) (ok:SlotOk K F' H' a sl)
  (gr:GrowM N F H F' H') (hN:∀ b,N b→Owns H σ ρ i b) (dom:∀ b,F' b→H' b≠none)
  (own:∀ b,Owns H' σ (ρ.set i sl) i b→Owns H σ ρ i b∨H b=none) (hio:∀ ks ls,sl=.dl true ks ls→a=B.a) (hnew:∀ d,(Sl.thing sl)=some d→H₀ a=none) (hnf:∀ ks ls,sl=.dl false ks ls→∀ b,Owns H σ ρ i b→H₀ b=none) :
  EnvS B K F₀ H₀ F' H' σ (ρ.set i sl)∧Keep F H F' H':=by
 have k:Keep F H F' H':=⟨gr.sub,fun c o hc n z=>gr.same c o (fun y=>((hN c y).is e.env).2.1 hc) z n,gr.tups⟩
 have off:∀ {j b},j≠i→Owns H σ ρ j b→¬ N b:=fun hj ho y=>hj (e.sep _ _ _ ho (hN _ y))
 have nF':∀ {b},¬ F b→H b≠none→¬ F' b:=fun nb hb z=>(gr.new _ z).elim nb fun ⟨y,_⟩=>hb y
 have dlk:∀ {j:Nat} {t ks ls} {c:Addr},j≠i→ρ[j]? = some (.dl t ks ls)→σ[j]? = some (some (V.ref c))→∀ o,NT o→H c=some o→H' c=some o:=fun {j t ks ls c} hj h1 h2 o n z=>by
  obtain ⟨c',bs,p1,p2,p3⟩:=e.env.dl j t ks ls h1
  rw [h2] at p1; cases p1
  exact gr.same c o (off hj (.inr ⟨t,ks,ls,c,_,h1,h2,p3.1,.inl rfl⟩)) z n
 have oth:∀ {j b},i≠j→Owns H' σ (ρ.set i sl) j b→Owns H σ ρ j b:=fun {j b} hj ho=>by
  rcases ho with ⟨d',h1,h2⟩ | ⟨t,ks,ls,c,us,h1,h2,h3,h4⟩
  ·rcases zaj h1 with ⟨z,_⟩ | ⟨_,h⟩
   ·exact absurd z hj
   ·exact .inl ⟨d',h,h2⟩
  ·rcases zag h1 with ⟨z,_⟩ | ⟨_,h⟩
   ·exact absurd z hj
   ·obtain ⟨c',bs,p1,p2,p3⟩:=e.env.dl j t ks ls h
    rw [h2] at p1; cases p1
    have q:=p3.1.keep fun o n z=>dlk (Ne.symm hj) h h2 o n z
    have:=(h3.inj q).2
    exact .inr ⟨t,ks,ls,c,_,h,h2,p3.1,by rw [← this]; exact h4⟩
 refine ⟨⟨⟨fun j d' h=>?_,fun j l' h=>?_,fun j t ks ls h=>?_,by rw [List.length_set]; exact e.env.len,dom,e.env.tab.step gr.tab⟩,?_,fun j d' b h1 h2=>?_,fun j b ho=>?_,fun j ks ls b h ho=>?_,fun j m b h1 h2=>?_,fun j ks ls h=>?_,e.m0⟩,k⟩
 ·rcases zag h with ⟨hj,h,hl⟩ | ⟨hj,h⟩
  ·subst h; exact ok.elim
  ·obtain ⟨v,h1,h2⟩:=e.env.val j d' h
   exact ⟨v,h1,h2.keep k⟩
 ·rcases zaj h with ⟨rfl,h,hl⟩ | ⟨hj,h⟩
  ·refine ⟨a,ha,nF,?_⟩
   cases sl <;> first | (cases h; exact ok) | cases h
  ·obtain ⟨b,h1,h3,h4⟩:=e.env.own j l' h
   exact ⟨b,h1,nF' h3 h4.ne,h4.keep k fun o n z=>gr.same b o (off (Ne.symm hj) (.inl ⟨l',h,h1⟩)) z n⟩
 ·rcases zag h with ⟨rfl,h,hl⟩ | ⟨hj,h⟩
  ·subst h
   obtain ⟨bs,hb⟩:=ok
   exact ⟨a,bs,ha,nF,hb⟩
  ·obtain ⟨c,bs,h1,h3,h4⟩:=e.env.dl j t ks ls h
   refine ⟨c,bs,h1,nF' h3 h4.1.ne,h4.grow k (fun b o hb n z=>?_) fun b hb nb=>?_⟩
   ·refine gr.same b o (off (Ne.symm hj) (.inr ⟨t,ks,ls,c,_,h,h1,h4.1,?_⟩)) z n
    exact hb.imp id fun hb=>List.mem_map.mpr ⟨b,hb,rfl⟩
   ·obtain ⟨_,xs,hx⟩:=h4.there hb
    exact nF' nb (by rw [hx]; simp)
 ·refine ⟨fun c h=>gr.sub c (e.grow.sub c h),fun c o n z nn=>gr.same c o (fun y=>(e.newL i c (hN c y)).elim (fun y=>by rw [y] at z; cases z) n) (e.grow.same c o n z nn) nn,e.grow.tab.trans gr.tab,fun c xs z=>gr.tups c xs (e.grow.tups c xs z),fun c z=>?_,fun c z=>gr.there c (e.grow.there c z)⟩
  rcases gr.new c z with z | ⟨z1,z2⟩
  ·exact (e.grow.new c z).imp id fun ⟨y1,y2⟩=>⟨y1,gr.there c y2⟩
  ·cases y:H₀ c with
   | none=>exact .inr ⟨rfl,z2⟩
   | some o=>exact absurd z1 (e.grow.there c (by rw [y]; simp))
 ·rcases zaj h1 with ⟨rfl,h,hl⟩ | ⟨hj,h⟩
  ·rw [ha] at h2; cases h2; exact hnew d' h
  ·exact e.new j d' b h h2
 ·by_cases hj:i=j
  ·subst hj
   rcases own b ho with h | h
   ·exact e.newL i b h
   ·exact .inl (e.new' h)
  ·exact e.newL j b (oth hj ho)
 ·rcases zag h with ⟨rfl,h,hl⟩ | ⟨hj,h⟩
  ·rcases own b ho with h' | h'
   ·exact hnf ks ls h.symm b h'
   ·exact e.new' h'
  ·exact e.newF j ks ls b h (oth hj ho)
 ·by_cases hj:i=j
  ·subst hj
   by_cases hm:i=m
   ·exact hm
   ·have p2:=oth hm h2
    rcases own b h1 with h | h
    ·exact e.sep i m b h p2
    ·exact absurd h (p2.is e.env).1
  ·have p1:=oth hj h1
   by_cases hm:i=m
   ·subst hm
    rcases own b h2 with h | h
    ·exact e.sep j i b p1 h
    ·exact absurd h (p1.is e.env).1
   ·exact e.sep j m b p1 (oth hm h2)
 ·rcases zag h with ⟨rfl,h,hl⟩ | ⟨hj,h⟩
  ·rw [ha,hio ks ls h.symm]
  ·exact e.io j ks ls h
theorem EnvS.putO {d d':D} {a:Addr} {ob:HO} {sl:Sl} {i:Nat} (e:EnvS B K F₀ H₀ F H σ ρ) (hi:mine ρ i=some d) (ha:σ[i]? = some (some (.ref a))) (nF:¬ F a) (nt:∀ xs,H a≠some (.tup xs)) (ht:(Sl.thing sl)=some d') (hc:Cont K F (upd H a ob) a d') (hm:∀ u,H a=some u→Chg u) (no:NT ob:=by exact True.intro) :
  EnvS B K F₀ H₀ F (upd H a ob) σ (ρ.set i sl):=by
 obtain ⟨s0,hs0,_⟩:=zb2 hi
 have hl:i < ρ.length:=(List.getElem?_eq_some_iff.mp hs0).1
 refine (e.turn (N:=fun c=>c=a) (sl:=sl) ha hl nF (by cases sl <;> first | (cases ht; exact hc) | cases ht) ?_ (fun b hb=>by subst hb; exact .inl ⟨d,hi,ha⟩) (fun b hb=>?_) (fun b ho=>?_) (fun ks ls z=>by subst z; cases ht) (fun _ _=>e.new i d a hi ha) fun ks ls z=>by subst z; cases ht).1
 ·exact ⟨fun _ h=>h,fun c o n z _=>by rw [zj n]; exact z,.upd hm no,fun c xs z=>by rw [zj (fun y=>nt xs (by rw [← y]; exact z))]; exact z,fun _ h=>.inl h,fun c z=>by
   by_cases y:c=a
   ·rw [y,zg]; simp
   ·rw [zj y]; exact z⟩
 ·by_cases y:b=a
  ·rw [y,zg]; simp
  ·rw [zj y]; exact e.env.dom b hb
 ·rcases ho with ⟨d2,h1,h2⟩ | ⟨t,ks,ls,c,us,h1,_⟩
  ·rw [ha] at h2; cases h2
   exact .inl (.inl ⟨d,hi,ha⟩)
  ·rcases zag h1 with ⟨_,h,_⟩ | ⟨h,_⟩
   ·subst h; cases ht
   ·exact absurd rfl h
theorem EnvS.putL {l l':List D} {a:Addr} {xs xs':List V} {i:Nat} (e:EnvS B K F₀ H₀ F H σ ρ) (hi:ρ[i]? = some (.own l)) (ha:σ[i]? = some (some (.ref a))) (hx:H a=some (.lst xs)) (nF:¬ F a) (rs:Reps K F H l' xs') :
  EnvS B K F₀ H₀ F (upd H a (.lst xs')) σ (ρ.set i (.own l')) :=
 e.putO (zal hi rfl) ha nF (zb3 hx) rfl ⟨xs',zg,rs.keep (Keep.put nF (zb3 hx))⟩ fun u z=>by rw [hx] at z; cases z; exact True.intro
theorem EnvS.app {l:List D} {d:D} {y:V} {a:Addr} {xs:List V} {i:Nat} (e:EnvS B K F₀ H₀ F H σ ρ) (hi:ρ[i]? = some (.own l)) (ha:σ[i]? = some (some (.ref a))) (hx:H a=some (.lst xs)) (nF:¬ F a) (rs:Reps K F H l xs) (r:Rep K F H d y) :
  EnvS B K F₀ H₀ F (upd H a (.lst (xs++[y]))) σ (ρ.set i (.own (l++[d]))):=e.putL hi ha hx nF (rs.snoc r)
theorem EnvS.lst {l:List D} {i:Nat} (e:EnvS B K F₀ H₀ F H σ ρ) (hi:ρ[i]? = some (.own l)):∃ a xs,σ[i]? = some (some (.ref a))∧H a=some (.lst xs)∧¬ F a∧Reps K F H l xs:=by
 obtain ⟨a,h1,h2,xs,h3,h4⟩:=e.env.own i _ (zal hi rfl)
 exact ⟨a,xs,h1,h3,h2,h4⟩
theorem Reps.putAt {ds:List D} {vs:List V} {d:D} {v:V} (h:Reps K F H ds vs) (r:Rep K F H d v) (k:Int):Reps K F H (PY.putAt ds k d) (PY.putAt vs k v):=by
 unfold PY.putAt
 rw [h.length]
 exact (h.take _).append (.cons r (h.drop _))
theorem Reps.erase:∀ {ds:List D} {vs:List V} (n:Nat),Reps K F H ds vs→Reps K F H (ds.eraseIdx n) (vs.eraseIdx n)
 | [],vs,n,h=>by rw [Reps] at h; subst h; exact .nil
 | d::ds,vs,0,h=>by
  rw [Reps] at h
  obtain ⟨v,r,rfl,h1,h2⟩:=h
  exact h2
 | d::ds,vs,n+1,h=>by
  rw [Reps] at h
  obtain ⟨v,r,rfl,h1,h2⟩:=h
  exact .cons h1 (Reps.erase n h2)
theorem EnvS.froze1 {i:Nat} {d:D} (e:EnvS B K F₀ H₀ F H σ ρ) (h:mine ρ i=some d):∃ F',EnvS B K F₀ H₀ F' H σ (ρ.set i (.val d))∧Keep F H F' H:=by
 obtain ⟨a,h1,h3,h4⟩:=e.env.own i d h
 obtain ⟨s0,hs0,_⟩:=zb2 h
 have hl:i < ρ.length:=(List.getElem?_eq_some_iff.mp hs0).1
 have own:∀ {j b},Owns H σ (ρ.set i (.val d)) j b→i≠j∧Owns H σ ρ j b:=fun {j b} ho=>by
  rcases ho with ⟨d',p1,p2⟩ | ⟨t,ks,ls,c,us,p1,p2,p3,p4⟩
  ·rcases zaj p1 with ⟨_,h',_⟩ | ⟨hj,h'⟩
   ·cases h'
   ·exact ⟨hj,.inl ⟨d',h',p2⟩⟩
  ·rcases zag p1 with ⟨_,h',_⟩ | ⟨hj,h'⟩
   ·cases h'
   ·exact ⟨hj,.inr ⟨t,ks,ls,c,us,h',p2,p3,p4⟩⟩
 have nb:∀ {j b},i≠j→Owns H σ ρ j b→¬ F b→¬ addF F a b:=fun hj ho n z=>z.elim n fun z=>by
  subst z
  exact hj (e.sep _ _ _ (.inl ⟨d,h,h1⟩) ho)
 refine ⟨addF F a,⟨⟨fun j d' h'=>?_,fun j l' h'=>?_,fun j t ks ls h'=>?_,by rw [List.length_set]; exact e.env.len,fun b hb=>hb.elim (e.env.dom b) (fun z=>by rw [z]; exact h4.ne),e.env.tab⟩,e.grow.prot (e.new i d a h h1) h4.ne,fun j d' b p q=>?_,fun j b ho=>e.newL j b (own ho).2,fun j ks ls b p ho=>?_,fun j m b p q=>e.sep j m b (own p).2 (own q).2,fun j ks ls h'=>?_,e.m0⟩,Keep.prot⟩
 ·rcases zag h' with ⟨hj,h',_⟩ | ⟨_,h'⟩
  ·cases h'
   exact ⟨.ref a,by rw [← hj]; exact h1,Loose.prot ⟨rfl,h3,h4⟩⟩
  ·obtain ⟨v,p1,p2⟩:=e.env.val j d' h'
   exact ⟨v,p1,p2.keep Keep.prot⟩
 ·rcases zaj h' with ⟨_,h',_⟩ | ⟨hj,h'⟩
  ·cases h'
  ·obtain ⟨b,p1,p3,p4⟩:=e.env.own j l' h'
   exact ⟨b,p1,nb hj (.inl ⟨l',h',p1⟩) p3,p4.keep Keep.prot fun o _ q=>q⟩
 ·rcases zag h' with ⟨_,h',_⟩ | ⟨hj,h'⟩
  ·cases h'
  ·obtain ⟨b,bs,p1,p3,p4⟩:=e.env.dl j t ks ls h'
   exact ⟨b,bs,p1,nb hj (.inr ⟨t,ks,ls,b,_,h',p1,p4.1,.inl rfl⟩) p3,p4.grow Keep.prot (fun _ _ _ _ q=>q) fun c hc n=>nb hj (.inr ⟨t,ks,ls,b,_,h',p1,p4.1,.inr (List.mem_map.mpr ⟨c,hc,rfl⟩)⟩) n⟩
 ·rcases zaj p with ⟨_,h',_⟩ | ⟨hj,h'⟩
  ·cases h'
  ·exact e.new j d' b h' q
 ·rcases zag p with ⟨_,h',_⟩ | ⟨hj,h'⟩
  ·cases h'
  ·exact e.newF j ks ls b h' (own ho).2
 ·rcases zag h' with ⟨_,h',_⟩ | ⟨hj,h'⟩
  ·cases h'
  ·exact e.io j ks ls h'
theorem EnvS.froze:∀ {is:List Nat} {F:Fz} {ρ:Rho},EnvS B K F₀ H₀ F H σ ρ→∃ F',EnvS B K F₀ H₀ F' H σ (PY.froze is ρ)∧Keep F H F' H
 | [],F,ρ,e=>⟨F,e,Keep.refl⟩
 | i::is,F,ρ,e=>by
  unfold PY.froze
  cases h:ρ[i]? with
  | none=>exact EnvS.froze e
  | some s =>
   cases s with
   | no=>exact EnvS.froze e
   | val d=>exact EnvS.froze e
   | own l =>
    obtain ⟨F1,e1,k1⟩:=e.froze1 (zal h rfl)
    obtain ⟨F',e2,k2⟩:=EnvS.froze (is:=is) e1
    exact ⟨F',e2,k1.trans k2⟩
   | dk ks vs =>
    obtain ⟨F1,e1,k1⟩:=e.froze1 (zal h rfl)
    obtain ⟨F',e2,k2⟩:=EnvS.froze (is:=is) e1
    exact ⟨F',e2,k1.trans k2⟩
   | dl t ks ls=>exact EnvS.froze e
end
section
variable {B:Bd} {X:Cx} {cl:Cl} {W:Nat} {F₀:Fz} {H₀:Hp} {pos:Pos}
theorem zn8 {te:E} {t:Tg} {E:Ends} {σ:St} {H:Hp} (h:uS B X.K cl W F₀ H₀ (.asg t te) E σ H):tAsg (uE X.K cl te) (uG X.K t) E σ H:=by
 obtain ⟨ρ,o,F,he,env,oe⟩:=h
 rw [ex] at he
 obtain ⟨⟨d,f⟩,h1,he⟩:=za he
 obtain ⟨ρ',h2,rfl⟩:=zb he
 refine ⟨ρ,d,f,h1,F,env.env,fun v F1 H1 g1 v1=>?_⟩
 have sol:PY.give t d ρ=some ρ'→Rep X.K F1 H1 d v→uG X.K t v σ H1 E.nx:=fun h r=>(env.step g1).give r h fun σ' e'=>oe σ' F1 H1 e' g1.keep
 cases f with
 | solid=>exact sol (by cases t <;> cases d <;> exact h2) v1
 | peek=>cases t <;> cases d <;> cases h2
 | fresh =>
  obtain ⟨a,lo,n⟩:=v1
  cases d with
  | lst l =>
   cases t with
   | many is=>cases h2
   | one i =>
    cases h2
    exact oe _ F1 H1 (env.giveOwn (sl:=.own l) rfl g1 lo n i) g1.keep
  | dic ks vs =>
   cases t with
   | many is=>cases h2
   | one i =>
    cases h2
    exact oe _ F1 H1 (env.giveOwn (sl:=.dk ks vs) rfl g1 lo n i) g1.keep
  | _=>exact lo.2.2.elim
theorem zr0 {te:E} {E:Ends} {σ:St} {H:Hp} (hd:∀ ρ,dlOf te ρ=none) (h:uS B X.K cl W F₀ H₀ (.ret te) E σ H):tRet (uE X.K cl te) E σ H:=by
 obtain ⟨ρ,o,F,he,env,oe⟩:=h
 rw [ex,hd] at he
 obtain ⟨⟨d,f⟩,h1,rfl⟩:=zb he
 refine ⟨ρ,d,f,h1,F,env.env,fun v F1 H1 g1 v1=>?_⟩
 by_cases hf:f=.peek
 ·subst hf
  obtain ⟨a,lo,i,l,o1,o2⟩:=v1
  exact oe v (addF F1 a) H1 ((env.grow.trans g1).prot (env.new i l a o1 o2) lo.2.2.ne) lo.prot
 ·obtain ⟨F2,g2,k2,r2⟩:=v1.firm hf g1
  exact oe v F2 H1 (env.grow.trans g2) r2
theorem zdk {K:Frag} {F:Fz} {H:Hp}:∀ {bs:List Addr} {ls:List (List D)},bs.length=ls.length→(∀ (j:Nat) b l,bs[j]? = some b→ls[j]? = some l→F b∧∃ xs,H b=some (.lst xs)∧Reps K F H l xs)→Reps K F H (ls.map .lst) (bs.map .ref)
 | [],[],_,_=>.nil
 | [],_::_,h,_=>by simp at h
 | _::_,[],h,_=>by simp at h
 | b::bs,l::ls,h,q=>by
  obtain ⟨h1,xs,h2,h3⟩:=q 0 b l rfl rfl
  refine .cons ?_ (zdk (by simpa using h) fun j b l h1 h2=>q (j+1) b l (by simpa using h1) (by simpa using h2))
  rw [Rep]
  exact ⟨b,xs,rfl,.inl ⟨h1,.inl h2⟩,h3⟩
theorem zqa {i:Nat} {E:Ends} {σ:St} {H:Hp} (h:uS B X.K cl W F₀ H₀ (.ret (.var i)) E σ H):tRet (tVar i) E σ H:=by
 obtain ⟨ρ,o,F,he,env,oe⟩:=h
 rw [ex] at he
 cases hs:dlOf (.var i) ρ with
 | none =>
  rw [hs] at he
  obtain ⟨⟨d,f⟩,h1,rfl⟩:=zb he
  have h1:slot ρ i=some (d,f):=h1
  unfold slot at h1
  cases e:ρ[i]? with
  | none=>rw [e] at h1; cases h1
  | some sl =>
   rw [e] at h1
   cases sl with
   | no=>cases h1
   | dl t ks ls=>cases h1
   | val d' =>
    cases h1
    obtain ⟨v,p1,p2⟩:=env.env.val i _ e
    exact ⟨v,p1,oe v F H env.grow p2⟩
   | own l =>
    cases h1
    obtain ⟨a,p1,p3,p4⟩:=env.env.own i _ (zal e rfl)
    exact ⟨.ref a,p1,oe _ (addF F a) H (env.grow.prot (env.new i _ a (zal e rfl) p1) p4.ne) (Loose.prot ⟨rfl,p3,p4⟩)⟩
   | dk ks vs =>
    cases h1
    obtain ⟨a,p1,p3,p4⟩:=env.env.own i _ (zal e rfl)
    exact ⟨.ref a,p1,oe _ (addF F a) H (env.grow.prot (env.new i _ a (zal e rfl) p1) p4.ne) (Loose.prot ⟨rfl,p3,p4⟩)⟩
 | some p =>
  rw [hs] at he
  cases he
  unfold dlOf at hs
  simp only at hs
  split at hs
  ·rename_i ks ls e
   cases hs
   obtain ⟨a,bs,p1,p3,p4⟩:=env.env.dl i _ _ _ e
   have nw:∀ b,b=a∨b∈bs→H₀ b=none:=fun b hb=>env.newF i _ _ b e (.inr ⟨_,_,_,a,_,e,p1,p4.1,hb.imp id fun hb=>List.mem_map.mpr ⟨b,hb,rfl⟩⟩)
   let F':Fz:=fun c=>F c∨c=a∨c∈bs
   have kp:Keep F H F' H:=⟨fun _ h=>.inl h,fun _ _ _ _ e=>e,fun _ _ e=>e⟩
   refine ⟨.ref a,p1,oe _ F' H ⟨fun c h=>.inl (env.grow.sub c h),fun a o m e n=>env.grow.same a o m e n,env.grow.tab,env.grow.tups,fun c z=>?_,env.grow.there⟩ ?_⟩
   ·rcases z with z | z
    ·exact env.grow.new c z
    ·refine .inr ⟨nw c z,?_⟩
     rcases z with rfl | z
     ·exact p4.1.ne
     ·obtain ⟨_,xs,hx⟩:=p4.there z
      rw [hx]; simp
   ·show Rep X.K F' H (.dic ks (ls.map .lst)) _
    rw [Rep]
    refine ⟨a,_,rfl,.inr (.inl rfl),p4.1,zdk p4.2.2.2.1 fun j b l h1 h2=>?_⟩
    obtain ⟨_,xs,q2,q3⟩:=p4.2.2.2.2 j b l h1 h2
    exact ⟨.inr (.inr (List.mem_of_getElem? h1)),xs,q2,q3.keep kp⟩
  ·cases hs
theorem ztb {c:E} {a b:Ss} {E:Ends} {σ:St} {H:Hp} (h:uS B X.K cl W F₀ H₀ (.cond c a b) E σ H):tIfS (uT X.K cl c) (uSs B X.K cl W F₀ H₀ a) (uSs B X.K cl W F₀ H₀ b) E σ H:=by
 obtain ⟨ρ,o,F,he,env,oe⟩:=h
 rw [ex] at he
 obtain ⟨k,h1,he⟩:=za he
 refine ⟨ρ,k,h1,F,env.env,fun F1 H1 g1=>?_⟩
 cases k with
 | false =>
  rw [if_neg Bool.false_ne_true] at he ⊢
  exact ⟨ρ,o,F1,he,env.step g1,oe.mono g1.keep⟩
 | true =>
  rw [if_pos rfl] at he ⊢
  exact ⟨ρ,o,F1,he,env.step g1,oe.mono g1.keep⟩
theorem zsw {s:S} {r:Ss} {E:Ends} {σ:St} {H:Hp} (h:uSs B X.K cl W F₀ H₀ (.cons s r) E σ H):tSeq (uS B X.K cl W F₀ H₀ s) (uSs B X.K cl W F₀ H₀ r) E σ H:=by
 obtain ⟨ρ,o,F,he,env,oe⟩:=h
 rw [exs] at he
 obtain ⟨o1,h1,he⟩:=za he
 refine ⟨ρ,o1,F,h1,env,?_⟩
 cases o1 with
 | nx ρ'=>exact fun σ' F' H' e' k=>⟨ρ',o,F',he,e',oe.mono k⟩
 | bk ρ'=>cases he; exact oe
 | ct ρ'=>cases he; exact oe
 | rt d=>cases he; exact oe
theorem zsk {i:Nat} {te:E} {E:Ends} {σ:St} {H:Hp} (h:uS B X.K cl W F₀ H₀ (.app i te) E σ H):tDrop (tBM X.K "list" rAppend (tVar i) (tCons (uE X.K cl te) tNil)) E σ H:=by
 obtain ⟨ρ,o,F,he,env,oe⟩:=h
 rw [ex] at he
 obtain ⟨⟨d,f⟩,h1,he1⟩:=za he
 clear he
 obtain ⟨d',h2,he2⟩:=za he1
 clear he1
 obtain ⟨hf,rfl⟩:=zb1 h2
 split at he2
 ·rename_i l hi
  split at he2
  ·rename_i hl
   cases he2
   obtain ⟨a,xs,p1,p2,p3,p4⟩:=env.lst hi
   refine ⟨.ref a,p1,.inl ⟨rfl,xs,.of p2⟩,ρ,d',f,h1,F,env.env,fun y F1 H1 g1 v1=>?_⟩
   obtain ⟨F2,g2,k2,r2⟩:=v1.firm hf g1
   have e2:=env.step g2
   have nF:¬ F2 a:=fun z=>(g2.new a z).elim p3 fun ⟨n,_⟩=>(by rw [n] at p2; cases p2)
   have px:=g2.same _ _ p2
   exact ⟨a,xs,y,rfl,rfl,px,Nat.lt_of_lt_of_le (by rw [← p4.length]; exact hl) (by decide),oe _ F2 _ (e2.app hi p1 px nF (p4.grow g2) r2) (g2.keep.trans (Keep.put nF (zb3 px)))⟩
  ·cases he2
 ·cases he2
theorem zsq {i:Nat} {tk te:E} {E:Ends} {σ:St} {H:Hp} (h:uS B X.K cl W F₀ H₀ (.ins i tk te) E σ H):tDrop (tBM X.K "list" rInsert (tVar i) (tCons (uE X.K cl tk) (tCons (uE X.K cl te) tNil))) E σ H:=by
 obtain ⟨ρ,o,F,he,env,oe⟩:=h
 rw [ex] at he
 obtain ⟨⟨dk,fk⟩,h0,he0⟩:=za he
 clear he
 obtain ⟨k,hk,he1⟩:=za he0
 clear he0
 obtain ⟨⟨d,f⟩,h1,he2⟩:=za he1
 clear he1
 obtain ⟨d',h2,he3⟩:=za he2
 clear he2
 obtain ⟨hf,rfl⟩:=zb1 h2
 split at he3
 ·rename_i l hi
  split at he3
  ·rename_i hl
   cases he3
   obtain ⟨a,xs,p1,p2,p3,p4⟩:=env.lst hi
   refine ⟨.ref a,p1,.inl ⟨rfl,xs,.of p2⟩,ρ,dk,fk,h0,F,env.env,fun y0 F0 H0 g0 v0=>⟨ρ,d',f,h1,F0,env.env.grow g0,fun y F1 H1 g1 v1=>?_⟩⟩
   have ek:dk=.int k:=by cases dk <;> simp only [int?] at hk <;> cases hk; rfl
   subst ek
   obtain ⟨F2,g2,k2,r2⟩:=v1.firm hf g1
   have gg:=g0.trans g2
   have e2:=env.step gg
   have nF:¬ F2 a:=fun z=>(gg.new a z).elim p3 fun ⟨n,_⟩=>(by rw [n] at p2; cases p2)
   have px:=gg.same _ _ p2
   have sm:=hl.2
   unfold small at sm
   rw [Bool.and_eq_true,decide_eq_true_eq,decide_eq_true_eq] at sm
   exact ⟨a,xs,k,y,rfl,by rw [v0.now.int],px,by lia,by lia,Nat.lt_of_lt_of_le (by rw [← p4.length]; exact hl.1) (by decide),oe _ F2 _ (e2.putL hi p1 px nF ((p4.grow gg).putAt r2 k)) (gg.keep.trans (Keep.put nF (zb3 px)))⟩
  ·cases he3
 ·cases he3
theorem ziz (n:Nat) (i:Int) (k:Nat) (h:place n i=some k):seqIndex? i n=some k∧k < n:=let z:=zj0 (zg1 n i k h); ⟨z.1,z.2.1⟩
theorem zfn {α:Type}:∀ {xs:List α} {j:Nat},j+1=xs.length→xs.dropLast=xs.eraseIdx j
  | [],_,h=>by simp at h
  | [x], j, h => by have : j = 0 := by simpa using h
                    subst this; rfl
  | x::y::r,0,h=>by simp at h
  | x::y::r,j+1,h=>by
    rw [List.dropLast_cons₂,List.eraseIdx_cons_succ,zfn (xs:=y::r) (j:=j) (by simpa using h)]
theorem zrw {t:Tg} {i:Nat} {E:Ends} {σ:St} {H:Hp} (h:uS B X.K cl W F₀ H₀ (.pop t i (.con (.int (-1)))) E σ H):tAsg (tBM0 X.K "list" rPop (tVar i)) (uG X.K t) E σ H:=by
 obtain ⟨ρ,o,F,he,env,oe⟩:=h
 rw [ex] at he
 obtain ⟨⟨dk,fk⟩,h0,he0⟩:=za he
 clear he
 cases h0
 obtain ⟨k,hk,he1⟩:=za he0
 clear he0
 cases hk
 split at he1
 ·rename_i l hi
  split at he1
  ·rename_i hl
   obtain ⟨j,hj,he2⟩:=za he1
   clear he1
   obtain ⟨d,hd,he3⟩:=za he2
   clear he2
   obtain ⟨ρ',hg,rfl⟩:=zb he3
   obtain ⟨a,xs,p1,p2,p3,p4⟩:=env.lst hi
   obtain ⟨s1,s2⟩:=ziz _ _ _ hj
   obtain ⟨y,hy,ry⟩:=p4.get hd
   have e2:=env.putL hi p1 p2 p3 (p4.erase j)
   have hjl:j+1=xs.length:=by
    have hlen:=p4.length
    unfold place at hj
    rw [if_neg (by decide)] at hj
    split at hj
    ·cases hj; lia
    ·cases hj
   have ed:xs.dropLast=xs.eraseIdx j:=zfn hjl
   refine ⟨.ref a,p1,.inl ⟨rfl,xs,.of p2⟩,a,xs,y,rfl,rfl,p2,by rw [show xs.length - 1=j by lia]; exact hy,?_⟩
   rw [ed]
   exact e2.give (ry.keep (Keep.put p3 (zb3 p2))) hg fun σ' e'=>oe σ' F _ e' (Keep.put p3 (zb3 p2))
  ·cases he1
 ·cases he1
theorem Reps.set {K:Frag} {F:Fz} {H:Hp} {d:D} {v:V} (h:Rep K F H d v):∀ {ds:List D} {vs:List V} (j:Nat),Reps K F H ds vs→Reps K F H (ds.set j d) (vs.set j v)
 | [],vs,j,r=>by rw [Reps] at r; subst r; exact .nil
 | x::ds,vs,0,r=>by
  rw [Reps] at r
  obtain ⟨w,ws,rfl,_,h2⟩:=r
  exact .cons h h2
 | x::ds,vs,j+1,r=>by
  rw [Reps] at r
  obtain ⟨w,ws,rfl,h1,h2⟩:=r
  exact .cons h1 (Reps.set h j h2)
def sPutD (K:Frag) (td ty tv:TE):TS:=fun D σ H=>tv σ H fun v H1=>td σ H1 fun x H2=>ty σ H2 fun y H3=>∃ a ks us F dx o,x=.ref a∧DH H3 a ks us∧Now K F H3 dx y∧keyAt dx ks=some o∧ks.length < sizeLine ∧
 ∀ ob,DH (upd H3 a ob) a (nks o ks dx) (nvs o us v)→D.nx σ (upd H3 a ob)
theorem zpk {o i value:Expr} {pos':Pos} {td ty tv:TE} (hu:X.A.units+1 < cLine) (ho:PE X o td) (hi:PE X i ty) (hv:PE X value tv) (hs:swapsWith value (some (.Subscript o i pos')) pos.line X.env=pure false) :
  PS X (.Assign [.Subscript o i pos'] value pos) (sPutD X.K td ty tv):=by
 intro pins s σ H D I h
 refine wpAny_Assign_Subscript (thn (hv pins s σ H _ I h) fun r s1 ⟨v,H1,I1,rv,q1⟩=>thn (ho pins s1 σ H1 _ I1 q1) fun u s2 ⟨x,H2,I2,rx,q2⟩=>thn (hi pins s2 σ H2 _ I2 q2) fun iv s3 ⟨y,H3,I3,ry,a,ks,us,F,dx,o,ex,hd,nx,hk,hz,q3⟩=>?_) hs
 subst ex
 obtain rfl:u=Value.ref a:=rx
 exact zod hu I3 hd nx hk ry rv hz fun ob s4 I4 hd'=>⟨σ,_,I4,q3 ob hd'⟩
theorem zqw {i:Nat} {tk te:E} {E:Ends} {σ:St} {H:Hp} (h:uS B X.K cl W F₀ H₀ (.dput i tk te) E σ H):sPutD X.K (tVar i) (uE X.K cl tk) (uE X.K cl te) E σ H:=by
 obtain ⟨ρ,o,F,he,env,oe⟩:=h
 rw [ex] at he
 obtain ⟨⟨d,f⟩,h1,he1⟩:=za he
 clear he
 obtain ⟨d',h2,he2⟩:=za he1
 clear he1
 obtain ⟨hf,rfl⟩:=zb1 h2
 obtain ⟨⟨dx,fx⟩,h3,he3⟩:=za he2
 clear he2
 split at he3
 ·rename_i ks vs hi
  obtain ⟨p,hp,rfl⟩:=zb he3
  clear he3
  unfold dputO at hp
  obtain ⟨j,hk,hp1⟩:=za hp
  clear hp
  split at hp1
  ·rename_i hz
   refine ⟨ρ,d',f,h1,F,env.env,fun v F1 H1 g1 v1=>?_⟩
   obtain ⟨F2,g2,k2,r2⟩:=v1.firm hf g1
   have em:mine ρ i=some (.dic ks vs):=zal hi rfl
   obtain ⟨a,p1,p3,us,p4,p5⟩:=env.env.own i _ em
   refine ⟨.ref a,p1,ρ,dx,fx,h3,F2,env.env.grow g2,fun y F3 H3 g3 v3=>?_⟩
   have gg:=g2.trans g3
   have hd:=p4.keep fun ob n q=>gg.same a ob q n
   refine ⟨a,ks,us,F3,dx,j,rfl,hd,v3.now,hk,Nat.lt_of_lt_of_le hz (by decide),fun ob hd'=>?_⟩
   have nF:¬ F3 a:=fun z=>(gg.new a z).elim p3 fun ⟨n,_⟩=>p4.ne n
   have nt:∀ xs,H3 a≠some (.tup xs):=fun xs z=>hd.not_tup z
   have kp:Keep F3 H3 F3 (upd H3 a ob):=Keep.put nF nt
   have rv:Rep X.K F3 (upd H3 a ob) d' v:=(r2.grow g3).keep kp
   have rs:Reps X.K F3 (upd H3 a ob) vs us:=(p5.grow gg).keep kp
   cases j with
   | some j=>cases hp1; exact oe _ F3 _ ((env.step gg).putO em p1 nF nt (sl:=.dk ks (vs.set j d')) rfl ⟨us.set j v,hd',Reps.set rv j rs⟩ hd.mut hd'.nt) (gg.keep.trans kp)
   | none=>cases hp1; exact oe _ F3 _ ((env.step gg).putO em p1 nF nt (sl:=.dk (ks++[dx]) (vs++[d'])) rfl ⟨us++[v],hd',rs.snoc rv⟩ hd.mut hd'.nt) (gg.keep.trans kp)
  ·cases hp1
 ·cases he3
theorem zr8 {t:Tg} {it:I} {b:Ss} {E:Ends} {σ:St} {H:Hp} (h:uS B X.K cl W F₀ H₀ (.loop t it b) E σ H):tFor (uI X.K cl it) (uG X.K t) (uSs B X.K cl W F₀ H₀ b) E σ H:=by
 obtain ⟨ρ,o,F,he,env,oe⟩:=h
 rw [ex] at he
 obtain ⟨⟨ds,lent⟩,hi,he⟩:=za he
 dsimp only at he
 cases lent with
 | true=>cases he
 | false =>
 rw [if_neg Bool.false_ne_true] at he
 obtain ⟨f,hf,he⟩:∃ f:D→Rho→Option Out,(∀ d ρ,f d ρ=(PY.give t d ρ).bind fun ρ'=>exs cl W b ρ')∧loopO f ds ρ=some o:=⟨_,fun _ _=>rfl,he⟩
 refine ⟨ρ,ds,false,hi,F,env.env,fun J F1 H1 P g1 hP iter=>?_⟩
 have oe1:=oe.mono g1.keep
 refine ⟨fun i m σ' H'=>m=ds.length - i∧i≤ds.length∧∃ ρ' F',EnvS B X.K F₀ H₀ F' H' σ' ρ'∧Keep F1 H1 F' H'∧loopO f (ds.drop i) ρ'=some o,⟨ds.length,by simp,Nat.zero_le _,ρ,F1,env.step g1,Keep.refl,by rw [List.drop_zero]; exact he⟩,?_⟩
 rintro i m σ' H' ⟨rfl,hil,ρ',F',e',k',hl⟩
 have itr:=iter.2 i F' H' k'.1 (fun a u ha n z=>k'.2.1 a u (ha.elim id fun q=>hP rfl a q) n z) k'.2.2
 by_cases hlt:i < ds.length
 ·refine .inr ⟨(itr.1 ds[i] (by simp [hlt])).1,fun σ2 H2=>∃ ρ2 F2,EnvS B X.K F₀ H₀ F2 H2 σ2 ρ2∧Keep F1 H1 F2 H2∧loopO f (ds.drop (i+1)) ρ2=some o,fun σ2 H2 ⟨ρ2,F2,a1,a2,a3⟩=>⟨ds.length - (i+1),by lia,rfl,hlt,ρ2,F2,a1,a2,a3⟩,fun x H2 y=>?_⟩
  obtain ⟨F2,g2,r2⟩:=(itr.1 ds[i] (by simp [hlt])).2 x H2 y
  rw [List.drop_eq_getElem_cons hlt] at hl
  obtain ⟨o1,ho1,hl⟩:=za (show (f ds[i] ρ').bind (fun o=>match o with | .nx ρ'=>loopO f (ds.drop (i+1)) ρ' | .rt v=>some (.rt v) | .bk ρ'=>some (.nx ρ') | .ct ρ'=>loopO f (ds.drop (i+1)) ρ')=some o from hl)
  rw [hf] at ho1
  obtain ⟨ρ1,hg,ho1⟩:=za ho1
  refine (e'.step g2).give r2 hg fun σ3 e3=>⟨ρ1,o1,F2,ho1,e3,?_⟩
  have kk:=k'.trans g2.keep
  cases o1 with
  | nx ρ4=>exact fun σ4 F4 H4 e4 k4=>⟨ρ4,F4,e4,kk.trans k4,hl⟩
  | ct ρ4=>exact fun σ4 F4 H4 e4 k4=>⟨ρ4,F4,e4,kk.trans k4,hl⟩
  | bk ρ4=>cases hl; exact fun σ4 F4 H4 e4 k4=>oe1 σ4 F4 H4 e4 (kk.trans k4)
  | rt d=>cases hl; exact oe1
 ·have e:i=ds.length:=by lia
  subst e
  rw [List.drop_length] at hl
  cases hl
  exact .inl ⟨itr.2 (Nat.le_refl _),oe1 σ' F' H' e' k'⟩
theorem zpf {c:E} {b:Ss} {E:Ends} {σ:St} {H:Hp} (h:uS B X.K cl W F₀ H₀ (.while c b) E σ H):tWhile (uT X.K cl c) (uSs B X.K cl W F₀ H₀ b) E σ H:=by
 obtain ⟨ρ,o,F,he,env,oe⟩:=h
 rw [ex] at he
 refine ⟨fun m σ' H'=>∃ ρ' F',EnvS B X.K F₀ H₀ F' H' σ' ρ'∧Keep F H F' H'∧whileO (fun ρ=>evT cl c ρ) (fun ρ=>exs cl W b ρ) m ρ'=some o,⟨W,ρ,F,env,Keep.refl,he⟩,?_⟩
 rintro m σ' H' ⟨ρ',F',e',k',hw⟩
 cases m with
 | zero=>cases hw
 | succ m =>
  obtain ⟨k,hk,hw⟩:=za (show (evT cl c ρ').bind (fun k=>if k then (exs cl W b ρ').bind (fun o=>match o with | .nx ρ'=>whileO (fun ρ=>evT cl c ρ) (fun ρ=>exs cl W b ρ) m ρ' | .rt v=>some (.rt v) | .bk ρ'=>some (.nx ρ') | .ct ρ'=>whileO (fun ρ=>evT cl c ρ) (fun ρ=>exs cl W b ρ) m ρ') else some (.nx ρ'))=some o from hw)
  refine ⟨ρ',k,hk,F',e'.env,fun F1 H1 g1=>?_⟩
  cases k with
  | false =>
   rw [if_neg Bool.false_ne_true] at hw ⊢
   cases hw
   exact oe σ' F1 H1 (e'.step g1) (k'.trans g1.keep)
  | true =>
   rw [if_pos rfl] at hw ⊢
   obtain ⟨o1,ho1,hw⟩:=za hw
   refine ⟨fun σ2 H2=>∃ ρ2 F2,EnvS B X.K F₀ H₀ F2 H2 σ2 ρ2∧Keep F H F2 H2∧whileO (fun ρ=>evT cl c ρ) (fun ρ=>exs cl W b ρ) m ρ2=some o,fun σ2 H2 ⟨ρ2,F2,a1,a2,a3⟩=>⟨m,Nat.lt_succ_self m,ρ2,F2,a1,a2,a3⟩,ρ',o1,F1,ho1,e'.step g1,?_⟩
   have kk:=k'.trans g1.keep
   cases o1 with
   | nx ρ4=>exact fun σ4 F4 H4 e4 k4=>⟨ρ4,F4,e4,kk.trans k4,hw⟩
   | ct ρ4=>exact fun σ4 F4 H4 e4 k4=>⟨ρ4,F4,e4,kk.trans k4,hw⟩
   | bk ρ4=>cases hw; exact fun σ4 F4 H4 e4 k4=>oe σ4 F4 H4 e4 (kk.trans k4)
   | rt d=>cases hw; exact oe
end
end SD
namespace PY
open PySem (Program)
noncomputable def killAt (dd:List Nat):Nat→List Fn→List Fn
 | _,[]=>[]
 | k,f::r=>(if dd.contains k then dead else f)::killAt dd (k+1) r
noncomputable def compileX (dd:List Nat) (p:Program):Option (List Fn):=(compile p).map (killAt dd 0)
theorem zg7 (dd:List Nat):∀ {fs:List Fn} {k f:Nat} {fn:Fn},(killAt dd k fs)[f]? = some fn→fn=dead∨(fs[f]? = some fn∧dd.contains (k+f)=false)
 | [],_,_,_,h=>by simp [killAt] at h
 | g::r,k,0,fn,h=>by
  simp only [killAt,List.getElem?_cons_zero] at h
  have h:=Option.some.inj h
  split at h
  ·exact .inl h.symm
  ·rename_i q
   exact .inr ⟨by rw [← h]; rfl,by simpa using q⟩
 | g::r,k,f+1,fn,h=>by
  simp only [killAt,List.getElem?_cons_succ] at h
  rcases zg7 dd h with h | ⟨h,h'⟩
  ·exact .inl h
  ·exact .inr ⟨by simpa using h,by rw [show k+(f+1)=k+1+f by lia]; exact h'⟩
end PY
namespace SD
open PySem PySem.Spec PyProof.Rows L2 PY
structure SndS (cf:Cfg) (cl:Cl) (W n:Nat):Prop where
 s:∀ B sc N X st s' F₀ H₀,Ctx cf cl sc N X→(∀ x,X.fn x=true)→X.env.scope=sc→cS cf n sc N st=some s'→PS X st (uS B X.K cl W F₀ H₀ s')
 ss:∀ B sc N X st s' F₀ H₀,Ctx cf cl sc N X→(∀ x,X.fn x=true)→X.env.scope=sc→cSs cf n sc N st=some s'→PSs X st (uSs B X.K cl W F₀ H₀ s')
theorem zg5 {e:Expr} (h:isComp e=false) (t:Option Expr) (l:Nat) (env:Env):swapsWith e t l env=pure false:=by
 cases e <;> first | rfl | cases h
theorem zhp {cf:Cfg} {cl:Cl} {sc:Scope} {N:List Str} {X:Cx} (c:Ctx cf cl sc N X) (hsc:X.env.scope=sc) {x:Str} (h:(seen sc x&&!(sc.names.lookup x==some .free))=true):Loc X.env.scope x:=by
 rw [Bool.and_eq_true,Bool.not_eq_true'] at h
 obtain ⟨h1,h2⟩:=h
 unfold PY.seen at h1
 rw [hsc]
 cases e:sc.names.lookup x with
 | none=>rw [e] at h1; cases h1
 | some k =>
  rw [e] at h1 h2
  cases k <;> first | (cases h1; done) | (cases h2; done) | (exact .inl e) | (exact .inr e)
theorem zne {B:Bd} {K:Frag} {cl:Cl} {W:Nat} {F₀:Fz} {H₀:Hp} {is:List Nat} {s:S} {E:Ends} {σ:St} {H:Hp} (h:uS B K cl W F₀ H₀ (.frz is s) E σ H):uS B K cl W F₀ H₀ s E σ H:=by
 obtain ⟨ρ,o,F,he,env,oe⟩:=h
 rw [ex] at he
 obtain ⟨F',e',k⟩:=env.froze (is:=is)
 exact ⟨_,o,F',he,e',oe.mono k⟩
theorem zo4 {B:Bd} {K:Frag} {cl:Cl} {W:Nat} {F₀:Fz} {H₀:Hp} {i:I} {s:S} {E:Ends} {σ:St} {H:Hp} (h:uS B K cl W F₀ H₀ (frzI i s) E σ H):uS B K cl W F₀ H₀ s E σ H:=by
 unfold frzI at h
 split at h
 ·exact zne h
 ·exact zne h
 ·exact h
theorem zk7 {v:Expr} {x:Str} (h:popOf v=some (x,none)):∃ xp apos cpos,v=.Call (.Attribute (.Name x xp) "pop" apos) [] [] cpos∧(apos.endLine==cpos.line)=true:=by
 unfold popOf at h
 split at h
 ·split at h
  ·rename_i g
   rw [Bool.and_eq_true] at g
   cases h
   exact ⟨_,_,_,by rw [beq_iff_eq.mp g.1],g.2⟩
  ·cases h
 ·cases h
theorem zoz {tg:Expr} {x:Str} {k:Expr} (h:putOf tg=some (x,k)):∃ xp tp,tg=.Subscript (.Name x xp) k tp:=by
 unfold putOf at h
 split at h
 ·split at h
  ·cases h
  ·cases h; exact ⟨_,_,rfl⟩
 ·cases h
theorem zk6 {v:Expr} {o:Option E} {e:E} (h:xOk v o=some e):o=some e:=by
 cases v with
 | BoolOp _ _ _=>cases o with
  | none=>exact h
  | some x=>cases x <;> first | (cases h; done) | exact h
 | _=>exact h
theorem zqb {B:Bd} {cf:Cfg} {cl:Cl} {W n:Nat} {sc:Scope} {N:List Str} {X:Cx} {F₀:Fz} {H₀:Hp} (c:Ctx cf cl sc N X) (hfn:∀ x,X.fn x=true) (hsc:X.env.scope=sc) {y:Str} {py vpos pos:Pos} {elt:Expr} {gens:List Comprehension} {scope:Scope} {i:Nat} {e':E}
  (pg:PG X (.Name y py) (uG X.K (.one i))) (h:cE cf n sc N (.ListComp elt gens scope vpos)=some e'):PS X (.Assign [.Name y py] (.ListComp elt gens scope vpos) pos) (uS B X.K cl W F₀ H₀ (.asg (.one i) e')):=by
 cases hb:(X.env.blockKind == .function&&X.env.kindOf y==some .local&&py.line==vpos.line&&!(scope.names.any fun (n,k)=>n==y&&(k == .local||k == .cell))) with
 | false =>
  have hs:swapsWith (.ListComp elt gens scope vpos) (some (.Name y py)) pos.line X.env=pure false:=by rw [← hb]; rfl
  exact PS.imp (zj2 ((zef cf cl n).e _ _ _ _ _ c h).1 pg hs rfl rfl) fun E σ H h=>zn8 h
 | true =>
  have hs:swapsWith (.ListComp elt gens scope vpos) (some (.Name y py)) pos.line X.env=pure true:=by rw [← hb]; rfl
  cases n with
  | zero=>cases h
  | succ n =>
   unfold cE at h
   split at h <;> first | (rename_i z; cases z; done) | (cases h; done) | skip
   rename_i e0 elt0 tg it ifs scope0 pos0 z
   cases z
   obtain ⟨⟨one,T⟩,h1,hA⟩:=za h
   clear h
   obtain ⟨keep,h2,hB⟩:=za hA
   clear hA
   obtain ⟨it',h3,hC⟩:=za hB
   clear hB
   obtain ⟨g,hD⟩:=zf hC
   clear hC
   simp only [Bool.and_eq_true,decide_eq_true_eq] at g
   obtain ⟨⟨⟨⟨⟨⟨g1,g2⟩,g3⟩,g4⟩,g5⟩,g6⟩,g7⟩:=g
   obtain ⟨t,h4,hE⟩:=za hD
   clear hD
   obtain ⟨co,h5,hF⟩:=za hE
   clear hE
   obtain ⟨e,h6,rfl⟩:=zb hF
   have S:=zef cf cl n
   obtain ⟨pi,fs⟩:=S.it sc N X tg it it' c h3 g1
   obtain ⟨kl,ki⟩:=zam h2
   obtain ⟨b1,b2,b3,b4,b5,b6⟩:=zdj S c h1 h2 g1 g2 g3 g5 g6 g7 h4 h5 h6
   exact PS.imp (zmr (N':=T++frees scope) (n:=T.length) (keep:=keep) (wi:=uI X.K cl it') (g:=uG X.K t) (tc:=uC X.K cl co) (te:=uE X.K cl e) c.calm g4 b1 b2 b3 b4 b5 pi b6 fs pg hs) fun E σ H h=>ze8 (zhh h4) (zn8 h)
theorem zn7 {cf:Cfg} {n:Nat} {sc:Scope} {N:List Str} {x:Str} {p:Pos} {i:Nat} (h:cE cf n sc N (.Name x p)=some (.var i)):nice x=true∧PY.seen sc x=true∧idx N x=some i:=by
 cases n with
 | zero=>cases h
 | succ n =>
  have h:guard' (nice x) (if PY.seen sc x then (idx N x).map .var else guard' (gl sc x) ((cf.cons.lookup x).map (.glob x)))=some (E.var i):=h
  obtain ⟨g,h⟩:=zf h
  split at h
  ·rename_i g2
   obtain ⟨j,h1,h2⟩:=zb h
   cases h2
   exact ⟨g,g2,h1⟩
  ·obtain ⟨_,h⟩:=zf h
   obtain ⟨_,_,h2⟩:=zb h
   cases h2
def skP (st:Stmt):SK→Prop
 | .asg tg v=>∃ p,st=.Assign [tg] v p
 | .ret e=>∃ p,st=.Return (some e) p
 | .cond c a b=>∃ p,st=.If c a b p
 | .brk=>∃ p,st=.Break p
 | .cnt=>∃ p,st=.Continue p
 | .skip=>∃ p,st=.Pass p
 | .loop tg it b=>∃ p,st=.For tg it b [] p
 | .whl c b=>∃ p,st=.While c b [] p
 | .exp e=>∃ p,st=.Expr e p
 | .tri b hs=>∃ p,st=.Try b hs [] [] p
 | .rse o=>∃ p,st=.Raise o none p
 | .other=>True
theorem zrs (st:Stmt):skP st (sk st):=by
 cases st with
 | Assign ts v p=>cases ts with
  | nil=>trivial
  | cons t ts=>cases ts with
   | nil=>exact ⟨_,rfl⟩
   | cons _ _=>trivial
 | Return o p=>cases o with
  | none=>trivial
  | some _=>exact ⟨_,rfl⟩
 | If _ _ _ _=>exact ⟨_,rfl⟩
 | Break _=>exact ⟨_,rfl⟩
 | Continue _=>exact ⟨_,rfl⟩
 | Pass _=>exact ⟨_,rfl⟩
 | For _ _ _ e _=>cases e with
  | nil=>exact ⟨_,rfl⟩
  | cons _ _=>trivial
 | While _ _ e _=>cases e with
  | nil=>exact ⟨_,rfl⟩
  | cons _ _=>trivial
 | Expr _ _=>exact ⟨_,rfl⟩
 | Try _ _ e f _=>cases e with
  | nil=>cases f with
   | nil=>exact ⟨_,rfl⟩
   | cons _ _=>trivial
  | cons _ _=>trivial
 | Raise _ c _=>cases c with
  | none=>exact ⟨_,rfl⟩
  | some _=>trivial
 | _=>trivial
theorem zbw {st:Stmt} {k:SK} (h:sk st=k):skP st k:=h▸zrs st
theorem zk5 {e:Expr} {x m:Str} {as:List Expr} {g:Bool} (h:methOf e=some (x,m,as,g)):∃ xp apos cpos,e=.Call (.Attribute (.Name x xp) m apos) as [] cpos∧g=(apos.endLine==cpos.line):=by
 cases e <;> first | (cases h; done) | skip
 rename_i f as' ks cpos
 cases f <;> first | (cases h; done) | skip
 rename_i o m' apos
 cases ks with
 | cons _ _=>cases h
 | nil =>
  obtain ⟨y,h1,h2⟩:=zb (show (nameOf o).map (fun x=>(x,m',as',apos.endLine==cpos.line))=some (x,m,as,g) from h)
  cases h2
  obtain ⟨xp,rfl⟩:=zhr h1
  exact ⟨_,_,_,rfl,rfl⟩
theorem zr6 {cf:Cfg} {cl:Cl} {W n:Nat} (S':SndS cf cl W n) (B:Bd) (sc:Scope) (N:List Str) (X:Cx) (st:Stmt) (s':S) (F₀:Fz) (H₀:Hp) (c:Ctx cf cl sc N X) (hfn:∀ x,X.fn x=true) (hsc:X.env.scope=sc) (h:cS cf (n+1) sc N st=some s'):PS X st (uS B X.K cl W F₀ H₀ s'):=by
 have Se:=zef cf cl n
 have hp:PassesOwn (model X.prog X.w) X.A X.env X.xe:=by rw [c.xe]; exact PassesOwn.never
 have nd:X.N.Nodup:=by rw [c.hN]; exact c.nd
 unfold cS at h
 split at h
 ·rename_i tg v hk
  obtain ⟨pos,rfl⟩:=zbw hk
  clear hk
  split at h
  ·rename_i x k hpop
   obtain ⟨g,hA⟩:=zf h
   clear h
   rw [Bool.and_eq_true] at g
   obtain ⟨⟨one,T⟩,h1,hB⟩:=za hA
   clear hA
   obtain ⟨g2,hC⟩:=zf hB
   clear hB
   obtain ⟨is,h2,hD⟩:=za hC
   clear hC
   obtain ⟨t,h3,hE⟩:=za hD
   clear hD
   obtain ⟨i,h4,hF⟩:=za hE
   clear hE
   obtain ⟨n1,n2,n3⟩:=zbl g.1
   obtain ⟨il,ik⟩:=zam h2
   obtain ⟨pg,_⟩:=zml nd c.calm h1 il (by rw [c.hN]; exact ik) h3 fun x hx=>⟨zhp c hsc (List.all_eq_true.mp g2 x hx),.inl (hfn x)⟩
   cases k with
   | none =>
    cases hF
    obtain ⟨xp,apos,cpos,rfl,hl⟩:=zk7 hpop
    refine PS.imp (zj2 (zpo PySem.F.plainAttrs_list PySem.F.slot_list_pop PySem.F.type_list_pop zp9 (zdm (by rw [c.hN]; exact za0 h4) (c.vis _ g.2) n1 n2) rfl hl) pg rfl ?_ ?_) fun E σ H h=>zrw h
    ·cases tg <;> first | (cases h1; done) | rfl
    ·cases tg <;> first | (cases h1; done) | rfl
   | some k =>
   cases hF
  split at h
  ·rename_i x k hput
   obtain ⟨g,hA⟩:=zf h
   clear h
   simp only [Bool.and_eq_true,Bool.not_eq_true'] at g
   obtain ⟨⟨g1,g2⟩,g3⟩:=g
   obtain ⟨i,h1,hB⟩:=za hA
   clear hA
   obtain ⟨k',h2,hC⟩:=za hB
   clear hB
   obtain ⟨v',h3,rfl⟩:=zb hC
   obtain ⟨n1,n2,n3⟩:=zbl g1
   obtain ⟨xp,tp,rfl⟩:=zoz hput
   exact PS.imp (zpk (by have:=c.top.un; lia) (zdm (by rw [c.hN]; exact za0 h1) (c.vis _ g2) n1 n2) (Se.e _ _ _ _ _ c h2).1 (Se.e _ _ _ _ _ c h3).1 (zg5 g3 _ _ _)) fun E σ H h=>zqw h
  split at h
  ·rename_i hlc
   split at h
   ·
    rename_i y py _
    obtain ⟨g,hA⟩:=zf h
    clear h
    obtain ⟨i,h1,hB⟩:=za hA
    clear hA
    obtain ⟨e',h2,rfl⟩:=zb hB
    have hi:X.N[i]? = some y:=by rw [c.hN]; exact za0 h1
    have pg:PG X (.Name y py) (uG X.K (.one i)):=zfz nd hi (zhp c hsc g) (.inl (hfn y))
    cases v <;> first | (cases hlc; done) | skip
    rename_i elt gens scope vpos
    exact zqb c hfn hsc pg h2
   ·cases h
  ·obtain ⟨g,hA⟩:=zf h
   clear h
   rw [Bool.not_eq_true'] at g
   obtain ⟨⟨one,T⟩,h1,hB⟩:=za hA
   clear hA
   obtain ⟨g2,hC⟩:=zf hB
   clear hB
   rw [Bool.and_eq_true] at g2
   obtain ⟨is,h2,hD⟩:=za hC
   clear hC
   obtain ⟨t,h3,hE⟩:=za hD
   clear hD
   obtain ⟨e',h4,rfl⟩:=zb hE
   have h4:=zk6 h4
   obtain ⟨il,ik⟩:=zam h2
   obtain ⟨pg,_⟩:=zml nd c.calm h1 il (by rw [c.hN]; exact ik) h3 fun x hx=>⟨zhp c hsc (List.all_eq_true.mp g2.1 x hx),.inl (hfn x)⟩
   refine PS.imp (zj2 (Se.e _ _ _ _ _ c h4).1 pg (zg5 g _ _ _) ?_ ?_) fun E σ H h=>zn8
    h
   ·cases tg with
    | Tuple es k p =>
     obtain ⟨T',_,e0⟩:=zb (show (PY.namesOf es).map (fun l=>(false,l))=some (one,T) from h1)
     cases e0
     have g3:=g2.2
     cases v <;> first | rfl | (cases g3; done)
    | Name x p=>rfl
    | _=>cases h1
   ·cases tg <;> first | (cases h1; done) | rfl
 ·rename_i e0 hk
  obtain ⟨p0,rfl⟩:=zbw hk
  clear hk
  obtain ⟨e',h1,h⟩:=za h
  obtain ⟨gr,h⟩:=zf h
  cases h
  by_cases hv:∃ i,e'=.var i
  ·obtain ⟨i,rfl⟩:=hv
   cases e0 <;> first | (cases gr; done) | skip
   obtain ⟨g1,g2,h2⟩:=zn7 h1
   obtain ⟨n1,n2,n3⟩:=zbl g1
   exact PS.imp (zm5 (zdm (by rw [c.hN]; exact za0 h2) (c.vis _ g2) n1 n2)) fun E σ H h=>zqa h
  ·exact PS.imp (zm5 (Se.e _ _ _ _ _ c h1).1) fun E σ H h=>zr0 (fun ρ=>by cases e' <;> first | rfl | exact absurd ⟨_,rfl⟩ hv)
    h
 ·rename_i hk
  obtain ⟨p0,rfl⟩:=zbw hk
  clear hk
  obtain ⟨c',h1,h⟩:=za h
  obtain ⟨a',h2,h⟩:=za h
  obtain ⟨b',h3,rfl⟩:=zb h
  exact PS.imp (zsd (Se.e _ _ _ _ _ c h1).2 (S'.ss B _ _ _ _ _ F₀ H₀ c hfn hsc h2) (S'.ss B _ _ _ _ _ F₀ H₀ c hfn hsc h3)) fun E σ H h=>ztb h
 ·rename_i hk
  obtain ⟨p0,rfl⟩:=zbw hk
  clear hk
  cases h
  refine PS.imp zmg fun E σ H ⟨ρ,o,F,he,env,oe⟩=>?_
  cases he
  exact oe σ F H env Keep.refl
 ·rename_i hk
  obtain ⟨p0,rfl⟩:=zbw hk
  clear hk
  cases h
  refine PS.imp zgl fun E σ H ⟨ρ,o,F,he,env,oe⟩=>?_
  cases he
  exact oe σ F H env Keep.refl
 ·rename_i hk
  obtain ⟨p0,rfl⟩:=zbw hk
  clear hk
  cases h
  refine PS.imp zok fun E σ H ⟨ρ,o,F,he,env,oe⟩=>?_
  cases he
  exact oe σ F H env Keep.refl
 ·rename_i hk
  obtain ⟨p0,rfl⟩:=zbw hk
  clear hk
  obtain ⟨⟨one,T⟩,h1,h⟩:=za h
  obtain ⟨g2,h⟩:=zf h
  obtain ⟨is,h2,h⟩:=za h
  obtain ⟨t,h3,h⟩:=za h
  obtain ⟨i,h4,h⟩:=za h
  obtain ⟨g3,h⟩:=zf h
  obtain ⟨b',h5,rfl⟩:=zb h
  obtain ⟨il,ik⟩:=zam h2
  obtain ⟨pg,_⟩:=zml nd c.calm h1 il (by rw [c.hN]; exact ik) h3 fun x hx=>⟨zhp c hsc (List.all_eq_true.mp g2 x hx),.inl (hfn x)⟩
  obtain ⟨pi,fs⟩:=Se.it _ _ _ _ _ _ c h4 g3
  exact PS.imp (zrb hp c.calm pi pg (S'.ss B _ _ _ _ _ F₀ H₀ c hfn hsc h5) fs) fun E σ H h=>zr8 (zo4 h)
 ·rename_i hk
  obtain ⟨p0,rfl⟩:=zbw hk
  clear hk
  obtain ⟨c',h1,h⟩:=za h
  obtain ⟨b',h2,rfl⟩:=zb h
  exact PS.imp (zmi hp (Se.e _ _ _ _ _ c h1).2 (S'.ss B _ _ _ _ _ F₀ H₀ c hfn hsc h2)) fun E σ H h=>zpf h
 ·rename_i e0 hk
  obtain ⟨p2,rfl⟩:=zbw hk
  clear hk
  split at h
  ·rename_i x m as g0 hm
   obtain ⟨p1,apos,cpos,rfl,rfl⟩:=zk5 hm
   clear hm
   split at h
   ·rename_i e
    obtain ⟨g,h⟩:=zf h
    simp only [Bool.and_eq_true] at g
    obtain ⟨⟨⟨g1,g2⟩,g3⟩,g4⟩:=g
    obtain ⟨i,h1,h⟩:=za h
    obtain ⟨e',h2,rfl⟩:=zb h
    obtain ⟨n1,n2,n3⟩:=zbl g1
    have e0:m=("append" : Str):=beq_iff_eq.mp g3
    subst e0
    have ns:=zaf h2
    refine PS.imp (zj8 (zqc PySem.F.plainAttrs_list PySem.F.slot_list_append PySem.F.type_list_append ze0 (zdm (by rw [c.hN]; exact za0 h1) (c.vis _ g2) n1 n2) (zq (Se.e _ _ _ _ _ c h2).1 zak (hs:=ze ns)) rfl (by rw [ze ns]; rfl) g4 (ze ns) rfl) rfl) fun E σ H h=>zsk h
   ·rename_i k e
    obtain ⟨g,hA⟩:=zf h
    clear h
    simp only [Bool.and_eq_true] at g
    obtain ⟨⟨⟨g1,g2⟩,g3⟩,g4⟩:=g
    obtain ⟨i,h1,hB⟩:=za hA
    clear hA
    obtain ⟨k',h2,hC⟩:=za hB
    clear hB
    obtain ⟨e',h3,rfl⟩:=zb hC
    obtain ⟨n1,n2,n3⟩:=zbl g1
    have e0:m=("insert" : Str):=beq_iff_eq.mp g3
    subst e0
    have nk:=zaf h2
    have ns:=zaf h3
    exact PS.imp (zj8 (zqc PySem.F.plainAttrs_list PySem.F.slot_list_insert PySem.F.type_list_insert zjw (zdm (by rw [c.hN]; exact za0 h1) (c.vis _ g2) n1 n2) (zq (Se.e _ _ _ _ _ c h2).1 (zq (Se.e _ _ _ _ _ c h3).1 zak (hs:=ze ns)) (hs:=ze nk)) rfl (by rw [ze nk,ze ns]; rfl) g4 (ze nk) (by rw [ze ns]; rfl)) rfl) fun E σ H h=>zsq h
   ·cases h
  ·cases h
 ·cases h
 ·cases h
  intro pins s σ H E I ⟨ρ,o,F,he,_,_⟩
  cases he
 ·cases h
theorem znh (cf:Cfg) (cl:Cl) (W:Nat):∀ n,SndS cf cl W n
 | 0=>⟨fun _ _ _ _ _ _ _ _ _ _ _ h=>(by cases h),fun _ _ _ _ _ _ _ _ _ _ _ h=>(by cases h)⟩
 | n+1=>by
  have S':=znh cf cl W n
  refine ⟨zr6 S',fun B sc N X st s' F₀ H₀ c hfn hsc h=>?_⟩
  unfold cSs at h
  split at h
  ·cases h
   refine PSs.imp znx fun E σ H ⟨ρ,o,F,he,env,oe⟩=>?_
   cases he
   exact oe σ F H env Keep.refl
  ·obtain ⟨s1,h1,h⟩:=za h
   obtain ⟨r1,h2,rfl⟩:=zb h
   exact PSs.imp (zln (S'.s B _ _ _ _ _ F₀ H₀ c hfn hsc h1) (S'.ss B _ _ _ _ _ F₀ H₀ c hfn hsc h2)) fun E σ H h=>zsw h
structure Txt (dd:List Nat) (P:Program) (K:Frag) (mg:Str→Option Value):Prop where
 fn:∀ (f:Nat) (st:Stmt),(topDefs P)[f]? = some st→dd.contains f=false→∃ x fa fd,defName st=some x∧Fun K x x st fa fd∧mg x=some (.ref fa)∧Binds K fd (argNames (defArgs st)) []
 bl:∀ x,(cfgOf P).bls.contains x=true→mg x=none
 con:∀ x c,(cfgOf P).cons.lookup x=some c→∃ u,mg x=some u∧RelV (cnV c) u
theorem zhc:∀ {l:List Stmt} {f:Nat} {x:Str},(∀ s∈l,(defName s).isSome=true)→(l.filterMap defName)[f]? = some x→∃ st,l[f]? = some st∧defName st=some x
 | [],f,x,_,h=>by simp at h
 | s::l,f,x,hs,h=>by
  have h0:=hs s List.mem_cons_self
  cases e:defName s with
  | none=>rw [e] at h0; cases h0
  | some y =>
   rw [List.filterMap_cons,e] at h
   cases f with
   | zero=>simp at h; subst h; exact ⟨s,rfl,e⟩
   | succ f =>
    obtain ⟨st,h1,h2⟩:=zhc (l:=l) (fun s' h'=>hs s' (List.mem_cons_of_mem _ h')) (by simpa using h)
    exact ⟨st,by simpa using h1,h2⟩
theorem zer {cl:Cl} {W:Nat} {ds:List D}:runF cl W dead ds=none:=by
 unfold runF
 split
 ·rfl
 ·rfl
theorem told {dd:List Nat} {P:Program} {fs:List Fn} {f:Nat} {fn:Fn} {st:Stmt} {cl:Cl} {W:Nat} {ds:List D} {d:D} (hc:compileX dd P=some fs) (h1:fs[f]? = some fn) (h2:(topDefs P)[f]? = some st) (h:runF cl W fn ds=some d):(cFn (cfgOf P) st=some fn)∧dd.contains f=false :=by
 have e:fs=killAt dd 0 ((topDefs P).map fun s=>(cFn (cfgOf P) s).getD dead):=(Option.some.inj hc).symm
 rw [e] at h1
 rcases zg7 dd h1 with h0 | ⟨h1,hd⟩
 ·rw [h0,zer] at h
  cases h
 rw [Nat.zero_add] at hd
 refine ⟨?_,hd⟩
 rw [List.getElem?_map,h2] at h1
 have h1:(cFn (cfgOf P) st).getD dead=fn:=Option.some.inj h1
 cases q:cFn (cfgOf P) st with
 | some g=>rw [q] at h1; exact congrArg some h1
 | none =>
  rw [q] at h1
  have h1:dead=fn:=h1
  rw [← h1,zer] at h
  cases h
section
variable {P:Program} {w:World} {K:Frag} {mg:Str→Option Value} {base:Heap} {cl:Cl} {W:Nat}
theorem zsz {sc:Scope} {x:Str} (h:gl sc x=true):sc.names.lookup x=some .globalImplicit:=by
 unfold gl at h
 split at h
 ·assumption
 ·cases h
theorem zfh {ds:List D} {m i:Nat} {sl:Sl} (hm:Sl.mineB sl=true) (h:(ds.map Sl.val++List.replicate m Sl.no)[i]? = some sl):False:=by
 by_cases hi:i < ds.length
 ·rw [List.getElem?_append_left (by simpa using hi),List.getElem?_map] at h
  cases e:ds[i]? with
  | none=>rw [e] at h; cases h
  | some z=>rw [e] at h; cases h; cases hm
 ·rw [List.getElem?_append_right (by simpa using hi),List.getElem?_replicate] at h
  split at h <;> cases h <;> cases hm
theorem zgi {ds:List D} {m i:Nat} {l:D} (h:mine (ds.map Sl.val++List.replicate m Sl.no) i=some l):False:=by
 obtain ⟨sl,h1,_,h2⟩:=zfs h
 exact zfh h2 h1
theorem zjo {H:Hp} {σ:St} {ds:List D} {m i:Nat} {b:Addr} (h:Owns H σ (ds.map Sl.val++List.replicate m Sl.no) i b):False:=by
 rcases h with ⟨d,h1,_⟩ | ⟨t,ks,ls,a,us,h1,_⟩
 ·exact zgi h1
 ·exact zfh (sl:=.dl t ks ls) rfl h1
theorem zlf {F:Fz} {H:Hp} {ds:List D} {vs:List V} (r:Reps K F H ds vs) (dom:∀ a,F a→H a≠none) (tb:Tabs K H) (m:Nat):EnvR K F H (vs.map some++List.replicate m none) (ds.map Sl.val++List.replicate m Sl.no) where
 val:=fun i d h=>by
  by_cases hi:i < ds.length
  ·rw [List.getElem?_append_left (by simpa using hi),List.getElem?_map] at h
   cases e:ds[i]? with
   | none=>rw [e] at h; cases h
   | some z =>
    rw [e] at h
    cases h
    obtain ⟨v,h1,h2⟩:=r.get e
    refine ⟨v,?_,h2⟩
    rw [List.getElem?_append_left (by rw [List.length_map,← r.length]; exact hi),List.getElem?_map,h1]
    rfl
  ·rw [List.getElem?_append_right (by simpa using hi),List.getElem?_replicate] at h
   split at h <;> cases h
 own:=fun i l h=>(zgi h).elim
 dl:=fun i t ks ls h=>(zfh (sl:=.dl t ks ls) rfl h).elim
 len:=by rw [List.length_append,List.length_append,List.length_map,List.length_map,List.length_replicate,List.length_replicate,r.length]
 dom:=dom
 tab:=tb
theorem GrowM.none {F F':Fz} {H H':Hp} (g:GrowM NoM F H F' H'):Grow F H F' H':=⟨g.sub,fun a o e n=>g.same a o id e n,g.tab,g.new⟩
theorem zhw {fn:Fn} {ds:List D} (h:ioB fn.body=false):runF cl W fn ds=if ds.length=fn.ps∧fn.ps≤fn.n then (exs cl W fn.body (ds.map .val++List.replicate (fn.n - fn.ps) .no)).bind (fun o=>match o with | .rt d=>some d | .nx _=>some .non | _=>none) else none:=by
 unfold runF
 cases hb:fn.body with
 | nil=>rfl
 | cons s r =>
  rw [hb] at h
  cases s <;> first | rfl | cases h
def ClOk (P:Program) (w:World) (K:Frag) (mg:Str→Option Value) (base:Heap) (k:Nat) (cl:Cl):Prop :=
 (∀ (f:Nat) y ds d,(cfgOf P).fns[f]? = some y →
  cl f ds=some d→∃ fa fd ps,FnOk P w K mg base CX0 k fa fd ps (spD K ds d)∧mg y=some (.ref fa)∧keepIn K (.ref fa)=true∧Binds K fd ps [])
def LamB (K:Frag) (mg:Str→Option Value) (base:Heap):Prop:=∀ x∈lamNames,∃ c Pt,PySem.W.tabIn K x=some (c,Pt)∧PySem.W.CodeHd base c Pt∧base.BuiltinsAt mg Pt∧mainGlobals≠Pt
theorem zqh {dd:List Nat} {k:Nat} {x:Str} {sc:Scope} {N:List Str} {fa:Addr} {cdv:Value} {A:Around} {outer:List Env} {s:Shared} {H:Hp} {E:XK} (T:Txt dd P K mg) (hcl:ClOk P w K mg base k cl) (g4:N.Nodup) (hR:Room (k+3) (A.deeper (envOfC x sc s.heap.objs.size fa cdv)))
  (hla:lamNames.contains x=true→∃ c Pt,cdv=.ref c∧PySem.W.tabIn K x=some (c,Pt)∧PySem.W.CodeHd base c Pt∧base.BuiltinsAt mg Pt∧mainGlobals≠Pt) :
  Ctx (hereOf (cfgOf P) x) cl sc N (cxOf CX0 P w K mg base N x sc fa cdv A outer s H E).nox:=by
 refine ⟨rfl,g4,rfl,rfl,fun y hy=>?_,fun y hy=>zsz hy,fun y hy=>?_,fun y hy=>?_,⟨fun f y ds d h1=>?_,
  T.bl,T.con,hR.units⟩,fun hh _=>?_⟩
 ·unfold PY.seen at hy
  show Vis sc y
  unfold Vis
  split at hy
  ·rename_i e; exact .inl e
  ·rename_i e; exact .inr (.inl e)
  ·rename_i e; exact .inr (.inr e)
  ·cases hy
 ·unfold capt at hy
  rw [Bool.or_eq_true] at hy
  exact hy.imp (fun z=>beq_iff_eq.mp z) fun z=>beq_iff_eq.mp z
 ·unfold isLocal at hy
  exact beq_iff_eq.mp hy
 ·intro h2
  obtain ⟨fa',fd',ps,h3,h4,h5,h6⟩:=hcl f y ds d h1 h2
  exact ⟨k,fa',fd',ps,h3,hR.mono (by lia),h4,h5,h6⟩
 ·obtain ⟨c,Pt,e1,e2,e3,e4,e5⟩:=hla hh
  refine ⟨c,Pt,e1,⟨x,by have hh:lamNames.contains x=true:=hh; simpa using hh,e2⟩,e3,e4,e5,k,hR,fun f y ds d h1=>?_⟩
  intro h2
  exact hcl f y ds d h1 h2
theorem okC {x qual:Str} {st:Stmt} {f:Addr} {fd:FuncData} {N ps:List Str} {k:Nat} {sp:Sp} (F:Fun K x qual st f fd) (S:FnScope N ps (defScope st)) (len:∀ vs H Q E,sp vs H Q E→vs.length=ps.length)
  (hbody:∀ (cdv:Value),fd.code=cdv→∀ (A:Around) (outer:List Env) (s:Shared) (H:Hp) (vs:List V) (Q:VK) (E:XK),Room k (A.deeper (envOfC qual (defScope st) s.heap.objs.size f cdv))→sp vs H Q E →
   ∃ t,PSs (cxOf CX0 P w K mg base N qual (defScope st) f cdv A outer s H E).nox (defBody st) t∧t { nx:=fun _ H'=>Q .non H',rt:=Q} (L2.start N vs) H):FnOk P w K mg base CX0 (k+1) f fd ps sp:=by
 obtain ⟨oc,od,kV,doc,pm,an,cdv,ct,osl,rfl,lk,hcd⟩:=F.ex
 exact zq1 lk hcd S len fun A outer s H vs Q E hr hsp=>let ⟨t,h,q⟩:=hbody cdv rfl A outer s H vs Q E hr hsp; ⟨t,h.nox,q⟩
theorem zlo {ps:List Str} {sc:Scope} (g:fnOk ps (frameNames ps sc) sc=true):FnScope (frameNames ps sc) ps sc∧(frameNames ps sc).Nodup:=by
 unfold fnOk at g
 simp only [Bool.and_eq_true,decide_eq_true_eq,Bool.not_eq_true',Bool.or_eq_true] at g
 obtain ⟨⟨⟨⟨⟨⟨g1,g2⟩,g3⟩,g4⟩,g5⟩,g6⟩,g7⟩:=g
 exact ⟨⟨g1,g2,g3,g4,g5,fun y hy=>by
   have:=List.all_eq_true.mp g6 y hy
   simpa using this,fun y hy=>by
   have:=List.all_eq_true.mp g7 y hy
   simpa using this⟩,g4⟩
theorem zin {x:Str} {st:Stmt} {fa:Addr} {fd:FuncData} (Fu:Fun K x x st fa fd) (hm:mg x=some (.ref fa)) (KB:K.In base) (GB:base.Ns mainGlobals mg) (LB:LamB K mg base) :
  lamNames.contains x=true→∃ c Pt,fd.code=.ref c∧PySem.W.tabIn K x=some (c,Pt)∧PySem.W.CodeHd base c Pt∧base.BuiltinsAt mg Pt∧mainGlobals≠Pt:=fun hh=>by
 obtain ⟨c,Pt,e1,e2,e3,e4⟩:=LB x (by simpa using hh)
 obtain ⟨oc,od,kV,doc,pm,an,cdv,ct,osl,e,lk,hcd⟩:=Fu.ex
 exact ⟨c,Pt,PySem.W.law_code KB GB e1 hm (KB _ _ lk) rfl,e1,e2,e3,e4⟩
theorem zq6 {dd:List Nat} {k:Nat} {x:Str} {st:Stmt} {fa:Addr} {fd:FuncData} {fn:Fn} (T:Txt dd P K mg) (Fu:Fun K x x st fa fd) (hnm:defName st=some x) (hm:mg x=some (.ref fa)) (KB:K.In base) (GB:base.Ns mainGlobals mg) (LB:LamB K mg base) (hc:cFn (cfgOf P) st=some fn)
  (hcl:ClOk P w K mg base k cl)
  {ds:List D} {d:D} (hr:runF cl W fn ds=some d):FnOk P w K mg base CX0 (k+4) fa fd (argNames (defArgs st)) (spD K ds d):=by
 cases st <;> first | (cases hc; done) | skip
 rename_i nm as body p1 p2 p3 sc p4 p5 p6
 cases hnm
 have hla:=zin Fu hm KB GB LB
 obtain ⟨g,hc⟩:=zf hc
 obtain ⟨b,hb,hc⟩:=za hc
 obtain ⟨gb,hc⟩:=zf hc
 rw [Bool.not_eq_true'] at gb
 cases hc
 rw [Bool.and_eq_true] at g
 obtain ⟨Sc,nd⟩:=zlo g.2
 rw [zhw gb] at hr
 split at hr
 ·rename_i hlen
  obtain ⟨o,ho,hr⟩:=za hr
  refine okC Fu (N:=frameNames (argNames as) sc) Sc (fun vs H Q E h=>?_) fun cdv hcdv A outer s H vs Q E hR h=>?_
  ·obtain ⟨F,_,_,r,_⟩:=h
   rw [← r.length]
   exact hlen.1
  ·obtain ⟨F,dom,tb,r,q⟩:=h
   refine ⟨_,(znh (hereOf (cfgOf P) x) cl W 60).ss ⟨NoM,0⟩ sc _ _ body b F H (zqh T hcl nd hR fun hh=>by rw [← hcdv]; exact hla hh) (fun _=>rfl) rfl hb,?_⟩
   have hv:vs.length=(argNames as).length:=by rw [← r.length]; exact hlen.1
   refine ⟨_,o,F,ho,⟨?_,GrowM.refl _ _ _,fun i l a hi=>(zgi hi).elim,fun i b hi=>(zjo hi).elim,fun i ks ls b hi=>(zfh (sl:=.dl false ks ls) rfl hi).elim,fun i j b hi=>(zjo hi).elim,fun i ks ls hi=>(zfh (sl:=.dl true ks ls) rfl hi).elim,fun a z=>z.elim⟩,?_⟩
   ·unfold L2.start
    rw [hv]
    exact zlf r dom tb _
   ·cases o with
    | rt d'=>cases hr; exact fun v F' H' g' r'=>q v F' H' g'.none r'
    | nx ρ'=>cases hr; exact fun σ' F' H' e' _=>q .non F' H' e'.grow.none zke
    | bk ρ'=>cases hr
    | ct ρ'=>cases hr
 ·cases hr
theorem zm6 {dd:List Nat} (T:Txt dd P K mg) (KB:K.In base) (GB:base.Ns mainGlobals mg) (LB:LamB K mg base) {fs:List Fn} (hc:compileX dd P=some fs):∀ k:Nat,ClOk P w K mg base (4 * k) (run fs W k)
 | 0 =>
  fun _ _ _ _ _ h=>(by cases h)
 | k+1=>by
  intro f y ds d hy h
  obtain ⟨fn,h1,h⟩:=za h
  obtain ⟨st,h2,h3⟩:=zhc (l:=topDefs P) (fun s hs=>(List.mem_filter.mp hs).2) hy
  obtain ⟨h5,hd⟩:=told hc h1 h2 h
  obtain ⟨x,fa,fd,h6,Fu,hm,hb⟩:=T.fn f st h2 hd
  rw [h3] at h6
  cases h6
  exact ⟨fa,fd,_,zq6 T Fu h3 hm KB GB LB h5 (zm6 T KB GB LB hc k) h,hm,Fu.kp,hb⟩
end
def scrD (ns:List Int):D:=.lst (ns.map .int)
def spLaw (K:Frag):Sp:=fun vs H Q E=>∃ ns:List Int,ns.length≤63∧spD K [scrD ns] (.bl true) vs H Q E
theorem zcx {K:Frag} {F:Fz} {H:Hp}:∀ ns:List Int,Reps K F H (ns.map .int) (ns.map V.int)
 | []=>.nil
 | _::r=>.cons zr (zcx r)
theorem zq3 {K:Frag} {H:Hp} {a:Addr} {ns:List Int} (hl:ns.length≤63) (tb:Tabs K H) (h:SqL K H a (ns.map V.int)):spLaw K [.ref a] H (fun v _=>v=.bl true) fun _ _ _=>False:=by
 have fin:∀ (v:V) (F':Fz) (H':Hp),Rep K F' H' (.bl true) v→v=.bl true:=fun v F' H' r=>by rw [Rep] at r; exact r
 rcases h with h | h
 ·refine ⟨ns,hl,fun b=>b=a,fun b hb=>?_,tb,.cons ?_ .nil,fun v F' H' _ r=>fin v F' H' r⟩
  ·rw [hb]
   rcases h with h | ⟨o,h⟩ <;> (rw [h]; simp)
  ·unfold scrD
   rw [Rep]
   exact ⟨a,_,rfl,.inl ⟨rfl,h⟩,zcx ns⟩
 ·refine ⟨ns,hl,fun _=>False,fun b hb=>hb.elim,tb,.cons ?_ .nil,fun v F' H' _ r=>fin v F' H' r⟩
  unfold scrD
  rw [Rep]
  exact ⟨a,_,rfl,.inr fun H'=>.inr h,zcx ns⟩
theorem zri {dd:List Nat} {P:Program} {w:World} {K:Frag} {mg:Str→Option Value} {fs:List Fn} {W k f:Nat} {x y:Str} {st:Stmt} {fa:Addr} {fd:FuncData} {base:Heap} (T:Txt dd P K mg) (KB:K.In base) (GB:base.Ns mainGlobals mg) (LB:LamB K mg base) (hnm:defName st=some y) (hm:mg y=some (.ref fa)) (hc:compileX dd P=some fs) (hst:(topDefs P)[f]? = some st) (hp:argNames (defArgs st)=[x])
  (hrun:∀ ns:List Int,ns.length≤63→run fs W (k+1) f [scrD ns]=some (.bl true)) (Fu:Fun K y y st fa fd):FnOk P w K mg base CX0 (4 * k+4) fa fd [x] (spLaw K):=by
 have one:∀ ns:List Int,ns.length≤63→FnOk P w K mg base CX0 (4 * k+4) fa fd [x] (spD K [scrD ns] (.bl true)):=fun ns hl=>by
  have h:=hrun ns hl
  obtain ⟨fn,h1,h⟩:=za (show (fs[f]?).bind (fun fn=>runF (run fs W k) W fn [scrD ns])=some (.bl true) from h)
  obtain ⟨h5,_⟩:=told hc h1 hst h
  rw [← hp]
  exact zq6 T Fu hnm hm KB GB LB h5
   (zm6 T KB GB LB hc k) h
 exact ⟨fun vs H Q E ⟨ns,hl,q⟩=>(one ns hl).len vs H Q E q,fun A outer s H args us vs Q E hr he hb' hv ⟨ns,hl,q⟩=>(one ns hl).run A outer s H args us vs Q E hr he hb' hv q⟩
def FnAt (K:Frag) (mg:Str→Option Value) (st:Stmt):Prop:=∃ x fa fd,defName st=some x∧Fun K x x st fa fd∧mg x=some (.ref fa)∧Binds K fd (argNames (defArgs st)) []
def AllT (dd:List Nat) (K:Frag) (mg:Str→Option Value):Nat→List Stmt→Prop
 | _,[]=>True
 | k,s::r=>(if dd.contains k=true then True else FnAt K mg s)∧AllT dd K mg (k+1) r
theorem AllT.get {dd:List Nat} {K:Frag} {mg:Str→Option Value}:∀ {l:List Stmt} {k f:Nat} {st:Stmt},AllT dd K mg k l→l[f]? = some st→dd.contains (k+f)=false→FnAt K mg st
 | [],_,_,_,_,h,_=>by simp at h
 | s::r,k,0,st,a,h,hd=>by
  simp only [List.getElem?_cons_zero] at h
  cases h
  have a:=a.1
  rw [if_neg (by rw [Nat.add_zero] at hd; rw [hd]; decide)] at a
  exact a
 | s::r,k,f+1,st,a,h,hd=>AllT.get (k:=k+1) a.2 (by simpa using h) (by rw [show k+1+f=k+(f+1) by lia]; exact hd)
def AllN (K:Frag):List Str→Prop
 | []=>True
 | x::r=>nsIn K mainGlobals x=some none∧AllN K r
theorem AllN.get {K:Frag}:∀ {l:List Str} {x:Str},AllN K l→l.contains x=true→nsIn K mainGlobals x=some none
 | [],_,_,h=>by simp at h
 | y::r,x,a,h=>by
  rw [List.contains_cons,Bool.or_eq_true] at h
  rcases h with h | h
  ·rw [beq_iff_eq.mp h]; exact a.1
  ·exact AllN.get a.2 h
def AllC (K:Frag):List (Str×Cn)→Prop
 | []=>True
 | (x,c)::r=>(∃ u,nsIn K mainGlobals x=some (some u)∧RelV (cnV c) u)∧AllC K r
theorem AllC.get {K:Frag}:∀ {l:List (Str×Cn)} {x:Str} {c:Cn},AllC K l→l.lookup x=some c→∃ u,nsIn K mainGlobals x=some (some u)∧RelV (cnV c) u
 | [],_,_,_,h=>by simp at h
 | (y,c')::r,x,c,a,h=>by
  rw [List.lookup_cons] at h
  split at h
  ·rename_i e
   cases h
   rw [beq_iff_eq.mp e]; exact a.1
  ·exact AllC.get a.2 h
theorem zqe {dd:List Nat} {P:Program} {K:Frag} {h:Heap} {mg:Str→Option Value} (X:K.In h) (G:h.Ns mainGlobals mg) {ds:List Stmt} {cs:List (Str×Cn)} (h1:topDefs P=ds) (h2:topCons P.main.body=cs) (a:AllT dd K mg 0 ds) (b:AllN K bnames) (c:AllC K cs):Txt dd P K mg :=
  ⟨fun f st e hd=>a.get (by rw [h1] at e; exact e) (by rw [Nat.zero_add]; exact hd),fun x e=>PySem.W.mg_none_of X G (b.get e),fun x c' e=>by
    obtain ⟨u, p, q⟩ := c.get (by have : cs.lookup x = some c' := by rw [← h2]; exact e
                                  exact this)
    exact ⟨u,PySem.W.mg_of X G p,q⟩⟩
theorem zau {K:Frag} {h:Heap} {mg:Str→Option Value} {x:Str} {st:Stmt} {f:Addr} {fd:FuncData} {ps:List Str} (X:K.In h) (G:h.Ns mainGlobals mg) (a:nsIn K mainGlobals x=some (some (.ref f))) (Fu:Fun K x x st f fd) (hn:defName st=some x) (hps:argNames (defArgs st)=ps)
  (hb:∀ (kV doc pm:Value) (an:Option Addr) (cdv ct:Value) (us:List Value),us.length=ps.length→bindArgs (fnOf x x (defArgs st) (defBody st) (defScope st) .none kV doc pm an cdv ct) ⟨us,[]⟩=pure (ps.zip us)):FnAt K mg st :=
 ⟨x,f,fd,hn,Fu,PySem.W.mg_of X G a,by rw [hps]; exact Fu.binds hb⟩
end SD
namespace SD
open PySem PySem.Spec PyProof.Rows L2 PY
theorem walkT {l:PySem.W.OpenLaw} {q:Program} {loose:List Str} {XP:(Str→Option Value)→Heap→Prop} {YP:World→Heap→Prop} {d:DefRec} {K:Params→Frag} {ts:List Addr} {k:Nat} {x:Str} (hn:l.most=some 63) (hdf:d.params.defaults=[]) (hr:Room k callerA)
  (hY:∀ (w:World) (h:Heap),YP w h→(K w.params).In h∧∀ P∈ts,h.get? P=some (PySem.W.tabObj #[]))
  (hT:∀ (w:World),∀ P∈ts,(K w.params).lookup P=none∧∃ c,PySem.W.codeHdIn (K w.params) c P=true)
  (hL:∀ (w:World),∀ y∈lamNames,∃ c P,PySem.W.tabIn (K w.params) y=some (c,P)∧P∈ts∧PySem.W.codeHdIn (K w.params) c P=true)
  (F:∀ (w:World) (mg:Str→Option Value) (fa:Addr) (h:Heap),(K w.params).In h→h.Ns mainGlobals mg→mg d.name=some (.ref fa) →
   ∃ fd:FuncData,(∀ (s:Shared) (u:Value),BindsTo s fd ⟨[u],[]⟩ [(x,u)])∧∀ base:Heap,(K w.params).In base→base.Ns mainGlobals mg→LamB (K w.params) mg base→FnOk l.prog w (K w.params) mg base CX0 k fa fd [x] (spLaw (K w.params))) :
  PySem.W.WalkO q loose XP YP l.row.toRowW d [] (fun f vs=>PySem.call f vs):=by
 refine Att.attach_call hn hdf fun w s₀ s₁ mg mb fa o pm cd doc a vs ns G Y ho hd hcd hmg hobj hints hlen hg=>?_
 obtain ⟨KX,TX⟩:=hY w _ Y
 obtain ⟨fd,hbind,hF⟩:=F w mg fa _ KX G.T.g hmg
 have hT:=hT w
 have hL:=hL w
 generalize K w.params=K at *
 have rv:=za7 hints
 have lenV:=hints.length
 have hz:ns.length≤sizeLine:=Nat.le_trans hlen (by decide)
 have hap:a∉ts:=fun z=>by
  have:=TX a z
  rw [hobj] at this; cases this
 -- the abstract heap: the script,unless it is the text's own,and the tables
 let H:Hp:=fun b=>if b=a then (match K.lookup a with | some _=>none | none=>some (.frz { cls:=.type "list",data:=.seq vs.toArray} (.lst (ns.map V.int)))) else if b∈ts then some (.tbl #[]) else none
 have Hne:∀ b u,H b=some u→(b=a∧K.lookup a=none∧u=.frz { cls:=.type "list",data:=.seq vs.toArray} (.lst (ns.map V.int)))∨(b∈ts∧u=.tbl #[]):=fun b u e=>by
  by_cases hb:b=a
  ·have e:(match K.lookup a with | some _=>none | none=>some (HO.frz { cls:=.type "list",data:=.seq vs.toArray} (.lst (ns.map V.int))))=some u:=by simpa only [H,hb,if_true] using e
   cases hk:K.lookup a with
   | some _=>rw [hk] at e; cases e
   | none=>rw [hk] at e; cases e; exact .inl ⟨hb,rfl,rfl⟩
  ·by_cases ht:b∈ts
   ·have e:some (HO.tbl #[])=some u:=by simpa only [H,if_neg hb,if_pos ht] using e
    cases e; exact .inr ⟨ht,rfl⟩
   ·have e:(none:Option HO)=some u:=by simpa only [H,if_neg hb,if_neg ht] using e
    cases e
 have Htb:∀ P∈ts,H P=some (.tbl #[]):=fun P hP=>by
  have:P≠a:=fun z=>hap (z▸hP)
  simp only [H,if_neg this,if_pos hP]
 have free:∀ {b:Addr} {ob:Obj},s₁.heap.get? b=some ob→(∀ vs n,ob.data≠.seq vs n)→(∀ fs,ob.data≠.fields fs)→H b=none:=fun {b ob} e h1 h2=>by
  cases z:H b with
  | none=>rfl
  | some u =>
   rcases Hne b u z with ⟨rfl,_,_⟩ | ⟨ht,_⟩
   ·rw [hobj] at e; cases e; exact absurd rfl (h1 _ _)
   ·rw [TX b ht] at e; cases e; exact absurd rfl (h2 _)
 have base_of:∀ {b:Addr} {o:Obj},s₁.heap.get? b=some o→H b=none→(hidT s₁.heap H).get? b=some o:=fun e n=>zg4 e n
 have nsK:∀ {b:Addr} {m:Str→Option Value},s₁.heap.Ns b m→(hidT s₁.heap H).Ns b m:=fun {b m} ⟨o,es,ep,e,hd,r⟩=>⟨o,es,ep,base_of e (free e (fun _ _ z=>by rw [hd] at z; cases z) fun _ z=>by rw [hd] at z; cases z),hd,r⟩
 have hKb:K.In (hidT s₁.heap H):=fun b o e=>base_of (KX b o e) (by
  cases z:H b with
  | none=>rfl
  | some u =>
   rcases Hne b u z with ⟨rfl,hk,_⟩ | ⟨ht,_⟩
   ·rw [hk] at e; cases e
   ·rw [(hT b ht).1] at e; cases e)
 have hM:Mod K mg (hidT s₁.heap H):=⟨hKb,nsK G.T.g,⟨mb,nsK G.T.b,G.T.builtins⟩,let ⟨mc,h1,h2⟩:=G.T.nolimit; ⟨mc,nsK h1,h2⟩⟩
 have gNe:∀ P∈ts,mainGlobals≠P:=fun P hP z=>by
  obtain ⟨o,es,ep,e,hd,_⟩:=G.T.g
  rw [z,TX P hP] at e; cases e; cases hd
 have hLB:LamB K mg (hidT s₁.heap H):=fun y hy=>by
  obtain ⟨c,P,e1,e2,e3⟩:=hL y hy
  refine ⟨c,P,e1,PySem.W.codeHd_of_K hKb e3,?_,gNe P e2⟩
  obtain ⟨bm,ob,b1,b2,b3,b4,b5,b6⟩:=G.T.bmain
  refine ⟨bm,ob,b1,b2,fun z=>?_,fun z=>?_,base_of b3 (free b3 (fun _ _ z=>by rw [b6] at z; cases z) fun _ z=>by rw [b6] at z; cases z),b4,b5,b6⟩
  ·obtain ⟨o,es,ep,e,hd,_⟩:=G.T.g
   rw [z,e] at b3; cases b3; rw [hd] at b6; cases b6
  ·rw [z,TX P e2] at b3; cases b3; cases b4
 have hok:HOk l.prog w H s₁.heap:=fun b u e=>by
  rcases Hne b u e with ⟨rfl,_,rfl⟩ | ⟨ht,rfl⟩
  ·exact ⟨hobj,by rw [List.length_map]; exact hz,vs,_,rv,hobj⟩
  ·exact TX b ht
 have tb:Tabs K H:=by
  refine ⟨fun P ps e=>?_,fun y hy c P e=>?_⟩
  ·rcases Hne P _ e with ⟨_,_,z⟩ | ⟨_,z⟩
   ·cases z
   ·cases z
    exact ⟨True.intro,fun pos cv h=>by cases h⟩
  ·obtain ⟨c',P',e1,e2,_⟩:=hL y hy
   rw [e] at e1
   cases e1
   exact ⟨_,Htb P e2⟩
 have hS:SqL K H a (ns.map V.int):=by
  cases hk:K.lookup a with
  | some ob =>
   have e:=KX a ob hk
   rw [hobj] at e
   cases e
   exact .inr ⟨_,vs.toArray,_,hk,rfl,rfl,rfl,by rw [List.size_toArray,lenV]; exact hz,by simpa using rv⟩
  | none=>exact .inl (.inr ⟨{ cls:=.type "list",data:=.seq vs.toArray},by simp only [H,if_true,hk]⟩)
 have e0:Env0 l.prog w K mg (hidT s₁.heap H) callerA [] s₁ H:=⟨rfl,hM,fun b o e=>zik e,Nat.le_of_eq (ze1 _ _),trivial,fun b hb=>absurd (show b∈([]:List Addr) from hb) (by simp),hok,.of_eq hg⟩
 refine codeAny_mono ((hF _ hKb (nsK G.T.g) hLB).run callerA [] s₁ H ⟨[.ref a],[]⟩ [.ref a] [.ref a] _ _ hr e0 (hbind s₁ (.ref a)) (.cons rfl .nil) (zq3 hlen tb hS)) fun r s' h=>?_
 cases r with
 | error e=>exact False.elim h
 | ok fl =>
  cases fl with
  | next=>exact False.elim h
  | brk=>exact False.elim h
  | cont=>exact False.elim h
  | ret u =>
   obtain ⟨v,H',os,bare,un,hok',r',qv⟩:=h
   have q':v=.bl true:=qv
   subst q'
   obtain rfl:u=Value.bool true:=r'
   have old:∀ b o,s₁.heap.get? b=some o→s'.heap.get? b=some o∨(b∈ts∧∃ more,s'.heap.get? b=some (PySem.W.tabObj more)):=fun b o e=>by
    cases z:H b with
    | none=>exact .inl (un.keep b o e z (by intro z; exact absurd (show b∈([]:List Addr) from z) (by simp)) (by simp))
    | some u =>
     rcases Hne b u z with ⟨rfl,hk,rfl⟩ | ⟨ht,rfl⟩
     ·have z2:=un.frzs b _ _ z
      obtain ⟨e1,_⟩:=hok b _ z
      obtain ⟨e2,_⟩:=hok' b _ z2
      rw [e] at e1; cases e1
      exact .inl e2
     ·obtain ⟨more,z2⟩:=un.tbls b _ z
      exact .inr ⟨ht,_,hok' b _ z2⟩
   refine ⟨rfl,⟨fun b o e=>?_,fun b o e=>?_⟩,os,bare⟩
   ·rcases old b o e with h | ⟨ht,more,h⟩
    ·exact .inl h
    ·rw [TX b ht] at e
     cases e
     obtain ⟨c,hc⟩:=(hT b ht).2
     exact .inr (.inl ⟨((PySem.W.codeHd_of_K KX hc).tab (TX b ht)).isCodeTable,rfl,#[],more,rfl,by rw [Array.empty_append]; exact h⟩)
   ·rcases old b o e with h | ⟨_,more,h⟩
    ·exact ⟨_,h⟩
    ·exact ⟨_,h⟩
end SD
namespace SD
theorem len1 {α:Type}:∀ {us:List α},us.length=1→∃ a,us=[a]
 | [a],_=>⟨a,rfl⟩
theorem len2 {α:Type}:∀ {us:List α},us.length=2→∃ a b,us=[a,b]
 | [a,b],_=>⟨a,b,rfl⟩
theorem len3 {α:Type}:∀ {us:List α},us.length=3→∃ a b c,us=[a,b,c]
 | [a,b,c],_=>⟨a,b,c,rfl⟩
end SD
namespace EU
variable {α:Type}
inductive Rch (E:α→α→Prop):α→α→Prop
 | refl (a:α):Rch E a a
 | step {a b c:α}:Rch E a b→E b c→Rch E a c
 | back {a b c:α}:Rch E a b→E c b→Rch E a c
namespace Rch
variable {E F:α→α→Prop} {a b c:α}
theorem one (h:E a b):Rch E a b:=(Rch.refl a).step h
theorem trans (h:Rch E a b) (h':Rch E b c):Rch E a c:=by
 induction h' with
 | refl=>exact h
 | step _ e ih=>exact ih.step e
 | back _ e ih=>exact ih.back e
theorem symm (h:Rch E a b):Rch E b a:=by
 induction h with
 | refl=>exact .refl _
 | step _ e ih=>exact ((Rch.refl _).back e).trans ih
 | back _ e ih=>exact (one e).trans ih
theorem sub (h:Rch E a b) (s:∀ x y,E x y→Rch F x y):Rch F a b:=by
 induction h with
 | refl=>exact .refl _
 | step _ e ih=>exact ih.trans (s _ _ e)
 | back _ e ih=>exact ih.trans (s _ _ e).symm
theorem inv {P:α→Prop} (h:Rch E a b) (s:∀ x y,E x y→(P x↔P y)):P a↔P b:=by
 induction h with
 | refl=>exact Iff.rfl
 | step _ e ih=>exact ih.trans (s _ _ e)
 | back _ e ih=>exact ih.trans (s _ _ e).symm
end Rch
noncomputable def Plus (E:α→α→Prop) (a b:α):α→α→Prop:=fun x y=>E x y∨(x=a∧y=b)
theorem zhu {E:α→α→Prop} {a b x y:α} (h:Rch (Plus E a b) x y):Rch E x y∨(Rch E x a∧Rch E b y)∨(Rch E x b∧Rch E a y):=by
 induction h with
 | refl=>exact .inl (.refl _)
 | step _ e ih =>
  rcases e with e | ⟨rfl,rfl⟩
  ·rcases ih with h | ⟨h,k⟩ | ⟨h,k⟩
   ·exact .inl (h.step e)
   ·exact .inr (.inl ⟨h,k.step e⟩)
   ·exact .inr (.inr ⟨h,k.step e⟩)
  ·rcases ih with h | ⟨h,k⟩ | ⟨h,k⟩
   ·exact .inr (.inl ⟨h,.refl _⟩)
   ·exact .inr (.inl ⟨h,.refl _⟩)
   ·exact .inl h
 | back _ e ih =>
  rcases e with e | ⟨rfl,rfl⟩
  ·rcases ih with h | ⟨h,k⟩ | ⟨h,k⟩
   ·exact .inl (h.back e)
   ·exact .inr (.inl ⟨h,k.back e⟩)
   ·exact .inr (.inr ⟨h,k.back e⟩)
  ·rcases ih with h | ⟨h,k⟩ | ⟨h,k⟩
   ·exact .inr (.inr ⟨h,.refl _⟩)
   ·exact .inl h
   ·exact .inr (.inr ⟨h,.refl _⟩)
structure Reps (E:α→α→Prop) (U R:List α):Prop where
 inn:∀ r∈R,r∈U
 cov:∀ u∈U,∃ r∈R,Rch E r u
 apa:R.Pairwise fun a b=>¬ Rch E a b
theorem zf8 {β:Type} {P:α→β→Prop}:∀ {R':List β} {R:List α},(∀ b∈R',∃ a∈R,P a b)→(R'.Pairwise fun b c=>∀ a,P a b→¬ P a c)→R'.length≤R.length
 | [],_,_,_=>Nat.zero_le _
 | b::t,R,ex,ap=>by
  obtain ⟨a,ha,hp⟩:=ex b List.mem_cons_self
  obtain ⟨s,r,rfl⟩:=List.append_of_mem ha
  rw [List.pairwise_cons] at ap
  have:=zf8 (R':=t) (R:=s++r) (fun c hc=>by
   obtain ⟨a',h1,h2⟩:=ex c (List.mem_cons_of_mem _ hc)
   refine ⟨a',?_,h2⟩
   rcases List.mem_append.mp h1 with h | h
   ·exact List.mem_append_left _ h
   ·rcases List.mem_cons.mp h with rfl | h
    ·exact absurd h2 (ap.1 c hc _ hp)
    ·exact List.mem_append_right _ h) ap.2
  simp only [List.length_append,List.length_cons] at this ⊢
  lia
theorem Reps.le {E F:α→α→Prop} {U R S:List α} (h:Reps E U R) (k:Reps F U S) (s:∀ x y,Rch E x y→Rch F x y):S.length≤R.length :=
 zf8 (P:=fun r s=>Rch F r s) (fun x hx=>let ⟨r,h1,h2⟩:=h.cov x (k.inn x hx); ⟨r,h1,s _ _ h2⟩) (k.apa.imp fun n a p q=>n (p.symm.trans q))
theorem Reps.ex (E:α→α→Prop):∀ U:List α,∃ R,Reps E U R
 | []=>⟨[],fun _ h=>(by cases h),fun _ h=>(by cases h),.nil⟩
 | u::U=>by
  obtain ⟨R,h⟩:=Reps.ex E U
  by_cases hu:∃ r∈R,Rch E r u
  ·exact ⟨R,fun r hr=>List.mem_cons_of_mem _ (h.inn r hr),fun x hx=>(List.mem_cons.mp hx).elim (fun e=>e▸hu) (h.cov x),h.apa⟩
  ·refine ⟨u::R,fun r hr=>(List.mem_cons.mp hr).elim (fun e=>e▸List.mem_cons_self) fun hr=>List.mem_cons_of_mem _ (h.inn r hr),fun x hx=>?_,List.pairwise_cons.mpr ⟨fun r hr k=>hu ⟨r,hr,k.symm⟩,h.apa⟩⟩
   rcases List.mem_cons.mp hx with rfl | hx
   ·exact ⟨_,List.mem_cons_self,.refl _⟩
   ·obtain ⟨r,h1,h2⟩:=h.cov x hx
    exact ⟨r,List.mem_cons_of_mem _ h1,h2⟩
theorem Reps.join {E:α→α→Prop} {U R:List α} (h:Reps E U R) {a b:α} (ha:a∈U) (hb:b∈U) (n:¬ Rch E a b):∃ S,Reps (Plus E a b) U S∧S.length+1=R.length:=by
 obtain ⟨ra,ha1,ha2⟩:=h.cov a ha
 obtain ⟨rb,hb1,hb2⟩:=h.cov b hb
 obtain ⟨s,t,rfl⟩:=List.append_of_mem hb1
 have sub:∀ x y,Rch E x y→Rch (Plus E a b) x y:=fun x y k=>k.sub fun _ _ e=>.one (.inl e)
 have ab:Rch (Plus E a b) a b:=.one (.inr ⟨rfl,rfl⟩)
 have ap:=List.pairwise_append.mp h.apa
 have ap2:=List.pairwise_cons.mp ap.2.1
 have nb:∀ x∈s++t,¬ Rch E x rb:=fun x hx k=>by
  rcases List.mem_append.mp hx with hx | hx
  ·exact ap.2.2 x hx rb List.mem_cons_self k
  ·exact ap2.1 x hx k.symm
 have old:(s++t).Pairwise fun x y=>¬ Rch E x y:=List.pairwise_append.mpr ⟨ap.1,ap2.2,fun x hx y hy=>ap.2.2 x hx y (List.mem_cons_of_mem _ hy)⟩
 have mem:ra∈s++t:=by
  rcases List.mem_append.mp ha1 with k | k
  ·exact List.mem_append_left _ k
  ·rcases List.mem_cons.mp k with e | k
   ·subst e; exact absurd (ha2.symm.trans hb2) n
   ·exact List.mem_append_right _ k
 refine ⟨s++t,⟨fun r hr=>h.inn r ?_,fun u hu=>?_,?_⟩,by simp only [List.length_append,List.length_cons]; lia⟩
 ·rcases List.mem_append.mp hr with k | k
  ·exact List.mem_append_left _ k
  ·exact List.mem_append_right _ (List.mem_cons_of_mem _ k)
 ·obtain ⟨r,h1,h2⟩:=h.cov u hu
  by_cases e:r=rb
  ·subst e
   exact ⟨ra,mem,(sub _ _ ha2).trans (ab.trans (sub _ _ (hb2.symm.trans h2)))⟩
  ·refine ⟨r,?_,sub _ _ h2⟩
   rcases List.mem_append.mp h1 with k | k
   ·exact List.mem_append_left _ k
   ·rcases List.mem_cons.mp k with k | k
    ·exact absurd k e
    ·exact List.mem_append_right _ k
 ·refine List.Pairwise.imp_of_mem ?_ old
  intro x y hx hy nxy k
  rcases zhu k with k | ⟨_,k⟩ | ⟨k,_⟩
  ·exact nxy k
  ·exact nb y hy (k.symm.trans hb2.symm)
  ·exact nb x hx (k.trans hb2.symm)
noncomputable def it (f:α→α):Nat→α→α
 | 0,a=>a
 | n+1,a=>f (it f n a)
theorem zm4 (f:α→α) (a:α) (m:Nat):∀ n,it f (n+m) a=it f n (it f m a)
 | 0=>by rw [Nat.zero_add]; rfl
 | n+1=>by rw [Nat.add_right_comm]; exact congrArg f (zm4 f a m n)
structure Inj (f:α→α) (U:List α):Prop where
 inn:∀ u∈U,f u∈U
 one:∀ u∈U,∀ v∈U,f u=f v→u=v
theorem Inj.it {f:α→α} {U:List α} (h:Inj f U) {a:α} (ha:a∈U):∀ n,it f n a∈U
 | 0=>ha
 | n+1=>h.inn _ (Inj.it h ha n)
theorem Inj.comes {f:α→α} {U:List α} (h:Inj f U) {a:α} (ha:a∈U):∃ k,0 < k∧k≤U.length∧EU.it f k a=a∧∀ i,0 < i→i < k→EU.it f i a≠a:=by
 have cancel:∀ i j,EU.it f (i+j) a=EU.it f i a→EU.it f j a=a:=fun i=>by
  induction i with
  | zero=>intro j e; rw [Nat.zero_add] at e; exact e
  | succ i ih =>
   intro j e
   rw [Nat.add_right_comm] at e
   exact ih j (h.one _ (h.it ha _) _ (h.it ha _) e)
 have ex:∃ k,0 < k∧k≤U.length∧EU.it f k a=a:=by
  apply Classical.byContradiction
  intro no
  have ap:((List.range (U.length+1)).map fun i=>EU.it f i a).Pairwise fun x y=>x≠y:=by
   rw [List.pairwise_map]
   refine List.Pairwise.imp_of_mem ?_ List.pairwise_lt_range
   intro i j hi hj hij e
   have hj:=List.mem_range.mp hj
   refine no ⟨j - i,by lia,by lia,cancel i (j - i) ?_⟩
   rw [show i+(j - i)=j by lia,e]
  have:=zf8 (P:=fun (x y:α)=>x=y) (R':=(List.range (U.length+1)).map fun i=>EU.it f i a) (R:=U) (fun b hb=>by
   obtain ⟨i,_,rfl⟩:=List.mem_map.mp hb
   exact ⟨_,h.it ha i,rfl⟩) (ap.imp fun n a p q=>n (p.symm.trans q))
  simp at this
  lia
 obtain ⟨k,h1,h2,h3⟩:=ex
 induction k using Nat.strongRecOn with
 | ind k ih =>
  by_cases hm:∃ i,0 < i∧i < k∧EU.it f i a=a
  ·obtain ⟨i,i1,i2,i3⟩:=hm
   exact ih i i2 i1 (by lia) i3
  ·exact ⟨k,h1,h2,h3,fun i i1 i2 e=>hm ⟨i,i1,i2,e⟩⟩
noncomputable def Fs (f:α→α) (U:List α):α→α→Prop:=fun x y=>x∈U∧y=f x
theorem Inj.round {f:α→α} {U:List α} (h:Inj f U) {b:α} (hb:b∈U) {G:α→α→Prop} (g:∀ x,x≠b→x∈U→Rch (Fs f U) b x→G x (f x)):Rch G (f b) b:=by
 obtain ⟨k,k1,_,k2,k3⟩:=h.comes hb
 have all:∀ i,Rch (Fs f U) b (EU.it f i b):=fun i=>by
  induction i with
  | zero=>exact .refl _
  | succ i ih=>exact ih.step ⟨h.it hb i,rfl⟩
 have go:∀ i,i+1≤k→Rch G (f b) (EU.it f (i+1) b):=fun i=>by
  induction i with
  | zero=>intro _; exact .refl _
  | succ i ih=>intro hi; exact (ih (by lia)).step (g _ (k3 (i+1) (by lia) (by lia)) (h.it hb _) (all _))
 have:=go (k - 1) (by lia)
 rw [show k - 1+1=k by lia,k2] at this
 exact this
theorem zh7 {f g:α→α} {U R S:List α} (hf:Inj f U) (hg:Inj g U) {a b:α} (ha:a∈U) (hb:b∈U) (ne:a≠b) (ga:g a=f b) (gb:g b=f a) (go:∀ x,x≠a→x≠b→g x=f x) (hR:Reps (Fs f U) U R) (hS:Reps (Fs g U) U S) :
  S.length≤R.length+1∧(¬ Rch (Fs f U) a b→S.length+1≤R.length):=by
 let G:α→α→Prop:=fun x y=>x∈U∧x≠a∧x≠b∧y=f x
 have gf:∀ x y,Rch G x y→Rch (Fs f U) x y:=fun x y k=>k.sub fun _ _ e=>.one ⟨e.1,e.2.2.2⟩
 have gg:∀ x y,Rch G x y→Rch (Fs g U) x y:=fun x y k=>k.sub fun _ _ e=>.one ⟨e.1,by rw [go _ e.2.1 e.2.2.1]; exact e.2.2.2⟩
 obtain ⟨T,hT⟩:=Reps.ex G U
 -- f's classes are those of G with the step out of a
 have fP:∀ x y,Rch (Fs f U) x y→Rch (Plus G a (f a)) x y:=fun x y k=>k.sub fun u v e=>by
  obtain ⟨hu,rfl⟩:=e
  by_cases ua:u=a
  ·subst ua; exact .one (.inr ⟨rfl,rfl⟩)
  ·by_cases ub:u=b
   ·subst ub
    refine (hf.round hb fun x xb xU _=>?_).symm
    by_cases xa:x=a
    ·subst xa; exact .inr ⟨rfl,rfl⟩
    ·exact .inl ⟨xU,xa,xb,rfl⟩
   ·exact .one (.inl ⟨hu,ua,ub,rfl⟩)
 have gP:∀ x y,Rch (Fs g U) x y→Rch (Plus G a (f b)) x y:=fun x y k=>k.sub fun u v e=>by
  obtain ⟨hu,rfl⟩:=e
  by_cases ua:u=a
  ·subst ua; rw [ga]; exact .one (.inr ⟨rfl,rfl⟩)
  ·by_cases ub:u=b
   ·subst ub
    refine (hg.round hb fun x xb xU _=>?_).symm
    by_cases xa:x=a
    ·subst xa; exact .inr ⟨rfl,ga⟩
    ·exact .inl ⟨xU,xa,xb,go x xa xb⟩
   ·exact .one (.inl ⟨hu,ua,ub,go u ua ub⟩)
 have up:S.length≤T.length:=hT.le hS gg
 constructor
 ·-- T has at most one more than R
  by_cases n:Rch G a (f a)
  ·have:T.length≤R.length:=hR.le hT fun x y k=>(fP x y k).sub fun u v e=>by
    rcases e with e | ⟨rfl,rfl⟩
    ·exact .one e
    ·exact n
   lia
  ·obtain ⟨S1,h1,h2⟩:=hT.join ha (hf.inn _ ha) n
   have:=hR.le h1 fP
   lia
 ·intro nab
  have r:Rch G (f a) a:=hf.round ha fun x xa xU k=>⟨xU,xa,fun e=>by subst e; exact nab k,rfl⟩
  have e1:T.length≤R.length:=hR.le hT fun x y k=>(fP x y k).sub fun u v e=>by
   rcases e with e | ⟨rfl,rfl⟩
   ·exact .one e
   ·exact r.symm
  have n2:¬ Rch G a (f b):=fun k=>nab ((gf _ _ k).trans ((Rch.refl _).back ⟨hb,rfl⟩))
  obtain ⟨S1,h1,h2⟩:=hT.join ha (hf.inn _ hb) n2
  have:S.length≤S1.length:=h1.le hS fun x y k=>k.sub fun u v e=>by
   rcases e with e | ⟨rfl,rfl⟩
   ·exact gg _ _ (.one e)
   ·exact .one ⟨ha,by rw [ga]⟩
  lia
end EU
namespace EU
noncomputable abbrev Dt:=Int×Int
noncomputable def rev (d:Dt):Dt:=(d.2,d.1)
theorem zf3 (d:Dt):rev (rev d)=d:=rfl
noncomputable def dts (es:List Dt):List Dt:=es++es.map rev
theorem zz {es:List Dt} {d:Dt}:d∈dts es↔d∈es∨rev d∈es:=by
 unfold dts
 rw [List.mem_append,List.mem_map]
 constructor
 ·rintro (h | ⟨e,h,rfl⟩)
  ·exact .inl h
  ·exact .inr h
 ·rintro (h | h)
  ·exact .inl h
  ·exact .inr ⟨rev d,h,rfl⟩
theorem zbk {es:List Dt} {d:Dt} (h:d∈dts es):rev d∈dts es:=zz.mpr ((zz.mp h).symm)
section
variable (s:Dt→Dt) (U P:List Dt)
noncomputable def phi (s:Dt→Dt) (P:List Dt) (d:Dt):Dt:=s (if d∈P∨rev d∈P then rev d else d)
noncomputable def Nb:Dt→Dt→Prop:=fun x y=>(x∈U∧y=s x)∨(x∈P∧y=rev x)
end
theorem zgf {s:Dt→Dt} {es:List Dt} {d:Dt} (h:d∈dts es):phi s es d=s (rev d):=by
 unfold phi
 rw [if_pos (zz.mp h)]
theorem zmq {s:Dt→Dt} {d:Dt}:phi s [] d=s d:=by
 unfold phi
 rw [if_neg (by simp)]
theorem zry {s:Dt→Dt} {es P:List Dt} {x y:Dt} (h:Rch (Fs (phi s P) (dts es)) x y):Rch (Nb s (dts es) P) x y:=h.sub fun u v e=>by
 obtain ⟨hu,rfl⟩:=e
 unfold phi
 split
 ·rename_i k
  refine Rch.trans ?_ (.one (.inl ⟨zbk hu,rfl⟩))
  rcases k with k | k
  ·exact .one (.inr ⟨k,rfl⟩)
  ·exact (Rch.one (.inr ⟨k,rfl⟩)).symm
 ·exact .one (.inl ⟨hu,rfl⟩)
theorem zf9 {s:Dt→Dt} {es P:List Dt} (hs:Inj s (dts es)) (hP:∀ e∈P,e∈es):Inj (phi s P) (dts es):=by
 have key:∀ u∈dts es,(if u∈P∨rev u∈P then rev u else u)∈dts es:=fun u hu=>by
  split
  ·exact zbk hu
  ·exact hu
 refine ⟨fun u hu=>hs.inn _ (key u hu),fun u hu v hv e=>?_⟩
 have:=hs.one _ (key u hu) _ (key v hv) e
 split at this <;> split at this
 ·exact congrArg rev this
 ·rename_i a b
  exfalso
  apply b
  rw [← this]
  rcases a with a | a
  ·exact .inr a
  ·exact .inl a
 ·rename_i a b
  exfalso
  apply a
  rw [this]
  rcases b with b | b
  ·exact .inr b
  ·exact .inl b
 ·exact this
theorem euler {s:Dt→Dt} {es:List Dt} (hs:Inj s (dts es)) (lt:∀ e∈es,e.1 < e.2) (nd:es.Nodup) {V N M:List Dt} (hV:Reps (Fs s (dts es)) (dts es) V) (hN:Reps (Nb s (dts es) es) (dts es) N) (hM:Reps (Fs (phi s es) (dts es)) (dts es) M):M.length+V.length≤es.length+2 * N.length:=by
 have go:∀ (P Q:List Dt),P++Q=es→∃ N M,Reps (Nb s (dts es) P) (dts es) N∧Reps (Fs (phi s P) (dts es)) (dts es) M∧M.length+V.length≤P.length+2 * N.length:=by
  intro P
  induction h:P.length generalizing P with
  | zero =>
   intro Q _
   have e:P=[]:=List.length_eq_zero_iff.mp h
   subst e
   have a:∀ x y,Rch (Fs s (dts es)) x y→Rch (Nb s (dts es) []) x y:=fun x y k=>k.sub fun _ _ e=>.one (.inl e)
   have b:∀ x y,Rch (Nb s (dts es) []) x y→Rch (Fs s (dts es)) x y:=fun x y k=>k.sub fun _ _ e=>by
    rcases e with e | ⟨e,_⟩
    ·exact .one e
    ·cases e
   have c:Fs (phi s []) (dts es)=Fs s (dts es):=by
    funext x y
    unfold Fs
    rw [zmq]
   refine ⟨V,V,⟨hV.inn,fun u hu=>let ⟨r,h1,h2⟩:=hV.cov u hu; ⟨r,h1,a _ _ h2⟩,hV.apa.imp fun n k=>n (b _ _ k)⟩,by rw [c]; exact hV,by lia⟩
  | succ n ih =>
   intro Q hQ
   obtain ⟨P0,e,rfl⟩:∃ P0 e,P=P0++[e]:=⟨P.dropLast,P.getLast (by intro z; subst z; cases h),(List.dropLast_concat_getLast _).symm⟩
   have hl:P0.length=n:=by simp at h; exact h
   obtain ⟨N,M,hN,hM,hle⟩:=ih P0 hl (e::Q) (by rw [← hQ]; simp)
   have sub0:∀ x∈P0,x∈es:=fun x hx=>by rw [← hQ]; simp [hx]
   have sub1:∀ x∈P0++[e],x∈es:=fun x hx=>by rw [← hQ]; exact List.mem_append_left _ hx
   have he:e∈es:=sub1 e (by simp)
   have hlt:=lt e he
   have nin:e∉P0:=fun k=>by
    have nd':=nd
    rw [← hQ,List.append_assoc,List.nodup_append] at nd'
    exact nd'.2.2 e k e (by simp) rfl
   have nrev:rev e∉P0:=fun k=>by
    have:=lt _ (sub0 _ k)
    have:e.2 < e.1:=this
    lia
   have ne:e≠rev e:=fun k=>by
    have:=congrArg Prod.fst k
    have:e.1=e.2:=this
    lia
   have hU:e∈dts es:=zz.mpr (.inl he)
   have pe:phi s P0 e=s e:=by unfold phi; rw [if_neg (by rintro (k | k); exact nin k; exact nrev k)]
   have pr:phi s P0 (rev e)=s (rev e):=by unfold phi; rw [if_neg (by rintro (k | k); exact nrev k; exact nin k)]
   have qe:phi s (P0++[e]) e=s (rev e):=by unfold phi; rw [if_pos (.inl (by simp))]
   have qr:phi s (P0++[e]) (rev e)=s e:=by unfold phi; rw [if_pos (.inr (by rw [zf3]; simp))]; rfl
   have qo:∀ x,x≠e→x≠rev e→phi s (P0++[e]) x=phi s P0 x:=fun x h1 h2=>by
    have i1:x∈P0++[e]↔x∈P0:=by simp [h1]
    have i2:rev x∈P0++[e]↔rev x∈P0:=by
     have:rev x≠e:=fun k=>h2 (by rw [← k]; rfl)
     simp [this]
    unfold phi
    simp only [i1,i2]
   obtain ⟨M',hM'⟩:=Reps.ex (Fs (phi s (P0++[e])) (dts es)) (dts es)
   have cnt:=zh7 (zf9 hs sub0) (zf9 hs sub1) hU (zbk hU) ne (by rw [qe,pr]) (by rw [qr,pe]) qo hM hM'
   have nbE:∀ x y,Rch (Nb s (dts es) (P0++[e])) x y→Rch (Plus (Nb s (dts es) P0) e (rev e)) x y:=fun x y k=>k.sub fun u v w=>by
    rcases w with w | ⟨w,z⟩
    ·exact .one (.inl (.inl w))
    ·rcases List.mem_append.mp w with w | w
     ·exact .one (.inl (.inr ⟨w,z⟩))
     ·have w:=List.mem_singleton.mp w
      subst w
      exact .one (.inr ⟨rfl,z⟩)
   have nbF:∀ x y,Rch (Plus (Nb s (dts es) P0) e (rev e)) x y→Rch (Nb s (dts es) (P0++[e])) x y:=fun x y k=>k.sub fun u v w=>by
    rcases w with (w | ⟨w,z⟩) | ⟨rfl,rfl⟩
    ·exact .one (.inl w)
    ·exact .one (.inr ⟨List.mem_append_left _ w,z⟩)
    ·exact .one (.inr ⟨by simp,rfl⟩)
   have tr:∀ {R:List Dt},Reps (Plus (Nb s (dts es) P0) e (rev e)) (dts es) R→Reps (Nb s (dts es) (P0++[e])) (dts es) R:=fun {R} r=>⟨r.inn,fun u hu=>let ⟨x,h1,h2⟩:=r.cov u hu; ⟨x,h1,nbF _ _ h2⟩,r.apa.imp fun n k=>n (nbE _ _ k)⟩
   by_cases c:Rch (Nb s (dts es) P0) e (rev e)
   ·have red:∀ x y,Rch (Plus (Nb s (dts es) P0) e (rev e)) x y→Rch (Nb s (dts es) P0) x y:=fun x y k=>k.sub fun u v w=>by
     rcases w with w | ⟨rfl,rfl⟩
     ·exact .one w
     ·exact c
    refine ⟨N,M',tr ⟨hN.inn,fun u hu=>let ⟨x,h1,h2⟩:=hN.cov u hu; ⟨x,h1,h2.sub fun _ _ w=>.one (.inl w)⟩,hN.apa.imp fun n k=>n (red _ _ k)⟩,hM',?_⟩
    have:=cnt.1
    lia
   ·obtain ⟨N',hN',hl'⟩:=hN.join hU (zbk hU) c
    refine ⟨N',M',tr hN',hM',?_⟩
    have:=cnt.2 fun k=>c (zry k)
    lia
 obtain ⟨N',M',h1,h2,h3⟩:=go es [] (by simp)
 have a:=h1.le hN fun _ _ k=>k
 have b:=hN.le h1 fun _ _ k=>k
 have c:=hM.le h2 fun _ _ k=>k
 have d:=h2.le hM fun _ _ k=>k
 lia
end EU
namespace K01
open PY
noncomputable def f0:Fn:=⟨1,1,(.cons (.ret (.and (.isi (.var 0) .int) (.not (.isi (.var 0) .bool))))
  .nil)⟩
noncomputable def f7:Fn:=⟨2,2,(.cons (.cond (.cmp .lt (.var 1) (.bi .len (.var 0))) (.cons (.ret (.ix (.var 0) (.var 1)))
  .nil) .nil)
  (.cons (.ret (.con (.int (0))))
  .nil))⟩
noncomputable def f8:Fn:=⟨3,3,(.cons (.ret (.bin .mod (.bin .mod (.bin .mul (.var 0) (.con (.int (48271)))) (.var 1)) (.var 2)))
  .nil)⟩
noncomputable def f9:Fn:=⟨1,3,(.cons (.asg (.one 1) (.lst .nil))
  (.cons (.loop (.one 2) (.rng1 (.var 0)) (.cons (.asg (.one 1) (.bin .add (.var 1) (.comp (.tup (.cons (.var 1) (.cons (.var 0) .nil))) (.one 0) (.rng2 (.bin .add (.var 2) (.con (.int (1)))) (.var 0)) .no 1 [2])))
  .nil))
  (.cons (.ret (.var 1))
  .nil)))⟩
end K01
namespace K01
open PY
noncomputable def isWhole:D→Bool | .int _=>true | _=>false
noncomputable def pr (p:Int×Int):D:=.tup [.int p.1,.int p.2]
noncomputable def ltP (a b:Int×Int):Bool:=lexLt [a.1,a.2] [b.1,b.2]
section
variable {cl:Nat→List D→Option D} {W:Nat}
theorem m0 (d:D):runF cl W f0 [d]=some (.bl (isWhole d)):=by cases d <;> rfl
theorem zba {n k:Nat} (h:k < n):place n (k:Int)=some k:=by
 unfold place
 rw [if_pos (by lia),if_pos (by lia)]
 simp
noncomputable def unpr:D→Int×Int | .tup [.int a,.int b]=>(a,b) | _=>(0,0)
noncomputable def inB (n:Int) (p:Int×Int):Bool:=decide (0≤p.1)&&decide (p.1 < p.2)&&decide (p.2 < n)
end
end K01
namespace K01
open PY
noncomputable def eqP (q p:Int×Int):Bool:=q.1==p.1&&q.2==p.2
noncomputable def memP (p:Int×Int) (es:List (Int×Int)):Bool:=es.any fun q=>eqP q p
theorem zoh (q p:Int×Int):D.eq (pr q) (pr p)=eqP q p:=by
 show ((q.1==p.1)&&((q.2==p.2)&&true))=_
 rw [Bool.and_true]
 rfl
theorem zq5 (p:Int×Int) (es:List (Int×Int)):memD (pr p) (es.map pr)=memP p es:=by
 unfold memD memP
 rw [List.any_map]
 exact congrArg _ (funext fun q=>zoh q p)
theorem zk4 (es:List (Int×Int)):(es.map pr).all (D.deep 8)=true:=by
 rw [List.all_map,List.all_eq_true]; intro _ _; rfl
theorem zgo {p:Int×Int} {es:List (Int×Int)}:memP p es=true↔p∈es:=by
 unfold memP
 rw [List.any_eq_true]
 constructor
 ·rintro ⟨q,hq,e⟩
  have:q=p:=by
   unfold eqP at e
   rw [Bool.and_eq_true,beq_iff_eq,beq_iff_eq] at e
   exact Prod.ext e.1 e.2
  exact this▸hq
 ·intro h
  exact ⟨p,h,by simp [eqP]⟩
section
variable {cl:Nat→List D→Option D} {W:Nat}
theorem m7 (ns:List Int) (k:Nat):runF cl W f7 [.lst (ns.map .int),.int k]=some (.int (ns.getD k 0)):=by
 refine zae ⟨rfl,by decide⟩ ?_
 show exs cl W f7.body [.val (.lst (ns.map .int)),.val (.int k)]=_
 simp only [f7]
 have t:evT cl (.cmp .lt (.var 1) (.bi .len (.var 0))) [.val (.lst (ns.map .int)),.val (.int k)]=some (decide (k < ns.length)):=by
  show some (decide ((k:Int) < (((ns.map D.int).length:Nat):Int)))=_
  rw [List.length_map]
  congr 1
  rw [Bool.eq_iff_iff,decide_eq_true_eq,decide_eq_true_eq]
  lia
 by_cases h:k < ns.length
 ·refine zw ?_
  rw [zdg t,decide_eq_true h]
  simp only [if_true]
  refine zw (zac (fl:=.solid) ?_)
  show ((place (ns.map D.int).length (k:Int)).bind fun k=>((ns.map D.int)[k]?).map fun d=>(d,Fl.solid))=_
  rw [List.length_map]
  rw [zba h,Option.bind_some,List.getElem?_map,List.getElem?_eq_getElem h]
  simp [List.getD,List.getElem?_eq_getElem h]
 ·rw [zd (za1 (by rw [t,decide_eq_false h]))]
  have:ns.getD k 0=0:=by simp [List.getD,List.getElem?_eq_none (Nat.le_of_not_lt h)]
  rw [this]
  exact zw (zac (fl:=.solid) rfl)
theorem zsl (a b:Int) (h:-1000000000000000000 < b∧b < 1000000000000000000):binop .mul (.int a) (.int b)=some (.int (a * b),.solid):=by
 exact if_pos (Or.inr h)
theorem zkv (a b:Int) (h:-1000000000000000000 < a∧a < 1000000000000000000):binop .mul (.int a) (.int b)=some (.int (a * b),.solid):=by
 exact if_pos (Or.inl h)
theorem zft (a b:Int) (h:0 < b):binop .mod (.int a) (.int b)=some (.int (a % b),.solid):=by
 exact if_pos h
noncomputable def mix (a p m:Int):Int:=a * 48271 % p % m
theorem m8 (a p m:Int) (hp:0 < p) (hm:0 < m):runF cl W f8 [.int a,.int p,.int m]=some (.int (mix a p m)):=by
 refine zae ⟨rfl,by decide⟩ (zw (zac (fl:=.solid) ?_))
 simp only [ev,slot,Option.bind_some,List.map,List.cons_append,List.getElem?_cons_succ,List.getElem?_cons_zero,Cn.d,zsl a 48271 (by decide),zft _ p hp,zft _ m hm,mix]
noncomputable def row (n i:Nat):List (Int×Int):=(List.range (n - (i+1))).map fun (j:Nat)=>((i:Int),(i:Int)+1+(j:Int))
noncomputable def pairsM (n:Nat):List (Int×Int):=(List.range n).flatMap (row n)
theorem zdw (n i:Nat):(List.range (i+1)).flatMap (row n)=(List.range i).flatMap (row n)++row n i:=by
 rw [List.range_succ,List.flatMap_append]
 simp
theorem ziq (n i:Nat):(row n i).length≤n:=by simp [row]
theorem zjr (n:Nat):∀ i,((List.range i).flatMap (row n)).length≤i * n
 | 0=>by simp
 | i+1=>by
  rw [zdw,List.length_append]
  have:=zjr n i
  have:=ziq n i
  rw [Nat.succ_mul]
  lia
theorem zan {n:Nat} (hn:n≤1000):small (n:Int)=true:=by simp [small]; lia
theorem ztc (n:Nat) (hn:n≤30) (a b:Sl):evi cl (.rng1 (.var 0)) [.val (.int n),a,b]=some (rangeD 0 n,false):=by
 have hs:small (n:Int)=true:=zan (by lia)
 simp only [evi,ev,slot,List.getElem?_cons_zero,Option.bind_some,range1,hs,if_true,Option.map_some,Int.toNat_natCast]
theorem zso (n i:Nat) (hn:n≤30) (hi:i≤n) (a:Sl):evi cl (.rng2 (.bin .add (.var 2) (.con (.int 1))) (.var 0)) [.val (.int n),a,.val (.int (0+(i:Int)))]=some (rangeD ((i:Int)+1) (n - (i+1)),false):=by
 have hs:small (n:Int)=true:=zan (by lia)
 have hs1:small (0+(i:Int)+1)=true:=by
  have:=zan (n:=i+1) (by lia)
  rw [show 0+(i:Int)+1=((i+1:Nat):Int) by lia]; exact this
 have h3:((n:Int) - (0+(i:Int)+1)).toNat=n - (i+1):=by lia
 have h4:((n:Int) - (0+(i:Int)+1))≤4000:=by lia
 have e1:ev cl (.bin .add (.var 2) (.con (.int 1))) [.val (.int n),a,.val (.int (0+(i:Int)))]=some (.int (0+(i:Int)+1),.solid):=zl (f:=.solid) (g:=.solid) rfl rfl rfl
 have e2:ev cl (.var 0) [.val (.int n),a,.val (.int (0+(i:Int)))]=some (.int n,.solid):=rfl
 rw [evi,e1,Option.bind_some,e2,Option.bind_some]
 simp only [range2,hs,hs1,decide_eq_true h4,Bool.and_self,if_true,Option.map_some,h3]
 rw [Int.zero_add]
theorem zs5 (n i:Nat) (hn:n≤30) (hi:i≤n) (a:List D):ev cl (.comp (.tup (.cons (.var 1) (.cons (.var 0) .nil))) (.one 0) (.rng2 (.bin .add (.var 2) (.con (.int 1))) (.var 0)) .no 1 [2]) [.val (.int n),.own a,.val (.int (0+(i:Int)))]
  = some (.lst ((row n i).map pr),.fresh):=by
 have e1:ev cl (.comp (.tup (.cons (.var 1) (.cons (.var 0) .nil))) (.one 0) (.rng2 (.bin .add (.var 2) (.con (.int 1))) (.var 0)) .no 1 [2]) [.val (.int n),.own a,.val (.int (0+(i:Int)))]
   = some (.lst ((rangeD ((i:Int)+1) (n - (i+1))).map fun d=>.tup [.int (0+(i:Int)),d]),.fresh):=by
  refine zgs _ (zso n i hn hi _) fun d hd=>⟨[.val d,.val (.int (0+(i:Int)))],(.tup [.int (0+(i:Int)),d],.solid),rfl,?_,rfl⟩
  rfl
 rw [e1]
 unfold rangeD row
 rw [List.map_map,List.map_map,Int.zero_add]
 rfl
theorem m9 (n:Nat) (hn:n≤30):runF cl W f9 [.int n]=some (.lst ((pairsM n).map pr)):=by
 refine zae ⟨rfl,by decide⟩ ?_
 show exs cl W f9.body [.val (.int n),.no,.no]=_
 simp only [f9]
 rw [zd (zt (r:=(.lst [],.fresh)) (ρ':=[.val (.int n),.own [],.no]) rfl rfl)]
 obtain ⟨ρ',e,s2,rfl⟩:=zav (cl:=cl) (W:=W) (t:=.one 2) (b:=.cons (.asg (.one 1) (.bin .add (.var 1) (.comp (.tup (.cons (.var 1) (.cons (.var 0) .nil))) (.one 0) (.rng2 (.bin .add (.var 2) (.con (.int 1))) (.var 0)) .no 1 [2]))) .nil) (ztc n hn (.own []) .no)
  (fun i ρ=>∃ s2,ρ=[.val (.int n),.own (((List.range i).flatMap (row n)).map pr),s2]) ⟨_,rfl⟩ (by
   rintro i d ρ hi ⟨s2,rfl⟩
   obtain ⟨h1,rfl⟩:=zbu hi
   refine ⟨[.val (.int n),.own (((List.range i).flatMap (row n)).map pr),.val (.int (0+(i:Int)))],_,rfl,?_,.val (.int (0+(i:Int))),rfl⟩
   refine zd (zt (r:=(.lst (((List.range (i+1)).flatMap (row n)).map pr),.fresh)) ?_ rfl)
   rw [ev,show ev cl (.var 1) [.val (.int n),.own (((List.range i).flatMap (row n)).map pr),.val (.int (0+(i:Int)))]=some (.lst (((List.range i).flatMap (row n)).map pr),.peek) from rfl,Option.bind_some,
    zs5 n i hn (by lia),Option.bind_some]
   have hz:(((List.range i).flatMap (row n)).map pr).length+((row n i).map pr).length≤big:=by
    have a:=zjr n i
    have b:=ziq n i
    have c:i * n≤30 * 30:=Nat.mul_le_mul (by lia) hn
    simp only [List.length_map,big]
    lia
   refine (if_pos hz).trans ?_
   rw [← List.map_append,← zdw])
 rw [zd e]
 refine zw (zac (fl:=.peek) ?_)
 have:(rangeD 0 n).length=n:=by simp [rangeD]
 rw [this]
 rfl
end
end K01
namespace K01
open PY
section
variable {cl:Nat→List D→Option D} {W:Nat}
noncomputable abbrev scr (ns:List Int):D:=.lst (ns.map .int)
end
end K01
namespace K01
open PY
theorem zjp (a:Int×Int):ltP a a=false:=by simp [ltP,lexLt]
theorem zc8:∀ n:Fin 13,(pairsM n).Pairwise (fun a b=>ltP a b=true)∧(pairsM n).all (inB n)=true:=by decide +kernel
theorem zle {n:Nat} (h:n≤12):(pairsM n).Pairwise (fun a b=>ltP a b=true):=(zc8 ⟨n,by lia⟩).1
theorem zd8 {n:Nat} (h:n≤12):(pairsM n).all (inB n)=true:=(zc8 ⟨n,by lia⟩).2
theorem below {n:Nat} {es:List (Int×Int)} (h9:n≤9) (hs:es.Sublist (pairsM n)) {p:Int×Int} (hp:p∈es):p.2 < 9:=by
 have:=List.all_eq_true.mp (zd8 (n:=n) (by lia)) p (hs.subset hp)
 unfold inB at this
 rw [Bool.and_eq_true] at this
 have:=of_decide_eq_true this.2
 lia
end K01
namespace K02
open PY
noncomputable def f3:Fn:=⟨2,4,.cons (.asg (.one 2) (.comp (.var 0) (.many [0,1]) (.seq (.ix (.var 0) (.con (.int 1)))) (.so (.cmp (.eq) (.var 1) (.var 2))) 2 [1]))
 (.cons (.asg (.one 3) (.comp (.var 1) (.many [0,1]) (.seq (.ix (.var 0) (.con (.int 1)))) (.so (.cmp (.eq) (.var 0) (.var 2))) 2 [1]))
 (.cons (.ret (.bin (.add) (.var 2) (.var 3))) (.nil)))⟩
noncomputable def f11:Fn:=⟨2,3,.cons (.asg (.one 2) (.bin (.add) (.comp (.var 0) (.many [0,1]) (.seq (.ix (.var 0) (.con (.int 1)))) (.so (.cmp (.eq) (.var 1) (.var 2))) 2 [1]) (.comp (.var 1) (.many [0,1]) (.seq (.ix (.var 0) (.con (.int 1)))) (.so (.cmp (.eq) (.var 0) (.var 2))) 2 [1])))
 (.cons (.ret (.bi (.sorted) (.var 2))) (.nil))⟩
end K02
namespace K02
open PY K01
theorem zk1:∀ {l:List Int},l.Pairwise (· < ·)→sortI l=l
 | [],_=>rfl
 | [x],_=>rfl
 | x::y::r,h=>by
  cases h with
  | cons a b =>
   rw [sortI,zk1 b,insI,if_pos (by have:=a y List.mem_cons_self; lia)]
noncomputable def near (es:List (Int×Int)) (p:Int):List Int:=(es.filter fun e=>e.2==p).map (·.1)++(es.filter fun e=>e.1==p).map (·.2)
theorem zhd {es fs:List (Int×Int)} (h:es.Sublist fs) (p:Int):(near es p).Sublist (near fs p) :=
 ((h.filter _).map _).append ((h.filter _).map _)
theorem zdu:∀ n:Fin 10,∀ p:Fin n,(near (pairsM n) (p:Nat)).Pairwise (· < ·)∧(near (pairsM n) (p:Nat)).all (fun q=>decide (0≤q)&&decide (q < n)&&decide (q≠(p:Nat)))=true:=by decide +kernel
section
variable {n:Nat} {es:List (Int×Int)} (hn:n≤9) (hs:es.Sublist (pairsM n))
include hn hs
theorem zgd {p:Nat} (hp:p < n):(near es (p:Nat)).Pairwise (· < ·):=(zdu ⟨n,by lia⟩ ⟨p,hp⟩).1.sublist (zhd hs _)
theorem zfv {p:Nat} (hp:p < n) {q:Int} (hq:q∈near es (p:Nat)):0≤q∧q < n∧q≠(p:Nat):=by
 have:=List.all_eq_true.mp (zdu ⟨n,by lia⟩ ⟨p,hp⟩).2 q ((zhd hs _).subset hq)
 simp only [Bool.and_eq_true,decide_eq_true_eq] at this
 exact ⟨this.1.1,this.1.2,this.2⟩
theorem zo9 {e:Int×Int} (he:e∈es):0≤e.1∧e.1 < e.2∧e.2 < n:=by
 have:=List.all_eq_true.mp (zd8 (n:=n) (by lia)) e (hs.subset he)
 unfold inB at this
 simp only [Bool.and_eq_true,decide_eq_true_eq] at this
 exact ⟨this.1.1,this.1.2,this.2⟩
end
theorem zbf (es:List (Int×Int)) (p:Int):(near es p).length≤2 * es.length:=by
 unfold near
 rw [List.length_append,List.length_map,List.length_map]
 have:=List.length_filter_le (fun e=>e.2==p) es
 have:=List.length_filter_le (fun e=>e.1==p) es
 lia
noncomputable def mx (a b:Int):Int:=if b > a then b else a
theorem fits:∀ (n:Nat) (l:List Int),l.Nodup→(∀ x∈l,0≤x∧x < (n:Int))→l.length≤n
 | 0,[],_,_=>by simp
 | 0,x::r,_,h=>by have:=h x List.mem_cons_self; lia
 | n+1,l,hd,h=>by
  have a:=fits n (l.erase (n:Int)) (hd.erase _) fun x hx=>by
   have h1:=h x (List.mem_of_mem_erase hx)
   have h2:x≠(n:Int):=fun e=>by
    rw [e] at hx
    exact (List.Nodup.mem_erase_iff hd).mp hx |>.1 rfl
   lia
  have b:l.length≤(l.erase (n:Int)).length+1:=by
   rw [List.length_erase]
   split <;> lia
  lia
end K02
namespace K02
open PY K01
noncomputable abbrev netD (n:Nat) (es:List (Int×Int)):D:=.tup [.int n,.tup (es.map pr)]
noncomputable abbrev intL (l:List Int):List D:=l.map .int
theorem zar:∀ l:List Int,ints? (intL l)=some l
 | []=>rfl
 | x::r=>by
  show (ints? (intL r)).map (x::·)=_
  rw [zar r]; rfl
theorem zbr (l:List Int):(intL l).all (D.deep 8)=true:=by
 rw [List.all_map,List.all_eq_true]; intro _ _; rfl
theorem zdv (l:List Int):(intL l).all (D.deep 7)=true:=by
 rw [List.all_map,List.all_eq_true]; intro _ _; rfl
theorem zhe:∀ l m:List Int,D.eqs (intL l) (intL m)=decide (l=m)
 | [],[]=>rfl
 | [],y::s=>by simp [D.eqs]
 | x::r,[]=>by simp [D.eqs]
 | x::r,y::s=>by
  have:=zhe r s
  simp only [intL,List.map_cons,D.eqs,D.eq] at this ⊢
  rw [this]
  by_cases h:x=y <;> by_cases h':r=s <;> simp [h,h']
theorem zht (v:Int) (l:List Int):memD (.int v) (intL l)=decide (v∈l):=by
 unfold memD
 rw [List.any_map]
 rw [Bool.eq_iff_iff,List.any_eq_true,decide_eq_true_eq]
 constructor
 ·rintro ⟨x,h,e⟩
  have:x=v:=beq_iff_eq.mp e
  exact this▸h
 ·intro h; exact ⟨v,h,by simp [Function.comp,D.eq]⟩
section
variable {cl:Nat→List D→Option D} {W:Nat}
theorem znk (n:Nat) (es:List (Int×Int)) (p:Int) (ρ:Rho) (h0:ρ[0]? = some (.val (netD n es))) (h1:ρ[1]? = some (.val (.int p))) :
  ev cl (.comp (.var 0) (.many [0,1]) (.seq (.ix (.var 0) (.con (.int 1)))) (.so (.cmp .eq (.var 1) (.var 2))) 2 [1]) ρ=some (.lst (intL ((es.filter fun e=>e.2==p).map (·.1))),.fresh):=by
 have e:=zbz (cl:=cl) (ρ:=ρ) (e:=.var 0) (c:=.cmp .eq (.var 1) (.var 2)) (t:=.many [0,1]) (it:=.seq (.ix (.var 0) (.con (.int 1)))) (n:=2) (keep:=[1]) (ds:=es.map pr) (b:=false) (fun d=>(unpr d).2==p) (fun d=>.int (unpr d).1)
  (zai (x:=.tup (es.map pr)) (zc2 (f:=.solid) (g:=.solid) (x:=netD n es) (by simp only [ev,slot,h0]) rfl rfl) rfl) (by
   intro d hd
   obtain ⟨q,hq,rfl⟩:=List.mem_map.mp hd
   obtain ⟨a,b⟩:=q
   have hi:inner ρ 2 [1]=[.no,.no,.val (.int p)]:=by
    show [Sl.no,.no,ρ.getD 1 .no]=_
    rw [List.getD_eq_getElem?_getD,h1]; rfl
   rw [hi]
   exact ⟨[.val (.int a),.val (.int b),.val (.int p)],rfl,rfl,fun _=>⟨(.int a,.solid),rfl,rfl⟩⟩)
 rw [e,List.filter_map,List.map_map]
 show _=some (D.lst (List.map D.int ((es.filter fun e=>e.2==p).map (·.1))),Fl.fresh)
 rw [List.map_map]
 rfl
theorem zmw (n:Nat) (es:List (Int×Int)) (p:Int) (ρ:Rho) (h0:ρ[0]? = some (.val (netD n es))) (h1:ρ[1]? = some (.val (.int p))) :
  ev cl (.comp (.var 1) (.many [0,1]) (.seq (.ix (.var 0) (.con (.int 1)))) (.so (.cmp .eq (.var 0) (.var 2))) 2 [1]) ρ=some (.lst (intL ((es.filter fun e=>e.1==p).map (·.2))),.fresh):=by
 have e:=zbz (cl:=cl) (ρ:=ρ) (e:=.var 1) (c:=.cmp .eq (.var 0) (.var 2)) (t:=.many [0,1]) (it:=.seq (.ix (.var 0) (.con (.int 1)))) (n:=2) (keep:=[1]) (ds:=es.map pr) (b:=false) (fun d=>(unpr d).1==p) (fun d=>.int (unpr d).2)
  (zai (x:=.tup (es.map pr)) (zc2 (f:=.solid) (g:=.solid) (x:=netD n es) (by simp only [ev,slot,h0]) rfl rfl) rfl) (by
   intro d hd
   obtain ⟨q,hq,rfl⟩:=List.mem_map.mp hd
   obtain ⟨a,b⟩:=q
   have hi:inner ρ 2 [1]=[.no,.no,.val (.int p)]:=by
    show [Sl.no,.no,ρ.getD 1 .no]=_
    rw [List.getD_eq_getElem?_getD,h1]; rfl
   rw [hi]
   exact ⟨[.val (.int a),.val (.int b),.val (.int p)],rfl,rfl,fun _=>⟨(.int b,.solid),rfl,rfl⟩⟩)
 rw [e,List.filter_map,List.map_map]
 show _=some (D.lst (List.map D.int ((es.filter fun e=>e.1==p).map (·.2))),Fl.fresh)
 rw [List.map_map]
 rfl
theorem zco (a b:List Int) (h:a.length+b.length≤4000):binop .add (.lst (intL a)) (.lst (intL b))=some (.lst (intL (a++b)),.fresh):=by
 show (if (intL a).length+(intL b).length≤big then some (D.lst (intL a++intL b),Fl.fresh) else none)=_
 rw [if_pos (by simpa [big] using h)]
 simp [intL]
theorem two_len (es:List (Int×Int)) (p:Int):((es.filter fun e=>e.2==p).map (·.1)).length+((es.filter fun e=>e.1==p).map (·.2)).length≤2 * es.length:=by
 have:=zbf es p
 unfold near at this
 rw [List.length_append] at this
 exact this
theorem m3 (n:Nat) (es:List (Int×Int)) (p:Int) (hl:es.length≤17):runF cl W f3 [netD n es,.int p]=some (.lst (intL (near es p))):=by
 refine zae ⟨rfl,by decide⟩ ?_
 show exs cl W f3.body [.val (netD n es),.val (.int p),.no,.no]=_
 simp only [f3]
 rw [zd (zt (r:=(.lst (intL ((es.filter fun e=>e.2==p).map (·.1))),.fresh)) (ρ':=[.val (netD n es),.val (.int p),.own (intL ((es.filter fun e=>e.2==p).map (·.1))),.no]) (znk n es p _ rfl rfl) rfl)]
 rw [zd (zt (r:=(.lst (intL ((es.filter fun e=>e.1==p).map (·.2))),.fresh)) (ρ':=[.val (netD n es),.val (.int p),.own (intL ((es.filter fun e=>e.2==p).map (·.1))),.own (intL ((es.filter fun e=>e.1==p).map (·.2)))]) (zmw n es p _ rfl rfl) rfl)]
 exact zw (zac (fl:=.fresh) (zl (f:=.peek) (g:=.peek) rfl rfl (zco _ _ (by have:=two_len es p; lia))))
theorem m11 (n:Nat) (es:List (Int×Int)) (p:Int) (hl:es.length≤17):runF cl W f11 [netD n es,.int p]=some (.lst (intL (sortI (near es p)))):=by
 refine zae ⟨rfl,by decide⟩ ?_
 show exs cl W f11.body [.val (netD n es),.val (.int p),.no]=_
 simp only [f11]
 rw [zd (zt (r:=(.lst (intL (near es p)),.fresh)) (ρ':=[.val (netD n es),.val (.int p),.own (intL (near es p))]) (zl (f:=.fresh) (g:=.fresh) (znk n es p _ rfl rfl) (zmw n es p _ rfl rfl) (zco _ _ (by have:=two_len es p; lia))) rfl)]
 refine zw (zac (fl:=.fresh) (zaa (f:=.peek) (x:=.lst (intL (near es p))) rfl ?_))
 show sortO _=_
 unfold sortO
 rw [zar]
 exact if_pos (by have:=zbf es p; lia)
theorem ziw (l:List Int) (k:Nat):cutL (intL l) none (some (k:Int))=intL (l.take k):=by
 rw [zl5]; simp [intL]
theorem zi5 (l:List Int) (k:Nat):cutL (intL l) (some (k:Int)) none=intL (l.drop k):=by
 rw [zmf]; simp [intL]
noncomputable abbrev rows (L:List (List Int)):List D:=L.map fun l=>.tup (intL l)
end
end K02
namespace K02
open PY K01
theorem zgp:∀ (r:List Int) (x:Int),(r.foldl (fun a b=>if b < a then b else a) x≤x∧∀ y∈r,r.foldl (fun a b=>if b < a then b else a) x≤y)∧(r.foldl (fun a b=>if b < a then b else a) x=x∨r.foldl (fun a b=>if b < a then b else a) x∈r)
 | [],x=>⟨⟨by simp,by simp⟩,.inl rfl⟩
 | y::r,x=>by
  have ⟨⟨h1,h2⟩,h3⟩:=zgp r (if y < x then y else x)
  have hle:(if y < x then y else x)≤x∧(if y < x then y else x)≤y:=by split <;> lia
  simp only [List.foldl_cons]
  refine ⟨⟨by lia,fun z hz=>?_⟩,?_⟩
  ·rcases List.mem_cons.mp hz with rfl | hz
   ·lia
   ·exact h2 z hz
  ·rcases h3 with h3 | h3
   ·by_cases hlt:y < x
    ·rw [if_pos hlt] at h3 ⊢
     right; rw [h3]; exact List.mem_cons_self
    ·rw [if_neg hlt] at h3 ⊢
     exact .inl h3
   ·exact .inr (List.mem_cons_of_mem _ h3)
theorem ze6 (x:Int) (r:List Int):minI (x::r)∈x::r∧∀ y∈x::r,minI (x::r)≤y:=by
 have ⟨⟨h1,h2⟩,h3⟩:=zgp r x
 refine ⟨?_,fun y hy=>?_⟩
 ·rcases h3 with h3 | h3
  ·show r.foldl _ x∈_
   rw [h3]; exact List.mem_cons_self
  ·exact List.mem_cons_of_mem _ h3
 ·rcases List.mem_cons.mp hy with rfl | hy
  ·exact h1
  ·exact h2 y hy
theorem zlx {m:List Int} (hm:m.Pairwise (· < ·)) {x:Int} {r:List Int} (hp:(x::r).Perm m):m.take 1=[minI (x::r)]:=by
 cases m with
 | nil=>exact absurd hp.length_eq (by simp)
 | cons a s =>
  have ⟨h1,h2⟩:=ze6 x r
  have ha:minI (x::r)≤a:=h2 a (hp.mem_iff.mpr List.mem_cons_self)
  have hb:a≤minI (x::r):=by
   have:=hp.mem_iff.mp h1
   rcases List.mem_cons.mp this with h | h
   ·lia
   ·cases hm with
    | cons q _=>have:=q _ h; lia
  show [a]=_
  rw [show a=minI (x::r) by lia]
theorem zh0 (l:List Int) (v:Int) (h:v∈l) (hl:l.length≤4000):∃ j:Nat,j < l.length∧l[j]? = some v∧whereD (.lst (intL l)) (.int v)=some (.int (j:Int),.solid):=by
 have hex:∃ x∈intL l,D.eq x (.int v)=true:=⟨.int v,List.mem_map.mpr ⟨v,h,rfl⟩,(show (v==v)=true from beq_self_eq_true v)⟩
 have hsome:((intL l).findIdx? fun y=>D.eq y (.int v)).isSome=true:=by
  rw [List.findIdx?_isSome,List.any_eq_true]; exact hex
 obtain ⟨j,hj⟩:=Option.isSome_iff_exists.mp hsome
 obtain ⟨hlt,hpj,_⟩:=List.findIdx?_eq_some_iff_getElem.mp hj
 have hlt':j < l.length:=by simpa using hlt
 refine ⟨j,hlt',?_,?_⟩
 ·rw [List.getElem?_eq_getElem hlt']
  have:D.eq (.int l[j]) (.int v)=true:=by simpa using hpj
  exact congrArg some (beq_iff_eq.mp this)
 ·show (if (D.int v).deep 8&&(intL l).all (D.deep 8)&&decide ((intL l).length≤big) then ((intL l).findIdx? fun y=>D.eq y (.int v)).map _ else none)=_
  rw [zbr,hj,decide_eq_true (show (intL l).length≤big by simpa [big] using hl)]
  rfl
theorem zlb (l:List Int) (k v:Int):putAt (intL l) k (.int v)=intL (putAt l k v):=by
 unfold putAt
 simp [intL]
theorem zlr (l:List Int) (k v:Int):(putAt l k v).Perm (l++[v]):=by
 unfold putAt
 have h:∀ j,(l.take j++v::l.drop j).Perm (l++[v]):=fun j=>by
  have a:(l.take j++v::l.drop j).Perm (v::(l.take j++l.drop j)):=List.perm_middle
  rw [List.take_append_drop] at a
  exact a.trans (List.perm_append_comm (l₁:=[v]) (l₂:=l))
 exact h _
theorem zkb (l:List Int) (j:Nat):(l.drop j++l.take j).Perm l:=by
 have:=List.perm_append_comm (l₁:=l.drop j) (l₂:=l.take j)
 rwa [List.take_append_drop] at this
noncomputable def Row (es:List (Int×Int)) (p:Int) (l:List Int):Prop:=l.Perm (near es p)∧l.take 1=(near es p).take 1
end K02
namespace K20
open PY K01 K02 L2
noncomputable def li (p:Int×Int):List Int:=[p.1,p.2]
theorem zez {p q:Int×Int} (h:li p=li q):p=q:=by
 unfold li at h
 injection h with h1 h2
 injection h2 with h2 _
 exact Prod.ext h1 h2
theorem zdc:∀ es:List (Int×Int),tups? (es.map pr)=some (es.map li)
 | []=>rfl
 | e::es=>by
  show (match ints? [D.int e.1,D.int e.2] with | some (x::ns)=>(tups? (es.map pr)).map ((x::ns)::·) | _=>none)=_
  rw [zdc es]
  rfl
theorem zqf (es:List (Int×Int)):(es.map li).map tupI=es.map pr:=by rw [List.map_map]; rfl
theorem zk0:∀ (l σ:List (List Int)),(σ++l).Nodup→l.foldl (fun σ v=>if σ.any (· == v) then σ else σ++[v]) σ=σ++l
 | [],σ,_=>by simp
 | v::l,σ,h=>by
  have hv:σ.any (· == v)=false:=by
   rw [Bool.eq_false_iff]
   intro z
   obtain ⟨u,hu,e⟩:=List.any_eq_true.mp z
   have e:=beq_iff_eq.mp e
   subst e
   exact (List.nodup_append.mp h).2.2 u hu u List.mem_cons_self rfl
  rw [List.foldl_cons,hv]
  simp only [Bool.false_eq_true,if_false]
  rw [zk0 l (σ++[v]) (by simpa using h)]
  simp
theorem zh5 {l:List (List Int)} (h:l.Nodup):nubT l=l:=by
 have:=zk0 l [] (by simpa using h)
 simpa [nubT] using this
theorem zg8 {l:List (Int×Int)} (h:l.Nodup):(l.map li).Nodup:=List.Pairwise.map li (fun a b hab z=>hab (zez z)) h
noncomputable abbrev Up (l:List (Int×Int)):Prop:=l.Pairwise fun a b=>ltP a b=true
theorem zch {l:List (Int×Int)} (h:Up l):l.Nodup:=h.imp fun {a b} hab z=>by subst z; rw [zjp] at hab; cases hab
theorem zjx {l:List (Int×Int)} (h:Up l):(l.map li).Pairwise fun a b=>lexLt b a=false:=List.Pairwise.map li (fun a b hab=>zd2 hab) h
theorem zlg {l fs:List (Int×Int)} (h:Up fs) (p:fs.Perm l):sortT (l.map li)=fs.map li :=
 zas ((zax _).trans (p.symm.map li)) (zbx _) (zjx h)
theorem zr3 {l:List (Int×Int)} (h:l.Nodup):∃ fs,Up fs∧fs.Perm l:=by
 have p:=zax (l.map li)
 have un:∀ (m:List (List Int)),(∀ x∈m,x∈l.map li)→∃ fs:List (Int×Int),m=fs.map li:=fun m=>by
  induction m with
  | nil=>intro _; exact ⟨[],rfl⟩
  | cons x m ih =>
   intro hx
   obtain ⟨fs,rfl⟩:=ih fun y hy=>hx y (List.mem_cons_of_mem _ hy)
   obtain ⟨q,_,rfl⟩:=List.mem_map.mp (hx x List.mem_cons_self)
   exact ⟨q::fs,rfl⟩
 obtain ⟨fs,e⟩:=un _ fun x hx=>p.mem_iff.mp hx
 have hn:(fs.map li).Nodup:=by rw [← e]; exact p.symm.nodup (zg8 h)
 have hn':fs.Nodup:=List.Pairwise.of_map li (fun a b hab z=>hab (by rw [z])) hn
 refine ⟨fs,?_,?_⟩
 ·have pw:=zbx (l.map li)
  rw [e] at pw
  have pw:fs.Pairwise fun a b=>lexLt (li b) (li a)=false:=List.Pairwise.of_map li (fun a b hab=>hab) pw
  refine (pw.and hn').imp fun {a b} hab=>?_
  cases hc:ltP a b with
  | true=>rfl
  | false=>exact (hab.2 (zez (HS.zc6 hc hab.1))).elim
 ·refine (List.perm_ext_iff_of_nodup hn' h).mpr fun q=>?_
  have:=(p.mem_iff (a:=li q))
  rw [e] at this
  constructor
  ·intro hq
   obtain ⟨r,hr,e'⟩:=List.mem_map.mp (this.mp (List.mem_map_of_mem hq))
   rw [← zez e']; exact hr
  ·intro hq
   obtain ⟨r,hr,e'⟩:=List.mem_map.mp (this.mpr (List.mem_map_of_mem hq))
   rw [← zez e']; exact hr
noncomputable def Ein (n:Nat) (es:List (Int×Int)):Prop:=∀ e∈es,0≤e.1∧e.1 < e.2∧e.2 < (n:Int)
structure Nam (n:Nat) (P:List Int):Prop where
 len:P.length=n
 inn:∀ k,k < n→0≤P.getD k 0∧P.getD k 0 < (n:Int)
 inj:∀ j k,j < n→k < n→P.getD j 0=P.getD k 0→j=k
end K20
namespace EU
open PY K01 K02 K20
theorem zeh {a b:Dt}:ltP a b=true↔a.1 < b.1∨(a.1=b.1∧a.2 < b.2):=by
 obtain ⟨a1,a2⟩:=a
 obtain ⟨b1,b2⟩:=b
 show lexLt [a1,a2] [b1,b2]=true↔a1 < b1∨(a1=b1∧a2 < b2)
 simp only [lexLt]
 by_cases h:a1=b1
 ·subst h
  by_cases k:a2=b2
  ·subst k; simp
  ·simp [k]
 ·simp [h]
theorem zki (a b:Dt):ltP a b=true∨a=b∨ltP b a=true:=by
 rw [zeh,zeh]
 obtain ⟨a1,a2⟩:=a
 obtain ⟨b1,b2⟩:=b
 simp only [Prod.mk.injEq]
 lia
theorem lt_trans {a b c:Dt} (h:ltP a b=true) (k:ltP b c=true):ltP a c=true:=by
 rw [zeh] at *
 lia
theorem za5 {a:Dt}:¬ ltP a a=true:=by rw [zjp]; exact Bool.false_ne_true
theorem zhs:∀ {l m:List Dt},Up l→Up m→(∀ v,v∈l↔v∈m)→l=m
 | [],[],_,_,_=>rfl
 | [],b::m,_,_,h=>by have:=(h b).mpr List.mem_cons_self; cases this
 | a::l,[],_,_,h=>by have:=(h a).mp List.mem_cons_self; cases this
 | a::l,b::m,hl,hm,h=>by
  have hl':=List.pairwise_cons.mp hl
  have hm':=List.pairwise_cons.mp hm
  have e:a=b:=by
   rcases List.mem_cons.mp ((h a).mp List.mem_cons_self) with e | k
   ·exact e
   ·rcases List.mem_cons.mp ((h b).mpr List.mem_cons_self) with e | k'
    ·exact e.symm
    ·exact absurd (lt_trans (hm'.1 a k) (hl'.1 b k')) za5
  subst e
  congr 1
  refine zhs hl'.2 hm'.2 fun v=>⟨fun k=>?_,fun k=>?_⟩
  ·rcases List.mem_cons.mp ((h v).mp (List.mem_cons_of_mem _ k)) with e | k'
   ·subst e; exact absurd (hl'.1 _ k) za5
   ·exact k'
  ·rcases List.mem_cons.mp ((h v).mpr (List.mem_cons_of_mem _ k)) with e | k'
   ·subst e; exact absurd (hm'.1 _ k) za5
   ·exact k'
structure Orb (f:Dt→Dt) (a:Dt) (l:List Dt):Prop where
 len:0 < l.length
 at':∀ i,i < l.length→l[i]? = some (it f i a)
 com:it f l.length a=a
 fst:∀ i,0 < i→i < l.length→it f i a≠a
theorem Orb.mk' {f:Dt→Dt} {a:Dt} {k:Nat} (h0:0 < k) (h1:it f k a=a) (h2:∀ i,0 < i→i < k→it f i a≠a):Orb f a ((List.range k).map fun i=>it f i a):=by
 refine ⟨by simpa using h0,fun i hi=>?_,by simpa using h1,fun i i0 hi=>h2 i i0 (by simpa using hi)⟩
 have hi:i < k:=by simpa using hi
 rw [List.getElem?_map,List.getElem?_range hi]; rfl
theorem Orb.uniq {f:Dt→Dt} {a:Dt} {l m:List Dt} (h:Orb f a l) (k:Orb f a m):l=m:=by
 have e:l.length=m.length:=by
  rcases Nat.lt_trichotomy l.length m.length with z | z | z
  ·exact absurd h.com (k.fst _ h.len z)
  ·exact z
  ·exact absurd k.com (h.fst _ k.len z)
 apply List.ext_getElem?
 intro i
 by_cases hi:i < l.length
 ·rw [h.at' i hi,k.at' i (by lia)]
 ·rw [List.getElem?_eq_none (by lia),List.getElem?_eq_none (by lia)]
theorem Orb.head {f:Dt→Dt} {a:Dt} {l:List Dt} (h:Orb f a l):l.headD (0,0)=a:=by
 have:=h.at' 0 h.len
 cases l with
 | nil=>cases this
 | cons x l=>exact Option.some.inj this
theorem Orb.mem {f:Dt→Dt} {U:List Dt} (hf:Inj f U) {a:Dt} (ha:a∈U) {l:List Dt} (h:Orb f a l) {x:Dt}:x∈l↔Rch (Fs f U) a x:=by
 constructor
 ·intro hx
  obtain ⟨i,hi,rfl⟩:=List.getElem_of_mem hx
  have e:=h.at' i hi
  rw [List.getElem?_eq_getElem hi] at e
  rw [Option.some.inj e]
  have all:∀ i,Rch (Fs f U) a (it f i a):=fun i=>by
   induction i with
   | zero=>exact .refl _
   | succ i ih=>exact ih.step ⟨hf.it ha i,rfl⟩
  exact all i
 ·have there:∀ i,it f i a∈l:=fun i=>by
   induction i using Nat.strongRecOn with
   | ind i ih =>
    by_cases hi:i < l.length
    ·exact List.mem_of_getElem? (h.at' i hi)
    ·have:=ih (i - l.length) (by have:=h.len; lia)
     have e:it f (i - l.length) a=it f i a:=by
      have:=zm4 f a l.length (i - l.length)
      rw [h.com,show i - l.length+l.length=i by lia] at this
      exact this.symm
     rwa [e] at this
  intro k
  have key:∃ i,x=it f i a:=by
   induction k with
   | refl=>exact ⟨0,rfl⟩
   | step _ e ih =>
    obtain ⟨i,rfl⟩:=ih
    exact ⟨i+1,e.2⟩
   | @back b c _ e ih =>
    obtain ⟨i,rfl⟩:=ih
    cases i with
    | succ i=>exact ⟨i,(hf.one _ e.1 _ (hf.it ha i) e.2.symm)⟩
    | zero =>
     refine ⟨l.length - 1,hf.one _ e.1 _ (hf.it ha _) ?_⟩
     have h1:it f (l.length - 1+1) a=a:=by rw [show l.length - 1+1=l.length by have:=h.len; lia]; exact h.com
     exact e.2.symm.trans h1.symm
  obtain ⟨i,rfl⟩:=key
  exact there i
theorem Orb.ex {f:Dt→Dt} {U:List Dt} (hf:Inj f U) {a:Dt} (ha:a∈U):∃ l,Orb f a l∧l.length≤U.length:=by
 obtain ⟨k,h0,h1,h2,h3⟩:=hf.comes ha
 exact ⟨_,Orb.mk' h0 h2 h3,by simpa using h1⟩
theorem Orb.nodup {f:Dt→Dt} {U:List Dt} (hf:Inj f U) {a:Dt} (ha:a∈U) {l:List Dt} (h:Orb f a l):l.Nodup:=by
 have cancel:∀ i j,it f (i+j) a=it f i a→it f j a=a:=fun i=>by
  induction i with
  | zero=>intro j e; rw [Nat.zero_add] at e; exact e
  | succ i ih =>
   intro j e
   rw [Nat.add_right_comm] at e
   exact ih j (hf.one _ (hf.it ha _) _ (hf.it ha _) e)
 rw [List.nodup_iff_pairwise_ne,List.pairwise_iff_getElem]
 intro i j hi hj hij e
 have a1:=h.at' i hi
 have a2:=h.at' j hj
 rw [List.getElem?_eq_getElem hi] at a1
 rw [List.getElem?_eq_getElem hj] at a2
 rw [Option.some.inj a1,Option.some.inj a2] at e
 refine h.fst (j - i) (by lia) (by lia) (cancel i (j - i) ?_)
 rw [show i+(j - i)=j by lia]
 exact e.symm
theorem Orb.inn {f:Dt→Dt} {U:List Dt} (hf:Inj f U) {a:Dt} (ha:a∈U) {l:List Dt} (h:Orb f a l) {x:Dt} (hx:x∈l):x∈U:=by
 obtain ⟨i,hi,rfl⟩:=List.getElem_of_mem hx
 have e:=h.at' i hi
 rw [List.getElem?_eq_getElem hi] at e
 rw [Option.some.inj e]
 exact hf.it ha i
noncomputable abbrev hd (l:List Dt):Dt:=l.headD (0,0)
structure Fcs (f:Dt→Dt) (U:List Dt) (fs:List (List Dt)):Prop where
 orb:∀ l∈fs,∃ a,a∈U∧Orb f a l∧∀ x∈l,¬ ltP x a=true
 up:Up (fs.map hd)
 cov:∀ d∈U,∃ l∈fs,d∈l
theorem Fcs.heads {f:Dt→Dt} {U:List Dt} {fs:List (List Dt)} (hf:Inj f U) (h:Fcs f U fs) (d:Dt):d∈fs.map hd↔d∈U∧∀ x,Rch (Fs f U) d x→¬ ltP x d=true:=by
 constructor
 ·intro hd'
  obtain ⟨l,hl,rfl⟩:=List.mem_map.mp hd'
  obtain ⟨a,ha,ho,hm⟩:=h.orb l hl
  rw [show hd l=a from ho.head]
  exact ⟨ha,fun x k=>hm x ((ho.mem hf ha).mpr k)⟩
 ·rintro ⟨hd',hm⟩
  obtain ⟨l,hl,hx⟩:=h.cov d hd'
  obtain ⟨a,ha,ho,hn⟩:=h.orb l hl
  have k:=(ho.mem hf ha).mp hx
  have e:a=d:=by
   rcases zki a d with z | z | z
   ·exact absurd z (hm a k.symm)
   ·exact z
   ·exact absurd z (hn d hx)
  exact List.mem_map.mpr ⟨l,hl,by rw [← e]; exact ho.head⟩
theorem znf:∀ {fs gs:List (List Dt)},fs.map hd=gs.map hd→(∀ l∈fs,∀ m∈gs,hd l=hd m→l=m)→fs=gs
 | [],[],_,_=>rfl
 | [],_::_,h,_=>by cases h
 | _::_,[],h,_=>by cases h
 | l::fs,m::gs,h,k=>by
  simp only [List.map_cons,List.cons.injEq] at h
  rw [k l List.mem_cons_self m List.mem_cons_self h.1,znf h.2 fun a ha b hb=>k a (List.mem_cons_of_mem _ ha) b (List.mem_cons_of_mem _ hb)]
theorem Fcs.uniq {f:Dt→Dt} {U:List Dt} {fs gs:List (List Dt)} (hf:Inj f U) (h:Fcs f U fs) (k:Fcs f U gs):fs=gs:=by
 refine znf (zhs h.up k.up fun v=>by rw [h.heads hf,k.heads hf]) fun l hl m hm e=>?_
 obtain ⟨a,_,ho,_⟩:=h.orb l hl
 obtain ⟨b,_,ho',_⟩:=k.orb m hm
 have:a=b:=by rw [← ho.head,← ho'.head]; exact e
 subst this
 exact ho.uniq ho'
theorem Fcs.reps {f:Dt→Dt} {U:List Dt} {fs:List (List Dt)} (hf:Inj f U) (h:Fcs f U fs):Reps (Fs f U) U (fs.map hd):=by
 refine ⟨fun r hr=>((h.heads hf r).mp hr).1,fun u hu=>?_,?_⟩
 ·obtain ⟨l,hl,hx⟩:=h.cov u hu
  obtain ⟨a,ha,ho,_⟩:=h.orb l hl
  exact ⟨hd l,List.mem_map_of_mem hl,by rw [show hd l=a from ho.head]; exact (ho.mem hf ha).mp hx⟩
 ·refine List.Pairwise.imp_of_mem ?_ h.up
  intro a b ha hb hab k
  exact ((h.heads hf b).mp hb).2 a k.symm hab
theorem Fcs.flat {f:Dt→Dt} {U:List Dt} {fs:List (List Dt)} (hf:Inj f U) (hU:U.Nodup) (h:Fcs f U fs):fs.flatten.Perm U:=by
 have nd:fs.flatten.Nodup:=by
  rw [List.nodup_iff_pairwise_ne,List.pairwise_flatten]
  refine ⟨fun l hl=>?_,?_⟩
  ·obtain ⟨a,ha,ho,_⟩:=h.orb l hl
   exact List.nodup_iff_pairwise_ne.mp (ho.nodup hf ha)
  ·have:=List.pairwise_map.mp h.up
   refine List.Pairwise.imp_of_mem ?_ this
   intro l m hl hm hlt x hx y hy e
   subst e
   obtain ⟨a,ha,ho,hn⟩:=h.orb l hl
   obtain ⟨b,hb,ho',hn'⟩:=h.orb m hm
   rw [show hd l=a from ho.head,show hd m=b from ho'.head] at hlt
   have k:=((ho'.mem hf hb).mp hy).trans ((ho.mem hf ha).mp hx).symm
   exact hn' a ((ho'.mem hf hb).mpr k) hlt
 refine (List.perm_ext_iff_of_nodup nd hU).mpr fun x=>⟨fun hx=>?_,fun hx=>?_⟩
 ·obtain ⟨l,hl,hx⟩:=List.mem_flatten.mp hx
  obtain ⟨a,ha,ho,_⟩:=h.orb l hl
  exact ho.inn hf ha hx
 ·obtain ⟨l,hl,hx⟩:=h.cov x hx
  exact List.mem_flatten.mpr ⟨l,hl,hx⟩
end EU
namespace K05
open PY K01 K02
inductive Reach (es:List (Int×Int)) (a:Int):Int→Prop
 | refl:Reach es a a
 | step {b c:Int}:Reach es a b→c∈near es b→Reach es a c
theorem zbv {es:List (Int×Int)} {a b:Int}:a∈near es b↔(a,b)∈es∨(b,a)∈es:=by
 unfold near
 simp only [List.mem_append,List.mem_map,List.mem_filter]
 constructor
 ·rintro (⟨⟨x,y⟩,⟨h,e⟩,rfl⟩ | ⟨⟨x,y⟩,⟨h,e⟩,rfl⟩)
  ·rw [show b=y from (beq_iff_eq.mp e).symm]; exact .inl h
  ·rw [show b=x from (beq_iff_eq.mp e).symm]; exact .inr h
 ·rintro (h | h)
  ·exact .inl ⟨(a,b),⟨h,by simp⟩,rfl⟩
  ·exact .inr ⟨(b,a),⟨h,by simp⟩,rfl⟩
theorem zlj {es:List (Int×Int)} {a b:Int} (h:a∈near es b):b∈near es a:=zbv.mpr ((zbv.mp h).symm)
theorem Reach.trans {es:List (Int×Int)} {a b c:Int} (h:Reach es a b) (h':Reach es b c):Reach es a c:=by
 induction h' with
 | refl=>exact h
 | step _ hc ih=>exact ih.step hc
theorem Reach.symm {es:List (Int×Int)} {a b:Int} (h:Reach es a b):Reach es b a:=by
 induction h with
 | refl=>exact .refl
 | step _ hc ih=>exact (Reach.refl.step (zlj hc)).trans ih
theorem Reach.inv {es:List (Int×Int)} {a b:Int} (P:Int→Prop) (h:Reach es a b) (h0:P a) (hs:∀ x y,P x→y∈near es x→P y):P b:=by
 induction h with
 | refl=>exact h0
 | step _ hc ih=>exact hs _ _ ih hc
theorem Reach.low {es:List (Int×Int)} {n:Nat} (hn:n≤9) (hs:es.Sublist (pairsM n)) {a b:Int} (h:Reach es a b) (ha:0≤a∧a < n):0≤b∧b < n :=
 h.inv (fun x=>0≤x∧x < (n:Int)) ha fun x y hx hy=>by
  obtain ⟨p,rfl⟩:∃ p:Nat,x=p:=⟨x.toNat,by lia⟩
  have:=zfv hn hs (p:=p) (by lia) hy
  lia
structure Part (es:List (Int×Int)) (n:Nat) (l:List Int):Prop where
 up:l.Pairwise (· < ·)
 one:∃ s:Int,(0≤s∧s < (n:Int))∧∀ v,v∈l↔Reach es s v
theorem zmx:∀ {l m:List Int},l.Pairwise (· < ·)→m.Pairwise (· < ·)→(∀ v,v∈l↔v∈m)→l=m
 | [],[],_,_,_=>rfl
 | [],y::m,_,_,h=>by have:=(h y).mpr List.mem_cons_self; cases this
 | x::l,[],_,_,h=>by have:=(h x).mp List.mem_cons_self; cases this
 | x::l,y::m,h1,h2,h=>by
  rw [List.pairwise_cons] at h1 h2
  have e:x=y:=by
   rcases List.mem_cons.mp ((h x).mp List.mem_cons_self) with e | hx
   ·exact e
   ·rcases List.mem_cons.mp ((h y).mpr List.mem_cons_self) with e | hy
    ·exact e.symm
    ·have:=h1.1 y hy
     have:=h2.1 x hx
     lia
  subst e
  rw [zmx h1.2 h2.2 fun v=>?_]
  constructor
  ·intro hv
   rcases List.mem_cons.mp ((h v).mp (List.mem_cons_of_mem _ hv)) with e | hv'
   ·subst e; have:=h1.1 v hv; lia
   ·exact hv'
  ·intro hv
   rcases List.mem_cons.mp ((h v).mpr (List.mem_cons_of_mem _ hv)) with e | hv'
   ·subst e; have:=h2.1 v hv; lia
   ·exact hv'
theorem Part.eq {es:List (Int×Int)} {n:Nat} {l m:List Int} (h:Part es n l) (h':Part es n m) {v:Int} (hv:v∈l) (hv':v∈m):l=m:=by
 obtain ⟨s,_,h1⟩:=h.one
 obtain ⟨t,_,h2⟩:=h'.one
 refine zmx h.up h'.up fun u=>?_
 have st:Reach es s t:=((h1 v).mp hv).trans ((h2 v).mp hv').symm
 rw [h1,h2]
 exact ⟨fun q=>st.symm.trans q,fun q=>st.trans q⟩
theorem Part.ne {es:List (Int×Int)} {n:Nat} {l:List Int} (h:Part es n l):∃ v,(0≤v∧v < (n:Int))∧v∈l:=by
 obtain ⟨s,hs,h1⟩:=h.one
 exact ⟨s,hs,(h1 s).mpr .refl⟩
structure Parts (es:List (Int×Int)) (n:Nat) (ps:List (List Int)):Prop where
 part:∀ l∈ps,Part es n l
 all:∀ v:Int,0≤v→v < (n:Int)→∃ l∈ps,v∈l
 nod:ps.Nodup
theorem Parts.perm {es:List (Int×Int)} {n:Nat} {ps qs:List (List Int)} (h:Parts es n ps) (h':Parts es n qs):ps.Perm qs:=by
 have sub:∀ {ps qs:List (List Int)},Parts es n ps→Parts es n qs→∀ l,l∈ps→l∈qs:=fun {ps qs} h h' l hl=>by
  obtain ⟨v,hv,hvl⟩:=(h.part l hl).ne
  obtain ⟨m,hm,hvm⟩:=h'.all v hv.1 hv.2
  rw [(h.part l hl).eq (h'.part m hm) hvl hvm]; exact hm
 exact (List.perm_ext_iff_of_nodup h.nod h'.nod).mpr fun l=>⟨sub h h' l,sub h' h l⟩
theorem zh9 {es:List (Int×Int)} {n:Nat} {ps qs:List (List Int)} (h:Parts es n ps) (h':Parts es n qs) (hp:ps.Pairwise fun a b=>lexLt b a=false):sortT qs=ps :=
 L2.zas ((L2.zax qs).trans (h'.perm h)) (L2.zbx qs) hp
noncomputable def addNew:List Int→List Int→List Int
 | _,[]=>[]
 | ms,q::r=>if q∈ms then addNew ms r else q::addNew (ms++[q]) r
theorem addNew_facts:∀ (l ms:List Int),ms.Nodup→(ms++addNew ms l).Nodup∧(∀ q∈l,q∈ms++addNew ms l)∧∀ q∈addNew ms l,q∈l
 | [],ms,h=>by simp [addNew,h]
 | q::r,ms,h=>by
  unfold addNew
  by_cases hq:q∈ms
  ·rw [if_pos hq]
   obtain ⟨h1,h2,h3⟩:=addNew_facts r ms h
   refine ⟨h1,fun x hx=>?_,fun x hx=>List.mem_cons_of_mem _ (h3 x hx)⟩
   rcases List.mem_cons.mp hx with rfl | hx
   ·exact List.mem_append_left _ hq
   ·exact h2 x hx
  ·rw [if_neg hq]
   have hn:(ms++[q]).Nodup:=by
    rw [List.nodup_append]
    refine ⟨h,by simp,fun a ha b hb=>?_⟩
    rw [List.mem_singleton] at hb
    subst hb
    exact fun e=>hq (e▸ha)
   obtain ⟨h1,h2,h3⟩:=addNew_facts r (ms++[q]) hn
   rw [List.append_assoc,List.singleton_append] at h1
   refine ⟨h1,fun x hx=>?_,fun x hx=>?_⟩
   ·rcases List.mem_cons.mp hx with rfl | hx
    ·simp
    ·have:=h2 x hx
     simpa [List.append_assoc] using this
   ·rcases List.mem_cons.mp hx with rfl | hx
    ·exact List.mem_cons_self
    ·exact List.mem_cons_of_mem _ (h3 x hx)
end K05
namespace K05
open PY K01 K02
theorem za2 {es:List (Int×Int)} {a b x y:Int}:y∈near (es++[(a,b)]) x↔y∈near es x∨(y=a∧x=b)∨(y=b∧x=a):=by
 rw [zbv,zbv]
 simp only [List.mem_append,List.mem_singleton,Prod.mk.injEq]
 constructor
 ·rintro ((h | h) | (h | h))
  ·exact .inl (.inl h)
  ·exact .inr (.inl h)
  ·exact .inl (.inr h)
  ·exact .inr (.inr ⟨h.2,h.1⟩)
 ·rintro ((h | h) | (h | h))
  ·exact .inl (.inl h)
  ·exact .inr (.inl h)
  ·exact .inl (.inr h)
  ·exact .inr (.inr ⟨h.2,h.1⟩)
theorem Reach.more {es:List (Int×Int)} {a b s v:Int} (h:Reach es s v):Reach (es++[(a,b)]) s v:=by
 induction h with
 | refl=>exact .refl
 | step _ hc ih=>exact ih.step (za2.mpr (.inl hc))
theorem Reach.edge {es:List (Int×Int)} {a b:Int}:Reach (es++[(a,b)]) a b:=Reach.refl.step (za2.mpr (.inr (.inr ⟨rfl,rfl⟩)))
theorem Part.reach {es:List (Int×Int)} {n:Nat} {l:List Int} (h:Part es n l) {a:Int} (ha:a∈l) (v:Int):v∈l↔Reach es a v:=by
 obtain ⟨s,_,h1⟩:=h.one
 have:=(h1 a).mp ha
 rw [h1]
 exact ⟨fun q=>this.symm.trans q,fun q=>this.trans q⟩
theorem Parts.len {es:List (Int×Int)} {n:Nat} {qs:List (List Int)} (hlow:∀ a b,Reach es a b→0≤a∧a < (n:Int)→0≤b∧b < (n:Int)) (h:Parts es n qs):qs.length≤n:=by
 have hm:∀ l∈qs,l.headD 0∈l:=fun l hl=>by
  obtain ⟨v,_,hv⟩:=(h.part l hl).ne
  cases l with
  | nil=>cases hv
  | cons x r=>exact List.mem_cons_self
 have:=fits n (qs.map fun l=>l.headD 0) (by
  rw [List.Nodup,List.pairwise_map]
  refine h.nod.imp_of_mem fun {a b} ha hb hne e=>hne ?_
  exact (h.part a ha).eq (h.part b hb) (hm a ha) (e▸hm b hb)) (by
  intro x hx
  obtain ⟨l,hl,rfl⟩:=List.mem_map.mp hx
  obtain ⟨s,hs,h1⟩:=(h.part l hl).one
  exact hlow s _ ((h1 _).mp (hm l hl)) hs)
 rwa [List.length_map] at this
theorem zii (n:Nat):Parts [] n ((List.range n).map fun i=>[(0:Int)+(i:Nat)]) where
 part:=fun l hl=>by
  obtain ⟨i,hi,rfl⟩:=List.mem_map.mp hl
  have:=List.mem_range.mp hi
  refine ⟨by simp,0+(i:Nat),by lia,fun v=>?_⟩
  rw [List.mem_singleton]
  constructor
  ·rintro rfl; exact .refl
  ·intro h
   exact h.inv (fun x=>x=0+(i:Nat)) rfl fun x y _ hy=>by simp [near] at hy
 all:=fun v h0 hn=>⟨[v],List.mem_map.mpr ⟨v.toNat,List.mem_range.mpr (by lia),by congr 1; lia⟩,by simp⟩
 nod:=by
  rw [List.Nodup,List.pairwise_map]
  exact List.nodup_range.imp fun h e=>h (by have:=List.cons.inj e; lia)
theorem zij {es:List (Int×Int)} {n:Nat} {qs:List (List Int)} (h:Parts es n qs) {a b:Int} {l:List Int} (hl:l∈qs) (ha:a∈l) (hb:b∈l):Parts (es++[(a,b)]) n qs:=by
 have hab:Reach es a b:=((h.part l hl).reach ha b).mp hb
 refine ⟨fun m hm=>?_,h.all,h.nod⟩
 obtain ⟨s,hs,h1⟩:=(h.part m hm).one
 refine ⟨(h.part m hm).up,s,hs,fun v=>?_⟩
 rw [h1]
 refine ⟨.more,fun q=>q.inv (fun x=>Reach es s x) .refl fun x y hx hy=>?_⟩
 rcases za2.mp hy with hy | ⟨rfl,rfl⟩ | ⟨rfl,rfl⟩
 ·exact hx.step hy
 ·exact hx.trans hab.symm
 ·exact hx.trans hab
theorem zh2 {es:List (Int×Int)} {n:Nat} {qs:List (List Int)} (h:Parts es n qs) {a b:Int} {l m:List Int} (hl:l∈qs) (hm:m∈qs) (ha:a∈l) (hb:b∈m) (hne:l≠m) :
  Parts (es++[(a,b)]) n (qs.filter (fun q=>!decide (q=l)&&!decide (q=m))++[sortI (l++m)]):=by
 have pl:=h.part l hl
 have pm:=h.part m hm
 have dis:∀ x,x∈l→x∈m→False:=fun x h1 h2=>hne (pl.eq pm h1 h2)
 have nod:(sortI (l++m)).Nodup:=(L2.zu _).nodup_iff.mpr (List.nodup_append.mpr ⟨pl.up.imp fun h=>by lia,pm.up.imp fun h=>by lia,fun x hx y hy e=>dis x hx (e▸hy)⟩)
 have mem:∀ v,v∈sortI (l++m)↔v∈l∨v∈m:=fun v=>by rw [(L2.zu _).mem_iff,List.mem_append]
 have pf:∀ q,q∈qs.filter (fun q=>!decide (q=l)&&!decide (q=m))↔q∈qs∧q≠l∧q≠m:=fun q=>by
  rw [List.mem_filter]; simp
 refine ⟨fun q hq=>?_,fun v h0 hn=>?_,?_⟩
 ·rcases List.mem_append.mp hq with hq | hq
  ·obtain ⟨h1,h2,h3⟩:=(pf q).mp hq
   obtain ⟨s,hs,h4⟩:=(h.part q h1).one
   refine ⟨(h.part q h1).up,s,hs,fun v=>?_⟩
   rw [h4]
   refine ⟨.more,fun z=>z.inv (fun x=>Reach es s x) .refl fun x y hx hy=>?_⟩
   rcases za2.mp hy with hy | ⟨rfl,rfl⟩ | ⟨rfl,rfl⟩
   ·exact hx.step hy
   ·exact absurd ((h.part q h1).eq pm ((h4 _).mpr hx) hb) h3
   ·exact absurd ((h.part q h1).eq pl ((h4 _).mpr hx) ha) h2
  ·rw [List.mem_singleton] at hq
   subst hq
   refine ⟨((L2.zb0 _).and nod).imp fun h=>by lia,?_⟩
   obtain ⟨s,hs,h4⟩:=pl.one
   have sa:Reach es s a:=(h4 a).mp ha
   refine ⟨s,hs,fun v=>?_⟩
   rw [mem]
   constructor
   ·rintro (hv | hv)
    ·exact ((h4 v).mp hv).more
    ·exact (sa.more.trans .edge).trans ((pm.reach hb v).mp hv).more
   ·intro z
    refine z.inv (fun x=>x∈l∨x∈m) (.inl ((h4 s).mpr .refl)) fun x y hx hy=>?_
    rcases za2.mp hy with hy | ⟨rfl,rfl⟩ | ⟨rfl,rfl⟩
    ·rcases hx with hx | hx
     ·exact .inl ((pl.reach hx y).mpr (Reach.refl.step hy))
     ·exact .inr ((pm.reach hx y).mpr (Reach.refl.step hy))
    ·exact .inl ha
    ·exact .inr hb
 ·obtain ⟨q,hq,hv⟩:=h.all v h0 hn
  by_cases e1:q=l
  ·exact ⟨_,List.mem_append_right _ (List.mem_singleton.mpr rfl),(mem v).mpr (.inl (e1▸hv))⟩
  ·by_cases e2:q=m
   ·exact ⟨_,List.mem_append_right _ (List.mem_singleton.mpr rfl),(mem v).mpr (.inr (e2▸hv))⟩
   ·exact ⟨q,List.mem_append_left _ ((pf q).mpr ⟨hq,e1,e2⟩),hv⟩
 ·rw [List.nodup_append]
  refine ⟨h.nod.filter _,by simp,fun x hx y hy e=>?_⟩
  rw [List.mem_singleton] at hy
  obtain ⟨h1,h2,_⟩:=(pf x).mp hx
  have:a∈x:=by rw [e,hy]; exact (mem a).mpr (.inl ha)
  exact h2 ((h.part x h1).eq pl this ha)
end K05
namespace EU
open PY K01 K02 K20 K05
noncomputable def nxt (l:List Int) (a:Int):Int:=l.getD ((l.idxOf a+1) % l.length) 0
theorem znc {l:List Int} (nd:l.Nodup) {i:Nat} (hi:i < l.length):l.idxOf l[i]=i:=by
 have hm:l[i]∈l:=List.getElem_mem hi
 have h1:=List.idxOf_lt_length_of_mem hm
 have h2:l[l.idxOf l[i]]=l[i]:=List.getElem_idxOf h1
 rcases Nat.lt_trichotomy (l.idxOf l[i]) i with z | z | z
 ·exact absurd h2 (List.pairwise_iff_getElem.mp (List.nodup_iff_pairwise_ne.mp nd) _ _ h1 hi z)
 ·exact z
 ·exact absurd h2.symm (List.pairwise_iff_getElem.mp (List.nodup_iff_pairwise_ne.mp nd) _ _ hi h1 z)
theorem zkw {l:List Int} (nd:l.Nodup) {i:Nat} (hi:i < l.length):nxt l l[i]=l[(i+1) % l.length]'(Nat.mod_lt _ (by lia)):=by
 unfold nxt
 rw [znc nd hi,List.getD_eq_getElem?_getD,List.getElem?_eq_getElem (Nat.mod_lt _ (by lia))]
 rfl
theorem zfl {i n:Nat} (h:i < n):(i+1) % n=if i+1=n then 0 else i+1:=by
 split
 ·rename_i e; rw [e,Nat.mod_self]
 ·exact Nat.mod_eq_of_lt (by lia)
theorem zog {l:List Int} {a:Int} (h:a∈l):nxt l a∈l:=by
 have h1:=List.length_pos_of_mem h
 unfold nxt
 rw [List.getD_eq_getElem?_getD,List.getElem?_eq_getElem (Nat.mod_lt _ h1)]
 exact List.getElem_mem _
theorem znt {l:List Int} (nd:l.Nodup) {a b:Int} (ha:a∈l) (hb:b∈l) (e:nxt l a=nxt l b):a=b:=by
 obtain ⟨i,hi,rfl⟩:=List.getElem_of_mem ha
 obtain ⟨j,hj,rfl⟩:=List.getElem_of_mem hb
 rw [zkw nd hi,zkw nd hj] at e
 have k:(i+1) % l.length=(j+1) % l.length:=by
  have h1:(i+1) % l.length < l.length:=Nat.mod_lt _ (by lia)
  have h2:(j+1) % l.length < l.length:=Nat.mod_lt _ (by lia)
  rcases Nat.lt_trichotomy ((i+1) % l.length) ((j+1) % l.length) with z | z | z
  ·exact absurd e (List.pairwise_iff_getElem.mp (List.nodup_iff_pairwise_ne.mp nd) _ _ h1 h2 z)
  ·exact z
  ·exact absurd e.symm (List.pairwise_iff_getElem.mp (List.nodup_iff_pairwise_ne.mp nd) _ _ h2 h1 z)
 rw [zfl hi,zfl hj] at k
 have:i=j:=by split at k <;> split at k <;> lia
 subst this
 rfl
structure Whl (n:Nat) (es:List Dt) (w:Int→List Int):Prop where
 nod:∀ p:Int,0≤p→p < n→(w p).Nodup
 mem:∀ p:Int,0≤p→p < n→∀ v,v∈w p↔(p,v)∈dts es
 ein:Ein n es
noncomputable def trn (w:Int→List Int) (d:Dt):Dt:=(d.1,nxt (w d.1) d.2)
section
variable {n:Nat} {es:List Dt} {w:Int→List Int}
theorem Whl.low (h:Whl n es w) {d:Dt} (hd:d∈dts es):0≤d.1∧d.1 < n∧d.1≠d.2:=by
 rcases zz.mp hd with k | k
 ·have:=h.ein _ k; lia
 ·have:=h.ein _ k
  have:0≤d.2∧d.2 < d.1∧d.1 < (n:Int):=this
  lia
theorem Whl.inj (h:Whl n es w):Inj (trn w) (dts es):=by
 refine ⟨fun d hd=>?_,fun d hd e he k=>?_⟩
 ·obtain ⟨a,b,_⟩:=h.low hd
  exact (h.mem _ a b _).mp (zog ((h.mem _ a b _).mpr hd))
 ·obtain ⟨a,b,_⟩:=h.low hd
  obtain ⟨d1,d2⟩:=d
  obtain ⟨e1,e2⟩:=e
  unfold trn at k
  simp only [Prod.mk.injEq] at k
  obtain ⟨rfl,k⟩:=k
  rw [znt (h.nod _ a b) ((h.mem _ a b _).mpr hd) ((h.mem _ a b _).mpr he) k]
theorem Whl.same (h:Whl n es w) {p a b:Int} (ha:(p,a)∈dts es) (hb:(p,b)∈dts es):Rch (Fs (trn w) (dts es)) (p,a) (p,b):=by
 obtain ⟨p0,p1,_⟩:=h.low ha
 have nd:=h.nod p p0 p1
 obtain ⟨i,hi,rfl⟩:=List.getElem_of_mem ((h.mem p p0 p1 a).mpr ha)
 obtain ⟨j,hj,rfl⟩:=List.getElem_of_mem ((h.mem p p0 p1 b).mpr hb)
 have go:∀ k,Rch (Fs (trn w) (dts es)) (p,(w p)[i]) (p,(w p)[(i+k) % (w p).length]'(Nat.mod_lt _ (by lia))):=fun k=>by
  induction k with
  | zero =>
   have:(i+0) % (w p).length=i:=Nat.mod_eq_of_lt hi
   simp only [this]
   exact .refl _
  | succ k ih =>
   refine ih.step ⟨(h.mem p p0 p1 _).mp (List.getElem_mem _),?_⟩
   show _=(p,nxt (w p) _)
   rw [zkw nd (Nat.mod_lt _ (by lia))]
   congr 2
   rw [Nat.mod_add_mod]
   rfl
 have:=go (j+(w p).length - i)
 have e:(i+(j+(w p).length - i)) % (w p).length=j:=by
  rw [show i+(j+(w p).length - i)=j+(w p).length by lia,Nat.add_mod_right]
  exact Nat.mod_eq_of_lt hj
 simp only [e] at this
 exact this
theorem zaz {a b:Int}:(a,b)∈dts es↔b∈near es a:=by
 rw [zz,zbv]
 exact Or.comm
theorem zpd {x y:Dt} (h:Rch (Fs (trn w) (dts es)) x y):x.1=y.1:=by
 induction h with
 | refl=>rfl
 | step _ e ih=>rw [ih,e.2]; rfl
 | back _ e ih=>rw [ih,e.2]; rfl
theorem zmp {x y:Dt} (h:Rch (Nb (trn w) (dts es) es) x y):Reach es x.1 y.1:=by
 have one:∀ u v,Nb (trn w) (dts es) es u v→Reach es u.1 v.1:=fun u v e=>by
  rcases e with ⟨_,rfl⟩ | ⟨hu,rfl⟩
  ·exact .refl
  ·exact Reach.refl.step (zaz.mp (zz.mpr (.inl hu)))
 induction h with
 | refl=>exact .refl
 | step _ e ih=>exact ih.trans (one _ _ e)
 | back _ e ih=>exact ih.trans (one _ _ e).symm
theorem Whl.reach_nb (h:Whl n es w) {u v:Int} (k:Reach es u v):∀ {x y:Int},(u,x)∈dts es→(v,y)∈dts es→Rch (Nb (trn w) (dts es) es) (u,x) (v,y):=by
 have turn:∀ {p a b:Int},(p,a)∈dts es→(p,b)∈dts es→Rch (Nb (trn w) (dts es) es) (p,a) (p,b):=fun ha hb=>(h.same ha hb).sub fun _ _ e=>.one (.inl e)
 induction k with
 | refl=>intro x y hx hy; exact turn hx hy
 | @step b c _ hc ih =>
  intro x y hx hy
  have bc:(b,c)∈dts es:=zaz.mpr hc
  refine (ih hx bc).trans (Rch.trans ?_ (turn (zbk bc) hy))
  rcases zz.mp bc with z | z
  ·exact .one (.inr ⟨z,rfl⟩)
  ·exact (Rch.one (.inr ⟨z,rfl⟩)).symm
noncomputable def big (ps:List (List Int)):List (List Int):=ps.filter fun l=>decide (1 < l.length)
theorem zap {ps:List (List Int)} {l:List Int}:l∈big ps↔l∈ps∧1 < l.length:=by
 unfold big
 rw [List.mem_filter,decide_eq_true_eq]
theorem two_len {l:List Int} {a b:Int} (ha:a∈l) (hb:b∈l) (ne:a≠b):1 < l.length:=by
 match l,ha,hb with
 | [x],ha,hb=>rw [List.mem_singleton] at ha hb; exact absurd (ha.trans hb.symm) ne
 | x::y::l,_,_=>simp
variable {ps:List (List Int)}
theorem Whl.some (h:Whl n es w) (hp:Parts es n ps) {d:Dt} (hd:d∈dts es):∃ l∈big ps,d.1∈l:=by
 obtain ⟨a,b,c⟩:=h.low hd
 obtain ⟨l,hl,hv⟩:=hp.all d.1 a b
 have k:d.2∈l:=((hp.part l hl).reach hv d.2).mpr (Reach.refl.step (zaz.mp hd))
 exact ⟨l,zap.mpr ⟨hl,two_len hv k c⟩,hv⟩
theorem zfw (hp:Parts es n ps) {l:List Int} (hl:l∈big ps) {v:Int} (hv:v∈l):∃ u,(v,u)∈dts es:=by
 obtain ⟨h1,h2⟩:=zap.mp hl
 have up:=(hp.part l h1).up
 obtain ⟨u,hu,ne⟩:∃ u∈l,u≠v:=by
  match l,h2,up with
  | x::y::r,_,up =>
   have:=(List.pairwise_cons.mp up).1 y List.mem_cons_self
   by_cases e:x=v
   ·exact ⟨y,by simp,by lia⟩
   ·exact ⟨x,by simp,e⟩
 have k:=((hp.part l h1).reach hv u).mp hu
 apply Classical.byContradiction
 intro no
 exact ne (k.inv (fun x=>x=v) rfl fun x y hx hy=>by subst hx; exact absurd ⟨y,zaz.mpr hy⟩ no)
theorem Parts.low (hp:Parts es n ps) (h:Whl n es w) {l:List Int} (hl:l∈big ps) {v:Int} (hv:v∈l):0≤v∧v < n:=by
 obtain ⟨u,k⟩:=zfw hp hl hv
 have:=h.low k
 exact ⟨this.1,this.2.1⟩
noncomputable def wv (w:Int→List Int) (v:Int):Dt:=(v,(w v).headD 0)
theorem zl7 (h:Whl n es w) (hp:Parts es n ps) {l:List Int} (hl:l∈big ps) {v:Int} (hv:v∈l):wv w v∈dts es:=by
 obtain ⟨u,k⟩:=zfw hp hl hv
 obtain ⟨a,b,_⟩:=h.low k
 have hm:=(h.mem v a b u).mpr k
 refine (h.mem v a b _).mp ?_
 cases e:w v with
 | nil=>rw [e] at hm; cases hm
 | cons x r=>exact List.mem_cons_self
theorem zbt (hp:Parts es n ps):(big ps).flatten.Nodup:=by
 rw [List.nodup_iff_pairwise_ne,List.pairwise_flatten]
 refine ⟨fun l hl=>(hp.part l (zap.mp hl).1).up.imp fun h=>by lia,?_⟩
 have nd:(big ps).Nodup:=hp.nod.filter _
 refine List.Pairwise.imp_of_mem ?_ (List.nodup_iff_pairwise_ne.mp nd)
 intro l m hl hm ne x hx y hy e
 subst e
 exact ne ((hp.part l (zap.mp hl).1).eq (hp.part m (zap.mp hm).1) hx hy)
theorem zpv (h:Whl n es w) (hp:Parts es n ps):Reps (Fs (trn w) (dts es)) (dts es) ((big ps).flatten.map (wv w)):=by
 refine ⟨fun r hr=>?_,fun d hd=>?_,?_⟩
 ·obtain ⟨v,hv,rfl⟩:=List.mem_map.mp hr
  obtain ⟨l,hl,hv⟩:=List.mem_flatten.mp hv
  exact zl7 h hp hl hv
 ·obtain ⟨l,hl,hv⟩:=h.some hp hd
  exact ⟨wv w d.1,List.mem_map_of_mem (List.mem_flatten.mpr ⟨l,hl,hv⟩),h.same (zl7 h hp hl hv) hd⟩
 ·rw [List.pairwise_map]
  refine (List.nodup_iff_pairwise_ne.mp (zbt hp)).imp fun ne k=>ne (zpd k)
theorem zrp (h:Whl n es w) (hp:Parts es n ps):Reps (Nb (trn w) (dts es) es) (dts es) ((big ps).map fun l=>wv w (l.headD 0)):=by
 have hh:∀ l∈big ps,l.headD 0∈l:=fun l hl=>by
  have:=(zap.mp hl).2
  match l,this with
  | x::r,_=>exact List.mem_cons_self
 refine ⟨fun r hr=>?_,fun d hd=>?_,?_⟩
 ·obtain ⟨l,hl,rfl⟩:=List.mem_map.mp hr
  exact zl7 h hp hl (hh l hl)
 ·obtain ⟨l,hl,hv⟩:=h.some hp hd
  exact ⟨_,List.mem_map_of_mem hl,h.reach_nb (((hp.part l (zap.mp hl).1).reach (hh l hl) _).mp hv) (zl7 h hp hl (hh l hl)) hd⟩
 ·rw [List.pairwise_map]
  have nd:(big ps).Nodup:=hp.nod.filter _
  refine List.Pairwise.imp_of_mem ?_ (List.nodup_iff_pairwise_ne.mp nd)
  intro l m hl hm ne k
  have k:Reach es (l.headD 0) (m.headD 0):=zmp k
  have pl:=hp.part l (zap.mp hl).1
  exact ne (pl.eq (hp.part m (zap.mp hm).1) ((pl.reach (hh l hl) _).mpr k) (hh m hm))
noncomputable def bhd (w:Int→List Int) (d:Dt):Dt:=trn w (rev d)
theorem Whl.binj (h:Whl n es w):Inj (bhd w) (dts es):=by
 have:=zf9 (P:=es) h.inj fun e he=>he
 have e:∀ d∈dts es,phi (trn w) es d=bhd w d:=fun d hd=>zgf hd
 exact ⟨fun u hu=>by rw [← e u hu]; exact this.inn u hu,fun u hu v hv k=>this.one u hu v hv (by rw [e u hu,e v hv]; exact k)⟩
theorem genus (h:Whl n es w) (nd:es.Nodup) (hp:Parts es n ps) {fs:List (List Dt)} (hf:Fcs (bhd w) (dts es) fs):fs.length+(big ps).flatten.length≤es.length+2 * (big ps).length:=by
 have e:Fs (phi (trn w) es) (dts es)=Fs (bhd w) (dts es):=by
  funext x y
  unfold Fs
  apply propext
  constructor
  ·rintro ⟨a,b⟩; exact ⟨a,by rw [b]; exact zgf a⟩
  ·rintro ⟨a,b⟩; exact ⟨a,by rw [b]; exact (zgf a).symm⟩
 have hM:=hf.reps h.binj
 rw [← e] at hM
 have:=euler h.inj (fun d hd=>(h.ein d hd).2.1) nd (zpv h hp) (zrp h hp) hM
 rw [List.length_map,List.length_map,List.length_map] at this
 exact this
theorem zmv:∀ {ls:List (List Int)} {v:Int},ls.flatten.Nodup→(∃ l∈ls,v∈l)→(ls.map fun l=>if v∈l then 1 else 0).sum=1
 | [],v,_,h=>by obtain ⟨_,h,_⟩:=h; cases h
 | l::ls,v,nd,h=>by
  rw [List.flatten_cons,List.nodup_append] at nd
  rw [List.map_cons,List.sum_cons]
  by_cases hv:v∈l
  ·have z:(ls.map fun l=>if v∈l then 1 else 0).sum=0:=by
    have:∀ (ms:List (List Int)),(∀ m∈ms,v∉m)→(ms.map fun l=>if v∈l then 1 else 0).sum=0:=fun ms=>by
     induction ms with
     | nil=>intro _; rfl
     | cons m ms ih =>
      intro hm
      rw [List.map_cons,List.sum_cons,if_neg (hm m List.mem_cons_self),ih fun x hx=>hm x (List.mem_cons_of_mem _ hx)]
    exact this ls fun m hm k=>nd.2.2 v hv v (List.mem_flatten.mpr ⟨m,hm,k⟩) rfl
   rw [if_pos hv,z]
  ·rw [if_neg hv,zmv nd.2.1,Nat.zero_add]
   obtain ⟨m,hm,k⟩:=h
   rcases List.mem_cons.mp hm with rfl | hm
   ·exact absurd k hv
   ·exact ⟨m,hm,k⟩
theorem zct {α:Type} {ls:List (List Int)} (nd:ls.flatten.Nodup) (key:α→Int):∀ {xs:List α},(∀ x∈xs,∃ l∈ls,key x∈l)→(ls.map fun l=>(xs.filter fun x=>decide (key x∈l)).length).sum=xs.length
 | [],_=>by
  have:∀ ls:List (List Int),(ls.map fun l=>(([]:List α).filter fun x=>decide (key x∈l)).length).sum=0:=fun ls=>by
   induction ls with
   | nil=>rfl
   | cons l ls ih=>rw [List.map_cons,List.sum_cons,ih]; rfl
  exact this ls
 | x::xs,h=>by
  have ih:=zct nd key (xs:=xs) fun y hy=>h y (List.mem_cons_of_mem _ hy)
  have o:=zmv nd (h x List.mem_cons_self)
  have add:∀ ls:List (List Int),(ls.map fun l=>((x::xs).filter fun x=>decide (key x∈l)).length).sum=(ls.map fun l=>if key x∈l then 1 else 0).sum+(ls.map fun l=>(xs.filter fun x=>decide (key x∈l)).length).sum:=fun ls=>by
   induction ls with
   | nil=>rfl
   | cons l ls ih =>
    simp only [List.map_cons,List.sum_cons]
    rw [ih,List.filter_cons]
    by_cases k:key x∈l
    ·rw [if_pos (decide_eq_true k),if_pos k,List.length_cons]; lia
    ·rw [if_neg (by rw [decide_eq_true_eq]; exact k),if_neg k]; lia
  rw [add,o,ih,List.length_cons]
  lia
end
end EU
namespace K08
open PY
noncomputable def f0:Fn:=⟨2,4,.cons (.asg (.one 2) (.comp (.var 0) (.many [0,1]) (.seq (.ix (.var 0) (.con (.int 1)))) (.so (.cmp (.eq) (.var 1) (.var 2))) 2 [1]))
 (.cons (.asg (.one 3) (.comp (.var 1) (.many [0,1]) (.seq (.ix (.var 0) (.con (.int 1)))) (.so (.cmp (.eq) (.var 0) (.var 2))) 2 [1]))
 (.cons (.ret (.bin (.add) (.var 2) (.var 3))) (.nil)))⟩
noncomputable def f1:Fn:=⟨1,1,.cons (.ret (.comp (.call 0 (.cons (.var 1) (.cons (.var 0) (.nil)))) (.one 0) (.rng1 (.ix (.var 0) (.con (.int 0)))) (.no) 1 [0])) (.nil)⟩
noncomputable def f2:Fn:=⟨3,7,.cons (.asg (.one 3) (.dic1 (.var 0) (.con (.bl true))))
 (.cons (.asg (.one 4) (.lst (.cons (.var 0) (.nil)))) (.cons (.while (.var 4) (.cons (.pop (.one 5) 4 (.con (.int (-1))))
 (.cons (.loop (.one 6) (.seq (.ix (.var 2) (.var 5)))
 (.cons (.cond (.and (.cmp (.isin) (.var 6) (.var 1)) (.cmp (.notin) (.var 6) (.var 3))) (.cons (.dput 3 (.var 6) (.con (.bl true))) (.cons (.app 4 (.var 6)) (.nil))) (.nil)) (.nil))) (.nil))))
 (.cons (.ret (.bi (.tuple) (.bi (.sorted) (.var 3)))) (.nil))))⟩
noncomputable def f3:Fn:=⟨2,4,.cons (.asg (.one 2) (.lst (.nil))) (.cons (.frz [0] (.loop (.one 3) (.seq (.var 0))
 (.cons (.cond (.not (.bi (.any) (.comp (.cmp (.isin) (.var 1) (.var 0)) (.one 0) (.seq (.var 2)) (.no) 1 [3]))) (.cons (.app 2 (.call 2 (.cons (.var 3) (.cons (.var 0) (.cons (.var 1) (.nil)))))) (.nil)) (.nil)) (.nil))))
 (.cons (.ret (.var 2)) (.nil)))⟩
noncomputable def f4:Fn:=⟨1,1,.cons (.ret (.bi (.tuple) (.call 3 (.cons (.lrng (.rng1 (.ix (.var 0) (.con (.int 0))))) (.cons (.call 1 (.cons (.var 0) (.nil))) (.nil)))))) (.nil)⟩
noncomputable def f5:Fn:=⟨2,4,.cons (.asg (.one 2) (.ix (.var 1) (.ix (.var 0) (.con (.int 1)))))
 (.cons (.asg (.one 3) (.bin (.add) (.ixof (.var 2) (.ix (.var 0) (.con (.int 0)))) (.con (.int 1))))
 (.cons (.ret (.tup (.cons (.ix (.var 0) (.con (.int 1))) (.cons (.ix (.var 2) (.bin (.mod) (.var 3) (.bi (.len) (.var 2)))) (.nil))))) (.nil)))⟩
noncomputable def f6:Fn:=⟨2,4,.cons (.asg (.one 2) (.lst (.cons (.var 0) (.nil))))
 (.cons (.asg (.one 3) (.call 5 (.cons (.var 0) (.cons (.var 1) (.nil))))) (.cons (.while (.cmp (.ne) (.var 3) (.var 0)) (.cons (.app 2 (.var 3))
 (.cons (.asg (.one 3) (.call 5 (.cons (.var 3) (.cons (.var 1) (.nil))))) (.nil))))
 (.cons (.ret (.bi (.tuple) (.var 2))) (.nil))))⟩
noncomputable def f7:Fn:=⟨2,7,.cons (.asg (.one 2) (.lst (.nil)))
 (.cons (.asg (.one 3) (.dic0))
 (.cons (.loop (.one 4) (.seq (.ix (.var 0) (.con (.int 1))))
 (.cons (.cond (.cmp (.notin) (.var 4) (.var 3))
 (.cons (.asg (.one 5) (.call 6 (.cons (.var 4) (.cons (.var 1) (.nil))))) (.cons (.app 2 (.var 5)) (.cons (.frz [5] (.loop (.one 6) (.seq (.var 5)) (.cons (.dput 3 (.var 6) (.con (.bl true))) (.nil)))) (.nil)))) (.nil)) (.nil)))
 (.cons (.ret (.bi (.tuple) (.var 2))) (.nil))))⟩
noncomputable def f8:Fn:=⟨2,3,.cons (.asg (.one 2) (.comp (.bi (.len) (.var 0)) (.one 0) (.seq (.call 4 (.cons (.var 0) (.nil)))) (.so (.cmp (.gt) (.bi (.len) (.var 0)) (.con (.int 1)))) 1 []))
 (.cons (.ret (.bin (.fdiv) (.bin (.sub) (.bin (.sub) (.bin (.add) (.bi (.len) (.ix (.var 0) (.con (.int 1)))) (.bin (.mul) (.con (.int 2)) (.bi (.len) (.var 2)))) (.bi (.sum) (.var 2))) (.bi (.len) (.call 7 (.cons (.var 0) (.cons (.var 1) (.nil)))))) (.con (.int 2)))) (.nil))⟩
noncomputable def f9:Fn:=⟨2,2,.cons (.cond (.cmp (.lt) (.var 1) (.bi (.len) (.var 0)))
 (.cons (.ret (.ix (.var 0) (.var 1))) (.nil)) (.nil))
 (.cons (.ret (.con (.int 0))) (.nil))⟩
noncomputable def f10:Fn:=⟨3,3,.cons (.ret (.bin (.mod) (.bin (.mod) (.bin (.mul) (.var 0) (.con (.int 48271))) (.var 1)) (.var 2))) (.nil)⟩
noncomputable def f11:Fn:=⟨1,1,.cons (.ret (.and (.isi (.var 0) (.int)) (.not (.isi (.var 0) (.bool))))) (.nil)⟩
noncomputable def f12:Fn:=⟨1,3,.cons (.asg (.one 1) (.lst (.nil)))
 (.cons (.loop (.one 2) (.rng1 (.var 0))
 (.cons (.asg (.one 1) (.bin (.add) (.var 1) (.comp (.tup (.cons (.var 1) (.cons (.var 0) (.nil)))) (.one 0) (.rng2 (.bin (.add) (.var 2) (.con (.int 1))) (.var 0)) (.no) 1 [2]))) (.nil)))
 (.cons (.ret (.var 1)) (.nil)))⟩
noncomputable def f13:Fn:=⟨2,9,.cons (.asg (.one 2) (.con (.int 7)))
 (.cons (.cond (.or (.cmp (.gt) (.bi (.len) (.var 0)) (.con (.int 63))) (.cmp (.eq) (.call 10 (.cons (.call 9 (.cons (.var 0) (.cons (.con (.int 3)) (.nil)))) (.cons (.con (.int 9479)) (.cons (.con (.int 7)) (.nil))))) (.con (.int 3))))
 (.cons (.asg (.one 2) (.con (.int 9))) (.nil)) (.nil))
 (.cons (.asg (.one 3) (.bin (.add) (.con (.int 1)) (.bin (.mod) (.call 9 (.cons (.var 0) (.cons (.var 1) (.nil)))) (.var 2))))
 (.cons (.asg (.one 4) (.bin (.add) (.con (.int 2)) (.bin (.mod) (.call 9 (.cons (.var 0) (.cons (.bin (.add) (.var 1) (.con (.int 1))) (.nil)))) (.con (.int 3)))))
 (.cons (.asg (.one 5) (.lst (.nil)))
 (.cons (.loop (.many [6,7]) (.enum (.call 12 (.cons (.var 3) (.nil))))
 (.cons (.asg (.one 8) (.bin (.add) (.call 9 (.cons (.var 0) (.cons (.bin (.add) (.bin (.add) (.var 1) (.con (.int 2))) (.bin (.mod) (.var 6) (.con (.int 20)))) (.nil)))) (.bin (.mul) (.con (.int 31)) (.var 6))))
 (.cons (.cond (.and (.cmp (.lt) (.call 10 (.cons (.var 8) (.cons (.con (.int 9973)) (.cons (.bin (.add) (.var 4) (.con (.int 1))) (.nil))))) (.con (.int 2))) (.cmp (.lt) (.bi (.len) (.var 5)) (.con (.int 17)))) (.cons (.app 5 (.var 7)) (.nil)) (.nil)) (.nil))))
 (.cons (.ret (.tup (.cons (.var 3) (.cons (.bi (.tuple) (.var 5)) (.nil))))) (.nil)))))))⟩
noncomputable def f14:Fn:=⟨2,3,.cons (.asg (.one 2) (.bin (.add) (.comp (.var 0) (.many [0,1]) (.seq (.ix (.var 0) (.con (.int 1)))) (.so (.cmp (.eq) (.var 1) (.var 2))) 2 [1]) (.comp (.var 1) (.many [0,1]) (.seq (.ix (.var 0) (.con (.int 1)))) (.so (.cmp (.eq) (.var 0) (.var 2))) 2 [1])))
 (.cons (.ret (.bi (.sorted) (.var 2))) (.nil))⟩
noncomputable def f15:Fn:=⟨0,0,.cons (.never) (.nil)⟩
noncomputable def f16:Fn:=⟨3,8,.cons (.asg (.one 3) (.lst (.nil)))
 (.cons (.loop (.one 4) (.rng1 (.ix (.var 2) (.con (.int 0))))
 (.cons (.asg (.one 5) (.lst (.nil)))
 (.cons (.loop (.many [6,7]) (.enum (.call 14 (.cons (.var 2) (.cons (.var 4) (.nil))))) (.cons (.ins 5 (.call 10 (.cons (.bin (.add) (.bin (.add) (.call 9 (.cons (.var 0) (.cons (.var 1) (.nil)))) (.bin (.mul) (.con (.int 17)) (.var 4))) (.bin (.mul) (.con (.int 5)) (.var 6))) (.cons (.con (.int 9931)) (.cons (.bin (.add) (.bi (.len) (.var 5)) (.con (.int 1))) (.nil))))) (.var 7)) (.nil)))
 (.cons (.asg (.one 6) (.con (.int 0)))
 (.cons (.cond (.var 5)
 (.cons (.asg (.one 6) (.ixof (.var 5) (.bi (.min1) (.var 5)))) (.nil)) (.nil)) (.cons (.app 3 (.bi (.tuple) (.bin (.add) (.sl (.var 5) (.so (.var 6)) (.no)) (.sl (.var 5) (.no) (.so (.var 6)))))) (.nil)))))))
 (.cons (.ret (.bi (.tuple) (.var 3))) (.nil)))⟩
noncomputable def f17:Fn:=⟨2,3,.cons (.asg (.one 2) (.ix (.var 0) (.ix (.var 1) (.con (.int 1)))))
 (.cons (.ret (.tup (.cons (.ix (.var 1) (.con (.int 1))) (.cons (.ix (.var 2) (.bin (.mod) (.bin (.add) (.ixof (.var 2) (.ix (.var 1) (.con (.int 0)))) (.con (.int 1))) (.bi (.len) (.var 2)))) (.nil))))) (.nil))⟩
noncomputable def f18:Fn:=⟨2,5,.cons (.asg (.one 2) (.lst (.nil)))
 (.cons (.asg (.one 3) (.bi (.sorted) (.bin (.add) (.bi (.list) (.ix (.var 0) (.con (.int 1)))) (.comp (.tup (.cons (.var 1) (.cons (.var 0) (.nil)))) (.many [0,1]) (.seq (.ix (.var 0) (.con (.int 1)))) (.no) 2 [])))) (.cons (.while (.var 3)
 (.cons (.asg (.one 4) (.lst (.cons (.ix (.var 3) (.con (.int 0))) (.nil)))) (.cons (.while (.cmp (.ne) (.call 17 (.cons (.var 1) (.cons (.ix (.var 4) (.neg (.con (.int 1)))) (.nil)))) (.ix (.var 4) (.con (.int 0)))) (.cons (.app 4 (.call 17 (.cons (.var 1) (.cons (.ix (.var 4) (.neg (.con (.int 1)))) (.nil))))) (.nil))) (.cons (.app 2 (.bi (.tuple) (.var 4)))
 (.cons (.asg (.one 3) (.comp (.var 0) (.one 0) (.seq (.var 3)) (.so (.cmp (.notin) (.var 0) (.var 1))) 1 [4])) (.nil))))))
 (.cons (.ret (.var 2)) (.nil))))⟩
noncomputable def f19:Fn:=⟨2,7,.cons (.asg (.one 2) (.comp (.lst (.cons (.var 0) (.nil))) (.one 0) (.rng1 (.var 0)) (.no) 1 [])) (.cons (.frz [1] (.loop (.many [3,4]) (.seq (.var 1))
 (.cons (.asg (.one 5) (.ix (.comp (.var 0) (.one 0) (.seq (.var 2)) (.so (.cmp (.isin) (.var 1) (.var 0))) 1 [3]) (.con (.int 0))))
 (.cons (.asg (.one 6) (.ix (.comp (.var 0) (.one 0) (.seq (.var 2)) (.so (.cmp (.isin) (.var 1) (.var 0))) 1 [4]) (.con (.int 0))))
 (.cons (.cond (.cmp (.ne) (.var 5) (.var 6))
 (.cons (.asg (.one 2) (.bin (.add) (.comp (.var 0) (.one 0) (.seq (.var 2)) (.so (.and (.cmp (.ne) (.var 0) (.var 1)) (.cmp (.ne) (.var 0) (.var 2)))) 1 [5,6]) (.lst (.cons (.bi (.sorted) (.bin (.add) (.var 5) (.var 6))) (.nil))))) (.nil)) (.nil)) (.nil))))))
 (.cons (.ret (.bi (.sorted) (.var 2))) (.nil)))⟩
noncomputable def f20:Fn:=⟨2,6,.cons (.asg (.one 2) (.call 18 (.cons (.var 0) (.cons (.var 1) (.nil)))))
 (.cons (.asg (.one 3) (.con (.int 0)))
 (.cons (.loop (.one 4) (.seq (.call 19 (.cons (.ix (.var 0) (.con (.int 0))) (.cons (.ix (.var 0) (.con (.int 1))) (.nil)))))
 (.cons (.asg (.one 5) (.comp (.var 0) (.one 0) (.seq (.ix (.var 0) (.con (.int 1)))) (.so (.cmp (.isin) (.ix (.var 0) (.con (.int 0))) (.var 1))) 1 [4]))
 (.cons (.cond (.var 5)
 (.cons (.asg (.one 3) (.bin (.sub) (.bin (.sub) (.bin (.add) (.bin (.add) (.var 3) (.bi (.len) (.var 5))) (.con (.int 2))) (.bi (.len) (.var 4))) (.bi (.len) (.comp (.var 0) (.one 0) (.seq (.var 2)) (.so (.cmp (.isin) (.ix (.ix (.var 0) (.con (.int 0))) (.con (.int 0))) (.var 1))) 1 [4])))) (.nil)) (.nil)) (.nil))))
 (.cons (.ret (.bin (.fdiv) (.var 3) (.con (.int 2)))) (.nil))))⟩
noncomputable def f21:Fn:=⟨1,7,.cons (.asg (.one 1) (.call 13 (.cons (.var 0) (.cons (.con (.int 0)) (.nil)))))
 (.cons (.asg (.one 2) (.call 16 (.cons (.var 0) (.cons (.con (.int 3)) (.cons (.var 1) (.nil))))))
 (.cons (.asg (.one 3) (.call 7 (.cons (.var 1) (.cons (.var 2) (.nil)))))
 (.cons (.cond (.or (.not (.isi (.var 3) (.tuple))) (.cmp (.ne) (.bi (.list) (.var 3)) (.call 18 (.cons (.var 1) (.cons (.var 2) (.nil))))))
 (.cons (.ret (.con (.bl false))) (.nil)) (.nil))
 (.cons (.asg (.one 4) (.lst (.nil))) (.cons (.frz [3] (.loop (.one 5) (.seq (.var 3))
 (.cons (.cond (.or (.not (.isi (.var 5) (.tuple))) (.cmp (.ne) (.ix (.var 5) (.con (.int 0))) (.bi (.min1) (.var 5))))
 (.cons (.ret (.con (.bl false))) (.nil)) (.nil))
 (.cons (.asg (.one 4) (.bin (.add) (.var 4) (.bi (.list) (.var 5)))) (.nil)))))
 (.cons (.cond (.or (.cmp (.ne) (.bi (.len) (.var 4)) (.bin (.mul) (.con (.int 2)) (.bi (.len) (.ix (.var 1) (.con (.int 1)))))) (.cmp (.ne) (.bi (.lenset) (.var 4)) (.bi (.len) (.var 4))))
 (.cons (.ret (.con (.bl false))) (.nil)) (.nil))
 (.cons (.asg (.one 6) (.call 8 (.cons (.var 1) (.cons (.var 2) (.nil)))))
 (.cons (.ret (.and (.call 11 (.cons (.var 6) (.nil))) (.and (.cmp (.ge) (.var 6) (.con (.int 0))) (.cmp (.eq) (.var 6) (.call 20 (.cons (.var 1) (.cons (.var 2) (.nil)))))))) (.nil)))))))))⟩
noncomputable def fns:List Fn:=[f0,f1,f2,f3,f4,f5,f6,f7,f8,f9,f10,f11,f12,f13,f14,f15,f16,f17,f18,f19,f20,f21]
end K08
namespace K08
open PY K01 K02
section
variable {cl:Nat→List D→Option D} {W:Nat}
variable (h7:∀ (ns:List Int) (k:Nat),cl 9 [scr ns,.int k]=some (.int (ns.getD k 0))) (h8:∀ a p m:Int,0 < p→0 < m→cl 10 [.int a,.int p,.int m]=some (.int (mix a p m)))
 (h11:∀ n es p,es.length≤17→cl 14 [netD n es,.int p]=some (.lst (intL (sortI (near es p)))))
include h7 h8 h11
theorem m16 (ns:List Int) (k n:Nat) (es:List (Int×Int)) (hn:n≤9) (hs:es.Sublist (pairsM n)) (hl:es.length≤17) :
  ∃ L:List (List Int),L.length=n∧(∀ i l,L[i]? = some l→Row es (i:Nat) l)∧runF cl W K08.f16 [scr ns,.int k,netD n es]=some (.tup (rows L)):=by
 let inb:Ss:=.cons (.ins 5 (.call 10 (.cons (.bin .add (.bin .add (.call 9 (.cons (.var 0) (.cons (.var 1) .nil))) (.bin .mul (.con (.int 17)) (.var 4))) (.bin .mul (.con (.int 5)) (.var 6))) (.cons (.con (.int 9931)) (.cons (.bin .add (.bi .len (.var 5)) (.con (.int 1))) .nil)))) (.var 7)) .nil
 let outb:Ss:=.cons (.asg (.one 5) (.lst .nil)) (.cons (.loop (.many [6,7]) (.enum (.call 14 (.cons (.var 2) (.cons (.var 4) .nil)))) inb) (.cons (.asg (.one 6) (.con (.int 0))) (.cons (.cond (.var 5) (.cons (.asg (.one 6) (.ixof (.var 5) (.bi .min1 (.var 5)))) .nil) .nil)
  (.cons (.app 3 (.bi .tuple (.bin .add (.sl (.var 5) (.so (.var 6)) .no) (.sl (.var 5) .no (.so (.var 6)))))) .nil))))
 have inner:∀ (L:List (List Int)) (p:Nat) (s6 s7:Sl),p < n→∃ row t6 t7,row.Perm (near es (p:Nat)) ∧
   ex cl W (.loop (.many [6,7]) (.enum (.call 14 (.cons (.var 2) (.cons (.var 4) .nil)))) inb) [.val (scr ns),.val (.int k),.val (netD n es),.own (rows L),.val (.int (p:Int)),.own [],s6,s7]=some (.nx [.val (scr ns),.val (.int k),.val (netD n es),.own (rows L),.val (.int (p:Int)),.own (intL row),t6,t7]):=by
  intro L p s6 s7 hp
  have hnear:=zgd hn hs hp
  obtain ⟨ρ',e,row,t6,t7,rfl,hperm⟩:=zav (cl:=cl) (W:=W) (t:=.many [6,7]) (it:=.enum (.call 14 (.cons (.var 2) (.cons (.var 4) .nil)))) (b:=inb)
   (ρ:=[.val (scr ns),.val (.int k),.val (netD n es),.own (rows L),.val (.int (p:Int)),.own [],s6,s7])
   (zg2 (x:=.lst (intL (near es (p:Nat)))) (zk (zc rfl (zc rfl zi)) (by rw [h11 n es _ hl,zk1 hnear])) rfl)
   (fun i ρ=>∃ row s6 s7,ρ=[.val (scr ns),.val (.int k),.val (netD n es),.own (rows L),.val (.int (p:Int)),.own (intL row),s6,s7]∧row.Perm ((near es (p:Nat)).take i))
   ⟨[],_,_,rfl,by simp⟩ (by
    rintro i d ρ hi ⟨row,s6,s7,rfl,hperm⟩
    obtain ⟨x,hx,rfl⟩:=zcg hi
    rw [List.getElem?_map] at hx
    obtain ⟨v,hv,rfl⟩:∃ v,(near es (p:Nat))[i]? = some v∧D.int v=x:=by
     cases q:(near es (p:Nat))[i]? with
     | none=>rw [q] at hx; cases hx
     | some p=>rw [q] at hx; exact ⟨p,rfl,Option.some.inj hx⟩
    have hlen:row.length≤40:=by
     have:=hperm.length_eq
     have:=zbf es (p:Nat)
     rw [List.length_take] at *
     lia
    let m:=mix (ns.getD k 0+17 * (p:Int)+5 * ((0+i:Nat):Int)) 9931 ((row.length:Int)+1)
    have hm0:0≤m:=Int.emod_nonneg _ (by lia)
    have hm1:m < (row.length:Int)+1:=Int.emod_lt_of_pos _ (by lia)
    refine ⟨[.val (scr ns),.val (.int k),.val (netD n es),.own (rows L),.val (.int (p:Int)),.own (intL row),.val (.int ((0+i:Nat):Int)),.val (.int v)],
     [.val (scr ns),.val (.int k),.val (netD n es),.own (rows L),.val (.int (p:Int)),.own (intL (putAt row m v)),.val (.int ((0+i:Nat):Int)),.val (.int v)],rfl,?_,putAt row m v,_,_,rfl,?_⟩
    ·refine zd ?_
     have he:ev cl (.call 10 (.cons (.bin .add (.bin .add (.call 9 (.cons (.var 0) (.cons (.var 1) .nil))) (.bin .mul (.con (.int 17)) (.var 4))) (.bin .mul (.con (.int 5)) (.var 6))) (.cons (.con (.int 9931)) (.cons (.bin .add (.bi .len (.var 5)) (.con (.int 1))) .nil))))
       [.val (scr ns),.val (.int k),.val (netD n es),.own (rows L),.val (.int (p:Int)),.own (intL row),.val (.int ((0+i:Nat):Int)),.val (.int v)]=some (.int m,.solid):=by
      refine zk (zc (zl (f:=.solid) (g:=.solid) (zl (f:=.solid) (g:=.solid) (zk (zc rfl (zc rfl zi)) (h7 ns k)) (zl (f:=.solid) (g:=.solid) rfl rfl (zkv 17 _ (by decide))) rfl) (zl (f:=.solid) (g:=.solid) rfl rfl (zkv 5 _ (by decide))) rfl) (zc rfl (zc (x:=.int ((row.length:Int)+1)) ?_ zi))) (h8 _ 9931 _ (by decide) (by lia))
      refine zl (f:=.solid) (g:=.solid) (x:=.int (row.length:Int)) (zaa (f:=.peek) (x:=.lst (intL row)) rfl ?_) rfl rfl
      show some (D.int ((intL row).length:Int),Fl.solid)=_
      rw [List.length_map]
     simp only [ex,he,Option.bind_some,int?]
     show (if (intL row).length < big∧small m=true then some (Out.nx [_,_,_,_,_,Sl.own (putAt (intL row) m (.int v)),_,_]) else none)=_
     rw [if_pos ⟨by rw [List.length_map]; unfold big; lia,by unfold small; rw [decide_eq_true (by lia),decide_eq_true (by lia)]; rfl⟩,zlb]
    ·refine (zlr row m v).trans ?_
     rw [List.take_succ,hv]
     exact hperm.append_right _)
  refine ⟨row,t6,t7,?_,e⟩
  rw [zb5,List.length_map,List.take_length] at hperm
  exact hperm
 have hrun:∃ ρ',ex cl W (.loop (.one 4) (.rng1 (.ix (.var 2) (.con (.int 0)))) outb) [.val (scr ns),.val (.int k),.val (netD n es),.own [],.no,.no,.no,.no]=some (.nx ρ') ∧
   ∃ L s4 s5 s6 s7,ρ'=[.val (scr ns),.val (.int k),.val (netD n es),.own (rows L),s4,s5,s6,s7]∧L.length=n∧∀ i l,L[i]? = some l→Row es (i:Nat) l:=by
  obtain ⟨ρ',e,L,s4,s5,s6,s7,h1,h2,h3⟩:=zav (cl:=cl) (W:=W) (t:=.one 4) (it:=.rng1 (.ix (.var 2) (.con (.int 0)))) (b:=outb)
   (ρ:=[.val (scr ns),.val (.int k),.val (netD n es),.own [],.no,.no,.no,.no]) (ds:=rangeD 0 n)
   (by
    rw [evi,zc2 (f:=.solid) (g:=.solid) (x:=netD n es) (y:=.int 0) (r:=(.int n,.solid)) rfl rfl rfl,Option.bind_some]
    simp only [range1,zan (show n≤1000 by lia),if_true,Option.map_some,Int.toNat_natCast])
   (fun i ρ=>∃ L s4 s5 s6 s7,ρ=[.val (scr ns),.val (.int k),.val (netD n es),.own (rows L),s4,s5,s6,s7]∧L.length=i∧∀ i l,L[i]? = some l→Row es (i:Nat) l)
   ⟨[],_,_,_,_,rfl,rfl,by simp⟩ (by
    rintro p d ρ hi ⟨L,s4,s5,s6,s7,rfl,hL,hR⟩
    obtain ⟨hp,rfl⟩:=zbu hi
    rw [Int.zero_add]
    obtain ⟨row,t6,t7,hperm,hin⟩:=inner L p s6 s7 hp
    have hnear:=zgd hn hs hp
    have hrl:row.length≤40:=by
     have:=hperm.length_eq
     have:=zbf es (p:Nat)
     lia
    obtain ⟨j,hj,hrow,hst⟩:∃ j:Nat,j≤row.length∧Row es (p:Nat) (row.drop j++row.take j) ∧
      ∀ r,exs cl W (.cons (.asg (.one 6) (.con (.int 0))) (.cons (.cond (.var 5) (.cons (.asg (.one 6) (.ixof (.var 5) (.bi .min1 (.var 5)))) .nil) .nil) r)) [.val (scr ns),.val (.int k),.val (netD n es),.own (rows L),.val (.int (p:Int)),.own (intL row),t6,t7]
       = exs cl W r [.val (scr ns),.val (.int k),.val (netD n es),.own (rows L),.val (.int (p:Int)),.own (intL row),.val (.int (j:Int)),t7]:=by
     cases row with
     | nil =>
      refine ⟨0,by simp,⟨by simpa using hperm,?_⟩,fun r=>?_⟩
      ·have:=hperm.length_eq
       rw [List.length_eq_zero_iff.mp this.symm]; rfl
      ·rw [zd (zm (d:=.int 0) (ρ':=[.val (scr ns),.val (.int k),.val (netD n es),.own (rows L),.val (.int (p:Int)),.own [],.val (.int 0),t7]) rfl rfl)]
       rw [zd (za1 rfl)]
       rfl
     | cons x rr =>
      obtain ⟨j,hj,hget,hw⟩:=zh0 (x::rr) (minI (x::rr)) (ze6 x rr).1 (by lia)
      refine ⟨j,by lia,⟨(zkb _ j).trans hperm,?_⟩,fun r=>?_⟩
      ·rw [zlx hnear hperm]
       have:(x::rr).drop j=minI (x::rr)::(x::rr).drop (j+1):=by
        rw [List.drop_eq_getElem_cons hj]
        rw [List.getElem?_eq_getElem hj] at hget
        rw [Option.some.inj hget]
       rw [this]; rfl
      ·rw [zd (zm (d:=.int 0) (ρ':=[.val (scr ns),.val (.int k),.val (netD n es),.own (rows L),.val (.int (p:Int)),.own (intL (x::rr)),.val (.int 0),t7]) rfl rfl)]
       rw [zd (ρ':=[.val (scr ns),.val (.int k),.val (netD n es),.own (rows L),.val (.int (p:Int)),.own (intL (x::rr)),.val (.int (j:Int)),t7]) ?_]
       rw [zdg (k:=true) rfl]
       refine zd (zm (d:=.int (j:Int)) ?_ rfl)
       rw [ev,show ev cl (.var 5) [.val (scr ns),.val (.int k),.val (netD n es),.own (rows L),.val (.int (p:Int)),.own (intL (x::rr)),.val (.int 0),t7]=some (.lst (intL (x::rr)),.peek) from rfl,Option.bind_some,
        zaa (f:=.peek) (x:=.lst (intL (x::rr))) (r:=(.int (minI (x::rr)),.solid)) rfl ?_,Option.bind_some,hw]
       show minO _=_
       unfold minO
       rw [zar,Option.bind_some]
    let R':Rho:=[.val (scr ns),.val (.int k),.val (netD n es),.own (rows L),.val (.int (p:Int)),.own (intL row),.val (.int (j:Int)),t7]
    have htail:exs cl W (.cons (.app 3 (.bi .tuple (.bin .add (.sl (.var 5) (.so (.var 6)) .no) (.sl (.var 5) .no (.so (.var 6)))))) .nil) R'
      = some (.nx [.val (scr ns),.val (.int k),.val (netD n es),.own (rows (L++[row.drop j++row.take j])),.val (.int (p:Int)),.own (intL row),.val (.int (j:Int)),t7]):=by
     refine zd ?_
     have he:ev cl (.bi .tuple (.bin .add (.sl (.var 5) (.so (.var 6)) .no) (.sl (.var 5) .no (.so (.var 6))))) R'=some (.tup (intL (row.drop j++row.take j)),.solid):=by
      refine zaa (f:=.fresh) (x:=.lst (intL (row.drop j++row.take j))) (zl (f:=.fresh) (g:=.fresh) (x:=.lst (intL (row.drop j))) (y:=.lst (intL (row.take j))) (zrj (f:=.peek) (x:=.lst (intL row)) (l:=some (j:Int)) (h:=none) rfl rfl rfl ?_) (zrj (f:=.peek) (x:=.lst (intL row)) (l:=none) (h:=some (j:Int)) rfl rfl rfl ?_) (zco _ _ (by rw [List.length_drop,List.length_take]; lia))) rfl
      ·show some (D.lst (cutL (intL row) (some (j:Int)) none),Fl.fresh)=_
       rw [zi5]
      ·show some (D.lst (cutL (intL row) none (some (j:Int))),Fl.fresh)=_
       rw [ziw]
     simp only [ex,he,Option.bind_some,solid?]
     show (if (rows L).length < big then some (Out.nx [_,_,_,Sl.own (rows L++[.tup (intL (row.drop j++row.take j))]),_,_,_,_]) else none)=_
     rw [if_pos (by rw [List.length_map]; unfold big; lia)]
     show some (Out.nx [_,_,_,_,_,_,_,_])=some (Out.nx [_,_,_,Sl.own ((L++[row.drop j++row.take j]).map _),_,_,_,_])
     rw [List.map_append]
     rfl
    refine ⟨[.val (scr ns),.val (.int k),.val (netD n es),.own (rows L),.val (.int (p:Int)),s5,s6,s7],[.val (scr ns),.val (.int k),.val (netD n es),.own (rows (L++[row.drop j++row.take j])),.val (.int (p:Int)),.own (intL row),.val (.int (j:Int)),t7],rfl,?_,L++[row.drop j++row.take j],_,_,_,_,rfl,by rw [List.length_append,hL]; rfl,?_⟩
    ·show exs cl W outb _=_
     rw [zd (zt (r:=(.lst [],.fresh)) (ρ':=[.val (scr ns),.val (.int k),.val (netD n es),.own (rows L),.val (.int (p:Int)),.own [],s6,s7]) rfl rfl)]
     rw [zd hin,hst]
     exact htail
    ·intro i l hil
     rw [List.getElem?_append] at hil
     split at hil
     ·exact hR i l hil
     ·rename_i hge
      have:i=p:=by
       by_cases h:i - L.length=0
       ·lia
       ·obtain ⟨q,hq⟩:=Nat.exists_eq_succ_of_ne_zero h
        rw [hq] at hil
        simp at hil
      subst this
      rw [hL,Nat.sub_self] at hil
      simp at hil
      rw [← hil]
      exact hrow)
  refine ⟨ρ',e,L,s4,s5,s6,s7,h1,?_,h3⟩
  rw [h2]; simp [rangeD]
 obtain ⟨ρ',e,L,s4,s5,s6,s7,rfl,h2,h3⟩:=hrun
 refine ⟨L,h2,h3,zae ⟨rfl,by decide⟩ ?_⟩
 show exs cl W K08.f16.body [.val (scr ns),.val (.int k),.val (netD n es),.no,.no,.no,.no,.no]=_
 simp only [K08.f16]
 rw [zd (zt (r:=(.lst [],.fresh)) (ρ':=[.val (scr ns),.val (.int k),.val (netD n es),.own [],.no,.no,.no,.no]) rfl rfl)]
 rw [zd e]
 exact zw (zac (fl:=.solid) (zaa (f:=.peek) (x:=.lst (rows L)) rfl rfl))
end
end K08
namespace GG
section
variable {α:Type} [DecidableEq α]
theorem zd3:∀ {l m:List α},l.Nodup→(∀ x∈l,x∈m)→l.length≤m.length
 | [],_,_,_=>Nat.zero_le _
 | x::r,m,h,hs=>by
  rw [List.nodup_cons] at h
  have:=zd3 (l:=r) (m:=m.erase x) h.2 fun y hy=>(List.mem_erase_of_ne (show y≠x from fun e=>h.1 (by rw [← e]; exact hy))).mpr (hs y (List.mem_cons_of_mem _ hy))
  have hx:=hs x List.mem_cons_self
  rw [List.length_erase_of_mem hx] at this
  have:=List.length_pos_of_mem hx
  rw [List.length_cons]; lia
theorem zh1 {l:List α} {a:α} (h:l.Nodup) (ha:a∉l):(l++[a]).Nodup:=by
 rw [List.nodup_append]
 refine ⟨h,by simp,fun x hx y hy=>?_⟩
 rw [List.mem_singleton] at hy
 subst hy
 exact fun e=>ha (e▸hx)
inductive Reach (nb:α→List α) (am:List α) (a:α):α→Prop
 | refl:Reach nb am a a
 | step {b d:α}:Reach nb am a b→d∈nb b→d∈am→Reach nb am a d
variable {nb:α→List α} {am:List α}
theorem Reach.trans {a b c:α} (h:Reach nb am a b) (h':Reach nb am b c):Reach nb am a c:=by
 induction h' with
 | refl=>exact h
 | step _ hc hd ih=>exact ih.step hc hd
theorem Reach.inv {a b:α} (P:α→Prop) (h:Reach nb am a b) (h0:P a) (hs:∀ x y,P x→y∈nb x→y∈am→P y):P b:=by
 induction h with
 | refl=>exact h0
 | step _ hc hd ih=>exact hs _ _ ih hc hd
theorem Reach.mem {a b:α} (h:Reach nb am a b) (ha:a∈am):b∈am:=h.inv (·∈am) ha fun _ _ _ _ h=>h
theorem Reach.symm (hsym:∀ x y,y∈nb x→x∈nb y) {a b:α} (h:Reach nb am a b) (ha:a∈am):Reach nb am b a:=by
 induction h with
 | refl=>exact .refl
 | step hb hc hd ih=>exact (Reach.refl.step (hsym _ _ hc) (hb.mem ha)).trans ih
noncomputable def addNew (am:List α):List α→List α→List α
 | _,[]=>[]
 | ms,q::r=>if q∈am∧q∉ms then q::addNew am (ms++[q]) r else addNew am ms r
theorem addNew_facts:∀ (l ms:List α),ms.Nodup→(ms++addNew am ms l).Nodup∧(∀ q∈l,q∈am→q∈ms++addNew am ms l)∧∀ q∈addNew am ms l,q∈l∧q∈am
 | [],ms,h=>by simp [addNew,h]
 | q::r,ms,h=>by
  unfold addNew
  by_cases hq:q∈am∧q∉ms
  ·rw [if_pos hq]
   obtain ⟨h1,h2,h3⟩:=addNew_facts r (ms++[q]) (zh1 h hq.2)
   rw [List.append_assoc,List.singleton_append] at h1
   refine ⟨h1,fun x hx ha=>?_,fun x hx=>?_⟩
   ·rcases List.mem_cons.mp hx with rfl | hx
    ·simp
    ·have:=h2 x hx ha
     simpa [List.append_assoc] using this
   ·rcases List.mem_cons.mp hx with rfl | hx
    ·exact ⟨List.mem_cons_self,hq.1⟩
    ·exact ⟨List.mem_cons_of_mem _ (h3 x hx).1,(h3 x hx).2⟩
  ·rw [if_neg hq]
   obtain ⟨h1,h2,h3⟩:=addNew_facts r ms h
   refine ⟨h1,fun x hx ha=>?_,fun x hx=>⟨List.mem_cons_of_mem _ (h3 x hx).1,(h3 x hx).2⟩⟩
   rcases List.mem_cons.mp hx with rfl | hx
   ·by_cases hm:x∈ms
    ·exact List.mem_append_left _ hm
    ·exact absurd ⟨ha,hm⟩ hq
   ·exact h2 x hx ha
theorem addNew_snoc:∀ (l ms:List α) (q:α),addNew am ms (l++[q])=addNew am ms l++(if q∈am∧q∉ms++addNew am ms l then [q] else [])
 | [],ms,q=>by simp only [List.nil_append,addNew,List.append_nil]
 | x::r,ms,q=>by
  rw [List.cons_append]
  unfold addNew
  by_cases hx:x∈am∧x∉ms
  ·rw [if_pos hx,if_pos hx,addNew_snoc r (ms++[x]) q,List.cons_append]
   simp only [List.append_assoc,List.singleton_append]
  ·rw [if_neg hx,if_neg hx]; exact addNew_snoc r ms q
structure Firsts (cls:α→List α) (am fs:List α):Prop where
 sub:fs.Sublist am
 all:∀ a∈am,∃ f∈fs,a∈cls f
 pw:fs.Pairwise fun f g=>g∉cls f
end
end GG
namespace NB
open PY K01
noncomputable def netF (ic im ip:Nat):Fn:=⟨2,9,(.cons (.asg (.one 2) (.con (.int (7))))
  (.cons (.cond (.or (.cmp .gt (.bi .len (.var 0)) (.con (.int (63)))) (.cmp .eq (.call im (.cons (.call ic (.cons (.var 0) (.cons (.con (.int (3))) .nil))) (.cons (.con (.int (9479))) (.cons (.con (.int (7))) .nil)))) (.con (.int (3))))) (.cons (.asg (.one 2) (.con (.int (9))))
  .nil) .nil)
  (.cons (.asg (.one 3) (.bin .add (.con (.int (1))) (.bin .mod (.call ic (.cons (.var 0) (.cons (.var 1) .nil))) (.var 2))))
  (.cons (.asg (.one 4) (.bin .add (.con (.int (2))) (.bin .mod (.call ic (.cons (.var 0) (.cons (.bin .add (.var 1) (.con (.int (1)))) .nil))) (.con (.int (3))))))
  (.cons (.asg (.one 5) (.lst .nil))
  (.cons (.loop (.many [6,7]) (.enum (.call ip (.cons (.var 3) .nil))) (.cons (.asg (.one 8) (.bin .add (.call ic (.cons (.var 0) (.cons (.bin .add (.bin .add (.var 1) (.con (.int (2)))) (.bin .mod (.var 6) (.con (.int (20))))) .nil))) (.bin .mul (.con (.int (31))) (.var 6))))
  (.cons (.cond (.and (.cmp .lt (.call im (.cons (.var 8) (.cons (.con (.int (9973))) (.cons (.bin .add (.var 4) (.con (.int (1)))) .nil)))) (.con (.int (2)))) (.cmp .lt (.bi .len (.var 5)) (.con (.int (17))))) (.cons (.app 5 (.var 7))
  .nil) .nil)
  .nil)))
  (.cons (.ret (.tup (.cons (.var 3) (.cons (.bi .tuple (.var 5)) .nil))))
  .nil)))))))⟩
section
variable {cl:Nat→List D→Option D} {W:Nat} {ic im ip:Nat}
theorem netM (h7:∀ (ns:List Int) (k:Nat),cl ic [scr ns,.int k]=some (.int (ns.getD k 0))) (h8:∀ a p m:Int,0 < p→0 < m→cl im [.int a,.int p,.int m]=some (.int (mix a p m)))
  (h9:∀ n:Nat,n≤30→cl ip [.int n]=some (.lst ((pairsM n).map pr))) (ns:List Int) (k:Nat) :
  ∃ (n:Nat) (es:List (Int×Int)),1≤n∧n≤9∧es.Sublist (pairsM n)∧es.length≤17∧runF cl W (netF ic im ip) [scr ns,.int k]=some (.tup [.int n,.tup (es.map pr)]):=by
 obtain ⟨most,hm1,hm2,hmost⟩:∃ most:Int,7≤most∧most≤9∧∀ r v,exs cl W r [.val (scr ns),.val (.int k),.val (.int most),.no,.no,.no,.no,.no,.no]=v →
   exs cl W (.cons (.asg (.one 2) (.con (.int 7))) (.cons (.cond (.or (.cmp .gt (.bi .len (.var 0)) (.con (.int 63))) (.cmp .eq (.call im (.cons (.call ic (.cons (.var 0) (.cons (.con (.int 3)) .nil))) (.cons (.con (.int 9479)) (.cons (.con (.int 7)) .nil)))) (.con (.int 3)))) (.cons (.asg (.one 2) (.con (.int 9))) .nil) .nil) r))
    [.val (scr ns),.val (.int k),.no,.no,.no,.no,.no,.no,.no]=v:=by
  have t:evT cl (.or (.cmp .gt (.bi .len (.var 0)) (.con (.int 63))) (.cmp .eq (.call im (.cons (.call ic (.cons (.var 0) (.cons (.con (.int 3)) .nil))) (.cons (.con (.int 9479)) (.cons (.con (.int 7)) .nil)))) (.con (.int 3))))
    [.val (scr ns),.val (.int k),.val (.int 7),.no,.no,.no,.no,.no,.no]=some (decide ((63:Int) < ((ns.map D.int).length:Nat))||D.eq (.int (mix (ns.getD 3 0) 9479 7)) (.int 3)) :=
   zhg (zo (f:=.solid) (g:=.solid) (zaa (f:=.solid) rfl rfl) rfl rfl)
    (zo (g:=.solid) (zk (zc (zk (zc rfl (zc rfl zi)) (h7 ns 3)) (zc rfl (zc rfl zi))) (h8 _ 9479 7 (by decide) (by decide))) rfl rfl)
  cases hb:decide ((63:Int) < ((ns.map D.int).length:Nat))||D.eq (.int (mix (ns.getD 3 0) 9479 7)) (.int 3) with
  | false =>
   refine ⟨7,by decide,by decide,fun r v h=>?_⟩
   rw [zd (zm (d:=.int 7) (ρ':=[.val (scr ns),.val (.int k),.val (.int 7),.no,.no,.no,.no,.no,.no]) rfl rfl),zd (za1 (by rw [t,hb]))]
   exact h
  | true =>
   refine ⟨9,by decide,by decide,fun r v h=>?_⟩
   rw [zd (zm (d:=.int 7) (ρ':=[.val (scr ns),.val (.int k),.val (.int 7),.no,.no,.no,.no,.no,.no]) rfl rfl),
    zd (ρ':=[.val (scr ns),.val (.int k),.val (.int 9),.no,.no,.no,.no,.no,.no]) (by rw [zdg t,hb]; exact zd (zm (d:=.int 9) rfl rfl))]
   exact h
 let c:=ns.getD k 0
 have hc0:0≤c % most:=Int.emod_nonneg _ (by lia)
 have hc1:c % most < most:=Int.emod_lt_of_pos _ (by lia)
 obtain ⟨n,hn⟩:∃ n:Nat,(n:Int)=1+c % most:=⟨(1+c % most).toNat,by lia⟩
 let sh:=2+ns.getD (k+1) 0 % 3
 have hs0:0≤ns.getD (k+1) 0 % 3:=Int.emod_nonneg _ (by decide)
 have key:∃ es:List (Int×Int),es.Sublist (pairsM n)∧es.length≤17∧runF cl W (netF ic im ip) [scr ns,.int k]=some (.tup [.int n,.tup (es.map pr)]):=by
  obtain ⟨ρ',e,es,s6,s7,s8,rfl,h1,h2⟩:=zav (cl:=cl) (W:=W) (t:=.many [6,7]) (it:=.enum (.call ip (.cons (.var 3) .nil)))
   (b:=.cons (.asg (.one 8) (.bin .add (.call ic (.cons (.var 0) (.cons (.bin .add (.bin .add (.var 1) (.con (.int 2))) (.bin .mod (.var 6) (.con (.int 20)))) .nil))) (.bin .mul (.con (.int 31)) (.var 6))))
    (.cons (.cond (.and (.cmp .lt (.call im (.cons (.var 8) (.cons (.con (.int 9973)) (.cons (.bin .add (.var 4) (.con (.int 1))) .nil)))) (.con (.int 2))) (.cmp .lt (.bi .len (.var 5)) (.con (.int 17)))) (.cons (.app 5 (.var 7)) .nil) .nil) .nil))
   (ρ:=[.val (scr ns),.val (.int k),.val (.int most),.val (.int n),.val (.int sh),.own [],.no,.no,.no])
   (zg2 (zk (zc (x:=.int n) rfl zi) (h9 n (by lia))) rfl)
   (fun i ρ=>∃ es s6 s7 s8,ρ=[.val (scr ns),.val (.int k),.val (.int most),.val (.int n),.val (.int sh),.own (es.map pr),s6,s7,s8]∧es.Sublist ((pairsM n).take i)∧es.length≤17)
   ⟨[],_,_,_,rfl,by simp,by simp⟩ (by
    rintro i d ρ hi ⟨es,s6,s7,s8,rfl,hsub,hlen⟩
    obtain ⟨x,hx,rfl⟩:=zcg hi
    rw [List.getElem?_map] at hx
    obtain ⟨p,hp,rfl⟩:∃ p,(pairsM n)[i]? = some p∧pr p=x:=by
     cases q:(pairsM n)[i]? with
     | none=>rw [q] at hx; cases hx
     | some p=>rw [q] at hx; exact ⟨p,rfl,Option.some.inj hx⟩
    rw [Nat.zero_add] at hi ⊢
    obtain ⟨j,hj⟩:∃ j:Nat,(j:Int)=(i:Int) % 20:=⟨i % 20,by lia⟩
    let cell:=ns.getD (k+2+j) 0+31 * (i:Int)
    let R:List (Int×Int)→Rho:=fun es=>[.val (scr ns),.val (.int k),.val (.int most),.val (.int n),.val (.int sh),.own (es.map pr),.val (.int i),.val (pr p),.val (.int cell)]
    have st:exs cl W (.cons (.cond (.and (.cmp .lt (.call im (.cons (.var 8) (.cons (.con (.int 9973)) (.cons (.bin .add (.var 4) (.con (.int 1))) .nil)))) (.con (.int 2))) (.cmp .lt (.bi .len (.var 5)) (.con (.int 17)))) (.cons (.app 5 (.var 7)) .nil) .nil) .nil) (R es)
      = some (.nx (R (if mix cell 9973 (sh+1) < 2∧es.length < 17 then es++[p] else es))):=by
     have t:evT cl (.and (.cmp .lt (.call im (.cons (.var 8) (.cons (.con (.int 9973)) (.cons (.bin .add (.var 4) (.con (.int 1))) .nil)))) (.con (.int 2))) (.cmp .lt (.bi .len (.var 5)) (.con (.int 17)))) (R es)
       = some (decide (mix cell 9973 (sh+1) < 2)&&decide (((es.map pr).length:Int) < 17)) :=
      zfy (zo (g:=.solid) (zk (zc (x:=.int cell) rfl (zc rfl (zc (x:=.int (sh+1)) rfl zi))) (h8 _ 9973 (sh+1) (by decide) (by show 0 < 2+ns.getD (k+1) 0 % 3+1; lia))) rfl rfl)
       (zo (f:=.solid) (g:=.solid) (zaa (f:=.peek) rfl rfl) rfl rfl)
     have e17:decide (((es.map pr).length:Int) < 17)=decide (es.length < 17):=by
      rw [List.length_map]
      by_cases h:es.length < 17
      ·rw [decide_eq_true h,decide_eq_true (by lia)]
      ·rw [decide_eq_false h,decide_eq_false (by lia)]
     rw [e17] at t
     by_cases hq:mix cell 9973 (sh+1) < 2∧es.length < 17
     ·rw [if_pos hq]
      rw [decide_eq_true hq.1,decide_eq_true hq.2] at t
      rw [zd (ρ':=R (es++[p])) ?_]
      ·rfl
      ·rw [zdg t]
       refine zd ?_
       simp only [ex]
       rw [show ev cl (.var 7) (R es)=some (pr p,.solid) from rfl,Option.bind_some,show solid? (pr p,Fl.solid)=some (pr p) from rfl,Option.bind_some]
       show (if (es.map pr).length < big then some (Out.nx ((R es).set 5 (.own (es.map pr++[pr p])))) else none)=_
       rw [if_pos (by rw [List.length_map]; unfold big; lia)]
       show some (Out.nx [_,_,_,_,_,Sl.own (es.map pr++[pr p]),_,_,_])=some (Out.nx [_,_,_,_,_,Sl.own ((es++[p]).map pr),_,_,_])
       rw [List.map_append]
       rfl
     ·rw [if_neg hq]
      have:(decide (mix cell 9973 (sh+1) < 2)&&decide (es.length < 17))=false:=by
       rw [Bool.and_eq_false_iff]
       by_cases h1:mix cell 9973 (sh+1) < 2
       ·exact .inr (decide_eq_false fun h2=>hq ⟨h1,h2⟩)
       ·exact .inl (decide_eq_false h1)
      rw [this] at t
      rw [zd (za1 t)]
      rfl
    refine ⟨[.val (scr ns),.val (.int k),.val (.int most),.val (.int n),.val (.int sh),.own (es.map pr),.val (.int i),.val (pr p),s8],R (if mix cell 9973 (sh+1) < 2∧es.length < 17 then es++[p] else es),rfl,?_,(if mix cell 9973 (sh+1) < 2∧es.length < 17 then es++[p] else es),_,_,_,rfl,?_,?_⟩
    ·have he:ev cl (.bin .add (.call ic (.cons (.var 0) (.cons (.bin .add (.bin .add (.var 1) (.con (.int 2))) (.bin .mod (.var 6) (.con (.int 20)))) .nil))) (.bin .mul (.con (.int 31)) (.var 6)))
       [.val (scr ns),.val (.int k),.val (.int most),.val (.int n),.val (.int sh),.own (es.map pr),.val (.int i),.val (pr p),s8]=some (.int cell,.solid):=by
      refine zl (f:=.solid) (g:=.solid) (x:=.int (ns.getD (k+2+j) 0)) (y:=.int (31 * (i:Int))) (zk (ds:=[scr ns,.int ((k+2+j:Nat):Int)]) (zc rfl (zc ?_ zi)) (h7 ns _)) (zl (f:=.solid) (g:=.solid) rfl rfl (zkv 31 (i:Int) (by decide))) rfl
      refine zl (f:=.solid) (g:=.solid) (x:=.int ((k:Int)+2)) (y:=.int ((i:Int) % 20)) rfl (zl (f:=.solid) (g:=.solid) rfl rfl (zft (i:Int) 20 (by decide))) ?_
      show some (D.int ((k:Int)+2+(i:Int) % 20),Fl.solid)=_
      rw [← hj]
      congr 3
     rw [zd (zm (ρ':=R es) he rfl)]
     exact st
    ·have hi':i < (pairsM n).length:=(List.getElem?_eq_some_iff.mp hp).1
     have ht:(pairsM n).take (i+1)=(pairsM n).take i++[p]:=by
      rw [List.take_succ,hp]; rfl
     rw [ht]
     split
     ·exact hsub.append (List.Sublist.refl _)
     ·exact hsub.trans (List.sublist_append_left _ _)
    ·split
     ·rename_i h; rw [List.length_append]; simp; lia
     ·exact hlen)
  have hlen0:(enumD 0 ((pairsM n).map pr)).length=(pairsM n).length:=by rw [zb5,List.length_map]
  rw [hlen0,List.take_length] at h1
  refine ⟨es,h1,h2,zae ⟨rfl,by show 2≤9; decide⟩ ?_⟩
  show exs cl W (netF ic im ip).body [.val (scr ns),.val (.int k),.no,.no,.no,.no,.no,.no,.no]=_
  simp only [netF]
  refine hmost _ _ ?_
  rw [zd (zm (d:=.int n) (ρ':=[.val (scr ns),.val (.int k),.val (.int most),.val (.int n),.no,.no,.no,.no,.no])
   (by rw [hn]; exact zl (f:=.solid) (g:=.solid) rfl (zl (f:=.solid) (g:=.solid) (zk (zc rfl (zc rfl zi)) (h7 ns k)) rfl (zft _ most (by lia))) rfl) rfl)]
  rw [zd (zm (d:=.int sh) (ρ':=[.val (scr ns),.val (.int k),.val (.int most),.val (.int n),.val (.int sh),.no,.no,.no,.no])
   (zl (f:=.solid) (g:=.solid) rfl (zl (f:=.solid) (g:=.solid) (zk (ds:=[scr ns,.int ((k+1:Nat):Int)]) (zc rfl (zc rfl zi)) (h7 ns (k+1))) rfl (zft _ 3 (by decide))) rfl) rfl)]
  rw [zd (zt (r:=(.lst [],.fresh)) (ρ':=[.val (scr ns),.val (.int k),.val (.int most),.val (.int n),.val (.int sh),.own [],.no,.no,.no]) rfl rfl)]
  rw [zd e]
  exact zw (zac (fl:=.solid) (zis (zc rfl (zc (zaa (f:=.peek) (x:=.lst (es.map pr)) rfl rfl) zi)) (by unfold big; simp)))
 obtain ⟨es,h1,h2,h3⟩:=key
 exact ⟨n,es,by lia,by lia,h1,h2,h3⟩
end
end NB
namespace PY
theorem zf7 {α β γ:Type} {f:β→Option (Option γ)} {φ:α→β}:∀ l:List α,filterMapO f (l.map φ)=filterMapO (fun a=>f (φ a)) l
 | []=>rfl
 | x::r=>by
  show (f (φ x)).bind _=(f (φ x)).bind _
  rw [zf7 r]
section
variable {cl:Nat→List D→Option D} {W:Nat} {ρ:Rho}
theorem zo8 {α:Type} {e:E} {t:Tg} {it:I} {n:Nat} {keep:List Nat} {l:List α} {φ:α→D} {b:Bool} (g:α→D) (hi:evi cl it ρ=some (l.map φ,b))
  (h:∀ a∈l,∃ ρ' r,give t (φ a) (inner ρ n keep)=some ρ'∧ev cl e ρ'=some r∧solid? r=some (g a)):ev cl (.comp e t it .no n keep) ρ=some (.lst (l.map g),.fresh):=by
 simp only [ev,hi,Option.bind_some]
 rw [zf7,zio (g:=g) fun x hx=>?_]
 ·rfl
 ·obtain ⟨ρ',r,h1,h2,h3⟩:=h x hx
  simp only [h1,Option.bind_some,evc,if_true,h2,h3,Option.map_some]
theorem zbd {α:Type} {e c:E} {t:Tg} {it:I} {n:Nat} {keep:List Nat} {l:List α} {φ:α→D} {b:Bool} (p:α→Bool) (g:α→D) (hi:evi cl it ρ=some (l.map φ,b))
  (h:∀ a∈l,∃ ρ',give t (φ a) (inner ρ n keep)=some ρ'∧evT cl c ρ'=some (p a)∧(p a=true→∃ r,ev cl e ρ'=some r∧solid? r=some (g a))) :
  ev cl (.comp e t it (.so c) n keep) ρ=some (.lst ((l.filter p).map g),.fresh):=by
 simp only [ev,hi,Option.bind_some]
 rw [zf7,zc9 (p:=p) (g:=g) fun x hx=>?_]
 ·rfl
 ·obtain ⟨ρ',h1,h2,h3⟩:=h x hx
  simp only [h1,Option.bind_some,evc,h2]
  cases e:p x with
  | false=>rfl
  | true =>
   obtain ⟨r,h4,h5⟩:=h3 e
   simp only [if_true,h4,Option.bind_some,h5,Option.map_some]
theorem evT_bi {o:Bi} {a:E} {x y:D} {f g:Fl} (ha:ev cl a ρ=some (x,f)) (h:bltin o x=some (y,g)):evT cl (.bi o a) ρ=tru y:=by
 rw [evT,ha,Option.bind_some,h]; rfl
theorem zgy {α:Type} {t:Tg} {it:I} {b:Ss} {l:List α} {φ:α→D} (h:evi cl it ρ=some (l.map φ,false)) (P:Nat→Rho→Prop) (h0:P 0 ρ)
  (st:∀ i a ρ,l[i]? = some a→l.take (i+1)=l.take i++[a]→P i ρ→∃ ρ1 ρ',give t (φ a) ρ=some ρ1∧exs cl W b ρ1=some (.nx ρ')∧P (i+1) ρ'):∃ ρ',ex cl W (.loop t it b) ρ=some (.nx ρ')∧P l.length ρ':=by
 obtain ⟨ρ',h1,h2⟩:=zav (W:=W) (b:=b) (t:=t) h P h0 fun i d ρ hi hp=>by
  rw [List.getElem?_map] at hi
  cases z:l[i]? with
  | none=>rw [z] at hi; cases hi
  | some a =>
   rw [z] at hi
   cases hi
   exact st i a ρ z (by rw [List.take_succ,z]; rfl) hp
 exact ⟨ρ',h1,by rw [List.length_map] at h2; exact h2⟩
end
end PY
namespace K08
open PY K01 K02 K20
theorem find_some (l:List (Int×Int)) (q:(Int×Int)):(l.findIdx? (· == q)).isSome=decide (q∈l):=by
 rw [List.findIdx?_isSome,Bool.eq_iff_iff,List.any_eq_true,decide_eq_true_eq]
 constructor
 ·rintro ⟨x,h,e⟩; exact beq_iff_eq.mp e▸h
 ·intro h; exact ⟨q,h,by simp⟩
theorem zkm {l:List (Int×Int)} {q:Int×Int} (h:q∉l):l.findIdx? (· == q)=none:=by
 have:=find_some l q
 rw [decide_eq_false h] at this
 cases e:l.findIdx? (· == q) with
 | none=>rfl
 | some j=>rw [e] at this; cases this
theorem zm1 (l:List (Int×Int)) (a:Int×Int):keyAt (pr a) (l.map pr)=some (l.findIdx? (· == a)):=by
 show ((tups? (l.map pr)).map fun nss=>nss.findIdx? (· == li a))=_
 rw [zdc,Option.map_some,List.findIdx?_map]
 congr 2
 funext x
 show (li x==li a)=(x==a)
 by_cases h:x=a
 ·subst h; simp
 ·rw [beq_eq_false_iff_ne.mpr h,beq_eq_false_iff_ne.mpr fun k=>h (zez k)]
theorem zol (l:List (Int×Int)) (vs:List D) (q:Int×Int) (d:D) (h:q∉l) (hl:l.length < 4000):dputO (l.map pr) vs (pr q) d=some ((l++[q]).map pr,vs++[d]):=by
 unfold dputO
 rw [zm1,Option.bind_some,zkm h]
 show (if (l.map pr).length < PY.big then _ else _)=_
 rw [if_pos (by rw [List.length_map]; exact hl)]
 simp
end K08
namespace K08
open PY K01 K02 K20 EU
noncomputable def wh (L:List (List Int)) (p:Int):List Int:=L.getD p.toNat []
theorem zou {n:Nat} {es:List Dt} (hn:n≤12) (hs:es.Sublist (pairsM n)):Ein n es:=fun e he=>by
 have:=List.all_eq_true.mp (zd8 hn) e (hs.subset he)
 unfold inB at this
 rw [Bool.and_eq_true,Bool.and_eq_true] at this
 exact ⟨of_decide_eq_true this.1.1,of_decide_eq_true this.1.2,of_decide_eq_true this.2⟩
theorem zrq {n:Nat} {es:List Dt} (hn:n≤12) (hs:es.Sublist (pairsM n)):Up es:=(zle hn).sublist hs
noncomputable abbrev wD (L:List (List Int)):D:=.tup (rows L)
theorem zqg {n:Nat} {es:List Dt} (hn:n≤9) (hs:es.Sublist (pairsM n)) {L:List (List Int)} (hL:L.length=n) (hR:∀ i l,L[i]? = some l→Row es (i:Nat) l):Whl n es (wh L):=by
 have at':∀ p:Int,0≤p→p < n→∃ q:Nat,p=(q:Int)∧q < n∧Row es (q:Nat) (wh L p):=fun p h0 h1=>by
  refine ⟨p.toNat,by lia,by lia,?_⟩
  have hq:p.toNat < L.length:=by lia
  have:=hR p.toNat L[p.toNat] (List.getElem?_eq_getElem hq)
  unfold wh
  rw [List.getD_eq_getElem?_getD,List.getElem?_eq_getElem hq]
  exact this
 refine ⟨fun p h0 h1=>?_,fun p h0 h1 v=>?_,zou (by lia) hs⟩
 ·obtain ⟨q,rfl,hq,r⟩:=at' p h0 h1
  exact r.1.nodup_iff.mpr ((zgd hn hs hq).imp fun h=>by lia)
 ·obtain ⟨q,rfl,hq,r⟩:=at' p h0 h1
  rw [r.1.mem_iff,zaz]
theorem ze3 {l:List Int} (nd:l.Nodup) {v:Int} (h:v∈l) (hl:l.length≤4000):whereD (.tup (intL l)) (.int v)=some (.int (l.idxOf v:Nat),.solid):=by
 have hsome:((intL l).findIdx? fun y=>D.eq y (.int v)).isSome=true:=by
  rw [List.findIdx?_isSome,List.any_eq_true]
  exact ⟨.int v,List.mem_map.mpr ⟨v,h,rfl⟩,(show (v==v)=true from beq_self_eq_true v)⟩
 obtain ⟨j,hj⟩:=Option.isSome_iff_exists.mp hsome
 obtain ⟨hlt,hpj,_⟩:=List.findIdx?_eq_some_iff_getElem.mp hj
 have hlt':j < l.length:=by simpa using hlt
 have e:l[j]=v:=by
  have:D.eq (.int l[j]) (.int v)=true:=by simpa using hpj
  exact beq_iff_eq.mp this
 have ei:l.idxOf v=j:=by rw [← e]; exact znc nd hlt'
 show (if (D.int v).deep 8&&(intL l).all (D.deep 8)&&decide ((intL l).length≤PY.big) then ((intL l).findIdx? fun y=>D.eq y (.int v)).map _ else none)=_
 rw [zbr,hj,decide_eq_true (show (intL l).length≤PY.big by simpa [PY.big] using hl),ei]
 rfl
theorem zpl {l:List Int} {k:Nat} (h:k < l.length):index (.tup (intL l)) (.int (k:Int))=some (.int (l.getD k 0),.solid):=by
 show (place (intL l).length (k:Int)).bind (fun k=>((intL l)[k]?).map fun d=>(d,Fl.solid))=_
 rw [zba (by simpa using h),Option.bind_some,List.getElem?_map,List.getElem?_eq_getElem h,List.getD_eq_getElem?_getD,List.getElem?_eq_getElem h]
 rfl
theorem znn {L:List (List Int)} {p:Int} (h0:0≤p) (h1:p < L.length):index (wD L) (.int p)=some (.tup (intL (wh L p)),.solid):=by
 obtain ⟨q,rfl⟩:∃ q:Nat,p=(q:Int):=⟨p.toNat,by lia⟩
 have hq:q < L.length:=by lia
 show (place (rows L).length (q:Int)).bind (fun k=>((rows L)[k]?).map fun d=>(d,Fl.solid))=_
 unfold wh
 rw [zba (by simpa using hq),Option.bind_some,List.getElem?_map,List.getElem?_eq_getElem hq,Int.toNat_natCast,List.getD_eq_getElem?_getD,List.getElem?_eq_getElem hq]
 rfl
structure Ctx (n:Nat) (es:List Dt) (L:List (List Int)):Prop where
 whl:Whl n es (wh L)
 len:L.length=n
 few:∀ p:Int,(wh L p).length≤4000
 sml:es.length≤17
 up:Up es
section
variable {cl:Nat→List D→Option D} {W:Nat} {n:Nat} {es:List Dt} {L:List (List Int)}
theorem zkz {l:List Int} (nd:l.Nodup) {v:Int} (h:v∈l):index (.tup (intL l)) (.int ((((l.idxOf v:Nat):Int)+1) % (l.length:Int)))=some (.int (nxt l v),.solid):=by
 have hp:=List.length_pos_of_mem h
 have e:(((l.idxOf v:Nat):Int)+1) % (l.length:Int)=(((l.idxOf v+1) % l.length:Nat):Int):=by
  rw [show ((l.idxOf v:Nat):Int)+1=((l.idxOf v+1:Nat):Int) by lia]
  exact (Int.natCast_emod _ _).symm
 rw [e,zpl (Nat.mod_lt _ hp)]
 rfl
theorem m5 (c:Ctx n es L) {d:Dt} (hd:d∈dts es):runF cl W f5 [pr d,wD L]=some (pr (bhd (wh L) d)):=by
 have hr:=zbk hd
 obtain ⟨p0,p1,_⟩:=c.whl.low hr
 have p0:0≤d.2:=p0
 have p1:d.2 < n:=p1
 have nd:=c.whl.nod d.2 p0 p1
 have hm:d.1∈wh L d.2:=(c.whl.mem d.2 p0 p1 d.1).mpr hr
 have hp:=List.length_pos_of_mem hm
 let l:=wh L d.2
 refine zae ⟨rfl,by decide⟩ ?_
 show exs cl W f5.body [.val (pr d),.val (wD L),.no,.no]=_
 simp only [f5]
 rw [zd (zm (d:=.tup (intL l)) (ρ':=[.val (pr d),.val (wD L),.val (.tup (intL l)),.no]) (zc2 (f:=.solid) (g:=.solid) (x:=wD L) (y:=.int d.2) rfl rfl (znn p0 (by rw [c.len]; exact p1))) rfl)]
 have e1:ev cl (.ixof (.var 2) (.ix (.var 0) (.con (.int 0)))) [.val (pr d),.val (wD L),.val (.tup (intL l)),.no]=some (.int (l.idxOf d.1:Nat),.solid):=by
  rw [ev,show ev cl (.var 2) [.val (pr d),.val (wD L),.val (.tup (intL l)),.no]=some (.tup (intL l),.solid) from rfl,Option.bind_some,show ev cl (.ix (.var 0) (.con (.int 0))) [.val (pr d),.val (wD L),.val (.tup (intL l)),.no]=some (.int d.1,.solid) from rfl,Option.bind_some]
  exact ze3 nd hm (c.few _)
 rw [zd (zm (d:=.int (((l.idxOf d.1:Nat):Int)+1)) (ρ':=[.val (pr d),.val (wD L),.val (.tup (intL l)),.val (.int (((l.idxOf d.1:Nat):Int)+1))]) (zl (f:=.solid) (g:=.solid) e1 rfl rfl) rfl)]
 refine zw (zac (fl:=.solid) (zis (zc (x:=.int d.2) rfl (zc (x:=.int (nxt l d.1)) (zc2 (f:=.solid) (g:=.solid) (x:=.tup (intL l)) (y:=.int ((((l.idxOf d.1:Nat):Int)+1) % (l.length:Int))) rfl ?_ (zkz nd hm)) zi)) (show 2≤4000 by decide)))
 refine zl (f:=.solid) (g:=.solid) (x:=.int (((l.idxOf d.1:Nat):Int)+1)) (y:=.int (l.length:Int)) rfl (zaa (f:=.solid) (x:=.tup (intL l)) rfl ?_) (zft _ _ (by show (0:Int) < ((wh L d.2).length:Int); lia))
 show some (D.int ((intL l).length:Int),Fl.solid)=_
 rw [List.length_map]
theorem m17 (c:Ctx n es L) {d:Dt} (hd:d∈dts es):runF cl W f17 [wD L,pr d]=some (pr (bhd (wh L) d)):=by
 have hr:=zbk hd
 obtain ⟨p0,p1,_⟩:=c.whl.low hr
 have p0:0≤d.2:=p0
 have p1:d.2 < n:=p1
 have nd:=c.whl.nod d.2 p0 p1
 have hm:d.1∈wh L d.2:=(c.whl.mem d.2 p0 p1 d.1).mpr hr
 have hp:=List.length_pos_of_mem hm
 let l:=wh L d.2
 refine zae ⟨rfl,by decide⟩ ?_
 show exs cl W f17.body [.val (wD L),.val (pr d),.no]=_
 simp only [f17]
 let ρ:Rho:=[.val (wD L),.val (pr d),.val (.tup (intL l))]
 rw [zd (zm (d:=.tup (intL l)) (ρ':=ρ) (zc2 (f:=.solid) (g:=.solid) (x:=wD L) (y:=.int d.2) rfl rfl (znn p0 (by rw [c.len]; exact p1))) rfl)]
 have e1:ev cl (.ixof (.var 2) (.ix (.var 1) (.con (.int 0)))) ρ=some (.int (l.idxOf d.1:Nat),.solid):=by
  rw [ev,show ev cl (.var 2) ρ=some (.tup (intL l),.solid) from rfl,Option.bind_some,show ev cl (.ix (.var 1) (.con (.int 0))) ρ=some (.int d.1,.solid) from rfl,Option.bind_some]
  exact ze3 nd hm (c.few _)
 refine zw (zac (fl:=.solid) (zis (zc (x:=.int d.2) rfl (zc (x:=.int (nxt l d.1)) (zc2 (f:=.solid) (g:=.solid) (x:=.tup (intL l)) (y:=.int ((((l.idxOf d.1:Nat):Int)+1) % (l.length:Int))) rfl ?_ (zkz nd hm)) zi)) (show 2≤4000 by decide)))
 refine zl (f:=.solid) (g:=.solid) (x:=.int (((l.idxOf d.1:Nat):Int)+1)) (y:=.int (l.length:Int)) (zl (f:=.solid) (g:=.solid) e1 rfl rfl) (zaa (f:=.solid) (x:=.tup (intL l)) rfl ?_) (zft _ _ (by show (0:Int) < ((wh L d.2).length:Int); lia))
 show some (D.int ((intL l).length:Int),Fl.solid)=_
 rw [List.length_map]
theorem zpm (a b:Dt):cmpop .ne (pr a) (pr b)=some (!decide (a=b)):=by
 show some (!D.eq (pr a) (pr b))=_
 rw [zoh]
 unfold eqP
 congr 2
 obtain ⟨a1,a2⟩:=a
 obtain ⟨b1,b2⟩:=b
 by_cases h:a1=b1 <;> by_cases k:a2=b2 <;> simp [h,k]
theorem zbs {f:Dt→Dt} {a:Dt} {l:List Dt} (o:Orb f a l) {i:Nat} (hi:i < l.length):l.take (i+1)=l.take i++[it f i a]:=by
 rw [List.take_add_one,o.at' i hi]; rfl
theorem m6 (c:Ctx n es L) (h5:∀ d∈dts es,cl 5 [pr d,wD L]=some (pr (bhd (wh L) d))) (hW:100 < W) {a:Dt} (ha:a∈dts es):∃ l,Orb (bhd (wh L)) a l∧l.length≤34∧runF cl W f6 [pr a,wD L]=some (.tup (l.map pr)):=by
 have hf:=c.whl.binj
 obtain ⟨l,o,hl⟩:=Orb.ex hf ha
 have hl:l.length≤34:=by
  have:=c.sml
  unfold dts at hl
  simp at hl
  lia
 refine ⟨l,o,hl,?_⟩
 let R:Nat→Rho:=fun i=>[.val (pr a),.val (wD L),.own ((l.take i).map pr),.val (pr (it (bhd (wh L)) i a))]
 have c0:∀ i,evT cl (.cmp .ne (.var 3) (.var 0)) (R i)=some (!decide (it (bhd (wh L)) i a=a)):=fun i=>zo (f:=.solid) (g:=.solid) (x:=pr (it (bhd (wh L)) i a)) (y:=pr a) rfl rfl (zpm _ _)
 obtain ⟨ρ',m',e,⟨i,hi1,hi2,_,rfl⟩,hend⟩:=za8 (c:=fun ρ=>evT cl (.cmp .ne (.var 3) (.var 0)) ρ) (f:=fun ρ=>exs cl W (.cons (.app 2 (.var 3)) (.cons (.asg (.one 3) (.call 5 (.cons (.var 3) (.cons (.var 1) .nil)))) .nil)) ρ)
  (fun m ρ=>∃ i,1≤i∧i≤l.length∧m+i=l.length∧ρ=R i) (by
   rintro m ρ ⟨i,h1,h2,hm,rfl⟩
   by_cases hi:i=l.length
   ·left
    show evT cl _ (R i)=_
    rw [c0,hi,o.com]; simp
   ·right
    have hlt:i < l.length:=by lia
    refine ⟨?_,R (i+1),m - 1,?_,⟨i+1,by lia,by lia,by lia,rfl⟩,by lia⟩
    ·show evT cl _ (R i)=_
     rw [c0,decide_eq_false (o.fst i (by lia) hlt)]; rfl
    ·show exs cl W _ (R i)=_
     rw [zd (ρ':=[.val (pr a),.val (wD L),.own ((l.take (i+1)).map pr),.val (pr (it (bhd (wh L)) i a))]) ?_]
     ·exact zd (zm (d:=pr (it (bhd (wh L)) (i+1) a)) (zk (zc rfl (zc rfl zi)) (h5 _ (hf.it ha i))) rfl)
     ·show (if ((l.take i).map pr).length < PY.big then _ else _)=_
      rw [if_pos (by rw [List.length_map,List.length_take]; unfold PY.big; lia),zbs o hlt,List.map_append]
      rfl) W (l.length - 1) (R 1) ⟨1,by lia,o.len,by have:=o.len; lia,rfl⟩ (by lia)
 have hil:i=l.length:=by
  rcases Nat.lt_or_ge i l.length with h | h
  ·have hend:evT cl _ (R i)=some false:=hend
   rw [c0,decide_eq_false (o.fst i (by lia) h)] at hend
   cases hend
  ·lia
 subst hil
 refine zae ⟨rfl,by decide⟩ ?_
 show exs cl W f6.body [.val (pr a),.val (wD L),.no,.no]=_
 simp only [f6]
 have t1:(l.take 1).map pr=[pr a]:=by
  have:=zbs o (i:=0) o.len
  rw [this]; rfl
 rw [zd (zt (r:=(.lst [pr a],.fresh)) (ρ':=[.val (pr a),.val (wD L),.own [pr a],.no]) rfl rfl)]
 rw [zd (zm (d:=pr (it (bhd (wh L)) 1 a)) (ρ':=R 1) (zk (zc rfl (zc rfl zi)) (h5 a ha)) (by
  show some [Sl.val (pr a),Sl.val (wD L),Sl.own [pr a],Sl.val (pr (it (bhd (wh L)) 1 a))]=some (R 1)
  show _=some [Sl.val (pr a),Sl.val (wD L),Sl.own ((l.take 1).map pr),Sl.val (pr (it (bhd (wh L)) 1 a))]
  rw [t1]))]
 rw [zd (ρ':=R l.length) (by rw [ex]; exact e)]
 refine zw ((zac (fl:=.solid) (zaa (f:=.peek) (x:=.lst ((l.take l.length).map pr)) rfl rfl)).trans ?_)
 rw [List.take_length]
end
end K08
namespace EU
open PY K01 K02 K20
theorem zgz:∀ {l:List Dt},l≠[]→∃ m∈l,∀ x∈l,¬ ltP x m=true
 | [],h=>absurd rfl h
 | [a],_=>⟨a,List.mem_cons_self,fun x hx=>by rw [List.mem_singleton.mp hx]; exact za5⟩
 | a::b::r,_=>by
  obtain ⟨m,hm,h⟩:=zgz (l:=b::r) (by simp)
  rcases zki a m with k | k | k
  ·refine ⟨a,List.mem_cons_self,fun x hx z=>?_⟩
   rcases List.mem_cons.mp hx with rfl | hx
   ·exact za5 z
   ·exact h x hx (lt_trans z k)
  ·refine ⟨m,List.mem_cons_of_mem _ hm,fun x hx=>?_⟩
   rcases List.mem_cons.mp hx with rfl | hx
   ·rw [k]; exact za5
   ·exact h x hx
  ·refine ⟨m,List.mem_cons_of_mem _ hm,fun x hx z=>?_⟩
   rcases List.mem_cons.mp hx with rfl | hx
   ·exact za5 (lt_trans z k)
   ·exact h x hx z
section
variable {n:Nat} {es:List Dt} {w:Int→List Int}
theorem Whl.fwd (h:Whl n es w) {d:Dt} (hd:d∈dts es) (hm:∀ x,Rch (Fs (bhd w) (dts es)) d x→¬ ltP x d=true):d∈es:=by
 rcases zz.mp hd with k | k
 ·exact k
 ·exfalso
  have:=(h.ein _ k).2.1
  have lt:d.2 < d.1:=this
  refine hm (bhd w d) (.one ⟨hd,rfl⟩) (zeh.mpr (.inl ?_))
  exact lt
theorem Whl.least (h:Whl n es w) {d:Dt} (hd:d∈dts es):∃ m∈es,Rch (Fs (bhd w) (dts es)) d m∧∀ x,Rch (Fs (bhd w) (dts es)) m x→¬ ltP x m=true:=by
 obtain ⟨l,o,_⟩:=Orb.ex h.binj hd
 obtain ⟨m,hm,k⟩:=zgz (l:=l) (fun z=>by have:=o.len; rw [z] at this; exact absurd this (by decide))
 have r:=(o.mem h.binj hd).mp hm
 have k':∀ x,Rch (Fs (bhd w) (dts es)) m x→¬ ltP x m=true:=fun x hx=>k x ((o.mem h.binj hd).mpr (r.trans hx))
 exact ⟨m,h.fwd (o.inn h.binj hd hm) k',r,k'⟩
end
theorem zoa {f:Dt→Dt} {U:List Dt} {fs:List (List Dt)} (hf:Inj f U) (orb:∀ l∈fs,∃ a,a∈U∧Orb f a l∧∀ x∈l,¬ ltP x a=true) (up:Up (fs.map hd)):fs.flatten.Nodup:=by
 rw [List.nodup_iff_pairwise_ne,List.pairwise_flatten]
 refine ⟨fun l hl=>?_,?_⟩
 ·obtain ⟨a,ha,ho,_⟩:=orb l hl
  exact List.nodup_iff_pairwise_ne.mp (ho.nodup hf ha)
 ·have:=List.pairwise_map.mp up
  refine List.Pairwise.imp_of_mem ?_ this
  intro l m hl hm hlt x hx y hy e
  subst e
  obtain ⟨a,ha,ho,hn⟩:=orb l hl
  obtain ⟨b,hb,ho',hn'⟩:=orb m hm
  rw [show hd l=a from ho.head,show hd m=b from ho'.head] at hlt
  have k:=((ho'.mem hf hb).mp hy).trans ((ho.mem hf ha).mp hx).symm
  exact hn' a ((ho'.mem hf hb).mpr k) hlt
theorem zof {f:Dt→Dt} {U:List Dt} {fs:List (List Dt)} (hf:Inj f U) (orb:∀ l∈fs,∃ a,a∈U∧Orb f a l∧∀ x∈l,¬ ltP x a=true):∀ x∈fs.flatten,x∈U:=fun x hx=>by
 obtain ⟨l,hl,hx⟩:=List.mem_flatten.mp hx
 obtain ⟨a,ha,ho,_⟩:=orb l hl
 exact ho.inn hf ha hx
end EU
namespace K08
open PY K01 K02 K20 EU
noncomputable abbrev tupP (l:List Dt):D:=.tup (l.map pr)
section
variable {cl:Nat→List D→Option D} {W:Nat} {n:Nat} {es:List Dt} {L:List (List Int)}
theorem zcz (c:Ctx n es L):(dts es).length≤34:=by
 have:=c.sml
 unfold dts
 simp
 lia
theorem zl3 (l:List Dt) (vs:List D) (x:Dt):cmpop .notin (pr x) (.dic (l.map pr) vs)=some (!decide (x∈l)):=by
 show (keyAt (pr x) (l.map pr)).map (fun o=>!o.isSome)=_
 rw [zm1,Option.map_some,find_some]
theorem marks (c:Ctx n es L) {s2 s4:Sl} {l ks:List Dt} (vs:List D) (s6:Sl) (nd:(ks++l).Nodup) (inn:∀ x∈ks++l,x∈dts es):∃ vs' s6',ex cl W (.frz [5] (.loop (.one 6) (.seq (.var 5)) (.cons (.dput 3 (.var 6) (.con (.bl true))) .nil))) [.val (netD n es),.val (wD L),s2,.dk (ks.map pr) vs,s4,.val (tupP l),s6]
  = some (.nx [.val (netD n es),.val (wD L),s2,.dk ((ks++l).map pr) vs',s4,.val (tupP l),s6']):=by
 let R:Nat→List D→Sl→Rho:=fun j vs s6=>[.val (netD n es),.val (wD L),s2,.dk ((ks++l.take j).map pr) vs,s4,.val (tupP l),s6]
 have hlen:∀ j,(ks++l.take j).length≤34:=fun j=>by
  have a:=GG.zd3 nd inn
  have:=zcz c
  rw [List.length_append] at a ⊢
  rw [List.length_take]
  lia
 obtain ⟨ρ',e,vs',s6',rfl⟩:=zav (cl:=cl) (W:=W) (t:=.one 6) (it:=.seq (.var 5)) (b:=.cons (.dput 3 (.var 6) (.con (.bl true))) .nil) (ρ:=R 0 vs s6) (ds:=l.map pr) (zai (x:=tupP l) rfl rfl)
  (fun j ρ=>∃ vs' s6',ρ=R j vs' s6') ⟨vs,s6,rfl⟩ (by
   rintro j d ρ hj ⟨vs1,t6,rfl⟩
   rw [List.getElem?_map] at hj
   obtain ⟨x,hx,rfl⟩:∃ x,l[j]? = some x∧pr x=d:=by
    cases z:l[j]? with
    | none=>rw [z] at hj; cases hj
    | some x=>rw [z] at hj; exact ⟨x,rfl,Option.some.inj hj⟩
   have ht:l.take (j+1)=l.take j++[x]:=by rw [List.take_add_one,hx]; rfl
   have hno:x∉ks++l.take j:=fun k=>by
    have nd':(ks++(l.take j++x::l.drop (j+1))).Nodup:=by
     have:l.take j++x::l.drop (j+1)=l:=by
      have hj':j < l.length:=(List.getElem?_eq_some_iff.mp hx).1
      have e1:=List.take_append_drop j l
      rw [List.drop_eq_getElem_cons hj'] at e1
      have:l[j]=x:=by rw [List.getElem?_eq_getElem hj'] at hx; exact Option.some.inj hx
      rw [this] at e1
      exact e1
     rw [this]; exact nd
    rw [← List.append_assoc,List.nodup_append] at nd'
    exact nd'.2.2 x k x List.mem_cons_self rfl
   refine ⟨R j vs1 (.val (pr x)),R (j+1) (vs1++[.bl true]) (.val (pr x)),rfl,zd ?_,_,_,rfl⟩
   show (dputO ((ks++l.take j).map pr) vs1 (pr x) (.bl true)).map _=_
   have:=zol (ks++l.take j) vs1 x (.bl true) hno (by have:=hlen j; lia)
   rw [show dputO ((ks++l.take j).map pr) vs1 (pr x) (.bl true)=some ((ks++l.take j++[x]).map pr,vs1++[.bl true]) from this]
   show some (Out.nx [_,_,_,Sl.dk ((ks++l.take j++[x]).map pr) _,_,_,_])=some (Out.nx [_,_,_,Sl.dk ((ks++l.take (j+1)).map pr) _,_,_,_])
   rw [ht,← List.append_assoc])
 refine ⟨vs',s6',?_⟩
 have e0:R 0 vs s6=[.val (netD n es),.val (wD L),s2,.dk (ks.map pr) vs,s4,.val (tupP l),s6]:=by simp [R]
 have e1:R (l.map pr).length vs' s6'=[.val (netD n es),.val (wD L),s2,.dk ((ks++l).map pr) vs',s4,.val (tupP l),s6']:=by
  show [_,_,_,Sl.dk ((ks++l.take (l.map pr).length).map pr) vs',_,_,_]=_
  rw [List.length_map,List.take_length]
 rw [e0] at e
 rw [← e1]
 exact e
theorem m7 (c:Ctx n es L) (h6:∀ a∈dts es,∃ l,Orb (bhd (wh L)) a l∧l.length≤34∧cl 6 [pr a,wD L]=some (tupP l)):∃ fs,Fcs (bhd (wh L)) (dts es) fs∧runF cl W f7 [netD n es,wD L]=some (.tup (fs.map tupP)):=by
 have hf:=c.whl.binj
 let R:List (List Dt)→List D→Sl→Sl→Sl→Rho:=fun fs vs s4 s5 s6=>[.val (netD n es),.val (wD L),.own (fs.map tupP),.dk (fs.flatten.map pr) vs,s4,s5,s6]
 let B:Ss:=.cons (.cond (.cmp .notin (.var 4) (.var 3)) (.cons (.asg (.one 5) (.call 6 (.cons (.var 4) (.cons (.var 1) .nil)))) (.cons (.app 2 (.var 5)) (.cons (.frz [5] (.loop (.one 6) (.seq (.var 5)) (.cons (.dput 3 (.var 6) (.con (.bl true))) .nil))) .nil))) .nil) .nil
 obtain ⟨ρ',e,fs,vs,s4,s5,s6,rfl,A,Bu,C⟩:=zav (cl:=cl) (W:=W) (t:=.one 4) (it:=.seq (.ix (.var 0) (.con (.int 1)))) (b:=B) (ρ:=R [] [] .no .no .no) (ds:=es.map pr) (zai (x:=.tup (es.map pr)) rfl rfl)
  (fun i ρ=>∃ fs vs s4 s5 s6,ρ=R fs vs s4 s5 s6∧(∀ l∈fs,∃ a,a∈es.take i∧Orb (bhd (wh L)) a l∧∀ x∈l,¬ ltP x a=true)∧Up (fs.map hd)∧∀ x∈es.take i,∃ l∈fs,x∈l)
  ⟨[],[],.no,.no,.no,rfl,(fun _ h=>by cases h),.nil,fun _ h=>by simp at h⟩ (by
   rintro i d ρ hi ⟨fs,vs,s4,s5,s6,rfl,A,Bu,C⟩
   rw [List.getElem?_map] at hi
   obtain ⟨x,hx,rfl⟩:∃ x,es[i]? = some x∧pr x=d:=by
    cases z:es[i]? with
    | none=>rw [z] at hi; cases hi
    | some x=>rw [z] at hi; exact ⟨x,rfl,Option.some.inj hi⟩
   have hil:i < es.length:=(List.getElem?_eq_some_iff.mp hx).1
   have ht:es.take (i+1)=es.take i++[x]:=by rw [List.take_add_one,hx]; rfl
   have hxe:x∈es:=List.mem_of_getElem? hx
   have hxd:x∈dts es:=zz.mpr (.inl hxe)
   have A0:∀ l∈fs,∃ a,a∈dts es∧Orb (bhd (wh L)) a l∧∀ x∈l,¬ ltP x a=true:=fun l hl=>let ⟨a,h1,h2,h3⟩:=A l hl; ⟨a,zz.mpr (.inl (List.mem_of_mem_take h1)),h2,h3⟩
   have t:evT cl (.cmp .notin (.var 4) (.var 3)) (R fs vs (.val (pr x)) s5 s6)=some (!decide (x∈fs.flatten)):=zo (f:=.solid) (g:=.peek) (x:=pr x) (y:=.dic (fs.flatten.map pr) vs) rfl rfl (zl3 fs.flatten vs x)
   by_cases hin:x∈fs.flatten
   ·refine ⟨R fs vs (.val (pr x)) s5 s6,R fs vs (.val (pr x)) s5 s6,rfl,?_,fs,vs,_,_,_,rfl,fun l hl=>?_,Bu,fun y hy=>?_⟩
    ·rw [decide_eq_true hin] at t
     exact (zd (za1 t)).trans (by rw [exs])
    ·obtain ⟨a,h1,h2⟩:=A l hl
     exact ⟨a,by rw [ht]; exact List.mem_append_left _ h1,h2⟩
    ·rw [ht] at hy
     rcases List.mem_append.mp hy with hy | hy
     ·exact C y hy
     ·rw [List.mem_singleton.mp hy]
      exact List.mem_flatten.mp hin
   ·rw [decide_eq_false hin] at t
    obtain ⟨l,o,hl34,hcall⟩:=h6 x hxd
    -- the new head is the least of its round
    have least:∀ y∈l,¬ ltP y x=true:=fun y hy k=>by
     obtain ⟨m,hm,r,hmin⟩:=c.whl.least hxd
     have mx:ltP m x=true:=by
      have hyr:=(o.mem hf hxd).mp hy
      rcases zki m x with z | z | z
      ·exact z
      ·exact absurd k (hmin y (by rw [z]; exact hyr) |> fun h=>by rw [z] at h; exact h)
      ·exact absurd z (hmin x r.symm)
     have hmt:m∈es.take i:=by
      rw [← List.take_append_drop i es] at hm
      rcases List.mem_append.mp hm with z | z
      ·exact z
      ·exfalso
       rw [List.drop_eq_getElem_cons hil] at z
       have ex0:es[i]=x:=by rw [List.getElem?_eq_getElem hil] at hx; exact Option.some.inj hx
       rw [ex0] at z
       rcases List.mem_cons.mp z with rfl | z
       ·exact za5 mx
       ·have up':=c.up
        have e1:=List.take_append_drop i es
        rw [List.drop_eq_getElem_cons hil,ex0] at e1
        rw [← e1] at up'
        have:=(List.pairwise_cons.mp (List.pairwise_append.mp up').2.1).1 m z
        exact za5 (lt_trans this mx)
     obtain ⟨l',hl',hml⟩:=C m hmt
     obtain ⟨a,ha,oa,_⟩:=A0 l' hl'
     exact hin (List.mem_flatten.mpr ⟨l',hl',(oa.mem hf ha).mpr (((oa.mem hf ha).mp hml).trans r.symm)⟩)
    have up2:Up ((fs++[l]).map hd):=by
     rw [List.map_append,List.map_cons,List.map_nil,show hd l=x from o.head]
     refine List.pairwise_append.mpr ⟨Bu,by simp,fun a ha b hb=>?_⟩
     rw [List.mem_singleton.mp hb]
     obtain ⟨m,hm,rfl⟩:=List.mem_map.mp ha
     obtain ⟨a,h1,h2,_⟩:=A m hm
     rw [show hd m=a from h2.head]
     have up':(es.take i++es.drop i).Pairwise fun a b=>ltP a b=true:=by rw [List.take_append_drop]; exact c.up
     refine (List.pairwise_append.mp up').2.2 a h1 x ?_
     rw [List.drop_eq_getElem_cons hil]
     have ex0:es[i]=x:=by rw [List.getElem?_eq_getElem hil] at hx; exact Option.some.inj hx
     rw [ex0]
     exact List.mem_cons_self
    have A2:∀ m∈fs++[l],∃ a,a∈es.take (i+1)∧Orb (bhd (wh L)) a m∧∀ y∈m,¬ ltP y a=true:=fun m hm=>by
     rw [ht]
     rcases List.mem_append.mp hm with hm | hm
     ·obtain ⟨a,h1,h2⟩:=A m hm
      exact ⟨a,List.mem_append_left _ h1,h2⟩
     ·rw [List.mem_singleton.mp hm]
      exact ⟨x,List.mem_append_right _ (List.mem_singleton.mpr rfl),o,least⟩
    have A20:∀ m∈fs++[l],∃ a,a∈dts es∧Orb (bhd (wh L)) a m∧∀ y∈m,¬ ltP y a=true:=fun m hm=>let ⟨a,h1,h2⟩:=A2 m hm; ⟨a,zz.mpr (.inl (List.mem_of_mem_take h1)),h2⟩
    have nd2:=zoa hf A20 up2
    have in2:=zof hf A20
    have fl:(fs++[l]).flatten=fs.flatten++l:=by simp
    rw [fl] at nd2 in2
    have fsl:fs.length≤34:=by
     have a:(fs.map hd).length≤(dts es).length:=GG.zd3 (zch Bu) fun y hy=>by
      obtain ⟨m,hm,rfl⟩:=List.mem_map.mp hy
      obtain ⟨a,h1,h2,_⟩:=A0 m hm
      rw [show hd m=a from h2.head]
      exact h1
     rw [List.length_map] at a
     have:=zcz c
     lia
    obtain ⟨vs',s6',em⟩:=marks (cl:=cl) (W:=W) c (s2:=.own ((fs++[l]).map tupP)) (s4:=.val (pr x)) vs s6 nd2 in2
    refine ⟨R fs vs (.val (pr x)) s5 s6,R (fs++[l]) vs' (.val (pr x)) (.val (tupP l)) s6',rfl,?_,fs++[l],vs',_,_,_,rfl,A2,up2,fun y hy=>?_⟩
    ·refine (zd (ρ':=R (fs++[l]) vs' (.val (pr x)) (.val (tupP l)) s6') ?_).trans (by rw [exs])
     rw [zdg t]
     show exs cl W _ _=_
     rw [zd (zm (d:=tupP l) (ρ':=R fs vs (.val (pr x)) (.val (tupP l)) s6) (zk (zc rfl (zc rfl zi)) hcall) rfl)]
     rw [zd (ρ':=[.val (netD n es),.val (wD L),.own ((fs++[l]).map tupP),.dk (fs.flatten.map pr) vs,.val (pr x),.val (tupP l),s6]) (by
      show (if (fs.map tupP).length < PY.big then _ else _)=_
      rw [if_pos (by rw [List.length_map]; unfold PY.big; lia),List.map_append]
      rfl)]
     rw [zd em,exs]
     show some (Out.nx [_,_,_,Sl.dk ((fs.flatten++l).map pr) vs',_,_,_])=some (Out.nx [_,_,_,Sl.dk ((fs++[l]).flatten.map pr) vs',_,_,_])
     rw [fl]
    ·rw [ht] at hy
     rcases List.mem_append.mp hy with hy | hy
     ·obtain ⟨m,hm,hy⟩:=C y hy
      exact ⟨m,List.mem_append_left _ hm,hy⟩
     ·rw [List.mem_singleton.mp hy]
      exact ⟨l,List.mem_append_right _ (List.mem_singleton.mpr rfl),(o.mem hf hxd).mpr (.refl _)⟩)
 rw [List.length_map,List.take_length] at A C
 have A0:∀ l∈fs,∃ a,a∈dts es∧Orb (bhd (wh L)) a l∧∀ x∈l,¬ ltP x a=true:=fun l hl=>let ⟨a,h1,h2,h3⟩:=A l hl; ⟨a,zz.mpr (.inl h1),h2,h3⟩
 refine ⟨fs,⟨A0,Bu,fun d hd=>?_⟩,?_⟩
 ·obtain ⟨m,hm,r,_⟩:=c.whl.least hd
  obtain ⟨l,hl,hml⟩:=C m hm
  obtain ⟨a,ha,oa,_⟩:=A0 l hl
  exact ⟨l,hl,(oa.mem hf ha).mpr (((oa.mem hf ha).mp hml).trans r.symm)⟩
 ·refine zae ⟨rfl,by decide⟩ ?_
  show exs cl W f7.body [.val (netD n es),.val (wD L),.no,.no,.no,.no,.no]=_
  simp only [f7]
  rw [zd (zt (r:=(.lst [],.fresh)) (ρ':=[.val (netD n es),.val (wD L),.own [],.no,.no,.no,.no]) rfl rfl)]
  rw [zd (zt (r:=(.dic [] [],.fresh)) (ρ':=R [] [] .no .no .no) rfl rfl)]
  rw [zd e]
  exact zw (zac (fl:=.solid) (zaa (f:=.peek) (x:=.lst (fs.map tupP)) rfl rfl))
end
end K08
namespace K08
open PY K01 K02 K20 EU
theorem zc1 {n:Nat} {es:List Dt} (he:Ein n es) (nd:es.Nodup):(dts es).Nodup:=by
 unfold dts
 rw [List.nodup_append]
 refine ⟨nd,?_,fun a ha b hb e=>?_⟩
 ·rw [List.nodup_iff_pairwise_ne,List.pairwise_map]
  exact (List.nodup_iff_pairwise_ne.mp nd).imp fun h k=>h (by have:=congrArg rev k; rwa [zf3,zf3] at this)
 ·subst e
  obtain ⟨c,hc,rfl⟩:=List.mem_map.mp hb
  have h1:=(he _ ha).2.1
  have h2:=(he _ hc).2.1
  have h1:c.2 < c.1:=h1
  lia
theorem zll {n:Nat} {es:List Dt} (he:Ein n es) (nd:es.Nodup) (hl:es.length≤17):∃ ds,Up ds∧ds.Perm (dts es)∧sortO ((dts es).map pr)=some (.lst (ds.map pr),.fresh):=by
 obtain ⟨ds,h1,h2⟩:=zr3 (zc1 he nd)
 refine ⟨ds,h1,h2,?_⟩
 have h34:(dts es).length≤34:=by unfold dts; simp; lia
 cases hd:dts es with
 | nil =>
  rw [hd] at h2
  have e:ds=[]:=List.Perm.eq_nil h2
  subst e
  rfl
 | cons a r =>
  rw [hd] at h2 h34
  have hi:ints? ((a::r).map pr)=none:=rfl
  unfold sortO
  rw [hi,zdc]
  show (if ((a::r).map li).length < 64 then _ else _)=_
  rw [if_pos (by rw [List.length_map]; lia),zlg h1 h2,zqf]
theorem zkp (l:List Dt) (x:Dt):cmpop .notin (pr x) (.lst (l.map pr))=some (!decide (x∈l)):=by
 show (if (pr x).deep 8&&(l.map pr).all (D.deep 8) then some (!memD (pr x) (l.map pr)) else none)=_
 rw [zk4,zq5]
 show some (!memP x l)=_
 congr 2
 by_cases h:x∈l
 ·rw [zgo.mpr h,decide_eq_true h]
 ·rw [decide_eq_false h]
  cases k:memP x l with
  | false=>rfl
  | true=>exact absurd (zgo.mp k) h
theorem zo0 {l:List D} {d:D}:index (.lst (l++[d])) (.int (-1))=some (d,.solid):=by
 show (place (l++[d]).length (-1)).bind (fun k=>((l++[d])[k]?).map fun d=>(d,Fl.solid))=_
 have hp:place (l++[d]).length (-1)=some l.length:=by
  unfold place
  rw [if_neg (by decide),if_pos (by simp; lia),List.length_append]
  congr 1
  simp; lia
 rw [hp,Option.bind_some,List.getElem?_append_right (Nat.le_refl _),Nat.sub_self]
 rfl
section
variable {cl:Nat→List D→Option D} {W:Nat} {n:Nat} {es:List Dt} {L:List (List Int)}
noncomputable abbrev beh:E:=.call 17 (.cons (.var 1) (.cons (.ix (.var 4) (.neg (.con (.int 1)))) .nil))
theorem walk (c:Ctx n es L) (h17:∀ d∈dts es,cl 17 [wD L,pr d]=some (pr (bhd (wh L) d))) (hW:100 < W) {a:Dt} (ha:a∈dts es) {s2 s3:Sl}:∃ l,Orb (bhd (wh L)) a l∧l.length≤34 ∧
  ex cl W (.while (.cmp .ne beh (.ix (.var 4) (.con (.int 0)))) (.cons (.app 4 beh) .nil)) [.val (netD n es),.val (wD L),s2,s3,.own [pr a]]=some (.nx [.val (netD n es),.val (wD L),s2,s3,.own (l.map pr)]):=by
 have hf:=c.whl.binj
 obtain ⟨l,o,hl⟩:=Orb.ex hf ha
 have hl:l.length≤34:=Nat.le_trans hl (zcz c)
 refine ⟨l,o,hl,?_⟩
 let R:Nat→Rho:=fun i=>[.val (netD n es),.val (wD L),s2,s3,.own ((l.take (i+1)).map pr)]
 have hlast:∀ i,i < l.length→ev cl (.ix (.var 4) (.neg (.con (.int 1)))) (R i)=some (pr (it (bhd (wh L)) i a),.solid):=fun i hi=>by
  refine zc2 (f:=.peek) (g:=.solid) (x:=.lst ((l.take (i+1)).map pr)) (y:=.int (-1)) rfl rfl ?_
  rw [zbs o hi,List.map_append]
  exact zo0
 have hb:∀ i,i < l.length→ev cl beh (R i)=some (pr (it (bhd (wh L)) (i+1) a),.solid):=fun i hi=>zk (ds:=[wD L,pr (it (bhd (wh L)) i a)]) (zc rfl (zc (hlast i hi) zi)) (h17 _ (hf.it ha i))
 have h0:∀ i,ev cl (.ix (.var 4) (.con (.int 0))) (R i)=some (pr a,.solid):=fun i=>by
  refine zc2 (f:=.peek) (g:=.solid) (x:=.lst ((l.take (i+1)).map pr)) (y:=.int ((0:Nat):Int)) rfl rfl ?_
  have e0:l[0]? = some a:=o.at' 0 o.len
  show (place ((l.take (i+1)).map pr).length ((0:Nat):Int)).bind (fun k=>(((l.take (i+1)).map pr)[k]?).map fun d=>(d,Fl.solid))=_
  have hp:0 < ((l.take (i+1)).map pr).length:=by rw [List.length_map,List.length_take]; have:=o.len; lia
  rw [zba hp,Option.bind_some,List.getElem?_map,List.getElem?_take_of_lt (by lia),e0]
  rfl
 have ct:∀ i,i < l.length→evT cl (.cmp .ne beh (.ix (.var 4) (.con (.int 0)))) (R i)=some (!decide (it (bhd (wh L)) (i+1) a=a)):=fun i hi=>zo (f:=.solid) (g:=.solid) (hb i hi) (h0 i) (zpm _ _)
 obtain ⟨ρ',m',e,⟨i,hi,_,rfl⟩,hend⟩:=za8 (c:=fun ρ=>evT cl (.cmp .ne beh (.ix (.var 4) (.con (.int 0)))) ρ) (f:=fun ρ=>exs cl W (.cons (.app 4 beh) .nil) ρ)
  (fun m ρ=>∃ i,i < l.length∧m+i+1=l.length∧ρ=R i) (by
   rintro m ρ ⟨i,h1,hm,rfl⟩
   by_cases hi:i+1=l.length
   ·left
    show evT cl _ (R i)=_
    rw [ct i h1,hi,o.com]; simp
   ·right
    refine ⟨?_,R (i+1),m - 1,?_,⟨i+1,by lia,by lia,rfl⟩,by lia⟩
    ·show evT cl _ (R i)=_
     rw [ct i h1,decide_eq_false (o.fst (i+1) (by lia) (by lia))]; rfl
    ·show exs cl W _ (R i)=_
     refine zd ?_
     rw [ex,hb i h1,Option.bind_some]
     show (if ((l.take (i+1)).map pr).length < PY.big then _ else _)=_
     rw [if_pos (by rw [List.length_map,List.length_take]; unfold PY.big; lia)]
     show some (Out.nx [_,_,_,_,Sl.own ((l.take (i+1)).map pr++[pr (it (bhd (wh L)) (i+1) a)])])=some (Out.nx [_,_,_,_,Sl.own ((l.take (i+1+1)).map pr)])
     rw [zbs o (i:=i+1) (by lia),List.map_append]
     rfl) W (l.length - 1) (R 0) ⟨0,o.len,by have:=o.len; lia,rfl⟩ (by lia)
 have hil:i+1=l.length:=by
  rcases Nat.lt_or_ge (i+1) l.length with h | h
  ·have hend:evT cl _ (R i)=some false:=hend
   rw [ct i hi,decide_eq_false (o.fst (i+1) (by lia) h)] at hend
   cases hend
  ·lia
 have r0:R 0=[.val (netD n es),.val (wD L),s2,s3,.own [pr a]]:=by
  have:=zbs o (i:=0) o.len
  show [_,_,_,_,Sl.own ((l.take (0+1)).map pr)]=_
  rw [this]; rfl
 have r1:R i=[.val (netD n es),.val (wD L),s2,s3,.own (l.map pr)]:=by
  show [_,_,_,_,Sl.own ((l.take (i+1)).map pr)]=_
  rw [hil,List.take_length]
 rw [r0,r1] at e
 rw [ex]
 exact e
theorem m18 (c:Ctx n es L) (h17:∀ d∈dts es,cl 17 [wD L,pr d]=some (pr (bhd (wh L) d))) (hW:100 < W):∃ fs,Fcs (bhd (wh L)) (dts es) fs∧runF cl W f18 [netD n es,wD L]=some (.lst (fs.map tupP)):=by
 have hf:=c.whl.binj
 have nd:es.Nodup:=zch c.up
 obtain ⟨ds,d1,d2,d3⟩:=zll c.whl.ein nd c.sml
 have d34:ds.length≤34:=by rw [d2.length_eq]; exact zcz c
 let R:List (List Dt)→List Dt→Sl→Rho:=fun fs lf s4=>[.val (netD n es),.val (wD L),.own (fs.map tupP),.own (lf.map pr),s4]
 let B:Ss:=.cons (.asg (.one 4) (.lst (.cons (.ix (.var 3) (.con (.int 0))) .nil))) (.cons (.while (.cmp .ne beh (.ix (.var 4) (.con (.int 0)))) (.cons (.app 4 beh) .nil)) (.cons (.app 2 (.bi .tuple (.var 4))) (.cons (.asg (.one 3) (.comp (.var 0) (.one 0) (.seq (.var 3)) (.so (.cmp .notin (.var 0) (.var 1))) 1 [4])) .nil)))
 obtain ⟨ρ',m',e,⟨fs,lf,s4,rfl,_,_,mem,A,Bu,_⟩,hend⟩:=za8 (c:=fun ρ=>evT cl (.var 3) ρ) (f:=fun ρ=>exs cl W B ρ)
  (fun m ρ=>∃ fs lf s4,ρ=R fs lf s4∧m=lf.length∧Up lf∧(∀ d,d∈lf↔d∈dts es∧d∉fs.flatten)∧(∀ l∈fs,∃ a,a∈dts es∧Orb (bhd (wh L)) a l∧∀ x∈l,¬ ltP x a=true)∧Up (fs.map hd)∧∀ l∈fs,∀ d∈lf,ltP (hd l) d=true) (by
   rintro m ρ ⟨fs,lf,s4,rfl,rfl,up,mem,A,Bu,lo⟩
   cases lf with
   | nil=>left; rfl
   | cons a r =>
    right
    have ha:a∈dts es:=((mem a).mp List.mem_cons_self).1
    have hna:a∉fs.flatten:=((mem a).mp List.mem_cons_self).2
    obtain ⟨l,o,hl34,ew⟩:=walk (cl:=cl) (W:=W) c h17 hW ha (s2:=.own (fs.map tupP)) (s3:=.own ((a::r).map pr))
    have up':=List.pairwise_cons.mp up
    have inn:∀ x∈l,x∈a::r:=fun x hx=>(mem x).mpr ⟨o.inn hf ha hx,fun k=>by
     obtain ⟨l',hl',hx'⟩:=List.mem_flatten.mp k
     obtain ⟨b,hb,ob,_⟩:=A l' hl'
     exact hna (List.mem_flatten.mpr ⟨l',hl',(ob.mem hf hb).mpr (((ob.mem hf hb).mp hx').trans ((o.mem hf ha).mp hx).symm)⟩)⟩
    have least:∀ x∈l,¬ ltP x a=true:=fun x hx k=>by
     rcases List.mem_cons.mp (inn x hx) with e | h
     ·rw [e] at k; exact za5 k
     ·exact za5 (lt_trans k (up'.1 x h))
    have hal:a∈l:=(o.mem hf ha).mpr (.refl _)
    have up2:Up ((fs++[l]).map hd):=by
     rw [List.map_append,List.map_cons,List.map_nil,show hd l=a from o.head]
     refine List.pairwise_append.mpr ⟨Bu,by simp,fun x hx b hb=>?_⟩
     rw [List.mem_singleton.mp hb]
     obtain ⟨m,hm,rfl⟩:=List.mem_map.mp hx
     exact lo m hm a List.mem_cons_self
    have fsl:fs.length≤34:=by
     have a1:(fs.map hd).length≤(dts es).length:=GG.zd3 (zch Bu) fun y hy=>by
      obtain ⟨m,hm,rfl⟩:=List.mem_map.mp hy
      obtain ⟨a,h1,h2,_⟩:=A m hm
      rw [show hd m=a from h2.head]
      exact h1
     rw [List.length_map] at a1
     have:=zcz c
     lia
    let lf':=(a::r).filter fun d=>!decide (d∈l)
    have memf:∀ d,d∈lf'↔d∈a::r∧d∉l:=fun d=>by
     show d∈(a::r).filter _↔_
     rw [List.mem_filter]
     simp
    refine ⟨rfl,R (fs++[l]) lf' (.own (l.map pr)),lf'.length,?_,⟨fs++[l],lf',_,rfl,rfl,up.sublist List.filter_sublist,fun d=>?_,fun m hm=>?_,up2,fun m hm d hd'=>?_⟩,?_⟩
    ·show exs cl W B (R fs (a::r) s4)=_
     rw [zd (zt (r:=(.lst [pr a],.fresh)) (ρ':=R fs (a::r) (.own [pr a])) rfl rfl),zd ew]
     rw [zd (ρ':=R (fs++[l]) (a::r) (.own (l.map pr))) (by
      show (if (fs.map tupP).length < PY.big then _ else _)=_
      rw [if_pos (by rw [List.length_map]; unfold PY.big; lia)]
      show some (Out.nx [_,_,Sl.own (fs.map tupP++[tupP l]),_,_])=some (Out.nx [_,_,Sl.own ((fs++[l]).map tupP),_,_])
      rw [List.map_append]
      rfl)]
     refine zd (zt (r:=(.lst (lf'.map pr),.fresh)) ?_ rfl)
     refine zbd (φ:=pr) (l:=a::r) (b:=true) (fun d=>!decide (d∈l)) pr rfl fun d _=>⟨[.val (pr d),.own (l.map pr)],rfl,zo (f:=.solid) (g:=.peek) (x:=pr d) (y:=.lst (l.map pr)) rfl rfl (zkp l d),fun _=>⟨(pr d,.solid),rfl,rfl⟩⟩
    ·rw [memf,mem]
     have fl:(fs++[l]).flatten=fs.flatten++l:=by simp
     rw [fl,List.mem_append]
     constructor
     ·rintro ⟨⟨h1,h2⟩,h3⟩; exact ⟨h1,fun k=>k.elim h2 h3⟩
     ·rintro ⟨h1,h2⟩; exact ⟨⟨h1,fun k=>h2 (.inl k)⟩,fun k=>h2 (.inr k)⟩
    ·rcases List.mem_append.mp hm with hm | hm
     ·exact A m hm
     ·rw [List.mem_singleton.mp hm]
      exact ⟨a,ha,o,least⟩
    ·obtain ⟨h1,h2⟩:=(memf d).mp hd'
     rcases List.mem_append.mp hm with hm | hm
     ·exact lo m hm d h1
     ·rw [List.mem_singleton.mp hm,show hd l=a from o.head]
      rcases List.mem_cons.mp h1 with e | h
      ·rw [e] at h2; exact absurd hal h2
      ·exact up'.1 d h
    ·show ((a::r).filter _).length < (a::r).length
     rw [List.filter_cons,if_neg (by simp [hal])]
     exact Nat.lt_of_le_of_lt (List.length_filter_le _ _) (by simp)) W ds.length (R [] ds .no) ⟨[],ds,.no,rfl,rfl,d1,fun d=>by rw [d2.mem_iff]; simp,(fun _ h=>by cases h),.nil,fun _ h=>by cases h⟩ (by lia)
 have hlf:lf=[]:=by
  cases lf with
  | nil=>rfl
  | cons x r=>exact absurd (show some (D.truthy (.lst ((x::r).map pr)))=some false from hend) (by simp [D.truthy])
 subst hlf
 refine ⟨fs,⟨A,Bu,fun d hd'=>?_⟩,?_⟩
 ·have:¬ (d∈dts es∧d∉fs.flatten):=fun k=>by have:=(mem d).mpr k; cases this
  have:d∈fs.flatten:=Classical.byContradiction fun k=>this ⟨hd',k⟩
  exact List.mem_flatten.mp this
 ·refine zae ⟨rfl,by decide⟩ ?_
  show exs cl W f18.body [.val (netD n es),.val (wD L),.no,.no,.no]=_
  simp only [f18]
  rw [zd (zt (r:=(.lst [],.fresh)) (ρ':=[.val (netD n es),.val (wD L),.own [],.no,.no]) rfl rfl)]
  have e1:ev cl (.comp (.tup (.cons (.var 1) (.cons (.var 0) .nil))) (.many [0,1]) (.seq (.ix (.var 0) (.con (.int 1)))) .no 2 []) [.val (netD n es),.val (wD L),.own [],.no,.no]=some (.lst ((es.map rev).map pr),.fresh):=by
   have:=zo8 (cl:=cl) (ρ:=[.val (netD n es),.val (wD L),.own [],.no,.no]) (e:=.tup (.cons (.var 1) (.cons (.var 0) .nil))) (t:=.many [0,1]) (it:=.seq (.ix (.var 0) (.con (.int 1)))) (n:=2) (keep:=[]) (l:=es) (φ:=pr) (b:=false) (fun d=>pr (rev d)) (zai (x:=.tup (es.map pr)) rfl rfl) fun d _=>⟨[.val (.int d.1),.val (.int d.2)],(pr (rev d),.solid),rfl,rfl,rfl⟩
   rw [this,List.map_map]
   rfl
  have e2:ev cl (.bin .add (.bi .list (.ix (.var 0) (.con (.int 1)))) (.comp (.tup (.cons (.var 1) (.cons (.var 0) .nil))) (.many [0,1]) (.seq (.ix (.var 0) (.con (.int 1)))) .no 2 [])) [.val (netD n es),.val (wD L),.own [],.no,.no]=some (.lst ((dts es).map pr),.fresh):=by
   refine zl (f:=.fresh) (g:=.fresh) (x:=.lst (es.map pr)) (zaa (f:=.solid) (x:=.tup (es.map pr)) rfl rfl) e1 ?_
   refine (if_pos (show (es.map pr).length+((es.map rev).map pr).length≤PY.big by simp only [List.length_map]; have:=c.sml; unfold PY.big; lia)).trans ?_
   unfold dts
   rw [List.map_append]
  rw [zd (zt (r:=(.lst (ds.map pr),.fresh)) (ρ':=R [] ds .no) (zaa (o:=.sorted) (f:=.fresh) e2 d3) rfl)]
  rw [zd (ρ':=R fs [] s4) (by rw [ex]; exact e)]
  exact zw (zac (fl:=.peek) rfl)
end
end K08
namespace K05
open PY K01 K02
theorem find_some (l:List Int) (q:Int):(l.findIdx? (· == q)).isSome=decide (q∈l):=by
 rw [List.findIdx?_isSome,Bool.eq_iff_iff,List.any_eq_true,decide_eq_true_eq]
 constructor
 ·rintro ⟨x,h,e⟩; exact beq_iff_eq.mp e▸h
 ·intro h; exact ⟨q,h,by simp⟩
theorem zhq (l:List Int) (q:Int):keyAt (.int q) (intL l)=some (l.findIdx? (· == q)):=by
 show (ints? (intL l)).map _=_
 rw [zar]; rfl
theorem zim (l:List Int) (vs:List D) (q:Int):cmpop .notin (.int q) (.dic (intL l) vs)=some (!decide (q∈l)):=by
 show (keyAt (.int q) (intL l)).map (fun o=>!o.isSome)=_
 rw [zhq,Option.map_some,find_some]
theorem zlw (l:List Int) (vs:List D) (q:Int) (d:D) (h:q∉l) (hl:l.length < 4000):dputO (intL l) vs (.int q) d=some (intL (l++[q]),vs++[d]):=by
 unfold dputO
 rw [zhq,Option.bind_some]
 have:l.findIdx? (· == q)=none:=by
  have:=find_some l q
  rw [decide_eq_false h] at this
  cases e:l.findIdx? (· == q) with
  | none=>rfl
  | some j=>rw [e] at this; cases this
 rw [this]
 show (if (intL l).length < big then _ else _)=_
 rw [if_pos (by rw [List.length_map]; exact hl)]
 simp [intL]
theorem addNew_snoc:∀ (l ms:List Int) (q:Int),addNew ms (l++[q])=addNew ms l++(if q∈ms++addNew ms l then [] else [q])
 | [],ms,q=>by simp only [List.nil_append,addNew]; split <;> simp_all
 | x::r,ms,q=>by
  rw [List.cons_append]
  unfold addNew
  by_cases hx:x∈ms
  ·rw [if_pos hx,if_pos hx]; exact addNew_snoc r ms q
  ·rw [if_neg hx,if_neg hx,addNew_snoc r (ms++[x]) q,List.cons_append]
   congr 2
   simp [List.append_assoc]
noncomputable abbrev rngI (n:Nat):List Int:=(List.range n).map fun i=>(0:Int)+(i:Nat)
theorem zg9 (n:Nat):rangeD 0 n=intL (rngI n):=by
 show _=List.map D.int ((List.range n).map fun i=>(0:Int)+(i:Nat))
 rw [List.map_map]; rfl
theorem zo5 {n:Nat} {v:Int}:v∈rngI n↔0≤v∧v < (n:Int):=by
 rw [List.mem_map]
 constructor
 ·rintro ⟨i,hi,rfl⟩; have:=List.mem_range.mp hi; lia
 ·intro h; exact ⟨v.toNat,by rw [List.mem_range]; lia,by lia⟩
noncomputable abbrev rowsD (n:Nat) (es:List (Int×Int)):D:=.lst ((List.range n).map fun p=>D.lst (intL (near es (p:Nat))))
theorem zgj (l:List Int) (q:Int):cmpop .isin (.int q) (.lst (intL l))=some (decide (q∈l)):=by
 show (if D.deep 8 (.int q)&&(intL l).all (D.deep 8) then _ else _)=_
 rw [zbr,zht]; rfl
section
variable {cl:Nat→List D→Option D} {W:Nat}
theorem zhy {ρ:Rho} {i j:Nat} {l:List D} {d:D} (h:ρ[j]? = some (.own (l++[d]))):ex cl W (.pop (.one i) j (.con (.int (-1)))) ρ=some (.nx ((ρ.set j (.own l)).set i (.val d))):=by
 simp only [ex,ev,Cn.d,Option.bind_some,int?,h]
 rw [if_pos (by decide)]
 have hp:place (l++[d]).length (-1)=some l.length:=by
  unfold place
  rw [if_neg (by decide),if_pos (by simp; lia),List.length_append]
  congr 1
  simp; lia
 rw [hp,Option.bind_some,List.getElem?_append_right (Nat.le_refl _),Nat.sub_self]
 have he:(l++[d]).eraseIdx l.length=l:=by
  rw [List.eraseIdx_append_of_length_le (Nat.le_refl _),Nat.sub_self]; simp
 rw [he]
 rfl
theorem m2 (h0:∀ n es p,es.length≤17→cl 0 [netD n es,.int p]=some (.lst (intL (near es p)))) (n:Nat) (es:List (Int×Int)) (hn:n≤9) (hl:es.length≤17):runF cl W K08.f1 [netD n es]=some (rowsD n es):=by
 refine zae ⟨rfl,by decide⟩ (zw (zac (fl:=.fresh) ?_))
 have hs:small (n:Int)=true:=zan (by lia)
 have e:=zgs (cl:=cl) (ρ:=[.val (netD n es)]) (e:=.call 0 (.cons (.var 1) (.cons (.var 0) .nil))) (t:=.one 0) (it:=.rng1 (.ix (.var 0) (.con (.int 0)))) (n:=1) (keep:=[0]) (ds:=rangeD 0 n) (b:=false)
  (fun d=>match d with | .int p=>.lst (intL (near es p)) | _=>.non)
  (by
   rw [evi,show ev cl (.ix (.var 0) (.con (.int 0))) [.val (netD n es)]=some (.int n,.solid) from rfl,Option.bind_some]
   show (if small (n:Int) then some (rangeD 0 n) else none).map _=_
   rw [hs]; rfl)
  (by
   intro d hd
   rw [zg9] at hd
   obtain ⟨p,_,rfl⟩:=List.mem_map.mp hd
   exact ⟨[.val (.int p),.val (netD n es)],(.lst (intL (near es p)),.solid),rfl,zk (zc rfl (zc rfl zi)) (h0 n es p hl),rfl⟩)
 show ev cl _ [.val (netD n es)]=_
 rw [e]
 unfold rangeD
 rw [List.map_map]
 congr 3
 apply List.map_congr_left
 intro p _
 show D.lst (intL (near es ((0:Int)+(p:Nat))))=_
 rw [Int.zero_add]
theorem turn (n:Nat) (es:List (Int×Int)) (hn:n≤9) (hs:es.Sublist (pairsM n)) (s:Int) (x:Nat) (hx:x < n) (ms ah:List Int) (vs:List D) (s6:Sl) (hm:ah.length≤100) (hd:ms.Nodup) (hlow:∀ v∈ms,0≤v∧v < (n:Int)) :
  ∃ vs' s6',ex cl W (.loop (.one 6) (.seq (.ix (.var 2) (.var 5))) (.cons (.cond (.and (.cmp .isin (.var 6) (.var 1)) (.cmp .notin (.var 6) (.var 3))) (.cons (.dput 3 (.var 6) (.con (.bl true))) (.cons (.app 4 (.var 6)) .nil)) .nil) .nil))
   [.val (.int s),.val (.lst (rangeD 0 n)),.val (rowsD n es),.dk (intL ms) vs,.own (intL ah),.val (.int (x:Nat)),s6]
   = some (.nx [.val (.int s),.val (.lst (rangeD 0 n)),.val (rowsD n es),.dk (intL (ms++addNew ms (near es (x:Nat)))) vs',.own (intL (ah++addNew ms (near es (x:Nat)))),.val (.int (x:Nat)),s6']):=by
 let R:List Int→List D→Sl→Rho:=fun new vs s6=>[.val (.int s),.val (.lst (rangeD 0 n)),.val (rowsD n es),.dk (intL (ms++new)) vs,.own (intL (ah++new)),.val (.int (x:Nat)),s6]
 have hnl:=zbf es (x:Nat)
 obtain ⟨ρ',e,vs',s6',rfl⟩:=zav (cl:=cl) (W:=W) (t:=.one 6) (it:=.seq (.ix (.var 2) (.var 5)))
  (b:=.cons (.cond (.and (.cmp .isin (.var 6) (.var 1)) (.cmp .notin (.var 6) (.var 3))) (.cons (.dput 3 (.var 6) (.con (.bl true))) (.cons (.app 4 (.var 6)) .nil)) .nil) .nil)
  (ρ:=R [] vs s6) (ds:=intL (near es (x:Nat)))
  (zai (x:=.lst (intL (near es (x:Nat)))) (zc2 (f:=.solid) (g:=.solid) (x:=rowsD n es) (y:=.int (x:Nat)) rfl rfl (by
   show (place ((List.range n).map fun p=>D.lst (intL (near es (p:Nat)))).length (x:Nat)).bind _=_
   rw [zba (by simpa using hx),Option.bind_some,List.getElem?_map,List.getElem?_range hx]; rfl)) rfl)
  (fun i ρ=>∃ vs' s6',ρ=R (addNew ms ((near es (x:Nat)).take i)) vs' s6') ⟨vs,s6,by simp [R,addNew]⟩ (by
   rintro i d ρ hi ⟨vs1,t6,rfl⟩
   rw [List.getElem?_map] at hi
   obtain ⟨q,hq,rfl⟩:∃ q,(near es (x:Nat))[i]? = some q∧D.int q=d:=by
    cases z:(near es (x:Nat))[i]? with
    | none=>rw [z] at hi; cases hi
    | some q=>rw [z] at hi; exact ⟨q,rfl,Option.some.inj hi⟩
   have ht:(near es (x:Nat)).take (i+1)=(near es (x:Nat)).take i++[q]:=by rw [List.take_succ,hq]; rfl
   have hqm:q∈near es (x:Nat):=List.mem_of_getElem? hq
   have hqr:q∈rngI n:=by
    have:=zfv hn hs hx hqm
    exact zo5.mpr (by lia)
   rw [ht,addNew_snoc]
   generalize hN:addNew ms ((near es (x:Nat)).take i)=new
   have hsub:∀ v∈new,v∈near es (x:Nat):=fun v hv=>by
    rw [← hN] at hv
    exact List.mem_of_mem_take ((addNew_facts _ ms hd).2.2 v hv)
   have hfit:(ms++new).length≤n:=fits n (ms++new) (by rw [← hN]; exact (addNew_facts _ ms hd).1) fun v hv=>by
    rcases List.mem_append.mp hv with hv | hv
    ·exact hlow v hv
    ·have:=zfv hn hs hx (hsub v hv); lia
   have t:evT cl (.and (.cmp .isin (.var 6) (.var 1)) (.cmp .notin (.var 6) (.var 3))) (R new vs1 (.val (.int q)))=some (true&&!decide (q∈ms++new)) :=
    zfy (zo (f:=.solid) (g:=.solid) (x:=.int q) (y:=.lst (rangeD 0 n)) rfl rfl (by rw [zg9,zgj,decide_eq_true hqr])) (zo (f:=.solid) (g:=.peek) (x:=.int q) (y:=.dic (intL (ms++new)) vs1) rfl rfl (zim _ _ _))
   by_cases hin:q∈ms++new
   ·rw [decide_eq_true hin] at t
    rw [if_pos hin,List.append_nil]
    refine ⟨R new vs1 (.val (.int q)),R new vs1 (.val (.int q)),rfl,?_,vs1,_,rfl⟩
    rw [zd (za1 t)]; rfl
   ·rw [decide_eq_false hin] at t
    rw [if_neg hin]
    refine ⟨R new vs1 (.val (.int q)),R (new++[q]) (vs1++[.bl true]) (.val (.int q)),rfl,?_,vs1++[.bl true],_,rfl⟩
    rw [zd (ρ':=R (new++[q]) (vs1++[.bl true]) (.val (.int q))) ?_]
    ·rfl
    rw [zdg t]
    show exs cl W _ _=_
    rw [zd (ρ':=[.val (.int s),.val (.lst (rangeD 0 n)),.val (rowsD n es),.dk (intL (ms++(new++[q]))) (vs1++[.bl true]),.own (intL (ah++new)),.val (.int (x:Nat)),.val (.int q)]) (by
     show (dputO (intL (ms++new)) vs1 (.int q) (.bl true)).map _=_
     rw [zlw _ _ _ _ hin (by lia),List.append_assoc]; rfl)]
    refine zd ?_
    show (if (intL (ah++new)).length < big then _ else _)=_
    rw [if_pos (by rw [List.length_map]; rw [List.length_append] at hfit ⊢; unfold big; lia)]
    show some (Out.nx [_,_,_,_,Sl.own (intL (ah++new)++[D.int q]),_,_])=some (Out.nx [_,_,_,_,Sl.own (intL (ah++(new++[q]))),_,_])
    simp [intL])
 have hlen:(intL (near es (x:Nat))).length=(near es (x:Nat)).length:=List.length_map _
 refine ⟨vs',s6',?_⟩
 rw [hlen,List.take_length] at e
 have e0:R [] vs s6=[.val (.int s),.val (.lst (rangeD 0 n)),.val (rowsD n es),.dk (intL ms) vs,.own (intL ah),.val (.int (x:Nat)),s6]:=by simp [R]
 rw [e0] at e
 exact e
theorem m3 (hW:100 < W) (n:Nat) (es:List (Int×Int)) (hn:n≤9) (hs:es.Sublist (pairsM n)) (s:Nat) (hsn:s < n) :
  ∃ l:List Int,runF cl W K08.f2 [.int (s:Nat),.lst (rangeD 0 n),rowsD n es]=some (.tup (intL l))∧l.Pairwise (· < ·)∧∀ v,v∈l↔Reach es (s:Nat) v:=by
 let R:List Int→List D→List Int→Sl→Sl→Rho:=fun ms vs ah s5 s6=>[.val (.int (s:Nat)),.val (.lst (rangeD 0 n)),.val (rowsD n es),.dk (intL ms) vs,.own (intL ah),s5,s6]
 have low:∀ {ms:List Int},(∀ v∈ms,Reach es (s:Nat) v)→∀ v∈ms,0≤v∧v < (n:Int):=fun h v hv=>(h v hv).low hn hs (by lia)
 have key:=za8 (c:=fun ρ=>evT cl (.var 4) ρ) (f:=fun ρ=>exs cl W (.cons (.pop (.one 5) 4 (.con (.int (-1)))) (.cons (.loop (.one 6) (.seq (.ix (.var 2) (.var 5))) (.cons (.cond (.and (.cmp .isin (.var 6) (.var 1)) (.cmp .notin (.var 6) (.var 3))) (.cons (.dput 3 (.var 6) (.con (.bl true))) (.cons (.app 4 (.var 6)) .nil)) .nil) .nil)) .nil)) ρ)
  (fun m ρ=>∃ ms vs ah s5 s6,ρ=R ms vs ah s5 s6∧ms.Nodup∧(∀ v∈ms,Reach es (s:Nat) v)∧(s:Int)∈ms∧(∀ v∈ah,v∈ms)∧(∀ v∈ms,v∈ah∨∀ y∈near es v,y∈ms)∧m+2 * ms.length=20+ah.length∧ah.length≤ms.length)
  (by
   rintro m ρ ⟨ms,vs,ah,s5,s6,rfl,hd,hr,hin,hah,hcl,hmm,hm0⟩
   have hfit:=fits n ms hd (low hr)
   rcases List.eq_nil_or_concat ah with rfl | ⟨a0,x,rfl⟩
   ·left; rfl
   ·rw [List.concat_eq_append] at *
    right
    have hxm:x∈ms:=hah x (by simp)
    have hxl:=low hr x hxm
    obtain ⟨p,rfl⟩:∃ p:Nat,x=p:=⟨x.toNat,by lia⟩
    refine ⟨?_,?_⟩
    ·show tru (.lst (intL (a0++[(p:Int)])))=some true
     simp [intL,tru,D.truthy]
    ·have hlenA:a0.length≤100:=by
      simp only [List.length_append,List.length_cons,List.length_nil] at hm0
      lia
     obtain ⟨vs',s6',e⟩:=turn (cl:=cl) (W:=W) n es hn hs (s:Nat) p (by lia) ms a0 vs s6 hlenA hd (low hr)
     obtain ⟨f1,f2,f3⟩:=addNew_facts (near es (p:Nat)) ms hd
     refine ⟨R (ms++addNew ms (near es (p:Nat))) vs' (a0++addNew ms (near es (p:Nat))) (.val (.int (p:Nat))) s6',20+(a0++addNew ms (near es (p:Nat))).length - 2 * (ms++addNew ms (near es (p:Nat))).length,?_,⟨_,vs',_,_,s6',rfl,f1,?_,List.mem_append_left _ hin,?_,?_,?_,?_⟩,?_⟩
     ·show exs cl W _ (R ms vs (a0++[(p:Int)]) s5 s6)=_
      rw [zd (zhy (l:=intL a0) (d:=.int (p:Nat)) (by show some (Sl.own (intL (a0++[(p:Int)])))=_; simp [intL]))]
      exact zd e
     ·intro v hv
      rcases List.mem_append.mp hv with hv | hv
      ·exact hr v hv
      ·exact (hr _ hxm).step (f3 v hv)
     ·intro v hv
      rcases List.mem_append.mp hv with hv | hv
      ·exact List.mem_append_left _ (hah v (List.mem_append_left _ hv))
      ·exact List.mem_append_right _ hv
     ·intro v hv
      rcases List.mem_append.mp hv with hv | hv
      ·rcases hcl v hv with hv' | hv'
       ·rcases List.mem_append.mp hv' with hv' | hv'
        ·exact .inl (List.mem_append_left _ hv')
        ·rw [List.mem_singleton] at hv'
         subst hv'
         exact .inr f2
       ·exact .inr fun y hy=>List.mem_append_left _ (hv' y hy)
      ·exact .inl (List.mem_append_right _ hv)
     ·have:=fits n _ f1 (low (ms:=ms++addNew ms (near es (p:Nat))) fun v hv=>by
       rcases List.mem_append.mp hv with hv | hv
       ·exact hr v hv
       ·exact (hr _ hxm).step (f3 v hv))
      lia
     ·simp only [List.length_append,List.length_cons,List.length_nil] at hm0 ⊢
      lia
     ·have:=fits n _ f1 (low (ms:=ms++addNew ms (near es (p:Nat))) fun v hv=>by
       rcases List.mem_append.mp hv with hv | hv
       ·exact hr v hv
       ·exact (hr _ hxm).step (f3 v hv))
      simp only [List.length_append,List.length_cons,List.length_nil] at hmm hm0 this ⊢
      lia
   ) W 19 (R [(s:Int)] [.bl true] [(s:Int)] .no .no) ⟨_,_,_,_,_,rfl,by simp,by simp; exact .refl,by simp,by simp,by simp,by simp,by simp⟩ (by lia)
 obtain ⟨ρ',m',e,⟨ms,vs,ah,s5,s6,rfl,hd,hr,hin,hah,hcl,hmm,hm0⟩,hend⟩:=key
 have hah0:ah=[]:=by
  cases ah with
  | nil=>rfl
  | cons x r=>exact absurd (show some (D.truthy (.lst (intL (x::r))))=some false from hend) (by simp [intL,D.truthy])
 subst hah0
 have hfit:=fits n ms hd (low hr)
 refine ⟨sortI ms,?_,?_,fun v=>?_⟩
 ·refine zae ⟨rfl,by decide⟩ ?_
  show exs cl W K08.f2.body [.val (.int (s:Nat)),.val (.lst (rangeD 0 n)),.val (rowsD n es),.no,.no,.no,.no]=_
  simp only [K08.f2]
  rw [zd (zt (r:=(.dic [.int (s:Nat)] [.bl true],.fresh)) (ρ':=[.val (.int (s:Nat)),.val (.lst (rangeD 0 n)),.val (rowsD n es),.dk [.int (s:Nat)] [.bl true],.no,.no,.no]) rfl rfl)]
  rw [zd (zt (r:=(.lst [.int (s:Nat)],.fresh)) (ρ':=R [(s:Int)] [.bl true] [(s:Int)] .no .no) rfl rfl)]
  rw [zd (ρ':=R ms vs [] s5 s6) (by rw [ex]; exact e)]
  refine zw (zac (fl:=.solid) (zaa (f:=.fresh) (x:=.lst (intL (sortI ms))) (zaa (f:=.peek) (x:=.dic (intL ms) vs) rfl ?_) rfl))
  show (if (intL ms).isEmpty then none else sortK (intL ms))=_
  rw [if_neg (by cases ms with | nil=>cases hin | cons _ _=>simp)]
  unfold sortK
  rw [zar]
  show sortO (intL ms)=_
  unfold sortO
  rw [zar]
  exact if_pos (by lia)
 ·have h1:=L2.zb0 ms
  have h2:(sortI ms).Nodup:=(L2.zu ms).nodup_iff.mpr hd
  exact (h1.and h2).imp fun h=>by lia
 ·rw [(L2.zu ms).mem_iff]
  refine ⟨hr v,fun q=>q.inv (fun x=>x∈ms) hin fun x y hx hy=>?_⟩
  rcases hcl x hx with h | h
  ·cases h
  ·exact h y hy
end
end K05
namespace K05
open PY K01 K02
theorem zlk (l:List Int) (q:Int):cmpop .isin (.int q) (.tup (intL l))=some (decide (q∈l)):=by
 show (if D.deep 8 (.int q)&&(intL l).all (D.deep 8) then _ else _)=_
 rw [zbr,zht]; rfl
noncomputable def unL:D→List Int
 | .tup l=>(ints? l).getD []
 | .lst l=>(ints? l).getD []
 | _=>[]
theorem zj6 (l:List Int):unL (tupI l)=l:=by show (ints? (intL l)).getD []=l; rw [zar]; rfl
theorem zd6 (l:List Int):unL (lstI l)=l:=by show (ints? (intL l)).getD []=l; rw [zar]; rfl
section
variable {cl:Nat→List D→Option D} {W:Nat}
theorem evT_bi {ρ:Rho} {o:Bi} {a:E} {x y:D} {f g:Fl} (ha:ev cl a ρ=some (x,f)) (h:bltin o x=some (y,g)):evT cl (.bi o a) ρ=tru y:=by
 rw [evT,ha,Option.bind_some,h]; rfl
structure Far (es:List (Int×Int)) (n i:Nat) (ps:List (List Int)):Prop where
 part:∀ l∈ps,Part es n l
 all:∀ v:Nat,v < i→∃ l∈ps,(v:Int)∈l
 head:∀ l∈ps,∃ h t,l=h::t∧h < (i:Int)
 pw:ps.Pairwise fun a b=>lexLt a b=true
theorem Far.skip {es:List (Int×Int)} {n i:Nat} {ps:List (List Int)} (h:Far es n i ps) (hi:∃ l∈ps,(i:Int)∈l):Far es n (i+1) ps :=
 ⟨h.part,fun v hv=>by
  by_cases e:v=i
  ·rw [e]; exact hi
  ·exact h.all v (by lia),fun l hl=>by
  obtain ⟨x,t,e,hx⟩:=h.head l hl
  exact ⟨x,t,e,by lia⟩,h.pw⟩
theorem Far.add {es:List (Int×Int)} {n i:Nat} {ps:List (List Int)} (h:Far es n i ps) (hi:i < n) (hno:¬ ∃ l∈ps,(i:Int)∈l) {l:List Int} (hn:n≤9) (hs:es.Sublist (pairsM n)) (up:l.Pairwise (· < ·)) (hl:∀ v,v∈l↔Reach es (i:Nat) v):Far es n (i+1) (ps++[l]):=by
 have pl:Part es n l:=⟨up,(i:Nat),by lia,hl⟩
 have hil:(i:Int)∈l:=(hl _).mpr .refl
 have hge:∀ v∈l,(i:Int)≤v:=fun v hv=>by
  have hlow:=((hl v).mp hv).low hn hs (by lia)
  by_cases hvi:v < (i:Int)
  ·obtain ⟨m,hm,hvm⟩:=h.all v.toNat (by lia)
   rw [show ((v.toNat:Nat):Int)=v by lia] at hvm
   have e:=(h.part m hm).eq pl hvm hv
   exact absurd ⟨m,hm,e▸hil⟩ hno
  ·lia
 have hhead:∃ t,l=(i:Int)::t:=by
  cases l with
  | nil=>cases hil
  | cons x t =>
   rcases List.mem_cons.mp hil with e | hx
   ·exact ⟨t,by rw [e]⟩
   ·have:=(List.pairwise_cons.mp up).1 _ hx
    have:=hge x List.mem_cons_self
    lia
 obtain ⟨t,rfl⟩:=hhead
 refine ⟨fun m hm=>?_,fun v hv=>?_,fun m hm=>?_,?_⟩
 ·rcases List.mem_append.mp hm with hm | hm
  ·exact h.part m hm
  ·rw [List.mem_singleton] at hm; subst hm; exact pl
 ·by_cases e:v=i
  ·exact ⟨_,List.mem_append_right _ (List.mem_singleton.mpr rfl),by rw [e]; exact hil⟩
  ·obtain ⟨m,hm,hv'⟩:=h.all v (by lia)
   exact ⟨m,List.mem_append_left _ hm,hv'⟩
 ·rcases List.mem_append.mp hm with hm | hm
  ·obtain ⟨x,t',e,hx⟩:=h.head m hm
   exact ⟨x,t',e,by lia⟩
  ·rw [List.mem_singleton] at hm; subst hm
   exact ⟨_,_,rfl,by lia⟩
 ·rw [List.pairwise_append]
  refine ⟨h.pw,by simp,fun m hm m' hm'=>?_⟩
  rw [List.mem_singleton] at hm'
  subst hm'
  obtain ⟨x,t',rfl,hx⟩:=h.head m hm
  unfold lexLt
  rw [if_neg (by simp; lia),decide_eq_true hx]
theorem Far.parts {es:List (Int×Int)} {n:Nat} {ps:List (List Int)} (h:Far es n n ps):Parts es n ps∧ps.Pairwise fun a b=>lexLt b a=false :=
 ⟨⟨h.part,fun v h0 hn=>by
   obtain ⟨l,hl,hv⟩:=h.all v.toNat (by lia)
   exact ⟨l,hl,by rw [show ((v.toNat:Nat):Int)=v by lia] at hv; exact hv⟩,h.pw.imp fun {a b} hab e=>by
   subst e; rw [HS.zdz] at hab; cases hab⟩,h.pw.imp fun hab=>L2.zd2 hab⟩
theorem m4 {n:Nat} {es:List (Int×Int)} (hn:n≤9) (hs:es.Sublist (pairsM n))
  (h3:∀ s:Nat,s < n→∃ l:List Int,cl 2 [.int (s:Nat),.lst (rangeD 0 n),rowsD n es]=some (.tup (intL l))∧l.Pairwise (· < ·)∧∀ v,v∈l↔Reach es (s:Nat) v) :
  ∃ ps:List (List Int),runF cl W K08.f3 [.lst (rangeD 0 n),rowsD n es]=some (.lst (ps.map tupI))∧Far es n n ps:=by
 have hlen:(rangeD 0 n).length=n:=by simp [rangeD]
 obtain ⟨ρ',e,ps,s3,rfl,hF,_⟩:=zav (cl:=cl) (W:=W) (t:=.one 3) (it:=.seq (.var 0))
  (b:=.cons (.cond (.not (.bi .any (.comp (.cmp .isin (.var 1) (.var 0)) (.one 0) (.seq (.var 2)) .no 1 [3]))) (.cons (.app 2 (.call 2 (.cons (.var 3) (.cons (.var 0) (.cons (.var 1) .nil))))) .nil) .nil) .nil)
  (ρ:=[.val (.lst (rangeD 0 n)),.val (rowsD n es),.own [],.no]) (ds:=rangeD 0 n) (zai (x:=.lst (rangeD 0 n)) rfl rfl)
  (fun i ρ=>∃ ps s3,ρ=[.val (.lst (rangeD 0 n)),.val (rowsD n es),.own (ps.map tupI),s3]∧Far es n i ps∧ps.length≤i) ⟨[],_,rfl,⟨by simp,by simp,by simp,by simp⟩,Nat.le_refl _⟩ (by
   rintro i d ρ hi ⟨ps,s3,rfl,hF,hpl⟩
   obtain ⟨hin,rfl⟩:=zbu hi
   rw [Int.zero_add]
   let R:Rho:=[.val (.lst (rangeD 0 n)),.val (rowsD n es),.own (ps.map tupI),.val (.int (i:Nat))]
   have t:evT cl (.not (.bi .any (.comp (.cmp .isin (.var 1) (.var 0)) (.one 0) (.seq (.var 2)) .no 1 [3]))) R=some (!(ps.any fun l=>decide ((i:Int)∈l))):=by
    refine zo1 ?_
    have e:=zgs (cl:=cl) (ρ:=R) (e:=.cmp .isin (.var 1) (.var 0)) (t:=.one 0) (it:=.seq (.var 2)) (n:=1) (keep:=[3]) (ds:=ps.map tupI) (b:=true) (fun d=>.bl (decide ((i:Int)∈unL d))) rfl (by
     intro d hd
     obtain ⟨l,_,rfl⟩:=List.mem_map.mp hd
     refine ⟨[.val (tupI l),.val (.int (i:Nat))],_,rfl,zi3 (f:=.solid) (g:=.solid) (x:=.int (i:Nat)) (y:=tupI l) rfl rfl (zlk l _),?_⟩
     show some (D.bl _)=some (D.bl _)
     rw [zj6])
    rw [List.map_map] at e
    have:=evT_bi e (zp8 (fun l=>decide ((i:Int)∈unL (tupI l))) ps)
    rw [this]
    show some (ps.any _)=_
    congr 2
    funext l
    rw [zj6]
   by_cases hc:∃ l∈ps,(i:Int)∈l
   ·have hb:(ps.any fun l=>decide ((i:Int)∈l))=true:=by
     obtain ⟨l,hl,hv⟩:=hc
     exact List.any_eq_true.mpr ⟨l,hl,decide_eq_true hv⟩
    rw [hb] at t
    refine ⟨R,R,rfl,?_,ps,_,rfl,hF.skip hc,by lia⟩
    rw [zd (za1 t)]; rfl
   ·have hb:(ps.any fun l=>decide ((i:Int)∈l))=false:=by
     rw [List.any_eq_false]
     intro l hl hv
     exact hc ⟨l,hl,of_decide_eq_true hv⟩
    rw [hb] at t
    obtain ⟨l,hc3,up,hl⟩:=h3 i hin
    refine ⟨R,[.val (.lst (rangeD 0 n)),.val (rowsD n es),.own ((ps++[l]).map tupI),.val (.int (i:Nat))],rfl,?_,ps++[l],_,rfl,hF.add hin hc hn hs up hl,by rw [List.length_append]; simp; lia⟩
    rw [zd (ρ':=[.val (.lst (rangeD 0 n)),.val (rowsD n es),.own ((ps++[l]).map tupI),.val (.int (i:Nat))]) ?_]
    ·rfl
    rw [zdg t]
    show exs cl W _ _=_
    refine zd ?_
    have hcall:ev cl (.call 2 (.cons (.var 3) (.cons (.var 0) (.cons (.var 1) .nil)))) R=some (.tup (intL l),.solid):=zk (zc rfl (zc rfl (zc rfl zi))) hc3
    simp only [ex,hcall,Option.bind_some]
    show (if (ps.map tupI).length < big then some (Out.nx [_,_,Sl.own (ps.map tupI++[tupI l]),_]) else none)=_
    rw [if_pos (by rw [List.length_map]; unfold big; lia),List.map_append]
    rfl)
 rw [hlen] at hF
 refine ⟨ps,zae ⟨rfl,by decide⟩ ?_,hF⟩
 show exs cl W K08.f3.body [.val (.lst (rangeD 0 n)),.val (rowsD n es),.no,.no]=_
 simp only [K08.f3]
 rw [zd (zt (r:=(.lst [],.fresh)) (ρ':=[.val (.lst (rangeD 0 n)),.val (rowsD n es),.own [],.no]) rfl rfl)]
 rw [zd (by rw [ex]; exact e)]
 exact zw (zac (fl:=.peek) rfl)
theorem m5 {n:Nat} {es:List (Int×Int)} (hn:n≤9) (h2:cl 1 [netD n es]=some (rowsD n es)) {ps:List (List Int)} (h4:cl 3 [.lst (rangeD 0 n),rowsD n es]=some (.lst (ps.map tupI))) :
  runF cl W K08.f4 [netD n es]=some (.tup (ps.map tupI)):=by
 have hs:small (n:Int)=true:=zan (by lia)
 refine zae ⟨rfl,by decide⟩ (zw (zac (fl:=.solid) (zaa (f:=.solid) (x:=.lst (ps.map tupI)) (zk (ds:=[.lst (rangeD 0 n),rowsD n es]) (zfc ?_ (zc (zk (zc rfl zi) h2) zi)) h4) rfl)))
 rw [ev,evi,show ev cl (.ix (.var 0) (.con (.int 0))) (List.map Sl.val [netD n es]++List.replicate (K08.f4.n - K08.f4.ps) Sl.no)=some (.int n,.solid) from rfl,Option.bind_some]
 show ((if small (n:Int) then some (rangeD 0 n) else none).map _).bind _=_
 rw [hs]; rfl
end
end K05
namespace K05
open PY K01 K02
theorem zil:∀ qs:List (List Int),lsts? (qs.map lstI)=some qs
 | []=>rfl
 | l::r=>by
  show (ints? (intL l)).bind _=_
  rw [zar,Option.bind_some,zil r]; rfl
theorem sort_lists (qs:List (List Int)) (h:qs.length < 64):sortO (qs.map lstI)=some (.lst ((sortT qs).map lstI),.fresh):=by
 cases qs with
 | nil=>rfl
 | cons l r =>
  unfold sortO
  rw [show ints? ((l::r).map lstI)=none from rfl,show tups? ((l::r).map lstI)=none from rfl]
  simp only [zil,Option.bind_some]
  rw [if_pos h]
theorem zd0 (l m:List Int):cmpop .ne (lstI l) (lstI m)=some (!decide (l=m)):=by
 show (if D.deep 8 (lstI l)&&D.deep 8 (lstI m) then _ else _)=_
 rw [show D.deep 8 (lstI l)=true from zdv l,show D.deep 8 (lstI m)=true from zdv m]
 show some (!D.eqs (intL l) (intL m))=_
 rw [zhe]
theorem zmj (l:List Int) (q:Int):cmpop .isin (.int q) (lstI l)=some (decide (q∈l)):=zgj l q
section
variable {cl:Nat→List D→Option D} {W:Nat}
theorem pick {qs:List (List Int)} {v:Int} {i:Nat} {ρ:Rho} (hq:ρ[2]? = some (.own (qs.map lstI))) (hv:ρ[i]? = some (.val (.int v))) (h:∃ l∈qs,v∈l) :
  ∃ l∈qs,v∈l∧ev cl (.ix (.comp (.var 0) (.one 0) (.seq (.var 2)) (.so (.cmp .isin (.var 1) (.var 0))) 1 [i]) (.con (.int 0))) ρ=some (lstI l,.solid):=by
 have hi:inner ρ 1 [i]=[.no,.val (.int v)]:=by
  show [Sl.no,ρ.getD i .no]=_
  rw [List.getD_eq_getElem?_getD,hv]; rfl
 have e:=zbz (cl:=cl) (ρ:=ρ) (e:=.var 0) (c:=.cmp .isin (.var 1) (.var 0)) (t:=.one 0) (it:=.seq (.var 2)) (n:=1) (keep:=[i]) (ds:=qs.map lstI) (b:=true) (fun d=>decide (v∈unL d)) (fun d=>d)
  (by rw [evi,ev,slot,hq]; rfl) (by
   intro d hd
   obtain ⟨l,_,rfl⟩:=List.mem_map.mp hd
   rw [hi]
   refine ⟨[.val (lstI l),.val (.int v)],rfl,?_,fun _=>⟨(lstI l,.solid),rfl,rfl⟩⟩
   rw [zd6]
   exact zo (f:=.solid) (g:=.solid) (x:=.int v) (y:=lstI l) rfl rfl (zmj l v))
 have hf:(qs.map lstI).filter (fun d=>decide (v∈unL d))=(qs.filter fun l=>decide (v∈l)).map lstI:=by
  rw [List.filter_map]
  congr 2
  funext l
  simp only [Function.comp,zd6]
 rw [hf,List.map_id''] at e
 ·obtain ⟨l,hl,hvl⟩:=h
  cases hc:qs.filter fun l=>decide (v∈l) with
  | nil =>
   have:l∈qs.filter fun l=>decide (v∈l):=List.mem_filter.mpr ⟨hl,decide_eq_true hvl⟩
   rw [hc] at this
   cases this
  | cons m r =>
   have hm:m∈qs.filter fun l=>decide (v∈l):=by rw [hc]; exact List.mem_cons_self
   obtain ⟨h1,h2⟩:=List.mem_filter.mp hm
   refine ⟨m,h1,of_decide_eq_true h2,?_⟩
   rw [hc] at e
   exact zc2 (f:=.fresh) (g:=.solid) (y:=.int 0) e rfl rfl
 ·intro _; rfl
theorem m15 {n:Nat} {es:List (Int×Int)} (hn:n≤9) (hs:es.Sublist (pairsM n)):∃ qs:List (List Int),runF cl W K08.f19 [.int n,.tup (es.map pr)]=some (.lst ((sortT qs).map lstI))∧Parts es n qs:=by
 have hsm:small (n:Int)=true:=zan (by lia)
 have len:∀ {i:Nat} {qs:List (List Int)},Parts (es.take i) n qs→qs.length≤n:=fun {i qs} h=>h.len fun a b r=>r.low hn ((List.take_sublist i es).trans hs)
 obtain ⟨ρ',e,qs,s3,s4,s5,s6,rfl,hP⟩:=zav (cl:=cl) (W:=W) (t:=.many [3,4]) (it:=.seq (.var 1))
  (b:=.cons (.asg (.one 5) (.ix (.comp (.var 0) (.one 0) (.seq (.var 2)) (.so (.cmp .isin (.var 1) (.var 0))) 1 [3]) (.con (.int 0))))
   (.cons (.asg (.one 6) (.ix (.comp (.var 0) (.one 0) (.seq (.var 2)) (.so (.cmp .isin (.var 1) (.var 0))) 1 [4]) (.con (.int 0))))
   (.cons (.cond (.cmp .ne (.var 5) (.var 6)) (.cons (.asg (.one 2) (.bin .add (.comp (.var 0) (.one 0) (.seq (.var 2)) (.so (.and (.cmp .ne (.var 0) (.var 1)) (.cmp .ne (.var 0) (.var 2)))) 1 [5,6]) (.lst (.cons (.bi .sorted (.bin .add (.var 5) (.var 6))) .nil)))) .nil) .nil) .nil)))
  (ρ:=[.val (.int n),.val (.tup (es.map pr)),.own (((List.range n).map fun i=>[(0:Int)+(i:Nat)]).map lstI),.no,.no,.no,.no]) (ds:=es.map pr) (zai (x:=.tup (es.map pr)) rfl rfl)
  (fun i ρ=>∃ qs s3 s4 s5 s6,ρ=[.val (.int n),.val (.tup (es.map pr)),.own (qs.map lstI),s3,s4,s5,s6]∧Parts (es.take i) n qs) ⟨_,_,_,_,_,rfl,by rw [List.take_zero]; exact zii n⟩ (by
   rintro i d ρ hi ⟨qs,s3,s4,s5,s6,rfl,hP⟩
   rw [List.getElem?_map] at hi
   obtain ⟨⟨a,b⟩,hq,rfl⟩:∃ q,es[i]? = some q∧pr q=d:=by
    cases z:es[i]? with
    | none=>rw [z] at hi; cases hi
    | some q=>rw [z] at hi; exact ⟨q,rfl,Option.some.inj hi⟩
   have ht:es.take (i+1)=es.take i++[(a,b)]:=by rw [List.take_succ,hq]; rfl
   have hab:=zo9 hn hs (List.mem_of_getElem? hq)
   obtain ⟨l,hl,hal,e5⟩:=pick (cl:=cl) (qs:=qs) (v:=a) (i:=3) (ρ:=[.val (.int n),.val (.tup (es.map pr)),.own (qs.map lstI),.val (.int a),.val (.int b),s5,s6]) rfl rfl (hP.all a (by lia) (by simp at hab; lia))
   obtain ⟨m,hm,hbm,e6⟩:=pick (cl:=cl) (qs:=qs) (v:=b) (i:=4) (ρ:=[.val (.int n),.val (.tup (es.map pr)),.own (qs.map lstI),.val (.int a),.val (.int b),.val (lstI l),s6]) rfl rfl (hP.all b (by simp at hab; lia) (by simp at hab; lia))
   let R:List (List Int)→Rho:=fun qs=>[.val (.int n),.val (.tup (es.map pr)),.own (qs.map lstI),.val (.int a),.val (.int b),.val (lstI l),.val (lstI m)]
   have t:evT cl (.cmp .ne (.var 5) (.var 6)) (R qs)=some (!decide (l=m)):=zo (f:=.solid) (g:=.solid) (x:=lstI l) (y:=lstI m) rfl rfl (zd0 l m)
   rw [ht]
   by_cases hlm:l=m
   ·rw [decide_eq_true hlm] at t
    refine ⟨[.val (.int n),.val (.tup (es.map pr)),.own (qs.map lstI),.val (.int a),.val (.int b),s5,s6],R qs,rfl,?_,qs,_,_,_,_,rfl,zij hP hl hal (hlm▸hbm)⟩
    rw [zd (zm (ρ':=[.val (.int n),.val (.tup (es.map pr)),.own (qs.map lstI),.val (.int a),.val (.int b),.val (lstI l),s6]) e5 rfl),zd (zm (ρ':=R qs) e6 rfl),zd (za1 t)]
    rfl
   ·rw [decide_eq_false hlm] at t
    refine ⟨[.val (.int n),.val (.tup (es.map pr)),.own (qs.map lstI),.val (.int a),.val (.int b),s5,s6],R _,rfl,?_,_,_,_,_,_,rfl,zh2 hP hl hm hal hbm hlm⟩
    rw [zd (zm (ρ':=[.val (.int n),.val (.tup (es.map pr)),.own (qs.map lstI),.val (.int a),.val (.int b),.val (lstI l),s6]) e5 rfl),zd (zm (ρ':=R qs) e6 rfl),zd (ρ':=R (qs.filter (fun q=>!decide (q=l)&&!decide (q=m))++[sortI (l++m)])) ?_]
    ·rfl
    rw [zdg t]
    show exs cl W _ _=_
    have ec:=zbz (cl:=cl) (ρ:=R qs) (e:=.var 0) (c:=.and (.cmp .ne (.var 0) (.var 1)) (.cmp .ne (.var 0) (.var 2))) (t:=.one 0) (it:=.seq (.var 2)) (n:=1) (keep:=[5,6]) (ds:=qs.map lstI) (b:=true) (fun d=>!decide (unL d=l)&&!decide (unL d=m)) (fun d=>d) rfl (by
     intro d hd
     obtain ⟨q,_,rfl⟩:=List.mem_map.mp hd
     refine ⟨[.val (lstI q),.val (lstI l),.val (lstI m)],rfl,?_,fun _=>⟨(lstI q,.solid),rfl,rfl⟩⟩
     rw [zd6]
     exact zfy (zo (f:=.solid) (g:=.solid) (x:=lstI q) (y:=lstI l) rfl rfl (zd0 q l)) (zo (f:=.solid) (g:=.solid) (x:=lstI q) (y:=lstI m) rfl rfl (zd0 q m)))
    have hf:(qs.map lstI).filter (fun d=>!decide (unL d=l)&&!decide (unL d=m))=(qs.filter fun q=>!decide (q=l)&&!decide (q=m)).map lstI:=by
     rw [List.filter_map]
     congr 2
     funext q
     simp only [Function.comp,zd6]
    rw [hf,List.map_id'' (by intro _; rfl)] at ec
    have hsum:(l++m).length < 64:=by
     have:=fits n (l++m) (List.nodup_append.mpr ⟨(hP.part l hl).up.imp fun h=>by lia,(hP.part m hm).up.imp fun h=>by lia,fun x hx y hy e=>hlm ((hP.part l hl).eq (hP.part m hm) hx (e▸hy))⟩) fun v hv=>by
      have hlw:∀ q∈qs,v∈q→0≤v∧v < (n:Int):=fun q hq hvq=>by
       obtain ⟨s,hs',h1⟩:=(hP.part q hq).one
       exact ((h1 v).mp hvq).low hn ((List.take_sublist i es).trans hs) hs'
      rcases List.mem_append.mp hv with hv | hv
      ·exact hlw l hl hv
      ·exact hlw m hm hv
     lia
    have hq9:=len hP
    refine zd (zt (r:=(.lst ((qs.filter (fun q=>!decide (q=l)&&!decide (q=m))++[sortI (l++m)]).map lstI),.fresh)) (zl (f:=.fresh) (g:=.fresh) (y:=.lst [lstI (sortI (l++m))]) ec (zp7 (zfc (zaa (f:=.fresh) (x:=.lst (intL (l++m))) (zl (f:=.solid) (g:=.solid) (x:=lstI l) (y:=lstI m) rfl rfl (zco l m (by rw [List.length_append] at hsum; lia))) ?_) zi) (by unfold big; simp)) ?_) rfl)
    ·show sortO (intL (l++m))=_
     unfold sortO
     rw [zar]
     exact if_pos hsum
    ·show (if ((qs.filter _).map lstI).length+[lstI (sortI (l++m))].length≤big then _ else _)=_
     rw [if_pos (by
      rw [List.length_map]
      have:=List.length_filter_le (fun q=>!decide (q=l)&&!decide (q=m)) qs
      simp [big]; lia),List.map_append]
     rfl)
 rw [List.length_map,List.take_length] at hP
 have hq9:=len (i:=es.length) (qs:=qs) (by rw [List.take_length]; exact hP)
 refine ⟨qs,zae ⟨rfl,by decide⟩ ?_,hP⟩
 show exs cl W K08.f19.body [.val (.int n),.val (.tup (es.map pr)),.no,.no,.no,.no,.no]=_
 simp only [K08.f19]
 have e1:=zgs (cl:=cl) (ρ:=[.val (.int n),.val (.tup (es.map pr)),.no,.no,.no,.no,.no]) (e:=.lst (.cons (.var 0) .nil)) (t:=.one 0) (it:=.rng1 (.var 0)) (n:=1) (keep:=[]) (ds:=rangeD 0 n) (b:=false) (fun d=>.lst [d])
  (by
   rw [evi,show ev cl (.var 0) [.val (.int n),.val (.tup (es.map pr)),.no,.no,.no,.no,.no]=some (.int n,.solid) from rfl,Option.bind_some]
   show (if small (n:Int) then some (rangeD 0 n) else none).map _=_
   rw [hsm]; rfl) (fun d _=>⟨[.val d],(.lst [d],.fresh),rfl,rfl,rfl⟩)
 rw [zd (zt (r:=(.lst (((List.range n).map fun i=>[(0:Int)+(i:Nat)]).map lstI),.fresh)) (ρ':=[.val (.int n),.val (.tup (es.map pr)),.own (((List.range n).map fun i=>[(0:Int)+(i:Nat)]).map lstI),.no,.no,.no,.no]) (by
  rw [e1]; unfold rangeD; rw [List.map_map,List.map_map]; rfl) rfl)]
 rw [zd (by rw [ex]; exact e)]
 exact zw (zac (fl:=.fresh) (zaa (f:=.peek) (x:=.lst (qs.map lstI)) rfl (sort_lists qs (by lia))))
end
end K05
namespace K08
open PY K01 K02 K20 EU K05
theorem zkj:∀ (l:List Int) (a:Int),l.foldl (· + ·) a=a+l.sum
 | [],a=>by simp
 | x::l,a=>by rw [List.foldl_cons,zkj l,List.sum_cons]; lia
theorem zms (ls:List (List Int)):sumI (ls.map fun l=>(l.length:Int))=(ls.flatten.length:Int):=by
 unfold sumI
 rw [zkj,Int.zero_add]
 induction ls with
 | nil=>rfl
 | cons l ls ih=>rw [List.map_cons,List.sum_cons,ih,List.flatten_cons,List.length_append]; lia
theorem half (a:Int):binop .fdiv (.int a) (.int 2)=some (.int (a / 2),.solid):=by
 show (if (0:Int) < 2∧(2:Int) < 1073741824 then some (D.int (a / 2),Fl.solid) else none)=_
 rw [if_pos (by decide)]
noncomputable def twice (es:List Dt) (ps:List (List Int)) (fs:List (List Dt)):Int:=(es.length:Int)+2 * ((big ps).length:Int) - ((big ps).flatten.length:Int) - (fs.length:Int)
section
variable {cl:Nat→List D→Option D} {W:Nat} {n:Nat} {es:List Dt} {L:List (List Int)} {ps:List (List Int)} {fs:List (List Dt)}
theorem znu (c:Ctx n es L) (hn:n≤9) (hp:Parts es n ps):(big ps).flatten.length≤9∧(big ps).length≤9:=by
 have a:=fits n (big ps).flatten (zbt hp) fun x hx=>by
  obtain ⟨l,hl,hx⟩:=List.mem_flatten.mp hx
  exact EU.Parts.low hp c.whl hl hx
 have b:∀ ls:List (List Int),(∀ l∈ls,1 < l.length)→ls.length≤ls.flatten.length:=fun ls=>by
  induction ls with
  | nil=>intro _; simp
  | cons l ls ih =>
   intro h
   have h1:=h l List.mem_cons_self
   have h2:=ih fun m hm=>h m (List.mem_cons_of_mem _ hm)
   rw [List.flatten_cons,List.length_append,List.length_cons]
   lia
 have:=b (big ps) fun l hl=>(zap.mp hl).2
 lia
theorem zq0 (ls:List (List Int)):∀ l∈ls,l.length≤ls.flatten.length:=fun l hl=>by
 induction ls with
 | nil=>cases hl
 | cons m ls ih =>
  rw [List.flatten_cons,List.length_append]
  rcases List.mem_cons.mp hl with rfl | hl
  ·lia
  ·have:=ih hl; lia
theorem m8 (c:Ctx n es L) (hn:n≤9) (hp:Parts es n ps) (h4:cl 4 [netD n es]=some (.tup (ps.map tupI))) (h7:cl 7 [netD n es,wD L]=some (.tup (fs.map tupP))):runF cl W f8 [netD n es,wD L]=some (.int (twice es ps fs / 2)):=by
 obtain ⟨b1,b2⟩:=znu c hn hp
 refine zae ⟨rfl,by decide⟩ ?_
 show exs cl W f8.body [.val (netD n es),.val (wD L),.no]=_
 simp only [f8]
 let sz:List Int:=(big ps).map fun l=>(l.length:Int)
 let ρ:Rho:=[.val (netD n es),.val (wD L),.own (intL sz)]
 have e1:ev cl (.comp (.bi .len (.var 0)) (.one 0) (.seq (.call 4 (.cons (.var 0) .nil))) (.so (.cmp .gt (.bi .len (.var 0)) (.con (.int 1)))) 1 []) [.val (netD n es),.val (wD L),.no]=some (.lst (intL sz),.fresh):=by
  have:=zbd (cl:=cl) (ρ:=[.val (netD n es),.val (wD L),.no]) (e:=.bi .len (.var 0)) (c:=.cmp .gt (.bi .len (.var 0)) (.con (.int 1))) (t:=.one 0) (it:=.seq (.call 4 (.cons (.var 0) .nil))) (n:=1) (keep:=[]) (l:=ps) (φ:=tupI) (b:=false) (fun l=>decide (1 < l.length)) (fun l=>.int (l.length:Int))
   (zai (x:=.tup (ps.map tupI)) (zk (zc rfl zi) h4) rfl) fun l _=>by
    have el:ev cl (.bi .len (.var 0)) [.val (tupI l)]=some (.int (l.length:Int),.solid):=by
     refine (zaa (f:=.solid) (x:=tupI l) rfl rfl).trans ?_
     show some (D.int ((intL l).length:Int),Fl.solid)=_
     rw [List.length_map]
    refine ⟨[.val (tupI l)],rfl,(zo (f:=.solid) (g:=.solid) el rfl rfl).trans ?_,fun _=>⟨_,el,rfl⟩⟩
    congr 1
    exact decide_eq_decide.mpr (by lia)
  rw [this]
  show some (D.lst ((big ps).map fun l=>D.int (l.length:Int)),Fl.fresh)=some (D.lst (List.map D.int ((big ps).map fun l=>(l.length:Int))),Fl.fresh)
  rw [List.map_map]
  rfl
 rw [zd (zt (r:=(.lst (intL sz),.fresh)) (ρ':=ρ) e1 rfl)]
 have l1:ev cl (.bi .len (.ix (.var 0) (.con (.int 1)))) ρ=some (.int (es.length:Int),.solid):=by
  refine (zaa (f:=.solid) (x:=.tup (es.map pr)) rfl rfl).trans ?_
  rw [List.length_map]
 have l2:ev cl (.bi .len (.var 2)) ρ=some (.int ((big ps).length:Int),.solid):=by
  refine (zaa (f:=.peek) (x:=.lst (intL sz)) rfl rfl).trans ?_
  show some (D.int ((List.map D.int ((big ps).map fun l=>(l.length:Int))).length:Int),Fl.solid)=_
  rw [List.length_map,List.length_map]
 have l3:ev cl (.bi .sum (.var 2)) ρ=some (.int ((big ps).flatten.length:Int),.solid):=by
  refine (zaa (o:=.sum) (f:=.peek) (x:=.lst (intL sz)) (r:=(.int ((big ps).flatten.length:Int),.solid)) rfl ?_)
  show (ints? (intL sz)).bind (fun ns=>if decide (ns.length≤4000)&&ns.all (fun n=>decide (-4000≤n)&&decide (n≤4000)) then some (D.int (sumI ns),Fl.solid) else none)=_
  rw [zar,Option.bind_some,if_pos,show sumI sz=_ from zms (big ps)]
  rw [Bool.and_eq_true,decide_eq_true_eq,List.all_eq_true]
  refine ⟨by show (List.map _ (big ps)).length≤_; rw [List.length_map]; lia,fun x hx=>?_⟩
  obtain ⟨l,hl,rfl⟩:=List.mem_map.mp hx
  have:=zq0 (big ps) l hl
  rw [decide_eq_true (by lia),decide_eq_true (by lia)]; rfl
 have l4:ev cl (.bi .len (.call 7 (.cons (.var 0) (.cons (.var 1) .nil)))) ρ=some (.int (fs.length:Int),.solid):=by
  refine (zaa (f:=.solid) (x:=.tup (fs.map tupP)) (zk (zc rfl (zc rfl zi)) h7) rfl).trans ?_
  rw [List.length_map]
 refine zw (zac (fl:=.solid) (zl (f:=.solid) (g:=.solid) (x:=.int (twice es ps fs)) (y:=.int 2) (zl (f:=.solid) (g:=.solid) (zl (f:=.solid) (g:=.solid) (zl (f:=.solid) (g:=.solid) l1 (zl (f:=.solid) (g:=.solid) (x:=.int 2) rfl l2 (zkv 2 _ (by decide))) rfl) l3 rfl) l4 rfl) rfl ?_))
 exact half _
noncomputable def part (es:List Dt) (fs:List (List Dt)) (l:List Int):Int:=((es.filter fun e=>decide (e.1∈l)).length:Int)+2 - (l.length:Int) - ((fs.filter fun f=>decide ((hd f).1∈l)).length:Int)
theorem zkr (c:Ctx n es L) (hp:Parts es n ps) {l:List Int} (hl:l∈ps):(es.filter fun e=>decide (e.1∈l))≠[]↔1 < l.length:=by
 constructor
 ·intro h
  obtain ⟨e,r,he⟩:=List.exists_cons_of_ne_nil h
  have hm:e∈es.filter fun e=>decide (e.1∈l):=by rw [he]; exact List.mem_cons_self
  rw [List.mem_filter,decide_eq_true_eq] at hm
  have k:e.2∈l:=((hp.part l hl).reach hm.2 e.2).mpr (Reach.refl.step (zaz.mp (zz.mpr (.inl hm.1))))
  exact two_len hm.2 k (by have:=(c.whl.ein e hm.1).2.1; lia)
 ·intro h k
  obtain ⟨v,_,hv⟩:=(hp.part l hl).ne
  obtain ⟨u,hu⟩:=zfw hp (zap.mpr ⟨hl,h⟩) hv
  have hul:u∈l:=((hp.part l hl).reach hv u).mpr (Reach.refl.step (zaz.mp hu))
  have:∃ e∈es,e.1∈l:=by
   rcases zz.mp hu with z | z
   ·exact ⟨_,z,hv⟩
   ·exact ⟨_,z,hul⟩
  obtain ⟨e,he,hel⟩:=this
  have:e∈es.filter fun e=>decide (e.1∈l):=List.mem_filter.mpr ⟨he,decide_eq_true hel⟩
  rw [k] at this
  cases this
theorem zdo (p:List Int→Bool) (g:List Int→Int):∀ ls:List (List Int),(ls.map fun l=>if p l then g l else 0).sum=((ls.filter p).map g).sum
 | []=>rfl
 | l::ls=>by
  rw [List.map_cons,List.sum_cons,zdo p g ls,List.filter_cons]
  cases p l with
  | true=>rw [if_pos rfl,if_pos rfl,List.map_cons,List.sum_cons]
  | false=>rw [if_neg Bool.false_ne_true,if_neg Bool.false_ne_true,Int.zero_add]
theorem zhb (es:List Dt) (fs:List (List Dt)):∀ ls:List (List Int),(ls.map (part es fs)).sum=((ls.map fun l=>(es.filter fun e=>decide (e.1∈l)).length).sum:Int)+2 * (ls.length:Int) - (ls.flatten.length:Int) - ((ls.map fun l=>(fs.filter fun f=>decide ((hd f).1∈l)).length).sum:Int)
 | []=>rfl
 | l::ls=>by
  simp only [List.map_cons,List.sum_cons,List.flatten_cons,List.length_append,List.length_cons]
  rw [zhb es fs ls]
  unfold part
  lia
theorem total (c:Ctx n es L) (hp:Parts es n ps) (hf:Fcs (bhd (wh L)) (dts es) fs):(ps.map fun l=>if decide (1 < l.length) then part es fs l else 0).sum=twice es ps fs:=by
 rw [zdo (fun l=>decide (1 < l.length)) (part es fs)]
 show ((big ps).map (part es fs)).sum=_
 rw [zhb]
 have s1:=zct (zbt hp) (fun e:Dt=>e.1) (xs:=es) fun e he=>c.whl.some hp (zz.mpr (.inl he))
 have s2:=zct (zbt hp) (fun f:List Dt=>(hd f).1) (xs:=fs) fun f hf'=>by
  obtain ⟨a,ha,o,_⟩:=hf.orb f hf'
  rw [show hd f=a from o.head]
  exact c.whl.some hp ha
 rw [s1,s2]
 rfl
theorem zkf (l:List Int) (q:Int):cmpop .isin (.int q) (lstI l)=some (decide (q∈l)):=zgj l q
theorem m20 (c:Ctx n es L) (hn:n≤9) (hp:Parts es n ps) (hf:Fcs (bhd (wh L)) (dts es) fs) (h18:cl 18 [netD n es,wD L]=some (.lst (fs.map tupP))) (h19:cl 19 [.int n,.tup (es.map pr)]=some (.lst (ps.map lstI))):runF cl W f20 [netD n es,wD L]=some (.int (twice es ps fs / 2)):=by
 let t:List Int→Int:=fun l=>if decide (1 < l.length) then part es fs l else 0
 let R:Int→Sl→Sl→Rho:=fun a s4 s5=>[.val (netD n es),.val (wD L),.val (.lst (fs.map tupP)),.val (.int a),s4,s5]
 let B:Ss:=.cons (.asg (.one 5) (.comp (.var 0) (.one 0) (.seq (.ix (.var 0) (.con (.int 1)))) (.so (.cmp .isin (.ix (.var 0) (.con (.int 0))) (.var 1))) 1 [4])) (.cons (.cond (.var 5) (.cons (.asg (.one 3) (.bin .sub (.bin .sub (.bin .add (.bin .add (.var 3) (.bi .len (.var 5))) (.con (.int 2))) (.bi .len (.var 4))) (.bi .len (.comp (.var 0) (.one 0) (.seq (.var 2)) (.so (.cmp .isin (.ix (.ix (.var 0) (.con (.int 0))) (.con (.int 0))) (.var 1))) 1 [4])))) .nil) .nil) .nil)
 obtain ⟨ρ',e,s4,s5,rfl⟩:=zgy (cl:=cl) (W:=W) (t:=.one 4) (it:=.seq (.call 19 (.cons (.ix (.var 0) (.con (.int 0))) (.cons (.ix (.var 0) (.con (.int 1))) .nil)))) (b:=B) (ρ:=R 0 .no .no) (l:=ps) (φ:=lstI)
  (zai (x:=.lst (ps.map lstI)) (zk (ds:=[.int n,.tup (es.map pr)]) (zc rfl (zc rfl zi)) h19) rfl)
  (fun i ρ=>∃ s4 s5,ρ=R ((ps.take i).map t).sum s4 s5) ⟨.no,.no,rfl⟩ (by
   rintro i l ρ hi ht ⟨s4,s5,rfl⟩
   have hl:l∈ps:=List.mem_of_getElem? hi
   have hs:((ps.take (i+1)).map t).sum=((ps.take i).map t).sum+t l:=by
    rw [ht,List.map_append,List.sum_append]; simp
   generalize ((ps.take i).map t).sum=a at hs ⊢
   let E:=es.filter fun e=>decide (e.1∈l)
   have e1:ev cl (.comp (.var 0) (.one 0) (.seq (.ix (.var 0) (.con (.int 1)))) (.so (.cmp .isin (.ix (.var 0) (.con (.int 0))) (.var 1))) 1 [4]) (R a (.val (lstI l)) s5)=some (.lst (E.map pr),.fresh) :=
    zbd (φ:=pr) (l:=es) (b:=false) (fun e=>decide (e.1∈l)) pr (zai (x:=.tup (es.map pr)) rfl rfl) fun d _=>⟨[.val (pr d),.val (lstI l)],rfl,zo (f:=.solid) (g:=.solid) (x:=.int d.1) (y:=lstI l) rfl rfl (zkf l d.1),fun _=>⟨(pr d,.solid),rfl,rfl⟩⟩
   have e2:ev cl (.bi .len (.comp (.var 0) (.one 0) (.seq (.var 2)) (.so (.cmp .isin (.ix (.ix (.var 0) (.con (.int 0))) (.con (.int 0))) (.var 1))) 1 [4])) (R a (.val (lstI l)) (.own (E.map pr)))=some (.int ((fs.filter fun f=>decide ((hd f).1∈l)).length:Int),.solid):=by
    have:=zbd (cl:=cl) (ρ:=R a (.val (lstI l)) (.own (E.map pr))) (e:=.var 0) (c:=.cmp .isin (.ix (.ix (.var 0) (.con (.int 0))) (.con (.int 0))) (.var 1)) (t:=.one 0) (it:=.seq (.var 2)) (n:=1) (keep:=[4]) (φ:=tupP) (l:=fs) (b:=false) (fun f=>decide ((hd f).1∈l)) tupP (zai (x:=.lst (fs.map tupP)) rfl rfl) fun f hf'=>by
     obtain ⟨x,_,o,_⟩:=hf.orb f hf'
     obtain ⟨y,r,rfl⟩:∃ y r,f=y::r:=List.exists_cons_of_ne_nil fun z=>by have:=o.len; rw [z] at this; exact absurd this (by decide)
     exact ⟨[.val (tupP (y::r)),.val (lstI l)],rfl,zo (f:=.solid) (g:=.solid) (x:=.int y.1) (y:=lstI l) rfl rfl (zkf l y.1),fun _=>⟨(tupP (y::r),.solid),rfl,rfl⟩⟩
    refine (zaa (f:=.fresh) this rfl).trans ?_
    rw [List.length_map]
   refine ⟨R a (.val (lstI l)) s5,R (a+t l) (.val (lstI l)) (.own (E.map pr)),rfl,?_,_,_,by rw [hs]⟩
   rw [zd (zt (r:=(.lst (E.map pr),.fresh)) (ρ':=R a (.val (lstI l)) (.own (E.map pr))) e1 rfl)]
   have tt:evT cl (.var 5) (R a (.val (lstI l)) (.own (E.map pr)))=some (decide (1 < l.length)):=by
    show some (!(E.map pr).isEmpty)=_
    have:=zkr c hp hl
    congr 1
    cases hE:E with
    | nil =>
     have h1:¬ (1 < l.length):=fun k=>this.mpr k hE
     rw [decide_eq_false h1]; rfl
    | cons x r =>
     have h1:1 < l.length:=this.mp (by show E≠[]; rw [hE]; simp)
     rw [decide_eq_true h1]; rfl
   cases hb:decide (1 < l.length) with
   | false =>
    rw [hb] at tt
    have t0:t l=0:=by show (if decide (1 < l.length) then _ else _)=_; rw [hb]; rfl
    rw [t0,Int.add_zero]
    exact (zd (za1 tt)).trans (by rw [exs])
   | true =>
    rw [hb] at tt
    have t1:t l=part es fs l:=by show (if decide (1 < l.length) then _ else _)=_; rw [hb]; rfl
    refine (zd (ρ':=R (a+t l) (.val (lstI l)) (.own (E.map pr))) ?_).trans (by rw [exs])
    rw [zdg tt,if_pos rfl]
    refine zd (zm (d:=.int (a+t l)) ?_ rfl)
    have l5:ev cl (.bi .len (.var 5)) (R a (.val (lstI l)) (.own (E.map pr)))=some (.int (E.length:Int),.solid):=by
     refine (zaa (f:=.peek) (x:=.lst (E.map pr)) rfl rfl).trans ?_
     rw [List.length_map]
    have l4:ev cl (.bi .len (.var 4)) (R a (.val (lstI l)) (.own (E.map pr)))=some (.int (l.length:Int),.solid):=by
     refine (zaa (f:=.solid) (x:=lstI l) rfl rfl).trans ?_
     show some (D.int ((intL l).length:Int),Fl.solid)=_
     rw [List.length_map]
    have:=zl (o:=.sub) (f:=.solid) (g:=.solid) (r:=(.int (a+(E.length:Int)+2 - (l.length:Int) - ((fs.filter fun f=>decide ((hd f).1∈l)).length:Int)),.solid)) (zl (o:=.sub) (f:=.solid) (g:=.solid) (r:=(.int (a+(E.length:Int)+2 - (l.length:Int)),.solid)) (zl (o:=.add) (f:=.solid) (g:=.solid) (y:=.int 2) (r:=(.int (a+(E.length:Int)+2),.solid)) (zl (o:=.add) (f:=.solid) (g:=.solid) (x:=.int a) (r:=(.int (a+(E.length:Int)),.solid)) (show ev cl (.var 3) (R a (.val (lstI l)) (.own (E.map pr)))=some (.int a,.solid) from rfl) l5 rfl) (show ev cl (.con (.int 2)) (R a (.val (lstI l)) (.own (E.map pr)))=some (.int 2,.solid) from rfl) rfl) l4 rfl) e2 rfl
    rw [this,t1]
    unfold part
    congr 3
    show a+((es.filter fun e=>decide (e.1∈l)).length:Int)+2 - _ - _=_
    lia)
 rw [List.take_length,show (ps.map t).sum=twice es ps fs from total c hp hf] at e
 refine zae ⟨rfl,by decide⟩ ?_
 show exs cl W f20.body [.val (netD n es),.val (wD L),.no,.no,.no,.no]=_
 simp only [f20]
 rw [zd (zm (d:=.lst (fs.map tupP)) (ρ':=[.val (netD n es),.val (wD L),.val (.lst (fs.map tupP)),.no,.no,.no]) (zk (zc rfl (zc rfl zi)) h18) rfl)]
 rw [zd (zm (d:=.int 0) (ρ':=R 0 .no .no) rfl rfl),zd e]
 refine zw (zac (fl:=.solid) (zl (f:=.solid) (g:=.solid) (x:=.int (twice es ps fs)) (y:=.int 2) rfl rfl ?_))
 exact half _
end
end K08
namespace K08
open PY K01 K02 K20 EU K05
theorem zj3:∀ es:List Dt,D.eqs (es.map pr) (es.map pr)=true
 | []=>rfl
 | p::r=>by
  show (D.eq (pr p) (pr p)&&D.eqs (r.map pr) (r.map pr))=true
  rw [zoh,zj3 r]; simp [eqP]
theorem znj:∀ fs:List (List Dt),D.eqs (fs.map tupP) (fs.map tupP)=true
 | []=>rfl
 | l::r=>by
  show (D.eqs (l.map pr) (l.map pr)&&D.eqs (r.map tupP) (r.map tupP))=true
  rw [zj3,znj r]; rfl
theorem zor (fs:List (List Dt)):D.deep 8 (.lst (fs.map tupP))=true:=by
 show (fs.map tupP).all (D.deep 7)=true
 rw [List.all_map,List.all_eq_true]
 intro l _
 show (l.map pr).all (D.deep 6)=true
 rw [List.all_map,List.all_eq_true]
 intro p _
 rfl
theorem zsb (fs:List (List Dt)):cmpop .ne (.lst (fs.map tupP)) (.lst (fs.map tupP))=some false:=by
 show (if D.deep 8 (.lst (fs.map tupP))&&D.deep 8 (.lst (fs.map tupP)) then some (!D.eqs (fs.map tupP) (fs.map tupP)) else none)=_
 rw [zor,znj]; rfl
theorem zla {a:Dt} {r:List Dt} (h:∀ x∈a::r,¬ ltP x a=true):bltin .min1 (tupP (a::r))=some (pr a,.solid):=by
 show minP ((a::r).map pr)=_
 unfold minP
 rw [zdc]
 show some (tupI (minT (li a::r.map li)),Fl.solid)=_
 have step:∀ r:List Dt,(∀ x∈r,¬ ltP x a=true)→(r.map li).foldl (fun a b=>if PY.lexLt b a then b else a) (li a)=li a:=fun r=>by
  induction r with
  | nil=>intro _; rfl
  | cons x r ih =>
   intro h
   have hx:PY.lexLt (li x) (li a)=false:=by
    cases k:PY.lexLt (li x) (li a) with
    | false=>rfl
    | true=>exact absurd k (h x List.mem_cons_self)
   rw [List.map_cons,List.foldl_cons,hx,if_neg Bool.false_ne_true]
   exact ih fun y hy=>h y (List.mem_cons_of_mem _ hy)
 rw [show minT (li a::r.map li)=li a from step r fun x hx=>h x (List.mem_cons_of_mem _ hx)]
 rfl
theorem zpj {l:List Dt} (nd:l.Nodup) (hl:l.length < 64):bltin .lenset (.lst (l.map pr))=some (.int (l.length:Int),.solid):=by
 show lensL (l.map pr)=_
 unfold lensL
 rw [zdc]
 show (if (l.map li).length < 64 then some (D.int ((nubT (l.map li)).length:Int),Fl.solid) else none)=_
 rw [if_pos (by rw [List.length_map]; exact hl),zh5 (zg8 nd),List.length_map]
section
variable {cl:Nat→List D→Option D} {W:Nat} {n:Nat} {es:List Dt} {L:List (List Int)} {ps:List (List Int)} {fs:List (List Dt)}
theorem m21 (c:Ctx n es L) (hp:Parts es n ps) (hf:Fcs (bhd (wh L)) (dts es) fs) {ns:List Int} (h13:cl 13 [scr ns,.int ((0:Nat):Int)]=some (netD n es)) (h16:cl 16 [scr ns,.int ((3:Nat):Int),netD n es]=some (wD L)) (h7:cl 7 [netD n es,wD L]=some (.tup (fs.map tupP))) (h18:cl 18 [netD n es,wD L]=some (.lst (fs.map tupP)))
  (h8:cl 8 [netD n es,wD L]=some (.int (twice es ps fs / 2))) (h20:cl 20 [netD n es,wD L]=some (.int (twice es ps fs / 2))) (h11:∀ d,cl 11 [d]=some (.bl (isWhole d))):runF cl W f21 [scr ns]=some (.bl true):=by
 have nd:es.Nodup:=zch c.up
 have flat:=hf.flat c.whl.binj (zc1 c.whl.ein nd)
 have flen:fs.flatten.length=2 * es.length:=by
  rw [flat.length_eq]
  unfold dts
  rw [List.length_append,List.length_map]
  lia
 have f34:fs.flatten.length≤34:=by have:=c.sml; lia
 have fnd:fs.flatten.Nodup:=flat.nodup_iff.mpr (zc1 c.whl.ein nd)
 let R:Sl→Sl→Sl→Rho:=fun s4 s5 s6=>[.val (scr ns),.val (netD n es),.val (wD L),.val (.tup (fs.map tupP)),s4,s5,s6]
 refine zae ⟨rfl,by decide⟩ ?_
 show exs cl W f21.body [.val (scr ns),.no,.no,.no,.no,.no,.no]=_
 simp only [f21]
 rw [zd (zm (d:=netD n es) (ρ':=[.val (scr ns),.val (netD n es),.no,.no,.no,.no,.no]) (zk (ds:=[scr ns,.int ((0:Nat):Int)]) (zc rfl (zc rfl zi)) h13) rfl)]
 rw [zd (zm (d:=wD L) (ρ':=[.val (scr ns),.val (netD n es),.val (wD L),.no,.no,.no,.no]) (zk (ds:=[scr ns,.int ((3:Nat):Int),netD n es]) (zc rfl (zc rfl (zc rfl zi))) h16) rfl)]
 rw [zd (zm (d:=.tup (fs.map tupP)) (ρ':=R .no .no .no) (zk (ds:=[netD n es,wD L]) (zc rfl (zc rfl zi)) h7) rfl)]
 have t1:evT cl (.or (.not (.isi (.var 3) .tuple)) (.cmp .ne (.bi .list (.var 3)) (.call 18 (.cons (.var 1) (.cons (.var 2) .nil))))) (R .no .no .no)=some (false||false) :=
  zhg rfl (zo (f:=.fresh) (g:=.solid) (x:=.lst (fs.map tupP)) (y:=.lst (fs.map tupP)) (zaa (f:=.solid) (x:=.tup (fs.map tupP)) rfl rfl) (zk (ds:=[netD n es,wD L]) (zc rfl (zc rfl zi)) h18) (zsb fs))
 rw [zd (za1 t1)]
 rw [zd (zt (r:=(.lst [],.fresh)) (ρ':=R (.own []) .no .no) rfl rfl)]
 obtain ⟨ρ',e,s5,rfl⟩:=zgy (cl:=cl) (W:=W) (t:=.one 5) (it:=.seq (.var 3)) (b:=.cons (.cond (.or (.not (.isi (.var 5) .tuple)) (.cmp .ne (.ix (.var 5) (.con (.int 0))) (.bi .min1 (.var 5)))) (.cons (.ret (.con (.bl false))) .nil) .nil) (.cons (.asg (.one 4) (.bin .add (.var 4) (.bi .list (.var 5)))) .nil))
  (ρ:=R (.own []) .no .no) (l:=fs) (φ:=tupP) (zai (x:=.tup (fs.map tupP)) rfl rfl) (fun i ρ=>∃ s5,ρ=R (.own ((fs.take i).flatten.map pr)) s5 .no) ⟨.no,rfl⟩ (by
   rintro i l ρ hi ht ⟨s5,rfl⟩
   have hl:l∈fs:=List.mem_of_getElem? hi
   obtain ⟨a,_,o,hm⟩:=hf.orb l hl
   obtain ⟨y,r,rfl⟩:∃ y r,l=y::r:=List.exists_cons_of_ne_nil fun z=>by have:=o.len; rw [z] at this; exact absurd this (by decide)
   have ya:y=a:=o.head
   subst ya
   have sub:((fs.take i).flatten++(y::r)).length≤34:=by
    have:(fs.take (i+1)).flatten=(fs.take i).flatten++(y::r):=by rw [ht]; simp
    rw [← this]
    have e1:=congrArg List.flatten (List.take_append_drop (i+1) fs)
    rw [List.flatten_append] at e1
    have:=congrArg List.length e1
    rw [List.length_append] at this
    lia
   refine ⟨R (.own ((fs.take i).flatten.map pr)) (.val (tupP (y::r))) .no,R (.own ((fs.take (i+1)).flatten.map pr)) (.val (tupP (y::r))) .no,rfl,?_,_,rfl⟩
   have t2:evT cl (.or (.not (.isi (.var 5) .tuple)) (.cmp .ne (.ix (.var 5) (.con (.int 0))) (.bi .min1 (.var 5)))) (R (.own ((fs.take i).flatten.map pr)) (.val (tupP (y::r))) .no)=some (false||!decide (y=y)) :=
    zhg rfl (zo (f:=.solid) (g:=.solid) (x:=pr y) (y:=pr y) rfl (zaa (f:=.solid) (x:=tupP (y::r)) rfl (zla hm)) (zpm y y))
   rw [decide_eq_true rfl] at t2
   rw [zd (za1 t2)]
   refine zd (zt (r:=(.lst ((fs.take (i+1)).flatten.map pr),.fresh)) ?_ rfl)
   refine zl (f:=.peek) (g:=.fresh) (x:=.lst ((fs.take i).flatten.map pr)) (y:=.lst ((y::r).map pr)) rfl (zaa (f:=.solid) (x:=tupP (y::r)) rfl rfl) ?_
   refine (if_pos (show ((fs.take i).flatten.map pr).length+((y::r).map pr).length≤PY.big by rw [List.length_append] at sub; simp only [List.length_map]; unfold PY.big; lia)).trans ?_
   rw [ht,← List.map_append]
   simp)
 rw [List.take_length] at e
 have ef:ex cl W (.frz [3] (.loop (.one 5) (.seq (.var 3)) (.cons (.cond (.or (.not (.isi (.var 5) .tuple)) (.cmp .ne (.ix (.var 5) (.con (.int 0))) (.bi .min1 (.var 5)))) (.cons (.ret (.con (.bl false))) .nil) .nil) (.cons (.asg (.one 4) (.bin .add (.var 4) (.bi .list (.var 5)))) .nil)))) (R (.own []) .no .no)=some (.nx (R (.own (fs.flatten.map pr)) s5 .no)):=by
  rw [ex]
  exact e
 rw [zd ef]
 have l4:ev cl (.bi .len (.var 4)) (R (.own (fs.flatten.map pr)) s5 .no)=some (.int (fs.flatten.length:Int),.solid):=by
  refine (zaa (f:=.peek) (x:=.lst (fs.flatten.map pr)) rfl rfl).trans ?_
  rw [List.length_map]
 have le:ev cl (.bi .len (.ix (.var 1) (.con (.int 1)))) (R (.own (fs.flatten.map pr)) s5 .no)=some (.int (es.length:Int),.solid):=by
  refine (zaa (f:=.solid) (x:=.tup (es.map pr)) rfl rfl).trans ?_
  rw [List.length_map]
 have ls:ev cl (.bi .lenset (.var 4)) (R (.own (fs.flatten.map pr)) s5 .no)=some (.int (fs.flatten.length:Int),.solid):=zaa (f:=.peek) (x:=.lst (fs.flatten.map pr)) rfl (zpj fnd (by lia))
 have ne0:∀ i:Int,cmpop .ne (.int i) (.int i)=some false:=fun i=>by show some (!(i==i))=_; simp
 have t3:evT cl (.or (.cmp .ne (.bi .len (.var 4)) (.bin .mul (.con (.int 2)) (.bi .len (.ix (.var 1) (.con (.int 1)))))) (.cmp .ne (.bi .lenset (.var 4)) (.bi .len (.var 4)))) (R (.own (fs.flatten.map pr)) s5 .no)=some (false||false):=by
  refine zhg (zo (f:=.solid) (g:=.solid) l4 (zl (f:=.solid) (g:=.solid) (x:=.int 2) rfl le (zkv 2 _ (by decide))) ?_) (zo (f:=.solid) (g:=.solid) ls l4 (ne0 _))
  rw [flen,show ((2 * es.length:Nat):Int)=2 * (es.length:Int) by lia]
  exact ne0 _
 rw [zd (za1 t3)]
 let A:Int:=twice es ps fs / 2
 have hA:0≤A:=by
  have g:=genus c.whl nd hp hf
  have:0≤twice es ps fs:=by unfold twice; lia
  exact Int.ediv_nonneg this (by decide)
 rw [zd (zm (d:=.int A) (ρ':=R (.own (fs.flatten.map pr)) s5 (.val (.int A))) (zk (ds:=[netD n es,wD L]) (zc rfl (zc rfl zi)) h8) rfl)]
 refine zw (zac (fl:=.solid) (zm7 (p:=true) (d:=.non) (f:=.solid) (zk (ds:=[.int A]) (zc rfl zi) (h11 (.int A))) (zm7 (p:=true) (d:=.non) (f:=.solid) ?_ ?_)))
 ·refine (zi3 (o:=.ge) (f:=.solid) (g:=.solid) (x:=.int A) (y:=.int 0) (k:=decide (0≤A)) rfl rfl rfl).trans ?_
  rw [decide_eq_true hA]
 ·refine (zi3 (o:=.eq) (f:=.solid) (g:=.solid) (x:=.int A) (y:=.int A) (k:=A==A) rfl (zk (ds:=[netD n es,wD L]) (zc rfl (zc rfl zi)) h20) rfl).trans ?_
  rw [beq_self_eq_true]
end
theorem zma (ns:List Int) (k:Nat):run fns 101 (k+5) 21 [scr ns]=some (.bl true):=by
 generalize hW:(101:Nat)=W
 have hlt:100 < W:=by lia
 have st:∀ {k i:Nat} {as:List D} {f:Fn} {d:D},fns[i]? = some f→runF (run fns W k) W f as=some d→run fns W (k+1) i as=some d:=fun {k i as f d} h hr=>by
  show (fns[i]?).bind (fun f=>runF (run fns W k) W f as)=some d
  rw [h]; exact hr
 have r0:∀ k n es p,es.length≤17→run fns W (k+1) 0 [netD n es,.int p]=some (.lst (intL (near es p))):=fun k n es p h=>K02.m3 (W:=W) n es p h
 have r1:∀ k n es,n≤9→es.length≤17→run fns W (k+2) 1 [netD n es]=some (rowsD n es):=fun k n es h h'=>st (f:=f1) rfl (K05.m2 (W:=W) (r0 k) n es h h')
 have r9:∀ k (ns:List Int) (j:Nat),run fns W (k+1) 9 [scr ns,.int j]=some (.int (ns.getD j 0)):=fun k ns j=>st (f:=f9) rfl (K01.m7 (W:=W) ns j)
 have r10:∀ k (a p m:Int),0 < p→0 < m→run fns W (k+1) 10 [.int a,.int p,.int m]=some (.int (mix a p m)):=fun k a p m h h'=>st (f:=f10) rfl (K01.m8 (W:=W) a p m h h')
 have r11:∀ k d,run fns W (k+1) 11 [d]=some (.bl (isWhole d)):=fun k d=>st (f:=f11) rfl (K01.m0 (W:=W) d)
 have r12:∀ k (n:Nat),n≤30→run fns W (k+1) 12 [.int n]=some (.lst ((pairsM n).map pr)):=fun k n h=>st (f:=f12) rfl (K01.m9 (W:=W) n h)
 have r14:∀ k n es p,es.length≤17→run fns W (k+1) 14 [netD n es,.int p]=some (.lst (intL (sortI (near es p)))):=fun k n es p h=>st (f:=f14) rfl (K02.m11 (W:=W) n es p h)
 obtain ⟨n,es,h1,h9,hs,hl,hnet⟩:=NB.netM (cl:=run fns W (k+3)) (W:=W) (ic:=9) (im:=10) (ip:=12) (r9 (k+2)) (r10 (k+2)) (r12 (k+2)) ns 0
 obtain ⟨L,hL,hR,hwh⟩:=m16 (cl:=run fns W (k+3)) (W:=W) (r9 (k+2)) (r10 (k+2)) (r14 (k+2)) ns 3 n es h9 hs hl
 have whl:=zqg h9 hs hL hR
 have c:Ctx n es L:=⟨whl,hL,fun p=>by
  unfold wh
  rw [List.getD_eq_getElem?_getD]
  cases e:L[p.toNat]? with
  | none=>exact Nat.zero_le _
  | some l =>
   have h1:=(hR _ l e).1.length_eq
   have h2:=zbf es (p.toNat:Nat)
   show l.length≤4000
   lia,hl,zrq (by lia) hs⟩
 obtain ⟨qs,hq,hQ⟩:=K05.m15 (cl:=run fns W (k+2)) (W:=W) (n:=n) (es:=es) h9 hs
 obtain ⟨ps,hpp,hP⟩:=K05.m4 (cl:=run fns W (k+1)) (W:=W) h9 hs (fun s h=>by
  obtain ⟨l,a,b⟩:=K05.m3 (cl:=run fns W k) hlt n es h9 hs s h
  exact ⟨l,st (f:=f2) rfl a,b⟩)
 have h4:run fns W (k+3) 4 [netD n es]=some (.tup (ps.map tupI)):=st (f:=f4) rfl (K05.m5 (cl:=run fns W (k+2)) (W:=W) (n:=n) (es:=es) (ps:=ps) h9 (r1 k n es h9 hl) (st (f:=f3) rfl hpp))
 have hps:=zh9 hP.parts.1 hQ hP.parts.2
 have r5:∀ k,∀ d∈dts es,run fns W (k+1) 5 [pr d,wD L]=some (pr (bhd (wh L) d)):=fun k d hd=>st (f:=f5) rfl (m5 c hd)
 have r17:∀ k,∀ d∈dts es,run fns W (k+1) 17 [wD L,pr d]=some (pr (bhd (wh L) d)):=fun k d hd=>st (f:=f17) rfl (m17 c hd)
 have r6:∀ k,∀ a∈dts es,∃ l,Orb (bhd (wh L)) a l∧l.length≤34∧run fns W (k+2) 6 [pr a,wD L]=some (tupP l):=fun k a ha=>by
  obtain ⟨l,o,h,e⟩:=m6 (cl:=run fns W (k+1)) c (r5 k) hlt ha
  exact ⟨l,o,h,st (f:=f6) rfl e⟩
 obtain ⟨fs,hf,_⟩:=m7 (cl:=run fns W (k+2)) (W:=W) c (r6 k)
 have r7:∀ k,run fns W (k+3) 7 [netD n es,wD L]=some (.tup (fs.map tupP)):=fun k=>by
  obtain ⟨gs,hg,e⟩:=m7 (cl:=run fns W (k+2)) (W:=W) c (r6 k)
  rw [hf.uniq whl.binj hg]
  exact st (f:=f7) rfl e
 have r18:∀ k,run fns W (k+2) 18 [netD n es,wD L]=some (.lst (fs.map tupP)):=fun k=>by
  obtain ⟨gs,hg,e⟩:=m18 (cl:=run fns W (k+1)) (W:=W) c (r17 k) hlt
  rw [hf.uniq whl.binj hg]
  exact st (f:=f18) rfl e
 have r19:run fns W (k+3) 19 [.int n,.tup (es.map pr)]=some (.lst (ps.map lstI)):=by
  rw [← hps]
  exact st (f:=f19) rfl hq
 have r8:run fns W (k+4) 8 [netD n es,wD L]=some (.int (twice es ps fs / 2)):=st (f:=f8) rfl (m8 c h9 hP.parts.1 h4 (r7 k))
 have r20:run fns W (k+4) 20 [netD n es,wD L]=some (.int (twice es ps fs / 2)):=st (f:=f20) rfl (m20 c h9 hP.parts.1 hf (r18 (k+1)) r19)
 exact st (f:=f21) rfl (m21 (cl:=run fns W (k+4)) c hP.parts.1 hf (st (f:=f13) rfl hnet) (st (f:=f16) rfl hwh) (r7 (k+1)) (r18 (k+2)) r8 r20 (r11 (k+3)))
end K08
namespace K08
open PY
theorem zoj:compileX [15] PySem.Challenge.pw_planeyard_k08_faces=some K08.fns:=by rfl
end K08
namespace K08E
open PySem L2 SD PY
noncomputable def top (i:Nat):Stmt:=PySem.Challenge.pw_planeyard_k08_faces.main.body.getD i (.Pass ⟨0,0,0,0⟩)
theorem tops:topDefs PySem.Challenge.pw_planeyard_k08_faces=[top 1,top 3,top 4,top 5,top 6,top 8,top 9,top 10,top 11,top 13,top 14,top 15,top 16,top 17,top 18,top 19,top 20,top 21,top 22,top 23,top 24,top 25]:=by rfl
theorem topc:topCons PySem.Challenge.pw_planeyard_k08_faces.main.body=[]:=by decide +kernel
theorem zrt {w:World} {K:Frag} {h:Heap} {mg:Str→Option Value} {fa:Addr} (X:K.In h) (G:h.Ns mainGlobals mg) (hfa:mg "law" = some (.ref fa))
  {f0:Addr} {od0 an0:Option Addr} {sl0:Array (Option Value)} {oc0 kV0 dc0 pm0 cd0 ct0:Value}
  {f1:Addr} {od1 an1:Option Addr} {sl1:Array (Option Value)} {oc1 kV1 dc1 pm1 cd1 ct1:Value}
  {f2:Addr} {od2 an2:Option Addr} {sl2:Array (Option Value)} {oc2 kV2 dc2 pm2 cd2 ct2:Value}
  {f3:Addr} {od3 an3:Option Addr} {sl3:Array (Option Value)} {oc3 kV3 dc3 pm3 cd3 ct3:Value}
  {f4:Addr} {od4 an4:Option Addr} {sl4:Array (Option Value)} {oc4 kV4 dc4 pm4 cd4 ct4:Value}
  {f5:Addr} {od5 an5:Option Addr} {sl5:Array (Option Value)} {oc5 kV5 dc5 pm5 cd5 ct5:Value}
  {f6:Addr} {od6 an6:Option Addr} {sl6:Array (Option Value)} {oc6 kV6 dc6 pm6 cd6 ct6:Value}
  {f7:Addr} {od7 an7:Option Addr} {sl7:Array (Option Value)} {oc7 kV7 dc7 pm7 cd7 ct7:Value}
  {f8:Addr} {od8 an8:Option Addr} {sl8:Array (Option Value)} {oc8 kV8 dc8 pm8 cd8 ct8:Value}
  {f9:Addr} {od9 an9:Option Addr} {sl9:Array (Option Value)} {oc9 kV9 dc9 pm9 cd9 ct9:Value}
  {f10:Addr} {od10 an10:Option Addr} {sl10:Array (Option Value)} {oc10 kV10 dc10 pm10 cd10 ct10:Value}
  {f11:Addr} {od11 an11:Option Addr} {sl11:Array (Option Value)} {oc11 kV11 dc11 pm11 cd11 ct11:Value}
  {f12:Addr} {od12 an12:Option Addr} {sl12:Array (Option Value)} {oc12 kV12 dc12 pm12 cd12 ct12:Value}
  {f13:Addr} {od13 an13:Option Addr} {sl13:Array (Option Value)} {oc13 kV13 dc13 pm13 cd13 ct13:Value}
  {f14:Addr} {od14 an14:Option Addr} {sl14:Array (Option Value)} {oc14 kV14 dc14 pm14 cd14 ct14:Value}
  {f16:Addr} {od16 an16:Option Addr} {sl16:Array (Option Value)} {oc16 kV16 dc16 pm16 cd16 ct16:Value}
  {f17:Addr} {od17 an17:Option Addr} {sl17:Array (Option Value)} {oc17 kV17 dc17 pm17 cd17 ct17:Value}
  {f18:Addr} {od18 an18:Option Addr} {sl18:Array (Option Value)} {oc18 kV18 dc18 pm18 cd18 ct18:Value}
  {f19:Addr} {od19 an19:Option Addr} {sl19:Array (Option Value)} {oc19 kV19 dc19 pm19 cd19 ct19:Value}
  {f20:Addr} {od20 an20:Option Addr} {sl20:Array (Option Value)} {oc20 kV20 dc20 pm20 cd20 ct20:Value}
  {f21:Addr} {od21 an21:Option Addr} {sl21:Array (Option Value)} {oc21 kV21 dc21 pm21 cd21 ct21:Value}
  (a0:nsIn K mainGlobals "places_near" = some (some (.ref f0))) (l0:K.lookup f0=some ⟨oc0,od0,.func (fnOf "places_near" "places_near" (defArgs (top 1)) (defBody (top 1)) (defScope (top 1)) .none kV0 dc0 pm0 an0 cd0 ct0),sl0⟩) (c0:codeIn K cd0 "places_near" = true) (k0:keepIn K (.ref f0)=true)
  (a1:nsIn K mainGlobals "rows_of" = some (some (.ref f1))) (l1:K.lookup f1=some ⟨oc1,od1,.func (fnOf "rows_of" "rows_of" (defArgs (top 3)) (defBody (top 3)) (defScope (top 3)) .none kV1 dc1 pm1 an1 cd1 ct1),sl1⟩) (c1:codeIn K cd1 "rows_of" = true) (k1:keepIn K (.ref f1)=true)
  (a2:nsIn K mainGlobals "come_to" = some (some (.ref f2))) (l2:K.lookup f2=some ⟨oc2,od2,.func (fnOf "come_to" "come_to" (defArgs (top 4)) (defBody (top 4)) (defScope (top 4)) .none kV2 dc2 pm2 an2 cd2 ct2),sl2⟩) (c2:codeIn K cd2 "come_to" = true) (k2:keepIn K (.ref f2)=true)
  (a3:nsIn K mainGlobals "parts_among" = some (some (.ref f3))) (l3:K.lookup f3=some ⟨oc3,od3,.func (fnOf "parts_among" "parts_among" (defArgs (top 5)) (defBody (top 5)) (defScope (top 5)) .none kV3 dc3 pm3 an3 cd3 ct3),sl3⟩) (c3:codeIn K cd3 "parts_among" = true) (k3:keepIn K (.ref f3)=true)
  (a4:nsIn K mainGlobals "parts_of" = some (some (.ref f4))) (l4:K.lookup f4=some ⟨oc4,od4,.func (fnOf "parts_of" "parts_of" (defArgs (top 6)) (defBody (top 6)) (defScope (top 6)) .none kV4 dc4 pm4 an4 cd4 ct4),sl4⟩) (c4:codeIn K cd4 "parts_of" = true) (k4:keepIn K (.ref f4)=true)
  (a5:nsIn K mainGlobals "dart_behind" = some (some (.ref f5))) (l5:K.lookup f5=some ⟨oc5,od5,.func (fnOf "dart_behind" "dart_behind" (defArgs (top 8)) (defBody (top 8)) (defScope (top 8)) .none kV5 dc5 pm5 an5 cd5 ct5),sl5⟩) (c5:codeIn K cd5 "dart_behind" = true) (k5:keepIn K (.ref f5)=true)
  (a6:nsIn K mainGlobals "face_from" = some (some (.ref f6))) (l6:K.lookup f6=some ⟨oc6,od6,.func (fnOf "face_from" "face_from" (defArgs (top 9)) (defBody (top 9)) (defScope (top 9)) .none kV6 dc6 pm6 an6 cd6 ct6),sl6⟩) (c6:codeIn K cd6 "face_from" = true) (k6:keepIn K (.ref f6)=true)
  (a7:nsIn K mainGlobals "faces_of" = some (some (.ref f7))) (l7:K.lookup f7=some ⟨oc7,od7,.func (fnOf "faces_of" "faces_of" (defArgs (top 10)) (defBody (top 10)) (defScope (top 10)) .none kV7 dc7 pm7 an7 cd7 ct7),sl7⟩) (c7:codeIn K cd7 "faces_of" = true) (k7:keepIn K (.ref f7)=true)
  (a8:nsIn K mainGlobals "handles" = some (some (.ref f8))) (l8:K.lookup f8=some ⟨oc8,od8,.func (fnOf "handles" "handles" (defArgs (top 11)) (defBody (top 11)) (defScope (top 11)) .none kV8 dc8 pm8 an8 cd8 ct8),sl8⟩) (c8:codeIn K cd8 "handles" = true) (k8:keepIn K (.ref f8)=true)
  (a9:nsIn K mainGlobals "_law_cell" = some (some (.ref f9))) (l9:K.lookup f9=some ⟨oc9,od9,.func (fnOf "_law_cell" "_law_cell" (defArgs (top 13)) (defBody (top 13)) (defScope (top 13)) .none kV9 dc9 pm9 an9 cd9 ct9),sl9⟩) (c9:codeIn K cd9 "_law_cell" = true) (k9:keepIn K (.ref f9)=true)
  (a10:nsIn K mainGlobals "_law_mix" = some (some (.ref f10))) (l10:K.lookup f10=some ⟨oc10,od10,.func (fnOf "_law_mix" "_law_mix" (defArgs (top 14)) (defBody (top 14)) (defScope (top 14)) .none kV10 dc10 pm10 an10 cd10 ct10),sl10⟩) (c10:codeIn K cd10 "_law_mix" = true) (k10:keepIn K (.ref f10)=true)
  (a11:nsIn K mainGlobals "_law_whole" = some (some (.ref f11))) (l11:K.lookup f11=some ⟨oc11,od11,.func (fnOf "_law_whole" "_law_whole" (defArgs (top 15)) (defBody (top 15)) (defScope (top 15)) .none kV11 dc11 pm11 an11 cd11 ct11),sl11⟩) (c11:codeIn K cd11 "_law_whole" = true) (k11:keepIn K (.ref f11)=true)
  (a12:nsIn K mainGlobals "_law_pairs" = some (some (.ref f12))) (l12:K.lookup f12=some ⟨oc12,od12,.func (fnOf "_law_pairs" "_law_pairs" (defArgs (top 16)) (defBody (top 16)) (defScope (top 16)) .none kV12 dc12 pm12 an12 cd12 ct12),sl12⟩) (c12:codeIn K cd12 "_law_pairs" = true) (k12:keepIn K (.ref f12)=true)
  (a13:nsIn K mainGlobals "_law_net" = some (some (.ref f13))) (l13:K.lookup f13=some ⟨oc13,od13,.func (fnOf "_law_net" "_law_net" (defArgs (top 17)) (defBody (top 17)) (defScope (top 17)) .none kV13 dc13 pm13 an13 cd13 ct13),sl13⟩) (c13:codeIn K cd13 "_law_net" = true) (k13:keepIn K (.ref f13)=true)
  (a14:nsIn K mainGlobals "_law_near" = some (some (.ref f14))) (l14:K.lookup f14=some ⟨oc14,od14,.func (fnOf "_law_near" "_law_near" (defArgs (top 18)) (defBody (top 18)) (defScope (top 18)) .none kV14 dc14 pm14 an14 cd14 ct14),sl14⟩) (c14:codeIn K cd14 "_law_near" = true) (k14:keepIn K (.ref f14)=true)
  (a16:nsIn K mainGlobals "_law_any_wheel" = some (some (.ref f16))) (l16:K.lookup f16=some ⟨oc16,od16,.func (fnOf "_law_any_wheel" "_law_any_wheel" (defArgs (top 20)) (defBody (top 20)) (defScope (top 20)) .none kV16 dc16 pm16 an16 cd16 ct16),sl16⟩) (c16:codeIn K cd16 "_law_any_wheel" = true) (k16:keepIn K (.ref f16)=true)
  (a17:nsIn K mainGlobals "_law_behind" = some (some (.ref f17))) (l17:K.lookup f17=some ⟨oc17,od17,.func (fnOf "_law_behind" "_law_behind" (defArgs (top 21)) (defBody (top 21)) (defScope (top 21)) .none kV17 dc17 pm17 an17 cd17 ct17),sl17⟩) (c17:codeIn K cd17 "_law_behind" = true) (k17:keepIn K (.ref f17)=true)
  (a18:nsIn K mainGlobals "_law_faces" = some (some (.ref f18))) (l18:K.lookup f18=some ⟨oc18,od18,.func (fnOf "_law_faces" "_law_faces" (defArgs (top 22)) (defBody (top 22)) (defScope (top 22)) .none kV18 dc18 pm18 an18 cd18 ct18),sl18⟩) (c18:codeIn K cd18 "_law_faces" = true) (k18:keepIn K (.ref f18)=true)
  (a19:nsIn K mainGlobals "_law_parts" = some (some (.ref f19))) (l19:K.lookup f19=some ⟨oc19,od19,.func (fnOf "_law_parts" "_law_parts" (defArgs (top 23)) (defBody (top 23)) (defScope (top 23)) .none kV19 dc19 pm19 an19 cd19 ct19),sl19⟩) (c19:codeIn K cd19 "_law_parts" = true) (k19:keepIn K (.ref f19)=true)
  (a20:nsIn K mainGlobals "_law_handles" = some (some (.ref f20))) (l20:K.lookup f20=some ⟨oc20,od20,.func (fnOf "_law_handles" "_law_handles" (defArgs (top 24)) (defBody (top 24)) (defScope (top 24)) .none kV20 dc20 pm20 an20 cd20 ct20),sl20⟩) (c20:codeIn K cd20 "_law_handles" = true) (k20:keepIn K (.ref f20)=true)
  (a21:nsIn K mainGlobals "law" = some (some (.ref f21))) (l21:K.lookup f21=some ⟨oc21,od21,.func (fnOf "law" "law" (defArgs (top 25)) (defBody (top 25)) (defScope (top 25)) .none kV21 dc21 pm21 an21 cd21 ct21),sl21⟩) (c21:codeIn K cd21 "law" = true) (k21:keepIn K (.ref f21)=true)
  (z0:nsIn K mainGlobals "isinstance" = some none)
  (z1:nsIn K mainGlobals "int" = some none)
  (z2:nsIn K mainGlobals "bool" = some none)
  (z3:nsIn K mainGlobals "str" = some none)
  (z4:nsIn K mainGlobals "tuple" = some none)
  (z5:nsIn K mainGlobals "list" = some none)
  (z6:nsIn K mainGlobals "len" = some none)
  (z7:nsIn K mainGlobals "all" = some none)
  (z8:nsIn K mainGlobals "any" = some none)
  (z9:nsIn K mainGlobals "sorted" = some none)
  (z10:nsIn K mainGlobals "range" = some none)
  (z11:nsIn K mainGlobals "enumerate" = some none)
  (z12:nsIn K mainGlobals "min" = some none)
  (z13:nsIn K mainGlobals "max" = some none)
  (z14:nsIn K mainGlobals "set" = some none)
  (z15:nsIn K mainGlobals "reversed" = some none)
  (z16:nsIn K mainGlobals "sum" = some none)
  (z17:nsIn K mainGlobals "ValueError" = some none) :
  ∃ fd:FuncData,(∀ (s:Shared) (v:Value),BindsTo s fd ⟨[v],[]⟩ [("_law_script",v)])∧∀ base:Heap,K.In base→base.Ns mainGlobals mg→LamB K mg base→FnOk PySem.Challenge.pw_planeyard_k08_faces w K mg base CX0 20 fa fd ["_law_script"] (spLaw K):=by
 have e:=hfa.symm.trans (PySem.W.mg_of X G a21)
 cases e
 have F0:=zad (st:=top 1) l0 c0 k0
 have A0:FnAt K mg (top 1):=zau X G a0 F0 (by rfl) (ps:=["net", "place"]) (by rfl) fun _ _ _ _ _ _ us hl=>by obtain ⟨a0,a1,rfl⟩:=len2 hl; rfl
 have F1:=zad (st:=top 3) l1 c1 k1
 have A1:FnAt K mg (top 3):=zau X G a1 F1 (by rfl) (ps:=["net"]) (by rfl) fun _ _ _ _ _ _ us hl=>by obtain ⟨a0,rfl⟩:=len1 hl; rfl
 have F2:=zad (st:=top 4) l2 c2 k2
 have A2:FnAt K mg (top 4):=zau X G a2 F2 (by rfl) (ps:=["start", "among", "rows"]) (by rfl) fun _ _ _ _ _ _ us hl=>by obtain ⟨a0,a1,a2,rfl⟩:=len3 hl; rfl
 have F3:=zad (st:=top 5) l3 c3 k3
 have A3:FnAt K mg (top 5):=zau X G a3 F3 (by rfl) (ps:=["among", "rows"]) (by rfl) fun _ _ _ _ _ _ us hl=>by obtain ⟨a0,a1,rfl⟩:=len2 hl; rfl
 have F4:=zad (st:=top 6) l4 c4 k4
 have A4:FnAt K mg (top 6):=zau X G a4 F4 (by rfl) (ps:=["net"]) (by rfl) fun _ _ _ _ _ _ us hl=>by obtain ⟨a0,rfl⟩:=len1 hl; rfl
 have F5:=zad (st:=top 8) l5 c5 k5
 have A5:FnAt K mg (top 8):=zau X G a5 F5 (by rfl) (ps:=["dart", "wheel"]) (by rfl) fun _ _ _ _ _ _ us hl=>by obtain ⟨a0,a1,rfl⟩:=len2 hl; rfl
 have F6:=zad (st:=top 9) l6 c6 k6
 have A6:FnAt K mg (top 9):=zau X G a6 F6 (by rfl) (ps:=["first", "wheel"]) (by rfl) fun _ _ _ _ _ _ us hl=>by obtain ⟨a0,a1,rfl⟩:=len2 hl; rfl
 have F7:=zad (st:=top 10) l7 c7 k7
 have A7:FnAt K mg (top 10):=zau X G a7 F7 (by rfl) (ps:=["net", "wheel"]) (by rfl) fun _ _ _ _ _ _ us hl=>by obtain ⟨a0,a1,rfl⟩:=len2 hl; rfl
 have F8:=zad (st:=top 11) l8 c8 k8
 have A8:FnAt K mg (top 11):=zau X G a8 F8 (by rfl) (ps:=["net", "wheel"]) (by rfl) fun _ _ _ _ _ _ us hl=>by obtain ⟨a0,a1,rfl⟩:=len2 hl; rfl
 have F9:=zad (st:=top 13) l9 c9 k9
 have A9:FnAt K mg (top 13):=zau X G a9 F9 (by rfl) (ps:=["_law_script", "_law_k"]) (by rfl) fun _ _ _ _ _ _ us hl=>by obtain ⟨a0,a1,rfl⟩:=len2 hl; rfl
 have F10:=zad (st:=top 14) l10 c10 k10
 have A10:FnAt K mg (top 14):=zau X G a10 F10 (by rfl) (ps:=["_law_cell_here", "_law_prime", "_law_many"]) (by rfl) fun _ _ _ _ _ _ us hl=>by obtain ⟨a0,a1,a2,rfl⟩:=len3 hl; rfl
 have F11:=zad (st:=top 15) l11 c11 k11
 have A11:FnAt K mg (top 15):=zau X G a11 F11 (by rfl) (ps:=["_law_found"]) (by rfl) fun _ _ _ _ _ _ us hl=>by obtain ⟨a0,rfl⟩:=len1 hl; rfl
 have F12:=zad (st:=top 16) l12 c12 k12
 have A12:FnAt K mg (top 16):=zau X G a12 F12 (by rfl) (ps:=["_law_count"]) (by rfl) fun _ _ _ _ _ _ us hl=>by obtain ⟨a0,rfl⟩:=len1 hl; rfl
 have F13:=zad (st:=top 17) l13 c13 k13
 have A13:FnAt K mg (top 17):=zau X G a13 F13 (by rfl) (ps:=["_law_script", "_law_k"]) (by rfl) fun _ _ _ _ _ _ us hl=>by obtain ⟨a0,a1,rfl⟩:=len2 hl; rfl
 have F14:=zad (st:=top 18) l14 c14 k14
 have A14:FnAt K mg (top 18):=zau X G a14 F14 (by rfl) (ps:=["_law_net_here", "_law_place"]) (by rfl) fun _ _ _ _ _ _ us hl=>by obtain ⟨a0,a1,rfl⟩:=len2 hl; rfl
 have F16:=zad (st:=top 20) l16 c16 k16
 have A16:FnAt K mg (top 20):=zau X G a16 F16 (by rfl) (ps:=["_law_script", "_law_k", "_law_net_here"]) (by rfl) fun _ _ _ _ _ _ us hl=>by obtain ⟨a0,a1,a2,rfl⟩:=len3 hl; rfl
 have F17:=zad (st:=top 21) l17 c17 k17
 have A17:FnAt K mg (top 21):=zau X G a17 F17 (by rfl) (ps:=["_law_wheel", "_law_dart"]) (by rfl) fun _ _ _ _ _ _ us hl=>by obtain ⟨a0,a1,rfl⟩:=len2 hl; rfl
 have F18:=zad (st:=top 22) l18 c18 k18
 have A18:FnAt K mg (top 22):=zau X G a18 F18 (by rfl) (ps:=["_law_net_here", "_law_wheel"]) (by rfl) fun _ _ _ _ _ _ us hl=>by obtain ⟨a0,a1,rfl⟩:=len2 hl; rfl
 have F19:=zad (st:=top 23) l19 c19 k19
 have A19:FnAt K mg (top 23):=zau X G a19 F19 (by rfl) (ps:=["_law_count", "_law_edges"]) (by rfl) fun _ _ _ _ _ _ us hl=>by obtain ⟨a0,a1,rfl⟩:=len2 hl; rfl
 have F20:=zad (st:=top 24) l20 c20 k20
 have A20:FnAt K mg (top 24):=zau X G a20 F20 (by rfl) (ps:=["_law_net_here", "_law_wheel"]) (by rfl) fun _ _ _ _ _ _ us hl=>by obtain ⟨a0,a1,rfl⟩:=len2 hl; rfl
 have F21:=zad (st:=top 25) l21 c21 k21
 have A21:FnAt K mg (top 25):=zau X G a21 F21 (by rfl) (ps:=["_law_script"]) (by rfl) fun _ _ _ _ _ _ us hl=>by obtain ⟨a0,rfl⟩:=len1 hl; rfl
 have T:Txt [15] PySem.Challenge.pw_planeyard_k08_faces K mg:=zqe X G tops topc ⟨A0,A1,A2,A3,A4,A5,A6,A7,A8,A9,A10,A11,A12,A13,A14,trivial,A16,A17,A18,A19,A20,A21,trivial⟩ ⟨z0,z1,z2,z3,z4,z5,z6,z7,z8,z9,z10,z11,z12,z13,z14,z15,z16,z17,trivial⟩ trivial
 exact ⟨fnOf "law" "law" (defArgs (top 25)) (defBody (top 25)) (defScope (top 25)) .none kV21 dc21 pm21 an21 cd21 ct21,fun s v=>.of_eq rfl,fun base KB GB LB=>zri (f:=21) (W:=101) (k:=4) T KB GB LB rfl hfa K08.zoj (by rw [tops]; rfl) rfl (fun ns _=>K08.zma ns 0) F21⟩
end K08E
open PySem PySem.W PyProof.Rows
set_option maxRecDepth 100000 in
set_option maxHeartbeats 0 in
theorem PySem.Challenge.cw_planeyard_k08_faces_holds : PySem.Challenge.rw_planeyard_k08_faces.Holds := by
 w_on; o_law; k_head; (case hw=>w_witness2)
 k_fill
 refine SD.walkT (l:=PySem.Challenge.rw_planeyard_k08_faces) (k:=20) (x:="_law_script") (ts:=[]) rfl rfl ⟨rfl,by decide,by decide⟩ (fun w h Y=>⟨PySem.W.kIn_of Y,fun P hP=>by cases hP⟩) (fun w P hP=>by cases hP) (fun w y hy=>by cases hy) ?F
 case F =>
  intro w mg fa h KX G hmg
  refine' K08E.zrt KX G hmg ?a0 ?l0 ?c0 ?k0 ?a1 ?l1 ?c1 ?k1 ?a2 ?l2 ?c2 ?k2 ?a3 ?l3 ?c3 ?k3 ?a4 ?l4 ?c4 ?k4 ?a5 ?l5 ?c5 ?k5 ?a6 ?l6 ?c6 ?k6 ?a7 ?l7 ?c7 ?k7 ?a8 ?l8 ?c8 ?k8 ?a9 ?l9 ?c9 ?k9 ?a10 ?l10 ?c10 ?k10 ?a11 ?l11 ?c11 ?k11 ?a12 ?l12 ?c12 ?k12 ?a13 ?l13 ?c13 ?k13 ?a14 ?l14 ?c14 ?k14 ?a16 ?l16 ?c16 ?k16 ?a17 ?l17 ?c17 ?k17 ?a18 ?l18 ?c18 ?k18 ?a19 ?l19 ?c19 ?k19 ?a20 ?l20 ?c20 ?k20 ?a21 ?l21 ?c21 ?k21 ?z0 ?z1 ?z2 ?z3 ?z4 ?z5 ?z6 ?z7 ?z8 ?z9 ?z10 ?z11 ?z12 ?z13 ?z14 ?z15 ?z16 ?z17
  (case a0=>k_is); (case l0=>k_is); (case c0=>k_is); (case k0=>k_is)
  (case a1=>k_is); (case l1=>k_is); (case c1=>k_is); (case k1=>k_is)
  (case a2=>k_is); (case l2=>k_is); (case c2=>k_is); (case k2=>k_is)
  (case a3=>k_is); (case l3=>k_is); (case c3=>k_is); (case k3=>k_is)
  (case a4=>k_is); (case l4=>k_is); (case c4=>k_is); (case k4=>k_is)
  (case a5=>k_is); (case l5=>k_is); (case c5=>k_is); (case k5=>k_is)
  (case a6=>k_is); (case l6=>k_is); (case c6=>k_is); (case k6=>k_is)
  (case a7=>k_is); (case l7=>k_is); (case c7=>k_is); (case k7=>k_is)
  (case a8=>k_is); (case l8=>k_is); (case c8=>k_is); (case k8=>k_is)
  (case a9=>k_is); (case l9=>k_is); (case c9=>k_is); (case k9=>k_is)
  (case a10=>k_is); (case l10=>k_is); (case c10=>k_is); (case k10=>k_is)
  (case a11=>k_is); (case l11=>k_is); (case c11=>k_is); (case k11=>k_is)
  (case a12=>k_is); (case l12=>k_is); (case c12=>k_is); (case k12=>k_is)
  (case a13=>k_is); (case l13=>k_is); (case c13=>k_is); (case k13=>k_is)
  (case a14=>k_is); (case l14=>k_is); (case c14=>k_is); (case k14=>k_is)
  (case a16=>k_is); (case l16=>k_is); (case c16=>k_is); (case k16=>k_is)
  (case a17=>k_is); (case l17=>k_is); (case c17=>k_is); (case k17=>k_is)
  (case a18=>k_is); (case l18=>k_is); (case c18=>k_is); (case k18=>k_is)
  (case a19=>k_is); (case l19=>k_is); (case c19=>k_is); (case k19=>k_is)
  (case a20=>k_is); (case l20=>k_is); (case c20=>k_is); (case k20=>k_is)
  (case a21=>k_is); (case l21=>k_is); (case c21=>k_is); (case k21=>k_is)
  (case z0=>k_is)
  (case z1=>k_is)
  (case z2=>k_is)
  (case z3=>k_is)
  (case z4=>k_is)
  (case z5=>k_is)
  (case z6=>k_is)
  (case z7=>k_is)
  (case z8=>k_is)
  (case z9=>k_is)
  (case z10=>k_is)
  (case z11=>k_is)
  (case z12=>k_is)
  (case z13=>k_is)
  (case z14=>k_is)
  (case z15=>k_is)
  (case z16=>k_is)
  (case z17=>k_is)
