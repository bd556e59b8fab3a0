import PyProof.Rows.All
import Wide.All
import OpenK.AllK
import Wide.FinOn
import Lean
import PyProof.EqAt
import PyProof.EqKinds
import PyProof.NeKinds
import PyProof.TupleCall
import KE.KLam
import KE.KMinKey
import KE.KNestM
import PyProof.WalkInts
import PySem.Eval
import PySem.SetOps
import PySem.Syntax
import PySem.Challenge.RW_planeyard_k12_what_is_a_knot
set_option Elab.async false
set_option linter.all false
set_option maxRecDepth 100000
open PySem.W (Frag nsIn keepIn codeIn fnOf)
set_option genInjectivity false
set_option genSizeOf false
open Option renaming some→ya,bind_some→ye,none→yk,map_some→xx,isSome_map→yc0,map_eq_some_iff→ydo,getD_none→yes,map_map→ye6,isSome→yfg
open PySem renaming wpAny_bind→yb,Value→yh,wpAny_pure→yj,Shared→ym,Addr→yq,sizeLine→y8,wpAny→y9,Program→qw,mainGlobals→xi,Around→x5,wpAny_call_entry→x6,World→x8,wpAny_newObj_type→jc,wpAny_mono→jd,compareOp→je,starEach→jh,cLine→ju,codeAny_builtin→jv,wpAny_holding→jw,builtinLookup_eq_fast→jx,wpAny_setState_of→wc,SetTable→wx,rawInt→vb,typeLookup_type→vi,wpAny_newList→vn,sysModules→vx,isSubtype_type→vy,wpAny_passesOwn→ub,bootBuiltins→ud,wpAny_truthy_bool→uf,foldedSetIterable→ug,sizeLine_eq→uh,wpAny_field→ui,wpAny_typeOf→uj,wpAny_of_eq→ul,wpAny_typeNameOfWhole_keyiter→ur,assignEach→ux,wpAny_Call_Name_kw→uy,tupleKind_room_in1→uz,wpAny_specialOf→u9,binaryOp→yai,FuncData→yaj,NameKind→yak,firstArgMember→yal,wpAny_isInstance→yap,wpAny_askSetting→yaq,wpAny_attempt→yav,plainId_quiet→yaw,getItem→ya1,wpAny_ite_split→ya3,sliceBounds→ybd,codeAny_mono→ybn,ofAClassStatement→ybo,wpAny_pyIter_slot→ybr,wpAny_setField→ybs,swapsWith→ybx,wpAny_forIn_list→yby,codeAny→yb1,letOwnedTupleGo→yca,codeAny_of_tree→ycb,tupleKind→ych,wpAny_runValue→ycp,wpAny_setField_rec→ycq,wpAny_pyIter_list→yc4,call_meets→ydu
open List renaming getElem?_eq_getElem→yc,length_map→yd,mem_cons_of_mem→yf,mem_cons_self→yg,mem_cons→yn,map_cons→yo,size_toArray→yt,length_append→yu,getElem?_map→yy,mem_map→yz,getD_eq_getElem?_getD→y3,mem_filter→qa,map_append→qb,mem_singleton→qd,length_cons→qf,dropLast_cons_of_ne_nil→qj,getElem?_eq_some_iff→qk,all_eq_true→qo,append_nil→qr,mem_append→qt,map_map→qu,mem_append_right→qx,flatMap_cons→qy,getElem?_append_right→qz,range→q5,append_assoc→xb,getElem?_append_left→xc,pairwise_cons→xj,mem_of_getElem?→xk,filter_cons_of_pos→xm,length_replicate→xo,sum_cons→xq,nodup_iff_pairwise_ne→xu,nodup_cons→xw,filter_cons_of_neg→xy,length_take→x3,map_congr_left→x9,replicate→ja,not_mem_nil→jb,mem_append_left→jf,getLastD_eq_getLast?→jg,zip_cons_cons→ji,length_filter_le→jk,mem_range→jm,getElem?_replicate→jn,any_eq_true→jo,reverse_cons→jp,getElem?_set→jq,filter_congr→jr,pairwise_map→j4,length_eq_zero_iff→j5,length_nil→j6,perm_middle→j7,mem_flatMap→j8,getElem_of_mem→j9,length_reverse→wa,flatMap_append→wb,perm_append_comm→wd,append_of_mem→wg,length_drop→wk,all_cons→wn,nodup_append→wq,tail_cons→wt,length_set→wv,getElem?_zip_eq_some→ww,dropLast_append_of_ne_nil→wy,any_cons→wz,all_map→w4,mem_of_mem_take→w6,eq_nil_of_length_eq_zero→w8,exists_mem_of_length_pos→va,getElem?_cons_succ→vd,getElem?_cons_zero→ve,count_append→vg,range_succ_eq_map→vj,take_of_length_le→vk,lookup_cons→vo,getD→vp,getElem_mem→vq,cons_append→vt,length_singleton→vz,getElem?_eq_none→v7,findIdx?_eq_some_iff_getElem→v8,drop_eq_getElem_cons→v9,length→uc,filterMap_cons→um,count_pos_iff→uw,find?_cons→u3,foldl_cons→u4,sum_append→u5,count_cons→u8,take_append_drop→yac,length_range→yad,mem_of_mem_drop→yae,perm_ext_iff_of_nodup→yaf,reverse_reverse→yag,map_nil→yam,any_map→yan,pairwise_iff_getElem→yar,filter_map→yaz,nil_append→ya0,findIdx?_cons→ya4,map_inj_right→ya5,filter_append→ya6,flatMap_eq_nil_iff→ybc,drop_zero→ybk,any_eq_false→ybl,filter_eq_nil_iff→ybm,eraseIdxIfInBounds_toArray→ybt,pairwise_append→yb3,length_zip→yb8,dropLast_concat_getLast→yb9,getElem?_range→ycc,filter_eq_self→ycd,map_id'→ycg,mem_filterMap→ycj,count_eq_zero→ycn,extract_eq_drop_take→ycs,getElem?_eq_none_iff→yct,findIdx?_eq_none_iff→ycu,take_sublist→ycz,foldl_append→yc2,ext_getElem?→yc3,headD_eq_head?_getD→yc8,getElem_inj→yc9,eraseIdx_cons_succ→yda,ext_getElem→ydd,take_length→ydg,drop_length→ydj,filter_append_perm→ydk,getElem?_set_self→ydm,pairwise_lt_range→ydr,drop_eq_nil_of_le→ydt,of_mem_zip→ydv,contains_iff_mem→ydz,getElem?_set_ne→yd4,mem_map_of_mem→yd9,filter_sublist→yea,getElem_range→yed,contains_cons→yeg,drop_sublist→yek,nodup_range→yeu,getElem_map→yev,filter_cons→yew,isEmpty_nil→yex,mem_reverse→yez,zip_append→ye1,range_succ→ye2,perm_cons→ye5,unzip_zip→ye8,nodup_nil→ye9,map→yfb,count_nil→yfc,map_take→yfi,map_drop→yfj,nil_perm→yfk
open Bool renaming false→yi,true→yl,and_eq_true→yr,false_ne_true→qc,false_eq_true→ql,not_eq_true'→xt,eq_iff_iff→vh,and_false→uq,not_true→yab,true_and→yb0,or_eq_false_iff→yb4,false_and→yci,and_true→yc6,or_eq_true→ydw,decide_and→ydx,and_assoc→ye7,false_or→yff,and_self→yfh,or_false→yfl
open PySem.Heap renaming get?_push_of_some→yp,lt_size→yx,get?_push_size→y4,get?_update_self→v6,size_update→yao,get?_update_other→ybg,get?_push_ne→ybh,get?_update_ne→yd7,size_push→ye4
open PySem.Value renaming ref→yw,type→ut,int→ya7,bool→ybv,str→yeq,isStrOf→yfe
open Nat renaming le_refl→y6,ne_of_lt→qg,lt_of_lt_of_le→qp,le_trans→xh,zero_le→wm,le_of_lt→wo,lt_succ_of_lt→vc,zero_add→vm,ne_of_gt→uu,lt_irrefl→yaa,min_le_left→yay,le_succ→ya9,not_lt_zero→yb7,min_self→ycf,lt_trichotomy→yc1,le_add_right→ydc,lt_succ_self→ydf,add_zero→ydq,mod_lt→yeb,lt_of_lt_of_eq→yee,lt_of_le_of_lt→yeh,lt_trans→yej,succ_pos→yel,sub_zero→yen,succ_min_succ→yeo,min_le_right→yer,le_of_not_lt→yet,mul_le_mul→yfd
open PySem.NameKind renaming free→qe,cell→ybz
open Option.some renaming inj→qh
open Array renaming length_toList→qi,getElem?_toList→xa,getElem?_eq_getElem→xz,getElem?_eq_some_iff→vv,replicate→yax,getElem?_eq_none→ybj,getD→ybw,empty_append→yck,size_map→yd5,forIn_toList→yec,toList_push→yem,toList→yfn
open Classical renaming byContradiction→xf,propDecidable→ybb
open Ne renaming symm→xg
open True renaming intro→x4
open PyProof.Rows renaming slot_tuple_getitem→jj,seqObj→js,callWith_type1→jz,IntsAre→wu,IsTup→yah,listUpdate_at→yau,entry_list_sort→ya2,slot_list_sort→ybp,args_list_sort→ybq,subscriptTail→yb2,entry_proto_collect'→yb6,slot_tuple_getitem→yco,boot_tuple→ydh
open Int renaming emod_lt_of_pos→jt,emod_nonneg→we,le_refl→yba,toNat_natCast→ybi,natCast_add→ydy,zero_add→yep
open Sum renaming inl→jy,inr→ydl
open PySem.F renaming plainAttrs_list→vf,slot_dict_keyiterator_next→vw,args_tuple_add_2→yas,entry_tuple_add→ya8,slot_tuple_add→ybf,slot_dict_get→ybu,called_tuple→yb5,plain_proto_collect→yce,plain_reversed_new→ycl,args_object_init_2→ycm,slot_dict_getitem→ycr,sub_reversed_self→ycv,entry_object_init→ycw,plain_extend_loop→ycx,slot_list_insert→yc5,args_dict_get_3→ydb,plain_list_iadd→yde,plain_tuple_new→ydi,entry_dict_get→ydp,slot_dict_iter→yds,slot_set_iter→yd0,plain_set_new→yd1,slot_list_pop→yd2,type_list_pop→yd3,called_set→yef
open PySem.W renaming kia_one→ua,tabIn→yat,findIn→ybe,methodObj→ycy,mg_of→yc7,cellsFrom_some→ydn,keepIn→yd6,codeHd_of_K→yd8,specialIn→yei,codeHdIn→yey,instObj→ye0,kitOne→ye3,tabObj→yfa,nsIn→yfm,isFn→yfo
theorem zKK{P:Prop}(h:∀G:Prop,(P->G)->G):P:=h P id
namespace L2
open PySem PySem.Spec PyProof.Rows
abbrev Key:=Sum Int Str
def keyIs:Key->yh->Bool
 | .inl k,v=>Value.isInt k v
 | .inr x,v=>yfe x v
def keyH(w:x8):Key->Int
 | .inl k=>hashInt k
 | .inr x=>hashStr w x
theorem zp:∀{k:Key} {v:yh},keyIs k v=yl->(∃i t,k=jy i/\v=ya7 i t)\/(∃x t,k=ydl x/\v=yeq x t)
 | .inl i,v,h=>by
  obtain⟨t,e⟩:=Value.isInt_shape (k:=i) (v:=v) h;exact .inl ⟨i,t,rfl,e⟩
 | .inr x,v,h=>by
  obtain⟨t,e⟩:=Value.isStrOf_shape (x:=x) (v:=v) h;exact .inr ⟨x,t,rfl,e⟩
theorem zmn(i:Int)(t:Tok):keyIs (.inl i) (.int i t)=yl:=by simp[keyIs,Value.isInt]
theorem zm3(x:Str)(t:Tok):keyIs (.inr x) (.str x t)=yl:=by simp[keyIs,yfe]
theorem zvl(a b:Int):decide ((jy a:Key)=jy b)=(a==b):=by
 by_cases e:a=b
 ·subst e;simp
 ·have h:¬(jy a:Key)=jy b:=λq=>e (jy.inj q)
  rw[decide_eq_false h];exact(beq_eq_false_iff_ne.mpr e).symm
theorem zv3(a b:Str):decide ((ydl a:Key)=ydl b)=decide (a=b):=by
 by_cases e:a=b
 ·subst e;simp
 ·have h:¬(ydl a:Key)=ydl b:=λq=>e (ydl.inj q)
  rw[decide_eq_false h,decide_eq_false e]
theorem zwj(a:Int)(b:Str):decide ((jy a:Key)=ydl b)=yi:=decide_eq_false (λq=>nomatch q)
theorem zus(a:Str)(b:Int):decide ((ydl a:Key)=jy b)=yi:=decide_eq_false (λq=>nomatch q)
def mixKind(prog:qw)(w:x8):PySem.KeyKind prog w Key where
 is:=keyIs
 hash:=keyH w
 inj:=λv a b ha hb=>by
  rcases zp ha with⟨i,t,rfl,rfl⟩ | ⟨x,t,rfl,rfl⟩
  ·rcases zp hb with⟨j,u,rfl,e⟩ | ⟨y,u,rfl,e⟩
   ·injection e with e1 _;rw[e1]
   ·exact nomatch e
  ·rcases zp hb with⟨j,u,rfl,e⟩ | ⟨y,u,rfl,e⟩
   ·exact nomatch e
   ·injection e with e1 _;rw[e1]
 byValue:=λk v h=>by
  rcases zp h with⟨i,t,rfl,rfl⟩ | ⟨x,t,rfl,rfl⟩ <;> rfl
 pyHash:=λhv h=>by
  rcases zp hv with⟨i,t,rfl,rfl⟩ | ⟨x,t,rfl,rfl⟩
  ·exact wpAny_pyHash_int h
  ·exact wpAny_pyHash_str h
 eqBool:=λhu hv h=>by
  rcases zp hu with⟨i,t,rfl,rfl⟩ | ⟨x,t,rfl,rfl⟩
  ·rcases zp hv with⟨j,u,rfl,rfl⟩ | ⟨y,u,rfl,rfl⟩
   ·rw[zvl]at h;exact wpAny_eqBool_int h
   ·rw[zwj]at h;exact SeqAt.EqAt.int_str i t y u _ _ _ _ h
  ·rcases zp hv with⟨j,u,rfl,rfl⟩ | ⟨y,u,rfl,rfl⟩
   ·rw[zus]at h;exact SeqAt.EqAt.str_int x t j u _ _ _ _ h
   ·rw[zv3]at h;exact wpAny_eqBool_str h
 «strs»:=λk x t v h=>by
  rcases zp h with⟨i,u,rfl,e⟩ | ⟨y,u,rfl,e⟩
  ·exact nomatch e
  ·injection e with e1 _
   subst e1;cases v <;> rfl
theorem ziz(prog:qw)(w:x8)(i:Int)(t:Tok):(mixKind prog w).is (.inl i) (.int i t)=yl:=zmn i t
theorem zik(prog:qw)(w:x8)(x:Str)(t:Tok):(mixKind prog w).is (.inr x) (.str x t)=yl:=zm3 x t
inductive V where
 | non | bl (b:Bool) | int (i:Int) | str (x:Str) | byt (b:Array UInt8) | flt (b:UInt64) | ref (a:yq) | ty (n:String)
 deriving DecidableEq
def RelV:V->yh->Prop
 | .non,u=>u=Value.none
 | .bl b,u=>u=ybv b
 | .int i,u=>∃t,u=ya7 i t
 | .str x,u=>∃t,u=yeq x t
 | .byt b,u=>∃t,u=Value.bytes b t
 | .flt b,u=>∃t,u=Value.float b t
 | .ref a,u=>u=yw a
 | .ty n,u=>u=ut n
abbrev Vals:List V->List yh->Prop:=Paired RelV
theorem Vals.length{xs:List V}{us:List yh}(r:Vals xs us):xs.length=us.length:=Paired.length r
theorem Vals.get:∀{xs:List V} {us:List yh} {i:Nat} {x:V},Vals xs us->xs[i]? = ya x->∃u,us[i]? = ya u/\RelV x u
 | _,_,_,_,.nil,e=>by simp at e
 | _,_,0,_,.cons r _,e=>by simp at e;subst e;exact⟨_,rfl,r⟩
 | _,_,i+1,x,.cons _ t,e=>by
  obtain⟨u,h1,h2⟩:=Vals.get (i:=i) (x:=x) t (by simpa using e);exact⟨u,by simpa using h1,h2⟩
theorem Vals.append:∀{xs ys:List V} {us ws:List yh},Vals xs us->Vals ys ws->Vals (xs++ys) (us++ws)
 | _,_,_,_,.nil,s=>s
 | _,_,_,_,.cons r t,s=>.cons r (Vals.append t s)
theorem Vals.take:∀{xs:List V} {us:List yh} (n:Nat),Vals xs us->Vals (xs.take n) (us.take n)
 | _,_,0,_=>.nil
 | _,_,_+1,.nil=>.nil
 | _,_,n+1,.cons r t=>.cons r (Vals.take n t)
theorem Vals.drop:∀{xs:List V} {us:List yh} (n:Nat),Vals xs us->Vals (xs.drop n) (us.drop n)
 | _,_,0,r=>r
 | _,_,_+1,.nil=>.nil
 | _,_,n+1,.cons _ t=>Vals.drop n t
def RelO:Option V->Option yh->Prop
 | some v,ya u=>RelV v u
 | none,yk=>True
 | _,_=>False
def KV{κ:Type}:List (κ×V)->List (κ×yh)->Prop:=Paired λ(p:κ×V) (q:κ×yh)=>p.1=q.1/\RelV p.2 q.2
def kV:Key->V
 | .inl i=>.int i
 | .inr x=>.str x
set_option genInjectivity true in
inductive HO where
 | lst (xs:List V)
 | tup (xs:List V)
 | dK (kvs:List (Key×V)) | dT (kvs:List (List Key×V))
 | set (S:Int->Bool) (n:Nat)
 | ins (C dx:yq) (fs:List (Str×V))
 | own (x:yq)
 | xd (fs:List (Str×V))
 | met (f x:yq)
 | rng (lo hi:Int)
 | frz (o:Obj) (u:HO)
 | tbl (ps:Array yh)
 | ext (φ:Heap->Prop)
abbrev Hp:=yq->Option HO
def upd(H:Hp)(a:yq)(o:HO):Hp:=λb=>if b=a then ya o else H b
theorem zj{H:Hp}{a:yq}{o:HO}:upd H a o a=ya o:=by unfold upd;rw[if_pos rfl]
theorem zh{H:Hp}{a b:yq}{o:HO}(h:b≠a):upd H a o b=H b:=by unfold upd;rw[if_neg h]
theorem zr8{H:Hp}{a:yq}{o u:HO}:upd (upd H a o) a u=upd H a u:=by
 funext b;unfold upd;split <;> rfl
theorem zwx{H:Hp}{a b:yq}{o u:HO}(h:H a=ya o)(h':H b=ya u)(d:o≠u):a≠b:=by
 intro e;subst e;rw[h]at h';exact d (qh h')
theorem zg{H:Hp}{a b:yq}{o:HO}(h:H a=ya o)(h':H b=yk):a≠b:=by
 intro e;subst e;rw[h]at h';cases h'
def IsTupN(h:Heap)(a:yq)(its:Array yh):Prop:=yah h a its/\∃o,h.get? a=ya o/\o.dict=yk
theorem IsTupN.new(h:Heap)(its:Array yh):IsTupN (h.push { cls:=.type "tuple",data:=.seq its}) h.objs.size its:=⟨IsTup.new _ _,_,y4 _ rfl,rfl⟩
theorem IsTupN.keep{h h':Heap}{a:yq}{its:Array yh}(x:IsTupN h a its)(k:∀o,h.get? a=ya o->h'.get? a=ya o):IsTupN h' a its:=let⟨⟨o,e,r⟩,o',e',d⟩:=x;⟨⟨o,k o e,r⟩,o',k o' e',d⟩
section
variable (P:qw) (w:x8)
def ObjOk(H:Hp)(h:Heap)(a:yq):HO->Prop
 | .lst xs=>xs.length<=y8/\∃(its:List yh) (n:Nat),Vals xs its/\h.get? a=ya { cls:=.type "list",data:=.seq its.toArray n}
 | .tup xs=>xs.length<=y8/\∃its:List yh,Vals xs its/\IsTupN h a its.toArray
 | .dK kvs=>kvs.length<=y8/\(a==vx)=yi/\∃vs,KV kvs vs/\h.DictOf (mixKind P w) a vs
 | .dT kvs=>kvs.length<=y8/\(a==vx)=yi/\∃xs:List (List Key×yq×yh),
   Paired (λ(p:List Key×V) (q:List Key×yq×yh)=>p.1=q.1/\H q.2.1=ya (.tup (p.1.map kV))/\RelV p.2 q.2.2) kvs xs /\
   ∃o es ep,h.get? a=ya o/\o.ExactDict/\o.data=.dict es ep/\es.toList=xs.map (entryOfKey (ych (mixKind P w)))/\(xs.map (·.1)).Nodup
 | .set S n=>h.SetOf (intKind P w) a S n
 | .ins C dx fs=>H dx=ya (.own a)/\fs.length<=1000/\dx≠a/\h.get? a=ya (ye0 C dx) /\
   ∃mA,h.Ns1 dx mA/\(∀f,RelO (fs.lookup f) (mA f))/\PySem.Within mA (fs.map (·.1))
 | .own _=>∃o,h.get? a=ya o
 | .xd fs=>∃mA,h.Ns1 a mA/\∀f,RelO (fs.lookup f) (mA f)
 | .rng lo hi=>∃t u v,h.get? a=ya { cls:=.type "range",data:=.fields #[.int lo t,.int hi u,.int 1 v]}
 | .frz o u=>h.get? a=ya o/\ObjOk H h a u
 | .tbl ps=>h.get? a=ya { cls:=.none,data:=.fields ps}
 | .met f x=>h.get? a=ya (ycy (.ref f) (.ref x))
 | .ext φ=>φ h/\(∃o,h.get? a=ya o)/\∀h1 h2:Heap,φ h1->(∀o,h1.get? a=ya o->h2.get? a=ya o)->φ h2
def HOk(H:Hp)(h:Heap):Prop:=∀a o,H a=ya o->ObjOk P w H h a o
end
section
variable {P:qw} {w:x8} {H H':Hp} {h h':Heap} {a:yq} {o:HO}
theorem ObjOk.lt(x:ObjOk P w H h a o):a<h.objs.size:=by
 cases o with
 | lst xs=>obtain⟨_,_,_,_,e⟩:=x;exact yx e
 | tup xs=>obtain⟨_,_,_,p⟩:=x;exact p.1.lt
 | dK kvs=>obtain⟨_,_,_,_,o,_,_,e,_⟩:=x;exact yx e
 | dT kvs=>obtain⟨_,_,_,_,o,_,_,e,_⟩:=x;exact yx e
 | set S n=>obtain⟨o,_,_,_,e,_⟩:=x;exact yx e
 | ins C dx fs=>obtain⟨_,_,_,e,_⟩:=x;exact yx e
 | own y=>obtain⟨_,e⟩:=x;exact yx e
 | xd fs=>obtain⟨_,⟨_,_,_,e,_⟩,_⟩:=x;exact yx e
 | rng lo hi=>obtain⟨_,_,_,e⟩:=x;exact yx e
 | frz ob u=>obtain⟨e,_⟩:=x;exact yx e
 | tbl ps=>exact yx (show h.get? a=ya _ from x)
 | met f y=>exact yx (show h.get? a=ya _ from x)
 | ext φ=>obtain⟨_,⟨_,e⟩,_⟩:=x;exact yx e
theorem Paired.mapP{α β:Type}{F G:α->β->Prop}:∀{l₁:List α} {l₂:List β},Paired F l₁ l₂->(∀a b,F a b->G a b)->Paired G l₁ l₂
 | _,_,.nil,_=>.nil
 | _,_,.cons r t,f=>.cons (f _ _ r) (Paired.mapP t f)
theorem ObjOk.stay(x:ObjOk P w H h a o)(k:∀b u,(b=a\/H b=ya (.own a))->h.get? b=ya u->h'.get? b=ya u)
  (ho:∀b,H b=ya (.own a)->H' b=ya (.own a)) (ht:∀b xs,H b=ya (.tup xs)->H' b=ya (.tup xs)):ObjOk P w H' h' a o:=by
 induction o with
 | lst xs=>refine zKK λγ κ=>?_;obtain⟨z,its,n,r,e⟩:=x;refine κ ?_;exact⟨z,its,n,r,k _ _ (.inl rfl) e⟩
 | tup xs=>obtain⟨z,its,r,p⟩:=x;exact⟨z,its,r,p.keep λo e=>k _ _ (.inl rfl) e⟩
 | dK kvs=>refine zKK λγ κ=>?_;obtain⟨z,y,vs,r,ob,es,ep,e,c⟩:=x;refine κ ?_;exact⟨z,y,vs,r,ob,es,ep,k _ _ (.inl rfl) e,c⟩
 | dT kvs =>
  refine zKK λγ κ=>?_;obtain⟨z,y,xs,r,ob,es,ep,e,c⟩:=x;refine κ ?_;exact⟨z,y,xs,Paired.mapP r λp q z=>⟨z.1,ht _ _ z.2.1,z.2.2⟩,ob,es,ep,k _ _ (.inl rfl) e,c⟩
 | set S n=>refine zKK λγ κ=>?_;obtain⟨ob,es,ep,t,e,c⟩:=x;refine κ ?_;exact⟨ob,es,ep,t,k _ _ (.inl rfl) e,c⟩
 | ins C dx fs =>
  refine zKK λγ κ=>?_;obtain⟨d,z,ne,e,mA,⟨od,es,ep,e2,c⟩,r⟩:=x;refine κ ?_;exact⟨ho _ d,z,ne,k _ _ (.inl rfl) e,mA,⟨od,es,ep,k _ _ (.inr d) e2,c⟩,r⟩
 | own y=>obtain⟨ob,e⟩:=x;exact⟨ob,k _ _ (.inl rfl) e⟩
 | xd fs=>refine zKK λγ κ=>?_;obtain⟨mA,⟨od,es,ep,e,c⟩,r⟩:=x;refine κ ?_;exact⟨mA,⟨od,es,ep,k _ _ (.inl rfl) e,c⟩,r⟩
 | rng lo hi=>obtain⟨t,u,v,e⟩:=x;exact⟨t,u,v,k _ _ (.inl rfl) e⟩
 | frz ob u ih=>obtain⟨e,q⟩:=x;exact⟨k _ _ (.inl rfl) e,ih q⟩
 | tbl ps =>
  have e:h.get? a=ya { cls:=.none,data:=.fields ps}:=x;show h'.get? a=ya { cls:=.none,data:=.fields ps};exact k a _ (.inl rfl) e
 | met f y =>
  have e:h.get? a=ya (ycy (.ref f) (.ref y)):=x;show h'.get? a=ya (ycy (.ref f) (.ref y));exact k a _ (.inl rfl) e
 | ext φ=>obtain⟨p,⟨o,e⟩,st⟩:=x;exact⟨st _ _ p λo q=>k _ _ (.inl rfl) q,⟨o,k _ _ (.inl rfl) e⟩,st⟩
theorem HOk.lt(x:HOk P w H h)(e:H a=ya o):a<h.objs.size:=(x a o e).lt
theorem HOk.fresh(x:HOk P w H h)(e:h.objs.size<=a):H a=yk:=by
 cases q:H a with
 | none=>rfl
 | some u=>exact absurd (qp (x.lt q) e) (yaa _)
theorem HOk.kept(x:HOk P w H h)(k:∀b u,h.get? b=ya u->h'.get? b=ya u):HOk P w H h':=λa o e =>
 (x a o e).stay (λb u _ q=>k b u q) (λ_ q=>q) λ_ _ q=>q
theorem HOk.laid(x:HOk P w H h)(k:∀b u,h.get? b=ya u->h'.get? b=ya u)(hp:h.objs.size<=a)(new:ObjOk P w (upd H a o) h' a o):HOk P w (upd H a o) h':=λb u e=>by
 have hn:=x.fresh hp;by_cases hb:b=a
 ·subst hb;rw[zj]at e;cases e;exact new
 ·rw[zh hb]at e
  exact(x b u e).stay (λc v _ q=>k c v q) (λc q=>by rw[zh (zg q hn)];exact q) λc xs q=>by rw[zh (zg q hn)];exact q
end
def Rd(H:Hp)(a:yq)(u:HO):Prop:=H a=ya u\/∃o,H a=ya (.frz o u)
theorem Rd.ok{P:qw}{w:x8}{H:Hp}{h:Heap}{a:yq}{u:HO}(r:Rd H a u)(x:HOk P w H h):ObjOk P w H h a u:=by
 rcases r with r | ⟨o,r⟩
 ·exact x a u r
 ·obtain⟨_,q⟩:=x a _ r
  exact q
def Mut:Option HO->Prop
 | some (.lst _)=>True
 | some (.dK _)=>True
 | some (.dT _)=>True
 | some (.set _ _)=>True
 | some (.ins _ _ _)=>True
 | some (.ext _)=>True
 | _=>False
section
variable {P:qw} {w:x8} {H:Hp} {h h':Heap} {x e:yq} {o':HO}
theorem HOk.write(ok:HOk P w H h)(mu:Mut (H x))(he:e=x\/H e=ya (.own x))(k:∀b u,b≠e->h.get? b=ya u->h'.get? b=ya u)(heo:∃u,h'.get? e=ya u)
  (new:ObjOk P w (upd H x o') h' x o'):HOk P w (upd H x o') h':=λb u q=>by
 have nown:∀c y,H c=ya (.own y)->c≠x:=λc y r z=>by subst z;rw[r]at mu;exact mu
 have ntup:∀c xs,H c=ya (.tup xs)->c≠x:=λc xs r z=>by subst z;rw[r]at mu;exact mu
 by_cases hb:b=x
 ·subst hb;rw[zj]at q;cases q;exact new
 ·rw[zh hb]at q
  by_cases hbe:b=e
  ·have q':H b=ya (.own x):=by
    rcases he with z | z
    ·exact absurd (hbe.trans z) hb
    ·rw[hbe];exact z
   rw[q]at q';cases q';obtain⟨v,hv⟩:=heo;exact⟨v,by rw[hbe];exact hv⟩
  ·refine(ok b u q).stay (λc v hc r=>k c v ?_ r) (λc r=>by rw[zh (nown c b r)];exact r) λc xs r=>by rw[zh (ntup c xs r)];exact r
   rcases hc with rfl | hc
   ·exact hbe
   ·rintro rfl
    rcases he with z | z
    ·exact nown c b hc z
    ·rw[hc]at z;cases z;exact hb rfl
end
structure Un (fs ex:List Addr) (H H':Hp) (h h':Heap):Prop where
 keep:∀b o,h.get? b=ya o->H b=yk->b∉fs->b∉ex->h'.get? b=ya o
 slot:∀b o,h.get? b=ya o->H b=yk->b∈fs->b∉ex->∃sl,h'.get? b=ya { o with slots:=sl}
 free:∀b o,h.get? b=ya o->H b=yk->b∉ex->H' b=yk
 there:∀b o,h.get? b=ya o->b∉ex->∃o',h'.get? b=ya o'
 tups:∀b xs,H b=ya (.tup xs)->H' b=ya (.tup xs)
 frzs:∀b o u,H b=ya (.frz o u)->H' b=ya (.frz o u)
 tbls:∀b ps,H b=ya (.tbl ps)->∃more,H' b=ya (.tbl (ps++more))
section
variable {fs fs' ex ex':List yq} {H H1 H2:Hp} {h h1 h2 h':Heap} {a x e:yq} {o:HO}
theorem Un.any(u:Un fs ex H H1 h h1){b:yq}{ob:Obj}(q:h.get? b=ya ob)(n:H b=yk)(hx:b∉ex):∃sl,h1.get? b=ya { ob with slots:=sl}:=by
 by_cases hb:b∈fs
 ·exact u.slot b ob q n hb hx
 ·exact⟨ob.slots,u.keep b ob q n hb hx⟩
theorem Un.kept(k:∀b u,h.get? b=ya u->h'.get? b=ya u):Un fs ex H H h h' :=
 ⟨λb ob q _ _ _=>k b ob q,λb ob q _ _ _=>⟨ob.slots,k b ob q⟩,λ_ _ _ n _=>n,λb ob q _=>⟨ob,k b ob q⟩,λ_ _ q=>q,λ_ _ _ q=>q,λ_ ps q=>⟨#[],by rw[q];simp⟩⟩
theorem Un.refl:Un fs ex H H h h:=Un.kept λ_ _ q=>q
theorem Un.laid(k:∀b u,h.get? b=ya u->h'.get? b=ya u)(hp:h.objs.size<=a)(hn:H a=yk):Un fs ex H (upd H a o) h h' where
 keep:=λb u q _ _ _=>k b u q
 slot:=λb u q _ _ _=>⟨u.slots,k b u q⟩
 free:=λb u q n _=>by rw[zh (qg (qp (yx q) hp))];exact n
 there:=λb u q _=>⟨u,k b u q⟩
 tups:=λb xs q=>by rw[zh (zg q hn)];exact q
 frzs:=λb u xs q=>by rw[zh (zg q hn)];exact q
 tbls:=λb ps q=>⟨#[],by rw[zh (zg q hn),q];simp⟩
theorem Un.write(mu:Mut (H x))(he:e=x\/H e=ya (.own x))(k:∀b u,b≠e->h.get? b=ya u->h'.get? b=ya u)(heo:∃u,h'.get? e=ya u):Un fs ex H (upd H x o) h h':=by
 have hx:∀b,H b=yk->b≠x:=λb n z=>by subst z;rw[n]at mu;exact mu
 have hb:∀b,H b=yk->b≠e:=λb n z=>by
  subst z;rcases he with r | r
  ·exact hx b n r
  ·rw[n]at r;cases r
 have hm:∀b u,H b=ya u->¬Mut (ya u)->b≠x:=λb u q nm z=>by subst z;rw[q]at mu;exact nm mu
 refine⟨λb u q n _ _=>k b u (hb b n) q,λb u q n _ _=>⟨u.slots,k b u (hb b n) q⟩,λb u q n _=>by rw[zh (hx b n)];exact n,λb u q _=>?_,
  λb xs q=>by rw[zh (hm b _ q λz=>z)];exact q,λb u xs q=>by rw[zh (hm b _ q λz=>z)];exact q,λb ps q=>⟨#[],by rw[zh (hm b _ q λz=>z),q];simp⟩⟩
 by_cases hbe:b=e
 ·subst hbe;exact heo
 ·exact⟨u,k b u hbe q⟩
end
def trk(h:Heap)(H:Hp):List yq:=(q5 h.objs.size).filter λa=>(H a).isSome
def hidT(h:Heap)(H:Hp):Heap:=PySem.W.hideAll h (trk h H)
theorem znv(h:Heap)(H:Hp):(hidT h H).objs.size=h.objs.size:=PySem.W.hideAll_size _ _
theorem zpr{h:Heap}{H:Hp}{b:yq}{o:Obj}(e:h.get? b=ya o)(n:H b=yk):(hidT h H).get? b=ya o :=
 PySem.W.hideAll_get _ e λhm=>by
  have q:(H b).isSome=yl:=(qa.mp hm).2;rw[n]at q;simp at q
theorem zsr{h:Heap}{H:Hp}{b:yq}{o:Obj}(e:(hidT h H).get? b=ya o):h.get? b=ya o/\H b=yk:=by
 have e':h.get? b=ya o:=PySem.W.of_hideAll (trk h H) e;refine⟨e',?_⟩;cases q:H b with
 | none=>rfl
 | some x =>
  have hm:b∈trk h H:=qa.mpr ⟨jm.mpr (yx e'),by simp[q]⟩;have z:(hidT h H).get? b=yk:=PySem.W.hideAll_none (trk h H) hm;rw[z]at e;cases e
def allNews(g h:Heap)(L:yq):List (yq×Obj):=(q5 h.objs.size).filterMap λa=>if a=L\/(g.get? a).isSome=yl then yk else(h.get? a).map λo=>(a,o)
def rest(g h:Heap)(L d:yq):List (yq×Obj):=(allNews g h L).filter λp=>decide (p.1≠d)
structure Mod (K:Frag) (mg:Str->Option Value) (base:Heap):Prop where
 kin:K.In base
 glob:base.Ns xi mg
 blt:∃mb,base.Ns builtinsNs mb/\∀x:Str,x≠"__name__"->mb x=ud x
 nolimit:base.NoLimit
structure Cx where
 prog:qw
 w:x8
 K:Frag
 mg:Str->Option yh
 base:Heap
 A:x5
 N:List Str
 s₀:ym
 H₀:Hp
 env:Env
 outer:List Env
 stack:List Env
 ex:List yq
 fn:Str->Bool
 calm:Bool
 pn:List (yq×Obj)
 xe:yh->ym->Prop
def frs(l:List Env):List yq:=l.filterMap (·.frame)
abbrev Cx.fs(X:Cx):List yq:=frs X.outer
def Vis(sc:Scope)(x:Str):Prop:=sc.names.lookup x=ya .local\/sc.names.lookup x=ya .cell\/sc.names.lookup x=ya .free
def Loc(sc:Scope)(x:Str):Prop:=sc.names.lookup x=ya .local\/sc.names.lookup x=ya .cell
def Look(env:Env)(h:Heap)(m:Str->Option yh)(x:Str)(u:yh):Prop :=
 (env.kindOf x=ya .local/\m x=ya u)\/((env.kindOf x=ya .cell\/env.kindOf x=ya .free)/\∃c,env.cells.lookup x=ya c/\h.IsCell c (ya u))
structure Cx.Ok (X:Cx):Prop where
 mod:Mod X.K X.mg X.base
 kind:X.env.scope.kind=.function
 glob:X.env.globals=xi
 blt:X.env.builtins=builtinsNs
 above:X.s₀.heap.objs.size<=X.env.locals
 inj:∀x y c,X.env.cells.lookup x=ya c->X.env.cells.lookup y=ya c->x=y
 has:∀x,(X.env.kindOf x=ya .cell\/X.env.kindOf x=ya .free)->∃c,X.env.cells.lookup x=ya c
 cab:∀x c,X.fn x=yl->X.env.cells.lookup x=ya c->X.s₀.heap.objs.size<=c
 hd:X.calm=yl->X.A.handled=yk
 frames:X.A.frames=ya X.stack
 stk:X.stack=X.outer\/(X.stack=X.env::X.outer/\X.env.frame=ya X.env.locals)
 exf:∀b∈X.ex,b≠X.env.locals/\∀x c,X.env.cells.lookup x=ya c->c≠b
 bs:∀b o,X.base.get? b=ya o->X.s₀.heap.get? b=ya o/\X.H₀ b=yk
 bsz:X.base.objs.size<=X.s₀.heap.objs.size
 noex:∀b o,X.base.get? b=ya o->b∉X.ex
 exfs:∀b∈X.ex,b∉X.fs
 funs:X.s₀.heap.FunFrames X.base X.outer
 frf:∀b∈X.fs,X.H₀ b=yk
structure Inv (X:Cx) (pins:List (Addr×Obj)) (σ:List (Option V)) (H:Hp) (s:Shared):Prop where
 ok:X.Ok
 os:s.os=X.s₀.os
 bare:AllBare s.gens
 base:Un X.fs X.ex X.H₀ H X.s₀.heap s.heap
 loc:∃m,s.heap.Ns X.env.locals m/\∀(i:Nat) (x:Str) (v:V),X.N[i]? = ya x->σ[i]? = ya (ya v)->Vis X.env.scope x->∃u,RelV v u/\Look X.env s.heap m x u
 cell:∀x c,X.env.cells.lookup x=ya c->∃v,s.heap.IsCell c v
 free:H X.env.locals=yk
 freeC:∀x c,X.env.cells.lookup x=ya c->H c=yk
 pin:∀p∈X.pn++pins,s.heap.get? p.1=ya p.2/\H p.1=yk/\p.1≠X.env.locals/\p.1∉X.fs/\∀v,p.2.data≠.cell v
 hok:HOk X.prog X.w H s.heap
 len:σ.length=X.N.length
section
variable {X:Cx} {pins:List (yq×Obj)} {σ:List (Option V)} {H H':Hp} {s:ym} {h':Heap}
theorem Cx.Ok.nofr(ok:X.Ok){b:yq}{o:Obj}(e:X.base.get? b=ya o):b∉X.fs:=λhb=>by
 have:=(ok.funs.mem hb).1;rw[e]at this;cases this
theorem Inv.bs(I:Inv X pins σ H s):∀b o,X.base.get? b=ya o->s.heap.get? b=ya o/\H b=yk:=λb o e =>
 ⟨I.base.keep b o (I.ok.bs b o e).1 (I.ok.bs b o e).2 (I.ok.nofr e) (I.ok.noex b o e),I.base.free b o (I.ok.bs b o e).1 (I.ok.bs b o e).2 (I.ok.noex b o e)⟩
theorem Inv.bk(I:Inv X pins σ H s):∀b o,X.base.get? b=ya o->s.heap.get? b=ya o:=λb o e=>(I.bs b o e).1
theorem Inv.mod(I:Inv X pins σ H s):Mod X.K X.mg X.base:=I.ok.mod
theorem Inv.kIn(I:Inv X pins σ H s):X.K.In s.heap:=I.ok.mod.kin.keeps I.bk
theorem Inv.lt(I:Inv X pins σ H s):X.env.locals<s.heap.objs.size:=let⟨_,hn,_⟩:=I.loc;hn.lt
theorem Inv.sz(I:Inv X pins σ H s):X.s₀.heap.objs.size<=s.heap.objs.size:=xh I.ok.above (wo I.lt)
theorem Inv.nofs(I:Inv X pins σ H s){a:yq}(h:s.heap.objs.size<=a):a∉X.fs:=λhb=>by
 obtain⟨_,o,ho,_⟩:=I.ok.funs.mem hb;exact absurd (qp (yx ho) (xh I.sz h)) (yaa _)
theorem Inv.cne(I:Inv X pins σ H s):∀x c,X.env.cells.lookup x=ya c->c≠X.env.locals:=λx c e z=>by
 obtain⟨v,o,ho,hd⟩:=I.cell x c e;obtain⟨m,⟨o',es,ep,ho',hd',_⟩,_⟩:=I.loc;rw[z,ho']at ho;cases ho;rw[hd']at hd;cases hd
theorem Inv.funs(I:Inv X pins σ H s):s.heap.FunFrames X.base X.outer:=by
 have all:∀(l:List Env),(∀b∈frs l,b∈X.fs)->X.s₀.heap.FunFrames X.base l->s.heap.FunFrames X.base l:=by
  intro l;induction l with
  | nil=>intro _ _;trivial
  | cons env r ih =>
   intro hs hl;obtain⟨hk,⟨L,o,hf,hn,ho,hd⟩,hr⟩:=hl;have hL:L∈X.fs:=hs L (by unfold frs;rw[um,hf];exact yg);obtain⟨sl,e⟩:=I.base.slot L o ho (I.ok.frf L hL) hL λz=>I.ok.exfs L z hL
   exact⟨hk,⟨L,_,hf,hn,e,hd⟩,ih (λb hb=>hs b (by unfold frs;rw[um,hf];exact yf _ hb)) hr⟩
 exact all X.outer (λ_ hb=>hb) I.ok.funs
theorem Inv.stack(I:Inv X pins σ H s):s.heap.FunFrames X.base X.stack:=by
 rcases I.ok.stk with e | ⟨e,hf⟩
 ·rw[e];exact I.funs
 ·rw[e]
  obtain⟨m,hn,_⟩:=I.loc;refine .cons (by rw[I.ok.kind];decide) hf hn ?_ I.funs;exact Heap.get?_none_of_le (xh I.ok.bsz I.ok.above)
theorem Inv.stkSub(I:Inv X pins σ H s):∀b∈frs X.stack,b∈X.env.locals::X.fs:=λb hb=>by
 rcases I.ok.stk with e | ⟨e,hf⟩
 ·rw[e]at hb;exact yf _ hb
 ·rw[e]at hb
  unfold frs at hb;rw[um,hf]at hb;exact hb
theorem Inv.stkFree(I:Inv X pins σ H s):∀b∈frs X.stack,H b=yk:=λb hb=>by
 rcases yn.mp (I.stkSub b hb)with e | hb
 ·rw[e];exact I.free
 ·obtain⟨_,o,ho,_⟩:=I.ok.funs.mem hb
  exact I.base.free b o ho (I.ok.frf b hb) λz=>I.ok.exfs b z hb
theorem Inv.step{g':Array GenState}{t':Nat}{d':Drawn}{ch:List yq}(I:Inv X pins σ H s)
  (hch:∀b∈ch,(b∈X.ex\/X.s₀.heap.objs.size<=b)/\b≠X.env.locals/\(∀x c,X.env.cells.lookup x=ya c->c≠b)/\∀p∈X.pn++pins,p.1≠b)
  (keep:∀b o,b≠X.env.locals->b∉X.fs->b∉ch->s.heap.get? b=ya o->H b=yk->h'.get? b=ya o)
  (slot:∀b o,b≠X.env.locals->b∈X.fs->b∉ch->s.heap.get? b=ya o->H b=yk->∃sl,h'.get? b=ya { o with slots:=sl}) (free:∀b o,b∉ch->s.heap.get? b=ya o->H b=yk->H' b=yk)
  (there:∀b o,b∉ch->s.heap.get? b=ya o->∃o',h'.get? b=ya o')
  (tups:∀b xs,H b=ya (.tup xs)->H' b=ya (.tup xs)) (frzs:∀b o u,H b=ya (.frz o u)->H' b=ya (.frz o u)) (tbls:∀b ps,H b=ya (.tbl ps)->∃more,H' b=ya (.tbl (ps++more)))
  (ns:∀m,s.heap.Ns X.env.locals m->h'.Ns X.env.locals m) (hok:HOk X.prog X.w H' h') (hg:AllBare g') :
  Inv X pins σ H' { s with heap:=h',gens:=g',drawn:=d',toks:=t'}:=by
 have neL:∀b o,X.s₀.heap.get? b=ya o->b≠X.env.locals:=λb o e=>qg (qp (yx e) I.ok.above)
 have neC:∀b o,X.s₀.heap.get? b=ya o->b∉X.ex->b∉ch:=λb o e hx hb=>by
  rcases(hch b hb).1 with z | z
  ·exact hx z
  ·exact absurd (qp (yx e) z) (yaa _)
 have cellK:∀x c,X.env.cells.lookup x=ya c->∀v,s.heap.IsCell c v->h'.IsCell c v:=λx c e v ⟨o,ho,hd⟩=>by
  have nch:c∉ch:=λz=>(hch c z).2.2.1 x c e rfl
  by_cases hc:c∈X.fs
  ·obtain⟨sl,q⟩:=slot c o (I.cne x c e) hc nch ho (I.freeC x c e)
   exact⟨_,q,hd⟩
  ·exact⟨o,keep c o (I.cne x c e) hc nch ho (I.freeC x c e),hd⟩
 refine⟨I.ok,I.os,hg,⟨λb o e n hb hx=>?_,λb o e n hb hx=>?_,λb o e n hx=>?_,λb o e hx=>?_,λb xs e=>tups b xs (I.base.tups b xs e),λb o xs e=>frzs b o xs (I.base.frzs b o xs e),λb ps e=>?_⟩,?_,λx c e=>?_,?_,λx c e=>?_,λp hp=>?_,hok,I.len⟩
 ·exact keep b o (neL b o e) hb (neC b o e hx) (I.base.keep b o e n hb hx) (I.base.free b o e n hx)
 ·obtain⟨sl,e1⟩:=I.base.slot b o e n hb hx
  obtain⟨sl',e2⟩:=slot b _ (neL b o e) hb (neC b o e hx) e1 (I.base.free b o e n hx);exact⟨sl',e2⟩
 ·obtain⟨o',e1⟩:=I.base.there b o e hx
  exact free b o' (neC b o e hx) e1 (I.base.free b o e n hx)
 ·obtain⟨o',e1⟩:=I.base.there b o e hx
  exact there b o' (neC b o e hx) e1
 ·obtain⟨m1,e1⟩:=I.base.tbls b ps e
  obtain⟨m2,e2⟩:=tbls b _ e1;exact⟨m1++m2,by rw[e2,Array.append_assoc]⟩
 ·obtain⟨m,hn,hl⟩:=I.loc
  refine⟨m,ns m hn,λi x v e1 e2 e3=>?_⟩;obtain⟨u,r,l⟩:=hl i x v e1 e2 e3;refine⟨u,r,?_⟩;rcases l with l | ⟨k,c,e,z⟩
  ·exact .inl l
  ·exact .inr ⟨k,c,e,cellK x c e _ z⟩
 ·obtain⟨v,z⟩:=I.cell x c e
  exact⟨v,cellK x c e v z⟩
 ·obtain⟨m,⟨o,_,_,ho,_⟩,_⟩:=I.loc
  exact free _ o (λz=>(hch _ z).2.1 rfl) ho I.free
 ·obtain⟨v,o,ho,hd⟩:=I.cell x c e
  exact free c o (λz=>(hch c z).2.2.1 x c e rfl) ho (I.freeC x c e)
 ·obtain⟨e,n,ne,nf,d⟩:=I.pin p hp
  have nch:p.1∉ch:=λz=>(hch p.1 z).2.2.2 p hp rfl
  exact⟨keep p.1 p.2 ne nf nch e n,free p.1 p.2 nch e n,ne,nf,d⟩
theorem Inv.un{t':Nat}(I:Inv X pins σ H s)(u:Un X.fs [] H H' s.heap h')(hok:HOk X.prog X.w H' h'):Inv X pins σ H' { s with heap:=h',toks:=t'}:=by
 obtain⟨m,⟨o,es,ep,ho,r⟩,_⟩:=id I.loc;obtain⟨sl,hL⟩:=u.any ho I.free (by simp)
 exact I.step (g':=s.gens) (d':=s.drawn) (ch:=[]) (λ_ z=>nomatch z) (λb o _ hb _ e n=>u.keep b o e n hb (by simp)) (λb o _ hb _ e n=>u.slot b o e n hb (by simp)) (λb o _ e n=>u.free b o e n (by simp)) (λb o _ e=>u.there b o e (by simp)) u.tups u.frzs u.tbls (λm' hm=>by
  refine zKK λγ κ=>?_;obtain⟨o',es',ep',ho',r'⟩:=hm;rw[ho]at ho';cases ho';refine κ ?_;exact⟨_,es',ep',hL,r'⟩) hok I.bare
theorem Inv.call{g':Array GenState}{t':Nat}{d':Drawn}{ch:List yq}(I:Inv X pins σ H s)(u:Un (frs X.stack) ch H H' s.heap h')(hok:HOk X.prog X.w H' h')(hg:AllBare g')
  (hch:∀b∈ch,(b∈X.ex\/X.s₀.heap.objs.size<=b)/\b≠X.env.locals/\(∀x c,X.env.cells.lookup x=ya c->c≠b)/\∀p∈X.pn++pins,p.1≠b) :
  Inv X pins σ H' { s with heap:=h',gens:=g',drawn:=d',toks:=t'}:=by
 obtain⟨m,⟨o,es,ep,ho,r⟩,_⟩:=id I.loc;obtain⟨sl,hL⟩:=u.any ho I.free λz=>(hch _ z).2.1 rfl
 exact I.step (ch:=ch) hch (λb o hL hb hc e n=>u.keep b o e n (λz=>(yn.mp (I.stkSub b z)).elim hL hb) hc) (λb o _ _ hc e n=>u.any e n hc) (λb o hc e n=>u.free b o e n hc) (λb o hc e=>u.there b o e hc) u.tups u.frzs u.tbls (λm' hm=>by
  refine zKK λγ κ=>?_;obtain⟨o',es',ep',ho',r'⟩:=hm;rw[ho]at ho';cases ho';refine κ ?_;exact⟨_,es',ep',hL,r'⟩) hok hg
theorem Inv.turned{t':Nat}{it:yq}(I:Inv X pins σ H s)(k:∀b o,b≠it->s.heap.get? b=ya o->h'.get? b=ya o)(hn:H it=yk)(hL:it≠X.env.locals)
  (h1:it∈X.ex\/X.s₀.heap.objs.size<=it) (h2:∀x c,X.env.cells.lookup x=ya c->c≠it) (h3:∀p∈X.pn++pins,p.1≠it):Inv X pins σ H { s with heap:=h',toks:=t'}:=by
 have nit:∀b u,H b=ya u->b≠it:=λb u e z=>by rw[z,hn]at e;cases e
 refine I.step (g':=s.gens) (d':=s.drawn) (ch:=[it]) (λb hb=>?_) (λb o _ _ hc e _=>k b o (λz=>hc (by simp[z])) e) (λb o _ _ hc e _=>⟨o.slots,k b o (λz=>hc (by simp[z])) e⟩) (λ_ _ _ _ n=>n)
  (λb o hc e=>⟨o,k b o (λz=>hc (by simp[z])) e⟩) (λ_ _ e=>e) (λ_ _ _ e=>e) (λb ps e=>⟨#[],by rw[e];simp⟩) (λm hm=>?_) (λb u e=>?_) I.bare
 ·have e:b=it:=by simpa using hb
  subst e;exact⟨h1,hL,h2,h3⟩
 ·obtain⟨o,es,ep,ho,r⟩:=hm
  exact⟨o,es,ep,k _ o (xg hL) ho,r⟩
 ·refine(I.hok b u e).stay (λc v hc q=>k c v ?_ q) (λ_ q=>q) λ_ _ q=>q
  rcases hc with z | z
  ·rw[z];exact nit b u e
  ·exact nit c _ z
theorem Inv.tok(I:Inv X pins σ H s)(t:Nat):Inv X pins σ H { s with toks:=t}:=I.un (h':=s.heap) (t':=t) Un.refl I.hok
theorem Inv.kept{t':Nat}(I:Inv X pins σ H s)(k:∀b u,s.heap.get? b=ya u->h'.get? b=ya u):Inv X pins σ H { s with heap:=h',toks:=t'}:=I.un (Un.kept k) (I.hok.kept k)
theorem Inv.laid{a:yq}{o:HO}{t':Nat}(I:Inv X pins σ H s)(k:∀b u,s.heap.get? b=ya u->h'.get? b=ya u)(hp:s.heap.objs.size<=a)(new:ObjOk X.prog X.w (upd H a o) h' a o) :
  Inv X pins σ (upd H a o) { s with heap:=h',toks:=t'}:=I.un (Un.laid k hp (I.hok.fresh hp)) (I.hok.laid k hp new)
theorem Inv.write{x e:yq}{o:HO}{t':Nat}(I:Inv X pins σ H s)(mu:Mut (H x))(he:e=x\/H e=ya (.own x))(k:∀b u,b≠e->s.heap.get? b=ya u->h'.get? b=ya u)(heo:∃u,h'.get? e=ya u)
  (new:ObjOk X.prog X.w (upd H x o) h' x o):Inv X pins σ (upd H x o) { s with heap:=h',toks:=t'}:=I.un (Un.write mu he k heo) (I.hok.write mu he k heo new)
theorem Inv.weak{σ':List (Option V)}(I:Inv X pins σ H s)(hl:σ'.length=σ.length)(w:∀(i:Nat) v,σ'[i]? = ya (ya v)->σ[i]? = ya (ya v)):Inv X pins σ' H s :=
 ⟨I.ok,I.os,I.bare,I.base,let⟨m,hn,hl'⟩:=I.loc;⟨m,hn,λi x v e1 e2 e3=>hl' i x v e1 (w i v e2) e3⟩,I.cell,I.free,I.freeC,I.pin,I.hok,hl.trans I.len⟩
theorem Inv.pins_of{pins':List (yq×Obj)}(I:Inv X pins σ H s)(h:∀p∈pins',s.heap.get? p.1=ya p.2/\H p.1=yk/\p.1≠X.env.locals/\p.1∉X.fs/\∀v,p.2.data≠.cell v):Inv X pins' σ H s :=
 ⟨I.ok,I.os,I.bare,I.base,I.loc,I.cell,I.free,I.freeC,λp hp=>(qt.mp hp).elim (λz=>I.pin p (jf _ z)) (h p),I.hok,I.len⟩
theorem zjx{N:List Str}(hN:N.Nodup){i j:Nat}{x:Str}(a:N[i]? = ya x)(b:N[j]? = ya x):i=j:=by
 obtain⟨h1,e1⟩:=qk.mp a;obtain⟨h2,e2⟩:=qk.mp b;exact(yc9 hN).mp (e1.trans e2.symm)
theorem znm{M:Model}{A:x5}{E:yh->ym->Prop}{i:Nat}{x:Str}{v:V}{u:yh}{Q:Unit->ym->Prop}(I:Inv X pins σ H s)(hN:X.N.Nodup)(hi:X.N[i]? = ya x)(hx:Loc X.env.scope x)(r:RelV v u)
  (h:∀s',Inv X pins (σ.set i (ya v)) H s'->(∃a,Heap.SameBut a s.heap s'.heap/\(a=X.env.locals\/X.env.cells.lookup x=ya a))->Q () s') (hf:X.fn x=yl\/X.env.scope.names.lookup x=ya .local:=by first | exact .inl rfl | exact .inr rfl | assumption):y9 M A (storeName X.env x u) Q E s:=by
 obtain⟨m,hn,hl⟩:=id I.loc;have hcls:(X.env.scope.kind == .class||(X.env.scope.kind == .module&&X.env.locals != X.env.globals))=yi:=by rw[I.ok.kind];rfl
 have hiσ:i < σ.length:=by rw[I.len];exact(qk.mp hi).1
 have cne:=I.cne
 have tracked:∀{a:yq} {h':Heap},(∃o,s.heap.get? a=ya o/\H a=yk)->Heap.SameBut a s.heap h'->HOk X.prog X.w H h':=λ{a h'} ha hs b ob e=>by
  obtain⟨_,_,hfree⟩:=ha;refine(I.hok b ob e).stay (λc w' hc q=>(hs.2 c ?_).trans q) (λ_ q=>q) λ_ _ q=>q
  rintro rfl;rcases hc with rfl | hc
  ·rw[hfree]at e;cases e
  ·rw[hfree]at hc;cases hc
 rcases hx with hk | hk
 ·refine wpAny_storeName_local hk hn (λh' hn' hs=>?_) hcls
  obtain⟨oL,_,_,hoL,_⟩:=id hn;refine h _ ⟨I.ok,I.os,I.bare,⟨λb o e n hb hx=>?_,λb o e n hb hx=>?_,I.base.free,λb o e hx=>?_,I.base.tups,I.base.frzs,I.base.tbls⟩,⟨_,hn',λj y v' e1 e2 e3=>?_⟩,λy c e=>?_,I.free,I.freeC,λp hp=>?_,tracked ⟨oL,hoL,I.free⟩ hs,by simpa using I.len⟩ ⟨_,hs,.inl rfl⟩
  ·exact(hs.2 b (qg (qp (yx e) I.ok.above))).trans (I.base.keep b o e n hb hx)
  ·obtain⟨sl,e1⟩:=I.base.slot b o e n hb hx
   exact⟨sl,(hs.2 b (qg (qp (yx e) I.ok.above))).trans e1⟩
  ·obtain⟨o',e1⟩:=I.base.there b o e hx
   exact⟨o',(hs.2 b (qg (qp (yx e) I.ok.above))).trans e1⟩
  ·by_cases hj:j=i
   ·subst hj
    rw[hi]at e1;cases e1;rw[ydm hiσ]at e2;cases e2;exact⟨u,r,.inl ⟨hk,by simp⟩⟩
   ·rw[yd4 (xg hj)]at e2
    obtain⟨u',r',q⟩:=hl j y v' e1 e2 e3;refine⟨u',r',?_⟩;rcases q with⟨k,e⟩ | ⟨k,c,e,z⟩
    ·refine .inl ⟨k,?_⟩
     have:y≠x:=λe=>hj (zjx hN e1 (e▸hi))
     simp[this,e]
    ·exact .inr ⟨k,c,e,z.sameBut hs (cne y c e)⟩
  ·obtain⟨w',z⟩:=I.cell y c e
   exact⟨w',z.sameBut hs (cne y c e)⟩
  ·obtain⟨e,n,ne,nf,d⟩:=I.pin p hp
   exact⟨(hs.2 p.1 ne).trans e,n,ne,nf,d⟩
 ·have hfn:X.fn x=yl:=by
   rcases hf with z | z
   ·exact z
   ·rw[z]at hk;cases hk
  obtain⟨c,hc⟩:=I.ok.has x (.inl hk);obtain⟨w',z⟩:=I.cell x c hc;refine wpAny_storeName_cell I.ok.kind hk hc z (λh' hc' hs=>?_);obtain⟨oc,hoc,hocd⟩:=id z;refine h { s with heap:=h'} ⟨I.ok,I.os,I.bare,⟨λb o e n hb hx=>?_,λb o e n hb hx=>?_,I.base.free,λb o e hx=>?_,I.base.tups,I.base.frzs,I.base.tbls⟩,⟨m,hn.sameBut hs (xg (cne x c hc)),λj y v' e1 e2 e3=>?_⟩,λy c' e=>?_,I.free,I.freeC,λp hp=>?_,tracked ⟨oc,hoc,I.freeC x c hc⟩ hs,by simpa using I.len⟩ ⟨c,hs,.inr hc⟩
  ·exact(hs.2 b (qg (qp (yx e) (I.ok.cab x c hfn hc)))).trans (I.base.keep b o e n hb hx)
  ·obtain⟨sl,e1⟩:=I.base.slot b o e n hb hx
   exact⟨sl,(hs.2 b (qg (qp (yx e) (I.ok.cab x c hfn hc)))).trans e1⟩
  ·obtain⟨o',e1⟩:=I.base.there b o e hx
   exact⟨o',(hs.2 b (qg (qp (yx e) (I.ok.cab x c hfn hc)))).trans e1⟩
  ·by_cases hj:j=i
   ·subst hj
    rw[hi]at e1;cases e1;rw[ydm hiσ]at e2;cases e2;exact⟨u,r,.inr ⟨.inl hk,c,hc,hc'⟩⟩
   ·rw[yd4 (xg hj)]at e2
    obtain⟨u',r',q⟩:=hl j y v' e1 e2 e3;refine⟨u',r',?_⟩;rcases q with q | ⟨k,c',e,z'⟩
    ·exact .inl q
    ·refine .inr ⟨k,c',e,z'.sameBut hs ?_⟩
     rintro rfl;exact hj (zjx hN e1 (I.ok.inj _ _ _ e hc▸hi))
  ·by_cases hcc:c'=c
   ·subst hcc;exact⟨_,hc'⟩
   ·obtain⟨w2,z2⟩:=I.cell y c' e
    exact⟨w2,z2.sameBut hs hcc⟩
  ·obtain⟨e,n,ne,nf,d⟩:=I.pin p hp
   refine⟨(hs.2 p.1 ?_).trans e,n,ne,nf,d⟩;intro q;rw[q,hoc]at e;have q':oc=p.2:=qh e;exact d w' (by rw[← q'];exact hocd)
theorem zpw{M:Model}{A:x5}{E:yh->ym->Prop}{i:Nat}{x:Str}{v:V}{u:yh}{Q:Unit->ym->Prop}(I:Inv X pins σ H s)(hN:X.N.Nodup)(hi:X.N[i]? = ya x)(hx:Loc X.env.scope x)(r:RelV v u)
  (h:∀s',Inv X pins (σ.set i (ya v)) H s'->Q () s') (hf:X.fn x=yl\/X.env.scope.names.lookup x=ya .local:=by first | exact .inl rfl | exact .inr rfl | assumption):y9 M A (storeName X.env x u) Q E s :=
 znm I hN hi hx r (λs' I' _=>h s' I') hf
theorem Inv.call'{s':ym}{ch:List yq}(I:Inv X pins σ H s)(ho:s'.os=s.os)(u:Un (frs X.stack) ch H H' s.heap s'.heap)(hok:HOk X.prog X.w H' s'.heap)(hg:AllBare s'.gens)
  (hch:∀b∈ch,(b∈X.ex\/X.s₀.heap.objs.size<=b)/\b≠X.env.locals/\(∀x c,X.env.cells.lookup x=ya c->c≠b)/\∀p∈X.pn++pins,p.1≠b):Inv X pins σ H' s':=by
 obtain⟨h',g',d',t',o'⟩:=s';have e:o'=s.os:=ho;subst e;exact I.call (g':=g') (t':=t') (d':=d') u hok hg hch
end
abbrev XK:=yh->Option yq->Hp->Prop
abbrev St:=List (Option V)
abbrev VK:=V->Hp->Prop
abbrev TE:=St->Hp->VK->Prop
abbrev TT:=St->Hp->(Bool->Hp->Prop)->Prop
abbrev TA:=St->Hp->(List V->Hp->Prop)->Prop
structure Ends where
 nx:St->Hp->Prop
 rt:VK
 bk:St->Hp->Prop:=λ_ _=>False
 ct:St->Hp->Prop:=λ_ _=>False
abbrev TS:=Ends->St->Hp->Prop
inductive EP (X:Cx) (pins:List (Addr×Obj)) (σ:St) (Q:VK) (u:Value) (s':Shared):Prop
 | mk (v:V) (H':Hp) (I:Inv X pins σ H' s') (r:RelV v u) (q:Q v H')
inductive TP (X:Cx) (pins:List (Addr×Obj)) (σ:St) (Q:Bool->Hp->Prop) (b:Bool) (s':Shared):Prop
 | mk (H':Hp) (I:Inv X pins σ H' s') (q:Q b H')
inductive AP (X:Cx) (pins:List (Addr×Obj)) (σ:St) (Q:List V->Hp->Prop) (us:List Value) (s':Shared):Prop
 | mk (vs:List V) (H':Hp) (I:Inv X pins σ H' s') (r:Vals vs us) (q:Q vs H')
def SP(X:Cx)(pins:List (yq×Obj))(D:Ends)(f:Flow)(s':ym):Prop :=
 match f with
 | .next=>∃σ' H',Inv X pins σ' H' s'/\D.nx σ' H'
 | .brk=>∃σ' H',Inv X pins σ' H' s'/\D.bk σ' H'
 | .cont=>∃σ' H',Inv X pins σ' H' s'/\D.ct σ' H'
 | .ret u=>∃v σ' H',Inv X pins σ' H' s'/\RelV v u/\D.rt v H'
def PE(X:Cx)(e:Expr)(t:TE):Prop :=
 ∀(pins:List (yq×Obj)) (s:ym) (σ:St) (H:Hp) (Q:VK),Inv X pins σ H s->t σ H Q->y9 (model X.prog X.w) X.A (eval e X.env) (EP X pins σ Q) X.xe s
def PT(X:Cx)(e:Expr)(t:TT):Prop :=
 ∀(pins:List (yq×Obj)) (s:ym) (σ:St) (H:Hp) (Q:Bool->Hp->Prop),Inv X pins σ H s->t σ H Q->y9 (model X.prog X.w) X.A (isTrue e X.env (eval e X.env)) (TP X pins σ Q) X.xe s
def PW(X:Cx)(e:Expr)(t:TT):Prop :=
 ∀(whole:Sem yh) (pins:List (yq×Obj)) (s:ym) (σ:St) (H:Hp) (Q:Bool->Hp->Prop),Inv X pins σ H s->t σ H Q->y9 (model X.prog X.w) X.A (isTrue e X.env whole) (TP X pins σ Q) X.xe s
theorem PW.pt{X:Cx}{e:Expr}{t:TT}(h:PW X e t):PT X e t:=h _
def PA(X:Cx)(es:List Expr)(t:TA):Prop :=
 ∀(pos:Pos) (pins:List (yq×Obj)) (s:ym) (σ:St) (H:Hp) (Q:List V->Hp->Prop),Inv X pins σ H s->t σ H Q->y9 (model X.prog X.w) X.A (spliced (backTo pos (jh es X.env))) (AP X pins σ Q) X.xe s
def PS(X:Cx)(st:Stmt)(t:TS):Prop :=
 ∀(pins:List (yq×Obj)) (s:ym) (σ:St) (H:Hp) (D:Ends),Inv X pins σ H s->t D σ H->y9 (model X.prog X.w) X.A (exec st X.env) (SP X pins D) X.xe s
def PSs(X:Cx)(st:List Stmt)(t:TS):Prop :=
 ∀(pins:List (yq×Obj)) (s:ym) (σ:St) (H:Hp) (D:Ends),Inv X pins σ H s->t D σ H->y9 (model X.prog X.w) X.A (execs st X.env) (SP X pins D) X.xe s
theorem thn{α:Type}{t:Sem α}{Q Q':α->ym->Prop}{M:Model}{A:x5}{E:yh->ym->Prop}{s:ym}(h:y9 M A t Q E s)(hQ:∀a s,Q a s->Q' a s):y9 M A t Q' E s:=jd h hQ λ_ _ x=>x
section
variable {X:Cx}
theorem bin{a b:Expr}{ta tb:TE}(ha:PE X a ta)(hb:PE X b tb){pins:List (yq×Obj)}{s:ym}{σ:St}{H:Hp}{R:V->V->Hp->Prop}(I:Inv X pins σ H s)(h:ta σ H λx H1=>tb σ H1 λy H2=>R x y H2)
  {α:Type} {Q:α->ym->Prop} {f:yh->yh->Sem α}
  (hf:∀v u s2 x y H2,Inv X pins σ H2 s2->RelV x v->RelV y u->R x y H2->y9 (model X.prog X.w) X.A (f v u) Q X.xe s2) :
  y9 (model X.prog X.w) X.A (eval a X.env) (λv s₁=>y9 (model X.prog X.w) X.A (eval b X.env) (λu s₂=>y9 (model X.prog X.w) X.A (f v u) Q X.xe s₂) X.xe s₁) X.xe s:=by
 refine thn (ha pins s σ H _ I h) λv s1 ζ=>?_;obtain⟨x,H1,I1,r1,q1⟩:=ζ
 refine thn (hb pins s1 σ H1 _ I1 q1) λu s2 ζ=>?_;obtain⟨y,H2,I2,r2,q2⟩:=ζ
 exact hf v u s2 x y H2 I2 r1 r2 q2
def tVar(i:Nat):TE:=λσ H Q=>∃v,σ[i]? = ya (ya v)/\Q v H
def tC(v:V):TE:=λ_ H Q=>Q v H
theorem zbo{i:Nat}{x:Str}{pos:Pos}(hN:X.N[i]? = ya x)(hv:Vis X.env.scope x)(hd:(x==("__debug__" : Str))=yi:=by decide)(hcd:(x==("__classdict__" : Str))=yi:=by decide):PE X (.Name x pos) (tVar i):=by
 intro pins s σ H Q I h;refine zKK λγ κ=>?_;obtain⟨v,e,h⟩:=h;obtain⟨m,hn,hl⟩:=I.loc;obtain⟨u,r,l⟩:=hl i x v hN e hv;have fin:EP X pins σ Q u s:=⟨v,H,I,r,h⟩;refine κ ?_;rcases l with⟨hk,hm⟩ | ⟨hk,c,hc,hcell⟩
 ·exact wpAny_Name (wpAny_loadName_local I.ok.kind hk hn hm fin) hd
 ·rcases hk with hk | hk
  ·exact wpAny_Name (wpAny_loadName_cell I.ok.kind hk hc hcell fin) hd
  ·exact wpAny_Name (wpAny_loadName_free I.ok.kind hk hc hcell fin hcd) hd
theorem zra{i j pos}:PE X (.Constant (.int i) j pos) (tC (.int i)):=λ_ _ _ H _ I h=>wpAny_Constant_int ⟨.int i,H,I.tok _,⟨_,rfl⟩,h⟩
theorem zx0{b j pos}:PE X (.Constant (.bool b) j pos) (tC (.bl b)):=λ_ _ _ H _ I h=>Constant_bool ⟨.bl b,H,I,rfl,h⟩
theorem zve{j pos}:PE X (.Constant .none j pos) (tC .non):=λ_ _ _ H _ I h=>Constant_none ⟨.non,H,I,rfl,h⟩
theorem zvv{x j pos}:PE X (.Constant (.str x) j pos) (tC (.str x)):=λ_ _ _ H _ I h=>Calls.Constant_str ⟨.str x,H,I.tok _,⟨_,rfl⟩,h⟩
def Gl(X:Cx)(x:Str):Prop:=X.env.kindOf x=ya .globalImplicit
theorem zlv{E:yh->ym->Prop}{pins:List (yq×Obj)}{s:ym}{σ:St}{H:Hp}{x:Str}{u:yh}{pos:Pos}{Q:yh->ym->Prop}(I:Inv X pins σ H s)(hg:Gl X x)(hm:X.mg x=ya u)(h:Q u s)
  (hd:(x==("__debug__" : Str))=yi:=by decide):y9 (model X.prog X.w) X.A (eval (.Name x pos) X.env) Q E s :=
 Calls.Name_function_global I.ok.kind hg (Calls.loadGlobal_global (by rw[I.ok.glob];exact I.mod.glob.keeps I.bk) hm h) hd
theorem zdb{E:yh->ym->Prop}{pins:List (yq×Obj)}{s:ym}{σ:St}{H:Hp}{x:Str}{u:yh}{pos:Pos}{Q:yh->ym->Prop}(I:Inv X pins σ H s)(hg:Gl X x)(hm:X.mg x=yk)(hv:ud x=ya u)(h:Q u s)
  (hn:x≠"__name__":=by decide) (hd:(x==("__debug__" : Str))=yi:=by decide):y9 (model X.prog X.w) X.A (eval (.Name x pos) X.env) Q E s:=by
 obtain⟨mb,h1,h2⟩:=I.mod.blt;exact Calls.Name_function_global I.ok.kind hg (Calls.loadGlobal_builtin (by rw[I.ok.glob];exact I.mod.glob.keeps I.bk) hm (by rw[I.ok.blt];exact h1.keeps I.bk) ((h2 x hn).trans hv) h) hd
theorem zix{x:Str}{v:V}{u:yh}{pos:Pos}(hg:Gl X x)(hm:X.mg x=ya u)(r:RelV v u)(hd:(x==("__debug__" : Str))=yi:=by decide):PE X (.Name x pos) (tC v) :=
 λ_ _ _ H _ I h=>zlv I hg hm ⟨v,H,I,r,h⟩ hd
theorem zs2{x:Str}{v:V}{u:yh}{pos:Pos}(hg:Gl X x)(hm:X.mg x=yk)(hv:ud x=ya u)(r:RelV v u)(hn:x≠"__name__":=by decide)(hd:(x==("__debug__" : Str))=yi:=by decide):PE X (.Name x pos) (tC v) :=
 λ_ _ _ H _ I h=>zdb I hg hm hv ⟨v,H,I,r,h⟩ hn hd
variable {a b:Expr} {ta tb:TE} {pos:Pos}
variable {tA tB':TT} {rest:List Expr}
def tAnd(t u:TT):TT:=λσ H Q=>t σ H λc H1=>if c=yl then u σ H1 Q else Q yi H1
def tOr(t u:TT):TT:=λσ H Q=>t σ H λc H1=>if c=yl then Q yl H1 else u σ H1 Q
def tNot(t:TT):TT:=λσ H Q=>t σ H λc H1=>Q (!c) H1
theorem pw_and1(ha:PT X a tA):PW X (.BoolOp .And [a] pos) tA:=by
 intro wh pins s σ H Q I h;refine isTrue_and (thn (ha pins s σ H Q I h) λc s1 e=>?_);cases c with
 | true=>exact isTrue_and_nil e
 | false=>exact e
theorem pw_or1(ha:PT X a tA):PW X (.BoolOp .Or [a] pos) tA:=by
 intro wh pins s σ H Q I h;refine isTrue_or (thn (ha pins s σ H Q I h) λc s1 e=>?_);cases c with
 | false=>exact isTrue_or_nil e
 | true=>exact e
theorem pw_and(ha:PT X a tA)(hb:PW X (.BoolOp .And (b::rest) pos) tB'):PW X (.BoolOp .And (a::b::rest) pos) (tAnd tA tB'):=by
 intro wh pins s σ H Q I h;refine isTrue_and (thn (ha pins s σ H _ I h) λc s1 ζ=>?_);obtain⟨H1,I1,q1⟩:=ζ;cases c with
 | true=>exact hb wh pins s1 σ H1 Q I1 q1
 | false=>exact⟨H1,I1,q1⟩
theorem pw_or(ha:PT X a tA)(hb:PW X (.BoolOp .Or (b::rest) pos) tB'):PW X (.BoolOp .Or (a::b::rest) pos) (tOr tA tB'):=by
 intro wh pins s σ H Q I h;refine isTrue_or (thn (ha pins s σ H _ I h) λc s1 ζ=>?_);obtain⟨H1,I1,q1⟩:=ζ;cases c with
 | true=>exact⟨H1,I1,q1⟩
 | false=>exact hb wh pins s1 σ H1 Q I1 q1
theorem zvh(ha:PT X a tA):PT X (.UnaryOp .Not a pos) (tNot tA):=by
 intro pins s σ H Q I h;exact isTrue_not (thn (ha pins s σ H (λc H1=>Q (!c) H1) I h) λ_ _ ⟨H',I',q⟩=>⟨H',I',q⟩)
def tAndV(ta tb:TE):TE:=λσ H Q=>ta σ H λx H1=>∃c,x=.bl c/\if c=yl then tb σ H1 Q else Q (.bl yi) H1
def tOrV(ta tb:TE):TE:=λσ H Q=>ta σ H λx H1=>∃c,x=.bl c/\if c=yl then Q (.bl yl) H1 else tb σ H1 Q
theorem zrx{op}{t:TE}(h:PE X a t):PE X (.BoolOp op [a] pos) t:=λpins s σ H Q I hw=>BoolOp_one (h pins s σ H Q I hw)
theorem zum(ha:PE X a ta)(hb:PE X (.BoolOp .And (b::rest) pos) tb):PE X (.BoolOp .And (a::b::rest) pos) (tAndV ta tb):=by
 intro pins s σ H Q I h;refine BoolOp_and (thn (ha pins s σ H _ I h) λv s1 ζ=>?_);obtain⟨x,H1,I1,r1,q1⟩:=ζ;obtain⟨c,rfl,q1⟩:=q1;cases r1;refine uf ?_;cases c with
 | true=>exact hb pins s1 σ H1 Q I1 q1
 | false=>exact⟨.bl yi,H1,I1,rfl,q1⟩
theorem zw8(ha:PE X a ta)(hb:PE X (.BoolOp .Or (b::rest) pos) tb):PE X (.BoolOp .Or (a::b::rest) pos) (tOrV ta tb):=by
 intro pins s σ H Q I h;refine BoolOp_or (thn (ha pins s σ H _ I h) λv s1 ζ=>?_);obtain⟨x,H1,I1,r1,q1⟩:=ζ;obtain⟨c,rfl,q1⟩:=q1;cases r1;refine uf ?_;cases c with
 | false=>exact hb pins s1 σ H1 Q I1 q1
 | true=>exact⟨.bl yl,H1,I1,rfl,q1⟩
end
def SqL(K:Frag)(H:Hp)(a:yq)(xs:List V):Prop :=
 Rd H a (.lst xs) \/
  ∃(o:Obj) (its:Array yh) (n:Nat),K.lookup a=ya o/\o.cls=.type "list"/\o.dict=yk/\o.data=.seq its n/\its.size<=y8/\Vals xs its.toList
def SqT(K:Frag)(H:Hp)(a:yq)(xs:List V):Prop :=
 Rd H a (.tup xs) \/
  ∃(o:Obj) (its:Array yh) (n:Nat),K.lookup a=ya o/\o.cls=.type "tuple"/\o.data=.seq its n/\its.size<=y8/\Vals xs its.toList
def absV:yh->Option V
 | .none=>ya .non
 | .bool b=>ya (.bl b)
 | .int i _=>ya (.int i)
 | .str x _=>ya (.str x)
 | .bytes b _=>ya (.byt b)
 | .float b _=>ya (.flt b)
 | .ref a=>ya (.ref a)
 | .type n=>ya (.ty n)
 | _=>yk
theorem RelV.abs{x:V}{u:yh}(r:RelV x u):absV u=ya x:=by
 cases x with
 | non=>cases r;rfl
 | bl _=>cases r;rfl
 | int _=>obtain⟨t,rfl⟩:=r;rfl
 | str _=>obtain⟨t,rfl⟩:=r;rfl
 | byt _=>obtain⟨t,rfl⟩:=r;rfl
 | flt _=>obtain⟨t,rfl⟩:=r;rfl
 | ref _=>cases r;rfl
 | ty _=>cases r;rfl
theorem RelV.inj{x y:V}{u:yh}(r:RelV x u)(q:RelV y u):x=y:=qh (r.abs.symm.trans q.abs)
theorem Vals.inj:∀{xs ys:List V} {us:List yh},Vals xs us->Vals ys us->xs=ys
 | _,_,_,.nil,.nil=>rfl
 | _,_,_,.cons r t,.cons r' t'=>by rw[r.inj r',Vals.inj t t']
section
variable {X:Cx} {pins:List (yq×Obj)} {σ:St} {H:Hp} {s:ym} {a:yq} {xs ys:List V}
theorem SqL.of{K:Frag}(h:H a=ya (.lst xs)):SqL K H a xs:=.inl (.inl h)
theorem Inv.list(I:Inv X pins σ H s)(h:SqL X.K H a xs):∃its:List yh,Vals xs its/\PlainL s.heap a its.toArray/\xs.length<=y8:=by
 rcases h with h | ⟨o,its,n,hk,hc,hd,hs,hz,r⟩
 ·obtain⟨z,its,n,r,e⟩:=h.ok I.hok
  exact⟨its,r,⟨_,n,e,rfl,rfl,rfl⟩,z⟩
 ·refine⟨its.toList,r,⟨o,n,I.kIn a o hk,hc,hd,by simpa using hs⟩,?_⟩
  have e:=r.length;simp only[qi]at e;lia
theorem Inv.tuple(I:Inv X pins σ H s)(h:SqT X.K H a xs):∃its:List yh,Vals xs its/\yah s.heap a its.toArray/\xs.length<=y8:=by
 rcases h with h | ⟨o,its,n,hk,hc,hs,hz,r⟩
 ·obtain⟨z,its,r,p⟩:=h.ok I.hok
  exact⟨its,r,p.1,z⟩
 ·refine⟨its.toList,r,⟨o,I.kIn a o hk,hc,n,by simpa using hs⟩,?_⟩
  have e:=r.length;simp only[qi]at e;lia
theorem Inv.list_inj(I:Inv X pins σ H s)(h:SqL X.K H a xs)(h':SqL X.K H a ys):xs=ys:=by
 refine zKK λγ κ=>?_;obtain⟨its,r,⟨o,n,e,_,_,d⟩,_⟩:=I.list h;obtain⟨its',r',⟨o',n',e',_,_,d'⟩,_⟩:=I.list h';rw[e]at e';cases e';rw[d]at d';refine κ ?_;injection d' with d1 _
 have:its=its':=by simpa using congrArg yfn d1
 subst this;exact r.inj r'
theorem Inv.tuple_inj(I:Inv X pins σ H s)(h:SqT X.K H a xs)(h':SqT X.K H a ys):xs=ys:=by
 refine zKK λγ κ=>?_;obtain⟨its,r,⟨o,e,_,n,d⟩,_⟩:=I.tuple h;obtain⟨its',r',⟨o',e',_,n',d'⟩,_⟩:=I.tuple h';rw[e]at e';cases e';rw[d]at d';refine κ ?_;injection d' with d1 _
 have:its=its':=by simpa using congrArg yfn d1
 subst this;exact r.inj r'
end
abbrev Cx.wish(X:Cx)(E:yh->ym->Prop):Cx:={ X with xe:=E}
abbrev Cx.nox(X:Cx):Cx:=X.wish λ_ _=>False
theorem Cx.Ok.wish{X:Cx}(ok:X.Ok)(E:yh->ym->Prop):(X.wish E).Ok :=
 ⟨ok.mod,ok.kind,ok.glob,ok.blt,ok.above,ok.inj,ok.has,ok.cab,ok.hd,ok.frames,ok.stk,ok.exf,ok.bs,ok.bsz,ok.noex,ok.exfs,ok.funs,ok.frf⟩
theorem Cx.Ok.unwish{X:Cx}{E:yh->ym->Prop}(ok:(X.wish E).Ok):X.Ok :=
 ⟨ok.mod,ok.kind,ok.glob,ok.blt,ok.above,ok.inj,ok.has,ok.cab,ok.hd,ok.frames,ok.stk,ok.exf,ok.bs,ok.bsz,ok.noex,ok.exfs,ok.funs,ok.frf⟩
section
variable {X:Cx} {pins:List (yq×Obj)} {σ:St} {H:Hp} {s:ym} {E:yh→ym→Prop}
theorem Inv.wish(I:Inv X pins σ H s)(E:yh->ym->Prop):Inv (X.wish E) pins σ H s:=⟨I.ok.wish E,I.os,I.bare,I.base,I.loc,I.cell,I.free,I.freeC,I.pin,I.hok,I.len⟩
theorem Inv.unwish(I:Inv (X.wish E) pins σ H s):Inv X pins σ H s:=⟨I.ok.unwish,I.os,I.bare,I.base,I.loc,I.cell,I.free,I.freeC,I.pin,I.hok,I.len⟩
theorem SP.unwish{D:Ends}{f:Flow}{s':ym}(h:SP (X.wish E) pins D f s'):SP X pins D f s':=by
 cases f with
 | next=>obtain⟨σ',H',I,q⟩:=h;exact⟨σ',H',I.unwish,q⟩
 | brk=>obtain⟨σ',H',I,q⟩:=h;exact⟨σ',H',I.unwish,q⟩
 | cont=>obtain⟨σ',H',I,q⟩:=h;exact⟨σ',H',I.unwish,q⟩
 | ret u=>obtain⟨v,σ',H',I,r,q⟩:=h;exact⟨v,σ',H',I.unwish,r,q⟩
theorem PSs.nox{st:List Stmt}{t:TS}(h:PSs X.nox st t):PSs X st t:=λpins s σ H D I hw =>
 jd (h pins s σ H D (I.wish _) hw) (λ_ _ q=>q.unwish) λ_ _ z=>False.elim z
end
section
variable {X:Cx} {st:Stmt} {rest:List Stmt} {t u:TS} {e:Expr} {te:TE} {pos:Pos}
def tNext:TS:=λD σ H=>D.nx σ H
def tSeq(t u:TS):TS:=λD σ H=>t { D with nx:=u D} σ H
theorem zr2:PSs X [] tNext:=λ_ _ σ H _ I h=>wpAny_execs_nil ⟨σ,H,I,h⟩
theorem zq0(h1:PS X st t)(h2:PSs X rest u):PSs X (st::rest) (tSeq t u):=by
 intro pins s σ H D I h;refine wpAny_execs_cons (thn (h1 pins s σ H { D with nx:=u D} I h) λf s1 q=>?_);cases f with
 | next =>
  obtain⟨σ',H',I',q⟩:=q;exact h2 pins s1 σ' H' D I' q
 | ret v=>exact q
 | brk=>exact q
 | cont=>exact q
def tBreak:TS:=λD σ H=>D.bk σ H
def tCont:TS:=λD σ H=>D.ct σ H
theorem zsh:PS X (.Pass pos) tNext:=λ_ _ σ H _ I h=>wpAny_Pass ⟨σ,H,I,h⟩
theorem zqu:PS X (.Break pos) tBreak:=λ_ _ σ H _ I h=>wpAny_Break ⟨σ,H,I,h⟩
theorem zid:PS X (.Continue pos) tCont:=λ_ _ σ H _ I h=>wpAny_Continue ⟨σ,H,I,h⟩
theorem Inv.quiet{pins:List (yq×Obj)}{σ:St}{H:Hp}{s:ym}(I:Inv X pins σ H s):interactive X.env=yi:=by simp[interactive,I.ok.kind]
def tDrop(te:TE):TS:=λD σ H=>te σ H λ_ H1=>D.nx σ H1
theorem zi1(he:PE X e te)(hs:ybx e yk pos.line X.env=pure yi:=by rfl):PS X (.Expr e pos) (tDrop te):=by
 intro pins s σ H D I h;exact wpAny_Expr_any (thn (he pins s σ H _ I h) λv s1 ⟨x,H1,I1,r1,q1⟩=>⟨σ,H1,I1,q1⟩) I.quiet hs
def tRet(te:TE):TS:=λD σ H=>te σ H D.rt
theorem zrp(he:PE X e te):PS X (.Return (ya e) pos) (tRet te):=by
 intro pins s σ H D I h;exact wpAny_Return_some (thn (he pins s σ H _ I h) λv s1 ⟨x,H1,I1,r1,q1⟩=>⟨x,σ,H1,I1,r1,q1⟩)
def tIfS(c:TT)(t u:TS):TS:=λD σ H=>c σ H λb H1=>if b=yl then t D σ H1 else u D σ H1
theorem zx5{c:Expr}{a b:List Stmt}{tc:TT}(hc:PT X c tc)(ha:PSs X a t)(hb:PSs X b u):PS X (.If c a b pos) (tIfS tc t u):=by
 intro pins s σ H D I h;refine wpAny_If (thn (hc pins s σ H _ I h) λd s1 ζ=>?_);obtain⟨H1,I1,q1⟩:=ζ;cases d with
 | true=>exact ha pins s1 σ H1 D I1 q1
 | false=>exact hb pins s1 σ H1 D I1 q1
end
abbrev TG:=V->St->Hp->(St->Hp->Prop)->Prop
abbrev TGs:=List V->St->Hp->(St->Hp->Prop)->Prop
def PG(X:Cx)(target:Expr)(t:TG):Prop :=
 ∀(pins:List (yq×Obj)) (s:ym) (σ:St) (H:Hp) (v:V) (u:yh) (Q:St->Hp->Prop),Inv X pins σ H s->RelV v u->t v σ H Q ->
  y9 (model X.prog X.w) X.A (assign target X.env u) (λ_ s'=>∃σ' H',Inv X pins σ' H' s'/\Q σ' H') X.xe s
def PGs(X:Cx)(ts:List Expr)(t:TGs):Prop :=
 ∀(pins:List (yq×Obj)) (s:ym) (σ:St) (H:Hp) (vs:List V) (us:List yh) (Q:St->Hp->Prop),Inv X pins σ H s->Vals vs us->t vs σ H Q ->
  y9 (model X.prog X.w) X.A (assignInOrder ((ux ts X.env).map (·.2)) us) (λ_ s'=>∃σ' H',Inv X pins σ' H' s'/\Q σ' H') X.xe s
abbrev TSet:=V->V->V->Hp->(Hp->Prop)->Prop
section
variable {X:Cx} {pos:Pos}
def gName(i:Nat):TG:=λv σ H Q=>Q (σ.set i (ya v)) H
theorem zfk{i:Nat}{x:Str}(hN:X.N.Nodup)(hi:X.N[i]? = ya x)(hx:Loc X.env.scope x)(hf:X.fn x=yl\/X.env.scope.names.lookup x=ya .local:=by first | exact .inl rfl | exact .inr rfl | assumption):PG X (.Name x pos) (gName i):=by
 intro pins s σ H v u Q I r h;exact wpAny_assign_Name (zpw I hN hi hx r (λs' I'=>⟨_,H,I',h⟩) hf)
def gNil:TGs:=λvs σ H Q=>vs=[]/\Q σ H
def gCons(t:TG)(u:TGs):TGs:=λvs σ H Q=>∃v r,vs=v::r/\t v σ H λσ' H'=>u r σ' H' Q
theorem zsl:PGs X [] gNil:=by
 intro pins s σ H vs us Q I r h;obtain⟨e,h⟩:=h;subst e;cases r;exact assignInOrder_nil ⟨σ,H,I,h⟩
theorem zp1{e:Expr}{es:List Expr}{t:TG}{u:TGs}(h1:PG X e t)(h2:PGs X es u)
  (hs:(ux (e::es) X.env).map (·.2)=assign e X.env::(ux es X.env).map (·.2):=by rfl):PGs X (e::es) (gCons t u):=by
 intro pins s σ H vs us Q I r h;obtain⟨v,vr,e1,h⟩:=h;subst e1;cases r with
 | cons r rr =>
  rw[hs];refine assignInOrder_cons (thn (h1 pins s σ H _ _ _ I r h) λ_ s1 ζ=>?_);obtain⟨σ1,H1,I1,q1⟩:=ζ;exact h2 pins s1 σ1 H1 _ _ Q I1 rr q1
def gTup(K:Frag)(n:Nat)(t:TGs):TG:=λv σ H Q=>∃a xs,v=.ref a/\SqT K H a xs/\xs.length=n/\t xs σ H Q
theorem zwu{es:List Expr}{k:Nat}{t:TGs}{n:Nat}(hc:X.calm=yl)(h:PGs X es t)
  (hn:(ux es X.env).length=n:=by rfl) (hst:(ux es X.env).findIdx? (·.1)=yk:=by rfl):PG X (.Tuple es k pos) (gTup X.K n t):=by
 intro pins s σ H v u Q I r hw;refine zKK λγ κ=>?_;obtain⟨a,xs,e1,hq,hl,hw⟩:=hw;subst e1;cases r;obtain⟨its,rv,ht,hz⟩:=I.tuple hq;refine κ ?_;refine assign_Tuple_tuple (I.ok.hd hc) ht (by simp[hn,← hl,rv.length]) hst λh' hx=>?_
 have I1:Inv X pins σ H { s with heap:=h'}:=I.kept (t':=s.toks) λb o e=>hx b o (qg (yx e)) e
 exact h pins _ σ H xs _ Q I1 (by simpa using rv) hw
def tAsg(te:TE)(g:TG):TS:=λD σ H=>te σ H λx H1=>g x σ H1 D.nx
theorem zhx{tg e:Expr}{te:TE}{g:TG}(he:PE X e te)(hg:PG X tg g)(hs:swapsWithSole [tg] e pos.line X.env=pure yi:=by rfl)(hw:swappedStores [tg] e X.env=pure yk:=by rfl)
  (h1:(ux [tg] X.env).map (·.2)=[assign tg X.env]:=by rfl):PS X (.Assign [tg] e pos) (tAsg te g):=by
 intro pins s σ H D I h;refine wpAny_Assign_stores (thn (he pins s σ H _ I h) λv s1 ζ=>?_) hs hw;obtain⟨x,H1,I1,r1,q1⟩:=ζ;rw[h1];exact thn (hg pins s1 σ H1 x v _ I1 r1 q1) λ_ s2 q=>q
end
section
variable {X:Cx} {pos:Pos}
def tWhile(c:TT)(tb:TS):TS:=λD σ H=>∃W:Nat->St->Hp->Prop,(∃m,W m σ H)/\∀m σ H,W m σ H ->
 c σ H λb H1=>if b=yl then∃N:St->Hp->Prop,(∀σ' H',N σ' H'->∃m',m'<m/\W m' σ' H')/\tb { D with nx:=N,ct:=N,bk:=D.nx} σ H1 else D.nx σ H1
theorem zqf{c:Expr}{body:List Stmt}{tc:TT}{tb:TS}(hp:PassesOwn (model X.prog X.w) X.A X.env X.xe)(hc:PT X c tc)(hb:PSs X body tb):PS X (.While c body [] pos) (tWhile tc tb):=by
 intro pins s σ H D I h;obtain⟨W,⟨m0,w0⟩,turn⟩:=h;refine wpAny_While (codeAny_whileLoop (λn s'=>∃σ' H',Inv X pins σ' H' s'/\W n σ' H') ?_ m0 ⟨σ,H,I,w0⟩);rintro n s1 ⟨σ1,H1,I1,w1⟩;refine ub hp (thn (hc pins s1 σ1 H1 _ I1 (turn n σ1 H1 w1)) λb s2 ζ=>?_);obtain⟨H2,I2,q2⟩:=ζ;cases b with
 | true =>
  obtain⟨N,hN,q2⟩:=q2;rw[if_pos rfl];refine ub hp (thn (hb pins s2 σ1 H2 _ I2 q2) λf s3 q3=>?_);cases f with
  | next =>
   refine zKK λγ κ=>?_;obtain⟨σ3,H3,I3,n3⟩:=q3;obtain⟨m',hm,w3⟩:=hN σ3 H3 n3;refine κ ?_;exact⟨m',hm,σ3,H3,I3,w3⟩
  | cont =>
   refine zKK λγ κ=>?_;obtain⟨σ3,H3,I3,n3⟩:=q3;obtain⟨m',hm,w3⟩:=hN σ3 H3 n3;refine κ ?_;exact⟨m',hm,σ3,H3,I3,w3⟩
  | brk=>exact q3
  | ret v=>exact q3
 | false =>
  rw[if_neg qc];exact wpAny_execs_nil ⟨σ1,H2,I2,q2⟩
end
structure It where
 go:Nat->Hp->Prop
 yld:Nat->Hp->V->Hp->Prop
 stop:Nat->Hp->Prop
def FpOk(X:Cx)(pins:List (yq×Obj))(H:Hp)(b:yq):Prop :=
 H b=yk/\b≠X.env.locals/\b∉X.fs/\(b∈X.ex\/X.s₀.heap.objs.size<=b)/\(∀x c,X.env.cells.lookup x=ya c->c≠b)/\∀p∈X.pn++pins,p.1≠b
theorem Inv.fpOk{X:Cx}{pins:List (yq×Obj)}{σ:St}{H H':Hp}{s:ym}{b:yq}(I:Inv X pins σ H s)(hb:s.heap.objs.size<=b)(hn:H' b=yk):FpOk X pins H' b:=by
 refine⟨hn,uu (qp I.lt hb),I.nofs hb,.inr (xh I.sz hb),λx c e z=>?_,λp hp z=>?_⟩
 ·obtain⟨v,q⟩:=I.cell x c e
  exact absurd (qp q.lt (by rw[z];exact hb)) (yaa _)
 ·exact absurd (qp (yx (I.pin p hp).1) (by rw[z];exact hb)) (yaa _)
structure Turn (P:Program) (w:World) (K:Frag) (tg:Expr) (J:It) (fp:List Addr) (it:Addr) (tn:Nat->Heap->Prop):Prop where
 mem:it∈fp
 obj:∀i h,tn i h->∀b∈fp,∃o,h.get? b=ya o/\∀v,o.data≠.cell v
 keep:∀i h h',tn i h->(∀b∈fp,∀o,h.get? b=ya o->h'.get? b=ya o)->tn i h'
 item:∀(X:Cx),X.prog=P->X.w=w->X.K=K->X.calm=yl->∀(i:Nat) (pins:List (yq×Obj)) (s:ym) (σ:St) (H:Hp) (E:yh->ym->Prop),Inv X pins σ H s->(∀b∈fp,FpOk X pins H b)->tn i s.heap->J.go i H ->
  y9 (model P w) X.A (pyNext (.ref it)) (λr s1=>∃u,r=ya u /\
   y9 (model P w) X.A (yca tg (.ref it) u) (λ_ s2=>∃x H',Inv X pins σ H' s2/\RelV x u/\J.yld i H x H'/\tn (i+1) s2.heap/\∀b∈fp,H' b=yk) E s1) E s
 done:∀(X:Cx),X.prog=P->X.w=w->X.K=K->X.calm=yl->∀(i:Nat) (pins:List (yq×Obj)) (s:ym) (σ:St) (H:Hp) (E:yh->ym->Prop),Inv X pins σ H s->(∀b∈fp,FpOk X pins H b)->tn i s.heap->J.stop i H ->
  y9 (model P w) X.A (pyNext (.ref it)) (λr s1=>r=yk/\Inv X pins σ H s1) E s
 self:∀(A:x5) (i:Nat) (s:ym) (Q:yh->ym->Prop) (E:yh->ym->Prop),tn i s.heap->Q (.ref it) s->y9 (model P w) A (pyIter (.ref it)) Q E s
abbrev TI:=St->Hp->(It->Hp->Prop)->Prop
def PIE(X:Cx)(pins:List (yq×Obj))(σ:St)(tg:Expr)(R:It->Hp->Prop)(itv:yh)(s2:ym):Prop :=
 ∃(it:yq) (fp:List yq) (tn:Nat->Heap->Prop) (J:It) (H':Hp),itv=.ref it/\Inv X pins σ H' s2/\Turn X.prog X.w X.K tg J fp it tn/\tn 0 s2.heap/\(∀b∈fp,FpOk X pins H' b)/\R J H'
def PI(X:Cx)(tg iter:Expr)(wi:TI):Prop :=
 ∀(pins:List (yq×Obj)) (s:ym) (σ:St) (H:Hp) (R:It->Hp->Prop),Inv X pins σ H s->wi σ H R ->
  y9 (model X.prog X.w) X.A (eval iter X.env) (λv s1=>y9 (model X.prog X.w) X.A (pyIter v) (PIE X pins σ tg R) X.xe s1) X.xe s
theorem go_of {M : Model} {A : x5} {E : yh → ym → Prop} {s : ym} {tg : Expr} {it : yq} {u : yh} {o : Obj} {n : String} {vs : Array yh} {Q : Unit → ym → Prop} (ho : s.heap.get? it = ya o) (hc : o.cls = .type n) (hd : o.data = .fields vs)
    (hn:["enumerate", "zip", "dict_itemiterator", "dict_reverseitemiterator", "odict_iterator", "itertools.zip_longest", "itertools.pairwise"].contains n=yi) (hQ:Q () s):y9 M A (yca tg (.ref it) u) Q E s:=by
  unfold yca
  cases tg <;> first
    | exact yj hQ
    | (cases u <;> first
        | exact yj hQ
        | (refine yb (wpAny_load ho ?_)
           rw[hc,hd];show y9 M A (if(["enumerate", "zip", "dict_itemiterator", "dict_reverseitemiterator", "odict_iterator", "itertools.zip_longest", "itertools.pairwise"].contains n&&vs[0]? == ya (vb _))=yl then _ else _) Q E s;rw[if_neg (by intro h;rw[hn,yci]at h;cases h)];exact yj hQ))
def Itl(K:Frag)(a:yq):It :=
 ⟨λi H=>∃xs x,SqL K H a xs/\xs[i]? = ya x,λi H x H'=>H'=H/\∀xs,SqL K H a xs->xs[i]? = ya x,λi H=>∃xs,SqL K H a xs/\xs.length<=i⟩
def Itt(K:Frag)(a:yq):It :=
 ⟨λi H=>∃xs x,SqT K H a xs/\xs[i]? = ya x,λi H x H'=>H'=H/\∀xs,SqT K H a xs->xs[i]? = ya x,λi H=>∃xs,SqT K H a xs/\xs.length<=i⟩
def Itr(lo:Int)(n:Nat):It:=⟨λi _=>i<n,λi H x H'=>H'=H/\x=.int (lo+i),λi _=>n<=i⟩
theorem zn1{P:qw}{w:x8}{K:Frag}{tg:Expr}(a it:yq):Turn P w K tg (Itl K a) [it] it (λi h=>h.IsListIter it a i) where
 mem:=by simp
 obj:=λi h st b hb=>by
  have e:b=it:=by simpa using hb
  subst e;obtain⟨o,e,c,d⟩:=st;exact⟨o,e,λv z=>by rw[d]at z;cases z⟩
 keep:=λi h h' st k=>st.at λo e=>k it (by simp) o e
 item:=by
  intro X hP hw hK hc i pins s σ H E I hf st hg;subst hP hw hK;refine zKK λγ κ=>?_;obtain⟨xs,x,hq,hx⟩:=hg;obtain⟨its,rv,p,hz⟩:=I.list hq;obtain⟨u,hu,ru⟩:=rv.get hx;obtain⟨f0,f1,f2,f3,f4,f5⟩:=hf it (by simp);refine κ ?_;refine wpAny_pyNext_list_item st p.isList (x:=u) (by simpa using hu) λh' st' sb=>?_
  have I1:Inv X pins σ H { s with heap:=h'}:=I.turned (t':=s.toks) (λb o hb e=>(sb.2 b hb).trans e) f0 f1 f3 f4 f5;obtain⟨o,e,c,d⟩:=id st';exact⟨u,rfl,go_of (s:={ s with heap:=h'}) e c d (by decide) ⟨x,H,I1,ru,⟨rfl,λys hy=>by rw[I.list_inj hy hq];exact hx⟩,st',λb hb=>(hf b hb).1⟩⟩
 done:=by
  intro X hP hw hK hc i pins s σ H E I hf st hg;subst hP hw hK;refine zKK λγ κ=>?_;obtain⟨xs,hq,hx⟩:=hg;obtain⟨its,rv,p,hz⟩:=I.list hq;obtain⟨f0,f1,f2,f3,f4,f5⟩:=hf it (by simp);have hl:=rv.length;refine κ ?_;exact wpAny_pyNext_list_end (I.ok.hd hc) st p.isList (by simp;lia) λh' eb=>⟨rfl,I.turned (t':=s.toks) (λb o hb e=>eb b o hb e) f0 f1 f3 f4 f5⟩
 self:=λ_ _ _ _ _ st h=>wpAny_pyIter_listiter st h
theorem zk8{P:qw}{w:x8}{K:Frag}{tg:Expr}(a it:yq):Turn P w K tg (Itt K a) [it] it (λi h=>h.IsTupleIter it a i) where
 mem:=by simp
 obj:=λi h st b hb=>by
  have e:b=it:=by simpa using hb
  subst e;obtain⟨o,e,c,d⟩:=st;exact⟨o,e,λv z=>by rw[d]at z;cases z⟩
 keep:=λi h h' st k=>st.at λo e=>k it (by simp) o e
 item:=by
  intro X hP hw hK hc i pins s σ H E I hf st hg;subst hP hw hK;refine zKK λγ κ=>?_;obtain⟨xs,x,hq,hx⟩:=hg;obtain⟨its,rv,p,hz⟩:=I.tuple hq;obtain⟨u,hu,ru⟩:=rv.get hx;obtain⟨f0,f1,f2,f3,f4,f5⟩:=hf it (by simp);refine κ ?_;refine wpAny_pyNext_tuple_item st (show s.heap.IsTuple a its.toArray from p) (x:=u) (by simpa using hu) λh' st' sb=>?_
  have I1:Inv X pins σ H { s with heap:=h'}:=I.turned (t':=s.toks) (λb o hb e=>(sb.2 b hb).trans e) f0 f1 f3 f4 f5;obtain⟨o,e,c,d⟩:=id st';exact⟨u,rfl,go_of (s:={ s with heap:=h'}) e c d (by decide) ⟨x,H,I1,ru,⟨rfl,λys hy=>by rw[I.tuple_inj hy hq];exact hx⟩,st',λb hb=>(hf b hb).1⟩⟩
 done:=by
  intro X hP hw hK hc i pins s σ H E I hf st hg;subst hP hw hK;refine zKK λγ κ=>?_;obtain⟨xs,hq,hx⟩:=hg;obtain⟨its,rv,p,hz⟩:=I.tuple hq;obtain⟨f0,f1,f2,f3,f4,f5⟩:=hf it (by simp);have hl:=rv.length;refine κ ?_;exact wpAny_pyNext_tuple_end (I.ok.hd hc) st (show s.heap.IsTuple a its.toArray from p) (by simp;lia) λh' eb=>⟨rfl,I.turned (t':=s.toks) (λb o hb e=>eb b o hb e) f0 f1 f3 f4 f5⟩
 self:=λ_ _ _ _ _ st h=>wpAny_pyIter_tupleiter st h
theorem zlj{P:qw}{w:x8}{K:Frag}{tg:Expr}(it:yq)(lo:Int)(n:Nat):Turn P w K tg (Itr lo n) [it] it (λi h=>IsRangeIter h it (lo+(i:Nat)*1) ((n:Int) - (i:Nat)) 1) where
 mem:=by simp
 obj:=λi h st b hb=>by
  have e:b=it:=by simpa using hb
  subst e
  exact⟨_,st,λv z=>by
   have z':Data.fields _=Data.cell v:=z;cases z'⟩
 keep:=λi h h' st k=>k it (by simp) _ st
 item:=by
  intro X hP hw hK hc i pins s σ H E I hf st hg;subst hP hw hK;refine zKK λγ κ=>?_;obtain⟨f0,f1,f2,f3,f4,f5⟩:=hf it (by simp);have W:=Walks.range (prog:=X.prog) (w:=X.w) (I.ok.hd hc) it lo 1 n;refine κ ?_;refine W.item i s _ _ hg st λv h' tk hv st' kk=>?_
  obtain⟨t,rfl⟩:=hv;have I1:Inv X pins σ H { s with heap:=h',toks:=tk}:=I.turned (λb o hb e=>kk b o (by simpa using hb) e) f0 f1 f3 f4 f5;refine⟨_,rfl,go_of (s:={ s with heap:=h',toks:=tk}) (n:="range_iterator") st' rfl rfl (by decide) ⟨.int (lo+i),H,I1,⟨t,?_⟩,⟨rfl,rfl⟩,st',λb hb=>(hf b hb).1⟩⟩;rw[Int.mul_one]
 done:=by
  intro X hP hw hK hc i pins s σ H E I hf st hg;subst hP hw hK;refine zKK λγ κ=>?_;obtain⟨f0,f1,f2,f3,f4,f5⟩:=hf it (by simp);refine κ ?_;exact wpAny_pyNext_range_end (I.ok.hd hc) st (by have:n<=i:=hg;lia) λh' eb=>⟨rfl,I.turned (t':=s.toks) (λb o hb e=>eb b o hb e) f0 f1 f3 f4 f5⟩
 self:=λ_ _ _ _ _ st h=>wpAny_pyIter_rangeiter st h
section
variable {X:Cx} {tg:Expr}
theorem range_it{pins:List (yq×Obj)}{σ:St}{H:Hp}{s:ym}{R:It->Hp->Prop}{E:yh->ym->Prop}{lo hi:Int}{t u v:Tok}{tk:Nat}(I:Inv X pins σ H s)(h1:-(2 ^ 62)<=lo)(h2:lo<2 ^ 62)(h3:-(2 ^ 62)<=hi)(h4:hi<2 ^ 62)
  (q:R (Itr lo (hi - lo).toNat) H):y9 (model X.prog X.w) X.A (pyIter (.ref s.heap.objs.size)) (PIE X pins σ tg R) E { s with heap:=s.heap.push { cls:=.type "range",data:=.fields #[.int lo t,.int hi u,.int 1 v]},toks:=tk}:=by
 refine wpAny_pyIter_range (IsRange.new ..) (small_one h1 h2 h3 h4) ?_;have I1:Inv X pins σ H { s with heap:=s.heap.push { cls:=.type "range",data:=.fields #[.int lo t,.int hi u,.int 1 v]},toks:=tk}:=I.kept λb o e=>yp _ e
 refine⟨(s.heap.push { cls:=.type "range",data:=.fields #[.int lo t,.int hi u,.int 1 v]}).objs.size,[(s.heap.push { cls:=.type "range",data:=.fields #[.int lo t,.int hi u,.int 1 v]}).objs.size],_,_,H,rfl,
  I1.kept (t':=tk) λb o e=>yp _ e,zlj _ lo (hi - lo).toNat,?_,λb hb=>?_,q⟩
 ·have e1:lo+((0:Nat):Int)*1=lo:=by simp
  have e2:(((hi - lo).toNat:Nat):Int) - ((0:Nat):Int)=Builtin.Range.rangeSize lo hi 1:=by rw[rangeSize_one];split <;> lia
  show IsRangeIter _ _ (lo+((0:Nat):Int)*1) ((((hi - lo).toNat:Nat):Int) - ((0:Nat):Int)) 1;rw[e1,e2];exact y4 _ rfl
 ·have e:b=(s.heap.push { cls:=.type "range",data:=.fields #[.int lo t,.int hi u,.int 1 v]}).objs.size:=by simpa using hb
  subst e;exact I1.fpOk (y6 _) (I1.hok.fresh (y6 _))
def iRng1(ta:TA):TI:=λσ H R=>ta σ H λvs H1=>∃j:Int,vs=[.int j]/\-(2 ^ 62)<=j/\j<2 ^ 62/\R (Itr 0 j.toNat) H1
theorem zmi{a:Expr}{ta:TA}{p pos:Pos}(hg:Gl X "range")(hm:X.mg "range" = yk)(ha:PA X [a] ta)(hs:jh [a] X.env=[(yi,eval a X.env)]:=by rfl):PI X tg (.Call (.Name "range" p) [a] [] pos) (iRng1 ta):=by
 intro pins s σ H R I h;refine Call_ (zdb I hg hm boot_range (jz (thn (ha pos pins s σ H _ I h) λus s1 ζ=>?_) hs rfl));obtain⟨vs,H1,I1,r1,q1⟩:=ζ;obtain⟨j,e,q1,q2,q⟩:=q1;subst e;cases r1 with
 | cons r rr =>
  cases rr;obtain⟨t,rfl⟩:=r;exact call_range_1 (range_it I1 (by lia) (by lia) q1 q2 (by simpa using q))
def tFor(wi:TI)(g:TG)(tb:TS):TS:=λD σ H=>wi σ H λJ H1=>∃W:Nat->Nat->St->Hp->Prop,(∃m,W 0 m σ H1)/\∀i m σ H,W i m σ H ->
 (J.stop i H/\D.nx σ H)\/(J.go i H/\∃N:St->Hp->Prop,(∀σ' H',N σ' H'->∃m',m'<m/\W (i+1) m' σ' H')/\∀x H',J.yld i H x H'->g x σ H' λσ2 H2=>tb { D with nx:=N,ct:=N,bk:=D.nx} σ2 H2)
def pinsAt(fp:List yq)(h:Heap):List (yq×Obj):=fp.filterMap λb=>(h.get? b).map λo=>(b,o)
theorem zbu{fp:List yq}{h:Heap}{b:yq}{o:Obj}(hb:b∈fp)(e:h.get? b=ya o):(b,o)∈pinsAt fp h:=ycj.mpr ⟨b,hb,by rw[e];rfl⟩
theorem zob{fp:List yq}{h:Heap}{p:yq×Obj}(hp:p∈pinsAt fp h):p.1∈fp/\h.get? p.1=ya p.2:=by
 obtain⟨b,hb,e⟩:=ycj.mp hp;cases q:h.get? b with
 | none=>rw[q]at e;cases e
 | some o =>
  rw[q]at e;have e':(b,o)=p:=qh e;subst e';exact⟨hb,q⟩
theorem Inv.pinned{pins:List (yq×Obj)}{σ:St}{H:Hp}{s:ym}{fp:List yq}(I:Inv X pins σ H s)(hf:∀b∈fp,FpOk X pins H b)(ho:∀b∈fp,∃o,s.heap.get? b=ya o/\∀v,o.data≠.cell v):Inv X (pins++pinsAt fp s.heap) σ H s :=
 I.pins_of λp hp=>(qt.mp hp).elim (λz=>I.pin p (qx _ z)) λz=>by
  refine zKK λγ κ=>?_;obtain⟨hb,e⟩:=zob z;obtain⟨f0,f1,f2,_⟩:=hf p.1 hb;obtain⟨o,e',d⟩:=ho p.1 hb;rw[e]at e';cases e';refine κ ?_;exact⟨e,f0,f1,f2,d⟩
theorem Inv.unpinned{pins pl:List (yq×Obj)}{σ:St}{H:Hp}{s:ym}(I:Inv X (pins++pl) σ H s):Inv X pins σ H s:=I.pins_of λp hp=>I.pin p (qx _ (jf _ hp))
theorem zv9{iter:Expr}{body:List Stmt}{wi:TI}{g:TG}{tb:TS}{pos:Pos}(hp:PassesOwn (model X.prog X.w) X.A X.env X.xe)(hc:X.calm=yl)(hi:PI X tg iter wi)(hg:PG X tg g)(hb:PSs X body tb)
  (hs:∀x,ug iter X.env x=pure x:=by intro _;rfl):PS X (.For tg iter body [] pos) (tFor wi g tb):=by
 intro pins s σ H D I h;refine wpAny_For (thn (hi pins s σ H _ I h) λv s1 h1=>thn h1 λitv s2 h2=>?_) hs;obtain⟨it,fp,tn,J,H2,e,I2,T,st2,f2,W,⟨m0,w0⟩,turn⟩:=h2;subst e
 -- what stays yl of the iterator's objects through the loop
 have stat:∀{H':Hp},(∀b∈fp,H' b=yk)->∀b∈fp,FpOk X pins H' b:=λhn b hb=>⟨hn b hb,(f2 b hb).2⟩
 refine codeAny_forLoop_any (λn s'=>∃i σ' H',Inv X pins σ' H' s'/\tn i s'.heap/\(∀b∈fp,H' b=yk)/\W i n σ' H') ?_ m0 ⟨0,σ,H2,I2,st2,λb hb=>(f2 b hb).1,w0⟩;intro n s3 ζ2;refine zKK λγ κ=>?_;obtain⟨i,σ3,H3,I3,st3,fr3,w3⟩:=ζ2;refine κ ?_;rcases turn i n σ3 H3 w3 with⟨stop,qn⟩ | ⟨go,N,hN,step⟩
 ·refine ub hp (thn (T.done X rfl rfl rfl hc i pins s3 σ3 H3 X.xe I3 (stat fr3) st3 stop) λr s4 ⟨hr,I4⟩=>?_)
  subst hr;exact wpAny_execs_nil ⟨σ3,H3,I4,qn⟩
 ·refine ub hp (thn (T.item X rfl rfl rfl hc i pins s3 σ3 H3 X.xe I3 (stat fr3) st3 go) λr s4 ⟨u,hr,h4⟩=>?_)
  subst hr;refine ub hp (thn h4 λ_ s5 ζ=>?_);refine zKK λγ κ=>?_;obtain⟨x,H5,I5,r5,y5,st5,fr5⟩:=ζ;have I5':=I5.pinned (stat fr5) (T.obj _ _ st5);refine κ ?_;refine ub hp (thn (hg _ s5 σ3 H5 x u _ I5' r5 (step x H5 y5)) λ_ s6 ζ=>?_);obtain⟨σ6,H6,I6,q6⟩:=ζ;refine ub hp (thn (hb _ s6 σ6 H6 _ I6 q6) λf s7 q7=>?_)
  have again:∀{σ7:St} {H7:Hp},Inv X (pins++pinsAt fp s5.heap) σ7 H7 s7->N σ7 H7->∃m,m<n/\∃i σ' H',Inv X pins σ' H' s7/\tn i s7.heap/\(∀b∈fp,H' b=yk)/\W i m σ' H':=λ{σ7 H7} I7 n7=>by
   obtain⟨m',hm,w7⟩:=hN σ7 H7 n7;refine⟨m',hm,i+1,σ7,H7,I7.unpinned,T.keep _ _ _ st5 λb hb o e=>(I7.pin (b,o) (qx _ (qx _ (zbu hb e)))).1,λb hb=>?_,w7⟩;obtain⟨o,e,d⟩:=T.obj _ _ st5 b hb;exact(I7.pin (b,o) (qx _ (qx _ (zbu hb e)))).2.1
  cases f with
  | next=>obtain⟨σ7,H7,I7,n7⟩:=q7;exact again I7 n7
  | cont=>obtain⟨σ7,H7,I7,n7⟩:=q7;exact again I7 n7
  | brk=>obtain⟨σ7,H7,I7,q7⟩:=q7;exact⟨σ7,H7,I7.unpinned,q7⟩
  | ret v=>refine zKK λγ κ=>?_;obtain⟨x7,σ7,H7,I7,r7,q7⟩:=q7;refine κ ?_;exact⟨x7,σ7,H7,I7.unpinned,r7,q7⟩
end
abbrev R2:=V->V->Hp->VK->Prop
def OpR(X:Cx)(f:yh->yh->Sem yh)(r:R2):Prop :=
 ∀(pins:List (yq×Obj)) (s:ym) (σ:St) (H:Hp) (x y:V) (v u:yh) (Q:VK),Inv X pins σ H s->RelV x v->RelV y u->r x y H Q ->
  y9 (model X.prog X.w) X.A (f v u) (EP X pins σ Q) X.xe s
def UnR(X:Cx)(f:yh->Sem yh)(r:V->Hp->VK->Prop):Prop :=
 ∀(pins:List (yq×Obj)) (s:ym) (σ:St) (H:Hp) (x:V) (v:yh) (Q:VK),Inv X pins σ H s->RelV x v->r x H Q ->
  y9 (model X.prog X.w) X.A (f v) (EP X pins σ Q) X.xe s
def CallR(X:Cx)(f:yh)(r:List V->Hp->VK->Prop):Prop :=
 ∀(pins:List (yq×Obj)) (s:ym) (σ:St) (H:Hp) (xs:List V) (us:List yh) (Q:VK),Inv X pins σ H s->Vals xs us->r xs H Q ->
  y9 (model X.prog X.w) X.A (call f us) (EP X pins σ Q) X.xe s
def TruR(X:Cx)(r:V->Hp->(Bool->Hp->Prop)->Prop):Prop :=
 ∀(pins:List (yq×Obj)) (s:ym) (σ:St) (H:Hp) (x:V) (v:yh) (Q:Bool->Hp->Prop),Inv X pins σ H s->RelV x v->r x H Q ->
  y9 (model X.prog X.w) X.A (truthy v) (TP X pins σ Q) X.xe s
def tOp(r:R2)(ta tb:TE):TE:=λσ H Q=>ta σ H λx H1=>tb σ H1 λy H2=>r x y H2 Q
def tUn(r:V->Hp->VK->Prop)(ta:TE):TE:=λσ H Q=>ta σ H λx H1=>r x H1 Q
def rI(C:Int->Int->Prop)(g:Int->Int->V):R2:=λx y H Q=>∃i j,x=.int i/\y=.int j/\C i j/\Q (g i j) H
def rI0(g:Int->Int->V):R2:=λx y H Q=>∃i j,x=.int i/\y=.int j/\Q (g i j) H
def rU(g:Int->V):V->Hp->VK->Prop:=λx H Q=>∃i,x=.int i/\Q (g i) H
section
variable {X:Cx} {a b c:Expr} {ta tb tc:TE} {pos:Pos}
theorem binT(ha:PE X a ta)(hb:PE X b tb){pins:List (yq×Obj)}{s:ym}{σ:St}{H:Hp}{R:V->V->Hp->Prop}(I:Inv X pins σ H s)
  (h:ta σ H λx H1=>tb σ H1 λy H2=>R x y H2) {Q:yh->ym->Prop} {f:yh->yh->Sem yh}
  (hf:∀v u s2 x y H2,Inv X pins σ H2 s2->RelV x v->RelV y u->R x y H2->y9 (model X.prog X.w) X.A (f v u) Q X.xe s2) :
  y9 (model X.prog X.w) X.A (eval a X.env) (λv s₁=>y9 (model X.prog X.w) X.A (eval b X.env) (λu s₂=>y9 (model X.prog X.w) X.A (f v u) Q X.xe s₂) X.xe s₁) X.xe s:=by
 refine thn (ha pins s σ H _ I h) λv s1 ζ=>?_;obtain⟨x,H1,I1,r1,q1⟩:=ζ
 refine thn (hb pins s1 σ H1 _ I1 q1) λu s2 ζ=>?_;obtain⟨y,H2,I2,r2,q2⟩:=ζ
 exact hf v u s2 x y H2 I2 r1 r2 q2
theorem zx2{op:Operator}{r:R2}(ho:OpR X (yai op) r)(ha:PE X a ta)(hb:PE X b tb):PE X (.BinOp a op b pos) (tOp r ta tb):=by
 intro pins s σ H Q I h;exact wpAny_BinOp (binT ha hb I h λv u s2 x y H2 I2 rx ry q=>ho pins s2 σ H2 x y v u Q I2 rx ry q)
theorem zx1{op:UnaryOp}{r:V->Hp->VK->Prop}(ho:UnR X (unaryOp op) r)(ha:PE X a ta):PE X (.UnaryOp op a pos) (tUn r ta):=by
 intro pins s σ H Q I h;exact UnaryOp_ (thn (ha pins s σ H _ I h) λv s1 ⟨x,H1,I1,r1,q1⟩=>ho pins s1 σ H1 x v Q I1 r1 q1)
theorem opI{f:yh->yh->Sem yh}{C:Int->Int->Prop}{g:Int->Int->Int}
  (rule:∀(i j:Int) (t u:Tok) (s:ym) (Q:yh->ym->Prop) (E:yh->ym->Prop),C i j->Q (.int (g i j) s.toks) { s with toks:=s.toks+1}->y9 (model X.prog X.w) X.A (f (.int i t) (.int j u)) Q E s) :
  OpR X f (rI C λi j=>.int (g i j)):=by
 intro pins s σ H x y v u Q I rx ry h;refine zKK λγ κ=>?_;obtain⟨i,j,rfl,rfl,hc,q⟩:=h;obtain⟨t,rfl⟩:=rx;obtain⟨t',rfl⟩:=ry;refine κ ?_;exact rule i j t t' s _ _ hc ⟨.int (g i j),H,I.tok _,⟨_,rfl⟩,q⟩
theorem opI0{f:yh->yh->Sem yh}{g:Int->Int->Int}
  (rule:∀(i j:Int) (t u:Tok) (s:ym) (Q:yh->ym->Prop) (E:yh->ym->Prop),Q (.int (g i j) s.toks) { s with toks:=s.toks+1}->y9 (model X.prog X.w) X.A (f (.int i t) (.int j u)) Q E s) :
  OpR X f (rI0 λi j=>.int (g i j)):=by
 intro pins s σ H x y v u Q I rx ry h;obtain⟨i,j,rfl,rfl,q⟩:=h;obtain⟨t,rfl⟩:=rx;obtain⟨t',rfl⟩:=ry;exact rule i j t t' s _ _ ⟨.int (g i j),H,I.tok _,⟨_,rfl⟩,q⟩
theorem opB0{f:yh->yh->Sem yh}{g:Int->Int->Bool}
  (rule:∀(i j:Int) (t u:Tok) (s:ym) (Q:yh->ym->Prop) (E:yh->ym->Prop),Q (.bool (g i j)) s->y9 (model X.prog X.w) X.A (f (.int i t) (.int j u)) Q E s) :
  OpR X f (rI0 λi j=>.bl (g i j)):=by
 intro pins s σ H x y v u Q I rx ry h;obtain⟨i,j,rfl,rfl,q⟩:=h;obtain⟨t,rfl⟩:=rx;obtain⟨t',rfl⟩:=ry;exact rule i j t t' s _ _ ⟨.bl (g i j),H,I,rfl,q⟩
def CDiv(i j:Int):Prop:=0<j/\j<1073741824
def CMul(i j:Int):Prop:=(-(2 ^ 64)<i/\i<2 ^ 64)\/(-(2 ^ 64)<j/\j<2 ^ 64)
theorem CMul.ok{i j:Int}(h:CMul i j):IntMulOk i j:=by
 rcases h with⟨h1,h2⟩ | ⟨h1,h2⟩
 ·exact .of_left (intBits_le_64 h1 h2)
 ·exact .of_right (intBits_le_64 h1 h2)
theorem zwd:OpR X (yai .Add) (rI0 λi j=>.int (i+j)):=opI0 λ_ _ _ _ _ _ _ q=>add_int q
theorem zv4:OpR X (yai .Sub) (rI0 λi j=>.int (i - j)):=opI0 λ_ _ _ _ _ _ _ q=>sub_int q
theorem zt7:OpR X (yai .Mult) (rI CMul λi j=>.int (i*j)):=opI λ_ _ _ _ _ _ _ hc q=>mul_int q hc.ok
theorem zsp:OpR X (yai .FloorDiv) (rI CDiv λi j=>.int (i / j)):=opI λi j _ _ _ _ _ hc q=>by
 have h1:(0:Int)<j:=hc.1;have h2:j<1073741824:=hc.2;exact floordiv_int (by lia) (by rw[Int.fdiv_eq_ediv_of_nonneg i (by lia)];exact q) (.inl (PyProof.noPylong_small (by lia)))
theorem zvw:OpR X (yai .Mod) (rI (λ_ j=>0<j) λi j=>.int (i % j)):=opI λi j _ _ _ _ _ hc q=>by
 have h1:(0:Int)<j:=hc;exact mod_int' (by lia) (by rw[Int.fmod_eq_emod_of_nonneg i (by lia)];exact q)
theorem unI{f:yh->Sem yh}{g:Int->Int}
  (rule:∀(i:Int) (t:Tok) (s:ym) (Q:yh->ym->Prop) (E:yh->ym->Prop),Q (.int (g i) s.toks) { s with toks:=s.toks+1}->y9 (model X.prog X.w) X.A (f (.int i t)) Q E s) :
  UnR X f (rU λi=>.int (g i)):=by
 intro pins s σ H x v Q I rx h;obtain⟨i,rfl,q⟩:=h;obtain⟨t,rfl⟩:=rx;exact rule i t s _ _ ⟨.int (g i),H,I.tok _,⟨_,rfl⟩,q⟩
theorem zur:UnR X (unaryOp .USub) (rU λi=>.int (-i)):=unI λ_ _ _ _ _ q=>neg_int q
theorem un_inv:UnR X (unaryOp .Invert) (rU λi=>.int (Builtin.bitNot i)):=unI λ_ _ _ _ _ q=>invert_int q
end
def scal:V->V->Bool
 | .non,.non=>yl | .non,.int _=>yl | .int _,.non=>yl | .non,.bl _=>yl | .bl _,.non=>yl | .non,.str _=>yl | .str _,.non=>yl
 | .int _,.int _=>yl | .bl _,.bl _=>yl | .str _,.str _=>yl | .byt _,.byt _=>yl
 | .int _,.str _=>yl | .str _,.int _=>yl | .bl _,.str _=>yl | .str _,.bl _=>yl
 | _,_=>yi
section
variable {X:Cx} {a b c:Expr} {ta tb tc:TE} {pos:Pos}
theorem zre{pins:List (yq×Obj)}{σ:St}{H:Hp}{s:ym}{Q:VK}{k k':Bool}(I:Inv X pins σ H s)(q:Q (.bl k) H)(e:k=k'):EP X pins σ Q (.bool k') s:=by
 subst e;exact⟨.bl k,H,I,rfl,q⟩
theorem zww:OpR X (je .Lt) (rI0 λi j=>.bl (decide (i<j))):=opB0 λ_ _ _ _ _ _ _ q=>lt_int q
theorem zw6:OpR X (je .LtE) (rI0 λi j=>.bl (decide (i<=j))):=opB0 λ_ _ _ _ _ _ _ q=>le_int q
theorem zxc:OpR X (je .Gt) (rI0 λi j=>.bl (decide (j<i))):=opB0 λ_ _ _ _ _ _ _ q=>gt_int q
theorem zw3:OpR X (je .GtE) (rI0 λi j=>.bl (decide (j<=i))):=opB0 λ_ _ _ _ _ _ _ q=>ge_int q
theorem zvn:OpR X (je .Is) (λx y H Q=>y=.non/\Q (.bl (decide (x=.non))) H):=by
 intro pins s σ H x y v u Q I rx ry h;obtain⟨rfl,q⟩:=h;cases ry;refine is_none_gen (zre I q ?_)
 cases x <;> first
  | (cases rx;rfl)
  | (obtain⟨t,rfl⟩:=rx;rfl)
theorem zry:OpR X (je .IsNot) (λx y H Q=>y=.non/\Q (.bl (!decide (x=.non))) H):=by
 intro pins s σ H x y v u Q I rx ry h;obtain⟨rfl,q⟩:=h;cases ry;refine isnot_none_gen (zre I q ?_)
 cases x <;> first
  | (cases rx;rfl)
  | (obtain⟨t,rfl⟩:=rx;rfl)
theorem zmj{op:CmpOp}{r:R2}(ho:OpR X (je op) r)(ha:PE X a ta)(hb:PE X b tb)(hm:behindInMarks op b=yi):PE X (.Compare a [op] [b] pos) (tOp r ta tb):=by
 intro pins s σ H Q I h;exact wpAny_Compare1 (binT ha hb I h λv u s2 x y H2 I2 rx ry q=>ho pins s2 σ H2 x y v u Q I2 rx ry q) hm
def tTest(t:TE):TT:=λσ H Q=>t σ H λx H'=>∃k,x=.bl k/\Q k H'
theorem zic{op:CmpOp}{r:R2}(ho:OpR X (je op) r)(ha:PE X a ta)(hb:PE X b tb)(hm:behindInMarks op b=yi):PT X (.Compare a [op] [b] pos) (tTest (tOp r ta tb)):=by
 intro pins s σ H Q I h
 refine wpAny_isTrue_Compare1 (thn (ha pins s σ H _ I h) λv s1 ⟨x,H1,I1,r1,q1⟩=>thn (hb pins s1 σ H1 _ I1 q1) λu s2 ⟨y,H2,I2,r2,q2⟩ =>
  thn (ho pins s2 σ H2 x y v u _ I2 r1 r2 q2) λc s3 ⟨z,H3,I3,r3,k,e,q3⟩=>?_) hm
 subst e;cases r3;exact uf ⟨H3,I3,q3⟩
def TruV(K:Frag)(x:V)(H:Hp)(k:Bool):Prop :=
 match x with
 | .non=>k=yi
 | .bl b=>k=b
 | .int i=>k=(i != 0)
 | .str y=>y.length<=y8/\k=((y.length:Int) != 0)
 | .byt y=>y.size<=y8/\k=((y.size:Int) != 0)
 | .ref p=>(∃xs,SqL K H p xs/\k = !xs.isEmpty)\/(∃xs,SqT K H p xs/\k = !xs.isEmpty)\/∃kvs,H p=ya (.dK kvs)/\k = !kvs.isEmpty
 | _=>False
theorem zlh{κ:Type}{kvs:List (κ×V)}{vs:List (κ×yh)}(r:KV kvs vs):(!vs.isEmpty) = !kvs.isEmpty:=by
 cases r <;> rfl
theorem ze4{xs:List V}{its:List yh}(r:Vals xs its):(!its.toArray.isEmpty) = !xs.isEmpty:=by
 cases r <;> simp
theorem line63:(y8:Nat)<2 ^ 63:=by rw[uh];decide
theorem zrl:TruR X (λx H Q=>∃k,TruV X.K x H k/\Q k H):=by
 intro pins s σ H x v Q I rx h;obtain⟨k,e,q⟩:=h;have hl:=line63;have hs:y8=16777216:=uh;cases x with
 | non =>
  cases rx;have e':k=yi:=e;subst e';exact truthy_none ⟨H,I,q⟩
 | bl b =>
  cases rx;have e':k=b:=e;subst e';exact uf ⟨H,I,q⟩
 | int i =>
  obtain⟨t,rfl⟩:=rx;have e':k=(i != 0):=e;subst e';exact PySem.P.truthy_int ⟨H,I,q⟩
 | str y =>
  obtain⟨t,rfl⟩:=rx;obtain⟨hy,e'⟩:y.length<=y8/\k=((y.length:Int) != 0):=e;subst e';exact PySem.P.truthy_str (by lia) ⟨H,I.tok _,q⟩
 | byt y =>
  obtain⟨t,rfl⟩:=rx;obtain⟨hy,e'⟩:y.size<=y8/\k=((y.size:Int) != 0):=e;subst e';exact PySem.W.truthy_bytes (by lia) ⟨H,I.tok _,q⟩
 | ref p =>
  cases rx;have e':(∃xs,SqL X.K H p xs/\k = !xs.isEmpty)\/(∃xs,SqT X.K H p xs/\k = !xs.isEmpty)\/∃kvs,H p=ya (.dK kvs)/\k = !kvs.isEmpty:=e;rcases e' with⟨xs,hx,e'⟩ | ⟨xs,hx,e'⟩ | ⟨kvs,hx,e'⟩
  ·subst e'
   obtain⟨its,r,pl,hz⟩:=I.list hx;have hlen:=r.length;exact wpAny_truthy_list pl.isList (by simp only[yt];lia) ⟨H,I.tok _,by rw[ze4 r];exact q⟩
  ·subst e'
   obtain⟨its,r,pl,hz⟩:=I.tuple hx;have hlen:=r.length;exact truthy_tuple pl (by simp only[yt];lia) ⟨H,I.tok _,by rw[ze4 r];exact q⟩
  ·subst e'
   obtain⟨hz,hS,vs,r,m⟩:kvs.length<=y8/\(p==vx)=yi/\∃vs,KV kvs vs/\s.heap.DictOf (mixKind X.prog X.w) p vs:=I.hok p _ hx;have hlen:kvs.length=vs.length:=Paired.length r;exact wpAny_truthy_dict hS m (by lia) ⟨H,I.tok _,by rw[zlh r];exact q⟩
 | _=>exact(show False from e).elim
theorem zpk(ha:PE X a ta)(he:∀whole,isTrue a X.env whole=(do let v ← whole;standAt a.pos;holding [v] (truthy v))) :
  PT X a (λσ H Q=>ta σ H λx H'=>∃k,TruV X.K x H' k/\Q k H'):=by
 intro pins s σ H Q I h;exact isTrue_plain (thn (ha pins s σ H _ I h) λv s1 ⟨x,H1,I1,r1,q1⟩=>zrl pins s1 σ H1 x v Q I1 r1 q1) (he _)
theorem zls:OpR X (yai .Add) (λx y H Q=>∃i j,x=.str i/\y=.str j/\i.length+j.length<=y8/\Q (.str (i++j)) H):=by
 intro pins s σ H x y v u Q I rx ry h;refine zKK λγ κ=>?_;obtain⟨i,j,rfl,rfl,hz,q⟩:=h;obtain⟨t,rfl⟩:=rx;obtain⟨t',rfl⟩:=ry;refine κ ?_;exact add_str (λt' tk=>⟨.str (i++j),H,I.tok _,⟨_,rfl⟩,q⟩) hz
theorem vals1{x:V}{us:List yh}(r:Vals [x] us):∃u,us=[u]/\RelV x u:=by
 cases r with
 | cons r1 r2=>cases r2;exact⟨_,rfl,r1⟩
theorem vals2{x y:V}{us:List yh}(r:Vals [x,y] us):∃u w',us=[u,w']/\RelV x u/\RelV y w':=by
 cases r with
 | cons r1 r2 =>
  cases r2 with
  | cons r3 r4=>cases r4;exact⟨_,_,rfl,r1,r3⟩
theorem zne(hc:X.calm=yl):CallR X (.builtin "max") (λxs H Q=>∃i j,xs=[.int i,.int j]/\Q (.int (if j>i then j else i)) H):=by
 intro pins s σ H xs us Q I r h;obtain⟨i,j,rfl,q⟩:=h;obtain⟨u,w',rfl,⟨t,rfl⟩,⟨t',rfl⟩⟩:=vals2 r;refine max_two_ints (I.ok.hd hc) λh' tk k=>⟨_,H,I.kept k,?_,q⟩
 by_cases hj:j>i
 ·rw[if_pos hj,if_pos hj];exact⟨_,rfl⟩
 ·rw[if_neg hj,if_neg hj];exact⟨_,rfl⟩
theorem zpc(hc:X.calm=yl):CallR X (.builtin "min") (λxs H Q=>∃i j,xs=[.int i,.int j]/\Q (.int (if j<i then j else i)) H):=by
 intro pins s σ H xs us Q I r h;obtain⟨i,j,rfl,q⟩:=h;obtain⟨u,w',rfl,⟨t,rfl⟩,⟨t',rfl⟩⟩:=vals2 r;refine min_two_ints (I.ok.hd hc) λh' tk k=>⟨_,H,I.kept k,?_,q⟩
 by_cases hj:j<i
 ·rw[if_pos hj,if_pos hj];exact⟨_,rfl⟩
 ·rw[if_neg hj,if_neg hj];exact⟨_,rfl⟩
end
structure ObjM (h:Heap) (x dx C:Addr) (mA:Str->Option Value):Prop where
 obj:h.get? x=ya (ye0 C dx)
 ns:h.Ns1 dx mA
 ne:dx≠x
theorem RelO.some_of{v:V}{o:Option yh}(r:RelO (ya v) o):∃u,o=ya u/\RelV v u:=by
 cases o with
 | none=>exact(show False from r).elim
 | some u=>exact⟨u,rfl,r⟩
structure Cls (K:Frag) (C:Addr):Prop where
 pg:PySem.W.plainGet K C Str.empty=yl
 hd:PySem.W.hasDictIn K C=yl
 po:PySem.W.plainOver K C=yl
 sa:ybe K (.ref C) "__setattr__" = ya (ya (.builtin "object.__setattr__"))
structure Con (K:Frag) (C:Addr) (f:Str) (v:V) (u:Value):Prop where
 at_:ybe K (.ref C) f=ya (ya u)
 rel:RelV v u
 get:yei K u "__get__" = ya yk
 cp:PySem.W.copiedNames.contains f=yi
structure Meth (K:Frag) (C:Addr) (m:Str) (f:Addr):Prop where
 at_:ybe K (.ref C) m=ya (ya (.ref f))
 fn:yfo K (.ref f)=yl
 kp:yd6 K (.ref f)=yl
section
variable {X:Cx} {pins:List (yq×Obj)} {σ:St} {H:Hp} {s:ym} {A:x5} {E:yh→ym→Prop} {Q:yh→ym→Prop} {c:yh} {b:Bool}
inductive TyOf (K:Frag) (H:Hp):V->Value->Prop where
 | non:TyOf K H .non (.type "NoneType")
 | bl (x:Bool):TyOf K H (.bl x) (.type "bool")
 | int (i:Int):TyOf K H (.int i) (.type "int")
 | str (x:Str):TyOf K H (.str x) (.type "str")
 | flt (x:UInt64):TyOf K H (.flt x) (.type "float")
 | lst {a:yq} {xs:List V} (e:H a=ya (.lst xs)):TyOf K H (.ref a) (.type "list")
 | frz {a:yq} {o:Obj} {xs:List V} (e:H a=ya (.frz o (.lst xs))):TyOf K H (.ref a) (.type "list")
 | tup {a:yq} {xs:List V} (e:H a=ya (.tup xs)):TyOf K H (.ref a) (.type "tuple")
 | dK {a:yq} {kvs:List (Key×V)} (e:H a=ya (.dK kvs)):TyOf K H (.ref a) (.type "dict")
 | dT {a:yq} {kvs:List (List Key×V)} (e:H a=ya (.dT kvs)):TyOf K H (.ref a) (.type "dict")
 | ins {a C dx:yq} {fs:List (Str×V)} (e:H a=ya (.ins C dx fs)) (cl:Cls K C) (ha:ybe K (.ref C) "__class__" = ya (ya (.builtin "object.__class__")))
   (hn:yei K (.builtin "object.__class__") "__get__" = ya (ya (.builtin "getset_descriptor.__get__"))) (htk:PySem.W.takesIn K (.builtin "object.__class__")=ya yl)
   (hm:PySem.W.mroIn K C (.type "object")=ya yl):TyOf K H (.ref a) (.ref C)
end
structure Room (k:Nat) (A:Around):Prop where
 hd:A.handled=yk
 dp:A.depth+3*k+5<recursionLimit
 un:A.units+16*k+200<ju
theorem Room.mono{j k:Nat}{A:x5}(r:Room k A)(h:j<=k):Room j A:=⟨r.hd,by have:=r.dp;lia,by have:=r.un;lia⟩
theorem Room.deeper{k:Nat}{A:x5}(r:Room (k+1) A)(env:Env):Room k (A.deeper env) :=
 ⟨r.hd,by have:=r.dp;show A.depth+1+3*k+5<_;lia,by have:=r.un;show A.units+3+16*k+200<_;lia⟩
theorem Room.depth{k:Nat}{A:x5}(r:Room k A):A.depth<recursionLimit:=by have:=r.dp;lia
theorem Room.units{k:Nat}{A:x5}(r:Room k A):A.units+64<ju:=by have:=r.un;lia
def tNil:TA:=λ_ H Q=>Q [] H
def tCons(ta:TE)(tr:TA):TA:=λσ H Q=>ta σ H λx H1=>tr σ H1 λxs H2=>Q (x::xs) H2
section
variable {X:Cx} {e:Expr} {es:List Expr} {te:TE} {t:TA} {pos:Pos}
theorem zae:PA X [] tNil:=λ_ _ _ _ H Q I h=>Calls.spliced_nil ⟨[],H,I,.nil,h⟩
theorem zq(ha:PE X e te)(hr:PA X es t)(hs:jh (e::es) X.env=(yi,eval e X.env)::jh es X.env:=by rfl):PA X (e::es) (tCons te t):=by
 intro pos pins s σ H Q I h;rw[hs];show y9 _ _ (spliced ((yi,eval e X.env)::backTo pos (jh es X.env))) _ _ s;refine Calls.spliced_cons (thn (ha pins s σ H _ I h) λu s1 ζ=>?_);obtain⟨x,H1,I1,r1,q1⟩:=ζ;exact thn (hr pos pins s1 σ H1 _ I1 q1) λus s2 ⟨xs,H2,I2,r2,q2⟩=>⟨x::xs,H2,I2,.cons r1 r2,q2⟩
def tTup(t:TA):TE:=λσ H Q=>t σ H λxs H1=>xs.length<=y8/\∀p,H1 p=yk->Q (.ref p) (upd H1 p (.tup xs))
def tLst(t:TA):TE:=λσ H Q=>t σ H λxs H1=>xs.length<=y8/\∀p,H1 p=yk->Q (.ref p) (upd H1 p (.lst xs))
theorem zva{x1}(h:PA X es t):PE X (.Tuple es x1 pos) (tTup t):=by
 intro pins s σ H Q I hq;refine wpAny_Tuple_spliced (thn (h pos pins s σ H _ I hq) λus s1 ⟨xs,H1,I1,r,z,q⟩=>⟨by rw[← r.length];exact z,?_⟩);have hf:H1 s1.heap.objs.size=yk:=I1.hok.fresh (y6 _);refine⟨.ref s1.heap.objs.size,upd H1 s1.heap.objs.size (.tup xs),I1.laid (t':=s1.toks) (λb u e=>yp _ e) (y6 _) ?_,rfl,q _ hf⟩;exact⟨z,us,r,⟨_,y4 _ rfl,rfl,_,rfl⟩,_,y4 _ rfl,rfl⟩
theorem zwr(h:PA X es t):PE X (.List es pos) (tLst t):=by
 intro pins s σ H Q I hq;refine wpAny_List_spliced (thn (h pos pins s σ H _ I hq) λus s1 ⟨xs,H1,I1,r,z,q⟩=>⟨by rw[← r.length];exact z,?_⟩);have hf:H1 s1.heap.objs.size=yk:=I1.hok.fresh (y6 _);refine⟨.ref s1.heap.objs.size,upd H1 s1.heap.objs.size (.lst xs),I1.laid (t':=s1.toks) (λb u e=>yp _ e) (y6 _) ?_,rfl,q _ hf⟩;exact⟨z,us,0,r,y4 _ rfl⟩
end
abbrev Sp:=List V->Hp->VK->XK->Prop
abbrev CXT:=List Env->Hp->ym->XK->yh->ym->Prop
structure Env0 (P:Program) (w:World) (K:Frag) (mg:Str->Option Value) (base:Heap) (A:Around) (outer:List Env) (s:Shared) (H:Hp):Prop where
 frames:A.frames=ya outer
 mod:Mod K mg base
 bs:∀b o,base.get? b=ya o->s.heap.get? b=ya o/\H b=yk
 bsz:base.objs.size<=s.heap.objs.size
 funs:s.heap.FunFrames base outer
 frf:∀b∈frs outer,H b=yk
 hok:HOk P w H s.heap
 bare:AllBare s.gens
def CE(outer:List Env)(P:qw)(w:x8)(H:Hp)(s:ym)(Q:VK)(u:yh)(s':ym):Prop :=
 ∃v H',s'.os=s.os/\AllBare s'.gens/\Un (frs outer) [] H H' s.heap s'.heap/\HOk P w H' s'.heap/\RelV v u/\Q v H'
def CR(CX:CXT)(outer:List Env)(P:qw)(w:x8)(H:Hp)(s:ym)(Q:VK)(E:XK)(r:Result)(s':ym):Prop :=
 match r with
 | .ok (.ret u)=>CE outer P w H s Q u s'
 | .ok _=>False
 | .error e=>CX outer H s E e s'
structure FnOk (P:Program) (w:World) (K:Frag) (mg:Str->Option Value) (base:Heap) (CX:CXT) (k:Nat) (f:Addr) (fd:FuncData) (ps:List Str) (sp:Sp):Prop where
 len:∀vs H Q E,sp vs H Q E->vs.length=ps.length
 run:∀(A:x5) (outer:List Env) (s:ym) (H:Hp) (args:Args) (us:List yh) (vs:List V) (Q:VK) (E:XK),Room k A->Env0 P w K mg base A outer s H->BindsTo s fd args (ps.zip us)->Vals vs us->sp vs H Q E ->
  yb1 (model P w) A (.call (.ref f) args) (CR CX outer P w H s Q E) s
section
variable {X:Cx} {pins:List (yq×Obj)} {σ:St} {H:Hp} {s s':ym}
theorem Inv.env0(I:Inv X pins σ H s):Env0 X.prog X.w X.K X.mg X.base X.A X.stack s H :=
 ⟨I.ok.frames,I.ok.mod,I.bs,xh I.ok.bsz I.sz,I.stack,I.stkFree,I.hok,I.bare⟩
theorem Inv.after{Q:VK}{u:yh}(I:Inv X pins σ H s)(h:CE X.stack X.prog X.w H s Q u s'):EP X pins σ Q u s':=by
 obtain⟨v,H',os,bare,un,hok,r,q⟩:=h;obtain⟨hh,g,d,t,os'⟩:=s';obtain rfl:os'=s.os:=os;exact⟨v,H',I.call (h':=hh) (g':=g) (d':=d) (t':=t) (ch:=[]) un hok bare (λb z=>absurd z (by simp)),r,q⟩
end
def tCall(sp:Sp)(dvs:List V)(E:XK)(t:TA):TE:=λσ H Q=>t σ H λvs H1=>sp (vs++dvs) H1 Q E
def Binds(K:Frag)(fd:yaj)(ps:List Str)(ds:List yh):Prop :=
 ∀(s:ym) (us:List yh),K.In s.heap->(us++ds).length=ps.length->BindsTo s fd ⟨us,[]⟩ (ps.zip (us++ds))
theorem Binds.all{K:Frag}{fd:yaj}{ps:List Str}(h:∀us:List yh,us.length=ps.length->bindArgs fd ⟨us,[]⟩=pure (ps.zip us)):Binds K fd ps []:=λs us _ hl=>by
 rw[qr]at hl ⊢;exact .of_eq (h us hl)
def Passes(CX:CXT)(X:Cx)(E:XK):Prop:=∀(pins:List (yq×Obj)) (σ:St) (H:Hp) (s:ym) (e:yh) (s':ym),Inv X pins σ H s->CX X.stack H s E e s'->X.xe e s'
section
variable {X:Cx} {CX:CXT} {k:Nat} {f C:yq} {fd:yaj} {ps:List Str} {sp:Sp} {dvs:List V} {ds:List yh} {E:XK} {x m:Str} {p pos apos:Pos} {e o:Expr} {es:List Expr} {ta:TE} {t:TA}
theorem zub{pins:List (yq×Obj)}{σ:St}{H:Hp}{s:ym}{Q:VK}{us:List yh}{vs:List V}(F:FnOk X.prog X.w X.K X.mg X.base CX k f fd ps sp)(hr:Room k X.A)(hb:Binds X.K fd ps ds)(hd:Vals dvs ds)(hx:Passes CX X E)
  (I:Inv X pins σ H s) (r:Vals vs us) (h:sp (vs++dvs) H Q E):y9 (model X.prog X.w) X.A (call (.ref f) us) (EP X pins σ Q) X.xe s:=by
 have r2:Vals (vs++dvs) (us++ds):=r.append hd;have hl:(us++ds).length=ps.length:=by rw[← r2.length];exact F.len _ _ _ _ h
 refine wpAny_call (ybn (F.run X.A X.stack s H ⟨us,[]⟩ (us++ds) (vs++dvs) Q E hr I.env0 (hb s us I.kIn hl) r2 h) λr s' hq=>?_);cases r with
 | error e=>exact hx pins σ H s e s' I hq
 | ok fl =>
  cases fl with
  | ret u=>exact I.after hq
  | next=>exact False.elim hq
  | brk=>exact False.elim hq
  | cont=>exact False.elim hq
theorem ztq(F:FnOk X.prog X.w X.K X.mg X.base CX k f fd ps sp)(hr:Room k X.A)(hg:Gl X x)(hm:X.mg x=ya (.ref f))(hk:yd6 X.K (.ref f)=yl)(hb:Binds X.K fd ps ds)(hd:Vals dvs ds)(hx:Passes CX X E)
  (ha:PA X (e::es) t) (hdb:(x==("__debug__" : Str))=yi:=by decide) (he:jh (e::es) X.env=(yi,eval e X.env)::jh es X.env:=by rfl) (hpl:(backTo pos (jh es X.env)).any (·.1)=yi:=by rfl) :
  PE X (.Call (.Name x p) (e::es) [] pos) (tCall sp dvs E t):=by
 intro pins s σ H Q I h;refine uy (zlv I hg hm ?_ hdb);refine PySem.W.callWith_K (h₀:=X.base) I.ok.mod.kin hk (thn (ha pos pins s σ H _ I h) λus s1 ⟨vs,H1,I1,r,q⟩=>⟨I1.kIn,?_⟩) he hpl;exact zub F hr hb hd hx I1 r q
structure Mk (K:Frag) (C f:Addr):Prop where
 makes:PySem.W.makesIn K C=yl
 init:ybe K (.ref C) "__init__" = ya (ya (.ref f))
 fn:yfo K (.ref f)=yl
 kp:yd6 K (.ref C)=yl
end
section
variable {X:Cx} {CX:CXT} {k:Nat} {f C:yq} {fd:yaj} {ps ks:List Str} {sp:Sp} {E:XK} {x m:Str} {p pos apos kpos:Pos} {e o:Expr} {es:List Expr} {kws:List Keyword} {te ta:TE} {t tk:TA} {nm:Option Str}
structure KBinds (K:Frag) (fd:FuncData) (ps ks:List Str) (g:List Value->List Value->List Value) (gV:List V->List V->List V):Prop where
 to:∀(s:ym) (us ws:List yh),K.In s.heap->(g us ws).length=ps.length->BindsTo s fd ⟨us,ks.zip ws⟩ (ps.zip (g us ws))
 rel:∀{vs:List V} {us:List yh} {zs:List V} {ws:List yh},Vals vs us->Vals zs ws->Vals (gV vs zs) (g us ws)
variable {g:List yh→List yh→List yh} {gV:List V→List V→List V}
end
structure FnScope (N P:List Str) (sc:Scope):Prop where
 kind:sc.kind=.function
 co:sc.isCoroutine=yi
 gen:sc.isGenerator=yi
 nd:N.Nodup
 pre:N.take P.length=P
 par:∀x∈P,sc.names.lookup x=ya .local\/sc.names.lookup x=ya .cell
 nofree:∀y∈sc.names,y.2≠.free
theorem zgk{kindOf:Str->Option yak}{x:Str}:∀{binds:List (Str×yh)} {m:Str->Option yh},(∀v,(x,v)∉binds)->bindL kindOf binds m x=m x
 | [],_,_=>rfl
 | (n,v)::r,m,h=>by
  unfold bindL;rw[zgk λw hw=>h w (yf _ hw)];split
  ·have:x≠n:=by rintro rfl;exact h v yg
   simp[this]
  ·rfl
theorem zg8{kindOf:Str->Option yak}{x:Str}:∀{binds:List (Str×yh)} {m:Str->Option yh},(∀v,(x,v)∉binds)->bindC kindOf binds m x=m x
 | [],_,_=>rfl
 | (n,v)::r,m,h=>by
  unfold bindC;rw[zg8 λw hw=>h w (yf _ hw)];split
  ·rfl
  ·have:x≠n:=by rintro rfl;exact h v yg
   simp[this]
theorem zgi{kindOf:Str->Option yak}{x:Str}{v:yh}:∀{P:List Str} {vs:List yh} {i:Nat} {m:Str->Option yh},P.Nodup->P[i]? = ya x->vs[i]? = ya v->kindOf x=ya .local ->
  bindL kindOf (P.zip vs) m x=ya v
 | [],_,_,_,_,h,_,_=>by simp at h
 | _::_,[],_,_,_,_,h,_=>by simp at h
 | p::P,w::vs,0,m,nd,h1,h2,hk=>by
  simp at h1 h2;subst h1;subst h2;show bindL kindOf ((p,w)::P.zip vs) m p=_;unfold bindL;rw[zgk λv hv=>(xw.mp nd).1 (ydv hv).1,if_pos hk];simp
 | p::P,w::vs,i+1,m,nd,h1,h2,hk=>by
  show bindL kindOf ((p,w)::P.zip vs) m x=_;unfold bindL;exact zgi (i:=i) (xw.mp nd).2 (by simpa using h1) (by simpa using h2) hk
theorem zh4{kindOf:Str->Option yak}{x:Str}{v:yh}:∀{P:List Str} {vs:List yh} {i:Nat} {m:Str->Option yh},P.Nodup->P[i]? = ya x->vs[i]? = ya v->kindOf x≠ya .local ->
  bindC kindOf (P.zip vs) m x=ya v
 | [],_,_,_,_,h,_,_=>by simp at h
 | _::_,[],_,_,_,_,h,_=>by simp at h
 | p::P,w::vs,0,m,nd,h1,h2,hk=>by
  simp at h1 h2;subst h1;subst h2;show bindC kindOf ((p,w)::P.zip vs) m p=_;unfold bindC;rw[zg8 λv hv=>(xw.mp nd).1 (ydv hv).1,if_neg hk];simp
 | p::P,w::vs,i+1,m,nd,h1,h2,hk=>by
  show bindC kindOf ((p,w)::P.zip vs) m x=_;unfold bindC;exact zh4 (i:=i) (xw.mp nd).2 (by simpa using h1) (by simpa using h2) hk
def start(N:List Str)(vs:List V):St:=vs.map ya++ja (N.length - vs.length) yk
def cxOf(CX:CXT)(P:qw)(w:x8)(K:Frag)(mg:Str->Option yh)(base:Heap)(N:List Str)(qual:Str)(scope:Scope)(f:yq)(cd:yh)(A:x5)(outer:List Env)(s:ym)(H:Hp)(E:XK):Cx where
 prog:=P
 w:=w
 K:=K
 mg:=mg
 base:=base
 A:=A.deeper (envOfC qual scope s.heap.objs.size f cd)
 N:=N
 s₀:=s
 H₀:=H
 env:=envOfC qual scope s.heap.objs.size f cd
 outer:=outer
 stack:=envOfC qual scope s.heap.objs.size f cd::outer
 ex:=[]
 calm:=yl
 fn:=λ_=>yl
 pn:=[]
 xe:=λe s'=>y9 (model P w) (A.deeper (envOfC qual scope s.heap.objs.size f cd)) (leaving (envOfC qual scope s.heap.objs.size f cd) e) (λ_ s''=>CX outer H s E e s'') (λe' s''=>CX outer H s E e' s'') s'
theorem zjl{sc:Scope}{n:Nat}{x:Str}(h:sc.names.lookup x=ya .cell):∃c,(cellsFrom n sc.names []).lookup x=ya c:=by
 have q:=ydn sc.names n [] (.inl h);exact Option.isSome_iff_exists.mp q
theorem zlu{CX:CXT}{P:qw}{w:x8}{K:Frag}{mg:Str->Option yh}{base:Heap}{N ps:List Str}{qual:Str}{scope:Scope}{f:yq}{cd:yh}{A:x5}{outer:List Env}{s s1:ym}{H:Hp}{E:XK}{us:List yh}{vs:List V}
  (S:FnScope N ps scope) (hd:A.handled=yk) (e0:Env0 P w K mg base A outer s H) (hl:vs.length=ps.length) (r:Vals vs us)
  (x:InCallC s s.heap.objs.size (bindL (envOfC qual scope s.heap.objs.size f cd).kindOf (ps.zip us) λ_=>yk) (cellsFrom (s.heap.objs.size+1) scope.names []) (bindC (envOfC qual scope s.heap.objs.size f cd).kindOf (ps.zip us) λ_=>yk) s1) :
  Inv (cxOf CX P w K mg base N qual scope f cd A outer s H E) [] (start N vs) H s1:=by
 have hpl:ps.length<=N.length:=by have:=congrArg uc S.pre;rw[x3]at this;lia
 obtain⟨h1,tk,rfl,hk⟩:=x.done;have noA:∀b:yq,b∉(cxOf CX P w K mg base N qual scope f cd A outer s H E).ex:=λb z=>absurd (show b∈([]:List yq)from z) (by simp)
 refine⟨⟨e0.mod,S.kind,rfl,rfl,y6 _,λy z c h1 h2=>?_,λy hy=>?_,λy c _ h=>?_,λ_=>hd,Around.frames_deeper e0.frames,.inr ⟨rfl,rfl⟩,λb z=>absurd z (noA b),e0.bs,e0.bsz,λb _ _=>noA b,λb z=>absurd z (noA b),e0.funs,e0.frf⟩,
  rfl,e0.bare,Un.kept hk,⟨_,x.toInCall.ns,λi y v h1 h2 h3=>?_⟩,λy c h=>⟨_,x.cell y c h⟩,e0.hok.fresh (y6 _),λy c h=>?_,λp hp=>absurd (show p∈([]:List (yq×Obj))from hp) (by simp),e0.hok.kept hk,?_⟩
 ·exact name_of_addr x.apart (PySem.mem_of_lookup h1) (PySem.mem_of_lookup h2)
 ·have hy:scope.names.lookup y=ya .cell\/scope.names.lookup y=ya .free:=hy
  rcases hy with hy | hy
  ·exact zjl hy
  ·exact absurd rfl (S.nofree _ (PySem.mem_of_lookup hy))
 ·exact wo (x.above y c (PySem.mem_of_lookup h))
 ·have hi:i<vs.length:=by
   unfold start at h2;by_cases hi:i<vs.length
   ·exact hi
   ·rw[qz (by simpa using hi)]at h2
    rw[jn]at h2;split at h2 <;> cases h2
  have ha:vs[i]? = ya v:=by
   unfold start at h2;rw[xc (by simpa using hi),yy]at h2;cases e:vs[i]? with
   | none=>rw[e]at h2;cases h2
   | some a=>rw[e]at h2;cases h2;rfl
  obtain⟨u,hu,rv⟩:=r.get ha
  have hp:ps[i]? = ya y:=by
   rw[← S.pre,List.getElem?_take_of_lt (by lia)];exact h1
  have ndP:ps.Nodup:=by rw[← S.pre];exact S.nd.sublist (ycz _ _)
  refine⟨u,rv,?_⟩;rcases S.par y (xk hp)with k | k
  ·exact .inl ⟨k,zgi ndP hp hu k⟩
  ·obtain⟨c,e⟩:=zjl (n:=s.heap.objs.size+1) k
   refine .inr ⟨.inl k,c,e,?_⟩;have q:=x.cell y c e;rw[zh4 ndP hp hu (by show scope.names.lookup y≠_;rw[k];decide)]at q;exact q
 ·exact e0.hok.fresh (wo (x.above y c (PySem.mem_of_lookup h)))
 ·unfold start
  show _=N.length;rw[yu,yd,xo];lia
theorem zxn{CX:CXT}{P:qw}{w:x8}{K:Frag}{mg:Str->Option yh}{base:Heap}{k:Nat}{f:yq}{name qual:Str}{params:Arguments}{body:List Stmt}{scope:Scope}{dV kV doc pm cdv ct oc:yh}{an od:Option yq}
  {osl:Array (Option yh)} {N ps:List Str} {sp:Sp} (lk:K.lookup f=ya ⟨oc,od,.func (fnOf name qual params body scope dV kV doc pm an cdv ct),osl⟩) (hcd:codeIn K cdv qual=yl) (S:FnScope N ps scope)
  (len:∀vs H Q E,sp vs H Q E->vs.length=ps.length)
  (hbody:∀(A:x5) (outer:List Env) (s:ym) (H:Hp) (vs:List V) (Q:VK) (E:XK),Room k (A.deeper (envOfC qual scope s.heap.objs.size f cdv))->sp vs H Q E ->
   ∃t,PSs (cxOf CX P w K mg base N qual scope f cdv A outer s H E) body t/\t { nx:=λ_ H'=>Q .non H',rt:=Q} (start N vs) H) :
  FnOk P w K mg base CX (k+1) f (fnOf name qual params body scope dV kV doc pm an cdv ct) ps sp:=by
 refine⟨len,λA outer s H args us vs Q E hr e0 hb r hsp=>?_⟩;have hl:=len _ _ _ _ hsp;have KX:K.In s.heap:=e0.mod.kin.keeps λb o e=>(e0.bs b o e).1
 have lim:s.heap.NoLimit:=e0.mod.nolimit.keeps λb o e=>(e0.bs b o e).1
 have hkind:∀y∈ps.zip us,scope.names.lookup y.1=ya .local\/(scope.names.lookup y.1=ya .cell/\((cellsFrom (s.heap.objs.size+1) scope.names []).lookup y.1).isSome=yl):=λ⟨n,v⟩ hy=>by
  rcases S.par n (ydv hy).1 with q | q
  ·exact .inl q
  ·exact .inr ⟨q,ydn _ _ _ (.inl q)⟩
 refine codeAny_call_function hr.depth (KX _ _ lk) rfl S.co S.gen rfl (PySem.W.codeRec_of KX hcd) (hb _ _ _ _ ?_);refine wpAny_newFunctionEnv_cells S.kind hkind λenv he s1 x=>?_
 subst he;refine⟨lim.keeps x.toInCall.keep,codeAny_func ?_⟩;obtain⟨t,ht,hq⟩:=hbody A outer s H vs Q E (hr.deeper _) hsp;have I:Inv (cxOf CX P w K mg base N qual scope f cdv A outer s H E) [] (start N vs) H s1:=zlu S hr.hd e0 hl r x;refine jd (ht [] s1 (start N vs) H _ I hq) (λfl s' hs=>?_) λe s' hs=>hs
 have fin:∀{σ':St} {H':Hp} {v:V} {u:yh},Inv (cxOf CX P w K mg base N qual scope f cdv A outer s H E) [] σ' H' s'->RelV v u->Q v H'->CE outer P w H s Q u s' :=
  λ{σ' H' v u} J rv q=>⟨v,H',J.os,J.bare,J.base,J.hok,rv,q⟩
 cases fl with
 | ret u =>
  obtain⟨v,σ',H',J,rv,q⟩:=hs;exact fin J rv q
 | next =>
  obtain⟨σ',H',J,q⟩:=hs;exact fin (v:=V.non) (u:=Value.none) J rfl q
 | brk =>
  obtain⟨_,_,_,q⟩:=hs;exact False.elim q
 | cont =>
  obtain⟨_,_,_,q⟩:=hs;exact False.elim q
section
variable {X:Cx} {x:Str} {p pos:Pos} {e:Expr} {es:List Expr} {t:TA} {id T:String} {r:List V→Hp→VK→Prop}
def tCB(r:List V->Hp->VK->Prop)(t:TA):TE:=λσ H Q=>t σ H λvs H1=>r vs H1 Q
theorem za5(hc:CallR X (.builtin id) r)(hg:Gl X x)(hm:X.mg x=yk)(hv:ud x=ya (.builtin id))(ha:PA X (e::es) t)(hn:x≠"__name__":=by decide)(hdb:(x==("__debug__" : Str))=yi:=by decide)
  (he:jh (e::es) X.env=(yi,eval e X.env)::jh es X.env:=by rfl) (hpl:(backTo pos (jh es X.env)).any (·.1)=yi:=by rfl):PE X (.Call (.Name x p) (e::es) [] pos) (tCB r t):=by
 intro pins s σ H Q I h;refine uy (zdb I hg hm hv ?_ hn hdb);exact PyProof.Rows.callWith_builtin1 (thn (ha pos pins s σ H _ I h) λus s1 ⟨vs,H1,I1,r1,q1⟩=>hc pins s1 σ H1 vs us Q I1 r1 q1) he hpl
theorem zd6(hc:CallR X (.type T) r)(hg:Gl X x)(hm:X.mg x=yk)(hv:ud x=ya (.type T))(ha:PA X (e::es) t)(hn:x≠"__name__":=by decide)(hdb:(x==("__debug__" : Str))=yi:=by decide)
  (he:jh (e::es) X.env=(yi,eval e X.env)::jh es X.env:=by rfl) (hpl:(backTo pos (jh es X.env)).any (·.1)=yi:=by rfl):PE X (.Call (.Name x p) (e::es) [] pos) (tCB r t):=by
 intro pins s σ H Q I h;refine uy (zdb I hg hm hv ?_ hn hdb);exact jz (thn (ha pos pins s σ H _ I h) λus s1 ⟨vs,H1,I1,r1,q1⟩=>hc pins s1 σ H1 vs us Q I1 r1 q1) he hpl
end
end L2
namespace HT
open PySem PyProof.Rows
def lexLt:List Int->List Int->Bool
 | [],[]=>yi
 | [],_::_=>yl
 | _::_,[]=>yi
 | x::xs,y::ys=>if x=y then lexLt xs ys else decide (x<y)
theorem zlt(x y:Int)(xs ys:List Int):lexLt (x::xs) (y::ys)=if x=y then lexLt xs ys else decide (x<y):=rfl
theorem zfl:lexLt [] []=yi:=rfl
theorem zez(y:Int)(ys:List Int):lexLt [] (y::ys)=yl:=rfl
theorem zey(x:Int)(xs:List Int):lexLt (x::xs) []=yi:=rfl
theorem zjr(A:x5)(s:ym)(a:Int)(t:Tok)(c:Int)(u:Tok):∃e,SeqAt.EqAt A s (.int a t) (.int c u) e/\(e=yl↔a=c) :=
 ⟨(a==c),SeqAt.EqAt.int_int a t c u,by simp⟩
theorem zkc(A:x5)(s:ym)(a:Int)(t:Tok)(c:Int)(u:Tok)(prog:qw)(w:x8)(E:yh->ym->Prop)(Q:yh->ym->Prop)(h:Q (.bool (decide (a<c))) s) :
  y9 (model prog w) A (richCompare .Lt (.int a t) (.int c u)) Q E s :=
 (PyProof.Rows.lt_int h:y9 (model prog w) A (je .Lt (.int a t) (.int c u)) Q E s)
section
open PySem.SeqAt
open PySem.AutoSeq1 (wpAny_loadPart')
open PySem.MeetsSeq PySem.MeetsSeq2 PySem.MeetsSeq3
theorem zf5(l b:yq)(items items2:Array yh)(n n2:Nat)(dd dd2:Option yq)(sl sl2:Array (Option yh))(ns ms:List Int)(hi:wu items.toList ns)(hj:wu items2.toList ms) :
  Meets (Builtin.«tuple.__lt__» ⟨[.ref l,.ref b],[]⟩)
   (λ_ R s=>s.heap.get? l=ya { cls:=.type "tuple",dict:=dd,data:=.seq items n,slots:=sl}/\s.heap.get? b=ya { cls:=.type "tuple",dict:=dd2,data:=.seq items2 n2,slots:=sl2} /\
    R (.ok (.ret (.bool (lexLt ns ms)))) s) :=
 .of_wp λprog w A R s h=>by
  refine zKK λγ κ=>?_;obtain⟨hp,g,d,tk,os⟩:=s;obtain⟨hl,hb,h⟩:=h;have f2:=AutoSeq1.sub_tuple_tuple;refine κ ?_;have z1:items.size=ns.length:=by rw[← hi.length];simp
  have z2:items2.size=ms.length:=by rw[← hj.length];simp
  wp_walk using wpAny_loadPart' hl,wpAny_loadPart' hb,yby _ (λrest b s'=>b.1=yk/\s'=⟨hp,g,d,tk,os⟩/\∃(vs ws:List yh) (ns' ms':List Int),rest=vs.zip ws /\
   wu vs ns'/\wu ws ms'/\ns'.length+items2.size=ms'.length+items.size/\R (.ok (.ret (.bool (lexLt ns' ms')))) ⟨hp,g,d,tk,os⟩) _
  case turn =>
   intro ζ3 rest b s' ζ4;refine zKK λγ κ=>?_;obtain⟨y,x⟩:=ζ3;obtain⟨hb',rfl,vs,ws,ns',ms',hz,hvi,hwi,hlen,hR⟩:=ζ4;refine κ ?_;cases hvi with
   | nil=>rw[List.zip_nil_left]at hz;cases hz
   | cons a t hvi' =>
    cases hwi with
    | nil=>rw[List.zip_nil_right]at hz;cases hz
    | cons c u hwi' =>
     rw[ji]at hz;injection hz with hyx hrest
     injection hyx with hy hx
     subst hy hx;rw[zlt]at hR;simp only[qf]at hlen;obtain⟨e,he,hiff⟩:=zjr A.in1 ⟨hp,g,d,tk,os⟩ a t c u;refine yb (he prog w _ _ ?_);cases e with
     | true =>
      rw[if_pos (hiff.mp rfl)]at hR
      wp_walk
      exact⟨rfl,rfl,_,_,_,_,hrest,hvi',hwi',by lia,hR⟩
     | false =>
      rw[if_neg (λq=>absurd (hiff.mpr q) qc)]at hR;have hri:=zkc A.in1 ⟨hp,g,d,tk,os⟩ a t c u prog w
      wp_walk using hri
      exact⟨_,rfl,by simpa using hR⟩
  case fin =>
   rintro⟨b1,b2⟩ s' ⟨hb',rfl,vs,ws,ns',ms',hz,hvi,hwi,hlen,hR⟩;simp only at hb';subst hb'
   have hv:lexLt ns' ms'=decide (items.size<items2.size):=by
    cases hvi with
    | nil =>
     cases hwi with
     | nil =>
      simp only[j6]at hlen;rw[zfl];exact(decide_eq_false (by lia)).symm
     | cons c u hw =>
      simp only[j6,qf]at hlen;rw[zez];exact(decide_eq_true (by lia)).symm
    | cons a t hv =>
     cases hwi with
     | nil =>
      simp only[j6,qf]at hlen;rw[zey];exact(decide_eq_false (by lia)).symm
     | cons c u hw =>
      rw[ji]at hz;cases hz
   rw[hv]at hR
   wp_walk
   exact⟨_,rfl,by simpa[Builtin.Tuple.tupleCompareSizes]using hR⟩
  case h =>
   exact⟨rfl,rfl,items.toList,items2.toList,ns,ms,rfl,hi,hj,by lia,h⟩
end
section
variable {prog:qw} {w:x8} {A:x5} {E:yh→ym→Prop} {s:ym}
theorem zln{l b:yq}{items items2:Array yh}{ns ms:List Int}{Q:yh->ym->Prop}(hl:yah s.heap l items)(hb:yah s.heap b items2)(hi:wu items.toList ns)(hj:wu items2.toList ms)
  (hu:A.units<ju) (h:Q (.bool (lexLt ns ms)) s):y9 (model prog w) A (je .Lt (.ref l) (.ref b)) Q E s:=by
 refine zKK λγ κ=>?_;obtain⟨⟨cls,dd,data,sl⟩,ho,hc,n,hd⟩:=id hl;obtain⟨⟨cls2,dd2,data2,sl2⟩,ho2,hc2,n2,hd2⟩:=id hb;simp only at hc hd hc2 hd2;refine κ ?_;subst hc hd hc2 hd2
 exact richCompare_meets_room (op:=.Lt) ⟨_,ho,rfl⟩ ⟨_,ho2,rfl⟩ PySem.F.slot_tuple_lt PySem.F.entry_tuple_lt (PySem.F.args_tuple_lt_2 _ _) (zf5 l b items items2 n n2 dd dd2 sl sl2 ns ms hi hj)
  ⟨ho,ho2,show ybv (lexLt ns ms)≠Value.notImplemented/\Q (.bool (lexLt ns ms)) s from⟨(λx=>nomatch x),h⟩⟩ hu
theorem cat_tup{t b:yq}{vs ws:List yh}{Q:yh->ym->Prop}(ht:yah s.heap t vs.toArray)(hb:yah s.heap b ws.toArray)(hv:vs≠[])
  (h1:ws=[]->Q (.ref t) s) (h2:ws≠[]->Q (.ref s.heap.objs.size) { s with heap:=s.heap.push { cls:=.type "tuple",data:=.seq (vs++ws).toArray}})
  (hsz:vs.length+ws.length<=y8):y9 (model prog w) A (yai .Add (.ref t) (.ref b)) Q E s:=by
 refine zKK λγ κ=>?_;obtain⟨⟨cls,dd,data,sl⟩,ho,hc,n,hd⟩:=id ht;obtain⟨⟨cls2,dd2,data2,sl2⟩,ho2,hc2,n2,hd2⟩:=id hb;simp only at hc hd hc2 hd2;refine κ ?_;subst hc hd hc2 hd2;have e:vs.toArray++ws.toArray=(vs++ws).toArray:=by simp
 by_cases hw:ws=[]
 ·exact concat_meets ⟨_,ho,rfl⟩ ⟨_,ho2,rfl⟩ noFill_tuple_add seq_tuple_add ybf ya8 (yas _ _)
   (tuple_addW1 t b vs.toArray ws.toArray n n2 dd dd2 sl sl2 (by simpa using hv) (by simp[hw])) ⟨ho,ho2,h1 hw⟩
 ·refine concat_meets ⟨_,ho,rfl⟩ ⟨_,ho2,rfl⟩ noFill_tuple_add seq_tuple_add ybf ya8 (yas _ _)
   (tuple_addW2 t b vs.toArray ws.toArray n n2 dd dd2 sl sl2 (by simpa using hv) (by simpa using hw) (by rw[yt,yt];exact hsz)) ⟨ho,ho2,?_⟩
  rw[e];exact h2 hw
def sIx(n d:Nat):Option Int->Nat
 | none=>d
 | some v=>if v<0 then(v+(n:Int)).toNat else min v.toNat n
theorem zu3(n d:Nat)(hd:d<=n)(o:Option Int):sIx n d o<=n:=by
 cases o with
 | none=>exact hd
 | some v =>
  show(if v<0 then(v+(n:Int)).toNat else min v.toNat n)<=n;by_cases hv:v<0
  ·rw[if_pos hv];lia
  ·rw[if_neg hv];exact yer _ _
theorem zm8(v:Int)(n d:Nat):(if v<0 then max (v+(n:Int)) 0 else min v (n:Int))=((sIx n d (ya v):Nat):Int):=by
 show(if v<0 then max (v+(n:Int)) 0 else min v (n:Int))=(((if v<0 then(v+(n:Int)).toNat else min v.toNat n):Nat):Int);by_cases hv:v<0
 ·simp only[if_pos hv];lia
 ·simp only[if_neg hv];lia
theorem zli(lo hi:Option Int)(n:Nat):Builtin.Slice.sliceAdjust lo hi 1 (n:Int)=(((sIx n 0 lo:Nat):Int),((sIx n n hi:Nat):Int)):=by
 have h1:¬((1:Int)<0):=by lia
 unfold Builtin.Slice.sliceAdjust;simp only[h1,if_false];refine Prod.ext ?_ ?_
 ·cases lo with
  | none=>rfl
  | some v=>exact zm8 v n 0
 ·cases hi with
  | none=>rfl
  | some v=>exact zm8 v n n
theorem zlq(i j:Nat):Builtin.Slice.slicePlaces (i:Int) (j:Int) 1=j - i:=by
 unfold Builtin.Slice.slicePlaces;have h1:(1:Int)>0:=by lia
 simp only[h1,if_true,Int.ediv_one];split <;> lia
theorem ze3{v:yh}{o:Option Int}{Q:Option Int->ym->Prop}(p:IsPart v o)(h:Q o s):y9 (model prog w) A (Builtin.Slice.slicePartIndex v) Q E s:=by
 cases p with
 | none=>exact slicePart_none h
 | int i t=>exact slicePart_int h
theorem zbh{sl:yq}{vl vu:yh}{lo hi:Option Int}{n:Nat}{Q:Int×Int×Nat->ym->Prop}(hs:s.heap.IsSliceOf sl vl vu .none)(pl:IsPart vl lo)(pu:IsPart vu hi)
  (h:Q (((sIx n 0 lo:Nat):Int),1,sIx n n hi - sIx n 0 lo) s):y9 (model prog w) A (Builtin.Slice.sliceApplied (.ref sl) (pure (n:Int))) Q E s:=by
 obtain⟨os,hos,hcs,hds⟩:=id hs;unfold Builtin.Slice.sliceApplied Builtin.Slice.sliceFields;refine yb (yb (ui hos hds (x:=vl) rfl (yb (ui hos hds (x:=vu) rfl (yb (ui hos hds (x:=.none) rfl (yj ?_)))))));refine yb (slicePart_none ?_);show y9 _ _ (if((1:Int)==0)=yl then _ else _) _ _ s;rw[if_neg (by decide)];refine yb (ze3 pl (yb (ze3 pu (yb (yj ?_)))));show y9 _ _ (match Builtin.Slice.sliceAdjust lo hi 1 (n:Int)with | (lo,hi)=>pure (lo,(1:Int),Builtin.Slice.slicePlaces lo hi 1)) _ _ s;rw[zli lo hi n];show y9 _ _ (pure (((sIx n 0 lo:Nat):Int),(1:Int),Builtin.Slice.slicePlaces ((sIx n 0 lo:Nat):Int) ((sIx n n hi:Nat):Int) 1)) _ _ s;rw[zlq];exact yj h
theorem zqx(xs:Array yh)(i k:Nat):((q5 k).filterMap λ(m:Nat)=>xs[((i:Int)+(m:Int)*1).toNat]?).toArray=((xs.toList.drop i).take k).toArray:=by
 have e:(λ(m:Nat)=>xs[((i:Int)+(m:Int)*1).toNat]?)=λm=>xs[i+m]?:=by
  funext m;have:((i:Int)+(m:Int)*1).toNat=i+m:=by lia
  rw[this]
 rw[e];have:=pick_run xs i k;rw[List.filterMap_map]at this;have e2:((λx=>xs[x]?)∘λx=>i+x)=λm=>xs[i+m]?:=rfl
 rw[e2]at this;rw[this]
theorem zc8{t sl:yq}{items:Array yh}{vl vu:yh}{lo hi:Option Int}{Q:yh->ym->Prop}(ht:yah s.heap t items)(hs:s.heap.IsSliceOf sl vl vu .none)(pl:IsPart vl lo)(pu:IsPart vu hi)
  (hw:¬(sIx items.size 0 lo=0/\sIx items.size items.size hi=items.size))
  (h:Q (.ref s.heap.objs.size) { s with heap:=s.heap.push { cls:=.type "tuple",data:=.seq ((items.toList.drop (sIx items.size 0 lo)).take (sIx items.size items.size hi - sIx items.size 0 lo)).toArray}})
  (hsz:items.size<=y8):y9 (model prog w) A (ya1 (.ref t) (.ref sl)) Q E s:=by
 have htake:sizeOk (.seq ((items.toList.drop (sIx items.size 0 lo)).take (sIx items.size items.size hi - sIx items.size 0 lo)).toArray):=by
  show((items.toList.drop (sIx items.size 0 lo)).take (sIx items.size items.size hi - sIx items.size 0 lo)).toArray.size<=y8;rw[yt,x3,wk,qi];lia
 have hj:sIx items.size items.size hi<=items.size:=zu3 _ _ (y6 _) hi;obtain⟨os,hos,hcs,hds⟩:=id hs;have hTs:s.TypeIs (.ref sl) "slice":=⟨os,hos,hcs⟩;unfold ya1
 try with_reducible refine jw ?_
 first | refine yb (yj ?_) | skip
 refine yb (wpAny_sequenceKey ht.typeIs (by decide) ?_)
 refine yb (wpAny_callSpecial?_slot (name:=Str.ofString "__getitem__") ht.typeIs jj
  (x6 jj ht.typeIs entry_tuple_getitem ?_ (args_tuple_getitem _ _)))
 show y9 _ _ (Builtin.Tuple.tupleItemsOf (.ref t) >>= _) _ _ s;refine yb (tupleItemsOf_ ht ?_);refine yb (uj hTs ?_);rw[if_pos (by decide)];refine yb (zbh hs pl pu ?_)
 have hno:¬((((sIx items.size 0 lo:Nat):Int)==0&&(1:Int)==1&&(sIx items.size items.size hi - sIx items.size 0 lo)==items.size)=yl):=by
  intro q;rw[yr,yr]at q;have q1:((sIx items.size 0 lo:Nat):Int)=0:=eq_of_beq q.1.1;have q2:sIx items.size items.size hi - sIx items.size 0 lo=items.size:=eq_of_beq q.2;exact hw ⟨by lia,by lia⟩
 show y9 _ _ (if(((sIx items.size 0 lo:Nat):Int)==0&&(1:Int)==1&&(sIx items.size items.size hi - sIx items.size 0 lo)==items.size)=yl then _ else _) _ _ s;rw[if_neg hno,zqx]
 first
  | exact yb (m:=Builtin.Tuple.tupleExact _) (jc (yj ⟨_,rfl,yj h⟩) htake)
  | exact yb (m:=Builtin.Tuple.tupleExact _) (jc (yb (yj (yj ⟨_,rfl,yj h⟩))) htake)
  | exact yb (yb (m:=Builtin.Tuple.tupleExact _) (jc (yj (yj ⟨_,rfl,yj h⟩)) htake))
  | exact yb (yb (m:=Builtin.Tuple.tupleExact _) (jc (yj ⟨_,rfl,yj h⟩) htake))
end
end HT
namespace L2
open PySem PySem.Spec PyProof.Rows
abbrev TO:=St->Hp->(Option Int->Hp->Prop)->Prop
def PO(X:Cx)(e:Option Expr)(t:TO):Prop :=
 ∀(pins:List (yq×Obj)) (s:ym) (σ:St) (H:Hp) (Q:Option Int->Hp->Prop),Inv X pins σ H s->t σ H Q ->
  y9 (model X.prog X.w) X.A (evalPart e X.env) (λu s'=>∃o H',Inv X pins σ H' s'/\IsPart u o/\Q o H') X.xe s
def tNoPart:TO:=λ_ H Q=>Q yk H
def tPart(t:TE):TO:=λσ H Q=>t σ H λx H1=>∃i,x=.int i/\Q (ya i) H1
theorem zam{ns:List Int}:∀{us:List yh},Vals (ns.map V.int) us->wu us ns:=by
 induction ns with
 | nil=>intro us r;rw[yam]at r;cases r;exact .nil
 | cons n ns ih =>
  intro us r;rw[yo]at r;cases r with
  | cons r1 r2 =>
   obtain⟨t,e⟩:=r1;subst e;exact .cons n t (ih r2)
section
variable {X:Cx} {e:Expr} {te:TE} {lo hi:Option Expr} {tl th:TO} {pos p2:Pos}
theorem zta:PO X yk tNoPart:=by
 intro pins s σ H Q I h;rw[evalPart_none];exact yj ⟨yk,H,I,.none,h⟩
theorem zr4(h:PE X e te):PO X (ya e) (tPart te):=by
 intro pins s σ H Q I hw;rw[evalPart_some];refine thn (h pins s σ H _ I hw) λu s1 ζ=>?_;obtain⟨x,H1,I1,r1,q1⟩:=ζ
 obtain⟨i,rfl,q⟩:=q1;obtain⟨t,rfl⟩:=r1;exact⟨ya i,H1,I1,.int i t,q⟩
def SlR(X:Cx)(r:V->Option Int->Option Int->Hp->VK->Prop):Prop :=
 ∀(pins:List (yq×Obj)) (s:ym) (σ:St) (H:Hp) (x:V) (v vl vu:yh) (lo hi:Option Int) (sl:yq) (Q:VK),Inv X pins σ H s->RelV x v->s.heap.IsSliceOf sl vl vu .none->IsPart vl lo->IsPart vu hi->r x lo hi H Q ->
  ∃T id,typeLookup (.type T) "__getitem__" = pure (ya (.builtin id))/\s.TypeIs v T/\y9 (model X.prog X.w) X.A (ya1 v (.ref sl)) (EP X pins σ Q) X.xe s
def tSl(r:V->Option Int->Option Int->Hp->VK->Prop)(te:TE)(tl th:TO):TE:=λσ H Q=>te σ H λx H1=>tl σ H1 λl H2=>th σ H2 λu H3=>r x l u H3 Q
theorem zpp{r:V->Option Int->Option Int->Hp->VK->Prop}(hr:SlR X r)(he:PE X e te)(hl:PO X lo tl)(hu:PO X hi th):PE X (.Subscript e (.Slice lo hi yk p2) pos) (tSl r te tl th):=by
 intro pins s σ H Q I h;refine Subscript_ (thn (he pins s σ H _ I h) λv s1 ζ=>?_);obtain⟨x,H1,I1,r1,q1⟩:=ζ;refine wpAny_Slice (thn (hl pins s1 σ H1 _ I1 q1) λvl s2 ⟨l,H2,I2,pl,q2⟩=>thn (hu pins s2 σ H2 _ I2 q2) λvu s3 ζ=>?_);obtain⟨u,H3,I3,pu,q3⟩:=ζ;rw[evalPart_none];refine yj ?_;have I4:Inv X pins σ H3 { s3 with heap:=s3.heap.push { cls:=.type "slice",data:=.fields #[vl,vu,.none]}}:=I3.kept (t':=s3.toks) λb ob q=>yp _ q
 obtain⟨T,id,hT,ht,hg⟩:=hr pins { s3 with heap:=s3.heap.push { cls:=.type "slice",data:=.fields #[vl,vu,.none]}} σ H3 x v vl vu l u s3.heap.objs.size Q I4 r1 (Heap.IsSliceOf.new ..) pl pu q3;show y9 (model X.prog X.w) X.A (yb2 e (.Slice lo hi yk p2) v (.ref s3.heap.objs.size)) (EP X pins σ Q) X.xe { s3 with heap:=s3.heap.push { cls:=.type "slice",data:=.fields #[vl,vu,.none]}};exact tail_any (ops:=[.ref s3.heap.objs.size,v]) ht hT hg (by with_unfolding_all rfl)
def cutV(xs:List V)(lo hi:Option Int):List V:=(xs.drop (HT.sIx xs.length 0 lo)).take (HT.sIx xs.length xs.length hi - HT.sIx xs.length 0 lo)
theorem zei(xs:List V)(lo hi:Option Int):(cutV xs lo hi).length<=xs.length:=by
 unfold cutV;rw[x3,wk];lia
def rSlT(K:Frag):V->Option Int->Option Int->Hp->VK->Prop:=λx lo hi H Q=>∃a xs,x=.ref a/\SqT K H a xs /\
 ¬(HT.sIx xs.length 0 lo=0/\HT.sIx xs.length xs.length hi=xs.length)/\∀p,H p=yk->Q (.ref p) (upd H p (.tup (cutV xs lo hi)))
theorem zup:SlR X (rSlT X.K):=by
 intro pins s σ H x v vl vu lo hi sl Q I rx hs pl pu h;refine zKK λγ κ=>?_;obtain⟨a,xs,rfl,hx,hw,q⟩:=h;cases rx;obtain⟨its,r,ht,hz⟩:=I.tuple hx;refine κ ?_;have hlen:its.toArray.size=xs.length:=by rw[yt];exact r.length.symm
 refine⟨"tuple",_,jj.lookup,ht.typeIs,?_⟩;refine HT.zc8 ht hs pl pu (by rw[hlen];exact hw) ?_ (by rw[hlen];exact hz);rw[hlen];refine⟨.ref s.heap.objs.size,_,I.laid (t':=s.toks) (o:=.tup (cutV xs lo hi)) (λb ob q=>yp _ q) (y6 _) ?_,rfl,q _ (I.hok.fresh (y6 _))⟩;exact⟨xh (zei xs lo hi) hz,_,(r.drop (HT.sIx xs.length 0 lo)).take (HT.sIx xs.length xs.length hi - HT.sIx xs.length 0 lo),IsTupN.new _ _⟩
def rLtT(K:Frag):R2:=λx y H Q=>∃a b ns ms,x=.ref a/\y=.ref b/\SqT K H a (ns.map V.int)/\SqT K H b (ms.map V.int)/\Q (.bl (HT.lexLt ns ms)) H
theorem zuk(hu:X.A.units<ju):OpR X (je .Lt) (rLtT X.K):=by
 intro pins s σ H x y v u Q I rx ry h;refine zKK λγ κ=>?_;obtain⟨a,b,ns,ms,rfl,rfl,ha,hb,q⟩:=h;cases rx;cases ry;obtain⟨its,r1,p1,_⟩:=I.tuple ha;obtain⟨its2,r2,p2,_⟩:=I.tuple hb;have i1:wu its.toArray.toList ns:=zam r1;have i2:wu its2.toArray.toList ms:=zam r2;refine κ ?_;exact HT.zln p1 p2 i1 i2 hu ⟨.bl (HT.lexLt ns ms),H,I,rfl,q⟩
def rCatT(K:Frag):R2:=λx y H Q=>∃a b xs ys,x=.ref a/\y=.ref b/\SqT K H a xs/\SqT K H b ys/\xs≠[]/\xs.length+ys.length<=y8 /\
 (ys=[]->Q (.ref a) H)/\(ys≠[]->∀p,H p=yk->Q (.ref p) (upd H p (.tup (xs++ys))))
theorem Vals.nil_iff{xs:List V}{us:List yh}(r:Vals xs us):us=[]↔xs=[]:=by
 cases r with
 | nil=>simp
 | cons _ _=>simp
theorem zs3:OpR X (yai .Add) (rCatT X.K):=by
 intro pins s σ H x y v u Q I rx ry h;refine zKK λγ κ=>?_;obtain⟨a,b,xs,ys,rfl,rfl,ha,hb,hx,hz,q1,q2⟩:=h;cases rx;cases ry;obtain⟨its,r1,p1,_⟩:=I.tuple ha;obtain⟨its2,r2,p2,_⟩:=I.tuple hb;refine κ ?_;refine HT.cat_tup p1 p2 (λz=>hx (r1.nil_iff.mp z)) (λz=>⟨.ref a,H,I,rfl,q1 (r2.nil_iff.mp z)⟩) (λz=>?_) (by rw[← r1.length,← r2.length];exact hz);refine⟨.ref s.heap.objs.size,_,I.laid (t':=s.toks) (o:=.tup (xs++ys)) (λb ob q=>yp _ q) (y6 _) ?_,rfl,q2 (λw=>z (r2.nil_iff.mpr w)) _ (I.hok.fresh (y6 _))⟩;exact⟨by rw[yu];exact hz,_,r1.append r2,IsTupN.new _ _⟩
end
def ixN(n:Nat)(i:Int):Option Nat:=if 0<=i then(if i<n then ya i.toNat else yk)else if -(n:Int)<=i then ya (i+n).toNat else yk
def atI{α:Type}(xs:List α)(i:Int):Option α:=(ixN xs.length i).bind λj=>xs[j]?
theorem zog{n:Nat}{i:Int}{j:Nat}(h:ixN n i=ya j):seqIndex? i n=ya j/\j<n/\-(n:Int)<=i/\i<n:=by
 unfold ixN at h;by_cases h0:0<=i
 ·rw[if_pos h0]at h
  by_cases h1:i<n
  ·rw[if_pos h1]at h
   have e:i.toNat=j:=qh h;exact⟨by rw[seqIndex_of h0 h1,e],by lia,by lia,h1⟩
  ·rw[if_neg h1]at h;cases h
 ·rw[if_neg h0]at h
  by_cases h1:-(n:Int)<=i
  ·rw[if_pos h1]at h
   have e:(i+n).toNat=j:=qh h;exact⟨by rw[seqIndex_neg (by lia) h1,e],by lia,h1,by lia⟩
  ·rw[if_neg h1]at h;cases h
theorem zow{α:Type}{xs:List α}{i:Int}{v:α}(h:atI xs i=ya v):∃j,seqIndex? i xs.length=ya j/\xs[j]? = ya v/\j<xs.length/\-(xs.length:Int)<=i/\i<xs.length:=by
 unfold atI at h;cases e:ixN xs.length i with
 | none=>rw[e]at h;cases h
 | some j =>
  rw[e]at h;obtain⟨h1,h2,h3,h4⟩:=zog e;exact⟨j,h1,h,h2,h3,h4⟩
def PlainIx(b:Expr):Prop:=∀o i,subscripted b yi o i=operate [o,i] (ya1 o i)
def IxR(X:Cx)(r:R2):Prop :=
 ∀(value slice:Expr) (pins:List (yq×Obj)) (s:ym) (σ:St) (H:Hp) (x y:V) (v u:yh) (Q:VK),Inv X pins σ H s->RelV x v->RelV y u->r x y H Q ->
  subscripted slice yi v u=operate [v,u] (ya1 v u)->y9 (model X.prog X.w) X.A (yb2 value slice v u) (EP X pins σ Q) X.xe s
def MtR(X:Cx)(id:String)(r:V->List V->Hp->VK->Prop):Prop :=
 ∀(pins:List (yq×Obj)) (s:ym) (σ:St) (H:Hp) (x:V) (xs:List V) (v:yh) (us:List yh) (Q:VK),Inv X pins σ H s->RelV x v->Vals xs us->r x xs H Q ->
  y9 (model X.prog X.w) X.A (call (.builtin id) (v::us)) (EP X pins σ Q) X.xe s
section
variable {X:Cx} {a b:Expr} {ta tb:TE} {pos:Pos}
theorem zxe{r:R2}(hr:IxR X r)(ha:PE X a ta)(hb:PE X b tb)(hs:PlainIx b):PE X (.Subscript a b pos) (tOp r ta tb):=by
 intro pins s σ H Q I h;exact Subscript_ (binT ha hb I h λv u s2 x y H2 I2 rx ry q=>hr a b pins s2 σ H2 x y v u Q I2 rx ry q (hs _ _))
def rIxL(K:Frag):R2:=λx y H Q=>∃p xs i v,x=.ref p/\y=.int i/\SqL K H p xs/\atI xs i=ya v/\Q v H
def rIxT(K:Frag):R2:=λx y H Q=>∃p xs i v,x=.ref p/\y=.int i/\SqT K H p xs/\atI xs i=ya v/\Q v H
theorem zsz:IxR X (rIxL X.K):=by
 intro value slice pins s σ H x y v u Q I rx ry h hs;refine zKK λγ κ=>?_;obtain⟨p,xs,i,z,rfl,rfl,hq,he,q⟩:=h;cases rx;obtain⟨t,rfl⟩:=ry;obtain⟨its,r,pl,hz⟩:=I.list hq;obtain⟨j,h1,h2,h3,h4,h5⟩:=zow he;obtain⟨w,ew,rw'⟩:=r.get h2;have hl:=r.length;have hn:=line63;have fin:EP X pins σ Q w s:=⟨z,H,I,rw',q⟩;refine κ ?_;by_cases h0:0<=i
 ·have hj:i.toNat=j:=by
   rw[seqIndex_of h0 h5]at h1;exact qh h1
  exact item_listR pl.isList h0 (by lia) (by rw[hj];simpa using ew) fin hs
 ·have hj:(i+(its.toArray.size:Int)).toNat=j:=by
   rw[seqIndex_neg (by lia) h4]at h1;rw[yt,← hl];exact qh h1
  exact subscriptTail_builtinR (x:=w) pl.isList.typeIs slot_list_getitem.lookup
   (wpAny_getItem_list_neg (Q:=λr s'=>r=w/\EP X pins σ Q r s') pl.isList (by lia) (by rw[yt] <;> lia) (by lia) (by rw[hj];simpa using ew) ⟨rfl,fin⟩) hs
theorem zwb:IxR X (rIxT X.K):=by
 intro value slice pins s σ H x y v u Q I rx ry h hs;obtain⟨p,xs,i,z,rfl,rfl,hq,he,q⟩:=h;cases rx;obtain⟨t,rfl⟩:=ry;obtain⟨its,r,pl,hz⟩:=I.tuple hq;obtain⟨j,h1,h2,h3,h4,h5⟩:=zow he;obtain⟨w,ew,rw'⟩:=r.get h2;have hl:=r.length;have hn:=line63;have fin:EP X pins σ Q w s:=⟨z,H,I,rw',q⟩
 exact subscriptTail_builtinR (x:=w) pl.typeIs yco.lookup
  (getItem_tuple (j:=j) (Q:=λr s'=>r=w/\EP X pins σ Q r s') pl (by lia) (by lia) (by rw[yt,← hl];exact h1) (by simpa using ew) ⟨rfl,fin⟩) hs
theorem zgu(lo hi:Option Int)(n:Nat):(ybd lo hi yk n).1=((HT.sIx n 0 lo:Nat):Int)/\(ybd lo hi yk n).2.1=((HT.sIx n n hi:Nat):Int)/\(ybd lo hi yk n).2.2=1:=by
 refine⟨?_,?_,rfl⟩
 ·cases lo with
  | none=>simp[ybd,HT.sIx]
  | some i =>
   simp only[ybd,HT.sIx,yes,show(1:Int)>0 by decide,if_true];by_cases h:i<0
   ·simp only[h,if_true] <;> lia
   ·simp only[h,if_false] <;> lia
 ·cases hi with
  | none=>simp[ybd,HT.sIx]
  | some i =>
   simp only[ybd,HT.sIx,yes,show(1:Int)>0 by decide,if_true];by_cases h:i<0
   ·simp only[h,if_true] <;> lia
   ·simp only[h,if_false] <;> lia
theorem zf3(its:List yh)(lo hi:Option Int):slicePick its.toArray lo hi yk=((its.drop (HT.sIx its.length 0 lo)).take (HT.sIx its.length its.length hi - HT.sIx its.length 0 lo)).toArray:=by
 obtain⟨h1,h2,h3⟩:=zgu lo hi its.toArray.size;unfold slicePick;rw[h1,h2,h3];simp only[sliceRange_one,pick_run,yt] <;> rfl
def rSlL(K:Frag):V->Option Int->Option Int->Hp->VK->Prop:=λx lo hi H Q=>∃a xs,x=.ref a/\SqL K H a xs/\∀p,H p=yk->Q (.ref p) (upd H p (.lst (cutV xs lo hi)))
theorem zsu:SlR X (rSlL X.K):=by
 intro pins s σ H x v vl vu lo hi sl Q I rx hs pl pu h;refine zKK λγ κ=>?_;obtain⟨a,xs,rfl,hx,q⟩:=h;cases rx;obtain⟨its,r,ht,hz⟩:=I.list hx;have hlen:=r.length;refine κ ?_;refine⟨"list",_,slot_list_getitem.lookup,ht.isList.typeIs,?_⟩;refine wpAny_getItem_list_slice ht.isList hs pl pu .none (by simp) ?_ (by rw[yt] <;> lia);rw[zf3,← hlen];refine⟨.ref s.heap.objs.size,_,I.laid (t':=s.toks) (o:=.lst (cutV xs lo hi)) (λb ob q=>yp _ q) (y6 _) ?_,rfl,q _ (I.hok.fresh (y6 _))⟩;exact⟨xh (zei xs lo hi) hz,_,0,(r.drop (HT.sIx xs.length 0 lo)).take (HT.sIx xs.length xs.length hi - HT.sIx xs.length 0 lo),y4 _ rfl⟩
def flatV:V->Bool
 | .non=>yl
 | .bl _=>yl
 | .int _=>yl
 | .str _=>yl
 | _=>yi
def eqV:V->V->Bool
 | .non,.non=>yl
 | .bl a,.bl b=>a==b
 | .bl a,.int b=>(if a then 1 else 0)==b
 | .int a,.bl b=>a==(if b then 1 else 0)
 | .int a,.int b=>a==b
 | .str a,.str b=>a==b
 | _,_=>yi
theorem zu6{A:x5}{s:ym}{y x:V}{u v:yh}(ry:RelV y u)(rx:RelV x v)(fy:flatV y=yl)(fx:flatV x=yl):SeqAt.EqAt A s u v (eqV y x):=by
 cases y with
 | non =>
  cases ry;cases x with
  | non=>cases rx;exact SeqAt.EqAt.same _
  | bl b=>cases rx;exact SeqAt.EqAt.none_bool b
  | int b=>obtain⟨t,rfl⟩:=rx;exact SeqAt.EqAt.none_int b t
  | str b=>obtain⟨t,rfl⟩:=rx;exact SeqAt.EqAt.none_str b t
  | _=>exact absurd (show yi=yl from fx) qc
 | bl a =>
  cases ry;cases x with
  | non=>cases rx;exact SeqAt.EqAt.bool_none a
  | bl b=>cases rx;exact SeqAt.EqAt.bool_bool a b
  | int b=>obtain⟨t,rfl⟩:=rx;exact SeqAt.EqAt.bool_int a b t
  | str b=>obtain⟨t,rfl⟩:=rx;exact SeqAt.EqAt.bool_str a b t
  | _=>exact absurd (show yi=yl from fx) qc
 | int a =>
  obtain⟨t',rfl⟩:=ry;cases x with
  | non=>cases rx;exact SeqAt.EqAt.int_none a t'
  | bl b=>cases rx;exact SeqAt.EqAt.int_bool a t' b
  | int b=>obtain⟨t,rfl⟩:=rx;exact SeqAt.EqAt.int_int a t' b t
  | str b=>obtain⟨t,rfl⟩:=rx;exact SeqAt.EqAt.int_str a t' b t
  | _=>exact absurd (show yi=yl from fx) qc
 | str a =>
  obtain⟨t',rfl⟩:=ry;cases x with
  | non=>cases rx;exact SeqAt.EqAt.str_none a t'
  | bl b=>cases rx;exact SeqAt.EqAt.str_bool a t' b
  | int b=>obtain⟨t,rfl⟩:=rx;exact SeqAt.EqAt.str_int a t' b t
  | str b=>obtain⟨t,rfl⟩:=rx;exact SeqAt.EqAt.str_str a t' b t
  | _=>exact absurd (show yi=yl from fx) qc
 | _=>exact absurd (show yi=yl from fy) qc
theorem zdc:CallR X (.builtin "len") (λxs H Q=>∃p ys,xs=[.ref p]/\(SqL X.K H p ys\/SqT X.K H p ys)/\Q (.int ys.length) H):=by
 intro pins s σ H xs us Q I r h;refine zKK λγ κ=>?_;obtain⟨p,ys,rfl,hq,q⟩:=h;obtain⟨u,rfl,rx⟩:=vals1 r;cases rx;have hn:=line63;refine κ ?_;rcases hq with hq | hq
 ·obtain⟨its,r',pl,hz⟩:=I.list hq
  have hlen:=r'.length;exact Calls.call_len_list pl.isList (by simp only[yt] <;> lia) ⟨.int ys.length,H,I.tok _,⟨s.toks+1,by rw[yt,hlen]⟩,q⟩
 ·obtain⟨its,r',pl,hz⟩:=I.tuple hq
  have hlen:=r'.length;exact len_tuple pl (by simp only[yt] <;> lia) ⟨.int ys.length,H,I.tok _,⟨s.toks+1,by rw[yt,hlen]⟩,q⟩
theorem zg1:CallR X (.builtin "len") (λxs H Q=>∃z,xs=[.str z]/\z.length<=y8/\Q (.int z.length) H):=by
 intro pins s σ H xs us Q I r h;obtain⟨z,rfl,hz,q⟩:=h;obtain⟨u,rfl,t,rfl⟩:=vals1 r;have hn:=line63;exact len_str (by lia) ⟨.int z.length,H,I.tok _,⟨_,rfl⟩,q⟩
theorem zda:CallR X (.type "list") (λxs H Q=>∃p ys,xs=[.ref p]/\(SqL X.K H p ys\/SqT X.K H p ys)/\∀l,H l=yk->Q (.ref l) (upd H l (.lst ys))):=by
 intro pins s σ H xs us Q I r h;obtain⟨p,ys,rfl,hq,q⟩:=h;obtain⟨u,rfl,rx⟩:=vals1 r;cases rx
 have fin:∀(its:List yh),Vals ys its->ys.length<=y8->∀(h':Heap) (c':Nat),(∀b o',s.heap.get? b=ya o'->h'.get? b=ya o') ->
   h'.get? s.heap.objs.size=ya { cls:=.type "list",dict:=yk,data:=.seq its.toArray c',slots:=#[]}->EP X pins σ Q (.ref s.heap.objs.size) { s with heap:=h'}:=λits r' hz h' c' kp e =>
  ⟨.ref s.heap.objs.size,_,I.laid (t':=s.toks) kp (y6 _) (show ObjOk X.prog X.w _ h' _ (.lst ys)from⟨hz,its,c',r',e⟩),rfl,q _ (I.hok.fresh (y6 _))⟩
 rcases hq with hq | hq
 ·obtain⟨its,r',pl,hz⟩:=I.list hq
  have hlen:=r'.length;refine zKK λγ κ=>?_;obtain⟨o,ho,hc,n,hd⟩:=pl.isList;refine κ ?_;exact call_list_seq p (.inl rfl) ho hc hd (λh' c' kp e=>fin its r' hz h' c' kp e) (by simp only[yt] <;> lia)
 ·obtain⟨its,r',pl,hz⟩:=I.tuple hq
  have hlen:=r'.length;refine zKK λγ κ=>?_;obtain⟨o,ho,hc,n,hd⟩:=pl;refine κ ?_;exact call_list_seq p (.inr rfl) ho hc hd (λh' c' kp e=>fin its r' hz h' c' kp e) (by simp only[yt] <;> lia)
theorem zcn:CallR X (.type "tuple") (λxs H Q=>∃p ys,xs=[.ref p]/\((SqL X.K H p ys/\∀l,H l=yk->Q (.ref l) (upd H l (.tup ys)))\/(SqT X.K H p ys/\Q (.ref p) H))):=by
 intro pins s σ H xs us Q I r h;obtain⟨p,ys,rfl,h⟩:=h;obtain⟨u,rfl,rx⟩:=vals1 r;cases rx;rcases h with⟨hq,q⟩ | ⟨hq,q⟩
 ·obtain⟨its,r',pl,hz⟩:=I.list hq
  have hlen:=r'.length;refine call_tuple_list pl.isList (λh' kp=>?_) (by simp only[yt] <;> lia);have I1:Inv X pins σ H { s with heap:=h'}:=I.kept (t':=s.toks) kp
  have I2:Inv X pins σ (upd H h'.objs.size (.tup ys)) { s with heap:=h'.push { cls:=.type "tuple",data:=.seq its.toArray}} :=
   I1.laid (t':=s.toks) (λb o e=>yp _ e) (y6 _) (show ObjOk X.prog X.w _ _ _ (.tup ys)from⟨hz,its,r',IsTupN.new _ _⟩)
  exact⟨.ref h'.objs.size,_,I2,rfl,q _ (I1.hok.fresh (y6 _))⟩
 ·obtain⟨its,r',pl,hz⟩:=I.tuple hq
  exact call_tuple_same pl ⟨.ref p,H,I,rfl,q⟩
def tyV(K:Frag)(T:String)(x:V)(H:Hp):Prop:=match x with
 | .str _=>T = "str"
 | .int _=>T = "int"
 | .ref p=>(T = "list"/\∃xs,SqL K H p xs)\/(T = "tuple"/\∃o,K.lookup p=ya o/\o.cls=.type "tuple"/\o.dict=yk) \/
   (T = "dict"/\((∃kvs,H p=ya (.dK kvs))\/∃kvs,H p=ya (.dT kvs)))\/(T = "set"/\∃S n,H p=ya (.set S n))
 | _=>False
theorem zrh{pins:List (yq×Obj)}{σ:St}{H:Hp}{s:ym}{T:String}{x:V}{v:yh}(I:Inv X pins σ H s)(r:RelV x v)(ty:tyV X.K T x H) :
  s.TypeIs v T/\∀a,v=.ref a->∃ob,s.heap.get? a=ya ob/\ob.dict=yk:=by
 cases x with
 | str z =>
  obtain⟨t,rfl⟩:=r;cases(show T = "str" from ty);exact⟨typeIs_str s z t,λ_ e=>nomatch e⟩
 | int i =>
  obtain⟨t,rfl⟩:=r;cases(show T = "int" from ty);exact⟨typeIs_int s i t,λ_ e=>nomatch e⟩
 | ref p =>
  cases r;rcases ty with⟨rfl,xs,hq⟩ | ⟨rfl,o,hk,hc,hd⟩ | ⟨rfl,hk⟩ | ⟨rfl,S,n,hk⟩
  ·obtain⟨its,_,pl,_⟩:=I.list hq
   refine⟨pl.isList.typeIs,λa e=>?_⟩;cases e;obtain⟨o,n,e,c,hd,_⟩:=pl;exact⟨o,e,hd⟩
  ·refine⟨⟨o,I.kIn p o hk,hc⟩,λa e=>?_⟩
   cases e;exact⟨o,I.kIn _ o hk,hd⟩
  ·have z:∃o,s.heap.get? p=ya o/\o.ExactDict:=by
    rcases hk with⟨kvs,hk⟩ | ⟨kvs,hk⟩
    ·obtain⟨_,_,_,_,o,_,_,e,ex,_⟩:=I.hok p _ hk
     exact⟨o,e,ex⟩
    ·obtain⟨_,_,_,_,o,_,_,e,ex,_⟩:=I.hok p _ hk
     exact⟨o,e,ex⟩
   obtain⟨o,e,ex⟩:=z;refine⟨⟨o,e,ex.1⟩,λa e2=>?_⟩;cases e2;exact⟨o,e,ex.2.1⟩
  ·obtain⟨o,_,_,_,e,ex,_⟩:=I.hok p _ hk
   refine⟨⟨o,e,ex.1⟩,λa e2=>?_⟩;cases e2;exact⟨o,e,ex.2.1⟩
 | _=>exact False.elim ty
def tBM0(K:Frag)(T:String)(r:V->List V->Hp->VK->Prop)(to:TE):TE:=λσ H Q=>to σ H λx H1=>tyV K T x H1/\r x [] H1 Q
def tBM(K:Frag)(T:String)(r:V->List V->Hp->VK->Prop)(to:TE)(t:TA):TE:=λσ H Q=>to σ H λx H1=>tyV K T x H1/\t σ H1 λxs H2=>r x xs H2 Q
variable {o e:Expr} {es:List Expr} {to:TE} {t:TA} {name:Str} {apos cpos:Pos} {T id:String} {r:V→List V→Hp→VK→Prop}
theorem zvi(pa:PlainAttrs T)(slot:Slot T name id)(hty:typeOf (.builtin id)=pure (.type "method_descriptor"))(hm:MtR X id r)(ho:PE X o to)
  (hbase:attributeBase o name X.env (eval o X.env)=eval o X.env:=by rfl) (hline:(apos.endLine==cpos.line)=yl:=by rfl):PE X (.Call (.Attribute o name apos) [] [] cpos) (tBM0 X.K T r to):=by
 intro pins s σ H Q I h;refine wpAny_Call_method0_late hbase hline (thn (ho pins s σ H _ I h) λv s1 ζ=>?_);obtain⟨x,H1,I1,r1,ty,q1⟩:=ζ;obtain⟨h1,h2⟩:=zrh I1 r1 ty;exact⟨T,id,pa,slot,hty,h1,h2,Calls.callWith_builtin rfl (PySem.evalArgs_none (hm pins s1 σ H1 x [] v [] Q I1 r1 .nil q1))⟩
theorem zpn(pa:PlainAttrs T)(slot:Slot T name id)(hty:typeOf (.builtin id)=pure (.type "method_descriptor"))(hm:MtR X id r)(ho:PE X o to)(ha:PA X (e::es) t)
  (hbase:attributeBase o name X.env (eval o X.env)=eval o X.env:=by rfl)
  (hfew:((backTo cpos (jh (e::es) X.env)).all (λx=>!x.1)&&(backToKw cpos (keywordEach [] X.env)).all (λx=>x.1.isSome)
   && decide ((e::es).length+([]:List Keyword).length+(if([]:List Keyword).isEmpty then 0 else 1)<30))=yl:=by rfl)
  (hline:(apos.endLine==cpos.line)=yl:=by rfl) (hs:jh (e::es) X.env=(yi,eval e X.env)::jh es X.env:=by rfl) (hplain:(backTo cpos (jh es X.env)).any (·.1)=yi:=by rfl) :
  PE X (.Call (.Attribute o name apos) (e::es) [] cpos) (tBM X.K T r to t):=by
 intro pins s σ H Q I h;refine wpAny_Call_method_late hbase hfew hline rfl (thn (ho pins s σ H _ I h) λv s1 ζ=>?_);obtain⟨x,H1,I1,r1,ty,q1⟩:=ζ;obtain⟨h1,h2⟩:=zrh I1 r1 ty;refine⟨T,id,pa,slot,hty,h1,h2,?_⟩;have hA:=ha cpos pins s1 σ H1 _ I1 q1;rw[hs]at hA ⊢;refine Calls.callWith_builtin (by show(yi||(backTo cpos (jh es X.env)).any (·.1))=yi;rw[hplain] <;> rfl) (Calls.evalArgs_plain ?_);exact thn hA λus s2 ⟨vs,H2,I2,r2,q2⟩=>hm pins s2 σ H2 x vs v us Q I2 r1 r2 q2
/- xs.append(e),list.index on a module's tuple .. are MtR facts of 06m -/
end
def MtM(X:Cx)(id:String)(r:V->List V->Hp->VK->Prop):Prop :=
 ∀(pins:List (yq×Obj)) (s:ym) (σ:St) (H:Hp) (x:V) (xs:List V) (v:yh) (us:List yh) (Q:VK),Inv X pins σ H s->RelV x v->Vals xs us->r x xs H Q ->
  y9 (model X.prog X.w) X.A (call (.builtin id) (v::us)) (EP X pins σ Q) X.xe s
theorem Vals.one{x:V}{us:List yh}(h:Vals [x] us):∃u,us=[u]/\RelV x u:=by
 cases h with
 | cons r h=>cases h;exact⟨_,rfl,r⟩
theorem Vals.two{x y:V}{us:List yh}(h:Vals [x,y] us):∃u v,us=[u,v]/\RelV x u/\RelV y v:=by
 cases h with
 | cons r h=>cases h with
  | cons q h=>cases h;exact⟨_,_,rfl,r,q⟩
theorem Vals.zero:∀{us:List yh},Vals [] us->us=[]
 | _,.nil=>rfl
theorem Vals.dropLast{xs:List V}{us:List yh}(h:Vals xs us):Vals xs.dropLast us.dropLast:=by
 induction h with
 | nil=>exact .nil
 | cons r t ih =>
  cases t with
  | nil=>exact .nil
  | cons q t'=>exact .cons r ih
theorem Vals.eraseIdx:∀{xs:List V} {us:List yh} (i:Nat),Vals xs us->Vals (xs.eraseIdx i) (us.eraseIdx i)
 | _,_,_,.nil=>.nil
 | _,_,0,.cons _ t=>t
 | _,_,i+1,.cons r t=>.cons r (Vals.eraseIdx i t)
theorem zlk{α:Type}(l:List α):l.eraseIdx (l.length - 1)=l.dropLast:=by
 induction l with
 | nil=>rfl
 | cons a r ih =>
  cases r with
  | nil=>rfl
  | cons b r =>
   have e:(a::b::r).length - 1=((b::r).length - 1)+1:=by
    have h1:(a::b::r).length=r.length+2:=rfl;have h2:(b::r).length=r.length+1:=rfl;lia
   rw[e,yda,ih];all_goals rfl
theorem zg3{α:Type}:∀(l:List α) (i:Nat),(l.eraseIdx i).length<=l.length
 | [],_=>y6 _
 | _::_,0=>ya9 _
 | _::r,i+1=>Nat.succ_le_succ (zg3 r i)
section
variable {X:Cx} {pins:List (yq×Obj)} {σ:St} {H:Hp} {s:ym} {l b:yq} {xs ys zs:List V}
theorem Inv.lset{its its':List yh}{n:Nat}{f:Array yh->Array yh}{t':Nat}(I:Inv X pins σ H s)(hH:H l=ya (.lst xs))
  (e:s.heap.get? l=ya { cls:=.type "list",data:=.seq its.toArray n}) (hf:f its.toArray=its'.toArray) (hv:Vals ys its') (hz:ys.length<=y8) :
  Inv X pins σ (upd H l (.lst ys)) { s with heap:=s.heap.update l (Obj.mapSeq f),toks:=t'}:=by
 have q:=PySem.IsL.update e f;rw[hf]at q;refine I.write (x:=l) (e:=l) (by rw[hH];exact trivial) (.inl rfl) (λb' u hb hu=>(ybg s.heap (Obj.mapSeq f) (xg hb)).trans hu) ⟨_,q⟩ ?_;exact⟨hz,its',_,hv,q⟩
theorem Inv.lnew{its:List yh}{t':Nat}(I:Inv X pins σ H s)(hv:Vals ys its)(hz:ys.length<=y8) :
  Inv X pins σ (upd H s.heap.objs.size (.lst ys)) { s with heap:=s.heap.push { cls:=.type "list",data:=.seq its.toArray},toks:=t'} :=
 I.laid (λ_ _ q=>yp _ q) (y6 _) ⟨hz,its,0,hv,y4 _ rfl⟩
theorem Inv.fresh(I:Inv X pins σ H s):H s.heap.objs.size=yk:=I.hok.fresh (y6 _)
theorem Inv.lstM(I:Inv X pins σ H s)(hH:H l=ya (.lst xs)):xs.length<=y8/\∃(its:List yh) (n:Nat),Vals xs its/\xs.length=its.length/\s.heap.get? l=ya { cls:=.type "list",data:=.seq its.toArray n}:=by
 refine zKK λγ κ=>?_;obtain⟨z,its,n,r,e⟩:=I.hok l _ hH;refine κ ?_;exact⟨z,its,n,r,r.length,e⟩
theorem notLongL{n:Nat}(h:n<=y8):Builtin.List.listTooLong n=yi:=by
 unfold Builtin.List.listTooLong;exact decide_eq_false (by lia)
end
section
variable {X:Cx}
def rAppend:V->List V->Hp->VK->Prop:=λx vs H Q=>∃l xs y,x=.ref l/\vs=[y]/\H l=ya (.lst xs)/\xs.length<y8/\Q .non (upd H l (.lst (xs++[y])))
theorem zh1:MtM X "list.append" rAppend:=by
 intro pins s σ H x vs v us Q I rx rv h;refine zKK λγ κ=>?_;obtain⟨l,xs,y,rfl,rfl,hH,hz,q⟩:=h;cases rx;obtain⟨u,rfl,ru⟩:=rv.one;obtain⟨z,its,n,r,hl,e⟩:=I.lstM hH;refine κ ?_;refine ydu F.slot_list_append ⟨_,e,rfl⟩ F.entry_list_append (F.args_list_append_2 _ _) (PySem.list_append l its.toArray n u (by rw[yt];lia)) ⟨e,?_⟩;refine⟨.non,_,I.lset (its':=its++[u]) hH e (by simp) (r.append (.cons ru .nil)) ?_,rfl,q⟩;rw[yu,vz];lia
def rExtend:V->List V->Hp->VK->Prop:=λx vs H Q=>∃l b xs zs,x=.ref l/\vs=[.ref b]/\H l=ya (.lst xs)/\H b=ya (.lst zs)/\xs.length+zs.length<=y8/\Q .non (upd H l (.lst (xs++zs)))
theorem zon:MtM X "list.extend" rExtend:=by
 intro pins s σ H x vs v us Q I rx rv h;refine zKK λγ κ=>?_;obtain⟨l,b,xs,zs,rfl,rfl,hH,hB,hz,q⟩:=h;cases rx;obtain⟨u,rfl,ru⟩:=rv.one;cases ru;obtain⟨z,its,n,r,hl,e⟩:=I.lstM hH;obtain⟨z2,its2,n2,r2,hl2,e2⟩:=I.lstM hB;refine κ ?_;have hsz:its.toArray.size+its2.toArray.size<=y8:=by rw[yt,yt];lia
 have hlong:¬(!its.toArray.isEmpty&&Builtin.List.listTooLong (its.toArray.size+its2.toArray.size))=yl:=by
  rw[notLongL hsz,uq];exact qc
 refine ydu F.slot_list_extend ⟨_,e,rfl⟩ F.entry_list_extend (F.args_list_extend_2 _ _)
  (AutoSeq1.list_extend_list_list_0 l its.toArray n b its2.toArray n2 hlong (by rw[yt];lia) (by lia)) ⟨e,e2,?_⟩
 refine⟨.non,_,I.lset (its':=its++its2) hH e (by simp) (r.append r2) ?_,rfl,q⟩;rw[yu];lia
def rPop:V->List V->Hp->VK->Prop:=λx vs H Q=>∃l xs y,x=.ref l/\vs=[]/\H l=ya (.lst xs)/\xs[xs.length - 1]? = ya y/\Q y (upd H l (.lst xs.dropLast))
theorem zwm:MtM X "list.pop" rPop:=by
 intro pins s σ H x vs v us Q I rx rv h;obtain⟨l,xs,y,rfl,rfl,hH,hy,q⟩:=h;cases rx;have hus:=rv.zero;subst hus;obtain⟨z,its,n,r,hl,e⟩:=I.lstM hH;obtain⟨u,hu,ru⟩:=r.get hy
 have hy':its.toArray[its.toArray.size - 1]? = ya u:=by
  show its.toArray[its.length - 1]? = ya u;rw[← xa,← hl];exact hu
 refine ydu F.slot_list_pop ⟨_,e,rfl⟩ F.entry_list_pop (F.args_list_pop_1 _) (MeetsSeq.list_pop_last l its.toArray n u hy' (by rw[yt];lia)) ⟨e,?_⟩;refine⟨y,_,I.lset (its':=its.dropLast) hH e ?_ r.dropLast ?_,ru,q⟩
 ·show its.toArray.eraseIdxIfInBounds (its.toArray.size - 1)=its.dropLast.toArray
  rw[yt,ybt,zlk]
 ·rw[List.length_dropLast]
  lia
def rPopAt:V->List V->Hp->VK->Prop:=λx vs H Q=>∃l xs i k y,x=.ref l/\vs=[.int i]/\H l=ya (.lst xs)/\-(2 ^ 63)<=i/\i<2 ^ 63/\seqIndex? i xs.length=ya k/\xs[k]? = ya y/\Q y (upd H l (.lst (xs.eraseIdx k)))
theorem zqm:MtM X "list.pop" rPopAt:=by
 intro pins s σ H x vs v us Q I rx rv h;obtain⟨l,xs,i,k,y,rfl,rfl,hH,h1,h2,hk,hy,q⟩:=h;cases rx;obtain⟨u,rfl,ru⟩:=rv.one;obtain⟨t,rfl⟩:=ru;obtain⟨z,its,n,r,hl,e⟩:=I.lstM hH;obtain⟨w,hw,rw'⟩:=r.get hy
 refine ydu F.slot_list_pop ⟨_,e,rfl⟩ F.entry_list_pop (F.args_list_pop_2 _ _)
  (MeetsSeq.list_pop_at l its.toArray n i t k w (fitsIndex_both h1 h2) (by rw[yt,← hl];exact hk) (by rw[← xa];exact hw) (by rw[yt];lia)) ⟨e,?_⟩
 refine⟨y,_,I.lset (its':=its.eraseIdx k) hH e ?_ (r.eraseIdx k) ?_,rw',q⟩
 ·show its.toArray.eraseIdxIfInBounds k=(its.eraseIdx k).toArray
  rw[ybt]
 ·have:=zg3 xs k
  lia
end
section
variable {prog:qw} {w:x8} {A:x5} {E:yh→ym→Prop} {s:ym}
set_option maxRecDepth 100000 in
end
end L2
namespace Att
open PySem PySem.W PySem.Calls PyProof.Rows
theorem zd7{P:Params}{h:Heap}:∀(ns:List Int) (vs:List yh),WellAll P h vs (ns.map WData.int)->wu vs ns:=by
 intro ns;induction ns with
 | nil =>
  intro vs w;rw[yam]at w;cases w;exact .nil
 | cons n ns ih =>
  intro vs w;rw[yo]at w;cases w with
  | cons a b =>
   cases a;exact .cons _ _ (ih _ b)
theorem zn0{l:OpenLaw}{n:Nat}(hn:l.most=ya n){P:Params}{h:Heap}{args:List WData}{vals:List yh}
  (hpre:l.row.toRowW.claim.pre args=yl) (hwl:WellAll P h vals args) :
  ∃a vs ns,vals=[yw a]/\args=[WData.list (ns.map WData.int)]/\h.get? a=ya { cls:=.type "list",data:=.seq vs.toArray}/\wu vs ns/\ns.length<=n:=by
 have hsh:WShape.hasAll [] args [.list .int]=yl:=(pre_splitW hpre).1;have hc:l.pre.holds [] { args:=args}=yl:=(pre_splitW hpre).2;obtain⟨d,r,rfl,h1,h2⟩:=hasAllW_cons hsh;obtain rfl:=hasAllW_nil h2;obtain⟨xs,rfl,h3⟩:=hasW_list h1;obtain⟨ns,rfl⟩:=items_int h3
 have hlen:ns.length<=n:=by
  unfold OpenLaw.pre at hc
  have h4:(WTm.not (.lt (.lit (.int (n:Int))) (.len (.arg 0)))).holds [] { args:=[.list (ns.map .int)]}=yl:=by
   have h4:=(holds_andW hc).1;rw[hn]at h4;exact h4
  have h5:=condW_of h4 (w_not (w_lt w_lit (w_len_list (w_arg rfl))));rw[yd]at h5;refine yet λq=>?_
  have q':(n:Int)<((ns.length:Nat):Int):=by lia
  first
   | (rw[decide_eq_true q']at h5;exact absurd h5 (by decide))
   | (simp at h5;lia)
 cases hwl with
 | cons w1 w2 =>
  cases w2;cases w1 with
  | list ho hall=>exact⟨_,_,ns,rfl,rfl,ho,zd7 ns _ hall,hlen⟩
theorem zot(l:OpenLaw)(args:List WData):l.row.toRowW.claim.post args (.bool yl) args=yl :=
 postW_of (r:=l.row.toRowW) (X:=(yl==yl))
  (show WShape.has [] (.bool yl) .bool=yl by first | rfl | decide | simp[WShape.has,WShape.arms,WShape.armsAll])
  (show(WTm.eq .res (.lit (.bool yl))).value [] { args:=args,res:=ya (.bool yl),after:=args}=ya (.bool (yl==yl))from w_eq_bool (w_res rfl) w_lit) rfl
theorem attach_call{l:OpenLaw}{n:Nat}{q:qw}{loose:List Str}{XP:(Str->Option yh)->Heap->Prop}{YP:x8->Heap->Prop}{d:DefRec}
  (hn:l.most=ya n) (hdf:d.params.defaults=[])
  (call:∀(w:x8) (s₀ s₁:ym) (mg mb:Str->Option yh) (fa:yq) (o:Obj) (pm cd doc:yh) (a:yq) (vs:List yh) (ns:List Int),
   Ground q loose [] XP w s₀ mg mb s₁.heap->YP w s₁.heap ->
   s₁.heap.get? fa=ya o->o.data=.func (docDef d.name d.params d.body d.scope pm cd doc)->s₁.heap.CodeRec cd d.name->mg d.name=ya (.ref fa) ->
   s₁.heap.get? a=ya { cls:=.type "list",data:=.seq vs.toArray}->wu vs ns->ns.length<=n->s₁.gens=#[] ->
   yb1 (model l.prog w) callerA (.call (.ref fa) ⟨[.ref a],[]⟩) (λr s'=>r=.ok (.ret (.bool yl))/\OldK s₁.heap s'.heap/\s'.os=s₁.os/\AllBare s'.gens) s₁) :
  WalkO q loose XP YP l.row.toRowW d [] (λf vs=>PySem.call f vs):=by
 intro w s₀ s₁ mg mb G Y fa o pm cd doc dV kV ho hd hcd hD hmg hg args vals as hpre hlay hrd hwl hlo;refine zKK λγ κ=>?_;obtain rfl:dV=.none:=Dflts.none hD hdf;obtain rfl:kV=.none:=Dflts.noKw hD;obtain⟨a,vs,ns,rfl,rfl,hobj,hints,hlen⟩:=zn0 hn hpre hwl;refine κ ?_;refine enter_call (ybn (call w s₀ s₁ mg mb fa o pm cd doc a vs ns G Y ho (fd_plain hd) hcd hmg hobj hints hlen hg) λr s' hq=>?_);obtain⟨rfl,h2,h3,h4⟩:=hq;exact⟨.inl ⟨.bool yl,.bool yl,[],rfl,λ_=>rfl,.bool yl,zot l _,λ_=>⟨List.Pairwise.nil,λ_ hm=>(nomatch hm)⟩⟩,h2,h3,h4⟩
end Att
namespace L2
open PySem PySem.Spec PyProof.Rows
theorem zcj:∀{vs:List yh} {ns:List Int},wu vs ns->Vals (ns.map V.int) vs
 | _,_,.nil=>.nil
 | _,_,.cons n t h=>.cons ⟨t,rfl⟩ (zcj h)
def Only(H:Hp):Prop:=∀b,H b=yk\/∃o xs,H b=ya (.frz o (.lst xs))
abbrev KOf{K:Frag}{h:Heap}(_:K.In h):Frag:=K
def defArgs(s:Stmt):Arguments:=match s with
 | .FunctionDef _ a _ _ _ _ _ _ _ _=>a
 | _=>{ posonlyargs:=[],args:=[],vararg:=yk,kwonlyargs:=[],kw_defaults:=[],kwarg:=yk,defaults:=[]}
def defBody(s:Stmt):List Stmt:=match s with
 | .FunctionDef _ _ b _ _ _ _ _ _ _=>b
 | _=>[]
def defScope(s:Stmt):Scope:=match s with
 | .FunctionDef _ _ _ _ _ _ sc _ _ _=>sc
 | _=>{ kind:=.function,names:=[],isGenerator:=yi,isCoroutine:=yi}
abbrev CX0:CXT:=λ_ _ _ _ _ _=>False
abbrev E0:XK:=λ_ _ _=>False
theorem pass0{X:Cx}:Passes CX0 X E0:=λ_ _ _ _ _ _ _ h=>h.elim
structure Fun (K:Frag) (x qual:Str) (st:Stmt) (f:Addr) (fd:FuncData):Prop where
 ex:∃(oc:yh) (od:Option yq) (kV doc pm:yh) (an:Option yq) (cdv ct:yh) (osl:Array (Option yh)),
  fd=fnOf x qual (defArgs st) (defBody st) (defScope st) .none kV doc pm an cdv ct/\K.lookup f=ya ⟨oc,od,.func fd,osl⟩/\codeIn K cdv qual=yl
 kp:yd6 K (.ref f)=yl
section
variable {P:qw} {w:x8} {K:Frag} {mg:Str→Option yh} {base:Heap}
theorem Fun.binds{x qual:Str}{st:Stmt}{f:yq}{fd:yaj}{ps:List Str}(F:Fun K x qual st f fd)
  (h:∀(kV doc pm:yh) (an:Option yq) (cdv ct:yh) (us:List yh),us.length=ps.length->bindArgs (fnOf x qual (defArgs st) (defBody st) (defScope st) .none kV doc pm an cdv ct) ⟨us,[]⟩=pure (ps.zip us)):Binds K fd ps []:=by
 refine zKK λγ κ=>?_;obtain⟨oc,od,kV,doc,pm,an,cdv,ct,osl,rfl,lk,hcd⟩:=F.ex;refine κ ?_;exact .all (h kV doc pm an cdv ct)
theorem zuw{x qual:Str}{st:Stmt}{f:yq}{oc:yh}{od an:Option yq}{osl:Array (Option yh)}{kV doc pm cdv ct:yh}(l:K.lookup f=ya ⟨oc,od,.func (fnOf x qual (defArgs st) (defBody st) (defScope st) .none kV doc pm an cdv ct),osl⟩)
  (c:codeIn K cdv qual=yl) (k:yd6 K (.ref f)=yl):Fun K x qual st f (fnOf x qual (defArgs st) (defBody st) (defScope st) .none kV doc pm an cdv ct):=⟨⟨oc,od,kV,doc,pm,an,cdv,ct,osl,rfl,l,c⟩,k⟩
end
def Same(H H':Hp):Prop:=∀b o,H b=ya o->H' b=ya o
theorem Same.refl(H:Hp):Same H H:=λ_ _ h=>h
noncomputable def clo:List (Str×yak)->List (Str×yq)->List (Str×yq)->List (Str×yq)
 | [],_,cs=>cs
 | (n,k)::r,cells,cs=>if k == .free then clo r cells ((n,(cells.lookup n).getD 0)::cs)else clo r cells cs
theorem zev{scope:Scope}{env:Env}(h:∀n,(n,qe)∈scope.names->∃c,env.cells.lookup n=ya c):closureFor scope env=pure (clo scope.names env.cells []):=by
 have aux:∀(names:List (Str×yak)) (cs:List (Str×yq)),(∀n,(n,qe)∈names->∃c,env.cells.lookup n=ya c) ->
   (forIn names cs (λx r=>match x with | (name,kind)=>if(kind==qe)=yl then do let __do_lift ← cellOf env name;pure (ForInStep.yield ((name,__do_lift)::r))else pure (ForInStep.yield r)):Sem (List (Str×yq)))=pure (clo names env.cells cs):=by
  intro names;induction names with
  | nil=>intro cs _;rfl
  | cons x r ih =>
   intro cs h;obtain⟨n,k⟩:=x;have hr:∀n,(n,qe)∈r->∃c,env.cells.lookup n=ya c:=λm hm=>h m (yf _ hm)
   rw[List.forIn_cons];dsimp only;by_cases hk:k=.free
   ·subst hk
    obtain⟨c,hc⟩:=h n yg;have e:cellOf env n=pure c:=by unfold cellOf;rw[hc]
    rw[if_pos (show(qe==qe)=yl from rfl),e];refine(ih ((n,c)::cs) hr).trans ?_;show _=pure (if(qe==qe)=yl then clo r env.cells ((n,(env.cells.lookup n).getD 0)::cs)else _);rw[if_pos (show(qe==qe)=yl from rfl),hc];rfl
   ·have hb:¬(k==qe)=yl:=by simpa using hk
    rw[if_neg hb];refine(ih cs hr).trans ?_;show _=pure (if(k==qe)=yl then _ else clo r env.cells cs);rw[if_neg hb]
 show(forIn scope.names [] (λx r=>match x with | (name,kind)=>if(kind==qe)=yl then do let __do_lift ← cellOf env name;pure (ForInStep.yield ((name,__do_lift)::r))else pure (ForInStep.yield r)) >>= λs=>pure s)=_;rw[aux scope.names [] h];rfl
theorem zif{cells:List (Str×yq)}{x:Str}{a:yq}:∀{names:List (Str×yak)} {cs:List (Str×yq)},(x,a)∈clo names cells cs->(x,a)∈cs\/(a=(cells.lookup x).getD 0/\(x,qe)∈names)
 | [],_,h=>.inl h
 | (n,k)::r,cs,h=>by
  unfold clo at h;split at h
  ·rename_i hk
   have hk:k=.free:=by simpa using hk
   subst hk;rcases zif h with h | ⟨h1,h2⟩
   ·rcases yn.mp h with h | h
    ·cases h
     exact .inr ⟨rfl,yg⟩
    ·exact .inl h
   ·exact .inr ⟨h1,yf _ h2⟩
  ·rcases zif h with h | ⟨h1,h2⟩
   ·exact .inl h
   ·exact .inr ⟨h1,yf _ h2⟩
theorem zib{cells:List (Str×yq)}{p:Str×yq}:∀{names:List (Str×yak)} {cs:List (Str×yq)},p∈cs->p∈clo names cells cs
 | [],_,h=>h
 | (n,k)::r,cs,h=>by
  unfold clo;split
  ·exact zib (yf _ h)
  ·exact zib h
theorem zjc{cells:List (Str×yq)}{x:Str}:∀{names:List (Str×yak)} {cs:List (Str×yq)},(x,qe)∈names->(x,(cells.lookup x).getD 0)∈clo names cells cs
 | [],_,h=>by cases h
 | (n,k)::r,cs,h=>by
  unfold clo;rcases yn.mp h with h | h
  ·cases h
   rw[if_pos (show(qe==qe)=yl from rfl)];exact zib yg
  ·split
   ·exact zjc h
   ·exact zjc h
theorem za6{x:Str}{a:yq}:∀{l:List (Str×yq)},(x,a)∈l->∃b,l.lookup x=ya b
 | [],h=>by cases h
 | (n,c)::r,h=>by
  rw[vo];cases e:x==n with
  | true=>exact⟨c,rfl⟩
  | false =>
   rcases yn.mp h with h | h
   ·cases h
    rw[beq_self_eq_true]at e;cases e
   ·exact za6 h
theorem zaj{names:List (Str×yak)}{cells:List (Str×yq)}{x:Str}{c:yq}(h:(clo names cells []).lookup x=ya c)(hc:∀n,(n,qe)∈names->∃c,cells.lookup n=ya c):cells.lookup x=ya c:=by
 rcases zif (PySem.mem_of_lookup h)with z | ⟨z1,z2⟩
 ·cases z
 ·obtain⟨c',e⟩:=hc x z2
  rw[e]at z1 ⊢;rw[z1];rfl
theorem zrs{names:List (Str×yak)}{cells:List (Str×yq)}{x:Str}(h:(x,qe)∈names)(hc:∀n,(n,qe)∈names->∃c,cells.lookup n=ya c):∃c,(clo names cells []).lookup x=ya c/\cells.lookup x=ya c:=by
 obtain⟨c,e⟩:=za6 (zjc (cells:=cells) (cs:=[]) h);exact⟨c,e,zaj e hc⟩
theorem za8{env:Env}:∀{names:List (Str×yak)} {x:Str},
  (names.map λ(n,k)=>if(k==qe&&env.scope.kind == .function&&env.kindOf n==ya .cell)then(n,ybz)else(n,k)).lookup x =
   (names.lookup x).map λk=>if(k==qe&&env.scope.kind == .function&&env.kindOf x==ya .cell)then ybz else k
 | [],_=>rfl
 | (n,k)::r,x=>by
  have ih:=@za8 env r x;show List.lookup x ((if(k==qe&&env.scope.kind == .function&&env.kindOf n==ya .cell)=yl then(n,ybz)else(n,k))::_)=_;cases hx:x==n with
  | true =>
   have e:x=n:=beq_iff_eq.mp hx;subst e;split
   ·rename_i hc;simp only[vo,beq_self_eq_true,xx,hc,if_true]
   ·rename_i hc;simp only[vo,beq_self_eq_true,xx];rw[if_neg hc]
  | false =>
   split
   ·simp only[vo,hx];exact ih
   ·simp only[vo,hx];exact ih
section
variable {prog:qw} {w:x8} {A:x5} {R:Result→ym→Prop} {s:ym}
noncomputable abbrev NoE:yh->ym->Prop:=λ_ _=>False
theorem zof{elt target iter:Expr}{ifs:List Expr}{scope:Scope}{pos:Pos}{it acc:yh}{env:Env}(I:Nat->ym->Prop)
  (turn:∀n s,I n s->y9 (model prog w) A (pyNext it) (λr s₁=>match r with
   | none=>R (.ok .next) s₁
   | some v=>y9 (model prog w) A (yca target it v) (λ_ s₁'=>y9 (model prog w) A (assign target env v) (λ_ s₂ =>
     y9 (model prog w) A (forIn ifs yl λc r=>if r=yl then do let ok ← isTrue c env (eval c env);pure (ForInStep.yield ok)else pure (ForInStep.yield r)) (λok s₃ =>
      if ok=yl then y9 (model prog w) A (eval elt env) (λx s₄ =>
       y9 (model prog w) A (call (.builtin "list.append") [acc,x]) (λ_ s₅=>∃m,m<n/\I m s₅) NoE s₄) NoE s₃
      else∃m,m<n/\I m s₃) NoE s₂) NoE s₁') NoE s₁) NoE s)
  (n:Nat) (h:I n s) :
  yb1 (model prog w) A (.compLoop (.ListComp elt [⟨target,iter,ifs,0⟩] scope pos) 0 it acc env) R s:=by
 refine codeAny_loop rfl I (λn s hI=>?_) n h;show y9 _ A ((compTurn (.ListComp elt [⟨target,iter,ifs,0⟩] scope pos) 0 it acc env).onRaise (λx=>do noteFrame x env;theTreesLotGoes x)) _ _ s;refine wpAny_noted ?_;rw[compTurn_list];refine yb (wpAny_standAt (yb (jd (turn n s hI) (λr s₁ h₁=>?_) λ_ _ h'=>h'.elim)));cases r with
 | none=>exact yj h₁
 | some v =>
  refine yb (jd h₁ (λ_ s₁' h₁'=>?_) λ_ _ h'=>h'.elim);refine yb (jd h₁' (λ_ s₂ h₂=>yb (jd h₂ (λok s₃ h₃=>?_) λ_ _ h'=>h'.elim)) λ_ _ h'=>h'.elim);cases ok with
  | false=>exact yj ⟨rfl,h₃⟩
  | true =>
   exact yb (yb (jd h₃ (λx s₄ h₄=>yb (jd h₄ (λ_ s₅ h₅=>yj (yj ⟨rfl,h₅⟩)) λ_ _ h'=>h'.elim)) λ_ _ h'=>h'.elim))
end
noncomputable def blockCx(X:Cx)(N':List Str)(scope:Scope)(C:yq)(fp:List yq)(pins:List (yq×Obj))(s:ym)(H:Hp):Cx :=
 { X with N:=N',s₀:=s,H₀:=H,env:=compEnvC scope (clo scope.names X.env.cells []) C X.env,outer:=X.stack,stack:=X.stack,ex:=fp,fn:=λ_=>yi,pn:=X.pn++pins,xe:=NoE}
noncomputable def PTs(X:Cx)(ifs:List Expr)(t:TT):Prop :=
 ∀(pins:List (yq×Obj)) (s:ym) (σ:St) (H:Hp) (Q:Bool->Hp->Prop),Inv X pins σ H s->t σ H Q ->
  y9 (model X.prog X.w) X.A (forIn ifs yl λc r=>if r=yl then do let ok ← isTrue c X.env (eval c X.env);pure (ForInStep.yield ok)else pure (ForInStep.yield r)) (TP X pins σ Q) X.xe s
theorem zr7{X:Cx}:PTs X [] (λ_ H Q=>Q yl H):=λ_ _ _ H _ I h=>wpAny_tests_nil ⟨H,I,h⟩
theorem zl3{X:Cx}{c:Expr}{t:TT}(h:PT X c t):PTs X [c] t:=λpins s σ H Q I q=>wpAny_tests_one (h pins s σ H Q I q)
noncomputable def caps(n:Nat)(keep:List Nat)(σ:St):St:=ja n yk++keep.map λj=>(σ[j]?).join
noncomputable def Wk(σ σ2:St):Prop:=σ.length=σ2.length/\∀(i:Nat) v,σ[i]? = ya (ya v)->σ2[i]? = ya (ya v)
noncomputable def tComp(wi:TI)(n:Nat)(keep:List Nat)(g:TG)(tc:TT)(te:TE):TE:=λσ H Q=>wi σ H λJ H1=>∀acc,H1 acc=yk->∃W:Nat->Nat->List V->Hp->Prop,(∃m,W 0 m [] (upd H1 acc (.lst []))) /\
 ∀i m ys H,W i m ys H->H acc=ya (.lst ys)/\((J.stop i H/\Q (.ref acc) H)\/(J.go i H/\∀x H',J.yld i H x H'->g x (caps n keep σ) H' λσ2 H2=>Wk (caps n keep σ) σ2/\tc σ2 H2 λk H3 =>
  if k=yl then te σ2 H3 λy H4=>H4 acc=ya (.lst ys)/\ys.length<y8/\∃m',m'<m/\W (i+1) m' (ys++[y]) (upd H4 acc (.lst (ys++[y])))
  else∃m',m'<m/\W (i+1) m' ys H3))
section
variable {κ:Type} [DecidableEq κ]
def valV(kvs:List (κ×V))(k:κ):Option V:=(kvs.find? λkv=>decide (kv.1=k)).map (·.2)
def putK(kvs:List (κ×V))(k:κ)(v:V):List (κ×V) :=
 if(kvs.any λkv=>decide (kv.1=k))=yl then kvs.map (λkv=>if kv.1=k then(kv.1,v)else kv)else kvs++[(k,v)]
def dropK(kvs:List (κ×V))(k:κ):List (κ×V):=kvs.filter λkv=>decide (kv.1≠k)
theorem zdm{p:κ×V}{r:List (κ×V)}{k:κ}(e:p.1=k):valV (p::r) k=ya p.2:=by simp[valV,u3,e]
theorem zdk{p:κ×V}{r:List (κ×V)}{k:κ}(e:¬p.1=k):valV (p::r) k=valV r k:=by simp[valV,u3,e]
theorem zfo(k:κ):∀kvs:List (κ×V),(kvs.any λkv=>decide (kv.1=k))=(valV kvs k).isSome
 | []=>rfl
 | p::r=>by
  rw[wz];by_cases e:p.1=k
  ·simp only[zdm e,decide_eq_true e,Bool.true_or,Option.isSome_some]
  ·rw[zdk e,decide_eq_false e,yff];exact zfo k r
theorem zd5(kvs:List (κ×V))(k:κ)(v:V):(putK kvs k v).length<=kvs.length+1:=by
 unfold putK;split
 ·rw[yd];lia
 ·rw[yu,qf,j6];lia
theorem RelO.isSome_eq{o:Option V}{u:Option yh}(r:RelO o u):o.isSome=u.isSome:=by
 cases o with
 | none=>cases u with
  | none=>rfl
  | some _=>exact(show False from r).elim
 | some _=>cases u with
  | none=>exact(show False from r).elim
  | some _=>rfl
theorem RelO.getD{o:Option V}{u:Option yh}{d:V}{d':yh}(r:RelO o u)(rd:RelV d d'):RelV (o.getD d) (u.getD d'):=by
 cases o with
 | none=>cases u with
  | none=>exact rd
  | some _=>exact(show False from r).elim
 | some _=>cases u with
  | none=>exact(show False from r).elim
  | some _=>exact r
theorem KV.val{kvs:List (κ×V)}{vs:List (κ×yh)}(r:KV kvs vs)(k:κ):RelO (valV kvs k) (valueAt vs k):=by
 unfold KV at r;induction r with
 | nil=>exact x4
 | @cons p q ps qs h t ih =>
  obtain⟨h1,h2⟩:=h;by_cases e:p.1=k
  ·have e':q.1=k:=h1.symm.trans e
   have b:valueAt (q::qs) k=ya q.2:=by simp[valueAt,u3,e']
   rw[zdm e,b];exact h2
  ·have e':¬q.1=k:=λz=>e (h1.trans z)
   have b:valueAt (q::qs) k=valueAt qs k:=by simp[valueAt,u3,e']
   rw[zdk e,b];exact ih
theorem KV.any{kvs:List (κ×V)}{vs:List (κ×yh)}(r:KV kvs vs)(k:κ):(kvs.any λkv=>decide (kv.1=k))=vs.any λkv=>decide (kv.1=k):=by
 unfold KV at r;induction r with
 | nil=>rfl
 | cons h t ih=>rw[wz,wz,ih,h.1]
theorem KV.repl{kvs:List (κ×V)}{vs:List (κ×yh)}(r:KV kvs vs)(k:κ){y:V}{u:yh}(ry:RelV y u) :
  KV (kvs.map λkv=>if kv.1=k then(kv.1,y)else kv) (vs.map λkv=>if kv.1=k then(kv.1,u)else kv):=by
 unfold KV at r ⊢;induction r with
 | nil=>exact .nil
 | @cons p q ps qs h t ih =>
  rw[yo,yo];refine .cons ?_ ih;obtain⟨h1,h2⟩:=h;by_cases e:p.1=k
  ·rw[if_pos e,if_pos (h1.symm.trans e)];exact⟨h1,ry⟩
  ·rw[if_neg e,if_neg (λz=>e (h1.trans z))];exact⟨h1,h2⟩
theorem KV.put{kvs:List (κ×V)}{vs:List (κ×yh)}(r:KV kvs vs)(k:κ){y:V}{u:yh}(ry:RelV y u):KV (putK kvs k y) (stored vs k u):=by
 unfold putK stored;rw[r.any k];by_cases e:(vs.any λkv=>decide (kv.1=k))=yl
 ·rw[if_pos e,if_pos e];exact r.repl k ry
 ·rw[if_neg e,if_neg e];exact Paired.snoc r ⟨rfl,ry⟩
theorem KV.keys{kvs:List (κ×V)}{vs:List (κ×yh)}(r:KV kvs vs):kvs.map (·.1)=vs.map (·.1):=by
 unfold KV at r;induction r with
 | nil=>rfl
 | cons h t ih=>rw[yo,yo,ih,h.1]
theorem KV.length{kvs:List (κ×V)}{vs:List (κ×yh)}(r:KV kvs vs):kvs.length=vs.length:=Paired.length r
end
theorem zk9{P:qw}{w:x8}{k:Key}{u:yh}(r:RelV (kV k) u):(mixKind P w).is k u=yl:=by
 cases k with
 | inl i=>obtain⟨t,e⟩:=(show∃t,u=ya7 i t from r);subst e;exact ziz P w i t
 | inr x=>obtain⟨t,e⟩:=(show∃t,u=yeq x t from r);subst e;exact zik P w x t
theorem zht{P:qw}{w:x8}:∀{ks:List Key} {us:List yh},Vals (ks.map kV) us->ItemsAre (mixKind P w) ks us
 | [],_,r=>by rw[yam]at r;cases r;exact .nil
 | k::ks,_,r=>by
  rw[yo]at r;cases r with
  | cons h t=>exact .cons (zk9 h) (zht t)
abbrev KT(H:Hp):List (List Key×V)->List (List Key×yq×yh)->Prop:=Paired λp q=>p.1=q.1/\H q.2.1=ya (.tup (p.1.map kV))/\RelV p.2 q.2.2
theorem KT.val{H:Hp}{kvs:List (List Key×V)}{xs:List (List Key×yq×yh)}(r:KT H kvs xs)(k:List Key):RelO (valV kvs k) ((atKey xs k).map (·.2)):=by
 induction r with
 | nil=>exact x4
 | @cons p q ps qs h t ih =>
  obtain⟨h1,_,h2⟩:=h;by_cases e:p.1=k
  ·have e':q.1=k:=h1.symm.trans e
   have b:atKey (q::qs) k=ya q.2:=by simp[atKey,u3,e']
   rw[zdm e,b];exact h2
  ·have e':¬q.1=k:=λz=>e (h1.trans z)
   have b:atKey (q::qs) k=atKey qs k:=by simp[atKey,u3,e']
   rw[zdk e,b];exact ih
theorem KT.repl{H:Hp}{kvs:List (List Key×V)}{xs:List (List Key×yq×yh)}(r:KT H kvs xs)(k:List Key){y:V}{u:yh}(ry:RelV y u) :
  KT H (kvs.map λkv=>if kv.1=k then(kv.1,y)else kv) (xs.map (putAt k u)):=by
 induction r with
 | nil=>exact .nil
 | @cons p q ps qs h t ih =>
  rw[yo,yo];refine .cons ?_ ih;obtain⟨h1,h2,h3⟩:=h;unfold putAt;by_cases e:p.1=k
  ·rw[if_pos e,if_pos (h1.symm.trans e)];exact⟨h1,h2,ry⟩
  ·rw[if_neg e,if_neg (λz=>e (h1.trans z))];exact⟨h1,h2,h3⟩
theorem KT.put{H:Hp}{kvs:List (List Key×V)}{xs:List (List Key×yq×yh)}(r:KT H kvs xs)(k:List Key){b:yq}{y:V}{u:yh}(hb:H b=ya (.tup (k.map kV)))(ry:RelV y u) :
  KT H (putK kvs k y) (storedH xs k b u):=by
 have e:(kvs.any λkv=>decide (kv.1=k))=(atKey xs k).isSome:=by
  rw[zfo,(r.val k).isSome_eq,yc0]
 unfold putK storedH;rw[e];by_cases q:(atKey xs k).isSome=yl
 ·rw[if_pos q,if_pos q];exact r.repl k ry
 ·rw[if_neg q,if_neg q];exact Paired.snoc r ⟨rfl,hb,ry⟩
theorem KT.keeps{H H':Hp}{kvs:List (List Key×V)}{xs:List (List Key×yq×yh)}(r:KT H kvs xs)(ht:∀b ys,H b=ya (.tup ys)->H' b=ya (.tup ys)):KT H' kvs xs :=
 Paired.mapP r λ_ _ z=>⟨z.1,ht _ _ z.2.1,z.2.2⟩
section
variable {P:qw} {w:x8} {H:Hp} {h:Heap} {a:yq}
theorem zuz{u:HO}(ok:HOk P w H h)(e:Rd H a u):ObjOk P w H h a u:=e.ok ok
theorem zi8{kvs:List (Key×V)}(ok:HOk P w H h)(e:Rd H a (.dK kvs)):kvs.length<=y8/\(a==vx)=yi/\∃vs,KV kvs vs/\h.DictOf (mixKind P w) a vs :=
 show ObjOk P w H h a (.dK kvs)from zuz ok e
theorem zp7{kvs:List (Key×V)}(ok:HOk P w H h)(e:H a=ya (.dK kvs)):kvs.length<=y8/\(a==vx)=yi/\∃vs,KV kvs vs/\h.DictOf (mixKind P w) a vs:=zi8 ok (.inl e)
theorem ze7{ks:List Key}(ok:HOk P w H h)(e:H a=ya (.tup (ks.map kV))):(ych (mixKind P w)).is h ks a:=by
 refine zKK λγ κ=>?_;obtain⟨_,its,r,⟨o,h1,h2,n,h3⟩,_⟩:=(show ObjOk P w H h a (.tup (ks.map kV))from ok a _ e);refine κ ?_;exact⟨o,its.toArray,n,h1,h2,h3,by simpa using zht r⟩
theorem zih{kvs:List (List Key×V)}(ok:HOk P w H h)(e:Rd H a (.dT kvs)):kvs.length<=y8/\(a==vx)=yi /\
  ∃xs,KT H kvs xs/\h.DictOfH (ych (mixKind P w)) a xs:=by
 refine zKK λγ κ=>?_;obtain⟨z,y,xs,r,o,es,ep,h1,h2,h3,h4,h5⟩:=(show ObjOk P w H h a (.dT kvs)from zuz ok e);refine κ ?_;refine⟨z,y,xs,r,o,es,ep,h1,h2,h3,h4,λx hx=>?_,h5⟩
 have all:∀{l:List (List Key×V)} {m:List (List Key×yq×yh)},KT H l m->∀x∈m,(ych (mixKind P w)).is h x.1 x.2.1:=by
  intro l m q;induction q with
  | nil=>intro x hx;exact nomatch hx
  | @cons p q ps qs hq t ih =>
   intro x hx;rcases yn.mp hx with e | hx
   ·subst e
    exact ze7 ok (by rw[← hq.1];exact hq.2.1)
   ·exact ih x hx
 exact all r x hx
theorem zul{kvs:List (List Key×V)}(ok:HOk P w H h)(e:H a=ya (.dT kvs)):kvs.length<=y8/\(a==vx)=yi /\
  ∃xs,KT H kvs xs/\h.DictOfH (ych (mixKind P w)) a xs:=zih ok (.inl e)
end
def DGet(H:Hp)(a:yq)(y:V)(r:Option V):Prop :=
 (∃kvs k,Rd H a (.dK kvs)/\y=kV k/\r=valV kvs k)\/∃kvs k b,Rd H a (.dT kvs)/\y=.ref b/\H b=ya (.tup (k.map kV))/\r=valV kvs k
def DPut(H:Hp)(a:yq)(y v:V)(H':Hp):Prop :=
 (∃kvs k,H a=ya (.dK kvs)/\y=kV k/\kvs.length<y8/\H'=upd H a (.dK (putK kvs k v))) \/
 ∃kvs k b,H a=ya (.dT kvs)/\y=.ref b/\H b=ya (.tup (k.map kV))/\kvs.length<y8/\H'=upd H a (.dT (putK kvs k v))
theorem DGet.k{H:Hp}{a:yq}{kvs:List (Key×V)}{k:Key}(e:H a=ya (.dK kvs)):DGet H a (kV k) (valV kvs k):=.inl ⟨kvs,k,.inl e,rfl,rfl⟩
theorem DPut.k{H:Hp}{a:yq}{kvs:List (Key×V)}{k:Key}{v:V}(e:H a=ya (.dK kvs))(hl:kvs.length<y8):DPut H a (kV k) v (upd H a (.dK (putK kvs k v))):=.inl ⟨kvs,k,e,rfl,hl,rfl⟩
section
variable {X:Cx} {pins:List (yq×Obj)} {σ:St} {H:Hp} {s:ym} {a:yq} {y v:V} {u r:yh} {o:Option V} {A:x5} {E:yh→ym→Prop}
theorem Inv.big(I:Inv X pins σ H s):vx<s.heap.objs.size:=by
 have h:xi<s.heap.objs.size:=(I.mod.glob.keeps I.bk).lt;exact yej (by decide) h
theorem zgw{Q:yh->ym->Prop}(hu:A.units+1<ju)(I:Inv X pins σ H s)(g:DGet H a y (ya v))(ry:RelV y u)(h:∀w' s',Inv X pins σ H s'->RelV v w'->Q w' s') :
  y9 (model X.prog X.w) A (ya1 (.ref a) u) Q E s:=by
 rcases g with⟨kvs,k,e,ey,l⟩ | ⟨kvs,k,b,e,ey,eb,l⟩
 ·subst ey
  refine zKK λγ κ=>?_;obtain⟨z,hd,vs,rel,dd⟩:=zi8 I.hok e;obtain⟨w',hw,rw'⟩:=RelO.some_of (v:=v) (o:=valueAt vs k) (by rw[l];exact rel.val k);refine κ ?_;exact wpAny_getItem_of (zk9 ry) dd.mapOf hw (h w' _ (I.tok _) rw')
 ·subst ey
  cases(show u=yw b from ry);refine zKK λγ κ=>?_;obtain⟨z,hd,xs,rel,dd⟩:=zih I.hok e;obtain⟨w',hw,rw'⟩:=RelO.some_of (v:=v) (o:=(atKey xs k).map (·.2)) (by rw[l];exact rel.val k);obtain⟨p,hp,hp2⟩:=ydo.mp hw;refine κ ?_;refine wpAny_getItem_heap (uz hu) (ze7 I.hok eb) dd hp ?_;rw[hp2];exact h w' _ (I.tok _) rw'
theorem zya{Q:yh->ym->Prop}(hu:A.units+1<ju)(I:Inv X pins σ H s)(g:DGet H a y o)(ry:RelV y u)(h:∀s',Inv X pins σ H s'->Q (.bool o.isSome) s') :
  y9 (model X.prog X.w) A (je .In u (.ref a)) Q E s:=by
 rcases g with⟨kvs,k,e,ey,l⟩ | ⟨kvs,k,b,e,ey,eb,l⟩
 ·subst ey
  refine zKK λγ κ=>?_;obtain⟨z,hd,vs,rel,dd⟩:=zi8 I.hok e;refine κ ?_;refine wpAny_in_of (zk9 ry) hd dd.mapOf ?_;rw[← (rel.val k).isSome_eq,← l];exact h _ (I.tok _)
 ·subst ey
  cases(show u=yw b from ry);refine zKK λγ κ=>?_;obtain⟨z,hd,xs,rel,dd⟩:=zih I.hok e;refine κ ?_;refine wpAny_in_heap (uz hu) (ze7 I.hok eb) hd dd ?_;have q:=(rel.val k).isSome_eq;rw[yc0]at q;rw[← q,← l];exact h _ (I.tok _)
theorem zs0{Q:yh->ym->Prop}(hu:A.units+1<ju)(I:Inv X pins σ H s)(g:DGet H a y o)(ry:RelV y u)(h:∀s',Inv X pins σ H s'->Q (.bool (!o.isSome)) s') :
  y9 (model X.prog X.w) A (je .NotIn u (.ref a)) Q E s:=by
 rcases g with⟨kvs,k,e,ey,l⟩ | ⟨kvs,k,b,e,ey,eb,l⟩
 ·subst ey
  refine zKK λγ κ=>?_;obtain⟨z,hd,vs,rel,dd⟩:=zi8 I.hok e;refine κ ?_;refine wpAny_notIn_of (zk9 ry) hd dd.mapOf ?_;rw[← (rel.val k).isSome_eq,← l];exact h _ (I.tok _)
 ·subst ey
  cases(show u=yw b from ry);refine zKK λγ κ=>?_;obtain⟨z,hd,xs,rel,dd⟩:=zih I.hok e;refine κ ?_;refine wpAny_notIn_heap (uz hu) (ze7 I.hok eb) hd dd ?_;have q:=(rel.val k).isSome_eq;rw[yc0]at q;rw[← q,← l];exact h _ (I.tok _)
theorem ziw{h':Heap}{t':Nat}{ob:HO}(I:Inv X pins σ H s)(mu:Mut (H a))(hs:Heap.SameBut a s.heap h')(he:∃q,h'.get? a=ya q)(new:ObjOk X.prog X.w (upd H a ob) h' a ob) :
  Inv X pins σ (upd H a ob) { s with heap:=h',toks:=t'} :=
 I.write (x:=a) (e:=a) mu (.inl rfl) (λb q hb z=>(hs.2 b hb).trans z) he new
theorem zvx{P:qw}{w:x8}{H':Hp}{h':Heap}{kvs:List (Key×V)}{vs:List (Key×yh)}(z:kvs.length<=y8)(hd:(a==vx)=yi)(rel:KV kvs vs)(dd:h'.DictOf (mixKind P w) a vs) :
  ObjOk P w H' h' a (.dK kvs):=⟨z,hd,vs,rel,dd⟩
theorem zme{H':Hp}{Q:Unit->ym->Prop}(hu:A.units+1<ju)(I:Inv X pins σ H s)(g:DPut H a y v H')(ry:RelV y u)(rv:RelV v r)(h:∀s',Inv X pins σ H' s'->Q () s') :
  y9 (model X.prog X.w) A (setItem (.ref a) u r) Q E s:=by
 rcases g with⟨kvs,k,e,ey,l,eH⟩ | ⟨kvs,k,b,e,ey,eb,l,eH⟩
 ·subst ey eH
  refine zKK λγ κ=>?_;obtain⟨z,hd,vs,rel,dd⟩:=zp7 I.hok e;refine κ ?_;have hz:vs.length<=y8:=by rw[← rel.length];exact z
  have hl:(putK kvs k v).length<=y8:=by have:=zd5 kvs k v;lia
  refine wpAny_setItem_pairs (hsz:=hz) (zk9 ry) dd λh' dd' hs=>h _ ?_
  have he:∃q,h'.get? a=ya q:=let⟨q,_,_,hq,_⟩:=dd';⟨q,hq⟩
  exact ziw I (by rw[e];exact x4) hs he (zvx hl hd (rel.put k rv) dd')
 ·subst ey eH
  cases(show u=yw b from ry);refine zKK λγ κ=>?_;obtain⟨z,hd,xs,rel,dd⟩:=zul I.hok e;refine κ ?_;have hz:xs.length<=y8:=by rw[← Paired.length rel];exact z
  have hl:(putK kvs k v).length<=y8:=by have:=zd5 kvs k v;lia
  refine wpAny_setItem_heap (hsz:=hz) (uz hu) (ze7 I.hok eb) dd λh' dd' hs=>h _ ?_
  refine zKK λγ κ=>?_;obtain⟨q,es,ep,hq,h2,h3,h4,_,h5⟩:=dd';refine κ ?_;refine ziw I (by rw[e];exact x4) hs ⟨q,hq⟩ ⟨hl,hd,_,(rel.put k eb rv).keeps λc ys ec=>?_,q,es,ep,hq,h2,h3,h4,h5⟩;rw[zh (zwx ec e (λz=>nomatch z))];exact ec
end
def NoSl(i:Expr):Prop:=∀ov iv,subscripted i yi ov iv=operate [ov,iv] (ya1 ov iv)
theorem zr6{prog:qw}{w:x8}{A:x5}{E:yh->ym->Prop}{s:ym}{env:Env}{value slice:Expr}{pos:Pos}{T id:String}{Q:yh->ym->Prop}
  (hl:typeLookup (.type T) "__getitem__" = pure (ya (.builtin id))) (hs:NoSl slice)
  (h:y9 (model prog w) A (eval value env) (λo s₁=>y9 (model prog w) A (eval slice env) (λi s₂=>s₂.TypeIs o T/\y9 (model prog w) A (ya1 o i) Q E s₂) E s₁) E s) :
  y9 (model prog w) A (eval (.Subscript value slice pos) env) Q E s:=by
 refine Subscript_ (jd h (λo s₁ h₁=>jd h₁ (λi s₂ h₂=>?_) λ_ _ x=>x) λ_ _ x=>x);obtain⟨hT,h₂⟩:=h₂;unfold yb2;refine yb ?_;rw[getitemInPython_of_ne hT.not_modules];refine yb (u9 hT hl ?_)
 have fin:y9 (model prog w) A (subscripted slice yi o i) (λr s₃=>y9 (model prog w) A (letTemporaryGo value o r >>= λ_=>pure r) Q E s₃) E s₂:=by
  rw[hs o i];exact wpAny_operating (jd h₂ (λr s₃ h₃=>yb (wpAny_letTemporaryGo (yj h₃))) λ_ _ x=>x)
 first
  | exact yj (yb fin)
  | exact yb (yj (yb fin))
  | exact yb fin
theorem zi6{X:Cx}{pins:List (yq×Obj)}{σ:St}{H:Hp}{s:ym}{a:yq}{y:V}{o:Option V}(I:Inv X pins σ H s)(g:DGet H a y o):s.TypeIs (.ref a) "dict":=by
 rcases g with⟨kvs,k,e,_,_⟩ | ⟨kvs,k,b,e,_,_,_⟩
 ·obtain⟨_,_,vs,_,dd⟩:=zi8 I.hok e
  exact dd.typeIs
 ·obtain⟨_,_,xs,_,dd⟩:=zih I.hok e
  exact dd.typeIs
def tDGet(td ty:TE):TE:=λσ H Q=>td σ H λx H1=>ty σ H1 λy H2=>∃a v,x=.ref a/\DGet H2 a y (ya v)/\Q v H2
section
variable {X:Cx} {o i e value:Expr} {pos pos' tpos:Pos} {td ty tv:TE}
theorem zt0(hu:X.A.units+1<ju)(ho:PE X o td)(hi:PE X i ty)(hs:NoSl i):PE X (.Subscript o i pos) (tDGet td ty):=by
 intro pins s σ H Q I h;refine zr6 ycr.lookup hs (thn (ho pins s σ H _ I h) λu s1 ⟨x,H1,I1,rx,q1⟩=>thn (hi pins s1 σ H1 _ I1 q1) λiv s2 ζ=>?_);refine zKK λγ κ=>?_;obtain⟨y,H2,I2,ry,a,v,ex,g,q2⟩:=ζ;subst ex;obtain rfl:u=yw a:=rx;refine κ ?_;exact⟨zi6 I2 g,zgw hu I2 g ry λw' s3 I3 rw'=>⟨v,H2,I3,rw',q2⟩⟩
end
theorem zqn{P:qw}{w:x8}{H:Hp}(h:Heap)(hb:vx<h.objs.size):ObjOk P w H (h.push { cls:=.type "dict",data:=.dict #[]}) h.objs.size (.dK []) :=
 ⟨wm _,beq_eq_false_iff_ne.mpr (xg (qg hb)),[],.nil,Heap.DictOf.new h⟩
def tDNewK:TE:=λ_ H Q=>∀p,H p=yk->Q (.ref p) (upd H p (.dK []))
section
variable {X:Cx} {pos:Pos}
theorem zq1:PE X (.Dict [] [] pos) tDNewK:=λpins s σ H Q I h =>
 wpAny_Dict_empty ⟨.ref s.heap.objs.size,_,I.laid (a:=s.heap.objs.size) (o:=.dK []) (t':=s.toks) (λ_ _ q=>yp _ q) (y6 _) (zqn s.heap I.big),rfl,h _ (I.hok.fresh (y6 _))⟩
end
structure M2 (X:Cx) (o:Expr) (m:Str) (apos:Pos) (e f:Expr) (cpos:Pos):Prop where
 base:attributeBase o m X.env (eval o X.env)=eval o X.env
 few:((backTo cpos (jh [e,f] X.env)).all (λx=>!x.1)&&(backToKw cpos (keywordEach [] X.env)).all (λx=>x.1.isSome)
  && decide (([e,f]:List Expr).length+([]:List Keyword).length+(if([]:List Keyword).isEmpty then 0 else 1)<30))=yl
 line:(apos.endLine==cpos.line)=yl
 trees:backTo cpos (jh [e,f] X.env)=[(yi,eval e X.env),(yi,eval f X.env)]
def IsD(H:Hp)(a:yq):Prop:=(∃kvs,Rd H a (.dK kvs))\/∃kvs,Rd H a (.dT kvs)
theorem zu2{X:Cx}{pins:List (yq×Obj)}{σ:St}{H:Hp}{s:ym}{a:yq}(I:Inv X pins σ H s)(d:IsD H a) :
  s.TypeIs (.ref a) "dict"/\(∀b,yw a=.ref b->∃ob,s.heap.get? b=ya ob/\ob.dict=yk)/\(a==vx)=yi:=by
 rcases d with⟨kvs,e⟩ | ⟨kvs,e⟩
 ·obtain⟨_,hd,vs,_,dd⟩:=zi8 I.hok e
  refine⟨dd.typeIs,λb q=>?_,hd⟩;cases q;obtain⟨ob,_,_,h1,h2,_⟩:=dd;exact⟨ob,h1,h2.2.1⟩
 ·obtain⟨_,hd,xs,_,dd⟩:=zih I.hok e
  refine⟨dd.typeIs,λb q=>?_,hd⟩;cases q;obtain⟨ob,_,_,h1,h2,_⟩:=dd;exact⟨ob,h1,h2.2.1⟩
section
variable {X:Cx} {pins:List (yq×Obj)} {σ:St} {H:Hp} {s:ym} {a:yq} {y d:V} {u r:yh} {o:Option V} {A:x5} {E:yh→ym→Prop}
theorem zwc{Q:yh->ym->Prop}(hu:A.units+1<ju)(I:Inv X pins σ H s)(g:DGet H a y o)(ry:RelV y u)(rd:RelV d r)(h:∀w' s',Inv X pins σ H s'->RelV (o.getD d) w'->Q w' s') :
  y9 (model X.prog X.w) A (call (.builtin "dict.get") [.ref a,u,r]) Q E s:=by
 rcases g with⟨kvs,k,e,ey,l⟩ | ⟨kvs,k,b,e,ey,eb,l⟩
 ·subst ey
  refine zKK λγ κ=>?_;obtain⟨z,hd,vs,rel,dd⟩:=zi8 I.hok e;refine κ ?_;refine call_meetsIn ybu dd.typeIs ydp (ydb _ _ _) (meets_dict_get_default (mixKind X.prog X.w) a (zk9 ry) hd r) ⟨_,dd.mapOf,h _ _ (I.tok _) ?_⟩;rw[l];exact(rel.val k).getD rd
 ·subst ey
  cases(show u=yw b from ry);refine zKK λγ κ=>?_;obtain⟨z,hd,xs,rel,dd⟩:=zih I.hok e;refine κ ?_;refine call_meetsIn ybu dd.typeIs ydp (ydb _ _ _) (meetsH_dict_get_default (ych (mixKind X.prog X.w)) a b hd r) ⟨uz hu,k,xs,ze7 I.hok eb,dd,h _ _ (I.tok _) ?_⟩;rw[l];exact(rel.val k).getD rd
end
def tDGet2(td ty tx:TE):TE:=λσ H Q=>td σ H λx H1=>∃a,x=.ref a/\IsD H1 a/\ty σ H1 λy H2=>tx σ H2 λz H3=>∃o,DGet H3 a y o/\Q (o.getD z) H3
section
variable {X:Cx} {o e f:Expr} {apos cpos:Pos} {td ty tx:TE}
theorem zpd(hu:X.A.units+1<ju)(ho:PE X o td)(he:PE X e ty)(hf:PE X f tx)(m:M2 X o "get" apos e f cpos):PE X (.Call (.Attribute o "get" apos) [e,f] [] cpos) (tDGet2 td ty tx):=by
 intro pins s σ H Q I h;refine wpAny_Call_method m.base m.few m.line PySem.F.plainAttrs_dict ybu PySem.F.type_dict_get (thn (ho pins s σ H _ I h) λu s1 ζ=>?_);refine zKK λγ κ=>?_;obtain⟨x,H1,I1,rx,a,ex,d,q1⟩:=ζ;subst ex;obtain rfl:u=yw a:=rx;obtain⟨t1,t2,_⟩:=zu2 I1 d;refine κ ?_;refine⟨t1,t2,?_⟩;rw[m.trees]
 refine Calls.callWith_builtin rfl (Calls.evalArgs_plain (Calls.spliced_cons (thn (he pins s1 σ H1 _ I1 q1) λiv s2 ⟨y,H2,I2,ry,q2⟩ =>
  Calls.spliced_cons (thn (hf pins s2 σ H2 _ I2 q2) λfv s3 ⟨z,H3,I3,rz,ov,g,q3⟩=>Calls.spliced_nil ?_))))
 exact zwc hu I3 g ry rz λw' s4 I4 rw'=>⟨_,H3,I4,rw',q3⟩
end
end L2
namespace HT
open PySem PyProof.Rows
section
variable {prog:qw} {w:x8} {A:x5} {E:yh→ym→Prop} {s:ym}
theorem zb5{t sl:yq}{items:Array yh}{vl vu:yh}{lo hi:Option Int}{Q:yh->ym->Prop}(ht:yah s.heap t items)(hs:s.heap.IsSliceOf sl vl vu .none)(pl:IsPart vl lo)(pu:IsPart vu hi)
  (hw:sIx items.size 0 lo=0/\sIx items.size items.size hi=items.size) (h:Q (.ref t) s):y9 (model prog w) A (ya1 (.ref t) (.ref sl)) Q E s:=by
 obtain⟨os,hos,hcs,hds⟩:=id hs;have hTs:s.TypeIs (.ref sl) "slice":=⟨os,hos,hcs⟩;unfold ya1
 try with_reducible refine jw ?_
 first | refine yb (yj ?_) | skip
 refine yb (wpAny_sequenceKey ht.typeIs (by decide) ?_)
 refine yb (wpAny_callSpecial?_slot (name:=Str.ofString "__getitem__") ht.typeIs jj
  (x6 jj ht.typeIs entry_tuple_getitem ?_ (args_tuple_getitem _ _)))
 show y9 _ _ (Builtin.Tuple.tupleItemsOf (.ref t) >>= _) _ _ s;refine yb (tupleItemsOf_ ht ?_);refine yb (uj hTs ?_);rw[if_pos (by decide)];refine yb (zbh hs pl pu ?_)
 have hyes:(((sIx items.size 0 lo:Nat):Int)==0&&(1:Int)==1&&(sIx items.size items.size hi - sIx items.size 0 lo)==items.size)=yl:=by
  rw[hw.1,hw.2];simp
 show y9 _ _ (if(((sIx items.size 0 lo:Nat):Int)==0&&(1:Int)==1&&(sIx items.size items.size hi - sIx items.size 0 lo)==items.size)=yl then _ else _) _ _ s;rw[if_pos hyes];unfold Builtin.Tuple.tupleIsExact;refine yb (yb (uj ht.typeIs (yj ?_)));rw[if_pos (by rfl)];exact yb (wpAny_rule (yj ⟨_,rfl,yj h⟩))
end
end HT
namespace L2
open PySem PySem.Spec PyProof.Rows
section
variable {X:Cx}
theorem RelV.bool_iff{x:V}{v:yh}{c:Bool}(r:RelV x v):(v==ybv c)=decide (x=.bl c):=by
 cases x with
 | bl b=>cases r;cases b <;> cases c <;> rfl
 | non=>cases r;rfl
 | int _=>obtain⟨t,rfl⟩:=r;rfl
 | str _=>obtain⟨t,rfl⟩:=r;rfl
 | byt _=>obtain⟨t,rfl⟩:=r;rfl
 | flt _=>obtain⟨t,rfl⟩:=r;rfl
 | ref _=>cases r;rfl
 | ty _=>cases r;rfl
theorem zdd{x:V}{v:yh}{c:Bool}(r:RelV x v):plainIs v (.bool c)=yl:=by
 cases x with
 | bl b=>cases r;rfl
 | non=>cases r;rfl
 | int _=>obtain⟨t,rfl⟩:=r;rfl
 | str _=>obtain⟨t,rfl⟩:=r;rfl
 | byt _=>obtain⟨t,rfl⟩:=r;rfl
 | flt _=>obtain⟨t,rfl⟩:=r;rfl
 | ref _=>cases r;rfl
 | ty _=>cases r;rfl
theorem zv8:OpR X (je .Is) (λx y H Q=>∃c,y=.bl c/\Q (.bl (decide (x=.bl c))) H):=by
 intro pins s σ H x y v u Q I rx ry h;obtain⟨c,rfl,q⟩:=h;cases ry;exact wpAny_is_plain (zdd rx) ⟨.bl _,H,I,by rw[rx.bool_iff];rfl,q⟩
theorem zr1:OpR X (je .IsNot) (λx y H Q=>∃c,y=.bl c/\Q (.bl (!decide (x=.bl c))) H):=by
 intro pins s σ H x y v u Q I rx ry h;obtain⟨c,rfl,q⟩:=h;cases ry;exact wpAny_isNot_plain (zdd rx) ⟨.bl _,H,I,by rw[rx.bool_iff];rfl,q⟩
theorem zph:OpR X (yai .Add) (λx y H Q=>∃a b ys,x=.ref a/\y=.ref b/\SqT X.K H a []/\SqT X.K H b ys/\Q (.ref b) H):=by
 intro pins s σ H x y v u Q I rx ry h;refine zKK λγ κ=>?_;obtain⟨a,b,ys,rfl,rfl,ha,hb,q⟩:=h;cases rx;cases ry;obtain⟨its,r1,p1,_⟩:=I.tuple ha;obtain⟨its2,r2,p2,_⟩:=I.tuple hb;cases r1;obtain⟨⟨c1,d1,t1,sl1⟩,ho,hc,n,hd⟩:=p1;obtain⟨⟨c2,d2,t2,sl2⟩,ho2,hc2,n2,hd2⟩:=p2;simp only at hc hd hc2 hd2;refine κ ?_;subst hc hd hc2 hd2;exact concat_meets ⟨_,ho,rfl⟩ ⟨_,ho2,rfl⟩ noFill_tuple_add seq_tuple_add ybf ya8 (yas _ _) (tuple_addW0 a b _ its2.toArray n n2 d1 d2 sl1 sl2 (by simp)) ⟨ho,ho2,.ref b,H,I,rfl,q⟩
theorem ztx:OpR X (yai .Add) (λx y H Q=>∃a b xs ys,x=.ref a/\y=.ref b/\SqL X.K H a xs/\SqL X.K H b ys/\xs.length+ys.length<=y8/\∀p,H p=yk->Q (.ref p) (upd H p (.lst (xs++ys)))):=by
 intro pins s σ H x y v u Q I rx ry h;refine zKK λγ κ=>?_;obtain⟨a,b,xs,ys,rfl,rfl,ha,hb,hz,q⟩:=h;cases rx;cases ry;obtain⟨its,r1,⟨⟨c1,d1,t1,sl1⟩,n,ho,hc,hdd,hd⟩,_⟩:=I.list ha;obtain⟨its2,r2,⟨⟨c2,d2,t2,sl2⟩,n2,ho2,hc2,hdd2,hd2⟩,_⟩:=I.list hb;simp only at hc hd hc2 hd2 hdd hdd2;refine κ ?_;subst hc hd hc2 hd2;have e:its.toArray++its2.toArray=(its++its2).toArray:=by simp
 refine concat_meets ⟨_,ho,rfl⟩ ⟨_,ho2,rfl⟩ noFill_list_add seq_list_add PySem.F.slot_list_add PySem.F.entry_list_add (PySem.F.args_list_add_2 _ _) (list_addW a b its.toArray its2.toArray n n2 d1 d2 sl1 sl2 (by rw[yt,yt,← r1.length,← r2.length];exact hz)) ⟨ho,ho2,?_⟩;rw[e];exact⟨.ref _,_,I.lnew (t':=s.toks) (r1.append r2) (by rw[yu];exact hz),rfl,q _ I.fresh⟩
theorem zti:SlR X (λx lo hi H Q=>∃a xs,x=.ref a/\SqT X.K H a xs/\(HT.sIx xs.length 0 lo=0/\HT.sIx xs.length xs.length hi=xs.length)/\Q (.ref a) H):=by
 intro pins s σ H x v vl vu lo hi sl Q I rx hs pl pu h;refine zKK λγ κ=>?_;obtain⟨a,xs,rfl,hx,hw,q⟩:=h;cases rx;obtain⟨its,r,ht,hz⟩:=I.tuple hx;refine κ ?_;have hlen:its.toArray.size=xs.length:=by rw[yt];exact r.length.symm
 refine⟨"tuple",_,jj.lookup,ht.typeIs,?_⟩;exact HT.zb5 ht hs pl pu (by rw[hlen];exact hw) ⟨.ref a,H,I,rfl,q⟩
inductive TyV (K:Frag) (H:Hp):V->String->Prop where
 | non:TyV K H .non "NoneType"
 | bl (x:Bool):TyV K H (.bl x) "bool"
 | int (i:Int):TyV K H (.int i) "int"
 | str (x:Str):TyV K H (.str x) "str"
 | lst {a:yq} {xs:List V} (h:SqL K H a xs):TyV K H (.ref a) "list"
 | tup {a:yq} {xs:List V} (h:SqT K H a xs):TyV K H (.ref a) "tuple"
 | dic {a:yq} (h:(∃kvs,H a=ya (.dK kvs))\/∃kvs,H a=ya (.dT kvs)):TyV K H (.ref a) "dict"
theorem zqg:CallR X (.builtin "isinstance") (λxs H Q=>∃x T t k,xs=[x,.ty T]/\TyV X.K H x t/\ye3 X.K (.type t) (.type T)=ya k/\Q (.bl k) H):=by
 intro pins s σ H xs us Q I r h;refine zKK λγ κ=>?_;obtain⟨x,T,t,k,rfl,ty,e,q⟩:=h;obtain⟨u,u2,rfl,rx,ry⟩:=vals2 r;refine κ ?_;cases(show u2=ut T from ry);have fin:∀tk,EP X pins σ Q (.bool k) { s with toks:=tk}:=λtk=>⟨.bl k,H,I.tok tk,rfl,q⟩
 cases ty with
 | non=>cases(show u=Value.none from rx);exact ua PySem.W.kitx_none I.kIn x4 e (λz=>nomatch z) fin
 | bl y=>cases(show u=ybv y from rx);exact ua PySem.W.kitx_bool I.kIn x4 e (λz=>nomatch z) fin
 | int i=>obtain⟨t,z⟩:=(show∃t,u=ya7 i t from rx);cases z;exact ua PySem.W.kitx_int I.kIn x4 e (λz=>nomatch z) fin
 | str y=>obtain⟨t,z⟩:=(show∃t,u=yeq y t from rx);cases z;exact ua PySem.W.kitx_str I.kIn x4 e (λz=>nomatch z) fin
 | @lst a xs ha =>
  cases(show u=yw a from rx);refine zKK λγ κ=>?_;obtain⟨its,_,⟨o,n,h1,h2,_⟩,_⟩:=I.list ha;refine κ ?_;exact ua PySem.W.kitx_list I.kIn ⟨_,h1,h2⟩ e (λz=>nomatch z) fin
 | @tup a xs ha =>
  cases(show u=yw a from rx);refine zKK λγ κ=>?_;obtain⟨its,_,⟨o,h1,h2,_⟩,_⟩:=I.tuple ha;refine κ ?_;exact ua PySem.W.kitx_tuple I.kIn ⟨_,h1,h2⟩ e (λz=>nomatch z) fin
 | @dic a ha =>
  cases(show u=yw a from rx)
  have ht:s.TypeIs (.ref a) "dict":=by
   rcases ha with⟨kvs,ha⟩ | ⟨kvs,ha⟩
   ·obtain⟨_,_,vs,_,dd⟩:=zp7 I.hok ha
    exact dd.typeIs
   ·obtain⟨_,_,vs,_,dd⟩:=zul I.hok ha
    exact dd.typeIs
  obtain⟨o,h1,h2⟩:=ht;exact ua PySem.W.kitx_dict I.kIn ⟨_,h1,h2⟩ e (λz=>nomatch z) fin
theorem zpj:CallR X (.builtin "all") (λxs H Q=>∃(p:yq) (ks:List Bool),xs=[.ref p]/\SqL X.K H p (ks.map V.bl)/\X.calm=yl/\Q (.bl (ks.all id)) H):=by
 intro pins s σ H xs us Q I r h;refine zKK λγ κ=>?_;obtain⟨p,ks,rfl,hq,hc,q⟩:=h;obtain⟨u,rfl,ru⟩:=vals1 r;cases ru;obtain⟨its,rv,pl,hz⟩:=I.list hq;refine κ ?_;have hlen:its.length=ks.length:=by rw[← rv.length,yd]
 have hlt:p<s.heap.objs.size:=by obtain⟨o,n,h1,_⟩:=pl;exact yx h1
 have bits:∀(i:Nat) (v:yh),its.toArray[i]? = ya v->∃k,ks[i]? = ya k/\v=ybv k:=λi v hv=>by
  have hi:its[i]? = ya v:=by simpa using hv
  have hl:i<ks.length:=by rw[← hlen];exact(qk.mp hi).1
  obtain⟨u,h1,h2⟩:=rv.get (i:=i) (x:=.bl ks[i]) (by rw[yy,yc hl];rfl);rw[hi]at h1;cases h1;exact⟨ks[i],yc hl,h2⟩
 refine call_all_walk (yc4 pl.isList ?_);refine⟨s.heap.objs.size,_,_,its.toArray.size,_,_,λi=>ks.getD i yi,rfl,Walks.list (A:=X.A.in1) (I.ok.hd hc) s.heap.objs.size p (qg hlt) its.toArray,⟨⟨_,y4 _ rfl,rfl,rfl⟩,?_⟩,λi v s' Q' E' hv hQ=>?_,λh' tk hk=>?_⟩
 ·obtain⟨o,n,h1,h2,h3,h4⟩:=pl
  exact⟨o,yp _ h1,h2,n,h4⟩
 ·obtain⟨k,h1,rfl⟩:=bits i v hv
  refine uf ?_;have e:ks.getD i yi=k:=by simp[vp,h1]
  rw[← e];exact hQ
 ·have I1:Inv X pins σ H { s with heap:=h',toks:=tk}:=I.kept λb o e=>hk b o (by simp;exact qg (yx e)) (yp _ e)
  refine⟨.bl _,H,I1,rfl,?_⟩
  have e:((q5 its.toArray.size).all λi=>ks.getD i yi)=ks.all id:=by
   rw[yt,hlen];clear q I1 bits rv hq hlen hz;induction ks with
   | nil=>rfl
   | cons k r ih =>
    rw[qf,vj,wn,w4,wn,← ih];rfl
  rw[e];exact q
theorem zqe:CallR X (.builtin "any") (λxs H Q=>∃(p:yq) (ks:List Bool),xs=[.ref p]/\SqL X.K H p (ks.map V.bl)/\X.calm=yl/\Q (.bl (ks.any id)) H):=by
 intro pins s σ H xs us Q I r h;refine zKK λγ κ=>?_;obtain⟨p,ks,rfl,hq,hc,q⟩:=h;obtain⟨u,rfl,ru⟩:=vals1 r;cases ru;obtain⟨its,rv,pl,hz⟩:=I.list hq;refine κ ?_;have hlen:its.length=ks.length:=by rw[← rv.length,yd]
 have hlt:p<s.heap.objs.size:=by obtain⟨o,n,h1,_⟩:=pl;exact yx h1
 have bits:∀(i:Nat) (v:yh),its.toArray[i]? = ya v->∃k,ks[i]? = ya k/\v=ybv k:=λi v hv=>by
  have hi:its[i]? = ya v:=by simpa using hv
  have hl:i<ks.length:=by rw[← hlen];exact(qk.mp hi).1
  obtain⟨u,h1,h2⟩:=rv.get (i:=i) (x:=.bl ks[i]) (by rw[yy,yc hl];rfl);rw[hi]at h1;cases h1;exact⟨ks[i],yc hl,h2⟩
 refine call_any_walk (yc4 pl.isList ?_);refine⟨s.heap.objs.size,_,_,its.toArray.size,_,_,λi=>ks.getD i yi,rfl,Walks.list (A:=X.A.in1) (I.ok.hd hc) s.heap.objs.size p (qg hlt) its.toArray,⟨⟨_,y4 _ rfl,rfl,rfl⟩,?_⟩,λi v s' Q' E' hv hQ=>?_,λh' tk hk=>?_⟩
 ·obtain⟨o,n,h1,h2,h3,h4⟩:=pl
  exact⟨o,yp _ h1,h2,n,h4⟩
 ·obtain⟨k,h1,rfl⟩:=bits i v hv
  refine uf ?_;have e:ks.getD i yi=k:=by simp[vp,h1]
  rw[← e];exact hQ
 ·have I1:Inv X pins σ H { s with heap:=h',toks:=tk}:=I.kept λb o e=>hk b o (by simp;exact qg (yx e)) (yp _ e)
  refine⟨.bl _,H,I1,rfl,?_⟩
  have e:((q5 its.toArray.size).any λi=>ks.getD i yi)=ks.any id:=by
   rw[yt,hlen];clear q I1 bits rv hq hlen hz;induction ks with
   | nil=>rfl
   | cons k r ih =>
    rw[qf,vj,wz,yan,wz,← ih];rfl
  rw[e];exact q
end
open PySem.AutoSeq1 (wpAny_loadPart')
noncomputable def Ite(S:Hp->List V->Prop):It :=
 ⟨λi H=>∃xs x,S H xs/\xs[i]? = ya x,λi H v H'=>∃p,H p=yk/\v=.ref p/\∀xs,S H xs->∃x,xs[i]? = ya x/\H'=upd H p (.tup [.int i,x]),λi H=>∃xs,S H xs/\xs.length<=i⟩
theorem zlm{P:qw}{w:x8}{K:Frag}{es:List Expr}{k:Nat}{pos:Pos}(a e j:yq)(hej:e≠j)(hae:a≠e)(haj:a≠j) :
  Turn P w K (.Tuple es k pos) (Ite λH xs=>SqL K H a xs) [e,j] e (λi h=>(∃old,IsEnum h e j (i:Nat) old)/\h.IsListIter j a i) where
 mem:=by simp
 obj:=λi h st b hb=>by
  rcases yn.mp hb with rfl | hb
  ·obtain⟨⟨old,x⟩,_⟩:=st
   exact⟨_,x,λv z=>by cases(show Data.fields _=Data.cell v from z)⟩
  ·have z:b=j:=by simpa using hb
   subst z;refine zKK λγ κ=>?_;obtain⟨_,⟨o,x,_,d⟩⟩:=st;refine κ ?_;exact⟨o,x,λv z=>by rw[d]at z;cases z⟩
 keep:=λi h h' st kk=>by
  obtain⟨⟨old,x⟩,it⟩:=st;exact⟨⟨old,kk e (by simp) _ x⟩,it.at λo y=>kk j (by simp) o y⟩
 item:=by
  intro X hP hw hK hc i pins s σ H E I hf st hg;subst hP hw hK;refine zKK λγ κ=>?_;obtain⟨⟨old,he⟩,hj⟩:=st;obtain⟨xs,x,hq,hx⟩:=hg;obtain⟨its,rv,p,hz⟩:=I.list hq;obtain⟨u,hu,ru⟩:=rv.get hx;obtain⟨f0,f1,f2,f3,f4,f5⟩:=hf e (by simp);obtain⟨g0,g1,g2,g3,g4,g5⟩:=hf j (by simp);have le:e<s.heap.objs.size:=yx he;refine κ ?_;have lj:j<s.heap.objs.size:=by obtain⟨_,z,_⟩:=hj;exact yx z
  refine wpAny_pyNext_enum_item he hj p.isList (x:=u) (by simpa using hu) hej λh' ho hj' hT hsz hk=>⟨_,rfl,?_⟩
  refine wpAny_letOwnedTupleGo_enum ho λh'' he'' hs''=>?_
  -- a pair is new,the two records have turned
  have k2:∀b o,b≠e->b≠j->s.heap.get? b=ya o->h''.get? b=ya o:=λb o n1 n2 z=>(hs''.2 b n1).trans (hk b o n1 n2 z)
  have tT:h''.get? s.heap.objs.size=ya { cls:=.type "tuple",data:=.seq #[.int i s.toks,u]}:=(hs''.2 _ (uu le)).trans hT;have fr:H s.heap.objs.size=yk:=I.fresh
  have I1:Inv X pins σ (upd H s.heap.objs.size (.tup [.int i,x])) { s with heap:=h'',toks:=s.toks+1}:=by
   refine I.step (g':=s.gens) (d':=s.drawn) (ch:=[e,j]) (λb hb=>?_) (λb o _ _ hcb z _=>k2 b o (λy=>hcb (by simp[y])) (λy=>hcb (by simp[y])) z) (λb o _ _ hcb z _=>⟨o.slots,k2 b o (λy=>hcb (by simp[y])) (λy=>hcb (by simp[y])) z⟩)
    (λb o _ z n=>by rw[zh (qg (yx z))];exact n) (λb o hcb z=>⟨o,k2 b o (λy=>hcb (by simp[y])) (λy=>hcb (by simp[y])) z⟩)
    (λb ys z=>by rw[zh (zg z fr)];exact z) (λb o v z=>by rw[zh (zg z fr)];exact z) (λb ps z=>⟨#[],by rw[zh (zg z fr),z];simp⟩) (λm hm=>?_) (λb v z=>?_) I.bare
   ·rcases yn.mp hb with rfl | hb
    ·exact⟨f3,f1,f4,f5⟩
    ·have z:b=j:=by simpa using hb
     subst z;exact⟨g3,g1,g4,g5⟩
   ·obtain⟨o,es',ep,ho',r⟩:=hm
    exact⟨o,es',ep,k2 _ o (xg f1) (xg g1) ho',r⟩
   ·by_cases hb:b=s.heap.objs.size
    ·subst hb
     rw[zj]at z;cases z;exact⟨by show 2<=y8;decide,[.int i s.toks,u],.cons ⟨_,rfl⟩ (.cons ru .nil),⟨⟨_,tT,rfl,_,rfl⟩,_,tT,rfl⟩⟩
    ·rw[zh hb]at z
     refine(I.hok b v z).stay (λc o hc' y=>k2 c o ?_ ?_ y) (λc y=>by rw[zh (zg y fr)];exact y) λc ys y=>by rw[zh (zg y fr)];exact y
     ·rcases hc' with y | y
      ·rw[y];exact zg z f0
      ·exact zg y f0
     ·rcases hc' with y | y
      ·rw[y];exact zg z g0
      ·exact zg y g0
  refine⟨.ref s.heap.objs.size,_,I1,rfl,⟨_,fr,rfl,λys hy=>⟨x,by rw[I.list_inj hy hq];exact hx,rfl⟩⟩,⟨⟨u,by simpa using he''⟩,?_⟩,λb hb=>?_⟩
  ·exact hj'.at λo z=>(hs''.2 j (xg hej)).trans z
  ·have hb':b<s.heap.objs.size:=by
    rcases yn.mp hb with rfl | hb
    ·exact le
    ·have z:b=j:=by simpa using hb
     subst z;exact lj
   rw[zh (qg hb')];exact(hf b hb).1
 done:=by
  intro X hP hw hK hc i pins s σ H E I hf st hg;subst hP hw hK;refine zKK λγ κ=>?_;obtain⟨⟨old,he⟩,hj⟩:=st;obtain⟨xs,hq,hx⟩:=hg;obtain⟨its,rv,p,hz⟩:=I.list hq;obtain⟨g0,g1,g2,g3,g4,g5⟩:=hf j (by simp);have hl:=rv.length;refine κ ?_;exact wpAny_pyNext_enum_end (I.ok.hd hc) he hj p.isList (by simp;lia) λh' eb=>⟨rfl,I.turned (t':=s.toks) (λb o hb z=>eb b o hb z) g0 g1 g3 g4 g5⟩
 self:=λA i s Q E st h=>by
  obtain⟨⟨old,he⟩,hj⟩:=st;exact wpAny_pyIter_enum he h
section
variable {X:Cx} {l:Expr} {tl:TE} {tg:Expr}
theorem zpm(hl:PE X l tl):PI X tg l (λσ H R=>tl σ H λx H1=>∃a xs,x=.ref a/\SqL X.K H1 a xs/\(xs.length<=y8->R (Itl X.K a) H1)):=by
 intro pins s σ H R I h;refine thn (hl pins s σ H _ I h) λv s1 ζ=>?_;obtain⟨x,H1,I1,r1,q1⟩:=ζ
 refine zKK λγ κ=>?_;obtain⟨a,xs,e,hq,q⟩:=q1;subst e;cases r1;obtain⟨its,rv,p,hz⟩:=I1.list hq;refine κ ?_;refine yc4 p.isList ⟨s1.heap.objs.size,[s1.heap.objs.size],_,_,H1,rfl,I1.kept (t':=s1.toks) λb o e=>yp _ e,zn1 a _,⟨_,y4 _ rfl,rfl,rfl⟩,λb hb=>?_,q hz⟩;have e:b=s1.heap.objs.size:=by simpa using hb
 subst e;exact I1.fpOk (y6 _) I1.fresh
theorem zsa(hl:PE X l tl):PI X tg l (λσ H R=>tl σ H λx H1=>∃a xs,x=.ref a/\SqT X.K H1 a xs/\(xs.length<=y8->R (Itt X.K a) H1)):=by
 intro pins s σ H R I h;refine thn (hl pins s σ H _ I h) λv s1 ζ=>?_;obtain⟨x,H1,I1,r1,q1⟩:=ζ
 refine zKK λγ κ=>?_;obtain⟨a,xs,e,hq,q⟩:=q1;subst e;cases r1;obtain⟨its,rv,p,hz⟩:=I1.tuple hq;refine κ ?_;refine wpAny_pyIter_tuple (show s1.heap.IsTuple a its.toArray from p) ⟨s1.heap.objs.size,[s1.heap.objs.size],_,_,H1,rfl,I1.kept (t':=s1.toks) λb o e=>yp _ e,zk8 a _,⟨_,y4 _ rfl,rfl,rfl⟩,λb hb=>?_,q hz⟩;have e:b=s1.heap.objs.size:=by simpa using hb
 subst e;exact I1.fpOk (y6 _) I1.fresh
theorem zqz{ta:TA}{es:List Expr}{k:Nat}{pt p pos:Pos}(hg:Gl X "enumerate")(hm:X.mg "enumerate" = yk)(ha:PA X [l] ta)(hs:jh [l] X.env=[(yi,eval l X.env)]) :
  PI X (.Tuple es k pt) (.Call (.Name "enumerate" p) [l] [] pos) (λσ H R=>ta σ H λvs H1=>∃a xs,vs=[.ref a]/\SqL X.K H1 a xs/\(xs.length<=y8->R (Ite λH xs=>SqL X.K H a xs) H1)):=by
 intro pins s σ H R I h;refine Call_ (zdb I hg hm boot_enumerate (jz (thn (ha pos pins s σ H _ I h) λus s1 ζ=>?_) hs rfl));refine zKK λγ κ=>?_;obtain⟨vs,H1,I1,r1,q1⟩:=ζ;obtain⟨a,xs,rfl,hq,q⟩:=q1;obtain⟨u,rfl,ru⟩:=vals1 r1;cases ru;obtain⟨its,rv,pl,hz⟩:=I1.list hq;refine κ ?_;have la:a<s1.heap.objs.size:=by obtain⟨o,n,z,_⟩:=pl;exact yx z
 refine call_enumerate_list pl.isList λg he hj hsz hk=>wpAny_pyIter_enum he ?_
 refine⟨s1.heap.objs.size+1,[s1.heap.objs.size+1,s1.heap.objs.size],_,_,H1,rfl,I1.kept (t':=s1.toks) hk,zlm a _ _ (Nat.succ_ne_self _) (qg (vc la)) (qg la),⟨⟨_,by simpa using he⟩,hj⟩,λb hb=>?_,q hz⟩
 have hb':s1.heap.objs.size<=b:=by
  rcases yn.mp hb with rfl | hb
  ·exact ya9 _
  ·have:b=s1.heap.objs.size:=by simpa using hb
   exact Nat.le_of_eq this.symm
 exact I1.fpOk hb' (I1.hok.fresh hb')
end
noncomputable def Itz(S T:Hp->List V->Prop):It :=
 ⟨λi H=>∃xs ys x y,S H xs/\T H ys/\xs[i]? = ya x/\ys[i]? = ya y,λi H v H'=>∃p,H p=yk/\v=.ref p/\∀xs ys,S H xs->T H ys->∃x y,xs[i]? = ya x/\ys[i]? = ya y/\H'=upd H p (.tup [x,y]),λi H=>∃xs ys,S H xs/\T H ys/\(xs.length<=i\/ys.length<=i)⟩
noncomputable def ZipAt(z TI TO i1 i2 l1 l2:yq)(i:Nat)(h:Heap):Prop:=IsZip h z TI TO .none/\IsPair h TI (.ref i1) (.ref i2)/\(∃a b,IsPair h TO a b)/\h.IsListIter i1 l1 i/\h.IsListIter i2 l2 i
theorem zql{P:qw}{w:x8}{K:Frag}{es:List Expr}{k:Nat}{pos:Pos}(z TI TO i1 i2 l1 l2:yq)(D:ZipApart z TI TO i1 i2 l1 l2) :
  Turn P w K (.Tuple es k pos) (Itz (λH xs=>SqL K H l1 xs) λH xs=>SqL K H l2 xs) [z,TI,TO,i1,i2] z (ZipAt z TI TO i1 i2 l1 l2) where
 mem:=by simp
 obj:=λi h ⟨hz,hTI,⟨a,b,hTO⟩,⟨o1,x1,_,d1⟩,⟨o2,x2,_,d2⟩⟩ c hc=>by
  simp only[yn,jb,or_false]at hc;rcases hc with rfl | rfl | rfl | rfl | rfl
  ·exact⟨_,hz,λv z=>by cases(show Data.fields _=Data.cell v from z)⟩
  ·exact⟨_,hTI,λv z=>by cases(show Data.seq _ _=Data.cell v from z)⟩
  ·exact⟨_,hTO,λv z=>by cases(show Data.seq _ _=Data.cell v from z)⟩
  ·exact⟨o1,x1,λv z=>by rw[d1]at z;cases z⟩
  ·exact⟨o2,x2,λv z=>by rw[d2]at z;cases z⟩
 keep:=λi h h' ⟨hz,hTI,⟨a,b,hTO⟩,h1,h2⟩ kk=>⟨kk z (by simp) _ hz,kk TI (by simp) _ hTI,⟨a,b,kk TO (by simp) _ hTO⟩,h1.at λo y=>kk i1 (by simp) o y,h2.at λo y=>kk i2 (by simp) o y⟩
 item:=by
  rintro X hP hw hK hc i pins s σ H E I hf ⟨hz,hTI,⟨a,b,hTO⟩,h1,h2⟩ ⟨xs,ys,x,y,q1,q2,e1,e2⟩;subst hP hw hK;obtain⟨its,rv,p,_⟩:=I.list q1;obtain⟨its',rv',p',_⟩:=I.list q2;obtain⟨u,hu,ru⟩:=rv.get e1;obtain⟨u',hu',ru'⟩:=rv'.get e2
  have lt:∀c∈[z,TI,TO,i1,i2],c<s.heap.objs.size:=λc hc=>by
   simp only[yn,jb,or_false]at hc;rcases hc with rfl | rfl | rfl | rfl | rfl
   ·exact yx hz
   ·exact yx hTI
   ·exact yx hTO
   ·obtain⟨_,e,_⟩:=h1;exact yx e
   ·obtain⟨_,e,_⟩:=h2;exact yx e
  refine wpAny_pyNext_zip_item D hz hTI hTO h1 h2 p.isList p'.isList (x:=u) (y:=u') (by simpa using hu) (by simpa using hu') λh' a1 a2 a3 a4 a5 a6 hk=>⟨_,rfl,?_⟩
  refine wpAny_letOwnedTupleGo_zip a1 λh'' hz'' hs''=>?_
  have k2:∀c o,c∉[z,TO,i1,i2]->s.heap.get? c=ya o->h''.get? c=ya o:=λc o n g=>(hs''.2 c λy=>n (by simp[y])).trans (hk c o (λy=>n (by simp[y])) (λy=>n (by simp[y])) (λy=>n (by simp[y])) (λy=>n (by simp[y])) g)
  have tT:h''.get? s.heap.objs.size=ya { cls:=.type "tuple",data:=.seq #[u,u']}:=(hs''.2 _ (uu (lt z (by simp)))).trans a5;have fr:H s.heap.objs.size=yk:=I.fresh
  have sub:∀c∈[z,TO,i1,i2],c∈[z,TI,TO,i1,i2]:=λc hc=>by
   simp only[yn,jb,or_false]at hc ⊢;rcases hc with h | h | h | h <;> simp[h]
  have I1:Inv X pins σ (upd H s.heap.objs.size (.tup [x,y])) { s with heap:=h''}:=by
   refine I.step (g':=s.gens) (d':=s.drawn) (t':=s.toks) (ch:=[z,TO,i1,i2]) (λc hc=>?_) (λc o _ _ hcc g _=>k2 c o hcc g) (λc o _ _ hcc g _=>⟨o.slots,k2 c o hcc g⟩)
    (λc o _ g n=>by rw[zh (qg (yx g))];exact n) (λc o hcc g=>⟨o,k2 c o hcc g⟩)
    (λc ys g=>by rw[zh (zg g fr)];exact g) (λc o v g=>by rw[zh (zg g fr)];exact g) (λc ps g=>⟨#[],by rw[zh (zg g fr),g];simp⟩) (λm hm=>?_) (λc v g=>?_) I.bare
   ·obtain⟨f0,f1,f2,f3,f4,f5⟩:=hf c (sub c hc)
    exact⟨f3,f1,f4,f5⟩
   ·obtain⟨o,es',ep,ho',r⟩:=hm
    exact⟨o,es',ep,k2 _ o (λhc=>(hf _ (sub _ hc)).2.1 rfl) ho',r⟩
   ·by_cases hb:c=s.heap.objs.size
    ·subst hb
     rw[zj]at g;cases g;exact⟨by show 2<=y8;decide,[u,u'],.cons ru (.cons ru' .nil),⟨⟨_,tT,rfl,_,rfl⟩,_,tT,rfl⟩⟩
    ·rw[zh hb]at g
     refine(I.hok c v g).stay (λd o hd y=>k2 d o (λhm=>?_) y) (λd y=>by rw[zh (zg y fr)];exact y) λd ys y=>by rw[zh (zg y fr)];exact y
     have n0:=(hf d (sub d hm)).1;rcases hd with y | y
     ·rw[y,g]at n0;cases n0
     ·rw[y]at n0;cases n0
  refine⟨.ref s.heap.objs.size,_,I1,rfl,⟨_,fr,rfl,λws zs hw hz=>⟨x,y,by rw[I.list_inj hw q1];exact e1,by rw[I.list_inj hz q2];exact e2,rfl⟩⟩,⟨hz'',k2 _ _ (λhm=>?_) hTI,⟨_,_,(hs''.2 TO D.TOz).trans a2⟩,a3.at λo g=>(hs''.2 i1 D.i1z).trans g,a4.at λo g=>(hs''.2 i2 D.i2z).trans g⟩,λc hc=>?_⟩
  ·simp only[yn,jb,or_false]at hm
   rcases hm with y | y | y | y
   ·exact D.TIz y
   ·exact D.TITO y
   ·exact D.TIi1 y
   ·exact D.TIi2 y
  ·rw[zh (qg (lt c hc))]
   exact(hf c hc).1
 done:=by
  rintro X hP hw hK hc i pins s σ H E I hf ⟨hz,hTI,⟨a,b,hTO⟩,h1,h2⟩ ⟨xs,ys,q1,q2,hl⟩;subst hP hw hK;obtain⟨its,rv,p,_⟩:=I.list q1;obtain⟨its',rv',p',_⟩:=I.list q2;have l1:=rv.length;have l2:=rv'.length;refine wpAny_pyNext_zip_end (I.ok.hd hc) D hz hTI hTO h1 h2 p.isList p'.isList (hl.imp (λh=>by simp;lia) λh=>by simp;lia) λh' hk=>⟨rfl,?_⟩
  have k2:∀c o,c∉[z,TO,i1,i2]->s.heap.get? c=ya o->h'.get? c=ya o:=λc o n g=>hk c o (λy=>n (by simp[y])) (λy=>n (by simp[y])) (λy=>n (by simp[y])) (λy=>n (by simp[y])) g
  have sub:∀c∈[z,TO,i1,i2],c∈[z,TI,TO,i1,i2]:=λc hc=>by
   simp only[yn,jb,or_false]at hc ⊢;rcases hc with h | h | h | h <;> simp[h]
  refine I.step (g':=s.gens) (d':=s.drawn) (t':=s.toks) (ch:=[z,TO,i1,i2]) (λc hc=>?_) (λc o _ _ hcc g _=>k2 c o hcc g) (λc o _ _ hcc g _=>⟨o.slots,k2 c o hcc g⟩) (λ_ _ _ _ n=>n)
   (λc o hcc g=>⟨o,k2 c o hcc g⟩) (λ_ _ e=>e) (λ_ _ _ e=>e) (λb ps e=>⟨#[],by rw[e];simp⟩) (λm hm=>?_) (λc v g=>?_) I.bare
  ·obtain⟨f0,f1,f2,f3,f4,f5⟩:=hf c (sub c hc)
   exact⟨f3,f1,f4,f5⟩
  ·obtain⟨o,es',ep,ho',r⟩:=hm
   exact⟨o,es',ep,k2 _ o (λhc=>(hf _ (sub _ hc)).2.1 rfl) ho',r⟩
  ·refine(I.hok c v g).stay (λd o hd y=>k2 d o (λhm=>?_) y) (λ_ y=>y) λ_ _ y=>y
   have n0:=(hf d (sub d hm)).1;rcases hd with y | y
   ·rw[y,g]at n0;cases n0
   ·rw[y]at n0;cases n0
 self:=λA i s Q E st h=>wpAny_pyIter_zip st.1 h
section
variable {X:Cx} {l m:Expr}
theorem zuv{ta:TA}{es:List Expr}{k:Nat}{pt p pos:Pos}(hg:Gl X "zip")(hm:X.mg "zip" = yk)(ha:PA X [l,m] ta)(hs:jh [l,m] X.env=[(yi,eval l X.env),(yi,eval m X.env)])(hs2:jh [m] X.env=[(yi,eval m X.env)]) :
  PI X (.Tuple es k pt) (.Call (.Name "zip" p) [l,m] [] pos) (λσ H R=>ta σ H λvs H1=>∃a b xs ys,vs=[.ref a,.ref b]/\SqL X.K H1 a xs/\SqL X.K H1 b ys/\(xs.length<=y8->ys.length<=y8->R (Itz (λH xs=>SqL X.K H a xs) λH xs=>SqL X.K H b xs) H1)):=by
 intro pins s σ H R I h;refine Call_ (zdb I hg hm (show ud "zip" = ya (.type "zip")by decide +kernel) (jz (thn (ha pos pins s σ H _ I h) λus s1 ⟨vs,H1,I1,r1,q1⟩=>?_) (by rw[hs,hs2]) (by rw[hs2];rfl)));refine zKK λγ κ=>?_;obtain⟨a,b,xs,ys,rfl,hq,hq',q⟩:=q1;obtain⟨u,u',rfl,ru,ru'⟩:=r1.two;cases ru;cases ru';obtain⟨its,rv,pl,hz⟩:=I1.list hq;obtain⟨its',rv',pl',hz'⟩:=I1.list hq';refine κ ?_;have la:a<s1.heap.objs.size:=by obtain⟨o,n,z,_⟩:=pl;exact yx z
 have lb:b<s1.heap.objs.size:=by obtain⟨o,n,z,_⟩:=pl';exact yx z
 refine call_zip_2 pl.isList pl'.isList λg hZ hTI hTO h1 h2 hsz hk=>wpAny_pyIter_zip hZ ?_
 have ap:∀{c n:Nat} (j:Nat),c<n->c≠n+j:=λj h=>by lia
 have ap2:∀{n:Nat} (i j:Nat),i≠j->n+i≠n+j:=λi j h=>by lia
 have ap3:∀{n:Nat} (j:Nat),j≠0->n+j≠n:=λj h=>by lia
 have D:ZipApart (s1.heap.objs.size+4) (s1.heap.objs.size+2) (s1.heap.objs.size+3) s1.heap.objs.size (s1.heap.objs.size+1) a b :=
  ⟨ap2 2 4 (by decide),ap2 3 4 (by decide),(ap3 4 (by decide)).symm,ap2 1 4 (by decide),ap2 2 3 (by decide),ap3 2 (by decide),ap2 2 1 (by decide),ap3 3 (by decide),ap2 3 1 (by decide),(ap3 1 (by decide)).symm,ap 4 la,ap 3 la,ap 0 la,ap 1 la,ap 4 lb,ap 3 lb,ap 0 lb,ap 1 lb⟩
 refine⟨s1.heap.objs.size+4,_,_,_,H1,rfl,I1.kept (t':=s1.toks) hk,zql _ _ _ _ _ a b D,⟨hZ,hTI,⟨_,_,hTO⟩,h1,h2⟩,λc hc=>?_,q hz hz'⟩
 have hb':s1.heap.objs.size<=c:=by
  simp only[yn,jb,or_false]at hc;rcases hc with y | y | y | y | y <;> rw[y] <;> first | exact y6 _ | exact ydc _ _
 exact I1.fpOk hb' (I1.hok.fresh hb')
end
end L2
namespace ST
open PySem PySem.SetTable
abbrev Ris(l:List Nat):Prop:=l.Pairwise (· < ·)
theorem zc6{l:List Nat}(h:Ris l){i k:Nat}{a b:Nat}(hi:l[i]? = ya a)(hk:l[k]? = ya b)(lt:i<k):a<b:=by
 obtain⟨h1,rfl⟩:=qk.mp hi;obtain⟨h2,rfl⟩:=qk.mp hk;exact yar.mp h i k h1 h2 lt
def Parts(l:List Nat)(j r:Nat):Prop:=r<=l.length/\(∀i a,l[i]? = ya a->i<r->a<j)/\∀i a,l[i]? = ya a->r<=i->j<=a
theorem zfp{xs:Array Nat}(hx:Ris xs.toList)(j:Nat):∀(fuel lo hi:Nat),lo<=hi->hi<=xs.size->hi - lo<=fuel->(∀i a,xs.toList[i]? = ya a->i<lo->a<j)->(∀i a,xs.toList[i]? = ya a->hi<=i->j<=a)->Parts xs.toList j (below.go xs j fuel lo hi)
 | 0,lo,hi,h1,h2,h3,h4,h5=>by
  have e:lo=hi:=by lia
  subst e;unfold below.go;exact⟨by simpa using h2,h4,h5⟩
 | fuel+1,lo,hi,h1,h2,h3,h4,h5=>by
  unfold below.go;by_cases hlt:lo<hi
  ·rw[if_pos hlt]
   have hm:(lo+hi) / 2<xs.size:=by lia
   have em:xs.toList[(lo+hi) / 2]? = ya (xs[(lo+hi) / 2]):=by rw[xa];exact xz hm
   have eg:xs.getD ((lo+hi) / 2) j=xs[(lo+hi) / 2]:=by simp[ybw,hm]
   dsimp only;rw[eg];split
   ·rename_i hc
    refine zfp hx j fuel _ _ (by lia) h2 (by lia) (λi a ha hi'=>?_) h5;by_cases e:i=(lo+hi) / 2
    ·subst e;rw[em]at ha;cases ha;exact hc
    ·exact yej (zc6 hx ha em (by lia)) hc
   ·rename_i hc
    refine zfp hx j fuel _ _ (by lia) (by lia) (by lia) h4 (λi a ha hi'=>?_);by_cases e:i=(lo+hi) / 2
    ·subst e;rw[em]at ha;cases ha;lia
    ·have:=zc6 hx em ha (by lia);lia
  ·rw[if_neg hlt]
   have e:lo=hi:=by lia
   subst e;exact⟨by simpa using h2,h4,h5⟩
theorem zbg{xs:Array Nat}(hx:Ris xs.toList)(j:Nat):Parts xs.toList j (below xs j) :=
 zfp hx j _ _ _ (wm _) (y6 _) (by lia) (λi a _ h=>by lia) λi a ha h=>by
  have:=(qk.mp ha).1;rw[qi]at this;lia
theorem zqi{l:List Nat}(hl:Ris l){j r i:Nat}(p:Parts l j r)(h:l[i]? = ya j):r=i:=by
 rcases yc1 r i with lt | e | gt
 ·have hr:r<l.length:=by have:=(qk.mp h).1;lia
  have:=p.2.2 r _ (yc hr) (y6 _);have:=zc6 hl (yc hr) h lt;lia
 ·exact e
 ·have:=p.2.1 i j h gt;lia
theorem zse{l:List Nat}(hl:Ris l){j r:Nat}(p:Parts l j r)(hj:j∉l):Ris (l.take r++j::l.drop r):=by
 have hlt:∀a∈l.take r,a<j:=λa ha=>by
  obtain⟨i,hi,e⟩:=List.mem_take_iff_getElem.mp ha;exact p.2.1 i a (by rw[← e];exact yc (by lia)) (by lia)
 have hgt:∀a∈l.drop r,j<a:=λa ha=>by
  obtain⟨i,hi,e⟩:=List.mem_drop_iff_getElem.mp ha;have h1:=p.2.2 (r+i) a (by rw[← e];exact yc (by lia)) (by lia);have:j≠a:=λz=>hj (by rw[z];exact yae ha)
  lia
 refine yb3.mpr ⟨hl.sublist (ycz _ _),xj.mpr ⟨hgt,hl.sublist (yek _ _)⟩,λa ha b hb=>?_⟩;rcases yn.mp hb with rfl | hb
 ·exact hlt a ha
 ·exact yej (hlt a ha) (hgt b hb)
theorem zg5{t:wx}(h:Ris t.place.toList){i j:Nat}(e:t.place.toList[i]? = ya j):t.slot j=.live i:=by
 unfold SetTable.slot;have:below t.place j=i:=zqi h (zbg h j) e;dsimp only;rw[this,← xa,e];simp
theorem zla{t:wx}(h:Ris t.place.toList)(hd:t.dummies=#[]){j:Nat}(e:j∉t.place.toList):t.slot j=.empty:=by
 unfold SetTable.slot;dsimp only
 have h1:(t.place[below t.place j]? == ya j)=yi:=by
  cases hq:t.place[below t.place j]? with
  | none=>rfl
  | some a =>
   have:a≠j:=λz=>e (by rw[← z];exact xk (by rw[xa];exact hq))
   simpa using this
 have h2:has t.dummies j=yi:=by
  rw[hd];unfold has;simp
 rw[h1,h2];rfl
def adv(mask:Nat)(p:Probe):Probe :=
 if p.more>0 then{ p with j:=p.j+1,more:=p.more - 1}else
 { p with j:=(leap mask p.i p.perturb).1,more:=runEnd mask (leap mask p.i p.perturb).1 - (leap mask p.i p.perturb).1,i:=(leap mask p.i p.perturb).1,perturb:=(leap mask p.i p.perturb).2}
def lead(mask:Nat)(q:Nat×Nat):Probe:={ j:=q.1,more:=runEnd mask q.1 - q.1,i:=q.1,perturb:=q.2,dummy:=yk}
def lp(mask:Nat)(h:Int):Nat->Nat×Nat
 | 0=>(bits h % (mask+1),bits h)
 | k+1=>leap mask (lp mask h k).1 (lp mask h k).2
def pth(mask:Nat)(h:Int):Nat->Probe
 | 0=>lead mask (lp mask h 0)
 | n+1=>adv mask (pth mask h n)
theorem zhk(mask:Nat)(h:Int):∀n,(pth mask h n).dummy=yk
 | 0=>rfl
 | n+1=>by
  have:=zhk mask h n;unfold pth adv;split <;> exact this
def len(mask i:Nat):Nat:=runEnd mask i - i
theorem zrt(mask i:Nat):len mask i<=9:=by unfold len runEnd;split <;> lia
def pos(mask:Nat)(h:Int):Nat->Nat
 | 0=>0
 | k+1=>pos mask h k+len mask (lp mask h k).1+1
theorem znj(mask:Nat)(h:Int):∀k,pos mask h k<=10*k
 | 0=>y6 _
 | k+1=>by have:=znj mask h k;have:=zrt mask (lp mask h k).1;unfold pos;lia
theorem zri(mask:Nat)(h:Int){k:Nat}:∀{l:Nat},k<l->pos mask h k<pos mask h l
 | 0,hl=>by lia
 | l+1,hl=>by
  by_cases e:k=l
  ·subst e;show pos mask h k<pos mask h k+_+1;lia
  ·have:=zri mask h (k:=k) (l:=l) (by lia)
   show _<pos mask h l+_+1;lia
theorem ziv{mask:Nat}{h:Int}{n:Nat}{q:Nat×Nat}(e:pth mask h n=lead mask q):∀r,r<=len mask q.1->pth mask h (n+r)={ lead mask q with j:=q.1+r,more:=len mask q.1 - r}
 | 0,_=>by rw[ydq,e];rfl
 | r+1,hr=>by
  have:=ziv e r (by lia);show adv mask (pth mask h (n+r))=_;rw[this];unfold adv;dsimp only;rw[if_pos (by lia)];have:len mask q.1 - r - 1=len mask q.1 - (r+1):=by lia
  rw[this];rfl
theorem zfz(mask:Nat)(h:Int):∀k,pth mask h (pos mask h k)=lead mask (lp mask h k)
 | 0=>rfl
 | k+1=>by
  have e:=ziv (zfz mask h k) (len mask (lp mask h k).1) (y6 _);show adv mask (pth mask h (pos mask h k+len mask (lp mask h k).1))=_;rw[e];unfold adv;dsimp only;rw[if_neg (by lia)];rfl
theorem zs7{mask:Nat}{h:Int}{k r:Nat}(hr:r<=len mask (lp mask h k).1):(pth mask h (pos mask h k+r)).j=(lp mask h k).1+r:=by
 rw[ziv (zfz mask h k) r hr]
def stp(N i:Nat):Nat:=(i*5+1) % N
def its(N:Nat):Nat->Nat->Nat
 | 0,i=>i
 | k+1,i=>stp N (its N k i)
theorem zeg(N:Nat)(i:Nat)(a:Nat):∀b,its N (a+b) i=its N b (its N a i)
 | 0=>rfl
 | b+1=>by show stp N (its N (a+b) i)=stp N (its N b (its N a i));rw[zeg N i a b]
theorem pert(mask:Nat)(h:Int):∀k,(lp mask h k).2=bits h / 32 ^ k
 | 0=>by simp[lp]
 | k+1=>by
  show(lp mask h k).2 / 32=_;rw[pert mask h k,Nat.div_div_eq_div_mul,Nat.pow_succ]
theorem ztg(h:Int):bits h<2 ^ 64:=by
 unfold bits;have h1:h % (2 ^ 64:Int)<2 ^ 64:=jt _ (by decide);have h2:0<=h % (2 ^ 64:Int):=we _ (by decide);lia
theorem zu8(mask:Nat)(h:Int){k:Nat}(hk:13<=k):(lp mask h (k+1)).1=stp (mask+1) (lp mask h k).1:=by
 have:(lp mask h k).2=0:=by
  rw[pert];refine Nat.div_eq_of_lt (qp (ztg h) ?_)
  calc 2 ^ 64<=32 ^ 13:=by decide
   _<=32 ^ k:=Nat.pow_le_pow_right (by decide) hk
 show((lp mask h k).1*5+1+(lp mask h k).2 / 32) % (mask+1)=_;rw[this];rfl
theorem zrf(mask:Nat)(h:Int):∀m,(lp mask h (13+m)).1=its (mask+1) m (lp mask h 13).1
 | 0=>rfl
 | m+1=>by
  show(lp mask h (13+m+1)).1=stp (mask+1) (its (mask+1) m _);rw[zu8 mask h (by lia),zrf mask h m]
theorem zr5(mask:Nat)(h:Int):∀k,(lp mask h k).1<mask+1
 | 0=>yeb _ (yel _)
 | k+1=>yeb _ (yel _)
def Msk(mask:Nat):Prop:=mask=7\/mask=31\/mask=127
def row(N:Nat):Nat->Nat->List Nat
 | 0,_=>[]
 | k+1,i=>i::row N k (stp N i)
theorem zmg(N:Nat):∀(k i m:Nat),m<k->(row N k i)[m]? = ya (its N m i)
 | 0,_,_,h=>by lia
 | k+1,i,0,_=>rfl
 | k+1,i,m+1,h=>by
  show(row N k (stp N i))[m]? = _;rw[zmg N k (stp N i) m (by lia)];have:=zeg N i 1 m;rw[Nat.add_comm]at this;exact congrArg ya this.symm
theorem zjo{mask:Nat}(h:Msk mask):(q5 (mask+1)).all (λj=>(row (mask+1) (mask+1) 0).contains j)=yl/\its (mask+1) (mask+1) 0=0:=by
 rcases h with rfl | rfl | rfl <;> exact⟨by decide +kernel,by decide +kernel⟩
theorem from0{mask:Nat}(h:Msk mask){j:Nat}(hj:j<mask+1):∃m,m<mask+1/\its (mask+1) m 0=j:=by
 have:=qo.mp (zjo h).1 j (jm.mpr hj);rw[ydz]at this;obtain⟨m,hm,e⟩:=j9 this
 have hl:∀k i,(row (mask+1) k i).length=k:=λk=>by
  induction k with
  | zero=>intro i;rfl
  | succ k ih=>intro i;show(row _ k _).length+1=_;rw[ih]
 rw[hl]at hm;refine⟨m,hm,?_⟩;have h1:=zmg (mask+1) (mask+1) 0 m hm;rw[yc (by rw[hl];exact hm),e]at h1;exact(qh h1).symm
theorem zqo{mask:Nat}(h:Msk mask){i j:Nat}(hi:i<mask+1)(hj:j<mask+1):∃m,m<mask+1/\its (mask+1) m i=j:=by
 obtain⟨a,ha,ea⟩:=from0 h hi;obtain⟨b,hb,eb⟩:=from0 h hj;by_cases hab:a<=b
 ·refine⟨b - a,by lia,?_⟩
  rw[← ea,← zeg,show a+(b - a)=b by lia,eb]
 ·refine⟨b+(mask+1) - a,by lia,?_⟩
  rw[← ea,← zeg,show a+(b+(mask+1) - a)=(mask+1)+b by lia,zeg,(zjo h).2,eb]
theorem cover{mask:Nat}(hm:Msk mask)(h:Int){j:Nat}(hj:j<mask+1):∃k,k<mask+14/\(lp mask h k).1=j:=by
 obtain⟨m,h1,h2⟩:=zqo hm (zr5 mask h 13) hj;exact⟨13+m,by lia,by rw[zrf];exact h2⟩
def Way(mask:Nat)(L:Nat->Prop)(h:Int)(p:Nat):Prop:=∃n,n<10*turns mask/\(pth mask h n).j=p/\∀m,m<n->L (pth mask h m).j
theorem Way.mono{mask:Nat}{L L':Nat->Prop}{h:Int}{p:Nat}(w:Way mask L h p)(f:∀j,L j->L' j):Way mask L' h p:=let⟨n,h1,h2,h3⟩:=w;⟨n,h1,h2,λm hm=>f _ (h3 m hm)⟩
structure Good (t:SetTable) (hs:List Int):Prop where
 msk:Msk t.mask
 dum:t.dummies=#[]
 ris:Ris t.place.toList
 le:∀p∈t.place.toList,p<=t.mask
 len:t.place.toList.length=hs.length
 way:∀q∈t.place.toList.zip hs,Way t.mask (·∈t.place.toList) q.2 q.1
theorem least{P:Nat->Prop}{n:Nat}(h:P n):∃m,m<=n/\P m/\∀k,k<m->¬P k:=by
 induction n using Nat.strongRecOn with
 | ind n ih =>
  by_cases hh:∃k,k<n/\P k
  ·obtain⟨k,h1,h2⟩:=hh
   obtain⟨m,h3,h4,h5⟩:=ih k h1 h2;exact⟨m,by lia,h4,h5⟩
  ·exact⟨n,y6 _,h,λk hk z=>hh ⟨k,hk,z⟩⟩
theorem nodup_range(n:Nat):(q5 n).Nodup:=yeu
theorem zn6{l:List Nat}(h:Ris l):l.Nodup:=h.imp λa=>qg a
theorem zoi{l:List Nat}(hl:l.Nodup){N:Nat}(h:l.length<N):∃j,j<N/\j∉l:=by
 apply xf;intro hn;have hall:∀j,j<N->j∈l:=λj hj=>xf λz=>hn ⟨j,hj,z⟩
 have p:(q5 N).Perm (l.filter λj=>decide (j<N)):=(yaf (nodup_range N) (hl.filter _)).mpr λa=>by
  rw[jm,qa,decide_eq_true_eq];exact⟨λz=>⟨hall a z,z⟩,λz=>z.2⟩
 have:=p.length_eq;rw[yad]at this;have:=jk (λj=>decide (j<N)) l;lia
theorem Good.first{t:wx}{hs:List Int}(G:Good t hs)(hf:t.place.toList.length<=t.mask)(h:Int):∃n,n<10*turns t.mask/\(pth t.mask h n).j∉t.place.toList/\(pth t.mask h n).j<=t.mask/\∀m,m<n->(pth t.mask h m).j∈t.place.toList:=by
 refine zKK λγ κ=>?_;obtain⟨j,hj,hn⟩:=zoi (zn6 G.ris) (N:=t.mask+1) (by lia);obtain⟨k,hk,e⟩:=cover G.msk h hj;refine κ ?_;have hp:(pth t.mask h (pos t.mask h k)).j=j:=by rw[zfz];exact e
 obtain⟨n,h1,h2,h3⟩:=least (P:=λn=>(pth t.mask h n).j∉t.place.toList) (n:=pos t.mask h k) (by rw[hp];exact hn);have hpos:=znj t.mask h k;refine⟨n,by unfold turns;lia,h2,?_,λm hm=>xf λz=>h3 m hm z⟩
 -- the slot is within the mask
 have:∀n,(pth t.mask h n).j+(pth t.mask h n).more<=t.mask:=by
  intro n;have run:∀i,i<t.mask+1->i+(runEnd t.mask i - i)<=t.mask:=λi hi=>by unfold runEnd;split <;> lia
  induction n with
  | zero=>exact run _ (zr5 t.mask h 0)
  | succ n ih =>
   show(adv t.mask (pth t.mask h n)).j+(adv t.mask (pth t.mask h n)).more<=t.mask;unfold adv;split
   ·dsimp only;lia
   ·dsimp only
    exact run _ (yeb _ (yel _))
 have:=this n;lia
theorem Good.put{t:wx}{hs:List Int}(G:Good t hs){j:Nat}{h:Int}(hj:j∉t.place.toList)(hm:j<=t.mask)(w:Way t.mask (·∈t.place.toList) h j) :
  (t.put j).2=below t.place j/\Good (t.put j).1 (hs.take (below t.place j)++h::hs.drop (below t.place j))/\(t.put j).1.place.toList.length=t.place.toList.length+1:=by
 have hd:has t.dummies j=yi:=by rw[G.dum];unfold has;simp
 have pl:(t.put j).1.place.toList=t.place.toList.take (below t.place j)++j::t.place.toList.drop (below t.place j):=by
  unfold SetTable.put insertAt;simp[ycs,vk]
 have P:=zbg G.ris j;refine⟨rfl,⟨G.msk,?_,?_,?_,?_,?_⟩,?_⟩
 ·unfold SetTable.put
  dsimp only;rw[hd];exact G.dum
 ·rw[pl];exact zse G.ris P hj
 ·intro p hp
  rw[pl]at hp;show p<=t.mask;rcases qt.mp hp with h1 | h1
  ·exact G.le p (w6 h1)
  ·rcases yn.mp h1 with rfl | h1
   ·exact hm
   ·exact G.le p (yae h1)
 ·rw[pl]
  have:=G.len;have:=P.1;simp only[yu,qf,x3,wk];lia
 ·rw[pl]
  have hl:=G.len;rw[ye1 (by rw[x3,x3,hl]),ji,show∀n,(t.place.toList.take n).zip (hs.take n)=(t.place.toList.zip hs).take n fromλn=>by simp[List.zip,List.take_zipWith],show∀n,(t.place.toList.drop n).zip (hs.drop n)=(t.place.toList.zip hs).drop n fromλn=>by simp[List.zip,List.drop_zipWith]]
  have mono:∀i,i∈t.place.toList->i∈t.place.toList.take (below t.place j)++j::t.place.toList.drop (below t.place j):=λi hi=>by
   rw[← yac (below t.place j) t.place.toList]at hi;rcases qt.mp hi with h1 | h1
   ·exact jf _ h1
   ·exact qx _ (yf _ h1)
  intro q hq;show Way t.mask _ _ _;rcases qt.mp hq with h1 | h1
  ·exact(G.way q (w6 h1)).mono mono
  ·rcases yn.mp h1 with rfl | h1
   ·exact w.mono mono
   ·exact(G.way q (yae h1)).mono mono
 ·rw[pl]
  have:=P.1;simp only[yu,qf,x3,wk];lia
theorem zj6{t:wx}{hs:List Int}(G:Good t hs)(hashAt:Nat->Int)(h:Int){B:Nat}(hB:(pth t.mask h B).j∉t.place.toList\/∃i,t.place.toList[i]? = ya (pth t.mask h B).j/\hashAt i=h):∀(fuel n:Nat),B - n<fuel->n<=B->(∀m,n<=m->m<B->(pth t.mask h m).j∈t.place.toList) ->
  (∃m i,n<=m/\m<=B/\t.place.toList[i]? = ya (pth t.mask h m).j/\hashAt i=h/\probe.go t hashAt h fuel (pth t.mask h n)=ya (.candidate (pth t.mask h m).j i (pth t.mask h (m+1)))) \/
  ((pth t.mask h B).j∉t.place.toList/\probe.go t hashAt h fuel (pth t.mask h n)=ya (.empty (pth t.mask h B).j yk))
 | 0,n,hf,_,_=>by lia
 | fuel+1,n,hf,hn,hl=>by
  have live:∀i,t.place.toList[i]? = ya (pth t.mask h n).j->probe.go t hashAt h (fuel+1) (pth t.mask h n)=if hashAt i==h then ya (.candidate (pth t.mask h n).j i (pth t.mask h (n+1)))else probe.go t hashAt h fuel (pth t.mask h (n+1)):=λi e=>by
   show(match t.slot (pth t.mask h n).j with | .empty=>_ | .dummy=>_ | .live i=>_)=_;rw[zg5 G.ris e];rfl
  by_cases hb:n=B
  ·subst hb
   rcases hB with hB | ⟨i,h1,h2⟩
   ·refine .inr ⟨hB,?_⟩
    show(match t.slot (pth t.mask h n).j with | .empty=>_ | .dummy=>_ | .live i=>_)=_;rw[zla G.ris G.dum hB];dsimp only;rw[zhk]
   ·exact .inl ⟨n,i,y6 _,y6 _,h1,h2,by rw[live i h1,h2];simp⟩
  ·obtain⟨i,hi,e⟩:=j9 (hl n (y6 _) (by lia))
   have h1:t.place.toList[i]? = ya (pth t.mask h n).j:=by rw[← e];exact yc hi
   by_cases hh:hashAt i=h
   ·exact .inl ⟨n,i,y6 _,hn,h1,hh,by rw[live i h1,hh];simp⟩
   ·have e2:(hashAt i==h)=yi:=by simpa using hh
    rw[live i h1,e2];simp only[ql,if_false];rcases zj6 G hashAt h hB fuel (n+1) (by lia) (by lia) (λm h2 h3=>hl m (by lia) h3)with⟨m,i',a1,a2,a3⟩ | a
    ·exact .inl ⟨m,i',by lia,a2,a3⟩
    ·exact .inr a
abbrev Got(owner:Array (Option Nat))(j:Nat):Prop:=∃i,owner[j]? = ya (ya i)
structure Own (mask:Nat) (owner:Array (Option Nat)) (hs:List Int):Prop where
 size:owner.size=mask+1
 cnt:owner.toList.countP yfg=hs.length
 at_:∀i:Nat,i<hs.length->∃j:Nat,owner[j]? = ya (ya i)
 one:∀j j' i:Nat,owner[j]? = ya (ya i)->owner[j']? = ya (ya i)->j=j'
 lt:∀j i:Nat,owner[j]? = ya (ya i)->i<hs.length
 way:∀(j i:Nat) (h:Int),owner[j]? = ya (ya i)->hs[i]? = ya h->Way mask (Got owner) h j
theorem zo0{owner:Array (Option Nat)}{j:Nat}(hj:j<owner.size):¬Got owner j↔owner[j]? = ya yk:=by
 rw[xz hj];cases e:owner[j]with
 | none=>exact⟨λ_=>rfl,λ_ ⟨i,z⟩=>by rw[xz hj,e]at z;cases z⟩
 | some i=>exact⟨λh=>(h ⟨i,by rw[xz hj,e]⟩).elim,λh=>by cases h⟩
theorem zmd{mask:Nat}(hm:Msk mask){owner:Array (Option Nat)}(hz:owner.size=mask+1)(h:Int){e:Nat}(he:owner[e]? = ya yk):∀fuel k,k+fuel=mask+15->(∀m,m<pos mask h k->Got owner (pth mask h m).j) ->
  ∃j,layClean.free mask owner fuel (lp mask h k).1 (lp mask h k).2=ya j/\owner[j]? = ya yk/\Way mask (Got owner) h j
 | 0,k,hk,hp=>by
  have elt:e<mask+1:=by rw[← hz];exact(vv.mp he).1
  obtain⟨k0,h1,h2⟩:=cover hm h elt;have:=hp (pos mask h k0) (zri mask h (by lia));rw[zfz]at this;have this:Got owner (lp mask h k0).1:=this;rw[h2]at this;obtain⟨i,hi⟩:=this;rw[he]at hi;cases hi
 | fuel+1,k,hk,hp=>by
  have hi:=zr5 mask h k;have hlen:runEnd mask (lp mask h k).1+1 - (lp mask h k).1=len mask (lp mask h k).1+1:=by unfold len runEnd;split <;> lia
  have hin:∀r,r<=len mask (lp mask h k).1->(lp mask h k).1+r<owner.size:=λr hr=>by
   rw[hz];unfold len runEnd at hr;split at hr <;> lia
  have hg:∀r,r<=len mask (lp mask h k).1->((owner.getD ((lp mask h k).1+r) (ya 0)).isNone=yl↔owner[(lp mask h k).1+r]? = ya yk):=λr hr=>by
   have hb:=hin r hr;rw[xz hb];simp[ybw,hb]
  unfold layClean.free;rw[hlen];cases hfd:(q5 (len mask (lp mask h k).1+1)).find? λr=>(owner.getD ((lp mask h k).1+r) (ya 0)).isNone with
  | some r =>
   obtain⟨p1,p2,p3⟩:=List.find?_range_eq_some.mp hfd;have hr:r<=len mask (lp mask h k).1:=by have:=jm.mp p2;lia
   refine⟨_,rfl,(hg r hr).mp p1,pos mask h k+r,?_,zs7 hr,λm hmm=>?_⟩
   ·have:=znj mask h k
    have:=zrt mask (lp mask h k).1;unfold turns;lia
   ·by_cases hmk:m<pos mask h k
    ·exact hp m hmk
    ·have e0:m=pos mask h k+(m - pos mask h k):=by lia
     rw[e0,zs7 (by lia)];apply xf;intro z;have z:=(zo0 (hin (m - pos mask h k) (by lia))).mp z;have:=p3 (m - pos mask h k) (by lia);rw[(hg _ (by lia)).mpr z]at this;cases this
  | none =>
   have hn:=List.find?_range_eq_none.mp hfd;refine zmd hm hz h he fuel (k+1) (by lia) λm hmm=>?_
   by_cases hmk:m<pos mask h k
   ·exact hp m hmk
   ·have hmm:m<pos mask h k+len mask (lp mask h k).1+1:=hmm
    have e0:m=pos mask h k+(m - pos mask h k):=by lia
    rw[e0,zs7 (by lia)];apply xf;intro z;have z:=(zo0 (hin (m - pos mask h k) (by lia))).mp z;have:=hn (m - pos mask h k) (by lia);rw[(hg _ (by lia)).mpr z]at this;cases this
theorem Own.add{mask:Nat}{owner:Array (Option Nat)}{hs:List Int}(O:Own mask owner hs){j:Nat}{h:Int}(hj:owner[j]? = ya yk)(w:Way mask (Got owner) h j):Own mask (owner.setIfInBounds j (ya hs.length)) (hs++[h]):=by
 have jl:j<owner.size:=(vv.mp hj).1;have self:(owner.setIfInBounds j (ya hs.length))[j]? = ya (ya hs.length):=by simp[jl]
 have other:∀i,i≠j->(owner.setIfInBounds j (ya hs.length))[i]? = owner[i]?:=λi hi=>Array.getElem?_setIfInBounds_ne (xg hi)
 have mono:∀i,Got owner i->Got (owner.setIfInBounds j (ya hs.length)) i:=λi ⟨a,ha⟩=>by
  by_cases e:i=j
  ·subst e;exact⟨_,self⟩
  ·exact⟨a,by rw[other i e];exact ha⟩
 have cases_:∀i a,(owner.setIfInBounds j (ya hs.length))[i]? = ya (ya a)->(i=j/\a=hs.length)\/(i≠j/\owner[i]? = ya (ya a)):=λi a ha=>by
  by_cases e:i=j
  ·subst e;rw[self]at ha;cases ha;exact .inl ⟨rfl,rfl⟩
  ·rw[other i e]at ha;exact .inr ⟨e,ha⟩
 refine⟨by rw[Array.size_setIfInBounds];exact O.size,?_,λi hi=>?_,λa b i ha hb=>?_,λa i ha=>?_,λa i h' ha hh=>?_⟩
 ·have e:owner.toList[j]'(by simpa using jl)=yk:=by
   have:=hj;rw[xz jl]at this;simpa using qh this
  rw[Array.toList_setIfInBounds,List.countP_set (by simpa using jl),e,O.cnt];simp
 ·rw[yu,vz]at hi
  by_cases e:i=hs.length
  ·subst e;exact⟨j,self⟩
  ·obtain⟨a,ha⟩:=O.at_ i (by lia)
   refine⟨a,?_⟩;rw[other a (λz=>by subst z;rw[hj]at ha;cases ha)];exact ha
 ·rcases cases_ a i ha with⟨h1,h2⟩ | ⟨h1,h2⟩ <;> rcases cases_ b i hb with⟨g1,g2⟩ | ⟨g1,g2⟩
  ·rw[h1,g1]
  ·have:=O.lt _ _ g2;lia
  ·have:=O.lt _ _ h2;lia
  ·exact O.one _ _ _ h2 g2
 ·rw[yu,vz]
  rcases cases_ a i ha with⟨h1,h2⟩ | ⟨h1,h2⟩
  ·lia
  ·have:=O.lt _ _ h2;lia
 ·rcases cases_ a i ha with⟨h1,h2⟩ | ⟨h1,h2⟩
  ·subst h1 h2
   rw[qz (y6 _)]at hh;simp at hh;subst hh;exact w.mono mono
  ·have:=O.lt _ _ h2
   rw[xc this]at hh;exact(O.way a i h' h2 hh).mono mono
theorem Own.free{mask:Nat}{owner:Array (Option Nat)}{hs:List Int}(O:Own mask owner hs)(h:hs.length<=mask):∃e:Nat,owner[e]? = ya yk:=by
 apply xf;intro hn
 have:owner.toList.countP yfg=owner.toList.length:=List.countP_eq_length.mpr λa ha=>by
  cases a with
  | some i=>rfl
  | none =>
   obtain⟨i,hi,e⟩:=j9 ha;exact(hn ⟨i,by rw[← xa,yc hi,e]⟩).elim
 have h2:=O.cnt;have h3:owner.toList.length=mask+1:=by rw[qi];exact O.size
 lia
def stepL(mask:Nat)(acc:Option (Array (Option Nat)×Nat))(h:Int):Option (Array (Option Nat)×Nat):=do
 let(owner,k) ← acc
 let j ← layClean.free mask owner (turns mask) (bits h % (mask+1)) (bits h)
 pure (owner.setIfInBounds j (ya k),k+1)
theorem zkz{mask:Nat}(hm:Msk mask):∀(rest hs:List Int) (owner:Array (Option Nat)),Own mask owner hs->hs.length+rest.length<=mask+1->∃owner',rest.foldl (stepL mask) (ya (owner,hs.length))=ya (owner',(hs++rest).length)/\Own mask owner' (hs++rest)
 | [],hs,owner,O,_=>⟨owner,by simp,by simpa using O⟩
 | h::rest,hs,owner,O,hl=>by
  rw[qf]at hl;obtain⟨e,he⟩:=O.free (by lia);obtain⟨j,h1,h2,h3⟩:=zmd hm O.size h he (turns mask) 0 (by unfold turns;lia) λm hm=>absurd hm (yb7 _)
  have O2:=O.add h2 h3;obtain⟨o',h4,h5⟩:=zkz hm rest (hs++[h]) _ O2 (by rw[yu,vz];lia)
  have e1:stepL mask (ya (owner,hs.length)) h=ya (owner.setIfInBounds j (ya hs.length),(hs++[h]).length):=by
   unfold stepL;show(layClean.free mask owner (turns mask) (lp mask h 0).1 (lp mask h 0).2).bind _=_;rw[h1];simp
  refine⟨o',?_,by simpa using h5⟩;rw[u4,e1,h4];simp
theorem zst(mask:Nat):Own mask (yax (mask+1) yk) []:=by
 have no:∀(j:Nat) (i:Nat),(yax (mask+1) (yk:Option Nat))[j]?≠ya (ya i):=λj i h=>by
  rw[Array.getElem?_replicate]at h;split at h <;> cases h
 refine⟨by simp,?_,λi hi=>absurd hi (yb7 _),λj j' i h=>(no j i h).elim,λj i h=>(no j i h).elim,λj i h a=>(no j i a).elim⟩;simp[List.countP_replicate]
theorem zn5{mask:Nat}(hm:Msk mask)(hs:Array Int)(hl:hs.size<=mask+1):∃owner,layClean mask hs=ya owner/\Own mask owner hs.toList:=by
 obtain⟨o,h1,h2⟩:=zkz hm hs.toList [] _ (zst mask) (by simpa using hl);refine⟨o,?_,by simpa using h2⟩;have e:layClean mask hs=(hs.foldl (stepL mask) (ya (yax (mask+1) yk,0))).map (·.1):=rfl;rw[e,← Array.foldl_toList];rw[show(ya (yax (mask+1) (yk:Option Nat),0))=ya (yax (mask+1) yk,([]:List Int).length)from rfl,h1];rfl
def livesOf(mask:Nat)(owner:Array (Option Nat)):List (Nat×Nat):=(q5 (mask+1)).filterMap λj=>(owner.getD j yk).map (j,·)
theorem zaz{mask:Nat}{owner:Array (Option Nat)}(hz:owner.size=mask+1){j i:Nat}:(j,i)∈livesOf mask owner↔owner[j]? = ya (ya i):=by
 unfold livesOf;rw[ycj];constructor
 ·rintro⟨a,ha,e⟩
  have hb:a<owner.size:=by rw[hz];exact jm.mp ha
  simp only[ybw,hb,dite_true]at e;cases ho:owner[a]with
  | none=>simp[ho]at e
  | some b =>
   simp[ho]at e;obtain⟨rfl,rfl⟩:=e;rw[xz hb,ho]
 ·intro h
  obtain⟨hb,e⟩:=vv.mp h;refine⟨j,jm.mpr (by rw[← hz];exact hb),?_⟩;simp[ybw,hb,e]
theorem zhd(mask:Nat)(owner:Array (Option Nat)):(livesOf mask owner).Pairwise (λa b=>a.1<b.1):=by
 unfold livesOf;refine List.pairwise_filterMap.mpr (ydr.imp λ{a b} hab x hx y hy=>?_);cases h1:owner.getD a yk with
 | none=>rw[h1]at hx;cases hx
 | some u =>
  cases h2:owner.getD b yk with
  | none=>rw[h2]at hy;cases hy
  | some v =>
   rw[h1]at hx;rw[h2]at hy;cases hx;cases hy;exact hab
theorem zsj{mask:Nat}(hm:Msk mask)(hs:Array Int)(hl:hs.size<=mask+1)(finger moves:Nat)(led plain:Bool):∃t order,laid mask finger moves led plain hs=ya (t,order)/\t.mask=mask/\t.led=led/\t.plain=plain /\
  Good t (order.toList.map λi=>hs.toList.getD i 0)/\order.toList.Perm (q5 hs.size):=by
 obtain⟨owner,h1,O⟩:=zn5 hm hs hl;refine⟨{ mask,place:=((livesOf mask owner).map (·.1)).toArray,dummies:=#[],finger,led,moves,plain},((livesOf mask owner).map (·.2)).toArray,?_,rfl,rfl,rfl,⟨hm,rfl,?_,?_,?_,?_⟩,?_⟩
 ·unfold laid
  rw[h1];rfl
 ·exact j4.mpr (zhd mask owner)
 ·intro p hp
  obtain⟨⟨j,i⟩,h2,rfl⟩:=yz.mp (show p∈(livesOf mask owner).map (·.1)from hp);have:=(vv.mp ((zaz O.size).mp h2)).1;rw[O.size]at this;show j<=mask;lia
 ·show((livesOf mask owner).map (·.1)).length=_
  simp
 ·intro q hq
  have hq:q∈((livesOf mask owner).map (·.1)).zip (((livesOf mask owner).map (·.2)).map λi=>hs.toList.getD i 0):=hq;rw[qu,List.zip_map']at hq;obtain⟨⟨j,i⟩,h2,rfl⟩:=yz.mp hq;have h3:=(zaz O.size).mp h2;have h4:=O.lt _ _ h3
  have h5:hs.toList[i]? = ya (hs.toList.getD i 0):=by
   rw[yc h4];unfold vp;rw[yc h4];rfl
  refine(O.way j i _ h3 h5).mono λa ζ=>?_;obtain⟨b,hb⟩:=ζ
  exact yz.mpr ⟨(a,b),(zaz O.size).mpr hb,rfl⟩
 ·refine(yaf ?_ (nodup_range _)).mpr λi=>?_
  ·show((livesOf mask owner).map (·.2)).Nodup
   refine j4.mpr (List.Pairwise.imp_of_mem (λ{a b} ha hb hab e=>?_) (zhd mask owner));have h2:=(zaz O.size).mp ha;have h3:=(zaz O.size).mp hb;rw[e]at h2;have:=O.one _ _ _ h2 h3;lia
  ·show i∈(livesOf mask owner).map (·.2)↔_
   rw[jm,yz];constructor
   ·rintro⟨⟨j,i'⟩,h2,rfl⟩
    have:=O.lt _ _ ((zaz O.size).mp h2);simpa using this
   ·intro hi
    obtain⟨j,hj⟩:=O.at_ i (by simpa using hi);exact⟨(j,i),(zaz O.size).mpr hj,rfl⟩
end ST
namespace HT
open PySem PyProof.Rows
section
variable {prog:qw} {w:x8} {A:x5} {E:yh→ym→Prop} {s:ym}
abbrev TK(prog:qw)(w:x8)(h:Heap)(n:List Int)(a:yq):Prop:=IsTupleKey (intKind prog w) h n a
abbrev tH(prog:qw)(w:x8)(n:List Int):Int:=tupleKeyHash (intKind prog w) n
theorem items_int{prog:qw}{w:x8}:∀{n:List Int} {vs:List yh},ItemsAre (intKind prog w) n vs->∀v∈vs,∃i t,v=.int i t
 | _,_,.nil,v,h=>by cases h
 | _,_,.cons (v:=u) h1 r,v,h=>by
  rcases yn.mp h with rfl | h
  ·cases v <;> first | exact⟨_,_,rfl⟩ | (cases h1;done)
  ·exact items_int r v h
theorem hbv{n:List Int}{a:yq}{Q:Bool->ym->Prop}(hk:TK prog w s.heap n a)(q:Q yl s):y9 (model prog w) A (hashByValue 8 (.ref a)) Q E s:=by
 have hT:=hk.typeIs;obtain⟨o,items,m,ho,_,hd,hi⟩:=hk;have hv:=items_int hi;unfold hashByValue;refine yb (u9 hT PySem.F.slot_tuple_hash.lookup ?_);dsimp only;refine yb (wpAny_seqItems ho hd ?_);refine yb ?_;show y9 _ _ (forIn items _ _) _ _ s;rw[← yec];refine yby _ (λrest r s'=>r.1=yk/\s'=s/\∀v∈rest,∃i t,v=.int i t) _ ?_ ?_ _ _ ⟨rfl,rfl,hv⟩
 ·rintro v rest r s' ⟨hr,rfl,hall⟩
  obtain⟨i,t,rfl⟩:=hall v yg;rw[show hashByValue 7 (.int i t)=pure yl from by unfold hashByValue;rfl];refine yb (yj ?_);simp only[yab,ql,if_false];exact yj ⟨rfl,rfl,λu hu'=>hall u (yf _ hu')⟩
 ·rintro⟨r1,r2⟩ s' ⟨hr,rfl,_⟩
  simp only at hr;subst hr;exact yj q
theorem noCls{n:List Int}{a:yq}{Q:Bool->ym->Prop}(hk:TK prog w s.heap n a)(q:Q yi s):y9 (model prog w) A (ybo 8 (.ref a)) Q E s:=by
 have hT:=hk.typeIs;obtain⟨o,items,m,ho,_,hd,hi⟩:=hk;have hv:=items_int hi;unfold ybo;refine yb (uj hT ?_);dsimp only;refine yb ?_;refine yj ?_;simp only[yab,ql,if_false];refine yb (wpAny_seqItems ho hd ?_);dsimp only;refine yb ?_;show y9 _ _ (forIn items _ _) _ _ s;rw[← yec];refine yby _ (λrest r s'=>r.1=yk/\s'=s/\∀v∈rest,∃i t,v=.int i t) _ ?_ ?_ _ _ ⟨rfl,rfl,hv⟩
 ·rintro v rest r s' ⟨hr,rfl,hall⟩
  obtain⟨i,t,rfl⟩:=hall v yg;rw[show ybo 7 (.int i t)=pure yi from by unfold ybo;rfl];refine yb (yj ?_);simp only[ql,if_false];exact yj ⟨rfl,rfl,λu hu'=>hall u (yf _ hu')⟩
 ·rintro⟨r1,r2⟩ s' ⟨hr,rfl,_⟩
  simp only at hr;subst hr;exact yj q
theorem unseen{n:List Int}{a:yq}{l:List yh}{Q:Bool->ym->Prop}(hk:TK prog w s.heap n a)(hl:∀y∈l,∃m b,y=.ref b/\TK prog w s.heap m b)(q:Q yi s):y9 (model prog w) A (searchCouldBeSeen (.ref a) l) Q E s:=by
 unfold searchCouldBeSeen;refine yb ?_;refine yby _ (λrest r s'=>r.1=yk/\s'=s/\∀y∈rest,∃m b,y=.ref b/\TK prog w s.heap m b) _ ?_ ?_ _ _ ⟨rfl,rfl,hl⟩
 ·rintro v rest r s' ⟨hr,rfl,hall⟩
  obtain⟨m,b,rfl,hb⟩:=hall v yg;have fin:∀u∈rest,∃m b,u=.ref b/\TK prog w s'.heap m b:=λu hu'=>hall u (yf _ hu')
  dsimp only;split
  ·exact yj ⟨rfl,rfl,fin⟩
  ·refine yb (wpAny_eqIsQuiet_tuple hk ?_)
   simp only[yab,ql,if_false];refine yb (wpAny_eqIsQuiet_tuple hb ?_);simp only[yab,ql,if_false];refine yb (noCls hk ?_);simp only[ql,if_false];refine yb (noCls hb ?_);simp only[ql,if_false];exact yj ⟨rfl,rfl,fin⟩
 ·rintro⟨r1,r2⟩ s' ⟨hr,rfl,_⟩
  simp only at hr;subst hr;exact yj q
def Ent(prog:qw)(w:x8)(h:Heap)(es:Array (Int×yh)):Prop:=∀(i:Nat) (q:Int×yh),es.toList[i]? = ya q->∃n b,q=(tH prog w n,.ref b)/\TK prog w h n b
theorem zia{t:wx}{es:Array (Int×yh)}(G:ST.Good t (es.toList.map (·.1)))(hf:t.place.toList.length*5<t.mask*3):t.fits es.size=yl:=by
 have h1:=G.len;simp only[qi,yd]at h1 hf;unfold SetTable.fits SetTable.fill;rw[G.dum,h1];simp;lia
theorem zpi{t:wx}(h:ST.Msk t.mask):t.gaveWay=yi:=by
 unfold SetTable.gaveWay;rcases h with e | e | e <;> rw[e] <;> rfl
theorem znp{l:List Nat}(h:ST.Ris l){i k a:Nat}(hi:l[i]? = ya a)(hk:l[k]? = ya a):i=k:=by
 rcases yc1 i k with x | x | x
 ·have:=ST.zc6 h hi hk x;lia
 ·exact x
 ·have:=ST.zc6 h hk hi x;lia
theorem zed{a x:yq}{k:List Int}{o:Obj}{es:Array (Int×yh)}{ep:Nat}{t:wx}(ho:s.heap.get? a=ya o)(hd:o.data=.set es ep t)(G:ST.Good t (es.toList.map (·.1)))(hf:t.place.toList.length*5<t.mask*3)(hu:A.units<ju)(hk:TK prog w s.heap k x)(he:Ent prog w s.heap es){B:Nat}(hBt:B<10*SetTable.turns t.mask)
  (hB:(ST.pth t.mask (tH prog w k) B).j∉t.place.toList\/∃(i:Nat) (b:yq),t.place.toList[i]? = ya (ST.pth t.mask (tH prog w k) B).j/\es.toList[i]? = ya (tH prog w k,yw b)/\TK prog w s.heap k b) (hl:∀m,m<B->(ST.pth t.mask (tH prog w k) m).j∈t.place.toList) {Q:SetFound->ym->Prop}
  (q1:(∃(i:Nat) (b:yq),es.toList[i]? = ya (tH prog w k,yw b)/\TK prog w s.heap k b)->Q (.there yk) s) (q2:(ST.pth t.mask (tH prog w k) B).j∉t.place.toList->Q (.free (ST.pth t.mask (tH prog w k) B).j yi) s) :
  ∀(fuel n:Nat) (stand:Option SetTable.Probe),stand.getD (t.probeStart (tH prog w k))=ST.pth t.mask (tH prog w k) n->n<=B->B - n<fuel->y9 (model prog w) A (setSearchFrom a (.ref x) (tH prog w k) yl fuel stand) Q E s
 | 0,n,_,_,_,hfu=>by lia
 | fuel+1,n,stand,hst,hn,hfu=>by
  have ft:=zia G hf;unfold setSearchFrom;refine yb (wc ho hd ft ?_);dsimp only;rw[zpi G.msk];simp only[ql,if_false];rw[hst];have hat:∀(i:Nat) (h:Int) (y:yh),es.toList[i]? = ya (h,y)->((es[i]?.map (·.1)).getD 0)=h:=λi h y e=>by rw[← xa,e];rfl
  have hB':(ST.pth t.mask (tH prog w k) B).j∉t.place.toList\/∃i:Nat,t.place.toList[i]? = ya (ST.pth t.mask (tH prog w k) B).j/\((es[i]?.map (·.1)).getD 0)=tH prog w k:=hB.imp id λ⟨i,b,h1,h2,_⟩=>⟨i,h1,hat i _ _ h2⟩
  rcases ST.zj6 G (λi:Nat=>(es[i]?.map (·.1)).getD 0) (tH prog w k) hB' (10*SetTable.turns t.mask) n (by lia) hn (λm _ h2=>hl m h2)with⟨m,i,h1,h2,h3,h4,h5⟩ | ⟨h1,h2⟩
  ·have e0:t.probe (λi:Nat=>(es[i]?.map (·.1)).getD 0) (tH prog w k) (ST.pth t.mask (tH prog w k) n)=ya (.candidate (ST.pth t.mask (tH prog w k) m).j i (ST.pth t.mask (tH prog w k) (m+1))):=h5
   have ie:i<es.toList.length:=by
    have:=(qk.mp h3).1;have:=G.len;simp only[yd]at this;lia
   have hei:es.toList[i]? = ya es.toList[i]:=yc ie;obtain⟨nn,b,hq,hb⟩:=he i _ hei;rw[hq]at hei;have hnn:tH prog w nn=tH prog w k:=by rw[← h4];exact(hat i _ _ hei).symm
   show y9 _ _ (match t.probe (λi:Nat=>(es[i]?.map (·.1)).getD 0) (tH prog w k) (ST.pth t.mask (tH prog w k) n)with | some met=>_ | x=>_) _ _ s;rw[e0];dsimp only
   have go:y9 (model prog w) A (do
     let equal ← holding [yw b] (eqBool (.ref b) (.ref x))
     let(es',_,t') ← setState a
     if(yl&&equal)=yl then pure (SetFound.there yk)else
     let ya same:=t'.sameMemory t.moves t.mask | unsupported "set.changed-during-lookup:is-the-new-block-at-the-old-address"
     let still ← match(if same=yl then t'.slot (ST.pth t.mask (tH prog w k) m).j else .empty)with
      | .live i'=>match es'[i']? with
       | some (_,y')=>do pure (if(← isSame y' (.ref b))=yl then ya i' else yk)
       | none=>pure yk
      | _=>pure yk
     match still with
     | none=>do rule "set.search.anew";setSearchFrom a (.ref x) (tH prog w k) yl fuel yk
     | some i'=>if equal=yl then pure (.there (ya i'))else setSearchFrom a (.ref x) (tH prog w k) yl fuel (ya (ST.pth t.mask (tH prog w k) (m+1)))) Q E s:=by
    refine yb (jw ((ych (intKind prog w)).eqBool (x:=nn) (y:=k) hu hb hk ?_));refine yb (wc ho hd ft ?_);dsimp only;by_cases hkk:nn=k
    ·subst hkk
     rw[decide_eq_true rfl];simp only[yfh,if_true];exact yj (q1 ⟨i,b,hei,hb⟩)
    ·rw[decide_eq_false hkk]
     simp only[uq,ql,if_false];rw[show t.sameMemory t.moves t.mask=ya yl by unfold SetTable.sameMemory;simp];dsimp only;rw[if_pos rfl,ST.zg5 G.ris h3];dsimp only;rw[← xa,hei];dsimp only;refine yb (wpAny_isSame_ref_self ?_);refine yb (yj ?_);simp only[if_true]
     have hmB:m<B:=by
      rcases Nat.lt_or_ge m B with z | z
      ·exact z
      ·have:m=B:=by lia
       subst this;rcases hB with hB | ⟨i',b',g1,g2,g3⟩
       ·exact(hB (xk h3)).elim
       ·have e2:=znp G.ris h3 g1
        subst e2;rw[hei]at g2;have e3:b=b':=by injection g2 with z;injection z with z1 z2;injection z2
        subst e3;exact(hkk (hb.inj g3)).elim
     exact zed ho hd G hf hu hk he hBt hB hl q1 q2 fuel (m+1) _ rfl hmB (by lia)
   have hei':es[i]? = ya (tH prog w nn,yw b):=by rw[← xa];exact hei
   rw[hei'];split
   ·refine yb (unseen hk (λy hy=>?_) ?_)
    ·obtain⟨q,hq1,rfl⟩:=yz.mp hy
     rw[Array.toList_filter]at hq1;obtain⟨j,hj,e⟩:=j9 (qa.mp hq1).1;obtain⟨n',b',hq',hb'⟩:=he j q (by rw[← e];exact yc hj);exact⟨n',b',by rw[hq'],hb'⟩
    ·simp only[ql,if_false]
     exact go
   ·exact go
  ·have e0:t.probe (λi:Nat=>(es[i]?.map (·.1)).getD 0) (tH prog w k) (ST.pth t.mask (tH prog w k) n)=ya (.empty (ST.pth t.mask (tH prog w k) B).j yk):=h2
   show y9 _ _ (match t.probe (λi:Nat=>(es[i]?.map (·.1)).getD 0) (tH prog w k) (ST.pth t.mask (tH prog w k) n)with | some met=>_ | x=>_) _ _ s;rw[e0];exact yj (q2 h1)
def TSet(prog:qw)(w:x8)(h:Heap)(S:yq)(σ:List (List Int×yq)):Prop:=∃es ep t,h.get? S=ya { cls:=.type "set",data:=.set es ep t}/\t.plain=yl/\t.led = !w.params.followText "set-order"/\ST.Good t (es.toList.map (·.1))/\t.place.toList.length*5<t.mask*3 /\
 es.toList.Perm (σ.map λq=>(tH prog w q.1,yw q.2))/\(σ.map (·.1)).Nodup/\∀q∈σ,TK prog w h q.1 q.2
def addK(σ:List (List Int×yq))(q:List Int×yq):List (List Int×yq):=if σ.any (·.1==q.1)then σ else σ++[q]
theorem zpq(σ:List (List Int×yq))(q:List Int×yq):(addK σ q).length<=σ.length+1:=by
 unfold addK;split <;> simp
theorem TK.keep{h h':Heap}{n:List Int}{a:yq}(x:TK prog w h n a)(k:∀o,h.get? a=ya o->h'.get? a=ya o):TK prog w h' n a:=let⟨o,its,m,e,r⟩:=x;⟨o,its,m,k o e,r⟩
theorem TK.ne{h:Heap}{n:List Int}{a S:yq}{o:Obj}{es:Array (Int×yh)}{ep:Nat}{t:wx}(x:TK prog w h n a)(e:h.get? S=ya o)(d:o.data=.set es ep t):a≠S:=by
 rintro rfl;obtain⟨o',its,m,e',_,d',_⟩:=x;rw[e]at e';cases e';rw[d]at d';cases d'
theorem TSet.mk'{h h':Heap}{S:yq}{σ:List (List Int×yq)}{es:Array (Int×yh)}{ep:Nat}{t:wx}(hS:h'.get? S=ya { cls:=.type "set",data:=.set es ep t})(p1:t.plain=yl)(p2:t.led = !w.params.followText "set-order")(G:ST.Good t (es.toList.map (·.1)))(hf:t.place.toList.length*5<t.mask*3)
  (hp:es.toList.Perm (σ.map λq=>(tH prog w q.1,yw q.2))) (hn:(σ.map (·.1)).Nodup) (hk:∀q∈σ,TK prog w h q.1 q.2/\q.2≠S) (sb:Heap.SameBut S h h'):TSet prog w h' S σ :=
 ⟨es,ep,t,hS,p1,p2,G,hf,hp,hn,λq hq=>TK.keep (hk q hq).1 λo e=>(sb.2 q.2 (hk q hq).2).trans e⟩
theorem zwo{h:Heap}{es:Array (Int×yh)}{σ:List (List Int×yq)}(hp:es.toList.Perm (σ.map λq=>(tH prog w q.1,yw q.2)))(hk:∀q∈σ,TK prog w h q.1 q.2):Ent prog w h es:=λi q hq=>by
 obtain⟨r,hr,e⟩:=yz.mp (hp.mem_iff.mp (xk hq));exact⟨r.1,r.2,e.symm,hk r hr⟩
theorem zkf{m:Nat}(h:ST.Msk m):SetTable.turns m<=142:=by
 unfold SetTable.turns;rcases h with e | e | e <;> rw[e] <;> lia
theorem zud{S x:yq}{σ:List (List Int×yq)}{k:List Int}{Q:Bool->ym->Prop}(hu:A.units<ju)(T:TSet prog w s.heap S σ)(hl:σ.length<64)(hk:TK prog w s.heap k x)
  (q:∀b h',Heap.SameBut S s.heap h'->TSet prog w h' S (addK σ (k,x))->Q b { s with heap:=h'}):y9 (model prog w) A (setAddHashed S (.ref x) (tH prog w k)) Q E s:=by
 refine zKK λγ κ=>?_;obtain⟨es,ep,t,hS,p1,p2,G,hf,hp,hn,hks⟩:=T;have ft:=zia G hf;have he:=zwo hp hks;refine κ ?_;have sz:es.toList.length=σ.length:=by rw[hp.length_eq,yd]
 have pl:t.place.toList.length=σ.length:=by have:=G.len;rw[yd]at this;lia
 unfold setAddHashed setAddHashedIn;refine jw (yb (wc hS rfl ft ?_));dsimp only;rw[show byScan (.ref x) es=yi from rfl];simp only[ql,if_false];by_cases hin:σ.any (·.1==k)=yl
 ·-- it is there
  have fin:y9 (model prog w) A (pure yi) Q E s:=yj (by
   have e:s={ s with heap:=s.heap}:=by cases s;rfl
   rw[e];refine q yi s.heap (Heap.SameBut.refl S s.heap) ?_;unfold addK;rw[if_pos hin];exact⟨es,ep,t,hS,p1,p2,G,hf,hp,hn,hks⟩)
  refine zKK λγ κ=>?_;obtain⟨⟨k',b⟩,hb1,hb2⟩:=jo.mp hin;have hb2:k'=k:=beq_iff_eq.mp hb2;subst hb2;have hmem:(tH prog w k',yw b)∈es.toList:=hp.mem_iff.mpr (yz.mpr ⟨(k',b),hb1,rfl⟩);obtain⟨i,hi,ei⟩:=j9 hmem;refine κ ?_;have hi1:es.toList[i]? = ya (tH prog w k',yw b):=by rw[← ei];exact yc hi
  have hi2:i<t.place.toList.length:=by lia
  have hz:(t.place.toList[i],tH prog w k')∈t.place.toList.zip (es.toList.map (·.1)):=by
   refine xk (i:=i) ?_;rw[ww];exact⟨yc hi2,by rw[yy,hi1];rfl⟩
  obtain⟨B,w1,w2,w3⟩:=G.way _ hz;refine yb (zed hS rfl G hf hu hk he w1 (.inr ⟨i,b,by rw[w2];exact yc hi2,hi1,hks _ hb1⟩) w3 (λ_=>?_) (λz=>(z (by rw[w2];exact vq hi2)).elim) 100000 0 yk rfl (wm _) ?_)
  ·exact fin
  ·have:SetTable.turns t.mask<=142:=zkf G.msk
   lia
 ·-- it is new
  obtain⟨B,w1,w2,w2',w3⟩:=G.first (by lia) (tH prog w k)
  have no:¬∃(i:Nat) (b:yq),es.toList[i]? = ya (tH prog w k,yw b)/\TK prog w s.heap k b:=λ⟨i,b,z1,z2⟩=>by
   obtain⟨r,hr,e⟩:=yz.mp (hp.mem_iff.mp (xk z1));have e2:r.2=b:=by injection e with a1 a2;injection a2
   have hr2:=hks r hr;rw[e2]at hr2;have e3:=hr2.inj z2;exact hin (jo.mpr ⟨r,hr,by rw[e3];exact beq_self_eq_true _⟩)
  have tl:SetTable.turns t.mask<=142:=zkf G.msk;refine yb (zed hS rfl G hf hu hk he w1 (.inl w2) w3 (λz=>(no z).elim) (λ_=>?_) 100000 0 yk rfl (wm _) (by lia));obtain⟨e1,G2,len2⟩:=G.put w2 w2' ⟨B,w1,rfl,w3⟩;have hσ:addK σ (k,x)=σ++[(k,x)]:=by unfold addK;rw[if_neg hin]
  rw[hσ]at q
  have es1:(SetTable.insertAt es (SetTable.below t.place (ST.pth t.mask (tH prog w k) B).j) (tH prog w k,yw x)).toList.map (·.1)=(es.toList.map (·.1)).take (SetTable.below t.place (ST.pth t.mask (tH prog w k) B).j)++tH prog w k::(es.toList.map (·.1)).drop (SetTable.below t.place (ST.pth t.mask (tH prog w k) B).j):=by
   rw[SetTable.toList_insertAt,qb,yo,yfi,yfj]
  rw[← es1]at G2
  have hp1:(SetTable.insertAt es (SetTable.below t.place (ST.pth t.mask (tH prog w k) B).j) (tH prog w k,yw x)).toList.Perm ((σ++[(k,x)]).map λq=>(tH prog w q.1,yw q.2)):=by
   refine(SetTable.insertAt_perm _ _ _).trans ?_;rw[yem,qb];exact hp.append_right _
  have hn1:((σ++[(k,x)]).map (·.1)).Nodup:=by
   rw[qb];refine wq.mpr ⟨hn,by simp,λa ha b hb e=>?_⟩;obtain⟨r,hr,rfl⟩:=yz.mp ha;have hb:b=k:=by simpa using hb
   exact hin (jo.mpr ⟨r,hr,by rw[e,hb];exact beq_self_eq_true _⟩)
  have hk1:∀q∈σ++[(k,x)],TK prog w s.heap q.1 q.2/\q.2≠S:=λq hq=>by
   rcases qt.mp hq with h | h
   ·exact⟨hks q h,TK.ne (hks q h) hS rfl⟩
   ·obtain rfl:=qd.mp h
    exact⟨hk,TK.ne hk hS rfl⟩
  generalize hes1:SetTable.insertAt es (SetTable.below t.place (ST.pth t.mask (tH prog w k) B).j) (tH prog w k,yw x)=es1' at *;have sz1:es1'.toList.length=σ.length+1:=by rw[hp1.length_eq];simp
  generalize ht1:(t.put (ST.pth t.mask (tH prog w k) B).j).1=t1 at *;have tm:t1.mask=t.mask:=by rw[← ht1];rfl
  have tp:t1.plain=yl:=by rw[← ht1];exact p1
  have tled:t1.led = !w.params.followText "set-order":=by rw[← ht1];exact p2
  have fill:t1.fill=σ.length+1:=by
   unfold SetTable.fill;rw[G2.dum];have:=len2;rw[qi]at this;simp only[yt,j6,ydq];lia
  dsimp only;refine yb (wc hS rfl ft ?_);dsimp only;rw[ht1,tp];simp only[if_true];refine yb (hbv hk ?_);simp only[if_true];rw[show(t.put (ST.pth t.mask (tH prog w k) B).j).2=SetTable.below t.place (ST.pth t.mask (tH prog w k) B).j from e1,hes1]
  have hfit1:es1'.size<=y8:=by
   have:es1'.size=σ.length+1:=by rw[← qi];exact sz1
   rw[this,uh];lia
  refine yb (wpAny_storeSet_of hS rfl ?_ hfit1)
  have hg1:(s.heap.update S (Obj.putSet es1' t1)).get? S=ya { cls:=.type "set",data:=.set es1' (ep+1) t1}:=by
   have:=v6 (Obj.putSet es1' t1) hS (by rw[putSet_of es1' t1 rfl];rfl);rw[putSet_of es1' t1 rfl]at this;exact this
  have sb1:Heap.SameBut S s.heap (s.heap.update S (Obj.putSet es1' t1)):=Heap.SameBut.update s.heap S _;by_cases hfull:t1.tooFull=yl
  ·rw[hfull]
   simp only[Bool.not_false,yfh,if_true]
   have hfull':(σ.length+1)*5≥t1.mask*3:=by
    unfold SetTable.tooFull at hfull;rw[fill]at hfull;exact of_decide_eq_true hfull
   rw[tm]at hfull'
   have key:(σ.length+1=5/\SetTable.sizeAbove (SetTable.grown (es.size+1))=32)\/(σ.length+1=19/\SetTable.sizeAbove (SetTable.grown (es.size+1))=128):=by
    have ez:es.size+1=σ.length+1:=by rw[← sz,qi]
    rw[ez];rcases G.msk with e | e | e
    ·rw[e]at hfull' hf
     have:σ.length+1=5:=by lia
     rw[this];exact .inl ⟨rfl,by decide⟩
    ·rw[e]at hfull' hf
     have:σ.length+1=19:=by lia
     rw[this];exact .inr ⟨rfl,by decide⟩
    ·rw[e]at hfull' hf;lia
   have ft1:t1.fits es1'.size=yl:=by
    have h1:=G2.len;rw[yd]at h1;unfold SetTable.fits;rw[fill,tm];have e1:t1.place.size=es1'.size:=by rw[← qi,← qi];exact h1
    rw[e1];simp;lia
   generalize hwt:SetTable.grown (es.size+1)=wanted at key;unfold setRelay;refine yb (yb (wc hg1 rfl ft1 ?_));dsimp only
   have hml:∃mk,SetTable.sizeAbove wanted - 1=mk/\ST.Msk mk/\¬SetTable.sizeAbove wanted>y8/\(σ.length+1)*5<mk*3:=by
    rcases key with⟨z1,z2⟩ | ⟨z1,z2⟩ <;> rw[z1,z2]
    ·exact⟨31,rfl,.inr (.inl rfl),by rw[uh];lia,by lia⟩
    ·exact⟨127,rfl,.inr (.inr rfl),by rw[uh];lia,by lia⟩
   refine zKK λγ κ=>?_;obtain⟨mk,m1,m2,m3,m4⟩:=hml;refine κ ?_;rw[if_neg m3];refine zKK λγ κ=>?_;obtain⟨t2,order,l1,l2,l3,l4,l5,l6⟩:=ST.zsj m2 (es1'.map (·.1)) (by rw[yd5,← qi,sz1];lia) t1.finger (t1.movedTo mk) t1.led t1.plain;refine κ ?_;have hr:t1.relaid (es1'.map (·.1)) wanted=ya (t2,order):=by unfold SetTable.relaid;rw[m1];exact l1
   rw[hr];have hsz:es1'.size=es1'.toList.length:=(qi ..).symm
   have hlt:∀i∈order.toList,i<es1'.toList.length:=λi hi=>by
    have:=jm.mp (l6.mem_iff.mp hi);rw[yd5]at this;lia
   have fm:∀l:List Nat,(∀i∈l,i<es1'.toList.length)->l.filterMap (λi=>es1'[i]?)=l.map λi=>es1'.toList.getD i (0,.none):=λl=>by
    induction l with
    | nil=>intro _;rfl
    | cons i l ih =>
     intro h;have hi:=h i yg;rw[um,← xa,yc hi,yo,ih λj hj=>h j (yf _ hj)];unfold vp;rw[yc hi];rfl
   have el:(order.filterMap (λi=>es1'[i]?)).toList=order.toList.map λi=>es1'.toList.getD i (0,.none):=by rw[Array.toList_filterMap];exact fm _ hlt
   have full:(q5 es1'.toList.length).map (λi=>es1'.toList.getD i (0,.none))=es1'.toList:=by
    apply ydd
    ·simp
    ·intro i h1 h2
     rw[yev,yed];unfold vp;rw[yc h2];rfl
   have hp2:(order.filterMap (λi=>es1'[i]?)).toList.Perm es1'.toList:=by
    rw[el];have:=l6.map λi=>es1'.toList.getD i (0,Value.none)
    rw[yd5,hsz,full]at this;exact this
   have hs2:(order.filterMap (λi=>es1'[i]?)).toList.map (·.1)=order.toList.map λi=>(es1'.map (·.1)).toList.getD i 0:=by
    rw[el,qu];refine x9 λi hi=>?_
    have h3:=hlt i hi;rw[Array.toList_map];simp only[Function.comp,vp];rw[yy,yc h3];rfl
   have sz2:(order.filterMap (λi=>es1'[i]?)).size=es1'.size:=by rw[← qi,hp2.length_eq,qi]
   rw[← hs2]at l5;generalize hes2:order.filterMap (λi=>es1'[i]?)=es2 at *;refine yb ?_;show y9 _ _ (if((order.filterMap (λi=>es1'[i]?)).size != es1'.size)=yl then _ else _) _ _ _;rw[hes2,sz2,if_neg (by simp)];refine yj ?_;dsimp only;have hfit2:es2.size<=y8:=by rw[sz2];exact hfit1
   refine wpAny_storeSet_of hg1 rfl ?_ hfit2;refine yj ?_
   have hg2:((s.heap.update S (Obj.putSet es1' t1)).update S (Obj.putSet es2 t2)).get? S=ya { cls:=.type "set",data:=.set es2 (ep+1+1) t2}:=by
    have:=v6 (Obj.putSet es2 t2) hg1 (by rw[putSet_of es2 t2 rfl];rfl);rw[putSet_of es2 t2 rfl]at this;exact this
   have sb2:=sb1.trans (Heap.SameBut.update (s.heap.update S (Obj.putSet es1' t1)) S (Obj.putSet es2 t2));refine q yl _ sb2 (TSet.mk' hg2 (l4.trans tp) (l3.trans tled) l5 ?_ (hp2.trans hp1) hn1 hk1 sb2);have:=l5.len;rw[yd,hp2.length_eq,sz1]at this;rw[l2];lia
  ·have hff:t1.tooFull=yi:=by simpa using hfull
   rw[hff];simp only[uq,ql,if_false];refine yj (q yl _ sb1 (TSet.mk' hg1 tp tled G2 ?_ hp1 hn1 hk1 sb1));unfold SetTable.tooFull at hff;rw[fill]at hff;have:=of_decide_eq_false hff;have:=len2;lia
end
end HT
namespace L2
open PySem PySem.Spec PyProof.Rows
theorem zh7{X:Cx}{elt iter tg:Expr}{ifs:List Expr}{scope:Scope}{pos:Pos}{N':List Str}{n:Nat}{keep:List Nat}{wi:TI}{g:TG}{tc:TT}{te:TE}
  (hcalm:X.calm=yl) (hkind:scope.kind=.function) (hcell:∀y∈scope.names,y.2≠.cell) (hlook:∀y∈scope.names,scope.names.lookup y.1=ya y.2)
  (hfr:∀x,(x,qe)∈scope.names->X.env.kindOf x=ya .cell\/X.env.kindOf x=ya .free)
  (hlen:N'.length=n+keep.length) (hcap:∀(k:Nat) (x:Str),N'[n+k]? = ya x->(x,qe)∈scope.names/\∃j,keep[k]? = ya j/\X.N[j]? = ya x)
  (hi:PI X tg iter wi)
  (hb:∀C fp pins s H,PG (blockCx X N' scope C fp pins s H) tg g/\PTs (blockCx X N' scope C fp pins s H) ifs tc/\PE (blockCx X N' scope C fp pins s H) elt te)
  (hs:∀x,ug iter X.env x=pure x) {use:Option (yh->Sem Unit)} {Qp:yh->ym->Prop} {ppos:Pos}
  {pins:List (yq×Obj)} {s:ym} {σ:St} {H:Hp} {Q:VK} (I:Inv X pins σ H s) (h:tComp wi n keep g tc te σ H Q)
  (fin:∀(D C:yq) (s6:ym) (H5:Hp) (m6:Str->Option yh),s6.heap.Ns C m6->(∀h',Heap.SameBut C s6.heap h'->Inv X pins σ H5 { s6 with heap:=h'})->FpOk X pins H5 C->Q (.ref D) H5 ->
   compPost (model X.prog X.w) X.A X.xe use Qp (.ref D) C (.ok .next) s6) :
  y9 (model X.prog X.w) X.A (comprehension (.ListComp elt [⟨tg,iter,ifs,0⟩] scope pos) scope X.env ppos (newList []) yi (eval iter X.env) use) Qp X.xe s:=by
 have hclo:∀n,(n,qe)∈scope.names->∃c,X.env.cells.lookup n=ya c:=λn hn=>I.ok.has n (hfr n hn)
 have hnames:∀x∈scope.names,x.2=.local->scope.names.lookup x.1=ya .local:=λx hx e=>e▸hlook x hx
 refine wpAny_comprehension_free (use:=use) rfl hs (zev hclo) hkind hnames (jd (hi pins s σ H _ I h) (λxv s₁ h₁=>jd h₁ (λitv s₂ h₂=>?_) λ_ _ e=>e) λ_ _ e=>e);refine zKK λγ κ=>?_;obtain⟨it,fp,tn,J,H2,rfl,I2,T,st2,f2,hR⟩:=h₂;refine κ ?_;refine jc (wpAny_newFunctionEnv hcell (by intro y hy;simp at hy) (λh₁ hns₁ hsb₁=>?_) hkind);dsimp only at hns₁ hsb₁ ⊢
 -- acc,at the heap's end
 have I3:Inv X pins σ (upd H2 s₂.heap.objs.size (.lst [])) { s₂ with heap:=s₂.heap.push { cls:=.type "list",dict:=yk,data:=.seq ([]:List yh).toArray}}:=I2.lnew (ys:=[]) (its:=[]) (t':=s₂.toks) .nil (wm _);have fr2:H2 s₂.heap.objs.size=yk:=I2.fresh;generalize hD:s₂.heap.objs.size=D at I3 fr2;generalize hP2:s₂.heap.push { cls:=.type "list",dict:=yk,data:=.seq ([]:List yh).toArray}=P2 at hns₁ hsb₁ I3 ⊢;have push2:∀b o,s₂.heap.get? b=ya o->P2.get? b=ya o:=λb o e=>hP2▸yp _ e
 have hC:P2.objs.size=D+1:=by rw[← hP2,ye4,hD]
 generalize hCC:P2.objs.size=C at hns₁ hsb₁ hC ⊢;have old:∀b o,P2.get? b=ya o->h₁.get? b=ya o:=λb o e=>hsb₁.extBut b o (by rw[← hCC];exact qg (yx e)) (yp _ e)
 obtain⟨W,⟨m0,w0⟩,turn⟩:=hR D fr2;let s3:ym:={ s₂ with heap:=P2}
 let X':Cx:=blockCx X N' scope C fp pins s3 (upd H2 D (.lst []))
 have fpL:∀b∈fp,b<D:=λb hb=>by
  obtain⟨o,e,_⟩:=T.obj _ _ st2 b hb;rw[← hD];exact yx e
 have kOf:∀x,X'.env.kindOf x=(scope.names.lookup x).map λk=>if(k==qe&&X.env.scope.kind == .function&&X.env.kindOf x==ya .cell)then ybz else k:=λx=>za8
 have free_of:∀x,(X'.env.kindOf x=ya .cell\/X'.env.kindOf x=ya .free)->(x,qe)∈scope.names:=λx hx=>by
  rw[kOf]at hx;cases e:scope.names.lookup x with
  | none=>rw[e]at hx;rcases hx with h | h <;> cases h
  | some k =>
   have hm:=PySem.mem_of_lookup e;have hnc:k≠.cell:=hcell _ hm;by_cases hk:k=.free
   ·rw[← hk];exact hm
   ·rw[e]at hx
    have hb:(k==qe)=yi:=by simpa using hk
    simp only[xx,hb,yci,ql,if_false,Option.some.injEq]at hx;rcases hx with h | h
    ·exact absurd h hnc
    ·exact absurd h hk
 have vis_free:∀x,(x,qe)∈scope.names->(X'.env.kindOf x=ya .cell\/X'.env.kindOf x=ya .free):=λx hx=>by
  rw[kOf,hlook _ hx];simp only[xx];split
  ·exact .inl rfl
  ·exact .inr rfl
 have ok':X'.Ok:=by
  refine⟨I.ok.mod,hkind,I.ok.glob,I.ok.blt,?_,λx y c h1 h2=>I.ok.inj x y c (zaj h1 hclo) (zaj h2 hclo),λx hx=>?_,λx c hf=>absurd hf qc,λ_=>I.ok.hd hcalm,I.ok.frames,.inl rfl,λb hb=>⟨?_,λx c e=>?_⟩,I3.bs,xh I.ok.bsz I3.sz,λb o e hb=>?_,λb hb hz=>?_,I3.stack,I3.stkFree⟩
  ·show P2.objs.size<=C
   rw[hCC];exact y6 _
  ·obtain⟨c,e,_⟩:=zrs (free_of x hx) hclo
   exact⟨c,e⟩
  ·exact qg (qp (fpL b hb) (by show D<=C;rw[hC];exact ya9 D))
  ·exact(f2 b hb).2.2.2.2.1 x c (zaj e hclo)
  ·rcases(f2 b hb).2.2.2.1 with z | z
   ·exact I.ok.noex b o e z
   ·exact absurd (qp (qp (yx e) I.ok.bsz) z) (yaa _)
  ·rcases yn.mp (I3.stkSub b hz)with z | z
   ·exact(f2 b hb).2.1 z
   ·exact(f2 b hb).2.2.1 z
 have I4:Inv X' [] (caps n keep σ) (upd H2 D (.lst [])) { s3 with heap:=h₁,toks:=s3.toks+([]:List (Str×yh)).length}:=by
  refine⟨ok',rfl,I3.bare,Un.kept old,⟨_,hns₁,λi x v e1 e2 e3=>?_⟩,λx c e=>?_,I3.hok.fresh (by show P2.objs.size<=C;rw[hCC];exact y6 _),λx c e=>I3.freeC x c (zaj e hclo),λp hp=>?_,I3.hok.kept old,?_⟩
  ·have hin:n<=i:=by
    by_cases hlt:i<n
    ·unfold caps at e2
     rw[xc (by simpa using hlt),jn]at e2;split at e2 <;> cases e2
    ·lia
   obtain⟨k,rfl⟩:∃k,i=n+k:=⟨i - n,by lia⟩;obtain⟨hm,j,hj,hjN⟩:=hcap k x e1
   have e2':(σ[j]?).join=ya v:=by
    unfold caps at e2;rw[qz (by simp),xo,show n+k - n=k by lia,yy,hj]at e2;exact qh e2
   have e2'':σ[j]? = ya (ya v):=by
    cases q:σ[j]? with
    | none=>rw[q]at e2';cases e2'
    | some o=>rw[q]at e2';cases o with
     | none=>cases e2'
     | some v'=>exact congrArg ya e2'
   obtain⟨m3,_,hl3⟩:=I3.loc;have hv:Vis X.env.scope x:=(hfr x hm).elim (λz=>.inr (.inl z)) λz=>.inr (.inr z)
   obtain⟨u,r,l⟩:=hl3 j x v hjN e2'' hv;refine⟨u,r,.inr ⟨vis_free x hm,?_⟩⟩;rcases l with⟨z,_⟩ | ⟨_,c,hc,o,ho,hd⟩
   ·rcases hfr x hm with y | y <;> (rw[y]at z;cases z)
   ·obtain⟨c',e',e''⟩:=zrs hm hclo
    rw[hc]at e'';cases e'';exact⟨c,e',o,old _ _ ho,hd⟩
  ·obtain⟨v,o,ho,hd⟩:=I3.cell x c (zaj e hclo)
   exact⟨v,o,old _ _ ho,hd⟩
  ·have hp':p∈X.pn++pins:=by simpa using(show p∈(X.pn++pins)++[]from hp)
   refine zKK λγ κ=>?_;obtain⟨a1,a2,a3,a4,a5⟩:=I3.pin p hp';refine κ ?_;refine⟨old _ _ a1,a2,?_,λhz=>?_,a5⟩
   ·exact qg (yee (show p.1<P2.objs.size from yx a1) hCC)
   ·rcases yn.mp (I3.stkSub p.1 hz)with z | z
    ·exact a3 z
    ·exact a4 z
  ·show(caps n keep σ).length=N'.length
   unfold caps;rw[yu,xo,yd,hlen]
 have fp':∀{H':Hp},(∀b∈fp,H' b=yk)->∀b∈fp,FpOk X' [] H' b:=λhn b hb=>by
  refine⟨hn b hb,?_,λhz=>?_,.inl hb,λx c e=>(f2 b hb).2.2.2.2.1 x c (zaj e hclo),λp hp=>?_⟩
  ·exact qg (qp (fpL b hb) (by show D<=C;rw[hC];exact ya9 D))
  ·rcases yn.mp (I3.stkSub b hz)with z | z
   ·exact(f2 b hb).2.1 z
   ·exact(f2 b hb).2.2.1 z
  ·have hp':p∈X.pn++pins:=by simpa using(show p∈(X.pn++pins)++[]from hp)
   exact(f2 b hb).2.2.2.2.2 p hp'
 have fr3:∀b∈fp,(upd H2 D (.lst [])) b=yk:=λb hb=>by
  rw[zh (qg (fpL b hb))];exact(f2 b hb).1
 have st4:tn 0 h₁:=T.keep _ _ _ st2 λb hb o e=>old b o (push2 b o e)
 have loop:yb1 (model X.prog X.w) X.A (.compLoop (.ListComp elt [⟨tg,iter,ifs,0⟩] scope pos) 0 (.ref it) (.ref D) X'.env) (compPost (model X.prog X.w) X.A X.xe use Qp (.ref D) C) { s3 with heap:=h₁,toks:=s3.toks+([]:List (Str×yh)).length}:=by
  refine zof (λm s'=>∃i ys H',Inv X' [] (caps n keep σ) H' s'/\tn i s'.heap/\(∀b∈fp,H' b=yk)/\W i m ys H') ?_ m0 ⟨0,[],_,I4,st4,fr3,w0⟩;intro m s5 ζ1;refine zKK λγ κ=>?_;obtain⟨i,ys,H5,I5,st5,fr5,w5⟩:=ζ1;obtain⟨hacc,alt⟩:=turn i m ys H5 w5;refine κ ?_;rcases alt with⟨stop,qn⟩ | ⟨go,step⟩
  ·refine jd (T.done X' rfl rfl rfl hcalm i [] s5 (caps n keep σ) H5 NoE I5 (fp' fr5) st5 stop) (λr s6 ⟨hr,I6⟩=>?_) λ_ _ z=>z
   subst hr;obtain⟨m6,hn6,_⟩:=id I6.loc;refine fin D C s6 H5 m6 hn6 (λh' hsb=>?_) (I2.fpOk (by rw[hD,hC];exact ya9 D) I6.free) qn;have hgo:∀b o,b≠C->s6.heap.get? b=ya o->h'.get? b=ya o:=λb o hb e=>(hsb.2 b hb).trans e
   have neC:∀b o,P2.get? b=ya o->b≠C:=λb o e=>qg (yee (yx e) hCC)
   have u6:Un (frs X.stack) fp (upd H2 D (.lst [])) H5 P2 s6.heap:=I6.base
   have u7:Un (frs X.stack) fp (upd H2 D (.lst [])) H5 P2 h':=by
    refine⟨λb o e n1 n2 n3=>hgo b o (neC b o e) (u6.keep b o e n1 n2 n3),λb o e n1 n2 n3=>?_,u6.free,λb o e n1=>?_,u6.tups,u6.frzs,u6.tbls⟩
    ·obtain⟨sl,q⟩:=u6.slot b o e n1 n2 n3
     exact⟨sl,hgo b _ (neC b o e) q⟩
    ·obtain⟨o',q⟩:=u6.there b o e n1
     exact⟨o',hgo b _ (neC b o e) q⟩
   have hfC:H5 C=yk:=I6.free
   have hok7:HOk X.prog X.w H5 h':=λb u e=>by
    refine(I6.hok b u e).stay (λc v hc q=>hgo c v ?_ q) (λ_ q=>q) λ_ _ q=>q
    rcases hc with z | z
    ·rw[z];exact zg e hfC
    ·exact zg z hfC
   have I7:Inv X pins σ H5 { s6 with heap:=h'}:=I3.call' (ch:=fp) (s':={ s6 with heap:=h'}) I6.os u7 hok7 I6.bare λb hb=>⟨(f2 b hb).2.2.2.1,(f2 b hb).2.1,(f2 b hb).2.2.2.2.1,(f2 b hb).2.2.2.2.2⟩
   exact I7
  ·refine jd (T.item X' rfl rfl rfl hcalm i [] s5 (caps n keep σ) H5 NoE I5 (fp' fr5) st5 go) (λr s6 ⟨u,hr,h6⟩=>?_) λ_ _ z=>z
   subst hr;refine jd h6 (λ_ s7 ⟨x,H7,I7,r7,y7,st7,fr7⟩=>?_) λ_ _ z=>z
   have I7':=I7.pinned (fp' fr7) (T.obj _ _ st7);obtain⟨bg,bt,be⟩:=hb C fp pins s3 (upd H2 D (.lst []))
   have back:∀{σ9:St} {H9:Hp} {s9:ym} {ys':List V},Wk (caps n keep σ) σ9->Inv X' ([]++pinsAt fp s7.heap) σ9 H9 s9->(∃m',m'<m/\W (i+1) m' ys' H9) ->
     ∃m',m'<m/\∃i ys H',Inv X' [] (caps n keep σ) H' s9/\tn i s9.heap/\(∀b∈fp,H' b=yk)/\W i m' ys H':=λ{σ9 H9 s9 ys'} hw I9 ⟨m',hm,w9⟩=>by
    refine⟨m',hm,i+1,ys',H9,I9.unpinned.weak hw.1 hw.2,T.keep _ _ _ st7 λb hb o e=>(I9.pin (b,o) (qx _ (qx _ (zbu hb e)))).1,λb hb=>?_,w9⟩;obtain⟨o,e,d⟩:=T.obj _ _ st7 b hb;exact(I9.pin (b,o) (qx _ (qx _ (zbu hb e)))).2.1
   refine jd (bg _ s7 (caps n keep σ) H7 x u _ I7' r7 (step x H7 y7)) (λ_ s8 ⟨σ8,H8,I8,wk8,q8⟩=>?_) λ_ _ z=>z
   refine jd (bt _ s8 σ8 H8 _ I8 q8) (λok s9 ⟨H9,I9,q9⟩=>?_) λ_ _ z=>z
   cases ok with
   | false =>
    rw[if_neg qc]at q9 ⊢;exact back wk8 I9 q9
   | true =>
    rw[if_pos rfl]at q9 ⊢;refine jd (be _ s9 σ8 H9 _ I9 q9) (λy s10 ⟨yv,H10,I10,r10,hacc10,hz10,w10⟩=>?_) λ_ _ z=>z
    refine jd (zh1 (X:=X') _ s10 σ8 H10 (.ref D) [yv] (.ref D) [y] (λ_ H11=>H11=upd H10 D (.lst (ys++[yv]))) I10 rfl (.cons r10 .nil) ⟨D,ys,yv,rfl,rfl,hacc10,hz10,rfl⟩) (λ_ s11 ⟨_,H11,I11,_,e11⟩=>?_) λ_ _ z=>z
    subst e11;exact back wk8 I11 w10
 exact codeAny_compStart_list loop (T.self _ 0 _ _ _ st4 loop)
theorem zkj{X:Cx}{elt iter tg:Expr}{ifs:List Expr}{scope:Scope}{pos:Pos}{N':List Str}{n:Nat}{keep:List Nat}{wi:TI}{g:TG}{tc:TT}{te:TE}
  (hcalm:X.calm=yl) (hkind:scope.kind=.function) (hcell:∀y∈scope.names,y.2≠.cell) (hlook:∀y∈scope.names,scope.names.lookup y.1=ya y.2)
  (hfr:∀x,(x,qe)∈scope.names->X.env.kindOf x=ya .cell\/X.env.kindOf x=ya .free)
  (hlen:N'.length=n+keep.length) (hcap:∀(k:Nat) (x:Str),N'[n+k]? = ya x->(x,qe)∈scope.names/\∃j,keep[k]? = ya j/\X.N[j]? = ya x)
  (hi:PI X tg iter wi)
  (hb:∀C fp pins s H,PG (blockCx X N' scope C fp pins s H) tg g/\PTs (blockCx X N' scope C fp pins s H) ifs tc/\PE (blockCx X N' scope C fp pins s H) elt te)
  (hs:∀x,ug iter X.env x=pure x:=by intro _;rfl) :
  PE X (.ListComp elt [⟨tg,iter,ifs,0⟩] scope pos) (tComp wi n keep g tc te):=by
 intro pins s σ H Q I h;rw[eval_ListComp];exact zh7 (use:=yk) (Qp:=EP X pins σ Q) hcalm hkind hcell hlook hfr hlen hcap hi hb hs I h λD C s6 H5 m6 hn hI hf q=>⟨m6,hn,λh' hsb=>⟨.ref D,H5,hI h' hsb,rfl,q⟩⟩
theorem zjn{X:Cx}{elt iter tg:Expr}{ifs:List Expr}{scope:Scope}{pos py spos:Pos}{N':List Str}{n:Nat}{keep:List Nat}{wi:TI}{g:TG}{tc:TT}{te:TE}{y:Str}{gy:TG}
  (hcalm:X.calm=yl) (hkind:scope.kind=.function) (hcell:∀y∈scope.names,y.2≠.cell) (hlook:∀y∈scope.names,scope.names.lookup y.1=ya y.2)
  (hfr:∀x,(x,qe)∈scope.names->X.env.kindOf x=ya .cell\/X.env.kindOf x=ya .free)
  (hlen:N'.length=n+keep.length) (hcap:∀(k:Nat) (x:Str),N'[n+k]? = ya x->(x,qe)∈scope.names/\∃j,keep[k]? = ya j/\X.N[j]? = ya x)
  (hi:PI X tg iter wi)
  (hb:∀C fp pins s H,PG (blockCx X N' scope C fp pins s H) tg g/\PTs (blockCx X N' scope C fp pins s H) ifs tc/\PE (blockCx X N' scope C fp pins s H) elt te)
  (hs:∀x,ug iter X.env x=pure x) (hg:PG X (.Name y py) gy)
  (hsw:ybx (.ListComp elt [⟨tg,iter,ifs,0⟩] scope pos) (ya (.Name y py)) spos.line X.env=pure yl) :
  PS X (.Assign [.Name y py] (.ListComp elt [⟨tg,iter,ifs,0⟩] scope pos) spos) (tAsg (tComp wi n keep g tc te) gy):=by
 intro pins s σ H E I h;rw[exec_Assign_Name_used _ _ _ _ hsw];refine yb (wpAny_standAt (yb ?_));show y9 _ X.A (do let _ ← comprehension (.ListComp elt [⟨tg,iter,ifs,0⟩] scope pos) scope X.env _ (newList []) yi (eval iter X.env) (ya (assign (.Name y py) X.env))) _ _ s;refine yb (jd (zh7 (use:=ya (assign (.Name y py) X.env)) (Qp:=λ_ s'=>SP X pins E .next s') hcalm hkind hcell hlook hfr hlen hcap hi hb hs I h λD C s6 H5 m6 hn hI hf q=>?_) (λ_ s' hq=>yj (yj hq)) λ_ _ e=>e);have I6:Inv X pins σ H5 s6:=hI s6.heap (Heap.SameBut.refl _ _);obtain⟨f0,f1,f2,f3,f4,f5⟩:=hf;obtain⟨oC,es,ep,e1,e2,e3⟩:=id hn
 have I7:Inv X (pins++[(C,oC)]) σ H5 s6:=I6.pins_of λp hp=>(qt.mp hp).elim (λz=>I6.pin p (qx _ z)) λz=>by
  have z:p=(C,oC):=by simpa using z
  subst z;exact⟨e1,f0,f1,f2,λv z=>by rw[e2]at z;cases z⟩
 refine jd (hg (pins++[(C,oC)]) s6 σ H5 (.ref D) (.ref D) E.nx I7 rfl q) (λ_ s8 ⟨σ8,H8,I8,q8⟩=>?_) λ_ _ z=>z
 have p8:=I8.pin (C,oC) (qx _ (qx _ (by simp)));refine⟨m6,⟨oC,es,ep,p8.1,e2,e3⟩,λh' hsb=>?_⟩;have I9:=I8.unpinned;exact⟨σ8,H8,I9.turned (t':=s8.toks) (λb o hb e=>hsb.extBut b o hb e) p8.2.1 f1 f3 f4 f5,q8⟩
end L2
namespace PY
open PySem (Str)
inductive D where
 | non | bl (b:Bool) | int (i:Int) | str (x:Str) | tup (l:List D) | lst (l:List D) | dic (ks vs:List D)
 deriving Inhabited
noncomputable def D.scal:D->Bool
 | .tup _=>yi
 | .lst _=>yi
 | .dic _ _=>yi
 | _=>yl
noncomputable def b2(b:Bool):Int:=if b then 1 else 0
mutual
noncomputable def D.eq:D->D->Bool
 | .non,.non=>yl
 | .bl a,.bl b=>a==b
 | .bl a,.int b=>b2 a==b
 | .int a,.bl b=>a==b2 b
 | .int a,.int b=>a==b
 | .str a,.str b=>a==b
 | .tup a,.tup b=>D.eqs a b
 | .lst a,.lst b=>D.eqs a b
 | .dic a b,.dic c d=>D.eqs a c&&D.eqs b d
 | _,_=>yi
noncomputable def D.eqs:List D->List D->Bool
 | [],[]=>yl
 | x::xs,y::ys=>D.eq x y&&D.eqs xs ys
 | _,_=>yi
end
theorem zdf:D.eq (.int a) (.int b)=(a==b):=rfl
theorem zaa:D.eq (.tup a) (.tup b)=D.eqs a b:=rfl
theorem zas:D.eq (.lst a) (.lst b)=D.eqs a b:=rfl
theorem zno:D.eqs [] []=yl:=rfl
theorem zb1:D.eqs (x::xs) (y::ys)=(D.eq x y&&D.eqs xs ys):=rfl
noncomputable def ints?:List D->Option (List Int)
 | []=>ya []
 | .int i::r=>(ints? r).map (i::·)
 | _=>yk
noncomputable def lexLt:List Int->List Int->Bool
 | [],[]=>yi
 | [],_::_=>yl
 | _::_,[]=>yi
 | a::as,b::bs=>if a==b then lexLt as bs else decide (a<b)
noncomputable def D.lt:D->D->Option Bool
 | .int a,.int b=>ya (decide (a<b))
 | .tup a,.tup b=>match ints? a,ints? b with
  | some x,ya y=>ya (lexLt x y)
  | _,_=>yk
 | _,_=>yk
noncomputable def D.truthy:D->Bool
 | .non=>yi
 | .bl b=>b
 | .int i=>i != 0
 | .str x=>x.length != 0
 | .tup l=>!l.isEmpty
 | .lst l=>!l.isEmpty
 | .dic l _=>!l.isEmpty
noncomputable def tru:D->Option Bool
 | .str x=>if x.length<=4000 then ya (x.length != 0)else yk
 | .dic _ _=>yk
 | d=>ya d.truthy
inductive Sl where
 | no | val (d:D) | own (l:List D) | dk (ks vs:List D) | dl (t:Bool) (ks:List D) (ls:List (List D))
 deriving Inhabited
noncomputable abbrev Rho:=List Sl
inductive Fl where | solid | fresh | peek
 deriving DecidableEq,Inhabited
inductive Bop where | add | sub | mul | fdiv | mod
 deriving DecidableEq
inductive Cop where | eq | ne | lt | le | gt | ge | isC | notC | isin | notin
 deriving DecidableEq
inductive Bi where | len | all | any | tuple | list | sorted | str    | revT | sum | sortset
 deriving DecidableEq
inductive B2 where | min2 | max2
 deriving DecidableEq
inductive Ty where | int | bool | str | tuple | list
 deriving DecidableEq
inductive Cn where | non | bl (b:Bool) | int (i:Int) | str (x:Str)
 deriving DecidableEq
noncomputable def Cn.d:Cn->D
 | .non=>.non | .bl b=>.bl b | .int i=>.int i | .str x=>.str x
inductive Tg where | one (i:Nat) | many (is:List Nat)
 deriving DecidableEq
mutual
inductive E where
 | con (c:Cn) | var (i:Nat) | glob (x:Str) (c:Cn)
 | call (f:Nat) (as:Es)
 | bi (b:Bi) (a:E)
 | isi (a:E) (t:Ty)
 | tup (as:Es) | lst (as:Es)
 | bin (o:Bop) (a b:E)
 | cmp (o:Cop) (a b:E)
 | and (a b:E) | or (a b:E) | not (a:E) | neg (a:E)
 | ix (a i:E) | sl (a:E) (lo hi:Eo)
 | comp (e:E) (t:Tg) (it:I) (c:Eo) (n:Nat) (keep:List Nat)
 | bi2 (o:B2) (a b:E)
 | dic0
 | dget (a k d:E) | dsel (i:Nat) (c:Int) | ttn (a:E) (x:Str) (l:List (List Int))
inductive Es where | nil | cons (e:E) (r:Es)
inductive Eo where | no | so (e:E)
inductive I where | seq (e:E) | rng1 (a:E) | rng2 (a b:E) | enum (e:E) | zip (a b:E)
end
mutual
inductive S where
 | asg (t:Tg) (e:E) | ret (e:E)
 | cond (c:E) (a b:Ss) | loop (t:Tg) (it:I) (b:Ss) | while (c:E) (b:Ss)
 | app (i:Nat) (e:E) | never | brk | cnt | skip | drop (e:E) | frz (is:List Nat) (s:S)
 | ins (i:Nat) (k e:E) | pop (t:Tg) (i:Nat) (k:E) | dput (i:Nat) (k e:E)
    | io
 | ext (i:Nat) (e:E)
inductive Ss where | nil | cons (s:S) (r:Ss)
end
noncomputable def big:Nat:=4000
noncomputable abbrev R:=D×Fl
noncomputable def solid?:R->Option D
 | (_,.peek)=>yk
 | (d,_)=>ya d
noncomputable def binop:Bop->D->D->Option R
 | .add,.int a,.int b=>ya (.int (a+b),.solid)
 | .sub,.int a,.int b=>ya (.int (a - b),.solid)
 | .mul,.int a,.int b=>if(-1000000000000000000<a/\a<1000000000000000000)\/(-1000000000000000000<b/\b<1000000000000000000)then ya (.int (a*b),.solid)else yk
 | .fdiv,.int a,.int b=>if 0<b/\b<1073741824 then ya (.int (a / b),.solid)else yk
 | .mod,.int a,.int b=>if 0<b then ya (.int (a % b),.solid)else yk
 | .add,.lst a,.lst b=>if a.length+b.length<=big then ya (.lst (a++b),.fresh)else yk
 | .add,.tup a,.tup b=>if a.length+b.length<=big then ya (.tup (a++b),.solid)else yk
 | .add,.str a,.str b=>if a.length+b.length<=big then ya (.str (a++b),.solid)else yk
 | _,_,_=>yk
noncomputable def tups?:List D->Option (List (List Int))
 | []=>ya []
 | .tup l::r=>match ints? l with
  | some (x::ns)=>(tups? r).map ((x::ns)::·)
  | _=>yk
 | _=>yk
noncomputable def keyAt(x:D)(ks:List D):Option (Option Nat):=match x with
 | .int i=>(ints? ks).map λns=>ns.findIdx? (· == i)
 | _=>yk
noncomputable def memD(x:D)(l:List D):Bool:=l.any λy=>D.eq y x
noncomputable def D.deep:Nat->D->Bool
 | 0,d=>d.scal
 | n+1,.tup l=>l.all (D.deep n)
 | n+1,.lst l=>l.all (D.deep n)
 | _+1,.dic _ _=>yi
 | _+1,_=>yl
noncomputable def cmpop:Cop->D->D->Option Bool
 | .eq,a,b=>if a.deep 8&&b.deep 8 then ya (D.eq a b)else yk
 | .ne,a,b=>if a.deep 8&&b.deep 8 then ya (!D.eq a b)else yk
 | .lt,a,b=>D.lt a b
 | .gt,.int a,.int b=>ya (decide (b<a))
 | .le,.int a,.int b=>ya (decide (a<=b))
 | .ge,.int a,.int b=>ya (decide (b<=a))
 | .isC,a,.non=>ya (match a with | .non=>yl | _=>yi)
 | .isC,a,.bl c=>ya (match a with | .bl b=>b==c | _=>yi)
 | .notC,a,.non=>ya (match a with | .non=>yi | _=>yl)
 | .notC,a,.bl c=>ya (match a with | .bl b=>!(b==c) | _=>yl)
 | .isin,x,.tup l=>if x.deep 8&&l.all (D.deep 8)then ya (memD x l)else yk
 | .isin,x,.lst l=>if x.deep 8&&l.all (D.deep 8)then ya (memD x l)else yk
 | .notin,x,.tup l=>if x.deep 8&&l.all (D.deep 8)then ya (!memD x l)else yk
 | .notin,x,.lst l=>if x.deep 8&&l.all (D.deep 8)then ya (!memD x l)else yk
 | .isin,x,.dic ks _=>(keyAt x ks).map λo=>o.isSome
 | .notin,x,.dic ks _=>(keyAt x ks).map λo=>!o.isSome
 | _,_,_=>yk
noncomputable def isTy:Ty->D->Bool
 | .int,.int _=>yl
 | .int,.bl _=>yl
 | .bool,.bl _=>yl
 | .str,.str _=>yl
 | .tuple,.tup _=>yl
 | .list,.lst _=>yl
 | _,_=>yi
noncomputable def place(n:Nat)(i:Int):Option Nat :=
 if 0<=i then(if i.toNat<n then ya i.toNat else yk)else(if 0<=i+n then ya (i+n).toNat else yk)
noncomputable def index:D->D->Option R
 | .lst l,.int i=>(place l.length i).bind λk=>(l[k]?).map λd=>(d,.solid)
 | .tup l,.int i=>(place l.length i).bind λk=>(l[k]?).map λd=>(d,.solid)
 | .dic ks vs,k=>(keyAt k ks).bind λo=>o.bind λj=>(vs[j]?).map λd=>(d,.solid)
 | _,_=>yk
noncomputable def six(n d:Nat):Option Int->Nat
 | none=>d
 | some v=>if v<0 then(v+(n:Int)).toNat else min v.toNat n
noncomputable def cutL{α:Type}(l:List α)(lo hi:Option Int):List α:=(l.drop (six l.length 0 lo)).take (six l.length l.length hi - six l.length 0 lo)
noncomputable def slice:D->Option Int->Option Int->Option R
 | .lst l,lo,hi=>ya (.lst (cutL l lo hi),.fresh)
 | .tup l,lo,hi=>ya (.tup (cutL l lo hi),.solid)
 | _,_,_=>yk
noncomputable def insI(x:Int):List Int->List Int
 | []=>[x]
 | y::r=>if x<=y then x::y::r else y::insI x r
noncomputable def sortI:List Int->List Int
 | []=>[]
 | x::r=>insI x (sortI r)
noncomputable def minI:List Int->Int
 | []=>0
 | x::r=>r.foldl (λa b=>if b<a then b else a) x
noncomputable def nubI(ns:List Int):List Int:=ns.foldl (λσ v=>if σ.any (· == v)then σ else σ++[v]) []
noncomputable def putAt{α:Type}(xs:List α)(k:Int)(y:α):List α:=xs.take (if k<0 then(k+(xs.length:Int)).toNat else min k.toNat xs.length)++y::xs.drop (if k<0 then(k+(xs.length:Int)).toNat else min k.toNat xs.length)
noncomputable def insT(x:List Int):List (List Int)->List (List Int)
 | []=>[x]
 | y::r=>if lexLt y x then y::insT x r else x::y::r
noncomputable def sortT:List (List Int)->List (List Int)
 | []=>[]
 | x::r=>insT x (sortT r)
noncomputable def tupI(ns:List Int):D:=.tup (ns.map .int)
noncomputable def sortO(l:List D):Option R:=match ints? l with
 | some ns=>if ns.length<64 then ya (.lst ((sortI ns).map .int),.fresh)else yk
 | none=>match tups? l with
  | some nss=>if nss.length<64 then ya (.lst ((sortT nss).map tupI),.fresh)else yk
  | none=>yk
noncomputable def sortK(ks:List D):Option R:=match ints? ks with
 | some _=>sortO ks
 | none=>yk
noncomputable def nubT(ns:List (List Int)):List (List Int):=ns.foldl (λσ v=>if σ.any (· == v)then σ else σ++[v]) []
noncomputable def sumI(ns:List Int):Int:=ns.foldl (· + ·) 0
noncomputable def minO(l:List D):Option R:=(ints? l).bind λns=>match ns with | []=>yk | x::r=>ya (.int (minI (x::r)),.solid)
noncomputable def maxI:List Int->Int
 | []=>0
 | x::r=>r.foldl (λa b=>if b>a then b else a) x
noncomputable def maxO(l:List D):Option R:=(ints? l).bind λns=>match ns with | []=>yk | x::r=>ya (.int (maxI (x::r)),.solid)
noncomputable def minP(l:List D):Option R:=minO l
noncomputable def lensO(l:List D):Option R:=(ints? l).bind λns=>if ns.length<4000 then ya (.int (nubI ns).length,.solid)else yk
noncomputable def lensL(l:List D):Option R:=lensO l
noncomputable def isBl:D->Bool
 | .bl _=>yl
 | _=>yi
noncomputable def bltin:Bi->D->Option R
 | .len,.lst l=>ya (.int l.length,.solid)
 | .len,.tup l=>ya (.int l.length,.solid)
 | .len,.str x=>if x.length<=big then ya (.int x.length,.solid)else yk
 | .all,.lst l=>if l.all isBl then ya (.bl (l.all D.truthy),.solid)else yk
 | .any,.lst l=>if l.all isBl then ya (.bl (l.any D.truthy),.solid)else yk
 | .tuple,.lst l=>ya (.tup l,.solid)
 | .tuple,.tup l=>ya (.tup l,.solid)
 | .list,.lst l=>ya (.lst l,.fresh)
 | .list,.tup l=>ya (.lst l,.fresh)
 | .sorted,.lst l=>sortO l
 | .sorted,.tup l=>sortO l
 | .sorted,.dic ks _=>sortK ks
 | .revT,.tup l=>ya (.tup l.reverse,.solid)
 | .sum,.lst l=>(ints? l).bind λns=>if decide (ns.length<=4000)&&ns.all (λn=>decide (-4000<=n)&&decide (n<=4000))then ya (.int (sumI ns),.solid)else yk
 | .sortset,.tup l=>(tups? l).bind λnss=>if nss.length<64 then ya (.lst ((sortT (nubT nss)).map tupI),.fresh)else yk
 | _,_=>yk
noncomputable def bltin2:B2->D->D->Option R
 | .min2,.int a,.int b=>ya (.int (if b<a then b else a),.solid)
 | .max2,.int a,.int b=>ya (.int (if b>a then b else a),.solid)
 | _,_,_=>yk
noncomputable def whereD:D->D->Option R
 | .lst l,x=>if x.deep 8&&l.all (D.deep 8)&&decide (l.length<=big)then(l.findIdx? λy=>D.eq y x).map (λ(j:Nat)=>((D.int (j:Int),Fl.solid):R))else yk
 | _,_=>yk
noncomputable def slot(ρ:Rho)(i:Nat):Option R:=match ρ[i]? with
 | some (.val d)=>ya (d,.solid)
 | some (.own l)=>ya (.lst l,.peek)
 | some (.dk ks vs)=>ya (.dic ks vs,.peek)
 | _=>yk
noncomputable def setAll:List Nat->List D->Rho->Option Rho
 | [],[],ρ=>ya ρ
 | i::is,d::ds,ρ=>setAll is ds (ρ.set i (.val d))
 | _,_,_=>yk
noncomputable def give:Tg->D->Rho->Option Rho
 | .one i,d,ρ=>ya (ρ.set i (.val d))
 | .many is,.tup ds,ρ=>setAll is ds ρ
 | .many _,_,_=>yk
noncomputable def inner(ρ:Rho)(n:Nat)(keep:List Nat):Rho:=ja n .no++keep.map λi=>ρ.getD i .no
noncomputable def rangeD(lo:Int)(n:Nat):List D:=(q5 n).map λi=>.int (lo+(i:Nat))
noncomputable def small(i:Int):Bool:=decide (-4000<=i)&&decide (i<=4000)
noncomputable def enumD:Nat->List D->List D
 | _,[]=>[]
 | k,d::r=>.tup [.int k,d]::enumD (k+1) r
noncomputable def range1:D->Option (List D)
 | .int j=>if small j then ya (rangeD 0 j.toNat)else yk
 | _=>yk
noncomputable def range2:D->D->Option (List D)
 | .int i,.int j=>if small i&&small j&&decide (j - i<=4000)then ya (rangeD i (j - i).toNat)else yk
 | _,_=>yk
noncomputable def items:D->Option (List D)
 | .lst l=>ya l
 | .tup l=>ya l
 | _=>yk
noncomputable def filterMapO{α β:Type}(f:α->Option (Option β)):List α->Option (List β)
 | []=>ya []
 | x::r=>(f x).bind λy=>(filterMapO f r).map λys=>match y with | some z=>z::ys | none=>ys
noncomputable def bl?:D->Option Bool
 | .bl b=>ya b
 | _=>yk
noncomputable def int?:D->Option Int
 | .int i=>ya i
 | _=>yk
noncomputable def handed(lent:Bool)(d:D):Option R:=if lent&&!d.scal then yk else ya (d,.solid)
noncomputable def lstsD:List D->Option (List (List D))
 | []=>ya []
 | .lst l::r=>(lstsD r).map (l::·)
 | _=>yk
noncomputable def isRng:I->Bool
 | .rng1 _=>yl
 | .rng2 _ _=>yl
 | _=>yi
noncomputable def dputO(ks vs:List D)(k d:D):Option (List D×List D):=(keyAt k ks).bind λo=>if ks.length<big then(match o with
 | some j=>ya (ks,vs.set j d)
 | none=>ya (ks++[k],vs++[d]))else yk
noncomputable def lsti:D->Option (List D)
 | .lst l=>ya l
 | _=>yk
noncomputable def keyI:D->Option (List Int)
 | .tup l=>ints? l
 | _=>yk
noncomputable def maxR(f:D->Option (List Int)):D->List Int->List D->Option D
 | d,_,[]=>ya d
 | d,k,e::r=>(f e).bind λl=>if lexLt k l then maxR f e l r else maxR f d k r
noncomputable def maxF(f:D->Option (List Int)):List D->Option D
 | []=>yk
 | d::r=>(f d).bind λk=>maxR f d k r
noncomputable def getDf:D->D->D->Option R
 | .dic ks vs,k,.int z=>(keyAt k ks).bind λo=>match o with
  | some j=>(vs[j]?).map λd=>(d,.solid)
  | none=>ya (.int z,.solid)
 | _,_,_=>yk
noncomputable def selI(ns ms:List Int)(c:Int):List D:=((ns.zip ms).filter λp=>p.2==c).map λp=>.int p.1
noncomputable def selD(c:Int):Option Sl->Option R
 | some (.dk ks vs)=>(ints? ks).bind λns=>(ints? vs).map λms=>(.lst (selI ns ms c),.fresh)
 | _=>yk
noncomputable def zipD(l m:List D):List D:=(l.zip m).map λp=>.tup [p.1,p.2]
section
variable (cl:Nat→List D→Option D)
mutual
noncomputable def ev:E->Rho->Option R
 | .con c,_=>ya (c.d,.solid)
 | .glob _ c,_=>ya (c.d,.solid)
 | .var i,ρ=>slot ρ i
 | .call f as,ρ=>(evs as ρ).bind λ(ds,lent)=>(cl f ds).bind (handed lent)
 | .bi b a,ρ=>(ev a ρ).bind λr=>bltin b r.1
 | .isi a t,ρ=>(ev a ρ).map λr=>(.bl (isTy t r.1),.solid)
 | .tup as,ρ=>(evs as ρ).bind λ(ds,lent)=>if lent=yi/\ds.length<=big then ya (.tup ds,.solid)else yk
 | .lst as,ρ=>(evs as ρ).bind λ(ds,lent)=>if lent=yi/\ds.length<=big then ya (.lst ds,.fresh)else yk
 | .bin o a b,ρ=>(ev a ρ).bind λx=>(ev b ρ).bind λy=>binop o x.1 y.1
 | .cmp o a b,ρ=>(ev a ρ).bind λx=>(ev b ρ).bind λy=>(cmpop o x.1 y.1).map λk=>(.bl k,.solid)
 | .and a b,ρ=>(ev a ρ).bind λx=>(bl? x.1).bind λk=>if k then ev b ρ else ya (.bl yi,.solid)
 | .or a b,ρ=>(ev a ρ).bind λx=>(bl? x.1).bind λk=>if k then ya (.bl yl,.solid)else ev b ρ
 | .not a,ρ=>(ev a ρ).bind λr=>(tru r.1).map λk=>(.bl (!k),.solid)
 | .neg a,ρ=>(ev a ρ).bind λx=>(int? x.1).map λi=>(.int (-i),.solid)
 | .ix a i,ρ=>(ev a ρ).bind λx=>(ev i ρ).bind λy=>index x.1 y.1
 | .sl a lo hi,ρ=>(ev a ρ).bind λx=>(evo lo ρ).bind λl=>(evo hi ρ).bind λh=>slice x.1 l h
 | .comp e t it c n keep,ρ=>(evi it ρ).bind λ(ds,_) =>
   (filterMapO (λd=>(give t d (inner ρ n keep)).bind λρ'=>(evc c ρ').bind λk=>if k then(ev e ρ').bind λr=>(solid? r).map ya else ya yk) ds).map λys =>
    (.lst ys,.fresh)
 | .bi2 o a b,ρ=>(ev a ρ).bind λx=>(ev b ρ).bind λy=>bltin2 o x.1 y.1
 | .dic0,_=>ya (.dic [] [],.fresh)
 | .dget a k d,ρ=>(ev a ρ).bind λx=>(ev k ρ).bind λy=>(ev d ρ).bind λz=>getDf x.1 y.1 z.1
 | .dsel i c,ρ=>selD c ρ[i]?
 | .ttn a _ l,ρ=>(ev a ρ).bind λr=>(keyI r.1).map λn=>(.bl (!l.contains n),.solid)
noncomputable def evT:E->Rho->Option Bool
 | .and a b,ρ=>(evT a ρ).bind λk=>if k then evT b ρ else ya yi
 | .or a b,ρ=>(evT a ρ).bind λk=>if k then ya yl else evT b ρ
 | .not a,ρ=>(evT a ρ).map λk=>!k
 | .con c,_=>tru c.d
 | .glob _ c,_=>tru c.d
 | .var i,ρ=>(slot ρ i).bind λr=>tru r.1
 | .call f as,ρ=>(evs as ρ).bind λ(ds,lent)=>(cl f ds).bind λd=>(handed lent d).bind λr=>tru r.1
 | .bi b a,ρ=>(ev a ρ).bind λr=>(bltin b r.1).bind λr=>tru r.1
 | .isi a t,ρ=>(ev a ρ).map λr=>isTy t r.1
 | .cmp o a b,ρ=>(ev a ρ).bind λx=>(ev b ρ).bind λy=>cmpop o x.1 y.1
 | .ix a i,ρ=>(ev a ρ).bind λx=>(ev i ρ).bind λy=>(index x.1 y.1).bind λr=>tru r.1
 | .ttn a _ l,ρ=>(ev a ρ).bind λr=>(keyI r.1).map λn=>!l.contains n
 | _,_=>yk
noncomputable def evs:Es->Rho->Option (List D×Bool)
 | .nil,_=>ya ([],yi)
 | .cons e r,ρ=>(ev e ρ).bind λx=>(evs r ρ).map λ(ds,lent)=>(x.1::ds,lent||x.2 == .peek)
noncomputable def evo:Eo->Rho->Option (Option Int)
 | .no,_=>ya yk
 | .so e,ρ=>(ev e ρ).bind λx=>(int? x.1).map ya
noncomputable def evc:Eo->Rho->Option Bool
 | .no,_=>ya yl
 | .so e,ρ=>evT e ρ
noncomputable def evi:I->Rho->Option (List D×Bool)
 | .seq e,ρ=>(ev e ρ).bind λx=>(items x.1).map λl=>(l,x.2 == .peek)
 | .rng1 a,ρ=>(ev a ρ).bind λx=>(range1 x.1).map λl=>(l,yi)
 | .rng2 a b,ρ=>(ev a ρ).bind λx=>(ev b ρ).bind λy=>(range2 x.1 y.1).map λl=>(l,yi)
 | .enum e,ρ=>(ev e ρ).bind λx=>(lsti x.1).map λl=>(enumD 0 l,x.2 == .peek)
 | .zip a b,ρ=>(ev a ρ).bind λx=>(ev b ρ).bind λy=>(lsti x.1).bind λl=>(lsti y.1).map λm=>(zipD l m,x.2 == .peek||y.2 == .peek)
end
theorem zbj:ev cl (.con c) u1=ya (c.d,.solid):=rfl
theorem zba:ev cl (.var i) ρ=slot ρ i:=rfl
theorem zac:ev cl (.call f as) ρ=(evs cl as ρ).bind λ(ds,lent)=>(cl f ds).bind (handed lent):=rfl
theorem zg0:ev cl (.bi b a) ρ=(ev cl a ρ).bind λr=>bltin b r.1:=rfl
theorem zm9:ev cl (.isi a t) ρ=(ev cl a ρ).map λr=>(.bl (isTy t r.1),.solid):=rfl
theorem zlx:ev cl (.tup as) ρ=(evs cl as ρ).bind λ(ds,lent)=>if lent=yi/\ds.length<=big then ya (.tup ds,.solid)else yk:=rfl
theorem zoj:ev cl (.lst as) ρ=(evs cl as ρ).bind λ(ds,lent)=>if lent=yi/\ds.length<=big then ya (.lst ds,.fresh)else yk:=rfl
theorem zi3:ev cl (.bin o a b) ρ=(ev cl a ρ).bind λx=>(ev cl b ρ).bind λy=>binop o x.1 y.1:=rfl
theorem zmu:ev cl (.cmp o a b) ρ=(ev cl a ρ).bind λx=>(ev cl b ρ).bind λy=>(cmpop o x.1 y.1).map λk=>(.bl k,.solid):=rfl
theorem za9:ev cl (.and a b) ρ=(ev cl a ρ).bind λx=>(bl? x.1).bind λk=>if k then ev cl b ρ else ya (.bl yi,.solid):=rfl
theorem zu1:ev cl (.or a b) ρ=(ev cl a ρ).bind λx=>(bl? x.1).bind λk=>if k then ya (.bl yl,.solid)else ev cl b ρ:=rfl
theorem ztf:ev cl (.not a) ρ=(ev cl a ρ).bind λr=>(tru r.1).map λk=>(.bl (!k),.solid):=rfl
theorem ztw:ev cl (.neg a) ρ=(ev cl a ρ).bind λx=>(int? x.1).map λi=>(.int (-i),.solid):=rfl
theorem zo4:ev cl (.ix a i) ρ=(ev cl a ρ).bind λx=>(ev cl i ρ).bind λy=>index x.1 y.1:=rfl
theorem zrq:ev cl (.sl a lo hi) ρ=(ev cl a ρ).bind λx=>(evo cl lo ρ).bind λl=>(evo cl hi ρ).bind λh=>slice x.1 l h:=rfl
theorem zcp:ev cl (.comp e t it c n keep) ρ=(evi cl it ρ).bind λ(ds,_)=>(filterMapO (λd=>(give t d (inner ρ n keep)).bind λρ'=>(evc cl c ρ').bind λk=>if k then(ev cl e ρ').bind λr=>(solid? r).map ya else ya yk) ds).map λys=>(.lst ys,.fresh):=rfl
theorem zja:ev cl (.bi2 o a b) ρ=(ev cl a ρ).bind λx=>(ev cl b ρ).bind λy=>bltin2 o x.1 y.1:=rfl
theorem zj0:ev cl (.dget a k d) ρ=(ev cl a ρ).bind λx=>(ev cl k ρ).bind λy=>(ev cl d ρ).bind λz=>getDf x.1 y.1 z.1:=rfl
theorem znl:ev cl (.ttn a u1 l) ρ=(ev cl a ρ).bind λr=>(keyI r.1).map λn=>(.bl (!l.contains n),.solid):=rfl
theorem zj8:evT cl (.and a b) ρ=(evT cl a ρ).bind λk=>if k then evT cl b ρ else ya yi:=rfl
theorem zok:evT cl (.or a b) ρ=(evT cl a ρ).bind λk=>if k then ya yl else evT cl b ρ:=rfl
theorem zki:evT cl (.not a) ρ=(evT cl a ρ).map λk=>!k:=rfl
theorem zo1:evT cl (.call f as) ρ=(evs cl as ρ).bind λ(ds,lent)=>(cl f ds).bind λd=>(handed lent d).bind λr=>tru r.1:=rfl
theorem zng:evT cl (.bi b a) ρ=(ev cl a ρ).bind λr=>(bltin b r.1).bind λr=>tru r.1:=rfl
theorem zjt:evT cl (.cmp o a b) ρ=(ev cl a ρ).bind λx=>(ev cl b ρ).bind λy=>cmpop o x.1 y.1:=rfl
theorem zkh:evT cl (.ttn a u1 l) ρ=(ev cl a ρ).bind λr=>(keyI r.1).map λn=>!l.contains n:=rfl
theorem zcr:evs cl .nil u1=ya ([],yi):=rfl
theorem zav:evs cl (.cons e r) ρ=(ev cl e ρ).bind λx=>(evs cl r ρ).map λ(ds,lent)=>(x.1::ds,lent||x.2 == .peek):=rfl
theorem zgc:evi cl (.seq e) ρ=(ev cl e ρ).bind λx=>(items x.1).map λl=>(l,x.2 == .peek):=rfl
theorem zhz:evi cl (.rng1 a) ρ=(ev cl a ρ).bind λx=>(range1 x.1).map λl=>(l,yi):=rfl
theorem zhc:evi cl (.enum e) ρ=(ev cl e ρ).bind λx=>(lsti x.1).map λl=>(enumD 0 l,x.2 == .peek):=rfl
theorem zk7:evi cl (.zip a b) ρ=(ev cl a ρ).bind λx=>(ev cl b ρ).bind λy=>(lsti x.1).bind λl=>(lsti y.1).map λm=>(zipD l m,x.2 == .peek||y.2 == .peek):=rfl
theorem zsm:evo cl (.so e) ρ=(ev cl e ρ).bind λx=>(int? x.1).map ya:=rfl
theorem zfn:evc cl .no u1=ya yl:=rfl
theorem zgd:evc cl (.so e) ρ=evT cl e ρ:=rfl
noncomputable def dlOf:E->Rho->Option (List D×List (List D))
 | .var i,ρ=>match ρ[i]? with | some (.dl yi ks ls)=>ya (ks,ls) | _=>yk
 | _,_=>yk
noncomputable def dicL(ks:List D)(ls:List (List D)):D:=.dic ks (ls.map .lst)
noncomputable def undic:D->Option (List D×List (List D))
 | .dic ks vs=>(lstsD vs).map λls=>(ks,ls)
 | _=>yk
inductive Out where | nx (ρ:Rho) | rt (d:D) | bk (ρ:Rho) | ct (ρ:Rho)
 deriving Inhabited
noncomputable def giveR:Tg->R->Rho->Option Rho
 | .one i,(.lst l,.fresh),ρ=>ya (ρ.set i (.own l))
 | .one i,(.dic ks vs,.fresh),ρ=>ya (ρ.set i (.dk ks vs))
 | t,(d,.solid),ρ=>give t d ρ
 | t,(d,.fresh),ρ=>give t d ρ
 | _,_,_=>yk
noncomputable def loopO(f:D->Rho->Option Out):List D->Rho->Option Out
 | [],ρ=>ya (.nx ρ)
 | d::r,ρ=>(f d ρ).bind λo=>match o with | .nx ρ'=>loopO f r ρ' | .rt v=>ya (.rt v) | .bk ρ'=>ya (.nx ρ') | .ct ρ'=>loopO f r ρ'
noncomputable def whileO(c:Rho->Option Bool)(f:Rho->Option Out):Nat->Rho->Option Out
 | 0,_=>yk
 | n+1,ρ=>(c ρ).bind λk=>if k then(f ρ).bind λo=>match o with | .nx ρ'=>whileO c f n ρ' | .rt v=>ya (.rt v) | .bk ρ'=>ya (.nx ρ') | .ct ρ'=>whileO c f n ρ' else ya (.nx ρ)
noncomputable def froze:List Nat->Rho->Rho
 | [],ρ=>ρ
 | i::is,ρ=>froze is (match ρ[i]? with | some (.own l)=>ρ.set i (.val (.lst l)) | some (.dk ks vs)=>ρ.set i (.val (.dic ks vs)) | _=>ρ)
mutual
noncomputable def ex(W:Nat):S->Rho->Option Out
 | .asg t e,ρ=>(ev cl e ρ).bind λr=>(giveR t r ρ).map .nx
 | .ret e,ρ=>match dlOf e ρ with
   | some p=>ya (.rt (dicL p.1 p.2))
   | none=>(ev cl e ρ).map λr=>.rt r.1
 | .cond c a b,ρ=>(evT cl c ρ).bind λk=>if k then exs W a ρ else exs W b ρ
 | .loop t it b,ρ=>(evi cl it ρ).bind λ(ds,lent)=>if lent then yk else loopO (λd ρ=>(give t d ρ).bind λρ'=>exs W b ρ') ds ρ
 | .while c b,ρ=>whileO (λρ=>evT cl c ρ) (λρ=>exs W b ρ) W ρ
 | .app i e,ρ=>(ev cl e ρ).bind λr=>(solid? r).bind λd=>match ρ[i]? with
   | some (.own l)=>if l.length<big then ya (.nx (ρ.set i (.own (l++[d]))))else yk
   | _=>yk
 | .never,_=>yk
 | .brk,ρ=>ya (.bk ρ)
 | .cnt,ρ=>ya (.ct ρ)
 | .skip,ρ=>ya (.nx ρ)
 | .drop e,ρ=>(ev cl e ρ).map λ_=>.nx ρ
 | .frz is s,ρ=>ex W s (froze is ρ)
 | .ins i k e,ρ=>(ev cl k ρ).bind λx=>(int? x.1).bind λk=>(ev cl e ρ).bind λr=>(solid? r).bind λd=>match ρ[i]? with
   | some (.own l)=>if l.length<big/\small k=yl then ya (.nx (ρ.set i (.own (putAt l k d))))else yk
   | _=>yk
 | .pop t i k,ρ=>(ev cl k ρ).bind λx=>(int? x.1).bind λk=>match ρ[i]? with
   | some (.own l)=>if small k then(place l.length k).bind λj=>(l[j]?).bind λd=>(give t d (ρ.set i (.own (l.eraseIdx j)))).map .nx else yk
   | _=>yk
 | .dput i k e,ρ=>(ev cl e ρ).bind λr=>(solid? r).bind λd=>(ev cl k ρ).bind λx=>match ρ[i]? with
   | some (.dk ks vs)=>(dputO ks vs x.1 d).map λp=>.nx (ρ.set i (.dk p.1 p.2))
   | _=>yk
 | .io,_=>yk
 | .ext i e,ρ=>(ev cl e ρ).bind λr=>if r.2=.fresh then(lsti r.1).bind λm=>(match ρ[i]? with
   | some (.own l)=>if l.length+m.length<=big then ya (.nx (ρ.set i (.own (l++m))))else yk
   | _=>yk)else yk
noncomputable def exs(W:Nat):Ss->Rho->Option Out
 | .nil,ρ=>ya (.nx ρ)
 | .cons s r,ρ=>(ex W s ρ).bind λo=>match o with | .nx ρ'=>exs W r ρ' | o=>ya o
end
theorem zin:ex cl W (.asg t e) ρ=(ev cl e ρ).bind λr=>(giveR t r ρ).map .nx:=rfl
theorem zh9:ex cl W (.ret e) ρ=match dlOf e ρ with | some p=>ya (.rt (dicL p.1 p.2)) | none=>(ev cl e ρ).map λr=>.rt r.1:=rfl
theorem zbw:ex cl W (.cond c a b) ρ=(evT cl c ρ).bind λk=>if k then exs cl W a ρ else exs cl W b ρ:=rfl
theorem zbz:ex cl W (.loop t it b) ρ=(evi cl it ρ).bind λ(ds,lent)=>if lent then yk else loopO (λd ρ=>(give t d ρ).bind λρ'=>exs cl W b ρ') ds ρ:=rfl
theorem zej:ex cl W (.while c b) ρ=whileO (λρ=>evT cl c ρ) (λρ=>exs cl W b ρ) W ρ:=rfl
theorem zbf:ex cl W (.app i e) ρ=(ev cl e ρ).bind λr=>(solid? r).bind λd=>match ρ[i]? with | some (.own l)=>if l.length<big then ya (.nx (ρ.set i (.own (l++[d]))))else yk | _=>yk:=rfl
theorem zu:ex cl W (.frz is s) ρ=ex cl W s (froze is ρ):=rfl
theorem zc7:ex cl W (.ins i k e) ρ=(ev cl k ρ).bind λx=>(int? x.1).bind λk=>(ev cl e ρ).bind λr=>(solid? r).bind λd=>match ρ[i]? with | some (.own l)=>if l.length<big/\small k=yl then ya (.nx (ρ.set i (.own (putAt l k d))))else yk | _=>yk:=rfl
theorem zc2:ex cl W (.pop t i k) ρ=(ev cl k ρ).bind λx=>(int? x.1).bind λk=>match ρ[i]? with | some (.own l)=>if small k then(place l.length k).bind λj=>(l[j]?).bind λd=>(give t d (ρ.set i (.own (l.eraseIdx j)))).map .nx else yk | _=>yk:=rfl
theorem za3:ex cl W (.dput i k e) ρ=(ev cl e ρ).bind λr=>(solid? r).bind λd=>(ev cl k ρ).bind λx=>match ρ[i]? with | some (.dk ks vs)=>(dputO ks vs x.1 d).map λp=>.nx (ρ.set i (.dk p.1 p.2)) | _=>yk:=rfl
theorem zbq:ex cl W (.ext i e) ρ=(ev cl e ρ).bind λr=>if r.2=.fresh then(lsti r.1).bind λm=>(match ρ[i]? with | some (.own l)=>if l.length+m.length<=big then ya (.nx (ρ.set i (.own (l++m))))else yk | _=>yk)else yk:=rfl
theorem zcm:exs cl W (.cons s r) ρ=(ex cl W s ρ).bind λo=>match o with | .nx ρ'=>exs cl W r ρ' | o=>ya o:=rfl
end
structure Fn where
 ps:Nat
 n:Nat
 body:Ss
noncomputable def runF(cl:Nat->List D->Option D)(W:Nat)(f:Fn)(as:List D):Option D :=
 if as.length=f.ps/\f.ps<=f.n then(match f.body with
  | .cons .io b=>(as.getLast?).bind λz=>(undic z).bind λp =>
   (exs cl W b (as.dropLast.map .val++.dl yl p.1 p.2::ja (f.n - f.ps) .no)).bind λo=>match o with
    | .nx ρ=>(match ρ[f.ps - 1]? with | some (.dl yl ks ls)=>ya (dicL ks ls) | _=>yk)
    | _=>yk
  | b=>(exs cl W b (as.map .val++ja (f.n - f.ps) .no)).bind λo=>match o with | .rt d=>ya d | .nx _=>ya .non | _=>yk)
 else yk
noncomputable def run(fs:List Fn)(W:Nat):Nat->Nat->List D->Option D
 | 0=>λ_ _=>yk
 | k+1=>λi as=>(fs[i]?).bind λf=>runF (run fs W k) W f as
section
variable (cl:Nat→List D→Option D) (rx:Nat→List D→Option Str)
noncomputable def xC(as:Es)(f:Nat)(ρ:Rho):Option (Str×Rho):=(evs cl as ρ).bind λ(ds,lent)=>if lent then yk else(rx f ds).map λx=>(x,ρ)
mutual
noncomputable def xS(W:Nat):S->Rho->Option (Str×Rho)
 | .cond c a b,ρ=>(evT cl c ρ).bind λk=>if k then xs W a ρ else xs W b ρ
 | .asg _ (.call f as),ρ=>xC cl rx as f ρ
 | .drop (.call f as),ρ=>xC cl rx as f ρ
 | .frz is s,ρ=>xS W s (froze is ρ)
 | _,_=>yk
noncomputable def xs(W:Nat):Ss->Rho->Option (Str×Rho)
 | .nil,_=>yk
 | .cons s r,ρ=>match ex cl W s ρ with
  | some (.nx ρ')=>xs W r ρ'
  | _=>xS W s ρ
end
end
end PY
namespace L2
open PY (insI sortI minI)
theorem zd9(x:Int):∀l,(insI x l).Perm (x::l)
 | []=>List.Perm.refl _
 | y::r=>by
  unfold insI;split
  ·exact List.Perm.refl _
  ·exact((zd9 x r).cons y).trans (List.Perm.swap x y r)
theorem zk:∀l,(sortI l).Perm l
 | []=>List.Perm.refl _
 | x::r=>(zd9 x (sortI r)).trans ((zk r).cons x)
theorem zoh(x:Int):∀l:List Int,l.Pairwise (·<=·)->(insI x l).Pairwise (·<=·)
 | [],_=>by simp[insI]
 | y::r,h=>by
  unfold insI;rw[xj]at h;split
  ·rename_i hxy
   exact xj.mpr ⟨λz hz=>by
    rcases yn.mp hz with rfl | hz
    ·exact hxy
    ·exact Int.le_trans hxy (h.1 z hz),xj.mpr h⟩
  ·rename_i hxy
   refine xj.mpr ⟨λz hz=>?_,zoh x r h.2⟩;rcases yn.mp ((zd9 x r).mem_iff.mp hz)with rfl | hz
   ·lia
   ·exact h.1 z hz
theorem za7:∀l:List Int,(sortI l).Pairwise (·<=·)
 | []=>List.Pairwise.nil
 | x::r=>zoh x _ (za7 r)
theorem zaq:∀{l m:List Int},l.Perm m->l.Pairwise (·<=·)->m.Pairwise (·<=·)->l=m
 | [],m,h,_,_=>by rw[yfk.mp h]
 | x::l,[],h,_,_=>by have:=h.length_eq;simp at this
 | x::l,y::m,h,h1,h2=>by
  rw[xj]at h1 h2;have hx:x∈y::m:=h.mem_iff.mp yg;have hy:y∈x::l:=h.mem_iff.mpr yg
  have e:x=y:=by
   rcases yn.mp hx with e | hx
   ·exact e
   ·rcases yn.mp hy with e | hy
    ·exact e.symm
    ·have:=h1.1 y hy
     have:=h2.1 x hx;lia
  subst e;rw[zaq (ye5 x |>.mp h) h1.2 h2.2]
end L2
namespace HS
theorem zie:∀a:List Int,PY.lexLt a a=yi
 | []=>rfl
 | x::r=>by unfold PY.lexLt;simp[zie r]
theorem zci:∀{a b c:List Int},PY.lexLt a b=yl->PY.lexLt b c=yl->PY.lexLt a c=yl
 | [],[],_,h,_=>by simp[PY.lexLt]at h
 | [],_::_,[],_,h=>by simp[PY.lexLt]at h
 | [],_::_,_::_,_,_=>rfl
 | _::_,[],_,h,_=>by simp[PY.lexLt]at h
 | _::_,_::_,[],_,h=>by simp[PY.lexLt]at h
 | x::a,y::b,z::c,h,h'=>by
  unfold PY.lexLt at h h' ⊢;by_cases e:x=y
  ·subst e
   simp only[beq_self_eq_true,if_true]at h;by_cases e':x=z
   ·subst e'
    simp only[beq_self_eq_true,if_true]at h' ⊢;exact zci h h'
   ·rw[if_neg (by simpa using e')]at h' ⊢
    exact h'
  ·rw[if_neg (by simpa using e),decide_eq_true_eq]at h
   by_cases e':y=z
   ·subst e'
    rw[if_neg (by simpa using e),decide_eq_true_eq];exact h
   ·rw[if_neg (by simpa using e'),decide_eq_true_eq]at h'
    rw[if_neg (by simp;lia),decide_eq_true_eq];lia
theorem zee:∀{a b:List Int},PY.lexLt a b=yi->PY.lexLt b a=yi->a=b
 | [],[],_,_=>rfl
 | [],_::_,h,_=>by simp[PY.lexLt]at h
 | _::_,[],_,h=>by simp[PY.lexLt]at h
 | x::a,y::b,h,h'=>by
  unfold PY.lexLt at h h';by_cases e:x=y
  ·subst e
   simp only[beq_self_eq_true,if_true]at h h';rw[zee h h']
  ·rw[if_neg (by simpa using e),decide_eq_false_iff_not]at h
   rw[if_neg (by simp;exactλq=>e q.symm),decide_eq_false_iff_not]at h';lia
end HS
namespace L2
open PY (lexLt insT sortT)
theorem zdw(x:List Int):∀l,(insT x l).Perm (x::l)
 | []=>List.Perm.refl _
 | y::r=>by
  unfold insT;split
  ·exact((zdw x r).cons y).trans (List.Perm.swap x y r)
  ·exact List.Perm.refl _
theorem z4:∀l,(sortT l).Perm l
 | []=>List.Perm.refl _
 | x::r=>(zdw x (sortT r)).trans ((z4 r).cons x)
theorem zjh{a b:List Int}(h:lexLt a b=yl):lexLt b a=yi:=by
 cases e:lexLt b a with
 | false=>rfl
 | true=>have:=HS.zci h e;rw[HS.zie]at this;cases this
theorem zmk(x:List Int):∀l:List (List Int),l.Pairwise (λa b=>lexLt b a=yi)->(insT x l).Pairwise (λa b=>lexLt b a=yi)
 | [],_=>by simp[insT]
 | y::r,h=>by
  unfold insT;rw[xj]at h;split
  ·rename_i hyx
   refine xj.mpr ⟨λz hz=>?_,zmk x r h.2⟩;rcases yn.mp ((zdw x r).mem_iff.mp hz)with rfl | hz
   ·exact zjh hyx
   ·exact h.1 z hz
  ·rename_i hyx
   have hyx:lexLt y x=yi:=by simpa using hyx
   refine xj.mpr ⟨λz hz=>?_,xj.mpr h⟩;rcases yn.mp hz with rfl | hz
   ·exact hyx
   ·have hzy:=h.1 z hz
    cases e:lexLt z x with
    | false=>rfl
    | true =>
     cases e':lexLt x y with
     | true=>rw[HS.zci e e']at hzy;cases hzy
     | false =>
      have:=HS.zee e' hyx;subst this;rw[e]at hzy;cases hzy
theorem za1:∀l:List (List Int),(sortT l).Pairwise (λa b=>lexLt b a=yi)
 | []=>List.Pairwise.nil
 | x::r=>zmk x _ (za1 r)
theorem zar:∀{l m:List (List Int)},l.Perm m->l.Pairwise (λa b=>lexLt b a=yi)->m.Pairwise (λa b=>lexLt b a=yi)->l=m
 | [],m,h,_,_=>by rw[yfk.mp h]
 | x::l,[],h,_,_=>by have:=h.length_eq;simp at this
 | x::l,y::m,h,h1,h2=>by
  rw[xj]at h1 h2;have hx:x∈y::m:=h.mem_iff.mp yg;have hy:y∈x::l:=h.mem_iff.mpr yg
  have e:x=y:=by
   rcases yn.mp hx with e | hx
   ·exact e
   ·rcases yn.mp hy with e | hy
    ·exact e.symm
    ·exact HS.zee (h2.1 x hx) (h1.1 y hy)
  subst e;rw[zar (ye5 x |>.mp h) h1.2 h2.2]
end L2
namespace HT
open PySem PyProof.Rows
section
variable {prog:qw} {w:x8} {A:x5} {E:yh→ym→Prop} {s:ym}
noncomputable def gathered(h:Heap)(vs:List yh):Heap:=(h.push (js "list" #[] 0)).update h.objs.size (Obj.mapSeq (·++vs.toArray))
theorem zab(h:Heap)(vs:List yh):(gathered h vs).objs.size=h.objs.size+1:=(yao ..).trans (size_push' ..)
theorem ziu(h:Heap)(vs:List yh):∃n,(gathered h vs).get? h.objs.size=ya (js "list" vs.toArray n):=by
 have e:=get?_update_seq (y4 h (o:=js "list" #[] 0) rfl) (·++vs.toArray);rw[yck]at e;exact⟨_,e⟩
theorem zen{l:yq}{vs:List yh}{Q:List yh->ym->Prop}(hl:yah s.heap l vs.toArray)(h:Q vs { s with heap:=gathered s.heap vs})(hz:vs.length<=y8):y9 (model prog w) A (collect (.ref l)) Q E s:=by
 refine zKK λγ κ=>?_;obtain⟨o,ho,hc,n,hd⟩:=hl;have on:(s.heap.push (js "list" #[] 0)).get? l=ya o:=yp _ ho;have new:(s.heap.push (js "list" #[] 0)).get? s.heap.objs.size=ya (js "list" #[] 0):=y4 _ rfl;refine κ ?_;unfold collect;refine yb (ycp (jv yb6 (yb (vn (yj ⟨Code.quiet_builtin _ (by decide +kernel),jv entry_list_iadd' ?_⟩)))));show y9 _ _ (Builtin.List.listExtendWith (.ref s.heap.objs.size) (.ref l) (.ref s.heap.objs.size)) _ _ { s with heap:=s.heap.push (js "list" #[] 0)};unfold Builtin.List.listExtendWith;refine yb (uj (T:="tuple") ⟨o,on,hc⟩ ?_);rw[if_pos (by rw[show(ut "tuple" == ut "tuple")=yl from rfl];simp)];refine yb (listItems_at on hd (yb (listItems_at new rfl ?_)));rw[if_neg (by simp)];refine yb (yau new rfl (yj ?_) (wm _) (by show(#[]++vs.toArray).size<=y8+1;rw[yck,yt];lia));obtain⟨m,e⟩:=ziu s.heap vs;show y9 (model prog w) A (load s.heap.objs.size >>= λo=>match o.data with | .seq xs _=>pure xs.toList | _=>unsupported "internal:collect") Q E { s with heap:=gathered s.heap vs};refine yb (wpAny_load e ?_);show y9 _ _ (pure vs.toArray.toList) Q E _;rw[List.toList_toArray];exact yj h
theorem zeb{l:yq}{vs:List yh}{ns:List Int}{Q:yh->ym->Prop}(hl:yah s.heap l vs.toArray)(hI:wu vs ns)(h64:vs.length<64)
  (h:∀(out:Array yh) (ns':List Int),wu out.toList ns'->ns'.Perm ns->ns'.Pairwise (·<=·)->Q (.ref (s.heap.objs.size+1)) { s with heap:=sortedAll s.heap vs out}):y9 (model prog w) A (call (.builtin "sorted") [.ref l]) Q E s:=by
 refine Calls.call_function_entry kind_sorted plain_sorted entry_sorted (args_sorted1 _) ?_;unfold Builtin.«sorted»;refine yb (m:=checkCount "sorted" 1 1 _) (yj (yb (zen hl (yb (vn ?_)) (xh (wo h64) (by decide)))))
 have hoL:((gathered s.heap vs).push (js "list" vs.toArray 0)).get? (s.heap.objs.size+1)=ya (js "list" vs.toArray 0):=by
  rw[← zab s.heap vs];exact y4 _ rfl
 show y9 _ _ _ _ _ { s with heap:=(gathered s.heap vs).push (js "list" vs.toArray 0)};rw[zab];exact yb (jw (x6 ybp ⟨_,hoL,rfl⟩ ya2 (list_sort_tree hoL hI h64 λout ns' a1 a2 a3=>⟨_,rfl,yj ⟨_,rfl,h out ns' a1 a2 a3⟩⟩) (ybq _)))
end
end HT
namespace L2
open PySem PySem.Spec PyProof.Rows
open PY (insI sortI minI)
section
variable {X:Cx}
theorem zgz:CallR X (.builtin "sorted") (λxs H Q=>∃(p:yq) (ns:List Int),xs=[.ref p]/\(SqL X.K H p (ns.map V.int)\/SqT X.K H p (ns.map V.int))/\ns.length<64/\∀l,H l=yk->Q (.ref l) (upd H l (.lst ((sortI ns).map V.int)))):=by
 intro pins s σ H xs us Q I r h;obtain⟨p,ns,rfl,hq,hl,q⟩:=h;obtain⟨u,rfl,ru⟩:=vals1 r;cases ru
 have fin:∀(vs:List yh) (out:Array yh) (ns':List Int),wu out.toList ns'->ns'.Perm ns->ns'.Pairwise (·<=·)->EP X pins σ Q (.ref (s.heap.objs.size+1)) { s with heap:=sortedAll s.heap vs out}:=λvs out ns' a1 a2 a3=>by
  have e:ns'=sortI ns:=zaq (a2.trans (zk ns).symm) a3 (za7 ns);subst e;obtain⟨ep,ha⟩:=sortedAll_at s.heap vs out;have hle:s.heap.objs.size<=s.heap.objs.size+1:=ya9 _;have hf:H (s.heap.objs.size+1)=yk:=I.hok.fresh hle;refine⟨.ref (s.heap.objs.size+1),upd H (s.heap.objs.size+1) (.lst ((sortI ns).map V.int)),I.laid (t':=s.toks) (λb o e=>sortedAll_old e) hle ?_,rfl,q _ hf⟩;refine⟨?_,out.toList,ep,zcj a1,?_⟩
  ·rw[yd,(zk ns).length_eq]
   exact xh (wo hl) (by decide)
  ·simpa using ha
 rcases hq with hq | hq
 ·obtain⟨its,rv,pl,hz⟩:=I.list hq
  exact sorted_ints pl.isList (zam rv) (by rw[← rv.length,yd];exact hl) λout ns' a1 a2 a3=>fin its out ns' a1 a2 a3
 ·obtain⟨its,rv,pl,hz⟩:=I.tuple hq
  exact HT.zeb pl (zam rv) (by rw[← rv.length,yd];exact hl) λout ns' a1 a2 a3=>fin its out ns' a1 a2 a3
end
end L2
namespace SP
open PySem PySem.W PyProof.Rows
variable {n:Nat} {rk:Nat→Int}
noncomputable def Tr{α:Type}(n:Nat)(rk:Nat->Int)(Q:α->Prop):KasT α->Prop
 | .ret a=>Q a
 | .ask i j k=>i<n/\j<n/\Tr n rk Q (k (decide (rk i<rk j)))
theorem Tr.bind{α β:Type}{Q:β->Prop}{R:α->Prop}{f:α->KasT β}:∀{t:KasT α},Tr n rk R t->(∀a,R a->Tr n rk Q (f a))->Tr n rk Q (t.bind f)
 | .ret a,h,hf=>hf a h
 | .ask i j k,h,hf=>⟨h.1,h.2.1,Tr.bind h.2.2 hf⟩
theorem Tr.wp{α:Type}{cmp:Nat->Nat->(Bool->ym->Prop)->ym->Prop}{G:α->ym->Prop}{s:ym}{Q:α->Prop}(hc:∀i j (C:Bool->ym->Prop),i<n->j<n->C (decide (rk i<rk j)) s->cmp i j C s)(hq:∀a,Q a->G a s) :
  ∀{t:KasT α},Tr n rk Q t->t.kasWp cmp G s
 | .ret a,h=>hq a h
 | .ask i j k,h=>hc i j _ h.1 h.2.1 (Tr.wp hc hq h.2.2)
noncomputable abbrev ke (rk:Nat->Int) (p:Array Nat) (k:Nat):Int:=rk (p.getD k 0)
structure Ok (n:Nat) (p:Array Nat):Prop where
 sz:p.size=n
 pm:p.Perm (q5 n).toArray
theorem Ok.lt{p:Array Nat}(h:Ok n p)(h0:0<n)(k:Nat):p.getD k 0<n:=by
 by_cases hk:k<p.size
 ·have e:p.getD k 0=p[k]:=by simp[ybw,hk]
  rw[e];have:p[k]∈(q5 n).toArray:=h.pm.mem_iff.mp (Array.getElem_mem hk);simpa using this
 ·have e:p.getD k 0=0:=by simp[ybw,hk]
  rw[e];exact h0
theorem Ok.rev{p:Array Nat}(h:Ok n p)(i j:Nat):Ok n (kas_rev p i j):=⟨by unfold kas_rev;rw[mirror_size,h.sz],(mirror_perm _ _ _ _).trans h.pm⟩
theorem Ok.bub{p:Array Nat}(h:Ok n p)(i j:Nat):Ok n (bubble p i j):=⟨by rw[bubble_size,h.sz],(bubble_perm _ _ _).trans h.pm⟩
theorem zfc(p:Array Nat)(k:Nat):p.getD k 0=(p[k]?).getD 0:=by
 rw[Array.getD_eq_getD_getElem?]
theorem zn8{p:Array Nat}{i j:Nat}(hj:j<=p.size)(k:Nat):ke rk (kas_rev p i j) k=if i<=k/\k<j then ke rk p (i+j - 1 - k)else ke rk p k:=by
 unfold ke kas_rev;rw[zfc,getElem?_mirror_all hj];split <;> rw[← zfc]
theorem zv6{p:Array Nat}{a d:Nat}(hs:a<p.size)(hd:d<=a)(k:Nat):ke rk (bubble p a d) k=if k=a - d then ke rk p a else if a - d<k/\k<=a then ke rk p (k - 1)else ke rk p k:=by
 unfold ke;rw[zfc,getElem?_bubble hs d hd];by_cases h1:k=a - d
 ·rw[if_pos h1,if_pos h1,← zfc]
 ·rw[if_neg h1,if_neg h1]
  by_cases h2:a - d<k/\k<=a
  ·rw[if_pos h2,if_pos h2,← zfc]
  ·rw[if_neg h2,if_neg h2,← zfc]
noncomputable def Up(rk:Nat->Int)(p:Array Nat)(m:Nat):Prop:=∀i j,i<=j->j<m->ke rk p i<=ke rk p j
noncomputable def Dn(rk:Nat->Int)(p:Array Nat)(m:Nat):Prop:=∀i j,i<=j->j<m->ke rk p j<=ke rk p i
theorem asc{p:Array Nat}(hp:Ok n p):∀(f m:Nat),1<=m->m+f=n->Up rk p m->Tr n rk (λm'=>m<=m'/\m'<=n/\Up rk p m'/\(m'<n->ke rk p m'<ke rk p (m' - 1))) (kas_asc p f m)
 | 0,m,h1,hm,hu=>⟨y6 _,by lia,hu,λh=>by lia⟩
 | f+1,m,h1,hm,hu=>by
  unfold kas_asc;refine⟨hp.lt (by lia) _,hp.lt (by lia) _,?_⟩;by_cases hc:ke rk p m<ke rk p (m - 1)
  ·rw[decide_eq_true hc]
   exact⟨y6 _,by lia,hu,λ_=>hc⟩
  ·rw[decide_eq_false hc]
   have:=asc hp f (m+1) (by lia) (by lia) (λi j hij hj=>by
    by_cases hjm:j<m
    ·exact hu i j hij hjm
    ·have:j=m:=by lia
     subst this;by_cases e:i=j
     ·subst e;exact yba _
     ·have:=hu i (j - 1) (by lia) (by lia)
      lia)
   simp only[ql,if_false];clear hc;revert this;generalize kas_asc p f (m+1)=t;intro h
   have mono:∀{t:KasT Nat},Tr n rk (λm'=>m+1<=m'/\m'<=n/\Up rk p m'/\(m'<n->ke rk p m'<ke rk p (m' - 1))) t->Tr n rk (λm'=>m<=m'/\m'<=n/\Up rk p m'/\(m'<n->ke rk p m'<ke rk p (m' - 1))) t:=by
    intro t;induction t with
    | ret a=>exactλh=>⟨by have:=h.1;lia,h.2⟩
    | ask i j k ih=>exactλh=>⟨h.1,h.2.1,ih _ h.2.2⟩
   exact mono h
theorem Tr.mono{α:Type}{Q R:α->Prop}(h:∀a,Q a->R a):∀{t:KasT α},Tr n rk Q t->Tr n rk R t
 | .ret a,x=>h a x
 | .ask i j k,x=>⟨x.1,x.2.1,Tr.mono h x.2.2⟩
noncomputable def Alike(rk:Nat->Int)(p:Array Nat)(m q:Nat):Prop:=q+1<=m/\∀k,m - (q+1)<=k->k<m->ke rk p k=ke rk p (m - 1)
theorem Alike.rev{p:Array Nat}(hp:Ok n p){m q:Nat}(hm:m<=n)(h:Alike rk p m q)(k:Nat):ke rk (kas_rev p (m - (q+1)) m) k=ke rk p k:=by
 rw[zn8 (by rw[hp.sz];exact hm)];split
 ·rename_i hk
  rw[h.2 k hk.1 hk.2,h.2 (m - (q+1)+m - 1 - k) (by have:=h.1;lia) (by have:=h.1;lia)]
 ·rfl
theorem desc:∀(f:Nat) (p:Array Nat) (m q:Nat),Ok n p->m+f=n->1<=m->Dn rk p m->Alike rk p m q->Tr n rk (λr:Array Nat×Nat×Nat=>Ok n r.1/\m<=r.2.1/\r.2.1<=n/\Dn rk r.1 r.2.1/\Alike rk r.1 r.2.1 r.2.2) (kas_desc f p m q)
 | 0,p,m,q,hp,hm,h1,hd,ha=>⟨hp,y6 _,(by show m<=n;lia),hd,ha⟩
 | f+1,p,m,q,hp,hm,h1,hd,ha=>by
  unfold kas_desc
  have step:∀p' q',Ok n p'->(∀k,ke rk p' k=ke rk p k)->ke rk p m<=ke rk p (m - 1)->Alike rk p' (m+1) q'->Tr n rk (λr:Array Nat×Nat×Nat=>Ok n r.1/\m<=r.2.1/\r.2.1<=n/\Dn rk r.1 r.2.1/\Alike rk r.1 r.2.1 r.2.2) (kas_desc f p' (m+1) q'):=by
   intro p' q' hp' he hle ha';refine Tr.mono (λr hr=>⟨hr.1,by have:=hr.2.1;lia,hr.2.2⟩) (desc f p' (m+1) q' hp' (by lia) (by lia) (λi j hij hj=>?_) ha');rw[he,he];by_cases hjm:j<m
   ·exact hd i j hij hjm
   ·have:j=m:=by lia
    subst this;by_cases e:i=j
    ·subst e;exact yba _
    ·have:=hd i (j - 1) (by lia) (by lia)
     lia
  have one:∀p',Alike rk p' (m+1) 0:=λp'=>⟨by lia,λk h h'=>by rw[show k=m+1 - 1 by lia]⟩
  refine⟨hp.lt (by lia) _,hp.lt (by lia) _,?_⟩;by_cases hc:ke rk p m<ke rk p (m - 1)
  ·rw[decide_eq_true hc]
   simp only[if_true];split
   ·exact step _ _ (hp.rev _ _) (ha.rev hp (by lia)) (by lia) (one _)
   ·exact step _ _ hp (λ_=>rfl) (by lia) (one _)
  ·rw[decide_eq_false hc]
   simp only[ql,if_false];refine⟨hp.lt (by lia) _,hp.lt (by lia) _,?_⟩;by_cases hc':ke rk p (m - 1)<ke rk p m
   ·rw[decide_eq_true hc']
    exact⟨hp,y6 _,(by show m<=n;lia),hd,ha⟩
   ·rw[decide_eq_false hc']
    simp only[ql,if_false];have e:ke rk p m=ke rk p (m - 1):=by lia
    refine step _ _ hp (λ_=>rfl) (by lia) ⟨by have:=ha.1;lia,λk h h'=>?_⟩;rw[show m+1 - 1=m by lia];by_cases hk:k=m
    ·rw[hk]
    ·rw[ha.2 k (by have:=ha.1;lia) (by lia),e]
noncomputable def Done(n:Nat)(rk:Nat->Int)(r:Nat×Array Nat):Prop:=Ok n r.2/\1<=r.1/\r.1<=n/\Up rk r.2 r.1
theorem tail3{p:Array Nat}{m:Nat}(hp:Ok n p)(h1:1<=m)(hm:m<=n)(hd:Dn rk p m):Tr n rk (Done n rk) (kas_tail3 m n p):=by
 unfold kas_tail3;refine(asc (hp.rev 0 m) (n - m) m h1 (by lia) (λi j hij hj=>?_)).bind λa ha=>⟨hp.rev 0 m,by have:=ha.1;lia,ha.2.1,ha.2.2.1⟩
 rw[zn8 (by rw[hp.sz];exact hm),zn8 (by rw[hp.sz];exact hm),if_pos (by lia),if_pos (by lia)];exact hd _ _ (by lia) (by lia)
theorem descPart{p:Array Nat}{m:Nat}(hp:Ok n p)(h1:1<=m)(hm:m<n)(hd:Dn rk p m)(hlt:ke rk p m<ke rk p (m - 1)):Tr n rk (Done n rk) (kas_descPart m n p):=by
 unfold kas_descPart;refine(desc (n - (m+1)) p (m+1) 0 hp (by lia) (by lia) (λi j hij hj=>?_) ⟨by lia,λk h h'=>by rw[show k=m+1 - 1 by lia]⟩).bind λr hr=>?_
 ·by_cases hjm:j<m
  ·exact hd i j hij hjm
  ·have:j=m:=by lia
   subst this;by_cases e:i=j
   ·subst e;exact yba _
   ·have:=hd i (j - 1) (by lia) (by lia)
    lia
 ·obtain⟨a,b,c,d,e⟩:=hr
  split
  ·refine tail3 (a.rev _ _) (by lia) c λi j hij hj=>?_
   rw[e.rev a c,e.rev a c];exact d i j hij hj
  ·exact tail3 a (by lia) c d
theorem count{p:Array Nat}(hp:Ok n p)(h2:2<=n):Tr n rk (Done n rk) (kas_count n p):=by
 unfold kas_count;refine(asc (rk:=rk) hp (n - 1) 1 (by lia) (by lia) (λi j hij hj=>by rw[show i=j by lia];exact yba _)).bind λm hm=>?_
 obtain⟨a,b,c,d⟩:=hm;split
 ·exact⟨hp,a,b,c⟩
 ·rename_i hne
  have hlt:m<n:=by
   have:m≠n:=λe=>hne (by rw[e];simp)
   lia
  split
  ·refine⟨hp.lt (by lia) _,hp.lt (by lia) _,?_⟩
   by_cases hc:ke rk p 0<ke rk p (m - 1)
   ·rw[decide_eq_true hc]
    exact⟨hp,a,b,c⟩
   ·rw[decide_eq_false hc]
    simp only[ql,if_false]
    have al:Alike rk p m (m - 1):=⟨by lia,λk h h'=>by
     have x:=c 0 k (by lia) h';have y:=c k (m - 1) (by lia) (by lia);lia⟩
    have e:∀k,ke rk (kas_rev p 0 m) k=ke rk p k:=λk=>by
     have:=al.rev hp (by lia) k;rw[show m - (m - 1+1)=0 by lia]at this;exact this
    refine descPart (hp.rev 0 m) (by lia) hlt (λi j hij hj=>?_) (by rw[e,e];exact d hlt);rw[e,e,al.2 i (by lia) (by lia),al.2 j (by lia) (by lia)];exact yba _
  ·have:m=1:=by lia
   subst this;exact descPart hp (by lia) hlt (λi j hij hj=>by rw[show i=j by lia];exact yba _) (d hlt)
theorem place{p:Array Nat}(hp:Ok n p){k:Nat}(hk:k<n)(hu:Up rk p k):∀(f l r:Nat),l<=r->r<=k->r - l<=f->(∀i,i<l->ke rk p i<=ke rk p k)->(∀i,r<=i->i<k->ke rk p k<ke rk p i) ->
  Tr n rk (λl=>l<=k/\(∀i,i<l->ke rk p i<=ke rk p k)/\∀i,l<=i->i<k->ke rk p k<ke rk p i) (kas_place p k f l r)
 | 0,l,r,h1,h2,h3,ha,hb=>by
  have:l=r:=by lia
  subst this;exact⟨h2,ha,hb⟩
 | f+1,l,r,h1,h2,h3,ha,hb=>by
  unfold kas_place;split
  ·have:l=r:=by lia
   subst this;exact⟨h2,ha,hb⟩
  ·refine⟨hp.lt (by lia) _,hp.lt (by lia) _,?_⟩
   by_cases hc:ke rk p k<ke rk p ((l+r) / 2)
   ·rw[decide_eq_true hc]
    simp only[if_true];refine place hp hk hu f l ((l+r) / 2) (by lia) (by lia) (by lia) ha λi hi hik=>?_
    have:=hu ((l+r) / 2) i hi hik;lia
   ·rw[decide_eq_false hc]
    simp only[ql,if_false];refine place hp hk hu f ((l+r) / 2+1) r (by lia) h2 (by lia) (λi hi=>?_) hb;have:=hu i ((l+r) / 2) (by lia) (by lia);lia
theorem binI:∀(f:Nat) (p:Array Nat) (k:Nat),Ok n p->Up rk p k->k+f=n->Tr n rk (λp'=>Ok n p'/\Up rk p' n) (kas_bin f p k)
 | 0,p,k,hp,hu,hk=>by
  have:k=n:=by lia
  subst this;exact⟨hp,hu⟩
 | f+1,p,k,hp,hu,hk=>by
  unfold kas_bin;refine(place (rk:=rk) hp (by lia) hu k 0 k (by lia) (by lia) (by lia) (λi hi=>by lia) (λi hi hik=>by lia)).bind λl hl=>?_
  obtain⟨h1,h2,h3⟩:=hl;refine binI f _ (k+1) (hp.bub _ _) (λi j hij hj=>?_) (by lia);have g:=zv6 (rk:=rk) (p:=p) (a:=k) (d:=k - l) (by rw[hp.sz];lia) (by lia);rw[g i,g j,show k - (k - l)=l by lia];by_cases hi:i=l
  ·rw[if_pos hi]
   by_cases hjl:j=l
   ·rw[if_pos hjl];exact yba _
   ·rw[if_neg hjl,if_pos (by lia)]
    have:=h3 (j - 1) (by lia) (by lia);lia
  ·rw[if_neg hi]
   by_cases hil:i<l
   ·rw[if_neg (by lia)]
    by_cases hjl:j=l
    ·rw[if_pos hjl];exact h2 i hil
    ·rw[if_neg hjl]
     split
     ·exact hu i (j - 1) (by lia) (by lia)
     ·exact hu i j hij (by lia)
   ·rw[if_pos (by lia),if_neg (by lia),if_pos (by lia)]
    exact hu (i - 1) (j - 1) (by lia) (by lia)
theorem zsg(h2:2<=n):Tr n rk (λp=>Ok n p/\Up rk p n) (kas_sort n):=by
 unfold kas_sort;have h0:Ok n (List.toArray (q5 n)):=⟨by simp,Array.Perm.refl _⟩;refine(count h0 h2).bind λr hr=>?_
 obtain⟨a,b,c,d⟩:=hr;split
 ·have e:max r.1 1=r.1:=by lia
  rw[e];exact binI _ _ _ a d (by lia)
 ·have:r.1=n:=by lia
  rw[this]at d;exact⟨a,d⟩
end SP
namespace HS
open PySem PySem.W PySem.Calls PyProof.Rows
theorem zhh{α:Type}{p q:α->Bool}:∀{l:List α},(∀x∈l,p x=yl->q x=yl)->(l.filter p).length<=(l.filter q).length
 | [],_=>y6 _
 | x::r,h=>by
  have ih:=zhh (l:=r) λy hy=>h y (yf _ hy)
  have hx:=h x yg;simp only[yew];cases e:p x <;> cases e':q x <;> simp <;> first | lia | (rw[e,e']at hx;simp at hx)
theorem zho{α:Type}{p q:α->Bool}:∀{l:List α},(∀x∈l,p x=yl->q x=yl)->(∃x∈l,q x=yl/\p x=yi)->(l.filter p).length<(l.filter q).length
 | [],_,h=>by obtain⟨_,h,_⟩:=h;cases h
 | x::r,h,hx=>by
  have hr:∀y∈r,p y=yl->q y=yl:=λy hy=>h y (yf _ hy)
  have h0:=h x yg;obtain⟨y,hy,hq,hp⟩:=hx;simp only[yew];rcases yn.mp hy with rfl | hy
  ·rw[hp,hq]
   have:=zhh hr;simp;lia
  ·have ih:=zho hr ⟨y,hy,hq,hp⟩
   cases e:p x <;> cases e':q x <;> simp <;> first | lia | (rw[e,e']at h0;simp at h0)
noncomputable def rank(nss:List (List Int))(i:Nat):Int:=((nss.filter λx=>PY.lexLt x (nss.getD i [])).length:Nat)
theorem zpa{nss:List (List Int)}{i j:Nat}(hi:i<nss.length)(hj:j<nss.length):decide (rank nss i<rank nss j)=PY.lexLt (nss.getD i []) (nss.getD j []):=by
 have up:∀i j,i<nss.length->PY.lexLt (nss.getD i []) (nss.getD j [])=yl->rank nss i<rank nss j:=λi j hi h=>by
  unfold rank
  have:=zho (l:=nss) (p:=λx=>PY.lexLt x (nss.getD i [])) (q:=λx=>PY.lexLt x (nss.getD j [])) (λx _ hx=>zci hx h) ⟨nss.getD i [],by
   rw[y3,yc hi];exact vq _,h,zie _⟩
  lia
 cases h:PY.lexLt (nss.getD i []) (nss.getD j [])with
 | true=>rw[decide_eq_true (up i j hi h)]
 | false =>
  cases h':PY.lexLt (nss.getD j []) (nss.getD i [])with
  | true=>have:=up j i hj h';rw[decide_eq_false (by lia)]
  | false =>
   have e:=zee h h';have:rank nss i=rank nss j:=by unfold rank;rw[e]
   rw[decide_eq_false (by lia)]
section
variable {prog:qw} {w:x8} {A:x5} {E:yh→ym→Prop} {s:ym}
theorem zmw{b:Bool}{Q:Bool->ym->Prop}:∀{xs ys:List yh} {ns ms:List Int} {i:Nat},wu xs ns->wu ys ms->Q (PY.lexLt ns ms) s->KatLex prog w A b (decide (xs.length<ys.length)) Q (xs.zip ys) i s
 | [],[],_,_,i,.nil,.nil,h=>kat_nil h
 | [],_::_,_,_,i,.nil,.cons _ _ _,h=>kat_nil (by
   show Q (decide (0<_)) s;rw[decide_eq_true (by simp)];exact h)
 | _::_,[],_,_,i,.cons _ _ _,.nil,h=>kat_nil (by
   show Q (decide (_<0)) s;rw[decide_eq_false (by simp)];exact h)
 | _::xs,_::ys,_,_,i,.cons n t (ns:=ns) hx,.cons m u (ns:=ms) hy,h=>by
  refine kat_cons (wpAny_eqBool_int ?_);have h:Q (if n==m then PY.lexLt ns ms else decide (n<m)) s:=h;refine kat_go (λe=>kat_yes ?_) λe=>kat_no ?_
  ·rw[e]at h
   have:=zmw (b:=b) (i:=i+1) hx hy h;have q:∀{p q:Bool},p=q->KatLex prog w A b p Q (xs.zip ys) (i+1) s->KatLex prog w A b q Q (xs.zip ys) (i+1) s:=λe h=>e▸h
   exact q (by simp) this
  ·rw[e]at h
   simp only[ql,if_false]at h;cases hb:(b&&i==0)with
   | true=>exact oneLt_int h
   | false=>exact kat_one _ _ (wpAny_lt_int h)
noncomputable def Tups(h:Heap)(vs:List yh)(nss:List (List Int)):Prop:=vs.length=nss.length/\∀i,i<vs.length->∃a o xs n,vs.getD i Value.none=.ref a/\h.get? a=ya o/\o.cls=.type "tuple"/\o.data=.seq xs n/\wu xs.toList (nss.getD i [])/\nss.getD i []≠[]
theorem Tups.asked{vs:List yh}{nss:List (List Int)}(h:Tups s.heap vs nss){b:Bool}{i j:Nat}{C:Bool->ym->Prop}(hi:i<vs.length)(hj:j<vs.length)(hc:C (decide (rank nss i<rank nss j)) s):kas_ask prog w A (tuples' b) vs i j C s:=by
 refine zKK λγ κ=>?_;obtain⟨a,o,xs,n,e1,e2,_,e4,e5,_⟩:=h.2 i hi;obtain⟨a',o',xs',n',f1,f2,_,f4,f5,_⟩:=h.2 j hj;refine κ ?_;unfold kas_ask;rw[e1,f1];refine kat_lt e2 e4 f2 f4 ?_;have:=zmw (prog:=prog) (w:=w) (A:=A) (s:=s) (b:=b) (i:=0) (Q:=C) e5 f5 (by rw[← zpa (by rw[← h.1];exact hi) (by rw[← h.1];exact hj)];exact hc);simpa using this
theorem Tups.kind:∀{vs:List yh} {nss:List (List Int)},Tups s.heap vs nss->∃fs:List yh,KatTups s.heap vs fs/\fs.length=vs.length/\∀v∈fs,∃i t,v=.int i t
 | [],nss,h=>⟨[],.nil,rfl,λv hv=>by cases hv⟩
 | v::vs,[],h=>by have:=h.1;simp at this
 | v::vs,ns::nss,h=>by
  obtain⟨fs,h1,h2,h3⟩:=Tups.kind (vs:=vs) (nss:=nss) ⟨by have:=h.1;simpa using this,λi hi=>by
   have:=h.2 (i+1) (by simpa using hi);simpa using this⟩
  obtain⟨a,o,xs,n,e1,e2,e3,e4,e5,e6⟩:=h.2 0 (by simp);have e1:v=.ref a:=e1;have e5:wu xs.toList ns:=e5;have e6:ns≠[]:=e6;subst e1;obtain⟨xl⟩:=xs;cases e5 with
  | nil=>exact absurd rfl e6
  | cons k t r =>
   exact⟨.int k t::fs,.cons e2 e3 e4 (by simp) h1,by simp[h2],λv hv=>by
    rcases yn.mp hv with rfl | hv
    ·exact⟨k,t,rfl⟩
    ·exact h3 v hv⟩
structure Sorted (nss:List (List Int)) (pp:List Nat):Prop where
 pm:pp.Perm (q5 nss.length)
 up:(pp.map λi=>nss.getD i []).Pairwise λa b=>PY.lexLt b a=yi
theorem zmb{nss:List (List Int)}{p:Array Nat}{n:Nat}(hn:nss.length=n)(h:SP.Ok n p)(hu:SP.Up (rank nss) p n):Sorted nss p.toList:=by
 have hlen:p.toList.length=n:=by rw[qi,h.sz]
 have hpm:p.toList.Perm (q5 nss.length):=by
  have:=h.pm.toList;rw[hn];simpa using this
 refine⟨hpm,?_⟩;rw[j4,yar];intro i j hi hj hij
 have hb:∀k (hk:k<p.toList.length),p.toList[k]<nss.length:=λk hk=>by
  have:=hpm.mem_iff.mp (vq hk);simpa using this
 have:=hu i j (by lia) (by lia)
 have g:∀k (hk:k<p.toList.length),p.getD k 0=p.toList[k]:=λk hk=>by
  rw[qi]at hk;simp[ybw,hk]
 unfold SP.ke at this;rw[g i hi,g j hj]at this;rw[← zpa (hb j hj) (hb i hi),decide_eq_false (by lia)]
theorem zmf:∀{vs:List yh},vs.length<2->(vs.toArray.zip vs.toArray).map (·.2)=vs.toArray
 | [],_=>by simp
 | [x],_=>by simp
 | _::_::_,h=>by simp only[qf]at h;lia
theorem zij:∀{vs:List yh},vs.length<2->((q5 vs.length).map λi=>vs.getD i Value.none)=vs
 | [],_=>rfl
 | [x],_=>rfl
 | _::_::_,h=>by simp only[qf]at h;lia
theorem zdz{a:yq}{vs:List yh}{nss:List (List Int)}{n:Nat}{P:PySem.Fin->ym->Prop}(ho:s.heap.get? a=ya (js "list" vs.toArray n))(ht:Tups s.heap vs nss)(h64:vs.length<64)
  (h:∀pp:List Nat,Sorted nss pp->P (.done (.ret .none)) { s with heap:=sortedHeap s.heap a vs (pp.map λi=>vs.getD i Value.none).toArray}):y9 (model prog w) A (Builtin.«list.sort» ⟨[.ref a],[]⟩) P E s:=by
 have ha:=yx ho;obtain⟨e1,ho1⟩:∃e1,(s.heap.update a (Obj.mapSeq λ_=>(#[]:Array yh))).get? a=ya (js "list" #[] e1):=⟨_,get?_update_seq ho (λ_=>#[])⟩;rw[list_sort_plain];refine yb (listItems_at ho rfl (yb (yau ho rfl (yb (seqEpoch_at ho1 rfl (yb (wpAny_newTuple (yb (vn (jw ?_))))))))));let H1:=((s.heap.update a (Obj.mapSeq λ_=>(#[]:Array yh))).push (js "tuple" vs.toArray 0)).push (js "list" #[] 0)
 have old:∀b o,b≠a->s.heap.get? b=ya o->H1.get? b=ya o:=λb o hb hg=>by
  have hlt:=yx hg;show(((s.heap.update a _).push _).push _).get? b=_;rw[ybh _ _ _ (by rw[size_push',yao];exact qg (vc hlt)),ybh _ _ _ (by rw[yao];exact qg hlt)];rw[yd7 _ _ _ _ hb];exact hg
 have hoH:H1.get? a=ya (js "list" #[] e1):=by
  show(((s.heap.update a _).push _).push _).get? a=_;rw[ybh _ _ _ (by rw[size_push',yao];exact qg (vc ha)),ybh _ _ _ (by rw[yao];exact qg ha)];exact ho1
 have htH:Tups H1 vs nss:=⟨ht.1,λi hi=>by
  refine zKK λγ κ=>?_;obtain⟨b,o,xs,k,f1,f2,f3,f4,f5,f6⟩:=ht.2 i hi;refine κ ?_;refine⟨b,o,xs,k,f1,old b o (λe=>?_) f2,f3,f4,f5,f6⟩;subst e;rw[ho]at f2;cases f2;exact absurd f3 (by show¬ut "list" = ut "tuple";decide)⟩
 show y9 (model prog w) A _ P E { s with heap:=H1};dsimp only;have hsz:vs.toArray.size=vs.length:=by simp
 by_cases h2:vs.length<2
 ·rw[if_pos (by rw[hsz];exact h2),if_pos (by rw[hsz];exact h2)]
  refine yb (yj ?_);rw[StateT.run_pure];refine yb (yj ?_);dsimp only
  have hv:(arrOf (SortSt.mk' general' (vs.toArray.zip vs.toArray) #[] 7 yk)).map (·.2)=vs.toArray:=by
   show(vs.toArray.zip vs.toArray).map (·.2)=_;exact zmf h2
  refine yb (seqEpoch_at hoH rfl (yb (yau hoH rfl ?_ (hsz2:=by rw[hv,hsz,uh];lia))));simp only[bne_self_eq_false,ql,if_false]
  have:=h (q5 vs.length) ⟨by rw[ht.1],by
   rw[j4,yar];intro i j hi hj hij;simp at hi hj;lia⟩
  have er:((q5 vs.length).map λi=>vs.getD i Value.none)=vs:=by
   exact zij h2
  rw[er]at this;rw[hv];exact yj this
 ·rw[if_neg (by rw[hsz];exact h2),if_neg (by rw[hsz];exact h2)]
  obtain⟨fs,k1,k2,k3⟩:=htH.kind (s:={ s with heap:=H1});refine yb (kat_kind (s:={ s with heap:=H1}) (T:=.type "int") k1 (by lia) (λv hv=>?_) (by decide) ?_)
  ·obtain⟨i,t,rfl⟩:=k3 v hv
   exact .now
  have tr:=SP.zsg (n:=vs.length) (rk:=rank nss) (by lia)
  refine yb (jd (kat_run (E:=E) (s:={ s with heap:=H1}) (ks:=vs) (vs:=vs) (κ:=tuples' (ut "int" != ut "tuple")) (Q:=λst' s'=>s'={ s with heap:=H1}/\failedOf st'=yk/\∃pp,Sorted nss pp/\pp.length=vs.length/\(arrOf st').map (·.2)=(pp.map λi=>vs.getD i Value.none).toArray)
   (G:=λp s'=>s'={ s with heap:=H1}/\Sorted nss p.toList) rfl (by lia) h64 (λp st' s' hp har hf hg=>⟨hg.1,hf,p.toList,hg.2,by rw[qi,hp],kat_snds rfl har⟩) ?_) ?_ λ_ _ e=>e)
  ·exact SP.Tr.wp (n:=vs.length) (rk:=rank nss) (λi j C hi hj hc=>htH.asked (s:={ s with heap:=H1}) hi hj hc) (λp hp=>⟨rfl,zmb ht.1.symm hp.1 hp.2⟩) tr
  ·rintro⟨⟨⟩,st'⟩ s' ⟨rfl,hf,pp,hpp,hpl,hout⟩
   dsimp only;refine yb (seqEpoch_at hoH rfl (yb (yau hoH rfl ?_ (hsz2:=by rw[hout,uh];simp;lia))));rw[hf];simp only[bne_self_eq_false,ql,if_false];rw[hout];exact yj (h pp hpp)
theorem Tups.old{h h':Heap}{vs:List yh}{nss:List (List Int)}(t:Tups h vs nss)(k:∀b o,h.get? b=ya o->h'.get? b=ya o):Tups h' vs nss :=
 ⟨t.1,λi hi=>by
  refine zKK λγ κ=>?_;obtain⟨a,o,xs,n,e1,e2,e3⟩:=t.2 i hi;refine κ ?_;exact⟨a,o,xs,n,e1,k a o e2,e3⟩⟩
theorem zg7{h:Heap}{vs:List yh}{b:yq}{o:Obj}(e:h.get? b=ya o):(HT.gathered h vs).get? b=ya o:=by
 have hlt:=yx e;unfold HT.gathered;rw[yd7 _ _ _ _ (qg hlt)];exact yp _ e
theorem zel{l:yq}{vs:List yh}{nss:List (List Int)}{Q:yh->ym->Prop}(hl:s.heap.IsList l vs.toArray\/yah s.heap l vs.toArray)(ht:Tups s.heap vs nss)(h64:vs.length<64)
  (h:∀pp:List Nat,Sorted nss pp->Q (.ref (s.heap.objs.size+1)) { s with heap:=sortedAll s.heap vs (pp.map λi=>vs.getD i Value.none).toArray}):y9 (model prog w) A (call (.builtin "sorted") [.ref l]) Q E s:=by
 refine Calls.call_function_entry kind_sorted plain_sorted entry_sorted (args_sorted1 _) ?_;have hz:vs.length<=y8:=xh (wo h64) (by decide);unfold Builtin.«sorted»
 have hoL:((HT.gathered s.heap vs).push (js "list" vs.toArray 0)).get? (s.heap.objs.size+1)=ya (js "list" vs.toArray 0):=by
  rw[← HT.zab s.heap vs];exact y4 _ rfl
 have htL:Tups ((HT.gathered s.heap vs).push (js "list" vs.toArray 0)) vs nss:=ht.old λb o e=>yp _ (zg7 e)
 rcases hl with hl | hl
 ·refine yb (m:=checkCount "sorted" 1 1 _) (yj (yb (collect_list hl (yb (vn ?_)) hz)))
  show y9 _ _ _ _ _ { s with heap:=(HT.gathered s.heap vs).push (js "list" vs.toArray 0)};rw[show((s.heap.push (js "list" #[] 0)).update s.heap.objs.size (Obj.mapSeq (·++vs.toArray))).objs.size=s.heap.objs.size+1 from HT.zab s.heap vs];exact yb (jw (x6 ybp ⟨_,hoL,rfl⟩ ya2 (zdz hoL htL h64 λpp hp=>⟨_,rfl,yj ⟨_,rfl,h pp hp⟩⟩) (ybq _)))
 ·refine yb (m:=checkCount "sorted" 1 1 _) (yj (yb (HT.zen hl (yb (vn ?_)) hz)))
  show y9 _ _ _ _ _ { s with heap:=(HT.gathered s.heap vs).push (js "list" vs.toArray 0)};rw[HT.zab];exact yb (jw (x6 ybp ⟨_,hoL,rfl⟩ ya2 (zdz hoL htL h64 λpp hp=>⟨_,rfl,yj ⟨_,rfl,h pp hp⟩⟩) (ybq _)))
end
end HS
namespace L2
open PySem PySem.Spec PyProof.Rows
theorem znt{xs:List V}{us:List yh}(r:Vals xs us){i:Nat}(hi:i<xs.length):RelV (xs.getD i .non) (us.getD i Value.none):=by
 obtain⟨u,h1,h2⟩:=r.get (yc hi);rw[y3,y3,h1,yc hi];exact h2
theorem zem{xs:List V}{us:List yh}(r:Vals xs us):∀{pp:List Nat},(∀i∈pp,i<xs.length)->Vals (pp.map λi=>xs.getD i .non) (pp.map λi=>us.getD i Value.none)
 | [],_=>.nil
 | i::pp,h=>.cons (znt r (h i yg)) (zem r λj hj=>h j (yf _ hj))
section
variable {X:Cx}
theorem zh3:CallR X (.builtin "sorted") (λxs H Q=>∃(p:yq) (ys:List V) (nss:List (List Int)),xs=[.ref p]/\(SqL X.K H p ys\/SqT X.K H p ys)/\ys.length=nss.length /\
  (∀i,i<ys.length->nss.getD i []≠[]/\∃a,ys.getD i .non=.ref a/\SqT X.K H a ((nss.getD i []).map V.int))/\ys.length<64/\∀pp l,HS.Sorted nss pp->H l=yk->Q (.ref l) (upd H l (.lst (pp.map λi=>ys.getD i .non)))):=by
 intro pins s σ H xs us Q I r h;obtain⟨p,ys,nss,rfl,hq,hlen,hel,hl,q⟩:=h;obtain⟨u,rfl,ru⟩:=vals1 r;cases ru
 have tups:∀its,Vals ys its->HS.Tups s.heap its nss:=λits rv=>⟨by rw[← rv.length,hlen],λi hi=>by
  rw[← rv.length]at hi;refine zKK λγ κ=>?_;obtain⟨hne,a,e,ht⟩:=hel i hi;have hr:=znt rv hi;rw[e]at hr;obtain⟨its',rv',⟨o,ho,hc,n,hd⟩,_⟩:=I.tuple ht;refine κ ?_;exact⟨a,o,its'.toArray,n,hr,ho,hc,hd,zam rv',hne⟩⟩
 have fin:∀(its:List yh),Vals ys its->∀pp,HS.Sorted nss pp->EP X pins σ Q (.ref (s.heap.objs.size+1)) { s with heap:=sortedAll s.heap its (pp.map λi=>its.getD i Value.none).toArray}:=λits rv pp hp=>by
  obtain⟨ep,ha⟩:=sortedAll_at s.heap its (pp.map λi=>its.getD i Value.none).toArray;have hle:s.heap.objs.size<=s.heap.objs.size+1:=ya9 _;have hf:H (s.heap.objs.size+1)=yk:=I.hok.fresh hle
  have hin:∀i∈pp,i<ys.length:=λi hi=>by
   have:=hp.pm.mem_iff.mp hi;rw[hlen];simpa using this
  refine⟨.ref (s.heap.objs.size+1),upd H (s.heap.objs.size+1) (.lst (pp.map λi=>ys.getD i .non)),I.laid (t':=s.toks) (λb o e=>sortedAll_old e) hle ?_,rfl,q pp _ hp hf⟩;refine⟨?_,pp.map λi=>its.getD i Value.none,ep,zem rv hin,ha⟩;rw[yd,hp.pm.length_eq,yad,← hlen];exact xh (wo hl) (by decide)
 rcases hq with hq | hq
 ·obtain⟨its,rv,pl,hz⟩:=I.list hq
  exact HS.zel (.inl pl.isList) (tups its rv) (by rw[← rv.length];exact hl) (fin its rv)
 ·obtain⟨its,rv,pl,hz⟩:=I.tuple hq
  exact HS.zel (.inr pl) (tups its rv) (by rw[← rv.length];exact hl) (fin its rv)
end
open PY (lexLt insT sortT)
theorem zjq{α:Type}(l:List α)(d:α):((q5 l.length).map λi=>l.getD i d)=l:=by
 apply ydd
 ·simp
 ·intro i h1 h2
  simp[y3,yc h2]
theorem zdg{nss:List (List Int)}{pp:List Nat}(h:HS.Sorted nss pp):(pp.map λi=>nss.getD i [])=sortT nss:=by
 refine zar ?_ h.up (za1 nss);have:=h.pm.map λi=>nss.getD i []
 rw[zjq]at this;exact this.trans (z4 nss).symm
end L2
namespace HS
open PySem PySem.W PySem.Calls PyProof.Rows
section
variable {prog:qw} {w:x8} {A:x5} {E:yh→ym→Prop} {s:ym}
noncomputable def Lsts(h:Heap)(vs:List yh)(nss:List (List Int)):Prop:=vs.length=nss.length/\∀i,i<vs.length->∃a xs,vs.getD i Value.none=.ref a/\h.IsList a xs/\wu xs.toList (nss.getD i [])
end
end HS
namespace HT
open PySem PySem.W PyProof.Rows
section
variable {prog:qw} {w:x8} {A:x5} {E:yh→ym→Prop} {s:ym}
theorem zep{T:String}{r d:yq}{n:Nat}{P:Nat->yh->Prop}{OK:Heap->Prop}{Q:List yh->ym->Prop}(Kd:KdlSrc prog w T r d n P OK)(hh:A.handled=yk)(hok:OK s.heap)(hn:n<=y8)
  (hQ:∀h' tk (vs:List yh),(∀b o,s.heap.get? b=ya o->h'.get? b=ya o)->s.heap.objs.size<=h'.objs.size->vs.length=n->(∀j v,vs[j]? = ya v->P j v)->Q vs { s with heap:=h',toks:=tk}):y9 (model prog w) A (collect (.ref r)) Q E s:=by
 have hlt:=Kd.there _ hok;unfold collect;refine yb (ycp (jv yb6 ?_));rw[Around.under_plainId yce _];refine yb (vn (yj ⟨Code.quiet_builtin _ (by decide +kernel),jv entry_list_iadd' ?_⟩));rw[Around.under_plainId yde _];have new:(s.heap.push (js "list" #[] 0)).get? s.heap.objs.size=ya (js "list" #[] 0):=y4 _ rfl;show y9 _ _ (Builtin.List.listExtendWith (.ref s.heap.objs.size) (.ref r) (.ref s.heap.objs.size)) _ _ { s with heap:=s.heap.push (js "list" #[] 0)};refine kdl_extend (R:=λr s'=>match r with | .ok (.ret v)=>y9 (model prog w) A (match v with | .ref a=>(do let o ← load a;match o.data with | .seq xs _=>pure xs.toList | _=>unsupported "internal:collect") | _=>unsupported "internal:collect") Q E s' | .ok _=>False | .error e=>E e s') Kd hh (s:={ s with heap:=s.heap.push (js "list" #[] 0)}) (Kd.keep _ _ hok λb _ o e=>yp _ e) s.heap.objs.size (uu hlt.1) (uu hlt.2) (.ref s.heap.objs.size) 0 new (λh' tk acc' c' hk hS hacc=>?_) hn;show y9 _ _ (load s.heap.objs.size >>= _) _ _ _;refine yb (wpAny_load hS ?_);show y9 _ _ (pure acc'.toList) _ _ _;refine yj (hQ h' tk acc'.toList (λb o e=>hk b o (qg (yx e)) (yp _ e)) (wo (yx hS)) (by rw[qi];exact hacc.1) λj v e=>hacc.2 j v (by rw[← xa];exact e))
end
end HT
namespace L2
open PySem PySem.Spec PyProof.Rows
open PY (sortI)
section
variable {X:Cx}
theorem zfm:∀{ns:List Int} {ys:List V},ys.length=ns.length->((ns.map (jy:Int->Key)).zip ys).map (·.1)=ns.map jy
 | [],_,_=>rfl
 | n::ns,[],h=>by simp at h
 | n::ns,y::ys,h=>by
  rw[yo,ji,yo,zfm (by simpa using h)]
theorem zgm(hc:X.calm=yl):CallR X (.builtin "sorted") (λxs H Q=>∃(p:yq) (ns:List Int) (ys:List V),xs=[.ref p]/\H p=ya (.dK ((ns.map jy).zip ys))/\ys.length=ns.length/\ns.length<64/\∀l,H l=yk->Q (.ref l) (upd H l (.lst ((sortI ns).map V.int)))):=by
 intro pins s σ H xs us Q I r h;refine zKK λγ κ=>?_;obtain⟨p,ns,ys,rfl,hp,hlen,hl,q⟩:=h;obtain⟨u,rfl,ru⟩:=vals1 r;cases ru;obtain⟨z,hd,vs,rel,dd⟩:=zp7 I.hok hp;obtain⟨ep,da⟩:=dd.dictAt;refine κ ?_;have hk:vs.map (·.1)=ns.map jy:=by rw[← rel.keys,zfm hlen]
 have hvl:vs.length=ns.length:=by have:=congrArg uc hk;simpa using this
 refine Calls.call_function_entry kind_sorted plain_sorted entry_sorted (args_sorted1 _) ?_;unfold Builtin.«sorted»;refine yb (m:=checkCount "sorted" 1 1 _) (yj (yb (HT.zep (PySem.W.kdl_dict (kvs:=vs) (ep:=ep) hd) (I.ok.hd hc) da (by rw[hvl];exact xh (wo hl) (by decide)) λh' tk its hkeep hsz hlen' hits=>yb (vn ?_))))
 have hints:wu its ns:=by
  have:∀(its:List yh) (ns:List Int),its.length=ns.length->(∀(j:Nat) v,its[j]? = ya v->∃n t,ns[j]? = ya n/\v=ya7 n t)->wu its ns:=by
   intro its;induction its with
   | nil=>intro ns h1 _;cases ns with
    | nil=>exact .nil
    | cons _ _=>simp at h1
   | cons v its ih =>
    intro ns h1 h2;cases ns with
    | nil=>simp at h1
    | cons n ns =>
     obtain⟨m,t,e1,e2⟩:=h2 0 v rfl;cases e1;subst e2
     exact .cons _ _ (ih ns (by simpa using h1) λj v hv=>by
      have:=h2 (j+1) v (by simpa using hv);simpa using this)
  refine this its ns (by rw[hlen',hvl]) λj v hv=>?_
  obtain⟨k,x,e1,e2⟩:=hits j v hv;have e3:(vs.map (·.1))[j]? = ya k:=by rw[yy,e1];rfl
  rw[hk,yy]at e3;cases e4:ns[j]? with
  | none=>rw[e4]at e3;cases e3
  | some n =>
   rw[e4]at e3;cases e3;rcases zp (show keyIs (jy n) v=yl from e2)with⟨i,t,e5,e6⟩ | ⟨i,t,e5,e6⟩
   ·cases e5;exact⟨n,t,rfl,e6⟩
   ·cases e5
 have hoL:(h'.push (js "list" its.toArray 0)).get? h'.objs.size=ya (js "list" its.toArray 0):=y4 _ rfl;refine yb (jw (x6 ybp ⟨_,hoL,rfl⟩ ya2 (list_sort_tree hoL hints (by rw[hlen',hvl];exact hl) λout ns' a1 a2 a3=>⟨_,rfl,yj ⟨_,rfl,?_⟩⟩) (ybq _)));have e:ns'=sortI ns:=zaq (a2.trans (zk ns).symm) a3 (za7 ns);subst e;obtain⟨ep2,ha⟩:=sortedHeap_at (out:=out) hoL;have hf:H h'.objs.size=yk:=I.hok.fresh hsz;refine⟨.ref h'.objs.size,upd H h'.objs.size (.lst ((sortI ns).map V.int)),I.laid (t':=tk) (λb o e=>?_) hsz ?_,rfl,q _ hf⟩
 ·have hb:=hkeep b o e
  have hlt:=yx hb;rw[sortedHeap_old (qg hlt) (by rw[size_push'];exact vc hlt)];exact yp _ hb
 ·refine⟨?_,out.toList,ep2,zcj a1,?_⟩
  ·rw[yd,(zk ns).length_eq]
   exact xh (wo hl) (by decide)
  ·simpa using ha
end
end L2
namespace HT
open PySem PySem.W PyProof.Rows
section
variable {prog:qw} {w:x8} {A:x5} {E:yh→ym→Prop} {s:ym}
noncomputable def DAny(h:Heap)(d:yq)(ks:List yh)(ep:Nat):Prop:=∃o es,h.get? d=ya o/\o.ExactDict/\o.data=.dict es ep/\es.toList.map (·.key)=ks
theorem DAny.size{es:Array DictEntry}{ks:List yh}(e:es.toList.map (·.key)=ks):es.size=ks.length:=by rw[← e];simp
theorem DAny.typeIs{d:yq}{ks:List yh}{ep:Nat}(x:DAny s.heap d ks ep):s.TypeIs (.ref d) "dict":=let⟨o,_,e,c,_⟩:=x;⟨o,e,c.1⟩
theorem zp4{d:yq}{ks:List yh}{ep:Nat}{Q:yh->ym->Prop}(lo:(d==vx)=yi)(x:DAny s.heap d ks ep)
  (q:Q (.ref s.heap.objs.size) { s with heap:=s.heap.push { cls:=.type "dict_keyiterator",data:=.fields #[.ref d,.int 0 0,.int ks.length 0,.int ep 0]}}):y9 (model prog w) A (pyIter (.ref d)) Q E s:=by
 obtain⟨o,es,e1,e2,e3,e4⟩:=id x;have T:=x.typeIs;refine ybr T yds (x6 yds T PySem.F.entry_dict_iter ?_ (PySem.F.args_dict_iter_1 _));unfold Builtin.«dict.__iter__» Builtin.Dict.dictSlotNone Builtin.Dict.showsAll;refine yb (yb (wpAny_notOrdered_dict T (yj ?_)));refine yb (m:=Builtin.Dict.addrOf (.ref d)) (yj ?_);rw[lo,if_neg qc];refine yb (yj (yb (wpAny_dictEntries e1 e3 (yb (wpAny_dictEpoch e1 e3 (yb (jc (yj ⟨_,rfl, "dict_keyiterator",_,⟨_,y4 _ rfl,rfl⟩,vw.lookup,?_⟩))))))));have z:=DAny.size e4;simpa[vb,z]using q
theorem zjj{it d:yq}{i ep:Nat}{ks:List yh}{Q:Option yh->ym->Prop}(hh:A.handled=yk)(y:s.heap.IsKeyIter it d i ks.length ep)(x:DAny s.heap d ks ep)
  (q1:∀v h',ks[i]? = ya v->h'.IsKeyIter it d (i+1) ks.length ep->Heap.SameBut it s.heap h'->Q (ya v) { s with heap:=h'})
  (q2:ks[i]? = yk->∀h',Heap.ExtBut it s.heap h'->Q yk { s with heap:=h'}):y9 (model prog w) A (pyNext (.ref it)) Q E s:=by
 refine zKK λγ κ=>?_;obtain⟨oi,i1,i2,i3⟩:=id y;obtain⟨o,es,e1,e2,e3,e4⟩:=id x;have z:=DAny.size e4;have T:=y.typeIs;refine κ ?_;unfold pyNext;refine yb (yav (wpAny_callSpecial?_slot (name:=Str.ofString "__next__") T vw (x6 vw T PySem.F.entry_dict_keyiterator_next ?_ (PySem.F.args_dict_keyiterator_next_1 _))));refine yb (yj (yb (yb (yb (ur T (yj (yb (wpAny_fieldsOf i1 i3 ?_))))))));rw[show Builtin.Dict_items.ownsTuple "dict_keyiterator" = yi by decide];show y9 _ _ (if(yw d==Value.none)=yl then _ else _) _ _ s;rw[if_neg (show¬(yw d==Value.none)=yl by exact qc)];refine yb (yj (yb (wpAny_dictEntries e1 e3 ?_)));rw[if_neg (show¬((es.size:Int) != ks.length)=yl by rw[z];simp)];refine yb (yj (yb (wpAny_dictEpoch e1 e3 ?_)));rw[if_neg (show¬((ep:Int) != ep)=yl by simp)];refine yj ?_;simp only[show¬(i:Int)<0 by lia,if_false,ybi];have hk:ks[i]? = (es[i]?).map (·.key):=by rw[← e4,yy,xa]
 cases he:es[i]? with
 | some e =>
  rw[he]at hk;dsimp only
  have y':(s.heap.update it (Obj.mapFields (·.setIfInBounds 1 (vb ((i:Int)+1))))).IsKeyIter it d (i+1) ks.length ep :=
   ⟨_,v6 _ i1 (Obj.isFreed_of_fields (Obj.data_mapFields i3 _)),(Obj.cls_mapFields ..).trans i2,by rw[Obj.data_mapFields i3];simp[vb]⟩
  refine yb (yb (ur T (yj (yb (wpAny_isOneOf_keyiter T ?_)))));show y9 _ _ (setField (.ref it) 1 (vb ((i:Int)+1)) >>= _) _ _ s;refine yb (ybs i1 i3 (by simp) (yb (jw (yb (wpAny_isOneOf_keyiter (s:={ s with heap:=s.heap.update it (Obj.mapFields (·.setIfInBounds 1 (vb ((i:Int)+1))))}) y'.typeIs ?_)))));show y9 _ _ (pure e.key) _ _ _;exact yj (yj ⟨_,rfl,yj (q1 e.key _ hk y' (Heap.SameBut.update ..))⟩)
 | none =>
  rw[he]at hk;dsimp only;refine yb (yb (ur T (yj ?_)));show y9 _ _ (setField (.ref it) 0 .none >>= _) _ _ s;refine yb (ybs i1 i3 (by simp) ?_);show y9 _ _ (newExc (.type "StopIteration") [] >>= _) _ _ _;simp only[newExc,newTuple];refine yb (yb (jc ?_ (by size_fits)));refine yb (m:=yal _ _) (ul (a:=Value.none) (by first | rfl | (simp only[yal];rfl)) (jc ?_ (by size_fits)));simp only[raiseNew];refine yb (wpAny_handled ?_);rw[show A.in1.handled=yk by exact hh];refine yb (yj (wpAny_throw (yb ?_)));exact yap (T:="StopIteration") (b:=yl) ⟨_,y4 _ rfl,rfl⟩ isSubtype_stop (yj (q2 hk _ (((Heap.SameBut.update ..).extBut.push _).push _)))
end
end HT
namespace L2
open PySem PySem.Spec PyProof.Rows
end L2
namespace HT
open PySem PySem.W PyProof.Rows
theorem zf4:Slot "set_iterator" "__next__" "set_iterator.__next__" :=
 .of (owner:="set_iterator") (n:="__next__") (by rw[vi,jx];kernel_rfl) (by decide +kernel) (by decide +kernel) (by decide +kernel)
  (by first | exact .inl (by decide +kernel) | exact .inr (by decide +kernel)) (by rw[vy];kernel_rfl)
theorem zsk:entryFor table "set_iterator.__next__" = ya Builtin.«set_iterator.__next__»:=entryFor_of_tree (by kernel_rfl)
theorem zv7:Manifest.owners.lookup (String.ofList ['r','o','t','a','r','e','t','i','_','t','e','s'].reverse)=ya Manifest.sig_set_iterator:=by kernel_rfl
theorem ztu(a:yh):argsOk "set_iterator.__next__" ⟨[a],[]⟩:=by
 unfold argsOk;rw[signature?_of (id:="set_iterator.__next__") (n:=['_','_','t','x','e','n','_','_']) (o:=['r','o','t','a','r','e','t','i','_','t','e','s']) (by kernel_rfl) zv7];kernel_rfl
theorem zni:Slot "set_iterator" "__iter__" "set_iterator.__iter__" :=
 .of (owner:="set_iterator") (n:="__iter__") (by rw[vi,jx];kernel_rfl) (by decide +kernel) (by decide +kernel) (by decide +kernel)
  (by first | exact .inl (by decide +kernel) | exact .inr (by decide +kernel)) (by rw[vy];kernel_rfl)
theorem zs6:entryFor table "set_iterator.__iter__" = ya Builtin.«dict_keyiterator.__iter__»:=entryFor_alias (id':="dict_keyiterator.__iter__") (by kernel_rfl) rfl (by decide +kernel) (by kernel_rfl)
theorem ztk(a:yh):argsOk "set_iterator.__iter__" ⟨[a],[]⟩:=by
 unfold argsOk;rw[signature?_of (id:="set_iterator.__iter__") (n:=['_','_','r','e','t','i','_','_']) (o:=['r','o','t','a','r','e','t','i','_','t','e','s']) (by kernel_rfl) zv7];kernel_rfl
theorem zp0:entryFor table "set.__iter__" = ya Builtin.«frozenset.__iter__»:=entryFor_alias (id':="frozenset.__iter__") (by kernel_rfl) rfl (by decide +kernel) (by kernel_rfl)
section
variable {prog:qw} {w:x8} {A:x5} {E:yh→ym→Prop} {s:ym}
structure SObj (w:World) (h:Heap) (S:Addr) (es:Array (Int×Value)) (ep:Nat) (t:SetTable):Prop where
 at_:h.get? S=ya { cls:=.type "set",data:=.set es ep t}
 plain:t.plain=yl
 led:t.led = !w.params.followText "set-order"
 fits:t.fits es.size=yl
 ris:ST.Ris t.place.toList
theorem SObj.keep{h h':Heap}{S:yq}{es:Array (Int×yh)}{ep:Nat}{t:wx}(x:SObj w h S es ep t)(k:∀o,h.get? S=ya o->h'.get? S=ya o):SObj w h' S es ep t:=⟨k _ x.at_,x.plain,x.led,x.fits,x.ris⟩
theorem SObj.typeIs{S:yq}{es:Array (Int×yh)}{ep:Nat}{t:wx}(x:SObj w s.heap S es ep t):s.TypeIs (.ref S) "set":=⟨_,x.at_,rfl⟩
def walkOf(w:x8)(S:yq)(es:Array (Int×yh))(ep:Nat):Array (Int×yh):=if w.params.followText "set-order" then pickOrder (w.params.setOrder S ep) es else es
def IsSI(h:Heap)(it S:yq)(slot i n ep:Nat):Prop:=∃o,h.get? it=ya o/\o.cls=.type "set_iterator"/\o.data=.fields #[.int slot 0,.int i 0,.ref S,.int n 0,.int ep 0]
theorem IsSI.typeIs{it S:yq}{slot i n ep:Nat}(x:IsSI s.heap it S slot i n ep):s.TypeIs (.ref it) "set_iterator":=let⟨o,e,c,_⟩:=x;⟨o,e,c⟩
theorem set_iter{S:yq}{es:Array (Int×yh)}{ep:Nat}{t:wx}{Q:yh->ym->Prop}(x:SObj w s.heap S es ep t)
  (q:Q (.ref s.heap.objs.size) { s with heap:=s.heap.push { cls:=.type "set_iterator",data:=.fields #[.int 0 0,.int 0 0,.ref S,.int es.size 0,.int ep 0]}}):y9 (model prog w) A (pyIter (.ref S)) Q E s:=by
 have T:=x.typeIs;refine ybr T yd0 (x6 yd0 T zp0 ?_ (PySem.F.args_set_iter_1 _));unfold Builtin.«frozenset.__iter__» Builtin.Frozenset.slot0 slotArgs;simp only[yex,yab,ql,↓reduceIte,bind_assoc,j6,bne_self_eq_false];unfold Builtin.Frozenset.addrOf Builtin.Frozenset.sizeOf;refine yb (yj ?_)
 try dsimp only
 refine yb (yj ?_);refine yb (yb (wpAny_setEntries_of x.at_ rfl x.fits (yj ?_)));unfold setDrawn setsByText;refine yb (yb (wc x.at_ rfl x.fits ?_));refine yb (yb (yaq (yj (yj ?_))));have hdr:∀b:Bool,(b&&(!t.plain&&decide (es.size>1)))=yi:=λb=>by rw[x.plain];cases b <;> rfl
 refine ya3 (λhab=>absurd (show(_&&(!t.plain&&decide (es.size>1)))=yl from hab) (by rw[hdr];exact qc)) (λ_=>?_);refine yb (yj ?_);unfold setEpoch;refine yb (yb (wc x.at_ rfl x.fits (yj ?_)));refine yb (jc (yj ⟨_,rfl, "set_iterator",_,⟨_,y4 _ rfl,rfl⟩,zf4.lookup,?_⟩));simpa[vb]using q
def SIat(w:x8)(h:Heap)(it S:yq)(es:Array (Int×yh))(ep:Nat)(t:wx)(i:Nat):Prop:=∃slot,IsSI h it S slot i es.size ep/\(w.params.followText "set-order" = yi->SetTable.below t.place slot=i)
theorem zlr{t:wx}(r:ST.Ris t.place.toList){i j:Nat}(h:t.place.toList[i]? = ya j):SetTable.below t.place (j+1)=i+1:=by
 have P:=ST.zbg r (j+1);have hi:=(qk.mp h).1;generalize SetTable.below t.place (j+1)=x at P;rcases yc1 x (i+1)with z | z | z
 ·have:=P.2.2 i j h (by lia);lia
 ·exact z
 ·have hl:i+1<t.place.toList.length:=by have:=P.1;lia
  have h1:=P.2.1 (i+1) _ (yc hl) (by lia);have h2:=ST.zc6 r h (yc hl) (ydf _);lia
theorem zoe{S:yq}{es:Array (Int×yh)}{ep:Nat}{t:wx}{slot i:Nat}{Q:Option (yh×Nat)->ym->Prop}(x:SObj w s.heap S es ep t)(hb:w.params.followText "set-order" = yi->SetTable.below t.place slot=i)
  (q:∀r:Option (yh×Nat),r.map (·.1)=((walkOf w S es ep)[i]?).map (·.2)->(∀v n,r=ya (v,n)->w.params.followText "set-order" = yi->SetTable.below t.place n=i+1)->Q r s):y9 (model prog w) A (setNext S slot i ep) Q E s:=by
 unfold setNext setsByText;refine yb (wc x.at_ rfl x.fits ?_);dsimp only;refine yb (yb (yaq (yj ?_)));dsimp only;show y9 _ _ (if w.params.followText "set-order" = yl then _ else _) _ _ s;cases hf:w.params.followText "set-order" with
 | true =>
  rw[if_pos rfl,if_neg (by simp)];unfold setWalk setsByText;refine yb (yb (wc x.at_ rfl x.fits ?_));dsimp only;refine yb (yb (yaq (yj ?_)));show y9 _ _ (if w.params.followText "set-order" = yl then _ else _) _ _ s;rw[if_pos hf];refine yb (yaq (yj (yj (q _ ?_ λv n _ z=>by rw[hf]at z;cases z))));unfold walkOf;rw[if_pos hf,ye6];rfl
 | false =>
  rw[if_neg qc];refine ya3 (λhab=>absurd (show(!t.plain&&decide (es.size>1))=yl from hab) (by rw[x.plain];exact qc)) (λ_=>?_);refine yb (show y9 _ _ (if(!t.led&&!es.isEmpty)=yl then _ else _) _ _ s from ?_);rw[if_neg (by rw[x.led,hf];exact qc)];refine yj ?_;rw[hb hf];refine yj (q _ ?_ ?_)
  ·unfold walkOf
   rw[if_neg (by rw[hf];exact qc)]
   have hl:t.place.size=es.size:=by
    have:=x.fits;unfold SetTable.fits at this;rw[yr]at this;exact beq_iff_eq.mp this.1
   by_cases hi:i<es.size
   ·rw[xz hi,xz (by rw[hl];exact hi)]
    rfl
   ·rw[ybj (by lia)]
    rfl
  ·intro v n e _
   split at e
   ·rename_i h1 h2
    cases e;exact zlr x.ris (by rw[xa];exact h2)
   ·cases e
theorem zkp{it S:yq}{es:Array (Int×yh)}{ep:Nat}{t:wx}{i:Nat}{Q:Option yh->ym->Prop}(hh:A.handled=yk)(y:SIat w s.heap it S es ep t i)(x:SObj w s.heap S es ep t)
  (q1:∀v h',((walkOf w S es ep)[i]?).map (·.2)=ya v->SIat w h' it S es ep t (i+1)->Heap.SameBut it s.heap h'->Q (ya v) { s with heap:=h'})
  (q2:(walkOf w S es ep)[i]? = yk->∀h',Heap.ExtBut it s.heap h'->Q yk { s with heap:=h'}):y9 (model prog w) A (pyNext (.ref it)) Q E s:=by
 obtain⟨slot,y,hb⟩:=y;obtain⟨oi,i1,i2,i3⟩:=id y;have T:=y.typeIs;unfold pyNext;refine yb (yav (wpAny_callSpecial?_slot (name:=Str.ofString "__next__") T zf4 (x6 zf4 T zsk ?_ (ztu _))));unfold Builtin.«set_iterator.__next__» slotArgs;simp only[yex,yab,ql,↓reduceIte,bind_assoc,j6,bne_self_eq_false];refine yb (yj ?_)
 try dsimp only
 refine yb (wpAny_fieldsOf i1 i3 ?_);dsimp only;refine yb (wpAny_setEntries_of x.at_ rfl x.fits ?_);rw[if_neg (show¬((es.size:Int) != es.size)=yl by simp)];simp only[ybi];refine yb (zoe x hb λr hr hn=>?_);cases r with
 | some p =>
  obtain⟨v,nx⟩:=p;dsimp only;have e0:((walkOf w S es ep)[i]?).map (·.2)=ya v:=hr.symm;refine yb (ybs i1 i3 (by simp) ?_);have h1:(s.heap.update it (Obj.mapFields (·.setIfInBounds 0 (vb (nx:Int))))).get? it=ya (Obj.mapFields (·.setIfInBounds 0 (vb (nx:Int))) oi):=v6 _ i1 (Obj.isFreed_of_fields (Obj.data_mapFields i3 _));have h2:=Obj.data_mapFields i3 (·.setIfInBounds 0 (vb (nx:Int)));refine yb (ybs (s:={ s with heap:=s.heap.update it (Obj.mapFields (·.setIfInBounds 0 (vb (nx:Int))))}) h1 h2 (by simp) ?_);show y9 _ _ (ret v) _ _ _;refine yj ⟨_,rfl,yj (q1 v _ e0 ⟨nx,⟨_,v6 _ h1 (Obj.isFreed_of_fields (Obj.data_mapFields h2 _)),?_,?_⟩,λz=>hn v nx rfl z⟩ ((Heap.SameBut.update ..).trans (Heap.SameBut.update ..)))⟩
  ·exact(Obj.cls_mapFields ..).trans ((Obj.cls_mapFields ..).trans i2)
  ·rw[Obj.data_mapFields h2];simp[vb]
 | none =>
  dsimp only
  have e0:(walkOf w S es ep)[i]? = yk:=by
   have:((walkOf w S es ep)[i]?).map (·.2)=yk:=hr.symm;simpa using this
  refine yb (ybs i1 i3 (by simp) ?_);show y9 _ _ (newExc (.type "StopIteration") [] >>= _) _ _ _;simp only[newExc,newTuple];refine yb (yb (jc ?_ (by size_fits)));refine yb (m:=yal _ _) (ul (a:=Value.none) (by first | rfl | (simp only[yal];rfl)) (jc ?_ (by size_fits)));simp only[raiseNew];refine yb (wpAny_handled ?_);rw[show A.in1.handled=yk by exact hh];refine yb (yj (wpAny_throw (yb ?_)));exact yap (T:="StopIteration") (b:=yl) ⟨_,y4 _ rfl,rfl⟩ isSubtype_stop (yj (q2 e0 _ (((Heap.SameBut.update ..).extBut.push _).push _)))
theorem zfj{α:Type}:∀(l:List α) (i:Nat) (h:i<l.length),(l[i]::l.eraseIdx i).Perm l
 | [],i,h=>by simp at h
 | x::l,0,h=>List.Perm.refl _
 | x::l,i+1,h=>(List.Perm.swap x _ _).trans (List.Perm.cons x (zfj l i (by simpa using h)))
theorem zmm{α:Type}(next:Nat->Nat):∀(fuel k:Nat) (left:List α) (out:Array α),fuel=left.length->(pickOrder.go next fuel k left out).toList.Perm (out.toList++left)
 | 0,k,left,out,h=>by
  have:left=[]:=j5.mp h.symm;subst this;simp[pickOrder.go]
 | fuel+1,k,left,out,h=>by
  have hlt:next k % left.length<left.length:=yeb _ (by lia);unfold pickOrder.go;rw[yc hlt];dsimp only;refine(zmm next fuel (k+1) _ _ (by rw[List.length_eraseIdx_of_lt hlt];lia)).trans ?_;rw[yem,xb];exact List.Perm.append_left _ (zfj left _ hlt)
theorem zhm(w:x8)(S:yq)(es:Array (Int×yh))(ep:Nat):(walkOf w S es ep).toList.Perm es.toList:=by
 unfold walkOf;split
 ·unfold pickOrder
  simpa using zmm (w.params.setOrder S ep) es.size 0 es.toList #[] (by simp)
 ·exact List.Perm.refl _
theorem zhg(w:x8)(S:yq)(es:Array (Int×yh))(ep:Nat):(walkOf w S es ep).size=es.size:=by
 rw[← qi,(zhm w S es ep).length_eq,qi]
theorem zmo{it S:yq}{slot i n ep:Nat}{Q:yh->ym->Prop}(y:IsSI s.heap it S slot i n ep)(q:Q (.ref it) s):y9 (model prog w) A (pyIter (.ref it)) Q E s:=by
 refine ybr y.typeIs zni (x6 zni y.typeIs zs6 ?_ (ztk _));show y9 _ _ (ret (.ref it)) _ _ s;exact yj ⟨_,rfl, "set_iterator",_,y.typeIs,zf4.lookup,q⟩
theorem zm2(hh:A.handled=yk)(I S:yq)(hne:S≠I)(es:Array (Int×yh))(ep:Nat)(t:wx):Walks prog w A I [I,S] [I] es.size (λi v=>((walkOf w S es ep)[i]?).map (·.2)=ya v) (λi h=>SIat w h I S es ep t i/\SObj w h S es ep t) where
 sub:=λb hb=>yn.mpr (.inl (qd.mp hb))
 frame:=λi h h' st k=>⟨let⟨sl,⟨o,e,r⟩,z⟩:=st.1;⟨sl,⟨o,k I (by simp) o e,r⟩,z⟩,st.2.keep λo e=>k S (by simp) o e⟩
 item:=λi s Q E hi st q=>zkp hh st.1 st.2 (λv h' e y sb=>q v h' s.toks e ⟨y,st.2.keep λo z=>sb.extBut S o hne z⟩ λb o hb z=>sb.extBut b o (λu=>hb (qd.mpr u)) z) λe=>absurd e (by rw[xz (by rw[zhg];exact hi)];simp)
 done:=λs Q E st q=>zkp hh st.1 st.2 (λv h' e=>absurd e (by rw[ybj (by rw[zhg];exact y6 _)];simp)) λ_ h' x=>q h' s.toks λb o hb z=>x b o (λu=>hb (qd.mpr u)) z
 self:=λi s Q E st q=>let⟨_,y,_⟩:=st.1;zmo y q
theorem zpz{r:yq}{Q:Bool->ym->Prop}(hT:s.TypeIs (.ref r) "set")(h:Q yi s):y9 (model prog w) A (Builtin.List.listLengthHint (.ref r)) Q E s:=by
 unfold Builtin.List.listLengthHint;refine yb (u9 hT PySem.F.slot_set_len.lookup ?_);generalize hid:("set.__len__" : String)=id0
 wp_delta
 rw[show splitId id0=ya ("set", "__len__")from by subst hid;decide +kernel];subst hid;refine yb (yap (T:="set") (b:=yl) hT (by rw[vy];kernel_rfl) ?_);refine ya3 (λhab=>absurd hab (by decide)) (λ_=>?_);refine ya3 (λ_=>?_) (λhab=>absurd (by decide +kernel) hab);refine yb (uj hT ?_);exact yj h
theorem ztr{S:yq}{es:Array (Int×yh)}{ep:Nat}{t:wx}:KdlSrc prog w "set" S S es.size (λi v=>((walkOf w S es ep)[i]?).map (·.2)=ya v) (λh=>SObj w h S es ep t) where
 type:=λ_ x=>x.typeIs
 there:=λ_ x=>⟨yx x.at_,yx x.at_⟩
 keep:=λ_ _ x k=>x.keep λo e=>k S (.inl rfl) o e
 notList:=rfl
 notTuple:=rfl
 hint:=λA E s Q x q=>zpz x.typeIs q
 iter:=λA s hh x=>⟨_,_,λE Q q=>set_iter x q,zm2 hh _ S (qg (yx x.at_)) es ep t,⟨0,⟨_,y4 _ rfl,rfl,rfl⟩,λ_=>by
  have P:=ST.zbg x.ris 0;rcases Nat.eq_zero_or_pos (SetTable.below t.place 0)with z | z
  ·exact z
  ·have hl:0<t.place.toList.length:=by have:=P.1;lia
   have:=P.2.1 0 _ (yc hl) z;lia⟩,x.keep λo e=>yp _ e⟩
end
open PySem PyProof.Rows
noncomputable def nubI(ns:List Int):List Int:=ns.foldl step_dedup []
section
variable {prog:qw} {w:x8} {A:x5} {E:yh→ym→Prop} {s:ym}
theorem zh0{T newId initId:String}{args:List yh}{Q Q₁:yh->ym->Prop}(ft:TypeCalled T newId initId)(hct:checkTypeCall T ⟨args,[]⟩=pure ())
  (hnew:yb1 (model prog w) A.in1 (.call (.builtin newId) ⟨.type T::args,[]⟩) (wants Q₁ E) s)
  (hinit:∀obj s₁,Q₁ obj s₁->s₁.TypeIs obj T/\yb1 (model prog w) A.in1 (.call (.builtin initId) ⟨obj::args,[]⟩) (wants (λr s₂=>r=.none/\Q obj s₂) E) s₁):y9 (model prog w) A (call (.type T) args) Q E s:=by
 obtain⟨c0,tl0,hm⟩:=ft.mro;have a1:=ft.made;have a2:=ft.sub;have a3:=ft.notType;have a4:=ft.canCreate;have a5:=ft.init.lookup;refine wpAny_call (ycb (show y9 _ _ (callAny (.type T) _) _ _ _ from yj ⟨Code.quiet_builtin _ (by decide +kernel),jv F.entry_type_call ?_⟩));rw[Around.under_plain (weight_type_call_type T args []) rfl]
 repeat (any_goals (first | assumption | wp_step))
 refine ybn hnew λr s₁ hr=>?_
 cases r with
 | error e=>exact hr
 | ok fl =>
  cases fl with
  | ret obj =>
   obtain⟨hT,hc⟩:=hinit obj s₁ hr;have a6:=ft.init.bind obj
   repeat (any_goals (first | assumption | wp_step))
   refine ybn hc λr₂ s₂ hr₂=>?_
   cases r₂ with
   | error e=>exact hr₂
   | ok fl₂ =>
    cases fl₂ with
    | ret v =>
     obtain⟨rfl,hq⟩:=hr₂
     repeat (any_goals (first | assumption | wp_step))
    | next=>exact hr₂.elim
    | brk=>exact hr₂.elim
    | cont=>exact hr₂.elim
  | next=>exact hr.elim
  | brk=>exact hr.elim
  | cont=>exact hr.elim
end
end HT
namespace L2
open PySem PySem.Spec PyProof.Rows
open PY (insI sortI minI)
section
variable {X:Cx}
noncomputable def rInsert:V->List V->Hp->VK->Prop:=λx vs H Q=>∃(l:yq) (xs:List V) (k:Int) (y:V),x=.ref l/\vs=[.int k,y]/\H l=ya (.lst xs)/\-(2 ^ 62)<=k/\k<2 ^ 62/\xs.length<y8/\Q .non (upd H l (.lst (PY.putAt xs k y)))
theorem znu:MtM X "list.insert" rInsert:=by
 intro pins s σ H x vs v us Q I rx rv h;refine zKK λγ κ=>?_;obtain⟨l,xs,k,y,rfl,rfl,hH,k1,k2,hz,q⟩:=h;cases rx;obtain⟨u,u',rfl,⟨t,rfl⟩,ru⟩:=rv.two;obtain⟨z,its,n,r,hl,e⟩:=I.lstM hH;refine κ ?_;refine ydu yc5 ⟨_,e,rfl⟩ PySem.F.entry_list_insert (PySem.F.args_list_insert_3 _ _ _) (PySem.AutoListH.list_insert_list_int_val_1 l its.toArray n k t u' (by unfold Builtin.List.listFitsIndex;simp;lia) (by rw[yt,← hl];exact z)) ⟨e,?_⟩;have hp:xs.length=its.length:=hl;refine⟨.non,_,I.lset (its':=PY.putAt its k u') hH e ?_ ?_ ?_,rfl,q⟩
 ·unfold PY.putAt
  simp only[List.extract_toArray,List.push_toArray,List.append_toArray,ycs,yt,ybk,yen,xb];rw[vk (l:=List.drop _ _) (by rw[wk];exact y6 _)];rfl
 ·unfold PY.putAt
  rw[hp];exact(r.take _).append (.cons ru (r.drop _))
 ·unfold PY.putAt
  rw[yu,qf,x3,wk];lia
end
end L2
namespace HT
open PySem PySem.W PyProof.Rows
section
variable {prog:qw} {w:x8} {A:x5} {E:yh→ym→Prop} {s:ym}
abbrev nubK(ks:List (List Int×yq)):List (List Int×yq):=ks.foldl addK []
theorem zo9(ks:List (List Int×yq)){i:Nat}{q:List Int×yq}(h:ks[i]? = ya q):nubK (ks.take (i+1))=addK (nubK (ks.take i)) q:=by
 obtain⟨hi,rfl⟩:=qk.mp h;unfold nubK;rw[List.take_succ_eq_append_getElem hi,yc2];rfl
theorem zkd(ks:List (List Int×yq)):∀σ:List (List Int×yq),(ks.foldl addK σ).length<=σ.length+ks.length:=by
 induction ks with
 | nil=>intro σ;simp
 | cons q ks ih =>
  intro σ;have:=ih (addK σ q);have:=zpq σ q;rw[u4,qf];lia
theorem zly{R:Result->ym->Prop}{I:yq}{fp wr:List yq}{G:Array GenState->Array GenState->Prop}{n:Nat}{P:Nat->yh->Prop}{St:Nat->ym->Prop}(W:WalksS prog w A.in1 I fp wr G n P St)(S:yq)(hSf:S∉fp)(hu:A.in1.units<ju)
  (ks:List (List Int×yq)) (hn:ks.length=n) (h64:n<64) (hP:∀i v,P i v->∃q,ks[i]? = ya q/\v=yw q.2) (hwr:∀q∈ks,q.2∉S::wr) :
  ∀(k i:Nat) (s:ym),n - i=k->i<=n->St i s->(∀q∈ks,TK prog w s.heap q.1 q.2)->TSet prog w s.heap S (nubK (ks.take i)) ->
   (∀s',Moved (S::wr) G s s'->TSet prog w s'.heap S (nubK ks)->R (.ok (.ret .none)) s') ->
   yb1 (model prog w) A (.builtin "set.update.loop" ⟨[.ref S,.ref I],[]⟩) R s:=by
 have hSw:S∉wr:=λh=>hSf (W.sub _ h)
 have hsub:∀b∈wr,b∈S::wr:=λb hb=>yf _ hb
 have keepT:∀{h h':Heap} {σ:List (List Int×yq)},TSet prog w h S σ->(∀o,h.get? S=ya o->h'.get? S=ya o)->(∀q∈σ,∀o,h.get? q.2=ya o->h'.get? q.2=ya o)->TSet prog w h' S σ:=λ{h h' σ} T k1 k2=>by
  refine zKK λγ κ=>?_;obtain⟨es,ep,t,a1,a2,a3,a4,a5,a6,a7,a8⟩:=T;refine κ ?_;exact⟨es,ep,t,k1 _ a1,a2,a3,a4,a5,a6,a7,λq hq=>TK.keep (a8 q hq) (k2 q hq)⟩
 have sub:∀(l:List (List Int×yq)) (σ:List (List Int×yq)) (q:List Int×yq),q∈l.foldl addK σ->q∈σ\/q∈l:=λl=>by
  induction l with
  | nil=>intro σ q h;exact .inl h
  | cons x l ih =>
   intro σ q h;rcases ih _ q h with h | h
   ·unfold addK at h
    split at h
    ·exact .inl h
    ·rcases qt.mp h with h | h
     ·exact .inl h
     ·exact .inr (by rw[qd.mp h];exact yg)
   ·exact .inr (yf _ h)
 intro k;induction k with
 | zero =>
  intro i s hk hi hst hks hS hR;have hin:i=n:=by lia
  subst hin;refine jv F.entry_set_update_loop ?_;rw[Around.under_plainId F.plain_set_update_loop _];show y9 _ A.in1 (pyNext (.ref I) >>= _) _ _ s;refine yb (W.done s _ _ hst λs' hm=>?_);show y9 _ A.in1 (ret Value.none) _ _ s';rw[← hn,ydg]at hS;refine yj (hR s' (hm.mono hsub) (keepT hS (λo e=>hm.heap S _ hSw e) λq hq o e=>hm.heap q.2 o (λz=>?_) e));rcases sub ks [] q hq with h | h
  ·cases h
  ·exact hwr q h (yf _ z)
 | succ k ih =>
  intro i s hk hi hst hks hS hR;have hlt:i<n:=by lia
  refine jv F.entry_set_update_loop ?_;rw[Around.under_plainId F.plain_set_update_loop _];show y9 _ A.in1 (pyNext (.ref I) >>= _) _ _ s;refine yb (W.item i s _ _ hlt hst λv s' hPv hst' hm=>?_);obtain⟨q,hq,rfl⟩:=hP i v hPv;have qm:q∈ks:=xk hq;have hks':∀q∈ks,TK prog w s'.heap q.1 q.2:=λq hq=>TK.keep (hks q hq) λo e=>hm.heap q.2 o (λz=>hwr q hq (yf _ z)) e
  have hS':TSet prog w s'.heap S (nubK (ks.take i)):=keepT hS (λo e=>hm.heap S _ hSw e) λq hq o e=>hm.heap q.2 o (λz=>by
   rcases sub (ks.take i) [] q hq with h | h
   ·cases h
   ·exact hwr q (w6 h) (yf _ z)) e
  show y9 _ A.in1 (holding [yw q.2] (setAdd S (.ref q.2)) >>= _) _ _ s';refine yb (jw ?_);unfold setAdd;refine jw ?_;refine yb (wpAny_pyHash_tuple (knd:=intKind prog w) hu (hks' q qm) ?_)
  have hl64:(nubK (ks.take i)).length<64:=by
   have:=zkd (ks.take i) [];rw[j6,x3]at this;show(List.foldl addK [] (List.take i ks)).length<64;lia
  refine zud (s:={ s' with toks:=s'.toks+(q.1.length+1)}) hu hS' hl64 (hks' q qm) λb h' hsb hS2=>?_
  rw[← zo9 ks hq]at hS2;refine yj ⟨yaw F.plain_set_update_loop _,ih (i+1) _ (by lia) hlt (W.frame _ s' _ _ hst' (ydc _ _) λb hb o e=>?_) (λq' hq'=>TK.keep (hks' q' hq') λo e=>?_) hS2 λs'' hm'' hS''=>?_⟩
  ·rw[hsb.2 b (λh:b=S=>hSf (by rw[← h];exact hb))];exact e
  ·rw[hsb.2 q'.2 (λh=>hwr q' hq' (by rw[h];exact yg))];exact e
  ·refine hR s'' (Moved.trans W.gtrans ((hm.mono hsub).then_heap (ydc _ _) λb o hb e=>?_) hm'') hS''
   rw[hsb.2 b (λh:b=S=>hb (by rw[h];exact yg))];exact e
abbrev newT(w:x8):Obj:={ cls:=.type "set",dict:=yk,data:=.set #[] 0 (.fresh 0 0 (!w.params.followText "set-order"))}
theorem zld(led:Bool):ST.Good (.fresh 0 0 led) []:=⟨.inl rfl,rfl,List.Pairwise.nil,λp hp=>(by cases hp),rfl,λq hq=>(by cases hq)⟩
theorem zq3{h:Heap}{S:yq}(e:h.get? S=ya (newT w)):TSet prog w h S []:=⟨#[],0,_,e,rfl,rfl,zld _,(show 0*5<7*3 by decide),List.Perm.refl _,by simp,λq hq=>(by cases hq)⟩
theorem zoc(a:yh){Q₁:yh->ym->Prop}(h:Q₁ (.ref s.heap.objs.size) { s with heap:=s.heap.push (newT w)}) :
  yb1 (model prog w) A (.call (.builtin "set.__new__") ⟨[.type "set",a],[]⟩) (wants Q₁ E) s:=by
 refine ycb ?_;show y9 _ A.in1 (do checkBuiltinCall "set.__new__" ⟨[.type "set",a],[]⟩;again (.builtin "set.__new__" ⟨[.type "set",a],[]⟩)) _ _ s;refine yb (ul (PySem.F.newCall_set_1 a) (yj ⟨yaw yd1 _,jv PySem.F.entry_set_new ?_⟩));rw[Around.under_plainId yd1 _];unfold Builtin.«set.__new__» Builtin.Frozenset.newClass;have hsub:=PySem.sub_set_self;obtain⟨hp,g,d,tk,os⟩:=s;dsimp only
 wp_walk
 refine yaq (yj ?_);dsimp only;simp only[newObj];refine yb (wpAny_alloc (yj ?_));exact yj h
def MadeT(prog:qw)(w:x8)(s:ym)(S:yq)(ks:List (List Int×yq))(s':ym):Prop:=∃h' tk,s'={ s with heap:=h',toks:=tk}/\TSet prog w h' S (nubK ks)/\∀b o,b<S->s.heap.get? b=ya o->h'.get? b=ya o
theorem zka:∀{vs:List yh} {ns:List Int},wu vs ns->ItemsAre (intKind prog w) ns vs
 | _,_,.nil=>.nil
 | _,_,.cons n t r=>.cons (intKind_is _ _ _ _) (zka r)
theorem zg6{α β:Type}(f:α->β):∀(l:List β) (σ:List α),l.Perm (σ.map f)->∃σ':List α,σ'.Perm σ/\σ'.map f=l
 | [],σ,h=>by
  have:σ=[]:=by
   have:=h.length_eq;rw[yd,j6]at this;exact j5.mp this.symm
  exact⟨[],(by rw[this]),rfl⟩
 | b::l,σ,h=>by
  obtain⟨x,hx,e⟩:=yz.mp (h.mem_iff.mp yg);obtain⟨s1,s2,rfl⟩:=wg hx;have p1:(s1++x::s2).Perm (x::(s1++s2)):=j7
  have p2:(b::l).Perm (b::(s1++s2).map f):=by
   refine h.trans ?_;have:=p1.map f;rw[yo,e]at this;exact this
  obtain⟨σ',h1,h2⟩:=zg6 f l (s1++s2) p2.cons_inv;exact⟨x::σ',(h1.cons x).trans p1.symm,by rw[yo,e,h2]⟩
end
end HT
namespace L2
open PySem PySem.W PySem.Spec PyProof.Rows
section
variable {X:Cx}
def SetV(w:x8)(prog:qw)(oc:Obj)(σ:List (List Int×yq)):Prop:=∃es ep t,oc={ cls:=.type "set",data:=.set es ep t}/\t.plain=yl/\t.led=(!w.params.followText "set-order")/\t.fits es.size=yl/\ST.Ris t.place.toList/\es.toList.Perm (σ.map λq=>(HT.tH prog w q.1,yw q.2))
theorem zw9{pins:List (yq×Obj)}{σ:St}{H:Hp}{s:ym}(I:Inv X pins σ H s){a:yq}{n:List Int}(h:SqT X.K H a (n.map V.int)):HT.TK X.prog X.w s.heap n a:=by
 refine zKK λγ κ=>?_;obtain⟨its,rv,⟨o,ho,hc,m,hd⟩,_⟩:=I.tuple h;refine κ ?_;exact⟨o,its.toArray,m,ho,hc,hd,by simpa using HT.zka (zam rv)⟩
theorem zhi(hc:X.calm=yl):CallR X (.builtin "sorted") (λxs H Q=>∃(S:yq) (oc:Obj) (ks:List (List Int×yq)),xs=[.ref S]/\H S=ya (.frz oc (.own 0))/\SetV X.w X.prog oc ks/\(∀q∈ks,SqT X.K H q.2 (q.1.map V.int)/\q.1≠[])/\ks.length<64 /\
  ∀(rs:List (List Int×yq)) l,rs.Perm ks->rs.map (·.1)=PY.sortT (ks.map (·.1))->H l=yk->Q (.ref l) (upd H l (.lst (rs.map λq=>V.ref q.2)))):=by
 intro pins s σ H xs us Q I r h;refine zKK λγ κ=>?_;obtain⟨S,oc,ks,rfl,hS,⟨es,ep,t,rfl,v1,v2,v3,v4,v5⟩,hk,h64,q⟩:=h;obtain⟨u,rfl,ru⟩:=vals1 r;cases ru;have so:HT.SObj X.w s.heap S es ep t:=⟨(I.hok _ _ hS).1,v1,v2,v3,v4⟩;obtain⟨ws,w1,w2⟩:=HT.zg6 (λq:List Int×yq=>(HT.tH X.prog X.w q.1,yw q.2)) _ ks ((HT.zhm X.w S es ep).trans v5);have wl:ws.length=ks.length:=w1.length_eq;refine κ ?_;have el:es.size=ks.length:=by rw[← qi,v5.length_eq,yd]
 have hws:∀q∈ws,SqT X.K H q.2 (q.1.map V.int)/\q.1≠[]:=λq hq=>hk q (w1.mem_iff.mp hq)
 refine Calls.call_function_entry kind_sorted plain_sorted entry_sorted (args_sorted1 _) ?_;unfold Builtin.«sorted»;refine yb (m:=checkCount "sorted" 1 1 _) (yj (yb (HT.zep (HT.ztr (ep:=ep) (t:=t)) (I.ok.hd hc) so (by rw[el];exact xh (wo h64) (by decide)) λh' tk its hkeep hsz hlen' hits=>yb (vn ?_))))
 have ei:its=ws.map λq=>yw q.2:=by
  apply yc3;intro j
  have e0:((HT.walkOf X.w S es ep)[j]?).map (·.2)=(ws.map λq=>yw q.2)[j]?:=by
   rw[← xa,← w2,yy,yy,ye6];rfl
  cases ej:its[j]? with
  | some v=>rw[← e0,hits j v ej]
  | none =>
   rw[yct]at ej;rw[yct.mpr (by rw[yd,wl,← el,← hlen'];exact ej)]
 subst ei;have hil:(ws.map λq=>yw q.2).length=(ws.map (·.1)).length:=by rw[yd,yd]
 have hoL:(h'.push (js "list" (ws.map λq=>yw q.2).toArray 0)).get? h'.objs.size=ya (js "list" (ws.map λq=>yw q.2).toArray 0):=y4 _ rfl
 have ht:HS.Tups (h'.push (js "list" (ws.map λq=>yw q.2).toArray 0)) (ws.map λq=>yw q.2) (ws.map (·.1)):=⟨hil,λi hi=>by
  rw[yd]at hi;have hm:ws[i]∈ws:=vq hi;refine zKK λγ κ=>?_;obtain⟨g1,g2⟩:=hws _ hm;obtain⟨its',rv',⟨o',ho,hcl,n,hdt⟩,_⟩:=I.tuple g1;refine κ ?_;have e1:(ws.map (·.1)).getD i []=ws[i].1:=by rw[y3,yy,yc hi];rfl
  refine⟨ws[i].2,o',its'.toArray,n,?_,yp _ (hkeep _ _ ho),hcl,hdt,by rw[e1];simpa using zam rv',by rw[e1];exact g2⟩;rw[y3,yy,yc hi];rfl⟩
 refine yb (jw (x6 ybp ⟨_,hoL,rfl⟩ ya2 (HS.zdz hoL ht (by rw[yd,wl];exact h64) λpp hpp=>⟨_,rfl,yj ⟨_,rfl,?_⟩⟩) (ybq _)));obtain⟨ep2,ha⟩:=sortedHeap_at (out:=(pp.map λi=>(ws.map λq=>yw q.2).getD i Value.none).toArray) hoL;have hf:H h'.objs.size=yk:=I.hok.fresh hsz;have hin:∀i∈pp,i<ws.length:=λi hi=>by simpa using hpp.pm.mem_iff.mp hi
 have hvs:Vals (ws.map λq=>V.ref q.2) (ws.map λq=>yw q.2):=by
  have:∀l:List (List Int×yq),Vals (l.map λq=>V.ref q.2) (l.map λq=>yw q.2):=by
   intro l;induction l with
   | nil=>exact .nil
   | cons a l ih=>exact .cons rfl ih
  exact this ws
 have rp:(pp.map λi=>ws.getD i ([],0)).Perm ks:=by
  refine List.Perm.trans ?_ w1;have:=hpp.pm.map λi=>ws.getD i ([],0)
  rw[yd,zjq]at this;exact this
 have rk:(pp.map λi=>ws.getD i ([],0)).map (·.1)=PY.sortT (ks.map (·.1)):=by
  have e1:(pp.map λi=>ws.getD i ([],0)).map (·.1)=pp.map λi=>(ws.map (·.1)).getD i []:=by
   rw[qu];refine x9 λi hi=>?_
   have:=hin i hi;simp only[Function.comp];rw[y3,y3,yy,yc this];rfl
  rw[e1,zdg hpp];refine zar ?_ (za1 _) (za1 _);exact((z4 _).trans (w1.map _)).trans (z4 _).symm
 have rv:(pp.map λi=>ws.getD i ([],0)).map (λq=>V.ref q.2)=pp.map λi=>(ws.map λq=>V.ref q.2).getD i .non:=by
  rw[qu];refine x9 λi hi=>?_
  have:=hin i hi;simp only[Function.comp];rw[y3,y3,yy,yc this];rfl
 have q':=q _ h'.objs.size rp rk hf;rw[rv]at q';refine⟨.ref h'.objs.size,upd H h'.objs.size (.lst (pp.map λi=>(ws.map λq=>V.ref q.2).getD i .non)),I.laid (t':=tk) (λb o e=>?_) hsz ?_,rfl,q'⟩
 ·have hb:=hkeep b o e
  have hlt:=yx hb;rw[sortedHeap_old (qg hlt) (by rw[size_push'];exact vc hlt)];exact yp _ hb
 ·refine⟨?_,pp.map λi=>(ws.map λq=>yw q.2).getD i Value.none,ep2,zem hvs λi hi=>by rw[yd];exact hin i hi,ha⟩
  rw[yd,hpp.pm.length_eq,yad,yd,wl];exact xh (wo h64) (by decide)
end
end L2
namespace HT
open PySem PySem.W PyProof.Rows
section
variable {prog:qw} {w:x8} {A:x5} {E:yh→ym→Prop} {s:ym}
theorem zle{l S:yq}{vs:List yh}{ks:List (List Int×yq)}(hu:A.units+2<ju)(hh:A.handled=yk)(hS:s.heap.get? S=ya (newT w))(hz:s.heap.objs.size=S+1)(hl:s.heap.IsTuple l vs.toArray)(hlS:l<S)(hv:vs=ks.map λq=>yw q.2)(hk:∀q∈ks,TK prog w s.heap q.1 q.2)(h64:ks.length<64) :
  y9 (model prog w) A.in1 (Builtin.«set.__init__» ⟨[.ref S,.ref l],[]⟩) (λfin s'=>fin=.done (.ret .none)/\MadeT prog w s S ks s') E s:=by
 obtain⟨ol,hol,hcl,nl,hdl⟩:=id hl;obtain⟨oc,od,odt,osl⟩:=ol;simp only at hcl hdl;subst hcl hdl;have f1:=PySem.F.sub_tuple_set;have f2:=PySem.F.sub_tuple_frozenset;have f3:(ut "tuple" == ut "dict")=yi:=by decide
 have sz:vs.toArray.size=ks.length:=by rw[yt,hv,yd]
 unfold Builtin.«set.__init__» noKeywords Builtin.Frozenset.updateFrom;generalize hPI:pyIter=PI
 wp_walk
 subst hPI;refine wpAny_pyIter_tuple hl (yb (ycp ?_));have h3:A.in1.in1.handled=yk:=hh;have n1:l≠s.heap.objs.size:=qg (by rw[hz];exact vc hlS)
 have n2:S∉[s.heap.objs.size,l]:=by
  intro z;rcases yn.mp z with z | z
  ·rw[hz]at z;exact absurd z (qg (ydf _))
  ·exact absurd (qd.mp z) (uu hlS)
 have hlt:∀q∈ks,q.2∉[S,s.heap.objs.size]:=λq hq z=>by
  have k0:=hk q hq;rcases yn.mp z with z | z
  ·exact TK.ne k0 hS rfl z
  ·have z:=qd.mp z
   obtain⟨o,_,_,e,_⟩:=k0;exact absurd z (qg (yx e))
 refine zly ((Walks.tuple h3 _ l n1 vs.toArray).toS) S n2 hu ks (by rw[sz]) (by rw[sz];exact h64) (λi v hv'=>?_) hlt _ 0 _ rfl (wm _)
  ⟨⟨_,y4 _ rfl,rfl,rfl⟩,hl.push _⟩ (λq hq=>TK.keep (hk q hq) λo e=>yp _ e) (zq3 (yp _ hS)) λs' hm hS'=>?_
 ·have hv':vs[i]? = ya v:=by simpa using hv'
  rw[hv,yy]at hv';cases e:ks[i]? with
  | none=>rw[e]at hv';cases hv'
  | some q=>rw[e]at hv';exact⟨q,rfl,(qh hv').symm⟩
 obtain⟨h',g',d',tk',os'⟩:=s';obtain rfl:g'=s.gens:=hm.gens;obtain rfl:d'=s.drawn:=hm.drawn;obtain rfl:os'=s.os:=hm.os;show y9 _ _ _ _ _ _;refine yj ?_;show y9 _ _ (ret Value.none) _ _ _;refine yj ⟨rfl,h',tk',rfl,hS',λb o hb e=>hm.heap b o (λz=>?_) (yp _ e)⟩;rcases yn.mp z with z | z
 ·exact absurd z (qg hb)
 ·have:=qd.mp z
  rw[hz]at this;exact absurd this (qg (vc hb))
theorem zhf{l:yq}{vs:List yh}{ks:List (List Int×yq)}{Q:yh->ym->Prop}(hu:A.units+3<ju)(hh:A.handled=yk)(hl:s.heap.IsTuple l vs.toArray)(hv:vs=ks.map λq=>yw q.2)(hk:∀q∈ks,TK prog w s.heap q.1 q.2)(h64:ks.length<64)
  (h:∀(h':Heap) (tk:Nat),TSet prog w h' s.heap.objs.size (nubK ks)->(∀b o,s.heap.get? b=ya o->h'.get? b=ya o)->Q (.ref s.heap.objs.size) { s with heap:=h',toks:=tk}) :
  y9 (model prog w) A (call (.type "set") [.ref l]) Q E s:=by
 refine zh0 (Q₁:=λobj s₁=>obj=.ref s.heap.objs.size/\s₁={ s with heap:=s.heap.push (newT w)}) yef (PySem.F.typeCall_set_1 _) (zoc _ ⟨rfl,rfl⟩) ?_;rintro _ _ ⟨rfl,rfl⟩;have hS:(s.heap.push (newT w)).get? s.heap.objs.size=ya (newT w):=y4 _ rfl;refine⟨⟨_,hS,rfl⟩,codeAny_call_builtin yef.init.plain PySem.F.entry_set_init (check_set_init_1 ⟨_,hS,rfl⟩ ?_)⟩;have hlt:l<s.heap.objs.size:=by obtain⟨o,e,_⟩:=hl;exact yx e
 refine jd (zle (A:=A.in1) (s:={ s with heap:=s.heap.push (newT w)}) hu hh hS (ye4 ..) (hl.push _) hlt hv (λq hq=>TK.keep (hk q hq) λo e=>yp _ e) h64) (λfin s' ⟨e,h',tk,e2,hS',hk'⟩=>?_) λ_ _ x=>x
 subst e e2;exact⟨rfl,h h' tk hS' λb o e=>hk' b o (yx e) (yp _ e)⟩
end
end HT
namespace L2
open PySem PySem.W PySem.Spec PyProof.Rows
section
variable {X:Cx}
theorem zoa(hu:X.A.units+3<ju)(hc:X.calm=yl):CallR X (.type "set") (λxs H Q=>∃(p:yq) (ks:List (List Int×yq)),xs=[.ref p]/\SqT X.K H p (ks.map λq=>V.ref q.2)/\(∀q∈ks,SqT X.K H q.2 (q.1.map V.int))/\ks.length<64/\∀l oc,H l=yk->SetV X.w X.prog oc (HT.nubK ks)->Q (.ref l) (upd H l (.frz oc (.own 0)))):=by
 intro pins s σ H xs us Q I r h;obtain⟨p,ks,rfl,hq,hk,h64,q⟩:=h;obtain⟨u,rfl,ru⟩:=vals1 r;cases ru;obtain⟨its,rv,pl,hz⟩:=I.tuple hq
 have ev:its=ks.map λq=>yw q.2:=by
  have:∀(ks:List (List Int×yq)) (its:List yh),Vals (ks.map λq=>V.ref q.2) its->its=ks.map λq=>yw q.2:=λks=>by
   induction ks with
   | nil=>intro its h;cases h;rfl
   | cons q ks ih =>
    intro its h;cases h with
    | cons h1 h2=>cases h1;rw[yo,← ih _ h2]
  exact this ks its rv
 refine HT.zhf hu (I.ok.hd hc) pl ev (λq hq=>zw9 I (hk q hq)) h64 λh' tk hT hkeep=>?_
 refine zKK λγ κ=>?_;obtain⟨es,ep,t,a1,a2,a3,a4,a5,a6,a7,a8⟩:=hT;refine κ ?_;exact⟨.ref s.heap.objs.size,_,I.laid (o:=.frz _ (.own 0)) (t':=tk) hkeep (y6 _) ⟨a1,_,a1⟩,rfl,q _ _ I.fresh ⟨es,ep,t,rfl,a2,a3,HT.zia a4 a5,a4.ris,a6⟩⟩
end
end L2
namespace HT
open PySem PyProof.Rows
end HT
namespace L2
open PySem PySem.Spec PyProof.Rows
open PY (maxI)
end L2
namespace PY
open PySem
structure Cfg where
 fns:List Str
 cons:List (Str×Cn)
 tts:List (Str×List (List Int))
 bls:List Str
 here:Bool
noncomputable def lamNames:List Str :=
 []
noncomputable def idx(N:List Str)(x:Str):Option Nat:=N.findIdx? (· == x)
noncomputable def seen(sc:Scope)(x:Str):Bool:=match sc.names.lookup x with
 | some .local=>yl | some .cell=>yl | some .free=>yl | _=>yi
noncomputable def gl(sc:Scope)(x:Str):Bool:=match sc.names.lookup x with
 | some .globalImplicit=>yl | _=>yi
noncomputable def nice(x:Str):Bool:=!(x==("__debug__" : Str))&&!(x==("__classdict__" : Str))&&!(x==("__name__" : Str))
noncomputable def guard'{α:Type}(b:Bool)(o:Option α):Option α:=if b then o else yk
noncomputable def optE{α β:Type}(o:Option α)(f:α->Option β)(g:Option β):Option β:=match o with
 | some a=>f a
 | none=>g
theorem zcg{α β:Type}{o:Option α}{f:α->Option β}{g:Option β}{z:β}(h:optE o f g=ya z):(∃a,o=ya a/\f a=ya z)\/(o=yk/\g=ya z):=by
 cases o with
 | some a=>exact .inl ⟨a,rfl,h⟩
 | none=>exact .inr ⟨rfl,h⟩
theorem zco{β:Type}{b:Bool}{x y:Option β}{z:β}(h:(if b then x else y)=ya z):(b=yl/\x=ya z)\/(b=yi/\y=ya z):=by
 cases b with
 | true=>exact .inl ⟨rfl,h⟩
 | false=>exact .inr ⟨rfl,h⟩
noncomputable def cBop:Operator->Option Bop
 | .Add=>ya .add | .Sub=>ya .sub | .Mult=>ya .mul | .FloorDiv=>ya .fdiv | .Mod=>ya .mod | _=>yk
noncomputable def cCop:CmpOp->Cop
 | .Eq=>.eq | .NotEq=>.ne | .Lt=>.lt | .LtE=>.le | .Gt=>.gt | .GtE=>.ge | .Is=>.isC | .IsNot=>.notC | .In=>.isin | .NotIn=>.notin
noncomputable def cCon:Const->Option Cn
 | .none=>ya .non | .bool b=>ya (.bl b) | .int i=>ya (.int i) | .str x=>ya (.str x) | _=>yk
noncomputable def cTy(x:Str):Option Ty :=
 if x==("int" : Str)then ya .int else if x==("bool" : Str)then ya .bool else if x==("str" : Str)then ya .str
 else if x==("tuple" : Str)then ya .tuple else if x==("list" : Str)then ya .list else yk
noncomputable def cBi(x:Str):Option Bi :=
 if x==("len" : Str)then ya .len else
 if x==("all" : Str)then ya .all else
 if x==("tuple" : Str)then ya .tuple else
 if x==("list" : Str)then ya .list else
 if x==("sorted" : Str)then ya .sorted else
 if x==("any" : Str)then ya .any else
 if x==("sum" : Str)then ya .sum else
 yk
noncomputable def cB2(x:Str):Option B2:=if x==("min" : Str)then ya .min2 else if x==("max" : Str)then ya .max2 else yk
noncomputable def cInt:Const->Option Int
 | .int i=>ya i
 | _=>yk
noncomputable def nameOf:Expr->Option Str
 | .Name x _=>ya x
 | _=>yk
noncomputable def callOf:Expr->Option (Str×List Expr)
 | .Call f as [] _=>(nameOf f).map λx=>(x,as)
 | _=>yk
noncomputable def oneOf{α:Type}:List α->Option α
 | [a]=>ya a
 | _=>yk
noncomputable def twoOf{α:Type}:List α->Option (α×α)
 | [a,b]=>ya (a,b)
 | _=>yk
noncomputable def nest(x:Str)(e:Expr):Option (Str×Bi×Expr):=(callOf e).bind λ(y,as)=>(oneOf as).bind λa =>
  if x==("sorted" : Str)&&y==("set" : Str)then ya (y,.sortset,a)else
  if x==("tuple" : Str)&&y==("reversed" : Str)then ya (y,.revT,a)else
  yk
noncomputable def isPlainConst:Expr->Bool
 | .Constant .none _ _=>yl
 | .Constant (.bool _) _ _=>yl
 | _=>yi
noncomputable def opOk(op:CmpOp)(b:Expr):Bool:=match op with
 | .Is=>isPlainConst b
 | .IsNot=>isPlainConst b
 | _=>yl
noncomputable def unOf:UnaryOp->Option Bool
 | .Not=>ya yl
 | .USub=>ya yi
 | _=>yk
noncomputable def isAnd:BoolOp->Bool
 | .And=>yl
 | .Or=>yi
noncomputable def oneOne:List CmpOp->List Expr->Option (CmpOp×Expr)
 | [o],[b]=>ya (o,b)
 | _,_=>yk
noncomputable def sliceOf:Expr->Option (Option Expr×Option Expr)
 | .Slice lo hi yk _=>ya (lo,hi)
 | _=>yk
noncomputable def getOf:Expr->List Expr->Option (Expr×Str×Pos×Expr×Expr)
 | .Attribute o m apos,[k,d]=>ya (o,m,apos,k,d)
 | _,_=>yk
noncomputable def oneGen(l:List Comprehension):Option (Expr×Expr×List Expr):=(oneOf l).bind λg=>guard' (g.is_async==0) (ya (g.target,g.iter,g.ifs))
noncomputable def isSlice:Expr->Bool
 | .Slice ..=>yl
 | _=>yi
noncomputable def namesOf:List Expr->Option (List Str)
 | []=>ya []
 | .Name x _::r=>(namesOf r).map (x::·)
 | _=>yk
noncomputable def tgNames:Expr->Option (Bool×List Str)
 | .Name x _=>ya (yl,[x])
 | .Tuple es _ _=>(namesOf es).map λl=>(yi,l)
 | _=>yk
noncomputable def allIdx(N:List Str):List Str->Option (List Nat)
 | []=>ya []
 | x::r=>(idx N x).bind λi=>(allIdx N r).map (i::·)
noncomputable def frees(sc:Scope):List Str:=(sc.names.filter λp=>p.2 == .free).map (·.1)
noncomputable def capt(sc:Scope)(x:Str):Bool:=sc.names.lookup x==ya .cell||sc.names.lookup x==ya .free
noncomputable def isLocal(sc:Scope)(x:Str):Bool:=sc.names.lookup x==ya .local
noncomputable def xOk:Expr->Option E->Option E
 | .BoolOp _ _ _,ya (.call _ _)=>yk
 | _,o=>o
noncomputable def enumOk:I->Expr->Bool
 | .enum _,.Tuple ..=>yl
 | .enum _,_=>yi
 | .zip _ _,.Tuple ..=>yl
 | .zip _ _,_=>yi
 | _,_=>yl
noncomputable def tgOf(one:Bool)(is:List Nat):Option Tg:=if one then(match is with | [i]=>ya (.one i) | _=>yk)else ya (.many is)
noncomputable def plainBase:Expr->Bool
 | .Call ..=>yi
 | _=>yl
noncomputable def tabOf(cf:Cfg)(sc:Scope)(o:CmpOp)(b:Expr):Option (Str×List (List Int)):=match o with
 | .NotIn=>(nameOf b).bind λx=>guard' (nice x&&gl sc x) ((cf.tts.lookup x).map λl=>(x,l))
 | _=>yk
section
variable (cf:Cfg)
noncomputable def blk(sc:Scope)(x:Str):Bool:=gl sc x&&nice x&&cf.bls.contains x
mutual
noncomputable def cE:Nat->Scope->List Str->Expr->Option E
  | 0,_,_,_=>yk
  | n+1,sc,N,e=>match e with
    | .Constant c _ _=>(cCon c).map .con
    | .Name x _=>guard' (nice x) (if seen sc x then(idx N x).map .var else guard' (gl sc x) ((cf.cons.lookup x).map (.glob x)))
    | .BinOp a o b _=>(cBop o).bind λo=>(cE n sc N a).bind λa=>(cE n sc N b).map (.bin o a)
    | .UnaryOp o a _=>(unOf o).bind λk=>(cE n sc N a).map λa=>if k then .not a else .neg a
    | .BoolOp o vs _=>if isAnd o then cAnd n sc N vs else cOr n sc N vs
    | .Compare a os bs _=>(oneOne os bs).bind λ(o,b)=>optE (tabOf cf sc o b) (λ(x,l)=>(cE n sc N a).map λa=>.ttn a x l)
      (guard' (opOk o b&&!behindInMarks o b) ((cE n sc N a).bind λa=>(cE n sc N b).map (.cmp (cCop o) a)))
    | .Tuple es _ _=>(cEs n sc N es).map .tup
    | .List es _=>(cEs n sc N es).map .lst
    | .Dict ks vs _=>guard' (ks.isEmpty&&vs.isEmpty) (ya .dic0)
    | .Subscript a i _=>optE (sliceOf i) (λ(lo,hi)=>(cE n sc N a).bind λa=>(cEo n sc N lo).bind λlo=>(cEo n sc N hi).map (.sl a lo))
      (guard' (!isSlice i) ((cE n sc N a).bind λa=>(cE n sc N i).map (.ix a)))
    | .Call fn args kws cpos=>guard' kws.isEmpty (match nameOf fn with
      | some x => guard' (gl sc x && nice x) (match idx cf.fns x with
          | some f =>
            match args with
            | []=>yk
            | _::_=>(cEs n sc N args).map (.call f)
          | none => guard' (cf.bls.contains x) (optE (twoOf args) (fun (a, b) => if x == ("isinstance" : Str) then (nameOf b).bind fun t => guard' (blk cf sc t) ((cTy t).bind fun t => (cE n sc N a).map fun a => .isi a t) else
                (cB2 x).bind λo=>(cE n sc N a).bind λa=>(cE n sc N b).map (.bi2 o a))
            ((oneOf args).bind fun a => optE (nest x a) (fun (y, b, a') => guard' (blk cf sc y) ((cE n sc N a').map (.bi b)))
                ((cBi x).bind λb=>(cE n sc N a).map (.bi b)))))
      | none=>(getOf fn args).bind λ(o,m,apos,k,d)=>guard' (m==("get" : Str)&&apos.endLine==cpos.line&&plainBase o) ((cE n sc N o).bind λo=>(cE n sc N k).bind λk=>(cE n sc N d).map (.dget o k)))
    | .ListComp elt gens scope _ => (oneGen gens).bind fun (tg, it, ifs) =>
        (tgNames tg).bind λ(one,T)=>(allIdx N (frees scope)).bind λkeep=>(cI n sc N it).bind λi =>
          guard' (enumOk i tg&&decide (T++frees scope).Nodup&&T.all (isLocal scope)&&decide (scope.kind=.function)&&scope.names.all (λp=>p.2 != .cell)&&scope.names.all (λp=>scope.names.lookup p.1==ya p.2)&&(frees scope).all (capt sc))
            ((tgOf one (q5 T.length)).bind λt=>(match ifs with | []=>ya Eo.no | [c]=>(cE n scope (T++frees scope) c).map Eo.so | _=>yk).bind λc =>
              (cE n scope (T++frees scope) elt).map λe=>.comp e t i c T.length keep)
    | _=>yk
noncomputable def cAnd:Nat->Scope->List Str->List Expr->Option E
 | 0,_,_,_=>yk
 | n+1,sc,N,es=>match es with
  | [a]=>cE n sc N a
  | a::b::r=>(cE n sc N a).bind λx=>(cAnd n sc N (b::r)).map (.and x)
  | []=>yk
noncomputable def cOr:Nat->Scope->List Str->List Expr->Option E
 | 0,_,_,_=>yk
 | n+1,sc,N,es=>match es with
  | [a]=>cE n sc N a
  | a::b::r=>(cE n sc N a).bind λx=>(cOr n sc N (b::r)).map (.or x)
  | []=>yk
noncomputable def cEs:Nat->Scope->List Str->List Expr->Option Es
 | 0,_,_,_=>yk
 | n+1,sc,N,es=>match es with
  | []=>ya .nil
  | e::r=>(cE n sc N e).bind λx=>(cEs n sc N r).map (.cons x)
noncomputable def cEo:Nat->Scope->List Str->Option Expr->Option Eo
 | 0,_,_,_=>yk
 | n+1,sc,N,o=>match o with
  | none=>ya .no
  | some e=>(cE n sc N e).map .so
noncomputable def cI:Nat->Scope->List Str->Expr->Option I
  | 0,_,_,_=>yk
  | n + 1, sc, N, e => optE (callOf e) (fun (x, args) =>
        if blk cf sc x&&x==("range" : Str)then(oneOf args).bind λa=>(cE n sc N a).map .rng1
        else if blk cf sc x&&x==("enumerate" : Str)then(oneOf args).bind λa=>(cE n sc N a).map .enum
        else if blk cf sc x&&x==("zip" : Str)then(twoOf args).bind λ(a,b)=>(cE n sc N a).bind λa=>(cE n sc N b).map (.zip a)
        else(cE n sc N e).map .seq) ((cE n sc N e).map .seq)
end
noncomputable def isComp:Expr->Bool
 | .ListComp ..=>yl
 | .SetComp ..=>yl
 | .DictComp ..=>yl
 | _=>yi
noncomputable def isTupE:Expr->Bool
 | .Tuple ..=>yl
 | .List ..=>yl
 | _=>yi
noncomputable def methOf:Expr->Option (Str×Str×List Expr×Bool)
 | .Call (.Attribute o m apos) as [] cpos=>(nameOf o).map λx=>(x,m,as,apos.endLine==cpos.line)
 | _=>yk
noncomputable def popOf(e:Expr):Option (Str×Option Expr):=(methOf e).bind λ(x,m,as,g)=>guard' (m==("pop" : Str)&&g) (match as with
 | []=>ya (x,yk)
 | [k]=>ya (x,ya k)
 | _=>yk)
noncomputable def putOf:Expr->Option (Str×Expr)
 | .Subscript a k _=>if isSlice k then yk else(nameOf a).map λx=>(x,k)
 | _=>yk
noncomputable def isLC:Expr->Bool
 | .ListComp ..=>yl
 | _=>yi
noncomputable def intOf:Expr->Option Int
 | .Constant c _ _=>cInt c
 | _=>yk
noncomputable def askOf:Expr->Option (Str×Str×Int)
 | .Compare a os bs _=>(oneOne os bs).bind λ(o,b)=>guard' (cCop o == .eq) ((putOf a).bind λ(d,k)=>(nameOf k).bind λy=>(intOf b).map λc=>(d,y,c))
 | _=>yk
noncomputable def dselOf(sc:Scope)(N:List Str):Expr->Option (Nat×Int)
 | .ListComp elt gens scope _=>(oneGen gens).bind λ(tg,it,ifs)=>(oneOf ifs).bind λc=>(nameOf elt).bind λy=>(nameOf tg).bind λy1=>(nameOf it).bind λd=>(askOf c).bind λ(d1,y2,c) =>
   guard' (y1==y&&y2==y&&d1==d&&y != d&&nice y&&nice d&&seen sc d&&capt sc d&&isLocal scope y&&decide (frees scope=[d])&&decide (scope.kind=.function)&&scope.names.all (λp=>p.2 != .cell)&&scope.names.all (λp=>scope.names.lookup p.1==ya p.2)) ((idx N d).map λi=>(i,c))
 | _=>yk
noncomputable def frzO(o:Option (List Nat))(s:S):S:=match o with
 | some is=>.frz is s
 | none=>s
noncomputable def varI:E->Option (List Nat)
 | .var i=>ya [i]
 | _=>yk
noncomputable def isI:I->Option (List Nat)
 | .seq e=>varI e
 | .enum e=>varI e
 | _=>yk
noncomputable def frzI(i:I)(s:S):S:=frzO (isI i) s
noncomputable def varsE:Es->List Nat
 | .cons (.var i) r=>i::varsE r
 | .cons _ r=>varsE r
 | .nil=>[]
noncomputable def isA:E->Option (List Nat)
 | .call _ as=>ya (varsE as)
 | .var i=>ya [i]
 | _=>yk
noncomputable def frzA(e:E)(s:S):S:=frzO (isA e) s
noncomputable def varsR:Es->List Nat
 | .cons (.var i) r=>i::varsR r
 | .cons _ r=>varsR r
 | .nil=>[]
noncomputable def isR1:E->Option (List Nat)
 | .call _ as=>ya (varsR as)
 | _=>yk
noncomputable def isR:E->Option (List Nat)
 | .tup as=>ya (varsR as)
 | .cmp _ _ b=>isR1 b
 | _=>yk
noncomputable def frzR(e:E)(s:S):S:=frzO (isR e) s
noncomputable def retOk:Expr->E->Bool
 | .Name ..,_=>yl
 | _,.var _=>yi
 | _,_=>yl
inductive SK where
 | asg (tg v:Expr) | ret (e:Expr) | cond (c:Expr) (a b:List Stmt) | brk | cnt | skip | loop (tg it:Expr) (b:List Stmt) | whl (c:Expr) (b:List Stmt) | exp (e:Expr)
 | tri (b:List Stmt) (hs:List ExceptHandler) | rse (o:Option Expr) | other
noncomputable def sk:Stmt->SK
 | .Assign [tg] v _=>.asg tg v
 | .Return (ya e) _=>.ret e
 | .If c a b _=>.cond c a b
 | .Break _=>.brk
 | .Continue _=>.cnt
 | .Pass _=>.skip
 | .For tg it b [] _=>.loop tg it b
 | .While c b [] _=>.whl c b
 | .Expr e _=>.exp e
 | .Try b hs [] [] _=>.tri b hs
 | .Raise o yk _=>.rse o
 | _=>.other
mutual
noncomputable def cS:Nat->Scope->List Str->Stmt->Option S
 | 0,_,_,_=>yk
 | n+1,sc,N,st=>match sk st with
  | .asg tg v =>
   match popOf v with
   | some (x,k)=>guard' (nice x&&seen sc x) ((tgNames tg).bind λ(one,T)=>guard' (T.all (λx=>seen sc x&&!(sc.names.lookup x==ya .free)))
     ((allIdx N T).bind λis=>(tgOf one is).bind λt=>(idx N x).bind λi=>match k with
      | some k=>(cE cf n sc N k).map (.pop t i)
      | none=>ya (.pop t i (.con (.int (-1))))))
   | none =>
   match putOf tg with
    | some (x,k) =>
     guard' (nice x&&seen sc x&&!isComp v) ((idx N x).bind λi=>(cE cf n sc N k).bind λk=>(cE cf n sc N v).map λv=>.dput i k v)
    | none =>
    if isLC v then(match tg with
     | .Name y _=>guard' (seen sc y&&!(sc.names.lookup y==ya .free)) ((idx N y).bind λi=>match dselOf sc N v with
      | some (j,c)=>ya (.asg (.one i) (.dsel j c))
      | none=>(cE cf n sc N v).map (.asg (.one i)))
     | _=>yk)
    else guard' (!isComp v) ((tgNames tg).bind λ(one,T)=>guard' (T.all (λx=>seen sc x&&!(sc.names.lookup x==ya .free))&&(one||!isTupE v))
     ((allIdx N T).bind λis=>(tgOf one is).bind λt=>(xOk v (cE cf n sc N v)).map
      λe=>frzA e (.asg t e)))
  | .ret e=>(cE cf n sc N e).bind λe'=>guard' (retOk e e') (ya (frzR e' (.ret e')))
  | .cond c a b=>(cE cf n sc N c).bind λc=>(cSs n sc N a).bind λa=>(cSs n sc N b).map (.cond c a)
  | .brk=>ya .brk
  | .cnt=>ya .cnt
  | .skip=>ya .skip
  | .loop tg it b=>(tgNames tg).bind λ(one,T)=>guard' (T.all (λx=>seen sc x&&!(sc.names.lookup x==ya .free)))
    ((allIdx N T).bind λis=>(tgOf one is).bind λt=>(cI cf n sc N it).bind λi=>guard' (enumOk i tg) ((cSs n sc N b).map λb=>frzI i (.loop t i b)))
  | .whl c b =>
   (cE cf n sc N c).bind λc=>(cSs n sc N b).map (.while c)
  | .exp e=>match methOf e with
   | some (x,m,as,g)=>(match as with
    | [e]=>if m==("extend" : Str)then guard' (nice x&&seen sc x&&g) ((idx N x).bind λi=>(cE cf n sc N e).map (.ext i))else
     guard' (nice x&&seen sc x&&m==("append" : Str)&&g) ((idx N x).bind λi=>(cE cf n sc N e).map (.app i))
    | [k,e]=>guard' (nice x&&seen sc x&&m==("insert" : Str)&&g) ((idx N x).bind λi=>(cE cf n sc N k).bind λk=>(cE cf n sc N e).map (.ins i k))
    | _=>yk)
   | none =>
    yk
  | .tri b hs =>
   yk
  | .rse o =>
    ya .never
  | .other=>yk
noncomputable def cSs:Nat->Scope->List Str->List Stmt->Option Ss
 | 0,_,_,_=>yk
 | n+1,sc,N,sts=>match sts with
  | []=>ya .nil
  | s::r=>(cS n sc N s).bind λx=>(cSs n sc N r).map (.cons x)
end
end
noncomputable def argNames(a:Arguments):List Str:=a.args.map (·.arg)
noncomputable def locals(sc:Scope):List Str:=(sc.names.filter λp=>p.2 == .local||p.2 == .cell).map (·.1)
noncomputable def frameNames(ps:List Str)(sc:Scope):List Str:=ps++(locals sc).filter λx=>!ps.contains x
noncomputable def plainArgs(a:Arguments):Bool:=a.posonlyargs.isEmpty&&a.vararg.isNone&&a.kwonlyargs.isEmpty&&a.kwarg.isNone&&a.defaults.isEmpty
noncomputable def fnOk(ps N:List Str)(sc:Scope):Bool:=decide (sc.kind=.function)&&!sc.isCoroutine&&!sc.isGenerator&&decide N.Nodup&&decide (N.take ps.length=ps)
 && ps.all (λx=>sc.names.lookup x==ya .local||sc.names.lookup x==ya .cell)&&sc.names.all (λp=>p.2 != .free)
noncomputable def ioB:Ss->Bool
 | .cons .io _=>yl
 | _=>yi
noncomputable def hereOf(cf:Cfg)(nm:Str):Cfg :=
 { cf with here:=lamNames.contains nm}
noncomputable def cFn(cf:Cfg):Stmt->Option Fn
 | .FunctionDef nm as body p1 p2 p3 sc p4 p5 p6=>guard' (plainArgs as&&fnOk (argNames as) (frameNames (argNames as) sc) sc) ((cSs (hereOf cf nm) 60 sc (frameNames (argNames as) sc) body).bind λb=>guard' (!ioB b) (ya ⟨(argNames as).length,(frameNames (argNames as) sc).length,
   b⟩))
 | _=>yk
noncomputable def defName:Stmt->Option Str
 | .FunctionDef n ..=>ya n
 | _=>yk
noncomputable def topDefs(p:qw):List Stmt:=p.main.body.filter λs=>(defName s).isSome
noncomputable def topCons:List Stmt->List (Str×Cn)
 | []=>[]
 | .Assign [.Name x _] (.Constant c _ _) _::r=>if x==("__name__" : Str)then topCons r else(match cCon c with | some d=>(x,d)::topCons r | none=>topCons r)
 | _::r=>topCons r
noncomputable def mapO{α β:Type}(f:α->Option β):List α->Option (List β)
 | []=>ya []
 | x::r=>(f x).bind λy=>(mapO f r).map (y::·)
noncomputable def rowOf:Expr->Option (List Int)
 | .Tuple es _ _=>mapO intOf es
 | _=>yk
noncomputable def topTabs:List Stmt->List (Str×List (List Int))
 | []=>[]
 | .Assign [.Name x _] (.Tuple es _ _) _::r=>if x==("__name__" : Str)then topTabs r else(match mapO rowOf es with | some l=>(x,l)::topTabs r | none=>topTabs r)
 | _::r=>topTabs r
noncomputable def bnames:List Str:=["isinstance", "int", "bool", "str", "tuple", "list", "len", "all", "any", "sorted", "range", "enumerate", "min", "max", "set", "reversed", "sum", "ValueError", "zip"]
noncomputable def cfgOf(p:qw):Cfg:=⟨(topDefs p).filterMap defName,topCons p.main.body,topTabs p.main.body,bnames
 ,yi
 ⟩
noncomputable def dead:Fn:=⟨0,0,.cons .never .nil⟩
noncomputable def compile(p:qw):Option (List Fn):=ya ((topDefs p).map λs=>(cFn (cfgOf p) s).getD dead)
end PY
namespace SD
open PySem PySem.Spec PyProof.Rows L2 PY
abbrev St:=L2.St
abbrev Fz:=yq->Prop
def FT(K:Frag)(F:Fz)(H:Hp)(a:yq)(xs:List V):Prop:=H a=ya (.tup xs)
def FL(K:Frag)(F:Fz)(H:Hp)(a:yq)(xs:List V):Prop:=(F a/\Rd H a (.lst xs))\/∀H',SqL K H' a xs
def DH(H:Hp)(a:yq)(ks:List D)(us:List V):Prop :=
 ∃ns:List Int,ks=ns.map .int/\ns.Nodup/\us.length=ns.length/\H a=ya (.dK ((ns.map jy).zip us))
def NT:HO->Prop
 | .tbl _=>False
 | _=>True
def Chg:HO->Prop
 | .lst _=>True
 | .dK _=>True
 | .dT _=>True
 | _=>False
def TabsOk(H:Hp):Prop:=∀P ps,H P=ya (.tbl ps)->TriplesOk ps.toList/\∀pos cv,codeAmong pos ps.toList=ya cv->∃c oc vs q t,cv=.ref c/\H c=ya (.frz oc (.own 0))/\oc.data=.fields vs/\vs[1]? = ya (.str q t)
def TabR(H H':Hp):Prop:=(∀a ps,H a=ya (.tbl ps)->∃ps',H' a=ya (.tbl ps'))/\(TabsOk H->TabsOk H')
def Tabs(K:Frag)(H:Hp):Prop:=TabsOk H/\∀x∈lamNames,∀c P,yat K x=ya (c,P)->∃ps,H P=ya (.tbl ps)
theorem TabR.refl(H:Hp):TabR H H:=⟨λ_ ps e=>⟨ps,e⟩,id⟩
theorem TabR.trans{H H' H'':Hp}(a:TabR H H')(b:TabR H' H''):TabR H H'':=⟨λx ps e=>let⟨_,e1⟩:=a.1 x ps e;b.1 x _ e1,λz=>b.2 (a.2 z)⟩
theorem TabR.upd{H:Hp}{p:yq}{o:HO}(h:∀u,H p=ya u->Chg u)(n:NT o):TabR H (L2.upd H p o):=by
 have ne:∀a u,H a=ya u->¬Chg u->a≠p:=λa u e nm z=>nm (h u (by rw[← z];exact e))
 refine⟨λa ps e=>⟨ps,by rw[zh (ne a _ e id)];exact e⟩,λz P ps e=>?_⟩;by_cases hp:P=p
 ·rw[hp,zj]at e;cases e;exact n.elim
 ·rw[zh hp]at e
  obtain⟨h1,h2⟩:=z P ps e;refine⟨h1,λpos cv hc=>?_⟩;refine zKK λγ κ=>?_;obtain⟨c,oc,vs,q,t,g1,g2,g3⟩:=h2 pos cv hc;refine κ ?_;exact⟨c,oc,vs,q,t,g1,by rw[zh (ne c _ g2 id)];exact g2,g3⟩
theorem Tabs.step{K:Frag}{H H':Hp}(t:Tabs K H)(r:TabR H H'):Tabs K H':=⟨r.2 t.1,λx hx c P e=>let⟨ps,e1⟩:=t.2 x hx c P e;r.1 P ps e1⟩
mutual
def Rep(K:Frag)(F:Fz)(H:Hp):D->V->Prop
 | .non,v=>v=.non
 | .bl b,v=>v=.bl b
 | .int i,v=>v=.int i
 | .str x,v=>v=.str x
 | .tup l,v=>∃a xs,v=.ref a/\FT K F H a xs/\Reps K F H l xs
 | .lst l,v=>∃a xs,v=.ref a/\FL K F H a xs/\Reps K F H l xs
 | .dic ks vs,v=>∃a us,v=.ref a/\F a/\DH H a ks us/\Reps K F H vs us
def Reps(K:Frag)(F:Fz)(H:Hp):List D->List V->Prop
 | [],vs=>vs=[]
 | d::ds,vs=>∃v r,vs=v::r/\Rep K F H d v/\Reps K F H ds r
end
section
variable {K:Frag} {F F' F'':Fz} {H H' H'':Hp}
theorem FT.seq{a:yq}{xs:List V}(h:FT K F H a xs):SqT K H a xs:=.inl (.inl h)
theorem FL.seq{a:yq}{xs:List V}(h:FL K F H a xs):SqL K H a xs:=h.elim (λh=>.inl h.2) λh=>h H
def Keep(F:Fz)(H:Hp)(F':Fz)(H':Hp):Prop:=(∀a,F a->F' a)/\(∀a o,F a->NT o->H a=ya o->H' a=ya o)/\∀a xs,H a=ya (.tup xs)->H' a=ya (.tup xs)
theorem Rd.keep{a:yq}{u:HO}(h:Rd H a u)(k:∀o,NT o->H a=ya o->H' a=ya o)(n:NT u:=by exact x4):Rd H' a u:=h.elim (λe=>.inl (k _ n e)) λ⟨o,e⟩=>.inr ⟨o,k _ x4 e⟩
theorem FT.keep{a:yq}{xs:List V}(h:FT K F H a xs)(k:Keep F H F' H'):FT K F' H' a xs:=k.2.2 a xs h
theorem FL.keep{a:yq}{xs:List V}(h:FL K F H a xs)(k:Keep F H F' H'):FL K F' H' a xs:=h.elim (λh=>.inl ⟨k.1 a h.1,Rd.keep h.2 λo n e=>k.2.1 a o h.1 n e⟩) .inr
theorem DH.keep{a:yq}{ks:List D}{us:List V}(h:DH H a ks us)(k:∀o,NT o->H a=ya o->H' a=ya o):DH H' a ks us :=
 let⟨ns,h1,h2,h3,h4⟩:=h;⟨ns,h1,h2,h3,k _ x4 h4⟩
theorem DH.mut{a:yq}{ks:List D}{us:List V}(h:DH H a ks us):∀u,H a=ya u->Chg u:=λu e=>by
 obtain⟨_,_,_,_,h⟩:=h;rw[h]at e;cases e;exact x4
theorem DH.nt{a:yq}{ks:List D}{us:List V}{ob:HO}(h:DH (upd H a ob) a ks us):NT ob:=by
 obtain⟨_,_,_,_,h⟩:=h;rw[zj]at h;cases h;exact x4
theorem DH.ne{a:yq}{ks:List D}{us:List V}(h:DH H a ks us):H a≠yk:=by
 obtain⟨_,_,_,_,h⟩:=h;rw[h];simp
mutual
theorem Rep.keep(k:Keep F H F' H'):∀{d:D} {v:V},Rep K F H d v->Rep K F' H' d v
 | .non,_,h=>h
 | .bl _,_,h=>h
 | .int _,_,h=>h
 | .str _,_,h=>h
 | .tup l,v,h=>by
  rw[Rep]at h ⊢;obtain⟨a,xs,e,h1,h2⟩:=h;exact⟨a,xs,e,h1.keep k,Reps.keep k h2⟩
 | .lst l,v,h=>by
  rw[Rep]at h ⊢;obtain⟨a,xs,e,h1,h2⟩:=h;exact⟨a,xs,e,h1.keep k,Reps.keep k h2⟩
 | .dic ks vs,v,h=>by
  rw[Rep]at h ⊢;obtain⟨a,us,e,h0,h1,h2⟩:=h;exact⟨a,us,e,k.1 a h0,h1.keep λo n q=>k.2.1 a o h0 n q,Reps.keep k h2⟩
theorem Reps.keep(k:Keep F H F' H'):∀{ds:List D} {vs:List V},Reps K F H ds vs->Reps K F' H' ds vs
 | [],_,h=>h
 | d::ds,vs,h=>by
  rw[Reps]at h ⊢;obtain⟨v,r,e,h1,h2⟩:=h;exact⟨v,r,e,Rep.keep k h1,Reps.keep k h2⟩
end
theorem Reps.length:∀{ds:List D} {vs:List V},Reps K F H ds vs->ds.length=vs.length
 | [],vs,h=>by rw[Reps]at h;subst h;rfl
 | d::ds,vs,h=>by
  rw[Reps]at h;obtain⟨v,r,rfl,_,h2⟩:=h;rw[qf,qf,Reps.length h2]
theorem Reps.get:∀{ds:List D} {vs:List V} {i:Nat} {d:D},Reps K F H ds vs->ds[i]? = ya d->∃v,vs[i]? = ya v/\Rep K F H d v
 | [],_,_,_,_,e=>by simp at e
 | x::ds,vs,0,d,h,e=>by
  rw[Reps]at h;obtain⟨v,r,rfl,h1,_⟩:=h;simp at e;subst e;exact⟨v,rfl,h1⟩
 | x::ds,vs,i+1,d,h,e=>by
  rw[Reps]at h;obtain⟨v,r,rfl,_,h2⟩:=h;obtain⟨u,h3,h4⟩:=Reps.get (i:=i) h2 (by simpa using e);exact⟨u,by simpa using h3,h4⟩
theorem Reps.nil:Reps K F H [] []:=by rw[Reps]
theorem Reps.cons{d:D}{v:V}{ds:List D}{vs:List V}(h:Rep K F H d v)(t:Reps K F H ds vs):Reps K F H (d::ds) (v::vs):=by rw[Reps];exact⟨v,vs,rfl,h,t⟩
theorem Reps.append:∀{ds es:List D} {vs us:List V},Reps K F H ds vs->Reps K F H es us->Reps K F H (ds++es) (vs++us)
 | [],es,vs,us,h,t=>by rw[Reps]at h;subst h;exact t
 | d::ds,es,vs,us,h,t=>by
  rw[Reps]at h;obtain⟨v,r,rfl,h1,h2⟩:=h;exact .cons h1 (Reps.append h2 t)
theorem Reps.take:∀{ds:List D} {vs:List V} (n:Nat),Reps K F H ds vs->Reps K F H (ds.take n) (vs.take n)
 | _,_,0,_=>.nil
 | [],vs,n+1,h=>by rw[Reps]at h;subst h;exact .nil
 | d::ds,vs,n+1,h=>by
  rw[Reps]at h;obtain⟨v,r,rfl,h1,h2⟩:=h;exact .cons h1 (Reps.take n h2)
theorem Reps.drop:∀{ds:List D} {vs:List V} (n:Nat),Reps K F H ds vs->Reps K F H (ds.drop n) (vs.drop n)
 | _,_,0,h=>h
 | [],vs,n+1,h=>by rw[Reps]at h;subst h;exact .nil
 | d::ds,vs,n+1,h=>by
  rw[Reps]at h;obtain⟨v,r,rfl,h1,h2⟩:=h;exact Reps.drop n h2
theorem Reps.snoc{ds:List D}{vs:List V}{d:D}{v:V}(h:Reps K F H ds vs)(r:Rep K F H d v):Reps K F H (ds++[d]) (vs++[v]):=h.append (.cons r .nil)
structure Grow (F:Fz) (H:Hp) (F':Fz) (H':Hp):Prop where
 sub:∀a,F a->F' a
 same:∀a o,H a=ya o->(n:NT o:=by exact x4)->H' a=ya o
 tab:TabR H H'
 new:∀a,F' a->F a\/(H a=yk/\H' a≠yk)
theorem Grow.free(g:Grow F H F' H'){l:yq}(h:H' l=yk):H l=yk:=by
 cases e:H l with
 | none=>rfl
 | some o =>
  cases o <;> first | (rw[g.same l _ e]at h;cases h;done) | skip
  obtain⟨_,e1⟩:=g.tab.1 l _ e;rw[e1]at h;cases h
theorem Grow.refl(F:Fz)(H:Hp):Grow F H F H:=⟨λ_ h=>h,λ_ _ e _=>e,TabR.refl H,λ_ h=>.inl h⟩
theorem Grow.trans(a:Grow F H F' H')(b:Grow F' H' F'' H''):Grow F H F'' H'' :=
 ⟨λx h=>b.sub x (a.sub x h),λx o e n=>b.same x o (a.same x o e n) n,a.tab.trans b.tab,λx h=>(b.new x h).elim (λh=>(a.new x h).imp id λ⟨h1,h2⟩=>⟨h1,λz=>h2 (b.free z)⟩) λ⟨h1,h2⟩=>.inr ⟨a.free h1,h2⟩⟩
theorem Grow.keep(g:Grow F H F' H'):Keep F H F' H':=⟨g.sub,λa o _ n e=>g.same a o e n,λa xs e=>g.same a _ e⟩
theorem Rep.grow{d:D}{v:V}(h:Rep K F H d v)(g:Grow F H F' H'):Rep K F' H' d v:=h.keep g.keep
theorem Reps.grow{d:List D}{v:List V}(h:Reps K F H d v)(g:Grow F H F' H'):Reps K F' H' d v:=h.keep g.keep
structure GrowM (M:Fz) (F:Fz) (H:Hp) (F':Fz) (H':Hp):Prop where
 sub:∀a,F a->F' a
 same:∀a o,¬M a->H a=ya o->(n:NT o:=by exact x4)->H' a=ya o
 tab:TabR H H'
 tups:∀a xs,H a=ya (.tup xs)->H' a=ya (.tup xs)
 new:∀a,F' a->F a\/(H a=yk/\H' a≠yk)
 there:∀a,H a≠yk->H' a≠yk
def addF(F:Fz)(p:yq):Fz:=λa=>F a\/a=p
theorem Grow.laid{p:yq}{o:HO}(h:H p=yk)(n:NT o:=by exact x4):Grow F H (addF F p) (upd H p o) :=
 ⟨λa h=>.inl h,λb u q _=>by rw[zh (zg q h)];exact q,.upd (λu z=>by rw[h]at z;cases z) n,λa z=>z.elim .inl λe=>.inr (by rw[e];exact⟨h,by rw[zj];simp⟩)⟩
theorem Grow.loose{p:yq}{o:HO}(h:H p=yk)(n:NT o:=by exact x4):Grow F H F (upd H p o) :=
 ⟨λa h=>h,λb u q _=>by rw[zh (zg q h)];exact q,.upd (λu z=>by rw[h]at z;cases z) n,λa z=>.inl z⟩
theorem Grow.prot{p:yq}(g:Grow F H F' H')(h:H p=yk)(h':H' p≠yk):Grow F H (addF F' p) H' :=
 ⟨λa h=>.inl (g.sub a h),λa o e n=>g.same a o e n,g.tab,λa z=>z.elim (λz=>g.new a z) λe=>.inr (by rw[e];exact⟨h,h'⟩)⟩
theorem Keep.prot{p:yq}:Keep F H (addF F p) H:=⟨λ_ h=>.inl h,λ_ _ _ _ e=>e,λ_ _ e=>e⟩
def Cont(K:Frag)(F:Fz)(H:Hp)(a:yq):D->Prop
 | .lst l=>∃xs,H a=ya (.lst xs)/\Reps K F H l xs
 | .dic ks vs=>∃us,DH H a ks us/\Reps K F H vs us
 | _=>False
theorem Cont.ne{a:yq}{d:D}(h:Cont K F H a d):H a≠yk:=by
 cases d with
 | lst l=>obtain⟨xs,h,_⟩:=h;rw[h];simp
 | dic ks vs=>obtain⟨us,h,_⟩:=h;exact h.ne
 | _=>exact h.elim
theorem Cont.keep{a:yq}{d:D}(h:Cont K F H a d)(k:Keep F H F' H')(ka:∀o,NT o->H a=ya o->H' a=ya o):Cont K F' H' a d:=by
 cases d with
 | lst l=>obtain⟨xs,h,r⟩:=h;exact⟨xs,ka _ x4 h,r.keep k⟩
 | dic ks vs=>obtain⟨us,h,r⟩:=h;exact⟨us,h.keep ka,r.keep k⟩
 | _=>exact h.elim
def Loose(K:Frag)(F:Fz)(H:Hp)(d:D)(v:V)(a:yq):Prop:=v=.ref a/\¬F a/\Cont K F H a d
theorem Loose.lst{l:List D}{v:V}{a:yq}(h:Loose K F H (.lst l) v a):∃xs,v=.ref a/\H a=ya (.lst xs)/\¬F a/\Reps K F H l xs:=by
 refine zKK λγ κ=>?_;obtain⟨e,n,xs,h1,h2⟩:=h;refine κ ?_;exact⟨xs,e,h1,n,h2⟩
def Val(K:Frag)(F:Fz)(H:Hp)(d:D)(v:V)(H₀:Hp)(O:Fz):Fl->Prop
 | .solid=>Rep K F H d v
 | .fresh=>∃a,Loose K F H d v a/\H₀ a=yk
 | .peek=>∃a,Loose K F H d v a/\O a
def Now(K:Frag)(F:Fz)(H:Hp)(d:D)(v:V):Prop:=Rep K F H d v\/∃a,Loose K F H d v a
theorem Val.now{d:D}{v:V}{H₀:Hp}{O:Fz}{f:Fl}(h:Val K F H d v H₀ O f):Now K F H d v:=by
 cases f with
 | solid=>exact .inl h
 | fresh=>obtain⟨a,h,_⟩:=h;exact .inr ⟨a,h⟩
 | peek=>obtain⟨a,h,_⟩:=h;exact .inr ⟨a,h⟩
theorem Val.back{d:D}{v:V}{H₀ H₁:Hp}{O:Fz}{f:Fl}(h:Val K F H d v H₁ O f)(e:∀l,H₁ l=yk->H₀ l=yk):Val K F H d v H₀ O f:=by
 cases f with
 | solid=>exact h
 | fresh=>obtain⟨a,h,n⟩:=h;exact⟨a,h,e a n⟩
 | peek=>exact h
theorem Loose.grow{d:D}{v:V}{a:yq}(h:Loose K F H d v a)(g:Grow F H F' H'):Loose K F' H' d v a:=by
 obtain⟨e1,e2,e3⟩:=h;exact⟨e1,λz=>(g.new a z).elim e2 λ⟨n,_⟩=>e3.ne n,e3.keep g.keep λo n q=>g.same a o q n⟩
theorem Now.grow{d:D}{v:V}(h:Now K F H d v)(g:Grow F H F' H'):Now K F' H' d v:=h.elim (λh=>.inl (h.grow g)) λ⟨a,h⟩=>.inr ⟨a,h.grow g⟩
theorem Loose.prot{d:D}{v:V}{a:yq}(h:Loose K F H d v a):Rep K (addF F a) H d v:=by
 obtain⟨e1,e2,e3⟩:=h;cases d with
 | lst l =>
  obtain⟨xs,e3,e5⟩:=e3;rw[Rep];exact⟨a,xs,e1,.inl ⟨.inr rfl,.inl e3⟩,e5.keep Keep.prot⟩
 | dic ks vs =>
  obtain⟨us,e3,e5⟩:=e3;rw[Rep];exact⟨a,us,e1,.inr rfl,e3,e5.keep Keep.prot⟩
 | _=>exact e3.elim
theorem Val.firm{d:D}{v:V}{H₀:Hp}{F₀ O:Fz}{f:Fl}(h:Val K F H d v H₀ O f)(hf:f≠.peek)(g:Grow F₀ H₀ F H):∃F',Grow F₀ H₀ F' H/\Keep F H F' H/\Rep K F' H d v:=by
 cases f with
 | solid=>exact⟨F,g,⟨λ_ h=>h,λ_ _ _ _ e=>e,λ_ _ e=>e⟩,h⟩
 | fresh=>obtain⟨a,h,n⟩:=h;exact⟨addF F a,g.prot n h.2.2.ne,Keep.prot,h.prot⟩
 | peek=>exact absurd rfl hf
end
def ContL(K:Frag)(F:Fz)(H:Hp)(a:yq)(ks:List D)(ls:List (List D))(bs:List yq):Prop :=
 DH H a ks (bs.map .ref)/\bs.Nodup/\a∉bs/\bs.length=ls.length/\∀(j:Nat) (b:yq) (l:List D),bs[j]? = ya b->ls[j]? = ya l->¬F b/\∃xs,H b=ya (.lst xs)/\Reps K F H l xs
theorem ContL.there{K:Frag}{F:Fz}{H:Hp}{a:yq}{ks:List D}{ls:List (List D)}{bs:List yq}(h:ContL K F H a ks ls bs){b:yq}(hb:b∈bs):¬F b/\∃xs,H b=ya (.lst xs):=by
 obtain⟨j,hj,e⟩:=j9 hb;obtain⟨h1,xs,h2,_⟩:=h.2.2.2.2 j b (ls[j]'(by rw[← h.2.2.2.1];exact hj)) (by rw[← e];exact yc hj) (yc _);exact⟨h1,xs,h2⟩
theorem ContL.grow{K:Frag}{F F':Fz}{H H':Hp}{a:yq}{ks:List D}{ls:List (List D)}{bs:List yq}(h:ContL K F H a ks ls bs)(k:Keep F H F' H')(ka:∀c o,c=a\/c∈bs->NT o->H c=ya o->H' c=ya o)(kf:∀c,c∈bs->¬F c->¬F' c):ContL K F' H' a ks ls bs:=by
 refine⟨h.1.keep λo n q=>ka a o (.inl rfl) n q,h.2.1,h.2.2.1,h.2.2.2.1,λj b l h1 h2=>?_⟩;obtain⟨p1,xs,p2,p3⟩:=h.2.2.2.2 j b l h1 h2;have hb:b∈bs:=xk h1;exact⟨kf b hb p1,xs,ka b _ (.inr hb) x4 p2,p3.keep k⟩
def Sl.thing:Sl->Option D
 | .own l=>ya (.lst l)
 | .dk ks vs=>ya (.dic ks vs)
 | _=>yk
def mine(ρ:Rho)(i:Nat):Option D:=(ρ[i]?).bind Sl.thing
structure EnvR (K:Frag) (F:Fz) (H:Hp) (σ:St) (ρ:Rho):Prop where
 val:∀(i:Nat) d,ρ[i]? = ya (.val d)->∃v,σ[i]? = ya (ya v)/\Rep K F H d v
 own:∀(i:Nat) d,mine ρ i=ya d->∃a,σ[i]? = ya (ya (.ref a))/\¬F a/\Cont K F H a d
 dl:∀(i:Nat) t ks ls,ρ[i]? = ya (.dl t ks ls)->∃a bs,σ[i]? = ya (ya (.ref a))/\¬F a/\ContL K F H a ks ls bs
 len:σ.length=ρ.length
 dom:∀a,F a->H a≠yk
 tab:Tabs K H
def OwnA(σ:St)(ρ:Rho):Fz:=λa=>∃(i:Nat) (d:D),mine ρ i=ya d/\σ[i]? = ya (ya (.ref a))
theorem EnvR.grow{K:Frag}{F F':Fz}{H H':Hp}{σ:St}{ρ:Rho}(e:EnvR K F H σ ρ)(g:Grow F H F' H'):EnvR K F' H' σ ρ where
 val:=λi d h=>by obtain⟨v,h1,h2⟩:=e.val i d h;exact⟨v,h1,h2.grow g⟩
 own:=λi l h=>by
  obtain⟨a,h1,h3,h5⟩:=e.own i l h;exact⟨a,h1,λz=>(g.new a z).elim h3 λ⟨n,_⟩=>h5.ne n,h5.keep g.keep λo n q=>g.same a o q n⟩
 dl:=λi t ks ls h=>by
  obtain⟨a,bs,h1,h3,h5⟩:=e.dl i t ks ls h
  exact⟨a,bs,h1,λz=>(g.new a z).elim h3 λ⟨n,_⟩=>h5.1.ne n,h5.grow g.keep (λc o _ n q=>g.same c o q n) λc hc nc z=>(g.new c z).elim nc λ⟨n,_⟩=>by
   obtain⟨_,xs,hx⟩:=h5.there hc;rw[hx]at n;cases n⟩
 len:=e.len
 dom:=λa h=>(g.new a h).elim (λh=>by
  intro z;exact e.dom a h (g.free z)) λh=>h.2
 tab:=e.tab.step g.tab
abbrev Cl:=Nat->List D->Option D
inductive UE (K:Frag) (cl:Cl) (e:E) (σ:St) (H:Hp) (Q:VK):Prop
 | mk (ρ:Rho) (d:D) (f:Fl) (he:ev cl e ρ=ya (d,f)) (F:Fz) (env:EnvR K F H σ ρ) (q:∀v F' H',Grow F H F' H'->Val K F' H' d v H (OwnA σ ρ) f->Q v H'):UE K cl e σ H Q
def uE(K:Frag)(cl:Cl)(e:E):TE:=UE K cl e
inductive UT (K:Frag) (cl:Cl) (e:E) (σ:St) (H:Hp) (Q:Bool->Hp->Prop):Prop
 | mk (ρ:Rho) (k:Bool) (he:evT cl e ρ=ya k) (F:Fz) (env:EnvR K F H σ ρ) (q:∀F' H',Grow F H F' H'->Q k H'):UT K cl e σ H Q
def uT(K:Frag)(cl:Cl)(e:E):TT:=UT K cl e
inductive UA (K:Frag) (cl:Cl) (es:Es) (σ:St) (H:Hp) (Q:List V->Hp->Prop):Prop
 | mk (ρ:Rho) (ds:List D) (lent:Bool) (he:evs cl es ρ=ya (ds,lent)) (F:Fz) (env:EnvR K F H σ ρ) (q:∀vs F' H' P,Grow F H F' H'->(∀a,F' a->P a)->(lent=yi->P=F')->(∀a,P a->H' a≠yk)->Reps K P H' ds vs->Q vs H'):UA K cl es σ H Q
def uA(K:Frag)(cl:Cl)(es:Es):TA:=UA K cl es
def uO(K:Frag)(cl:Cl)(o:Eo):TO:=λσ H Q=>∃ρ v,evo cl o ρ=ya v/\∃F,EnvR K F H σ ρ/\∀F' H',Grow F H F' H'->Q v H'
inductive UC (K:Frag) (cl:Cl) (o:Eo) (σ:St) (H:Hp) (Q:Bool->Hp->Prop):Prop
 | mk (ρ:Rho) (k:Bool) (he:evc cl o ρ=ya k) (F:Fz) (env:EnvR K F H σ ρ) (q:∀F' H',Grow F H F' H'->Q k H'):UC K cl o σ H Q
def uC(K:Frag)(cl:Cl)(o:Eo):TT:=UC K cl o
def Iter(K:Frag)(F:Fz)(H:Hp)(J:It)(ds:List D)(P:Fz):Prop:=ds.length<=y8/\∀(i:Nat) F1 H1,(∀a,F a->F1 a)->(∀a o,F a\/P a->NT o->H a=ya o->H1 a=ya o)->(∀a xs,H a=ya (.tup xs)->H1 a=ya (.tup xs)) ->
 (∀d,ds[i]? = ya d->J.go i H1/\∀x H2,J.yld i H1 x H2->∃F2,Grow F1 H1 F2 H2/\Rep K F2 H2 d x)/\(ds.length<=i->J.stop i H1)
inductive UI (K:Frag) (cl:Cl) (it:I) (σ:St) (H:Hp) (R:It->Hp->Prop):Prop
 | mk (ρ:Rho) (ds:List D) (lent:Bool) (he:evi cl it ρ=ya (ds,lent)) (F:Fz) (env:EnvR K F H σ ρ) (q:∀J F' H' P,Grow F H F' H'->(lent=yi->∀a,P a->F' a)->Iter K F' H' J ds P->R J H'):UI K cl it σ H R
def uI(K:Frag)(cl:Cl)(it:I):TI:=UI K cl it
theorem PE.imp{X:Cx}{e:Expr}{t t':TE}(h:PE X e t)(i:∀σ H Q,t' σ H Q->t σ H Q):PE X e t':=λpins s σ H Q I q=>h pins s σ H Q I (i σ H Q q)
theorem PT.imp{X:Cx}{e:Expr}{t t':TT}(h:PT X e t)(i:∀σ H Q,t' σ H Q->t σ H Q):PT X e t':=λpins s σ H Q I q=>h pins s σ H Q I (i σ H Q q)
theorem PW.imp{X:Cx}{e:Expr}{t t':TT}(h:PW X e t)(i:∀σ H Q,t' σ H Q->t σ H Q):PW X e t':=λw pins s σ H Q I q=>h w pins s σ H Q I (i σ H Q q)
theorem PA.imp{X:Cx}{e:List Expr}{t t':TA}(h:PA X e t)(i:∀σ H Q,t' σ H Q->t σ H Q):PA X e t':=λpos pins s σ H Q I q=>h pos pins s σ H Q I (i σ H Q q)
theorem PO.imp{X:Cx}{e:Option Expr}{t t':TO}(h:PO X e t)(i:∀σ H Q,t' σ H Q->t σ H Q):PO X e t':=λpins s σ H Q I q=>h pins s σ H Q I (i σ H Q q)
theorem PI.imp{X:Cx}{tg e:Expr}{t t':TI}(h:PI X tg e t)(i:∀σ H R,t' σ H R->t σ H R):PI X tg e t':=λpins s σ H R I q=>h pins s σ H R I (i σ H R q)
theorem PTs.imp{X:Cx}{e:List Expr}{t t':TT}(h:PTs X e t)(i:∀σ H Q,t' σ H Q->t σ H Q):PTs X e t':=λpins s σ H Q I q=>h pins s σ H Q I (i σ H Q q)
theorem PG.imp{X:Cx}{e:Expr}{t t':TG}(h:PG X e t)(i:∀v σ H Q,t' v σ H Q->t v σ H Q):PG X e t':=λpins s σ H v u Q I r q=>h pins s σ H v u Q I r (i v σ H Q q)
theorem PS.imp{X:Cx}{e:Stmt}{t t':TS}(h:PS X e t)(i:∀D σ H,t' D σ H->t D σ H):PS X e t':=λpins s σ H D I q=>h pins s σ H D I (i D σ H q)
theorem PSs.imp{X:Cx}{e:List Stmt}{t t':TS}(h:PSs X e t)(i:∀D σ H,t' D σ H->t D σ H):PSs X e t':=λpins s σ H D I q=>h pins s σ H D I (i D σ H q)
theorem Now.tup{K:Frag}{F:Fz}{H:Hp}{l:List D}{v:V}(h:Now K F H (.tup l) v):∃a xs,v=.ref a/\FT K F H a xs/\Reps K F H l xs:=by
 rcases h with h | ⟨a,_,_,e⟩
 ·rw[Rep]at h;exact h
 ·exact e.elim
theorem Now.lst{K:Frag}{F:Fz}{H:Hp}{l:List D}{v:V}(h:Now K F H (.lst l) v):∃a xs,v=.ref a/\SqL K H a xs/\Reps K F H l xs/\(∀H':Hp,(∀o,NT o->H a=ya o->H' a=ya o)->SqL K H' a xs)/\(FL K F H a xs\/¬F a):=by
 rcases h with h | ⟨a,lo⟩
 ·rw[Rep]at h
  obtain⟨a,xs,e,h1,h2⟩:=h;refine⟨a,xs,e,h1.seq,h2,λH' k=>?_,.inl h1⟩;rcases h1 with h1 | h1
  ·exact .inl (Rd.keep h1.2 k)
  ·exact h1 H'
 ·obtain⟨xs,e2,e3,e4,e5⟩:=lo.lst
  exact⟨a,xs,e2,.of e3,e5,λH' k=>.of (k _ x4 e3),.inr e4⟩
theorem Now.dic{K:Frag}{F:Fz}{H:Hp}{ks vs:List D}{v:V}(h:Now K F H (.dic ks vs) v):∃a us,v=.ref a/\DH H a ks us/\Reps K F H vs us:=by
 rcases h with h | ⟨a,e,_,us,h1,h2⟩
 ·rw[Rep]at h
  obtain⟨a,us,e,_,h1,h2⟩:=h;exact⟨a,us,e,h1,h2⟩
 ·exact⟨a,us,e,h1,h2⟩
theorem Now.scal{K:Frag}{F:Fz}{H:Hp}{d:D}{v:V}(h:Now K F H d v)(hs:d.scal=yl):Rep K F H d v:=by
 rcases h with h | ⟨a,_,_,e⟩
 ·exact h
 ·cases d <;> first | exact e.elim | cases hs
theorem Now.int{K:Frag}{F:Fz}{H:Hp}{i:Int}{v:V}(h:Now K F H (.int i) v):v=.int i:=by have:=h.scal rfl;rw[Rep]at this;exact this
theorem Now.bl{K:Frag}{F:Fz}{H:Hp}{b:Bool}{v:V}(h:Now K F H (.bl b) v):v=.bl b:=by have:=h.scal rfl;rw[Rep]at this;exact this
theorem Now.non{K:Frag}{F:Fz}{H:Hp}{v:V}(h:Now K F H .non v):v=.non:=by have:=h.scal rfl;rw[Rep]at this;exact this
theorem Now.str{K:Frag}{F:Fz}{H:Hp}{x:Str}{v:V}(h:Now K F H (.str x) v):v=.str x:=by have:=h.scal rfl;rw[Rep]at this;exact this
theorem zv{K:Frag}{F:Fz}{H:Hp}{i:Int}:Rep K F H (.int i) (.int i):=by rw[Rep]
theorem zl2{K:Frag}{F:Fz}{H:Hp}{i:Bool}:Rep K F H (.bl i) (.bl i):=by rw[Rep]
theorem znh{K:Frag}{F:Fz}{H:Hp}:Rep K F H .non .non:=by rw[Rep]
theorem zl4{K:Frag}{F:Fz}{H:Hp}{i:Str}:Rep K F H (.str i) (.str i):=by rw[Rep]
theorem zer{K:Frag}{F:Fz}{H:Hp}{p:yq}{l:List D}{xs:List V}(h:H p=yk)(r:Reps K F H l xs):Rep K (addF F p) (upd H p (.tup xs)) (.tup l) (.ref p):=by
 rw[Rep];exact⟨p,xs,rfl,zj,r.grow (Grow.laid h)⟩
theorem zgv{K:Frag}{F:Fz}{H:Hp}{p:yq}{l:List D}{xs:List V}(h:H p=yk)(hF:∀a,F a->H a≠yk)(r:Reps K F H l xs):Loose K F (upd H p (.lst xs)) (.lst l) (.ref p) p :=
 ⟨rfl,λz=>hF p z h,xs,zj,r.grow (Grow.loose h)⟩
end SD
namespace SD
open PySem PySem.Spec PyProof.Rows L2 PY
theorem ze2{n:Nat}(h:n<=big):n<=y8:=xh h (by decide)
section
variable {X:Cx}
def Res(K:Frag)(F:Fz)(H:Hp)(d:D)(f:Fl)(Q:VK):Prop:=∀v F' H',Grow F H F' H'->Val K F' H' d v H (λ_=>False) f->Q v H'
theorem Val.wide{K:Frag}{F:Fz}{H H₀:Hp}{d:D}{v:V}{O O':Fz}{f:Fl}(h:Val K F H d v H₀ O f)(w:∀a,O a->O' a):Val K F H d v H₀ O' f:=by
 cases f with
 | solid=>exact h
 | fresh=>exact h
 | peek=>obtain⟨a,h,n⟩:=h;exact⟨a,h,w a n⟩
theorem Res.here{K:Frag}{F:Fz}{H:Hp}{d:D}{Q:VK}{v:V}(q:Res K F H d .solid Q)(h:Rep K F H d v):Q v H:=q v F H (Grow.refl F H) h
theorem Res.tup{K:Frag}{F:Fz}{H:Hp}{l:List D}{xs:List V}{Q:VK}(q:Res K F H (.tup l) .solid Q)(r:Reps K F H l xs):∀p,H p=yk->Q (.ref p) (upd H p (.tup xs)) :=
 λp hp=>q _ _ _ (Grow.laid hp) (zer hp r)
theorem Res.lst{K:Frag}{F:Fz}{H:Hp}{l:List D}{xs:List V}{Q:VK}(q:Res K F H (.lst l) .fresh Q)(dom:∀a,F a->H a≠yk)(r:Reps K F H l xs):∀p,H p=yk->Q (.ref p) (upd H p (.lst xs)) :=
 λp hp=>q _ _ _ (Grow.loose hp) ⟨p,zgv hp dom r,hp⟩
inductive RBin (K:Frag) (o:Bop) (x:V) (y:V) (H:Hp) (Q:VK):Prop
 | mk (F:Fz) (dx:D) (dy:D) (d:D) (f:Fl) (dom:∀a,F a->H a≠yk) (nx:Now K F H dx x) (ny:Now K F H dy y) (hb:binop o dx dy=ya (d,f)) (q:Res K F H d f Q):RBin K o x y H Q
def rBin(K:Frag)(o:Bop):R2:=RBin K o
def opOf:Bop->Operator
 | .add=>.Add | .sub=>.Sub | .mul=>.Mult | .fdiv=>.FloorDiv | .mod=>.Mod
theorem zk3{o:Bop}{dx dy:D}{d:D}{f:Fl}(h:binop o dx dy=ya (d,f))(ho:o≠.add):∃a b,dx=.int a/\dy=.int b:=by
 cases o <;> first | exact absurd rfl ho | (cases dx <;> first | (cases h;done) | (cases dy <;> first | exact⟨_,_,rfl,rfl⟩ | (cases h)))
theorem zwk:∀o:Bop,OpR X (yai (opOf o)) (rBin X.K o)
 | .sub=>by
  intro pins s σ H x y v u Q I rx ry ζ4;refine zKK λγ κ=>?_;obtain⟨F,dx,dy,d,f,dom,nx,ny,hb,q⟩:=ζ4;obtain⟨a,b,rfl,rfl⟩:=zk3 hb (by decide);cases hb;refine κ ?_;exact zv4 pins s σ H x y v u Q I rx ry ⟨a,b,nx.int,ny.int,q.here zv⟩
 | .mul=>by
  rintro pins s σ H x y v u Q I rx ry ⟨F,dx,dy,d,f,dom,nx,ny,hb,q⟩;obtain⟨a,b,rfl,rfl⟩:=zk3 hb (by decide)
  replace hb:(if(-1000000000000000000<a/\a<1000000000000000000)\/(-1000000000000000000<b/\b<1000000000000000000)then ya (D.int (a*b),Fl.solid)else yk)=ya (d,f):=hb
  split at hb
  ·rename_i hc
   cases hb;refine zt7 pins s σ H x y v u Q I rx ry ⟨a,b,nx.int,ny.int,?_,q.here zv⟩;rcases hc with hc | hc
   ·exact .inl ⟨by lia,by lia⟩
   ·exact .inr ⟨by lia,by lia⟩
  ·cases hb
 | .fdiv=>by
  rintro pins s σ H x y v u Q I rx ry ⟨F,dx,dy,d,f,dom,nx,ny,hb,q⟩;obtain⟨a,b,rfl,rfl⟩:=zk3 hb (by decide)
  replace hb:(if 0<b/\b<1073741824 then ya (D.int (a / b),Fl.solid)else yk)=ya (d,f):=hb
  split at hb
  ·rename_i hc
   cases hb;exact zsp pins s σ H x y v u Q I rx ry ⟨a,b,nx.int,ny.int,hc,q.here zv⟩
  ·cases hb
 | .mod=>by
  rintro pins s σ H x y v u Q I rx ry ⟨F,dx,dy,d,f,dom,nx,ny,hb,q⟩;obtain⟨a,b,rfl,rfl⟩:=zk3 hb (by decide)
  replace hb:(if 0<b then ya (D.int (a % b),Fl.solid)else yk)=ya (d,f):=hb
  split at hb
  ·rename_i hc
   cases hb;exact zvw pins s σ H x y v u Q I rx ry ⟨a,b,nx.int,ny.int,hc,q.here zv⟩
  ·cases hb
 | .add=>by
  intro pins s σ H x y v u Q I rx ry ζ8;refine zKK λγ κ=>?_;obtain⟨F,dx,dy,d,f,dom,nx,ny,hb,q⟩:=ζ8;refine κ ?_;cases dx with
  | int a =>
   cases dy <;> first | (cases hb;done) | skip
   rename_i b;cases hb;exact zwd pins s σ H x y v u Q I rx ry ⟨a,b,nx.int,ny.int,q.here zv⟩
  | str a =>
   cases dy <;> first | (cases hb;done) | skip
   rename_i b
   replace hb:(if a.length+b.length<=big then ya (D.str (a++b),Fl.solid)else yk)=ya (d,f):=hb
   split at hb
   ·rename_i hc
    cases hb;exact zls pins s σ H x y v u Q I rx ry ⟨a,b,nx.str,ny.str,ze2 hc,q.here zl4⟩
   ·cases hb
  | lst a =>
   cases dy <;> first | (cases hb;done) | skip
   rename_i b
   replace hb:(if a.length+b.length<=big then ya (D.lst (a++b),Fl.fresh)else yk)=ya (d,f):=hb
   split at hb
   ·rename_i hc
    cases hb;refine zKK λγ κ=>?_;obtain⟨p,xs,rfl,h1,h2,_⟩:=nx.lst;obtain⟨p',ys,rfl,h3,h4,_⟩:=ny.lst;refine κ ?_;exact ztx pins s σ H _ _ v u Q I rx ry ⟨p,p',xs,ys,rfl,rfl,h1,h3,ze2 (by rw[← h2.length,← h4.length];exact hc),q.lst dom (h2.append h4)⟩
   ·cases hb
  | tup a =>
   cases dy <;> first | (cases hb;done) | skip
   rename_i b
   replace hb:(if a.length+b.length<=big then ya (D.tup (a++b),Fl.solid)else yk)=ya (d,f):=hb
   split at hb
   ·rename_i hc
    cases hb;refine zKK λγ κ=>?_;obtain⟨p,xs,rfl,h1,h2⟩:=nx.tup;obtain⟨p',ys,rfl,h3,h4⟩:=ny.tup;refine κ ?_;by_cases hx:xs=[]
    ·subst hx
     have ha:a=[]:=w8 (by rw[h2.length];rfl);subst ha;refine zph pins s σ H _ _ v u Q I rx ry ⟨p,p',ys,rfl,rfl,h1.seq,h3.seq,q.here ?_⟩;rw[Rep];exact⟨p',ys,rfl,h3,h4⟩
    ·refine zs3 pins s σ H _ _ v u Q I rx ry ⟨p,p',xs,ys,rfl,rfl,h1.seq,h3.seq,hx,ze2 (by rw[← h2.length,← h4.length];exact hc),λhy=>?_,λ_=>q.tup (h2.append h4)⟩
     subst hy;have hb0:b=[]:=w8 (by rw[h4.length];rfl);subst hb0;refine q.here ?_;rw[Rep,qr];exact⟨p,xs,rfl,h1,h2⟩
   ·cases hb
  | non=>first | (cases hb;done) | (cases dy <;> cases hb)
  | dic _ _=>first | (cases hb;done) | (cases dy <;> cases hb)
  | bl _=>first | (cases hb;done) | (cases dy <;> cases hb)
end
section
variable {X:Cx} {pins:List (yq×Obj)} {σ:St} {H:Hp} {s:ym} {F:Fz}
theorem zag:∀(l m:List D),D.eqs l m=((q5 (min l.length m.length)).all (λj=>D.eq (l.getD j .non) (m.getD j .non))&&l.length==m.length)
 | [],[]=>rfl
 | [],y::m=>by show yi=_;simp
 | x::l,[]=>by show yi=_;simp
 | x::l,y::m=>by
  rw[PY.zb1,zag l m,qf,qf,yeo,vj,wn,w4]
  have e:(l.length+1==m.length+1)=(l.length==m.length):=by
   rw[vh,beq_iff_eq,beq_iff_eq];lia
  rw[e,ye7];rfl
theorem zde{a:yq}{xs ys:List V}(I:Inv X pins σ H s)(h:SqT X.K H a xs)(h':SqL X.K H a ys):False:=by
 obtain⟨its,_,⟨o,e,c,_⟩,_⟩:=I.tuple h;obtain⟨its',_,⟨o',n',e',c',_⟩,_⟩:=I.list h';rw[e]at e';cases e';rw[c]at c';injection c' with z
 exact absurd z (by decide)
theorem zkn:∀a b:List Int,a.map (jy:Int->Key)=b.map jy->a=b
 | [],[],_=>rfl
 | [],_::_,h=>by simp at h
 | _::_,[],h=>by simp at h
 | x::a,y::b,h=>by
  rw[yo,yo]at h;injection h with h1 h2
  rw[jy.inj h1,zkn a b h2]
theorem DH.inj{a:yq}{ks ks':List D}{us us':List V}(h:DH H a ks us)(h':DH H a ks' us'):ks=ks'/\us=us':=by
 refine zKK λγ κ=>?_;obtain⟨ns,rfl,_,l1,e1⟩:=h;obtain⟨ms,rfl,_,l2,e2⟩:=h';rw[e1]at e2;have e:=congrArg List.unzip (HO.dK.inj (qh e2));rw[ye8 (by rw[yd,l1]),ye8 (by rw[yd,l2])]at e;obtain⟨e3,e4⟩:=Prod.mk.inj e;have e5:ns=ms:=zkn _ _ e3;refine κ ?_;exact⟨by rw[e5],e4⟩
theorem DH.not_tup{a:yq}{ks:List D}{us xs:List V}(h:DH H a ks us)(h':H a=ya (.tup xs)):False:=by
 obtain⟨_,_,_,_,e⟩:=h;rw[e]at h';cases h'
theorem DH.typeIs{a:yq}{ks:List D}{us:List V}(I:Inv X pins σ H s)(h:DH H a ks us):∃o,s.heap.get? a=ya o/\o.cls=.type "dict":=by
 refine zKK λγ κ=>?_;obtain⟨_,_,_,_,e⟩:=h;obtain⟨_,_,vs,_,dd⟩:=zp7 I.hok e;refine κ ?_;exact dd.typeIs
theorem DH.not_list{a:yq}{ks:List D}{us xs:List V}(I:Inv X pins σ H s)(h:DH H a ks us)(h':SqL X.K H a xs):False:=by
 obtain⟨o,e,c⟩:=h.typeIs I;obtain⟨its',_,⟨o',n',e',c',_⟩,_⟩:=I.list h';rw[e]at e';cases e';rw[c]at c';injection c' with z
 exact absurd z (by decide)
mutual
theorem Rep.inj(I:Inv X pins σ H s):∀{d d':D} {v:V},Rep X.K F H d v->Rep X.K F H d' v->d=d'
 | .non,d',v,h,h'=>by
  rw[Rep]at h;subst h;cases d' <;> rw[Rep]at h' <;> first | rfl | (cases h';done) | (obtain⟨_,_,e,_⟩:=h';cases e)
 | .bl b,d',v,h,h'=>by
  rw[Rep]at h;subst h;cases d' <;> rw[Rep]at h' <;> first | (cases h';done) | (cases h';rfl) | (obtain⟨_,_,e,_⟩:=h';cases e)
 | .int b,d',v,h,h'=>by
  rw[Rep]at h;subst h;cases d' <;> rw[Rep]at h' <;> first | (cases h';done) | (cases h';rfl) | (obtain⟨_,_,e,_⟩:=h';cases e)
 | .str b,d',v,h,h'=>by
  rw[Rep]at h;subst h;cases d' <;> rw[Rep]at h' <;> first | (cases h';done) | (cases h';rfl) | (obtain⟨_,_,e,_⟩:=h';cases e)
 | .tup l,d',v,h,h'=>by
  rw[Rep]at h;obtain⟨a,xs,rfl,h1,h2⟩:=h;cases d' with
  | tup l' =>
   rw[Rep]at h';obtain⟨a',xs',e,h3,h4⟩:=h';cases e;have:=I.tuple_inj h1.seq h3.seq;subst this;rw[Reps.inj I h2 h4]
  | lst l' =>
   rw[Rep]at h';obtain⟨a',xs',e,h3,h4⟩:=h';cases e;exact(zde I h1.seq h3.seq).elim
  | dic ks vs =>
   rw[Rep]at h';obtain⟨a',us,e,_,h3,_⟩:=h';cases e;exact(h3.not_tup h1).elim
  | non=>rw[Rep]at h';cases h'
  | bl _=>rw[Rep]at h';cases h'
  | int _=>rw[Rep]at h';cases h'
  | str _=>rw[Rep]at h';cases h'
 | .lst l,d',v,h,h'=>by
  rw[Rep]at h;obtain⟨a,xs,rfl,h1,h2⟩:=h;cases d' with
  | lst l' =>
   rw[Rep]at h';obtain⟨a',xs',e,h3,h4⟩:=h';cases e;have:=I.list_inj h1.seq h3.seq;subst this;rw[Reps.inj I h2 h4]
  | tup l' =>
   rw[Rep]at h';obtain⟨a',xs',e,h3,h4⟩:=h';cases e;exact(zde I h3.seq h1.seq).elim
  | dic ks vs =>
   rw[Rep]at h';obtain⟨a',us,e,_,h3,_⟩:=h';cases e;exact(h3.not_list I h1.seq).elim
  | non=>rw[Rep]at h';cases h'
  | bl _=>rw[Rep]at h';cases h'
  | int _=>rw[Rep]at h';cases h'
  | str _=>rw[Rep]at h';cases h'
 | .dic ks vs,d',v,h,h'=>by
  rw[Rep]at h;obtain⟨a,us,rfl,_,h1,h2⟩:=h;cases d' with
  | dic ks' vs' =>
   rw[Rep]at h';obtain⟨a',us',e,_,h3,h4⟩:=h';cases e;obtain⟨e1,e2⟩:=h1.inj h3;subst e1 e2;rw[Reps.inj I h2 h4]
  | tup l' =>
   rw[Rep]at h';obtain⟨a',xs',e,h3,h4⟩:=h';cases e;exact(h1.not_tup h3).elim
  | lst l' =>
   rw[Rep]at h';obtain⟨a',xs',e,h3,h4⟩:=h';cases e;exact(h1.not_list I h3.seq).elim
  | non=>rw[Rep]at h';cases h'
  | bl _=>rw[Rep]at h';cases h'
  | int _=>rw[Rep]at h';cases h'
  | str _=>rw[Rep]at h';cases h'
theorem Reps.inj(I:Inv X pins σ H s):∀{ds ds':List D} {vs:List V},Reps X.K F H ds vs->Reps X.K F H ds' vs->ds=ds'
 | [],[],_,_,_=>rfl
 | [],d::r,vs,h,h'=>by
  rw[Reps]at h;rw[Reps]at h';subst h;obtain⟨_,_,e,_⟩:=h';cases e
 | d::r,[],vs,h,h'=>by
  rw[Reps]at h;rw[Reps]at h';subst h';obtain⟨_,_,e,_⟩:=h;cases e
 | d::r,d'::r',vs,h,h'=>by
  rw[Reps]at h h';obtain⟨v,w,rfl,h1,h2⟩:=h;obtain⟨v',w',e,h3,h4⟩:=h';cases e;rw[Rep.inj I h1 h3,Reps.inj I h2 h4]
end
mutual
theorem zou:∀d:D,D.eq d d=yl
 | .non=>rfl
 | .bl b=>beq_self_eq_true b
 | .int b=>beq_self_eq_true b
 | .str b=>beq_self_eq_true b
 | .tup l=>eqs_refl l
 | .lst l=>eqs_refl l
 | .dic a b=>by show(D.eqs a a&&D.eqs b b)=yl;rw[eqs_refl a,eqs_refl b];rfl
theorem eqs_refl:∀l:List D,D.eqs l l=yl
 | []=>rfl
 | d::r=>by rw[PY.zb1,zou d,eqs_refl r];rfl
end
theorem zbr{A:x5}{dx dy:D}{x y:V}{u v:yh}(hx:Rep X.K F H dx x)(hy:Rep X.K F H dy y)(rx:RelV x u)(ry:RelV y v)(sx:dx.scal=yl)(sy:dy.scal=yl):SeqAt.EqAt A s u v (D.eq dx dy):=by
 have key:∀{d:D} {z:V},Rep X.K F H d z->d.scal=yl->flatV z=yl:=λ{d z} h hs=>by
  cases d <;> first | (rw[Rep]at h;subst h;rfl) | cases hs
 have e:D.eq dx dy=eqV x y:=by
  cases dx <;> first | cases sx | skip
  all_goals (cases dy <;> first | cases sy | skip);all_goals (rw[Rep]at hx;rw[Rep]at hy;subst hx;subst hy;rfl)
 rw[e];exact zu6 rx ry (key hx sx) (key hy sy)
theorem zdl{X:Cx}{F:Fz}{H:Hp}{A:x5}{s:ym}{n:Nat}(ih:∀{dx dy:D} {x y:V} {u v:yh},dx.deep n=yl->dy.deep n=yl->Rep X.K F H dx x->Rep X.K F H dy y->RelV x u->RelV y v->SeqAt.EqAt A s u v (D.eq dx dy)){l m:List D}{xs ys:List V}{its its2:List yh}(hl:l.all (D.deep n)=yl)(hm:m.all (D.deep n)=yl)(r1:Reps X.K F H l xs)(r2:Reps X.K F H m ys)(v1:Vals xs its)(v2:Vals ys its2)
  (j:Nat) (h1:j<its.toArray.size) (h2:j<its2.toArray.size):SeqAt.EqAt A s its.toArray[j] its2.toArray[j] (D.eq (l.getD j .non) (m.getD j .non)):=by
 have j1:j<l.length:=by rw[r1.length,v1.length];simpa using h1
 have j2:j<m.length:=by rw[r2.length,v2.length];simpa using h2
 obtain⟨z,e1,q1⟩:=r1.get (i:=j) (d:=l[j]) (by simp[j1]);obtain⟨z2,e2,q2⟩:=r2.get (i:=j) (d:=m[j]) (by simp[j2]);obtain⟨w1,e3,q3⟩:=v1.get e1;obtain⟨w2,e4,q4⟩:=v2.get e2
 have a1:its.toArray[j]=w1:=by
  have:its[j]? = ya w1:=e3;have hj:j<its.length:=by simpa using h1
  rw[yc hj]at this;simpa using qh this
 have a2:its2.toArray[j]=w2:=by
  have:its2[j]? = ya w2:=e4;have hj:j<its2.length:=by simpa using h2
  rw[yc hj]at this;simpa using qh this
 rw[a1,a2];have b1:l.getD j .non=l[j]:=by simp[vp,j1]
 have b2:m.getD j .non=m[j]:=by simp[vp,j2]
 rw[b1,b2];exact ih (qo.mp hl _ (vq j1)) (qo.mp hm _ (vq j2)) q1 q2 q3 q4
theorem zj9(I:Inv X pins σ H s):∀(n:Nat) {A:x5} {dx dy:D} {x y:V} {u v:yh},A.units+n<ju->dx.deep n=yl->dy.deep n=yl->Rep X.K F H dx x->Rep X.K F H dy y->RelV x u->RelV y v ->
  SeqAt.EqAt A s u v (D.eq dx dy)/\(dx.scal=yi\/dy.scal=yi->SeqAt.RcAt A s u v (D.eq dx dy))
 | 0,A,dx,dy,x,y,u,v,hu,hx,hy,nx,ny,rx,ry=>by
  have hx':dx.scal=yl:=hx;have hy':dy.scal=yl:=hy;exact⟨zbr nx ny rx ry hx' hy',λh=>by rcases h with h | h <;> simp_all⟩
 | n+1,A,dx,dy,x,y,u,v,hu,hx,hy,nx,ny,rx,ry=>by
  have ih:=λ{dx dy:D} {x y:V} {u v:yh} (a:dx.deep n=yl) (b:dy.deep n=yl) (c:Rep X.K F H dx x) (d:Rep X.K F H dy y) (e:RelV x u) (f:RelV y v)=>(zj9 I n (A:=A.in1) (by show A.units+1+n<ju;lia) a b c d e f).1
  have hu':A.units<ju:=by lia
  -- RcAt gives EqAt
  have fin:(SeqAt.RcAt A s u v (D.eq dx dy))->(∃a b,u=.ref a/\v=.ref b)->SeqAt.EqAt A s u v (D.eq dx dy):=λh ⟨a,b,e1,e2⟩=>by
   subst e1 e2;by_cases hab:a=b
   ·subst hab
    have zx:x=.ref a:=by cases x <;> first | (obtain⟨_,e⟩:=rx;cases e;done) | (cases rx;done) | (cases rx;rfl)
    have zy:y=.ref a:=by cases y <;> first | (obtain⟨_,e⟩:=ry;cases e;done) | (cases ry;done) | (cases ry;rfl)
    subst zx zy;rw[Rep.inj I nx ny,zou];exact SeqAt.EqAt.same _
   ·exact .of_refs hab h
  cases dx with
  | tup l =>
   rw[Rep]at nx;obtain⟨a,xs,rfl,h1,h2⟩:=id nx;cases(show u=yw a from rx);obtain⟨its,v1,p1,_⟩:=I.tuple h1.seq;cases dy with
   | tup m =>
    obtain⟨b,ys,rfl,h3,h4⟩:=(by rw[Rep]at ny;exact ny:∃a xs,y=.ref a/\FT X.K F H a xs/\Reps X.K F H m xs);cases(show v=yw b from ry);obtain⟨its2,v2,p2,_⟩:=I.tuple h3.seq
    have rc:SeqAt.RcAt A s (.ref a) (.ref b) (D.eq (.tup l) (.tup m)):=by
     have q:=SeqAt.RcAt.tuples (A:=A) (s:=s) p1 p2 hu' (zdl ih hx hy h2 h4 v1 v2);rw[yt,yt,← v1.length,← v2.length,← h2.length,← h4.length]at q
     first | rw[PY.zaa,zag] | rw[PY.zas,zag]
     exact q
    exact⟨fin rc ⟨a,b,rfl,rfl⟩,λ_=>rc⟩
   | lst m =>
    obtain⟨b,ys,rfl,h3,h4⟩:=(by rw[Rep]at ny;exact ny:∃a xs,y=.ref a/\FL X.K F H a xs/\Reps X.K F H m xs);cases(show v=yw b from ry);obtain⟨its2,v2,p2,_⟩:=I.list h3.seq;exact⟨SeqAt.EqAt.tuple_list p1 p2.isList hu',λ_=>SeqAt.RcAt.tuple_list p1 p2.isList hu'⟩
   | non=>rw[Rep]at ny;subst ny;cases ry;exact⟨SeqAt.EqAt.tuple_none p1 hu',λ_=>SeqAt.RcAt.tuple_none p1 hu'⟩
   | bl b=>rw[Rep]at ny;subst ny;cases ry;exact⟨SeqAt.EqAt.tuple_bool b p1 hu',λ_=>SeqAt.RcAt.tuple_bool b p1 hu'⟩
   | int b=>rw[Rep]at ny;subst ny;obtain⟨t,rfl⟩:=ry;exact⟨SeqAt.EqAt.tuple_int b t p1 hu',λ_=>SeqAt.RcAt.tuple_int b t p1 hu'⟩
   | str b=>rw[Rep]at ny;subst ny;obtain⟨t,rfl⟩:=ry;exact⟨SeqAt.EqAt.tuple_str b t p1 hu',λ_=>SeqAt.RcAt.tuple_str b t p1 hu'⟩
   | dic _ _=>exact nomatch (show yi=yl from hy)
  | lst l =>
   rw[Rep]at nx;obtain⟨a,xs,rfl,h1,h2⟩:=id nx;cases(show u=yw a from rx);obtain⟨its,v1,p1,_⟩:=I.list h1.seq;cases dy with
   | lst m =>
    obtain⟨b,ys,rfl,h3,h4⟩:=(by rw[Rep]at ny;exact ny:∃a xs,y=.ref a/\FL X.K F H a xs/\Reps X.K F H m xs);cases(show v=yw b from ry);obtain⟨its2,v2,p2,_⟩:=I.list h3.seq
    have rc:SeqAt.RcAt A s (.ref a) (.ref b) (D.eq (.lst l) (.lst m)):=by
     first | rw[PY.zaa,zag] | rw[PY.zas,zag]
     by_cases hz:l.length=m.length
     ·have hsz:its.toArray.size=its2.toArray.size:=by rw[yt,yt,← v1.length,← v2.length,← h2.length,← h4.length,hz]
      have q:=SeqAt.RcAt.lists (A:=A) (s:=s) p1.isList p2.isList hsz hu' (zdl ih hx hy h2 h4 v1 v2);rw[yt,← v1.length,← h2.length]at q;rw[hz,ycf,beq_self_eq_true,yc6,← hz];exact q
     ·have hsz:(its.toArray.size != its2.toArray.size)=yl:=by
       rw[yt,yt,← v1.length,← v2.length,← h2.length,← h4.length];simpa using hz
      have q:=SeqAt.RcAt.lists_lengths (A:=A) (s:=s) p1.isList p2.isList hsz hu';rw[show(l.length==m.length)=yi by simpa using hz,uq];exact q
    exact⟨fin rc ⟨a,b,rfl,rfl⟩,λ_=>rc⟩
   | tup m =>
    obtain⟨b,ys,rfl,h3,h4⟩:=(by rw[Rep]at ny;exact ny:∃a xs,y=.ref a/\FT X.K F H a xs/\Reps X.K F H m xs);cases(show v=yw b from ry);obtain⟨its2,v2,p2,_⟩:=I.tuple h3.seq;exact⟨SeqAt.EqAt.list_tuple p1.isList p2 hu',λ_=>SeqAt.RcAt.list_tuple p1.isList p2 hu'⟩
   | non=>rw[Rep]at ny;subst ny;cases ry;exact⟨SeqAt.EqAt.list_none p1.isList hu',λ_=>SeqAt.RcAt.list_none p1.isList hu'⟩
   | bl b=>rw[Rep]at ny;subst ny;cases ry;exact⟨SeqAt.EqAt.list_bool b p1.isList hu',λ_=>SeqAt.RcAt.list_bool b p1.isList hu'⟩
   | int b=>rw[Rep]at ny;subst ny;obtain⟨t,rfl⟩:=ry;exact⟨SeqAt.EqAt.list_int b t p1.isList hu',λ_=>SeqAt.RcAt.list_int b t p1.isList hu'⟩
   | str b=>rw[Rep]at ny;subst ny;obtain⟨t,rfl⟩:=ry;exact⟨SeqAt.EqAt.list_str b t p1.isList hu',λ_=>SeqAt.RcAt.list_str b t p1.isList hu'⟩
   | dic _ _=>exact nomatch (show yi=yl from hy)
  | non =>
   cases dy with
   | tup m =>
    obtain⟨b,ys,rfl,h3,h4⟩:=(by rw[Rep]at ny;exact ny:∃a xs,y=.ref a/\FT X.K F H a xs/\Reps X.K F H m xs);cases(show v=yw b from ry);obtain⟨its2,v2,p2,_⟩:=I.tuple h3.seq;rw[Rep]at nx;subst nx;cases rx;exact⟨SeqAt.EqAt.none_tuple  p2 hu',λ_=>SeqAt.RcAt.none_tuple  p2 hu'⟩
   | lst m =>
    obtain⟨b,ys,rfl,h3,h4⟩:=(by rw[Rep]at ny;exact ny:∃a xs,y=.ref a/\FL X.K F H a xs/\Reps X.K F H m xs);cases(show v=yw b from ry);obtain⟨its2,v2,p2,_⟩:=I.list h3.seq;rw[Rep]at nx;subst nx;cases rx;exact⟨SeqAt.EqAt.none_list  p2.isList hu',λ_=>SeqAt.RcAt.none_list  p2.isList hu'⟩
   | dic _ _=>exact nomatch (show yi=yl from hy)
   | _=>exact⟨zbr nx ny rx ry rfl rfl,λh=>by rcases h with h | h <;> cases h⟩
  | bl b0 =>
   cases dy with
   | tup m =>
    obtain⟨b,ys,rfl,h3,h4⟩:=(by rw[Rep]at ny;exact ny:∃a xs,y=.ref a/\FT X.K F H a xs/\Reps X.K F H m xs);cases(show v=yw b from ry);obtain⟨its2,v2,p2,_⟩:=I.tuple h3.seq;rw[Rep]at nx;subst nx;cases rx;exact⟨SeqAt.EqAt.bool_tuple b0 p2 hu',λ_=>SeqAt.RcAt.bool_tuple b0 p2 hu'⟩
   | lst m =>
    obtain⟨b,ys,rfl,h3,h4⟩:=(by rw[Rep]at ny;exact ny:∃a xs,y=.ref a/\FL X.K F H a xs/\Reps X.K F H m xs);cases(show v=yw b from ry);obtain⟨its2,v2,p2,_⟩:=I.list h3.seq;rw[Rep]at nx;subst nx;cases rx;exact⟨SeqAt.EqAt.bool_list b0 p2.isList hu',λ_=>SeqAt.RcAt.bool_list b0 p2.isList hu'⟩
   | dic _ _=>exact nomatch (show yi=yl from hy)
   | _=>exact⟨zbr nx ny rx ry rfl rfl,λh=>by rcases h with h | h <;> cases h⟩
  | int b0 =>
   cases dy with
   | tup m =>
    obtain⟨b,ys,rfl,h3,h4⟩:=(by rw[Rep]at ny;exact ny:∃a xs,y=.ref a/\FT X.K F H a xs/\Reps X.K F H m xs);cases(show v=yw b from ry);obtain⟨its2,v2,p2,_⟩:=I.tuple h3.seq;rw[Rep]at nx;subst nx;obtain⟨t,rfl⟩:=rx;exact⟨SeqAt.EqAt.int_tuple b0 t p2 hu',λ_=>SeqAt.RcAt.int_tuple b0 t p2 hu'⟩
   | lst m =>
    obtain⟨b,ys,rfl,h3,h4⟩:=(by rw[Rep]at ny;exact ny:∃a xs,y=.ref a/\FL X.K F H a xs/\Reps X.K F H m xs);cases(show v=yw b from ry);obtain⟨its2,v2,p2,_⟩:=I.list h3.seq;rw[Rep]at nx;subst nx;obtain⟨t,rfl⟩:=rx;exact⟨SeqAt.EqAt.int_list b0 t p2.isList hu',λ_=>SeqAt.RcAt.int_list b0 t p2.isList hu'⟩
   | dic _ _=>exact nomatch (show yi=yl from hy)
   | _=>exact⟨zbr nx ny rx ry rfl rfl,λh=>by rcases h with h | h <;> cases h⟩
  | str b0 =>
   cases dy with
   | tup m =>
    obtain⟨b,ys,rfl,h3,h4⟩:=(by rw[Rep]at ny;exact ny:∃a xs,y=.ref a/\FT X.K F H a xs/\Reps X.K F H m xs);cases(show v=yw b from ry);obtain⟨its2,v2,p2,_⟩:=I.tuple h3.seq;rw[Rep]at nx;subst nx;obtain⟨t,rfl⟩:=rx;exact⟨SeqAt.EqAt.str_tuple b0 t p2 hu',λ_=>SeqAt.RcAt.str_tuple b0 t p2 hu'⟩
   | lst m =>
    obtain⟨b,ys,rfl,h3,h4⟩:=(by rw[Rep]at ny;exact ny:∃a xs,y=.ref a/\FL X.K F H a xs/\Reps X.K F H m xs);cases(show v=yw b from ry);obtain⟨its2,v2,p2,_⟩:=I.list h3.seq;rw[Rep]at nx;subst nx;obtain⟨t,rfl⟩:=rx;exact⟨SeqAt.EqAt.str_list b0 t p2.isList hu',λ_=>SeqAt.RcAt.str_list b0 t p2.isList hu'⟩
   | dic _ _=>exact nomatch (show yi=yl from hy)
   | _=>exact⟨zbr nx ny rx ry rfl rfl,λh=>by rcases h with h | h <;> cases h⟩
  | dic _ _=>exact nomatch (show yi=yl from hx)
end
end SD
namespace SD
open PySem PySem.Spec PyProof.Rows L2 PY
theorem za{α β:Type}{o:Option α}{f:α->Option β}{b:β}(h:o.bind f=ya b):∃a,o=ya a/\f a=ya b:=by
 cases o with
 | none=>cases h
 | some a=>exact⟨a,rfl,h⟩
theorem zb{α β:Type}{o:Option α}{f:α->β}{b:β}(h:o.map f=ya b):∃a,o=ya a/\f a=b:=by
 cases o with
 | none=>cases h
 | some a=>exact⟨a,rfl,qh h⟩
def nks{α:Type}(o:Option Nat)(ks:List α)(k:α):List α:=match o with
 | some _=>ks
 | none=>ks++[k]
def nvs{α:Type}(o:Option Nat)(vs:List α)(v:α):List α:=match o with
 | some j=>vs.set j v
 | none=>vs++[v]
section
variable {X:Cx} {pins:List (yq×Obj)} {σ:St} {H:Hp} {s:ym} {F:Fz}
theorem zad:∀{l:List D} {ns:List Int} {xs:List V},ints? l=ya ns->Reps X.K F H l xs->xs=ns.map V.int
 | [],ns,xs,h,r=>by
  cases h;rw[Reps]at r;exact r
 | .int i::l,ns,xs,h,r=>by
  rw[Reps]at r;obtain⟨v,r',rfl,h1,h2⟩:=r;rw[Rep]at h1;subst h1;simp only[ints?]at h;cases e:ints? l with
  | none=>rw[e]at h;cases h
  | some ms =>
   rw[e]at h;cases h;rw[zad e h2];rfl
 | .non::_,_,_,h,_=>by simp[ints?]at h
 | .bl _::_,_,_,h,_=>by simp[ints?]at h
 | .str _::_,_,_,h,_=>by simp[ints?]at h
 | .tup _::_,_,_,h,_=>by simp[ints?]at h
 | .lst _::_,_,_,h,_=>by simp[ints?]at h
 | .dic _ _::_,_,_,h,_=>by simp[ints?]at h
theorem zji:∀{l:List D} {ns:List Int},ints? l=ya ns->l=ns.map .int
 | [],_,h=>by cases h;rfl
 | .int i::r,ns,h=>by
  unfold ints? at h;cases hq:ints? r with
  | none=>rw[hq]at h;cases h
  | some ms=>rw[hq]at h;cases h;rw[zji hq];rfl
 | .non::_,_,h=>by simp[ints?]at h
 | .bl _::_,_,h=>by simp[ints?]at h
 | .str _::_,_,h=>by simp[ints?]at h
 | .tup _::_,_,h=>by simp[ints?]at h
 | .lst _::_,_,h=>by simp[ints?]at h
 | .dic _ _::_,_,h=>by simp[ints?]at h
theorem zb9:∀ns:List Int,ints? (ns.map .int)=ya ns
 | []=>rfl
 | x::r=>by
  show(ints? (r.map .int)).map (x::·)=_;rw[zb9 r];rfl
theorem zdv{α κ:Type}[BEq α][LawfulBEq α][DecidableEq κ]{f:α->κ}(hf:∀a b,f a=f b->a=b):∀(l:List α) (us:List V) (x:α),us.length=l.length->valV ((l.map f).zip us) (f x)=(l.findIdx? (· == x)).bind λj=>us[j]?
 | [],us,x,_=>rfl
 | a::l,[],x,h=>by simp at h
 | a::l,u::us,x,h=>by
  rw[yo,ji,ya4];by_cases e:a=x
  ·subst e
   rw[zdm rfl];simp
  ·rw[zdk (λz=>e (hf _ _ z)),zdv hf l us x (by simpa using h)]
   rw[if_neg (by simpa using e)];cases l.findIdx? (· == x) <;> simp
theorem zl8{α:Type}[BEq α]{l:List α}{x:α}{j:Nat}(h:l.findIdx? (· == x)=ya j):j<l.length:=(v8.mp h).1
theorem zk1{α κ:Type}[BEq α][LawfulBEq α][DecidableEq κ]{f:α->κ}(hf:∀a b,f a=f b->a=b)(v:V):∀(l:List α) (us:List V) (x:α) (j:Nat),l.Nodup->us.length=l.length->l.findIdx? (· == x)=ya j ->
  ((l.map f).zip us).map (λkv=>if kv.1=f x then(kv.1,v)else kv)=(l.map f).zip (us.set j v)
 | [],us,x,j,_,_,h=>by cases h
 | a::l,[],x,j,_,h,_=>by simp at h
 | a::l,u::us,x,j,hn,hl,hj=>by
  rw[xw]at hn;rw[yo,ji,yo];rw[ya4]at hj;by_cases e:a=x
  ·subst e
   rw[if_pos (by simp)]at hj;cases hj;rw[if_pos rfl,List.set_cons_zero,ji];congr 1
   have:∀(m:List α) (ws:List V),a∉m->((m.map f).zip ws).map (λkv=>if kv.1=f a then(kv.1,v)else kv)=(m.map f).zip ws:=by
    intro m;induction m with
    | nil=>intro ws _;rfl
    | cons b m ih =>
     intro ws hb;cases ws with
     | nil=>rfl
     | cons w ws =>
      rw[yo,ji,yo,if_neg (λz=>hb (by rw[hf _ _ z];exact yg)),ih ws λz=>hb (yf _ z)]
   exact this l us hn.1
  ·rw[if_neg (by simpa using e)]at hj
   obtain⟨i,hi,rfl⟩:=ydo.mp hj;rw[if_neg (λz=>e (hf _ _ z)),List.set_cons_succ,ji,zk1 hf v l us x i hn.2 (by simpa using hl) hi]
theorem zsx{α κ:Type}[BEq α][LawfulBEq α][DecidableEq κ]{f:α->κ}(hf:∀a b,f a=f b->a=b)(v:V){l:List α}{us:List V}{x:α}(hn:l.Nodup)(hl:us.length=l.length) :
  putK ((l.map f).zip us) (f x) v=match l.findIdx? (· == x)with | some j=>(l.map f).zip (us.set j v) | none=>((l++[x]).map f).zip (us++[v]):=by
 unfold putK;rw[zfo,zdv hf l us x hl];cases e:l.findIdx? (· == x)with
 | none =>
  rw[if_neg (by simp)];simp only;rw[qb,ye1 (by rw[yd,hl])];rfl
 | some j =>
  have:=zl8 e;rw[ye,yc (by lia),if_pos (show(ya _).isSome=yl from rfl),zk1 hf v l us x j hn hl e]
theorem zjf:∀a b:Int,(jy a:Key)=jy b->a=b:=λa b h=>jy.inj h
theorem zce{a:yq}{ks:List D}{us:List V}{dx:D}{x:V}{o:Option Nat}(h:DH H a ks us)(nx:Now X.K F H dx x)(hk:keyAt dx ks=ya o) :
  DGet H a x (o.bind λj=>us[j]?)/\(∀j,o=ya j->j<us.length) /\
   ∀v,ks.length<y8->∃ob,DPut H a x v (upd H a ob)/\DH (upd H a ob) a (nks o ks dx) (nvs o us v):=by
 cases dx with
 | int i =>
  have ex:=nx.int;subst ex;have hk:(ints? ks).map (λns=>ns.findIdx? (· == i))=ya o:=hk;refine zKK λγ κ=>?_;obtain⟨ns,hi,rfl⟩:=zb hk;obtain⟨ms,rfl,hn,hl,e⟩:=h;rw[zb9]at hi;cases hi;refine κ ?_;refine⟨?_,λj hj=>by rw[hl];exact zl8 hj,λv hz=>⟨_,DPut.k (k:=jy i) e (by rw[yb8,yd,hl,ycf];simpa using hz),?_⟩⟩
  ·have:=DGet.k (k:=jy i) e
   rw[zdv zjf ns us i hl]at this;exact this
  ·rw[zsx zjf v hn hl]
   cases ej:ns.findIdx? (· == i)with
   | some j=>exact⟨ns,rfl,hn,by show(us.set j v).length=_;rw[wv];exact hl,zj⟩
   | none =>
    refine⟨ns++[i],by simp[nks],?_,by simp[nvs,hl],zj⟩;rw[wq];refine⟨hn,by simp,λp hp q hq z=>?_⟩;rw[qd]at hq;have:=ycu.mp ej p hp;rw[z,hq]at this;simp at this
 | _=>cases hk
variable {A:x5} {E:yh→ym→Prop}
theorem znn{us:List V}{o:Option Nat}(h:∀j,o=ya j->j<us.length):(o.bind λj=>us[j]?).isSome=o.isSome:=by
 cases o with
 | none=>rfl
 | some j=>rw[ye,yc (h j rfl)];rfl
theorem zwl{a:yq}{ks:List D}{us:List V}{dx:D}{x:V}{u:yh}{o:Option Nat}{Q:yh->ym->Prop}(hu:A.units+1<ju)(I:Inv X pins σ H s)(h:DH H a ks us)(nx:Now X.K F H dx x)(hk:keyAt dx ks=ya o)(rx:RelV x u)
  (q:∀s',Inv X pins σ H s'->Q (.bool o.isSome) s'):y9 (model X.prog X.w) A (je .In u (.ref a)) Q E s:=by
 obtain⟨g,hj,_⟩:=zce h nx hk;exact zya hu I g rx λs' I'=>by rw[znn hj];exact q s' I'
theorem zoz{a:yq}{ks:List D}{us:List V}{dx:D}{x:V}{u:yh}{o:Option Nat}{Q:yh->ym->Prop}(hu:A.units+1<ju)(I:Inv X pins σ H s)(h:DH H a ks us)(nx:Now X.K F H dx x)(hk:keyAt dx ks=ya o)(rx:RelV x u)
  (q:∀s',Inv X pins σ H s'->Q (.bool (!o.isSome)) s'):y9 (model X.prog X.w) A (je .NotIn u (.ref a)) Q E s:=by
 obtain⟨g,hj,_⟩:=zce h nx hk;exact zs0 hu I g rx λs' I'=>by rw[znn hj];exact q s' I'
theorem zsv{a:yq}{ks:List D}{us:List V}{dx:D}{x v:V}{u:yh}{j:Nat}{Q:yh->ym->Prop}(hu:A.units+1<ju)(I:Inv X pins σ H s)(h:DH H a ks us)(nx:Now X.K F H dx x)(hk:keyAt dx ks=ya (ya j))(hv:us[j]? = ya v)(rx:RelV x u)
  (q:∀w' s',Inv X pins σ H s'->RelV v w'->Q w' s'):y9 (model X.prog X.w) A (ya1 (.ref a) u) Q E s:=by
 obtain⟨g,hj,_⟩:=zce h nx hk;rw[ye,hv]at g;exact zgw hu I g rx λw' s' I' r'=>q w' s' I' r'
theorem zto{a:yq}{ks:List D}{us:List V}{dx:D}{x v:V}{u r:yh}{o:Option Nat}{Q:Unit->ym->Prop}(hu:A.units+1<ju)(I:Inv X pins σ H s)(h:DH H a ks us)(nx:Now X.K F H dx x)(hk:keyAt dx ks=ya o)(rx:RelV x u)(rv:RelV v r)(hz:ks.length<y8)
  (q:∀ob s',Inv X pins σ (upd H a ob) s'->DH (upd H a ob) a (nks o ks dx) (nvs o us v)->Q () s'):y9 (model X.prog X.w) A (setItem (.ref a) u r) Q E s:=by
 obtain⟨g,hj,pt⟩:=zce h nx hk;obtain⟨ob,p1,p3⟩:=pt v hz;exact zme hu I p1 rx rv λs' I'=>q ob s' I' p3
theorem zts{a:yq}{u:yh}{value slice:Expr}{Q:yh->ym->Prop}(ht:∃o,s.heap.get? a=ya o/\o.cls=.type "dict")(hs:subscripted slice yi (.ref a) u=operate [.ref a,u] (ya1 (.ref a) u))
  (h:y9 (model X.prog X.w) A (ya1 (.ref a) u) Q E s):y9 (model X.prog X.w) A (yb2 value slice (.ref a) u) Q E s:=by
 have hT:s.TypeIs (.ref a) "dict":=ht;unfold yb2;refine yb ?_;rw[getitemInPython_of_ne hT.not_modules];refine yb (u9 hT ycr.lookup ?_)
 have fin:y9 (model X.prog X.w) A (subscripted slice yi (.ref a) u) (λr s₃=>y9 (model X.prog X.w) A (letTemporaryGo value (.ref a) r >>= λ_=>pure r) Q E s₃) E s:=by
  rw[hs];exact wpAny_operating (jd h (λr s₃ h₃=>yb (wpAny_letTemporaryGo (yj h₃))) λ_ _ x=>x)
 first
  | exact yj (yb fin)
  | exact yb (yj (yb fin))
  | exact yb fin
end
end SD
namespace L2
open PySem PySem.Spec PyProof.Rows
theorem zh2:∀{ns:List Int} {its:List yh},Vals (ns.map V.int) its->∃xs:List (Int×Tok),its=xs.map (λp=>ya7 p.1 p.2)/\xs.map (·.1)=ns
 | [],_,r=>by cases r;exact⟨[],rfl,rfl⟩
 | n::ns,_,r=>by
  rw[yo]at r;cases r with
  | @cons a b as bs h t =>
   obtain⟨tk,e⟩:=(show∃t,b=ya7 n t from h);obtain⟨xs,h1,h2⟩:=zh2 t;exact⟨(n,tk)::xs,by rw[e,h1];rfl,by rw[← h2];rfl⟩
theorem zg2(f:Nat->Int):∀(n:Nat),preSum f n=((q5 n).map f).foldl (· + ·) 0
 | 0=>rfl
 | n+1=>by
  rw[ye2,qb,yc2,← zg2 f n];rfl
theorem zhr(f:Nat->Int)(h:∀i,-4000<=f i/\f i<=4000):∀n:Nat,-(4000*(n:Int))<=preSum f n/\preSum f n<=4000*n
 | 0=>by simp[preSum]
 | n+1=>by
  have h1:=zhr f h n;have h2:=h n;have:preSum f (n+1)=preSum f n+f n:=rfl;rw[this];constructor <;> (push_cast;lia)
section
variable {X:Cx}
theorem zoy(hc:X.calm=yl):CallR X (.builtin "sum") (λxs H Q=>∃(p:yq) (ns:List Int),xs=[.ref p]/\SqL X.K H p (ns.map V.int)/\ns.length<=4000/\(∀n∈ns,-4000<=n/\n<=4000)/\Q (.int (ns.foldl (· + ·) 0)) H):=by
 intro pins s σ H xs us Q I r h;obtain⟨p,ns,rfl,hq,hl,hb,q⟩:=h;obtain⟨u,rfl,ru⟩:=vals1 r;cases ru;obtain⟨its,rv,pl,hz⟩:=I.list hq;obtain⟨ps,e1,e2⟩:=zh2 rv;subst e1
 have hi:s.heap.IsList p (intItems ps.toArray):=by
  have:=pl.isList;unfold intItems;simpa using this
 have hlen:ps.length=ns.length:=by rw[← e2,yd]
 have hnum:∀i,numAt ps.toArray i=ns.getD i 0:=λi=>by
  unfold numAt;rw[← e2,y3,yy];simp
 have hsm:∀i,-4000<=numAt ps.toArray i/\numAt ps.toArray i<=4000:=λi=>by
  rw[hnum,y3];cases e:ns[i]? with
  | none=>simp
  | some n=>exact hb n (xk e)
 have hsum:preSum (numAt ps.toArray) ps.toArray.size=ns.foldl (· + ·) 0:=by
  rw[zg2];congr 1;apply ydd
  ·simp[hlen]
  ·intro i h1 h2
   simp only[yev,yed];rw[hnum,y3,yc h2];rfl
 refine sum_intList (I.ok.hd hc) hi (λj hj=>?_) λh' tk t' hk=>?_
 ·have h1:=hsm j
  have h2:=zhr _ hsm (j+1);have h3:j<ps.length:=by simpa using hj
  constructor <;> (unfold InLong;lia)
 ·rw[hsum]
  exact⟨.int (ns.foldl (· + ·) 0),H,I.kept hk,⟨t',rfl⟩,q⟩
end
end L2
namespace SD
open PySem PySem.Spec PyProof.Rows L2 PY
section
variable {X:Cx} {pins:List (yq×Obj)} {σ:St} {H:Hp} {s:ym} {F:Fz}
abbrev Ev:Fz:=λ_=>True
theorem Now.all{K:Frag}{d:D}{v:V}(h:Now K F H d v):Rep K Ev H d v:=by
 rcases h with h | ⟨a,lo⟩
 ·exact h.keep ⟨λ_ _=>trivial,λ_ _ _ _ e=>e,λ_ _ e=>e⟩
 ·exact lo.prot.keep ⟨λ_ _=>trivial,λ_ _ _ _ e=>e,λ_ _ e=>e⟩
theorem zmq{A:x5}{dx dy:D}{x y:V}{u v:yh}(hx:Rep X.K F H dx x)(hy:Rep X.K F H dy y)(rx:RelV x u)(ry:RelV y v)(sx:dx.scal=yl)(sy:dy.scal=yl):SeqAt.RcAt A s u v (D.eq dx dy):=by
 cases dx with
 | tup _=>cases sx
 | lst _=>cases sx
 | dic _ _=>cases sx
 | non =>
  rw[Rep]at hx;subst hx;cases rx;cases dy with
  | tup _=>cases sy
  | lst _=>cases sy
  | dic _ _=>cases sy
  | non=>rw[Rep]at hy;subst hy;cases ry;exact SeqAt.RcAt.none_none
  | bl b1=>rw[Rep]at hy;subst hy;cases ry;exact SeqAt.RcAt.none_bool  b1
  | int b1=>rw[Rep]at hy;subst hy;obtain⟨t1,rfl⟩:=ry;exact SeqAt.RcAt.none_int  b1 t1
  | str b1=>rw[Rep]at hy;subst hy;obtain⟨t1,rfl⟩:=ry;exact SeqAt.RcAt.none_str  b1 t1
 | bl b0 =>
  rw[Rep]at hx;subst hx;cases rx;cases dy with
  | tup _=>cases sy
  | lst _=>cases sy
  | dic _ _=>cases sy
  | non=>rw[Rep]at hy;subst hy;cases ry;exact SeqAt.RcAt.bool_none b0
  | bl b1=>rw[Rep]at hy;subst hy;cases ry;exact SeqAt.RcAt.bool_bool b0 b1
  | int b1=>rw[Rep]at hy;subst hy;obtain⟨t1,rfl⟩:=ry;exact SeqAt.RcAt.bool_int b0 b1 t1
  | str b1=>rw[Rep]at hy;subst hy;obtain⟨t1,rfl⟩:=ry;exact SeqAt.RcAt.bool_str b0 b1 t1
 | int b0 =>
  rw[Rep]at hx;subst hx;obtain⟨t,rfl⟩:=rx;cases dy with
  | tup _=>cases sy
  | lst _=>cases sy
  | dic _ _=>cases sy
  | non=>rw[Rep]at hy;subst hy;cases ry;exact SeqAt.RcAt.int_none b0 t
  | bl b1=>rw[Rep]at hy;subst hy;cases ry;exact SeqAt.RcAt.int_bool b0 t b1
  | int b1=>rw[Rep]at hy;subst hy;obtain⟨t1,rfl⟩:=ry;exact SeqAt.RcAt.int_int b0 t b1 t1
  | str b1=>rw[Rep]at hy;subst hy;obtain⟨t1,rfl⟩:=ry;exact SeqAt.RcAt.int_str b0 t b1 t1
 | str b0 =>
  rw[Rep]at hx;subst hx;obtain⟨t,rfl⟩:=rx;cases dy with
  | tup _=>cases sy
  | lst _=>cases sy
  | dic _ _=>cases sy
  | non=>rw[Rep]at hy;subst hy;cases ry;exact SeqAt.RcAt.str_none b0 t
  | bl b1=>rw[Rep]at hy;subst hy;cases ry;exact SeqAt.RcAt.str_bool b0 t b1
  | int b1=>rw[Rep]at hy;subst hy;obtain⟨t1,rfl⟩:=ry;exact SeqAt.RcAt.str_int b0 t b1 t1
  | str b1=>rw[Rep]at hy;subst hy;obtain⟨t1,rfl⟩:=ry;exact SeqAt.RcAt.str_str b0 t b1 t1
inductive RCmp (K:Frag) (o:Cop) (x:V) (y:V) (H:Hp) (Q:VK):Prop
 | mk (F:Fz) (dx:D) (dy:D) (k:Bool) (nx:Now K F H dx x) (ny:Now K F H dy y) (hc:cmpop o dx dy=ya k) (q:Q (.bl k) H):RCmp K o x y H Q
def rCmp(K:Frag)(o:Cop):R2:=RCmp K o
theorem zua(hu:X.A.units+64<ju):OpR X (je .Eq) (rCmp X.K .eq):=by
 rintro pins s σ H x y v u Q I rx ry ⟨F,dx,dy,k,nx,ny,hc,q⟩
 replace hc:(if dx.deep 8&&dy.deep 8 then ya (D.eq dx dy)else yk)=ya k:=hc
 split at hc
 ·rename_i hd
  rw[yr]at hd;cases hc;have fin:EP X pins σ Q (.bool (D.eq dx dy)) s:=⟨.bl _,H,I,rfl,q⟩;by_cases h:dx.scal=yi\/dy.scal=yi
  ·exact(zj9 I 8 (A:=X.A) (by lia) hd.1 hd.2 nx.all ny.all rx ry).2 h _ _ _ _ fin
  ·have hx:dx.scal=yl:=by cases e:dx.scal <;> simp_all
   have hy:dy.scal=yl:=by cases e:dy.scal <;> simp_all
   exact zmq (A:=X.A) (s:=s) nx.all ny.all rx ry hx hy _ _ _ _ fin
 ·cases hc
theorem zcb{A:x5}{dx dy:D}{x y:V}{u v:yh}(hx:Rep X.K F H dx x)(hy:Rep X.K F H dy y)(rx:RelV x u)(ry:RelV y v)(sx:dx.scal=yl)(sy:dy.scal=yl):SeqAt.RcNeAt A s u v (!D.eq dx dy):=by
 cases dx with
 | tup _=>cases sx
 | lst _=>cases sx
 | dic _ _=>cases sx
 | non =>
  rw[Rep]at hx;subst hx;cases rx;cases dy with
  | tup _=>cases sy
  | lst _=>cases sy
  | dic _ _=>cases sy
  | non=>rw[Rep]at hy;subst hy;cases ry;exact SeqAt.RcNeAt.none_none
  | bl b1=>rw[Rep]at hy;subst hy;cases ry;exact SeqAt.RcNeAt.none_bool  b1
  | int b1=>rw[Rep]at hy;subst hy;obtain⟨t1,rfl⟩:=ry;exact SeqAt.RcNeAt.none_int  b1 t1
  | str b1=>rw[Rep]at hy;subst hy;obtain⟨t1,rfl⟩:=ry;exact SeqAt.RcNeAt.none_str  b1 t1
 | bl b0 =>
  rw[Rep]at hx;subst hx;cases rx;cases dy with
  | tup _=>cases sy
  | lst _=>cases sy
  | dic _ _=>cases sy
  | non=>rw[Rep]at hy;subst hy;cases ry;exact SeqAt.RcNeAt.bool_none b0
  | bl b1=>rw[Rep]at hy;subst hy;cases ry;exact SeqAt.RcNeAt.bool_bool b0 b1
  | int b1=>rw[Rep]at hy;subst hy;obtain⟨t1,rfl⟩:=ry;exact SeqAt.RcNeAt.bool_int b0 b1 t1
  | str b1=>rw[Rep]at hy;subst hy;obtain⟨t1,rfl⟩:=ry;exact SeqAt.RcNeAt.bool_str b0 b1 t1
 | int b0 =>
  rw[Rep]at hx;subst hx;obtain⟨t,rfl⟩:=rx;cases dy with
  | tup _=>cases sy
  | lst _=>cases sy
  | dic _ _=>cases sy
  | non=>rw[Rep]at hy;subst hy;cases ry;exact SeqAt.RcNeAt.int_none b0 t
  | bl b1=>rw[Rep]at hy;subst hy;cases ry;exact SeqAt.RcNeAt.int_bool b0 t b1
  | int b1=>rw[Rep]at hy;subst hy;obtain⟨t1,rfl⟩:=ry;exact SeqAt.RcNeAt.int_int b0 t b1 t1
  | str b1=>rw[Rep]at hy;subst hy;obtain⟨t1,rfl⟩:=ry;exact SeqAt.RcNeAt.int_str b0 t b1 t1
 | str b0 =>
  rw[Rep]at hx;subst hx;obtain⟨t,rfl⟩:=rx;cases dy with
  | tup _=>cases sy
  | lst _=>cases sy
  | dic _ _=>cases sy
  | non=>rw[Rep]at hy;subst hy;cases ry;exact SeqAt.RcNeAt.str_none b0 t
  | bl b1=>rw[Rep]at hy;subst hy;cases ry;exact SeqAt.RcNeAt.str_bool b0 t b1
  | int b1=>rw[Rep]at hy;subst hy;obtain⟨t1,rfl⟩:=ry;exact SeqAt.RcNeAt.str_int b0 t b1 t1
  | str b1=>rw[Rep]at hy;subst hy;obtain⟨t1,rfl⟩:=ry;exact SeqAt.RcNeAt.str_str b0 t b1 t1
theorem zut(I:Inv X pins σ H s){A:x5}{dx dy:D}{x y:V}{u v:yh}(hu:A.units+8<ju)(hx:dx.deep 8=yl)(hy:dy.deep 8=yl)(nx:Rep X.K F H dx x)(ny:Rep X.K F H dy y)(rx:RelV x u)(ry:RelV y v) :
  SeqAt.RcNeAt A s u v (!D.eq dx dy):=by
 have ih:=λ{dx dy:D} {x y:V} {u v:yh} (a:dx.deep 7=yl) (b:dy.deep 7=yl) (c:Rep X.K F H dx x) (d:Rep X.K F H dy y) (e:RelV x u) (f:RelV y v)=>(zj9 I 7 (A:=A.in1) (by show A.units+1+7<ju;lia) a b c d e f).1
 have hu':A.units<ju:=by lia
 cases dx with
 | tup l =>
  rw[Rep]at nx;obtain⟨a,xs,rfl,h1,h2⟩:=id nx;cases(show u=yw a from rx);obtain⟨its,v1,p1,_⟩:=I.tuple h1.seq;cases dy with
  | tup m =>
   obtain⟨b,ys,rfl,h3,h4⟩:=(by rw[Rep]at ny;exact ny:∃a xs,y=.ref a/\FT X.K F H a xs/\Reps X.K F H m xs);cases(show v=yw b from ry);obtain⟨its2,v2,p2,_⟩:=I.tuple h3.seq;have q:=SeqAt.RcNeAt.tuples (A:=A) (s:=s) p1 p2 hu' (zdl ih hx hy h2 h4 v1 v2);rw[yt,yt,← v1.length,← v2.length,← h2.length,← h4.length]at q
   first | rw[PY.zaa,zag] | rw[PY.zas,zag]
   exact q
  | lst m =>
   obtain⟨b,ys,rfl,h3,h4⟩:=(by rw[Rep]at ny;exact ny:∃a xs,y=.ref a/\FL X.K F H a xs/\Reps X.K F H m xs);cases(show v=yw b from ry);obtain⟨its2,v2,p2,_⟩:=I.list h3.seq;exact SeqAt.RcNeAt.tuple_list p1 p2.isList hu'
  | non=>rw[Rep]at ny;subst ny;cases ry;exact SeqAt.RcNeAt.tuple_none p1 hu'
  | bl b=>rw[Rep]at ny;subst ny;cases ry;exact SeqAt.RcNeAt.tuple_bool b p1 hu'
  | int b=>rw[Rep]at ny;subst ny;obtain⟨t,rfl⟩:=ry;exact SeqAt.RcNeAt.tuple_int b t p1 hu'
  | str b=>rw[Rep]at ny;subst ny;obtain⟨t,rfl⟩:=ry;exact SeqAt.RcNeAt.tuple_str b t p1 hu'
  | dic _ _=>exact nomatch (show yi=yl from hy)
 | lst l =>
  rw[Rep]at nx;obtain⟨a,xs,rfl,h1,h2⟩:=id nx;cases(show u=yw a from rx);obtain⟨its,v1,p1,_⟩:=I.list h1.seq;cases dy with
  | lst m =>
   obtain⟨b,ys,rfl,h3,h4⟩:=(by rw[Rep]at ny;exact ny:∃a xs,y=.ref a/\FL X.K F H a xs/\Reps X.K F H m xs);cases(show v=yw b from ry);obtain⟨its2,v2,p2,_⟩:=I.list h3.seq
   first | rw[PY.zaa,zag] | rw[PY.zas,zag]
   by_cases hz:l.length=m.length
   ·have hsz:its.toArray.size=its2.toArray.size:=by rw[yt,yt,← v1.length,← v2.length,← h2.length,← h4.length,hz]
    have q:=SeqAt.RcNeAt.lists (A:=A) (s:=s) p1.isList p2.isList hsz hu' (zdl ih hx hy h2 h4 v1 v2);rw[yt,← v1.length,← h2.length]at q;rw[hz,ycf,beq_self_eq_true,yc6,← hz];exact q
   ·have hsz:(its.toArray.size != its2.toArray.size)=yl:=by
     rw[yt,yt,← v1.length,← v2.length,← h2.length,← h4.length];simpa using hz
    have q:=SeqAt.RcNeAt.lists_lengths (A:=A) (s:=s) p1.isList p2.isList hsz hu';rw[show(l.length==m.length)=yi by simpa using hz,uq];exact q
  | tup m =>
   obtain⟨b,ys,rfl,h3,h4⟩:=(by rw[Rep]at ny;exact ny:∃a xs,y=.ref a/\FT X.K F H a xs/\Reps X.K F H m xs);cases(show v=yw b from ry);obtain⟨its2,v2,p2,_⟩:=I.tuple h3.seq;exact SeqAt.RcNeAt.list_tuple p1.isList p2 hu'
  | non=>rw[Rep]at ny;subst ny;cases ry;exact SeqAt.RcNeAt.list_none p1.isList hu'
  | bl b=>rw[Rep]at ny;subst ny;cases ry;exact SeqAt.RcNeAt.list_bool b p1.isList hu'
  | int b=>rw[Rep]at ny;subst ny;obtain⟨t,rfl⟩:=ry;exact SeqAt.RcNeAt.list_int b t p1.isList hu'
  | str b=>rw[Rep]at ny;subst ny;obtain⟨t,rfl⟩:=ry;exact SeqAt.RcNeAt.list_str b t p1.isList hu'
  | dic _ _=>exact nomatch (show yi=yl from hy)
 | non =>
  cases dy with
  | tup m =>
   obtain⟨b,ys,rfl,h3,h4⟩:=(by rw[Rep]at ny;exact ny:∃a xs,y=.ref a/\FT X.K F H a xs/\Reps X.K F H m xs);cases(show v=yw b from ry);obtain⟨its2,v2,p2,_⟩:=I.tuple h3.seq;rw[Rep]at nx;subst nx;cases rx;exact SeqAt.RcNeAt.none_tuple  p2 hu'
  | lst m =>
   obtain⟨b,ys,rfl,h3,h4⟩:=(by rw[Rep]at ny;exact ny:∃a xs,y=.ref a/\FL X.K F H a xs/\Reps X.K F H m xs);cases(show v=yw b from ry);obtain⟨its2,v2,p2,_⟩:=I.list h3.seq;rw[Rep]at nx;subst nx;cases rx;exact SeqAt.RcNeAt.none_list  p2.isList hu'
  | dic _ _=>exact nomatch (show yi=yl from hy)
  | _=>exact zcb nx ny rx ry rfl rfl
 | bl b0 =>
  cases dy with
  | tup m =>
   obtain⟨b,ys,rfl,h3,h4⟩:=(by rw[Rep]at ny;exact ny:∃a xs,y=.ref a/\FT X.K F H a xs/\Reps X.K F H m xs);cases(show v=yw b from ry);obtain⟨its2,v2,p2,_⟩:=I.tuple h3.seq;rw[Rep]at nx;subst nx;cases rx;exact SeqAt.RcNeAt.bool_tuple b0 p2 hu'
  | lst m =>
   obtain⟨b,ys,rfl,h3,h4⟩:=(by rw[Rep]at ny;exact ny:∃a xs,y=.ref a/\FL X.K F H a xs/\Reps X.K F H m xs);cases(show v=yw b from ry);obtain⟨its2,v2,p2,_⟩:=I.list h3.seq;rw[Rep]at nx;subst nx;cases rx;exact SeqAt.RcNeAt.bool_list b0 p2.isList hu'
  | dic _ _=>exact nomatch (show yi=yl from hy)
  | _=>exact zcb nx ny rx ry rfl rfl
 | int b0 =>
  cases dy with
  | tup m =>
   obtain⟨b,ys,rfl,h3,h4⟩:=(by rw[Rep]at ny;exact ny:∃a xs,y=.ref a/\FT X.K F H a xs/\Reps X.K F H m xs);cases(show v=yw b from ry);obtain⟨its2,v2,p2,_⟩:=I.tuple h3.seq;rw[Rep]at nx;subst nx;obtain⟨t,rfl⟩:=rx;exact SeqAt.RcNeAt.int_tuple b0 t p2 hu'
  | lst m =>
   obtain⟨b,ys,rfl,h3,h4⟩:=(by rw[Rep]at ny;exact ny:∃a xs,y=.ref a/\FL X.K F H a xs/\Reps X.K F H m xs);cases(show v=yw b from ry);obtain⟨its2,v2,p2,_⟩:=I.list h3.seq;rw[Rep]at nx;subst nx;obtain⟨t,rfl⟩:=rx;exact SeqAt.RcNeAt.int_list b0 t p2.isList hu'
  | dic _ _=>exact nomatch (show yi=yl from hy)
  | _=>exact zcb nx ny rx ry rfl rfl
 | str b0 =>
  cases dy with
  | tup m =>
   obtain⟨b,ys,rfl,h3,h4⟩:=(by rw[Rep]at ny;exact ny:∃a xs,y=.ref a/\FT X.K F H a xs/\Reps X.K F H m xs);cases(show v=yw b from ry);obtain⟨its2,v2,p2,_⟩:=I.tuple h3.seq;rw[Rep]at nx;subst nx;obtain⟨t,rfl⟩:=rx;exact SeqAt.RcNeAt.str_tuple b0 t p2 hu'
  | lst m =>
   obtain⟨b,ys,rfl,h3,h4⟩:=(by rw[Rep]at ny;exact ny:∃a xs,y=.ref a/\FL X.K F H a xs/\Reps X.K F H m xs);cases(show v=yw b from ry);obtain⟨its2,v2,p2,_⟩:=I.list h3.seq;rw[Rep]at nx;subst nx;obtain⟨t,rfl⟩:=rx;exact SeqAt.RcNeAt.str_list b0 t p2.isList hu'
  | dic _ _=>exact nomatch (show yi=yl from hy)
  | _=>exact zcb nx ny rx ry rfl rfl
 | dic _ _=>exact nomatch (show yi=yl from hx)
theorem zv5(hu:X.A.units+64<ju):OpR X (je .NotEq) (rCmp X.K .ne):=by
 rintro pins s σ H x y v u Q I rx ry ⟨F,dx,dy,k,nx,ny,hc,q⟩
 replace hc:(if dx.deep 8&&dy.deep 8 then ya (!D.eq dx dy)else yk)=ya k:=hc
 split at hc
 ·rename_i hd
  rw[yr]at hd;cases hc;exact zut I (A:=X.A) (by lia) hd.1 hd.2 nx.all ny.all rx ry _ _ _ _ ⟨.bl _,H,I,rfl,q⟩
 ·cases hc
theorem zjv:∀(a b:List Int),PY.lexLt a b=HT.lexLt a b
 | [],[]=>rfl
 | [],_::_=>rfl
 | _::_,[]=>rfl
 | x::a,y::b=>by
  by_cases e:x=y <;> simp[PY.lexLt,HT.lexLt,e,zjv a b]
theorem zws(hu:X.A.units+64<ju):OpR X (je .Lt) (rCmp X.K .lt):=by
 rintro pins s σ H x y v u Q I rx ry ⟨F,dx,dy,k,nx,ny,hc,q⟩
 replace hc:D.lt dx dy=ya k:=hc
 cases dx with
 | int a =>
  cases dy <;> first | (cases hc;done) | skip
  rename_i b;cases hc;exact zww pins s σ H x y v u Q I rx ry ⟨a,b,nx.int,ny.int,q⟩
 | tup a =>
  cases dy <;> first | (cases hc;done) | skip
  rename_i b
  replace hc:(match ints? a,ints? b with | some x,ya y=>ya (PY.lexLt x y) | _,_=>yk)=ya k:=hc
  cases e1:ints? a with
  | none=>rw[e1]at hc;cases hc
  | some ns =>
   cases e2:ints? b with
   | none=>rw[e1,e2]at hc;cases hc
   | some ms =>
    rw[e1,e2]at hc;cases hc;refine zKK λγ κ=>?_;obtain⟨p,xs,rfl,h1,h2⟩:=nx.tup;obtain⟨p',ys,rfl,h3,h4⟩:=ny.tup;rw[zad e1 h2]at h1;rw[zad e2 h4]at h3;refine κ ?_;exact zuk (by lia) pins s σ H _ _ v u Q I rx ry ⟨p,p',ns,ms,rfl,rfl,h1.seq,h3.seq,by rw[← zjv];exact q⟩
 | _=>first | (cases hc;done) | (cases dy <;> cases hc)
theorem zuy(hu:X.A.units+64<ju):OpR X (je .LtE) (rCmp X.K .le):=by
 rintro pins s σ H x y v u Q I rx ry ⟨F,dx,dy,k,nx,ny,hc,q⟩;cases dx with
 | int a =>
  cases dy <;> first | (cases hc;done) | skip
  rename_i b;cases hc;exact zw6 pins s σ H x y v u Q I rx ry ⟨a,b,nx.int,ny.int,q⟩
 | _=>first | (cases hc;done) | (cases dy <;> cases hc)
theorem zvz:OpR X (je .Gt) (rCmp X.K .gt):=by
 rintro pins s σ H x y v u Q I rx ry ⟨F,dx,dy,k,nx,ny,hc,q⟩;cases dx <;> first | (cases hc;done) | (cases dy <;> first | (cases hc;done) | skip)
 rename_i a b;cases hc;exact zxc pins s σ H x y v u Q I rx ry ⟨a,b,nx.int,ny.int,q⟩
theorem zun:OpR X (je .GtE) (rCmp X.K .ge):=by
 rintro pins s σ H x y v u Q I rx ry ⟨F,dx,dy,k,nx,ny,hc,q⟩;cases dx <;> first | (cases hc;done) | (cases dy <;> first | (cases hc;done) | skip)
 rename_i a b;cases hc;exact zw3 pins s σ H x y v u Q I rx ry ⟨a,b,nx.int,ny.int,q⟩
theorem Rep.isN{K:Frag}{d:D}{x:V}(h:Rep K F H d x):decide (x=.non)=(match d with | .non=>yl | _=>yi):=by
 cases d <;> rw[Rep]at h <;> first | (subst h;rfl) | (obtain⟨a,_,rfl,_⟩:=h;rfl)
theorem Rep.isB{K:Frag}{d:D}{x:V}{c:Bool}(h:Rep K F H d x):decide (x=.bl c)=(match d with | .bl b=>b==c | _=>yi):=by
 cases d <;> rw[Rep]at h <;> first | (subst h;first | rfl | (rename_i b;cases b <;> cases c <;> rfl)) | (obtain⟨a,_,rfl,_⟩:=h;rfl)
theorem zuu:OpR X (je .Is) (rCmp X.K .isC):=by
 rintro pins s σ H x y v u Q I rx ry ⟨F,dx,dy,k,nx,ny,hc,q⟩;cases dy with
 | non =>
  have e:k=decide (x=.non):=by rw[nx.all.isN];cases dx <;> exact(qh hc).symm
  subst e;exact zvn pins s σ H x y v u Q I rx ry ⟨ny.non,q⟩
 | bl c =>
  have e:k=decide (x=.bl c):=by rw[nx.all.isB];cases dx <;> exact(qh hc).symm
  subst e;exact zv8 pins s σ H x y v u Q I rx ry ⟨c,ny.bl,q⟩
 | _=>first | (cases hc;done) | (cases dx <;> cases hc)
theorem ztd:OpR X (je .IsNot) (rCmp X.K .notC):=by
 rintro pins s σ H x y v u Q I rx ry ⟨F,dx,dy,k,nx,ny,hc,q⟩;cases dy with
 | non =>
  have e:k = !decide (x=.non):=by rw[nx.all.isN];cases dx <;> exact(qh hc).symm
  subst e;exact zry pins s σ H x y v u Q I rx ry ⟨ny.non,q⟩
 | bl c =>
  have e:k = !decide (x=.bl c):=by rw[nx.all.isB];cases dx <;> exact(qh hc).symm
  subst e;exact zr1 pins s σ H x y v u Q I rx ry ⟨c,ny.bl,q⟩
 | _=>first | (cases hc;done) | (cases dx <;> cases hc)
noncomputable def likeU(K:Frag)(H:Hp)(dx:D)(u:yh):Bool:=@decide (∃d v,RelV v u/\Rep K Ev H d v/\D.eq d dx=yl) (ybb _)
theorem zky(I:Inv X pins σ H s){dx d:D}{x:V}{u:yh}(r:RelV x u)(h:Rep X.K Ev H d x):likeU X.K H dx u=D.eq d dx:=by
 unfold likeU;cases e:D.eq d dx with
 | true=>exact@decide_eq_true _ (ybb _) ⟨d,x,r,h,e⟩
 | false =>
  refine@decide_eq_false _ (ybb _) ?_;rintro⟨d',x',r',h',e'⟩;have:=r'.inj r;subst this;rw[Rep.inj I h' h,e]at e';cases e'
theorem zbk(I:Inv X pins σ H s){dx:D}:∀{l:List D} {xs:List V} {its:List yh},Reps X.K Ev H l xs->Vals xs its->its.any (likeU X.K H dx)=memD dx l
 | [],xs,its,r,v=>by
  rw[Reps]at r;subst r;cases v;rfl
 | d::l,xs,its,r,v=>by
  rw[Reps]at r;obtain⟨x,xr,rfl,h1,h2⟩:=r;cases v with
  | cons a b =>
   rw[wz,zky I a h1,zbk I h2 b];rfl
theorem zbt(I:Inv X pins σ H s){A:x5}{dx:D}{x:V}{u:yh}(hu:A.units+8<ju)(hd:dx.deep 8=yl)(nx:Rep X.K Ev H dx x)(rx:RelV x u):∀{l:List D} {xs:List V} {its:List yh},l.all (D.deep 8)=yl->Reps X.K Ev H l xs->Vals xs its ->
  ∀w∈its,SeqAt.EqAt A s w u (likeU X.K H dx w)
 | [],xs,its,_,r,v=>by
  rw[Reps]at r;subst r;cases v;intro w hw;cases hw
 | d::l,xs,its,ha,r,v=>by
  rw[Reps]at r;obtain⟨y,xr,rfl,h1,h2⟩:=r;rw[wn,yr]at ha;cases v with
  | cons a b =>
   intro w hw;rcases yn.mp hw with rfl | hw
   ·rw[zky I a h1]
    exact(zj9 I 8 (A:=A) hu ha.1 hd h1 nx a rx).1
   ·exact zbt I hu hd nx rx ha.2 h2 b w hw
theorem zwp(hu:X.A.units+64<ju):OpR X (je .In) (rCmp X.K .isin):=by
 rintro pins s σ H x y v u Q I rx ry ⟨F,dx,dy,k,nx,ny,hc,q⟩;cases dy with
 | tup l =>
  have hc':(if dx.deep 8&&l.all (D.deep 8)then ya (memD dx l)else yk)=ya k:=by cases dx <;> exact hc
  split at hc'
  ·rename_i hd
   rw[yr]at hd;cases hc';obtain⟨p,xs,rfl,h1,h2⟩:=(by have:=ny.all;rw[Rep]at this;exact this:∃a xs,y=.ref a/\FT X.K Ev H a xs/\Reps X.K Ev H l xs);cases(show u=yw p from ry);obtain⟨its,r,pl,hz⟩:=I.tuple h1.seq;refine SeqAt.in_tupleAt (likeU X.K H dx) pl (λw hw=>zbt I (by show X.A.units+1+8<ju;lia) hd.1 nx.all rx hd.2 h2 r w (by simpa using hw)) ⟨.bl _,H,I,rfl,?_⟩;rw[show its.toArray.any (likeU X.K H dx)=its.any (likeU X.K H dx)by simp,zbk I h2 r];exact q
  ·cases hc'
 | lst l =>
  have hc':(if dx.deep 8&&l.all (D.deep 8)then ya (memD dx l)else yk)=ya k:=by cases dx <;> exact hc
  split at hc'
  ·rename_i hd
   rw[yr]at hd;cases hc';obtain⟨p,xs,rfl,h1,h2⟩:=(by have:=ny.all;rw[Rep]at this;exact this:∃a xs,y=.ref a/\FL X.K Ev H a xs/\Reps X.K Ev H l xs);cases(show u=yw p from ry);obtain⟨its,r,pl,hz⟩:=I.list h1.seq;refine SeqAt.in_listAt (likeU X.K H dx) pl.isList (λw hw=>zbt I (by show X.A.units+1+8<ju;lia) hd.1 nx.all rx hd.2 h2 r w (by simpa using hw)) ⟨.bl _,H,I,rfl,?_⟩;rw[show its.toArray.any (likeU X.K H dx)=its.any (likeU X.K H dx)by simp,zbk I h2 r];exact q
  ·cases hc'
 | dic ks vs =>
  have hc':((keyAt dx ks).map λo=>o.isSome)=ya k:=by cases dx <;> exact hc
  obtain⟨o,h1,h2⟩:=zb hc';obtain⟨a,us,rfl,h3,_⟩:=ny.dic;cases(show u=yw a from ry);exact zwl (by lia) I h3 nx h1 rx λs' I'=>⟨.bl _,H,I',rfl,by rw[h2];exact q⟩
 | _=>first | (cases hc;done) | (cases dx <;> cases hc)
theorem zt3(hu:X.A.units+64<ju):OpR X (je .NotIn) (rCmp X.K .notin):=by
 rintro pins s σ H x y v u Q I rx ry ⟨F,dx,dy,k,nx,ny,hc,q⟩;cases dy with
 | tup l =>
  have hc':(if dx.deep 8&&l.all (D.deep 8)then ya (!memD dx l)else yk)=ya k:=by cases dx <;> exact hc
  split at hc'
  ·rename_i hd
   rw[yr]at hd;cases hc';obtain⟨p,xs,rfl,h1,h2⟩:=(by have:=ny.all;rw[Rep]at this;exact this:∃a xs,y=.ref a/\FT X.K Ev H a xs/\Reps X.K Ev H l xs);cases(show u=yw p from ry);obtain⟨its,r,pl,hz⟩:=I.tuple h1.seq;refine SeqAt.notIn_tupleAt (likeU X.K H dx) pl (λw hw=>zbt I (by show X.A.units+1+8<ju;lia) hd.1 nx.all rx hd.2 h2 r w (by simpa using hw)) ⟨.bl _,H,I,rfl,?_⟩;rw[show its.toArray.any (likeU X.K H dx)=its.any (likeU X.K H dx)by simp,zbk I h2 r];exact q
  ·cases hc'
 | lst l =>
  have hc':(if dx.deep 8&&l.all (D.deep 8)then ya (!memD dx l)else yk)=ya k:=by cases dx <;> exact hc
  split at hc'
  ·rename_i hd
   rw[yr]at hd;cases hc';obtain⟨p,xs,rfl,h1,h2⟩:=(by have:=ny.all;rw[Rep]at this;exact this:∃a xs,y=.ref a/\FL X.K Ev H a xs/\Reps X.K Ev H l xs);cases(show u=yw p from ry);obtain⟨its,r,pl,hz⟩:=I.list h1.seq;refine SeqAt.notIn_listAt (likeU X.K H dx) pl.isList (λw hw=>zbt I (by show X.A.units+1+8<ju;lia) hd.1 nx.all rx hd.2 h2 r w (by simpa using hw)) ⟨.bl _,H,I,rfl,?_⟩;rw[show its.toArray.any (likeU X.K H dx)=its.any (likeU X.K H dx)by simp,zbk I h2 r];exact q
  ·cases hc'
 | dic ks vs =>
  have hc':((keyAt dx ks).map λo=>!o.isSome)=ya k:=by cases dx <;> exact hc
  obtain⟨o,h1,h2⟩:=zb hc';obtain⟨a,us,rfl,h3,_⟩:=ny.dic;cases(show u=yw a from ry);exact zoz (by lia) I h3 nx h1 rx λs' I'=>⟨.bl _,H,I',rfl,by rw[h2];exact q⟩
 | _=>first | (cases hc;done) | (cases dx <;> cases hc)
theorem znq(hu:X.A.units+64<ju):∀o:CmpOp,OpR X (je o) (rCmp X.K (cCop o))
 | .Eq=>zua hu
 | .NotEq=>zv5 hu
 | .Lt=>zws hu
 | .LtE=>zuy hu
 | .Gt=>zvz
 | .GtE=>zun
 | .Is=>zuu
 | .IsNot=>ztd
 | .In=>zwp hu
 | .NotIn=>zt3 hu
inductive RIxD (K:Frag) (x:V) (y:V) (H:Hp) (Q:VK):Prop
 | mk (F:Fz) (dx:D) (dy:D) (d:D) (f:Fl) (nx:Now K F H dx x) (ny:Now K F H dy y) (hc:index dx dy=ya (d,f)) (q:Res K F H d f Q):RIxD K x y H Q
def rIxD(K:Frag):R2:=RIxD K
theorem zk5(n:Nat)(i:Int)(k:Nat)(h:place n i=ya k):ixN n i=ya k:=by
 unfold place at h;unfold ixN;by_cases h0:0<=i
 ·rw[if_pos h0]at h ⊢
  by_cases h1:i.toNat<n
  ·rw[if_pos h1]at h
   rw[if_pos (by lia)];exact h
  ·rw[if_neg h1]at h;cases h
 ·rw[if_neg h0]at h ⊢
  by_cases h1:0<=i+n
  ·rw[if_pos h1]at h
   rw[if_pos (by lia)];exact h
  ·rw[if_neg h1]at h;cases h
theorem zuq{K:Frag}{l:List D}{xs:List V}{i:Int}{d:D}{f:Fl}(r:Reps K F H l xs)(h:((place l.length i).bind λk=>(l[k]?).map λd=>(d,Fl.solid))=ya (d,f)):f=.solid/\∃v,atI xs i=ya v/\Rep K F H d v:=by
 cases e:place l.length i with
 | none=>rw[e]at h;cases h
 | some k =>
  rw[e]at h;cases e2:l[k]? with
  | none=>rw[ye,e2]at h;cases h
  | some d' =>
   rw[ye,e2]at h;cases h;obtain⟨v,h1,h2⟩:=r.get e2;refine⟨rfl,v,?_,h2⟩;unfold atI;rw[← r.length,zk5 _ _ _ e];exact h1
theorem zye(hu:X.A.units+64<ju):IxR X (rIxD X.K):=by
 intro value slice pins s σ H x y v u Q I rx ry ζ0 hs;refine zKK λγ κ=>?_;obtain⟨F,dx,dy,d,f,nx,ny,hc,q⟩:=ζ0;refine κ ?_;cases dx with
 | tup l =>
  cases dy <;> first | (cases hc;done) | skip
  rename_i i
  replace hc:((place l.length i).bind λk=>(l[k]?).map λd=>(d,Fl.solid))=ya (d,f):=hc
  refine zKK λγ κ=>?_;obtain⟨p,xs,rfl,h1,h2⟩:=nx.tup;obtain⟨rfl,w,h3,h4⟩:=zuq h2 hc;refine κ ?_;exact zwb value slice pins s σ H _ _ v u Q I rx ry ⟨p,xs,i,w,rfl,ny.int,h1.seq,h3,q.here h4⟩ hs
 | lst l =>
  cases dy <;> first | (cases hc;done) | skip
  rename_i i
  replace hc:((place l.length i).bind λk=>(l[k]?).map λd=>(d,Fl.solid))=ya (d,f):=hc
  refine zKK λγ κ=>?_;obtain⟨p,xs,rfl,h1,h2,_⟩:=nx.lst;obtain⟨rfl,w,h3,h4⟩:=zuq h2 hc;refine κ ?_;exact zsz value slice pins s σ H _ _ v u Q I rx ry ⟨p,xs,i,w,rfl,ny.int,h1,h3,q.here h4⟩ hs
 | dic ks vs =>
  have hc':((keyAt dy ks).bind λo=>o.bind λj=>(vs[j]?).map λd=>(d,Fl.solid))=ya (d,f):=by cases dy <;> exact hc
  refine zKK λγ κ=>?_;obtain⟨o,h1,h2⟩:=za hc';obtain⟨j,rfl,h4⟩:=za h2;obtain⟨d',h5,h6⟩:=zb h4;cases h6;obtain⟨a,us,rfl,h3,hr⟩:=nx.dic;refine κ ?_;cases(show v=yw a from rx);obtain⟨w,hw,rw'⟩:=hr.get h5;exact zts (h3.typeIs I) hs (zsv (by lia) I h3 ny h1 hw ry λu' s' I' r'=>⟨w,H,I',r',q.here rw'⟩)
 | _=>first | (cases hc;done) | (cases dy <;> cases hc)
def rSlD(K:Frag):V->Option Int->Option Int->Hp->VK->Prop:=λx lo hi H Q=>∃F dx d f,(∀a,F a->H a≠yk)/\Now K F H dx x/\slice dx lo hi=ya (d,f)/\Res K F H d f Q
theorem zk4(n d:Nat)(o:Option Int):six n d o=HT.sIx n d o:=by cases o <;> rfl
theorem zk6{K:Frag}{l:List D}{xs:List V}{lo hi:Option Int}(r:Reps K F H l xs):Reps K F H (cutL l lo hi) (cutV xs lo hi):=by
 unfold cutL cutV;rw[r.length,zk4,zk4];exact(r.drop _).take _
theorem zx7:SlR X (rSlD X.K):=by
 intro pins s σ H x v vl vu lo hi sl Q I rx hs pl pu ζ1;refine zKK λγ κ=>?_;obtain⟨F,dx,d,f,dom,nx,hc,q⟩:=ζ1;refine κ ?_;cases dx with
 | tup l =>
  cases hc;refine zKK λγ κ=>?_;obtain⟨p,xs,rfl,h1,h2⟩:=nx.tup;refine κ ?_;by_cases hw:HT.sIx xs.length 0 lo=0/\HT.sIx xs.length xs.length hi=xs.length
  ·refine zti pins s σ H _ v vl vu lo hi sl Q I rx hs pl pu ⟨p,xs,rfl,h1.seq,hw,q.here ?_⟩
   have e:cutL l lo hi=l:=by
    unfold cutL;rw[zk4,zk4,h2.length,hw.1,hw.2,ybk,yen,← h2.length,ydg]
   rw[e,Rep];exact⟨p,xs,rfl,h1,h2⟩
  ·exact zup pins s σ H _ v vl vu lo hi sl Q I rx hs pl pu ⟨p,xs,rfl,h1.seq,hw,q.tup (zk6 h2)⟩
 | lst l =>
  cases hc;refine zKK λγ κ=>?_;obtain⟨p,xs,rfl,h1,h2,_⟩:=nx.lst;refine κ ?_;exact zsu pins s σ H _ v vl vu lo hi sl Q I rx hs pl pu ⟨p,xs,rfl,h1,q.lst dom (zk6 h2)⟩
 | _=>simp[slice]at hc
def tyS:Ty->String
 | .int=>"int" | .bool=>"bool" | .str=>"str" | .tuple=>"tuple" | .list=>"list"
def kindS:D->String
 | .non=>"NoneType" | .bl _=>"bool" | .int _=>"int" | .str _=>"str" | .tup _=>"tuple" | .lst _=>"list" | .dic _ _=>"dict"
theorem zxj(K:Frag)(d:D)(t:Ty):ye3 K (.type (kindS d)) (.type (tyS t))=ya (isTy t d):=by
 cases d <;> cases t <;> rfl
theorem zwv{d:D}{x:V}(h:Now X.K F H d x):TyV X.K H x (kindS d):=by
 cases d with
 | tup l=>obtain⟨a,xs,rfl,h1,_⟩:=h.tup;exact .tup h1.seq
 | lst l=>obtain⟨a,xs,rfl,h1,_⟩:=h.lst;exact .lst h1
 | dic ks vs=>obtain⟨a,us,rfl,h1,_⟩:=h.dic;exact .dic (.inl (let⟨_,_,_,_,h⟩:=h1;⟨_,h⟩))
 | non=>rw[h.non];exact .non
 | bl b=>rw[h.bl];exact .bl b
 | int b=>rw[h.int];exact .int b
 | str b=>rw[h.str];exact .str b
theorem zu7{d:D}{x:V}{k:Bool}(h:Now X.K F H d x)(e:tru d=ya k):TruV X.K x H k:=by
 cases d with
 | tup l =>
  obtain⟨a,xs,rfl,h1,h2⟩:=h.tup;cases e;refine .inr (.inl ⟨xs,h1.seq,?_⟩);have:=h2.length;cases l <;> cases xs <;> simp_all [D.truthy]
 | lst l =>
  obtain⟨a,xs,rfl,h1,h2,_⟩:=h.lst;cases e;refine .inl ⟨xs,h1,?_⟩;have:=h2.length;cases l <;> cases xs <;> simp_all [D.truthy]
 | dic ks vs=>cases e
 | non=>rw[h.non];cases e;rfl
 | bl b=>rw[h.bl];cases e;rfl
 | int b=>rw[h.int];cases e;rfl
 | str b =>
  rw[h.str];simp only[tru]at e;split at e
  ·rename_i hz
   cases e;refine⟨xh hz (by decide),?_⟩;rw[vh];simp
  ·cases e
inductive RBiD (K:Frag) (b:Bi) (xs:List V) (H:Hp) (Q:VK):Prop
 | mk (x:V) (F:Fz) (dx:D) (d:D) (f:Fl) (e:xs=[x]) (dom:∀a,F a->H a≠yk) (nx:Now K F H dx x) (hb:bltin b dx=ya (d,f)) (q:Res K F H d f Q):RBiD K b xs H Q
def rBiD(K:Frag)(b:Bi):List V->Hp->VK->Prop:=RBiD K b
theorem zug:CallR X (.builtin "len") (rBiD X.K .len):=by
 rintro pins s σ H xs us Q I r ⟨x,F,dx,d,f,e,dom,nx,hc,q⟩;subst e;cases dx with
 | tup l =>
  obtain⟨a,ys,rfl,h1,h2⟩:=nx.tup;cases hc;exact zdc pins s σ H _ us Q I r ⟨a,ys,rfl,.inr h1.seq,by rw[← h2.length];exact q.here zv⟩
 | lst l =>
  obtain⟨a,ys,rfl,h1,h2,_⟩:=nx.lst;cases hc;exact zdc pins s σ H _ us Q I r ⟨a,ys,rfl,.inl h1,by rw[← h2.length];exact q.here zv⟩
 | str z =>
  replace hc:(if z.length<=big then ya (D.int z.length,Fl.solid)else yk)=ya (d,f):=hc
  split at hc
  ·rename_i hz
   cases hc;rw[nx.str]at r;exact zg1 pins s σ H _ us Q I r ⟨z,rfl,ze2 hz,q.here zv⟩
  ·cases hc
 | _=>cases hc
theorem zkv:∀{l:List D} {xs:List V},l.all isBl=yl->Reps X.K F H l xs->∃ks:List Bool,xs=ks.map V.bl/\l.all D.truthy=ks.all id
 | [],xs,_,r=>by rw[Reps]at r;exact⟨[],r,rfl⟩
 | d::l,xs,h,r=>by
  rw[Reps]at r;obtain⟨v,w,rfl,h1,h2⟩:=r;rw[wn,yr]at h;obtain⟨ks,e1,e2⟩:=zkv h.2 h2;cases d with
  | bl b =>
   rw[Rep]at h1;subst h1;exact⟨b::ks,by rw[e1];rfl,by rw[wn,wn,e2];rfl⟩
  | _=>cases h.1
theorem zss(hc:X.calm=yl):CallR X (.builtin "all") (rBiD X.K .all):=by
 intro pins s σ H xs us Q I r ζ2;refine zKK λγ κ=>?_;obtain⟨x,F,dx,d,f,e,dom,nx,hb,q⟩:=ζ2;subst e;refine κ ?_;cases dx with
 | lst l =>
  replace hb:(if l.all isBl then ya (D.bl (l.all D.truthy),Fl.solid)else yk)=ya (d,f):=hb
  split at hb
  ·rename_i hl
   cases hb;refine zKK λγ κ=>?_;obtain⟨a,ys,rfl,h1,h2,_⟩:=nx.lst;obtain⟨ks,e1,e2⟩:=zkv hl h2;subst e1;refine κ ?_;exact zpj pins s σ H _ us Q I r ⟨a,ks,rfl,h1,hc,by rw[← e2];exact q.here zl2⟩
  ·cases hb
 | _=>cases hb
theorem zhp:∀{l:List D} {xs:List V},l.all isBl=yl->Reps X.K F H l xs->∃ks:List Bool,xs=ks.map V.bl/\l.any D.truthy=ks.any id
 | [],xs,_,r=>by rw[Reps]at r;exact⟨[],r,rfl⟩
 | d::l,xs,h,r=>by
  rw[Reps]at r;obtain⟨v,w,rfl,h1,h2⟩:=r;rw[wn,yr]at h;obtain⟨ks,e1,e2⟩:=zhp h.2 h2;cases d with
  | bl b =>
   rw[Rep]at h1;subst h1;exact⟨b::ks,by rw[e1];rfl,by rw[wz,wz,e2];rfl⟩
  | _=>cases h.1
theorem ztn(hc:X.calm=yl):CallR X (.builtin "any") (rBiD X.K .any):=by
 intro pins s σ H xs us Q I r ζ3;refine zKK λγ κ=>?_;obtain⟨x,F,dx,d,f,e,dom,nx,hb,q⟩:=ζ3;subst e;refine κ ?_;cases dx with
 | lst l =>
  replace hb:(if l.all isBl then ya (D.bl (l.any D.truthy),Fl.solid)else yk)=ya (d,f):=hb
  split at hb
  ·rename_i hl
   cases hb;refine zKK λγ κ=>?_;obtain⟨a,ys,rfl,h1,h2,_⟩:=nx.lst;obtain⟨ks,e1,e2⟩:=zhp hl h2;subst e1;refine κ ?_;exact zqe pins s σ H _ us Q I r ⟨a,ks,rfl,h1,hc,by rw[← e2];exact q.here zl2⟩
  ·cases hb
 | _=>cases hb
theorem zpt:CallR X (.type "tuple") (rBiD X.K .tuple):=by
 rintro pins s σ H xs us Q I r ⟨x,F,dx,d,f,e,dom,nx,hb,q⟩;subst e;cases dx with
 | tup l =>
  obtain⟨a,ys,rfl,h1,h2⟩:=nx.tup;cases hb;exact zcn pins s σ H _ us Q I r ⟨a,ys,rfl,.inr ⟨h1.seq,q.here (by rw[Rep];exact⟨a,ys,rfl,h1,h2⟩)⟩⟩
 | lst l =>
  obtain⟨a,ys,rfl,h1,h2,_⟩:=nx.lst;cases hb;exact zcn pins s σ H _ us Q I r ⟨a,ys,rfl,.inl ⟨h1,q.tup h2⟩⟩
 | _=>cases hb
theorem zso:CallR X (.type "list") (rBiD X.K .list):=by
 rintro pins s σ H xs us Q I r ⟨x,F,dx,d,f,e,dom,nx,hb,q⟩;subst e;cases dx with
 | tup l =>
  obtain⟨a,ys,rfl,h1,h2⟩:=nx.tup;cases hb;exact zda pins s σ H _ us Q I r ⟨a,ys,rfl,.inr h1.seq,q.lst dom h2⟩
 | lst l =>
  obtain⟨a,ys,rfl,h1,h2,_⟩:=nx.lst;cases hb;exact zda pins s σ H _ us Q I r ⟨a,ys,rfl,.inl h1,q.lst dom h2⟩
 | _=>cases hb
theorem za2:∀ns:List Int,Reps X.K F H (ns.map .int) (ns.map V.int)
 | []=>.nil
 | _::r=>.cons zv (za2 r)
theorem zgp:∀{l:List D} {nss:List (List Int)} {ys:List V},tups? l=ya nss->Reps X.K F H l ys->l=nss.map tupI/\ys.length=nss.length/\∀i,i<ys.length->nss.getD i []≠[]/\∃a,ys.getD i .non=.ref a/\SqT X.K H a ((nss.getD i []).map V.int)
 | [],nss,ys,h,r=>by
  rw[Reps]at r;subst r;cases h;exact⟨rfl,rfl,λi hi=>by simp at hi⟩
 | .tup l::r,nss,ys,h,hr=>by
  rw[Reps]at hr;obtain⟨v,vs,rfl,h1,h2⟩:=hr;rw[Rep]at h1;obtain⟨a,xs,rfl,ht,hx⟩:=h1;unfold tups? at h;split at h
  ·rename_i x ns hi
   cases hq:tups? r with
   | none=>rw[hq]at h;cases h
   | some nss' =>
    rw[hq]at h;cases h;obtain⟨e1,e2,e3⟩:=zgp hq h2;have e:=zad (X:=X) hi hx;have el:=zji hi;subst e;refine⟨by rw[e1,el];rfl,by simp[e2],λi hi=>?_⟩;cases i with
    | zero=>exact⟨by simp,a,rfl,ht.seq⟩
    | succ i =>
     have:=e3 i (by simpa using hi);simpa using this
  ·cases h
 | .non::_,_,_,h,_=>by simp[tups?]at h
 | .bl _::_,_,_,h,_=>by simp[tups?]at h
 | .int _::_,_,_,h,_=>by simp[tups?]at h
 | .str _::_,_,_,h,_=>by simp[tups?]at h
 | .lst _::_,_,_,h,_=>by simp[tups?]at h
 | .dic _ _::_,_,_,h,_=>by simp[tups?]at h
theorem zod:∀{l:List D} {ys:List V} {i:Nat} {d:D},Reps X.K F H l ys->l[i]? = ya d->Rep X.K F H d (ys.getD i .non)
 | [],_,_,_,_,h=>by simp at h
 | d::ds,ys,i,x,r,h=>by
  rw[Reps]at r;obtain⟨v,vs,rfl,h1,h2⟩:=r;cases i with
  | zero=>simp at h;subst h;exact h1
  | succ i =>
   have:=zod h2 (by simpa using h);simpa using this
theorem zhv{nss:List (List Int)}{ys:List V}(r:Reps X.K F H (nss.map tupI) ys):∀{pp:List Nat},(∀i∈pp,i<nss.length)->Reps X.K F H ((pp.map λi=>nss.getD i []).map tupI) (pp.map λi=>ys.getD i .non)
 | [],_=>by rw[yam,yam,yam,Reps]
 | i::pp,h=>by
  rw[yo,yo,yo,Reps];have hi:=h i yg;refine⟨_,_,rfl,zod r ?_,zhv r λj hj=>h j (yf _ hj)⟩;rw[yy,yc hi,y3,yc hi];rfl
theorem zl7(hc:X.calm=yl)(hu:X.A.units+64<ju):CallR X (.builtin "sorted") (rBiD X.K .sorted):=by
 rintro pins s σ H xs us Q I r ⟨x,F,dx,d,f,e,dom,nx,hb,q⟩;subst e
 have key:∀(l:List D) (a:yq) (ys:List V),x=.ref a->(SqL X.K H a ys\/SqT X.K H a ys)->Reps X.K F H l ys->sortO l=ya (d,f)->y9 (model X.prog X.w) X.A (call (.builtin "sorted") us) (EP X pins σ Q) X.xe s:=λl a ys ex hs hr hb=>by
  subst ex;unfold sortO at hb;cases hi:ints? l with
  | none =>
   rw[hi]at hb;simp only at hb;cases ht:tups? l with
   | none =>
    rw[ht]at hb;simp only at hb;cases hb
   | some nss =>
   rw[ht]at hb;simp only at hb;split at hb
   ·rename_i hl
    cases hb;obtain⟨e1,e2,e3⟩:=zgp (X:=X) ht hr;subst e1;refine zh3 pins s σ H _ us Q I r ⟨a,ys,nss,rfl,hs,e2,e3,by rw[e2];exact hl,λpp l' hp hf=>?_⟩;have hin:∀i∈pp,i<nss.length:=λi hi=>by simpa using hp.pm.mem_iff.mp hi
    have:=zhv hr hin;rw[zdg hp]at this;exact q.lst dom this l' hf
   ·cases hb
  | some ns =>
   rw[hi]at hb;simp only at hb;split at hb
   ·rename_i hl
    cases hb;have e:=zad (X:=X) hi hr;subst e;exact zgz pins s σ H _ us Q I r ⟨a,ns,rfl,hs,hl,q.lst dom (za2 _)⟩
   ·cases hb
 cases dx with
 | tup l=>obtain⟨a,ys,e,h1,h2⟩:=nx.tup;exact key l a ys e (.inr h1.seq) h2 hb
 | lst l=>obtain⟨a,ys,e,h1,h2,_⟩:=nx.lst;exact key l a ys e (.inl h1) h2 hb
 | dic ks vs =>
  have hb:sortK ks=ya (d,f):=hb;obtain⟨a,ys,rfl,⟨ns,rfl,hn,hl,e⟩,h2⟩:=nx.dic;unfold sortK at hb;rw[zb9]at hb;simp only at hb;unfold sortO at hb;rw[zb9]at hb;simp only at hb;split at hb
  ·rename_i hlt
   cases hb;exact zgm hc pins s σ H _ us Q I r ⟨a,ns,ys,rfl,e,hl,hlt,q.lst dom (za2 _)⟩
  ·cases hb
 | _=>cases hb
theorem zth(hc:X.calm=yl):CallR X (.builtin "sum") (rBiD X.K .sum):=by
 intro pins s σ H xs us Q I r ζ4;refine zKK λγ κ=>?_;obtain⟨x,F,dx,d,f,e,dom,nx,hb,q⟩:=ζ4;subst e;refine κ ?_;cases dx with
 | lst l =>
  refine zKK λγ κ=>?_;obtain⟨a,ys,rfl,h1,h2,_⟩:=nx.lst;have hb:(ints? l).bind (λns=>if decide (ns.length<=4000)&&ns.all (λn=>decide (-4000<=n)&&decide (n<=4000))then ya (D.int (sumI ns),Fl.solid)else yk)=ya (d,f):=hb;obtain⟨ns,hi,hb⟩:=za hb;refine κ ?_;split at hb
  ·rename_i hc'
   cases hb;rw[yr,decide_eq_true_eq,qo]at hc';have e:=zad (X:=X) hi h2;subst e;exact zoy hc pins s σ H _ us Q I r ⟨a,ns,rfl,h1,hc'.1,λn hn=>by simpa using hc'.2 n hn,q.here zv⟩
  ·cases hb
 | _=>cases hb
theorem zhn:∀{l:List D} {nss:List (List Int)} {ys:List V} {F:Fz} {H:Hp},tups? l=ya nss->Reps X.K F H l ys->∃ks:List (List Int×yq),ks.map (·.1)=nss/\ys=ks.map (λq=>V.ref q.2)/\∀q∈ks,H q.2=ya (.tup (q.1.map V.int))/\q.1≠[]
 | [],nss,ys,F,H,h,r=>by
  rw[Reps]at r;subst r;cases h;exact⟨[],rfl,rfl,λq hq=>by cases hq⟩
 | d::l,nss,ys,F,H,h,r=>by
  rw[Reps]at r;obtain⟨v,r',rfl,h1,h2⟩:=r;cases d with
  | tup m =>
   unfold tups? at h;split at h
   ·rename_i x ns hi
    obtain⟨ms,hm,rfl⟩:=zb h;obtain⟨ks,k1,k2,k3⟩:=zhn hm h2;rw[Rep]at h1;obtain⟨a,xs,rfl,t1,t2⟩:=h1;have e:=zad (X:=X) hi t2;subst e;refine⟨(x::ns,a)::ks,by rw[yo,k1],by rw[yo,k2],λq hq=>?_⟩;rcases yn.mp hq with rfl | hq
    ·exact⟨t1,by simp⟩
    ·exact k3 q hq
   ·cases h
  | _=>cases h
theorem zqj(ks:List (List Int×yq)):(HT.nubK ks).map (·.1)=nubT (ks.map (·.1)):=by
 have step:∀(l:List (List Int×yq)) (σ:List (List Int×yq)),(l.foldl HT.addK σ).map (·.1)=(l.map (·.1)).foldl (λσ v=>if σ.any (· == v)then σ else σ++[v]) (σ.map (·.1)):=λl=>by
  induction l with
  | nil=>intro σ;rfl
  | cons q l ih =>
   intro σ;rw[u4,ih,yo,u4];congr 1;unfold HT.addK;have e:(σ.map (·.1)).any (· == q.1)=σ.any (·.1==q.1):=by rw[yan];rfl
   rw[e];split
   ·rfl
   ·rw[qb];rfl
 exact step ks []
theorem zds(ks:List (List Int×yq)):∀q∈HT.nubK ks,q∈ks:=by
 have step:∀(l:List (List Int×yq)) (σ:List (List Int×yq)) (q:List Int×yq),q∈l.foldl HT.addK σ->q∈σ\/q∈l:=λl=>by
  induction l with
  | nil=>intro σ q h;exact .inl h
  | cons x l ih =>
   intro σ q h;rcases ih _ q h with h | h
   ·unfold HT.addK at h
    split at h
    ·exact .inl h
    ·rcases qt.mp h with h | h
     ·exact .inl h
     ·exact .inr (by rw[qd.mp h];exact yg)
   ·exact .inr (yf _ h)
 intro q hq;exact(step ks [] q hq).elim (λz=>by cases z) id
theorem zha{K:Frag}{F:Fz}{H:Hp}:∀{ks:List (List Int×yq)},(∀q∈ks,H q.2=ya (.tup (q.1.map V.int)))->Reps K F H ((ks.map (·.1)).map tupI) (ks.map λq=>V.ref q.2)
 | [],_=>.nil
 | q::ks,h=>.cons (by
   unfold tupI;rw[Rep];refine⟨q.2,_,rfl,h q yg,?_⟩
   have:∀ns:List Int,Reps K F H (ns.map D.int) (ns.map V.int):=λns=>by
    induction ns with
    | nil=>exact .nil
    | cons n ns ih=>exact .cons zv ih
   exact this q.1) (zha λq' hq=>h q' (yf _ hq))
inductive RB2D (K:Frag) (o:B2) (xs:List V) (H:Hp) (Q:VK):Prop
 | mk (x:V) (y:V) (F:Fz) (dx:D) (dy:D) (d:D) (f:Fl) (e:xs=[x,y]) (nx:Now K F H dx x) (ny:Now K F H dy y) (hb:bltin2 o dx dy=ya (d,f)) (q:Res K F H d f Q):RB2D K o xs H Q
def rB2D(K:Frag)(o:B2):List V->Hp->VK->Prop:=RB2D K o
def b2S:B2->String
 | .min2=>"min" | .max2=>"max"
theorem zvy(hc:X.calm=yl):∀o:B2,CallR X (.builtin (b2S o)) (rB2D X.K o)
 | .min2=>by
  rintro pins s σ H xs us Q I r ⟨x,y,F,dx,dy,d,f,e,nx,ny,hb,q⟩;subst e;cases dx <;> first | (cases hb;done) | (cases dy <;> first | (cases hb;done) | skip)
  rename_i a b;cases hb;exact zpc hc pins s σ H _ us Q I r ⟨a,b,by rw[nx.int,ny.int],q.here zv⟩
 | .max2=>by
  rintro pins s σ H xs us Q I r ⟨x,y,F,dx,dy,d,f,e,nx,ny,hb,q⟩;subst e;cases dx <;> first | (cases hb;done) | (cases dy <;> first | (cases hb;done) | skip)
  rename_i a b;cases hb;exact zne hc pins s σ H _ us Q I r ⟨a,b,by rw[nx.int,ny.int],q.here zv⟩
end
end SD
namespace L2
open PySem PySem.Spec PyProof.Rows
structure LamScope (X:Cx) (N':List Str) (y:Str) (keep:List Nat) (scope:Scope):Prop where
 kind:scope.kind=.function
 co:scope.isCoroutine=yi
 gen:scope.isGenerator=yi
 cell:∀p∈scope.names,p.2≠.cell
 look:∀p∈scope.names,scope.names.lookup p.1=ya p.2
 fr:∀x,(x,qe)∈scope.names->X.env.kindOf x=ya .cell\/X.env.kindOf x=ya .free
 loc:scope.names.lookup y=ya .local
 hd:N'[0]? = ya y
 len:N'.length=1+keep.length
 cap:∀(k:Nat) (x:Str),N'[1+k]? = ya x->(x,qe)∈scope.names/\∃j,keep[k]? = ya j/\X.N[j]? = ya x
inductive Made (P:Addr) (ps:Array Value) (pos:Pos) (H:Hp) (c':Addr) (oc:Obj):Hp->Prop
 | hit:codeAmong pos ps.toList=ya (.ref c')->H c'=ya (.frz oc (.own 0))->Made P ps pos H c' oc H
 | new:codeAmong pos ps.toList=yk->H c'=yk->c'≠P->Made P ps pos H c' oc (upd (upd H P (.tbl (ps++#[vb pos.line,vb pos.col,.ref c']))) c' (.frz oc (.own 0)))
end L2
namespace SD
open PySem PySem.Spec PyProof.Rows L2 PY
def cnV:Cn->V
 | .non=>.non | .bl b=>.bl b | .int i=>.int i | .str x=>.str x
def spD(K:Frag)(ds:List D)(d:D):Sp:=λvs H Q _=>∃F,(∀a,F a->H a≠yk)/\Tabs K H/\Reps K F H ds vs/\∀v F' H',Grow F H F' H'->Rep K F' H' d v->Q v H'
def TabK(K:Frag)(a:yq)(l:List (List Int)):Prop:=∃bs:List yq,(∀H,SqT K H a (bs.map V.ref))/\bs.length=l.length/\∀(j:Nat) b n,bs[j]? = ya b->l[j]? = ya n->∀H,SqT K H b (n.map V.int)
structure Tops (cf:Cfg) (cl:Cl) (X:Cx):Prop where
 fn:∀(f:Nat) x ds d,cf.fns[f]? = ya x ->
  cl f ds=ya d->∃k fa fd ps,FnOk X.prog X.w X.K X.mg X.base CX0 k fa fd ps (spD X.K ds d)/\Room k X.A/\X.mg x=ya (.ref fa)/\yd6 X.K (.ref fa)=yl/\Binds X.K fd ps []
 bl:∀x,cf.bls.contains x=yl->X.mg x=yk
 con:∀x c,cf.cons.lookup x=ya c->∃u,X.mg x=ya u/\RelV (cnV c) u
 tts:∀x l,cf.tts.lookup x=ya l->∃a,X.mg x=ya (.ref a)/\TabK X.K a l
 un:X.A.units+64<ju
def LamC(cf:Cfg)(cl:Cl)(X:Cx):Prop:=∃c P,X.env.code=.ref c/\(∃x∈lamNames,yat X.K x=ya (c,P))/\PySem.W.CodeHd X.base c P/\X.base.BuiltinsAt X.mg P/\xi≠P/\∃k,Room (k+3) X.A /\
 ∀(f:Nat) x ds d,cf.fns[f]? = ya x ->
  cl f ds=ya d->∃fa fd ps,FnOk X.prog X.w X.K X.mg X.base CX0 k fa fd ps (spD X.K ds d)/\X.mg x=ya (.ref fa)/\yd6 X.K (.ref fa)=yl/\Binds X.K fd ps []
structure Ctx (cf:Cfg) (cl:Cl) (sc:Scope) (N:List Str) (X:Cx):Prop where
 hN:X.N=N
 nd:N.Nodup
 calm:X.calm=yl
 xe:X.xe=NoE
 vis:∀x,seen sc x=yl->Vis X.env.scope x
 glo:∀x,gl sc x=yl->Gl X x
 cap:∀x,capt sc x=yl->X.env.kindOf x=ya .cell\/X.env.kindOf x=ya .free
 loc:∀x,isLocal sc x=yl->X.env.scope.names.lookup x=ya .local
 top:Tops cf cl X
 lam:cf.here=yl->sc.names.any (λp=>p.2 == .cell)=yl->LamC cf cl X
theorem zai{N:List Str}{x:Str}{i:Nat}(h:idx N x=ya i):N[i]? = ya x:=by
 unfold idx at h;obtain⟨h1,h2,_⟩:=v8.mp h;rw[yc h1];exact congrArg ya (beq_iff_eq.mp h2)
theorem zf{α:Type}{b:Bool}{o:Option α}{a:α}(h:guard' b o=ya a):b=yl/\o=ya a:=by
 unfold guard' at h;split at h
 ·exact⟨by assumption,h⟩
 ·cases h
theorem zaw{x:Str}(h:nice x=yl):(x==("__debug__" : Str))=yi/\(x==("__classdict__" : Str))=yi/\x≠"__name__":=by
 unfold nice at h;rw[yr,yr,xt,xt,xt]at h;exact⟨h.1.1,h.1.2,λe=>by rw[e,beq_self_eq_true]at h;cases h.2⟩
theorem zd{e:Expr}{es:List Expr}{env:Env}(h:∀v p,e≠.Starred v p):jh (e::es) env=(yi,eval e env)::jh es env:=by
 cases e <;> first | rfl | exact absurd rfl (h _ _)
section
variable {K:Frag} {F O:Fz} {H H₀:Hp}
theorem zio:Val K F H .non .non H₀ O .solid:=znh (K:=K) (F:=F) (H:=H)
theorem zca{k:Bool}:Val K F H (.bl k) (.bl k) H₀ O .solid:=zl2 (K:=K) (F:=F) (H:=H)
theorem zdy{k:Int}:Val K F H (.int k) (.int k) H₀ O .solid:=zv (K:=K) (F:=F) (H:=H)
theorem zir{k:Str}:Val K F H (.str k) (.str k) H₀ O .solid:=zl4 (K:=K) (F:=F) (H:=H)
end
section
variable {X:Cx} {cl:Cl} {a b c d:Expr} {a' b' c' d':E} {pos:Pos}
theorem zux{c:Const}{k:Nat}{c':Cn}(h:cCon c=ya c'):PE X (.Constant c k pos) (uE X.K cl (.con c')):=by
 cases c <;> simp only[cCon,Option.some.injEq]at h <;> first | (cases h;done) | skip
 all_goals subst h
 ·exact PE.imp zve λσ H Q ⟨ρ,d,f,he,F,env,q⟩=>by cases he;show Q V.non H;exact q V.non F H (Grow.refl F H) zio
 ·exact PE.imp zx0 λσ H Q ⟨ρ,d,f,he,F,env,q⟩=>by cases he;exact q (V.bl _) F H (Grow.refl F H) zca
 ·exact PE.imp zra λσ H Q ⟨ρ,d,f,he,F,env,q⟩=>by cases he;exact q (V.int _) F H (Grow.refl F H) zdy
 ·exact PE.imp zvv λσ H Q ⟨ρ,d,f,he,F,env,q⟩=>by cases he;exact q (V.str _) F H (Grow.refl F H) zir
theorem zuf{x:Str}{i:Nat}(hN:X.N[i]? = ya x)(hv:Vis X.env.scope x)(hd:(x==("__debug__" : Str))=yi)(hcd:(x==("__classdict__" : Str))=yi):PE X (.Name x pos) (uE X.K cl (.var i)):=by
 refine PE.imp (zbo hN hv hd hcd) λσ H Q ζ=>?_;obtain⟨ρ,d,f,he,F,env,q⟩:=ζ
 have he:slot ρ i=ya (d,f):=he;unfold slot at he;cases e:ρ[i]? with
 | none=>rw[e]at he;cases he
 | some sl =>
  rw[e]at he;cases sl with
  | no=>cases he
  | val d' =>
   cases he;obtain⟨v,h1,h2⟩:=env.val i _ e;exact⟨v,h1,q v F H (Grow.refl F H) h2⟩
  | own l =>
   cases he;have em:mine ρ i=ya (.lst l):=by unfold mine;rw[e];rfl
   obtain⟨p,h1,h3,h4⟩:=env.own i _ em;exact⟨.ref p,h1,q _ F H (Grow.refl F H) ⟨p,⟨rfl,h3,h4⟩,i,_,em,h1⟩⟩
  | dl t ks ls=>cases he
  | dk ks vs =>
   cases he;have em:mine ρ i=ya (.dic ks vs):=by unfold mine;rw[e];rfl
   obtain⟨p,h1,h3,h4⟩:=env.own i _ em;exact⟨.ref p,h1,q _ F H (Grow.refl F H) ⟨p,⟨rfl,h3,h4⟩,i,_,em,h1⟩⟩
theorem zru{x:Str}{c:Cn}{u:yh}(hg:Gl X x)(hm:X.mg x=ya u)(r:RelV (cnV c) u)(hd:(x==("__debug__" : Str))=yi):PE X (.Name x pos) (uE X.K cl (.glob x c)):=by
 refine PE.imp (zix hg hm r hd) λσ H Q ζ=>?_;obtain⟨ρ,d,f,he,F,env,q⟩:=ζ
 cases he;refine q _ F H (Grow.refl F H) ?_;cases c
 ·exact zio
 ·exact zca
 ·exact zdy
 ·exact zir
theorem zxx{o:Operator}{o':Bop}(ho:cBop o=ya o')(ha:PE X a (uE X.K cl a'))(hb:PE X b (uE X.K cl b')):PE X (.BinOp a o b pos) (uE X.K cl (.bin o' a' b')):=by
 have e:opOf o'=o:=by cases o <;> simp[cBop]at ho <;> subst ho <;> rfl
 subst e;refine PE.imp (zx2 (zwk o') ha hb) λσ H Q ζ=>?_;obtain⟨ρ,d,f,he,F,env,q⟩:=ζ
 rw[PY.zi3]at he;obtain⟨⟨dx,fx⟩,h1,he⟩:=za he;obtain⟨⟨dy,fy⟩,h2,he⟩:=za he
 exact⟨ρ,dx,fx,h1,F,env,λx F1 H1 g1 v1=>⟨ρ,dy,fy,h2,F1,env.grow g1,λy F2 H2 g2 v2=>⟨F2,dx,dy,d,f,((env.grow g1).grow g2).dom,v1.now.grow g2,v2.now,he,
  λv F3 H3 g3 v3=>q v F3 H3 ((g1.trans g2).trans g3) ((v3.back λ_ z=>(g1.trans g2).free z).wide λ_ z=>z.elim)⟩⟩⟩
theorem zw0{o:CmpOp}(hu:X.A.units+64<ju)(hm:behindInMarks o b=yi)(ha:PE X a (uE X.K cl a'))(hb:PE X b (uE X.K cl b')):PE X (.Compare a [o] [b] pos) (uE X.K cl (.cmp (cCop o) a' b')):=by
 refine PE.imp (zmj (znq hu o) ha hb hm) λσ H Q ζ=>?_;obtain⟨ρ,d,f,he,F,env,q⟩:=ζ
 rw[PY.zmu]at he;refine zKK λγ κ=>?_;obtain⟨⟨dx,fx⟩,h1,he⟩:=za he;obtain⟨⟨dy,fy⟩,h2,he⟩:=za he;obtain⟨k,h3,he⟩:=zb he;cases he;refine κ ?_;exact⟨ρ,dx,fx,h1,F,env,λx F1 H1 g1 v1=>⟨ρ,dy,fy,h2,F1,env.grow g1,λy F2 H2 g2 v2=>⟨F2,dx,dy,k,v1.now.grow g2,v2.now,h3,q _ F2 H2 (g1.trans g2) zca⟩⟩⟩
theorem zxh{o:CmpOp}(hu:X.A.units+64<ju)(hm:behindInMarks o b=yi)(ha:PE X a (uE X.K cl a'))(hb:PE X b (uE X.K cl b')):PT X (.Compare a [o] [b] pos) (uT X.K cl (.cmp (cCop o) a' b')):=by
 refine PT.imp (zic (znq hu o) ha hb hm) λσ H Q ζ=>?_;obtain⟨ρ,k,he,F,env,q⟩:=ζ
 rw[PY.zjt]at he;obtain⟨⟨dx,fx⟩,h1,he⟩:=za he;obtain⟨⟨dy,fy⟩,h2,he⟩:=za he;exact⟨ρ,dx,fx,h1,F,env,λx F1 H1 g1 v1=>⟨ρ,dy,fy,h2,F1,env.grow g1,λy F2 H2 g2 v2=>⟨F2,dx,dy,k,v1.now.grow g2,v2.now,he,k,rfl,q F2 H2 (g1.trans g2)⟩⟩⟩
theorem zsf{ta:TE}(ha:PE X a ta):PE X (.UnaryOp .Not a pos) (λσ H Q=>ta σ H λx H1=>∃k,TruV X.K x H1 k/\Q (.bl (!k)) H1):=by
 intro pins s σ H Q I h;refine UnaryOp_ (thn (ha pins s σ H _ I h) λv s1 ζ=>?_);obtain⟨x,H1,I1,r1,k,tv,q⟩:=ζ;exact not_of (thn (zrl pins s1 σ H1 x v (λb H'=>Q (.bl (!b)) H') I1 r1 ⟨k,tv,q⟩) λb s2 ⟨H2,I2,q2⟩=>⟨.bl (!b),H2,I2,rfl,q2⟩)
theorem zxy(ha:PE X a (uE X.K cl a')):PE X (.UnaryOp .Not a pos) (uE X.K cl (.not a')):=by
 refine PE.imp (zsf ha) λσ H Q ζ=>?_;obtain⟨ρ,d,f,he,F,env,q⟩:=ζ
 rw[PY.ztf]at he;refine zKK λγ κ=>?_;obtain⟨⟨dx,fx⟩,h1,he⟩:=za he;obtain⟨k,h2,he⟩:=zb he;cases he;refine κ ?_;exact⟨ρ,dx,fx,h1,F,env,λx F1 H1 g1 v1=>⟨k,zu7 v1.now h2,q _ F1 H1 g1 zca⟩⟩
theorem zxw(ha:PT X a (uT X.K cl a')):PT X (.UnaryOp .Not a pos) (uT X.K cl (.not a')):=by
 refine PT.imp (zvh ha) λσ H Q ζ=>?_;obtain⟨ρ,k,he,F,env,q⟩:=ζ
 rw[PY.zki]at he;obtain⟨k',h1,he⟩:=zb he;subst he;exact⟨ρ,k',h1,F,env,λF1 H1 g1=>q F1 H1 g1⟩
theorem zw5(ha:PE X a (uE X.K cl a')):PE X (.UnaryOp .USub a pos) (uE X.K cl (.neg a')):=by
 refine PE.imp (zx1 zur ha) λσ H Q ζ=>?_;obtain⟨ρ,d,f,he,F,env,q⟩:=ζ
 rw[PY.ztw]at he;obtain⟨⟨dx,fx⟩,h1,he⟩:=za he;obtain⟨i,h2,he⟩:=zb he;cases he;refine⟨ρ,dx,fx,h1,F,env,λx F1 H1 g1 v1=>?_⟩;cases dx <;> simp only[int?]at h2 <;> cases h2;exact⟨i,v1.now.int,q _ F1 H1 g1 zdy⟩
theorem zxk{r:List Expr}(ha:PE X a (uE X.K cl a'))(hb:PE X (.BoolOp .And (b::r) pos) (uE X.K cl b')):PE X (.BoolOp .And (a::b::r) pos) (uE X.K cl (.and a' b')):=by
 refine PE.imp (zum ha hb) λσ H Q ζ=>?_;obtain⟨ρ,d,f,he,F,env,q⟩:=ζ
 rw[PY.za9]at he;obtain⟨⟨dx,fx⟩,h1,he1⟩:=za he;obtain⟨k,h2,he2⟩:=za he1;refine⟨ρ,dx,fx,h1,F,env,λx F1 H1 g1 v1=>?_⟩;cases dx <;> simp only[bl?]at h2 <;> cases h2;refine⟨k,v1.now.bl,?_⟩;cases k with
 | false =>
  rw[if_neg qc]at he2 ⊢;cases he2;exact q _ F1 H1 g1 zca
 | true =>
  rw[if_pos rfl]at he2 ⊢;exact⟨ρ,d,f,he2,F1,env.grow g1,λv F2 H2 g2 v2=>q v F2 H2 (g1.trans g2) (v2.back λ_ z=>g1.free z)⟩
theorem zx9{r:List Expr}(ha:PE X a (uE X.K cl a'))(hb:PE X (.BoolOp .Or (b::r) pos) (uE X.K cl b')):PE X (.BoolOp .Or (a::b::r) pos) (uE X.K cl (.or a' b')):=by
 refine PE.imp (zw8 ha hb) λσ H Q ζ=>?_;obtain⟨ρ,d,f,he,F,env,q⟩:=ζ
 rw[PY.zu1]at he;obtain⟨⟨dx,fx⟩,h1,he1⟩:=za he;obtain⟨k,h2,he2⟩:=za he1;refine⟨ρ,dx,fx,h1,F,env,λx F1 H1 g1 v1=>?_⟩;cases dx <;> simp only[bl?]at h2 <;> cases h2;refine⟨k,v1.now.bl,?_⟩;cases k with
 | false =>
  rw[if_neg qc]at he2 ⊢;exact⟨ρ,d,f,he2,F1,env.grow g1,λv F2 H2 g2 v2=>q v F2 H2 (g1.trans g2) (v2.back λ_ z=>g1.free z)⟩
 | true =>
  rw[if_pos rfl]at he2 ⊢;cases he2;exact q _ F1 H1 g1 zca
theorem zxb{r:List Expr}(ha:PT X a (uT X.K cl a'))(hb:PW X (.BoolOp .And (b::r) pos) (uT X.K cl b')):PW X (.BoolOp .And (a::b::r) pos) (uT X.K cl (.and a' b')):=by
 refine PW.imp (pw_and ha hb) λσ H Q ζ=>?_;obtain⟨ρ,kk,he,F,env,q⟩:=ζ
 rw[PY.zj8]at he;obtain⟨k,h2,he⟩:=za he;refine⟨ρ,k,h2,F,env,λF1 H1 g1=>?_⟩;cases k with
 | false =>
  rw[if_neg qc]at he ⊢;cases he;exact q F1 H1 g1
 | true =>
  rw[if_pos rfl]at he ⊢;exact⟨ρ,kk,he,F1,env.grow g1,λF2 H2 g2=>q F2 H2 (g1.trans g2)⟩
theorem zyc{r:List Expr}(ha:PT X a (uT X.K cl a'))(hb:PW X (.BoolOp .Or (b::r) pos) (uT X.K cl b')):PW X (.BoolOp .Or (a::b::r) pos) (uT X.K cl (.or a' b')):=by
 refine PW.imp (pw_or ha hb) λσ H Q ζ=>?_;obtain⟨ρ,kk,he,F,env,q⟩:=ζ
 rw[PY.zok]at he;obtain⟨k,h2,he⟩:=za he;refine⟨ρ,k,h2,F,env,λF1 H1 g1=>?_⟩;cases k with
 | false =>
  rw[if_neg qc]at he ⊢;exact⟨ρ,kk,he,F1,env.grow g1,λF2 H2 g2=>q F2 H2 (g1.trans g2)⟩
 | true =>
  rw[if_pos rfl]at he ⊢;cases he;exact q F1 H1 g1
theorem zgf{e:Expr}{e':E}(h:PE X e (uE X.K cl e'))(hw:∀whole,isTrue e X.env whole=(do let v ← whole;standAt e.pos;holding [v] (truthy v)))(ht:∀ρ k,evT cl e' ρ=ya k->∃d f,ev cl e' ρ=ya (d,f)/\tru d=ya k):PT X e (uT X.K cl e'):=by
 refine PT.imp (zpk h hw) λσ H Q ζ=>?_;obtain⟨ρ,k,he,F,env,q⟩:=ζ
 obtain⟨d,f,h1,h2⟩:=ht ρ k he;exact⟨ρ,d,f,h1,F,env,λv F1 H1 g1 v1=>⟨k,zu7 v1.now h2,q F1 H1 g1⟩⟩
theorem zx6(hu:X.A.units+64<ju)(hs:isSlice b=yi)(ha:PE X a (uE X.K cl a'))(hb:PE X b (uE X.K cl b')):PE X (.Subscript a b pos) (uE X.K cl (.ix a' b')):=by
 refine PE.imp (zxe (zye hu) ha hb (λo i=>by cases b <;> first | rfl | cases hs)) λσ H Q ζ=>?_;obtain⟨ρ,d,f,he,F,env,q⟩:=ζ
 rw[PY.zo4]at he;obtain⟨⟨dx,fx⟩,h1,he⟩:=za he;obtain⟨⟨dy,fy⟩,h2,he⟩:=za he
 exact⟨ρ,dx,fx,h1,F,env,λx F1 H1 g1 v1=>⟨ρ,dy,fy,h2,F1,env.grow g1,λy F2 H2 g2 v2=>⟨F2,dx,dy,d,f,v1.now.grow g2,v2.now,he,
  λv F3 H3 g3 v3=>q v F3 H3 ((g1.trans g2).trans g3) ((v3.back λ_ z=>(g1.trans g2).free z).wide λ_ z=>z.elim)⟩⟩⟩
theorem zuc:PO X yk (uO X.K cl .no):=by
 refine PO.imp zta λσ H Q ζ=>?_;obtain⟨ρ,v,he,F,env,q⟩:=ζ
 cases he;exact q F H (Grow.refl F H)
theorem zt9(ha:PE X a (uE X.K cl a')):PO X (ya a) (uO X.K cl (.so a')):=by
 refine PO.imp (zr4 ha) λσ H Q ζ=>?_;obtain⟨ρ,v,he,F,env,q⟩:=ζ
 rw[PY.zsm]at he;refine zKK λγ κ=>?_;obtain⟨⟨dx,fx⟩,h1,he⟩:=za he;obtain⟨i,h2,he⟩:=zb he;subst he;refine κ ?_;refine⟨ρ,dx,fx,h1,F,env,λx F1 H1 g1 v1=>?_⟩;cases dx <;> simp only[int?]at h2 <;> cases h2;exact⟨i,v1.now.int,q F1 H1 g1⟩
theorem zyd{lo hi:Option Expr}{lo' hi':Eo}{p2:Pos}(ha:PE X a (uE X.K cl a'))(hl:PO X lo (uO X.K cl lo'))(hh:PO X hi (uO X.K cl hi')):PE X (.Subscript a (.Slice lo hi yk p2) pos) (uE X.K cl (.sl a' lo' hi')):=by
 refine PE.imp (zpp zx7 ha hl hh) λσ H Q ζ=>?_;obtain⟨ρ,d,f,he,F,env,q⟩:=ζ
 rw[PY.zrq]at he;obtain⟨⟨dx,fx⟩,h1,he⟩:=za he;obtain⟨l,h2,he⟩:=za he;obtain⟨h,h3,he⟩:=za he
 exact⟨ρ,dx,fx,h1,F,env,λx F1 H1 g1 v1=>⟨ρ,l,h2,F1,env.grow g1,λF2 H2 g2=>⟨ρ,h,h3,F2,(env.grow g1).grow g2,λF3 H3 g3=>⟨F3,dx,d,f,(((env.grow g1).grow g2).grow g3).dom,(v1.now.grow g2).grow g3,he,
  λv F4 H4 g4 v4=>q v F4 H4 (((g1.trans g2).trans g3).trans g4) ((v4.back λ_ z=>((g1.trans g2).trans g3).free z).wide λ_ z=>z.elim)⟩⟩⟩⟩
theorem zw1:PA X [] (uA X.K cl .nil):=by
 refine PA.imp zae λσ H Q ζ=>?_;obtain⟨ρ,ds,lent,he,F,env,q⟩:=ζ
 cases he;exact q [] F H F (Grow.refl F H) (λ_ h=>h) (λ_=>rfl) env.dom Reps.nil
theorem zvj{es:List Expr}{es':Es}(hs:∀v p,a≠.Starred v p)(ha:PE X a (uE X.K cl a'))(hr:PA X es (uA X.K cl es')):PA X (a::es) (uA X.K cl (.cons a' es')):=by
 refine PA.imp (zq ha hr (zd hs)) λσ H Q ζ=>?_;obtain⟨ρ,ds,lent,he,F,env,q⟩:=ζ
 rw[PY.zav]at he;refine zKK λγ κ=>?_;obtain⟨⟨d1,f1⟩,h1,he⟩:=za he;obtain⟨⟨ds',lent'⟩,h2,he⟩:=zb he;cases he;refine κ ?_;refine⟨ρ,d1,f1,h1,F,env,λv F1 H1 g1 v1=>?_⟩;by_cases hf:f1=.peek
 ·subst hf
  obtain⟨p,lo,_⟩:=v1;refine⟨ρ,ds',lent',h2,F1,env.grow g1,λvs F2 H2 P g2 hP _ dom r=>?_⟩;have lo2:=lo.grow g2;refine q _ F2 H2 (addF P p) (g1.trans g2) (λb h=>.inl (hP b h)) (λz=>by simp at z) (λb h=>h.elim (dom b) λz=>by rw[z];exact lo2.2.2.ne) (.cons ?_ (r.keep Keep.prot));exact lo2.prot.keep ⟨λb h=>h.elim (λh=>.inl (hP b h)) .inr,λ_ _ _ _ e=>e,λ_ _ e=>e⟩
 ·obtain⟨F1',g1',k1,r1⟩:=v1.firm hf g1
  refine⟨ρ,ds',lent',h2,F1',env.grow g1',λvs F2 H2 P g2 hP hl dom r=>?_⟩;refine q _ F2 H2 P (g1'.trans g2) hP (λz=>hl ?_) dom (.cons ((r1.grow g2).keep ⟨hP,λ_ _ _ _ e=>e,λ_ _ e=>e⟩) r);rw[yb4]at z;exact z.1
theorem zx4{es:List Expr}{es':Es}{k:Nat}(h:PA X es (uA X.K cl es')):PE X (.Tuple es k pos) (uE X.K cl (.tup es')):=by
 refine PE.imp (zva h) λσ H Q ζ=>?_;obtain⟨ρ,d,f,he,F,env,q⟩:=ζ
 rw[PY.zlx]at he;obtain⟨⟨ds,lent⟩,h1,he⟩:=za he;dsimp only at he;split at he
 ·rename_i hc
  cases he;refine⟨ρ,ds,lent,h1,F,env,λvs F1 H1 P g1 hP hl dom r=>⟨ze2 (by rw[← r.length];exact hc.2),λp hp=>?_⟩⟩;have:=hl hc.1;subst this;exact q _ _ _ (g1.trans (Grow.laid hp)) (zer hp r)
 ·cases he
theorem zxm{es:List Expr}{es':Es}(h:PA X es (uA X.K cl es')):PE X (.List es pos) (uE X.K cl (.lst es')):=by
 refine PE.imp (zwr h) λσ H Q ζ=>?_;obtain⟨ρ,d,f,he,F,env,q⟩:=ζ
 rw[PY.zoj]at he;obtain⟨⟨ds,lent⟩,h1,he⟩:=za he;dsimp only at he;split at he
 ·rename_i hc
  cases he;refine⟨ρ,ds,lent,h1,F,env,λvs F1 H1 P g1 hP hl dom r=>⟨ze2 (by rw[← r.length];exact hc.2),λp hp=>?_⟩⟩;have:=hl hc.1;subst this;exact q _ _ _ (g1.trans (Grow.loose hp)) ⟨p,zgv hp dom r,g1.free hp⟩
 ·cases he
theorem zue{cf:Cfg}{x:Str}{f:Nat}{p:Pos}{es:List Expr}{es':Es}(T:Tops cf cl X)(hg:Gl X x)(hx:cf.fns[f]? = ya x)
  (hd:(x==("__debug__" : Str))=yi) (hs:∀v p,a≠.Starred v p) (hst:(backTo pos (jh es X.env)).any (·.1)=yi)
  (h:PA X (a::es) (uA X.K cl es')):PE X (.Call (.Name x p) (a::es) [] pos) (uE X.K cl (.call f es')):=by
 intro pins s σ H Q I ζ5;refine zKK λγ κ=>?_;obtain⟨ρ,d,fl,he,F,env,q⟩:=ζ5;rw[PY.zac]at he;obtain⟨⟨ds,lent⟩,h1,he⟩:=za he;obtain⟨d',h2,he⟩:=za he;obtain⟨k,fa,fd,ps,Fn,hr,hm,hk,hb⟩:=T.fn f x ds d' hx h2;refine κ ?_;refine ztq Fn hr hg hm hk hb .nil pass0 h hd (zd hs) hst pins s σ H Q I ?_;refine⟨ρ,ds,lent,h1,F,env,λvs F1 H1 P g1 hP hl dom r=>⟨P,dom,env.tab.step g1.tab,by rw[qr];exact r,λv F2 H2 g2 rv=>?_⟩⟩;unfold handed at he;cases lent with
 | false =>
  rw[yci,if_neg qc]at he;cases he;have:=hl rfl;subst this;exact q v F2 H2 (g1.trans g2) rv
 | true =>
  rw[yb0]at he;split at he
  ·cases he
  ·rename_i hsc
   cases he;have hsc:d.scal=yl:=by simpa using hsc
   have g3:Grow F1 H1 F1 H2:=⟨λ_ h=>h,λa o e n=>g2.same a o e n,g2.tab,λ_ h=>.inl h⟩;refine q v F1 H2 (g1.trans g3) ?_;cases d with
   | tup _=>cases hsc
   | lst _=>cases hsc
   | dic _ _=>cases hsc
   | non=>rw[Rep]at rv;subst rv;exact zio
   | bl _=>rw[Rep]at rv;subst rv;exact zca
   | int _=>rw[Rep]at rv;subst rv;exact zdy
   | str _=>rw[Rep]at rv;subst rv;exact zir
theorem zxt{t:Str}{ty:Ty}{p p2:Pos}(ht:cTy t=ya ty)(hg:Gl X "isinstance")(hm:X.mg "isinstance" = yk)(hgt:Gl X t)(hmt:X.mg t=yk)(hs:∀v p,a≠.Starred v p)(ha:PE X a (uE X.K cl a')) :
  PE X (.Call (.Name "isinstance" p) [a,.Name t p2] [] pos) (uE X.K cl (.isi a' ty)):=by
 have e:t=(tyS ty:Str)/\ud (tyS ty:Str)=ya (.type (tyS ty))/\((tyS ty:Str)≠"__name__")/\((tyS ty:Str)==("__debug__" : Str))=yi:=by
  unfold cTy at ht;split at ht
  ·rename_i h;cases ht;exact⟨beq_iff_eq.mp h,by decide +kernel,by decide,by decide⟩
  ·split at ht
   ·rename_i h;cases ht;exact⟨beq_iff_eq.mp h,by decide +kernel,by decide,by decide⟩
   ·split at ht
    ·rename_i h;cases ht;exact⟨beq_iff_eq.mp h,by decide +kernel,by decide,by decide⟩
    ·split at ht
     ·rename_i h;cases ht;exact⟨beq_iff_eq.mp h,by decide +kernel,by decide,by decide⟩
     ·split at ht
      ·rename_i h;cases ht;exact⟨beq_iff_eq.mp h,by decide +kernel,by decide,by decide⟩
      ·cases ht
 obtain⟨rfl,hb,hn,hdb⟩:=e;refine PE.imp (za5 zqg hg hm boot_isinstance (zq ha (zq (zs2 hgt hmt hb (v:=.ty (tyS ty)) rfl hn hdb) zae) (hs:=zd hs)) (he:=zd hs)) λσ H Q ζ=>?_;obtain⟨ρ,d,f,he,F,env,q⟩:=ζ
 rw[PY.zm9]at he;refine zKK λγ κ=>?_;obtain⟨⟨dx,fx⟩,h1,he⟩:=zb he;cases he;refine κ ?_;exact⟨ρ,dx,fx,h1,F,env,λx F1 H1 g1 v1=>⟨x,tyS ty,kindS dx,isTy ty dx,rfl,zwv v1.now,zxj X.K dx ty,q _ F1 H1 g1 zca⟩⟩
theorem zb6{t:TE}{o:Bi}{σ:St}{H:Hp}{Q:VK}(h:uE X.K cl (.bi o a') σ H Q):tCB (rBiD X.K o) (tCons (uE X.K cl a') tNil) σ H Q:=by
 obtain⟨ρ,d,f,he,F,env,q⟩:=h;rw[PY.zg0]at he;obtain⟨⟨dx,fx⟩,h1,he⟩:=za he;exact⟨ρ,dx,fx,h1,F,env,λx F1 H1 g1 v1=>⟨x,F1,dx,d,f,rfl,(env.grow g1).dom,v1.now,he,λv F2 H2 g2 v2=>q v F2 H2 (g1.trans g2) ((v2.back λ_ z=>g1.free z).wide λ_ z=>z.elim)⟩⟩
theorem zx8{x:Str}{o:Bi}{p:Pos}(hu:X.A.units+64<ju)(hc:X.calm=yl)(hx:cBi x=ya o)(hg:Gl X x)(hm:X.mg x=yk)(hs:∀v p,a≠.Starred v p)(ha:PE X a (uE X.K cl a')):PE X (.Call (.Name x p) [a] [] pos) (uE X.K cl (.bi o a')):=by
 unfold cBi at hx;split at hx
 ·rename_i e
  cases hx;have e:=beq_iff_eq.mp e;subst e;exact PE.imp (za5 zug hg hm PySem.boot_len (zq ha zae (hs:=zd hs)) (he:=zd hs)) λσ H Q h=>zb6 (t:=tC .non) h
 split at hx
 ·rename_i e
  cases hx;have e:=beq_iff_eq.mp e;subst e;exact PE.imp (za5 (zss hc) hg hm boot_all (zq ha zae (hs:=zd hs)) (he:=zd hs)) λσ H Q h=>zb6 (t:=tC .non) h
 split at hx
 ·rename_i e
  cases hx;have e:=beq_iff_eq.mp e;subst e;exact PE.imp (zd6 zpt hg hm ydh (zq ha zae (hs:=zd hs)) (he:=zd hs)) λσ H Q h=>zb6 (t:=tC .non) h
 split at hx
 ·rename_i e
  cases hx;have e:=beq_iff_eq.mp e;subst e;exact PE.imp (zd6 zso hg hm PyProof.Rows.boot_list (zq ha zae (hs:=zd hs)) (he:=zd hs)) λσ H Q h=>zb6 (t:=tC .non) h
 split at hx
 ·rename_i e
  cases hx;have e:=beq_iff_eq.mp e;subst e;exact PE.imp (za5 (zl7 hc hu) hg hm (by decide +kernel) (zq ha zae (hs:=zd hs)) (he:=zd hs)) λσ H Q h=>zb6 (t:=tC .non) h
 split at hx
 ·rename_i e
  cases hx;have e:=beq_iff_eq.mp e;subst e;exact PE.imp (za5 (ztn hc) hg hm (by decide +kernel) (zq ha zae (hs:=zd hs)) (he:=zd hs)) λσ H Q h=>zb6 (t:=tC .non) h
 split at hx
 ·rename_i e
  cases hx;have e:=beq_iff_eq.mp e;subst e;exact PE.imp (za5 (zth hc) hg hm (by decide +kernel) (zq ha zae (hs:=zd hs)) (he:=zd hs)) λσ H Q h=>zb6 (t:=tC .non) h
 cases hx
theorem zp5{x:Str}{o:B2}(h:cB2 x=ya o):x=(b2S o:Str)/\ud (b2S o:Str)=ya (.builtin (b2S o))/\((b2S o:Str)≠"__name__")/\((b2S o:Str)==("__debug__" : Str))=yi:=by
 unfold cB2 at h;split at h
 ·rename_i e;cases h;exact⟨beq_iff_eq.mp e,by decide +kernel,by decide,by decide⟩
 ·split at h
  ·rename_i e;cases h;exact⟨beq_iff_eq.mp e,by decide +kernel,by decide,by decide⟩
  ·cases h
theorem zxg{x:Str}{o:B2}{p:Pos}(hc:X.calm=yl)(hx:cB2 x=ya o)(hg:Gl X x)(hm:X.mg x=yk)(hs:∀v p,a≠.Starred v p)(hs2:∀v p,b≠.Starred v p)(ha:PE X a (uE X.K cl a'))(hb:PE X b (uE X.K cl b')):PE X (.Call (.Name x p) [a,b] [] pos) (uE X.K cl (.bi2 o a' b')):=by
 obtain⟨rfl,hb0,hn,hdb⟩:=zp5 hx;refine PE.imp (za5 (zvy hc o) hg hm hb0 (zq ha (zq hb zae (hs:=zd hs2)) (hs:=zd hs)) hn hdb (he:=zd hs) (hpl:=by rw[zd hs2];rfl)) λσ H Q ζ=>?_;obtain⟨ρ,d,f,he,F,env,q⟩:=ζ
 rw[PY.zja]at he;refine zKK λγ κ=>?_;obtain⟨⟨dx,fx⟩,h1,he1⟩:=za he;obtain⟨⟨dy,fy⟩,h2,he2⟩:=za he1;refine κ ?_;exact⟨ρ,dx,fx,h1,F,env,λx F1 H1 g1 v1=>⟨ρ,dy,fy,h2,F1,env.grow g1,λy F2 H2 g2 v2=>⟨x,y,F2,dx,dy,d,f,rfl,v1.now.grow g2,v2.now,he2,λv F3 H3 g3 v3=>q v F3 H3 ((g1.trans g2).trans g3) ((v3.back λ_ z=>(g1.trans g2).free z).wide λ_ z=>z.elim)⟩⟩⟩
theorem zl6{p p2 p3:Pos}(hu:X.A.units+64<ju)(hc:X.calm=yl)(hg:Gl X "sorted")(hm:X.mg "sorted" = yk)(hg2:Gl X "set")(hm2:X.mg "set" = yk)(hs:∀v p,a≠.Starred v p)(ha:PE X a (uE X.K cl a')):PE X (.Call (.Name "sorted" p) [.Call (.Name "set" p2) [a] [] p3] [] pos) (uE X.K cl (.bi .sortset a')):=by
 refine PE.imp (za5 (zhi hc) hg hm (by decide +kernel) (zq (zd6 (zoa (by lia) hc) hg2 hm2 (by decide +kernel) (zq ha zae (hs:=zd hs)) (he:=zd hs)) zae)) λσ H Q ζ=>?_;obtain⟨ρ,d,f,he,F,env,q⟩:=ζ
 rw[PY.zg0]at he;obtain⟨⟨dx,fx⟩,h1,he1⟩:=za he;refine⟨ρ,dx,fx,h1,F,env,λx F1 H1 g1 v1=>?_⟩;cases dx with
 | tup l =>
  refine zKK λγ κ=>?_;obtain⟨p0,xs,rfl,h3,h4⟩:=v1.now.tup;obtain⟨nss,ht,he2⟩:=za (show(tups? l).bind (λnss=>if nss.length<64 then ya (D.lst ((sortT (nubT nss)).map tupI),Fl.fresh)else yk)=ya (d,f)from he1);refine κ ?_;split at he2
  ·rename_i hl
   cases he2;obtain⟨ks,k1,rfl,k3⟩:=zhn ht h4;have kl:ks.length<64:=by rw[← k1,yd]at hl;exact hl
   refine⟨p0,ks,rfl,h3.seq,λq' hq=>.inl (.inl (k3 q' hq).1),kl,λl1 oc hl1 sv=>⟨l1,oc,HT.nubK ks,rfl,zj,sv,λq' hq=>⟨.inl (.inl ?_),(k3 q' (zds ks q' hq)).2⟩,?_,λrs l2 rp rk hl2=>?_⟩⟩
   ·rw[zh (zg (k3 q' (zds ks q' hq)).1 hl1)];exact(k3 q' (zds ks q' hq)).1
   ·have:=HT.zkd ks []
    show(ks.foldl HT.addK []).length<64;rw[j6]at this;lia
   ·have n2:H1 l2=yk:=by
     by_cases e:l2=l1
     ·rw[e,zj]at hl2;cases hl2
     ·rw[zh e]at hl2;exact hl2
    have g2:Grow F H F1 (upd (upd H1 l1 (.frz oc (.own 0))) l2 (.lst (rs.map λq=>V.ref q.2))):=(g1.trans (Grow.loose hl1)).trans (Grow.loose hl2);rw[zqj,k1]at rk;refine q _ F1 _ g2 ⟨l2,⟨rfl,λz=>(env.grow g1).dom l2 z n2,_,zj,?_⟩,g1.free n2⟩;rw[← rk];refine zha λq' hq=>?_
    have hm:=(k3 q' (zds ks q' (rp.mem_iff.mp hq))).1;have e1:(upd H1 l1 (.frz oc (.own 0))) q'.2=ya (.tup (q'.1.map V.int)):=by rw[zh (zg hm hl1)];exact hm
    rw[zh (zg e1 hl2)];exact e1
  ·cases he2
 | _=>cases he1
theorem zuj{apos:Pos}(hu:X.A.units+64<ju)(hbs:plainBase a=yl)(hline:(apos.endLine==pos.line)=yl)(hs:∀v p,b≠.Starred v p)(hs2:∀v p,c≠.Starred v p)(ha:PE X a (uE X.K cl a'))(hb:PE X b (uE X.K cl b'))(hc:PE X c (uE X.K cl c')) :
  PE X (.Call (.Attribute a "get" apos) [b,c] [] pos) (uE X.K cl (.dget a' b' c')):=by
 refine PE.imp (zpd (by lia) ha hb hc ⟨(by cases a <;> first | rfl | cases hbs),by rw[zd hs,zd hs2];rfl,hline,by rw[zd hs,zd hs2];rfl⟩) λσ H Q ζ=>?_;obtain⟨ρ,d,f,he,F,env,q⟩:=ζ
 rw[PY.zj0]at he;refine zKK λγ κ=>?_;obtain⟨⟨dx,fx⟩,h1,he1⟩:=za he;obtain⟨⟨dy,fy⟩,h2,he2⟩:=za he1;obtain⟨⟨dz,fz⟩,h3,he3⟩:=za he2;refine κ ?_;refine⟨ρ,dx,fx,h1,F,env,λx F1 H1 g1 v1=>?_⟩;cases dx with
 | dic ks vs =>
  cases dz with
  | int z =>
   refine zKK λγ κ=>?_;obtain⟨o,hk,he4⟩:=za (show(keyAt dy ks).bind (λo=>match o with | some j=>(vs[j]?).map λd=>(d,Fl.solid) | none=>ya (D.int z,Fl.solid))=ya (d,f)from he3);obtain⟨p,us,rfl,⟨_,_,_,_,e0⟩,_⟩:=v1.now.dic;refine κ ?_;refine⟨p,rfl,.inl ⟨_,.inl e0⟩,ρ,dy,fy,h2,F1,env.grow g1,λy F2 H2 g2 v2=>⟨ρ,.int z,fz,h3,F2,(env.grow g1).grow g2,λw F3 H3 g3 v3=>?_⟩⟩;refine zKK λγ κ=>?_;obtain⟨p',us',e,dh,rs⟩:=((v1.now.grow g2).grow g3).dic;cases e;obtain⟨g,hj,_⟩:=zce dh (v2.now.grow g3) hk;refine κ ?_;refine⟨_,g,?_⟩;have gg:=(g1.trans g2).trans g3;cases o with
   | some j =>
    refine zKK λγ κ=>?_;obtain⟨d',h5,h6⟩:=zb he4;cases h6;obtain⟨v,e1,e2⟩:=rs.get h5;refine κ ?_;rw[ye,e1];exact q v F3 H3 gg e2
   | none =>
    cases he4;have:=v3.now.int;subst this;exact q _ F3 H3 gg zdy
  | _=>cases he3
 | _=>cases he3
theorem zpf{pins:List (yq×Obj)}{σ:St}{H:Hp}{s:ym}{A:x5}(I:Inv X pins σ H s)(hu:A.units<ju){p q:yq}{n m:List Int}(h:SqT X.K H p (n.map V.int))(h':SqT X.K H q (m.map V.int)):SeqAt.EqAt A s (.ref p) (.ref q) (n==m):=by
 by_cases e:p=q
 ·subst e
  have:=I.tuple_inj h h';have e2:n=m:=ya5 (λa b z=>by cases z;rfl) |>.mp this
  subst e2;rw[beq_self_eq_true];exact SeqAt.EqAt.same _
 ·refine .of_refs e ?_
  obtain⟨its,v1,p1,_⟩:=I.tuple h;obtain⟨its2,v2,p2,_⟩:=I.tuple h'
  have q:=SeqAt.RcAt.tuples (A:=A) (s:=s) (e:=λj=>n.getD j 0==m.getD j 0) p1 p2 hu λj h1 h2=>by
   have l1:=v1.length;have l2:=v2.length;rw[yd]at l1 l2;have j1:j<n.length:=by rw[l1];simpa using h1
   have j2:j<m.length:=by rw[l2];simpa using h2
   obtain⟨w1,e3,t1,rfl⟩:=v1.get (i:=j) (x:=V.int n[j]) (by simp[j1]);obtain⟨w2,e4,t2,rfl⟩:=v2.get (i:=j) (x:=V.int m[j]) (by simp[j2])
   have a1:its.toArray[j]=ya7 n[j] t1:=by
    have hj:j<its.length:=by simpa using h1
    rw[yc hj]at e3;simpa using qh e3
   have a2:its2.toArray[j]=ya7 m[j] t2:=by
    have hj:j<its2.length:=by simpa using h2
    rw[yc hj]at e4;simpa using qh e4
   rw[a1,a2];simp only[y3,yc j1,yc j2,Option.getD_some];exact SeqAt.EqAt.int_int _ _ _ _
  rw[yt,yt,← v1.length,← v2.length,yd,yd]at q
  have eb:(n==m)=((q5 (min n.length m.length)).all (λj=>n.getD j 0==m.getD j 0)&&n.length==m.length):=by
   have:∀n m:List Int,(n==m)=((q5 (min n.length m.length)).all (λj=>n.getD j 0==m.getD j 0)&&n.length==m.length):=λn=>by
    induction n with
    | nil=>intro m;cases m <;> simp
    | cons x n ih =>
     intro m;cases m with
     | nil=>simp
     | cons y m =>
      rw[List.cons_beq_cons,ih m,qf,qf,yeo,vj,wn,w4]
      have e:(n.length+1==m.length+1)=(n.length==m.length):=by
       rw[vh,beq_iff_eq,beq_iff_eq];lia
      rw[e,ye7];rfl
   exact this n m
  rw[eb];exact q
inductive RTab (K:Frag) (l:List (List Int)) (x:V) (y:V) (H:Hp) (Q:VK):Prop
 | mk (p q:yq) (n:List Int) (ex:x=.ref p) (ey:y=.ref q) (hp:SqT K H p (n.map V.int)) (hq:TabK K q l) (h:Q (.bl (!l.contains n)) H):RTab K l x y H Q
theorem zro(hu:X.A.units+64<ju){l:List (List Int)}:OpR X (je .NotIn) (RTab X.K l):=by
 rintro pins s σ H x y v u Q I rx ry ⟨p,q,n,ex,ey,hp,⟨bs,hb,hl,hr⟩,h⟩;subst ex ey;cases rx;cases ry;obtain⟨its,rv,pl,_⟩:=I.tuple (hb H)
 have hv:its=bs.map yw:=by
  have:∀(bs:List yq) (its:List yh),Vals (bs.map V.ref) its->its=bs.map yw:=λbs=>by
   induction bs with
   | nil=>intro its h;cases h;rfl
   | cons b bs ih =>
    intro its h;cases h with
    | cons h1 h2=>cases h1;rw[yo,← ih _ h2]
  exact this bs its rv
 subst hv;let e:yh->Bool:=λw=>(bs.zip l).any λr=>w==yw r.1&&r.2==n
 have key:∀(j:Nat) b m,bs[j]? = ya b->l[j]? = ya m->e (.ref b)=(m==n):=λj b m h1 h2=>by
  show(bs.zip l).any _=_;cases hm:m==n with
  | true=>exact jo.mpr ⟨(b,m),xk (by rw[ww];exact⟨h1,h2⟩),by simp[hm]⟩
  | false =>
   refine ybl.mpr λr hr'=>?_
   obtain⟨i,hi,er⟩:=j9 hr';have hz:=ww.mp (show(bs.zip l)[i]? = ya (r.1,r.2)by rw[yc hi,er]);by_cases eb:b=r.1
   ·have t1:=hr j b m h1 h2 H
    have t2:=hr i r.1 r.2 hz.1 hz.2 H;rw[← eb]at t2;have:m=r.2:=ya5 (λa b z=>by cases z;rfl) |>.mp (I.tuple_inj t1 t2)
    rw[← this,hm];simp
   ·simp[show¬(yw b==yw r.1)=yl fromλz=>eb (by simpa using z)]
 refine SeqAt.notIn_tupleAt e pl (λw hw=>?_) ⟨.bl _,H,I,rfl,?_⟩
 ·obtain⟨b,hb',rfl⟩:=yz.mp (show w∈bs.map yw by simpa using hw)
  obtain⟨j,hj,ej⟩:=j9 hb';have h1:bs[j]? = ya b:=by rw[yc hj,ej]
  have hj2:j<l.length:=by rw[← hl];exact hj
  rw[key j b l[j] h1 (yc hj2)];exact zpf I (by show X.A.units+1<ju;lia) (hr j b _ h1 (yc hj2) H) hp
 ·have ea:(bs.map yw).toArray.any e=l.contains n:=by
   rw[show(bs.map yw).toArray.any e=(bs.map yw).any e by simp,yan]
   have:∀(bs:List yq) (l:List (List Int)),bs.length=l.length->(∀(j:Nat) b m,bs[j]? = ya b->l[j]? = ya m->e (.ref b)=(m==n))->(bs.any (e∘yw))=l.contains n:=λbs=>by
    induction bs with
    | nil=>intro l h1 _;cases l with
     | nil=>rfl
     | cons _ _=>cases h1
    | cons b bs ih =>
     intro l h1 h2;cases l with
     | nil=>cases h1
     | cons m l =>
      rw[wz,yeg,ih l (by simpa using h1) λj b m z w=>h2 (j+1) b m (by simpa using z) (by simpa using w)];have:=h2 0 b m rfl rfl;show(e (.ref b)||_)=_;rw[this,show(n==m)=(m==n)from Bool.beq_comm]
   exact this bs l hl key
  rw[ea];exact h
theorem zk0{l:List (List Int)}{x:Str}{q:yq}(hq:TabK X.K q l){σ:St}{H:Hp}{Q:VK}(h:uE X.K cl (.ttn a' x l) σ H Q):tOp (RTab X.K l) (uE X.K cl a') (tC (.ref q)) σ H Q:=by
 refine zKK λγ κ=>?_;obtain⟨ρ,d,f,he,F,env,qq⟩:=h;rw[PY.znl]at he;obtain⟨⟨dx,fx⟩,h1,he1⟩:=za he;obtain⟨n,h2,he2⟩:=zb he1;cases he2;refine κ ?_;refine⟨ρ,dx,fx,h1,F,env,λv F1 H1 g1 v1=>?_⟩;cases dx with
 | tup m =>
  refine zKK λγ κ=>?_;obtain⟨p,xs,rfl,h3,h4⟩:=v1.now.tup;have ex:=zad (X:=X) (show ints? m=ya n from h2) h4;subst ex;refine κ ?_;exact⟨p,q,n,rfl,rfl,h3.seq,hq,qq _ F1 H1 g1 zca⟩
 | _=>cases h2
theorem zxd{x:Str}{l:List (List Int)}{q:yq}{p:Pos}(hu:X.A.units+64<ju)(hg:Gl X x)(hm:X.mg x=ya (.ref q))(hq:TabK X.K q l)(hd:(x==("__debug__" : Str))=yi)(ha:PE X a (uE X.K cl a')):PE X (.Compare a [.NotIn] [.Name x p] pos) (uE X.K cl (.ttn a' x l))/\PT X (.Compare a [.NotIn] [.Name x p] pos) (uT X.K cl (.ttn a' x l)):=by
 refine⟨PE.imp (zmj (zro hu) ha (zix hg hm (v:=.ref q) rfl hd) rfl) λσ H Q h=>zk0 hq h,PT.imp (zic (zro (l:=l) hu) ha (zix hg hm (v:=.ref q) rfl hd) rfl) λσ H Q ⟨ρ,k,he,F,env,qq⟩=>?_⟩;rw[PY.zkh]at he;obtain⟨⟨dx,fx⟩,h1,he1⟩:=za he;obtain⟨n,h2,he2⟩:=zb he1;refine zk0 (x:=x) hq ⟨ρ,.bl k,.solid,by rw[PY.znl,h1,ye];show(keyI dx).map _=_;rw[h2,← he2];rfl,F,env,λv F1 H1 g1 v1=>?_⟩;have hv:v=.bl k:=v1.now.bl;exact⟨k,hv,qq F1 H1 g1⟩
end
end SD
namespace HT
open PySem PyProof.Rows
theorem zaf:Slot "reversed" "__next__" "reversed.__next__" :=
 .of (owner:="reversed") (n:="__next__") (by rw[vi,jx];kernel_rfl) (by decide +kernel) (by decide +kernel) (by decide +kernel) (by first | exact .inl (by decide +kernel) | exact .inr (by decide +kernel)) (by rw[vy];kernel_rfl)
theorem zb3:entryFor table "reversed.__next__" = ya Builtin.«reversed.__next__»:=entryFor_of_tree (by kernel_rfl)
theorem zcd(a:yh):argsOk "reversed.__next__" ⟨[a],[]⟩:=by unfold argsOk;kernel_rfl
theorem zcq:Slot "reversed" "__iter__" "reversed.__iter__" :=
 .of (owner:="reversed") (n:="__iter__") (by rw[vi,jx];kernel_rfl) (by decide +kernel) (by decide +kernel) (by decide +kernel) (by first | exact .inl (by decide +kernel) | exact .inr (by decide +kernel)) (by rw[vy];kernel_rfl)
theorem zew:entryFor table "reversed.__iter__" = ya Builtin.«dict_keyiterator.__iter__» :=
 entryFor_alias (id':="dict_keyiterator.__iter__") (by kernel_rfl) (by first | rfl | decide +kernel | (unfold String.splitOn;simp +decide [String.splitOnAux])) (by decide +kernel) (by kernel_rfl)
theorem zfs(a:yh):argsOk "reversed.__iter__" ⟨[a],[]⟩:=by unfold argsOk;kernel_rfl
theorem zb8:Slot "reversed" "__length_hint__" "reversed.__length_hint__" :=
 .of (owner:="reversed") (n:="__length_hint__") (by rw[vi,jx];kernel_rfl) (by decide +kernel) (by decide +kernel) (by decide +kernel) (by first | exact .inl (by decide +kernel) | exact .inr (by decide +kernel)) (by rw[vy];kernel_rfl)
theorem zex:entryFor table "reversed.__length_hint__" = ya Builtin.«reversed.__length_hint__»:=entryFor_of_tree (by kernel_rfl)
theorem zfw(a:yh):argsOk "reversed.__length_hint__" ⟨[a],[]⟩:=by unfold argsOk;kernel_rfl
theorem zf6:Slot "reversed" "__init__" "object.__init__" :=
 .of (owner:="object") (n:="__init__") (by rw[vi,jx];kernel_rfl) (by decide +kernel) (by decide +kernel) (by decide +kernel) (by first | exact .inl (by decide +kernel) | exact .inr (by decide +kernel)) (by rw[vy];kernel_rfl)
theorem zc9:TypeCalled "reversed" "reversed.__new__" "object.__init__" :=
 ⟨by decide +kernel,by decide +kernel,⟨_,_,PySem.F.mro_reversed⟩,PySem.F.made_reversed,by decide +kernel,by rw[vy];kernel_rfl,zf6⟩
theorem zoo:typeLookup (.type "tuple") "__reversed__" = pure yk:=by rw[vi,jx];kernel_rfl
theorem zn4:typeLookup (.type "reversed") "__len__" = pure yk:=by rw[vi,jx];kernel_rfl
noncomputable def IsRev(h:Heap)(r t:yq)(i:Int):Prop:=h.get? r=ya { cls:=.type "reversed",data:=.fields #[.ref t,vb i]}
section
variable {prog:qw} {w:x8} {A:x5} {E:yh→ym→Prop} {s:ym}
theorem ze9{r t:yq}{i:Int}{Q:yh->ym->Prop}(hr:IsRev s.heap r t i)(h:Q (.ref r) s):y9 (model prog w) A (pyIter (.ref r)) Q E s:=by
 have hT:s.TypeIs (.ref r) "reversed":=⟨_,hr,rfl⟩;refine ybr hT zcq (x6 zcq hT zew ?_ (zfs _));show y9 _ _ (ret (.ref r)) _ _ s;exact yj ⟨_,rfl, "reversed",_,hT,zaf.lookup,h⟩
theorem zqa{r t:yq}{i:Nat}{its:Array yh}{y:yh}{Q:Option yh->ym->Prop}(hr:IsRev s.heap r t i)(ht:yah s.heap t its)(hy:its[i]? = ya y)(hz:its.size<=y8)
  (q:∀g tk,IsRev g r t ((i:Int) - 1)->Heap.SameBut r s.heap g->Q (ya y) { s with heap:=g,toks:=tk}):y9 (model prog w) A (pyNext (.ref r)) Q E s:=by
 have ty:s.TypeIs (.ref r) "reversed":=⟨_,hr,rfl⟩;unfold pyNext;refine yb (yav (wpAny_callSpecial?_slot (name:=Str.ofString "__next__") ty zaf (x6 zaf ty zb3 ?_ (zcd _))));show y9 _ _ (field (.ref r) 0 >>= _) _ _ _;refine yb (ui hr rfl (x:=.ref t) rfl ?_);show y9 _ _ (field (.ref r) 1 >>= _) _ _ _;refine yb (ui hr rfl (x:=vb i) rfl ?_);dsimp only[vb];rw[if_neg (by lia)]
 have hsp:∀{A':x5} {E':yh->ym->Prop} {s':ym} {Q':Option yh->ym->Prop},yah s'.heap t its->Q' (ya (.builtin "tuple.__getitem__")) s'->y9 (model prog w) A' (specialOf (.ref t) (Str.ofString "__getitem__")) Q' E' s':=λht' hq=>by
  unfold specialOf;exact yb (uj ht'.typeIs (ul yco.lookup hq))
 refine yb (hsp ht ?_);rw[if_neg (by simp)];refine yb (wpAny_mkInt ?_)
 have hi:i<its.size:=by
  rcases Nat.lt_or_ge i its.size with h | h
  ·exact h
  ·rw[ybj h]at hy;cases hy
 have hsl:=uh;refine yb (yav (PyProof.Rows.getItem_tuple (j:=i) (x:=y) ht (by lia) (by lia) (by unfold seqIndex?;simp;lia) hy ?_));dsimp only;refine yb (ui hr rfl (x:=vb i) rfl ?_);dsimp only[vb];refine yb (ycq hr (by simp) λg e1 e2=>?_);exact yj ⟨y,rfl,yj (q g _ (by unfold IsRev;simpa[vb]using e1) e2)⟩
theorem zte{r t:yq}{its:Array yh}{Q:Option yh->ym->Prop}(hh:A.handled=yk)(hr:IsRev s.heap r t (-1))(ht:yah s.heap t its)
  (q:∀g,Heap.ExtBut r s.heap g->Q yk { s with heap:=g}):y9 (model prog w) A (pyNext (.ref r)) Q E s:=by
 have ty:s.TypeIs (.ref r) "reversed":=⟨_,hr,rfl⟩;unfold pyNext;refine yb (yav (wpAny_callSpecial?_slot (name:=Str.ofString "__next__") ty zaf (x6 zaf ty zb3 ?_ (zcd _))));show y9 _ _ (field (.ref r) 0 >>= _) _ _ _;refine yb (ui hr rfl (x:=.ref t) rfl ?_);show y9 _ _ (field (.ref r) 1 >>= _) _ _ _;refine yb (ui hr rfl (x:=vb (-1)) rfl ?_);dsimp only[vb];rw[if_pos (by decide)];refine yb (wpAny_rule (yb ?_));show y9 _ _ (setField (.ref r) 1 (vb (-1)) >>= λ_=>setField (.ref r) 0 .none) _ _ _;refine yb (ycq hr (by simp) λg1 e1 k1=>ycq e1 (by simp) λg2 e2 k2=>?_);unfold Builtin.SmallTypes.stopIteration;refine yb ?_;refine yb ?_;simp only[newExc,newTuple];refine yb (jc ?_ (by size_fits));refine yb (m:=yal _ _) (ul (a:=Value.none) (by first | rfl | (simp only[yal];rfl)) ?_);refine jc ?_ (by size_fits);simp only[raiseNew];refine yb (wpAny_handled ?_)
 first | rw[show A.in1.handled=yk from hh] | rw[hh]
 refine yb (yj (wpAny_throw ?_));refine yb (yap (T:="StopIteration") (b:=yl) ⟨_,y4 _ rfl,rfl⟩ isSubtype_stop (yj (q _ ?_)));exactλb o hb e=>yp _ (yp _ (k2.extBut b o hb (k1.extBut b o hb e)))
theorem znd(hh:A.handled=yk)(r t:yq)(hne:t≠r)(its:Array yh)(hz:its.size<=y8) :
  Walks prog w A r [r,t] [r] its.size (λi v=>its[its.size - 1 - i]? = ya v) (λi h=>IsRev h r t ((its.size:Int) - 1 - (i:Nat))/\yah h t its) where
 sub:=λb hb=>by simp at hb;simp[hb]
 frame:=λi h h' st hk=>⟨hk r (by simp) _ st.1,let⟨o,e,x⟩:=st.2;⟨o,hk t (by simp) _ e,x⟩⟩
 item:=λi s Q E hi st hQ=>by
  have e:((its.size:Int) - 1 - (i:Nat))=((its.size - 1 - i:Nat):Int):=by lia
  have hy:its[its.size - 1 - i]? = ya (its[its.size - 1 - i]'(by lia)):=by first | (simp;done) | (simp;lia)
  refine zqa (i:=its.size - 1 - i) (by rw[← e];exact st.1) st.2 hy hz λg tk e1 k1=>hQ _ g tk hy ⟨?_,?_⟩ λb o hb z=>k1.extBut b o (λh=>hb (by simp[h])) z
  ·have e2:((its.size - 1 - i:Nat):Int) - 1=(its.size:Int) - 1 - ((i+1:Nat):Int):=by lia
   rw[← e2];exact e1
  ·obtain⟨o,z,x⟩:=st.2
   exact⟨o,k1.extBut t o hne z,x⟩
 done:=λs Q E st hQ=>by
  refine zte hh (by have:=st.1;rw[show((its.size:Int) - 1 - (its.size:Nat)) = -1 by lia]at this;exact this) st.2 λg k1=>hQ g s.toks λb o hb z=>k1 b o (λh=>hb (by simp[h])) z
 self:=λ_ _ _ _ st hQ=>ze9 st.1 hQ
theorem zgn{t:yq}{its:Array yh}{Q₁:yh->ym->Prop}(ht:yah s.heap t its)(hz:its.size<=y8)
  (h:∀tk,Q₁ (.ref s.heap.objs.size) { s with heap:=s.heap.push { cls:=.type "reversed",data:=.fields #[.ref t,vb ((its.size:Int) - 1)]},toks:=tk}) :
  yb1 (model prog w) A (.call (.builtin "reversed.__new__") ⟨[.type "reversed",.ref t],[]⟩) (wants Q₁ E) s:=by
 have hsl:=uh;refine ycb ?_;show y9 _ A.in1 (do checkBuiltinCall "reversed.__new__" ⟨[.type "reversed",.ref t],[]⟩;again (.builtin "reversed.__new__" ⟨[.type "reversed",.ref t],[]⟩)) _ _ s;refine yb (ul (PySem.F.newCall_reversed_1 _) (yj ⟨yaw ycl _,jv PySem.F.entry_reversed_new ?_⟩));rw[Around.under_plainId ycl _];refine zKK λγ κ=>?_;obtain⟨o,ho,hc,n,hd⟩:=id ht;have f1:=zoo;have f2:=ycv;have f3:=PySem.F.sub_tuple_dict;have f4:=yco.lookup;have hTt:s.TypeIs (.ref t) "tuple":=ht.typeIs;refine κ ?_;unfold Builtin.«reversed.__new__»;have hfit:(its.size:Int)<2 ^ 63:=by lia
 wp_walk using len_tuple ht hfit
 exact h _
theorem zqs{t:yq}{its:Array yh}{Q:yh->ym->Prop}(ht:yah s.heap t its)(hz:its.size<=y8)
  (h:∀tk,Q (.ref s.heap.objs.size) { s with heap:=s.heap.push { cls:=.type "reversed",data:=.fields #[.ref t,vb ((its.size:Int) - 1)]},toks:=tk}):y9 (model prog w) A (call (.type "reversed") [.ref t]) Q E s :=
 callType_codes (Q₁:=λobj s₁=>s₁.TypeIs obj "reversed"/\Q obj s₁) zc9 (PySem.F.typeCall_reversed_1 _) ycw (zgn ht hz λtk=>⟨⟨_,y4 _ rfl,rfl⟩,h tk⟩)
  λobj s₁ h₁=>⟨h₁.1,ycm obj _,object_init_meets zc9.init.lookup zc9.made (by decide) prog w A.in1 _ s₁ ⟨h₁.1,rfl,h₁.2⟩⟩
end
section
variable {prog:qw} {w:x8} {A:x5} {E:yh→ym→Prop} {s:ym}
theorem zge:typeOf (.builtin "reversed.__length_hint__")=pure (.type "method_descriptor"):=by show builtinType _=_;rw[builtinType_eq_fast];kernel_rfl
theorem zpo{r t:yq}{its:Array yh}{Q:Bool->ym->Prop}(hr:IsRev s.heap r t ((its.size:Int) - 1))(ht:yah s.heap t its)(hz:its.size<=y8)(q:∀k tk,Q k { s with toks:=tk}):y9 (model prog w) A (Builtin.List.listLengthHint (.ref r)) Q E s:=by
 have ty:s.TypeIs (.ref r) "reversed":=⟨_,hr,rfl⟩;have hsl:=uh;have hfit:(its.size:Int)<2 ^ 63:=by lia
 have f2:=ycv;unfold Builtin.List.listLengthHint;refine yb (u9 ty zn4 ?_);show y9 _ _ (specialOf (yw r) (Str.ofString "__length_hint__") >>= _) _ _ _;refine yb (u9 ty zb8.lookup ?_);have sp:splitId "reversed.__length_hint__" = ya ("reversed", "__length_hint__"):=by decide +kernel
 dsimp only;rw[sp];dsimp only;refine yb (yap ty f2 ?_);rw[if_neg (by decide),if_neg (by decide +kernel)];refine yb (wpAny_rule ?_);unfold bindSpecial;refine yb (yb (ul zge ?_));rw[if_pos (by decide)];refine yj ?_;dsimp only;refine yb (yav (x6 zb8 ty zex ?_ (zfw _)));show y9 _ _ (field (.ref r) 0 >>= _) _ _ _;refine yb (ui hr rfl (x:=.ref t) rfl ?_);rw[if_neg (by intro z;cases z)];refine yb (len_tuple ht hfit ?_);refine yb (ul (a:=ya (its.size:Int)) rfl ?_);dsimp only;refine yb (ui hr rfl (x:=vb ((its.size:Int) - 1)) rfl ?_);dsimp only[vb];rw[if_neg (by lia)];refine yb (wpAny_mkInt (yj ⟨_,rfl,?_⟩));dsimp only;refine yb (ul (a:=ya ((its.size:Int) - 1+1)) rfl ?_);dsimp only;rw[if_neg (by unfold Builtin.List.listFitsIndex;simp;lia),if_neg (by lia),if_neg (by unfold Builtin.List.listTooLong;simp;lia)];exact yj (q _ _)
theorem zi7{r t:yq}{its:Array yh}{Q:List yh->ym->Prop}(hh:A.handled=yk)(hr:IsRev s.heap r t ((its.size:Int) - 1))(ht:yah s.heap t its)(hz:its.size<=y8)(hne:t≠r)
  (q:∀h' tk,(∀b o,b≠r->s.heap.get? b=ya o->h'.get? b=ya o)->Q its.toList.reverse { s with heap:=h',toks:=tk}):y9 (model prog w) A (collect (.ref r)) Q E s:=by
 have rlt:r<s.heap.objs.size:=yx hr;have tlt:t<s.heap.objs.size:=by obtain⟨o,e,_⟩:=ht;exact yx e
 have nSr:s.heap.objs.size≠r:=uu rlt;have nSt:s.heap.objs.size≠t:=uu tlt;have hSf:s.heap.objs.size∉[r,t]:=by simp only[yn,jb,or_false,not_or];exact⟨nSr,nSt⟩
 unfold collect;refine yb (ycp (jv yb6 ?_));rw[Around.under_plainId yce _];refine yb (vn (yj ⟨Code.quiet_builtin _ (by decide +kernel),jv entry_list_iadd' ?_⟩));rw[Around.under_plainId yde _];show y9 _ _ (Builtin.List.listExtendWith (.ref s.heap.objs.size) (.ref r) (.ref s.heap.objs.size)) _ _ { s with heap:=s.heap.push (js "list" #[] 0)};have r1:IsRev (s.heap.push (js "list" #[] 0)) r t ((its.size:Int) - 1):=yp _ hr;have t1:yah (s.heap.push (js "list" #[] 0)) t its:=let⟨o,e,x⟩:=ht;⟨o,yp _ e,x⟩
 have new:(s.heap.push (js "list" #[] 0)).get? s.heap.objs.size=ya (js "list" #[] 0):=y4 _ rfl
 have loop:∀(h:Heap) (c tk:Nat),IsRev h r t ((its.size:Int) - 1)->yah h t its->h.get? s.heap.objs.size=ya (js "list" #[] c)->(∀b o,s.heap.get? b=ya o->h.get? b=ya o) ->
   yb1 (model prog w) A (.builtin "list.extend.loop" ⟨[.ref s.heap.objs.size,.ref r,.ref s.heap.objs.size],[]⟩) (λq0 s'=>∃h' tk' acc c',q0=.ok (.ret (.ref s.heap.objs.size))/\s'={ s with heap:=h',toks:=tk'}/\h'.get? s.heap.objs.size=ya (js "list" acc c')/\acc.toList=its.toList.reverse/\∀b o,b≠r->s.heap.get? b=ya o->h'.get? b=ya o) { s with heap:=h,toks:=tk}:=by
  intro h c tk a1 a2 a3 a4;refine codeAny_extend_loopS (znd (A:=A.in1) hh r t hne its hz).toS hz s.heap.objs.size hSf (.ref s.heap.objs.size) its.size 0 _ #[] c rfl (wm _) ⟨by simpa using a1,a2⟩ a3 (ItemsOf.nil _) λs' acc c' hm hS hacc=>?_
  rw[Moved.eq_with hm];refine⟨s'.heap,s'.toks,acc,c',rfl,rfl,hS,?_,λb o hb e=>hm.heap b o (λz=>?_) (a4 b o e)⟩
  ·apply yc3
   intro i;by_cases hi:i<its.size
   ·have h1:i<acc.size:=by rw[hacc.1];exact hi
    have h2:=hacc.2 i acc[i] (by simp[h1]);rw[xa,List.getElem?_reverse (by simpa using hi),qi,xa,h2];simp[h1]
   ·rw[v7 (by rw[qi,hacc.1];lia),v7 (by rw[wa,qi];lia)]
  ·rcases yn.mp z with z | z
   ·exact absurd (yx e) (by rw[z];exact yaa _)
   ·exact hb (qd.mp z)
 unfold Builtin.List.listExtendWith;refine yb (uj (T:="reversed") ⟨_,r1,rfl⟩ ?_);have k1:Builtin.List.listSameRef (.ref s.heap.objs.size) (.ref r)=yi:=by simp[Builtin.List.listSameRef,nSr]
 rw[if_neg (by rw[k1];decide)];refine yb (ze9 r1 (yb (jw (zpo r1 t1 hz λk tk=>?_))))
 have fin:∀(h:Heap) (c tk:Nat),IsRev h r t ((its.size:Int) - 1)->yah h t its->h.get? s.heap.objs.size=ya (js "list" #[] c)->(∀b o,s.heap.get? b=ya o->h.get? b=ya o) ->
   yb1 (model prog w) A (.builtin "list.extend.loop" ⟨[.ref s.heap.objs.size,.ref r,.ref s.heap.objs.size],[]⟩) (λq0 s'=>match q0 with | .ok (.ret v)=>y9 (model prog w) A (match v with | .ref a=>(do let o ← load a;match o.data with | .seq xs _=>pure xs.toList | _=>unsupported "internal:collect") | _=>unsupported "internal:collect") Q E s' | .ok _=>False | .error e=>E e s') { s with heap:=h,toks:=tk}:=by
  intro h c tk a1 a2 a3 a4;refine ybn (loop h c tk a1 a2 a3 a4) λq0 s' ζ=>?_;obtain⟨h',tk',acc,c',e1,e2,e3,e4,e5⟩:=ζ
  subst e1 e2;show y9 _ _ (load s.heap.objs.size >>= _) _ _ _;refine yb (wpAny_load e3 ?_);show y9 _ _ (pure acc.toList) _ _ _;rw[e4];exact yj (q h' tk' e5)
 dsimp only;refine ya3 (λ_=>?_) (λ_=>yj ⟨yaw ycx _,fin _ 0 _ r1 t1 new (λb o e=>yp _ e)⟩);refine yb (wpAny_rule (yb ?_));unfold Builtin.List.listTouch;have e1:=get?_update_seq new (·.push Value.none);refine yb (yau new rfl ?_ (wm _) (by show(#[].push Value.none).size<=y8+1;simp));have e2:=get?_update_seq e1 (·.pop);refine yau e1 rfl ?_ (by show(#[].push Value.none).size<=y8;simp;decide) (by show(#[].push Value.none).pop.size<=y8+1;simp)
 have st:∀b o,b≠s.heap.objs.size->(s.heap.push (js "list" #[] 0)).get? b=ya o->(((s.heap.push (js "list" #[] 0)).update s.heap.objs.size (Obj.mapSeq (·.push Value.none))).update s.heap.objs.size (Obj.mapSeq (·.pop))).get? b=ya o:=λb o hb e =>
  (ybg _ _ (xg hb)).trans ((ybg _ _ (xg hb)).trans e)
 have t2:yah (((s.heap.push (js "list" #[] 0)).update s.heap.objs.size (Obj.mapSeq (·.push Value.none))).update s.heap.objs.size (Obj.mapSeq (·.pop))) t its:=let⟨o,e,x⟩:=t1;⟨o,st t o (xg nSt) e,x⟩
 exact yj ⟨yaw ycx _,fin _ _ _ (st r _ (xg nSr) r1) t2 (by simpa using e2) λb o e=>st b o (qg (yx e)) (yp _ e)⟩
theorem zhl{r t:yq}{its:Array yh}{Q:yh->ym->Prop}(hh:A.handled=yk)(hr:IsRev s.heap r t ((its.size:Int) - 1))(ht:yah s.heap t its)(hz:its.size<=y8)(hne:t≠r)
  (q:∀(h':Heap) (tk:Nat),(∀b o,b≠r->s.heap.get? b=ya o->h'.get? b=ya o)->Q (.ref h'.objs.size) { s with heap:=h'.push { cls:=.type "tuple",data:=.seq its.toList.reverse.toArray},toks:=tk}):y9 (model prog w) A (call (.type "tuple") [.ref r]) Q E s:=by
 refine callType_codes (Q₁:=λobj s₁=>s₁.TypeIs obj "tuple"/\Q obj s₁) yb5 (PySem.F.typeCall_tuple_1 _) ycw (ycb ?_)
  λobj s₁ h₁=>⟨h₁.1,ycm obj _,object_init_meets yb5.init.lookup yb5.made (by decide) prog w A.in1 _ s₁ ⟨h₁.1,rfl,h₁.2⟩⟩
 show y9 _ A.in1.in1 (do checkBuiltinCall "tuple.__new__" ⟨[.type "tuple",.ref r],[]⟩;again (.builtin "tuple.__new__" ⟨[.type "tuple",.ref r],[]⟩)) _ _ s;refine yb (ul (PySem.F.newCall_tuple_1 _) (yj ⟨yaw ydi _,jv PySem.F.entry_tuple_new ?_⟩));rw[Around.under_plainId ydi _];have f1:=sub_tuple_self;have f2:=init_tuple_lookup;have f3:=madeHere_tuple;have hT:s.TypeIs (.ref r) "reversed":=⟨_,hr,rfl⟩;have hh3:A.in1.in1.handled=yk:=hh
 wp_walk using uj hT,zi7 hh3 hr ht hz hne
 intro h' tk hk;show y9 _ _ (Builtin.Tuple.tupleExact its.toList.reverse.toArray >>= λv=>ret v) _ _ _;unfold Builtin.Tuple.tupleExact;refine yb (jc (yj ?_) (by show its.toList.reverse.toArray.size<=y8;simpa using hz));exact⟨⟨_,y4 _ rfl,rfl⟩,q h' tk hk⟩
end
end HT
namespace L2
open PySem PySem.Spec PyProof.Rows
section
variable {X:Cx}
theorem Vals.rev:∀{xs:List V} {its:List yh},Vals xs its->Vals xs.reverse its.reverse
 | _,_,.nil=>.nil
 | _,_,.cons r rr=>by
  rw[jp,jp];exact(Vals.rev rr).append (.cons r .nil)
theorem ztl{a:Expr}{ta:TE}{p p2 p3 pos:Pos}(hc:X.calm=yl)(hg:Gl X "tuple")(hm:X.mg "tuple" = yk)(hg2:Gl X "reversed")(hm2:X.mg "reversed" = yk)(hs:jh [a] X.env=[(yi,eval a X.env)])(ha:PE X a ta) :
  PE X (.Call (.Name "tuple" p) [.Call (.Name "reversed" p2) [a] [] p3] [] pos) (λσ H Q=>ta σ H λx H1=>∃t xs,x=.ref t/\SqT X.K H1 t xs/\∀l,H1 l=yk->Q (.ref l) (upd H1 l (.tup xs.reverse))):=by
 intro pins s σ H Q I h;refine uy (zdb I hg hm ydh ?_);refine jz ?_ rfl rfl;show y9 _ _ (spliced [(yi,eval (.Call (.Name "reversed" p2) [a] [] p3) X.env)]) _ _ s;refine Calls.spliced_cons (uy (zdb I hg2 hm2 (show ud (Str.ofString "reversed")=ya (.type "reversed")by decide +kernel) (jz ?_ hs rfl)));rw[hs];refine Calls.spliced_cons (thn (ha pins s σ H _ I h) λv s1 ζ=>?_);refine zKK λγ κ=>?_;obtain⟨x,H1,I1,r1,t,xs,e,hq,q⟩:=ζ;subst e;cases r1;obtain⟨its,rv,pl,hz⟩:=I1.tuple hq;refine κ ?_;have hsz:its.toArray.size<=y8:=by rw[yt,← rv.length];exact hz
 have tlt:t<s1.heap.objs.size:=by obtain⟨o,e,_⟩:=pl;exact yx e
 refine Calls.spliced_nil (HT.zqs pl hsz λtk=>Calls.spliced_nil (HT.zhl (I.ok.hd hc) (y4 _ rfl) (let⟨o,e,z⟩:=pl;⟨o,yp _ e,z⟩) hsz (qg tlt) λh' tk' hk=>?_));have k1:∀b o,s1.heap.get? b=ya o->h'.get? b=ya o:=λb o e=>hk b o (qg (yx e)) (yp _ e)
 have I2:Inv X pins σ H1 { s1 with heap:=h',toks:=tk'}:=I1.kept (t':=tk') k1;have e:its.toArray.toList.reverse=its.reverse:=by simp
 rw[e];refine⟨.ref h'.objs.size,upd H1 h'.objs.size (.tup xs.reverse),I2.laid (t':=tk') (λb o e=>yp _ e) (y6 _) ?_,rfl,q _ (I2.hok.fresh (y6 _))⟩;exact⟨by rw[wa];exact hz,its.reverse,Vals.rev rv,⟨⟨_,y4 _ rfl,rfl,_,rfl⟩,_,y4 _ rfl,rfl⟩⟩
end
end L2
namespace PY
theorem zq7{α β:Type}{f:α->Option (Option β)}{g:α->β}:∀{l:List α},(∀x∈l,f x=ya (ya (g x)))->filterMapO f l=ya (l.map g)
 | [],_=>rfl
 | x::r,h=>by
  show(f x).bind _=_;rw[h x yg,zq7 (l:=r) λy hy=>h y (yf _ hy)];rfl
theorem zgx{α β:Type}{f:α->Option (Option β)}{p:α->Bool}{g:α->β}:∀{l:List α},(∀x∈l,f x=ya (if p x then ya (g x)else yk))->filterMapO f l=ya ((l.filter p).map g)
 | [],_=>rfl
 | x::r,h=>by
  show(f x).bind _=_;rw[h x yg,zgx (l:=r) λy hy=>h y (yf _ hy)];cases e:p x <;> simp[e]
theorem zhu{f:D->Rho->Option Out}(P:Nat->Rho->Prop):∀(ds:List D) (k:Nat) (ρ:Rho),P k ρ ->
  (∀i d ρ,ds[i]? = ya d->P (k+i) ρ->∃ρ',f d ρ=ya (.nx ρ')/\P (k+i+1) ρ')->∃ρ',loopO f ds ρ=ya (.nx ρ')/\P (k+ds.length) ρ'
 | [],k,ρ,h,_=>⟨ρ,rfl,h⟩
 | d::r,k,ρ,h,st=>by
  obtain⟨ρ1,e,h1⟩:=st 0 d ρ rfl h
  obtain⟨ρ2,e2,h2⟩:=zhu P r (k+1) ρ1 h1 λi d' ρ' hi hp=>by
   have:=st (i+1) d' ρ' (by simpa using hi) (by rw[show k+(i+1)=k+1+i by lia];exact hp);rw[show k+(i+1)+1=k+1+i+1 by lia]at this;exact this
  refine⟨ρ2,?_,?_⟩
  ·show(f d ρ).bind _=_
   rw[e];exact e2
  ·rw[show k+(d::r).length=k+1+r.length by simp;lia]
   exact h2
theorem zvd{α:Type}(q:α->Bool)(l:List α):(l.map λd=>D.bl (q d)).all D.truthy=l.all q:=by
 rw[w4];rfl
theorem zd0{n i:Nat}{lo:Int}{d:D}(h:(rangeD lo n)[i]? = ya d):i<n/\d=.int (lo+i):=by
 unfold rangeD at h;rw[yy]at h;by_cases hi:i<n
 ·rw[ycc hi]at h
  exact⟨hi,(qh h).symm⟩
 ·rw[v7 (by simpa using hi)]at h
  cases h
theorem zft:∀{l:List D} {k i:Nat} {d:D},(enumD k l)[i]? = ya d->∃x,l[i]? = ya x/\d=.tup [.int ((k+i:Nat):Int),x]
 | [],_,_,_,h=>by simp[enumD]at h
 | x::r,k,0,d,h=>by
  simp[enumD]at h;exact⟨x,rfl,by rw[← h];simp⟩
 | x::r,k,i+1,d,h=>by
  simp only[enumD,vd]at h;obtain⟨y,h1,h2⟩:=zft h;exact⟨y,by simpa using h1,by rw[h2];congr 3;lia⟩
theorem zdo:∀(l:List D) (k:Nat),(enumD k l).length=l.length
 | [],_=>rfl
 | x::r,k=>by simp[enumD,zdo r]
section
variable {cl:Nat→List D→Option D} {W:Nat} {ρ ρ':Rho}
theorem ze{s:S}{r:Ss}(h:ex cl W s ρ=ya (.nx ρ')):exs cl W (.cons s r) ρ=exs cl W r ρ':=by
 simp only[PY.zcm,h,ye]
theorem zn{s:S}{r:Ss}{v:D}(h:ex cl W s ρ=ya (.rt v)):exs cl W (.cons s r) ρ=ya (.rt v):=by
 simp only[PY.zcm,h,ye]
theorem z5{f:Fn}{as:List D}{v:D}(hp:as.length=f.ps/\f.ps<=f.n)(h:exs cl W f.body (as.map .val++ja (f.n - f.ps) .no)=ya (.rt v)):runF cl W f as=ya v:=by
 unfold runF;rw[if_pos hp];split
 ·rename_i b e
  rw[e]at h;simp only[PY.zcm,PY.zin,Option.bind_none]at h;cases h
 ·rw[h];rfl
theorem zo{t:Tg}{e:E}{r:R}(h:ev cl e ρ=ya r)(hg:giveR t r ρ=ya ρ'):ex cl W (.asg t e) ρ=ya (.nx ρ'):=by
 simp only[PY.zin,h,ye,hg,xx]
theorem z6{e:E}{d:D}{fl:Fl}(h:ev cl e ρ=ya (d,fl)):ex cl W (.ret e) ρ=ya (.rt d):=by
 have hn:dlOf e ρ=yk:=by
  cases e with
  | var i =>
   simp only[PY.zbj,PY.zba,PY.zac,slot]at h;cases hs:ρ[i]? with
   | none=>simp only[dlOf,hs]
   | some sl =>
    cases sl with
    | dl t ks ls=>rw[hs]at h;cases h
    | _=>simp only[dlOf,hs]
  | _=>rfl
 simp only[PY.zh9,hn,h,xx]
theorem zdh{c:E}{a b:Ss}{k:Bool}(h:evT cl c ρ=ya k):ex cl W (.cond c a b) ρ=if k then exs cl W a ρ else exs cl W b ρ:=by
 simp only[PY.zbw,h,ye]
theorem zax{c:E}{a:Ss}(h:evT cl c ρ=ya yi):ex cl W (.cond c a .nil) ρ=ya (.nx ρ):=by
 rw[zdh h];rfl
theorem zms{t:Tg}{it:I}{b:Ss}{ds:List D}(h:evi cl it ρ=ya (ds,yi))(P:Nat->Rho->Prop)(h0:P 0 ρ)
  (st:∀i d ρ,ds[i]? = ya d->P i ρ->∃ρ1 ρ',give t d ρ=ya ρ1/\exs cl W b ρ1=ya (.nx ρ')/\P (i+1) ρ'):∃ρ',ex cl W (.loop t it b) ρ=ya (.nx ρ')/\P ds.length ρ':=by
 obtain⟨ρ2,e,h2⟩:=zhu (f:=λd ρ=>(give t d ρ).bind λρ'=>exs cl W b ρ') P ds 0 ρ h0 λi d ρ hi hp=>by
  rw[vm]at hp;obtain⟨ρ1,ρ',g,e,q⟩:=st i d ρ hi hp;exact⟨ρ',by simp only[g,ye,e],by rw[vm];exact q⟩
 refine⟨ρ2,?_,by rw[vm]at h2;exact h2⟩;simp only[PY.zbz,h,ye];exact e
theorem zk2{e:E}{t:Tg}{it:I}{n:Nat}{keep:List Nat}{ds:List D}{b:Bool}(g:D->D)(hi:evi cl it ρ=ya (ds,b))
  (h:∀d∈ds,∃ρ' r,give t d (inner ρ n keep)=ya ρ'/\ev cl e ρ'=ya r/\solid? r=ya (g d)):ev cl (.comp e t it .no n keep) ρ=ya (.lst (ds.map g),.fresh):=by
 simp only[PY.zcp,hi,ye];rw[zq7 (g:=g) λx hx=>?_]
 ·rfl
 ·obtain⟨ρ',r,h1,h2,h3⟩:=h x hx
  simp only[h1,ye,PY.zfn,PY.zgd,if_true,h2,h3,xx]
theorem zgl{e c:E}{t:Tg}{it:I}{n:Nat}{keep:List Nat}{ds:List D}{b:Bool}(p:D->Bool)(g:D->D)(hi:evi cl it ρ=ya (ds,b))
  (h:∀d∈ds,∃ρ',give t d (inner ρ n keep)=ya ρ'/\evT cl c ρ'=ya (p d)/\(p d=yl->∃r,ev cl e ρ'=ya r/\solid? r=ya (g d))) :
  ev cl (.comp e t it (.so c) n keep) ρ=ya (.lst ((ds.filter p).map g),.fresh):=by
 simp only[PY.zcp,hi,ye];rw[zgx (p:=p) (g:=g) λx hx=>?_]
 ·rfl
 ·obtain⟨ρ',h1,h2,h3⟩:=h x hx
  simp only[h1,ye,PY.zfn,PY.zgd,h2];cases e:p x with
  | false=>rfl
  | true =>
   obtain⟨r,h4,h5⟩:=h3 e;simp only[if_true,h4,ye,h5,xx]
end
theorem zig(t:Tg)(d:D)(ρ:Rho):giveR t (d,.solid) ρ=give t d ρ:=by cases t <;> cases d <;> rfl
section
variable {cl:Nat→List D→Option D} {W:Nat} {ρ ρ':Rho}
theorem z7{t:Tg}{e:E}{d:D}(h:ev cl e ρ=ya (d,.solid))(hg:give t d ρ=ya ρ'):ex cl W (.asg t e) ρ=ya (.nx ρ'):=zo h (by rw[zig];exact hg)
end
section
variable {cl:Nat→List D→Option D} {W:Nat} {ρ ρ':Rho} {a b c:E} {x y z:D} {f g:Fl} {r:R}
theorem zfi{p q:Bool}(h:evT cl a ρ=ya p)(h':evT cl b ρ=ya q):evT cl (.or a b) ρ=ya (p||q):=by
 rw[PY.zok,h,ye];cases p <;> simp[h']
theorem zje{p q:Bool}(h:evT cl a ρ=ya p)(h':evT cl b ρ=ya q):evT cl (.and a b) ρ=ya (p&&q):=by
 rw[PY.zj8,h,ye];cases p <;> simp[h']
theorem ziy{p:Bool}(h:evT cl a ρ=ya p):evT cl (.not a) ρ=ya (!p):=by
 rw[PY.zki,h,xx]
theorem zi:evs cl .nil ρ=ya ([],yi):=by rw[PY.zcr]
theorem zc{as:Es}{ds:List D}(h:ev cl a ρ=ya (x,.solid))(h':evs cl as ρ=ya (ds,yi)):evs cl (.cons a as) ρ=ya (x::ds,yi):=by
 rw[PY.zav,h,ye,h'];rfl
theorem zgt{as:Es}{ds:List D}(h:ev cl a ρ=ya (x,.fresh))(h':evs cl as ρ=ya (ds,yi)):evs cl (.cons a as) ρ=ya (x::ds,yi):=by
 rw[PY.zav,h,ye,h'];rfl
theorem zl{n:Nat}{as:Es}{ds:List D}(h:evs cl as ρ=ya (ds,yi))(hc:cl n ds=ya x):ev cl (.call n as) ρ=ya (x,.solid):=by
 rw[PY.zac,h,ye];show(cl n ds).bind _=_;rw[hc];rfl
theorem zjw{n:Nat}{as:Es}{ds:List D}(h:evs cl as ρ=ya (ds,yi))(hc:cl n ds=ya x):evT cl (.call n as) ρ=tru x:=by
 rw[PY.zo1,h,ye];show(cl n ds).bind _=_;rw[hc];rfl
theorem z8{o:Bop}(ha:ev cl a ρ=ya (x,f))(hb:ev cl b ρ=ya (y,g))(h:binop o x y=ya r):ev cl (.bin o a b) ρ=ya r:=by
 rw[PY.zi3,ha,ye,hb,ye,h]
theorem zb2{o:Cop}{k:Bool}(ha:ev cl a ρ=ya (x,f))(hb:ev cl b ρ=ya (y,g))(h:cmpop o x y=ya k):ev cl (.cmp o a b) ρ=ya (.bl k,.solid):=by
 rw[PY.zmu,ha,ye,hb,ye,h];rfl
theorem zm{o:Cop}{k:Bool}(ha:ev cl a ρ=ya (x,f))(hb:ev cl b ρ=ya (y,g))(h:cmpop o x y=ya k):evT cl (.cmp o a b) ρ=ya k:=by
 rw[PY.zjt,ha,ye,hb,ye,h]
theorem zr{o:Bi}(ha:ev cl a ρ=ya (x,f))(h:bltin o x=ya r):ev cl (.bi o a) ρ=ya r:=by
 rw[PY.zg0,ha,ye,h]
theorem zbd(ha:ev cl a ρ=ya (x,f))(hb:ev cl b ρ=ya (y,g))(h:index x y=ya r):ev cl (.ix a b) ρ=ya r:=by
 rw[PY.zo4,ha,ye,hb,ye,h]
theorem zea{as:Es}{ds:List D}(h:evs cl as ρ=ya (ds,yi))(hl:ds.length<=big):ev cl (.tup as) ρ=ya (.tup ds,.solid):=by
 rw[PY.zlx,h,ye];show(if yi=yi/\ds.length<=big then _ else _)=_;rw[if_pos ⟨rfl,hl⟩]
theorem zgo{as:Es}{ds:List D}(h:evs cl as ρ=ya (ds,yi))(hl:ds.length<=big):ev cl (.lst as) ρ=ya (.lst ds,.fresh):=by
 rw[PY.zoj,h,ye];show(if yi=yi/\ds.length<=big then _ else _)=_;rw[if_pos ⟨rfl,hl⟩]
theorem zt{l:List D}(h:ev cl a ρ=ya (x,.solid))(hi:items x=ya l):evi cl (.seq a) ρ=ya (l,yi):=by
 rw[PY.zgc,h,ye,hi];rfl
theorem zpg{l:List D}(h:ev cl a ρ=ya (x,.solid))(hi:lsti x=ya l):evi cl (.enum a) ρ=ya (enumD 0 l,yi):=by
 rw[PY.zhc,h,ye,hi];rfl
theorem zn7{p:Bool}{d:D}(ha:ev cl a ρ=ya (.bl yl,f))(hb:ev cl b ρ=ya r):ev cl (.and a b) ρ=ya r:=by
 rw[PY.za9,ha,ye];exact hb
end
section
variable {cl:Nat→List D→Option D} {W:Nat} {ρ ρ':Rho} {a b c:E} {x y z:D} {f g:Fl} {r:R}
theorem zo3{lo hi:Eo}{l h:Option Int}(ha:ev cl a ρ=ya (x,f))(hl:evo cl lo ρ=ya l)(hh:evo cl hi ρ=ya h)(hs:slice x l h=ya r):ev cl (.sl a lo hi) ρ=ya r:=by
 rw[PY.zrq,ha,ye,hl,ye,hh,ye,hs]
theorem zfv{α:Type}(l:List α)(k:Nat):cutL l yk (ya (k:Int))=l.take k:=by
 unfold cutL six;simp only[ybk,yen];rw[if_neg (by lia),ybi];rw[Nat.min_def];split
 ·rfl
 ·rename_i h
  rw[vk (by lia),vk (by lia)]
theorem zkm{α:Type}(l:List α)(k:Nat):cutL l (ya (k:Int)) yk=l.drop k:=by
 unfold cutL six;simp only[];rw[if_neg (by lia),ybi];rw[Nat.min_def];split
 ·rw[vk (by rw[wk];lia)]
 ·rename_i h
  rw[ydt (by lia),ydt (by lia)];simp
end
theorem zkw{α:Type}(q:α->Bool)(l:List α):(l.map λd=>D.bl (q d)).all isBl=yl:=by
 rw[w4,qo];intro _ _;rfl
theorem zgq{α:Type}(q:α->Bool)(l:List α):bltin .all (.lst (l.map λd=>D.bl (q d)))=ya (.bl (l.all q),.solid):=by
 show(if(l.map λd=>D.bl (q d)).all isBl then ya (D.bl ((l.map λd=>D.bl (q d)).all D.truthy),Fl.solid)else yk)=_;rw[zkw,zvd];rfl
theorem zhy{c:Rho->Option Bool}{f:Rho->Option Out}(P:Nat->Rho->Prop)
  (st:∀m ρ,P m ρ->c ρ=ya yi\/(c ρ=ya yl/\∃ρ' m',f ρ=ya (.nx ρ')/\P m' ρ'/\m'<m)) :
  ∀(N m:Nat) (ρ:Rho),P m ρ->m<N->∃ρ' m',whileO c f N ρ=ya (.nx ρ')/\P m' ρ'/\c ρ'=ya yi
 | 0,m,ρ,_,h=>absurd h (yb7 _)
 | N+1,m,ρ,hp,hm=>by
  rcases st m ρ hp with hc | ⟨hc,ρ',m',e,hp',hlt⟩
  ·refine⟨ρ,m,?_,hp,hc⟩
   simp only[whileO,hc,ye];rfl
  ·have q:whileO c f (N+1) ρ=whileO c f N ρ':=by
    simp only[whileO,hc,ye,if_true,e]
   rw[q];exact zhy P st N m' ρ' hp' (by lia)
theorem zt8{α:Type}(q:α->Bool)(l:List α):bltin .any (.lst (l.map λd=>D.bl (q d)))=ya (.bl (l.any q),.solid):=by
 show(if(l.map λd=>D.bl (q d)).all isBl then ya (D.bl ((l.map λd=>D.bl (q d)).any D.truthy),Fl.solid)else yk)=_;rw[zkw,yan];rfl
end PY
namespace SD
open PySem PySem.Spec PyProof.Rows L2 PY
theorem Reps.rev{K:Frag}{F:Fz}{H:Hp}:∀{ds:List D} {vs:List V},Reps K F H ds vs->Reps K F H ds.reverse vs.reverse
 | [],vs,h=>by rw[Reps]at h;subst h;exact .nil
 | d::ds,vs,h=>by
  rw[Reps]at h;obtain⟨v,r,rfl,h1,h2⟩:=h;rw[jp,jp];exact(Reps.rev h2).append (.cons h1 .nil)
theorem zu0{X:Cx}{cl:Cl}{a:Expr}{a':E}{pos p p2 p3:Pos}(hc:X.calm=yl)(hg:Gl X "tuple")(hm:X.mg "tuple" = yk)(hg2:Gl X "reversed")(hm2:X.mg "reversed" = yk)(hs:∀v p,a≠.Starred v p)(ha:PE X a (uE X.K cl a')) :
  PE X (.Call (.Name "tuple" p) [.Call (.Name "reversed" p2) [a] [] p3] [] pos) (uE X.K cl (.bi .revT a')):=by
 refine PE.imp (ztl hc hg hm hg2 hm2 (zd hs) ha) λσ H Q ζ=>?_;obtain⟨ρ,d,f,he,F,env,q⟩:=ζ
 rw[PY.zg0]at he;obtain⟨⟨dx,fx⟩,h1,he1⟩:=za he;refine⟨ρ,dx,fx,h1,F,env,λx F1 H1 g1 v1=>?_⟩;cases dx with
 | tup l =>
  cases he1;obtain⟨p,xs,rfl,h3,h4⟩:=v1.now.tup;exact⟨p,xs,rfl,h3.seq,λl' hl'=>q _ _ _ (g1.trans (Grow.laid hl')) (zer hl' h4.rev)⟩
 | _=>cases he1
theorem zwe{X:Cx}{cl:Cl}{pos:Pos}:PE X (.Dict [] [] pos) (uE X.K cl .dic0):=by
 refine PE.imp zq1 λσ H Q ζ=>?_;obtain⟨ρ,d,f,he,F,env,q⟩:=ζ
 cases he;exactλp hp=>q _ F _ (Grow.loose hp) ⟨p,⟨rfl,λz=>env.dom p z hp,[],⟨[],rfl,ye9,rfl,zj⟩,.nil⟩,hp⟩
def gNs:List Nat->TGs
 | []=>gNil
 | i::r=>gCons (gName i) (gNs r)
def uG(K:Frag):Tg->TG
 | .one i=>gName i
 | .many is=>gTup K is.length (gNs is)
def tgIs:Tg->List Nat
 | .one i=>[i]
 | .many is=>is
section
variable {K:Frag} {F:Fz} {H:Hp} {σ:St} {ρ:Rho}
theorem zan{i j:Nat}{sl:Sl}{d:D}(h:mine (ρ.set i sl) j=ya d):(i=j/\(Sl.thing sl)=ya d/\i < ρ.length)\/(i≠j/\mine ρ j=ya d):=by
 unfold mine at h;rw[jq]at h;by_cases hj:i=j
 ·rw[if_pos hj]at h
  by_cases hl:i < ρ.length
  ·rw[if_pos hl,ye]at h
   exact .inl ⟨hj,h,hl⟩
  ·rw[if_neg hl]at h;cases h
 ·rw[if_neg hj]at h
  exact .inr ⟨hj,h⟩
theorem zcs{i:Nat}{d:D}(h:mine ρ i=ya d):∃sl,ρ[i]? = ya sl/\(Sl.thing sl)=ya d:=za h
theorem zal{i:Nat}{sl:Sl}{d:D}(h:ρ[i]? = ya sl)(h':(Sl.thing sl)=ya d):mine ρ i=ya d:=by unfold mine;rw[h];exact h'
theorem EnvR.set(e:EnvR K F H σ ρ){d:D}{v:V}(r:Rep K F H d v)(i:Nat):EnvR K F H (σ.set i (ya v)) (ρ.set i (.val d)) where
 val:=λj d' h=>by
  rw[jq]at h ⊢;by_cases hj:i=j
  ·subst hj
   by_cases hl:i < ρ.length
   ·rw[if_pos rfl,if_pos hl]at h
    cases h;rw[if_pos rfl,if_pos (by rw[e.len];exact hl)];exact⟨v,rfl,r⟩
   ·rw[if_pos rfl,if_neg hl]at h;cases h
  ·rw[if_neg hj]at h ⊢
   exact e.val j d' h
 own:=λj l h=>by
  rcases zan h with⟨_,h,_⟩ | ⟨hj,h⟩
  ·cases h
  ·rw[jq,if_neg hj]
   exact e.own j l h
 dl:=λj t ks ls h=>by
  rw[jq]at h;by_cases hj:i=j
  ·rw[if_pos hj]at h
   split at h <;> cases h
  ·rw[if_neg hj]at h
   rw[jq,if_neg hj];exact e.dl j t ks ls h
 len:=by rw[wv,wv];exact e.len
 dom:=e.dom
 tab:=e.tab
theorem zfh:∀{is:List Nat} {ds:List D} {ρ ρ':Rho},setAll is ds ρ=ya ρ'->is.length=ds.length
 | [],[],_,_,_=>rfl
 | [],_::_,_,_,h=>by cases h
 | _::_,[],_,_,h=>by cases h
 | i::is,d::ds,ρ,ρ',h=>by
  have:=zfh (is:=is) (ds:=ds) h;simp[this]
theorem zj3{Q:St->Hp->Prop}:∀{is:List Nat} {ds:List D} {xs:List V} {σ:St} {ρ ρ':Rho},EnvR K F H σ ρ->Reps K F H ds xs->setAll is ds ρ=ya ρ' ->
  (∀σ',EnvR K F H σ' ρ'->(∀j,j∉is->σ'[j]? = σ[j]?)->Q σ' H)->gNs is xs σ H Q
 | [],[],xs,σ,ρ,ρ',e,r,h,q=>by
  rw[Reps]at r;subst r;cases h;exact⟨rfl,q σ e λ_ _=>rfl⟩
 | [],_::_,_,_,_,_,_,_,h,_=>by cases h
 | _::_,[],_,_,_,_,_,_,h,_=>by cases h
 | i::is,d::ds,xs,σ,ρ,ρ',e,r,h,q=>by
  rw[Reps]at r;obtain⟨v,w,rfl,h1,h2⟩:=r;refine⟨v,w,rfl,zj3 (is:=is) (e.set h1 i) h2 h λσ' e' k=>q σ' e' λj hj=>?_⟩;rw[k j λz=>hj (yf _ z),jq,if_neg λz=>hj (by rw[z];exact yg)]
theorem zor{Q:St->Hp->Prop}{t:Tg}{d:D}{v:V}{ρ':Rho}(e:EnvR K F H σ ρ)(r:Rep K F H d v)(h:give t d ρ=ya ρ')(q:∀σ',EnvR K F H σ' ρ'->(∀j,j∉tgIs t->σ'[j]? = σ[j]?)->Q σ' H):uG K t v σ H Q:=by
 cases t with
 | one i =>
  cases h;refine q _ (e.set r i) λj hj=>?_
  rw[jq,if_neg λz=>hj (by rw[z];exact qd.mpr rfl)]
 | many is =>
  cases d with
  | tup ds =>
   rw[Rep]at r;obtain⟨a,xs,rfl,h1,h2⟩:=r;have h:setAll is ds ρ=ya ρ':=h;exact⟨a,xs,rfl,h1.seq,by rw[← h2.length,zfh h],zj3 e h2 h q⟩
  | _=>cases h
theorem EnvR.inner(e:EnvR K F H σ ρ)(n:Nat)(keep:List Nat):EnvR K F H (caps n keep σ) (PY.inner ρ n keep) where
 val:=λi d h=>by
  unfold PY.inner at h;by_cases hi:i<n
  ·rw[xc (by simpa using hi),jn]at h
   split at h <;> cases h
  ·rw[qz (by simpa using hi),xo,yy]at h
   cases e1:keep[i - n]? with
   | none=>rw[e1]at h;cases h
   | some j =>
    rw[e1]at h;have h:ρ.getD j .no=.val d:=qh h
    have hj:ρ[j]? = ya (.val d):=by
     rw[vp]at h;cases e2:ρ[j]? with
     | none=>rw[e2]at h;cases h
     | some z=>rw[e2]at h;exact congrArg ya h
    obtain⟨v,h1,h2⟩:=e.val j d hj;refine⟨v,?_,h2⟩;unfold caps;rw[qz (by simpa using hi),xo,yy,e1];show ya ((σ[j]?).join)=_;rw[h1];rfl
 own:=λi l h=>by
  obtain⟨sl,h,ht⟩:=zcs h;unfold PY.inner at h;by_cases hi:i<n
  ·rw[xc (by simpa using hi),jn]at h
   split at h <;> cases h <;> cases ht
  ·rw[qz (by simpa using hi),xo,yy]at h
   cases e1:keep[i - n]? with
   | none=>rw[e1]at h;cases h
   | some j =>
    rw[e1]at h;have h:ρ.getD j .no=sl:=qh h
    have hj:ρ[j]? = ya sl:=by
     rw[vp]at h;cases e2:ρ[j]? with
     | none=>rw[e2]at h;subst h;cases ht
     | some z=>rw[e2]at h;exact congrArg ya h
    obtain⟨a,h1,h2⟩:=e.own j l (zal hj ht);refine⟨a,?_,h2⟩;unfold caps;rw[qz (by simpa using hi),xo,yy,e1];show ya ((σ[j]?).join)=_;rw[h1];rfl
 dl:=λi t ks ls h=>by
  unfold PY.inner at h;by_cases hi:i<n
  ·rw[xc (by simpa using hi),jn]at h
   split at h <;> cases h
  ·rw[qz (by simpa using hi),xo,yy]at h
   cases e1:keep[i - n]? with
   | none=>rw[e1]at h;cases h
   | some j =>
    rw[e1]at h;have h:ρ.getD j .no=.dl t ks ls:=qh h
    have hj:ρ[j]? = ya (.dl t ks ls):=by
     rw[vp]at h;cases e2:ρ[j]? with
     | none=>rw[e2]at h;cases h
     | some z=>rw[e2]at h;exact congrArg ya h
    obtain⟨a,bs,h1,h2⟩:=e.dl j t ks ls hj;refine⟨a,bs,?_,h2⟩;unfold caps;rw[qz (by simpa using hi),xo,yy,e1];show ya ((σ[j]?).join)=_;rw[h1];rfl
 len:=by
  unfold caps PY.inner;rw[yu,yu,xo,xo,yd,yd]
 dom:=e.dom
 tab:=e.tab
end
section
variable {K:Frag} {F F':Fz} {H H':Hp} {σ:St} {ρ:Rho}
def ItS(S:Hp->List V->Prop):It:=⟨λi H=>∃xs x,S H xs/\xs[i]? = ya x,λi H x H'=>H'=H/\∀xs,S H xs->xs[i]? = ya x,λi H=>∃xs,S H xs/\xs.length<=i⟩
theorem zrb{S:Hp->List V->Prop}{xs:List V}{l:List D}{P:Fz}(hs:∀H1:Hp,(∀b o,F b\/P b->NT o->H b=ya o->H1 b=ya o)->(∀b ys,H b=ya (.tup ys)->H1 b=ya (.tup ys))->S H1 xs)(r:Reps K F H l xs)(hz:xs.length<=y8):Iter K F H (ItS S) l P:=by
 refine⟨by rw[r.length];exact hz,λi F1 H1 hF hk ht=>⟨λd hd=>?_,λhl=>⟨xs,hs H1 hk ht,by rw[← r.length];exact hl⟩⟩⟩;obtain⟨v,h1,h2⟩:=r.get hd;refine⟨⟨xs,v,hs H1 hk ht,h1⟩,λx H2 y=>?_⟩;obtain⟨rfl,y⟩:=y;have:=y xs (hs _ hk ht);rw[h1]at this;cases this;exact⟨F1,Grow.refl _ _,h2.keep ⟨hF,λa o ha n e=>hk a o (.inl ha) n e,ht⟩⟩
theorem zvc{S:Hp->List V->Prop}{xs:List V}{l:List D}{P:Fz}(hs:∀H1:Hp,(∀b o,F b\/P b->NT o->H b=ya o->H1 b=ya o)->(∀b ys,H b=ya (.tup ys)->H1 b=ya (.tup ys))->S H1 xs)(r:Reps K F H l xs)(hz:xs.length<=y8):Iter K F H (Ite S) (enumD 0 l) P:=by
 refine⟨by rw[zdo,r.length];exact hz,λi F1 H1 hF hk ht=>⟨λd hd=>?_,λhl=>⟨xs,hs H1 hk ht,by rw[← r.length,← zdo l 0];exact hl⟩⟩⟩;refine zKK λγ κ=>?_;obtain⟨d1,hd1,rfl⟩:=zft hd;obtain⟨v,h1,h2⟩:=r.get hd1;refine κ ?_;refine⟨⟨xs,v,hs H1 hk ht,h1⟩,λx H2 y=>?_⟩;refine zKK λγ κ=>?_;obtain⟨p,hp,rfl,y⟩:=y;obtain⟨x1,e1,rfl⟩:=y xs (hs _ hk ht);rw[h1]at e1;cases e1;refine κ ?_;refine⟨addF F1 p,Grow.laid hp,?_⟩;rw[vm];exact zer hp (.cons zv (.cons (h2.keep ⟨hF,λa o ha n e=>hk a o (.inl ha) n e,ht⟩) .nil))
theorem zs4{l m:List D}{i:Nat}{d:D}(h:(zipD l m)[i]? = ya d):∃x y,l[i]? = ya x/\m[i]? = ya y/\d=.tup [x,y]:=by
 unfold zipD at h;rw[yy]at h;cases e:(l.zip m)[i]? with
 | none=>rw[e]at h;cases h
 | some p =>
  rw[e]at h;cases h;have:=ww.mp (show(l.zip m)[i]? = ya (p.1,p.2)from e);exact⟨_,_,this.1,this.2,rfl⟩
theorem zvs{S T:Hp->List V->Prop}{xs ys:List V}{l m:List D}{P:Fz}(hs:∀H1:Hp,(∀b o,F b\/P b->NT o->H b=ya o->H1 b=ya o)->(∀b ys,H b=ya (.tup ys)->H1 b=ya (.tup ys))->S H1 xs)(ht:∀H1:Hp,(∀b o,F b\/P b->NT o->H b=ya o->H1 b=ya o)->(∀b ys,H b=ya (.tup ys)->H1 b=ya (.tup ys))->T H1 ys)
  (r:Reps K F H l xs) (r':Reps K F H m ys) (hz:xs.length<=y8):Iter K F H (Itz S T) (zipD l m) P:=by
 have hl:(zipD l m).length=min l.length m.length:=by unfold zipD;rw[yd,yb8]
 have l1:=r.length;have l2:=r'.length;refine⟨by rw[hl];lia,λi F1 H1 hF hk hT=>⟨λd hd=>?_,λh=>⟨xs,ys,hs H1 hk hT,ht H1 hk hT,by rw[hl]at h;lia⟩⟩⟩;refine zKK λγ κ=>?_;obtain⟨d1,d2,e1,e2,rfl⟩:=zs4 hd;obtain⟨v,a1,a2⟩:=r.get e1;obtain⟨w,b1,b2⟩:=r'.get e2;refine κ ?_;refine⟨⟨xs,ys,v,w,hs H1 hk hT,ht H1 hk hT,a1,b1⟩,λx H2 y=>?_⟩;refine zKK λγ κ=>?_;obtain⟨p,hp,rfl,y⟩:=y;obtain⟨x1,y1,c1,c2,rfl⟩:=y xs ys (hs _ hk hT) (ht _ hk hT);rw[a1]at c1;rw[b1]at c2;cases c1;cases c2;have kp:Keep F H F1 H1:=⟨hF,λa o ha n e=>hk a o (.inl ha) n e,hT⟩;refine κ ?_;exact⟨addF F1 p,Grow.laid hp,zer hp (.cons (a2.keep kp) (.cons (b2.keep kp) .nil))⟩
theorem zvb{lo:Int}{n:Nat}{P:Fz}(hz:n<=y8):Iter K F H (Itr lo n) (rangeD lo n) P:=by
 have hl:(rangeD lo n).length=n:=by unfold rangeD;rw[yd,yad]
 refine⟨by rw[hl];exact hz,λi F1 H1 hF hk ht=>⟨λd hd=>?_,λh=>by rw[hl]at h;exact h⟩⟩;obtain⟨h1,rfl⟩:=zd0 hd;refine⟨h1,λx H2 y=>?_⟩;obtain⟨rfl,rfl⟩:=y;exact⟨F1,Grow.refl _ _,zv⟩
theorem Val.walk{l:List D}{v:V}{H₀:Hp}{F₀ O:Fz}{f:Fl}(h:Val K F H (.lst l) v H₀ O f)(g:Grow F₀ H₀ F H):∃(F1 P:Fz) (a:yq) (xs:List V),Grow F₀ H₀ F1 H/\((f==Fl.peek)=yi->∀b,P b->F1 b)/\v=.ref a/\Reps K F1 H l xs/\SqL K H a xs /\
  ∀H1:Hp,(∀b o,F1 b\/P b->NT o->H b=ya o->H1 b=ya o)->(∀b ys,H b=ya (.tup ys)->H1 b=ya (.tup ys))->SqL K H1 a xs:=by
 cases f with
 | solid =>
  have h:Rep K F H (.lst l) v:=h;rw[Rep]at h;refine zKK λγ κ=>?_;obtain⟨a,xs,e,h1,h2⟩:=h;refine κ ?_;refine⟨F,λ_=>False,a,xs,g,λ_ b z=>z.elim,e,h2,h1.seq,λH1 k _=>?_⟩;rcases h1 with⟨h1,h3⟩ | h1
  ·exact .inl (Rd.keep h3 λo n e=>k a o (.inl h1) n e)
  ·exact h1 H1
 | fresh =>
  refine zKK λγ κ=>?_;obtain⟨a,lo,n⟩:=h;obtain⟨xs,e2,e3,e4,e5⟩:=lo.lst;refine κ ?_;refine⟨addF F a,λ_=>False,a,xs,g.prot n (by rw[e3];simp),λ_ b z=>z.elim,e2,e5.keep Keep.prot,.of e3,λH1 k _=>.of (k a _ (.inl (.inr rfl)) x4 e3)⟩
 | peek =>
  refine zKK λγ κ=>?_;obtain⟨a,lo,n⟩:=h;obtain⟨xs,e2,e3,e4,e5⟩:=lo.lst;refine κ ?_;exact⟨F,λb=>b=a,a,xs,g,λz=>(by cases z),e2,e5,.of e3,λH1 k _=>.of (k a _ (.inr rfl) x4 e3)⟩
end
section
variable {X:Cx} {cl:Cl} {a b:Expr} {a' b':E} {pos:Pos} {tg:Expr}
theorem zvm(ha:PE X a (uE X.K cl a')):PI X tg a (uI X.K cl (.seq a')):=by
 intro pins s σ H R I ζ6;refine zKK λγ κ=>?_;obtain⟨ρ,ds,lent,he,F,env,q⟩:=ζ6;rw[PY.zgc]at he;obtain⟨⟨d,f⟩,h1,he⟩:=za he;obtain⟨l,h2,he⟩:=zb he;cases he;refine κ ?_;cases d with
 | lst l' =>
  cases h2;refine zpm ha pins s σ H R I ⟨ρ,_,f,h1,F,env,λv F1 H1 g1 v1=>?_⟩;refine zKK λγ κ=>?_;obtain⟨F2,P,p,xs,g2,hP,rfl,r2,sq,ks⟩:=v1.walk g1;refine κ ?_;exact⟨p,xs,rfl,sq,λhz=>q _ F2 H1 P g2 hP (zrb (S:=λH xs=>SqL X.K H p xs) ks r2 hz)⟩
 | tup l' =>
  cases h2;refine zsa ha pins s σ H R I ⟨ρ,_,f,h1,F,env,λv F1 H1 g1 v1=>?_⟩;refine zKK λγ κ=>?_;obtain⟨p,xs,rfl,h3,h4⟩:=v1.now.tup;refine κ ?_;refine⟨p,xs,rfl,h3.seq,λhz=>q _ F1 H1 (λ_=>False) g1 (λ_ b z=>z.elim) (zrb (S:=λH xs=>SqT X.K H p xs) (λH2 _ k=>.inl (.inl (k p xs h3))) h4 hz)⟩
 | _=>cases h2
theorem zvu{es:List Expr}{k:Nat}{pt p:Pos}(hg:Gl X "enumerate")(hm:X.mg "enumerate" = yk)(hs:∀v p,a≠.Starred v p)(ha:PE X a (uE X.K cl a')):PI X (.Tuple es k pt) (.Call (.Name "enumerate" p) [a] [] pos) (uI X.K cl (.enum a')):=by
 intro pins s σ H R I ζ7;refine zKK λγ κ=>?_;obtain⟨ρ,ds,lent,he,F,env,q⟩:=ζ7;rw[PY.zhc]at he;obtain⟨⟨d,f⟩,h1,he⟩:=za he;obtain⟨l,h2,he⟩:=zb he;cases he;refine κ ?_;cases d with
 | lst l' =>
  cases h2;refine zqz hg hm (zq ha zae (hs:=zd hs)) (zd hs) pins s σ H R I ⟨ρ,_,f,h1,F,env,λv F1 H1 g1 v1=>?_⟩;refine zKK λγ κ=>?_;obtain⟨F2,P,p,xs,g2,hP,rfl,r2,sq,ks⟩:=v1.walk g1;refine κ ?_;exact⟨p,xs,rfl,sq,λhz=>q _ F2 H1 P g2 hP (zvc (S:=λH xs=>SqL X.K H p xs) ks r2 hz)⟩
 | _=>cases h2
theorem zxz{es:List Expr}{k:Nat}{pt p:Pos}(hg:Gl X "zip")(hm:X.mg "zip" = yk)(hs:∀v p,a≠.Starred v p)(hs2:∀v p,b≠.Starred v p)(ha:PE X a (uE X.K cl a'))(hb:PE X b (uE X.K cl b')):PI X (.Tuple es k pt) (.Call (.Name "zip" p) [a,b] [] pos) (uI X.K cl (.zip a' b')):=by
 intro pins s σ H R I ζ8;refine zKK λγ κ=>?_;obtain⟨ρ,ds,lent,he,F,env,q⟩:=ζ8;rw[PY.zk7]at he;obtain⟨⟨d,f⟩,h1,he⟩:=za he;obtain⟨⟨d',f'⟩,h1',he⟩:=za he;obtain⟨l,h2,he⟩:=za he;obtain⟨m,h3,he⟩:=zb he;cases he;refine κ ?_;cases d with
 | lst l' =>
  cases h2;cases d' with
  | lst m' =>
   cases h3;refine zuv hg hm (zq ha (zq hb zae (hs:=zd hs2)) (hs:=zd hs)) (by rw[zd hs,zd hs2];rfl) (zd hs2) pins s σ H R I ⟨ρ,_,f,h1,F,env,λv F1 H1 g1 v1=>?_⟩;refine zKK λγ κ=>?_;obtain⟨F2,P,p,xs,g2,hP,rfl,r2,sq,ks⟩:=v1.walk g1;refine κ ?_;refine⟨ρ,_,f',h1',F2,env.grow g2,λv' F3 H3 g3 v3=>?_⟩;obtain⟨F4,P',p',ys,g4,hP',rfl,r4,sq',ks'⟩:=v3.walk g3
   have k1:∀H5:Hp,(∀b o,F4 b\/(P b\/P' b)->NT o->H3 b=ya o->H5 b=ya o)->(∀b ys,H3 b=ya (.tup ys)->H5 b=ya (.tup ys))->SqL X.K H5 p xs:=λH5 k kt =>
    ks H5 (λb o hb n e=>k b o (hb.imp (λz=>g4.sub b z) .inl) n (g4.same b o e n)) λb ys e=>kt b ys (g4.same b _ e)
   have k2:∀H5:Hp,(∀b o,F4 b\/(P b\/P' b)->NT o->H3 b=ya o->H5 b=ya o)->(∀b ys,H3 b=ya (.tup ys)->H5 b=ya (.tup ys))->SqL X.K H5 p' ys:=λH5 k kt =>
    ks' H5 (λb o hb n e=>k b o (hb.imp id .inr) n e) kt
   refine⟨p,p',xs,ys,rfl,k1 H3 (λ_ _ _ _ e=>e) λ_ _ e=>e,sq',λhz hz'=>q _ F4 H3 (λb=>P b\/P' b) (g2.trans g4) (λhl b hb=>?_) (zvs (S:=λH xs=>SqL X.K H p xs) (T:=λH xs=>SqL X.K H p' xs) k1 k2 (r2.grow g4) r4 hz)⟩;rw[yb4]at hl;exact hb.elim (λz=>g4.sub b (hP hl.1 b z)) λz=>hP' hl.2 b z
  | _=>cases h3
 | _=>cases h2
theorem zv0{p:Pos}(hg:Gl X "range")(hm:X.mg "range" = yk)(hs:∀v p,a≠.Starred v p)(ha:PE X a (uE X.K cl a')):PI X tg (.Call (.Name "range" p) [a] [] pos) (uI X.K cl (.rng1 a')):=by
 refine PI.imp (zmi hg hm (zq ha zae (hs:=zd hs)) (zd hs)) λσ H R ζ=>?_;obtain⟨ρ,ds,lent,he,F,env,q⟩:=ζ
 rw[PY.zhz]at he;obtain⟨⟨d,f⟩,h1,he⟩:=za he;obtain⟨l,h2,he⟩:=zb he;cases he;refine⟨ρ,d,f,h1,F,env,λv F1 H1 g1 v1=>?_⟩;cases d with
 | int j =>
  simp only[range1]at h2;split at h2
  ·rename_i hj
   cases h2;unfold small at hj;rw[yr,decide_eq_true_eq,decide_eq_true_eq]at hj;rw[v1.now.int];exact⟨j,rfl,by lia,by lia,q _ F1 H1 (λ_=>False) g1 (λ_ b z=>z.elim) (zvb (xh (show j.toNat<=4000 by lia) (by decide)))⟩
  ·cases h2
 | _=>cases h2
end
section
variable {K:Frag} {cl:Cl}
theorem Grow.put{F F':Fz}{H H':Hp}{p:yq}{o:HO}(g:Grow F H F' H')(h:H p=yk)(hm:∀u,H' p=ya u->Chg u)(no:NT o:=by exact x4):Grow F H F' (upd H' p o) :=
 ⟨g.sub,λb u e n=>by rw[zh (zg e h)];exact g.same b u e n,g.tab.trans (.upd hm no),λa z=>(g.new a z).imp id λ⟨h1,h2⟩=>⟨h1,by
  by_cases e:a=p
  ·rw[e,zj];simp
  ·rw[zh e];exact h2⟩⟩
theorem Keep.put{F:Fz}{H:Hp}{p:yq}{o:HO}(h:¬F p)(nt:∀xs,H p≠ya (.tup xs)):Keep F H F (upd H p o) :=
 ⟨λ_ z=>z,λa u ha _ e=>by rw[zh (λz=>h (by rw[← z];exact ha))];exact e,λa xs e=>by rw[zh (λz=>nt xs (by rw[← z];exact e))];exact e⟩
theorem zbi{H:Hp}{p:yq}{ys:List V}(h:H p=ya (.lst ys)):∀xs,H p≠ya (.tup xs):=λxs z=>by rw[h]at z;cases z
theorem zt2{K:Frag}{F:Fz}{H:Hp}{p:yq}{d:D}(h:Cont K F H p d):∀xs,H p≠ya (.tup xs):=λxs z=>by
 cases d with
 | lst l=>obtain⟨ys,h,_⟩:=h;exact zbi h xs z
 | dic ks vs=>obtain⟨us,h,_⟩:=h;exact h.not_tup z
 | _=>exact h.elim
theorem zck:∀{is:List Nat} {ds:List D} {ρ ρ':Rho},setAll is ds ρ=ya ρ'->ρ'.length=ρ.length
 | [],[],_,_,h=>by cases h;rfl
 | [],_::_,_,_,h=>by cases h
 | _::_,[],_,_,h=>by cases h
 | i::is,d::ds,ρ,ρ',h=>by
  have:=zck (is:=is) (ds:=ds) h;rw[this,wv]
theorem zqr{t:Tg}{d:D}{ρ ρ':Rho}(h:give t d ρ=ya ρ'):ρ'.length=ρ.length:=by
 cases t with
 | one i=>cases h;rw[wv]
 | many is =>
  cases d with
  | tup ds=>exact zck h
  | _=>cases h
theorem zdq{d d':D}{f:Fl}(h:solid? (d,f)=ya d'):f≠.peek/\d'=d:=by
 cases f <;> first | (cases h;done) | (cases h;exact⟨λz=>(by cases z),rfl⟩)
theorem zg9{e:E}{t:Tg}{it:I}{c:Eo}{n:Nat}{keep:List Nat}(ht:∀j∈tgIs t,j<n){σ:St}{H:Hp}{Q:VK}(h:uE K cl (.comp e t it c n keep) σ H Q):tComp (uI K cl it) n keep (uG K t) (uC K cl c) (uE K cl e) σ H Q:=by
 refine zKK λγ κ=>?_;obtain⟨ρ,d,fl0,he,F,env,q⟩:=h;rw[PY.zcp]at he;obtain⟨⟨ds,lent⟩,hi,he⟩:=za he;obtain⟨zs,hz,he⟩:=zb he;cases he;obtain⟨f,hf,hz⟩:∃f:D->Option (Option D),(∀d,f d=(give t d (PY.inner ρ n keep)).bind λρ'=>(evc cl c ρ').bind λk=>if k then(ev cl e ρ').bind λr=>(solid? r).map ya else ya yk)/\filterMapO f ds=ya zs:=⟨_,λ_=>rfl,hz⟩;refine κ ?_;refine⟨ρ,ds,lent,hi,F,env,λJ F1 H1 P g1 hP iter acc hacc=>?_⟩
 refine⟨λi m ys Hc=>m=ds.length - i/\i<=ds.length/\∃(Fc:Fz) (z1 z2:List D),Hc acc=ya (.lst ys)/\¬Fc acc/\Grow F1 H1 Fc Hc/\Reps K Fc Hc z1 ys/\filterMapO f (ds.drop i)=ya z2/\zs=z1++z2/\z1.length<=i,
  ⟨ds.length,by simp,wm _,F1,[],zs,zj,λz=>(env.grow g1).dom acc z hacc,Grow.loose hacc,.nil,by rw[ybk];exact hz,rfl,y6 _⟩,?_⟩
 intro i m ys Hc ζ9;refine zKK λγ κ=>?_;obtain⟨rfl,hi,Fc,z1,z2,hc,nF,gc,rs,hz2,ez,hl1⟩:=ζ9;refine κ ?_;refine⟨hc,?_⟩;have itr:=iter.2 i Fc Hc gc.sub (λa o _ n z=>gc.same a o z n) λa _ z=>gc.same a _ z
 have out:∀{F5:Fz} {H5:Hp},Grow Fc Hc F5 H5->¬F5 acc:=λg z=>(g.new acc z).elim nF λ⟨n,_⟩=>(by rw[n]at hc;cases hc)
 by_cases hlt:i<ds.length
 ·refine .inr ⟨(itr.1 ds[i] (by simp[hlt])).1,λx H2 y=>?_⟩
  refine zKK λγ κ=>?_;obtain⟨F2,g2,r2⟩:=(itr.1 ds[i] (by simp[hlt])).2 x H2 y;rw[v9 hlt]at hz2;rw[filterMapO]at hz2;obtain⟨y1,hy1,hz2⟩:=za hz2;obtain⟨z3,hz3,hz2⟩:=zb hz2;rw[hf]at hy1;obtain⟨ρ',hg,hy1⟩:=za hy1;obtain⟨k,hk,hy1⟩:=za hy1;have env2:=(((env.grow g1).grow gc).grow g2).inner n keep;refine κ ?_;refine zor env2 r2 hg λσ2 env3 hσ=>⟨⟨by rw[env2.len,env3.len,zqr hg],λj v hj=>?_⟩,ρ',k,hk,F2,env3,λF3 H3 g3=>?_⟩
  ·rw[hσ j λz=>?_]
   ·exact hj
   ·have:=ht j z
    unfold caps at hj;rw[xc (by simpa using this),jn]at hj;split at hj <;> cases hj
  ·have gd:Grow Fc Hc F3 H3:=g2.trans g3
   dsimp only;cases k with
   | false =>
    rw[if_neg qc]at hy1 ⊢;cases hy1;exact⟨ds.length - (i+1),by lia,rfl,hlt,F3,z1,z3,gd.same _ _ hc,out gd,gc.trans gd,rs.grow gd,hz3,by rw[ez,← hz2],by lia⟩
   | true =>
    rw[if_pos rfl]at hy1 ⊢;refine zKK λγ κ=>?_;obtain⟨⟨d',fl⟩,hev,hy1⟩:=za hy1;obtain⟨d2,hs,hy1⟩:=zb hy1;subst hy1;obtain⟨hfl,rfl⟩:=zdq hs;refine κ ?_;refine⟨ρ',d2,fl,hev,F3,env3.grow g3,λy F4 H4 g4 v4=>?_⟩;obtain⟨F5,g5,k5,r5⟩:=v4.firm hfl g4;have ge:Grow Fc Hc F5 H4:=gd.trans g5;refine⟨ge.same _ _ hc,?_,ds.length - (i+1),by lia,rfl,hlt,F5,z1++[d2],z3,zj,out ge,(gc.trans ge).put hacc (λu z=>by rw[ge.same _ _ hc]at z;cases z;exact x4),((rs.grow ge).snoc r5).keep (Keep.put (out ge) (zbi (ge.same _ _ hc))),hz3,?_,?_⟩
    ·have:=rs.length
     have:=iter.1;lia
    ·rw[ez,← hz2,xb];rfl
    ·rw[yu,vz];lia
 ·have e:i=ds.length:=by lia
  subst e;rw[ydj]at hz2;cases hz2;rw[qr]at ez;subst ez;exact .inl ⟨itr.2 (y6 _),q _ Fc Hc (g1.trans gc) ⟨acc,⟨rfl,nF,ys,hc,rs⟩,g1.free hacc⟩⟩
end
section
variable {cf:Cfg} {cl:Cl} {sc:Scope} {N:List Str} {X:Cx}
theorem zby{scope:Scope}{N':List Str}{C:yq}{fp:List yq}{pins:List (yq×Obj)}{s:ym}{H:Hp}(x:Str):(blockCx X N' scope C fp pins s H).env.scope.names.lookup x =
  (scope.names.lookup x).map λk=>if(k==qe&&X.env.scope.kind == .function&&X.env.kindOf x==ya .cell)then ybz else k:=za8
theorem Ctx.block(c:Ctx cf cl sc N X)(scope:Scope)(nc:scope.names.all (λp=>p.2 != .cell)=yl){N':List Str}(nd:N'.Nodup)(C:yq)(fp:List yq)(pins:List (yq×Obj))(s:ym)(H:Hp):Ctx cf cl scope N' (blockCx X N' scope C fp pins s H) where
 hN:=rfl
 nd:=nd
 calm:=c.calm
 xe:=rfl
 vis:=λx h=>by
  unfold PY.seen at h;unfold Vis;rw[zby];cases e:scope.names.lookup x with
  | none=>rw[e]at h;cases h
  | some k =>
   rw[e]at h;cases k <;> first | (cases h;done) | skip
   ·exact .inl rfl
   ·exact .inr (.inl rfl)
   ·simp only[xx]
    split
    ·exact .inr (.inl rfl)
    ·exact .inr (.inr rfl)
 glo:=λx h=>by
  unfold gl at h;show(blockCx X N' scope C fp pins s H).env.scope.names.lookup x=_;rw[zby];cases e:scope.names.lookup x with
  | none=>rw[e]at h;cases h
  | some k =>
   rw[e]at h;cases k <;> first | (cases h;done) | rfl
 cap:=λx h=>by
  unfold capt at h;show(blockCx X N' scope C fp pins s H).env.scope.names.lookup x=_\/(blockCx X N' scope C fp pins s H).env.scope.names.lookup x=_;rw[zby];cases e:scope.names.lookup x with
  | none=>rw[e]at h;cases h
  | some k =>
   rw[e]at h;cases k <;> first | (cases h;done) | skip
   ·exact .inl rfl
   ·simp only[xx]
    split
    ·exact .inl rfl
    ·exact .inr rfl
 loc:=λx h=>by
  unfold isLocal at h;rw[zby];cases e:scope.names.lookup x with
  | none=>rw[e]at h;cases h
  | some k =>
   rw[e]at h;cases k <;> first | (cases h;done) | rfl
 top:={
  fn:=c.top.fn
  bl:=c.top.bl
  con:=c.top.con
  tts:=c.top.tts
  un:=c.top.un}
 lam:=λ_ h=>by
  obtain⟨p,hp,hc⟩:=jo.mp h;have:=qo.mp nc p hp;rw[beq_iff_eq.mp hc]at this;cases this
theorem zau:∀{T:List Str} {is:List Nat},allIdx N T=ya is->is.length=T.length/\∀(k:Nat) (x:Str),T[k]? = ya x->∃j,is[k]? = ya j/\N[j]? = ya x
 | [],is,h=>by cases h;exact⟨rfl,λk x e=>by simp at e⟩
 | y::T,is,h=>by
  obtain⟨i,h1,h⟩:=za (show(idx N y).bind (λi=>(allIdx N T).map (i::·))=ya is from h);obtain⟨r,h2,rfl⟩:=zb h;obtain⟨l,ih⟩:=zau h2;refine⟨by simp[l],λk x e=>?_⟩;cases k with
  | zero=>simp at e;subst e;exact⟨i,rfl,zai h1⟩
  | succ k=>simpa using ih k x (by simpa using e)
theorem zhq(nd:X.N.Nodup):∀{es:List Expr} {T:List Str} {is:List Nat},PY.namesOf es=ya T->is.length=T.length->(∀(k:Nat) (x:Str),T[k]? = ya x->∃j,is[k]? = ya j/\X.N[j]? = ya x)->(∀x∈T,Loc X.env.scope x/\(X.fn x=yl\/X.env.scope.names.lookup x=ya .local)) ->
  PGs X es (gNs is)/\(ux es X.env).length=is.length/\(ux es X.env).findIdx? (·.1)=yk
 | [],T,is,h,hl,hi,hx=>by
  cases h;have:is=[]:=w8 hl;subst this;exact⟨zsl,rfl,rfl⟩
 | e::es,T,is,h,hl,hi,hx=>by
  cases e <;> first | (cases h;done) | skip
  rename_i x pos;obtain⟨T',h1,rfl⟩:=zb (show(PY.namesOf es).map (x::·)=ya T from h);cases is with
  | nil=>cases hl
  | cons i is =>
   obtain⟨p1,p2,p3⟩:=zhq nd (es:=es) (T:=T') (is:=is) h1 (by simpa using hl) (λk x e=>by simpa using hi (k+1) x (by simpa using e)) λy hy=>hx y (yf _ hy)
   obtain⟨j,e1,e2⟩:=hi 0 x rfl;simp at e1;subst e1;obtain⟨l1,l2⟩:=hx x yg;refine⟨zp1 (zfk nd e2 l1 l2) p1 (hs:=rfl),?_,?_⟩
   ·show(ux es X.env).length+1=is.length+1
    rw[p2]
   ·show List.findIdx? (·.1) ((yi,assign (.Name x pos) X.env)::ux es X.env)=yk
    rw[ya4,p3];rfl
theorem zq5(nd:X.N.Nodup)(hc:X.calm=yl){tg:Expr}{one:Bool}{T:List Str}{is:List Nat}{t:Tg}(h:tgNames tg=ya (one,T))(hl:is.length=T.length)(hi:∀(k:Nat) (x:Str),T[k]? = ya x->∃j,is[k]? = ya j/\X.N[j]? = ya x)(ht:tgOf one is=ya t)(hx:∀x∈T,Loc X.env.scope x/\(X.fn x=yl\/X.env.scope.names.lookup x=ya .local)) :
  PG X tg (uG X.K t)/\tgIs t=is:=by
 cases tg with
 | Tuple es k pos =>
  refine zKK λγ κ=>?_;obtain⟨T',h1,h2⟩:=zb (show(PY.namesOf es).map (λl=>(yi,l))=ya (one,T)from h);cases h2;cases ht;obtain⟨p1,p2,p3⟩:=zhq nd h1 hl hi hx;refine κ ?_;exact⟨zwu hc p1 p2 p3,rfl⟩
 | Name x pos =>
  cases h;cases is with
  | nil=>cases hl
  | cons i is =>
   have:is=[]:=w8 (by simpa using hl);subst this;cases ht;refine zKK λγ κ=>?_;obtain⟨j,e1,e2⟩:=hi 0 x rfl;simp at e1;subst e1;obtain⟨l1,l2⟩:=hx x yg;refine κ ?_;exact⟨zfk nd e2 l1 l2,rfl⟩
 | _=>cases h
theorem zlc{es:List Expr}{env:Env}{pos:Pos}(h:∀e∈es,∀v p,e≠.Starred v p):(backTo pos (jh es env)).any (·.1)=yi:=by
 induction es with
 | nil=>rfl
 | cons e r ih =>
  rw[zd (h e yg)];show(yi||(backTo pos (jh r env)).any (·.1))=yi;rw[ih λe' he=>h e' (yf _ he)];rfl
end
structure Snd (cf:Cfg) (cl:Cl) (n:Nat):Prop where
 e:∀sc N X x x',Ctx cf cl sc N X->cE cf n sc N x=ya x'->PE X x (uE X.K cl x')/\PT X x (uT X.K cl x')
 an:∀sc N X xs x' pos,Ctx cf cl sc N X->cAnd cf n sc N xs=ya x'->PE X (.BoolOp .And xs pos) (uE X.K cl x')/\PW X (.BoolOp .And xs pos) (uT X.K cl x')
 or:∀sc N X xs x' pos,Ctx cf cl sc N X->cOr cf n sc N xs=ya x'->PE X (.BoolOp .Or xs pos) (uE X.K cl x')/\PW X (.BoolOp .Or xs pos) (uT X.K cl x')
 es:∀sc N X xs xs',Ctx cf cl sc N X->cEs cf n sc N xs=ya xs'->PA X xs (uA X.K cl xs')/\∀e∈xs,∀v p,e≠.Starred v p
 eo:∀sc N X o o',Ctx cf cl sc N X->cEo cf n sc N o=ya o'->PO X o (uO X.K cl o')
 it:∀sc N X tg x i',Ctx cf cl sc N X->cI cf n sc N x=ya i'->enumOk i' tg=yl->PI X tg x (uI X.K cl i')/\∀v,ug x X.env v=pure v
theorem zw{cf:Cfg}{n:Nat}{sc:Scope}{N:List Str}{x:Expr}{x':E}(h:cE cf n sc N x=ya x'):∀v p,x≠.Starred v p:=by
 rintro v p rfl;cases n <;> cases h
theorem zrr{cf:Cfg}{n:Nat}{sc:Scope}{N:List Str}{x:Expr}{x':E}(h:cE cf n sc N x=ya x')(env:Env):∀v,ug x env v=pure v:=by
 intro v;cases x <;> first | rfl | (cases n <;> cases h)
theorem zcu{X:Cx}{cl:Cl}{x:Expr}{x':E}(h:∀ρ,evT cl x' ρ=yk):PT X x (uT X.K cl x'):=by
 rintro pins s σ H Q I ⟨ρ,k,he,_,_,_⟩;rw[h]at he;cases he
theorem zdu{sc:Scope}{x:Str}:(x,qe)∈sc.names↔x∈frees sc:=by
 unfold frees;rw[yz];constructor
 ·intro h
  exact⟨(x,.free),qa.mpr ⟨h,rfl⟩,rfl⟩
 ·rintro⟨⟨y,k⟩,h,rfl⟩
  obtain⟨h1,h2⟩:=qa.mp h;have:k=.free:=by simpa using h2
  subst this;exact h1
theorem zkl{n:Nat}{one:Bool}{t:Tg}(h:tgOf one (q5 n)=ya t):∀j∈tgIs t,j<n:=by
 unfold tgOf at h;cases one with
 | false=>cases h;intro j hj;exact jm.mp hj
 | true =>
  rw[if_pos rfl]at h;split at h
  ·rename_i i e
   cases h;intro j hj;have:j∈q5 n:=by rw[e];exact hj
   exact jm.mp this
  ·cases h
theorem zff{cf:Cfg}{cl:Cl}{n:Nat}(S:Snd cf cl n){sc:Scope}{N:List Str}{X:Cx}(c:Ctx cf cl sc N X){elt tg:Expr}{ifs:List Expr}{scope:Scope}{one:Bool}{T:List Str}{keep:List Nat}{i:I}{t:Tg}{co:Eo}{e:E}
  (h1:tgNames tg=ya (one,T)) (h2:allIdx N (frees scope)=ya keep) (g1:enumOk i tg=yl) (g2:(T++frees scope).Nodup) (g3:T.all (isLocal scope)=yl)
  (g5:scope.names.all (λp=>p.2 != .cell)=yl) (g6:scope.names.all (λp=>scope.names.lookup p.1==ya p.2)=yl) (g7:(frees scope).all (capt sc)=yl)
  (h4:tgOf one (q5 T.length)=ya t) (h5:(match ifs with | []=>ya Eo.no | [c]=>(cE cf n scope (T++frees scope) c).map Eo.so | _=>yk)=ya co) (h6:cE cf n scope (T++frees scope) elt=ya e) :
  (∀y∈scope.names,y.2≠.cell)/\(∀y∈scope.names,scope.names.lookup y.1=ya y.2)/\(∀x,(x,qe)∈scope.names->X.env.kindOf x=ya .cell\/X.env.kindOf x=ya .free)/\(T++frees scope).length=T.length+keep.length /\
   (∀(k:Nat) (x:Str),(T++frees scope)[T.length+k]? = ya x->(x,qe)∈scope.names/\∃j,keep[k]? = ya j/\X.N[j]? = ya x) /\
   ∀C fp pins s H,PG (blockCx X (T++frees scope) scope C fp pins s H) tg (uG X.K t)/\PTs (blockCx X (T++frees scope) scope C fp pins s H) ifs (uC X.K cl co)/\PE (blockCx X (T++frees scope) scope C fp pins s H) elt (uE X.K cl e):=by
 obtain⟨kl,ki⟩:=zau h2;refine⟨λy hy=>?_,λy hy=>?_,λx hx=>?_,?_,λk x hk=>?_,λC fp pins s H=>?_⟩
 ·have:=qo.mp g5 y hy
  simpa using this
 ·have:=qo.mp g6 y hy
  simpa using this
 ·exact c.cap x (qo.mp g7 x (zdu.mp hx))
 ·rw[yu,kl]
 ·rw[qz (by lia),show T.length+k - T.length=k by lia]at hk
  refine⟨zdu.mpr (xk hk),?_⟩;rw[c.hN];exact ki k x hk
 ·have c':=c.block scope g5 (N':=T++frees scope) g2 C fp pins s H
  refine⟨?_,?_,(S.e scope _ _ elt e c' h6).1⟩
  ·refine(zq5 c'.nd c'.calm h1 (by rw[yad]) (λk x hk=>?_) h4 λx hx=>?_).1
   ·have hl:k<T.length:=(qk.mp hk).1
    refine⟨k,by rw[ycc hl],?_⟩;show(T++frees scope)[k]? = ya x;rw[xc hl];exact hk
   ·have:=c'.loc x (qo.mp g3 x hx)
    exact⟨.inl this,.inr this⟩
  ·match ifs,h5 with
   | [],h5 =>
    cases h5;refine PTs.imp zr7 λσ H Q ζ=>?_;obtain⟨ρ,k,he,F,env,q⟩:=ζ
    cases he;exact q F H (Grow.refl F H)
   | [c1],h5 =>
    obtain⟨c2,h7,rfl⟩:=zb h5;exact PTs.imp (zl3 (S.e scope _ _ c1 c2 c' h7).2) λσ H Q ⟨ρ,k,he,F,env,q⟩=>⟨ρ,k,he,F,env,q⟩
   | _::_::_,h5=>cases h5
theorem zp2{cf:Cfg}{cl:Cl}{n:Nat}(S:Snd cf cl n){sc:Scope}{N:List Str}{X:Cx}(c:Ctx cf cl sc N X){elt tg it:Expr}{ifs:List Expr}{scope:Scope}{pos:Pos}{one:Bool}{T:List Str}{keep:List Nat}{i:I}{t:Tg}{co:Eo}{e:E}
  (h1:tgNames tg=ya (one,T)) (h2:allIdx N (frees scope)=ya keep) (h3:cI cf n sc N it=ya i) (g1:enumOk i tg=yl) (g2:(T++frees scope).Nodup) (g3:T.all (isLocal scope)=yl) (g4:scope.kind=.function)
  (g5:scope.names.all (λp=>p.2 != .cell)=yl) (g6:scope.names.all (λp=>scope.names.lookup p.1==ya p.2)=yl) (g7:(frees scope).all (capt sc)=yl)
  (h4:tgOf one (q5 T.length)=ya t) (h5:(match ifs with | []=>ya Eo.no | [c]=>(cE cf n scope (T++frees scope) c).map Eo.so | _=>yk)=ya co) (h6:cE cf n scope (T++frees scope) elt=ya e) :
  PE X (.ListComp elt [⟨tg,it,ifs,0⟩] scope pos) (uE X.K cl (.comp e t i co T.length keep)):=by
 refine zKK λγ κ=>?_;obtain⟨pi,fs⟩:=S.it sc N X tg it i c h3 g1;obtain⟨b1,b2,b3,b4,b5,b6⟩:=zff S c h1 h2 g1 g2 g3 g5 g6 g7 h4 h5 h6;refine κ ?_;exact PE.imp (zkj (N':=T++frees scope) (n:=T.length) (keep:=keep) (wi:=uI X.K cl i) (g:=uG X.K t) (tc:=uC X.K cl co) (te:=uE X.K cl e) c.calm g4 b1 b2 b3 b4 b5 pi b6 fs) λσ H Q h=>zg9 (zkl h4) h
theorem zao{e:Expr}{x:Str}(h:nameOf e=ya x):∃p,e=.Name x p:=by
 cases e <;> first | (cases h;done) | skip
 cases h;exact⟨_,rfl⟩
theorem zc4{α:Type}{l:List α}{a:α}(h:oneOf l=ya a):l=[a]:=by
 cases l with
 | nil=>cases h
 | cons x l=>cases l with
  | nil=>cases h;rfl
  | cons y l=>cases h
theorem zmx{α:Type}{l:List α}{a b:α}(h:twoOf l=ya (a,b)):l=[a,b]:=by
 cases l with
 | nil=>cases h
 | cons x l=>cases l with
  | nil=>cases h
  | cons y l=>cases l with
   | nil=>cases h;rfl
   | cons z l=>cases h
theorem ze6{e:Expr}{x:Str}{as:List Expr}(h:callOf e=ya (x,as)):∃p q,e=.Call (.Name x p) as [] q:=by
 cases e <;> first | (cases h;done) | skip
 rename_i f as' ks p;cases ks with
 | cons _ _=>cases h
 | nil =>
  obtain⟨y,h1,h2⟩:=zb (show(nameOf f).map (λx=>(x,as'))=ya (x,as)from h);cases h2;obtain⟨p',rfl⟩:=zao h1;exact⟨_,_,rfl⟩
theorem zpx{x y:Str}{a a1:Expr}{b:Bi}(h:PY.nest x a=ya (y,b,a1)):∃py pc,a=.Call (.Name y py) [a1] [] pc/\(
  (x = "sorted"/\y = "set"/\b=.sortset) \/
  (x = "tuple"/\y = "reversed"/\b=.revT) \/
  False):=by
 unfold PY.nest at h;obtain⟨⟨y1,as⟩,u1,hA⟩:=za h;clear h;obtain⟨a0,u2,h⟩:=za hA;clear hA;obtain⟨py,pc,rfl⟩:=ze6 u1;cases zc4 u2
 ·skip
  split at h
  ·rename_i g
   rw[yr]at g;cases h
   first | exact⟨_,_,rfl,.inl ⟨beq_iff_eq.mp g.1,beq_iff_eq.mp g.2,rfl⟩⟩ | exact⟨_,_,rfl,.inr (.inl ⟨beq_iff_eq.mp g.1,beq_iff_eq.mp g.2,rfl⟩)⟩
  split at h
  ·rename_i g
   rw[yr]at g;cases h
   first | exact⟨_,_,rfl,.inl ⟨beq_iff_eq.mp g.1,beq_iff_eq.mp g.2,rfl⟩⟩ | exact⟨_,_,rfl,.inr (.inl ⟨beq_iff_eq.mp g.1,beq_iff_eq.mp g.2,rfl⟩)⟩ | exact⟨_,_,rfl,.inr (.inr (.inl ⟨beq_iff_eq.mp g.1,beq_iff_eq.mp g.2,rfl⟩))⟩
  cases h
theorem zjz{cl:Cl}{o:Option R}{k:Bool}(h:(o.bind λr=>tru r.1)=ya k):∃d f,o=ya (d,f)/\tru d=ya k:=by
 obtain⟨⟨d,f⟩,h1,h2⟩:=za h;exact⟨d,f,h1,h2⟩
theorem zr3{cf:Cfg}{sc:Scope}{o:CmpOp}{b:Expr}{x:Str}{l:List (List Int)}(h:tabOf cf sc o b=ya (x,l)):∃p,o=.NotIn/\b=.Name x p/\nice x=yl/\gl sc x=yl/\cf.tts.lookup x=ya l:=by
 cases o <;> first | (cases h;done) | skip
 refine zKK λγ κ=>?_;obtain⟨y,h1,h2⟩:=za (show(nameOf b).bind (λx=>guard' (nice x&&gl sc x) ((cf.tts.lookup x).map λl=>(x,l)))=ya (x,l)from h);obtain⟨g,h3⟩:=zf h2;obtain⟨l',h4,h5⟩:=zb h3;cases h5;rw[yr]at g;obtain⟨p,rfl⟩:=zao h1;refine κ ?_;exact⟨p,rfl,rfl,g.1,g.2,h4⟩
theorem un_inv{o:UnaryOp}{k:Bool}(h:unOf o=ya k):(k=yl/\o=.Not)\/(k=yi/\o=.USub):=by
 cases o <;> first | (cases h;done) | (cases h;exact .inl ⟨rfl,rfl⟩) | (cases h;exact .inr ⟨rfl,rfl⟩)
theorem zjk{os:List CmpOp}{bs:List Expr}{o:CmpOp}{b:Expr}(h:oneOne os bs=ya (o,b)):os=[o]/\bs=[b]:=by
 cases os with
 | nil=>cases h
 | cons o1 r=>cases r with
  | cons _ _=>cases h
  | nil=>cases bs with
   | nil=>cases h
   | cons b1 r=>cases r with
    | cons _ _=>cases h
    | nil=>cases h;exact⟨rfl,rfl⟩
theorem zom{i:Expr}{lo hi:Option Expr}(h:sliceOf i=ya (lo,hi)):∃p,i=.Slice lo hi yk p:=by
 cases i <;> first | (cases h;done) | skip
 rename_i l u st p;cases st with
 | none=>cases h;exact⟨_,rfl⟩
 | some _=>cases h
theorem zsn{f:Expr}{as:List Expr}{o:Expr}{m:Str}{ap:Pos}{k d:Expr}(h:getOf f as=ya (o,m,ap,k,d)):f=.Attribute o m ap/\as=[k,d]:=by
 cases f <;> first | (cases h;done) | skip
 cases as with
 | nil=>cases h
 | cons a r=>cases r with
  | nil=>cases h
  | cons b r=>cases r with
   | nil=>cases h;exact⟨rfl,rfl⟩
   | cons _ _=>cases h
theorem zis{gs:List Comprehension}{tg it:Expr}{ifs:List Expr}(h:oneGen gs=ya (tg,it,ifs)):gs=[⟨tg,it,ifs,0⟩]:=by
 obtain⟨g,h1,h⟩:=za h;obtain⟨g2,h⟩:=zf h;cases g;cases h;obtain rfl:=eq_of_beq g2;exact zc4 h1
theorem ztm{e:Expr}{c:Int}(h:intOf e=ya c):∃k p,e=.Constant (.int c) k p:=by
 cases e <;> first | (cases h;done) | skip
 rename_i x k p;cases x <;> first | (cases h;done) | skip
 cases h;exact⟨_,_,rfl⟩
theorem zm0{tg:Expr}{x:Str}{k:Expr}(h:putOf tg=ya (x,k)):∃xp tp,tg=.Subscript (.Name x xp) k tp:=by
 cases tg <;> first | (cases h;done) | skip
 rename_i a k' p;rcases zco (show(if isSlice k' then yk else(nameOf a).map λx=>(x,k'))=ya (x,k)from h)with⟨_,h⟩ | ⟨_,h⟩
 ·cases h
 obtain⟨y,h1,h2⟩:=zb h;cases h2;obtain⟨q,rfl⟩:=zao h1;exact⟨_,_,rfl⟩
theorem zxv{cf:Cfg}{cl:Cl}{n:Nat}(S:Snd cf cl n)(sc:Scope)(N:List Str)(X:Cx)(x:Expr)(x':E)(c:Ctx cf cl sc N X)(h:cE cf (n+1) sc N x=ya x'):PE X x (uE X.K cl x')/\PT X x (uT X.K cl x'):=by
 have hu:=c.top.un;cases x <;> first | (cases h;done) | skip
 case Constant c0 k0 p0 =>
  obtain⟨c',h1,rfl⟩:=zb h;exact⟨zux h1,zgf (zux h1) (λ_=>rfl) λρ k hk=>⟨_,_,rfl,hk⟩⟩
 case Name xn pn =>
  obtain⟨g,h⟩:=zf h;obtain⟨n1,n2,n3⟩:=zaw g;split at h
  ·rename_i hs
   obtain⟨i,h1,rfl⟩:=zb h;have hv:X.N[i]? = ya xn:=by rw[c.hN];exact zai h1
   exact⟨zuf hv (c.vis _ hs) n1 n2,zgf (zuf hv (c.vis _ hs) n1 n2) (λ_=>rfl) λρ k hk=>by obtain⟨d,f,a,b⟩:=zjz (cl:=cl) hk;exact⟨d,f,a,b⟩⟩
  ·obtain⟨g2,h⟩:=zf h
   obtain⟨cn,h1,rfl⟩:=zb h;obtain⟨u,m1,m2⟩:=c.top.con _ _ h1;exact⟨zru (c.glo _ g2) m1 m2 n1,zgf (zru (c.glo _ g2) m1 m2 n1) (λ_=>rfl) λρ k hk=>⟨_,_,rfl,hk⟩⟩
 case BinOp a0 o0 b0 p0 =>
  obtain⟨o',h1,h⟩:=za h;obtain⟨a',h2,h⟩:=za h;obtain⟨b',h3,rfl⟩:=zb h;exact⟨zxx h1 (S.e _ _ _ _ _ c h2).1 (S.e _ _ _ _ _ c h3).1,zcu λρ=>rfl⟩
 case UnaryOp o0 a0 p0 =>
  obtain⟨k,h0,h⟩:=za h;obtain⟨a',h2,rfl⟩:=zb h;rcases un_inv h0 with⟨rfl,rfl⟩ | ⟨rfl,rfl⟩
  ·exact⟨zxy (S.e _ _ _ _ _ c h2).1,zxw (S.e _ _ _ _ _ c h2).2⟩
  exact⟨zw5 (S.e _ _ _ _ _ c h2).1,zcu λρ=>rfl⟩
 case BoolOp o1 vs p0 =>
  cases o1 with
  | And=>obtain⟨p,q⟩:=S.an _ _ _ _ _ _ c h;exact⟨p,q.pt⟩
  | Or=>obtain⟨p,q⟩:=S.or _ _ _ _ _ _ c h;exact⟨p,q.pt⟩
 case Compare a0 os0 bs0 p0 =>
  obtain⟨⟨o0,b0⟩,h0,hA⟩:=za h;clear h;have h:=hA;clear hA;obtain⟨e1,e2⟩:=zjk h0;subst e1 e2;rcases zcg h with⟨⟨x0,l0⟩,htab,h⟩ | ⟨_,h⟩
  ·skip
   obtain⟨a',h2,rfl⟩:=zb h;obtain⟨p0,e1,e2,n0,g0,hl⟩:=zr3 htab;subst e1 e2;obtain⟨q,hm,hq⟩:=c.top.tts _ _ hl;exact zxd hu (c.glo _ g0) hm hq (zaw n0).1 (S.e _ _ _ _ _ c h2).1
  obtain⟨g,h⟩:=zf h;rw[yr,xt]at g;obtain⟨a',h2,h⟩:=za h;obtain⟨b',h3,rfl⟩:=zb h;exact⟨zw0 hu g.2 (S.e _ _ _ _ _ c h2).1 (S.e _ _ _ _ _ c h3).1,zxh hu g.2 (S.e _ _ _ _ _ c h2).1 (S.e _ _ _ _ _ c h3).1⟩
 case Tuple es0 x0 p0 =>
  obtain⟨es,h1,rfl⟩:=zb h;exact⟨zx4 (S.es _ _ _ _ _ c h1).1,zcu λρ=>rfl⟩
 case List es0 p0 =>
  obtain⟨es,h1,rfl⟩:=zb h;exact⟨zxm (S.es _ _ _ _ _ c h1).1,zcu λρ=>rfl⟩
 case Dict ks vs p0 =>
  obtain⟨g,h⟩:=zf h;cases ks <;> first | (cases g;done) | skip
  cases vs <;> first | (cases g;done) | skip
  cases h;exact⟨zwe,zcu λρ=>rfl⟩
 case Subscript a0 i0 p0 =>
  rcases PY.zcg h with⟨⟨lo0,hi0⟩,hs,h⟩ | ⟨hs,h⟩
  ·obtain⟨ps,e0⟩:=zom hs
   subst e0;obtain⟨a',h1,h⟩:=za h;obtain⟨lo,h2,h⟩:=za h;obtain⟨hi,h3,rfl⟩:=zb h;exact⟨zyd (S.e _ _ _ _ _ c h1).1 (S.eo _ _ _ _ _ c h2) (S.eo _ _ _ _ _ c h3),zcu λρ=>rfl⟩
  obtain⟨g,h⟩:=zf h;rw[xt]at g;obtain⟨a',h1,h⟩:=za h;obtain⟨i',h2,rfl⟩:=zb h;refine⟨zx6 hu g (S.e _ _ _ _ _ c h1).1 (S.e _ _ _ _ _ c h2).1,zgf (zx6 hu g (S.e _ _ _ _ _ c h1).1 (S.e _ _ _ _ _ c h2).1) (λ_=>rfl) λρ k hk=>?_⟩;obtain⟨x1,e1,hk⟩:=za hk;obtain⟨y1,e2,hk⟩:=za hk;obtain⟨d,f,e3,e4⟩:=zjz (cl:=cl) hk;exact⟨d,f,by rw[PY.zo4,e1,ye,e2,ye];exact e3,e4⟩
 case Call fn args kws p2 =>
  obtain⟨g0,hG⟩:=zf h;clear h;cases kws with
  | cons _ _=>cases g0
  | nil =>
  clear g0;cases hn:nameOf fn with
  | none =>
   rw[hn]at hG;obtain⟨⟨o,m,ap,k,d⟩,h0,hH⟩:=za hG;clear hG;obtain⟨e1,e2⟩:=zsn h0;subst e1 e2;obtain⟨g,hA⟩:=zf hH;clear hH;simp only[yr]at g;obtain⟨⟨g1,g2⟩,g3⟩:=g;obtain⟨o',h1,hB⟩:=za hA;obtain⟨k',h2,hC⟩:=za hB;obtain⟨d',h3,rfl⟩:=zb hC;have e0:=beq_iff_eq.mp g1;subst e0;exact⟨zuj hu g3 g2 (zw h2) (zw h3) (S.e _ _ _ _ _ c h1).1 (S.e _ _ _ _ _ c h2).1 (S.e _ _ _ _ _ c h3).1,zcu λρ=>rfl⟩
  | some xn =>
  rw[hn]at hG;obtain⟨p1,e1⟩:=zao hn;subst e1;obtain⟨g,hA⟩:=zf hG;clear hG;rw[yr]at g;obtain⟨n1,n2,n3⟩:=zaw g.2;cases hf:idx cf.fns xn with
  | some f =>
   rw[hf]at hA;cases args with
   | nil=>cases hA
   | cons a0 as0 =>
    obtain⟨es,h1,rfl⟩:=zb hA;obtain⟨pa,ns⟩:=S.es _ _ _ _ _ c h1
    have p:PE X (.Call (.Name xn p1) (a0::as0) [] p2) (uE X.K cl (.call f es)):=zue (cl:=cl) c.top (c.glo _ g.1) (zai hf)
     n1 (ns _ yg) (zlc λe he=>ns e (yf _ he)) pa
    refine⟨p,zgf p (λ_=>rfl) λρ k hk=>?_⟩;obtain⟨⟨ds,lent⟩,e1,hk⟩:=za hk;obtain⟨d1,e2,hk⟩:=za hk;obtain⟨d,f,e3,e4⟩:=zjz (cl:=cl) hk;exact⟨d,f,by rw[PY.zac,e1,ye];show(cl _ ds).bind _=_;rw[e2];exact e3,e4⟩
  | none =>
   rw[hf]at hA;obtain⟨g2,hB⟩:=zf hA;clear hA
   have tv:∀(e':E) (ρ:Rho) (k:Bool) (b':Bi) (a':E),evT cl (.bi b' a') ρ=ya k->∃d f,ev cl (.bi b' a') ρ=ya (d,f)/\tru d=ya k:=λe' ρ k b' a' hk=>by
    obtain⟨r,e1,hk⟩:=za hk;obtain⟨d,f,e3,e4⟩:=zjz (cl:=cl) hk;exact⟨d,f,by rw[PY.zg0,e1,ye];exact e3,e4⟩
   rcases zcg hB with⟨⟨a0,b0⟩,h2,hB1⟩ | ⟨_,hB1⟩ <;> clear hB
   ·obtain rfl:=zmx h2
    clear h2;rcases zco hB1 with⟨hx,hB2⟩ | ⟨_,hB2⟩ <;> clear hB1
    ·have e0:xn=("isinstance" : Str):=beq_iff_eq.mp hx
     subst e0;obtain⟨t0,h0,hB⟩:=za hB2;clear hB2 hx;obtain⟨p0,rfl⟩:=zao h0
     ·obtain⟨g4,hC⟩:=zf hB
      clear hB;unfold blk at g4;rw[yr,yr]at g4;obtain⟨ty,h1,hD⟩:=za hC;obtain⟨a',h2,rfl⟩:=zb hD;have p:PE X (.Call (.Name "isinstance" p1) [a0,.Name t0 p0] [] p2) (uE X.K cl (.isi a' ty)):=zxt (cl:=cl) h1 (c.glo _ g.1) (c.top.bl _ g2) (c.glo _ g4.1.1) (c.top.bl _ g4.2) (zw h2) (S.e _ _ _ _ _ c h2).1;refine⟨p,zgf p (λ_=>rfl) λρ k hk=>?_⟩;obtain⟨r,e1,rfl⟩:=zb hk;exact⟨.bl (isTy ty r.1),.solid,by rw[PY.zm9,e1];rfl,rfl⟩
    ·skip
     obtain⟨o,h1,hC⟩:=za hB2;obtain⟨a',h2,hD⟩:=za hC;obtain⟨b',h3,rfl⟩:=zb hD;exact⟨zxg (cl:=cl) c.calm h1 (c.glo _ g.1) (c.top.bl _ g2) (zw h2) (zw h3) (S.e _ _ _ _ _ c h2).1 (S.e _ _ _ _ _ c h3).1,zcu λρ=>rfl⟩
   ·obtain⟨a0,h2,hB2⟩:=za hB1
    clear hB1;obtain rfl:=zc4 h2;clear h2;rcases zcg hB2 with⟨⟨y0,b0,a1⟩,hne,hB⟩ | ⟨_,hB⟩ <;> clear hB2
    ·skip
     obtain⟨g4,hC⟩:=zf hB;clear hB;unfold blk at g4;rw[yr,yr]at g4;obtain⟨a',h2,rfl⟩:=zb hC;obtain⟨py,pc,rfl,hh⟩:=zpx hne;rcases hh with⟨rfl,rfl,rfl⟩ | hh
     ·have p:PE X (.Call (.Name "sorted" p1) [.Call (.Name "set" py) [a1] [] pc] [] p2) (uE X.K cl (.bi .sortset a')):=zl6 (cl:=cl) hu c.calm (c.glo _ g.1) (c.top.bl _ g2) (c.glo _ g4.1.1) (c.top.bl _ g4.2) (zw h2) (S.e _ _ _ _ _ c h2).1
      exact⟨p,zgf p (λ_=>rfl) λρ k hk=>tv (.con .non) ρ k _ _ hk⟩
     rcases hh with⟨rfl,rfl,rfl⟩ | hh
     ·have p:PE X (.Call (.Name "tuple" p1) [.Call (.Name "reversed" py) [a1] [] pc] [] p2) (uE X.K cl (.bi .revT a')):=zu0 (cl:=cl) c.calm (c.glo _ g.1) (c.top.bl _ g2) (c.glo _ g4.1.1) (c.top.bl _ g4.2) (zw h2) (S.e _ _ _ _ _ c h2).1
      exact⟨p,zgf p (λ_=>rfl) λρ k hk=>tv (.con .non) ρ k _ _ hk⟩
     exact hh.elim
    ·skip
     obtain⟨b',h1,hC⟩:=za hB;obtain⟨a',h2,rfl⟩:=zb hC;have p:PE X (.Call (.Name xn p1) [a0] [] p2) (uE X.K cl (.bi b' a')):=zx8 (cl:=cl) hu c.calm h1 (c.glo _ g.1) (c.top.bl _ g2) (zw h2) (S.e _ _ _ _ _ c h2).1;exact⟨p,zgf p (λ_=>rfl) λρ k hk=>tv (.con .non) ρ k _ _ hk⟩
 case ListComp elt gens scope p0 =>
  obtain⟨⟨tg,it,ifs⟩,h0,hL⟩:=za h;clear h;have e0:=zis h0;subst e0;obtain⟨⟨one,T⟩,h1,h⟩:=za hL;obtain⟨keep,h2,h⟩:=za h;obtain⟨i,h3,h⟩:=za h;obtain⟨g,h⟩:=zf h;simp only[yr,decide_eq_true_eq]at g;obtain⟨⟨⟨⟨⟨⟨g1,g2⟩,g3⟩,g4⟩,g5⟩,g6⟩,g7⟩:=g;obtain⟨t,h4,h⟩:=za h;obtain⟨co,h5,h⟩:=za h;obtain⟨e,h6,rfl⟩:=zb h;exact⟨zp2 S c h1 h2 h3 g1 g2 g3 g4 g5 g6 g7 h4 h5 h6,zcu λρ=>rfl⟩
theorem zfq(cf:Cfg)(cl:Cl):∀n,Snd cf cl n
 | 0=>{
   e:=λ_ _ _ _ _ _ h=>(by cases h)
   an:=λ_ _ _ _ _ _ _ h=>(by cases h)
   or:=λ_ _ _ _ _ _ _ h=>(by cases h)
   es:=λ_ _ _ _ _ _ h=>(by cases h)
   eo:=λ_ _ _ _ _ _ h=>(by cases h)
   it:=λ_ _ _ _ _ _ _ h=>(by cases h)}
 | n+1=>by
  have S:=zfq cf cl n
  refine{
   e:=zxv S
   an:=?_
   or:=?_
   es:=?_
   eo:=?_
   it:=?_}
  ·intro sc N X xs x' pos c h
   rcases xs with _ | ⟨a,_ | ⟨b,r⟩⟩
   ·cases h
   ·obtain⟨p,q⟩:=S.e sc N X a x' c h
    exact⟨zrx p,pw_and1 q⟩
   ·obtain⟨a',h1,h⟩:=za h
    obtain⟨b',h2,rfl⟩:=zb h;obtain⟨p,q⟩:=S.e _ _ _ _ _ c h1;obtain⟨p2,q2⟩:=S.an _ _ _ _ _ pos c h2;exact⟨zxk p p2,zxb q q2⟩
  ·intro sc N X xs x' pos c h
   rcases xs with _ | ⟨a,_ | ⟨b,r⟩⟩
   ·cases h
   ·obtain⟨p,q⟩:=S.e sc N X a x' c h
    exact⟨zrx p,pw_or1 q⟩
   ·obtain⟨a',h1,h⟩:=za h
    obtain⟨b',h2,rfl⟩:=zb h;obtain⟨p,q⟩:=S.e _ _ _ _ _ c h1;obtain⟨p2,q2⟩:=S.or _ _ _ _ _ pos c h2;exact⟨zx9 p p2,zyc q q2⟩
  ·intro sc N X xs xs' c h
   rcases xs with _ | ⟨a,r⟩
   ·cases h
    exact⟨zw1,λe he=>by cases he⟩
   ·obtain⟨a',h1,h⟩:=za h
    obtain⟨r',h2,rfl⟩:=zb h;obtain⟨p,q⟩:=S.es _ _ _ _ _ c h2;refine⟨zvj (zw h1) (S.e _ _ _ _ _ c h1).1 p,λe he=>?_⟩;rcases yn.mp he with rfl | he
    ·exact zw h1
    ·exact q e he
  ·intro sc N X o o' c h
   rcases o with _ | a
   ·cases h
    exact zuc
   ·obtain⟨a',h1,rfl⟩:=zb h
    exact zt9 (S.e _ _ _ _ _ c h1).1
  ·intro sc N X tg x i' c h ho
   rcases zcg h with⟨⟨xn,args⟩,hc,hA⟩ | ⟨_,hA⟩ <;> clear h
   ·obtain⟨p1,p2,rfl⟩:=ze6 hc
    rcases zco hA with⟨g,hB⟩ | ⟨_,hB⟩ <;> clear hA
    ·rw[yr]at g
     have e0:xn=("range" : Str):=beq_iff_eq.mp g.2;subst e0;have g4:=g.1;unfold blk at g4;rw[yr,yr]at g4;obtain⟨a,h0,h⟩:=za hB;clear hB;obtain rfl:=zc4 h0;obtain⟨a',h1,rfl⟩:=zb h;exact⟨zv0 (c.glo _ g4.1.1) (c.top.bl _ g4.2) (zw h1) (S.e _ _ _ _ _ c h1).1,λ_=>rfl⟩
    rcases zco hB with⟨g,hC⟩ | ⟨_,hC⟩ <;> clear hB
    ·rw[yr]at g
     have e0:xn=("enumerate" : Str):=beq_iff_eq.mp g.2;subst e0;have g4:=g.1;unfold blk at g4;rw[yr,yr]at g4;obtain⟨a,h0,h⟩:=za hC;clear hC;obtain rfl:=zc4 h0;obtain⟨a',h1,rfl⟩:=zb h;cases tg <;> first | (cases ho;done) | skip
     exact⟨zvu (c.glo _ g4.1.1) (c.top.bl _ g4.2) (zw h1) (S.e _ _ _ _ _ c h1).1,λ_=>rfl⟩
    rcases zco hC with⟨g,hD⟩ | ⟨_,hD⟩ <;> clear hC
    ·rw[yr]at g
     have e0:xn=("zip" : Str):=beq_iff_eq.mp g.2;subst e0;have g4:=g.1;unfold blk at g4;rw[yr,yr]at g4;obtain⟨⟨a,b⟩,h0,h⟩:=za hD;clear hD;obtain rfl:=zmx h0;obtain⟨a',h1,h⟩:=za h;obtain⟨b',h2,rfl⟩:=zb h;cases tg <;> first | (cases ho;done) | skip
     exact⟨zxz (c.glo _ g4.1.1) (c.top.bl _ g4.2) (zw h1) (zw h2) (S.e _ _ _ _ _ c h1).1 (S.e _ _ _ _ _ c h2).1,λ_=>rfl⟩
    obtain⟨a',h1,rfl⟩:=zb hD;exact⟨zvm (S.e _ _ _ _ _ c h1).1,zrr h1 _⟩
   obtain⟨a',h1,rfl⟩:=zb hA;exact⟨zvm (S.e _ _ _ _ _ c h1).1,zrr h1 _⟩
abbrev NoM:Fz:=λ_=>False
def Owns(H:Hp)(σ:St)(ρ:Rho)(i:Nat)(b:yq):Prop :=
 (∃d,mine ρ i=ya d/\σ[i]? = ya (ya (.ref b)))\/∃t ks ls a us,ρ[i]? = ya (.dl t ks ls)/\σ[i]? = ya (ya (.ref a))/\DH H a ks us/\(b=a\/V.ref b∈us)
structure Bd where
 M:Fz
 a:yq
structure EnvS (B:Bd) (K:Frag) (F₀:Fz) (H₀:Hp) (F:Fz) (H:Hp) (σ:St) (ρ:Rho):Prop where
 env:EnvR K F H σ ρ
 grow:GrowM B.M F₀ H₀ F H
 new:∀(i:Nat) (d:D) (b:yq),mine ρ i=ya d->σ[i]? = ya (ya (.ref b))->H₀ b=yk
 newL:∀(i:Nat) (b:yq),Owns H σ ρ i b->H₀ b=yk\/B.M b
 newF:∀(i:Nat) ks ls (b:yq),ρ[i]? = ya (.dl yi ks ls)->Owns H σ ρ i b->H₀ b=yk
 sep:∀(i j:Nat) (b:yq),Owns H σ ρ i b->Owns H σ ρ j b->i=j
 io:∀(i:Nat) ks ls,ρ[i]? = ya (.dl yl ks ls)->σ[i]? = ya (ya (.ref B.a))
 m0:∀a,B.M a->H₀ a≠yk/\¬F₀ a
def oEnd(B:Bd)(K:Frag)(F₀:Fz)(H₀:Hp)(F:Fz)(H:Hp)(E:Ends):Out->Prop
 | .nx ρ'=>∀σ' F' H',EnvS B K F₀ H₀ F' H' σ' ρ'->Keep F H F' H'->E.nx σ' H'
 | .bk ρ'=>∀σ' F' H',EnvS B K F₀ H₀ F' H' σ' ρ'->Keep F H F' H'->E.bk σ' H'
 | .ct ρ'=>∀σ' F' H',EnvS B K F₀ H₀ F' H' σ' ρ'->Keep F H F' H'->E.ct σ' H'
 | .rt d=>∀v F' H',GrowM B.M F₀ H₀ F' H'->Rep K F' H' d v->E.rt v H'
inductive US (B:Bd) (K:Frag) (cl:Cl) (W:Nat) (F₀:Fz) (H₀:Hp) (s:S) (E:Ends) (σ:St) (H:Hp):Prop
 | mk (ρ:Rho) (o:Out) (F:Fz) (he:ex cl W s ρ=ya o) (env:EnvS B K F₀ H₀ F H σ ρ) (oe:oEnd B K F₀ H₀ F H E o):US B K cl W F₀ H₀ s E σ H
def uS(B:Bd)(K:Frag)(cl:Cl)(W:Nat)(F₀:Fz)(H₀:Hp)(s:S):TS:=US B K cl W F₀ H₀ s
inductive USs (B:Bd) (K:Frag) (cl:Cl) (W:Nat) (F₀:Fz) (H₀:Hp) (s:Ss) (E:Ends) (σ:St) (H:Hp):Prop
 | mk (ρ:Rho) (o:Out) (F:Fz) (he:exs cl W s ρ=ya o) (env:EnvS B K F₀ H₀ F H σ ρ) (oe:oEnd B K F₀ H₀ F H E o):USs B K cl W F₀ H₀ s E σ H
def uSs(B:Bd)(K:Frag)(cl:Cl)(W:Nat)(F₀:Fz)(H₀:Hp)(s:Ss):TS:=USs B K cl W F₀ H₀ s
section
variable {B:Bd} {K:Frag} {F₀ F F' F'':Fz} {H₀ H H' H'':Hp} {σ:St} {ρ:Rho} {E:Ends}
theorem Keep.refl:Keep F H F H:=⟨λ_ h=>h,λ_ _ _ _ e=>e,λ_ _ e=>e⟩
theorem Keep.trans(a:Keep F H F' H')(b:Keep F' H' F'' H''):Keep F H F'' H'':=⟨λx h=>b.1 x (a.1 x h),λx o h n e=>b.2.1 x o (a.1 x h) n (a.2.1 x o h n e),λx xs e=>b.2.2 x xs (a.2.2 x xs e)⟩
theorem GrowM.refl(M F:Fz)(H:Hp):GrowM M F H F H:=⟨λ_ h=>h,λ_ _ _ e _=>e,TabR.refl H,λ_ _ e=>e,λ_ h=>.inl h,λ_ h=>h⟩
theorem Grow.there(g:Grow F H F' H'):∀a,H a≠yk->H' a≠yk:=λa h z=>h (g.free z)
theorem GrowM.trans{M:Fz}(a:GrowM M F H F' H')(b:Grow F' H' F'' H''):GrowM M F H F'' H'' :=
 ⟨λx h=>b.sub x (a.sub x h),λx o n e nt=>b.same x o (a.same x o n e nt) nt,a.tab.trans b.tab,λx xs e=>b.same x _ (a.tups x xs e),λx h=>(b.new x h).elim (λh=>(a.new x h).imp id λ⟨h1,h2⟩=>⟨h1,Grow.there b x h2⟩) λ⟨h1,h2⟩=>.inr ⟨by
  cases e:H x with
  | none=>rfl
  | some o=>exact absurd h1 (a.there x (by rw[e];simp)),h2⟩,λx h=>Grow.there b x (a.there x h)⟩
theorem GrowM.prot{M:Fz}{p:yq}(g:GrowM M F H F' H')(h:H p=yk)(h':H' p≠yk):GrowM M F H (addF F' p) H' :=
 ⟨λa h=>.inl (g.sub a h),λa o m e n=>g.same a o m e n,g.tab,g.tups,λa z=>z.elim (λz=>g.new a z) λe=>.inr (by rw[e];exact⟨h,h'⟩),g.there⟩
theorem Owns.is(e:EnvR K F H σ ρ){i:Nat}{b:yq}(h:Owns H σ ρ i b):H b≠yk/\¬F b/\∀xs,H b≠ya (.tup xs):=by
 rcases h with⟨d,h1,h2⟩ | ⟨t,ks,ls,a,us,h1,h2,h3,h4⟩
 ·obtain⟨a,p1,p2,p3⟩:=e.own i d h1
  rw[h2]at p1;cases p1;exact⟨p3.ne,p2,zt2 p3⟩
 ·obtain⟨a',bs,p1,p2,p3⟩:=e.dl i t ks ls h1
  rw[h2]at p1;cases p1;rcases h4 with rfl | h4
  ·exact⟨h3.ne,p2,λxs z=>h3.not_tup z⟩
  ·have:=(h3.inj p3.1).2
   rw[this]at h4;refine zKK λγ κ=>?_;obtain⟨c,hc,e⟩:=yz.mp h4;cases e;obtain⟨q1,xs,q2⟩:=p3.there hc;refine κ ?_;exact⟨by rw[q2];simp,q1,zbi q2⟩
theorem Owns.back(e:EnvR K F H σ ρ)(k:∀(i:Nat) t ks ls (a:yq),ρ[i]? = ya (.dl t ks ls)->σ[i]? = ya (ya (V.ref a))->∀o,NT o->H a=ya o->H' a=ya o){i:Nat}{b:yq}(h:Owns H' σ ρ i b):Owns H σ ρ i b:=by
 rcases h with h | ⟨t,ks,ls,a,us,h1,h2,h3,h4⟩
 ·exact .inl h
 ·obtain⟨a',bs,p1,p2,p3⟩:=e.dl i t ks ls h1
  rw[h2]at p1;cases p1;have q:=p3.1.keep λo n z=>k i t ks ls a h1 h2 o n z
  have:=(h3.inj q).2;exact .inr ⟨t,ks,ls,a,_,h1,h2,p3.1,by rw[← this];exact h4⟩
theorem EnvS.step(e:EnvS B K F₀ H₀ F H σ ρ)(g:Grow F H F' H'):EnvS B K F₀ H₀ F' H' σ ρ:=by
 have bk:∀{i b},Owns H' σ ρ i b->Owns H σ ρ i b:=λh=>Owns.back e.env (λ_ _ _ _ a _ _ o n z=>g.same a o z n) h
 exact⟨e.env.grow g,e.grow.trans g,e.new,λi b h=>e.newL i b (bk h),λi ks ls b h1 h=>e.newF i ks ls b h1 (bk h),λi j b h h'=>e.sep i j b (bk h) (bk h'),e.io,e.m0⟩
theorem oEnd.mono{o:Out}(h:oEnd B K F₀ H₀ F H E o)(k:Keep F H F' H'):oEnd B K F₀ H₀ F' H' E o:=by
 cases o with
 | nx ρ'=>exactλσ1 F1 H1 e k1=>h σ1 F1 H1 e (k.trans k1)
 | bk ρ'=>exactλσ1 F1 H1 e k1=>h σ1 F1 H1 e (k.trans k1)
 | ct ρ'=>exactλσ1 F1 H1 e k1=>h σ1 F1 H1 e (k.trans k1)
 | rt d=>exact h
theorem EnvS.new'(e:EnvS B K F₀ H₀ F H σ ρ){b:yq}(h:H b=yk):H₀ b=yk:=by
 cases z:H₀ b with
 | none=>rfl
 | some o=>exact absurd h (e.grow.there b (by rw[z];simp))
theorem zah{i j:Nat}{sl s':Sl}(h:(ρ.set i sl)[j]? = ya s'):(i=j/\s'=sl/\i < ρ.length)\/(i≠j/\ρ[j]? = ya s'):=by
 rw[jq]at h;by_cases hj:i=j
 ·rw[if_pos hj]at h
  split at h
  ·rename_i hl;cases h;exact .inl ⟨hj,rfl,hl⟩
  ·cases h
 ·rw[if_neg hj]at h
  exact .inr ⟨hj,h⟩
def Sl.mineB:Sl->Bool
 | .own _=>yl
 | .dk _ _=>yl
 | .dl _ _ _=>yl
 | _=>yi
theorem zfd{j:Nat}{s':Sl}(hm:Sl.mineB s'=yl):∀{is:List Nat} {ds:List D} {ρ ρ':Rho},setAll is ds ρ=ya ρ'->ρ'[j]? = ya s'->ρ[j]? = ya s'/\j∉is
 | [],[],_,_,h,e=>by cases h;exact⟨e,by simp⟩
 | [],_::_,_,_,h,_=>by cases h
 | _::_,[],_,_,h,_=>by cases h
 | i::is,d::ds,ρ,ρ',h,e=>by
  obtain⟨h1,h2⟩:=zfd hm (is:=is) (ds:=ds) h e;rcases zah h1 with⟨_,h3,_⟩ | ⟨hj,h3⟩
  ·subst h3;cases hm
  ·exact⟨h3,by simp[h2,xg hj]⟩
theorem zct{t:Tg}{d:D}{ρ':Rho}{j:Nat}{s':Sl}(hm:Sl.mineB s'=yl)(h:give t d ρ=ya ρ')(e:ρ'[j]? = ya s'):ρ[j]? = ya s'/\j∉tgIs t:=by
 cases t with
 | one i =>
  cases h;rcases zah e with⟨_,h3,_⟩ | ⟨hj,h3⟩
  ·subst h3;cases hm
  ·exact⟨h3,λz=>hj (qd.mp z).symm⟩
 | many is =>
  cases d with
  | tup ds=>exact zfd hm h e
  | _=>cases h
theorem zit{i:Nat}{d:D}(h:mine ρ i=ya d):∃sl,ρ[i]? = ya sl/\Sl.thing sl=ya d/\Sl.mineB sl=yl:=by
 obtain⟨sl,h1,h2⟩:=zcs h;refine⟨sl,h1,h2,?_⟩;cases sl <;> first | rfl | cases h2
theorem EnvS.give{Q:St->Hp->Prop}{t:Tg}{d:D}{v:V}{ρ':Rho}(e:EnvS B K F₀ H₀ F H σ ρ)(r:Rep K F H d v)(h:PY.give t d ρ=ya ρ')(q:∀σ',EnvS B K F₀ H₀ F H σ' ρ'->Q σ' H):uG K t v σ H Q :=
 zor e.env r h λσ' e' k=>by
  have own:∀{i b},Owns H σ' ρ' i b->Owns H σ ρ i b:=λ{i b} ho=>by
   rcases ho with⟨d',h1,h2⟩ | ⟨t,ks,ls,a,us,h1,h2,h3,h4⟩
   ·obtain⟨sl,p1,p2,p3⟩:=zit h1
    obtain⟨p4,p5⟩:=zct p3 h p1;exact .inl ⟨d',zal p4 p2,by rw[← k i p5];exact h2⟩
   ·obtain⟨p4,p5⟩:=zct (s':=.dl t ks ls) rfl h h1
    exact .inr ⟨t,ks,ls,a,us,p4,by rw[← k i p5];exact h2,h3,h4⟩
  exact q σ' ⟨e',e.grow,λi d' b h1 h2=>by
   obtain⟨sl,p1,p2,p3⟩:=zit h1;obtain⟨p4,p5⟩:=zct p3 h p1;exact e.new i d' b (zal p4 p2) (by rw[← k i p5];exact h2),λi b ho=>e.newL i b (own ho),λi ks ls b h1 ho=>by
   obtain⟨p4,p5⟩:=zct (s':=.dl yi ks ls) rfl h h1;exact e.newF i ks ls b p4 (own ho),λi j b h1 h2=>e.sep i j b (own h1) (own h2),λi ks ls h1=>by
   obtain⟨p4,p5⟩:=zct (s':=.dl yl ks ls) rfl h h1;rw[k i p5];exact e.io i ks ls p4,e.m0⟩
theorem EnvS.giveOwn{d:D}{v:V}{a:yq}{sl:Sl}(ht:(Sl.thing sl)=ya d)(e:EnvS B K F₀ H₀ F H σ ρ)(g:Grow F H F' H')(lo:Loose K F' H' d v a)(n:H a=yk)(i:Nat):EnvS B K F₀ H₀ F' H' (σ.set i (ya v)) (ρ.set i sl):=by
 obtain⟨rfl,e4,e5⟩:=lo;have e':=e.env.grow g;have nd:∀t ks ls,sl≠.dl t ks ls:=λt ks ls z=>by subst z;cases ht
 have at_:∀{j:Nat},i=j->i < ρ.length->(σ.set i (ya (V.ref a)))[j]? = ya (ya (.ref a)):=λ{j} hj hl=>by
  subst hj;rw[jq,if_pos rfl,if_pos (by rw[e.env.len];exact hl)]
 have off:∀{j:Nat},i≠j->(σ.set i (ya (V.ref a)))[j]? = σ[j]?:=λ{j} hj=>by rw[jq,if_neg hj]
 have own:∀{j b},Owns H' (σ.set i (ya (V.ref a))) (ρ.set i sl) j b->(i=j/\b=a)\/(i≠j/\Owns H σ ρ j b):=λ{j b} ho=>by
  rcases ho with⟨d',h1,h2⟩ | ⟨t,ks,ls,c,us,h1,h2,h3,h4⟩
  ·rcases zan h1 with⟨hj,_,hl⟩ | ⟨hj,h⟩
   ·rw[at_ hj hl]at h2;cases h2;exact .inl ⟨hj,rfl⟩
   ·rw[off hj]at h2;exact .inr ⟨hj,.inl ⟨d',h,h2⟩⟩
  ·rcases zah h1 with⟨hj,h,hl⟩ | ⟨hj,h⟩
   ·exact absurd h.symm (nd _ _ _)
   ·rw[off hj]at h2
    exact .inr ⟨hj,Owns.back e.env (λ_ _ _ _ a _ _ o n z=>g.same a o z n) (.inr ⟨t,ks,ls,c,us,h,h2,h3,h4⟩)⟩
 refine⟨⟨λj d' h=>?_,λj l' h=>?_,λj t ks ls h=>?_,by rw[wv,wv];exact e.env.len,e'.dom,e'.tab⟩,e.grow.trans g,λj d' b h1 h2=>?_,λj b ho=>?_,λj ks ls b h ho=>?_,λj k b h1 h2=>?_,λj ks ls h=>?_,e.m0⟩
 ·rcases zah h with⟨hj,h,hl⟩ | ⟨hj,h⟩
  ·subst h;cases ht
  ·rw[off hj];exact e'.val j d' h
 ·rcases zan h with⟨hj,h,hl⟩ | ⟨hj,h⟩
  ·rw[ht]at h
   cases h;exact⟨a,at_ hj hl,e4,e5⟩
  ·rw[off hj];exact e'.own j l' h
 ·rcases zah h with⟨hj,h,hl⟩ | ⟨hj,h⟩
  ·exact absurd h.symm (nd _ _ _)
  ·rw[off hj];exact e'.dl j t ks ls h
 ·rcases zan h1 with⟨hj,_,hl⟩ | ⟨hj,h⟩
  ·rw[at_ hj hl]at h2;cases h2;exact e.new' n
  ·rw[off hj]at h2;exact e.new j d' b h h2
 ·rcases own ho with⟨_,rfl⟩ | ⟨_,h⟩
  ·exact .inl (e.new' n)
  ·exact e.newL j b h
 ·rcases own ho with⟨_,rfl⟩ | ⟨hj,h'⟩
  ·exact e.new' n
  ·rcases zah h with⟨z,_⟩ | ⟨_,h⟩
   ·exact absurd z hj
   ·exact e.newF j ks ls b h h'
 ·rcases own h1 with⟨hj,rfl⟩ | ⟨hj,p1⟩
  ·rcases own h2 with⟨hk,_⟩ | ⟨hk,p2⟩
   ·rw[← hj,← hk]
   ·exact absurd n (p2.is e.env).1
  ·rcases own h2 with⟨hk,rfl⟩ | ⟨hk,p2⟩
   ·exact absurd n (p1.is e.env).1
   ·exact e.sep j k b p1 p2
 ·rcases zah h with⟨hj,h,hl⟩ | ⟨hj,h⟩
  ·exact absurd h.symm (nd _ _ _)
  ·rw[off hj];exact e.io j ks ls h
def SlotOk(K:Frag)(F:Fz)(H:Hp)(a:yq):Sl->Prop
 | .own l=>Cont K F H a (.lst l)
 | .dk ks vs=>Cont K F H a (.dic ks vs)
 | .dl _ ks ls=>∃bs,ContL K F H a ks ls bs
 | _=>False
theorem EnvS.turn{a:yq}{sl:Sl}{i:Nat}{N:Fz}(e:EnvS B K F₀ H₀ F H σ ρ)(ha:σ[i]? = ya (ya (.ref a)))(hi:i < ρ.length)(nF:¬F' a)(ok:SlotOk K F' H' a sl)
  (gr:GrowM N F H F' H') (hN:∀b,N b->Owns H σ ρ i b) (dom:∀b,F' b->H' b≠yk)
  (own:∀b,Owns H' σ (ρ.set i sl) i b->Owns H σ ρ i b\/H b=yk) (hio:∀ks ls,sl=.dl yl ks ls->a=B.a) (hnew:∀d,(Sl.thing sl)=ya d->H₀ a=yk) (hnf:∀ks ls,sl=.dl yi ks ls->∀b,Owns H σ ρ i b->H₀ b=yk) :
  EnvS B K F₀ H₀ F' H' σ (ρ.set i sl)/\Keep F H F' H':=by
 have k:Keep F H F' H':=⟨gr.sub,λc o hc n z=>gr.same c o (λy=>((hN c y).is e.env).2.1 hc) z n,gr.tups⟩;have off:∀{j b},j≠i->Owns H σ ρ j b->¬N b:=λhj ho y=>hj (e.sep _ _ _ ho (hN _ y))
 have nF':∀{b},¬F b->H b≠yk->¬F' b:=λnb hb z=>(gr.new _ z).elim nb λ⟨y,_⟩=>hb y
 have dlk:∀{j:Nat} {t ks ls} {c:yq},j≠i->ρ[j]? = ya (.dl t ks ls)->σ[j]? = ya (ya (V.ref c))->∀o,NT o->H c=ya o->H' c=ya o:=λ{j t ks ls c} hj h1 h2 o n z=>by
  refine zKK λγ κ=>?_;obtain⟨c',bs,p1,p2,p3⟩:=e.env.dl j t ks ls h1;rw[h2]at p1;cases p1;refine κ ?_;exact gr.same c o (off hj (.inr ⟨t,ks,ls,c,_,h1,h2,p3.1,.inl rfl⟩)) z n
 have oth:∀{j b},i≠j->Owns H' σ (ρ.set i sl) j b->Owns H σ ρ j b:=λ{j b} hj ho=>by
  rcases ho with⟨d',h1,h2⟩ | ⟨t,ks,ls,c,us,h1,h2,h3,h4⟩
  ·rcases zan h1 with⟨z,_⟩ | ⟨_,h⟩
   ·exact absurd z hj
   ·exact .inl ⟨d',h,h2⟩
  ·rcases zah h1 with⟨z,_⟩ | ⟨_,h⟩
   ·exact absurd z hj
   ·obtain⟨c',bs,p1,p2,p3⟩:=e.env.dl j t ks ls h
    rw[h2]at p1;cases p1;have q:=p3.1.keep λo n z=>dlk (xg hj) h h2 o n z
    have:=(h3.inj q).2;exact .inr ⟨t,ks,ls,c,_,h,h2,p3.1,by rw[← this];exact h4⟩
 refine⟨⟨⟨λj d' h=>?_,λj l' h=>?_,λj t ks ls h=>?_,by rw[wv];exact e.env.len,dom,e.env.tab.step gr.tab⟩,?_,λj d' b h1 h2=>?_,λj b ho=>?_,λj ks ls b h ho=>?_,λj m b h1 h2=>?_,λj ks ls h=>?_,e.m0⟩,k⟩
 ·rcases zah h with⟨hj,h,hl⟩ | ⟨hj,h⟩
  ·subst h;exact ok.elim
  ·obtain⟨v,h1,h2⟩:=e.env.val j d' h
   exact⟨v,h1,h2.keep k⟩
 ·rcases zan h with⟨rfl,h,hl⟩ | ⟨hj,h⟩
  ·refine⟨a,ha,nF,?_⟩
   cases sl <;> first | (cases h;exact ok) | cases h
  ·obtain⟨b,h1,h3,h4⟩:=e.env.own j l' h
   exact⟨b,h1,nF' h3 h4.ne,h4.keep k λo n z=>gr.same b o (off (xg hj) (.inl ⟨l',h,h1⟩)) z n⟩
 ·rcases zah h with⟨rfl,h,hl⟩ | ⟨hj,h⟩
  ·subst h
   obtain⟨bs,hb⟩:=ok;exact⟨a,bs,ha,nF,hb⟩
  ·obtain⟨c,bs,h1,h3,h4⟩:=e.env.dl j t ks ls h
   refine⟨c,bs,h1,nF' h3 h4.1.ne,h4.grow k (λb o hb n z=>?_) λb hb nb=>?_⟩
   ·refine gr.same b o (off (xg hj) (.inr ⟨t,ks,ls,c,_,h,h1,h4.1,?_⟩)) z n
    exact hb.imp id λhb=>yz.mpr ⟨b,hb,rfl⟩
   ·obtain⟨_,xs,hx⟩:=h4.there hb
    exact nF' nb (by rw[hx];simp)
 ·refine⟨λc h=>gr.sub c (e.grow.sub c h),λc o n z nn=>gr.same c o (λy=>(e.newL i c (hN c y)).elim (λy=>by rw[y]at z;cases z) n) (e.grow.same c o n z nn) nn,e.grow.tab.trans gr.tab,λc xs z=>gr.tups c xs (e.grow.tups c xs z),λc z=>?_,λc z=>gr.there c (e.grow.there c z)⟩
  rcases gr.new c z with z | ⟨z1,z2⟩
  ·exact(e.grow.new c z).imp id λ⟨y1,y2⟩=>⟨y1,gr.there c y2⟩
  ·cases y:H₀ c with
   | none=>exact .inr ⟨rfl,z2⟩
   | some o=>exact absurd z1 (e.grow.there c (by rw[y];simp))
 ·rcases zan h1 with⟨rfl,h,hl⟩ | ⟨hj,h⟩
  ·rw[ha]at h2;cases h2;exact hnew d' h
  ·exact e.new j d' b h h2
 ·by_cases hj:i=j
  ·subst hj
   rcases own b ho with h | h
   ·exact e.newL i b h
   ·exact .inl (e.new' h)
  ·exact e.newL j b (oth hj ho)
 ·rcases zah h with⟨rfl,h,hl⟩ | ⟨hj,h⟩
  ·rcases own b ho with h' | h'
   ·exact hnf ks ls h.symm b h'
   ·exact e.new' h'
  ·exact e.newF j ks ls b h (oth hj ho)
 ·by_cases hj:i=j
  ·subst hj
   by_cases hm:i=m
   ·exact hm
   ·have p2:=oth hm h2
    rcases own b h1 with h | h
    ·exact e.sep i m b h p2
    ·exact absurd h (p2.is e.env).1
  ·have p1:=oth hj h1
   by_cases hm:i=m
   ·subst hm
    rcases own b h2 with h | h
    ·exact e.sep j i b p1 h
    ·exact absurd h (p1.is e.env).1
   ·exact e.sep j m b p1 (oth hm h2)
 ·rcases zah h with⟨rfl,h,hl⟩ | ⟨hj,h⟩
  ·rw[ha,hio ks ls h.symm]
  ·exact e.io j ks ls h
theorem EnvS.putO{d d':D}{a:yq}{ob:HO}{sl:Sl}{i:Nat}(e:EnvS B K F₀ H₀ F H σ ρ)(hi:mine ρ i=ya d)(ha:σ[i]? = ya (ya (.ref a)))(nF:¬F a)(nt:∀xs,H a≠ya (.tup xs))(ht:(Sl.thing sl)=ya d')(hc:Cont K F (upd H a ob) a d')(hm:∀u,H a=ya u->Chg u)(no:NT ob:=by exact x4) :
  EnvS B K F₀ H₀ F (upd H a ob) σ (ρ.set i sl):=by
 obtain⟨s0,hs0,_⟩:=zcs hi;have hl:i < ρ.length:=(qk.mp hs0).1;refine(e.turn (N:=λc=>c=a) (sl:=sl) ha hl nF (by cases sl <;> first | (cases ht;exact hc) | cases ht) ?_ (λb hb=>by subst hb;exact .inl ⟨d,hi,ha⟩) (λb hb=>?_) (λb ho=>?_) (λks ls z=>by subst z;cases ht) (λ_ _=>e.new i d a hi ha) λks ls z=>by subst z;cases ht).1
 ·exact⟨λ_ h=>h,λc o n z _=>by rw[zh n];exact z,.upd hm no,λc xs z=>by rw[zh (λy=>nt xs (by rw[← y];exact z))];exact z,λ_ h=>.inl h,λc z=>by
   by_cases y:c=a
   ·rw[y,zj];simp
   ·rw[zh y];exact z⟩
 ·by_cases y:b=a
  ·rw[y,zj];simp
  ·rw[zh y];exact e.env.dom b hb
 ·rcases ho with⟨d2,h1,h2⟩ | ⟨t,ks,ls,c,us,h1,_⟩
  ·rw[ha]at h2;cases h2
   exact .inl (.inl ⟨d,hi,ha⟩)
  ·rcases zah h1 with⟨_,h,_⟩ | ⟨h,_⟩
   ·subst h;cases ht
   ·exact absurd rfl h
theorem EnvS.putL{l l':List D}{a:yq}{xs xs':List V}{i:Nat}(e:EnvS B K F₀ H₀ F H σ ρ)(hi:ρ[i]? = ya (.own l))(ha:σ[i]? = ya (ya (.ref a)))(hx:H a=ya (.lst xs))(nF:¬F a)(rs:Reps K F H l' xs') :
  EnvS B K F₀ H₀ F (upd H a (.lst xs')) σ (ρ.set i (.own l')) :=
 e.putO (zal hi rfl) ha nF (zbi hx) rfl ⟨xs',zj,rs.keep (Keep.put nF (zbi hx))⟩ λu z=>by rw[hx]at z;cases z;exact x4
theorem EnvS.app{l:List D}{d:D}{y:V}{a:yq}{xs:List V}{i:Nat}(e:EnvS B K F₀ H₀ F H σ ρ)(hi:ρ[i]? = ya (.own l))(ha:σ[i]? = ya (ya (.ref a)))(hx:H a=ya (.lst xs))(nF:¬F a)(rs:Reps K F H l xs)(r:Rep K F H d y) :
  EnvS B K F₀ H₀ F (upd H a (.lst (xs++[y]))) σ (ρ.set i (.own (l++[d]))):=e.putL hi ha hx nF (rs.snoc r)
theorem EnvS.lst{l:List D}{i:Nat}(e:EnvS B K F₀ H₀ F H σ ρ)(hi:ρ[i]? = ya (.own l)):∃a xs,σ[i]? = ya (ya (.ref a))/\H a=ya (.lst xs)/\¬F a/\Reps K F H l xs:=by
 refine zKK λγ κ=>?_;obtain⟨a,h1,h2,xs,h3,h4⟩:=e.env.own i _ (zal hi rfl);refine κ ?_;exact⟨a,xs,h1,h3,h2,h4⟩
theorem Reps.putAt{ds:List D}{vs:List V}{d:D}{v:V}(h:Reps K F H ds vs)(r:Rep K F H d v)(k:Int):Reps K F H (PY.putAt ds k d) (PY.putAt vs k v):=by
 unfold PY.putAt;rw[h.length];exact(h.take _).append (.cons r (h.drop _))
theorem Reps.erase:∀{ds:List D} {vs:List V} (n:Nat),Reps K F H ds vs->Reps K F H (ds.eraseIdx n) (vs.eraseIdx n)
 | [],vs,n,h=>by rw[Reps]at h;subst h;exact .nil
 | d::ds,vs,0,h=>by
  rw[Reps]at h;obtain⟨v,r,rfl,h1,h2⟩:=h;exact h2
 | d::ds,vs,n+1,h=>by
  rw[Reps]at h;obtain⟨v,r,rfl,h1,h2⟩:=h;exact .cons h1 (Reps.erase n h2)
theorem EnvS.froze1{i:Nat}{d:D}(e:EnvS B K F₀ H₀ F H σ ρ)(h:mine ρ i=ya d):∃F',EnvS B K F₀ H₀ F' H σ (ρ.set i (.val d))/\Keep F H F' H:=by
 obtain⟨a,h1,h3,h4⟩:=e.env.own i d h;obtain⟨s0,hs0,_⟩:=zcs h;have hl:i < ρ.length:=(qk.mp hs0).1
 have own:∀{j b},Owns H σ (ρ.set i (.val d)) j b->i≠j/\Owns H σ ρ j b:=λ{j b} ho=>by
  rcases ho with⟨d',p1,p2⟩ | ⟨t,ks,ls,c,us,p1,p2,p3,p4⟩
  ·rcases zan p1 with⟨_,h',_⟩ | ⟨hj,h'⟩
   ·cases h'
   ·exact⟨hj,.inl ⟨d',h',p2⟩⟩
  ·rcases zah p1 with⟨_,h',_⟩ | ⟨hj,h'⟩
   ·cases h'
   ·exact⟨hj,.inr ⟨t,ks,ls,c,us,h',p2,p3,p4⟩⟩
 have nb:∀{j b},i≠j->Owns H σ ρ j b->¬F b->¬addF F a b:=λhj ho n z=>z.elim n λz=>by
  subst z;exact hj (e.sep _ _ _ (.inl ⟨d,h,h1⟩) ho)
 refine⟨addF F a,⟨⟨λj d' h'=>?_,λj l' h'=>?_,λj t ks ls h'=>?_,by rw[wv];exact e.env.len,λb hb=>hb.elim (e.env.dom b) (λz=>by rw[z];exact h4.ne),e.env.tab⟩,e.grow.prot (e.new i d a h h1) h4.ne,λj d' b p q=>?_,λj b ho=>e.newL j b (own ho).2,λj ks ls b p ho=>?_,λj m b p q=>e.sep j m b (own p).2 (own q).2,λj ks ls h'=>?_,e.m0⟩,Keep.prot⟩
 ·rcases zah h' with⟨hj,h',_⟩ | ⟨_,h'⟩
  ·cases h'
   exact⟨.ref a,by rw[← hj];exact h1,Loose.prot ⟨rfl,h3,h4⟩⟩
  ·obtain⟨v,p1,p2⟩:=e.env.val j d' h'
   exact⟨v,p1,p2.keep Keep.prot⟩
 ·rcases zan h' with⟨_,h',_⟩ | ⟨hj,h'⟩
  ·cases h'
  ·obtain⟨b,p1,p3,p4⟩:=e.env.own j l' h'
   exact⟨b,p1,nb hj (.inl ⟨l',h',p1⟩) p3,p4.keep Keep.prot λo _ q=>q⟩
 ·rcases zah h' with⟨_,h',_⟩ | ⟨hj,h'⟩
  ·cases h'
  ·obtain⟨b,bs,p1,p3,p4⟩:=e.env.dl j t ks ls h'
   exact⟨b,bs,p1,nb hj (.inr ⟨t,ks,ls,b,_,h',p1,p4.1,.inl rfl⟩) p3,p4.grow Keep.prot (λ_ _ _ _ q=>q) λc hc n=>nb hj (.inr ⟨t,ks,ls,b,_,h',p1,p4.1,.inr (yz.mpr ⟨c,hc,rfl⟩)⟩) n⟩
 ·rcases zan p with⟨_,h',_⟩ | ⟨hj,h'⟩
  ·cases h'
  ·exact e.new j d' b h' q
 ·rcases zah p with⟨_,h',_⟩ | ⟨hj,h'⟩
  ·cases h'
  ·exact e.newF j ks ls b h' (own ho).2
 ·rcases zah h' with⟨_,h',_⟩ | ⟨hj,h'⟩
  ·cases h'
  ·exact e.io j ks ls h'
theorem EnvS.froze:∀{is:List Nat} {F:Fz} {ρ:Rho},EnvS B K F₀ H₀ F H σ ρ->∃F',EnvS B K F₀ H₀ F' H σ (PY.froze is ρ)/\Keep F H F' H
 | [],F,ρ,e=>⟨F,e,Keep.refl⟩
 | i::is,F,ρ,e=>by
  unfold PY.froze;cases h:ρ[i]? with
  | none=>exact EnvS.froze e
  | some s =>
   cases s with
   | no=>exact EnvS.froze e
   | val d=>exact EnvS.froze e
   | own l =>
    obtain⟨F1,e1,k1⟩:=e.froze1 (zal h rfl);obtain⟨F',e2,k2⟩:=EnvS.froze (is:=is) e1;exact⟨F',e2,k1.trans k2⟩
   | dk ks vs =>
    obtain⟨F1,e1,k1⟩:=e.froze1 (zal h rfl);obtain⟨F',e2,k2⟩:=EnvS.froze (is:=is) e1;exact⟨F',e2,k1.trans k2⟩
   | dl t ks ls=>exact EnvS.froze e
end
section
variable {B:Bd} {X:Cx} {cl:Cl} {W:Nat} {F₀:Fz} {H₀:Hp} {pos:Pos}
theorem zov{te:E}{t:Tg}{E:Ends}{σ:St}{H:Hp}(h:uS B X.K cl W F₀ H₀ (.asg t te) E σ H):tAsg (uE X.K cl te) (uG X.K t) E σ H:=by
 obtain⟨ρ,o,F,he,env,oe⟩:=h;rw[PY.zin]at he;obtain⟨⟨d,f⟩,h1,he⟩:=za he;obtain⟨ρ',h2,rfl⟩:=zb he;refine⟨ρ,d,f,h1,F,env.env,λv F1 H1 g1 v1=>?_⟩;have sol:PY.give t d ρ=ya ρ'->Rep X.K F1 H1 d v->uG X.K t v σ H1 E.nx:=λh r=>(env.step g1).give r h λσ' e'=>oe σ' F1 H1 e' g1.keep
 cases f with
 | solid=>exact sol (by cases t <;> cases d <;> exact h2) v1
 | peek=>cases t <;> cases d <;> cases h2
 | fresh =>
  obtain⟨a,lo,n⟩:=v1;cases d with
  | lst l =>
   cases t with
   | many is=>cases h2
   | one i =>
    cases h2;exact oe _ F1 H1 (env.giveOwn (sl:=.own l) rfl g1 lo n i) g1.keep
  | dic ks vs =>
   cases t with
   | many is=>cases h2
   | one i =>
    cases h2;exact oe _ F1 H1 (env.giveOwn (sl:=.dk ks vs) rfl g1 lo n i) g1.keep
  | _=>exact lo.2.2.elim
theorem zwz{te:E}{E:Ends}{σ:St}{H:Hp}(hd:∀ρ,dlOf te ρ=yk)(h:uS B X.K cl W F₀ H₀ (.ret te) E σ H):tRet (uE X.K cl te) E σ H:=by
 obtain⟨ρ,o,F,he,env,oe⟩:=h;rw[PY.zh9,hd]at he;obtain⟨⟨d,f⟩,h1,rfl⟩:=zb he;refine⟨ρ,d,f,h1,F,env.env,λv F1 H1 g1 v1=>?_⟩;by_cases hf:f=.peek
 ·subst hf
  obtain⟨a,lo,i,l,o1,o2⟩:=v1;exact oe v (addF F1 a) H1 ((env.grow.trans g1).prot (env.new i l a o1 o2) lo.2.2.ne) lo.prot
 ·obtain⟨F2,g2,k2,r2⟩:=v1.firm hf g1
  exact oe v F2 H1 (env.grow.trans g2) r2
theorem ze8{K:Frag}{F:Fz}{H:Hp}:∀{bs:List yq} {ls:List (List D)},bs.length=ls.length->(∀(j:Nat) b l,bs[j]? = ya b->ls[j]? = ya l->F b/\∃xs,H b=ya (.lst xs)/\Reps K F H l xs)->Reps K F H (ls.map .lst) (bs.map .ref)
 | [],[],_,_=>.nil
 | [],_::_,h,_=>by simp at h
 | _::_,[],h,_=>by simp at h
 | b::bs,l::ls,h,q=>by
  obtain⟨h1,xs,h2,h3⟩:=q 0 b l rfl rfl;refine .cons ?_ (ze8 (by simpa using h) λj b l h1 h2=>q (j+1) b l (by simpa using h1) (by simpa using h2));rw[Rep];exact⟨b,xs,rfl,.inl ⟨h1,.inl h2⟩,h3⟩
theorem zwg{i:Nat}{E:Ends}{σ:St}{H:Hp}(h:uS B X.K cl W F₀ H₀ (.ret (.var i)) E σ H):tRet (tVar i) E σ H:=by
 obtain⟨ρ,o,F,he,env,oe⟩:=h;rw[PY.zh9]at he;cases hs:dlOf (.var i) ρ with
 | none =>
  rw[hs]at he;obtain⟨⟨d,f⟩,h1,rfl⟩:=zb he;have h1:slot ρ i=ya (d,f):=h1;unfold slot at h1;cases e:ρ[i]? with
  | none=>rw[e]at h1;cases h1
  | some sl =>
   rw[e]at h1;cases sl with
   | no=>cases h1
   | dl t ks ls=>cases h1
   | val d' =>
    cases h1;obtain⟨v,p1,p2⟩:=env.env.val i _ e;exact⟨v,p1,oe v F H env.grow p2⟩
   | own l =>
    cases h1;obtain⟨a,p1,p3,p4⟩:=env.env.own i _ (zal e rfl);exact⟨.ref a,p1,oe _ (addF F a) H (env.grow.prot (env.new i _ a (zal e rfl) p1) p4.ne) (Loose.prot ⟨rfl,p3,p4⟩)⟩
   | dk ks vs =>
    cases h1;obtain⟨a,p1,p3,p4⟩:=env.env.own i _ (zal e rfl);exact⟨.ref a,p1,oe _ (addF F a) H (env.grow.prot (env.new i _ a (zal e rfl) p1) p4.ne) (Loose.prot ⟨rfl,p3,p4⟩)⟩
 | some p =>
  rw[hs]at he;cases he;unfold dlOf at hs;simp only at hs;split at hs
  ·rename_i ks ls e
   cases hs;obtain⟨a,bs,p1,p3,p4⟩:=env.env.dl i _ _ _ e;have nw:∀b,b=a\/b∈bs->H₀ b=yk:=λb hb=>env.newF i _ _ b e (.inr ⟨_,_,_,a,_,e,p1,p4.1,hb.imp id λhb=>yz.mpr ⟨b,hb,rfl⟩⟩)
   let F':Fz:=λc=>F c\/c=a\/c∈bs
   have kp:Keep F H F' H:=⟨λ_ h=>.inl h,λ_ _ _ _ e=>e,λ_ _ e=>e⟩;refine⟨.ref a,p1,oe _ F' H ⟨λc h=>.inl (env.grow.sub c h),λa o m e n=>env.grow.same a o m e n,env.grow.tab,env.grow.tups,λc z=>?_,env.grow.there⟩ ?_⟩
   ·rcases z with z | z
    ·exact env.grow.new c z
    ·refine .inr ⟨nw c z,?_⟩
     rcases z with rfl | z
     ·exact p4.1.ne
     ·obtain⟨_,xs,hx⟩:=p4.there z
      rw[hx];simp
   ·show Rep X.K F' H (.dic ks (ls.map .lst)) _
    rw[Rep];refine⟨a,_,rfl,.inr (.inl rfl),p4.1,ze8 p4.2.2.2.1 λj b l h1 h2=>?_⟩;obtain⟨_,xs,q2,q3⟩:=p4.2.2.2.2 j b l h1 h2;exact⟨.inr (.inr (xk h1)),xs,q2,q3.keep kp⟩
  ·cases hs
theorem zyb{c:E}{a b:Ss}{E:Ends}{σ:St}{H:Hp}(h:uS B X.K cl W F₀ H₀ (.cond c a b) E σ H):tIfS (uT X.K cl c) (uSs B X.K cl W F₀ H₀ a) (uSs B X.K cl W F₀ H₀ b) E σ H:=by
 obtain⟨ρ,o,F,he,env,oe⟩:=h;rw[PY.zbw]at he;obtain⟨k,h1,he⟩:=za he;refine⟨ρ,k,h1,F,env.env,λF1 H1 g1=>?_⟩;cases k with
 | false =>
  rw[if_neg qc]at he ⊢;exact⟨ρ,o,F1,he,env.step g1,oe.mono g1.keep⟩
 | true =>
  rw[if_pos rfl]at he ⊢;exact⟨ρ,o,F1,he,env.step g1,oe.mono g1.keep⟩
theorem zxq{s:S}{r:Ss}{E:Ends}{σ:St}{H:Hp}(h:uSs B X.K cl W F₀ H₀ (.cons s r) E σ H):tSeq (uS B X.K cl W F₀ H₀ s) (uSs B X.K cl W F₀ H₀ r) E σ H:=by
 obtain⟨ρ,o,F,he,env,oe⟩:=h;rw[PY.zcm]at he;obtain⟨o1,h1,he⟩:=za he;refine⟨ρ,o1,F,h1,env,?_⟩;cases o1 with
 | nx ρ'=>exactλσ' F' H' e' k=>⟨ρ',o,F',he,e',oe.mono k⟩
 | bk ρ'=>cases he;exact oe
 | ct ρ'=>cases he;exact oe
 | rt d=>cases he;exact oe
theorem zxf{i:Nat}{te:E}{E:Ends}{σ:St}{H:Hp}(h:uS B X.K cl W F₀ H₀ (.app i te) E σ H):tDrop (tBM X.K "list" rAppend (tVar i) (tCons (uE X.K cl te) tNil)) E σ H:=by
 refine zKK λγ κ=>?_;obtain⟨ρ,o,F,he,env,oe⟩:=h;rw[PY.zbf]at he;obtain⟨⟨d,f⟩,h1,he1⟩:=za he;clear he;obtain⟨d',h2,he2⟩:=za he1;clear he1;obtain⟨hf,rfl⟩:=zdq h2;refine κ ?_;split at he2
 ·rename_i l hi
  split at he2
  ·rename_i hl
   cases he2;refine zKK λγ κ=>?_;obtain⟨a,xs,p1,p2,p3,p4⟩:=env.lst hi;refine κ ?_;refine⟨.ref a,p1,.inl ⟨rfl,xs,.of p2⟩,ρ,d',f,h1,F,env.env,λy F1 H1 g1 v1=>?_⟩;obtain⟨F2,g2,k2,r2⟩:=v1.firm hf g1;have e2:=env.step g2;have nF:¬F2 a:=λz=>(g2.new a z).elim p3 λ⟨n,_⟩=>(by rw[n]at p2;cases p2)
   have px:=g2.same _ _ p2;exact⟨a,xs,y,rfl,rfl,px,qp (by rw[← p4.length];exact hl) (by decide),oe _ F2 _ (e2.app hi p1 px nF (p4.grow g2) r2) (g2.keep.trans (Keep.put nF (zbi px)))⟩
  ·cases he2
 ·cases he2
theorem zwy{i:Nat}{te:E}{E:Ends}{σ:St}{H:Hp}(h:uS B X.K cl W F₀ H₀ (.ext i te) E σ H):tDrop (tBM X.K "list" rExtend (tVar i) (tCons (uE X.K cl te) tNil)) E σ H:=by
 refine zKK λγ κ=>?_;obtain⟨ρ,o,F,he,env,oe⟩:=h;rw[PY.zbq]at he;obtain⟨⟨d,f⟩,h1,he1⟩:=za he;clear he;refine κ ?_;split at he1
 ·rename_i hf
  have hf:f=.fresh:=hf;subst hf;obtain⟨m,h2,he2⟩:=za he1;clear he1;cases d with
  | lst m' =>
   cases h2;split at he2
   ·rename_i l hi
    split at he2
    ·rename_i hl
     cases he2;refine zKK λγ κ=>?_;obtain⟨a,xs,p1,p2,p3,p4⟩:=env.lst hi;refine κ ?_;refine⟨.ref a,p1,.inl ⟨rfl,xs,.of p2⟩,ρ,_,.fresh,h1,F,env.env,λy F1 H1 g1 v1=>?_⟩;obtain⟨b,lo,hb⟩:=v1;obtain⟨zs,rfl,e3,e4,e5⟩:=lo.lst;have e2:=env.step g1;have nF:¬F1 a:=λz=>(g1.new a z).elim p3 λ⟨n,_⟩=>(by rw[n]at p2;cases p2)
     have px:=g1.same _ _ p2;refine⟨a,b,xs,zs,rfl,rfl,px,e3,xh (by rw[← p4.length,← e5.length];exact hl) (by decide),oe _ F1 _ ?_ (g1.keep.trans (Keep.put nF (zbi px)))⟩;exact e2.putL hi p1 px nF ((p4.grow g1).append e5)
    ·cases he2
   ·cases he2
  | _=>cases h2
 ·cases he1
theorem zxp{i:Nat}{tk te:E}{E:Ends}{σ:St}{H:Hp}(h:uS B X.K cl W F₀ H₀ (.ins i tk te) E σ H):tDrop (tBM X.K "list" rInsert (tVar i) (tCons (uE X.K cl tk) (tCons (uE X.K cl te) tNil))) E σ H:=by
 refine zKK λγ κ=>?_;obtain⟨ρ,o,F,he,env,oe⟩:=h;rw[PY.zc7]at he;obtain⟨⟨dk,fk⟩,h0,he0⟩:=za he;clear he;obtain⟨k,hk,he1⟩:=za he0;clear he0;obtain⟨⟨d,f⟩,h1,he2⟩:=za he1;clear he1;obtain⟨d',h2,he3⟩:=za he2;clear he2;obtain⟨hf,rfl⟩:=zdq h2;refine κ ?_;split at he3
 ·rename_i l hi
  split at he3
  ·rename_i hl
   cases he3;refine zKK λγ κ=>?_;obtain⟨a,xs,p1,p2,p3,p4⟩:=env.lst hi;refine κ ?_;refine⟨.ref a,p1,.inl ⟨rfl,xs,.of p2⟩,ρ,dk,fk,h0,F,env.env,λy0 F0 H0 g0 v0=>⟨ρ,d',f,h1,F0,env.env.grow g0,λy F1 H1 g1 v1=>?_⟩⟩;have ek:dk=.int k:=by cases dk <;> simp only[int?]at hk <;> cases hk;rfl
   subst ek;obtain⟨F2,g2,k2,r2⟩:=v1.firm hf g1;have gg:=g0.trans g2;have e2:=env.step gg;have nF:¬F2 a:=λz=>(gg.new a z).elim p3 λ⟨n,_⟩=>(by rw[n]at p2;cases p2)
   have px:=gg.same _ _ p2;have sm:=hl.2;unfold small at sm;rw[yr,decide_eq_true_eq,decide_eq_true_eq]at sm;exact⟨a,xs,k,y,rfl,by rw[v0.now.int],px,by lia,by lia,qp (by rw[← p4.length];exact hl.1) (by decide),oe _ F2 _ (e2.putL hi p1 px nF ((p4.grow gg).putAt r2 k)) (gg.keep.trans (Keep.put nF (zbi px)))⟩
  ·cases he3
 ·cases he3
theorem zgh(n:Nat)(i:Int)(k:Nat)(h:place n i=ya k):seqIndex? i n=ya k/\k<n:=let z:=zog (zk5 n i k h);⟨z.1,z.2.1⟩
theorem zxs{t:Tg}{i:Nat}{tk:E}{E:Ends}{σ:St}{H:Hp}(h:uS B X.K cl W F₀ H₀ (.pop t i tk) E σ H):tAsg (tBM X.K "list" rPopAt (tVar i) (tCons (uE X.K cl tk) tNil)) (uG X.K t) E σ H:=by
 refine zKK λγ κ=>?_;obtain⟨ρ,o,F,he,env,oe⟩:=h;rw[PY.zc2]at he;obtain⟨⟨dk,fk⟩,h0,he0⟩:=za he;clear he;obtain⟨k,hk,he1⟩:=za he0;clear he0;refine κ ?_;split at he1
 ·rename_i l hi
  split at he1
  ·rename_i hl
   refine zKK λγ κ=>?_;obtain⟨j,hj,he2⟩:=za he1;clear he1;obtain⟨d,hd,he3⟩:=za he2;clear he2;obtain⟨ρ',hg,rfl⟩:=zb he3;obtain⟨a,xs,p1,p2,p3,p4⟩:=env.lst hi;refine κ ?_;refine⟨.ref a,p1,.inl ⟨rfl,xs,.of p2⟩,ρ,dk,fk,h0,F,env.env,λy0 F0 H0 g0 v0=>?_⟩;have ek:dk=.int k:=by cases dk <;> simp only[int?]at hk <;> cases hk;rfl
   subst ek;unfold small at hl;rw[yr,decide_eq_true_eq,decide_eq_true_eq]at hl;obtain⟨s1,s2⟩:=zgh _ _ _ hj;obtain⟨y,hy,ry⟩:=p4.get hd;have nF:¬F0 a:=λz=>(g0.new a z).elim p3 λ⟨n,_⟩=>(by rw[n]at p2;cases p2)
   have px:=g0.same _ _ p2;have e2:=(env.step g0).putL hi p1 px nF ((p4.grow g0).erase j);refine⟨a,xs,k,j,y,rfl,by rw[v0.now.int],px,by lia,by lia,by rw[← p4.length];exact s1,hy,?_⟩;exact e2.give ((ry.grow g0).keep (Keep.put nF (zbi px))) hg λσ' e'=>oe σ' F0 _ e' (g0.keep.trans (Keep.put nF (zbi px)))
  ·cases he1
 ·cases he1
theorem zhw{α:Type}:∀{xs:List α} {j:Nat},j+1=xs.length->xs.dropLast=xs.eraseIdx j
  | [],_,h=>by simp at h
  | [x], j, h => by have : j = 0 := by simpa using h
                    subst this;rfl
  | x::y::r,0,h=>by simp at h
  | x::y::r,j+1,h=>by
    rw[List.dropLast_cons₂,yda,zhw (xs:=y::r) (j:=j) (by simpa using h)]
theorem zvf{t:Tg}{i:Nat}{E:Ends}{σ:St}{H:Hp}(h:uS B X.K cl W F₀ H₀ (.pop t i (.con (.int (-1)))) E σ H):tAsg (tBM0 X.K "list" rPop (tVar i)) (uG X.K t) E σ H:=by
 refine zKK λγ κ=>?_;obtain⟨ρ,o,F,he,env,oe⟩:=h;rw[PY.zc2]at he;obtain⟨⟨dk,fk⟩,h0,he0⟩:=za he;clear he;cases h0;obtain⟨k,hk,he1⟩:=za he0;clear he0;cases hk;refine κ ?_;split at he1
 ·rename_i l hi
  split at he1
  ·rename_i hl
   obtain⟨j,hj,he2⟩:=za he1;clear he1;obtain⟨d,hd,he3⟩:=za he2;clear he2;obtain⟨ρ',hg,rfl⟩:=zb he3;obtain⟨a,xs,p1,p2,p3,p4⟩:=env.lst hi;obtain⟨s1,s2⟩:=zgh _ _ _ hj;obtain⟨y,hy,ry⟩:=p4.get hd;have e2:=env.putL hi p1 p2 p3 (p4.erase j)
   have hjl:j+1=xs.length:=by
    have hlen:=p4.length;unfold place at hj;rw[if_neg (by decide)]at hj;split at hj
    ·cases hj;lia
    ·cases hj
   have ed:xs.dropLast=xs.eraseIdx j:=zhw hjl;refine⟨.ref a,p1,.inl ⟨rfl,xs,.of p2⟩,a,xs,y,rfl,rfl,p2,by rw[show xs.length - 1=j by lia];exact hy,?_⟩;rw[ed];exact e2.give (ry.keep (Keep.put p3 (zbi p2))) hg λσ' e'=>oe σ' F _ e' (Keep.put p3 (zbi p2))
  ·cases he1
 ·cases he1
theorem Reps.set{K:Frag}{F:Fz}{H:Hp}{d:D}{v:V}(h:Rep K F H d v):∀{ds:List D} {vs:List V} (j:Nat),Reps K F H ds vs->Reps K F H (ds.set j d) (vs.set j v)
 | [],vs,j,r=>by rw[Reps]at r;subst r;exact .nil
 | x::ds,vs,0,r=>by
  rw[Reps]at r;obtain⟨w,ws,rfl,_,h2⟩:=r;exact .cons h h2
 | x::ds,vs,j+1,r=>by
  rw[Reps]at r;obtain⟨w,ws,rfl,h1,h2⟩:=r;exact .cons h1 (Reps.set h j h2)
def sPutD(K:Frag)(td ty tv:TE):TS:=λD σ H=>tv σ H λv H1=>td σ H1 λx H2=>ty σ H2 λy H3=>∃a ks us F dx o,x=.ref a/\DH H3 a ks us/\Now K F H3 dx y/\keyAt dx ks=ya o/\ks.length<y8 /\
 ∀ob,DH (upd H3 a ob) a (nks o ks dx) (nvs o us v)->D.nx σ (upd H3 a ob)
theorem zsw{o i value:Expr}{pos':Pos}{td ty tv:TE}(hu:X.A.units+1<ju)(ho:PE X o td)(hi:PE X i ty)(hv:PE X value tv)(hs:ybx value (ya (.Subscript o i pos')) pos.line X.env=pure yi) :
  PS X (.Assign [.Subscript o i pos'] value pos) (sPutD X.K td ty tv):=by
 intro pins s σ H D I h;refine wpAny_Assign_Subscript (thn (hv pins s σ H _ I h) λr s1 ⟨v,H1,I1,rv,q1⟩=>thn (ho pins s1 σ H1 _ I1 q1) λu s2 ⟨x,H2,I2,rx,q2⟩=>thn (hi pins s2 σ H2 _ I2 q2) λiv s3 ζ=>?_) hs;refine zKK λγ κ=>?_;obtain⟨y,H3,I3,ry,a,ks,us,F,dx,o,ex,hd,nx,hk,hz,q3⟩:=ζ;subst ex;obtain rfl:u=yw a:=rx;refine κ ?_;exact zto hu I3 hd nx hk ry rv hz λob s4 I4 hd'=>⟨σ,_,I4,q3 ob hd'⟩
theorem zvq{i:Nat}{tk te:E}{E:Ends}{σ:St}{H:Hp}(h:uS B X.K cl W F₀ H₀ (.dput i tk te) E σ H):sPutD X.K (tVar i) (uE X.K cl tk) (uE X.K cl te) E σ H:=by
 refine zKK λγ κ=>?_;obtain⟨ρ,o,F,he,env,oe⟩:=h;rw[PY.za3]at he;obtain⟨⟨d,f⟩,h1,he1⟩:=za he;clear he;obtain⟨d',h2,he2⟩:=za he1;clear he1;obtain⟨hf,rfl⟩:=zdq h2;obtain⟨⟨dx,fx⟩,h3,he3⟩:=za he2;clear he2;refine κ ?_;split at he3
 ·rename_i ks vs hi
  refine zKK λγ κ=>?_;obtain⟨p,hp,rfl⟩:=zb he3;clear he3;unfold dputO at hp;obtain⟨j,hk,hp1⟩:=za hp;clear hp;refine κ ?_;split at hp1
  ·rename_i hz
   refine⟨ρ,d',f,h1,F,env.env,λv F1 H1 g1 v1=>?_⟩;refine zKK λγ κ=>?_;obtain⟨F2,g2,k2,r2⟩:=v1.firm hf g1;have em:mine ρ i=ya (.dic ks vs):=zal hi rfl;obtain⟨a,p1,p3,us,p4,p5⟩:=env.env.own i _ em;refine κ ?_;refine⟨.ref a,p1,ρ,dx,fx,h3,F2,env.env.grow g2,λy F3 H3 g3 v3=>?_⟩;have gg:=g2.trans g3;have hd:=p4.keep λob n q=>gg.same a ob q n
   refine⟨a,ks,us,F3,dx,j,rfl,hd,v3.now,hk,qp hz (by decide),λob hd'=>?_⟩;have nF:¬F3 a:=λz=>(gg.new a z).elim p3 λ⟨n,_⟩=>p4.ne n
   have nt:∀xs,H3 a≠ya (.tup xs):=λxs z=>hd.not_tup z
   have kp:Keep F3 H3 F3 (upd H3 a ob):=Keep.put nF nt;have rv:Rep X.K F3 (upd H3 a ob) d' v:=(r2.grow g3).keep kp;have rs:Reps X.K F3 (upd H3 a ob) vs us:=(p5.grow gg).keep kp;cases j with
   | some j=>cases hp1;exact oe _ F3 _ ((env.step gg).putO em p1 nF nt (sl:=.dk ks (vs.set j d')) rfl ⟨us.set j v,hd',Reps.set rv j rs⟩ hd.mut hd'.nt) (gg.keep.trans kp)
   | none=>cases hp1;exact oe _ F3 _ ((env.step gg).putO em p1 nF nt (sl:=.dk (ks++[dx]) (vs++[d'])) rfl ⟨us++[v],hd',rs.snoc rv⟩ hd.mut hd'.nt) (gg.keep.trans kp)
  ·cases hp1
 ·cases he3
theorem zxo{t:Tg}{it:I}{b:Ss}{E:Ends}{σ:St}{H:Hp}(h:uS B X.K cl W F₀ H₀ (.loop t it b) E σ H):tFor (uI X.K cl it) (uG X.K t) (uSs B X.K cl W F₀ H₀ b) E σ H:=by
 obtain⟨ρ,o,F,he,env,oe⟩:=h;rw[PY.zbz]at he;obtain⟨⟨ds,lent⟩,hi,he⟩:=za he;dsimp only at he;cases lent with
 | true=>cases he
 | false =>
 rw[if_neg qc]at he;obtain⟨f,hf,he⟩:∃f:D->Rho->Option Out,(∀d ρ,f d ρ=(PY.give t d ρ).bind λρ'=>exs cl W b ρ')/\loopO f ds ρ=ya o:=⟨_,λ_ _=>rfl,he⟩;refine⟨ρ,ds,yi,hi,F,env.env,λJ F1 H1 P g1 hP iter=>?_⟩;have oe1:=oe.mono g1.keep;refine⟨λi m σ' H'=>m=ds.length - i/\i<=ds.length/\∃ρ' F',EnvS B X.K F₀ H₀ F' H' σ' ρ'/\Keep F1 H1 F' H'/\loopO f (ds.drop i) ρ'=ya o,⟨ds.length,by simp,wm _,ρ,F1,env.step g1,Keep.refl,by rw[ybk];exact he⟩,?_⟩;rintro i m σ' H' ⟨rfl,hil,ρ',F',e',k',hl⟩;have itr:=iter.2 i F' H' k'.1 (λa u ha n z=>k'.2.1 a u (ha.elim id λq=>hP rfl a q) n z) k'.2.2;by_cases hlt:i<ds.length
 ·refine .inr ⟨(itr.1 ds[i] (by simp[hlt])).1,λσ2 H2=>∃ρ2 F2,EnvS B X.K F₀ H₀ F2 H2 σ2 ρ2/\Keep F1 H1 F2 H2/\loopO f (ds.drop (i+1)) ρ2=ya o,λσ2 H2 ⟨ρ2,F2,a1,a2,a3⟩=>⟨ds.length - (i+1),by lia,rfl,hlt,ρ2,F2,a1,a2,a3⟩,λx H2 y=>?_⟩
  obtain⟨F2,g2,r2⟩:=(itr.1 ds[i] (by simp[hlt])).2 x H2 y;rw[v9 hlt]at hl;obtain⟨o1,ho1,hl⟩:=za (show(f ds[i] ρ').bind (λo=>match o with | .nx ρ'=>loopO f (ds.drop (i+1)) ρ' | .rt v=>ya (.rt v) | .bk ρ'=>ya (.nx ρ') | .ct ρ'=>loopO f (ds.drop (i+1)) ρ')=ya o from hl);rw[hf]at ho1;obtain⟨ρ1,hg,ho1⟩:=za ho1;refine(e'.step g2).give r2 hg λσ3 e3=>⟨ρ1,o1,F2,ho1,e3,?_⟩
  have kk:=k'.trans g2.keep;cases o1 with
  | nx ρ4=>exactλσ4 F4 H4 e4 k4=>⟨ρ4,F4,e4,kk.trans k4,hl⟩
  | ct ρ4=>exactλσ4 F4 H4 e4 k4=>⟨ρ4,F4,e4,kk.trans k4,hl⟩
  | bk ρ4=>cases hl;exactλσ4 F4 H4 e4 k4=>oe1 σ4 F4 H4 e4 (kk.trans k4)
  | rt d=>cases hl;exact oe1
 ·have e:i=ds.length:=by lia
  subst e;rw[ydj]at hl;cases hl;exact .inl ⟨itr.2 (y6 _),oe1 σ' F' H' e' k'⟩
theorem zt4{c:E}{b:Ss}{E:Ends}{σ:St}{H:Hp}(h:uS B X.K cl W F₀ H₀ (.while c b) E σ H):tWhile (uT X.K cl c) (uSs B X.K cl W F₀ H₀ b) E σ H:=by
 obtain⟨ρ,o,F,he,env,oe⟩:=h;rw[PY.zej]at he;refine⟨λm σ' H'=>∃ρ' F',EnvS B X.K F₀ H₀ F' H' σ' ρ'/\Keep F H F' H'/\whileO (λρ=>evT cl c ρ) (λρ=>exs cl W b ρ) m ρ'=ya o,⟨W,ρ,F,env,Keep.refl,he⟩,?_⟩;rintro m σ' H' ⟨ρ',F',e',k',hw⟩;cases m with
 | zero=>cases hw
 | succ m =>
  obtain⟨k,hk,hw⟩:=za (show(evT cl c ρ').bind (λk=>if k then(exs cl W b ρ').bind (λo=>match o with | .nx ρ'=>whileO (λρ=>evT cl c ρ) (λρ=>exs cl W b ρ) m ρ' | .rt v=>ya (.rt v) | .bk ρ'=>ya (.nx ρ') | .ct ρ'=>whileO (λρ=>evT cl c ρ) (λρ=>exs cl W b ρ) m ρ')else ya (.nx ρ'))=ya o from hw);refine⟨ρ',k,hk,F',e'.env,λF1 H1 g1=>?_⟩;cases k with
  | false =>
   rw[if_neg qc]at hw ⊢;cases hw;exact oe σ' F1 H1 (e'.step g1) (k'.trans g1.keep)
  | true =>
   rw[if_pos rfl]at hw ⊢;obtain⟨o1,ho1,hw⟩:=za hw;refine⟨λσ2 H2=>∃ρ2 F2,EnvS B X.K F₀ H₀ F2 H2 σ2 ρ2/\Keep F H F2 H2/\whileO (λρ=>evT cl c ρ) (λρ=>exs cl W b ρ) m ρ2=ya o,λσ2 H2 ⟨ρ2,F2,a1,a2,a3⟩=>⟨m,ydf m,ρ2,F2,a1,a2,a3⟩,ρ',o1,F1,ho1,e'.step g1,?_⟩;have kk:=k'.trans g1.keep;cases o1 with
   | nx ρ4=>exactλσ4 F4 H4 e4 k4=>⟨ρ4,F4,e4,kk.trans k4,hw⟩
   | ct ρ4=>exactλσ4 F4 H4 e4 k4=>⟨ρ4,F4,e4,kk.trans k4,hw⟩
   | bk ρ4=>cases hw;exactλσ4 F4 H4 e4 k4=>oe σ4 F4 H4 e4 (kk.trans k4)
   | rt d=>cases hw;exact oe
end
end SD
namespace PY
open PySem (Program)
noncomputable def killAt(dd:List Nat):Nat->List Fn->List Fn
 | _,[]=>[]
 | k,f::r=>(if dd.contains k then dead else f)::killAt dd (k+1) r
noncomputable def compileX(dd:List Nat)(p:qw):Option (List Fn):=(compile p).map (killAt dd 0)
theorem zkq(dd:List Nat):∀{fs:List Fn} {k f:Nat} {fn:Fn},(killAt dd k fs)[f]? = ya fn->fn=dead\/(fs[f]? = ya fn/\dd.contains (k+f)=yi)
 | [],_,_,_,h=>by simp[killAt]at h
 | g::r,k,0,fn,h=>by
  simp only[killAt,ve]at h;have h:=qh h;split at h
  ·exact .inl h.symm
  ·rename_i q
   exact .inr ⟨by rw[← h];rfl,by simpa using q⟩
 | g::r,k,f+1,fn,h=>by
  simp only[killAt,vd]at h;rcases zkq dd h with h | ⟨h,h'⟩
  ·exact .inl h
  ·exact .inr ⟨by simpa using h,by rw[show k+(f+1)=k+1+f by lia];exact h'⟩
end PY
namespace L2
open PySem PySem.Spec PyProof.Rows
theorem zjm{X:Cx}{pins:List (yq×Obj)}{σ:St}{H:Hp}{s:ym}{a:yq}{kvs:List (Key×V)}(I:Inv X pins σ H s)(h:H a=ya (.dK kvs)):(∀o u,X.H₀ a≠ya (.frz o u))/\∃o,Inv X pins σ (upd H a (.frz o (.dK kvs))) s:=by
 refine⟨λo u e=>?_,?_⟩
 ·have:=I.base.frzs a o u e
  rw[h]at this;cases this
 ·have ok:=I.hok a _ h
  refine zKK λγ κ=>?_;obtain⟨z,hd,vs,rel,o,es,ep,e1,r⟩:=ok;refine κ ?_;exact⟨o,ziw (h':=s.heap) (t':=s.toks) (ob:=.frz o (.dK kvs)) I (by rw[h];exact x4) ⟨rfl,λ_ _=>rfl⟩ ⟨o,e1⟩ ⟨e1,z,hd,vs,rel,o,es,ep,e1,r⟩⟩
theorem zjs{X:Cx}{pins:List (yq×Obj)}{σ:St}{H:Hp}{s:ym}{a:yq}{o:Obj}{kvs:List (Key×V)}(nf:∀o u,X.H₀ a≠ya (.frz o u))(I:Inv X pins σ H s)(h:H a=ya (.frz o (.dK kvs))):Inv X pins σ (upd H a (.dK kvs)) s:=by
  have ne:∀{b:yq},H b=yk->b≠a:=λe z=>by rw[z,h]at e;cases e
  have nn:∀{b:yq},H b=yk->upd H a (.dK kvs) b=yk:=λ{b} e=>by rw[zh (ne e)];exact e
  have nt:∀b xs,H b=ya (.tup xs)->upd H a (.dK kvs) b=ya (.tup xs):=λb xs e=>by rw[zh λz=>by rw[z,h]at e;cases e];exact e
  exact { ok := I.ok, os := I.os, bare := I.bare, loc := I.loc, cell := I.cell, free := nn I.free, freeC := fun x c e => nn (I.freeC x c e), len := I.len
          base:=⟨I.base.keep,I.base.slot,λb ob q n x=>nn (I.base.free b ob q n x),I.base.there,λb xs e=>nt b xs (I.base.tups b xs e),λb ob u e=>by
            rw[zh λz=>nf ob u (by rw[← z];exact e)];exact I.base.frzs b ob u e,λb ps e=>by
            obtain⟨m,e2⟩:=I.base.tbls b ps e;exact⟨m,by rw[zh λz=>by rw[z,h]at e2;cases e2];exact e2⟩⟩
          pin:=λp hp=>let⟨a1,a2,a3⟩:=I.pin p hp;⟨a1,nn a2,a3⟩
          hok:=λb u e=>by
            by_cases hb:b=a
            . subst hb
              rw[zj]at e;cases e;exact(I.hok b _ h).2
            . rw[zh hb]at e
              exact(I.hok b u e).stay (λ_ _ _ y=>y) (λc y=>by rw[zh λz=>by rw[z,h]at y;cases y];exact y) nt}
theorem PE.cold{X:Cx}{e:Expr}{t:TE}(hp:PE X e t):PE X e (λσ H Q=>∃a kvs,H a=ya (.dK kvs)/\∀o,t σ (upd H a (.frz o (.dK kvs))) λv H2=>H2 a=ya (.frz o (.dK kvs))/\Q v (upd H2 a (.dK kvs))):=by
 intro pins s σ H Q I ζ0;refine zKK λγ κ=>?_;obtain⟨a,kvs,h,q⟩:=ζ0;obtain⟨nf,o,I1⟩:=zjm I h;refine κ ?_;exact thn (hp pins s σ _ _ I1 (q o)) λv s' ⟨x,H',I',r,e1,q1⟩=>⟨x,_,zjs nf I' e1,r,q1⟩
theorem PS.cold{X:Cx}{st:Stmt}{t:TS}(hp:PS X st t):PS X st (λE σ H=>∃a kvs,H a=ya (.dK kvs)/\∀o,t ⟨λσ' H2=>H2 a=ya (.frz o (.dK kvs))/\E.nx σ' (upd H2 a (.dK kvs)),λ_ _=>False,λ_ _=>False,λ_ _=>False⟩ σ (upd H a (.frz o (.dK kvs)))):=by
 rintro pins s σ H E I ⟨a,kvs,h,q⟩;obtain⟨nf,o,I1⟩:=zjm I h;refine thn (hp pins s σ _ _ I1 (q o)) λf s' h=>?_
 cases f with
 | next=>obtain⟨σ',H',I',e1,q1⟩:=h;exact⟨σ',_,zjs nf I' e1,q1⟩
 | brk=>obtain⟨_,_,_,z⟩:=h;exact z.elim
 | cont=>obtain⟨_,_,_,z⟩:=h;exact z.elim
 | ret u=>obtain⟨_,_,_,_,_,z⟩:=h;exact z.elim
def Itk(a:yq)(o:Obj)(kvs:List (Key×V))(ns:List Int):It:=⟨λi H=>H a=ya (.frz o (.dK kvs))/\i<ns.length,λi H v H'=>H'=H/\∃n,ns[i]? = ya n/\v=.int n,λi H=>H a=ya (.frz o (.dK kvs))/\ns.length<=i⟩
theorem zn2{P:qw}{w:x8}{K:Frag}{tg:Expr}(a it:yq){o:Obj}{kvs:List (Key×V)}{ns:List Int}{es:Array DictEntry}{ep:Nat}{ks:List yh}(hd:o.ExactDict)(he:o.data=.dict es ep)(hk:es.toList.map (·.key)=ks)(hl:ks.length=ns.length)(hi:∀(i:Nat) v,ks[i]? = ya v->∃n t,ns[i]? = ya n/\v=.int n t) :
  Turn P w K tg (Itk a o kvs ns) [it] it (λi h=>h.IsKeyIter it a i ks.length ep) where
 mem:=by simp
 obj:=λi h st b hb=>by
  rw[qd.mp hb];obtain⟨ob,e,_,d⟩:=st;exact⟨ob,e,λv z=>by rw[d]at z;cases z⟩
 keep:=λi h h' ⟨ob,e,r⟩ k=>⟨ob,k it (by simp) ob e,r⟩
 item:=by
  rintro X hP hw hK hc i pins s σ H E I hf st ⟨hg,hlt⟩;subst hP hw hK;refine zKK λγ κ=>?_;obtain⟨f0,f1,f2,f3,f4,f5⟩:=hf it (by simp);have ea:=(I.hok a _ hg).1;refine κ ?_;refine HT.zjj (I.ok.hd hc) st ⟨o,es,ea,hd,he,hk⟩ (λv h' e1 y sb=>⟨v,rfl,?_⟩) λe1=>absurd e1 (by rw[yc (by lia)];simp)
  refine zKK λγ κ=>?_;obtain⟨n,t,e2,rfl⟩:=hi i v e1;obtain⟨ob,g1,g2,g3⟩:=id y;refine κ ?_;refine go_of g1 g2 g3 (by decide) ⟨.int n,H,I.turned (t':=s.toks) (λb ob hb z=>(sb.2 b hb).trans z) f0 f1 f3 f4 f5,⟨t,rfl⟩,⟨rfl,n,e2,rfl⟩,y,λb hb=>(hf b hb).1⟩
 done:=by
  rintro X hP hw hK hc i pins s σ H E I hf st ⟨hg,hle⟩;subst hP hw hK;refine zKK λγ κ=>?_;obtain⟨f0,f1,f2,f3,f4,f5⟩:=hf it (by simp);have ea:=(I.hok a _ hg).1;refine κ ?_;refine HT.zjj (I.ok.hd hc) st ⟨o,es,ea,hd,he,hk⟩ (λv h' e1=>absurd e1 (by rw[v7 (by lia)];simp)) λ_ h' x=>⟨rfl,I.turned (t':=s.toks) (λb ob hb z=>x b ob hb z) f0 f1 f3 f4 f5⟩
 self:=λA i s Q E st h=>wpAny_pyIter_keyiter st h
theorem zfg{P:qw}{w:x8}:∀{es:List DictEntry} {vs:List (Key×yh)} {ns:List Int},Pairs (mixKind P w) es vs->vs.map (·.1)=ns.map jy->(es.map (·.key)).length=ns.length/\∀(i:Nat) v,(es.map (·.key))[i]? = ya v->∃n t,ns[i]? = ya n/\v=.int n t
 | _,_,ns,.nil,h=>by
  cases ns with
  | nil=>exact⟨rfl,λi v e=>by simp at e⟩
  | cons _ _=>cases h
 | _,_,ns,.cons (e:=e) h1 h2 h3,h=>by
  cases ns with
  | nil=>cases h
  | cons n ns =>
   rw[yo,yo]at h;injection h with a b
   obtain⟨l,r⟩:=zfg h3 b;refine⟨by simpa using l,λi v e=>?_⟩;cases i with
   | zero =>
    simp at e;subst e;rw[a]at h1;rcases zp (show keyIs (jy n) _=yl from h1)with⟨i,t,e5,e6⟩ | ⟨i,t,e5,e6⟩
    ·cases e5;exact⟨n,t,rfl,e6⟩
    ·cases e5
   | succ i=>simpa using r i v (by simpa using e)
theorem zty{X:Cx}{l tg:Expr}{tl:TE}(hp:PE X l tl):PI X tg l (λσ H R=>tl σ H λx H1=>∃a o ns ys,x=.ref a/\H1 a=ya (.frz o (.dK ((ns.map jy).zip ys)))/\ys.length=ns.length/\(ns.length<=y8->R (Itk a o ((ns.map jy).zip ys) ns) H1)):=by
 intro pins s σ H R I h;refine thn (hp pins s σ H _ I h) λv s1 ζ=>?_;obtain⟨x,H1,I1,r1,a,o,ns,ys,e,hq,hl,q⟩:=ζ
 subst e;cases r1;refine zKK λγ κ=>?_;obtain⟨ea,z,hd,vs,rel,o',es,ep,e1,e2,e3,e4,e5,e6⟩:=I1.hok a _ hq;rw[ea]at e1;cases e1;obtain⟨k1,k2⟩:=zfg e5 (by rw[← rel.keys,zfm hl]);refine κ ?_;refine HT.zp4 hd ⟨o,es,ea,e2,e3,rfl⟩ ⟨s1.heap.objs.size,[s1.heap.objs.size],_,_,H1,rfl,I1.kept (t':=s1.toks) λb o e=>yp _ e,zn2 a _ e2 e3 rfl k1 k2,⟨_,y4 _ rfl,rfl,rfl⟩,λb hb=>?_,q (by rw[yb8,yd,hl,ycf]at z;exact z)⟩;rw[qd.mp hb];exact I1.fpOk (y6 _) I1.fresh
end L2
namespace SD
open PySem PySem.Spec PyProof.Rows L2 PY
abbrev tcK(K:Frag)(c:Int):TT:=tTest (tOp (rCmp K .eq) (tDGet (tVar 1) (tVar 0)) (tC (.int c)))
abbrev wiK(i:Nat):TI:=λσ H R=>tVar i σ H λx H1=>∃a o ns ys,x=.ref a/\H1 a=ya (.frz o (.dK ((ns.map jy).zip ys)))/\ys.length=ns.length/\(ns.length<=y8->R (Itk a o ((ns.map jy).zip ys) ns) H1)
theorem zgs{X:Cx}{cl:Cl}{i:Nat}{c:Int}{σ:St}{H:Hp}{Q:VK}(h:uE X.K cl (.dsel i c) σ H Q) :
  ∃a kvs,H a=ya (.dK kvs)/\∀o,tComp (wiK i) 1 [i] (gName 0) (tcK X.K c) (tVar 0) σ (upd H a (.frz o (.dK kvs))) λv H2=>H2 a=ya (.frz o (.dK kvs))/\Q v (upd H2 a (.dK kvs)):=by
 refine zKK λγ κ=>?_;obtain⟨ρ,d,f,he,F,env,q⟩:=h;have he:selD c ρ[i]? = ya (d,f):=he;refine κ ?_;cases hr:ρ[i]? with
 | none=>rw[hr]at he;cases he
 | some sl =>
  rw[hr]at he;cases sl <;> first | (cases he;done) | skip
  rename_i ks vs;refine zKK λγ κ=>?_;obtain⟨ns,h1,he⟩:=za (show(ints? ks).bind (λns=>(ints? vs).map λms=>(D.lst (selI ns ms c),Fl.fresh))=ya (d,f)from he);obtain⟨ms,h2,he⟩:=zb he;cases he;obtain⟨a,s1,nF,us,⟨ns',e0,nd,hl,ea⟩,rs⟩:=env.own i (.dic ks vs) (zal hr rfl);subst e0;rw[zb9]at h1;cases h1;have eu:=zad (X:=X) h2 rs;subst eu;rw[yd]at hl;refine κ ?_;refine⟨a,_,ea,λo=>?_⟩;generalize hkv:(ns.map (jy:Int->Key)).zip (ms.map V.int)=kvs at ea;refine⟨.ref a,s1,a,o,ns,ms.map V.int,rfl,by rw[zj,hkv],by rw[yd];exact hl,λhsz acc hacc=>?_⟩;rw[hkv];have na:acc≠a:=λz=>by rw[z,zj]at hacc;cases hacc
  have hacc':H acc=yk:=by rw[zh na]at hacc;exact hacc
  let sel:Nat->List Int:=λk=>(((ns.zip ms).take k).filter λp=>p.2==c).map (·.1)
  have hz:(ns.zip ms).length=ns.length:=by rw[yb8,hl,ycf]
  have selS:∀k n m,ns[k]? = ya n->ms[k]? = ya m->sel (k+1)=sel k++if m==c then[n]else[]:=λk n m e1 e2=>by
   have:(ns.zip ms)[k]? = ya (n,m):=ww.mpr ⟨e1,e2⟩;have e3:(ns.zip ms).take (k+1)=(ns.zip ms).take k++[(n,m)]:=by rw[List.take_succ,this];rfl
   show((((ns.zip ms).take (k+1)).filter λp=>p.2==c).map (·.1))=_;rw[e3,ya6,qb];congr 1;by_cases hm:(m==c)=yl
   ·rw[if_pos hm,xm (p:=λp:Int×Int=>p.2==c) (a:=(n,m)) hm];rfl
   ·rw[if_neg hm,xy (p:=λp:Int×Int=>p.2==c) (a:=(n,m)) hm];rfl
  have selL:∀k,(sel k).length<=k:=λk=>by
   show((((ns.zip ms).take k).filter λp=>p.2==c).map (·.1)).length<=k;rw[yd];exact xh (jk _ _) (by rw[x3];exact yay _ _)
  refine⟨λk m ys Hc=>m=ns.length - k/\k<=ns.length/\ys=(sel k).map V.int/\Hc=upd (upd H a (.frz o (.dK kvs))) acc (.lst ys),⟨ns.length,rfl,wm _,rfl,rfl⟩,?_⟩;rintro k m ys Hc ⟨rfl,hk,rfl,rfl⟩;refine⟨zj,?_⟩;have fa:(upd (upd H a (.frz o (.dK kvs))) acc (.lst ((sel k).map V.int))) a=ya (.frz o (.dK kvs)):=by rw[zh (xg na),zj]
  by_cases hlt:k<ns.length
  ·refine .inr ⟨⟨fa,hlt⟩,λx H' ⟨e1,n,e2,e3⟩=>?_⟩
   subst e1 e3;have hm:ms[k]? = ya ms[k]:=yc (by lia);generalize ms[k]'(by lia)=m0 at hm;have c2:caps 1 [i] σ=[yk,ya (.ref a)]:=by unfold caps;simp[s1]
   show Wk (caps 1 [i] σ) ((caps 1 [i] σ).set 0 (ya (.int n)))/\_;rw[c2];refine⟨⟨rfl,λj v e=>?_⟩,.ref a,rfl,.int n,rfl,a,.int m0,rfl,?_,Ev,.int m0,.int c,m0==c,.inl zv,.inl zv,rfl,m0==c,rfl,?_⟩
   ·cases j with
    | zero=>simp at e
    | succ j=>simpa using e
   ·refine .inl ⟨kvs,jy n,.inr ⟨o,fa⟩,rfl,?_⟩
    rw[← hkv,zdv zjf ns _ n (by rw[yd];exact hl)]
    have:ns.findIdx? (· == n)=ya k:=by
     rw[v8];refine⟨hlt,?_,λj hj=>?_⟩
     ·rw[yc hlt]at e2
      simpa using qh e2
     ·intro z
      have z':ns[j]'(by lia)=n:=by simpa using z
      rw[yc hlt]at e2;have:=(yc9 nd).mp (z'.trans (qh e2).symm);lia
    rw[this,ye,yy,hm];rfl
   ·have hS:=selS k n m0 e2 hm
    cases hb:m0==c with
    | true =>
     rw[hb,if_pos rfl]at hS;show if yl=yl then _ else _
     rw[if_pos rfl];refine⟨.int n,rfl,zj,?_,ns.length - (k+1),by lia,rfl,hlt,by rw[hS,qb];rfl,?_⟩
     ·have:=selL k
      rw[yd];exact yeh this (qp hlt hsz)
     ·rw[zr8]
    | false =>
     rw[hb,if_neg qc,qr]at hS;show if yi=yl then _ else _
     rw[if_neg qc];exact⟨ns.length - (k+1),by lia,rfl,hlt,by rw[hS],rfl⟩
  ·have ek:k=ns.length:=by lia
   refine .inl ⟨⟨fa,by lia⟩,fa,?_⟩
   have eH:upd (upd (upd H a (.frz o (.dK kvs))) acc (.lst ((sel k).map V.int))) a (.dK kvs)=upd H acc (.lst ((sel k).map V.int)):=by
    funext b;by_cases h1:b=a
    ·subst h1;rw[zj,zh (xg na),ea]
    ·rw[zh h1]
     by_cases h2:b=acc
     ·subst h2;rw[zj,zj]
     ·rw[zh h2,zh h1,zh h2]
   rw[eH]
   have es:selI ns ms c=(sel k).map D.int:=by
    unfold selI;show _=((((ns.zip ms).take k).filter λp=>p.2==c).map (·.1)).map D.int;rw[ek,← hz,ydg,qu];rfl
   refine q _ F _ (Grow.loose hacc') ⟨acc,⟨rfl,λz=>env.dom acc z hacc',_,zj,?_⟩,hacc'⟩;rw[es];exact za2 (X:=X) _
theorem zrz{e:Expr}{d y:Str}{c:Int}(h:askOf e=ya (d,y,c)):∃p1 p2 p3 p4 k p5,e=.Compare (.Subscript (.Name d p1) (.Name y p2) p3) [.Eq] [.Constant (.int c) k p4] p5:=by
 cases e <;> first | (cases h;done) | skip
 refine zKK λγ κ=>?_;obtain⟨⟨o,b⟩,h0,h⟩:=za h;obtain⟨g,h⟩:=zf h;obtain⟨⟨d',k'⟩,h1,h⟩:=za h;obtain⟨y',h2,h⟩:=za h;obtain⟨c',h3,h⟩:=zb h;cases h;obtain⟨rfl,rfl⟩:=zjk h0;obtain⟨p1,p3,rfl⟩:=zm0 h1;obtain⟨p2,rfl⟩:=zao h2;obtain⟨k,p4,rfl⟩:=ztm h3;refine κ ?_;cases o <;> first | (cases g;done) | exact⟨_,_,_,_,_,_,rfl⟩
theorem zpy{B:Bd}{cf:Cfg}{cl:Cl}{W:Nat}{sc:Scope}{N:List Str}{X:Cx}{F₀:Fz}{H₀:Hp}(c:Ctx cf cl sc N X){y:Str}{py pos:Pos}{v:Expr}{i j:Nat}{c0:Int}
  (pg:PG X (.Name y py) (uG X.K (.one i))) (h:dselOf sc N v=ya (j,c0)):PS X (.Assign [.Name y py] v pos) (uS B X.K cl W F₀ H₀ (.asg (.one i) (.dsel j c0))):=by
 cases v <;> first | (cases h;done) | skip
 ·rename_i elt gens scope vpos
  refine zKK λγ κ=>?_;obtain⟨⟨tg,it,ifs⟩,h0,h⟩:=za h;obtain⟨cond,h00,h⟩:=za h;obtain rfl:=zis h0;obtain rfl:=zc4 h00;obtain⟨z,h1,h⟩:=za h;obtain⟨zz,h2,h⟩:=za h;obtain⟨dd,h3,h⟩:=za h;obtain⟨⟨d,z1,c1⟩,h4,h⟩:=za h;obtain⟨g,h⟩:=zf h;obtain⟨j',h5,h⟩:=zb h;cases h;simp only[yr,decide_eq_true_eq,beq_iff_eq,bne_iff_ne]at g;obtain⟨⟨⟨⟨⟨⟨⟨⟨⟨⟨⟨⟨g1,g2⟩,g3⟩,g4⟩,g5⟩,g6⟩,g7⟩,g8⟩,g9⟩,g10⟩,g11⟩,g12⟩,g13⟩:=g;refine κ ?_;subst g1 g2 g3;obtain⟨pe,rfl⟩:=zao h1;obtain⟨pt,rfl⟩:=zao h2;obtain⟨pd,rfl⟩:=zao h3;obtain⟨p1,p2,p3,p4,kc,p5,rfl⟩:=zrz h4;have hu:=c.top.un;obtain⟨n1,n2,n3⟩:=zaw g5;obtain⟨m1,m2,m3⟩:=zaw g6
  have lk:∀p∈scope.names,scope.names.lookup p.1=ya p.2:=λp hp=>by
   have:=qo.mp g13 p hp;simpa using this
  have fd:(d,qe)∈scope.names:=zdu.mpr (by rw[g10];exact qd.mpr rfl);have nd:[z1,d].Nodup:=by simp[g4]
  have hb:∀C fp pins s H,PG (blockCx X [z1,d] scope C fp pins s H) (.Name z1 pt) (gName 0)/\PTs (blockCx X [z1,d] scope C fp pins s H) [.Compare (.Subscript (.Name d p1) (.Name z1 p2) p3) [.Eq] [.Constant (.int c0) kc p4] p5] (tcK X.K c0)/\PE (blockCx X [z1,d] scope C fp pins s H) (.Name z1 pe) (tVar 0):=λC fp pins s H=>by
   have c':=c.block scope g12 (N':=[z1,d]) nd C fp pins s H;have v0:Vis (blockCx X [z1,d] scope C fp pins s H).env.scope z1:=.inl (c'.loc z1 g9);have v1:Vis (blockCx X [z1,d] scope C fp pins s H).env.scope d:=c'.vis d (by unfold PY.seen;rw[lk _ fd]);have e0:∀p,PE (blockCx X [z1,d] scope C fp pins s H) (.Name z1 p) (tVar 0):=λp=>zbo rfl v0 n1 n2
   have e1:∀p,PE (blockCx X [z1,d] scope C fp pins s H) (.Name d p) (tVar 1):=λp=>zbo rfl v1 m1 m2
   refine⟨zfk c'.nd rfl (.inl (c'.loc z1 g9)) (.inr (c'.loc z1 g9)),zl3 (zic (znq (X:=blockCx X [z1,d] scope C fp pins s H) c'.top.un .Eq) (zt0 (by have:=c'.top.un;lia) (e1 p1) (e0 p2) λ_ _=>rfl) zra rfl),e0 pe⟩
  have hcell:∀p∈scope.names,p.2≠.cell:=λp hp=>by
   have:=qo.mp g12 p hp;simpa using this
  have hfr:∀x,(x,qe)∈scope.names->X.env.kindOf x=ya .cell\/X.env.kindOf x=ya .free:=λx hx=>by
   have:=zdu.mp hx;rw[g10]at this;rw[qd.mp this];exact c.cap d g8
  have hcap:∀(k:Nat) (x:Str),[z1,d][1+k]? = ya x->(x,qe)∈scope.names/\∃j',[j][k]? = ya j'/\X.N[j']? = ya x:=λk x hk=>by
   cases k with
   | zero =>
    cases hk;exact⟨fd,j,rfl,by rw[c.hN];exact zai h5⟩
   | succ k=>rw[show 1+(k+1)=k+2 by lia]at hk;simp at hk
  have hi:PI X (.Name z1 pt) (.Name d pd) (wiK j):=zty (zbo (by rw[c.hN];exact zai h5) (c.vis d g7) m1 m2);cases hsw:(X.env.blockKind == .function&&X.env.kindOf y==ya .local&&py.line==vpos.line&&!(scope.names.any λ(n,k)=>n==y&&(k == .local||k == .cell)))with
  | false =>
   have hs:ybx (.ListComp (.Name z1 pe) [⟨.Name z1 pt,.Name d pd,[.Compare (.Subscript (.Name d p1) (.Name z1 p2) p3) [.Eq] [.Constant (.int c0) kc p4] p5],0⟩] scope vpos) (ya (.Name y py)) pos.line X.env=pure yi:=by rw[← hsw];rfl
   exact PS.imp (zhx (PE.imp (PE.cold (zkj (N':=[z1,d]) (n:=1) (keep:=[j]) c.calm g11 hcell lk hfr rfl hcap hi hb)) λσ H Q h=>zgs (cl:=cl) h) pg hs rfl rfl) λE σ H h=>zov h
  | true =>
   have hs:ybx (.ListComp (.Name z1 pe) [⟨.Name z1 pt,.Name d pd,[.Compare (.Subscript (.Name d p1) (.Name z1 p2) p3) [.Eq] [.Constant (.int c0) kc p4] p5],0⟩] scope vpos) (ya (.Name y py)) pos.line X.env=pure yl:=by rw[← hsw];rfl
   exact PS.imp (PS.cold (zjn (N':=[z1,d]) (n:=1) (keep:=[j]) c.calm g11 hcell lk hfr rfl hcap hi hb (λ_=>rfl) pg hs)) λE σ H h=>zgs (cl:=cl) (zov h)
structure SndS (cf:Cfg) (cl:Cl) (W n:Nat):Prop where
 s:∀B sc N X st s' F₀ H₀,Ctx cf cl sc N X->(∀x,X.fn x=yl)->X.env.scope=sc->cS cf n sc N st=ya s'->PS X st (uS B X.K cl W F₀ H₀ s')
 ss:∀B sc N X st s' F₀ H₀,Ctx cf cl sc N X->(∀x,X.fn x=yl)->X.env.scope=sc->cSs cf n sc N st=ya s'->PSs X st (uSs B X.K cl W F₀ H₀ s')
theorem zkx{e:Expr}(h:isComp e=yi)(t:Option Expr)(l:Nat)(env:Env):ybx e t l env=pure yi:=by
 cases e <;> first | rfl | cases h
theorem zj1{cf:Cfg}{cl:Cl}{sc:Scope}{N:List Str}{X:Cx}(c:Ctx cf cl sc N X)(hsc:X.env.scope=sc){x:Str}(h:(seen sc x&&!(sc.names.lookup x==ya .free))=yl):Loc X.env.scope x:=by
 rw[yr,xt]at h;obtain⟨h1,h2⟩:=h;unfold PY.seen at h1;rw[hsc];cases e:sc.names.lookup x with
 | none=>rw[e]at h1;cases h1
 | some k =>
  rw[e]at h1 h2;cases k <;> first | (cases h1;done) | (cases h2;done) | (exact .inl e) | (exact .inr e)
theorem zvg{B:Bd}{K:Frag}{cl:Cl}{W:Nat}{F₀:Fz}{H₀:Hp}{is:List Nat}{s:S}{E:Ends}{σ:St}{H:Hp}(h:uS B K cl W F₀ H₀ (.frz is s) E σ H):uS B K cl W F₀ H₀ s E σ H:=by
 obtain⟨ρ,o,F,he,env,oe⟩:=h;rw[PY.zu]at he;obtain⟨F',e',k⟩:=env.froze (is:=is);exact⟨_,o,F',he,e',oe.mono k⟩
theorem zh8{B:Bd}{K:Frag}{cl:Cl}{W:Nat}{F₀:Fz}{H₀:Hp}{o:Option (List Nat)}{s:S}{E:Ends}{σ:St}{H:Hp}(h:uS B K cl W F₀ H₀ (frzO o s) E σ H):uS B K cl W F₀ H₀ s E σ H:=by
 cases o with
 | some is=>exact zvg h
 | none=>exact h
theorem zjy{e:Expr}{x m:Str}{as:List Expr}{g:Bool}(h:methOf e=ya (x,m,as,g)):∃xp apos cpos,e=.Call (.Attribute (.Name x xp) m apos) as [] cpos/\g=(apos.endLine==cpos.line):=by
 cases e <;> first | (cases h;done) | skip
 rename_i f as' ks cpos;cases f <;> first | (cases h;done) | skip
 rename_i o m' apos;cases ks with
 | cons _ _=>cases h
 | nil =>
  obtain⟨y,h1,h2⟩:=zb (show(nameOf o).map (λx=>(x,m',as',apos.endLine==cpos.line))=ya (x,m,as,g)from h);cases h2;obtain⟨xp,rfl⟩:=zao h1;exact⟨_,_,_,rfl,rfl⟩
theorem zgy{v:Expr}{x:Str}{o:Option Expr}(h:popOf v=ya (x,o)):∃xp apos cpos,v=.Call (.Attribute (.Name x xp) "pop" apos) o.toList [] cpos/\(apos.endLine==cpos.line)=yl:=by
 refine zKK λγ κ=>?_;obtain⟨⟨y,m,as,g⟩,h1,hA⟩:=za (show(methOf v).bind _=ya (x,o)from h);obtain⟨xp,ap,cp,e,e2⟩:=zjy h1;obtain⟨g1,hB⟩:=zf hA;rw[yr]at g1;rw[beq_iff_eq.mp g1.1]at e;rw[e2]at g1;refine κ ?_;cases as with
 | nil=>cases hB;exact⟨xp,ap,cp,e,g1.2⟩
 | cons k r=>cases r with
  | nil=>cases hB;exact⟨xp,ap,cp,e,g1.2⟩
  | cons _ _=>cases hB
theorem zsd{v:Expr}{x:Str}{k:Expr}(h:popOf v=ya (x,ya k)):∃xp apos cpos,v=.Call (.Attribute (.Name x xp) "pop" apos) [k] [] cpos/\(apos.endLine==cpos.line)=yl:=zgy h
theorem zqk{v:Expr}{x:Str}(h:popOf v=ya (x,yk)):∃xp apos cpos,v=.Call (.Attribute (.Name x xp) "pop" apos) [] [] cpos/\(apos.endLine==cpos.line)=yl:=zgy h
theorem zpe{v:Expr}{o:Option E}{e:E}(h:xOk v o=ya e):o=ya e:=by
 cases v with
 | BoolOp _ _ _=>cases o with
  | none=>exact h
  | some x=>cases x <;> first | (cases h;done) | exact h
 | _=>exact h
theorem zu4{B:Bd}{cf:Cfg}{cl:Cl}{W n:Nat}{sc:Scope}{N:List Str}{X:Cx}{F₀:Fz}{H₀:Hp}(c:Ctx cf cl sc N X)(hfn:∀x,X.fn x=yl)(hsc:X.env.scope=sc){y:Str}{py vpos pos:Pos}{elt:Expr}{gens:List Comprehension}{scope:Scope}{i:Nat}{e':E}
  (pg:PG X (.Name y py) (uG X.K (.one i))) (h:cE cf n sc N (.ListComp elt gens scope vpos)=ya e'):PS X (.Assign [.Name y py] (.ListComp elt gens scope vpos) pos) (uS B X.K cl W F₀ H₀ (.asg (.one i) e')):=by
 cases hb:(X.env.blockKind == .function&&X.env.kindOf y==ya .local&&py.line==vpos.line&&!(scope.names.any λ(n,k)=>n==y&&(k == .local||k == .cell)))with
 | false =>
  have hs:ybx (.ListComp elt gens scope vpos) (ya (.Name y py)) pos.line X.env=pure yi:=by rw[← hb];rfl
  exact PS.imp (zhx ((zfq cf cl n).e _ _ _ _ _ c h).1 pg hs rfl rfl) λE σ H h=>zov h
 | true =>
  have hs:ybx (.ListComp elt gens scope vpos) (ya (.Name y py)) pos.line X.env=pure yl:=by rw[← hb];rfl
  cases n with
  | zero=>cases h
  | succ n =>
   have h:(oneGen gens).bind _=ya _:=h;refine zKK λγ κ=>?_;obtain⟨⟨tg,it,ifs⟩,h0,hL⟩:=za h;clear h;have e0:=zis h0;subst e0;have h:=hL;clear hL;obtain⟨⟨one,T⟩,h1,hA⟩:=za h;clear h;obtain⟨keep,h2,hB⟩:=za hA;clear hA;obtain⟨it',h3,hC⟩:=za hB;clear hB;obtain⟨g,hD⟩:=zf hC;clear hC;simp only[yr,decide_eq_true_eq]at g;obtain⟨⟨⟨⟨⟨⟨g1,g2⟩,g3⟩,g4⟩,g5⟩,g6⟩,g7⟩:=g;obtain⟨t,h4,hE⟩:=za hD;clear hD;obtain⟨co,h5,hF⟩:=za hE;clear hE;obtain⟨e,h6,rfl⟩:=zb hF;have S:=zfq cf cl n;obtain⟨pi,fs⟩:=S.it sc N X tg it it' c h3 g1;obtain⟨kl,ki⟩:=zau h2;obtain⟨b1,b2,b3,b4,b5,b6⟩:=zff S c h1 h2 g1 g2 g3 g5 g6 g7 h4 h5 h6;refine κ ?_;exact PS.imp (zjn (N':=T++frees scope) (n:=T.length) (keep:=keep) (wi:=uI X.K cl it') (g:=uG X.K t) (tc:=uC X.K cl co) (te:=uE X.K cl e) c.calm g4 b1 b2 b3 b4 b5 pi b6 fs pg hs) λE σ H h=>zg9 (zkl h4) (zov h)
theorem zsq{cf:Cfg}{n:Nat}{sc:Scope}{N:List Str}{x:Str}{p:Pos}{i:Nat}(h:cE cf n sc N (.Name x p)=ya (.var i)):nice x=yl/\PY.seen sc x=yl/\idx N x=ya i:=by
 cases n with
 | zero=>cases h
 | succ n =>
  have h:guard' (nice x) (if PY.seen sc x then(idx N x).map .var else guard' (gl sc x) ((cf.cons.lookup x).map (.glob x)))=ya (E.var i):=h;obtain⟨g,h⟩:=zf h;split at h
  ·rename_i g2
   obtain⟨j,h1,h2⟩:=zb h;cases h2;exact⟨g,g2,h1⟩
  ·obtain⟨_,h⟩:=zf h
   obtain⟨_,_,h2⟩:=zb h;cases h2
def skP(st:Stmt):SK->Prop
 | .asg tg v=>∃p,st=.Assign [tg] v p
 | .ret e=>∃p,st=.Return (ya e) p
 | .cond c a b=>∃p,st=.If c a b p
 | .brk=>∃p,st=.Break p
 | .cnt=>∃p,st=.Continue p
 | .skip=>∃p,st=.Pass p
 | .loop tg it b=>∃p,st=.For tg it b [] p
 | .whl c b=>∃p,st=.While c b [] p
 | .exp e=>∃p,st=.Expr e p
 | .tri b hs=>∃p,st=.Try b hs [] [] p
 | .rse o=>∃p,st=.Raise o yk p
 | .other=>True
theorem zwh(st:Stmt):skP st (sk st):=by
 cases st with
 | Assign ts v p=>cases ts with
  | nil=>trivial
  | cons t ts=>cases ts with
   | nil=>exact⟨_,rfl⟩
   | cons _ _=>trivial
 | Return o p=>cases o with
  | none=>trivial
  | some _=>exact⟨_,rfl⟩
 | If _ _ _ _=>exact⟨_,rfl⟩
 | Break _=>exact⟨_,rfl⟩
 | Continue _=>exact⟨_,rfl⟩
 | Pass _=>exact⟨_,rfl⟩
 | For _ _ _ e _=>cases e with
  | nil=>exact⟨_,rfl⟩
  | cons _ _=>trivial
 | While _ _ e _=>cases e with
  | nil=>exact⟨_,rfl⟩
  | cons _ _=>trivial
 | Expr _ _=>exact⟨_,rfl⟩
 | Try _ _ e f _=>cases e with
  | nil=>cases f with
   | nil=>exact⟨_,rfl⟩
   | cons _ _=>trivial
  | cons _ _=>trivial
 | Raise _ c _=>cases c with
  | none=>exact⟨_,rfl⟩
  | some _=>trivial
 | _=>trivial
theorem zb7{st:Stmt}{k:SK}(h:sk st=k):skP st k:=h▸zwh st
theorem zxa{cf:Cfg}{cl:Cl}{W n:Nat}(S':SndS cf cl W n)(B:Bd)(sc:Scope)(N:List Str)(X:Cx)(st:Stmt)(s':S)(F₀:Fz)(H₀:Hp)(c:Ctx cf cl sc N X)(hfn:∀x,X.fn x=yl)(hsc:X.env.scope=sc)(h:cS cf (n+1) sc N st=ya s'):PS X st (uS B X.K cl W F₀ H₀ s'):=by
 have Se:=zfq cf cl n;have hp:PassesOwn (model X.prog X.w) X.A X.env X.xe:=by rw[c.xe];exact PassesOwn.never
 have nd:X.N.Nodup:=by rw[c.hN];exact c.nd
 unfold cS at h;split at h
 ·rename_i tg v hk
  obtain⟨pos,rfl⟩:=zb7 hk;clear hk;split at h
  ·rename_i x k hpop
   obtain⟨g,hA⟩:=zf h;clear h;rw[yr]at g;obtain⟨⟨one,T⟩,h1,hB⟩:=za hA;clear hA;obtain⟨g2,hC⟩:=zf hB;clear hB;obtain⟨is,h2,hD⟩:=za hC;clear hC;obtain⟨t,h3,hE⟩:=za hD;clear hD;obtain⟨i,h4,hF⟩:=za hE;clear hE;obtain⟨n1,n2,n3⟩:=zaw g.1;obtain⟨il,ik⟩:=zau h2;obtain⟨pg,_⟩:=zq5 nd c.calm h1 il (by rw[c.hN];exact ik) h3 λx hx=>⟨zj1 c hsc (qo.mp g2 x hx),.inl (hfn x)⟩
   cases k with
   | none =>
    cases hF;obtain⟨xp,apos,cpos,rfl,hl⟩:=zqk hpop;refine PS.imp (zhx (zvi vf yd2 yd3 zwm (zbo (by rw[c.hN];exact zai h4) (c.vis _ g.2) n1 n2) rfl hl) pg rfl ?_ ?_) λE σ H h=>zvf h
    ·cases tg <;> first | (cases h1;done) | rfl
    ·cases tg <;> first | (cases h1;done) | rfl
   | some k =>
   obtain⟨k',h5,rfl⟩:=zb hF;obtain⟨xp,apos,cpos,rfl,hl⟩:=zsd hpop;have ns:=zw h5;refine PS.imp (zhx (zpn vf yd2 yd3 zqm (zbo (by rw[c.hN];exact zai h4) (c.vis _ g.2) n1 n2) (zq (Se.e _ _ _ _ _ c h5).1 zae (hs:=zd ns)) rfl (by rw[zd ns];rfl) hl (zd ns) rfl) pg rfl ?_ ?_) λE σ H h=>zxs h
   ·cases tg <;> first | (cases h1;done) | rfl
   ·cases tg <;> first | (cases h1;done) | rfl
  split at h
  ·rename_i x k hput
   obtain⟨g,hA⟩:=zf h;clear h;simp only[yr,xt]at g;obtain⟨⟨g1,g2⟩,g3⟩:=g;obtain⟨i,h1,hB⟩:=za hA;clear hA;obtain⟨k',h2,hC⟩:=za hB;clear hB;obtain⟨v',h3,rfl⟩:=zb hC;obtain⟨n1,n2,n3⟩:=zaw g1;obtain⟨xp,tp,rfl⟩:=zm0 hput;exact PS.imp (zsw (by have:=c.top.un;lia) (zbo (by rw[c.hN];exact zai h1) (c.vis _ g2) n1 n2) (Se.e _ _ _ _ _ c h2).1 (Se.e _ _ _ _ _ c h3).1 (zkx g3 _ _ _)) λE σ H h=>zvq h
  split at h
  ·rename_i hlc
   split at h
   ·
    rename_i y py _;obtain⟨g,hA⟩:=zf h;clear h;obtain⟨i,h1,hB⟩:=za hA;clear hA;have hi:X.N[i]? = ya y:=by rw[c.hN];exact zai h1
    have pg:PG X (.Name y py) (uG X.K (.one i)):=zfk nd hi (zj1 c hsc g) (.inl (hfn y));split at hB
    ·rename_i j0 c0 hds
     cases hB;exact zpy c pg hds
    obtain⟨e',h2,rfl⟩:=zb hB;cases v <;> first | (cases hlc;done) | skip
    rename_i elt gens scope vpos;exact zu4 c hfn hsc pg h2
   ·cases h
  ·obtain⟨g,hA⟩:=zf h
   clear h;rw[xt]at g;obtain⟨⟨one,T⟩,h1,hB⟩:=za hA;clear hA;obtain⟨g2,hC⟩:=zf hB;clear hB;rw[yr]at g2;obtain⟨is,h2,hD⟩:=za hC;clear hC;obtain⟨t,h3,hE⟩:=za hD;clear hD;obtain⟨e',h4,rfl⟩:=zb hE;have h4:=zpe h4;obtain⟨il,ik⟩:=zau h2;obtain⟨pg,_⟩:=zq5 nd c.calm h1 il (by rw[c.hN];exact ik) h3 λx hx=>⟨zj1 c hsc (qo.mp g2.1 x hx),.inl (hfn x)⟩
   refine PS.imp (zhx (Se.e _ _ _ _ _ c h4).1 pg (zkx g _ _ _) ?_ ?_) λE σ H h=>zov
    (zh8 h)
   ·cases tg with
    | Tuple es k p =>
     obtain⟨T',_,e0⟩:=zb (show(PY.namesOf es).map (λl=>(yi,l))=ya (one,T)from h1);cases e0;have g3:=g2.2;cases v <;> first | rfl | (cases g3;done)
    | Name x p=>rfl
    | _=>cases h1
   ·cases tg <;> first | (cases h1;done) | rfl
 ·rename_i e0 hk
  obtain⟨p0,rfl⟩:=zb7 hk;clear hk;obtain⟨e',h1,h⟩:=za h;obtain⟨gr,h⟩:=zf h;have hz:=qh h;clear h;subst hz;by_cases hv:∃i,e'=.var i
  ·obtain⟨i,rfl⟩:=hv
   cases e0 <;> first | (cases gr;done) | skip
   obtain⟨g1,g2,h2⟩:=zsq h1;obtain⟨n1,n2,n3⟩:=zaw g1;exact PS.imp (zrp (zbo (by rw[c.hN];exact zai h2) (c.vis _ g2) n1 n2)) λE σ H h=>zwg h
  ·exact PS.imp (zrp (Se.e _ _ _ _ _ c h1).1) λE σ H h=>zwz (λρ=>by cases e' <;> first | rfl | exact absurd ⟨_,rfl⟩ hv)
    (zh8 h)
 ·rename_i hk
  obtain⟨p0,rfl⟩:=zb7 hk;clear hk;obtain⟨c',h1,h⟩:=za h;obtain⟨a',h2,h⟩:=za h;obtain⟨b',h3,rfl⟩:=zb h;exact PS.imp (zx5 (Se.e _ _ _ _ _ c h1).2 (S'.ss B _ _ _ _ _ F₀ H₀ c hfn hsc h2) (S'.ss B _ _ _ _ _ F₀ H₀ c hfn hsc h3)) λE σ H h=>zyb h
 ·rename_i hk
  obtain⟨p0,rfl⟩:=zb7 hk;clear hk;cases h;refine PS.imp zqu λE σ H ζ=>?_;obtain⟨ρ,o,F,he,env,oe⟩:=ζ
  cases he;exact oe σ F H env Keep.refl
 ·rename_i hk
  obtain⟨p0,rfl⟩:=zb7 hk;clear hk;cases h;refine PS.imp zid λE σ H ζ=>?_;obtain⟨ρ,o,F,he,env,oe⟩:=ζ
  cases he;exact oe σ F H env Keep.refl
 ·rename_i hk
  obtain⟨p0,rfl⟩:=zb7 hk;clear hk;cases h;refine PS.imp zsh λE σ H ζ=>?_;obtain⟨ρ,o,F,he,env,oe⟩:=ζ
  cases he;exact oe σ F H env Keep.refl
 ·rename_i hk
  obtain⟨p0,rfl⟩:=zb7 hk;clear hk;obtain⟨⟨one,T⟩,h1,h⟩:=za h;obtain⟨g2,h⟩:=zf h;obtain⟨is,h2,h⟩:=za h;obtain⟨t,h3,h⟩:=za h;obtain⟨i,h4,h⟩:=za h;obtain⟨g3,h⟩:=zf h;obtain⟨b',h5,rfl⟩:=zb h;obtain⟨il,ik⟩:=zau h2;obtain⟨pg,_⟩:=zq5 nd c.calm h1 il (by rw[c.hN];exact ik) h3 λx hx=>⟨zj1 c hsc (qo.mp g2 x hx),.inl (hfn x)⟩
  obtain⟨pi,fs⟩:=Se.it _ _ _ _ _ _ c h4 g3;exact PS.imp (zv9 hp c.calm pi pg (S'.ss B _ _ _ _ _ F₀ H₀ c hfn hsc h5) fs) λE σ H h=>zxo (zh8 h)
 ·rename_i hk
  obtain⟨p0,rfl⟩:=zb7 hk;clear hk;obtain⟨c',h1,h⟩:=za h;obtain⟨b',h2,rfl⟩:=zb h;exact PS.imp (zqf hp (Se.e _ _ _ _ _ c h1).2 (S'.ss B _ _ _ _ _ F₀ H₀ c hfn hsc h2)) λE σ H h=>zt4 h
 ·rename_i e0 hk
  obtain⟨p2,rfl⟩:=zb7 hk;clear hk;split at h
  ·rename_i x m as g0 hm
   obtain⟨p1,apos,cpos,rfl,rfl⟩:=zjy hm;clear hm;split at h
   ·rename_i e
    split at h
    ·rename_i hm
     have e0:m=("extend" : Str):=beq_iff_eq.mp hm;subst e0;obtain⟨g,h⟩:=zf h;simp only[yr]at g;obtain⟨⟨g1,g2⟩,g4⟩:=g;obtain⟨i,h1,h⟩:=za h;obtain⟨e',h2,rfl⟩:=zb h;obtain⟨n1,n2,n3⟩:=zaw g1;have ns:=zw h2;exact PS.imp (zi1 (zpn vf PySem.F.slot_list_extend PySem.F.type_list_extend zon (zbo (by rw[c.hN];exact zai h1) (c.vis _ g2) n1 n2) (zq (Se.e _ _ _ _ _ c h2).1 zae (hs:=zd ns)) rfl (by rw[zd ns];rfl) g4 (zd ns) rfl) rfl) λE σ H h=>zwy h
    obtain⟨g,h⟩:=zf h;simp only[yr]at g;obtain⟨⟨⟨g1,g2⟩,g3⟩,g4⟩:=g;obtain⟨i,h1,h⟩:=za h;obtain⟨e',h2,rfl⟩:=zb h;obtain⟨n1,n2,n3⟩:=zaw g1;have e0:m=("append" : Str):=beq_iff_eq.mp g3;subst e0;have ns:=zw h2;refine PS.imp (zi1 (zpn vf PySem.F.slot_list_append PySem.F.type_list_append zh1 (zbo (by rw[c.hN];exact zai h1) (c.vis _ g2) n1 n2) (zq (Se.e _ _ _ _ _ c h2).1 zae (hs:=zd ns)) rfl (by rw[zd ns];rfl) g4 (zd ns) rfl) rfl) λE σ H h=>zxf h
   ·rename_i k e
    obtain⟨g,hA⟩:=zf h;clear h;simp only[yr]at g;obtain⟨⟨⟨g1,g2⟩,g3⟩,g4⟩:=g;obtain⟨i,h1,hB⟩:=za hA;clear hA;obtain⟨k',h2,hC⟩:=za hB;clear hB;obtain⟨e',h3,rfl⟩:=zb hC;obtain⟨n1,n2,n3⟩:=zaw g1;have e0:m=("insert" : Str):=beq_iff_eq.mp g3;subst e0;have nk:=zw h2;have ns:=zw h3;exact PS.imp (zi1 (zpn vf yc5 PySem.F.type_list_insert znu (zbo (by rw[c.hN];exact zai h1) (c.vis _ g2) n1 n2) (zq (Se.e _ _ _ _ _ c h2).1 (zq (Se.e _ _ _ _ _ c h3).1 zae (hs:=zd ns)) (hs:=zd nk)) rfl (by rw[zd nk,zd ns];rfl) g4 (zd nk) (by rw[zd ns];rfl)) rfl) λE σ H h=>zxp h
   ·cases h
  ·cases h
 ·cases h
 ·cases h
  rintro pins s σ H E I ⟨ρ,o,F,he,_,_⟩;cases he
 ·cases h
theorem zrc(cf:Cfg)(cl:Cl)(W:Nat):∀n,SndS cf cl W n
 | 0=>⟨λ_ _ _ _ _ _ _ _ _ _ _ h=>(by cases h),λ_ _ _ _ _ _ _ _ _ _ _ h=>(by cases h)⟩
 | n+1=>by
  have S':=zrc cf cl W n;refine⟨zxa S',λB sc N X st s' F₀ H₀ c hfn hsc h=>?_⟩;unfold cSs at h;split at h
  ·cases h
   refine PSs.imp zr2 λE σ H ζ=>?_;obtain⟨ρ,o,F,he,env,oe⟩:=ζ
   cases he;exact oe σ F H env Keep.refl
  ·obtain⟨s1,h1,h⟩:=za h
   obtain⟨r1,h2,rfl⟩:=zb h;exact PSs.imp (zq0 (S'.s B _ _ _ _ _ F₀ H₀ c hfn hsc h1) (S'.ss B _ _ _ _ _ F₀ H₀ c hfn hsc h2)) λE σ H h=>zxq h
structure Txt (dd:List Nat) (P:Program) (K:Frag) (mg:Str->Option Value):Prop where
 fn:∀(f:Nat) (st:Stmt),(topDefs P)[f]? = ya st->dd.contains f=yi->∃x fa fd,defName st=ya x/\Fun K x x st fa fd/\mg x=ya (.ref fa)/\Binds K fd (argNames (defArgs st)) []
 bl:∀x,(cfgOf P).bls.contains x=yl->mg x=yk
 con:∀x c,(cfgOf P).cons.lookup x=ya c->∃u,mg x=ya u/\RelV (cnV c) u
 tts:∀x l,(cfgOf P).tts.lookup x=ya l->∃a,mg x=ya (.ref a)/\TabK K a l
theorem zks:∀{l:List Stmt} {f:Nat} {x:Str},(∀s∈l,(defName s).isSome=yl)->(l.filterMap defName)[f]? = ya x->∃st,l[f]? = ya st/\defName st=ya x
 | [],f,x,_,h=>by simp at h
 | s::l,f,x,hs,h=>by
  have h0:=hs s yg;cases e:defName s with
  | none=>rw[e]at h0;cases h0
  | some y =>
   rw[um,e]at h;cases f with
   | zero=>simp at h;subst h;exact⟨s,rfl,e⟩
   | succ f =>
    obtain⟨st,h1,h2⟩:=zks (l:=l) (λs' h'=>hs s' (yf _ h')) (by simpa using h);exact⟨st,by simpa using h1,h2⟩
theorem zhs{cl:Cl}{W:Nat}{ds:List D}:runF cl W dead ds=yk:=by
 unfold runF;split
 ·rfl
 ·rfl
theorem told{dd:List Nat}{P:qw}{fs:List Fn}{f:Nat}{fn:Fn}{st:Stmt}{cl:Cl}{W:Nat}{ds:List D}{d:D}(hc:compileX dd P=ya fs)(h1:fs[f]? = ya fn)(h2:(topDefs P)[f]? = ya st)(h:runF cl W fn ds=ya d):(cFn (cfgOf P) st=ya fn)/\dd.contains f=yi :=by
 have e:fs=killAt dd 0 ((topDefs P).map λs=>(cFn (cfgOf P) s).getD dead):=(qh hc).symm;rw[e]at h1;rcases zkq dd h1 with h0 | ⟨h1,hd⟩
 ·rw[h0,zhs]at h
  cases h
 rw[vm]at hd;refine⟨?_,hd⟩;rw[yy,h2]at h1;have h1:(cFn (cfgOf P) st).getD dead=fn:=qh h1;cases q:cFn (cfgOf P) st with
 | some g=>rw[q]at h1;exact congrArg ya h1
 | none =>
  rw[q]at h1;have h1:dead=fn:=h1;rw[← h1,zhs]at h;cases h
section
variable {P:qw} {w:x8} {K:Frag} {mg:Str→Option yh} {base:Heap} {cl:Cl} {W:Nat}
theorem zx3{sc:Scope}{x:Str}(h:gl sc x=yl):sc.names.lookup x=ya .globalImplicit:=by
 unfold gl at h;split at h
 ·assumption
 ·cases h
theorem zhj{ds:List D}{m i:Nat}{sl:Sl}(hm:Sl.mineB sl=yl)(h:(ds.map Sl.val++ja m Sl.no)[i]? = ya sl):False:=by
 by_cases hi:i<ds.length
 ·rw[xc (by simpa using hi),yy]at h
  cases e:ds[i]? with
  | none=>rw[e]at h;cases h
  | some z=>rw[e]at h;cases h;cases hm
 ·rw[qz (by simpa using hi),jn]at h
  split at h <;> cases h <;> cases hm
theorem zii{ds:List D}{m i:Nat}{l:D}(h:mine (ds.map Sl.val++ja m Sl.no) i=ya l):False:=by
 obtain⟨sl,h1,_,h2⟩:=zit h;exact zhj h2 h1
theorem znb{H:Hp}{σ:St}{ds:List D}{m i:Nat}{b:yq}(h:Owns H σ (ds.map Sl.val++ja m Sl.no) i b):False:=by
 rcases h with⟨d,h1,_⟩ | ⟨t,ks,ls,a,us,h1,_⟩
 ·exact zii h1
 ·exact zhj (sl:=.dl t ks ls) rfl h1
theorem zps{F:Fz}{H:Hp}{ds:List D}{vs:List V}(r:Reps K F H ds vs)(dom:∀a,F a->H a≠yk)(tb:Tabs K H)(m:Nat):EnvR K F H (vs.map ya++ja m yk) (ds.map Sl.val++ja m Sl.no) where
 val:=λi d h=>by
  by_cases hi:i<ds.length
  ·rw[xc (by simpa using hi),yy]at h
   cases e:ds[i]? with
   | none=>rw[e]at h;cases h
   | some z =>
    rw[e]at h;cases h;obtain⟨v,h1,h2⟩:=r.get e;refine⟨v,?_,h2⟩;rw[xc (by rw[yd,← r.length];exact hi),yy,h1];rfl
  ·rw[qz (by simpa using hi),jn]at h
   split at h <;> cases h
 own:=λi l h=>(zii h).elim
 dl:=λi t ks ls h=>(zhj (sl:=.dl t ks ls) rfl h).elim
 len:=by rw[yu,yu,yd,yd,xo,xo,r.length]
 dom:=dom
 tab:=tb
theorem GrowM.none{F F':Fz}{H H':Hp}(g:GrowM NoM F H F' H'):Grow F H F' H':=⟨g.sub,λa o e n=>g.same a o id e n,g.tab,g.new⟩
theorem zlf{fn:Fn}{ds:List D}(h:ioB fn.body=yi):runF cl W fn ds=if ds.length=fn.ps/\fn.ps<=fn.n then(exs cl W fn.body (ds.map .val++ja (fn.n - fn.ps) .no)).bind (λo=>match o with | .rt d=>ya d | .nx _=>ya .non | _=>yk)else yk:=by
 unfold runF;cases hb:fn.body with
 | nil=>rfl
 | cons s r =>
  rw[hb]at h;cases s <;> first | rfl | cases h
def ClOk(P:qw)(w:x8)(K:Frag)(mg:Str->Option yh)(base:Heap)(k:Nat)(cl:Cl):Prop :=
 (∀(f:Nat) y ds d,(cfgOf P).fns[f]? = ya y ->
  cl f ds=ya d->∃fa fd ps,FnOk P w K mg base CX0 k fa fd ps (spD K ds d)/\mg y=ya (.ref fa)/\yd6 K (.ref fa)=yl/\Binds K fd ps [])
def LamB(K:Frag)(mg:Str->Option yh)(base:Heap):Prop:=∀x∈lamNames,∃c Pt,yat K x=ya (c,Pt)/\PySem.W.CodeHd base c Pt/\base.BuiltinsAt mg Pt/\xi≠Pt
theorem zui{dd:List Nat}{k:Nat}{x:Str}{sc:Scope}{N:List Str}{fa:yq}{cdv:yh}{A:x5}{outer:List Env}{s:ym}{H:Hp}{E:XK}(T:Txt dd P K mg)(hcl:ClOk P w K mg base k cl)(g4:N.Nodup)(hR:Room (k+3) (A.deeper (envOfC x sc s.heap.objs.size fa cdv)))
  (hla:lamNames.contains x=yl->∃c Pt,cdv=.ref c/\yat K x=ya (c,Pt)/\PySem.W.CodeHd base c Pt/\base.BuiltinsAt mg Pt/\xi≠Pt) :
  Ctx (hereOf (cfgOf P) x) cl sc N (cxOf CX0 P w K mg base N x sc fa cdv A outer s H E).nox:=by
 refine⟨rfl,g4,rfl,rfl,λy hy=>?_,λy hy=>zx3 hy,λy hy=>?_,λy hy=>?_,⟨λf y ds d h1=>?_,
  T.bl,T.con,T.tts,hR.units⟩,λhh _=>?_⟩
 ·unfold PY.seen at hy
  show Vis sc y;unfold Vis;split at hy
  ·rename_i e;exact .inl e
  ·rename_i e;exact .inr (.inl e)
  ·rename_i e;exact .inr (.inr e)
  ·cases hy
 ·unfold capt at hy
  rw[ydw]at hy;exact hy.imp (λz=>beq_iff_eq.mp z) λz=>beq_iff_eq.mp z
 ·unfold isLocal at hy
  exact beq_iff_eq.mp hy
 ·intro h2
  refine zKK λγ κ=>?_;obtain⟨fa',fd',ps,h3,h4,h5,h6⟩:=hcl f y ds d h1 h2;refine κ ?_;exact⟨k,fa',fd',ps,h3,hR.mono (by lia),h4,h5,h6⟩
 ·obtain⟨c,Pt,e1,e2,e3,e4,e5⟩:=hla hh
  refine⟨c,Pt,e1,⟨x,by have hh:lamNames.contains x=yl:=hh;simpa using hh,e2⟩,e3,e4,e5,k,hR,λf y ds d h1=>?_⟩;intro h2;exact hcl f y ds d h1 h2
theorem okC{x qual:Str}{st:Stmt}{f:yq}{fd:yaj}{N ps:List Str}{k:Nat}{sp:Sp}(F:Fun K x qual st f fd)(S:FnScope N ps (defScope st))(len:∀vs H Q E,sp vs H Q E->vs.length=ps.length)
  (hbody:∀(cdv:yh),fd.code=cdv->∀(A:x5) (outer:List Env) (s:ym) (H:Hp) (vs:List V) (Q:VK) (E:XK),Room k (A.deeper (envOfC qual (defScope st) s.heap.objs.size f cdv))->sp vs H Q E ->
   ∃t,PSs (cxOf CX0 P w K mg base N qual (defScope st) f cdv A outer s H E).nox (defBody st) t/\t { nx:=λ_ H'=>Q .non H',rt:=Q} (L2.start N vs) H):FnOk P w K mg base CX0 (k+1) f fd ps sp:=by
 refine zKK λγ κ=>?_;obtain⟨oc,od,kV,doc,pm,an,cdv,ct,osl,rfl,lk,hcd⟩:=F.ex;refine κ ?_;exact zxn lk hcd S len λA outer s H vs Q E hr hsp=>let⟨t,h,q⟩:=hbody cdv rfl A outer s H vs Q E hr hsp;⟨t,h.nox,q⟩
theorem zqv{ps:List Str}{sc:Scope}(g:fnOk ps (frameNames ps sc) sc=yl):FnScope (frameNames ps sc) ps sc/\(frameNames ps sc).Nodup:=by
 unfold fnOk at g;simp only[yr,decide_eq_true_eq,xt,ydw]at g;obtain⟨⟨⟨⟨⟨⟨g1,g2⟩,g3⟩,g4⟩,g5⟩,g6⟩,g7⟩:=g
 exact⟨⟨g1,g2,g3,g4,g5,λy hy=>by
   have:=qo.mp g6 y hy;simpa using this,λy hy=>by
   have:=qo.mp g7 y hy;simpa using this⟩,g4⟩
theorem zmz{x:Str}{st:Stmt}{fa:yq}{fd:yaj}(Fu:Fun K x x st fa fd)(hm:mg x=ya (.ref fa))(KB:K.In base)(GB:base.Ns xi mg)(LB:LamB K mg base) :
  lamNames.contains x=yl->∃c Pt,fd.code=.ref c/\yat K x=ya (c,Pt)/\PySem.W.CodeHd base c Pt/\base.BuiltinsAt mg Pt/\xi≠Pt:=λhh=>by
 refine zKK λγ κ=>?_;obtain⟨c,Pt,e1,e2,e3,e4⟩:=LB x (by simpa using hh);obtain⟨oc,od,kV,doc,pm,an,cdv,ct,osl,e,lk,hcd⟩:=Fu.ex;refine κ ?_;exact⟨c,Pt,PySem.W.law_code KB GB e1 hm (KB _ _ lk) rfl,e1,e2,e3,e4⟩
theorem zvo{dd:List Nat}{k:Nat}{x:Str}{st:Stmt}{fa:yq}{fd:yaj}{fn:Fn}(T:Txt dd P K mg)(Fu:Fun K x x st fa fd)(hnm:defName st=ya x)(hm:mg x=ya (.ref fa))(KB:K.In base)(GB:base.Ns xi mg)(LB:LamB K mg base)(hc:cFn (cfgOf P) st=ya fn)
  (hcl:ClOk P w K mg base k cl)
  {ds:List D} {d:D} (hr:runF cl W fn ds=ya d):FnOk P w K mg base CX0 (k+4) fa fd (argNames (defArgs st)) (spD K ds d):=by
 cases st <;> first | (cases hc;done) | skip
 rename_i nm as body p1 p2 p3 sc p4 p5 p6;cases hnm;have hla:=zmz Fu hm KB GB LB;refine zKK λγ κ=>?_;obtain⟨g,hc⟩:=zf hc;obtain⟨b,hb,hc⟩:=za hc;obtain⟨gb,hc⟩:=zf hc;rw[xt]at gb;cases hc;rw[yr]at g;obtain⟨Sc,nd⟩:=zqv g.2;rw[zlf gb]at hr;refine κ ?_;split at hr
 ·rename_i hlen
  obtain⟨o,ho,hr⟩:=za hr;refine okC Fu (N:=frameNames (argNames as) sc) Sc (λvs H Q E h=>?_) λcdv hcdv A outer s H vs Q E hR h=>?_
  ·obtain⟨F,_,_,r,_⟩:=h
   rw[← r.length];exact hlen.1
  ·obtain⟨F,dom,tb,r,q⟩:=h
   refine⟨_,(zrc (hereOf (cfgOf P) x) cl W 60).ss ⟨NoM,0⟩ sc _ _ body b F H (zui T hcl nd hR λhh=>by rw[← hcdv];exact hla hh) (λ_=>rfl) rfl hb,?_⟩;have hv:vs.length=(argNames as).length:=by rw[← r.length];exact hlen.1
   refine⟨_,o,F,ho,⟨?_,GrowM.refl _ _ _,λi l a hi=>(zii hi).elim,λi b hi=>(znb hi).elim,λi ks ls b hi=>(zhj (sl:=.dl yi ks ls) rfl hi).elim,λi j b hi=>(znb hi).elim,λi ks ls hi=>(zhj (sl:=.dl yl ks ls) rfl hi).elim,λa z=>z.elim⟩,?_⟩
   ·unfold L2.start
    rw[hv];exact zps r dom tb _
   ·cases o with
    | rt d'=>cases hr;exactλv F' H' g' r'=>q v F' H' g'.none r'
    | nx ρ'=>cases hr;exactλσ' F' H' e' _=>q .non F' H' e'.grow.none znh
    | bk ρ'=>cases hr
    | ct ρ'=>cases hr
 ·cases hr
theorem zrv{dd:List Nat}(T:Txt dd P K mg)(KB:K.In base)(GB:base.Ns xi mg)(LB:LamB K mg base){fs:List Fn}(hc:compileX dd P=ya fs):∀k:Nat,ClOk P w K mg base (4*k) (run fs W k)
 | 0 =>
  λ_ _ _ _ _ h=>(by cases h)
 | k+1=>by
  intro f y ds d hy h;obtain⟨fn,h1,h⟩:=za h;obtain⟨st,h2,h3⟩:=zks (l:=topDefs P) (λs hs=>(qa.mp hs).2) hy;obtain⟨h5,hd⟩:=told hc h1 h2 h;obtain⟨x,fa,fd,h6,Fu,hm,hb⟩:=T.fn f st h2 hd;rw[h3]at h6;cases h6;exact⟨fa,fd,_,zvo T Fu h3 hm KB GB LB h5 (zrv T KB GB LB hc k) h,hm,Fu.kp,hb⟩
end
def scrD(ns:List Int):D:=.lst (ns.map .int)
def spLaw(K:Frag):Sp:=λvs H Q E=>∃ns:List Int,ns.length<=63/\spD K [scrD ns] (.bl yl) vs H Q E
theorem zef{K:Frag}{F:Fz}{H:Hp}:∀ns:List Int,Reps K F H (ns.map .int) (ns.map V.int)
 | []=>.nil
 | _::r=>.cons zv (zef r)
theorem zwt{K:Frag}{H:Hp}{a:yq}{ns:List Int}(hl:ns.length<=63)(tb:Tabs K H)(h:SqL K H a (ns.map V.int)):spLaw K [.ref a] H (λv _=>v=.bl yl) λ_ _ _=>False:=by
 have fin:∀(v:V) (F':Fz) (H':Hp),Rep K F' H' (.bl yl) v->v=.bl yl:=λv F' H' r=>by rw[Rep]at r;exact r
 rcases h with h | h
 ·refine⟨ns,hl,λb=>b=a,λb hb=>?_,tb,.cons ?_ .nil,λv F' H' _ r=>fin v F' H' r⟩
  ·rw[hb]
   rcases h with h | ⟨o,h⟩ <;> (rw[h];simp)
  ·unfold scrD
   rw[Rep];exact⟨a,_,rfl,.inl ⟨rfl,h⟩,zef ns⟩
 ·refine⟨ns,hl,λ_=>False,λb hb=>hb.elim,tb,.cons ?_ .nil,λv F' H' _ r=>fin v F' H' r⟩
  unfold scrD;rw[Rep];exact⟨a,_,rfl,.inr λH'=>.inr h,zef ns⟩
theorem zwn{dd:List Nat}{P:qw}{w:x8}{K:Frag}{mg:Str->Option yh}{fs:List Fn}{W k f:Nat}{x y:Str}{st:Stmt}{fa:yq}{fd:yaj}{base:Heap}(T:Txt dd P K mg)(KB:K.In base)(GB:base.Ns xi mg)(LB:LamB K mg base)(hnm:defName st=ya y)(hm:mg y=ya (.ref fa))(hc:compileX dd P=ya fs)(hst:(topDefs P)[f]? = ya st)(hp:argNames (defArgs st)=[x])
  (hrun:∀ns:List Int,ns.length<=63->run fs W (k+1) f [scrD ns]=ya (.bl yl)) (Fu:Fun K y y st fa fd):FnOk P w K mg base CX0 (4*k+4) fa fd [x] (spLaw K):=by
 have one:∀ns:List Int,ns.length<=63->FnOk P w K mg base CX0 (4*k+4) fa fd [x] (spD K [scrD ns] (.bl yl)):=λns hl=>by
  have h:=hrun ns hl;obtain⟨fn,h1,h⟩:=za (show(fs[f]?).bind (λfn=>runF (run fs W k) W fn [scrD ns])=ya (.bl yl)from h);obtain⟨h5,_⟩:=told hc h1 hst h;rw[← hp]
  exact zvo T Fu hnm hm KB GB LB h5
   (zrv T KB GB LB hc k) h
 exact⟨λvs H Q E ⟨ns,hl,q⟩=>(one ns hl).len vs H Q E q,λA outer s H args us vs Q E hr he hb' hv ⟨ns,hl,q⟩=>(one ns hl).run A outer s H args us vs Q E hr he hb' hv q⟩
def FnAt(K:Frag)(mg:Str->Option yh)(st:Stmt):Prop:=∃x fa fd,defName st=ya x/\Fun K x x st fa fd/\mg x=ya (.ref fa)/\Binds K fd (argNames (defArgs st)) []
def AllT(dd:List Nat)(K:Frag)(mg:Str->Option yh):Nat->List Stmt->Prop
 | _,[]=>True
 | k,s::r=>(if dd.contains k=yl then True else FnAt K mg s)/\AllT dd K mg (k+1) r
theorem AllT.get{dd:List Nat}{K:Frag}{mg:Str->Option yh}:∀{l:List Stmt} {k f:Nat} {st:Stmt},AllT dd K mg k l->l[f]? = ya st->dd.contains (k+f)=yi->FnAt K mg st
 | [],_,_,_,_,h,_=>by simp at h
 | s::r,k,0,st,a,h,hd=>by
  simp only[ve]at h;cases h;have a:=a.1;rw[if_neg (by rw[ydq]at hd;rw[hd];decide)]at a;exact a
 | s::r,k,f+1,st,a,h,hd=>AllT.get (k:=k+1) a.2 (by simpa using h) (by rw[show k+1+f=k+(f+1)by lia];exact hd)
def AllN(K:Frag):List Str->Prop
 | []=>True
 | x::r=>yfm K xi x=ya yk/\AllN K r
theorem AllN.get{K:Frag}:∀{l:List Str} {x:Str},AllN K l->l.contains x=yl->yfm K xi x=ya yk
 | [],_,_,h=>by simp at h
 | y::r,x,a,h=>by
  rw[yeg,ydw]at h;rcases h with h | h
  ·rw[beq_iff_eq.mp h];exact a.1
  ·exact AllN.get a.2 h
def AllC(K:Frag):List (Str×Cn)->Prop
 | []=>True
 | (x,c)::r=>(∃u,yfm K xi x=ya (ya u)/\RelV (cnV c) u)/\AllC K r
theorem AllC.get{K:Frag}:∀{l:List (Str×Cn)} {x:Str} {c:Cn},AllC K l->l.lookup x=ya c->∃u,yfm K xi x=ya (ya u)/\RelV (cnV c) u
 | [],_,_,_,h=>by simp at h
 | (y,c')::r,x,c,a,h=>by
  rw[vo]at h;split at h
  ·rename_i e
   cases h;rw[beq_iff_eq.mp e];exact a.1
  ·exact AllC.get a.2 h
theorem zvr{dd:List Nat}{P:qw}{K:Frag}{h:Heap}{mg:Str->Option yh}(X:K.In h)(G:h.Ns xi mg){ds:List Stmt}{cs:List (Str×Cn)}(h1:topDefs P=ds)(h2:topCons P.main.body=cs)(a:AllT dd K mg 0 ds)(b:AllN K bnames)(c:AllC K cs)(d:∀x l,(topTabs P.main.body).lookup x=ya l->∃a,yfm K xi x=ya (ya (.ref a))/\TabK K a l):Txt dd P K mg :=
  ⟨λf st e hd=>a.get (by rw[h1]at e;exact e) (by rw[vm];exact hd),λx e=>PySem.W.mg_none_of X G (b.get e),λx c' e=>by
    obtain ⟨u, p, q⟩ := c.get (by have : cs.lookup x = ya c' := by rw [← h2]; exact e
                                  exact this)
    exact⟨u,yc7 X G p,q⟩,λx l e=>let⟨a,p,q⟩:=d x l e;⟨a,yc7 X G p,q⟩⟩
theorem ztc{K:Frag}{h:Heap}{mg:Str->Option yh}{x:Str}{st:Stmt}{f:yq}{fd:yaj}{ps:List Str}(X:K.In h)(G:h.Ns xi mg)(a:yfm K xi x=ya (ya (.ref f)))(Fu:Fun K x x st f fd)(hn:defName st=ya x)(hps:argNames (defArgs st)=ps)
  (hb:∀(kV doc pm:yh) (an:Option yq) (cdv ct:yh) (us:List yh),us.length=ps.length->bindArgs (fnOf x x (defArgs st) (defBody st) (defScope st) .none kV doc pm an cdv ct) ⟨us,[]⟩=pure (ps.zip us)):FnAt K mg st :=
 ⟨x,f,fd,hn,Fu,yc7 X G a,by rw[hps];exact Fu.binds hb⟩
theorem walkT{l:PySem.W.OpenLaw}{q:qw}{loose:List Str}{XP:(Str->Option yh)->Heap->Prop}{YP:x8->Heap->Prop}{d:DefRec}{K:Params->Frag}{ts:List yq}{k:Nat}{x:Str}(hn:l.most=ya 63)(hdf:d.params.defaults=[])(hr:Room k callerA)
  (hY:∀(w:x8) (h:Heap),YP w h->(K w.params).In h/\∀P∈ts,h.get? P=ya (yfa #[]))
  (hT:∀(w:x8),∀P∈ts,(K w.params).lookup P=yk/\∃c,yey (K w.params) c P=yl)
  (hL:∀(w:x8),∀y∈lamNames,∃c P,yat (K w.params) y=ya (c,P)/\P∈ts/\yey (K w.params) c P=yl)
  (F:∀(w:x8) (mg:Str->Option yh) (fa:yq) (h:Heap),(K w.params).In h->h.Ns xi mg->mg d.name=ya (.ref fa) ->
   ∃fd:yaj,(∀(s:ym) (u:yh),BindsTo s fd ⟨[u],[]⟩ [(x,u)])/\∀base:Heap,(K w.params).In base->base.Ns xi mg->LamB (K w.params) mg base->FnOk l.prog w (K w.params) mg base CX0 k fa fd [x] (spLaw (K w.params))) :
  PySem.W.WalkO q loose XP YP l.row.toRowW d [] (λf vs=>PySem.call f vs):=by
 refine Att.attach_call hn hdf λw s₀ s₁ mg mb fa o pm cd doc a vs ns G Y ho hd hcd hmg hobj hints hlen hg=>?_
 obtain⟨KX,TX⟩:=hY w _ Y;obtain⟨fd,hbind,hF⟩:=F w mg fa _ KX G.T.g hmg;have hT:=hT w;have hL:=hL w;generalize K w.params=K at *;have rv:=zcj hints;have lenV:=hints.length;have hz:ns.length<=y8:=xh hlen (by decide)
 have hap:a∉ts:=λz=>by
  have:=TX a z;rw[hobj]at this;cases this
 -- the abstract heap: the script,unless it is the text's own,and the tables
 let H:Hp:=λb=>if b=a then(match K.lookup a with | some _=>yk | none=>ya (.frz { cls:=.type "list",data:=.seq vs.toArray} (.lst (ns.map V.int))))else if b∈ts then ya (.tbl #[])else yk
 have Hne:∀b u,H b=ya u->(b=a/\K.lookup a=yk/\u=.frz { cls:=.type "list",data:=.seq vs.toArray} (.lst (ns.map V.int)))\/(b∈ts/\u=.tbl #[]):=λb u e=>by
  by_cases hb:b=a
  ·have e:(match K.lookup a with | some _=>yk | none=>ya (HO.frz { cls:=.type "list",data:=.seq vs.toArray} (.lst (ns.map V.int))))=ya u:=by simpa only[H,hb,if_true]using e
   cases hk:K.lookup a with
   | some _=>rw[hk]at e;cases e
   | none=>rw[hk]at e;cases e;exact .inl ⟨hb,rfl,rfl⟩
  ·by_cases ht:b∈ts
   ·have e:ya (HO.tbl #[])=ya u:=by simpa only[H,if_neg hb,if_pos ht]using e
    cases e;exact .inr ⟨ht,rfl⟩
   ·have e:(yk:Option HO)=ya u:=by simpa only[H,if_neg hb,if_neg ht]using e
    cases e
 have Htb:∀P∈ts,H P=ya (.tbl #[]):=λP hP=>by
  have:P≠a:=λz=>hap (z▸hP)
  simp only[H,if_neg this,if_pos hP]
 have free:∀{b:yq} {ob:Obj},s₁.heap.get? b=ya ob->(∀vs n,ob.data≠.seq vs n)->(∀fs,ob.data≠.fields fs)->H b=yk:=λ{b ob} e h1 h2=>by
  cases z:H b with
  | none=>rfl
  | some u =>
   rcases Hne b u z with⟨rfl,_,_⟩ | ⟨ht,_⟩
   ·rw[hobj]at e;cases e;exact absurd rfl (h1 _ _)
   ·rw[TX b ht]at e;cases e;exact absurd rfl (h2 _)
 have base_of:∀{b:yq} {o:Obj},s₁.heap.get? b=ya o->H b=yk->(hidT s₁.heap H).get? b=ya o:=λe n=>zpr e n
 have nsK:∀{b:yq} {m:Str->Option yh},s₁.heap.Ns b m->(hidT s₁.heap H).Ns b m:=λ{b m} ⟨o,es,ep,e,hd,r⟩=>⟨o,es,ep,base_of e (free e (λ_ _ z=>by rw[hd]at z;cases z) λ_ z=>by rw[hd]at z;cases z),hd,r⟩
 have hKb:K.In (hidT s₁.heap H):=λb o e=>base_of (KX b o e) (by
  cases z:H b with
  | none=>rfl
  | some u =>
   rcases Hne b u z with⟨rfl,hk,_⟩ | ⟨ht,_⟩
   ·rw[hk]at e;cases e
   ·rw[(hT b ht).1]at e;cases e)
 have hM:Mod K mg (hidT s₁.heap H):=⟨hKb,nsK G.T.g,⟨mb,nsK G.T.b,G.T.builtins⟩,let⟨mc,h1,h2⟩:=G.T.nolimit;⟨mc,nsK h1,h2⟩⟩
 have gNe:∀P∈ts,xi≠P:=λP hP z=>by
  obtain⟨o,es,ep,e,hd,_⟩:=G.T.g;rw[z,TX P hP]at e;cases e;cases hd
 have hLB:LamB K mg (hidT s₁.heap H):=λy hy=>by
  refine zKK λγ κ=>?_;obtain⟨c,P,e1,e2,e3⟩:=hL y hy;refine κ ?_;refine⟨c,P,e1,yd8 hKb e3,?_,gNe P e2⟩;refine zKK λγ κ=>?_;obtain⟨bm,ob,b1,b2,b3,b4,b5,b6⟩:=G.T.bmain;refine κ ?_;refine⟨bm,ob,b1,b2,λz=>?_,λz=>?_,base_of b3 (free b3 (λ_ _ z=>by rw[b6]at z;cases z) λ_ z=>by rw[b6]at z;cases z),b4,b5,b6⟩
  ·obtain⟨o,es,ep,e,hd,_⟩:=G.T.g
   rw[z,e]at b3;cases b3;rw[hd]at b6;cases b6
  ·rw[z,TX P e2]at b3;cases b3;cases b4
 have hok:HOk l.prog w H s₁.heap:=λb u e=>by
  rcases Hne b u e with⟨rfl,_,rfl⟩ | ⟨ht,rfl⟩
  ·exact⟨hobj,by rw[yd];exact hz,vs,_,rv,hobj⟩
  ·exact TX b ht
 have tb:Tabs K H:=by
  refine⟨λP ps e=>?_,λy hy c P e=>?_⟩
  ·rcases Hne P _ e with⟨_,_,z⟩ | ⟨_,z⟩
   ·cases z
   ·cases z
    exact⟨x4,λpos cv h=>by cases h⟩
  ·obtain⟨c',P',e1,e2,_⟩:=hL y hy
   rw[e]at e1;cases e1;exact⟨_,Htb P e2⟩
 have hS:SqL K H a (ns.map V.int):=by
  cases hk:K.lookup a with
  | some ob =>
   have e:=KX a ob hk;rw[hobj]at e;cases e;exact .inr ⟨_,vs.toArray,_,hk,rfl,rfl,rfl,by rw[yt,lenV];exact hz,by simpa using rv⟩
  | none=>exact .inl (.inr ⟨{ cls:=.type "list",data:=.seq vs.toArray},by simp only[H,if_true,hk]⟩)
 have e0:Env0 l.prog w K mg (hidT s₁.heap H) callerA [] s₁ H:=⟨rfl,hM,λb o e=>zsr e,Nat.le_of_eq (znv _ _),trivial,λb hb=>absurd (show b∈([]:List yq)from hb) (by simp),hok,.of_eq hg⟩;refine ybn ((hF _ hKb (nsK G.T.g) hLB).run callerA [] s₁ H ⟨[.ref a],[]⟩ [.ref a] [.ref a] _ _ hr e0 (hbind s₁ (.ref a)) (.cons rfl .nil) (zwt hlen tb hS)) λr s' h=>?_
 cases r with
 | error e=>exact False.elim h
 | ok fl =>
  cases fl with
  | next=>exact False.elim h
  | brk=>exact False.elim h
  | cont=>exact False.elim h
  | ret u =>
   obtain⟨v,H',os,bare,un,hok',r',qv⟩:=h;have q':v=.bl yl:=qv;subst q';obtain rfl:u=ybv yl:=r'
   have old:∀b o,s₁.heap.get? b=ya o->s'.heap.get? b=ya o\/(b∈ts/\∃more,s'.heap.get? b=ya (yfa more)):=λb o e=>by
    cases z:H b with
    | none=>exact .inl (un.keep b o e z (by intro z;exact absurd (show b∈([]:List yq)from z) (by simp)) (by simp))
    | some u =>
     rcases Hne b u z with⟨rfl,hk,rfl⟩ | ⟨ht,rfl⟩
     ·have z2:=un.frzs b _ _ z
      obtain⟨e1,_⟩:=hok b _ z;obtain⟨e2,_⟩:=hok' b _ z2;rw[e]at e1;cases e1;exact .inl e2
     ·obtain⟨more,z2⟩:=un.tbls b _ z
      exact .inr ⟨ht,_,hok' b _ z2⟩
   refine⟨rfl,⟨λb o e=>?_,λb o e=>?_⟩,os,bare⟩
   ·rcases old b o e with h | ⟨ht,more,h⟩
    ·exact .inl h
    ·rw[TX b ht]at e
     cases e;obtain⟨c,hc⟩:=(hT b ht).2;exact .inr (.inl ⟨((yd8 KX hc).tab (TX b ht)).isCodeTable,rfl,#[],more,rfl,by rw[yck];exact h⟩)
   ·rcases old b o e with h | ⟨_,more,h⟩
    ·exact⟨_,h⟩
    ·exact⟨_,h⟩
theorem len1{α:Type}:∀{us:List α},us.length=1->∃a,us=[a]
 | [a],_=>⟨a,rfl⟩
theorem len2{α:Type}:∀{us:List α},us.length=2->∃a b,us=[a,b]
 | [a,b],_=>⟨a,b,rfl⟩
theorem len3{α:Type}:∀{us:List α},us.length=3->∃a b c,us=[a,b,c]
 | [a,b,c],_=>⟨a,b,c,rfl⟩
end SD
namespace K01
open PY
noncomputable def f0:Fn:=⟨1,1,(.cons (.ret (.and (.isi (.var 0) .int) (.not (.isi (.var 0) .bool))))
  .nil)⟩
noncomputable def f1:Fn:=⟨1,1,(.cons (.ret (.and (.isi (.var 0) .tuple) (.bi .all (.comp (.call 0 (.cons (.var 0) .nil)) (.one 0) (.seq (.var 0)) .no 1 []))))
  .nil)⟩
noncomputable def f2:Fn:=⟨1,1,(.cons (.ret (.and (.call 1 (.cons (.var 0) .nil)) (.cmp .eq (.bi .len (.var 0)) (.con (.int (2))))))
  .nil)⟩
noncomputable def f3:Fn:=⟨1,1,(.cons (.ret (.and (.isi (.var 0) .tuple) (.bi .all (.comp (.call 2 (.cons (.var 0) .nil)) (.one 0) (.seq (.var 0)) .no 1 []))))
  .nil)⟩
noncomputable def f4:Fn:=⟨1,1,(.cons (.ret (.bi .all (.comp (.cmp .lt (.ix (.var 1) (.var 0)) (.ix (.var 1) (.bin .add (.var 0) (.con (.int (1)))))) (.one 0) (.rng1 (.bin .sub (.bi .len (.var 0)) (.con (.int (1))))) .no 1 [0])))
  .nil)⟩
noncomputable def f6:Fn:=⟨2,2,(.cons (.ret (.and (.call 3 (.cons (.var 0) .nil)) (.and (.call 4 (.cons (.var 0) .nil)) (.bi .all (.comp (.cmp .isin (.var 0) (.ix (.var 1) (.con (.int (1))))) (.one 0) (.seq (.var 0)) .no 1 [1])))))
  .nil)⟩
noncomputable def f7:Fn:=⟨2,2,(.cons (.cond (.cmp .lt (.var 1) (.bi .len (.var 0))) (.cons (.ret (.ix (.var 0) (.var 1)))
  .nil) .nil)
  (.cons (.ret (.con (.int (0))))
  .nil))⟩
noncomputable def f8:Fn:=⟨3,3,(.cons (.ret (.bin .mod (.bin .mod (.bin .mul (.var 0) (.con (.int (48271)))) (.var 1)) (.var 2)))
  .nil)⟩
noncomputable def isWhole:D->Bool | .int _=>yl | _=>yi
noncomputable def areWhole:D->Bool | .tup l=>l.all isWhole | _=>yi
noncomputable def isPair:D->Bool | .tup l=>l.all isWhole&&l.length==2 | _=>yi
noncomputable def arePairs:D->Bool | .tup l=>l.all isPair | _=>yi
noncomputable def pr(p:Int×Int):D:=.tup [.int p.1,.int p.2]
theorem znr(p:Int×Int):isPair (pr p)=yl:=rfl
theorem zi2(es:List (Int×Int)):arePairs (.tup (es.map pr))=yl:=by
 simp[arePairs,znr]
noncomputable def ltP(a b:Int×Int):Bool:=lexLt [a.1,a.2] [b.1,b.2]
noncomputable def riseB:List (Int×Int)->Bool
 | a::b::r=>ltP a b&&riseB (b::r)
 | _=>yl
theorem ze5:∀(es:List (Int×Int)),((q5 (es.length - 1)).all λk=>ltP (es.getD k (0,0)) (es.getD (k+1) (0,0)))=riseB es
 | []=>rfl
 | [_]=>rfl
 | a::b::r=>by
  have ih:=ze5 (b::r);show((q5 (r.length+1)).all _)=(ltP a b&&riseB (b::r));rw[vj,wn,w4,← ih];rfl
section
variable {cl:Nat→List D→Option D} {W:Nat}
theorem m0(d:D):runF cl W f0 [d]=ya (.bl (isWhole d)):=by cases d <;> rfl
theorem m1(h0:∀d,cl 0 [d]=ya (.bl (isWhole d)))(d:D):runF cl W f1 [d]=ya (.bl (areWhole d)):=by
 cases d with
 | tup l =>
  refine z5 ⟨rfl,by decide⟩ (zn (z6 (fl:=.solid) ?_))
  have e:ev cl (.comp (.call 0 (.cons (.var 0) .nil)) (.one 0) (.seq (.var 0)) .no 1 []) [.val (.tup l)]=ya (.lst (l.map λd=>D.bl (isWhole d)),.fresh) :=
   zk2 _ (b:=yi) (by rfl) λd hd=>⟨_,_,rfl,by simp only[PY.zbj,PY.zba,PY.zac,PY.zcr,PY.zav,slot,ye,xx];show((cl 0 [d]).bind _)=_;rw[h0];rfl,rfl⟩
  show ev cl (.and (.isi (.var 0) .tuple) (.bi .all (.comp (.call 0 (.cons (.var 0) .nil)) (.one 0) (.seq (.var 0)) .no 1 []))) [.val (.tup l)]=_;exact zn7 (p:=yl) (d:=.bl yl) (f:=.solid) rfl (zr e (zgq isWhole l))
 | _=>rfl
theorem m2x{d:D}{e:E}(h:cl 1 [d]=ya (.bl yi)):ev cl (.and (.call 1 (.cons (.var 0) .nil)) e) [.val d]=ya (.bl yi,.solid):=by
 rw[PY.za9,zl (x:=.bl yi) (zc (x:=d) rfl zi) h];rfl
theorem m2(h1:∀d,cl 1 [d]=ya (.bl (areWhole d)))(d:D):runF cl W f2 [d]=ya (.bl (isPair d)):=by
 refine z5 ⟨rfl,by decide⟩ (zn (z6 (fl:=.solid) ?_));cases d with
 | tup l =>
  have h:cl 1 [.tup l]=ya (.bl (l.all isWhole)):=h1 _;show _=ya (D.bl (l.all isWhole&&l.length==2),Fl.solid);have e2:((l.length:Int)==2)=(l.length==2):=by rw[vh,beq_iff_eq,beq_iff_eq];lia
  have hl:ev cl (.cmp .eq (.bi .len (.var 0)) (.con (.int 2))) [.val (.tup l)]=ya (.bl ((l.length:Int)==2),.solid):=zb2 (f:=.solid) (g:=.solid) (x:=.int l.length) (y:=.int 2) (zr (f:=.solid) (x:=.tup l) rfl rfl) rfl rfl;cases e:l.all isWhole with
  | false=>exact m2x (by rw[h,e])
  | true =>
   rw[e2]at hl;exact zn7 (p:=yl) (d:=.bl yl) (f:=.solid) (zl (zc (x:=.tup l) rfl zi) (by rw[h,e])) hl
 | _=>exact m2x (h1 _)
theorem m3(h2:∀d,cl 2 [d]=ya (.bl (isPair d)))(d:D):runF cl W f3 [d]=ya (.bl (arePairs d)):=by
 cases d with
 | tup l =>
  refine z5 ⟨rfl,by decide⟩ (zn (z6 (fl:=.solid) ?_))
  have e:ev cl (.comp (.call 2 (.cons (.var 0) .nil)) (.one 0) (.seq (.var 0)) .no 1 []) [.val (.tup l)]=ya (.lst (l.map λd=>D.bl (isPair d)),.fresh) :=
   zk2 _ (b:=yi) (by rfl) λd hd=>⟨_,_,rfl,by simp only[PY.zbj,PY.zba,PY.zac,PY.zcr,PY.zav,slot,ye,xx];show((cl 2 [d]).bind _)=_;rw[h2];rfl,rfl⟩
  show ev cl (.and (.isi (.var 0) .tuple) (.bi .all (.comp (.call 2 (.cons (.var 0) .nil)) (.one 0) (.seq (.var 0)) .no 1 []))) [.val (.tup l)]=_;exact zn7 (p:=yl) (d:=.bl yl) (f:=.solid) rfl (zr e (zgq isPair l))
 | _=>rfl
theorem zxr(a b:Int×Int):D.lt (pr a) (pr b)=ya (ltP a b):=rfl
theorem zcl{n k:Nat}(h:k<n):place n (k:Int)=ya k:=by
 unfold place;rw[if_pos (by lia),if_pos (by lia)];simp
theorem zuh{es:List (Int×Int)}{k:Nat}(h:k<es.length):index (.tup (es.map pr)) (.int (k:Int))=ya (pr (es.getD k (0,0)),.solid):=by
 show((place (es.map pr).length (k:Int)).bind λk=>((es.map pr)[k]?).map λd=>(d,Fl.solid))=_;rw[zcl (by simpa using h),ye,yy,yc h];simp[vp,yc h]
theorem m4(es:List (Int×Int))(hl:es.length<=1000):runF cl W f4 [.tup (es.map pr)]=ya (.bl (riseB es)):=by
 refine z5 ⟨rfl,by decide⟩ (zn (z6 (fl:=.solid) ?_))
 have hr:evi cl (.rng1 (.bin .sub (.bi .len (.var 0)) (.con (.int 1)))) [.val (.tup (es.map pr))]=ya (rangeD 0 (es.length - 1),yi):=by
  have h2:small ((es.length:Int) - 1)=yl:=by simp[small];lia
  have h3:((es.length:Int) - 1).toNat=es.length - 1:=by lia
  show((range1 (.int (((es.map pr).length:Int) - 1))).map λl=>(l,yi))=_;rw[yd];simp only[range1,h2,if_true,xx,h3]
 have e:ev cl (.comp (.cmp .lt (.ix (.var 1) (.var 0)) (.ix (.var 1) (.bin .add (.var 0) (.con (.int 1))))) (.one 0) (.rng1 (.bin .sub (.bi .len (.var 0)) (.con (.int 1)))) .no 1 [0]) [.val (.tup (es.map pr))]
   = ya (.lst ((rangeD 0 (es.length - 1)).map λd=>match d with | .int k=>.bl (ltP (es.getD k.toNat (0,0)) (es.getD (k.toNat+1) (0,0))) | _=>.non),.fresh):=by
  refine zk2 _ hr λd hd=>?_
  obtain⟨i,hi⟩:=List.getElem?_of_mem hd;obtain⟨h1,rfl⟩:=zd0 hi;refine⟨_,(.bl (ltP (es.getD i (0,0)) (es.getD (i+1) (0,0))),.solid),rfl,?_,?_⟩
  ·have a:=zuh (es:=es) (k:=i) (by lia)
   have b:=zuh (es:=es) (k:=i+1) (by lia);rw[show((i+1:Nat):Int)=(i:Int)+1 by lia]at b;refine zb2 (f:=.solid) (g:=.solid) (zbd (f:=.solid) (g:=.solid) (x:=.tup (es.map pr)) (y:=.int (i:Int)) rfl ?_ a) (zbd (f:=.solid) (g:=.solid) (x:=.tup (es.map pr)) (y:=.int ((i:Int)+1)) rfl ?_ b) (zxr _ _)
   ·show ya (D.int (0+(i:Int)),Fl.solid)=_
    rw[yep]
   ·show ya (D.int (0+(i:Int)+1),Fl.solid)=_
    rw[yep]
  ·simp[solid?]
 have f4e:ev cl (.bi .all (.comp (.cmp .lt (.ix (.var 1) (.var 0)) (.ix (.var 1) (.bin .add (.var 0) (.con (.int 1))))) (.one 0) (.rng1 (.bin .sub (.bi .len (.var 0)) (.con (.int 1)))) .no 1 [0])) [.val (.tup (es.map pr))]=ya (.bl (riseB es),.solid):=by
  have q:((rangeD 0 (es.length - 1)).map λd=>match d with | .int k=>D.bl (ltP (es.getD k.toNat (0,0)) (es.getD (k.toNat+1) (0,0))) | _=>D.non)=(q5 (es.length - 1)).map λk=>D.bl (ltP (es.getD k (0,0)) (es.getD (k+1) (0,0))):=by
   unfold rangeD;rw[qu];exact congrArg (λf=>yfb f _) (funext λk=>by simp[Function.comp])
  rw[q]at e;rw[← ze5 es];exact zr e (zgq _ _)
 exact f4e
noncomputable def unpr:D->Int×Int | .tup [.int a,.int b]=>(a,b) | _=>(0,0)
noncomputable def inB(n:Int)(p:Int×Int):Bool:=decide (0<=p.1)&&decide (p.1<p.2)&&decide (p.2<n)
end
noncomputable def eqP(q p:Int×Int):Bool:=q.1==p.1&&q.2==p.2
noncomputable def memP(p:Int×Int)(es:List (Int×Int)):Bool:=es.any λq=>eqP q p
theorem zwa(q p:Int×Int):D.eq (pr q) (pr p)=eqP q p:=by
 show((q.1==p.1)&&((q.2==p.2)&&yl))=_;rw[yc6];rfl
theorem zo7(p:Int×Int)(es:List (Int×Int)):memD (pr p) (es.map pr)=memP p es:=by
 unfold memD memP;rw[yan];exact congrArg _ (funext λq=>zwa q p)
theorem zf8(es:List (Int×Int)):(es.map pr).all (D.deep 8)=yl:=by
 rw[w4,qo];intro _ _;rfl
theorem zwf(p:Int×Int)(es:List (Int×Int)):cmpop .isin (pr p) (.tup (es.map pr))=ya (memP p es):=by
 show(if(pr p).deep 8&&(es.map pr).all (D.deep 8)then ya (memD (pr p) (es.map pr))else yk)=_;rw[zf8,zo7];rfl
theorem zqw(p:Int×Int)(es:List (Int×Int)):cmpop .notin (pr p) (.tup (es.map pr))=ya (!memP p es):=by
 show(if(pr p).deep 8&&(es.map pr).all (D.deep 8)then ya (!memD (pr p) (es.map pr))else yk)=_;rw[zf8,zo7];rfl
theorem zc0{p:Int×Int}{es:List (Int×Int)}:memP p es=yl↔p∈es:=by
 unfold memP;rw[jo];constructor
 ·rintro⟨q,hq,e⟩
  have:q=p:=by
   unfold eqP at e;rw[yr,beq_iff_eq,beq_iff_eq]at e;exact Prod.ext e.1 e.2
  exact this▸hq
 ·intro h
  exact⟨p,h,by simp[eqP]⟩
noncomputable def edgesB(ss es:List (Int×Int)):Bool:=riseB ss&&ss.all λp=>memP p es
section
variable {cl:Nat→List D→Option D} {W:Nat}
theorem m6(h3:∀d,cl 3 [d]=ya (.bl (arePairs d)))(h4:∀es:List (Int×Int),es.length<=1000->cl 4 [.tup (es.map pr)]=ya (.bl (riseB es)))(ss es:List (Int×Int))(c:D)(hs:ss.length<=1000) :
  runF cl W f6 [.tup (ss.map pr),.tup [c,.tup (es.map pr)]]=ya (.bl (edgesB ss es)):=by
 refine z5 ⟨rfl,by decide⟩ (zn (z6 (fl:=.solid) ?_));show ev cl _ [.val (.tup (ss.map pr)),.val (.tup [c,.tup (es.map pr)])]=_
 have e1:ev cl (.call 3 (.cons (.var 0) .nil)) [.val (.tup (ss.map pr)),.val (.tup [c,.tup (es.map pr)])]=ya (.bl yl,.solid):=by
  simp only[PY.za9,PY.zbj,PY.zba,PY.zac,PY.zcr,PY.zav,slot,ye,xx,vd,ve];show((cl 3 [.tup (ss.map pr)]).bind _)=_;rw[h3,zi2];rfl
 have e4:ev cl (.call 4 (.cons (.var 0) .nil)) [.val (.tup (ss.map pr)),.val (.tup [c,.tup (es.map pr)])]=ya (.bl (riseB ss),.solid):=by
  simp only[PY.za9,PY.zbj,PY.zba,PY.zac,PY.zcr,PY.zav,slot,ye,xx,vd,ve];show((cl 4 [.tup (ss.map pr)]).bind _)=_;rw[h4 ss hs];rfl
 have e2:ev cl (.comp (.cmp .isin (.var 0) (.ix (.var 1) (.con (.int 1)))) (.one 0) (.seq (.var 0)) .no 1 [1]) [.val (.tup (ss.map pr)),.val (.tup [c,.tup (es.map pr)])]
   = ya (.lst ((ss.map pr).map λd=>.bl (memP (unpr d) es)),.fresh):=by
  refine zk2 _ (b:=yi) (by rfl) λd hd=>?_
  obtain⟨p,hp,rfl⟩:=yz.mp hd;refine⟨_,(.bl (memP p es),.solid),rfl,?_,rfl⟩;exact zb2 (f:=.solid) (g:=.solid) (x:=pr p) (y:=.tup (es.map pr)) rfl (zbd (f:=.solid) (g:=.solid) rfl rfl rfl) (zwf p es)
 have e3:ev cl (.bi .all (.comp (.cmp .isin (.var 0) (.ix (.var 1) (.con (.int 1)))) (.one 0) (.seq (.var 0)) .no 1 [1])) [.val (.tup (ss.map pr)),.val (.tup [c,.tup (es.map pr)])]
   = ya (.bl (ss.all λp=>memP p es),.solid):=by
  rw[qu]at e2;exact zr e2 (zgq (λp=>memP (unpr (pr p)) es) ss)
 show ev cl (.and (.call 3 (.cons (.var 0) .nil)) (.and (.call 4 (.cons (.var 0) .nil)) (.bi .all (.comp (.cmp .isin (.var 0) (.ix (.var 1) (.con (.int 1)))) (.one 0) (.seq (.var 0)) .no 1 [1])))) _=_;rw[PY.za9,e1,ye];simp only[bl?,ye,if_true];rw[PY.za9,e4,ye];simp only[bl?,ye,e3];unfold edgesB;cases riseB ss <;> rfl
theorem m7(ns:List Int)(k:Nat):runF cl W f7 [.lst (ns.map .int),.int k]=ya (.int (ns.getD k 0)):=by
 refine z5 ⟨rfl,by decide⟩ ?_;show exs cl W f7.body [.val (.lst (ns.map .int)),.val (.int k)]=_;simp only[f7]
 have t:evT cl (.cmp .lt (.var 1) (.bi .len (.var 0))) [.val (.lst (ns.map .int)),.val (.int k)]=ya (decide (k<ns.length)):=by
  show ya (decide ((k:Int)<(((ns.map D.int).length:Nat):Int)))=_;rw[yd];congr 1;rw[vh,decide_eq_true_eq,decide_eq_true_eq];lia
 by_cases h:k<ns.length
 ·refine zn ?_
  rw[zdh t,decide_eq_true h];simp only[if_true];refine zn (z6 (fl:=.solid) ?_);show((place (ns.map D.int).length (k:Int)).bind λk=>((ns.map D.int)[k]?).map λd=>(d,Fl.solid))=_;rw[yd];rw[zcl h,ye,yy,yc h];simp[vp,yc h]
 ·rw[ze (zax (by rw[t,decide_eq_false h]))]
  have:ns.getD k 0=0:=by simp[vp,v7 (yet h)]
  rw[this];exact zn (z6 (fl:=.solid) rfl)
theorem zw2(a b:Int)(h:-1000000000000000000<b/\b<1000000000000000000):binop .mul (.int a) (.int b)=ya (.int (a*b),.solid):=by
 exact if_pos (Or.inr h)
theorem ztt(a b:Int)(h:-1000000000000000000<a/\a<1000000000000000000):binop .mul (.int a) (.int b)=ya (.int (a*b),.solid):=by
 exact if_pos (Or.inl h)
theorem zll(a b:Int)(h:0<b):binop .mod (.int a) (.int b)=ya (.int (a % b),.solid):=by
 exact if_pos h
noncomputable def mix(a p m:Int):Int:=a*48271 % p % m
theorem m8(a p m:Int)(hp:0<p)(hm:0<m):runF cl W f8 [.int a,.int p,.int m]=ya (.int (mix a p m)):=by
 refine z5 ⟨rfl,by decide⟩ (zn (z6 (fl:=.solid) ?_));simp only[PY.zi3,PY.zbj,PY.zba,PY.zac,slot,ye,yfb,vt,vd,ve,Cn.d,zw2 a 48271 (by decide),zll _ p hp,zll _ m hm,mix]
noncomputable def row(n i:Nat):List (Int×Int):=(q5 (n - (i+1))).map λ(j:Nat)=>((i:Int),(i:Int)+1+(j:Int))
noncomputable def pairsM(n:Nat):List (Int×Int):=(q5 n).flatMap (row n)
theorem zm6{n:Nat}(hn:n<=1000):small (n:Int)=yl:=by simp[small];lia
end
section
variable {cl:Nat→List D→Option D} {W:Nat}
noncomputable abbrev scr (ns:List Int):D:=.lst (ns.map .int)
end
theorem zna(a:Int×Int):ltP a a=yi:=by simp[ltP,lexLt]
theorem zkg{a b:Int×Int}(h:ltP a b=yl):ltP b a=yi:=by
 simp only[ltP,lexLt]at h ⊢;by_cases e:a.1=b.1
 ·have e1:(a.1==b.1)=yl:=beq_iff_eq.mpr e
  have e2:(b.1==a.1)=yl:=beq_iff_eq.mpr e.symm;rw[if_pos e1]at h;rw[if_pos e2];by_cases e':a.2=b.2
  ·have e3:(a.2==b.2)=yl:=beq_iff_eq.mpr e'
   rw[if_pos e3]at h;cases h
  ·have e4:¬(a.2==b.2)=yl:=by simpa using e'
   have e5:¬(b.2==a.2)=yl:=by simpa usingλq:b.2=a.2=>e' q.symm
   rw[if_neg e4]at h;rw[if_neg e5];have:=of_decide_eq_true h;exact decide_eq_false (by lia)
 ·have e1:¬(a.1==b.1)=yl:=by simpa using e
  have e2:¬(b.1==a.1)=yl:=by simpa usingλq:b.1=a.1=>e q.symm
  rw[if_neg e1]at h;rw[if_neg e2];have:=of_decide_eq_true h;exact decide_eq_false (by lia)
theorem zm5:∀{es:List (Int×Int)},es.Pairwise (λa b=>ltP a b=yl)->riseB es=yl
 | [],_=>rfl
 | [_],_=>rfl
 | a::b::r,h=>by
  rw[xj]at h;show(ltP a b&&riseB (b::r))=yl;rw[h.1 b yg,zm5 h.2];rfl
theorem zbp:∀{xs:List (Int×Int)} {a b:Int×Int},ltP a b=yi->riseB (xs++[a,b])=yi
 | [],a,b,h=>by show(ltP a b&&_)=yi;rw[h];rfl
 | [x],a,b,h=>by
  show(ltP x a&&riseB ([]++[a,b]))=yi;rw[zbp (xs:=[]) h,uq]
 | x::y::r,a,b,h=>by
  show(ltP x y&&riseB ((y::r)++[a,b]))=yi;rw[zbp (xs:=y::r) h,uq]
theorem zlg{es:List (Int×Int)}{e:Int×Int}{r:List (Int×Int)}(he:es=e::r)(h:es.Pairwise (λa b=>ltP a b=yl)):riseB (es++[e])=yi:=by
 subst he;rcases List.eq_nil_or_concat r with rfl | ⟨r',b,rfl⟩
 ·exact zbp (xs:=[]) (zna e)
 ·have hb:ltP e b=yl:=(xj.mp h).1 b (by simp)
  have:=zbp (xs:=e::r') (zkg hb);simpa using this
theorem zjb:∀n:Fin 13,(pairsM n).Pairwise (λa b=>ltP a b=yl)/\(pairsM n).all (inB n)=yl:=by decide +kernel
theorem zp6{n:Nat}(h:n<=12):(pairsM n).all (inB n)=yl:=(zjb ⟨n,by lia⟩).2
theorem below{n:Nat}{es:List (Int×Int)}(h9:n<=9)(hs:es.Sublist (pairsM n)){p:Int×Int}(hp:p∈es):p.2<9:=by
 have:=qo.mp (zp6 (n:=n) (by lia)) p (hs.subset hp);unfold inB at this;rw[yr]at this;have:=of_decide_eq_true this.2;lia
end K01
namespace K02
open PY
open PY K01
noncomputable def near(es:List (Int×Int))(p:Int):List Int:=(es.filter λe=>e.2==p).map (·.1)++(es.filter λe=>e.1==p).map (·.2)
section
variable {n:Nat} {es:List (Int×Int)} (hn:n≤9) (hs:es.Sublist (pairsM n))
include hn hs
end
theorem zjg(es:List (Int×Int))(p:Int):(near es p).length<=2*es.length:=by
 unfold near;rw[yu,yd,yd];have:=jk (λe=>e.2==p) es;have:=jk (λe=>e.1==p) es;lia
noncomputable def mn(a b:Int):Int:=if b<a then b else a
noncomputable def mx(a b:Int):Int:=if b>a then b else a
noncomputable def nubF(σ l:List Int):List Int:=l.foldl (λσ v=>if σ.any (· == v)then σ else σ++[v]) σ
theorem znz:∀(l σ:List Int),(nubF σ l).length<=σ.length+l.length
 | [],σ=>by simp[nubF]
 | v::r,σ=>by
  show(nubF (if σ.any (· == v)then σ else σ++[v]) r).length<=_;have:=znz r (if σ.any (· == v)then σ else σ++[v]);split at this
  ·simp only[qf];rw[if_pos (by assumption)];lia
  ·rw[if_neg (by assumption)];simp only[qf,yu,j6]at this ⊢;lia
theorem fits:∀(n:Nat) (l:List Int),l.Nodup->(∀x∈l,0<=x/\x<(n:Int))->l.length<=n
 | 0,[],_,_=>by simp
 | 0,x::r,_,h=>by have:=h x yg;lia
 | n+1,l,hd,h=>by
  have a:=fits n (l.erase (n:Int)) (hd.erase _) λx hx=>by
   have h1:=h x (List.mem_of_mem_erase hx)
   have h2:x≠(n:Int):=λe=>by
    rw[e]at hx;exact(List.Nodup.mem_erase_iff hd).mp hx |>.1 rfl
   lia
  have b:l.length<=(l.erase (n:Int)).length+1:=by
   rw[List.length_erase];split <;> lia
  lia
noncomputable abbrev netD (n:Nat) (es:List (Int×Int)):D:=.tup [.int n,.tup (es.map pr)]
noncomputable abbrev intL (l:List Int):List D:=l.map .int
theorem zbl:∀l:List Int,ints? (intL l)=ya l
 | []=>rfl
 | x::r=>by
  show(ints? (intL r)).map (x::·)=_;rw[zbl r];rfl
theorem zos(l:List Int):(intL l).all (D.deep 8)=yl:=by
 rw[w4,qo];intro _ _;rfl
theorem zfb(l:List Int):(intL l).all (D.deep 7)=yl:=by
 rw[w4,qo];intro _ _;rfl
theorem zkr:∀l m:List Int,D.eqs (intL l) (intL m)=decide (l=m)
 | [],[]=>rfl
 | [],y::s=>by show yi=_;simp
 | x::r,[]=>by show yi=_;simp
 | x::r,y::s=>by
  have:=zkr r s;simp only[intL,yo,PY.zb1,PY.zno,PY.zdf,PY.zaa]at this ⊢;rw[this];by_cases h:x=y <;> by_cases h':r=s <;> simp[h,h']
theorem zqp(v:Int)(l:List Int):memD (.int v) (intL l)=decide (v∈l):=by
 unfold memD;rw[yan];rw[vh,jo,decide_eq_true_eq];constructor
 ·rintro⟨x,h,e⟩
  have:x=v:=beq_iff_eq.mp e;exact this▸h
 ·intro h;exact⟨v,h,by simp[Function.comp,PY.zdf,PY.zaa]⟩
section
variable {cl:Nat→List D→Option D} {W:Nat}
theorem zwi(n:Nat)(es:List (Int×Int))(p:Int)(ρ:Rho)(h0:ρ[0]? = ya (.val (netD n es)))(h1:ρ[1]? = ya (.val (.int p))) :
  ev cl (.comp (.var 0) (.many [0,1]) (.seq (.ix (.var 0) (.con (.int 1)))) (.so (.cmp .eq (.var 1) (.var 2))) 2 [1]) ρ=ya (.lst (intL ((es.filter λe=>e.2==p).map (·.1))),.fresh):=by
 have e:=zgl (cl:=cl) (ρ:=ρ) (e:=.var 0) (c:=.cmp .eq (.var 1) (.var 2)) (t:=.many [0,1]) (it:=.seq (.ix (.var 0) (.con (.int 1)))) (n:=2) (keep:=[1]) (ds:=es.map pr) (b:=yi) (λd=>(unpr d).2==p) (λd=>.int (unpr d).1)
  (zt (x:=.tup (es.map pr)) (zbd (f:=.solid) (g:=.solid) (x:=netD n es) (by simp only[PY.zbj,PY.zba,PY.zac,slot,h0]) rfl rfl) rfl) (by
   intro d hd;obtain⟨q,hq,rfl⟩:=yz.mp hd;obtain⟨a,b⟩:=q
   have hi:inner ρ 2 [1]=[.no,.no,.val (.int p)]:=by
    show[Sl.no,.no,ρ.getD 1 .no]=_;rw[y3,h1];rfl
   rw[hi];exact⟨[.val (.int a),.val (.int b),.val (.int p)],rfl,rfl,λ_=>⟨(.int a,.solid),rfl,rfl⟩⟩)
 rw[e,yaz,qu];show _=ya (D.lst (yfb D.int ((es.filter λe=>e.2==p).map (·.1))),Fl.fresh);rw[qu];rfl
theorem zu9(n:Nat)(es:List (Int×Int))(p:Int)(ρ:Rho)(h0:ρ[0]? = ya (.val (netD n es)))(h1:ρ[1]? = ya (.val (.int p))) :
  ev cl (.comp (.var 1) (.many [0,1]) (.seq (.ix (.var 0) (.con (.int 1)))) (.so (.cmp .eq (.var 0) (.var 2))) 2 [1]) ρ=ya (.lst (intL ((es.filter λe=>e.1==p).map (·.2))),.fresh):=by
 have e:=zgl (cl:=cl) (ρ:=ρ) (e:=.var 1) (c:=.cmp .eq (.var 0) (.var 2)) (t:=.many [0,1]) (it:=.seq (.ix (.var 0) (.con (.int 1)))) (n:=2) (keep:=[1]) (ds:=es.map pr) (b:=yi) (λd=>(unpr d).1==p) (λd=>.int (unpr d).2)
  (zt (x:=.tup (es.map pr)) (zbd (f:=.solid) (g:=.solid) (x:=netD n es) (by simp only[PY.zbj,PY.zba,PY.zac,slot,h0]) rfl rfl) rfl) (by
   intro d hd;obtain⟨q,hq,rfl⟩:=yz.mp hd;obtain⟨a,b⟩:=q
   have hi:inner ρ 2 [1]=[.no,.no,.val (.int p)]:=by
    show[Sl.no,.no,ρ.getD 1 .no]=_;rw[y3,h1];rfl
   rw[hi];exact⟨[.val (.int a),.val (.int b),.val (.int p)],rfl,rfl,λ_=>⟨(.int b,.solid),rfl,rfl⟩⟩)
 rw[e,yaz,qu];show _=ya (D.lst (yfb D.int ((es.filter λe=>e.1==p).map (·.2))),Fl.fresh);rw[qu];rfl
theorem zqb(a b:List Int)(h:a.length+b.length<=4000):binop .add (.lst (intL a)) (.lst (intL b))=ya (.lst (intL (a++b)),.fresh):=by
 show(if(intL a).length+(intL b).length<=big then ya (D.lst (intL a++intL b),Fl.fresh)else yk)=_;rw[if_pos (by simpa[big]using h)];simp[intL]
theorem zs9(es:List (Int×Int))(p:Int):((es.filter λe=>e.2==p).map (·.1)).length+((es.filter λe=>e.1==p).map (·.2)).length<=2*es.length:=by
 have:=zjg es p;unfold near at this;rw[yu]at this;exact this
theorem zoq(l:List Int)(k:Nat):cutL (intL l) (ya (k:Int)) yk=intL (l.drop k):=by
 rw[zkm];simp[intL]
noncomputable abbrev rows (L:List (List Int)):List D:=L.map λl=>.tup (intL l)
end
theorem zp9(l:List Int)(k v:Int):putAt (intL l) k (.int v)=intL (putAt l k v):=by
 unfold putAt;simp[intL]
theorem zp3(l:List Int)(k v:Int):(putAt l k v).Perm (l++[v]):=by
 unfold putAt
 have h:∀j,(l.take j++v::l.drop j).Perm (l++[v]):=λj=>by
  have a:(l.take j++v::l.drop j).Perm (v::(l.take j++l.drop j)):=j7;rw[yac]at a;exact a.trans (wd (l₁:=[v]) (l₂:=l))
 exact h _
end K02
namespace K20
open PY K01 K02 L2
noncomputable def li(p:Int×Int):List Int:=[p.1,p.2]
theorem zgr{p q:Int×Int}(h:li p=li q):p=q:=by
 unfold li at h;injection h with h1 h2
 injection h2 with h2 _
 exact Prod.ext h1 h2
theorem zi4:∀es:List (Int×Int),tups? (es.map pr)=ya (es.map li)
 | []=>rfl
 | e::es=>by
  show(match ints? [D.int e.1,D.int e.2]with | some (x::ns)=>(tups? (es.map pr)).map ((x::ns)::·) | _=>yk)=_;rw[zi4 es];rfl
theorem zrg(es:List (Int×Int)):(es.map li).map tupI=es.map pr:=by rw[qu];rfl
theorem zl5:∀(l σ:List (List Int)),(σ++l).Nodup->l.foldl (λσ v=>if σ.any (· == v)then σ else σ++[v]) σ=σ++l
 | [],σ,_=>by simp
 | v::l,σ,h=>by
  have hv:σ.any (· == v)=yi:=by
   rw[Bool.eq_false_iff];intro z;obtain⟨u,hu,e⟩:=jo.mp z;have e:=beq_iff_eq.mp e;subst e;exact(wq.mp h).2.2 u hu u yg rfl
  rw[u4,hv];simp only[ql,if_false];rw[zl5 l (σ++[v]) (by simpa using h)];simp
theorem zlp{l:List (List Int)}(h:l.Nodup):nubT l=l:=by
 have:=zl5 l [] (by simpa using h);simpa[nubT]using this
theorem zkb{l:List (Int×Int)}(h:l.Nodup):(l.map li).Nodup:=List.Pairwise.map li (λa b hab z=>hab (zgr z)) h
noncomputable abbrev Up (l:List (Int×Int)):Prop:=l.Pairwise λa b=>ltP a b=yl
theorem zcz{l:List (Int×Int)}(h:Up l):l.Nodup:=h.imp λ{a b} hab z=>by subst z;rw[zna]at hab;cases hab
theorem znc{l:List (Int×Int)}(h:Up l):(l.map li).Pairwise λa b=>lexLt b a=yi:=List.Pairwise.map li (λa b hab=>zjh hab) h
theorem zj5{l fs:List (Int×Int)}(h:Up fs)(p:fs.Perm l):sortT (l.map li)=fs.map li :=
 zar ((z4 _).trans (p.symm.map li)) (za1 _) (znc h)
theorem zw4{l:List (Int×Int)}(h:l.Nodup):∃fs,Up fs/\fs.Perm l:=by
 have p:=z4 (l.map li)
 have un:∀(m:List (List Int)),(∀x∈m,x∈l.map li)->∃fs:List (Int×Int),m=fs.map li:=λm=>by
  induction m with
  | nil=>intro _;exact⟨[],rfl⟩
  | cons x m ih =>
   intro hx;obtain⟨fs,rfl⟩:=ih λy hy=>hx y (yf _ hy)
   obtain⟨q,_,rfl⟩:=yz.mp (hx x yg);exact⟨q::fs,rfl⟩
 obtain⟨fs,e⟩:=un _ λx hx=>p.mem_iff.mp hx
 have hn:(fs.map li).Nodup:=by rw[← e];exact p.symm.nodup (zkb h)
 have hn':fs.Nodup:=List.Pairwise.of_map li (λa b hab z=>hab (by rw[z])) hn;refine⟨fs,?_,?_⟩
 ·have pw:=za1 (l.map li)
  rw[e]at pw;have pw:fs.Pairwise λa b=>lexLt (li b) (li a)=yi:=List.Pairwise.of_map li (λa b hab=>hab) pw
  refine(pw.and hn').imp λ{a b} hab=>?_
  cases hc:ltP a b with
  | true=>rfl
  | false=>exact(hab.2 (zgr (HS.zee hc hab.1))).elim
 ·refine(yaf hn' h).mpr λq=>?_
  have:=(p.mem_iff (a:=li q));rw[e]at this;constructor
  ·intro hq
   obtain⟨r,hr,e'⟩:=yz.mp (this.mp (yd9 hq));rw[← zgr e'];exact hr
  ·intro hq
   obtain⟨r,hr,e'⟩:=yz.mp (this.mpr (yd9 hq));rw[← zgr e'];exact hr
noncomputable def ren(P:List Int)(e:Int×Int):Int×Int:=(mn (P.getD e.1.toNat 0) (P.getD e.2.toNat 0),mx (P.getD e.1.toNat 0) (P.getD e.2.toNat 0))
structure Nam (n:Nat) (P:List Int):Prop where
 len:P.length=n
 inn:∀k,k<n->0<=P.getD k 0/\P.getD k 0<(n:Int)
 inj:∀j k,j<n->k<n->P.getD j 0=P.getD k 0->j=k
theorem zv1{n:Nat}{P:List Int}(h:Nam n P){e:Int×Int}(he:0<=e.1/\e.1<e.2/\e.2<(n:Int)):0<=(ren P e).1/\(ren P e).1<(ren P e).2/\(ren P e).2<(n:Int):=by
 have a:=h.inn e.1.toNat (by lia);have b:=h.inn e.2.toNat (by lia);have ne:P.getD e.1.toNat 0≠P.getD e.2.toNat 0:=λz=>by have:=h.inj _ _ (by lia) (by lia) z;lia
 unfold ren mn mx;dsimp only;by_cases c:P.getD e.2.toNat 0<P.getD e.1.toNat 0
 ·rw[if_pos c,if_neg (by lia)];exact⟨b.1,c,a.2⟩
 ·rw[if_neg c,if_pos (by lia)];exact⟨a.1,by lia,b.2⟩
end K20
namespace KN
open PY K01 K02 K20
noncomputable abbrev Dt:=Int×Int
noncomputable def nrm(a b:Int):Dt:=if a<b then(a,b)else(b,a)
noncomputable def edg:List Int->List Dt
 | a::b::r=>nrm a b::edg (b::r)
 | _=>[]
theorem zbe{a b:Int}(h:a≠b):nrm a b=nrm b a:=by
 unfold nrm;by_cases k:a<b
 ·rw[if_pos k,if_neg (by lia)]
 ·rw[if_neg k,if_pos (by lia)]
theorem zeq{A B:List Dt}(h:A.Perm B)(v:Int):(near A v).Perm (near B v):=by
 unfold near;exact((h.filter _).map _).append ((h.filter _).map _)
theorem zdt(A B:List Dt)(v:Int):(near (A++B) v).Perm (near A v++near B v):=by
 unfold near;simp only[ya6,qb];generalize ((A.filter λe=>e.2==v).map (·.1))=a1;generalize ((B.filter λe=>e.2==v).map (·.1))=b1;generalize ((A.filter λe=>e.1==v).map (·.2))=a2;generalize ((B.filter λe=>e.1==v).map (·.2))=b2;have h1:(a1++b1++(a2++b2)).Perm (a1++(b1++(a2++b2))):=by rw[xb]
 have h2:(b1++(a2++b2)).Perm (a2++(b1++b2)):=by
  rw[← xb,← xb];exact(wd (l₁:=b1) (l₂:=a2)).append_right b2
 refine h1.trans ((h2.append_left a1).trans ?_);rw[xb]
theorem zd2(v:Int):∀S:List (List Int),(near (S.flatMap edg) v).Perm (S.flatMap λp=>near (edg p) v)
 | []=>.refl _
 | p::S=>by
  rw[qy,qy];exact(zdt _ _ v).trans ((zd2 v S).append_left _)
theorem zdp{a b:Int}(h:a≠b)(v:Int):near [nrm a b] v=if v=a then[b]else if v=b then[a]else[]:=by
 unfold near nrm;by_cases k:a<b
 ·rw[if_pos k]
  by_cases h1:v=a
  ·subst h1;simp[xg h]
  ·by_cases h2:v=b
   ·subst h2;simp[h1,h]
   ·simp[h1,h2,xg h1,xg h2]
 ·rw[if_neg k]
  by_cases h1:v=a
  ·subst h1;simp[xg h]
  ·by_cases h2:v=b
   ·subst h2;simp[h1,h]
   ·simp[h1,h2,xg h1,xg h2]
noncomputable def mid(p:List Int):List Int:=p.dropLast.tail
noncomputable def fst(p:List Int):Int:=p.headD 0
noncomputable def lst(p:List Int):Int:=p.getLastD 0
noncomputable def Steps:List Int->Prop
 | a::b::r=>a≠b/\Steps (b::r)
 | _=>True
noncomputable def ats(p:List Int)(v:Int):List Int:=(if fst p=v then[p.getD 1 0]else[])++(if lst p=v then[p.reverse.getD 1 0]else[])
theorem zkt(a b:Int)(r:List Int):lst (a::b::r)=lst (b::r):=by
 unfold lst;simp[List.getLastD_cons]
theorem zd1(v:Int):∀(p:List Int),2<=p.length->Steps p->v∉mid p->(near (edg p) v).Perm (ats p v)
 | [],h,_,_=>by simp at h
 | [_],h,_,_=>by simp at h
 | [a,b],_,hs,_=>by
  have hne:=hs.1;show(near [nrm a b] v).Perm _;rw[zdp hne];have e1:ats [a,b] v=(if a=v then[b]else[])++(if b=v then[a]else[]):=rfl;rw[e1];by_cases h1:v=a
  ·subst h1;simp[xg hne]
  ·by_cases h2:v=b
   ·subst h2;simp[h1,hne]
   ·simp[h1,h2,xg h1,xg h2]
 | a::b::c::r,_,hs,hm=>by
  have hb:v≠b:=λe=>hm (by subst e;simp[mid])
  have hm':v∉mid (b::c::r):=λk=>hm (by
   show v∈((a::b::c::r).dropLast).tail;rw[qj (by simp),wt];exact List.mem_of_mem_tail k)
  have ih:=zd1 v (b::c::r) (by simp) hs.2 hm';have e:edg (a::b::c::r)=[nrm a b]++edg (b::c::r):=rfl;rw[e];refine(zdt _ _ v).trans ((ih.append_left _).trans ?_);rw[zdp hs.1]
  have e1:ats (b::c::r) v=if lst (b::c::r)=v then[(b::c::r).reverse.getD 1 0]else[]:=by
   unfold ats;rw[if_neg (show¬fst (b::c::r)=v fromλk=>hb k.symm),ya0]
  have e2:ats (a::b::c::r) v=(if a=v then[b]else[])++(if lst (b::c::r)=v then[(b::c::r).reverse.getD 1 0]else[]):=by
   unfold ats;rw[zkt]
   have e3:(a::b::c::r).reverse.getD 1 0=(b::c::r).reverse.getD 1 0:=by
    rw[jp (a:=a),y3,y3,xc (by simp)]
   rw[e3];rfl
  rw[e1,e2];by_cases h1:v=a
  ·subst h1;simp
  ·simp[h1,hb,xg h1]
end KN
namespace K05
open PY K01 K02
inductive Reach (es:List (Int×Int)) (a:Int):Int->Prop
 | refl:Reach es a a
 | step {b c:Int}:Reach es a b->c∈near es b->Reach es a c
theorem za0{es:List (Int×Int)}{a b:Int}:a∈near es b↔(a,b)∈es\/(b,a)∈es:=by
 unfold near;simp only[qt,yz,qa];constructor
 ·rintro(⟨⟨x,y⟩,⟨h,e⟩,rfl⟩ | ⟨⟨x,y⟩,⟨h,e⟩,rfl⟩)
  ·rw[show b=y from(beq_iff_eq.mp e).symm];exact .inl h
  ·rw[show b=x from(beq_iff_eq.mp e).symm];exact .inr h
 ·rintro(h | h)
  ·exact .inl ⟨(a,b),⟨h,by simp⟩,rfl⟩
  ·exact .inr ⟨(b,a),⟨h,by simp⟩,rfl⟩
theorem zku{es:List (Int×Int)}{a b:Int}(h:a∈near es b):b∈near es a:=za0.mpr ((za0.mp h).symm)
structure Part (es:List (Int×Int)) (n:Nat) (l:List Int):Prop where
 up:l.Pairwise (· < ·)
 one:∃s:Int,(0<=s/\s<(n:Int))/\∀v,v∈l↔Reach es s v
theorem zrj:∀{l m:List Int},l.Pairwise (· < ·)->m.Pairwise (· < ·)->(∀v,v∈l↔v∈m)->l=m
 | [],[],_,_,_=>rfl
 | [],y::m,_,_,h=>by have:=(h y).mpr yg;cases this
 | x::l,[],_,_,h=>by have:=(h x).mp yg;cases this
 | x::l,y::m,h1,h2,h=>by
  rw[xj]at h1 h2
  have e:x=y:=by
   rcases yn.mp ((h x).mp yg)with e | hx
   ·exact e
   ·rcases yn.mp ((h y).mpr yg)with e | hy
    ·exact e.symm
    ·have:=h1.1 y hy
     have:=h2.1 x hx;lia
  subst e;rw[zrj h1.2 h2.2 λv=>?_];constructor
  ·intro hv
   rcases yn.mp ((h v).mp (yf _ hv))with e | hv'
   ·subst e;have:=h1.1 v hv;lia
   ·exact hv'
  ·intro hv
   rcases yn.mp ((h v).mpr (yf _ hv))with e | hv'
   ·subst e;have:=h2.1 v hv;lia
   ·exact hv'
structure Parts (es:List (Int×Int)) (n:Nat) (ps:List (List Int)):Prop where
 part:∀l∈ps,Part es n l
 all:∀v:Int,0<=v->v<(n:Int)->∃l∈ps,v∈l
 nod:ps.Nodup
end K05
namespace KN
open PY K01 K02 K20
structure Simple (T:List Dt):Prop where
 nd:T.Nodup
 lt:∀e∈T,e.1<e.2
noncomputable abbrev deg (T:List Dt) (v:Int):Nat:=(near T v).length
theorem Simple.near_nd{T:List Dt}(h:Simple T)(v:Int):(near T v).Nodup:=by
 unfold near;rw[wq];refine⟨?_,?_,λa ha b hb e=>?_⟩
 ·rw[xu,j4]
  refine List.Pairwise.imp_of_mem ?_ (xu.mp (h.nd.filter _));intro x y hx hy ne e;have h1:=beq_iff_eq.mp (qa.mp hx).2;have h2:=beq_iff_eq.mp (qa.mp hy).2;exact ne (Prod.ext e (h1.trans h2.symm))
 ·rw[xu,j4]
  refine List.Pairwise.imp_of_mem ?_ (xu.mp (h.nd.filter _));intro x y hx hy ne e;have h1:=beq_iff_eq.mp (qa.mp hx).2;have h2:=beq_iff_eq.mp (qa.mp hy).2;exact ne (Prod.ext (h1.trans h2.symm) e)
 ·obtain⟨x,hx,rfl⟩:=yz.mp ha
  obtain⟨y,hy,rfl⟩:=yz.mp hb;obtain⟨x1,x2⟩:=qa.mp hx;obtain⟨y1,y2⟩:=qa.mp hy;have h1:=h.lt x x1;have h2:=h.lt y y1;have h3:=beq_iff_eq.mp x2;have h4:=beq_iff_eq.mp y2;lia
theorem zc5:∀(pre:List Int) (u:Int) (r:List Int),edg (pre++u::r)=edg (pre++[u])++edg (u::r)
 | [],u,r=>by cases r <;> simp[edg]
 | [a],u,r=>by simp[edg]
 | a::b::pre,u,r=>by
  have:=zc5 (b::pre) u r;simp only[vt]at this ⊢;rw[edg,edg,this];rfl
theorem zny:∀(p:List Int),2<=p.length->(edg p).length+1=p.length
 | [],h=>by simp at h
 | [_],h=>by simp at h
 | [a,b],_=>rfl
 | a::b::c::r,_=>by
  have:=zny (b::c::r) (by simp);rw[edg,qf,this];simp
theorem ze0(a b:Int):nrm a b=(a,b)\/nrm a b=(b,a):=by
 unfold nrm;split
 ·exact .inl rfl
 ·exact .inr rfl
theorem zl9:∀(p:List Int),Steps p->(edg p.reverse).Perm (edg p)
 | [],_=>.refl _
 | [_],_=>.refl _
 | a::b::r,h=>by
  have ih:=zl9 (b::r) h.2;rw[jp];have e:(b::r).reverse++[a]=r.reverse++b::[a]:=by rw[jp,xb];rfl
  rw[e,zc5,show r.reverse++[b]=(b::r).reverse by rw[jp]];show(edg (b::r).reverse++[nrm b a]).Perm (nrm a b::edg (b::r));rw[zbe h.1];exact(ih.append_right _).trans (wd (l₁:=edg (b::r)) (l₂:=[nrm b a]))
theorem zko:∀(p:List Int),(∀e∈edg p,e.1<e.2)->Steps p
 | [],_=>trivial
 | [_],_=>trivial
 | a::b::r,h=>by
  refine⟨λe=>?_,zko (b::r) λx hx=>h x (yf _ hx)⟩;subst e;have:=h (nrm a a) yg;rcases ze0 a a with k | k <;> (rw[k]at this;exact absurd this (by simp))
structure Dec (T:List Dt) (S:List (List Int)):Prop where
 len:∀p∈S,2<=p.length
 perm:(S.flatMap edg).Perm T
 mid:∀p∈S,∀v∈mid p,deg T v=2
section
variable {T:List Dt} {S:List (List Int)}
theorem Dec.lt(h:Dec T S)(hs:Simple T){p:List Int}(hp:p∈S):∀e∈edg p,e.1<e.2:=λe he=>hs.lt e (h.perm.mem_iff.mp (j8.mpr ⟨p,hp,he⟩))
theorem Dec.steps(h:Dec T S)(hs:Simple T){p:List Int}(hp:p∈S):Steps p:=zko p (h.lt hs hp)
theorem Dec.near(h:Dec T S)(hs:Simple T){v:Int}(hv:deg T v≠2):(near T v).Perm (S.flatMap λp=>ats p v):=by
 refine((zeq h.perm v).symm.trans (zd2 v S)).trans ?_
 have:∀R:List (List Int),(∀p∈R,p∈S)->(R.flatMap λp=>K02.near (edg p) v).Perm (R.flatMap λp=>ats p v):=λR=>by
  induction R with
  | nil=>intro _;exact .refl _
  | cons p R ih =>
   intro hR;rw[qy,qy];have hp:=hR p yg;exact(zd1 v p (h.len p hp) (h.steps hs hp) λk=>hv (h.mid p hp v k)).append (ih λq hq=>hR q (yf _ hq))
 exact this S λp hp=>hp
theorem zsy{pre:List Int}{u v x:Int}{post:List Int}:v∈mid (pre++u::v::x::post):=by
 unfold mid
 have:(pre++u::v::x::post).dropLast=pre++u::v::(x::post).dropLast:=by
  rw[wy (by simp),qj (by simp),qj (by simp)]
 rw[this];cases pre with
 | nil=>simp
 | cons a pre=>simp
theorem Dec.three(h:Dec T S)(hs:Simple T){p:List Int}(hp:p∈S){pre:List Int}{u v x:Int}{post:List Int}(e:p=pre++u::v::x::post):deg T v=2/\u∈K02.near T v/\x∈K02.near T v/\u≠x:=by
 have ee:edg p=edg (pre++[u])++nrm u v::nrm v x::edg (x::post):=by rw[e,zc5];rfl
 have inT:∀q∈edg p,q∈T:=λq hq=>h.perm.mem_iff.mp (j8.mpr ⟨p,hp,hq⟩)
 have m1:nrm u v∈T:=inT _ (by rw[ee];simp);have m2:nrm v x∈T:=inT _ (by rw[ee];simp)
 have nd:(edg p).Nodup:=by
  have:=h.perm.nodup_iff.mpr hs.nd
  have sub:(edg p).Sublist (S.flatMap edg):=by
   obtain⟨s,t,rfl⟩:=wg hp;rw[wb,qy];exact(List.sublist_append_left _ _).trans (List.sublist_append_right _ _)
  exact this.sublist sub
 refine⟨h.mid p hp v (by rw[e];exact zsy),?_,?_,λk=>?_⟩
 ·rw[K05.za0]
  rcases ze0 u v with z | z <;> rw[z]at m1
  ·exact .inl m1
  ·exact .inr m1
 ·rw[K05.za0]
  rcases ze0 v x with z | z <;> rw[z]at m2
  ·exact .inr m2
  ·exact .inl m2
 ·subst k
  have st:=h.steps hs hp
  have hne:u≠v:=λz=>by
   subst z;have:=hs.lt _ m1;rcases ze0 u u with z | z <;> (rw[z]at this;exact absurd this (by simp))
  rw[ee,wq]at nd;have:=(xw.mp nd.2.1).1;exact this (by rw[zbe hne];exact yg)
inductive Go (T:List Dt):Int->Int->List Int->Prop
 | stop {u v:Int} (h:deg T v≠2):Go T u v []
 | step {u v x:Int} {r:List Int} (h:deg T v=2) (f:(near T v).filter (λy=>!decide (y=u))=[x]) (g:Go T v x r):Go T u v (x::r)
theorem Go.uniq{u v:Int}{r r':List Int}(h:Go T u v r)(h':Go T u v r'):r=r':=by
 induction h generalizing r' with
 | stop h=>cases h' with
  | stop _=>rfl
  | step k _ _=>exact absurd k h
 | step h f g ih=>cases h' with
  | stop k=>exact absurd h k
  | step _ f' g' =>
   rw[f]at f';injection f' with f' _
   subst f';rw[ih g']
theorem zlb{l:List Int}(nd:l.Nodup)(h2:l.length=2){u x:Int}(hu:u∈l)(hx:x∈l)(ne:u≠x):l.filter (λy=>!decide (y=u))=[x]:=by
 match l,h2 with
 | [a,b],_ =>
  have hab:a≠b:=by
   have:=(xw.mp nd).1;simpa using this
  simp at hu hx;rcases hu with rfl | rfl <;> rcases hx with rfl | rfl
  ·exact absurd rfl ne
  ·simp[xg hab]
  ·simp[hab]
  ·exact absurd rfl ne
theorem go_of(hs:Simple T){p:List Int}(three:∀{pre:List Int} {u v x:Int} {post:List Int},p=pre++u::v::x::post->deg T v=2/\u∈K02.near T v/\x∈K02.near T v/\u≠x)(hl:deg T (lst p)≠2):∀(r pre:List Int) (u v:Int),p=pre++u::v::r->Go T u v r
 | [],pre,u,v,e=>by
  have:lst p=v:=by
   rw[e];unfold lst;simp[jg]
  rw[this]at hl;exact .stop hl
 | x::r,pre,u,v,e=>by
  obtain⟨a,b,c,d⟩:=three e;exact .step a (zlb (hs.near_nd v) a b c d) (go_of hs three hl r (pre++[u]) v x (by rw[e];simp))
end
structure Fin (T:List Dt) (S C:List (List Int)):Prop where
 dec:Dec T (S++C)
 tS:∀p∈S,deg T (fst p)≠2/\deg T (lst p)≠2
 tC:∀p∈C,fst p=lst p/\deg T (fst p)=2
noncomputable def wys(S:List (List Int))(e:Int):List (List Int):=S.flatMap λp=>(if fst p=e then[p]else[])++(if lst p=e then[p.reverse]else[])
theorem zek{p:List Int}(h:2<=p.length):fst p.reverse=lst p:=by
 unfold fst lst;rw[yc8,List.head?_reverse,jg]
theorem zet{p:List Int}(h:2<=p.length):lst p.reverse=fst p:=by
 unfold fst lst;rw[yc8,jg,List.getLast?_reverse]
section
variable {T:List Dt} {S C:List (List Int)}
theorem zml(e:Int):∀S:List (List Int),(S.flatMap λp=>ats p e)=(wys S e).map λw=>w.getD 1 0
 | []=>rfl
 | p::S=>by
  unfold wys;rw[qy,qy,qb,zml e S];congr 1;unfold ats;rw[qb];congr 1
  ·split <;> rfl
  ·split <;> rfl
theorem Fin.near(h:Fin T S C)(hs:Simple T){e:Int}(he:deg T e≠2):(near T e).Perm ((wys S e).map λw=>w.getD 1 0):=by
 refine(h.dec.near hs he).trans ?_;rw[wb,zml]
 have:(C.flatMap λp=>ats p e)=[]:=by
  rw[ybc];intro p hp;obtain⟨h1,h2⟩:=h.tC p hp;have n1:¬fst p=e:=λk=>he (by rw[← k];exact h2)
  have n2:¬lst p=e:=λk=>n1 (h1.trans k)
  unfold ats;rw[if_neg n1,if_neg n2];rfl
 rw[this,qr]
theorem zmy{p:List Int}(h:2<=p.length):∃b r,p=fst p::b::r:=by
 match p,h with
 | a::b::r,_=>exact⟨b,r,rfl⟩
theorem Fin.way(h:Fin T S C)(hs:Simple T){e:Int}{w:List Int}(hw:w∈wys S e):∃b r,w=e::b::r/\Go T e b r:=by
 obtain⟨p,hp,hw⟩:=j8.mp hw;have hpS:p∈S++C:=jf _ hp;have l2:=h.dec.len p hpS;obtain⟨t1,t2⟩:=h.tS p hp;rcases qt.mp hw with hw | hw
 ·split at hw
  ·rename_i k
   rw[qd.mp hw];obtain⟨b,r,e1⟩:=zmy l2;rw[k]at e1;exact⟨b,r,e1,go_of hs (λz=>h.dec.three hs hpS z) t2 r [] e b (by rw[e1];rfl)⟩
  ·cases hw
 ·split at hw
  ·rename_i k
   rw[qd.mp hw];have l2':2<=p.reverse.length:=by rw[wa];exact l2
   obtain⟨b,r,e1⟩:=zmy l2';rw[zek l2,k]at e1;refine⟨b,r,e1,go_of hs (λ{pre u v x post} z=>?_) (by rw[zet l2];exact t1) r [] e b (by rw[e1];rfl)⟩
   have z':p=post.reverse++x::v::u::pre.reverse:=by
    have:=congrArg List.reverse z;rw[yag]at this;rw[this];simp
   obtain⟨a1,a2,a3,a4⟩:=h.dec.three hs hpS z';exact⟨a1,a3,a2,xg a4⟩
  ·cases hw
open Classical in
noncomputable def wf(T:List Dt)(e f:Int):List Int:=if h:∃r,Go T e f r then e::f::Classical.choose h else[]
theorem zu5{e f:Int}{r:List Int}(g:Go T e f r):wf T e f=e::f::r:=by
 have ex:∃r,Go T e f r:=⟨r,g⟩;unfold wf;rw[dif_pos ex,(Classical.choose_spec ex).uniq g]
theorem Fin.ways(h:Fin T S C)(hs:Simple T){e:Int}(he:deg T e≠2):((K02.near T e).map (wf T e)).Perm (wys S e):=by
 have:=(h.near hs he).map (wf T e);rw[qu]at this
 have id':(wys S e).map (wf T e∘λw=>w.getD 1 0)=wys S e:=by
  have:∀w∈wys S e,(wf T e∘λw=>w.getD 1 0) w=w:=λw hw=>by
   obtain⟨b,r,rfl,g⟩:=h.way hs hw;exact zu5 g
  rw[x9 this,ycg]
 rw[id']at this;exact this
theorem Fin.go(h:Fin T S C)(hs:Simple T){e f:Int}(he:deg T e≠2)(hf:f∈K02.near T e):∃r,Go T e f r/\e::f::r∈wys S e:=by
 have:=(h.near hs he).mem_iff.mp hf;refine zKK λγ κ=>?_;obtain⟨w,hw,e1⟩:=yz.mp this;obtain⟨b,r,rfl,g⟩:=h.way hs hw;have:b=f:=e1;subst this;refine κ ?_;exact⟨r,g,hw⟩
noncomputable def ln(p:List Int):Nat:=p.length - 1
theorem ziq{a:Int}(g:Nat):∀{E:List Int},E.Nodup->a∈E->(E.map λe=>if a=e then g else 0).sum=g
 | [],_,h=>by cases h
 | x::E,nd,h=>by
  rw[yo,xq];rw[xw]at nd;by_cases k:a=x
  ·subst k
   have z:(E.map λe=>if a=e then g else 0).sum=0:=by
    have:∀E:List Int,a∉E->(E.map λe=>if a=e then g else 0).sum=0:=λE=>by
     induction E with
     | nil=>intro _;rfl
     | cons y E ih =>
      intro h;rw[yo,xq,if_neg (λk=>h (by rw[k];exact yg)),ih λk=>h (yf _ k)]
    exact this E nd.1
   rw[if_pos rfl,z,ydq]
  ·rw[if_neg k,vm,ziq g nd.2]
   rcases yn.mp h with z | z
   ·exact absurd z k
   ·exact z
theorem zil(f g:Int->Nat):∀E:List Int,(E.map λe=>f e+g e).sum=(E.map f).sum+(E.map g).sum
 | []=>rfl
 | x::E=>by simp only[yo,xq,zil f g E];lia
theorem zo8{E:List Int}(nd:E.Nodup):∀{S:List (List Int)},(∀p∈S,fst p∈E/\lst p∈E)->(E.map λe=>((wys S e).map ln).sum).sum=2*(S.map ln).sum
 | [],_=>by
  have:∀E:List Int,(E.map λe=>((wys [] e).map ln).sum).sum=0:=λE=>by
   induction E with
   | nil=>rfl
   | cons x E ih=>rw[yo,xq,ih];rfl
  rw[this];rfl
 | p::S,h=>by
  obtain⟨h1,h2⟩:=h p yg;have ih:=zo8 nd (S:=S) λq hq=>h q (yf _ hq)
  have e1:(E.map λe=>((wys (p::S) e).map ln).sum)=E.map λe=>((if fst p=e then ln p else 0)+(if lst p=e then ln p else 0))+((wys S e).map ln).sum:=by
   refine x9 λe _=>?_
   unfold wys;rw[qy,qb,u5,qb,u5];congr 2
   ·split <;> simp
   ·split
    ·simp[ln]
    ·simp
  rw[e1,zil,zil,ziq _ nd h1,ziq _ nd h2,ih,yo,xq];lia
theorem Dec.size(h:Dec T S):T.length=(S.map ln).sum:=by
 rw[← h.perm.length_eq]
 have:∀S:List (List Int),(∀p∈S,2<=p.length)->(S.flatMap edg).length=(S.map ln).sum:=λS=>by
  induction S with
  | nil=>intro _;rfl
  | cons p S ih =>
   intro h;have e:=zny p (h p yg);rw[qy,yu,ih λq hq=>h q (yf _ hq),yo,xq];unfold ln;lia
 exact this S h.len
theorem Fin.sum(h:Fin T S C)(hs:Simple T){E:List Int}(nd:E.Nodup)(hE:∀p∈S,fst p∈E/\lst p∈E)(hd:∀e∈E,deg T e≠2):(E.map λe=>((K02.near T e).map λf=>ln (wf T e f)).sum).sum=2*T.length↔C=[]:=by
 have e1:(E.map λe=>((K02.near T e).map λf=>ln (wf T e f)).sum)=E.map λe=>((wys S e).map ln).sum:=by
  refine x9 λe he=>?_
  have:=((h.ways hs (hd e he)).map ln).sum_nat;rw[qu]at this;exact this
 rw[e1,zo8 nd hE,h.dec.size,qb,u5];constructor
 ·intro k
  cases C with
  | nil=>rfl
  | cons p C =>
   have l2:=h.dec.len p (qx _ yg);rw[yo,xq]at k;have:1<=ln p:=by unfold ln;lia
   lia
 ·intro k
  subst k;simp
end
theorem ze1(v:Int):∀(p:List Int),2<=p.length->Steps p->(near (edg p) v).length=(ats p v).length+2*(mid p).count v
 | [],h,_=>by simp at h
 | [_],h,_=>by simp at h
 | [a,b],h,hs=>by
  have:=(zd1 v [a,b] h hs (by simp[mid])).length_eq;rw[this];simp[mid]
 | a::b::c::r,_,hs=>by
  have ih:=ze1 v (b::c::r) (by simp) hs.2;have e:edg (a::b::c::r)=[nrm a b]++edg (b::c::r):=rfl;rw[e,(zdt _ _ v).length_eq,yu,ih,zdp hs.1]
  have em:mid (a::b::c::r)=b::mid (b::c::r):=by
   unfold mid;rw[qj (by simp),wt,qj (by simp),wt]
  have e3:(a::b::c::r).reverse.getD 1 0=(b::c::r).reverse.getD 1 0:=by
   rw[jp (a:=a),y3,y3,xc (by simp)]
  have l1:(ats (a::b::c::r) v).length=(if a=v then 1 else 0)+(if lst (b::c::r)=v then 1 else 0):=by
   unfold ats;rw[zkt,yu];congr 1
   ·show(if a=v then _ else _:List Int).length=_
    split <;> rfl
   ·split <;> rfl
  have l2:(ats (b::c::r) v).length=(if b=v then 1 else 0)+(if lst (b::c::r)=v then 1 else 0):=by
   unfold ats;rw[yu];congr 1
   ·show(if b=v then _ else _:List Int).length=_
    split <;> rfl
   ·split <;> rfl
  rw[l1,l2,em,u8];have hab:=hs.1;by_cases h1:v=a
  ·subst h1
   simp[xg hab];lia
  ·by_cases h2:v=b
   ·subst h2
    simp[hab,h1];lia
   ·simp[h1,h2,xg h1,xg h2]
section
variable {T:List Dt} {S R C:List (List Int)} {p q:List Int}
theorem Dec.of_perm(h:Dec T S)(k:S.Perm R):Dec T R:=⟨λp hp=>h.len p (k.mem_iff.mpr hp),((k.flatMap_right edg).symm).trans h.perm,λp hp=>h.mid p (k.mem_iff.mpr hp)⟩
theorem zsc(p:List Int):mid p.reverse=(mid p).reverse:=by
 unfold mid;rw[List.dropLast_reverse,List.tail_reverse,List.tail_dropLast]
theorem Dec.rev(h:Dec T (p::R))(hs:Simple T):Dec T (p.reverse::R):=by
 have hp:p∈p::R:=yg;refine⟨λq hq=>?_,?_,λq hq=>?_⟩
 ·rcases yn.mp hq with rfl | hq
  ·rw[wa];exact h.len p hp
  ·exact h.len q (yf _ hq)
 ·have:=h.perm
  rw[qy]at this ⊢;exact((zl9 p (h.steps hs hp)).append_right _).trans this
 ·rcases yn.mp hq with rfl | hq
  ·intro v hv
   rw[zsc,yez]at hv;exact h.mid p hp v hv
  ·exact h.mid q (yf _ hq)
noncomputable def glue(p q:List Int):List Int:=p++q.tail
theorem zfa(hp:2<=p.length)(hq:2<=q.length)(e:lst p=fst q):edg (glue p q)=edg p++edg q/\(∀v∈mid (glue p q),v∈mid p\/v=fst q\/v∈mid q)/\fst (glue p q)=fst p/\lst (glue p q)=lst q/\2<=(glue p q).length:=by
 obtain⟨pre,z,rfl⟩:∃pre z,p=pre++[z]:=⟨p.dropLast,p.getLast (by intro k;subst k;simp at hp),(yb9 _).symm⟩;obtain⟨b,r,hq'⟩:=zmy hq;have hz:z=fst q:=by rw[← e];unfold lst;simp[jg]
 subst hz;have hpre:pre≠[]:=λk=>by subst k;simp at hp
 obtain⟨a,pre',rfl⟩:=List.exists_cons_of_ne_nil hpre
 have eg:glue (a::pre'++[fst q]) q=a::pre'++fst q::b::r:=by
  unfold glue;rw[hq'];simp[fst]
 refine⟨?_,?_,?_,?_,?_⟩
 ·rw[eg,zc5,← hq']
 ·intro v hv
  rw[eg]at hv
  have m1:mid (a::pre'++fst q::b::r)=pre'++fst q::(b::r).dropLast:=by
   unfold mid;rw[vt,qj (by simp),wt,wy (by simp),qj (by simp)]
  have m2:mid (a::pre'++[fst q])=pre':=by
   unfold mid;rw[List.dropLast_concat,wt]
  have m3:mid q=(b::r).dropLast:=by
   unfold mid;rw[hq',qj (by simp),wt]
  rw[m1]at hv;rw[m2,m3];rcases qt.mp hv with k | k
  ·exact .inl k
  ·rcases yn.mp k with k | k
   ·exact .inr (.inl k)
   ·exact .inr (.inr k)
 ·rw[eg];rfl
 ·have:∀(l m:List Int),m≠[]->lst (l++m)=lst m:=λl m hm=>by
   unfold lst;rw[jg,jg,List.getLast?_append];cases h:m.getLast? with
   | none=>exact absurd (List.getLast?_eq_none_iff.mp h) hm
   | some x=>rfl
  rw[eg,this _ _ (by simp),← hq']
 ·rw[eg];simp;lia
theorem Dec.glue(h:Dec T (p::q::R))(e:lst p=fst q)(d:deg T (fst q)=2):Dec T (KN.glue p q::R):=by
 have hp:p∈p::q::R:=yg;have hq:q∈p::q::R:=yf _ yg;obtain⟨g1,g2,g3,g4,g5⟩:=zfa (h.len p hp) (h.len q hq) e;refine⟨λx hx=>?_,?_,λx hx v hv=>?_⟩
 ·rcases yn.mp hx with rfl | hx
  ·exact g5
  ·exact h.len x (yf _ (yf _ hx))
 ·have:=h.perm
  rw[qy,qy,← xb]at this;rw[qy,g1];exact this
 ·rcases yn.mp hx with rfl | hx
  ·rcases g2 v hv with k | k | k
   ·exact h.mid p hp v k
   ·rw[k];exact d
   ·exact h.mid q hq v k
  ·exact h.mid x (yf _ (yf _ hx)) v hv
theorem zbm(p:List Int)(v:Int):(ats p v).length=(if fst p=v then 1 else 0)+(if lst p=v then 1 else 0):=by
 unfold ats;rw[yu];congr 1
 ·split <;> rfl
 ·split <;> rfl
theorem Dec.touch(h:Dec T S)(hs:Simple T)(v:Int):deg T v=(S.map λp=>(ats p v).length+2*(KN.mid p).count v).sum:=by
 have:=(zeq h.perm v).symm.trans (zd2 v S);show(K02.near T v).length=_;rw[this.length_eq]
 have:∀R:List (List Int),(∀p∈R,p∈S)->(R.flatMap λp=>K02.near (edg p) v).length=(R.map λp=>(ats p v).length+2*(KN.mid p).count v).sum:=λR=>by
  induction R with
  | nil=>intro _;rfl
  | cons p R ih =>
   intro hR;have hp:=hR p yg;rw[qy,yu,yo,xq,ze1 v p (h.len p hp) (h.steps hs hp),ih λq hq=>hR q (yf _ hq)]
 exact this S λp hp=>hp
theorem Dec.other(h:Dec T (p::R))(hs:Simple T)(d:deg T (lst p)=2)(ne:fst p≠lst p):∃q s t,R=s++q::t/\((fst q=lst p/\lst q≠lst p)\/(lst q=lst p/\fst q≠lst p))/\∀x∈s++t,fst x≠lst p/\lst x≠lst p:=by
 have t:=h.touch hs (lst p);rw[d,yo,xq,zbm,if_neg ne,if_pos rfl]at t
 have rest:∀R:List (List Int),(R.map λp'=>(ats p' (lst p)).length+2*(KN.mid p').count (lst p)).sum=1->∃q s t,R=s++q::t/\((fst q=lst p/\lst q≠lst p)\/(lst q=lst p/\fst q≠lst p))/\∀x∈s++t,fst x≠lst p/\lst x≠lst p:=λR=>by
  induction R with
  | nil=>intro k;simp at k
  | cons x R ih =>
   intro k;rw[yo,xq]at k
   have yk:∀Q:List (List Int),(Q.map λp'=>(ats p' (lst p)).length+2*(KN.mid p').count (lst p)).sum=0->∀y∈Q,fst y≠lst p/\lst y≠lst p:=λQ=>by
    induction Q with
    | nil=>intro _ y hy;cases hy
    | cons z Q ih =>
     intro k y hy;rw[yo,xq]at k;rcases yn.mp hy with rfl | hy
     ·have:(ats y (lst p)).length=0:=by lia
      rw[zbm]at this;constructor
      ·intro e;rw[if_pos e]at this;lia
      ·intro e;rw[if_pos e]at this;lia
     ·exact ih (by lia) y hy
   by_cases z:(ats x (lst p)).length+2*(KN.mid x).count (lst p)=0
   ·obtain⟨q,s,t,e,a,b⟩:=ih (by lia)
    refine⟨q,x::s,t,by rw[e];rfl,a,λy hy=>?_⟩;rcases yn.mp hy with rfl | hy
    ·have:(ats y (lst p)).length=0:=by lia
     rw[zbm]at this;constructor
     ·intro e;rw[if_pos e]at this;lia
     ·intro e;rw[if_pos e]at this;lia
    ·exact b y hy
   ·refine⟨x,[],R,rfl,?_,λy hy=>yk R (by lia) y hy⟩
    have:(ats x (lst p)).length=1:=by lia
    rw[zbm]at this;by_cases e1:fst x=lst p
    ·by_cases e2:lst x=lst p
     ·rw[if_pos e1,if_pos e2]at this;lia
     ·exact .inl ⟨e1,e2⟩
    ·by_cases e2:lst x=lst p
     ·exact .inr ⟨e2,e1⟩
     ·rw[if_neg e1,if_neg e2]at this;lia
 exact rest R (by lia)
theorem finish(hs:Simple T):∀(k:Nat) (S C:List (List Int)),S.length=k->Dec T (S++C)->(∀p∈C,fst p=lst p/\deg T (fst p)=2)->∃S' C',Fin T S' C'/\(C≠[]->C'≠[])
 | 0,S,C,hk,h,hC=>by
  have:S=[]:=j5.mp hk;subst this;exact⟨[],C,⟨h,(λ_ z=>by cases z),hC⟩,id⟩
 | k+1,S,C,hk,h,hC=>by
  by_cases done:∀p∈S,deg T (fst p)≠2/\deg T (lst p)≠2
  ·exact⟨S,C,⟨h,done,hC⟩,id⟩
  ·-- a way whose last place has two edges
   have ex:∃p R,2<=p.length/\R.length=k/\Dec T (p::(R++C))/\deg T (lst p)=2:=by
    obtain⟨p,hp,hbad⟩:∃p∈S,deg T (fst p)=2\/deg T (lst p)=2:=by
     apply xf;intro no;exact done λp hp=>⟨λe=>no ⟨p,hp,.inl e⟩,λe=>no ⟨p,hp,.inr e⟩⟩
    obtain⟨s,t,rfl⟩:=wg hp;have hl:(s++t).length=k:=by simp at hk ⊢;lia
    have h':Dec T (p::(s++t++C)):=h.of_perm (by
     rw[xb,xb];exact j7)
    have l2:=h'.len p yg;rcases hbad with e | e
    ·exact⟨p.reverse,s++t,by rw[wa];exact l2,hl,h'.rev hs,by rw[zet l2];exact e⟩
    ·exact⟨p,s++t,l2,hl,h',e⟩
   obtain⟨p,R,l2,hR,h',d⟩:=ex;by_cases c:fst p=lst p
   ·obtain⟨S',C',f,g⟩:=finish hs k R (p::C) hR (h'.of_perm j7.symm) λq hq=>by
     rcases yn.mp hq with rfl | hq
     ·exact⟨c,by rw[c];exact d⟩
     ·exact hC q hq
    exact⟨S',C',f,λ_=>g (by simp)⟩
   ·obtain⟨q,s,t,e,a,b⟩:=h'.other hs d c
    -- q is no ring
    have qR:q∈R:=by
     have:q∈R++C:=by rw[e];simp
     rcases qt.mp this with z | z
     ·exact z
     ·have:=(hC q z).1
      rcases a with⟨a1,a2⟩ | ⟨a1,a2⟩
      ·exact absurd (this.symm.trans a1) a2
      ·exact absurd (this.trans a1) a2
    obtain⟨s',t',rfl⟩:=wg qR
    have h2:Dec T (p::q::(s'++t'++C)):=h'.of_perm (by
     refine List.Perm.cons _ ?_;rw[xb,xb];exact j7)
    have hl:(s'++t').length+1=k:=by simp at hR ⊢;lia
    have lq:=h2.len q (yf _ yg)
    have fin:∀q',Dec T (p::q'::(s'++t'++C))->fst q'=lst p->∃S' C',Fin T S' C'/\(C≠[]->C'≠[]):=λq' h3 e3=>by
     have h4:Dec T (KN.glue p q'::(s'++t')++C):=by
      have:=h3.glue e3.symm (by rw[e3];exact d);exact this
     exact finish hs k (KN.glue p q'::(s'++t')) C (by simp at hl ⊢;lia) h4 hC
    rcases a with⟨a1,_⟩ | ⟨a1,_⟩
    ·exact fin q h2 a1
    ·refine fin q.reverse ?_ (by rw[zek lq];exact a1)
     have h3:Dec T (q::p::(s'++t'++C)):=h2.of_perm (List.Perm.swap _ _ _);exact(h3.rev hs).of_perm (List.Perm.swap _ _ _)
end
noncomputable def oth(P:List Dt)(e:Int):List Int:=P.flatMap λq=>(if q.1=e then[q.2]else[])++(if q.2=e then[q.1]else[])
theorem zdj(q:Dt)(P:List Dt)(e:Int):oth (q::P) e=((if q.1=e then[q.2]else[])++(if q.2=e then[q.1]else[]))++oth P e:=rfl
theorem zc3(P Q:List Dt)(e:Int):oth (P++Q) e=oth P e++oth Q e:=wb
theorem zjp{P Q:List Dt}(h:P.Perm Q)(e:Int):(oth P e).Perm (oth Q e):=h.flatMap_right _
theorem zg4(a b:Int)(c:Prop)[Decidable c]:(if c then[a]else[]).count b=if c/\a=b then 1 else 0:=by
 by_cases h:c
 ·rw[if_pos h]
  by_cases k:a=b
  ·rw[if_pos ⟨h,k⟩,k];simp
  ·rw[if_neg λz=>k z.2];simp[k]
 ·rw[if_neg h,if_neg λz=>h z.1];rfl
theorem zc1(a b:Int):∀P:List Dt,(oth P a).count b=P.count (a,b)+P.count (b,a)
 | []=>rfl
 | (x,y)::P=>by
  rw[zdj,vg,vg,zg4,zg4,zc1 a b P,u8,u8];simp only[beq_iff_eq,Prod.mk.injEq];have e:(if y=a/\x=b then 1 else 0:Nat)=if x=b/\y=a then 1 else 0:=by simp only[and_comm]
  rw[e];generalize (if x=a/\y=b then 1 else 0:Nat)=u;generalize (if x=b/\y=a then 1 else 0:Nat)=v;lia
theorem zgb{P Q:List Dt}(hP:∀q∈P,q.1<=q.2)(hQ:∀q∈Q,q.1<=q.2)(h:∀e,(oth P e).Perm (oth Q e)):P.Perm Q:=by
 rw[List.perm_iff_count];rintro⟨a,b⟩;have c:=(h a).count_eq b;rw[zc1,zc1]at c
 have zero:∀{R:List Dt} {x y:Int},(∀q∈R,q.1<=q.2)->y<x->R.count (x,y)=0:=λhR l=>ycn.mpr λk=>by
  have:=hR _ k;simp only at this;lia
 rcases Int.lt_trichotomy a b with l | l | l
 ·rw[zero hP l,zero hQ l]at c;lia
 ·subst l;lia
 ·rw[zero hP l,zero hQ l]
noncomputable def two:List Int->List Dt
 | []=>[]
 | x::r=>r.map (λy=>(x,y))++two r
theorem zm1(x e:Int):∀r:List Int,x∉r->r.Nodup->oth (r.map λy=>(x,y)) e=if e=x then r else if e∈r then[x]else[]
 | [],_,_=>by simp[oth]
 | y::r,h,nd=>by
  have h1:x≠y:=λk=>h (k▸yg)
  have h2:x∉r:=λk=>h (yf _ k)
  obtain⟨n1,n2⟩:=xw.mp nd;rw[yo,zdj,zm1 x e r h2 n2];by_cases k:e=x
  ·subst k
   rw[if_pos rfl,if_pos rfl,if_pos rfl,if_neg (xg h1)];rfl
  ·rw[if_neg (xg k),if_neg k,if_neg k]
   by_cases k2:e=y
   ·subst k2
    rw[if_pos rfl,if_neg n1,if_pos yg];rfl
   ·rw[if_neg (xg k2)]
    simp only[yn,k2,false_or,ya0]
theorem zfr(e:Int):∀E:List Int,E.Nodup->e∈E->(oth (two E) e).Perm (E.filter λx=>!decide (x=e))
 | [],_,h=>by cases h
 | x::r,nd,h=>by
  obtain⟨n1,n2⟩:=xw.mp nd;rw[two,zc3,zm1 x e r n1 n2]
  have yk:∀E:List Int,e∉E->oth (two E) e=[]:=λE=>by
   induction E with
   | nil=>intro _;rfl
   | cons y E ih =>
    intro k;have k1:e≠y:=λz=>k (z▸yg)
    have k2:e∉E:=λz=>k (yf _ z)
    rw[two,zc3,ih k2,qr];unfold oth;rw[ybc];intro q hq;obtain⟨z,hz,rfl⟩:=yz.mp hq;have:z≠e:=λw=>k2 (w▸hz)
    rw[if_neg (xg k1),if_neg this];rfl
  by_cases k:e=x
  ·subst k
   rw[if_pos rfl,yk r n1,qr,xy (by simp),ycd.mpr];intro a ha;simp only[xt,decide_eq_false_iff_not];exactλz=>n1 (z▸ha)
  ·have he:e∈r:=(yn.mp h).resolve_left k
   rw[if_neg k,if_pos he,xm (by simp[xg k])];exact(zfr e r n2 he).cons x
theorem zeu{P:List Dt}{e:Int}(h:∀q∈P,q.1≠e/\q.2≠e):oth P e=[]:=by
 unfold oth;rw[ybc];intro q hq;rw[if_neg (h q hq).1,if_neg (h q hq).2];rfl
theorem zjd{P:List Dt}{e x:Int}:x∈oth P e↔(e,x)∈P\/(x,e)∈P:=by
 have:=zc1 e x P;rw[← uw,this,← uw,← uw];lia
theorem zd3{q:Dt}:∀{E:List Int},q∈two E->q.1∈E/\q.2∈E
 | [],h=>by cases h
 | x::r,h=>by
  rw[two]at h;rcases qt.mp h with h | h
  ·obtain⟨y,hy,rfl⟩:=yz.mp h
   exact⟨yg,yf _ hy⟩
  ·exact⟨yf _ (zd3 h).1,yf _ (zd3 h).2⟩
theorem zn9{q:Dt}:∀{E:List Int},E.Pairwise (· < ·)->q∈two E->q.1<q.2
 | [],_,h=>by cases h
 | x::r,p,h=>by
  rw[two]at h;rw[xj]at p;rcases qt.mp h with h | h
  ·obtain⟨y,hy,rfl⟩:=yz.mp h
   exact p.1 y hy
  ·exact zn9 p.2 h
noncomputable def ord(a b:Int):Dt:=if b<a then(b,a)else(a,b)
theorem zh6(a b:Int):(ord a b).1<=(ord a b).2:=by
 unfold ord;split <;> simp only <;> lia
noncomputable def due(A B:List Int):List Dt:=A.flatMap λa=>B.map λb=>ord a b
theorem zma(a b e:Int)(h:a≠b):oth [ord a b] e=if e=a then[b]else if e=b then[a]else[]:=by
 unfold ord;by_cases k:b<a
 ·rw[if_pos k]
  by_cases h1:e=a
  ·subst h1;simp[oth,xg h]
  ·by_cases h2:e=b
   ·subst h2;simp[oth,h,xg h,h1]
   ·simp[oth,h1,h2,xg h1,xg h2]
 ·rw[if_neg k]
  by_cases h1:e=a
  ·subst h1;simp[oth,xg h]
  ·by_cases h2:e=b
   ·subst h2;simp[oth,h,xg h,h1]
   ·simp[oth,h1,h2,xg h1,xg h2]
theorem zop(a e:Int):∀B:List Int,a∉B->B.Nodup->oth (B.map λb=>ord a b) e=if e=a then B else if e∈B then[a]else[]
 | [],_,_=>by simp[oth]
 | y::r,h,nd=>by
  have h1:a≠y:=λk=>h (k▸yg)
  have h2:a∉r:=λk=>h (yf _ k)
  obtain⟨n1,n2⟩:=xw.mp nd;rw[yo,show ord a y::r.map (λb=>ord a b)=[ord a y]++r.map (λb=>ord a b)from rfl,zc3,zop a e r h2 n2,zma a y e h1];by_cases k:e=a
  ·subst k
   rw[if_pos rfl,if_pos rfl,if_pos rfl];rfl
  ·rw[if_neg k,if_neg k,if_neg k]
   by_cases k2:e=y
   ·subst k2
    rw[if_pos rfl,if_neg n1,if_pos yg];rfl
   ·rw[if_neg k2]
    simp only[yn,k2,false_or,ya0]
theorem zf2(e:Int){B:List Int}(nB:B.Nodup):∀{A:List Int},A.Nodup->(∀a∈A,a∉B)->oth (due A B) e=if e∈A then B else if e∈B then A else[]
 | [],_,_=>by
  show([]:List Int)=_;rw[if_neg (by simp)];split <;> rfl
 | x::A,nA,dj=>by
  obtain⟨n1,n2⟩:=xw.mp nA;have hx:=dj x yg;have ih:=zf2 e nB n2 λa ha=>dj a (yf _ ha)
  show oth ((B.map λb=>ord x b)++due A B) e=_;rw[zc3,zop x e B hx nB,ih];by_cases k:e=x
  ·subst k
   rw[if_pos rfl,if_neg n1,if_neg hx,if_pos yg,qr]
  ·rw[if_neg k]
   by_cases k2:e∈A
   ·have:e∉B:=dj e (yf _ k2)
    rw[if_pos k2,if_neg this,if_pos (yf _ k2)];rfl
   ·rw[if_neg k2]
    have:¬e∈x::A:=λz=>(yn.mp z).elim k k2
    rw[if_neg this];by_cases k3:e∈B
    ·rw[if_pos k3,if_pos k3,if_pos k3];rfl
    ·rw[if_neg k3,if_neg k3,if_neg k3];rfl
open PY K01 K02 K20 L2
noncomputable def J(P:List Dt)(e:Int):List Int:=sortI (oth P e)
noncomputable def Well(P:List Dt)(E:List Int):Prop:=∀e∈E,J P e=E.filter λx=>!decide (J P x=J P e)
section
variable {P:List Dt} {E:List Int}
noncomputable abbrev Ris (E:List Int):Prop:=E.Pairwise (· < ·)
theorem Ris.nd(h:Ris E):E.Nodup:=h.imp λ{a b} k z=>by lia
theorem zxl{e:Int}{l:List Int}(h:(oth P e).Perm l)(r:Ris l):J P e=l :=
 zaq ((zk _).trans h) (za7 _) (r.imp λk=>by lia)
theorem zeh(P:List Dt)(e:Int):(J P e).Perm (oth P e):=zk _
theorem Ris.filter(h:Ris E)(p:Int->Bool):Ris (E.filter p):=h.sublist yea
theorem znx:∀{E:List Int} {e:Int},E.Nodup->e∈E->(E.filter λx=>!decide (x=e)).length+1=E.length
 | [],_,_,h=>by cases h
 | x::r,e,nd,h=>by
  obtain⟨n1,n2⟩:=xw.mp nd;by_cases k:e=x
  ·subst k
   rw[xy (by simp),ycd.mpr,qf];intro a ha;simp only[xt,decide_eq_false_iff_not];exactλz=>n1 (z▸ha)
  ·rw[xm (by simp[xg k]),qf,qf,znx n2 ((yn.mp h).resolve_left k)]
theorem zbc{p q:Int->Bool}(h:∀x,p x=yl->q x=yl):∀E:List Int,(E.filter p).Sublist (E.filter q)
 | []=>.slnil
 | x::r=>by
  by_cases k:p x=yl
  ·rw[xm k,xm (h x k)]
   exact(zbc h r).cons₂ _
  ·rw[xy k]
   by_cases k2:q x=yl
   ·rw[xm k2];exact(zbc h r).cons _
   ·rw[xy k2];exact zbc h r
theorem zap(p:Int->Bool):∀E:List Int,(E.filter p).length+(E.filter λx=>!p x).length=E.length
 | []=>rfl
 | x::r=>by
  have ih:=zap p r;by_cases k:p x=yl
  ·rw[xm k,xy (by simp[k]),qf,qf];lia
  ·rw[xy k,xm (by simp[k]),qf,qf];lia
theorem ztb(r:Ris E)(h:P.Perm (two E)):(∀e∈E,(oth P e).length+1=E.length)/\Well P E:=by
 have o:∀e∈E,(oth P e).Perm (E.filter λx=>!decide (x=e)):=λe he=>(zjp h e).trans (zfr e E r.nd he)
 have j:∀e∈E,J P e=E.filter λx=>!decide (x=e):=λe he=>zxl (o e he) (r.filter _)
 refine⟨λe he=>by rw[(o e he).length_eq,znx r.nd he],λe he=>?_⟩
 conv=>lhs;rw[j e he]
 refine jr λx hx=>?_
 congr 1;rw[decide_eq_decide];refine⟨λk=>by rw[k],λk=>?_⟩;rw[j e he,j x hx]at k;apply xf;intro ne;have:x∈E.filter λy=>!decide (y=e):=qa.mpr ⟨hx,by simp[ne]⟩
 rw[← k]at this;simp at this
theorem zt1(r:Ris E)(hP:∀q∈P,q.1<=q.2/\q.1∈E/\q.2∈E)(l:∀e∈E,(oth P e).length+1=E.length)(w:Well P E):P.Perm (two E):=by
 refine zgb (λq hq=>(hP q hq).1) (λq hq=>by have:=zn9 r hq;lia) λe=>?_
 by_cases he:e∈E
 ·refine List.Perm.trans ?_ (zfr e E r.nd he).symm
  refine(zeh P e).symm.trans ?_;rw[w e he]
  have s:=zbc (p:=λx=>!decide (J P x=J P e)) (q:=λx=>!decide (x=e)) (λx hx=>by
   simp only[xt,decide_eq_false_iff_not]at hx ⊢;exactλk=>hx (by rw[k])) E
  rw[s.eq_of_length];have a:=congrArg uc (w e he);have b:=znx r.nd he;have c:=(zeh P e).length_eq;have d:=l e he;lia
 ·rw[zeu (P:=P),zeu (P:=two E)]
  ·intro q hq;have:=zd3 hq;exact⟨λk=>he (k▸this.1),λk=>he (k▸this.2)⟩
  ·intro q hq;have:=(hP q hq).2;exact⟨λk=>he (k▸this.1),λk=>he (k▸this.2)⟩
theorem zrk(r:Ris E)(l:E.length=6){Y:List Int}{p:Int->Bool}(hY:Y=E.filter p)(lY:Y.length=3)(h:P.Perm (due (E.filter λx=>!p x) Y)) :
  (∀e∈E,(oth P e).length=3)/\Well P E:=by
 generalize hM:(E.filter λx=>!p x)=M at h;have rY:Ris Y:=by rw[hY];exact r.filter _
 have rM:Ris M:=by rw[← hM];exact r.filter _
 have lM:M.length=3:=by have:=zap p E;rw[← hY,hM]at this;lia
 have inY:∀{e},e∈Y↔e∈E/\p e=yl:=λ{e}=>by rw[hY];exact qa
 have inM:∀{e},e∈M↔e∈E/\p e=yi:=λ{e}=>by rw[← hM,qa];simp
 have dj:∀a∈M,a∉Y:=λa ha hb=>by have:=(inY.mp hb).2;rw[(inM.mp ha).2]at this;cases this
 have o:∀e,(oth P e).Perm (if e∈M then Y else if e∈Y then M else[]):=λe=>by
  have:=zjp h e;rw[zf2 e rY.nd rM.nd dj]at this;exact this
 have jM:∀e∈M,J P e=Y:=λe he=>zxl (by have:=o e;rw[if_pos he]at this;exact this) rY
 have jY:∀e∈Y,J P e=M:=λe he=>zxl (by have:=o e;rw[if_neg (λk=>dj e k he),if_pos he]at this;exact this) rM
 have ne:Y≠M:=λk=>by
  obtain⟨x,hx⟩:=va (l:=M) (by lia);exact dj x hx (k▸hx)
 have either:∀e∈E,e∈M\/e∈Y:=λe he=>by
  cases k:p e with
  | true=>exact .inr (inY.mpr ⟨he,k⟩)
  | false=>exact .inl (inM.mpr ⟨he,k⟩)
 constructor
 ·intro e he
  rw[← (zeh P e).length_eq];rcases either e he with k | k
  ·rw[jM e k];exact lY
  ·rw[jY e k];exact lM
 ·intro e he
  rcases either e he with k | k
  ·rw[jM e k]
   conv=>lhs;rw[hY]
   refine jr λx hx=>?_
   rcases either x hx with z | z
   ·rw[jM x z,(inM.mp z).2];simp
   ·rw[jY x z,(inY.mp z).2];simp[xg ne]
  ·rw[jY e k]
   conv=>lhs;rw[← hM]
   refine jr λx hx=>?_
   rcases either x hx with z | z
   ·rw[jM x z,(inM.mp z).2];simp[ne]
   ·rw[jY x z,(inY.mp z).2];simp
theorem zrn(r:Ris E)(l:E.length=6){e0:Int}(h0:e0∈E)(hP:∀q∈P,q.1<=q.2/\q.1∈E/\q.2∈E)(l3:∀e∈E,(oth P e).length=3)(w:Well P E) :
  (E.filter λx=>decide (ord e0 x∈P)).length=3/\P.Perm (due (E.filter λx=>!decide (ord e0 x∈P)) (E.filter λx=>decide (ord e0 x∈P))):=by
 have j3:∀e∈E,(J P e).length=3:=λe he=>by rw[(zeh P e).length_eq];exact l3 e he
 have inP:∀x,ord e0 x∈P↔x∈J P e0:=λx=>by
  rw[(zeh P e0).mem_iff,zjd];unfold ord;split
  ·refine⟨.inr,λk=>k.resolve_left λz=>?_⟩
   have:=(hP _ z).1;simp only at this;lia
  ·rename_i k
   refine⟨.inl,λz=>?_⟩;rcases z with z | z
   ·exact z
   ·have:=(hP _ z).1;simp only at this
    have:e0=x:=by lia
    subst this;exact z
 have eY:(E.filter λx=>decide (ord e0 x∈P))=J P e0:=by
  have:=w e0 h0
  conv=>rhs;rw[this]
  refine jr λx hx=>?_
  by_cases k:J P x=J P e0
  ·have:x∉J P e0:=λz=>by
    rw[w e0 h0]at z;have:=(qa.mp z).2;simp[k]at this
   simp[k,inP,this]
  ·have:x∈J P e0:=by rw[w e0 h0];exact qa.mpr ⟨hx,by simp[k]⟩
   simp[k,inP,this]
 have eM:(E.filter λx=>!decide (ord e0 x∈P))=E.filter λx=>decide (J P x=J P e0):=by
  refine jr λx hx=>?_
  by_cases k:J P x=J P e0
  ·have:x∉J P e0:=λz=>by
    rw[w e0 h0]at z;have:=(qa.mp z).2;simp[k]at this
   simp[k,inP,this]
  ·have:x∈J P e0:=by rw[w e0 h0];exact qa.mpr ⟨hx,by simp[k]⟩
   simp[k,inP,this]
 rw[eM,eY];refine⟨j3 e0 h0,?_⟩;generalize hM:(E.filter λx=>decide (J P x=J P e0))=M;have rY:Ris (J P e0):=by rw[w e0 h0];exact r.filter _
 have rM:Ris M:=by rw[← hM];exact r.filter _
 have lM:M.length=3:=by
  have:=zap (λx=>decide (J P x=J P e0)) E;rw[hM]at this;have h3:=j3 e0 h0;rw[w e0 h0]at h3;lia
 have inM:∀{e},e∈M↔e∈E/\J P e=J P e0:=λ{e}=>by rw[← hM,qa];simp
 have inY:∀{e},e∈J P e0↔e∈E/\J P e≠J P e0:=λ{e}=>by
  conv=>lhs;rw[w e0 h0]
  rw[qa];simp
 have jY:∀y∈J P e0,J P y=M:=λy hy=>by
  obtain⟨y1,y2⟩:=inY.mp hy
  have s:M.Sublist (J P y):=by
   rw[← hM]
   conv=>rhs;rw[w y y1]
   refine zbc (λx hx=>?_) E;simp only[decide_eq_true_eq,xt,decide_eq_false_iff_not]at hx ⊢;rw[hx];exact xg y2
  exact(s.eq_of_length (by rw[lM,j3 y y1])).symm
 have dj:∀a∈M,a∉J P e0:=λa ha hb=>(inY.mp hb).2 (inM.mp ha).2
 have le:∀q∈due M (J P e0),q.1<=q.2:=λq hq=>by
  obtain⟨a,_,hq⟩:=j8.mp hq;obtain⟨b,_,rfl⟩:=yz.mp hq;exact zh6 a b
 refine zgb (λq hq=>(hP q hq).1) le λe=>?_
 rw[zf2 e rY.nd rM.nd dj];by_cases k:e∈M
 ·rw[if_pos k,← (inM.mp k).2];exact(zeh P e).symm
 ·rw[if_neg k]
  by_cases k2:e∈J P e0
  ·rw[if_pos k2,← jY e k2];exact(zeh P e).symm
  ·rw[if_neg k2,zeu (P:=P)]
   intro q hq
   have he:e∉E:=λz=>by
    by_cases k3:J P e=J P e0
    ·exact k (inM.mpr ⟨z,k3⟩)
    ·exact k2 (inY.mpr ⟨z,k3⟩)
   have:=(hP q hq).2;exact⟨λk=>he (k▸this.1),λk=>he (k▸this.2)⟩
end
noncomputable def ep(p:List Int):Dt:=ord (fst p) (lst p)
section
variable {T:List Dt} {S C:List (List Int)}
theorem zrm(e:Int):∀S:List (List Int),(∀p∈S,2<=p.length)->(oth (S.map ep) e).Perm ((wys S e).map lst)
 | [],_=>.refl _
 | p::S,h=>by
  have ih:=zrm e S λq hq=>h q (yf _ hq)
  have l2:=h p yg;show(oth ([ep p]++S.map ep) e).Perm ((((if fst p=e then[p]else[])++(if lst p=e then[p.reverse]else[]))++wys S e).map lst);rw[zc3,qb];refine List.Perm.append ?_ ih
  have a:((if fst p=e then[p]else[])++(if lst p=e then[p.reverse]else[])).map lst=(if fst p=e then[lst p]else[])++(if lst p=e then[fst p]else[]):=by
   rw[qb];congr 1
   ·split <;> rfl
   ·split
    ·rw[List.map_singleton,zet l2]
    ·rfl
  rw[a];unfold ep ord;split
  ·show(((if lst p=e then[fst p]else[])++(if fst p=e then[lst p]else[]))++[]).Perm _
   rw[qr];exact wd
  ·show(((if fst p=e then[lst p]else[])++(if lst p=e then[fst p]else[]))++[]).Perm _
   rw[qr]
theorem Fin.len(h:Fin T S C):∀p∈S,2<=p.length:=λp hp=>h.dec.len p (jf _ hp)
noncomputable def Jw(T:List Dt)(e:Int):List Int:=sortI ((near T e).map λf=>lst (wf T e f))
theorem Fin.oth_near(h:Fin T S C)(hs:Simple T){e:Int}(he:deg T e≠2):((K02.near T e).map λf=>lst (wf T e f)).Perm (oth (S.map ep) e):=by
 have:=(h.ways hs he).map lst;rw[qu]at this;exact this.trans (zrm e S h.len).symm
theorem Fin.deg(h:Fin T S C)(hs:Simple T){e:Int}(he:deg T e≠2):(oth (S.map ep) e).length=KN.deg T e:=by
 rw[← (h.oth_near hs he).length_eq,yd]
theorem Fin.J(h:Fin T S C)(hs:Simple T){e:Int}(he:KN.deg T e≠2):Jw T e=J (S.map ep) e :=
 zaq ((zk _).trans ((h.oth_near hs he).trans (zk _).symm)) (za7 _) (za7 _)
noncomputable def IsEnd(S:List (List Int))(v:Int):Prop:=∃p∈S,fst p=v\/lst p=v
theorem Dec.end_deg(h:Dec T S)(hs:Simple T){v:Int}(k:IsEnd S v):1<=KN.deg T v:=by
 obtain⟨p,hp,e⟩:=k;rw[h.touch hs v];obtain⟨s,t,rfl⟩:=wg hp
 have:1<=(ats p v).length:=by
  rw[zbm];rcases e with e | e
  ·rw[if_pos e];lia
  ·rw[if_pos e];lia
 simp only[qb,yo,u5,xq];lia
theorem Fin.end_iff(h:Fin T S [])(hs:Simple T)(v:Int):IsEnd S v↔KN.deg T v≠0/\KN.deg T v≠2:=by
 have d:Dec T S:=by have:=h.dec;rwa[qr]at this
 constructor
 ·intro k
  have:=d.end_deg hs k;obtain⟨p,hp,e⟩:=k;refine⟨by lia,?_⟩;rcases e with e | e
  ·rw[← e];exact(h.tS p hp).1
  ·rw[← e];exact(h.tS p hp).2
 ·rintro⟨h0,h2⟩
  have:=h.deg hs h2;obtain⟨x,hx⟩:=va (l:=oth (S.map ep) v) (by lia)
  have:∃p∈S,(ep p).1=v\/(ep p).2=v:=by
   rcases zjd.mp hx with k | k
   ·obtain⟨p,hp,e⟩:=yz.mp k
    exact⟨p,hp,.inl (by rw[e])⟩
   ·obtain⟨p,hp,e⟩:=yz.mp k
    exact⟨p,hp,.inr (by rw[e])⟩
  obtain⟨p,hp,e⟩:=this;refine⟨p,hp,?_⟩;unfold ep ord at e;split at e
  ·exact e.symm
  ·exact e
noncomputable def ends(n:Nat)(T:List Dt):List Int:=((q5 n).map λ(k:Nat)=>(k:Int)).filter λp=>decide (2<deg T p)
theorem zdr(n:Nat)(T:List Dt):Ris (ends n T):=by
 unfold ends;refine Ris.filter ?_ _;show List.Pairwise _ _;rw[j4];exact ydr.imp λk=>by lia
structure Prog (n:Nat) (T:List Dt):Prop where
 one:∀p:Nat,p<n->deg T p≠1
 shape:(ends n T).map (deg T)=ja 5 4\/(ends n T).map (deg T)=ja 6 3
 sum:((ends n T).map λe=>((near T e).map λf=>ln (wf T e f)).sum).sum=2*T.length
 well:∀e∈ends n T,Jw T e=(ends n T).filter λx=>!decide (Jw T x=Jw T e)
noncomputable def Within(n:Nat)(T:List Dt):Prop:=∀v,deg T v≠0->∃p:Nat,p<n/\v=p
theorem zcv{n:Nat}(hn:Within n T){v:Int}:v∈ends n T↔2<deg T v:=by
 unfold ends;rw[qa,decide_eq_true_eq];refine⟨λk=>k.2,λk=>⟨?_,k⟩⟩;obtain⟨p,hp,rfl⟩:=hn v (by lia);exact yz.mpr ⟨p,jm.mpr hp,rfl⟩
theorem Prog.end_in{n:Nat}(g:∀p:Nat,p<n->KN.deg T p≠1)(h:Fin T S C)(hs:Simple T)(hn:Within n T){p:List Int}(hp:p∈S):fst p∈ends n T/\lst p∈ends n T:=by
 have key:∀v,IsEnd (S++C) v->KN.deg T v≠2->v∈ends n T:=λv k k2=>by
  have d1:=h.dec.end_deg hs k;obtain⟨q,hq,rfl⟩:=hn v (by lia);have:=g q hq;rw[zcv hn];lia
 have hp':=jf C hp;exact⟨key _ ⟨p,hp',.inl rfl⟩ (h.tS p hp).1,key _ ⟨p,hp',.inr rfl⟩ (h.tS p hp).2⟩
theorem zm7{n:Nat}(h:Fin T S C)(hs:Simple T)(hn:Within n T)(hC:C≠[]):¬Prog n T:=λg=>by
 have:=(h.sum hs (zdr n T).nd (λp hp=>Prog.end_in g.one h hs hn hp) λe he=>by have:=(zcv hn).mp he;lia).mp g.sum;exact hC this
noncomputable def Law(P:List Dt)(E:List Int):Prop:=(E.length=5/\P.Perm (two E))\/(E.length=6/\(E.filter λx=>decide (ord (E.headD 0) x∈P)).length=3/\P.Perm (due (E.filter λx=>!decide (ord (E.headD 0) x∈P)) (E.filter λx=>decide (ord (E.headD 0) x∈P))))
theorem zke{n:Nat}(h:Fin T S [])(hs:Simple T)(hn:Within n T){E:List Int}(r:Ris E)(hE:∀v,v∈E↔IsEnd S v):Prog n T↔Law (S.map ep) E:=by
 have dE:∀{v},v∈E->deg T v≠0/\deg T v≠2:=λ{v} hv=>(h.end_iff hs v).mp ((hE v).mp hv)
 have same:(∀p:Nat,p<n->deg T p≠1)->ends n T=E:=λg=>by
  refine K05.zrj (zdr n T) r λv=>?_
  rw[zcv hn,hE,h.end_iff hs];refine⟨λk=>by lia,λk=>?_⟩;obtain⟨q,hq,rfl⟩:=hn v k.1;have:=g q hq;lia
 have hP:∀q∈S.map ep,q.1<=q.2/\q.1∈E/\q.2∈E:=λq hq=>by
  obtain⟨p,hp,rfl⟩:=yz.mp hq;refine⟨zh6 _ _,?_⟩;have a:fst p∈E:=(hE _).mpr ⟨p,hp,.inl rfl⟩;have b:lst p∈E:=(hE _).mpr ⟨p,hp,.inr rfl⟩;unfold ep ord;split
  ·exact⟨b,a⟩
  ·exact⟨a,b⟩
 have rep:∀{m k:Nat},E.map (deg T)=ja m k↔E.length=m/\∀e∈E,(oth (S.map ep) e).length=k:=λ{m k}=>by
  rw[List.eq_replicate_iff,yd];refine and_congr_right λ_=>⟨λz e he=>?_,λz b hb=>?_⟩
  ·rw[h.deg hs (dE he).2];exact z _ (yz.mpr ⟨e,he,rfl⟩)
  ·obtain⟨e,he,rfl⟩:=yz.mp hb
   rw[← h.deg hs (dE he).2];exact z e he
 have wj:(∀e∈E,Jw T e=E.filter λx=>!decide (Jw T x=Jw T e))↔Well (S.map ep) E:=by
  unfold Well;refine forall_congr' λe=>imp_congr_right λhe=>?_
  rw[h.J hs (dE he).2,jr λx hx=>by rw[h.J hs (dE hx).2]]
 constructor
 ·intro g
  have e:=same g.one;have sh:=g.shape;have w:=g.well;rw[e]at sh w;have w':=wj.mp w;rcases sh with k | k
  ·obtain⟨k1,k2⟩:=rep.mp k
   exact .inl ⟨k1,zt1 r hP (λe he=>by rw[k2 e he,k1]) w'⟩
  ·obtain⟨k1,k2⟩:=rep.mp k
   have h0:E.headD 0∈E:=by
    cases E with
    | nil=>cases k1
    | cons x _=>exact yg
   exact .inr ⟨k1,zrn r k1 h0 hP k2 w'⟩
 ·intro g
  have key:∀{m k:Nat},2<k->((m=5/\k=4)\/(m=6/\k=3))->E.length=m->(∀e∈E,(oth (S.map ep) e).length=k)->Well (S.map ep) E->Prog n T:=λ{m k} k2 mk l a w=>by
   have one:∀p:Nat,p<n->deg T p≠1:=λp _ z=>by
    have he:(p:Int)∈E:=(hE _).mpr ((h.end_iff hs _).mpr ⟨by lia,by lia⟩);have:=a _ he;rw[h.deg hs (by lia)]at this;lia
   have e:=same one;refine⟨one,?_,(h.sum hs (zdr n T).nd (λp hp=>Prog.end_in one h hs hn hp) λe he=>by have:=(zcv hn).mp he;lia).mpr rfl,?_⟩
   ·rw[e]
    have:=rep.mpr ⟨l,a⟩;rcases mk with⟨rfl,rfl⟩ | ⟨rfl,rfl⟩
    ·exact .inl this
    ·exact .inr this
   ·rw[e];exact wj.mpr w
  rcases g with⟨l,p⟩ | ⟨l,l3,p⟩
  ·obtain⟨a,w⟩:=ztb r p
   exact key (by lia) (.inl ⟨rfl,rfl⟩) l (λe he=>by have:=a e he;lia) w
  ·obtain⟨a,w⟩:=zrk r l rfl l3 p
   exact key (by lia) (.inr ⟨rfl,rfl⟩) l a w
end
noncomputable def flat(L:List Dt):List Int:=L.flatMap λq=>[q.1,q.2]
noncomputable def tch(v:Int)(q:Dt):Bool:=q.1==v||q.2==v
theorem zcy(p:List Int):ep p=(fst p,lst p)\/ep p=(lst p,fst p):=by
 unfold ep ord;split
 ·exact .inr rfl
 ·exact .inl rfl
theorem zju(p:List Int)(v:Int):([(ep p).1,(ep p).2]:List Int).count v=(ats p v).length:=by
 rw[zbm]
 rcases zcy p with e | e <;> rw[e] <;> simp only[u8,yfc,beq_iff_eq] <;>
  by_cases a:fst p=v <;> by_cases b:lst p=v <;> simp[a,b]
theorem zbb(v:Int):∀S:List (List Int),(flat (S.map ep)).count v=(S.map λp=>(ats p v).length).sum
 | []=>rfl
 | p::S=>by
  have:=zbb v S;show(([(ep p).1,(ep p).2]:List Int)++flat (S.map ep)).count v=_;rw[vg,zju,this];rfl
theorem zmr(p:List Int)(v:Int):tch v (ep p)=decide ((ats p v).length≠0):=by
 rw[← zju];unfold tch;by_cases a:(ep p).1=v
 ·simp[a]
 ·by_cases b:(ep p).2=v
  ·simp[b,u8]
  ·simp[a,b]
theorem zch{L:List Dt}{v:Int}:v∈flat L↔∃q∈L,q.1=v\/q.2=v:=by
 unfold flat;rw[j8];refine exists_congr λq=>and_congr_right λ_=>?_
 simp[eq_comm]
section
variable {T:List Dt} {S:List (List Int)}
theorem za4(v:Int):v∈flat (S.map ep)↔IsEnd S v:=by
 rw[zch];constructor
 ·rintro⟨q,hq,e⟩
  obtain⟨p,hp,rfl⟩:=yz.mp hq;refine⟨p,hp,?_⟩;rcases zcy p with k | k <;> rw[k]at e
  ·exact e
  ·exact e.symm
 ·rintro⟨p,hp,e⟩
  refine⟨ep p,yz.mpr ⟨p,hp,rfl⟩,?_⟩;rcases zcy p with k | k <;> rw[k]
  ·exact e
  ·exact e.symm
theorem zcf(v:Int):∀S:List (List Int),(S.map λp=>(ats p v).length+2*(mid p).count v).sum=(S.map λp=>(ats p v).length).sum+2*(S.map λp=>(mid p).count v).sum
 | []=>rfl
 | p::S=>by
  have:=zcf v S;simp only[yo,xq]at this ⊢;lia
theorem zf1{v:Int}:∀{S:List (List Int)},(S.map λp=>(mid p).count v).sum≠0->∃p∈S,v∈mid p
 | [],h=>absurd rfl h
 | p::S,h=>by
  by_cases k:v∈mid p
  ·exact⟨p,yg,k⟩
  ·rw[yo,xq,ycn.mpr k,vm]at h
   obtain⟨q,hq,z⟩:=zf1 h;exact⟨q,yf _ hq,z⟩
theorem Dec.two(h:Dec T S)(hs:Simple T){v:Int}(c:(flat (S.map ep)).count v=2):deg T v=2:=by
 rw[zbb]at c;have t:=h.touch hs v;rw[zcf,c]at t;by_cases z:(S.map λp=>(KN.mid p).count v).sum=0
 ·lia
 ·obtain⟨p,hp,hv⟩:=zf1 z
  exact h.mid p hp v hv
theorem Dec.fin(h:Dec T S)(hs:Simple T)(c:∀v,(flat (S.map ep)).count v≠2):Fin T S []:=by
 have key:∀v,IsEnd S v->deg T v≠2:=λv k d=>by
  have t:=h.touch hs v;rw[zcf,← zbb,d]at t;have p:=uw.mpr ((za4 (S:=S) v).mpr k);exact c v (by lia)
 refine⟨by rw[qr];exact h,λp hp=>⟨key _ ⟨p,hp,.inl rfl⟩,key _ ⟨p,hp,.inr rfl⟩⟩,λ_ z=>by cases z⟩
theorem zl1{v:Int}:∀{M:List (List Int)},(∀p∈M,(ats p v).length≠0)->M.length<=(M.map λp=>(ats p v).length).sum
 | [],_=>y6 _
 | p::M,h=>by
  have:=zl1 λq hq=>h q (yf _ hq)
  have:=h p yg;simp only[yo,xq,qf];lia
theorem zfe(v:Int):∀S:List (List Int),((S.filter λp=>tch v (ep p)).map λp=>(ats p v).length).sum=(S.map λp=>(ats p v).length).sum
 | []=>rfl
 | p::S=>by
  have:=zfe v S;by_cases k:tch v (ep p)=yl
  ·rw[xm (p:=λp=>tch v (ep p)) k,yo,xq,this];rfl
  ·rw[xy (p:=λp=>tch v (ep p)) k,this,yo,xq]
   rw[zmr,decide_eq_true_eq,Decidable.not_not]at k;lia
theorem Dec.smooth(h:Dec T S)(hs:Simple T){v:Int}(c:(flat (S.map ep)).count v=2) :
  (((S.map ep).filter (tch v)).length≠2/\∃S' C',Fin T S' C'/\C'≠[]) \/
  (∃q1 q2 x y,(S.map ep).filter (tch v)=[q1,q2]/\([q1.1,q1.2]++[q2.1,q2.2]:List Int).filter (λz=>!decide (z=v))=[x,y] /\
   ∃S',Dec T S'/\S'.map ep=(S.map ep).filter (λq=>!tch v q)++[ord x y]):=by
 have d2:=h.two hs c;have em:(S.map ep).filter (tch v)=(S.filter λp=>tch v (ep p)).map ep:=by rw[yaz];rfl
 have er:(S.map ep).filter (λq=>!tch v q)=(S.filter λp=>!tch v (ep p)).map ep:=by rw[yaz];rfl
 have pm:(S.filter (λp=>tch v (ep p))++S.filter (λp=>!tch v (ep p))).Perm S:=ydk _ S;have sm:((S.filter λp=>tch v (ep p)).map λp=>(ats p v).length).sum=2:=by rw[zfe,← zbb];exact c
 have pos:∀p∈S.filter λp=>tch v (ep p),(ats p v).length≠0:=λp hp=>by
  have:=(qa.mp hp).2;rw[zmr,decide_eq_true_eq]at this;exact this
 have le:=zl1 pos;rw[em,er];have hd:=h.of_perm pm.symm;generalize hM:(S.filter λp=>tch v (ep p))=M at sm pos le hd ⊢;generalize (S.filter λp=>!tch v (ep p))=R at hd ⊢
 match M,sm,pos,le,hd with
 | [],sm,_,_,_=>cases sm
 | [p],sm,_,_,hd =>
  left;refine⟨by simp,?_⟩;have a:(ats p v).length=2:=by simpa using sm
  rw[zbm]at a
  have e1:fst p=v:=by
   apply xf;intro k;rw[if_neg k]at a;split at a <;> lia
  have e2:lst p=v:=by
   apply xf;intro k;rw[if_neg k]at a;split at a <;> lia
  obtain⟨S',C',f,g⟩:=finish hs R.length R [p] rfl (hd.of_perm (wd (l₁:=[p]) (l₂:=R))) λq hq=>by
   rw[qd.mp hq];exact⟨e1.trans e2.symm,by rw[e1];exact d2⟩
  exact⟨S',C',f,g (by simp)⟩
 | [p,q],sm,pos,_,hd =>
  right;have a:=pos p (by simp);have b:=pos q (by simp);have s:(ats p v).length+(ats q v).length=2:=by simpa using sm
  -- a way with one end at v,turned so that it ends there
  have turn:∀p:List Int,2<=p.length->(ats p v).length=1->∃x,x≠v/\([(ep p).1,(ep p).2]:List Int).filter (λz=>!decide (z=v))=[x] /\
    ∃p',(p'=p\/p'=p.reverse)/\fst p'=x/\lst p'=v:=λp l2 a=>by
   rw[zbm]at a;by_cases e1:fst p=v
   ·have e2:lst p≠v:=λk=>by rw[if_pos e1,if_pos k]at a;lia
    refine⟨lst p,e2,?_,p.reverse,.inr rfl,zek l2,by rw[zet l2];exact e1⟩;rcases zcy p with k | k <;> rw[k] <;> simp[e1,e2]
   ·have e2:lst p=v:=by
     apply xf;intro k;rw[if_neg e1,if_neg k]at a;lia
    refine⟨fst p,e1,?_,p,.inl rfl,rfl,e2⟩;rcases zcy p with k | k <;> rw[k] <;> simp[e1,e2]
  have hp:2<=p.length:=hd.len p (by simp);have hq:2<=q.length:=hd.len q (by simp);refine zKK λγ κ=>?_;obtain⟨x,x1,x2,p',ep',f1,f2⟩:=turn p hp (by lia);obtain⟨y,y1,y2,q',eq',g1,g2⟩:=turn q hq (by lia);refine κ ?_;refine⟨ep p,ep q,x,y,rfl,by rw[ya6,x2,y2];rfl,R++[KN.glue p' q'.reverse],?_,?_⟩
  ·have h1:Dec T (p'::q::R):=by
    rcases ep' with rfl | rfl
    ·exact hd
    ·exact Dec.rev hd hs
   have h2:Dec T (q::p'::R):=h1.of_perm (List.Perm.swap _ _ _)
   have h3:Dec T (q'.reverse::p'::R):=by
    rcases eq' with rfl | rfl
    ·exact Dec.rev h2 hs
    ·rw[yag];exact h2
   have h4:Dec T (p'::q'.reverse::R):=h3.of_perm (List.Perm.swap _ _ _);have lq:2<=q'.length:=by rcases eq' with rfl | rfl <;> simp[hq]
   have e:fst q'.reverse=v:=by rw[zek lq];exact g2
   exact(h4.glue (by rw[e];exact f2) (by rw[e];exact d2)).of_perm (wd (l₁:=[KN.glue p' q'.reverse]) (l₂:=R))
  ·have lp:2<=p'.length:=by rcases ep' with rfl | rfl <;> simp[hp]
   have lq:2<=q'.length:=by rcases eq' with rfl | rfl <;> simp[hq]
   have e:fst q'.reverse=v:=by rw[zek lq];exact g2
   refine zKK λγ κ=>?_;obtain⟨_,_,g3,g4,_⟩:=zfa lp (by rw[wa];exact lq:2<=q'.reverse.length) (by rw[e];exact f2);refine κ ?_;rw[qb];congr 1;show[ord (fst (KN.glue p' q'.reverse)) (lst (KN.glue p' q'.reverse))]=_;rw[g3,g4,f1,zet lq,g1]
 | p::q::r::M,sm,_,le,_ =>
  rw[sm]at le;simp at le
end
section
variable {T T' T0:List Dt} {S C:List (List Int)}
theorem zb0(h:T.Perm T')(v:Int):deg T v=deg T' v:=(zeq h v).length_eq
theorem Dec.permT(k:Dec T S)(h:T.Perm T'):Dec T' S:=⟨k.len,k.perm.trans h,λp hp v hv=>by rw[← zb0 h];exact k.mid p hp v hv⟩
theorem Fin.permT(k:Fin T S C)(h:T.Perm T'):Fin T' S C :=
 ⟨k.dec.permT h,λp hp=>by rw[← zb0 h,← zb0 h];exact k.tS p hp,λp hp=>by rw[← zb0 h];exact k.tC p hp⟩
theorem zmv(A B:List Dt)(v:Int):deg (A++B) v=deg A v+deg B v:=by
 have:=(zdt A B v).length_eq;rw[yu]at this;exact this
theorem zbv(e:Dt)(B:List Dt)(v:Int):deg (e::B) v=deg [e] v+deg B v:=zmv [e] B v
theorem zb4{a b:Int}(h:a≠b)(v:Int):deg [nrm a b] v=if v=a\/v=b then 1 else 0:=by
 show(near [nrm a b] v).length=_;rw[zdp h];by_cases h1:v=a
 ·rw[if_pos h1,if_pos (.inl h1)];rfl
 ·rw[if_neg h1]
  by_cases h2:v=b
  ·rw[if_pos h2,if_pos (.inr h2)];rfl
  ·rw[if_neg h2,if_neg λk=>k.elim h1 h2];rfl
theorem zhb:∀{p:List Int} {e:Dt},e∈edg p->∃pre u v post,p=pre++u::v::post/\nrm u v=e
 | [],_,h=>by cases h
 | [_],_,h=>by cases h
 | a::b::r,e,h=>by
  rcases yn.mp h with h | h
  ·exact⟨[],a,b,r,rfl,h.symm⟩
  ·obtain⟨pre,u,v,post,e1,e2⟩:=zhb h
   exact⟨a::pre,u,v,post,by rw[e1];rfl,e2⟩
theorem ztz{pre post:List Int}{u v c x:Int}(h:x∈mid (pre++u::c::v::post)):x=c\/x∈mid (pre++u::v::post):=by
 unfold mid at h ⊢;cases pre with
 | nil =>
  simp only[ya0]at h ⊢;rw[qj (by simp),wt,qj (by simp)]at h;rw[qj (by simp),wt];exact yn.mp h
 | cons y pre =>
  simp only[vt]at h ⊢;rw[qj (by simp),wt,wy (by simp),qj (by simp),qj (by simp)]at h;rw[qj (by simp),wt,wy (by simp),qj (by simp)];simp only[qt,yn]at h ⊢;rcases h with h | h | h | h
  ·exact .inr (.inl h)
  ·exact .inr (.inr (.inl h))
  ·exact .inl h
  ·exact .inr (.inr (.inr h))
theorem Fin.sub(h:Fin T S [])(hs:Simple T){a b c:Int}(hT:T.Perm (nrm a b::T0))(ab:a≠b)(hc:KN.deg T c=0) :
  ∃S',Fin (nrm a c::nrm b c::T0) S' []/\(S'.map ep).Perm (S.map ep):=by
 have d:Dec T S:=by have:=h.dec;rwa[qr]at this
 have hcT:KN.deg (nrm a b::T0) c=0:=by rw[← zb0 hT];exact hc
 rw[zbv,zb4 ab]at hcT;have ca:c≠a:=λk=>by rw[if_pos (.inl k)]at hcT;lia
 have cb:c≠b:=λk=>by rw[if_pos (.inr k)]at hcT;lia
 have c0:KN.deg T0 c=0:=by lia
 have dg:∀w,KN.deg (nrm a c::nrm b c::T0) w=if w=c then 2 else KN.deg T w:=λw=>by
  rw[zbv (nrm a c),zbv (nrm b c),zb4 (xg ca),zb4 (xg cb),zb0 hT,zbv (nrm a b),zb4 ab];by_cases k:w=c
  ·rw[if_pos (.inr k),if_pos (.inr k),if_pos k,k,c0]
  ·by_cases k1:w=a
   ·have k2:w≠b:=λz=>ab (k1.symm.trans z)
    rw[if_pos (.inl k1),if_neg λz=>z.elim k2 k,if_neg k,if_pos (.inl k1)];lia
   ·by_cases k2:w=b
    ·rw[if_neg λz=>z.elim k1 k,if_pos (.inl k2),if_neg k,if_pos (.inr k2)];lia
    ·rw[if_neg λz=>z.elim k1 k,if_neg λz=>z.elim k2 k,if_neg k,if_neg λz=>z.elim k1 k2];lia
 have he:nrm a b∈S.flatMap edg:=(d.perm.trans hT).mem_iff.mpr yg;obtain⟨p,hp,he⟩:=j8.mp he;obtain⟨pre,u,v,post,rfl,uv⟩:=zhb he;obtain⟨s,t,rfl⟩:=wg hp;have pm:(s++(pre++u::v::post)::t).Perm ((pre++u::v::post)::(s++t)):=j7
 have uv':(u=a/\v=b)\/(u=b/\v=a):=by
  rcases ze0 u v with e1 | e1 <;> rcases ze0 a b with e2 | e2 <;> rw[e1,e2]at uv <;> injection uv with x y
  ·exact .inl ⟨x,y⟩
  ·exact .inr ⟨x,y⟩
  ·exact .inr ⟨y,x⟩
  ·exact .inl ⟨y,x⟩
 have fl:fst (pre++u::c::v::post)=fst (pre++u::v::post)/\lst (pre++u::c::v::post)=lst (pre++u::v::post):=by
  constructor
  ·cases pre <;> rfl
  ·unfold lst
   simp[jg]
 refine⟨(pre++u::c::v::post)::(s++t),⟨⟨?_,?_,?_⟩,?_,λ_ z=>by cases z⟩,?_⟩
 ·intro q hq
  rw[qr]at hq;rcases yn.mp hq with rfl | hq
  ·simp;lia
  ·exact d.len q (pm.mem_iff.mpr (yf _ hq))
 ·rw[qr,qy]
  have e1:edg (pre++u::v::post)=edg (pre++[u])++(nrm u v::edg (v::post)):=by rw[zc5];rfl
  have e2:edg (pre++u::c::v::post)=edg (pre++[u])++(nrm u c::nrm c v::edg (v::post)):=by rw[zc5];rfl
  have q:=((pm.flatMap_right edg).symm.trans d.perm).trans hT;rw[qy,e1,uv,xb,vt]at q;have q2:=(j7.symm.trans q).cons_inv;rw[e2,xb,vt,vt]
  have m1:(edg (pre++[u])++(nrm u c::nrm c v::(edg (v::post)++(s++t).flatMap edg))).Perm (nrm u c::nrm c v::(edg (pre++[u])++(edg (v::post)++(s++t).flatMap edg))) :=
   j7.trans (j7.cons _)
  refine m1.trans ?_;have m2:=(q2.cons (nrm c v)).cons (nrm u c);refine m2.trans ?_;rcases uv' with⟨rfl,rfl⟩ | ⟨rfl,rfl⟩
  ·rw[zbe cb]
  ·rw[zbe ca];exact List.Perm.swap _ _ _
 ·intro q hq w hw
  rw[qr]at hq;rw[dg];split
  ·rfl
  ·rename_i k
   rcases yn.mp hq with rfl | hq
   ·exact d.mid _ hp w ((ztz hw).resolve_left k)
   ·exact d.mid q (pm.mem_iff.mpr (yf _ hq)) w hw
 ·intro q hq
  have key:∀q0∈s++(pre++u::v::post)::t,KN.deg (nrm a c::nrm b c::T0) (fst q0)≠2/\KN.deg (nrm a c::nrm b c::T0) (lst q0)≠2:=λq0 h0=>by
   have n1:=d.end_deg hs ⟨q0,h0,.inl rfl⟩;have n2:=d.end_deg hs ⟨q0,h0,.inr rfl⟩;rw[dg,dg,if_neg λk=>by rw[k]at n1;lia,if_neg λk=>by rw[k]at n2;lia];exact h.tS q0 h0
  rcases yn.mp hq with rfl | hq
  ·rw[fl.1,fl.2];exact key _ hp
  ·exact key q (pm.mem_iff.mpr (yf _ hq))
 ·refine List.Perm.trans ?_ (pm.map ep).symm
  rw[yo,yo];have:ep (pre++u::c::v::post)=ep (pre++u::v::post):=by unfold ep;rw[fl.1,fl.2]
  rw[this]
theorem Fin.ring(h:Fin T S [])(hs:Simple T){n:Nat}(hn:Within n T):Fin (T++[((n:Int),(n:Int)+1),((n:Int),(n:Int)+2),((n:Int)+1,(n:Int)+2)]) S [[(n:Int),n+1,n+2,n]]:=by
 have e:([((n:Int),(n:Int)+1),((n:Int),(n:Int)+2),((n:Int)+1,(n:Int)+2)]:List Dt)=[nrm n (n+1),nrm n (n+2),nrm (n+1) (n+2)]:=by
  unfold nrm;rw[if_pos (by lia),if_pos (by lia),if_pos (by lia)]
 have out:∀v:Int,(n:Int)<=v->KN.deg T v=0:=λv hv=>xf λk=>by
  obtain⟨p,hp,rfl⟩:=hn v k;lia
 have dg:∀v:Int,KN.deg (T++[nrm n (n+1),nrm n (n+2),nrm (n+1) (n+2)]) v=if(n:Int)<=v/\v<=n+2 then 2 else KN.deg T v:=λv=>by
  rw[zmv,zbv (nrm n (n+1)),zbv (nrm n (n+2)),zb4 (a:=n) (b:=n+1) (by lia),zb4 (a:=n) (b:=n+2) (by lia),zb4 (by lia)];by_cases k:(n:Int)<=v/\v<=n+2
  ·rw[if_pos k,out v k.1]
   have:v=n\/v=n+1\/v=n+2:=by lia
   rcases this with z | z | z
   ·rw[if_pos (by lia),if_pos (by lia),if_neg (by lia)]
   ·rw[if_pos (by lia),if_neg (by lia),if_pos (by lia)]
   ·rw[if_neg (by lia),if_pos (by lia),if_pos (by lia)]
  ·rw[if_neg k,if_neg (by lia),if_neg (by lia),if_neg (by lia)];rfl
 rw[e];have low:∀v,KN.deg T v≠0->¬((n:Int)<=v/\v<=n+2):=λv k z=>k (out v z.1)
 have d:Dec T S:=by have:=h.dec;rwa[qr]at this
 refine⟨⟨λp hp=>?_,?_,λp hp v hv=>?_⟩,λp hp=>?_,λp hp=>?_⟩
 ·rcases qt.mp hp with k | k
  ·exact d.len p k
  ·rw[qd.mp k];simp
 ·rw[wb]
  refine List.Perm.append d.perm ?_;show[nrm n (n+1),nrm (n+1) (n+2),nrm (n+2) n].Perm _;rw[zbe (a:=(n:Int)+2) (b:=n) (by lia)];exact(List.Perm.swap _ _ _).cons _
 ·rcases qt.mp hp with k | k
  ·have:=d.mid p k v hv
   rw[dg,if_neg (low v (by lia))];exact this
  ·rw[qd.mp k]at hv
   have hv:v∈[(n:Int)+1,(n:Int)+2]:=hv;simp only[yn,jb,or_false]at hv;rw[dg,if_pos (by lia)]
 ·have:=h.tS p hp
  have n1:=d.end_deg hs ⟨p,hp,.inl rfl⟩;have n2:=d.end_deg hs ⟨p,hp,.inr rfl⟩;rw[dg,dg,if_neg (low _ (by lia)),if_neg (low _ (by lia))];exact this
 ·rw[qd.mp hp]
  refine⟨rfl,?_⟩;show KN.deg _ (n:Int)=2;rw[dg,if_pos (by lia)]
end
section
variable {T T' T0:List Dt} {S C:List (List Int)}
theorem znf(v:Int):∀P:List Dt,(oth P v).length=(flat P).count v
 | []=>rfl
 | (a,b)::P=>by
  have:=znf v P;rw[zdj,yu,this];show _=(([a,b]:List Int)++flat P).count v;rw[vg,yu];congr 1;simp only[u8,yfc,beq_iff_eq];by_cases h:a=v <;> by_cases k:b=v <;> simp[h,k]
theorem zp8{P Q:List Dt}{E:List Int}(h:P.Perm Q)(k:Law P E):Law Q E:=by
 have e:∀x,decide (ord (E.headD 0) x∈Q)=decide (ord (E.headD 0) x∈P):=λx=>decide_eq_decide.mpr h.mem_iff.symm
 unfold Law;simp only[e];rcases k with⟨a,b⟩ | ⟨a,b,c⟩
 ·exact .inl ⟨a,h.symm.trans b⟩
 ·exact .inr ⟨a,b,h.symm.trans c⟩
structure Kn (T:List Dt):Prop where
 sim:Simple T
 ex:∃S E,Fin T S []/\Ris E/\(∀v,v∈E↔IsEnd S v)/\Law (S.map ep) E
theorem Kn.perm(h:Kn T)(p:T.Perm T'):Kn T':=by
 obtain⟨S,E,a,b,c,d⟩:=h.ex;exact⟨⟨p.nodup_iff.mp h.sim.nd,λe he=>h.sim.lt e (p.mem_iff.mpr he)⟩,S,E,a.permT p,b,c,d⟩
theorem Kn.prog(h:Kn T){n:Nat}(hn:Within n T):Prog n T:=by
 obtain⟨S,E,a,b,c,d⟩:=h.ex;exact(zke a h.sim hn b c).mpr d
theorem zs8(h:deg T v=0){e:Dt}(he:e∈T):e.1≠v/\e.2≠v:=by
 have z:near T v=[]:=j5.mp h;have:∀x,x∉near T v:=λx=>by rw[z];simp
 constructor
 ·intro k
  refine this e.2 (K05.za0.mpr (.inr ?_));rw[← k];exact he
 ·intro k
  refine this e.1 (K05.za0.mpr (.inl ?_));rw[← k];exact he
theorem zmp{a b:Int}(h:a≠b):(nrm a b).1<(nrm a b).2:=by
 unfold nrm;split <;> simp only <;> lia
theorem zi0(a b:Int):(nrm a b).1=b\/(nrm a b).2=b:=by
 unfold nrm;split
 ·exact .inr rfl
 ·exact .inl rfl
theorem Kn.sub(h:Kn T){a b c:Int}(hT:T.Perm (nrm a b::T0))(ab:a≠b)(hc:deg T c=0):Kn (nrm a c::nrm b c::T0):=by
 obtain⟨S,E,f,r,hE,l⟩:=h.ex;obtain⟨S',f',p⟩:=f.sub h.sim hT ab hc;have o:=λ{e}=>zs8 hc (e:=e)
 have oe:=o (hT.mem_iff.mpr yg)
 have ca:a≠c:=λk=>by
  rcases zi0 b a with z | z
  ·rw[zbe (xg ab)]at z;exact oe.1 (z.trans k)
  ·rw[zbe (xg ab)]at z;exact oe.2 (z.trans k)
 have cb:b≠c:=λk=>by
  rcases zi0 a b with z | z
  ·exact oe.1 (z.trans k)
  ·exact oe.2 (z.trans k)
 have sim':Simple (nrm a b::T0):=⟨hT.nodup_iff.mp h.sim.nd,λe he=>h.sim.lt e (hT.mem_iff.mpr he)⟩
 have out:∀x,nrm x c∉T0:=λx k=>by
  have:=o (hT.mem_iff.mpr (yf _ k));rcases zi0 x c with z | z
  ·exact this.1 z
  ·exact this.2 z
 refine⟨⟨?_,?_⟩,S',E,f',r,λv=>?_,zp8 p.symm l⟩
 ·rw[xw,xw]
  refine⟨λk=>?_,out b,(xw.mp sim'.nd).2⟩;rcases yn.mp k with k | k
  ·unfold nrm at k
   split at k <;> split at k <;> injection k with x y <;> lia
  ·exact out a k
 ·intro e he
  rcases yn.mp he with rfl | he
  ·exact zmp ca
  ·rcases yn.mp he with rfl | he
   ·exact zmp cb
   ·exact sim'.lt e (yf _ he)
 ·rw[hE,← za4,← za4]
  exact(p.symm.flatMap_right λq=>[q.1,q.2]).mem_iff
theorem Kn.ring(h:Kn T){n:Nat}(hn:Within n T):∃S C,Fin (T++[((n:Int),(n:Int)+1),((n:Int),(n:Int)+2),((n:Int)+1,(n:Int)+2)]) S C/\C≠[]:=by
 obtain⟨S,E,f,_⟩:=h.ex;exact⟨S,_,f.ring h.sim hn,by simp⟩
theorem zf7{N:Int->Int}{R:List Int}(inj:∀a∈R,∀b∈R,N a=N b->a=b){e:Int}(he:e∈R):∀{P:List Dt},(∀q∈P,q.1∈R/\q.2∈R/\q.1≠q.2)->oth (P.map λq=>ord (N q.1) (N q.2)) (N e)=(oth P e).map N
 | [],_=>rfl
 | (a,b)::P,h=>by
  obtain⟨ha,hb,ab⟩:=h _ yg;have ih:=zf7 inj he λq hq=>h q (yf _ hq)
  show oth ([ord (N a) (N b)]++P.map λq=>ord (N q.1) (N q.2)) (N e)=_;rw[zc3,ih,zma _ _ _ λk=>ab (inj a ha b hb k),zdj,qb];congr 1;by_cases h1:e=a
  ·subst h1
   rw[if_pos rfl,if_pos rfl,if_neg (xg ab)];rfl
  ·rw[if_neg λk=>h1 (inj e he a ha k),if_neg (xg h1)]
   by_cases h2:e=b
   ·subst h2;rw[if_pos rfl,if_pos rfl];rfl
   ·rw[if_neg λk=>h2 (inj e he b hb k),if_neg (xg h2)];rfl
theorem zdx{a b:Int}(h:a≠b):ord a b=nrm a b:=by
 unfold ord nrm;by_cases k:a<b
 ·rw[if_neg (by lia),if_pos k]
 ·rw[if_pos (by lia),if_neg k]
structure Base (N:Int->Int) (R:List Int) (P:List Dt) (k:Nat):Prop where
 inj:∀a∈R,∀b∈R,N a=N b->a=b
 pin:∀q∈P,q.1∈R/\q.2∈R/\q.1≠q.2
 len:∀e∈R,(oth P e).length=k
 nd:P.Nodup
 up:∀q∈P,q.1<q.2
 ndR:R.Nodup
 k2:2<k
variable {N:Int→Int} {R:List Int} {P:List Dt} {k:Nat}
noncomputable def bT(N:Int->Int)(P:List Dt):List Dt:=P.map λq=>ord (N q.1) (N q.2)
noncomputable def bS(N:Int->Int)(P:List Dt):List (List Int):=P.map λq=>[N q.1,N q.2]
noncomputable def bE(N:Int->Int)(R:List Int):List Int:=sortI (R.map N)
theorem zo6:(bS N P).map ep=bT N P:=by unfold bS bT;rw[qu];rfl
theorem Base.ne(h:Base N R P k){q:Dt}(hq:q∈P):N q.1≠N q.2:=λz=>by
 obtain⟨a,b,c⟩:=h.pin q hq;exact c (h.inj _ a _ b z)
theorem Base.sim(h:Base N R P k):Simple (bT N P):=by
 refine⟨?_,λe he=>?_⟩
 ·unfold bT
  rw[xu,j4];refine List.Pairwise.imp_of_mem ?_ (xu.mp h.nd);intro x y hx hy ne e;obtain⟨x1,x2,_⟩:=h.pin x hx;obtain⟨y1,y2,_⟩:=h.pin y hy;have u1:=h.up x hx;have u2:=h.up y hy
  have:(N x.1=N y.1/\N x.2=N y.2)\/(N x.1=N y.2/\N x.2=N y.1):=by
   unfold ord at e;split at e <;> split at e <;> injection e with z w <;> lia
  rcases this with⟨z,w⟩ | ⟨z,w⟩
  ·exact ne (Prod.ext (h.inj _ x1 _ y1 z) (h.inj _ x2 _ y2 w))
  ·have:=h.inj _ x1 _ y2 z
   have:=h.inj _ x2 _ y1 w;lia
 ·obtain⟨q,hq,rfl⟩:=yz.mp he
  rw[zdx (h.ne hq)];exact zmp (h.ne hq)
theorem Base.dec(h:Base N R P k):Dec (bT N P) (bS N P):=by
 refine⟨λp hp=>?_,?_,λp hp v hv=>?_⟩
 ·obtain⟨q,hq,rfl⟩:=yz.mp hp
  exact y6 _
 ·have:∀Q:List Dt,(∀q∈Q,N q.1≠N q.2)->(bS N Q).flatMap edg=bT N Q:=λQ=>by
   induction Q with
   | nil=>intro _;rfl
   | cons q Q ih =>
    intro hQ;show[nrm (N q.1) (N q.2)]++(bS N Q).flatMap edg=ord (N q.1) (N q.2)::bT N Q;rw[ih λx hx=>hQ x (yf _ hx),zdx (hQ q yg)];rfl
  rw[this P λq hq=>h.ne hq]
 ·obtain⟨q,hq,rfl⟩:=yz.mp hp
  cases hv
theorem Base.deg(h:Base N R P k){e:Int}(he:e∈R):deg (bT N P) (N e)=k:=by
 rw[h.dec.touch h.sim,zcf,← zbb,zo6,← znf]
 have z:((bS N P).map λp=>(mid p).count (N e)).sum=0:=xf λk=>by
  obtain⟨p,hp,hv⟩:=zf1 k;obtain⟨q,hq,rfl⟩:=yz.mp hp;cases hv
 rw[z,bT,zf7 h.inj he h.pin,yd,h.len e he];rfl
theorem Base.fin(h:Base N R P k):Fin (bT N P) (bS N P) []:=by
 refine⟨by rw[qr];exact h.dec,λp hp=>?_,λ_ z=>by cases z⟩;obtain⟨q,hq,rfl⟩:=yz.mp hp;obtain⟨a,b,_⟩:=h.pin q hq;have:=h.k2;show KN.deg _ (N q.1)≠2/\KN.deg _ (N q.2)≠2;rw[h.deg a,h.deg b];lia
theorem Base.ris(h:Base N R P k):Ris (bE N R):=by
 have nd:(bE N R).Nodup:=(zk _).nodup_iff.mpr (by
  rw[xu,j4];exact List.Pairwise.imp_of_mem (λ{x y} hx hy ne e=>ne (h.inj x hx y hy e)) (xu.mp h.ndR))
 exact((za7 _).and (xu.mp nd)).imp λ⟨a,b⟩=>by lia
theorem zmt{v:Int}:v∈bE N R↔∃e∈R,N e=v:=by
 unfold bE;rw[(zk _).mem_iff,yz]
theorem Base.ends(h:Base N R P k)(v:Int):v∈bE N R↔IsEnd (bS N P) v:=by
 rw[zmt];constructor
 ·rintro⟨e,he,rfl⟩
  have:=h.len e he;have:=h.k2;obtain⟨x,hx⟩:=va (l:=oth P e) (by lia);rcases zjd.mp hx with z | z
  ·exact⟨_,yz.mpr ⟨_,z,rfl⟩,.inl rfl⟩
  ·exact⟨_,yz.mpr ⟨_,z,rfl⟩,.inr rfl⟩
 ·rintro⟨p,hp,z⟩
  refine zKK λγ κ=>?_;obtain⟨q,hq,rfl⟩:=yz.mp hp;obtain⟨a,b,_⟩:=h.pin q hq;refine κ ?_;rcases z with z | z
  ·exact⟨_,a,z⟩
  ·exact⟨_,b,z⟩
theorem Base.oth_no(h:Base N R P k){v:Int}(hv:v∉bE N R):oth (bT N P) v=[]:=zeu λq hq=>by
 have:v∉flat (bT N P):=λz=>hv ((h.ends v).mpr ((za4 v).mp (by rw[zo6];exact z)))
 exact⟨λz=>this (zch.mpr ⟨q,hq,.inl z⟩),λz=>this (zch.mpr ⟨q,hq,.inr z⟩)⟩
theorem zq6:(bE N R).length=R.length:=by unfold bE;rw[(zk _).length_eq,yd]
theorem zt5:∀q∈bT N P,q.1<=q.2:=λq hq=>by
 obtain⟨x,_,rfl⟩:=yz.mp hq;exact zh6 _ _
theorem Base.filt(h:Base N R P k)(p q:Int->Bool)(e:∀x∈R,p (N x)=q x):((R.filter q).map N).Perm ((bE N R).filter p):=by
 have:(R.filter q).map N=(R.map N).filter p:=by
  rw[yaz,jr λx hx=>(e x hx).symm];rfl
 rw[this];exact(zk _).symm.filter p
theorem Base.five(h:Base N R P k)(l:R.length=5)(o:∀e∈R,oth P e=R.filter λx=>!decide (x=e)):Kn (bT N P):=by
 refine⟨h.sim,bS N P,bE N R,h.fin,h.ris,h.ends,.inl ⟨zq6.trans l,?_⟩⟩;rw[zo6];refine zgb zt5 (λq hq=>by have:=zn9 h.ris hq;lia) λv=>?_
 by_cases hv:v∈bE N R
 ·refine List.Perm.trans ?_ (zfr v _ h.ris.nd hv).symm
  obtain⟨e,he,rfl⟩:=zmt.mp hv;rw[bT,zf7 h.inj he h.pin,o e he];refine h.filt _ _ λx hx=>?_
  congr 1;exact decide_eq_decide.mpr ⟨λz=>h.inj x hx e he z,λz=>by rw[z]⟩
 ·rw[h.oth_no hv,zeu]
  intro q hq;have:=zd3 hq;exact⟨λz=>hv (z▸this.1),λz=>hv (z▸this.2)⟩
theorem Base.six(h:Base N R P 3)(l:R.length=6)(p:Int->Bool)(o:∀e∈R,oth P e=R.filter λx=>!(p x==p e))(ly:(R.filter p).length=3):Kn (bT N P):=by
 -- the names on the one side
 let q:Int->Bool:=λv=>decide (∃x∈R,p x=yl/\N x=v)
 have hq:∀x∈R,q (N x)=p x:=λx hx=>by
  cases z:p x with
  | true=>exact decide_eq_true ⟨x,hx,z,rfl⟩
  | false=>exact decide_eq_false λ⟨y,hy,w,e⟩=>by rw[h.inj y hy x hx e,z]at w;cases w
 have pY:=h.filt q p hq;have pM:=h.filt (λv=>!q v) (λx=>!p x) λx hx=>by rw[hq x hx]
 have lY:((bE N R).filter q).length=3:=by rw[← pY.length_eq,yd];exact ly
 have perm:(bT N P).Perm (due ((bE N R).filter λv=>!q v) ((bE N R).filter q)):=by
  refine zgb zt5 (λz hz=>?_) λv=>?_
  ·obtain⟨a,_,hz⟩:=j8.mp hz
   obtain⟨b,_,rfl⟩:=yz.mp hz;exact zh6 a b
  rw[zf2 v (h.ris.filter _).nd (h.ris.filter _).nd λa ha hb=>by
   have x:=(qa.mp ha).2;have y:=(qa.mp hb).2;simp[y]at x]
  by_cases hv:v∈bE N R
  ·obtain⟨e,he,rfl⟩:=zmt.mp hv
   rw[bT,zf7 h.inj he h.pin,o e he];cases z:p e with
   | true =>
    have n1:¬N e∈(bE N R).filter λv=>!q v:=λk=>by have:=(qa.mp k).2;rw[hq e he,z]at this;cases this
    have n2:N e∈(bE N R).filter q:=qa.mpr ⟨hv,by rw[hq e he];exact z⟩;rw[if_neg n1,if_pos n2];have:(R.filter λx=>!(p x==yl))=R.filter λx=>!p x:=jr λx _=>by cases p x <;> rfl
    rw[this];exact pM
   | false =>
    have n1:N e∈(bE N R).filter λv=>!q v:=qa.mpr ⟨hv,by rw[hq e he,z];rfl⟩
    rw[if_pos n1];have:(R.filter λx=>!(p x==yi))=R.filter p:=jr λx _=>by cases p x <;> rfl
    rw[this];exact pY
  ·rw[h.oth_no hv,if_neg λk=>hv (qa.mp k).1,if_neg λk=>hv (qa.mp k).1]
 have l6:(bE N R).length=6:=zq6.trans l;obtain⟨a,w⟩:=zrk h.ris l6 rfl lY perm
 have h0:(bE N R).headD 0∈bE N R:=by
  cases z:bE N R with
  | nil=>rw[z]at l6;cases l6
  | cons x _=>exact yg
 refine⟨h.sim,bS N P,bE N R,h.fin,h.ris,h.ends,.inr ⟨l6,?_⟩⟩;rw[zo6];refine zrn h.ris l6 h0 (λz hz=>⟨zt5 z hz,?_⟩) a w;have f:∀x,x∈flat (bT N P)->x∈bE N R:=λx hx=>(h.ends x).mpr ((za4 x).mp (by rw[zo6];exact hx))
 exact⟨f _ (zch.mpr ⟨z,hz,.inl rfl⟩),f _ (zch.mpr ⟨z,hz,.inr rfl⟩)⟩
noncomputable def K5:List Dt:=[(0,1),(0,2),(0,3),(0,4),(1,2),(1,3),(1,4),(2,3),(2,4),(3,4)]
noncomputable def K33:List Dt:=[(0,3),(0,4),(0,5),(1,3),(1,4),(1,5),(2,3),(2,4),(2,5)]
theorem kn5(inj:∀a∈[0,1,2,3,4],∀b∈[0,1,2,3,4],N a=N b->a=b):Kn (bT N K5) :=
 Base.five (k:=4) ⟨inj,by decide,by decide,by decide,by decide,by decide,by decide⟩ rfl (by decide)
theorem kn33(inj:∀a∈[0,1,2,3,4,5],∀b∈[0,1,2,3,4,5],N a=N b->a=b):Kn (bT N K33) :=
 Base.six ⟨inj,by decide,by decide,by decide,by decide,by decide,by decide⟩ rfl (λx=>decide (3<=x)) (by decide) (by decide)
end
end KN
namespace K12
open PY
noncomputable def f0:Fn:=⟨1,1,.cons (.ret (.and (.isi (.var 0) .int) (.not (.isi (.var 0) .bool)))) .nil⟩
noncomputable def f1:Fn:=⟨1,1,.cons (.ret (.and (.isi (.var 0) .tuple) (.bi .all (.comp (.call 0 (.cons (.var 0) .nil)) (.one 0) (.seq (.var 0)) .no 1 [])))) .nil⟩
noncomputable def f2:Fn:=⟨1,1,.cons (.ret (.and (.call 1 (.cons (.var 0) .nil)) (.cmp .eq (.bi .len (.var 0)) (.con (.int 2))))) .nil⟩
noncomputable def f3:Fn:=⟨1,1,.cons (.ret (.and (.isi (.var 0) .tuple) (.bi .all (.comp (.call 2 (.cons (.var 0) .nil)) (.one 0) (.seq (.var 0)) .no 1 [])))) .nil⟩
noncomputable def f4:Fn:=⟨1,1,.cons (.ret (.bi .all (.comp (.cmp .lt (.ix (.var 1) (.var 0)) (.ix (.var 1) (.bin .add (.var 0) (.con (.int 1))))) (.one 0) (.rng1 (.bin .sub (.bi .len (.var 0)) (.con (.int 1)))) .no 1 [0]))) .nil⟩
noncomputable def f5:Fn:=⟨2,2,.cons (.ret (.and (.call 3 (.cons (.var 0) .nil)) (.and (.call 4 (.cons (.var 0) .nil)) (.bi .all (.comp (.cmp .isin (.var 0) (.ix (.var 1) (.con (.int 1)))) (.one 0) (.seq (.var 0)) .no 1 [1]))))) .nil⟩
noncomputable def f6:Fn:=⟨2,4,.cons (.asg (.one 2) (.comp (.var 0) (.many [0,1]) (.seq (.ix (.var 0) (.con (.int 1)))) (.so (.cmp .eq (.var 1) (.var 2))) 2 [1]))
 (.cons (.asg (.one 3) (.comp (.var 1) (.many [0,1]) (.seq (.ix (.var 0) (.con (.int 1)))) (.so (.cmp .eq (.var 0) (.var 2))) 2 [1]))
 (.cons (.ret (.bin .add (.var 2) (.var 3))) .nil))⟩
noncomputable def f7:Fn:=⟨1,1,.cons (.ret (.comp (.call 6 (.cons (.var 1) (.cons (.var 0) .nil))) (.one 0) (.rng1 (.ix (.var 0) (.con (.int 0)))) .no 1 [0])) .nil⟩
noncomputable def f8:Fn:=⟨3,4,.cons (.asg (.one 3) (.lst (.cons (.var 0) (.cons (.var 1) .nil)))) (.cons (.while (.cmp .eq (.bi .len (.ix (.var 2) (.ix (.var 3) (.neg (.con (.int 1)))))) (.con (.int 2))) (.cons (.app 3 (.ix (.comp (.var 0) (.one 0) (.seq (.ix (.var 2) (.ix (.var 3) (.neg (.con (.int 1)))))) (.so (.cmp .ne (.var 0) (.ix (.var 1) (.neg (.con (.int 2)))))) 1 [3]) (.con (.int 0)))) .nil))
 (.cons (.ret (.var 3)) .nil))⟩
noncomputable def f9:Fn:=⟨2,4,.cons (.asg (.one 2) (.lst .nil)) (.cons (.frz [0] (.loop (.one 3) (.seq (.var 0)) (.cons (.ext 2 (.comp (.call 8 (.cons (.var 1) (.cons (.var 0) (.cons (.var 2) .nil)))) (.one 0) (.seq (.ix (.var 1) (.var 3))) .no 1 [3,1])) .nil)))
 (.cons (.ret (.var 2)) .nil))⟩
noncomputable def f10:Fn:=⟨2,2,.cons (.ret (.bi .sorted (.comp (.ix (.var 0) (.neg (.con (.int 1)))) (.one 0) (.seq (.var 1)) (.so (.cmp .eq (.ix (.var 0) (.con (.int 0))) (.var 1))) 1 [0]))) .nil⟩
noncomputable def f11:Fn:=⟨2,4,.cons (.asg (.one 2) (.comp (.call 10 (.cons (.var 0) (.cons (.var 1) .nil))) (.one 0) (.seq (.var 0)) .no 1 [1])) (.cons (.frz [2] (.loop (.one 3) (.seq (.var 2))
 (.cons (.cond (.cmp .ne (.var 3) (.comp (.var 0) (.many [0,1]) (.zip (.var 0) (.var 2)) (.so (.cmp .ne (.var 1) (.var 2))) 2 [3]))
 (.cons (.ret (.con (.bl yi))) .nil) .nil) .nil)))
 (.cons (.ret (.con (.bl yl))) .nil))⟩
noncomputable def f12:Fn:=⟨2,6,.cons (.cond (.not (.call 5 (.cons (.var 0) (.cons (.var 1) .nil))))
 (.cons (.ret (.con (.bl yi))) .nil) .nil) (.cons (.frz [] (.asg (.one 2) (.call 7 (.cons (.tup (.cons (.ix (.var 1) (.con (.int 0))) (.cons (.var 0) .nil))) .nil))))
 (.cons (.asg (.one 3) (.comp (.var 0) (.one 0) (.rng1 (.ix (.var 1) (.con (.int 0)))) (.so (.cmp .gt (.bi .len (.ix (.var 1) (.var 0))) (.con (.int 2)))) 1 [2]))
 (.cons (.cond (.or (.bi .any (.comp (.cmp .eq (.bi .len (.var 0)) (.con (.int 1))) (.one 0) (.seq (.var 2)) .no 1 [])) (.ttn (.bi .tuple (.comp (.bi .len (.ix (.var 1) (.var 0))) (.one 0) (.seq (.var 3)) .no 1 [2])) "SHAPES" [[4,4,4,4,4],[3,3,3,3,3,3]]))
 (.cons (.ret (.con (.bl yi))) .nil) .nil) (.cons (.frz [3,2] (.asg (.one 4) (.call 9 (.cons (.var 3) (.cons (.var 2) .nil)))))
 (.cons (.asg (.one 5) (.comp (.bin .sub (.bi .len (.var 0)) (.con (.int 1))) (.one 0) (.seq (.var 4)) .no 1 []))
 (.cons (.ret (.and (.cmp .eq (.bi .sum (.var 5)) (.bin .mul (.con (.int 2)) (.bi .len (.var 0)))) (.call 11 (.cons (.var 3) (.cons (.var 4) .nil))))) .nil))))))⟩
noncomputable def f13:Fn:=⟨2,2,.cons (.cond (.cmp .lt (.var 1) (.bi .len (.var 0)))
 (.cons (.ret (.ix (.var 0) (.var 1))) .nil) .nil)
 (.cons (.ret (.con (.int 0))) .nil)⟩
noncomputable def f14:Fn:=⟨3,3,.cons (.ret (.bin .mod (.bin .mod (.bin .mul (.var 0) (.con (.int 48271))) (.var 1)) (.var 2))) .nil⟩
noncomputable def f15:Fn:=⟨2,4,.cons (.asg (.one 2) (.lst .nil))
 (.cons (.loop (.one 3) (.rng1 (.var 1)) (.cons (.ins 2 (.call 14 (.cons (.bin .add (.call 13 (.cons (.var 0) (.cons (.con (.int 4)) .nil))) (.bin .mul (.con (.int 7)) (.var 3))) (.cons (.con (.int 9931)) (.cons (.bin .add (.bi .len (.var 2)) (.con (.int 1))) .nil)))) (.var 3)) .nil))
 (.cons (.ret (.var 2)) .nil))⟩
noncomputable def f16:Fn:=⟨1,12,.cons (.asg (.one 1) (.lst (.cons (.tup (.cons (.con (.int 0)) (.cons (.con (.int 1)) .nil))) (.cons (.tup (.cons (.con (.int 0)) (.cons (.con (.int 2)) .nil))) (.cons (.tup (.cons (.con (.int 0)) (.cons (.con (.int 3)) .nil))) (.cons (.tup (.cons (.con (.int 0)) (.cons (.con (.int 4)) .nil))) (.cons (.tup (.cons (.con (.int 1)) (.cons (.con (.int 2)) .nil))) (.cons (.tup (.cons (.con (.int 1)) (.cons (.con (.int 3)) .nil))) (.cons (.tup (.cons (.con (.int 1)) (.cons (.con (.int 4)) .nil))) (.cons (.tup (.cons (.con (.int 2)) (.cons (.con (.int 3)) .nil))) (.cons (.tup (.cons (.con (.int 2)) (.cons (.con (.int 4)) .nil))) (.cons (.tup (.cons (.con (.int 3)) (.cons (.con (.int 4)) .nil))) .nil))))))))))))
 (.cons (.asg (.one 2) (.con (.int 5)))
 (.cons (.cond (.cmp .eq (.bin .mod (.call 13 (.cons (.var 0) (.cons (.con (.int 0)) .nil))) (.con (.int 2))) (.con (.int 1)))
 (.cons (.asg (.one 1) (.lst (.cons (.tup (.cons (.con (.int 0)) (.cons (.con (.int 3)) .nil))) (.cons (.tup (.cons (.con (.int 0)) (.cons (.con (.int 4)) .nil))) (.cons (.tup (.cons (.con (.int 0)) (.cons (.con (.int 5)) .nil))) (.cons (.tup (.cons (.con (.int 1)) (.cons (.con (.int 3)) .nil))) (.cons (.tup (.cons (.con (.int 1)) (.cons (.con (.int 4)) .nil))) (.cons (.tup (.cons (.con (.int 1)) (.cons (.con (.int 5)) .nil))) (.cons (.tup (.cons (.con (.int 2)) (.cons (.con (.int 3)) .nil))) (.cons (.tup (.cons (.con (.int 2)) (.cons (.con (.int 4)) .nil))) (.cons (.tup (.cons (.con (.int 2)) (.cons (.con (.int 5)) .nil))) .nil)))))))))))
 (.cons (.asg (.one 2) (.con (.int 6))) .nil)) .nil)
 (.cons (.loop (.one 3) (.rng1 (.bin .mod (.call 13 (.cons (.var 0) (.cons (.con (.int 1)) .nil))) (.con (.int 4)))) (.cons (.pop (.one 4) 1 (.call 14 (.cons (.bin .add (.call 13 (.cons (.var 0) (.cons (.con (.int 2)) .nil))) (.bin .mul (.con (.int 11)) (.var 3))) (.cons (.con (.int 9967)) (.cons (.bi .len (.var 1)) .nil)))))
 (.cons (.asg (.one 1) (.bin .add (.var 1) (.lst (.cons (.tup (.cons (.ix (.var 4) (.con (.int 0))) (.cons (.var 2) .nil))) (.cons (.tup (.cons (.ix (.var 4) (.con (.int 1))) (.cons (.var 2) .nil))) .nil)))))
 (.cons (.asg (.one 2) (.bin .add (.var 2) (.con (.int 1)))) .nil))))
 (.cons (.asg (.one 5) (.bin .mod (.call 13 (.cons (.var 0) (.cons (.con (.int 3)) .nil))) (.con (.int 3)))) (.cons (.frz [0] (.asg (.one 6) (.call 15 (.cons (.var 0) (.cons (.bin .add (.var 2) (.var 5)) .nil)))))
 (.cons (.asg (.one 9) (.comp (.tup (.cons (.bi2 .min2 (.ix (.var 2) (.var 0)) (.ix (.var 2) (.var 1))) (.cons (.bi2 .max2 (.ix (.var 2) (.var 0)) (.ix (.var 2) (.var 1))) .nil))) (.many [0,1]) (.seq (.var 1)) .no 2 [6]))
 (.cons (.asg (.one 10) (.bi .list (.var 9)))
 (.cons (.loop (.one 11) (.seq (.sl (.var 0) (.so (.con (.int 6))) (.so (.con (.int 14))))) (.cons (.frz [11] (.asg (.one 7) (.call 14 (.cons (.var 11) (.cons (.con (.int 9949)) (.cons (.bin .add (.var 2) (.var 5)) .nil)))))) (.cons (.frz [11] (.asg (.one 8) (.call 14 (.cons (.var 11) (.cons (.con (.int 9941)) (.cons (.bin .add (.var 2) (.var 5)) .nil))))))
 (.cons (.cond (.and (.cmp .lt (.var 7) (.var 8)) (.cmp .notin (.tup (.cons (.var 7) (.cons (.var 8) .nil))) (.var 10))) (.cons (.app 10 (.tup (.cons (.var 7) (.cons (.var 8) .nil)))) .nil) .nil) .nil)))) (.cons (.frz [] (.ret (.tup (.cons (.tup (.cons (.bin .add (.var 2) (.var 5)) (.cons (.bi .tuple (.bi .sorted (.var 10))) .nil))) (.cons (.bi .tuple (.bi .sorted (.var 9))) .nil))))) .nil)))))))))⟩
noncomputable def f17:Fn:=⟨1,4,.cons (.asg (.one 1) (.lst .nil)) (.cons (.frz [0] (.loop (.many [2,3]) (.enum (.var 0))
 (.cons (.asg (.one 1) (.bin .add (.var 1) (.comp (.tup (.cons (.var 1) (.cons (.var 0) .nil))) (.one 0) (.seq (.sl (.var 0) (.so (.bin .add (.var 2) (.con (.int 1)))) .no)) .no 1 [3]))) .nil)))
 (.cons (.ret (.var 1)) .nil))⟩
noncomputable def f18:Fn:=⟨1,8,.cons (.asg (.one 1) (.comp (.lst (.cons (.var 0) (.cons (.var 1) .nil))) (.many [0,1]) (.seq (.var 0)) .no 2 [])) (.cons (.while (.con (.bl yl))
 (.cons (.asg (.one 2) .dic0) (.cons (.frz [1] (.loop (.one 3) (.seq (.var 1)) (.cons (.frz [3] (.loop (.one 4) (.seq (.var 3)) (.cons (.dput 2 (.var 4) (.bin .add (.dget (.var 2) (.var 4) (.con (.int 0))) (.con (.int 1)))) .nil))) .nil)))
 (.cons (.asg (.one 5) (.dsel 2 2))
 (.cons (.cond (.not (.var 5)) (.cons (.frz [1,2] (.ret (.tup (.cons (.var 1) (.cons (.var 2) .nil))))) .nil) .nil)
 (.cons (.asg (.one 6) (.comp (.var 0) (.one 0) (.seq (.var 1)) (.so (.cmp .isin (.ix (.var 1) (.con (.int 0))) (.var 0))) 1 [5]))
 (.cons (.cond (.cmp .ne (.bi .len (.var 6)) (.con (.int 2))) (.cons (.frz [2] (.ret (.tup (.cons (.lst .nil) (.cons (.var 2) .nil))))) .nil) .nil)
 (.cons (.asg (.one 1) (.comp (.var 0) (.one 0) (.seq (.var 1)) (.so (.cmp .notin (.ix (.var 1) (.con (.int 0))) (.var 0))) 1 [5]))
 (.cons (.asg (.one 7) (.comp (.var 0) (.one 0) (.seq (.bin .add (.ix (.var 6) (.con (.int 0))) (.ix (.var 6) (.con (.int 1))))) (.so (.cmp .ne (.var 0) (.ix (.var 1) (.con (.int 0))))) 1 [5]))
 (.cons (.cond (.cmp .ne (.bi .len (.var 7)) (.con (.int 2))) (.cons (.frz [2] (.ret (.tup (.cons (.lst .nil) (.cons (.var 2) .nil))))) .nil) .nil) (.cons (.app 1 (.bi .sorted (.var 7))) .nil))))))))))) .nil)⟩
noncomputable def f19:Fn:=⟨2,9,.cons (.cond (.or (.not (.isi (.var 0) .tuple)) (.or (.cmp .ne (.bi .list (.var 0)) (.bi .sortset (.var 0))) (.not (.bi .all (.comp (.cmp .isin (.var 0) (.ix (.var 1) (.con (.int 1)))) (.one 0) (.seq (.var 0)) .no 1 [1])))))
 (.cons (.ret (.con (.bl yi))) .nil) .nil) (.cons (.frz [0] (.asg (.many [2,3]) (.call 18 (.cons (.var 0) .nil))))
 (.cons (.asg (.one 4) (.bi .sorted (.var 3)))
 (.cons (.cond (.and (.cmp .eq (.bi .len (.var 2)) (.con (.int 10))) (.cmp .eq (.bi .len (.var 4)) (.con (.int 5)))) (.cons (.frz [4] (.ret (.cmp .eq (.bi .sorted (.comp (.bi .tuple (.bi .sorted (.var 0))) (.one 0) (.seq (.var 2)) .no 1 [])) (.call 17 (.cons (.var 4) .nil))))) .nil) .nil)
 (.cons (.cond (.or (.cmp .ne (.bi .len (.var 2)) (.con (.int 9))) (.cmp .ne (.bi .len (.var 4)) (.con (.int 6))))
 (.cons (.ret (.con (.bl yi))) .nil) .nil)
 (.cons (.asg (.one 5) (.comp (.var 0) (.one 0) (.seq (.var 4)) (.so (.cmp .isin (.bi .sorted (.lst (.cons (.ix (.var 1) (.con (.int 0))) (.cons (.var 0) .nil)))) (.comp (.bi .sorted (.var 0)) (.one 0) (.seq (.var 2)) .no 1 []))) 1 [4,2]))
 (.cons (.asg (.one 6) (.comp (.var 0) (.one 0) (.seq (.var 4)) (.so (.cmp .notin (.var 0) (.var 1))) 1 [5]))
 (.cons (.asg (.one 7) (.lst .nil)) (.cons (.frz [6] (.loop (.one 8) (.seq (.var 6))
 (.cons (.asg (.one 7) (.bin .add (.var 7) (.comp (.bi .tuple (.bi .sorted (.lst (.cons (.var 1) (.cons (.var 0) .nil))))) (.one 0) (.seq (.var 5)) .no 1 [8]))) .nil)))
 (.cons (.ret (.and (.cmp .eq (.bi .len (.var 5)) (.con (.int 3))) (.cmp .eq (.bi .sorted (.comp (.bi .tuple (.bi .sorted (.var 0))) (.one 0) (.seq (.var 2)) .no 1 [])) (.bi .sorted (.var 7))))) .nil)))))))))⟩
noncomputable def f20:Fn:=⟨3,6,.cons (.asg (.one 3) (.bin .mod (.bin .fdiv (.var 2) (.con (.int 12))) (.bi .len (.var 1))))
 (.cons (.asg (.one 4) (.comp (.var 0) (.one 0) (.seq (.ix (.var 0) (.con (.int 1)))) (.so (.cmp .notin (.var 0) (.var 1))) 1 [1]))
 (.cons (.asg (.one 5) (.lst (.cons (.var 1) (.cons (.bin .add (.sl (.var 1) .no (.so (.var 3))) (.sl (.var 1) (.so (.bin .add (.var 3) (.con (.int 1)))) .no)) (.cons (.bi .tuple (.bi .sorted (.bin .add (.bin .add (.sl (.var 1) .no (.so (.var 3))) (.sl (.var 1) (.so (.bin .add (.var 3) (.con (.int 1)))) .no)) (.bi .tuple (.sl (.var 4) .no (.so (.con (.int 1)))))))) .nil)))))
 (.cons (.asg (.one 5) (.bin .add (.var 5) (.lst (.cons (.bi .tuple (.bi .sorted (.bin .add (.var 1) (.bi .tuple (.sl (.var 4) .no (.so (.con (.int 1)))))))) (.cons (.ix (.var 0) (.con (.int 1))) (.cons (.bi .tuple (.var 4)) (.cons (.tup .nil) (.cons (.var 1) .nil))))))))
 (.cons (.ret (.ix (.var 5) (.bin .mod (.var 2) (.con (.int 8))))) .nil))))⟩
noncomputable def f21:Fn:=⟨1,8,.cons (.frz [0] (.asg (.many [1,2]) (.call 16 (.cons (.var 0) .nil)))) (.cons (.frz [1,2] (.asg (.one 3) (.call 20 (.cons (.var 1) (.cons (.var 2) (.cons (.call 13 (.cons (.var 0) (.cons (.con (.int 5)) .nil))) .nil)))))) (.cons (.frz [3,1] (.asg (.one 4) (.call 12 (.cons (.var 3) (.cons (.var 1) .nil)))))
 (.cons (.cond (.or (.not (.isi (.var 4) .bool)) (.cmp .ne (.var 4) (.call 19 (.cons (.var 3) (.cons (.var 1) .nil)))))
 (.cons (.ret (.con (.bl yi))) .nil) .nil)
 (.cons (.asg (.one 5) (.tup (.cons (.tup (.cons (.ix (.var 1) (.con (.int 0))) (.cons (.bin .add (.ix (.var 1) (.con (.int 0))) (.con (.int 1))) .nil))) (.cons (.tup (.cons (.ix (.var 1) (.con (.int 0))) (.cons (.bin .add (.ix (.var 1) (.con (.int 0))) (.con (.int 2))) .nil))) (.cons (.tup (.cons (.bin .add (.ix (.var 1) (.con (.int 0))) (.con (.int 1))) (.cons (.bin .add (.ix (.var 1) (.con (.int 0))) (.con (.int 2))) .nil))) .nil)))))
 (.cons (.cond (.and (.cmp .le (.ix (.var 1) (.con (.int 0))) (.con (.int 9))) (.cmp .le (.bi .len (.ix (.var 1) (.con (.int 1)))) (.con (.int 37))))
 (.cons (.asg (.one 6) (.tup (.cons (.bin .add (.ix (.var 1) (.con (.int 0))) (.con (.int 3))) (.cons (.bin .add (.ix (.var 1) (.con (.int 1))) (.var 5)) .nil))))
 (.cons (.cond (.or (.cmp .notC (.call 12 (.cons (.bin .add (.var 2) (.var 5)) (.cons (.var 6) .nil))) (.con (.bl yi))) (.cmp .notC (.call 12 (.cons (.var 2) (.cons (.var 6) .nil))) (.con (.bl yl))))
 (.cons (.ret (.con (.bl yi))) .nil) .nil) .nil)) .nil)
 (.cons (.asg (.one 7) (.lst (.cons (.bi .list (.var 2)) (.cons (.bi .revT (.var 2)) (.cons (.bin .add (.var 2) (.sl (.var 2) .no (.so (.con (.int 1))))) (.cons (.con .non) (.cons (.con (.int 7)) (.cons (.tup (.cons (.con (.str "knot")) (.cons (.var 2) .nil))) (.cons (.bin .add (.var 2) (.tup (.cons (.tup (.cons (.con (.int 0)) (.cons (.con (.int 0)) .nil))) .nil))) (.cons (.con (.str "knot")) .nil))))))))))
 (.cons (.ret (.cmp .isC (.call 12 (.cons (.ix (.var 7) (.bin .mod (.call 13 (.cons (.var 0) (.cons (.con (.int 14)) .nil))) (.con (.int 8)))) (.cons (.var 1) .nil))) (.con (.bl yi)))) .nil)))))))⟩
noncomputable def fns:List Fn:=[f0,f1,f2,f3,f4,f5,f6,f7,f8,f9,f10,f11,f12,f13,f14,f15,f16,f17,f18,f19,f20,f21]
end K12
namespace PY
section
variable {cl:Nat→List D→Option D} {W:Nat} {ρ ρ':Rho}
theorem zak{α:Type}{e:E}{t:Tg}{it:I}{n:Nat}{keep:List Nat}{b:Bool}(f:α->D)(g:α->D){l:List α}(hi:evi cl it ρ=ya (l.map f,b))
  (h:∀a∈l,∃ρ' r,give t (f a) (inner ρ n keep)=ya ρ'/\ev cl e ρ'=ya r/\solid? r=ya (g a)):ev cl (.comp e t it .no n keep) ρ=ya (.lst (l.map g),.fresh):=by
 have:∀l:List α,(∀a∈l,∃ρ' r,give t (f a) (inner ρ n keep)=ya ρ'/\ev cl e ρ'=ya r/\solid? r=ya (g a))->filterMapO (λd=>(give t d (inner ρ n keep)).bind λρ'=>(evc cl .no ρ').bind λk=>if k then(ev cl e ρ').bind λr=>(solid? r).map ya else ya yk) (l.map f)=ya (l.map g):=λl=>by
  induction l with
  | nil=>intro _;rfl
  | cons a l ih =>
   intro h;refine zKK λγ κ=>?_;obtain⟨ρ',r,h1,h2,h3⟩:=h a yg;refine κ ?_;rw[yo,filterMapO,ih λx hx=>h x (yf _ hx)];simp only[h1,ye,PY.zfn,PY.zgd,if_true,h2,h3,xx,yo]
 simp only[PY.zcp,hi,ye];rw[this l h];rfl
theorem z0{α:Type}{e c:E}{t:Tg}{it:I}{n:Nat}{keep:List Nat}{b:Bool}(f:α->D)(p:α->Bool)(g:α->D){l:List α}(hi:evi cl it ρ=ya (l.map f,b))
  (h:∀a∈l,∃ρ',give t (f a) (inner ρ n keep)=ya ρ'/\evT cl c ρ'=ya (p a)/\(p a=yl->∃r,ev cl e ρ'=ya r/\solid? r=ya (g a))):ev cl (.comp e t it (.so c) n keep) ρ=ya (.lst ((l.filter p).map g),.fresh):=by
 have:∀l:List α,(∀a∈l,∃ρ',give t (f a) (inner ρ n keep)=ya ρ'/\evT cl c ρ'=ya (p a)/\(p a=yl->∃r,ev cl e ρ'=ya r/\solid? r=ya (g a)))->filterMapO (λd=>(give t d (inner ρ n keep)).bind λρ'=>(evc cl (.so c) ρ').bind λk=>if k then(ev cl e ρ').bind λr=>(solid? r).map ya else ya yk) (l.map f)=ya ((l.filter p).map g):=λl=>by
  induction l with
  | nil=>intro _;rfl
  | cons a l ih =>
   intro h;obtain⟨ρ',h1,h2,h3⟩:=h a yg;rw[yo,filterMapO,ih λx hx=>h x (yf _ hx)];simp only[h1,ye,PY.zfn,PY.zgd,h2];cases e:p a with
   | false=>rw[xy (by simp[e])];rfl
   | true =>
    obtain⟨r,h4,h5⟩:=h3 e;rw[xm e];simp only[if_true,h4,ye,h5,xx,yo]
 simp only[PY.zcp,hi,ye];rw[this l h];rfl
theorem zbx{α:Type}{t:Tg}{it:I}{b:Ss}(f:α->D){l:List α}(h:evi cl it ρ=ya (l.map f,yi))(P:List α->Rho->Prop)(h0:P [] ρ)
  (st:∀s a ρ,s++[a] <+: l->P s ρ->∃ρ1 ρ',give t (f a) ρ=ya ρ1/\exs cl W b ρ1=ya (.nx ρ')/\P (s++[a]) ρ'):∃ρ',ex cl W (.loop t it b) ρ=ya (.nx ρ')/\P l ρ':=by
 have:∀(r s:List α) (ρ:Rho),s++r=l->P s ρ->∃ρ',loopO (λd ρ=>(give t d ρ).bind λρ'=>exs cl W b ρ') (r.map f) ρ=ya (.nx ρ')/\P l ρ':=λr=>by
  induction r with
  | nil=>intro s ρ e hp;rw[qr]at e;subst e;exact⟨ρ,rfl,hp⟩
  | cons a r ih =>
   intro s ρ e hp;refine zKK λγ κ=>?_;obtain⟨ρ1,ρ',g,e1,q⟩:=st s a ρ ⟨r,by rw[← e];simp⟩ hp;obtain⟨ρ2,e2,q2⟩:=ih (s++[a]) ρ' (by rw[← e];simp) q;refine κ ?_;exact⟨ρ2,by rw[yo,loopO];simp only[g,ye,e1];exact e2,q2⟩
 obtain⟨ρ2,e,q⟩:=this l [] ρ rfl h0;exact⟨ρ2,by simp only[PY.zbf,PY.za3,PY.zbw,PY.zbz,PY.zc2,PY.zbq,PY.zc7,h,ye];exact e,q⟩
end
end PY
namespace K12
open PY K01 K02 K20 L2 KN
noncomputable abbrev rngI (n:Nat):List Int:=(q5 n).map λ(i:Nat)=>(i:Int)
noncomputable abbrev rowsD (n:Nat) (es:List (Int×Int)):D:=.lst ((rngI n).map λp=>D.lst (intL (near es p)))
theorem zf0(n:Nat):rangeD 0 n=(rngI n).map D.int:=by
 unfold rangeD rngI;rw[qu];refine x9 λi _=>?_
 simp
theorem zcc{n:Nat}{v:Int}:v∈rngI n↔∃p:Nat,p<n/\v=p:=by
 rw[yz];constructor
 ·rintro⟨i,hi,rfl⟩;exact⟨i,jm.mp hi,rfl⟩
 ·rintro⟨p,hp,rfl⟩;exact⟨p,jm.mpr hp,rfl⟩
theorem zj2{α:Type}(f:α->D){l:List α}{k:Nat}{a:α}(h:l[k]? = ya a):index (.lst (l.map f)) (.int (k:Int))=ya (f a,.solid):=by
 have hk:=(qk.mp h).1;show(place (l.map f).length (k:Int)).bind (λk=>((l.map f)[k]?).map λd=>(d,Fl.solid))=_;rw[zcl (by simpa using hk),ye,yy,h];rfl
theorem zga{n p:Nat}(hp:p<n)(T:List Dt):index (rowsD n T) (.int (p:Int))=ya (.lst (intL (near T p)),.solid):=by
 have h:(rngI n)[p]? = ya (p:Int):=by rw[yy,ycc hp];rfl
 exact zj2 (λp=>D.lst (intL (near T p))) h
theorem znk(l:List Int)(v:Int):index (.lst (intL (l++[v]))) (.int (-1))=ya (.int v,.solid):=by
 show(place (intL (l++[v])).length (-1)).bind (λk=>((intL (l++[v]))[k]?).map λd=>(d,Fl.solid))=_
 have:place (intL (l++[v])).length (-1)=ya l.length:=by
  unfold place;rw[if_neg (by decide),if_pos (by simp;lia)];simp;lia
 rw[this,ye,yy];simp
theorem zqt(l:List Int)(u v:Int):index (.lst (intL (l++[u,v]))) (.int (-2))=ya (.int u,.solid):=by
 show(place (intL (l++[u,v])).length (-2)).bind (λk=>((intL (l++[u,v]))[k]?).map λd=>(d,Fl.solid))=_
 have:place (intL (l++[u,v])).length (-2)=ya l.length:=by
  unfold place;rw[if_neg (by decide),if_pos (by simp;lia)];simp;lia
 rw[this,ye,yy];simp
theorem zh5(a b:Int):cmpop .ne (.int a) (.int b)=ya (!decide (a=b)):=by
 show ya (!(a==b))=_;rw[show(a==b)=decide (a=b)from rfl]
theorem zes(a b:Int):cmpop .eq (.int a) (.int b)=ya (decide (a=b)):=rfl
theorem zat(l:List D):bltin .len (.lst l)=ya (.int (l.length:Int),.solid):=rfl
theorem zim(l:List D):bltin .len (.tup l)=ya (.int (l.length:Int),.solid):=rfl
section
variable {cl:Nat→List D→Option D} {W:Nat}
theorem m6(n:Nat)(es:List (Int×Int))(p:Int)(hl:es.length<=100):runF cl W f6 [netD n es,.int p]=ya (.lst (intL (near es p))):=by
 refine z5 ⟨rfl,by decide⟩ ?_;show exs cl W f6.body [.val (netD n es),.val (.int p),.no,.no]=_;simp only[f6];rw[ze (zo (r:=(.lst (intL ((es.filter λe=>e.2==p).map (·.1))),.fresh)) (ρ':=[.val (netD n es),.val (.int p),.own (intL ((es.filter λe=>e.2==p).map (·.1))),.no]) (zwi n es p _ rfl rfl) rfl)];rw[ze (zo (r:=(.lst (intL ((es.filter λe=>e.1==p).map (·.2))),.fresh)) (ρ':=[.val (netD n es),.val (.int p),.own (intL ((es.filter λe=>e.2==p).map (·.1))),.own (intL ((es.filter λe=>e.1==p).map (·.2)))]) (zu9 n es p _ rfl rfl) rfl)];exact zn (z6 (fl:=.fresh) (z8 (f:=.peek) (g:=.peek) rfl rfl (zqb _ _ (by have:=zs9 es p;lia))))
theorem zfu{ρ:Rho}{e:E}{n:Nat}(h:ev cl e ρ=ya (.int (n:Int),.solid))(hn:n<=1000):evi cl (.rng1 e) ρ=ya ((rngI n).map D.int,yi):=by
 rw[PY.zhz,h,ye];show(if small (n:Int)then ya (rangeD 0 n)else yk).map _=_;rw[zm6 hn,zf0];rfl
theorem m7(h6:∀n es p,es.length<=100->cl 6 [netD n es,.int p]=ya (.lst (intL (near es p))))(n:Nat)(es:List (Int×Int))(hn:n<=100)(hl:es.length<=100):runF cl W f7 [netD n es]=ya (rowsD n es):=by
 refine z5 ⟨rfl,by decide⟩ (zn (z6 (fl:=.fresh) ?_));refine zak (ρ:=[.val (netD n es)]) D.int (λp=>D.lst (intL (near es p))) (zfu rfl (by lia)) λp _=>?_
 exact⟨[.val (.int p),.val (netD n es)],(_,.solid),rfl,zl (zc rfl (zc rfl zi)) (h6 n es p hl),rfl⟩
theorem m8(hW:100<W){n:Nat}{T:List Dt}{e f:Int}{r:List Int}(g:Go T e f r)(hl:r.length<=90)(hw:∀x∈f::r,∃p:Nat,p<n/\x=p):runF cl W f8 [.int e,.int f,rowsD n T]=ya (.lst (intL (e::f::r))):=by
 let R:List Int->Rho:=λw=>[.val (.int e),.val (.int f),.val (rowsD n T),.own (intL w)]
 have row:∀(l:List Int) (v:Int) (p:Nat),p<n->v=p->∀(s:Sl),ev cl (.ix (.var 2) (.ix (.var 3) (.neg (.con (.int 1))))) (R (l++[v]))=ya (.lst (intL (near T v)),.solid):=λl v p hp e s=>by
  subst e;exact zbd (f:=.solid) (g:=.solid) rfl (zbd (f:=.peek) (g:=.solid) (x:=.lst (intL (l++[(p:Int)]))) (y:=.int (-1)) rfl rfl (znk l p)) (zga hp T)
 have key:=zhy (c:=λρ=>evT cl (.cmp .eq (.bi .len (.ix (.var 2) (.ix (.var 3) (.neg (.con (.int 1)))))) (.con (.int 2))) ρ) (f:=λρ=>exs cl W (.cons (.app 3 (.ix (.comp (.var 0) (.one 0) (.seq (.ix (.var 2) (.ix (.var 3) (.neg (.con (.int 1)))))) (.so (.cmp .ne (.var 0) (.ix (.var 1) (.neg (.con (.int 2)))))) 1 [3]) (.con (.int 0)))) .nil) ρ)
  (λm ρ=>∃pre u v r',ρ=R (pre++[u,v])/\Go T u v r'/\pre++u::v::r'=e::f::r/\m=r'.length/\(∀x∈v::r',∃p:Nat,p<n/\x=p)/\pre.length<=90)
  (by
   intro m ρ ζ6;refine zKK λγ κ=>?_;obtain⟨pre,u,v,r',rfl,g,ef,rfl,hin,hpl⟩:=ζ6;obtain⟨p,hp,ep⟩:=hin v yg;refine κ ?_;have er:R (pre++[u,v])=R ((pre++[u])++[v]):=by simp[R]
   have hrow:=row (pre++[u]) v p hp ep .no
   have hc:evT cl (.cmp .eq (.bi .len (.ix (.var 2) (.ix (.var 3) (.neg (.con (.int 1)))))) (.con (.int 2))) (R (pre++[u,v]))=ya (decide (((near T v).length:Int)=2)):=by
    rw[er];refine zm (f:=.solid) (g:=.solid) (zr hrow (zat _)) rfl ?_;rw[yd];exact zes _ _
   cases g with
   | stop h =>
    left;rw[hc];exact congrArg ya (decide_eq_false λz=>h (by show(near T v).length=2;lia))
   | @step _ _ x r2 h hf g2 =>
    right;have h2:(near T v).length=2:=h;refine⟨by rw[hc,h2];rfl,R (pre++[u,v,x]),r2.length,?_,⟨pre++[u],v,x,r2,by simp[R],g2,by rw[← ef];simp,rfl,λy hy=>hin y (yf _ hy),?_⟩,by simp⟩
    ·have hcomp:ev cl (.comp (.var 0) (.one 0) (.seq (.ix (.var 2) (.ix (.var 3) (.neg (.con (.int 1)))))) (.so (.cmp .ne (.var 0) (.ix (.var 1) (.neg (.con (.int 2)))))) 1 [3]) (R (pre++[u,v]))=ya (.lst (intL [x]),.fresh):=by
      rw[← hf,er];refine z0 D.int (λy=>!decide (y=u)) D.int (b:=yi) (zt hrow rfl) λy _=>?_
      refine⟨[.val (.int y),.own (intL (pre++[u,v]))],by simp[inner,R,give],?_,λ_=>⟨_,rfl,rfl⟩⟩;exact zm (f:=.solid) (g:=.solid) (x:=.int y) (y:=.int u) rfl (zbd (f:=.peek) (g:=.solid) (x:=.lst (intL (pre++[u,v]))) (y:=.int (-2)) rfl rfl (zqt pre u v)) (zh5 y u)
     have hix:ev cl (.ix (.comp (.var 0) (.one 0) (.seq (.ix (.var 2) (.ix (.var 3) (.neg (.con (.int 1)))))) (.so (.cmp .ne (.var 0) (.ix (.var 1) (.neg (.con (.int 2)))))) 1 [3]) (.con (.int 0))) (R (pre++[u,v]))=ya (.int x,.solid):=zbd (g:=.solid) hcomp rfl rfl;refine ze ?_;simp only[PY.zbf,hix,ye,solid?];show(if(intL (pre++[u,v])).length<big then ya (Out.nx [_,_,_,Sl.own (intL (pre++[u,v])++[.int x])])else yk)=_;rw[if_pos (by simp[big];lia)];simp[R]
    ·have:=congrArg uc ef
     simp at this;simp;lia)
  W r.length (R [e,f]) ⟨[],e,f,r,rfl,g,rfl,rfl,hw,wm _⟩ (by lia)
 obtain⟨ρ',m',e1,⟨pre,u,v,r',rfl,g',ef,_,hin,_⟩,hc⟩:=key
 have hr:r'=[]:=by
  cases g' with
  | stop _=>rfl
  | @step _ _ x r2 h hf g2 =>
   obtain⟨p,hp,ep⟩:=hin v yg;have er:R (pre++[u,v])=R ((pre++[u])++[v]):=by simp[R]
   have hc2:evT cl (.cmp .eq (.bi .len (.ix (.var 2) (.ix (.var 3) (.neg (.con (.int 1)))))) (.con (.int 2))) (R (pre++[u,v]))=ya yl:=by
    rw[er];refine zm (f:=.solid) (g:=.solid) (zr (row (pre++[u]) v p hp ep .no) (zat _)) rfl ?_;rw[yd,show(near T v).length=2 from h];rfl
   rw[hc2]at hc;cases hc
 subst hr;refine z5 ⟨rfl,by decide⟩ ?_;show exs cl W f8.body [.val (.int e),.val (.int f),.val (rowsD n T),.no]=_;simp only[f8];rw[ze (zo (r:=(.lst (intL [e,f]),.fresh)) (ρ':=R [e,f]) (zgo (zc rfl (zc rfl zi)) (show 2<=4000 by decide)) rfl)];rw[ze (show ex cl W (.while _ _) (R [e,f])=_ by rw[PY.zej];exact e1)];refine zn (z6 (fl:=.peek) ?_);rw[← ef];rfl
end
end K12
namespace PY
section
variable {cl:Nat→List D→Option D} {W:Nat} {ρ ρ':Rho}
theorem zq4{α:Type}{t:Tg}{it:I}{b:Ss}(f:α->D){l:List α}(h:evi cl it ρ=ya (l.map f,yi))(P:Rho->Prop)(q:α->Bool)(v:D)(h0:P ρ)
  (st:∀a∈l,∀ρ,P ρ->∃ρ1,give t (f a) ρ=ya ρ1/\if q a then∃ρ',exs cl W b ρ1=ya (.nx ρ')/\P ρ' else exs cl W b ρ1=ya (.rt v)) :
  if l.all q then∃ρ',ex cl W (.loop t it b) ρ=ya (.nx ρ')/\P ρ' else ex cl W (.loop t it b) ρ=ya (.rt v):=by
 have:∀(r:List α),(∀a∈r,a∈l)->∀(ρ:Rho),P ρ->if r.all q then∃ρ',loopO (λd ρ=>(give t d ρ).bind λρ'=>exs cl W b ρ') (r.map f) ρ=ya (.nx ρ')/\P ρ' else loopO (λd ρ=>(give t d ρ).bind λρ'=>exs cl W b ρ') (r.map f) ρ=ya (.rt v):=λr=>by
  induction r with
  | nil=>intro _ ρ hp;exact⟨ρ,rfl,hp⟩
  | cons a r ih =>
   intro hin ρ hp;obtain⟨ρ1,g,e1⟩:=st a (hin a yg) ρ hp;rw[wn];cases hq:q a with
   | true =>
    rw[hq,if_pos rfl]at e1;obtain⟨ρ',e1,hp'⟩:=e1;have:=ih (λx hx=>hin x (yf _ hx)) ρ' hp';rw[yb0,yo,loopO];simp only[g,ye,e1];exact this
   | false =>
    rw[hq,if_neg qc]at e1;rw[yci,if_neg qc,yo,loopO];simp only[g,ye,e1]
 have:=this l (λ_ h=>h) ρ h0;simp only[PY.zbf,PY.za3,PY.zbw,PY.zbz,PY.zc2,PY.zbq,PY.zc7,h,ye];exact this
end
end PY
namespace K12
open PY K01 K02 K20 L2 KN
noncomputable abbrev lsD (l:List Int):D:=.lst (intL l)
section
variable {cl:Nat→List D→Option D} {W:Nat}
theorem m9{n:Nat}{T:List Dt}{E:List Int}{w:Int->Int->List Int}(h8:∀e∈E,∀f∈near T e,cl 8 [.int e,.int f,rowsD n T]=ya (lsD (w e f)))(hE:∀e∈E,∃p:Nat,p<n/\e=p)
  (hl:(E.flatMap λe=>(near T e).map (w e)).length<=4000):runF cl W f9 [lsD E,rowsD n T]=ya (.lst ((E.flatMap λe=>(near T e).map (w e)).map lsD)):=by
 let R:List (List Int)->Sl->Rho:=λL s3=>[.val (lsD E),.val (rowsD n T),.own (L.map lsD),s3]
 obtain⟨ρ',e,s3,rfl⟩:=zbx (cl:=cl) (W:=W) (t:=.one 3) (it:=.seq (.var 0)) (b:=.cons (.ext 2 (.comp (.call 8 (.cons (.var 1) (.cons (.var 0) (.cons (.var 2) .nil)))) (.one 0) (.seq (.ix (.var 1) (.var 3))) .no 1 [3,1])) .nil)
  (ρ:=R [] .no) D.int (l:=E) (zt (x:=lsD E) rfl rfl) (λs ρ=>∃s3,ρ=R (s.flatMap λe=>(near T e).map (w e)) s3) ⟨_,rfl⟩ (by
   rintro s a ρ ⟨t,hs⟩ ⟨s3,rfl⟩;have ha:a∈E:=by rw[← hs];simp
   obtain⟨p,hp,rfl⟩:=hE a ha;refine⟨R (s.flatMap λe=>(near T e).map (w e)) (.val (.int p)),R ((s++[(p:Int)]).flatMap λe=>(near T e).map (w e)) (.val (.int p)),rfl,ze ?_,.val (.int p),rfl⟩
   have hc:ev cl (.comp (.call 8 (.cons (.var 1) (.cons (.var 0) (.cons (.var 2) .nil)))) (.one 0) (.seq (.ix (.var 1) (.var 3))) .no 1 [3,1]) (R (s.flatMap λe=>(near T e).map (w e)) (.val (.int p)))=ya (.lst ((near T p).map λf=>lsD (w p f)),.fresh):=by
    refine zak D.int (λf=>lsD (w p f)) (b:=yi) (zt (zbd (f:=.solid) (g:=.solid) rfl rfl (zga hp T)) rfl) λf hf=>?_
    exact⟨[.val (.int f),.val (.int p),.val (rowsD n T)],(_,.solid),rfl,zl (zc rfl (zc rfl (zc rfl zi))) (h8 p ha f hf),rfl⟩
   simp only[PY.zbq,PY.zbf,PY.zc7,PY.za3,hc,ye,if_true,lsti];show(if((s.flatMap λe=>(near T e).map (w e)).map lsD).length+((near T p).map λf=>lsD (w p f)).length<=big then ya (Out.nx [_,_,Sl.own (((s.flatMap λe=>(near T e).map (w e)).map lsD)++((near T p).map λf=>lsD (w p f))),_])else yk)=_
   have e2:((s.flatMap λe=>(near T e).map (w e)).map lsD)++((near T p).map λf=>lsD (w p f))=(((s++[(p:Int)]).flatMap λe=>(near T e).map (w e)).map lsD):=by
    rw[wb,qb];congr 1;simp[qu]
   rw[← yu,e2,if_pos]
   ·rw[← hs,wb,yu]at hl
    rw[yd];unfold big;lia)
 refine z5 ⟨rfl,by decide⟩ ?_;show exs cl W f9.body [.val (lsD E),.val (rowsD n T),.no,.no]=_;simp only[f9];rw[ze (zo (r:=(.lst [],.fresh)) (ρ':=R [] .no) rfl rfl)];rw[ze (show ex cl W (.frz [0] _) (R [] .no)=_ by rw[PY.zu];exact e)];exact zn (z6 (fl:=.peek) rfl)
theorem zvp{w:List Int}(h:w≠[]):index (lsD w) (.int (-1))=ya (.int (lst w),.solid):=by
 obtain⟨l,v,rfl⟩:∃l v,w=l++[v]:=⟨w.dropLast,w.getLast h,(yb9 h).symm⟩;rw[znk];unfold lst;simp[jg]
theorem zv2{w:List Int}(h:w≠[]):index (lsD w) (.int 0)=ya (.int (fst w),.solid):=by
 cases w with
 | nil=>exact absurd rfl h
 | cons a w=>rfl
theorem zay{l:List Int}(h:l.length<64):sortO (intL l)=ya (lsD (sortI l),.fresh):=by
 unfold sortO;rw[zbl];exact if_pos h
noncomputable def JL(L:List (List Int))(e:Int):List Int:=sortI ((L.filter λw=>decide (fst w=e)).map lst)
theorem m10{L:List (List Int)}(hL:∀w∈L,w≠[])(h64:L.length<64)(e:Int):runF cl W f10 [.int e,.lst (L.map lsD)]=ya (lsD (JL L e)):=by
 refine z5 ⟨rfl,by decide⟩ (zn (z6 (fl:=.fresh) (zr (f:=.fresh) (x:=lsD ((L.filter λw=>decide (fst w=e)).map lst)) ?_ ?_)))
 ·have:=z0 (cl:=cl) (ρ:=[.val (.int e),.val (.lst (L.map lsD))]) (e:=.ix (.var 0) (.neg (.con (.int 1)))) (c:=.cmp .eq (.ix (.var 0) (.con (.int 0))) (.var 1)) (t:=.one 0) (it:=.seq (.var 1)) (n:=1) (keep:=[0]) (b:=yi) lsD (λw=>decide (fst w=e)) (λw=>.int (lst w)) (l:=L) (zt (x:=.lst (L.map lsD)) rfl rfl) λw hw=>by
   refine⟨[.val (lsD w),.val (.int e)],rfl,zm (f:=.solid) (g:=.solid) (zbd (f:=.solid) (g:=.solid) (x:=lsD w) (y:=.int 0) rfl rfl (zv2 (hL w hw))) rfl (zes _ _),λ_=>⟨(.int (lst w),.solid),zbd (f:=.solid) (g:=.solid) (x:=lsD w) (y:=.int (-1)) rfl rfl (zvp (hL w hw)),rfl⟩⟩
  rw[show lsD ((L.filter λw=>decide (fst w=e)).map lst)=.lst ((L.filter λw=>decide (fst w=e)).map λw=>.int (lst w))by show D.lst _=_;unfold intL;rw[qu];rfl];exact this
 ·exact zay (yeh (by rw[yd];exact jk _ _) h64)
theorem zox{α:Type}(f g:α->D):∀l:List α,zipD (l.map f) (l.map g)=l.map λa=>.tup [f a,g a]
 | []=>rfl
 | a::l=>by
  have:=zox f g l;unfold zipD at this ⊢;rw[yo,yo,ji,yo,this];rfl
theorem zol(l m:List Int):D.eq (lsD l) (lsD m)=decide (l=m):=by rw[PY.zas];exact zkr l m
theorem zm4(l m:List Int):cmpop .ne (lsD l) (lsD m)=ya (!decide (l=m)):=by
 show(if D.deep 8 (lsD l)&&D.deep 8 (lsD m)then ya (!D.eq (lsD l) (lsD m))else yk)=_;rw[zol,if_pos];show((intL l).all (D.deep 7)&&(intL m).all (D.deep 7))=yl;rw[zfb,zfb];rfl
theorem m11{L:List (List Int)}{E:List Int}(h10:∀e,cl 10 [.int e,.lst (L.map lsD)]=ya (lsD (JL L e))) :
  runF cl W f11 [lsD E,.lst (L.map lsD)]=ya (.bl (E.all λe=>decide (JL L e=E.filter λx=>!decide (JL L x=JL L e)))):=by
 let R:Sl->Rho:=λs3=>[.val (lsD E),.val (.lst (L.map lsD)),.val (.lst (E.map λe=>lsD (JL L e))),s3]
 have hj:ev cl (.comp (.call 10 (.cons (.var 0) (.cons (.var 1) .nil))) (.one 0) (.seq (.var 0)) .no 1 [1]) [.val (lsD E),.val (.lst (L.map lsD)),.no,.no]=ya (.lst (E.map λe=>lsD (JL L e)),.fresh) :=
  zak D.int (λe=>lsD (JL L e)) (b:=yi) (zt (x:=lsD E) rfl rfl) λe _=>⟨[.val (.int e),.val (.lst (L.map lsD))],(_,.solid),rfl,zl (zc rfl (zc rfl zi)) (h10 e),rfl⟩
 have lp:=zq4 (cl:=cl) (W:=W) (t:=.one 3) (it:=.seq (.var 2)) (b:=.cons (.cond (.cmp .ne (.var 3) (.comp (.var 0) (.many [0,1]) (.zip (.var 0) (.var 2)) (.so (.cmp .ne (.var 1) (.var 2))) 2 [3])) (.cons (.ret (.con (.bl yi))) .nil) .nil) .nil)
  (ρ:=R .no) (λe=>lsD (JL L e)) (l:=E) (zt (x:=.lst (E.map λe=>lsD (JL L e))) rfl rfl) (λρ=>∃s3,ρ=R s3) (λe=>decide (JL L e=E.filter λx=>!decide (JL L x=JL L e))) (.bl yi) ⟨_,rfl⟩ (by
   rintro a _ ρ ⟨s3,rfl⟩;refine⟨R (.val (lsD (JL L a))),rfl,?_⟩
   have hz:ev cl (.comp (.var 0) (.many [0,1]) (.zip (.var 0) (.var 2)) (.so (.cmp .ne (.var 1) (.var 2))) 2 [3]) (R (.val (lsD (JL L a))))=ya (lsD (E.filter λx=>!decide (JL L x=JL L a)),.fresh):=by
    refine z0 (λe=>.tup [.int e,lsD (JL L e)]) (λx=>!decide (JL L x=JL L a)) D.int (l:=E) (b:=yi) ?_ λe _=>?_
    ·rw[PY.zk7]
     show ya (zipD (E.map D.int) (E.map λe=>lsD (JL L e)),yi)=_;rw[zox]
    ·exact⟨[.val (.int e),.val (lsD (JL L e)),.val (lsD (JL L a))],rfl,zm (f:=.solid) (g:=.solid) rfl rfl (zm4 _ _),λ_=>⟨_,rfl,rfl⟩⟩
   have hc:evT cl (.cmp .ne (.var 3) (.comp (.var 0) (.many [0,1]) (.zip (.var 0) (.var 2)) (.so (.cmp .ne (.var 1) (.var 2))) 2 [3])) (R (.val (lsD (JL L a))))=ya (!decide (JL L a=E.filter λx=>!decide (JL L x=JL L a))) :=
    zm (f:=.solid) (g:=.fresh) rfl hz (zm4 _ _)
   cases hd:decide (JL L a=E.filter λx=>!decide (JL L x=JL L a))with
   | true =>
    rw[hd]at hc;exact⟨_,ze (zax hc),_,rfl⟩
   | false =>
    rw[hd]at hc;rw[if_neg qc];exact zn (by rw[zdh hc];rfl))
 refine z5 ⟨rfl,by decide⟩ ?_;show exs cl W f11.body [.val (lsD E),.val (.lst (L.map lsD)),.no,.no]=_;simp only[f11];rw[ze (zo (r:=(_,.fresh)) (ρ':=[.val (lsD E),.val (.lst (L.map lsD)),.own (E.map λe=>lsD (JL L e)),.no]) hj rfl)];have fz:∀b,ex cl W (.frz [2] b) [.val (lsD E),.val (.lst (L.map lsD)),.own (E.map λe=>lsD (JL L e)),.no]=ex cl W b (R .no):=λb=>by rw[PY.zu];rfl
 cases ha:E.all λe=>decide (JL L e=E.filter λx=>!decide (JL L x=JL L e))with
 | true =>
  rw[ha,if_pos rfl]at lp;obtain⟨ρ',e,s3,rfl⟩:=lp;rw[ze ((fz _).trans e)];rfl
 | false =>
  rw[ha,if_neg qc]at lp;exact zn ((fz _).trans lp)
end
noncomputable def Lw(n:Nat)(T:List Dt):List (List Int):=(ends n T).flatMap λe=>(near T e).map (wf T e)
theorem zgj(g:Int->List (List Int)):∀{E:List Int} {e:Int},E.Nodup->e∈E->(∀x∈E,∀w∈g x,fst w=x)->(E.flatMap g).filter (λw=>decide (fst w=e))=g e
 | [],_,_,h,_=>by cases h
 | x::E,e,nd,h,hg=>by
  obtain⟨n1,n2⟩:=xw.mp nd;have hx:=hg x yg;have hE:=λy hy=>hg y (yf _ hy)
  rw[qy,ya6];by_cases k:e=x
  ·subst k
   have a:(g e).filter (λw=>decide (fst w=e))=g e:=ycd.mpr λw hw=>decide_eq_true (hx w hw)
   have b:(E.flatMap g).filter (λw=>decide (fst w=e))=[]:=ybm.mpr λw hw=>by
    obtain⟨y,hy,hw⟩:=j8.mp hw;rw[hE y hy w hw];simp only[decide_eq_true_eq];exactλz=>n1 (z▸hy)
   rw[a,b,qr]
  ·have a:(g x).filter (λw=>decide (fst w=e))=[]:=ybm.mpr λw hw=>by
    rw[hx w hw];simp[xg k]
   rw[a,ya0,zgj g n2 ((yn.mp h).resolve_left k) hE]
section
variable {n:Nat} {T:List Dt} (hs:Simple T)
theorem zsi(hs:Simple T):∃S C,Fin T S C:=by
 have d:Dec T (T.map λe=>[e.1,e.2]):=by
  refine⟨λp hp=>?_,?_,λp hp v hv=>?_⟩
  ·obtain⟨e,_,rfl⟩:=yz.mp hp
   exact y6 _
  ·have:∀Q:List Dt,(∀e∈Q,e.1<e.2)->(Q.map λe=>[e.1,e.2]).flatMap edg=Q:=λQ=>by
    induction Q with
    | nil=>intro _;rfl
    | cons q Q ih =>
     intro h;have hq:=h q yg;rw[yo,qy,ih λx hx=>h x (yf _ hx)];show[nrm q.1 q.2]++Q=_;unfold nrm;rw[if_pos hq];rfl
   rw[this T hs.lt]
  ·obtain⟨e,_,rfl⟩:=yz.mp hp
   cases hv
 obtain⟨S,C,f,_⟩:=finish hs _ _ [] rfl (by rw[qr];exact d) λ_ z=>by cases z
 exact⟨S,C,f⟩
theorem znw(hs:Simple T)(hn:Within n T){e f:Int}(he:e∈ends n T)(hf:f∈near T e):∃r,Go T e f r/\wf T e f=e::f::r/\r.length<=T.length/\∀x∈f::r,∃p:Nat,p<n/\x=p:=by
 refine zKK λγ κ=>?_;obtain⟨S,C,F⟩:=zsi hs;have d2:=(zcv hn).mp he;obtain⟨r,g,hw⟩:=F.go hs (by lia) hf;refine κ ?_;refine⟨r,g,zu5 g,?_,λx hx=>?_⟩
 ·obtain⟨p,hp,hw⟩:=j8.mp hw
  have hl:(e::f::r).length=p.length:=by
   rcases qt.mp hw with hw | hw
   ·split at hw
    ·rw[qd.mp hw]
    ·cases hw
   ·split at hw
    ·rw[qd.mp hw,wa]
    ·cases hw
  have sz:=F.dec.size;obtain⟨s,t,e1⟩:=wg (jf C hp);rw[e1,qb,yo,u5,xq]at sz;unfold ln at sz;simp at hl;lia
 ·have:∀{u v:Int} {r:List Int},Go T u v r->KN.deg T v≠0->∀x∈v::r,KN.deg T x≠0:=λ{u v r} g=>by
   induction g with
   | stop h=>intro k x hx;rw[qd.mp hx];exact k
   | @step u v x r h f g ih =>
    intro k y hy;rcases yn.mp hy with rfl | hy
    ·exact k
    ·refine ih ?_ y hy
     have hx:x∈near T v:=(qa.mp (f▸qd.mpr rfl:x∈(near T v).filter λy=>!decide (y=u))).1;have:=K05.zku hx;intro z;have z':near T x=[]:=j5.mp z;rw[z']at this;cases this
  refine hn x (this g ?_ x hx);intro z;have z':near T f=[]:=j5.mp z;have:=K05.zku hf;rw[z']at this;cases this
theorem zo5(hs:Simple T)(hn:Within n T){w:List Int}(hw:w∈Lw n T):w≠[]/\w.length<=T.length+2:=by
 refine zKK λγ κ=>?_;obtain⟨e,he,hw⟩:=j8.mp hw;obtain⟨f,hf,rfl⟩:=yz.mp hw;obtain⟨r,_,e1,hl,_⟩:=znw hs hn he hf;refine κ ?_;rw[e1];exact⟨by simp,by simp;lia⟩
theorem zwq(hs:Simple T)(hn:Within n T){e:Int}(he:e∈ends n T):JL (Lw n T) e=Jw T e:=by
 unfold JL Lw Jw;rw[zgj _ (zdr n T).nd he,qu]
 ·rfl
 ·intro x hx w hw
  obtain⟨f,hf,rfl⟩:=yz.mp hw;obtain⟨r,_,e1,_⟩:=znw hs hn hx hf;rw[e1];rfl
theorem ztj:∀l:List Nat,sumI (l.map λ(k:Nat)=>(k:Int))=(l.sum:Int):=λl=>by
 have:∀(l:List Nat) (a:Nat),(l.map λ(k:Nat)=>(k:Int)).foldl (· + ·) (a:Int)=((a+l.sum:Nat):Int):=λl=>by
  induction l with
  | nil=>intro a;simp
  | cons x l ih =>
   intro a;rw[yo,u4,show(a:Int)+(x:Int)=((a+x:Nat):Int)by lia,ih,xq];congr 1;lia
 have:=this l 0;rw[vm]at this;exact this
theorem zj7(g:Int->List (List Int)):∀E:List Int,((E.flatMap g).map ln).sum=(E.map λe=>((g e).map ln).sum).sum
 | []=>rfl
 | e::E=>by rw[qy,qb,u5,zj7 g E,yo,xq]
theorem zf9(g:Int->List (List Int)):∀E:List Int,(E.flatMap g).length=(E.map λe=>(g e).length).sum
 | []=>rfl
 | e::E=>by rw[qy,yu,zf9 g E,yo,xq]
end
section
variable {cl:Nat→List D→Option D} {W:Nat}
theorem m12no{d x:D}(h5:cl 5 [d,x]=ya (.bl yi)):runF cl W f12 [d,x]=ya (.bl yi):=by
 refine z5 ⟨rfl,by decide⟩ (zn ?_);rw[zdh (k:=yl) (ziy (p:=yi) (by rw[zjw (zc rfl (zc rfl zi)) h5];rfl))];rfl
theorem m12{n:Nat}{T es:List Dt}(hs:Simple T)(hn:Within n T)(n100:n<=100)(l60:T.length<=60)(h5:cl 5 [.tup (T.map pr),netD n es]=ya (.bl yl))(h7:cl 7 [netD n T]=ya (rowsD n T))
  (h9:cl 9 [lsD (ends n T),rowsD n T]=ya (.lst ((Lw n T).map lsD))) (h11:(Lw n T).length<64->cl 11 [lsD (ends n T),.lst ((Lw n T).map lsD)]=ya (.bl ((ends n T).all λe=>decide (JL (Lw n T) e=(ends n T).filter λx=>!decide (JL (Lw n T) x=JL (Lw n T) e))))) :
  ∃b,runF cl W f12 [.tup (T.map pr),netD n es]=ya (.bl b)/\(b=yl↔Prog n T):=by
 let R:Sl->Sl->Sl->Sl->Rho:=λs2 s3 s4 s5=>[.val (.tup (T.map pr)),.val (netD n es),s2,s3,s4,s5]
 have c1:ex cl W (.cond (.not (.call 5 (.cons (.var 0) (.cons (.var 1) .nil)))) (.cons (.ret (.con (.bl yi))) .nil) .nil) (R .no .no .no .no)=ya (.nx (R .no .no .no .no)) :=
  zax (ziy (p:=yl) (by rw[zjw (zc rfl (zc rfl zi)) h5];rfl))
 have c2:ex cl W (.frz [] (.asg (.one 2) (.call 7 (.cons (.tup (.cons (.ix (.var 1) (.con (.int 0))) (.cons (.var 0) .nil))) .nil)))) (R .no .no .no .no)=ya (.nx (R (.val (rowsD n T)) .no .no .no)):=by
  rw[PY.zu];exact z7 (zl (zc (zea (ds:=[.int n,.tup (T.map pr)]) (zc rfl (zc rfl zi)) (show 2<=4000 by decide)) zi) h7) rfl
 have c3:ex cl W (.asg (.one 3) (.comp (.var 0) (.one 0) (.rng1 (.ix (.var 1) (.con (.int 0)))) (.so (.cmp .gt (.bi .len (.ix (.var 1) (.var 0))) (.con (.int 2)))) 1 [2])) (R (.val (rowsD n T)) .no .no .no)=ya (.nx (R (.val (rowsD n T)) (.own (intL (ends n T))) .no .no)):=by
  refine zo (r:=(lsD (ends n T),.fresh)) ?_ rfl;refine z0 D.int (λp=>decide (2<deg T p)) D.int (b:=yi) (zfu (n:=n) rfl (by lia)) λp hp=>?_
  obtain⟨q,hq,rfl⟩:=zcc.mp hp;refine⟨[.val (.int q),.val (rowsD n T)],rfl,?_,λ_=>⟨_,rfl,rfl⟩⟩;refine zm (f:=.solid) (g:=.solid) (zr (zbd (f:=.solid) (g:=.solid) rfl rfl (zga hq T)) (zat _)) rfl ?_;show ya (decide ((2:Int)<((intL (near T q)).length:Int)))=_;rw[yd];congr 1;exact decide_eq_decide.mpr ⟨λh=>by show 2<(near T q).length;lia,λh=>by have:2<(near T q).length:=h;lia⟩
 -- the question ahead of the ways
 have c4:evT cl (.or (.bi .any (.comp (.cmp .eq (.bi .len (.var 0)) (.con (.int 1))) (.one 0) (.seq (.var 2)) .no 1 [])) (.ttn (.bi .tuple (.comp (.bi .len (.ix (.var 1) (.var 0))) (.one 0) (.seq (.var 3)) .no 1 [2])) "SHAPES" [[4,4,4,4,4],[3,3,3,3,3,3]])) (R (.val (rowsD n T)) (.own (intL (ends n T))) .no .no)
   = ya (((rngI n).any λp=>decide (deg T p=1))||!(([[4,4,4,4,4],[3,3,3,3,3,3]]:List (List Int)).contains ((ends n T).map λe=>(deg T e:Int)))):=by
  refine zfi ?_ ?_
  ·have e:=zak (cl:=cl) (ρ:=R (.val (rowsD n T)) (.own (intL (ends n T))) .no .no) (e:=.cmp .eq (.bi .len (.var 0)) (.con (.int 1))) (t:=.one 0) (it:=.seq (.var 2)) (n:=1) (keep:=[]) (b:=yi) (λp=>lsD (near T p)) (λp=>D.bl (decide (deg T p=1))) (l:=rngI n) (zt (x:=rowsD n T) rfl rfl) λp _=>by
    refine⟨[.val (lsD (near T p))],(.bl (decide (deg T p=1)),.solid),rfl,?_,rfl⟩;refine zb2 (f:=.solid) (g:=.solid) (zr (f:=.solid) (x:=lsD (near T p)) rfl (zat _)) rfl ?_;rw[yd];show ya (decide (((near T p).length:Int)=1))=_;congr 1;exact decide_eq_decide.mpr ⟨λh=>by show(near T p).length=1;lia,λh=>by have:(near T p).length=1:=h;lia⟩
   rw[PY.zng,e,ye,zt8 (λp=>decide (deg T p=1)) (rngI n)];rfl
  ·have e:=zak (cl:=cl) (ρ:=R (.val (rowsD n T)) (.own (intL (ends n T))) .no .no) (e:=.bi .len (.ix (.var 1) (.var 0))) (t:=.one 0) (it:=.seq (.var 3)) (n:=1) (keep:=[2]) (b:=yl) D.int (λe=>D.int (deg T e:Int)) (l:=ends n T) rfl λe he=>by
    obtain⟨q,hq,rfl⟩:=zcc.mp (qa.mp he).1;refine⟨[.val (.int q),.val (rowsD n T)],(.int (deg T q:Int),.solid),rfl,?_,rfl⟩;refine zr (zbd (f:=.solid) (g:=.solid) rfl rfl (zga hq T)) ?_;rw[zat,yd]
   have e2:ev cl (.bi .tuple (.comp (.bi .len (.ix (.var 1) (.var 0))) (.one 0) (.seq (.var 3)) .no 1 [2])) (R (.val (rowsD n T)) (.own (intL (ends n T))) .no .no)=ya (.tup ((ends n T).map λe=>D.int (deg T e:Int)),.solid):=zr e rfl;rw[PY.zkh,e2,ye]
   have e3:keyI (.tup ((ends n T).map λe=>D.int (deg T e:Int)))=ya ((ends n T).map λe=>(deg T e:Int)):=by
    have:=zbl ((ends n T).map λe=>(deg T e:Int));unfold intL at this;rw[qu]at this;exact this
   show(keyI (.tup ((ends n T).map λe=>D.int (deg T e:Int)))).map _=_;rw[e3];rfl
 have start:∀r,exs cl W f12.body (R .no .no .no .no)=r↔exs cl W f12.body [.val (.tup (T.map pr)),.val (netD n es),.no,.no,.no,.no]=r:=λr=>Iff.rfl
 have shp:(([[4,4,4,4,4],[3,3,3,3,3,3]]:List (List Int)).contains ((ends n T).map λe=>(deg T e:Int)))=yl↔(ends n T).map (deg T)=ja 5 4\/(ends n T).map (deg T)=ja 6 3:=by
  have up:∀l:List Nat,(ends n T).map (deg T)=l↔(ends n T).map (λe=>(deg T e:Int))=l.map λ(k:Nat)=>(k:Int):=λl=>by
   have:(ends n T).map (λe=>(deg T e:Int))=((ends n T).map (deg T)).map λ(k:Nat)=>(k:Int):=by rw[qu];rfl
   rw[this];exact⟨λh=>by rw[h],λh=>ya5 (λa b h=>by lia) |>.mp h⟩
  rw[up,up,ydz];simp[ja]
 cases hq:(((rngI n).any λp=>decide (deg T p=1))||!(([[4,4,4,4,4],[3,3,3,3,3,3]]:List (List Int)).contains ((ends n T).map λe=>(deg T e:Int))))with
 | true =>
  rw[hq]at c4;refine⟨yi,z5 ⟨rfl,by decide⟩ ?_,⟨λh=>(by cases h),λg=>?_⟩⟩
  ·show exs cl W f12.body (R .no .no .no .no)=_
   simp only[f12];rw[ze c1,ze c2,ze c3];exact zn (by rw[zdh c4];rfl)
  ·rw[shp.mpr g.shape]at hq
   simp only[yab,yfl,jo,decide_eq_true_eq]at hq;obtain⟨p,hp,h1⟩:=hq;obtain⟨q,hq,rfl⟩:=zcc.mp hp;exact absurd h1 (g.one q hq)
 | false =>
  rw[hq]at c4;rw[yb4,Bool.not_eq_false']at hq;have shape:=shp.mp hq.2
  have one:∀p:Nat,p<n->deg T p≠1:=λp hp z=>by
   have:=ybl.mp hq.1 p (zcc.mpr ⟨p,hp,rfl⟩);simp[z]at this
  have l64:(Lw n T).length<64:=by
   unfold Lw;rw[zf9];have:((ends n T).map λe=>((near T e).map (wf T e)).length)=(ends n T).map (deg T):=x9 λe _=>by rw[yd]
   rw[this];rcases shape with h | h <;> rw[h] <;> decide
  have c5:ex cl W (.frz [3,2] (.asg (.one 4) (.call 9 (.cons (.var 3) (.cons (.var 2) .nil))))) (R (.val (rowsD n T)) (.own (intL (ends n T))) .no .no)=ya (.nx (R (.val (rowsD n T)) (.val (lsD (ends n T))) (.val (.lst ((Lw n T).map lsD))) .no)):=by
   rw[PY.zu];exact z7 (ρ:=R (.val (rowsD n T)) (.val (lsD (ends n T))) .no .no) (zl (zc rfl (zc rfl zi)) h9) rfl
  have c6:ex cl W (.asg (.one 5) (.comp (.bin .sub (.bi .len (.var 0)) (.con (.int 1))) (.one 0) (.seq (.var 4)) .no 1 [])) (R (.val (rowsD n T)) (.val (lsD (ends n T))) (.val (.lst ((Lw n T).map lsD))) .no)=ya (.nx (R (.val (rowsD n T)) (.val (lsD (ends n T))) (.val (.lst ((Lw n T).map lsD))) (.own ((Lw n T).map λw=>D.int (ln w:Int))))):=by
   refine zo (r:=(.lst ((Lw n T).map λw=>D.int (ln w:Int)),.fresh)) ?_ rfl;refine zak lsD (λw=>D.int (ln w:Int)) (b:=yi) (zt (x:=.lst ((Lw n T).map lsD)) rfl rfl) λw hw=>?_
   refine⟨[.val (lsD w)],(.int (ln w:Int),.solid),rfl,?_,rfl⟩;refine z8 (f:=.solid) (g:=.solid) (zr (f:=.solid) (x:=lsD w) rfl (zat _)) rfl ?_;show ya (D.int (((intL w).length:Int) - 1),Fl.solid)=_;have hne:=(zo5 hs hn hw).1;have:0<w.length:=List.length_pos_iff.mpr hne;rw[yd];unfold ln;congr 3;lia
  have c7:ev cl (.cmp .eq (.bi .sum (.var 5)) (.bin .mul (.con (.int 2)) (.bi .len (.var 0)))) (R (.val (rowsD n T)) (.val (lsD (ends n T))) (.val (.lst ((Lw n T).map lsD))) (.own ((Lw n T).map λw=>D.int (ln w:Int))))=ya (.bl (decide (((Lw n T).map ln).sum=2*T.length)),.solid):=by
   have e1:ints? ((Lw n T).map λw=>D.int (ln w:Int))=ya (((Lw n T).map ln).map λ(k:Nat)=>(k:Int)):=by
    have:=zbl (((Lw n T).map ln).map λ(k:Nat)=>(k:Int));unfold intL at this;rw[qu,qu]at this;rw[qu]at this ⊢;exact this
   refine zb2 (f:=.solid) (g:=.solid) (x:=.int (((Lw n T).map ln).sum:Int)) (y:=.int (2*(T.length:Int))) (zr (f:=.peek) (x:=.lst ((Lw n T).map λw=>D.int (ln w:Int))) rfl ?_) (z8 (f:=.solid) (g:=.solid) rfl (zr (f:=.solid) (x:=.tup (T.map pr)) rfl (zim _)) ?_) ?_
   ·show(ints? ((Lw n T).map λw=>D.int (ln w:Int))).bind _=_
    rw[e1,ye,ztj,if_pos];rw[yr,decide_eq_true_eq,qo];refine⟨by rw[yd,yd];lia,λk hk=>?_⟩;obtain⟨j,hj,rfl⟩:=yz.mp hk;obtain⟨w,hw,rfl⟩:=yz.mp hj;have:=(zo5 hs hn hw).2;unfold ln;rw[yr,decide_eq_true_eq,decide_eq_true_eq];lia
   ·rw[yd]
    exact ztt 2 _ (by decide)
   ·rw[zes]
    congr 1;exact decide_eq_decide.mpr (by lia)
  have c8:=h11 l64;refine⟨decide (((Lw n T).map ln).sum=2*T.length)&&((ends n T).all λe=>decide (JL (Lw n T) e=(ends n T).filter λx=>!decide (JL (Lw n T) x=JL (Lw n T) e))),z5 ⟨rfl,by decide⟩ ?_,?_⟩
  ·show exs cl W f12.body (R .no .no .no .no)=_
   simp only[f12];rw[ze c1,ze c2,ze c3,ze (zax c4),ze c5,ze c6];refine zn (z6 (fl:=.solid) ?_);rw[PY.za9,c7,ye];show(if decide (((Lw n T).map ln).sum=2*T.length)=yl then _ else _)=_;cases decide (((Lw n T).map ln).sum=2*T.length)with
   | false=>rfl
   | true =>
    rw[if_pos rfl,yb0];exact zl (zc rfl (zc rfl zi)) c8
  ·have wj:((ends n T).all λe=>decide (JL (Lw n T) e=(ends n T).filter λx=>!decide (JL (Lw n T) x=JL (Lw n T) e)))=yl↔∀e∈ends n T,Jw T e=(ends n T).filter λx=>!decide (Jw T x=Jw T e):=by
    rw[qo];refine forall_congr' λe=>imp_congr_right λhe=>?_
    rw[decide_eq_true_eq,zwq hs hn he,jr λx hx=>by rw[zwq hs hn hx]]
   have sm:((Lw n T).map ln).sum=((ends n T).map λe=>((near T e).map λf=>ln (wf T e f)).sum).sum:=by
    unfold Lw;rw[zj7];congr 1;refine x9 λe _=>?_
    rw[qu];rfl
   rw[yr,decide_eq_true_eq,wj,sm];exact⟨λh=>⟨one,shape,h.1,h.2⟩,λg=>⟨g.sum,g.well⟩⟩
end
end K12
namespace PY
theorem zhe{c:Rho->Option Bool}{f:Rho->Option Out}(P:Nat->Rho->Prop)(Q:D->Prop)
  (st:∀m ρ,P m ρ->c ρ=ya yl/\((∃v,f ρ=ya (.rt v)/\Q v)\/∃ρ' m',f ρ=ya (.nx ρ')/\P m' ρ'/\m'<m)) :
  ∀(N m:Nat) (ρ:Rho),P m ρ->m<N->∃v,whileO c f N ρ=ya (.rt v)/\Q v
 | 0,m,ρ,_,h=>absurd h (yb7 _)
 | N+1,m,ρ,hp,hm=>by
  obtain⟨hc,h⟩:=st m ρ hp;rcases h with⟨v,e,q⟩ | ⟨ρ',m',e,hp',hlt⟩
  ·exact⟨v,by simp only[whileO,hc,ye,if_true,e],q⟩
  ·obtain⟨v,e2,q⟩:=zhe P Q st N m' ρ' hp' (by lia)
   exact⟨v,by simp only[whileO,hc,ye,if_true,e];exact e2,q⟩
end PY
namespace K12
open PY K01 K02 K20 L2 KN
noncomputable abbrev pl (q:Dt):D:=lsD [q.1,q.2]
section
variable {cl:Nat→List D→Option D} {W:Nat}
theorem m17{E:List Int}(hl:(two E).length<=1000)(h9:E.length<=900):runF cl W f17 [lsD E]=ya (.lst ((two E).map pr)):=by
 let R:List Dt->Sl->Sl->Rho:=λF s2 s3=>[.val (lsD E),.own (F.map pr),s2,s3]
 obtain⟨ρ',e,F,s2,s3,rfl,hF⟩:=zms (cl:=cl) (W:=W) (t:=.many [2,3]) (it:=.enum (.var 0)) (b:=.cons (.asg (.one 1) (.bin .add (.var 1) (.comp (.tup (.cons (.var 1) (.cons (.var 0) .nil))) (.one 0) (.seq (.sl (.var 0) (.so (.bin .add (.var 2) (.con (.int 1)))) .no)) .no 1 [3]))) .nil)
  (ρ:=R [] .no .no) (ds:=enumD 0 (intL E)) (zpg (x:=lsD E) rfl rfl) (λi ρ=>∃F s2 s3,ρ=R F s2 s3/\F++two (E.drop i)=two E) ⟨[],_,_,rfl,rfl⟩ (by
   rintro i d ρ hi ⟨F,s2,s3,rfl,hF⟩;obtain⟨x,hx,rfl⟩:=zft hi;rw[yy]at hx;cases hE:E[i]? with
   | none=>rw[hE]at hx;cases hx
   | some a =>
    rw[hE]at hx;cases hx;have hlt:=(qk.mp hE).1
    have hd:E.drop i=a::E.drop (i+1):=by
     rw[v9 hlt];congr 1;rw[yc hlt]at hE;exact qh hE
    rw[vm];rw[hd,two]at hF;refine⟨R F (.val (.int (i:Int))) (.val (.int a)),R (F++(E.drop (i+1)).map λy=>(a,y)) (.val (.int (i:Int))) (.val (.int a)),rfl,ze (zo (r:=(.lst (((F++(E.drop (i+1)).map λy=>(a,y))).map pr),.fresh)) ?_ rfl),_,_,_,rfl,by rw[xb];exact hF⟩
    have hs:ev cl (.sl (.var 0) (.so (.bin .add (.var 2) (.con (.int 1)))) .no) (R F (.val (.int (i:Int))) (.val (.int a)))=ya (lsD (E.drop (i+1)),.fresh):=by
     refine zo3 (f:=.solid) (l:=ya ((i:Int)+1)) (h:=yk) (x:=lsD E) rfl rfl rfl ?_;have:=zoq E (i+1);show ya (D.lst (cutL (intL E) (ya ((i:Int)+1)) yk),Fl.fresh)=_;rw[show(i:Int)+1=((i+1:Nat):Int)by lia,this]
    have hc:ev cl (.comp (.tup (.cons (.var 1) (.cons (.var 0) .nil))) (.one 0) (.seq (.sl (.var 0) (.so (.bin .add (.var 2) (.con (.int 1)))) .no)) .no 1 [3]) (R F (.val (.int (i:Int))) (.val (.int a)))=ya (.lst ((E.drop (i+1)).map λy=>pr (a,y)),.fresh):=by
     refine zak D.int (λy=>pr (a,y)) (b:=yi) (by rw[PY.zgc,hs];rfl) λy _=>?_
     exact⟨[.val (.int y),.val (.int a)],(pr (a,y),.solid),rfl,rfl,rfl⟩
    refine z8 (f:=.peek) (g:=.fresh) (x:=.lst (F.map pr)) rfl hc ?_;show(if(F.map pr).length+((E.drop (i+1)).map λy=>pr (a,y)).length<=big then ya (D.lst (F.map pr++((E.drop (i+1)).map λy=>pr (a,y))),Fl.fresh)else yk)=_;rw[if_pos,qb,qu]
    ·rfl
    ·have:=congrArg uc hF
     simp only[yu,yd]at this;rw[yd,yd];unfold big;lia)
 rw[zdo,yd,ydj,two,qr]at hF;refine z5 ⟨rfl,by decide⟩ ?_;show exs cl W f17.body [.val (lsD E),.no,.no,.no]=_;simp only[f17];rw[ze (zo (r:=(.lst [],.fresh)) (ρ':=R [] .no .no) rfl rfl)];rw[ze (show ex cl W (.frz [0] _) (R [] .no .no)=_ by rw[PY.zu];exact e)];refine zn (z6 (fl:=.peek) ?_);rw[← hF];rfl
theorem zdi(l:List Int)(v:Int):nubI (l++[v])=if(nubI l).any (· == v)then nubI l else nubI l++[v]:=by
 unfold nubI;rw[yc2];rfl
theorem zd8(v:Int):∀l:List Int,v∈nubI l↔v∈l:=by
 have:∀r:List Int,v∈nubI r.reverse↔v∈r:=λr=>by
  induction r with
  | nil=>rfl
  | cons x r ih =>
   rw[jp,zdi];split
   ·rename_i h
    obtain⟨y,hy,e⟩:=jo.mp h;have e:=beq_iff_eq.mp e;subst e;rw[yn,ih];refine⟨.inr,λh=>h.elim (λk=>?_) id⟩;subst k;exact ih.mp hy
   ·rw[qt,qd,yn,ih];exact or_comm
 intro l;have:=this l.reverse;rw[yag,yez]at this;exact this
theorem zlw:∀l:List Int,(nubI l).Nodup:=by
 have:∀r:List Int,(nubI r.reverse).Nodup:=λr=>by
  induction r with
  | nil=>exact ye9
  | cons x r ih =>
   rw[jp,zdi];split
   ·exact ih
   ·rename_i h
    rw[wq];refine⟨ih,by simp,λa ha b hb e=>h ?_⟩;rw[qd]at hb;subst hb e;exact jo.mpr ⟨a,ha,by simp⟩
 intro l;have:=this l.reverse;rwa[yag]at this
noncomputable abbrev cnt (l:List Int):List D:=(nubI l).map λv=>.int (l.count v:Int)
theorem zmc:∀{ks:List Int} {v:Int},ks.any (· == v)=yl->∃j,ks.findIdx? (· == v)=ya j/\ks[j]? = ya v
 | [],_,h=>by cases h
 | a::ks,v,h=>by
  rw[ya4];by_cases k:a=v
  ·subst k;exact⟨0,by simp,rfl⟩
  ·rw[wz,show(a==v)=yi by simpa using k,yff]at h
   obtain⟨j,h1,h2⟩:=zmc h;exact⟨j+1,by rw[show(a==v)=yi by simpa using k,h1];rfl,by simpa using h2⟩
theorem zlz{ks:List Int}{v:Int}(h:ks.any (· == v)=yi):ks.findIdx? (· == v)=yk:=by
 rw[ycu];intro x hx;have:=ybl.mp h x hx;simpa using this
theorem zqc(l:List Int)(v:Int)(hl:l.length<4000):∃z,getDf (.dic (intL (nubI l)) (cnt l)) (.int v) (.int 0)=ya (.int z,.solid)/\dputO (intL (nubI l)) (cnt l) (.int v) (.int (z+1))=ya (intL (nubI (l++[v])),cnt (l++[v])):=by
 have hk:keyAt (.int v) (intL (nubI l))=ya ((nubI l).findIdx? (· == v)):=by
  show(ints? (intL (nubI l))).map _=_;rw[zbl];rfl
 have hb:(intL (nubI l)).length<big:=by
  have:=znz l [];rw[yd];have e:nubI l=nubF [] l:=rfl;rw[e];unfold big;simp at this;lia
 cases h:(nubI l).any (· == v)with
 | true =>
  obtain⟨j,h1,h2⟩:=zmc h;have hj:j<(nubI l).length:=(qk.mp h2).1;have hv:(cnt l)[j]? = ya (.int (l.count v:Int)):=by rw[yy,h2];rfl
  refine⟨(l.count v:Int),?_,?_⟩
  ·show(keyAt (.int v) (intL (nubI l))).bind _=_
   rw[hk,ye,h1];show((cnt l)[j]?).map _=_;rw[hv];rfl
  ·unfold dputO
   rw[hk,ye,if_pos hb,h1];have e:nubI (l++[v])=nubI l:=by rw[zdi,h];rfl
   show ya (intL (nubI l),(cnt l).set j (.int ((l.count v:Int)+1)))=_;rw[show cnt (l++[v])=(nubI l).map λu=>.int ((l++[v]).count u:Int)by unfold cnt;rw[e],e];congr 2;refine yc3 λi=>?_
   rw[jq,yd];by_cases hi:j=i
   ·subst hi
    rw[if_pos rfl,if_pos hj,yy,h2];simp
   ·rw[if_neg hi,yy,yy]
    cases hu:(nubI l)[i]? with
    | none=>rfl
    | some u =>
     have ne:v≠u:=λz=>by
      subst z;exact hi ((List.getElem?_inj hj (zlw l)).mp (h2.trans hu.symm))
     simp[vg,ne]
 | false =>
  refine⟨0,?_,?_⟩
  ·show(keyAt (.int v) (intL (nubI l))).bind _=_
   rw[hk,ye,zlz h]
  ·unfold dputO
   rw[hk,ye,if_pos hb,zlz h];have e:nubI (l++[v])=nubI l++[v]:=by rw[zdi,h];rfl
   have nv:v∉l:=λz=>by
    have:=(zd8 v l).mpr z;have h':=ybl.mp h v this;simp at h'
   show ya (intL (nubI l)++[.int v],cnt l++[.int (0+1)])=_;unfold cnt;rw[e,qb,show intL (nubI l++[v])=intL (nubI l)++[.int v]from qb];congr 2
   ·congr 1
    ·refine x9 λu hu=>?_
     have ne:v≠u:=λz=>by subst z;exact nv ((zd8 v l).mp hu)
     simp[vg,ne]
    ·simp[vg,ycn.mpr nv]
theorem zs1(l:List Int):selD 2 (ya (.dk (intL (nubI l)) (cnt l)))=ya (lsD ((nubI l).filter λv=>decide (l.count v=2)),.fresh):=by
 have e1:ints? (cnt l)=ya ((nubI l).map λv=>(l.count v:Int)):=by
  have:=zbl ((nubI l).map λv=>(l.count v:Int));unfold intL at this;rw[qu]at this;exact this
 show(ints? (intL (nubI l))).bind (λns=>(ints? (cnt l)).map λms=>(D.lst (selI ns ms 2),Fl.fresh))=_;rw[zbl,ye,e1];show ya (D.lst (selI (nubI l) ((nubI l).map λv=>(l.count v:Int)) 2),Fl.fresh)=_;congr 3;unfold selI
 have:∀m:List Int,((m.zip (m.map λv=>(l.count v:Int))).filter λp=>p.2==2).map (λp=>D.int p.1)=intL (m.filter λv=>decide (l.count v=2)):=λm=>by
  induction m with
  | nil=>rfl
  | cons a m ih =>
   rw[yo,ji];by_cases k:l.count a=2
   ·rw[xm (by simp[k]),xm (by simp[k]),yo,ih];rfl
   ·rw[xy (by simp;lia),xy (by simp[k]),ih]
 exact this _
end
theorem zrw(v:Int)(q:Dt):memD (.int v) [.int q.1,.int q.2]=tch v q:=by
 show(D.eq (.int q.1) (.int v)||(D.eq (.int q.2) (.int v)||false))=(q.1==v||q.2==v);rw[yfl];rfl
theorem zxu(v:Int)(q:Dt):cmpop .isin (.int v) (pl q)=ya (tch v q):=by
 show(if yl&&yl then ya (memD (.int v) [.int q.1,.int q.2])else yk)=_;rw[zrw];rfl
theorem zpl(v:Int)(q:Dt):cmpop .notin (.int v) (pl q)=ya (!tch v q):=by
 show(if yl&&yl then ya (!memD (.int v) [.int q.1,.int q.2])else yk)=_;rw[zrw];rfl
theorem zdn(x y:Int):sortI [x,y]=[(ord x y).1,(ord x y).2]:=by
 show(if x<=y then[x,y]else y::(insI x []))=_;unfold ord;by_cases h:y<x
 ·rw[if_neg (by lia),if_pos h];rfl
 ·rw[if_pos (by lia),if_neg h]
theorem zqd(L:List Dt):(flat L).length=2*L.length:=by
 induction L with
 | nil=>rfl
 | cons q L ih =>
  show(q.1::q.2::flat L).length=_;simp only[qf,ih];lia
section
variable {cl:Nat→List D→Option D} {W:Nat}
noncomputable abbrev Rs (T:List Dt) (s1 s2 s3 s4 s5 s6 s7:Sl):Rho:=[.val (.tup (T.map pr)),s1,s2,s3,s4,s5,s6,s7]
noncomputable abbrev cntS:S:=.frz [1] (.loop (.one 3) (.seq (.var 1)) (.cons (.frz [3] (.loop (.one 4) (.seq (.var 3)) (.cons (.dput 2 (.var 4) (.bin .add (.dget (.var 2) (.var 4) (.con (.int 0))) (.con (.int 1)))) .nil))) .nil))
theorem zqq{T L:List Dt}(hl:L.length<=1000)(s3 s4 s5 s6 s7:Sl):∃s3' s4',ex cl W cntS (Rs T (.own (L.map pl)) (.dk [] []) s3 s4 s5 s6 s7)=ya (.nx (Rs T (.val (.lst (L.map pl))) (.dk (intL (nubI (flat L))) (cnt (flat L))) s3' s4' s5 s6 s7)):=by
 obtain⟨ρ',e,s3',s4',rfl⟩:=zbx (cl:=cl) (W:=W) (t:=.one 3) (it:=.seq (.var 1)) (b:=.cons (.frz [3] (.loop (.one 4) (.seq (.var 3)) (.cons (.dput 2 (.var 4) (.bin .add (.dget (.var 2) (.var 4) (.con (.int 0))) (.con (.int 1)))) .nil))) .nil)
  (ρ:=Rs T (.val (.lst (L.map pl))) (.dk [] []) s3 s4 s5 s6 s7) pl (l:=L) (zt (x:=.lst (L.map pl)) rfl rfl) (λs ρ=>∃s3 s4,ρ=Rs T (.val (.lst (L.map pl))) (.dk (intL (nubI (flat s))) (cnt (flat s))) s3 s4 s5 s6 s7) ⟨s3,s4,rfl⟩ (by
   rintro s q ρ ⟨t,ht⟩ ⟨s3,s4,rfl⟩;have hs:2*s.length+2<=2*L.length:=by rw[← ht];simp;lia
   refine⟨Rs T (.val (.lst (L.map pl))) (.dk (intL (nubI (flat s))) (cnt (flat s))) (.val (pl q)) s4 s5 s6 s7,?_⟩
   obtain⟨ρ',e,s4',rfl⟩:=zbx (cl:=cl) (W:=W) (t:=.one 4) (it:=.seq (.var 3)) (b:=.cons (.dput 2 (.var 4) (.bin .add (.dget (.var 2) (.var 4) (.con (.int 0))) (.con (.int 1)))) .nil)
    (ρ:=Rs T (.val (.lst (L.map pl))) (.dk (intL (nubI (flat s))) (cnt (flat s))) (.val (pl q)) s4 s5 s6 s7) D.int (l:=[q.1,q.2]) (zt (x:=pl q) rfl rfl) (λr ρ=>∃s4,ρ=Rs T (.val (.lst (L.map pl))) (.dk (intL (nubI (flat s++r))) (cnt (flat s++r))) (.val (pl q)) s4 s5 s6 s7) ⟨s4,by rw[qr]⟩ (by
     rintro r v ρ ⟨t2,ht2⟩ ⟨s4,rfl⟩;have hr:r.length+1<=2:=by have:=congrArg uc ht2;simp at this;lia
     obtain⟨z,h1,h2⟩:=zqc (flat s++r) v (by rw[yu,zqd];lia);refine⟨Rs T (.val (.lst (L.map pl))) (.dk (intL (nubI (flat s++r))) (cnt (flat s++r))) (.val (pl q)) (.val (.int v)) s5 s6 s7,_,rfl,ze (ρ':=Rs T (.val (.lst (L.map pl))) (.dk (intL (nubI (flat s++(r++[v])))) (cnt (flat s++(r++[v])))) (.val (pl q)) (.val (.int v)) s5 s6 s7) ?_,.val (.int v),rfl⟩
     have he:ev cl (.bin .add (.dget (.var 2) (.var 4) (.con (.int 0))) (.con (.int 1))) (Rs T (.val (.lst (L.map pl))) (.dk (intL (nubI (flat s++r))) (cnt (flat s++r))) (.val (pl q)) (.val (.int v)) s5 s6 s7)=ya (.int (z+1),.solid):=by
      refine z8 (f:=.solid) (g:=.solid) (x:=.int z) (y:=.int 1) ?_ rfl rfl;rw[PY.zj0];exact h1
     simp only[PY.zbf,PY.za3,PY.zbq,he,ye,solid?];show(dputO (intL (nubI (flat s++r))) (cnt (flat s++r)) (.int v) (.int (z+1))).map _=_;rw[h2,xb];rfl)
   refine⟨_,rfl,ze ((show ex cl W (.frz [3] _) _=_ by rw[PY.zu];exact e)),.val (pl q),s4',?_⟩;rw[show flat (s++[q])=flat s++[q.1,q.2]by unfold flat;rw[wb];rfl])
 exact⟨s3',s4',by rw[PY.zu];exact e⟩
inductive Smooth (T:List Dt):D->Prop
 | ring (l:List Int) (hl:∀v∈l,deg T v≠0) (h:∃S C,Fin T S C/\C≠[]):Smooth T (.tup [.lst [],.dic (intL (nubI l)) (cnt l)])
 | done (S:List (List Int)) (h:Fin T S []) (hl:S.length<=T.length):Smooth T (.tup [.lst ((S.map ep).map pl),.dic (intL (nubI (flat (S.map ep)))) (cnt (flat (S.map ep)))])
theorem m18(hW:100<W){T:List Dt}(hs:Simple T)(hl:T.length<=60):∃v,runF cl W f18 [.tup (T.map pr)]=ya v/\Smooth T v:=by
 obtain⟨bd,hbd⟩:∃bd:Ss,f18.body=.cons (.asg (.one 1) (.comp (.lst (.cons (.var 0) (.cons (.var 1) .nil))) (.many [0,1]) (.seq (.var 0)) .no 2 [])) (.cons (.while (.con (.bl yl)) bd) .nil):=⟨_,rfl⟩
 have key:=zhe (c:=λρ=>evT cl (.con (.bl yl)) ρ) (f:=λρ=>exs cl W bd ρ)
  (λm ρ=>∃S s2 s3 s4 s5 s6 s7,ρ=Rs T (.own ((S.map ep).map pl)) s2 s3 s4 s5 s6 s7/\Dec T S/\m=S.length/\S.length<=T.length) (Smooth T) (by
   intro m ρ ζ3;refine zKK λγ κ=>?_;obtain⟨S,s2,s3,s4,s5,s6,s7,rfl,hd,rfl,hS⟩:=ζ3;refine κ ?_;refine⟨rfl,?_⟩
   have hb:bd=.cons (.asg (.one 2) .dic0) (.cons cntS (.cons (.asg (.one 5) (.dsel 2 2)) (.cons (.cond (.not (.var 5)) (.cons (.frz [1,2] (.ret (.tup (.cons (.var 1) (.cons (.var 2) .nil))))) .nil) .nil)
    (.cons (.asg (.one 6) (.comp (.var 0) (.one 0) (.seq (.var 1)) (.so (.cmp .isin (.ix (.var 1) (.con (.int 0))) (.var 0))) 1 [5]))
    (.cons (.cond (.cmp .ne (.bi .len (.var 6)) (.con (.int 2))) (.cons (.frz [2] (.ret (.tup (.cons (.lst .nil) (.cons (.var 2) .nil))))) .nil) .nil)
    (.cons (.asg (.one 1) (.comp (.var 0) (.one 0) (.seq (.var 1)) (.so (.cmp .notin (.ix (.var 1) (.con (.int 0))) (.var 0))) 1 [5]))
    (.cons (.asg (.one 7) (.comp (.var 0) (.one 0) (.seq (.bin .add (.ix (.var 6) (.con (.int 0))) (.ix (.var 6) (.con (.int 1))))) (.so (.cmp .ne (.var 0) (.ix (.var 1) (.con (.int 0))))) 1 [5]))
    (.cons (.cond (.cmp .ne (.bi .len (.var 7)) (.con (.int 2))) (.cons (.frz [2] (.ret (.tup (.cons (.lst .nil) (.cons (.var 2) .nil))))) .nil) .nil) (.cons (.app 1 (.bi .sorted (.var 7))) .nil))))))))):=by
    have:=hbd.symm;simp only[f18]at this;injection this with _ this
    injection this with this _
    injection this
   rw[hb];generalize hL:S.map ep=L;have hLl:L.length=S.length:=by rw[← hL,yd]
   obtain⟨t3,t4,hc⟩:=zqq (cl:=cl) (W:=W) (T:=T) (L:=L) (by lia) s3 s4 s5 s6 s7;rw[ze (zo (r:=(.dic [] [],.fresh)) (ρ':=Rs T (.own (L.map pl)) (.dk [] []) s3 s4 s5 s6 s7) rfl rfl),ze hc];generalize htw:(nubI (flat L)).filter (λv=>decide ((flat L).count v=2))=tw;let M:Sl:=.dk (intL (nubI (flat L))) (cnt (flat L))
   rw[ze (zo (r:=(lsD tw,.fresh)) (ρ':=Rs T (.val (.lst (L.map pl))) M t3 t4 (.own (intL tw)) s6 s7) (by rw[← htw];exact zs1 (flat L)) rfl)]
   have hdeg:∀v∈flat L,deg T v≠0:=λv hv=>by
    rw[← hL]at hv;have:=hd.end_deg hs ((za4 v).mp hv);lia
   cases tw with
   | nil =>
    left
    have h2:Fin T S []:=hd.fin hs λv hv=>by
     rw[hL]at hv;have hm:v∈flat L:=uw.mp (by lia);have:v∈(nubI (flat L)).filter (λv=>decide ((flat L).count v=2)):=qa.mpr ⟨(zd8 v _).mpr hm,by simp[hv]⟩;rw[htw]at this;cases this
    refine⟨.tup [.lst (L.map pl),.dic (intL (nubI (flat L))) (cnt (flat L))],zn ?_,by rw[← hL];exact .done S h2 hS⟩;rw[zdh (k:=yl) rfl];exact zn (by rw[PY.zu];exact z6 (fl:=.solid) (zea (zc rfl (zc rfl zi)) (show 2<=4000 by decide)))
   | cons v tw =>
    have hv2:(flat L).count v=2:=by
     have:v∈(nubI (flat L)).filter (λv=>decide ((flat L).count v=2)):=by rw[htw];exact yg
     simpa using(qa.mp this).2
    rw[ze (zax (show evT cl (.not (.var 5)) _=ya yi from rfl))]
    -- the ways at v
    have hmine:ev cl (.comp (.var 0) (.one 0) (.seq (.var 1)) (.so (.cmp .isin (.ix (.var 1) (.con (.int 0))) (.var 0))) 1 [5]) (Rs T (.val (.lst (L.map pl))) M t3 t4 (.own (intL (v::tw))) s6 s7)=ya (.lst ((L.filter (tch v)).map pl),.fresh) :=
     z0 pl (tch v) pl (b:=yi) (zt (x:=.lst (L.map pl)) rfl rfl) λq _=>⟨[.val (pl q),.own (intL (v::tw))],rfl,zm (f:=.solid) (g:=.solid) (x:=.int v) (y:=pl q) rfl rfl (zxu v q),λ_=>⟨_,rfl,rfl⟩⟩
    rw[ze (zo (r:=(_,.fresh)) (ρ':=Rs T (.val (.lst (L.map pl))) M t3 t4 (.own (intL (v::tw))) (.own ((L.filter (tch v)).map pl)) s7) hmine rfl)]
    have hlen:evT cl (.cmp .ne (.bi .len (.var 6)) (.con (.int 2))) (Rs T (.val (.lst (L.map pl))) M t3 t4 (.own (intL (v::tw))) (.own ((L.filter (tch v)).map pl)) s7)=ya (!decide (((L.filter (tch v)).length:Int)=2)):=by
     refine zm (f:=.solid) (g:=.solid) (zr (f:=.peek) (x:=.lst ((L.filter (tch v)).map pl)) rfl (zat _)) rfl ?_;rw[yd];exact zh5 _ _
    rcases hd.smooth hs (v:=v) (by rw[hL];exact hv2)with⟨h2,hr⟩ | ⟨q1,q2,x,y,h2,hxy,S',hd',hS'⟩
    ·rw[hL]at h2
     left;rw[decide_eq_false (by lia)]at hlen;refine⟨.tup [.lst [],.dic (intL (nubI (flat L))) (cnt (flat L))],zn ?_,.ring (flat L) hdeg hr⟩;rw[zdh hlen];exact zn (by rw[PY.zu];exact z6 (fl:=.solid) (zea (zgt rfl (zc rfl zi)) (show 2<=4000 by decide)))
    ·rw[hL]at h2 hS'
     right;rw[h2]at hlen;rw[h2,ze (zax hlen)]
     have hrest:ev cl (.comp (.var 0) (.one 0) (.seq (.var 1)) (.so (.cmp .notin (.ix (.var 1) (.con (.int 0))) (.var 0))) 1 [5]) (Rs T (.val (.lst (L.map pl))) M t3 t4 (.own (intL (v::tw))) (.own ([q1,q2].map pl)) s7)=ya (.lst ((L.filter λq=>!tch v q).map pl),.fresh) :=
      z0 pl (λq=>!tch v q) pl (b:=yi) (zt (x:=.lst (L.map pl)) rfl rfl) λq _=>⟨[.val (pl q),.own (intL (v::tw))],rfl,zm (f:=.solid) (g:=.solid) (x:=.int v) (y:=pl q) rfl rfl (zpl v q),λ_=>⟨_,rfl,rfl⟩⟩
     rw[ze (zo (r:=(_,.fresh)) (ρ':=Rs T (.own ((L.filter λq=>!tch v q).map pl)) M t3 t4 (.own (intL (v::tw))) (.own ([q1,q2].map pl)) s7) hrest rfl)]
     have hends:ev cl (.comp (.var 0) (.one 0) (.seq (.bin .add (.ix (.var 6) (.con (.int 0))) (.ix (.var 6) (.con (.int 1))))) (.so (.cmp .ne (.var 0) (.ix (.var 1) (.con (.int 0))))) 1 [5]) (Rs T (.own ((L.filter λq=>!tch v q).map pl)) M t3 t4 (.own (intL (v::tw))) (.own ([q1,q2].map pl)) s7)=ya (lsD [x,y],.fresh):=by
      rw[← hxy];exact z0 D.int (λz=>!decide (z=v)) D.int (b:=yi) rfl λz _=>⟨[.val (.int z),.own (intL (v::tw))],rfl,zm (f:=.solid) (g:=.solid) (x:=.int z) (y:=.int v) rfl rfl (zh5 z v),λ_=>⟨_,rfl,rfl⟩⟩
     rw[ze (zo (r:=(_,.fresh)) (ρ':=Rs T (.own ((L.filter λq=>!tch v q).map pl)) M t3 t4 (.own (intL (v::tw))) (.own ([q1,q2].map pl)) (.own (intL [x,y]))) hends rfl)];rw[ze (zax (show evT cl (.cmp .ne (.bi .len (.var 7)) (.con (.int 2))) _=ya yi from rfl))]
     have hle:(L.filter (tch v)).length+(L.filter λq=>!tch v q).length=L.length:=by
      have:=(ydk (tch v) L).length_eq;rw[yu]at this;exact this
     rw[h2]at hle
     have hsz:S'.length+1=S.length:=by
      have:=congrArg uc hS';simp at this hle;lia
     have hsort:ev cl (.bi .sorted (.var 7)) (Rs T (.own ((L.filter λq=>!tch v q).map pl)) M t3 t4 (.own (intL (v::tw))) (.own ([q1,q2].map pl)) (.own (intL [x,y])))=ya (pl (ord x y),.fresh):=by
      refine zr (f:=.peek) (x:=lsD [x,y]) rfl ?_;show sortO (intL [x,y])=_;rw[zay (l:=[x,y]) (show 2<64 by decide),zdn]
     refine⟨Rs T (.own ((S'.map ep).map pl)) M t3 t4 (.own (intL (v::tw))) (.own ([q1,q2].map pl)) (.own (intL [x,y])),S'.length,ze ?_,⟨S',M,t3,t4,_,_,_,rfl,hd',rfl,by lia⟩,by lia⟩;simp only[PY.zbf,PY.za3,PY.zbq,hsort,ye,solid?];show(if((L.filter λq=>!tch v q).map pl).length<big then ya (Out.nx [_,Sl.own (((L.filter λq=>!tch v q).map pl)++[pl (ord x y)]),_,_,_,_,_,_])else yk)=_;rw[if_pos,hS',qb]
     ·rfl
     ·rw[yd];unfold big;simp at hle;lia)
  W T.length (Rs T (.own (T.map pl)) .no .no .no .no .no .no)
 have hdec:Dec T (T.map λe=>[e.1,e.2]):=by
  refine⟨λp hp=>?_,?_,λp hp v hv=>?_⟩
  ·obtain⟨e,_,rfl⟩:=yz.mp hp
   exact y6 _
  ·have:∀Q:List Dt,(∀e∈Q,e.1<e.2)->(Q.map λe=>[e.1,e.2]).flatMap edg=Q:=λQ=>by
    induction Q with
    | nil=>intro _;rfl
    | cons q Q ih =>
     intro h;have hq:=h q yg;rw[yo,qy,ih λx hx=>h x (yf _ hx)];show[nrm q.1 q.2]++Q=_;unfold nrm;rw[if_pos hq];rfl
   rw[this T hs.lt]
  ·obtain⟨e,_,rfl⟩:=yz.mp hp
   cases hv
 have hep:(T.map λe=>[e.1,e.2]).map ep=T:=by
  rw[qu]
  have:∀e∈T,(ep∘λe:Dt=>[e.1,e.2]) e=e:=λe he=>by
   have:=hs.lt e he;show ord e.1 e.2=e;unfold ord;rw[if_neg (by lia)]
  rw[x9 this,ycg]
 obtain⟨v,e,hv⟩:=key ⟨T.map λe=>[e.1,e.2],.no,.no,.no,.no,.no,.no,by rw[hep],hdec,by rw[yd],by rw[yd];exact y6 _⟩ (by lia);refine⟨v,z5 ⟨rfl,by decide⟩ ?_,hv⟩;show exs cl W f18.body (Rs T .no .no .no .no .no .no .no)=_;rw[hbd];rw[ze (zo (r:=(.lst (T.map pl),.fresh)) (ρ':=Rs T (.own (T.map pl)) .no .no .no .no .no .no) (zak pr pl (b:=yi) (zt (x:=.tup (T.map pr)) rfl rfl) λq _=>⟨[.val (.int q.1),.val (.int q.2)],(pl q,.fresh),rfl,rfl,rfl⟩) rfl)];exact zn (by rw[PY.zej];exact e)
end
theorem zi5:∀l m:List Dt,D.eqs (l.map pr) (m.map pr)=decide (l=m)
 | [],[]=>rfl
 | [],_::_=>rfl
 | _::_,[]=>rfl
 | a::l,b::m=>by
  rw[yo,yo,PY.zb1,zi5 l m,zwa]
  have:eqP a b=decide (a=b):=by
   rw[vh,decide_eq_true_eq];unfold eqP;rw[yr,beq_iff_eq,beq_iff_eq];exact⟨λh=>Prod.ext h.1 h.2,λh=>by rw[h];exact⟨rfl,rfl⟩⟩
  rw[this,← ydx];exact decide_eq_decide.mpr ⟨λh=>by rw[h.1,h.2],λh=>by injection h with h1 h2;exact⟨h1,h2⟩⟩
theorem zcw(l:List Dt):(l.map pr).all (D.deep 7)=yl:=by
 rw[w4];exact qo.mpr λ_ _=>rfl
theorem zrd(l m:List Dt):cmpop .eq (.lst (l.map pr)) (.lst (m.map pr))=ya (decide (l=m)):=by
 show(if(l.map pr).all (D.deep 7)&&(m.map pr).all (D.deep 7)then ya (D.eqs (l.map pr) (m.map pr))else yk)=_;rw[zcw,zcw,zi5];rfl
theorem zuo(l m:List Dt):cmpop .ne (.lst (l.map pr)) (.lst (m.map pr))=ya (!decide (l=m)):=by
 show(if(l.map pr).all (D.deep 7)&&(m.map pr).all (D.deep 7)then ya (!D.eqs (l.map pr) (m.map pr))else yk)=_;rw[zcw,zcw,zi5];rfl
noncomputable def srtP(l:List Dt):List Dt:=(sortT (l.map li)).map λn=>(n.getD 0 0,n.getD 1 0)
theorem zd4(l:List Dt):(srtP l).map li=sortT (l.map li):=by
 unfold srtP;rw[qu]
 have:∀n∈sortT (l.map li),(li∘λn=>(n.getD 0 0,n.getD 1 0)) n=n:=λn hn=>by
  obtain⟨q,_,rfl⟩:=yz.mp ((z4 _).mem_iff.mp hn);rfl
 rw[x9 this,ycg]
theorem zr9{l m:List Dt}(h:(l.map li).Perm (m.map li)):l.Perm m:=by
 have:=h.map λn=>(n.getD 0 0,n.getD 1 0)
 rw[qu,qu]at this
 have id':∀l:List Dt,l.map ((λn:List Int=>(n.getD 0 0,n.getD 1 0))∘li)=l:=λl=>by
  rw[show((λn:List Int=>(n.getD 0 0,n.getD 1 0))∘li)=λq:Dt=>q from rfl,ycg]
 rwa[id',id']at this
theorem z9(l:List Dt):(srtP l).Perm l:=zr9 (by rw[zd4];exact z4 _)
theorem zmh{l m:List Dt}(h:l.map li=m.map li):l=m:=ya5 (λa b h=>zgr h) |>.mp h
theorem zkk{l m:List Dt}:srtP l=srtP m↔l.Perm m:=by
 constructor
 ·intro h;exact(z9 l).symm.trans (by rw[h];exact z9 m)
 ·intro h
  refine zmh ?_;rw[zd4,zd4];exact zar ((z4 _).trans ((h.map li).trans (z4 _).symm)) (za1 _) (za1 _)
theorem zns{l fs:List Dt}(h:Up fs):srtP l=fs↔l.Perm fs:=by
 have:srtP fs=fs:=zmh (by rw[zd4];exact zj5 h (.refl _));rw[← zkk,this]
theorem zcx{l:List Dt}(h:l.length<64):sortO (l.map pr)=ya (.lst ((srtP l).map pr),.fresh):=by
 cases l with
 | nil=>rfl
 | cons q l =>
  unfold sortO;rw[show ints? ((q::l).map pr)=yk from rfl];simp only;rw[zi4];simp only;rw[if_pos (by simpa using h),← zd4,zrg]
theorem zq9:∀{E:List Int},Ris E->Up (two E)
 | [],_=>List.Pairwise.nil
 | x::r,h=>by
  have h:=xj.mp h;rw[two];refine yb3.mpr ⟨?_,zq9 h.2,λa ha b hb=>?_⟩
  ·rw[j4]
   refine h.2.imp λ{a b} k=>?_
   show lexLt [x,a] [x,b]=yl;simp[lexLt];lia
  ·obtain⟨y,hy,rfl⟩:=yz.mp ha
   have:=h.1 b.1 (zd3 hb).1;show lexLt [x,y] [b.1,b.2]=yl;unfold lexLt;rw[if_neg (by simp;lia)];exact decide_eq_true this
theorem zxi(p:List Int):(ep p).1<=(ep p).2:=zh6 _ _
theorem zn3{q:Dt}(h:q.1<=q.2):sortI [q.1,q.2]=[q.1,q.2]:=by
 rw[zdn];unfold ord;rw[if_neg (by lia)]
theorem zw7(a b:Dt):D.eq (pl a) (pl b)=decide (a=b):=by
 rw[zol];exact decide_eq_decide.mpr ⟨λh=>by injection h with h1 h2;injection h2 with h2 _;exact Prod.ext h1 h2,λh=>by rw[h]⟩
theorem zvt(a:Dt)(L:List Dt):cmpop .isin (pl a) (.lst (L.map pl))=ya (decide (a∈L)):=by
 show(if yl&&(L.map pl).all (D.deep 8)then ya (memD (pl a) (L.map pl))else yk)=_;rw[show(L.map pl).all (D.deep 8)=yl by rw[w4];exact qo.mpr λ_ _=>rfl,yc6,if_pos rfl];congr 1;unfold memD;rw[yan];have:(λy=>D.eq (pl y) (pl a))=λy=>decide (y=a):=funext λy=>zw7 y a
 show(L.any λy=>D.eq (pl y) (pl a))=_;rw[this,vh,jo,decide_eq_true_eq];exact⟨λ⟨y,hy,e⟩=>by rw[decide_eq_true_eq]at e;exact e▸hy,λh=>⟨a,h,by simp⟩⟩
theorem zlo(l:List Int)(q:Int):cmpop .notin (.int q) (lsD l)=ya (!decide (q∈l)):=by
 show(if D.deep 8 (.int q)&&(intL l).all (D.deep 8)then ya (!memD (.int q) (intL l))else yk)=_;rw[zos,zqp];rfl
theorem zfy{E:List Int}(h:E.length=5):(two E).length=10:=by
 match E,h with
 | [_,_,_,_,_],_=>rfl
theorem zfx(A B:List Int):(due A B).length=A.length*B.length:=by
 induction A with
 | nil=>simp[due]
 | cons a A ih =>
  show((B.map λb=>ord a b)++due A B).length=_;rw[yu,ih,yd,qf,Nat.add_mul,Nat.one_mul];lia
section
variable {cl:Nat→List D→Option D} {W:Nat}
noncomputable abbrev Rl (x y:D) (s2 s3 s4 s5 s6 s7 s8:Sl):Rho:=[.val x,.val y,s2,s3,s4,s5,s6,s7,s8]
theorem ztp{ρ:Rho}{L:List Dt}(h:ρ[2]? = ya (.val (.lst (L.map pl))))(le:∀q∈L,q.1<=q.2)(hl:L.length<64):ev cl (.bi .sorted (.comp (.bi .tuple (.bi .sorted (.var 0))) (.one 0) (.seq (.var 2)) .no 1 [])) ρ=ya (.lst ((srtP L).map pr),.fresh):=by
 refine zr (f:=.fresh) (x:=.lst (L.map pr)) (zak pl pr (b:=yi) (zt (x:=.lst (L.map pl)) (by rw[PY.zba,slot,h]) rfl) λq hq=>?_) (zcx hl);refine⟨[.val (pl q)],(pr q,.solid),rfl,zr (f:=.fresh) (x:=pl q) (zr (f:=.solid) (x:=pl q) rfl ?_) rfl,rfl⟩;show sortO (intL [q.1,q.2])=_;rw[zay (l:=[q.1,q.2]) (show 2<64 by decide),zn3 (le q hq)]
theorem zpv{L:List Dt}{E:List Int}{x y:D}{s3:Sl}(r:Ris E)(le:∀q∈L,q.1<=q.2)(hl:L.length<64)(hE:E.length<=20)(h17:E.length=5->cl 17 [lsD E]=ya (.lst ((two E).map pr)))
  (bd:Ss) (hbd:∃a b c,f19.body=.cons a (.cons b (.cons c bd))):∃b,exs cl W bd (Rl x y (.val (.lst (L.map pl))) s3 (.own (intL E)) .no .no .no .no)=ya (.rt (.bl b))/\(b=yl↔Law L E):=by
 obtain⟨a0,b0,c0,hbd⟩:=hbd
 have hb:bd=.cons (.cond (.and (.cmp .eq (.bi .len (.var 2)) (.con (.int 10))) (.cmp .eq (.bi .len (.var 4)) (.con (.int 5)))) (.cons (.frz [4] (.ret (.cmp .eq (.bi .sorted (.comp (.bi .tuple (.bi .sorted (.var 0))) (.one 0) (.seq (.var 2)) .no 1 [])) (.call 17 (.cons (.var 4) .nil))))) .nil) .nil)
  (.cons (.cond (.or (.cmp .ne (.bi .len (.var 2)) (.con (.int 9))) (.cmp .ne (.bi .len (.var 4)) (.con (.int 6)))) (.cons (.ret (.con (.bl yi))) .nil) .nil)
  (.cons (.asg (.one 5) (.comp (.var 0) (.one 0) (.seq (.var 4)) (.so (.cmp .isin (.bi .sorted (.lst (.cons (.ix (.var 1) (.con (.int 0))) (.cons (.var 0) .nil)))) (.comp (.bi .sorted (.var 0)) (.one 0) (.seq (.var 2)) .no 1 []))) 1 [4,2]))
  (.cons (.asg (.one 6) (.comp (.var 0) (.one 0) (.seq (.var 4)) (.so (.cmp .notin (.var 0) (.var 1))) 1 [5]))
  (.cons (.asg (.one 7) (.lst .nil)) (.cons (.frz [6] (.loop (.one 8) (.seq (.var 6)) (.cons (.asg (.one 7) (.bin .add (.var 7) (.comp (.bi .tuple (.bi .sorted (.lst (.cons (.var 1) (.cons (.var 0) .nil))))) (.one 0) (.seq (.var 5)) .no 1 [8]))) .nil)))
  (.cons (.ret (.and (.cmp .eq (.bi .len (.var 5)) (.con (.int 3))) (.cmp .eq (.bi .sorted (.comp (.bi .tuple (.bi .sorted (.var 0))) (.one 0) (.seq (.var 2)) .no 1 [])) (.bi .sorted (.var 7))))) .nil)))))):=by
  have:=hbd.symm;simp only[f19]at this;injection this with _ this
  injection this with _ this
  injection this with _ this
 have lenL:∀s3 s4 s5 s6 s7 s8,ev cl (.bi .len (.var 2)) (Rl x y (.val (.lst (L.map pl))) s3 s4 s5 s6 s7 s8)=ya (.int (L.length:Int),.solid):=λ_ _ _ _ _ _=>by
  refine zr (f:=.solid) (x:=.lst (L.map pl)) rfl ?_;rw[zat,yd]
 have lenE:∀s5 s6 s7 s8,ev cl (.bi .len (.var 4)) (Rl x y (.val (.lst (L.map pl))) s3 (.own (intL E)) s5 s6 s7 s8)=ya (.int (E.length:Int),.solid):=λ_ _ _ _=>by
  refine zr (f:=.peek) (x:=lsD E) rfl ?_;rw[zat,yd]
 rw[hb];have c1:=zje (zm (b:=.con (.int 10)) (g:=.solid) (y:=.int 10) (lenL s3 (.own (intL E)) .no .no .no .no) rfl (zes _ 10)) (zm (b:=.con (.int 5)) (g:=.solid) (y:=.int 5) (lenE .no .no .no .no) rfl (zes _ 5));have ways:=λs3 s4 s5 s6 s7 s8=>ztp (cl:=cl) (ρ:=Rl x y (.val (.lst (L.map pl))) s3 s4 s5 s6 s7 s8) rfl le hl
 by_cases h5:L.length=10/\E.length=5
 ·rw[show(decide ((L.length:Int)=10)&&decide ((E.length:Int)=5))=yl by rw[decide_eq_true (by lia),decide_eq_true (by lia)];rfl]at c1
  refine⟨decide (srtP L=two E),zn ?_,?_⟩
  ·rw[zdh c1]
   refine zn ?_;rw[PY.zu];exact z6 (ρ:=Rl x y (.val (.lst (L.map pl))) s3 (.val (lsD E)) .no .no .no .no) (fl:=.solid) (zb2 (ways _ _ _ _ _ _) (zl (zc rfl zi) (h17 h5.2)) (zrd _ _))
  ·rw[decide_eq_true_eq,zns (zq9 r)]
   refine⟨λh=>.inl ⟨h5.2,h⟩,λh=>h.elim (λh=>h.2) λh=>?_⟩;have:=h.1;lia
 ·rw[show(decide ((L.length:Int)=10)&&decide ((E.length:Int)=5))=yi by
   rw[← ydx];exact decide_eq_false λh=>h5 ⟨by lia,by lia⟩]at c1
  rw[ze (zax c1)];have c2:=zfi (zm (b:=.con (.int 9)) (g:=.solid) (y:=.int 9) (lenL s3 (.own (intL E)) .no .no .no .no) rfl (zh5 _ 9)) (zm (b:=.con (.int 6)) (g:=.solid) (y:=.int 6) (lenE .no .no .no .no) rfl (zh5 _ 6));by_cases h6:L.length=9/\E.length=6
  ·rw[show(!decide ((L.length:Int)=9)||!decide ((E.length:Int)=6))=yi by rw[decide_eq_true (by lia),decide_eq_true (by lia)];rfl]at c2
   rw[ze (zax c2)]
   obtain⟨e0,E',hE0⟩:∃e0 E',E=e0::E':=by
    cases E with
    | nil=>cases h6.2
    | cons a E=>exact⟨a,E,rfl⟩
   have h0:E.headD 0=e0:=by rw[hE0];rfl
   generalize hY:(E.filter λv=>decide (ord e0 v∈L))=Y;generalize hM:(E.filter λv=>!decide (ord e0 v∈L))=M
   have cY:ev cl (.comp (.var 0) (.one 0) (.seq (.var 4)) (.so (.cmp .isin (.bi .sorted (.lst (.cons (.ix (.var 1) (.con (.int 0))) (.cons (.var 0) .nil)))) (.comp (.bi .sorted (.var 0)) (.one 0) (.seq (.var 2)) .no 1 []))) 1 [4,2]) (Rl x y (.val (.lst (L.map pl))) s3 (.own (intL E)) .no .no .no .no)=ya (lsD Y,.fresh):=by
    rw[← hY];refine z0 D.int (λv=>decide (ord e0 v∈L)) D.int (b:=yl) rfl λv _=>?_
    refine⟨[.val (.int v),.own (intL E),.val (.lst (L.map pl))],rfl,?_,λ_=>⟨_,rfl,rfl⟩⟩;refine zm (f:=.fresh) (g:=.fresh) (x:=pl (ord e0 v)) (y:=.lst (L.map pl)) (zr (f:=.fresh) (x:=lsD [e0,v]) ?_ ?_) (zak pl pl (b:=yi) (zt (x:=.lst (L.map pl)) rfl rfl) λq hq=>?_) (zvt _ L)
    ·exact zgo (ds:=[.int e0,.int v]) (zc (by rw[hE0];rfl) (zc rfl zi)) (show 2<=4000 by decide)
    ·show sortO (intL [e0,v])=_
     rw[zay (l:=[e0,v]) (show 2<64 by decide),zdn]
    ·refine⟨[.val (pl q)],(pl q,.fresh),rfl,zr (f:=.solid) (x:=pl q) rfl ?_,rfl⟩
     show sortO (intL [q.1,q.2])=_;rw[zay (l:=[q.1,q.2]) (show 2<64 by decide),zn3 (le q hq)]
   rw[ze (zo (r:=(_,.fresh)) (ρ':=Rl x y (.val (.lst (L.map pl))) s3 (.own (intL E)) (.own (intL Y)) .no .no .no) cY rfl)]
   have cM:ev cl (.comp (.var 0) (.one 0) (.seq (.var 4)) (.so (.cmp .notin (.var 0) (.var 1))) 1 [5]) (Rl x y (.val (.lst (L.map pl))) s3 (.own (intL E)) (.own (intL Y)) .no .no .no)=ya (lsD M,.fresh):=by
    have e:M=E.filter λv=>!decide (v∈Y):=by
     rw[← hM];refine jr λv hv=>?_
     rw[← hY];congr 1;exact decide_eq_decide.mpr ⟨λh=>qa.mpr ⟨hv,by simpa using h⟩,λh=>by simpa using(qa.mp h).2⟩
    rw[e];exact z0 D.int (λv=>!decide (v∈Y)) D.int (b:=yl) rfl λv _=>⟨[.val (.int v),.own (intL Y)],rfl,zm (f:=.solid) (g:=.peek) (x:=.int v) (y:=lsD Y) rfl rfl (zlo Y v),λ_=>⟨_,rfl,rfl⟩⟩
   rw[ze (zo (r:=(_,.fresh)) (ρ':=Rl x y (.val (.lst (L.map pl))) s3 (.own (intL E)) (.own (intL Y)) (.own (intL M)) .no .no) cM rfl)];rw[ze (zo (r:=(.lst [],.fresh)) (ρ':=Rl x y (.val (.lst (L.map pl))) s3 (.own (intL E)) (.own (intL Y)) (.own (intL M)) (.own []) .no) rfl rfl)];have hYl:Y.length<=20:=by rw[← hY];exact xh (jk _ _) hE
   have hMl:M.length<=20:=by rw[← hM];exact xh (jk _ _) hE
   have lY6:Y.length+M.length=6:=by rw[← hY,← hM,← h6.2];exact zap _ _
   obtain⟨ρ',e,s8,rfl⟩:=zbx (cl:=cl) (W:=W) (t:=.one 8) (it:=.seq (.var 6)) (b:=.cons (.asg (.one 7) (.bin .add (.var 7) (.comp (.bi .tuple (.bi .sorted (.lst (.cons (.var 1) (.cons (.var 0) .nil))))) (.one 0) (.seq (.var 5)) .no 1 [8]))) .nil)
    (ρ:=Rl x y (.val (.lst (L.map pl))) s3 (.own (intL E)) (.own (intL Y)) (.val (lsD M)) (.own []) .no) D.int (l:=M) (zt (x:=lsD M) rfl rfl) (λs ρ=>∃s8,ρ=Rl x y (.val (.lst (L.map pl))) s3 (.own (intL E)) (.own (intL Y)) (.val (lsD M)) (.own ((due s Y).map pr)) s8) ⟨.no,rfl⟩ (by
     rintro s a ρ ⟨t,ht⟩ ⟨s8,rfl⟩;refine⟨Rl x y (.val (.lst (L.map pl))) s3 (.own (intL E)) (.own (intL Y)) (.val (lsD M)) (.own ((due s Y).map pr)) (.val (.int a)),Rl x y (.val (.lst (L.map pl))) s3 (.own (intL E)) (.own (intL Y)) (.val (lsD M)) (.own ((due (s++[a]) Y).map pr)) (.val (.int a)),rfl,ze (zo (r:=(.lst ((due (s++[a]) Y).map pr),.fresh)) ?_ rfl),.val (.int a),rfl⟩
     have hc:ev cl (.comp (.bi .tuple (.bi .sorted (.lst (.cons (.var 1) (.cons (.var 0) .nil))))) (.one 0) (.seq (.var 5)) .no 1 [8]) (Rl x y (.val (.lst (L.map pl))) s3 (.own (intL E)) (.own (intL Y)) (.val (lsD M)) (.own ((due s Y).map pr)) (.val (.int a)))=ya (.lst (Y.map λb=>pr (ord a b)),.fresh):=by
      refine zak D.int (λb=>pr (ord a b)) (b:=yl) rfl λb _=>?_
      refine⟨[.val (.int b),.val (.int a)],(pr (ord a b),.solid),rfl,zr (f:=.fresh) (x:=pl (ord a b)) (zr (f:=.fresh) (x:=lsD [a,b]) rfl ?_) rfl,rfl⟩;show sortO (intL [a,b])=_;rw[zay (l:=[a,b]) (show 2<64 by decide),zdn]
     refine z8 (f:=.peek) (g:=.fresh) (x:=.lst ((due s Y).map pr)) rfl hc ?_
     have e2:(due s Y).map pr++Y.map (λb=>pr (ord a b))=(due (s++[a]) Y).map pr:=by
      unfold due;rw[wb,qb];congr 1;simp[qu]
     show(if((due s Y).map pr).length+(Y.map λb=>pr (ord a b)).length<=big then ya (D.lst ((due s Y).map pr++Y.map (λb=>pr (ord a b))),Fl.fresh)else yk)=_;rw[← yu,e2,if_pos];rw[yd,zfx];have:(s++[a]).length<=6:=by have:=congrArg uc ht;rw[yu]at this;lia
     have:(s++[a]).length*Y.length<=6*6:=yfd this (by lia);unfold big;lia)
   rw[ze (show ex cl W (.frz [6] _) _=_ by rw[PY.zu];exact e)]
   have dl:(due M Y).length<64:=by
    rw[zfx];have:M.length*Y.length<=6*6:=yfd (by lia) (by lia);lia
   have cS:ev cl (.bi .sorted (.var 7)) (Rl x y (.val (.lst (L.map pl))) s3 (.own (intL E)) (.own (intL Y)) (.val (lsD M)) (.own ((due M Y).map pr)) s8)=ya (.lst ((srtP (due M Y)).map pr),.fresh):=zr (f:=.peek) (x:=.lst ((due M Y).map pr)) rfl (zcx dl)
   have cY3:ev cl (.cmp .eq (.bi .len (.var 5)) (.con (.int 3))) (Rl x y (.val (.lst (L.map pl))) s3 (.own (intL E)) (.own (intL Y)) (.val (lsD M)) (.own ((due M Y).map pr)) s8)=ya (.bl (decide ((Y.length:Int)=3)),.solid):=by
    refine zb2 (f:=.solid) (g:=.solid) (zr (f:=.peek) (x:=lsD Y) rfl (zat _)) rfl ?_;rw[yd];exact zes _ _
   refine⟨decide ((Y.length:Int)=3)&&decide (srtP L=srtP (due M Y)),zn (z6 (fl:=.solid) ?_),?_⟩
   ·rw[PY.za9,cY3,ye]
    show(if decide ((Y.length:Int)=3)=yl then _ else _)=_;cases decide ((Y.length:Int)=3)with
    | false=>rfl
    | true =>
     rw[if_pos rfl,yb0];exact zb2 (ways _ _ _ _ _ _) cS (zrd _ _)
   ·rw[yr,decide_eq_true_eq,decide_eq_true_eq,zkk]
    unfold Law;rw[h0,hY,hM];refine⟨λh=>.inr ⟨h6.2,by lia,h.2⟩,λh=>h.elim (λh=>?_) λh=>⟨by lia,h.2.2⟩⟩;have:=h.1;lia
  ·rw[show(!decide ((L.length:Int)=9)||!decide ((E.length:Int)=6))=yl by
    rw[← Bool.not_and,← ydx,xt,decide_eq_false_iff_not];exactλh=>h6 ⟨by lia,by lia⟩]at c2
   refine⟨yi,zn (by rw[zdh c2];rfl),λh=>(by cases h),λh=>?_⟩;rcases h with⟨a,b⟩ | ⟨a,b,c⟩
   ·have:=b.length_eq
    rw[zfy a]at this;exact absurd ⟨this,a⟩ h5
   ·have:=c.length_eq
    rw[zfx,b]at this;have s:=zap (λv=>decide (ord (E.headD 0) v∈L)) E;have:L.length=9:=by rw[this];lia
    exact absurd ⟨this,a⟩ h6
end
theorem zr0{E:List Int}:¬Law [] E:=by
 rintro(⟨a,b⟩ | ⟨a,b,c⟩)
 ·have:=b.length_eq
  rw[zfy a]at this;cases this
 ·rw[ybm.mpr (by simp)]at b
  cases b
theorem nubE(l:List Int):Ris (sortI (nubI l)) :=
 ((za7 _).and (xu.mp ((zk _).nodup_iff.mpr (zlw l)))).imp λ⟨a,b⟩=>by lia
section
variable {cl:Nat→List D→Option D} {W:Nat}
theorem m19{n:Nat}{T es:List Dt}(hs:Simple T)(hu:Up T)(hin:∀e∈T,e∈es)(hn:Within n T)(n20:n<=20)(l60:T.length<=60)(h18:∃v,cl 18 [.tup (T.map pr)]=ya v/\Smooth T v)
  (h17:∀E:List Int,(two E).length<=1000->E.length<=900->cl 17 [lsD E]=ya (.lst ((two E).map pr))) :
  ∃b,runF cl W f19 [.tup (T.map pr),netD n es]=ya (.bl b)/\(b=yl↔Prog n T):=by
 obtain⟨v,e18,sm⟩:=h18
 have c1:evT cl (.or (.not (.isi (.var 0) .tuple)) (.or (.cmp .ne (.bi .list (.var 0)) (.bi .sortset (.var 0))) (.not (.bi .all (.comp (.cmp .isin (.var 0) (.ix (.var 1) (.con (.int 1)))) (.one 0) (.seq (.var 0)) .no 1 [1]))))) (Rl (.tup (T.map pr)) (netD n es) .no .no .no .no .no .no .no)=ya yi:=by
  refine zfi (p:=yi) rfl (zfi (p:=yi) (q:=yi) ?_ ?_)
  ·have:=zuo T T
   rw[decide_eq_true rfl]at this;refine zm (f:=.fresh) (g:=.fresh) (x:=.lst (T.map pr)) (y:=.lst (T.map pr)) rfl (zr (f:=.solid) (x:=.tup (T.map pr)) rfl ?_) this;show(tups? (T.map pr)).bind (λnss=>if nss.length<64 then ya (D.lst ((sortT (nubT nss)).map tupI),Fl.fresh)else yk)=_;rw[zi4,ye,if_pos (by rw[yd];lia),zlp (zkb (zcz hu)),zj5 hu (.refl _),zrg]
  ·refine ziy (p:=yl) ?_
   have e:=zak (cl:=cl) (ρ:=Rl (.tup (T.map pr)) (netD n es) .no .no .no .no .no .no .no) (e:=.cmp .isin (.var 0) (.ix (.var 1) (.con (.int 1)))) (t:=.one 0) (it:=.seq (.var 0)) (n:=1) (keep:=[1]) (b:=yi) pr (λq=>D.bl (memP q es)) (l:=T) (zt (x:=.tup (T.map pr)) rfl rfl) λq _ =>
    ⟨[.val (pr q),.val (netD n es)],(.bl (memP q es),.solid),rfl,zb2 (f:=.solid) (g:=.solid) (x:=pr q) (y:=.tup (es.map pr)) rfl (zbd (f:=.solid) (g:=.solid) rfl rfl rfl) (zwf q es),rfl⟩
   rw[PY.zng,e,ye,zgq (λq=>memP q es) T,ye,qo.mpr λq hq=>zc0.mpr (hin q hq)];rfl
 have go:∀(L:List Dt) (l:List Int),v=.tup [.lst (L.map pl),.dic (intL (nubI l)) (cnt l)]->(∀q∈L,q.1<=q.2)->L.length<64->(∀u∈l,deg T u≠0)->∃b,runF cl W f19 [.tup (T.map pr),netD n es]=ya (.bl b)/\(b=yl↔Law L (sortI (nubI l))):=λL l ev0 le hl hdeg=>by
  subst ev0
  have hlen:(nubI l).length<=n:=fits n _ (zlw l) λx hx=>by
   obtain⟨p,hp,rfl⟩:=hn x (hdeg x ((zd8 x l).mp hx));lia
  have hE:(sortI (nubI l)).length<=20:=by rw[(zk _).length_eq];lia
  obtain⟨bd,hbd⟩:∃bd,f19.body=.cons (.cond (.or (.not (.isi (.var 0) .tuple)) (.or (.cmp .ne (.bi .list (.var 0)) (.bi .sortset (.var 0))) (.not (.bi .all (.comp (.cmp .isin (.var 0) (.ix (.var 1) (.con (.int 1)))) (.one 0) (.seq (.var 0)) .no 1 [1]))))) (.cons (.ret (.con (.bl yi))) .nil) .nil) (.cons (.frz [0] (.asg (.many [2,3]) (.call 18 (.cons (.var 0) .nil)))) (.cons (.asg (.one 4) (.bi .sorted (.var 3))) bd)):=⟨_,rfl⟩;obtain⟨b,e,hb⟩:=zpv (cl:=cl) (W:=W) (L:=L) (E:=sortI (nubI l)) (x:=.tup (T.map pr)) (y:=netD n es) (s3:=.val (.dic (intL (nubI l)) (cnt l))) (nubE l) le hl hE (λh5=>h17 _ (by rw[zfy h5];lia) (by lia)) bd ⟨_,_,_,hbd⟩;refine⟨b,z5 ⟨rfl,by decide⟩ ?_,hb⟩;show exs cl W f19.body (Rl (.tup (T.map pr)) (netD n es) .no .no .no .no .no .no .no)=_;rw[hbd,ze (zax c1)]
  rw[ze (show ex cl W (.frz [0] _) _=ya (.nx (Rl (.tup (T.map pr)) (netD n es) (.val (.lst (L.map pl))) (.val (.dic (intL (nubI l)) (cnt l))) .no .no .no .no .no))by
   rw[PY.zu];exact z7 (zl (zc rfl zi) e18) rfl)]
  rw[ze (zo (r:=(lsD (sortI (nubI l)),.fresh)) (ρ':=Rl (.tup (T.map pr)) (netD n es) (.val (.lst (L.map pl))) (.val (.dic (intL (nubI l)) (cnt l))) (.own (intL (sortI (nubI l)))) .no .no .no .no) (zr (f:=.solid) (x:=.dic (intL (nubI l)) (cnt l)) rfl (by
   show sortK (intL (nubI l))=_;unfold sortK;rw[zbl];exact zay (by lia))) rfl)]
  exact e
 cases sm with
 | ring l hl h =>
  obtain⟨b,e,hb⟩:=go [] l rfl (λ_ z=>by cases z) (by decide) hl;obtain⟨S,C,f,c⟩:=h;refine⟨b,e,?_⟩;rw[hb];exact⟨λz=>(zr0 z).elim,λz=>(zm7 f hs hn c z).elim⟩
 | done S h hl =>
  have d:Dec T S:=by have:=h.dec;rwa[qr]at this
  obtain⟨b,e,hb⟩:=go (S.map ep) (flat (S.map ep)) rfl (λq hq=>by
   obtain⟨p,_,rfl⟩:=yz.mp hq
   exact zxi p) (by rw[yd];lia) λu hu=>by
    have:=d.end_deg hs ((za4 u).mp hu);lia
  refine⟨b,e,?_⟩;rw[hb,zke h hs hn (nubE _) λv=>?_];rw[(zk _).mem_iff,zd8,za4]
end
inductive Sub (m:Nat) (B:List Dt):Nat->List Dt->Prop
 | base:Sub m B m B
 | step {c:Nat} {s t:List Dt} {a b:Int} (h:Sub m B c (s++(a,b)::t)):Sub m B (c+1) (s++t++[(a,(c:Int)),(b,(c:Int))])
noncomputable abbrev nm (P:List Int) (i:Int):Int:=P.getD i.toNat 0
theorem zeo(P:List Int)(e:Dt):ren P e=ord (nm P e.1) (nm P e.2):=by
 show(mn (nm P e.1) (nm P e.2),mx (nm P e.1) (nm P e.2))=_;generalize nm P e.1=x;generalize nm P e.2=y;unfold ord mn mx;by_cases h:y<x
 ·rw[if_pos h,if_pos h,if_neg (by lia)]
 ·rw[if_neg h,if_neg h]
  by_cases k:y>x
  ·rw[if_pos k]
  ·rw[if_neg k];congr 1;lia
theorem zq2{T:List Dt}{v:Int}(h:∀e∈T,e.1≠v/\e.2≠v):deg T v=0:=by
 show(near T v).length=0;rw[j5,List.eq_nil_iff_forall_not_mem];intro x hx;rcases K05.za0.mp hx with k | k
 ·exact(h _ k).2 rfl
 ·exact(h _ k).1 rfl
section
variable {m c:Nat} {B Wl:List Dt}
theorem Sub.facts(hB:∀e∈B,0<=e.1/\e.1<e.2/\e.2<(m:Int))(h:Sub m B c Wl):(∀e∈Wl,0<=e.1/\e.1<e.2/\e.2<(c:Int))/\Wl.length+m=B.length+c/\m<=c:=by
 induction h with
 | base=>exact⟨hB,rfl,y6 _⟩
 | @step c s t a b h ih =>
  refine zKK λγ κ=>?_;obtain⟨i1,i2,i3⟩:=ih;obtain⟨j1,j2,j3⟩:=i1 (a,b) (by simp);refine κ ?_;refine⟨λe he=>?_,?_,by lia⟩
  ·simp only[qt,yn,jb,or_false]at he
   rcases he with(k | k) | k | k
   ·have:=i1 e (by simp[k]);lia
   ·have:=i1 e (by simp[k]);lia
   ·subst k;simp only at j1 j2 j3 ⊢;lia
   ·subst k;simp only at j1 j2 j3 ⊢;lia
  ·simp at i2 ⊢;lia
theorem Sub.kn{n:Nat}{P:List Int}(hP:Nam n P)(hB:∀e∈B,0<=e.1/\e.1<e.2/\e.2<(m:Int))(k0:Kn (B.map (ren P)))(h:Sub m B c Wl)(hc:c<=n):Kn (Wl.map (ren P)):=by
 induction h with
 | base=>exact k0
 | @step c s t a b h ih =>
  have ih:=ih (by lia);obtain⟨i1,_,_⟩:=h.facts hB
  have inj:∀x y:Int,0<=x->x<=c->0<=y->y<=c->nm P x=nm P y->x=y:=λx y h1 h2 h3 h4 z=>by
   have:=hP.inj x.toNat y.toNat (by lia) (by lia) z;lia
  obtain⟨j1,j2,j3⟩:=i1 (a,b) (by simp);simp only at j1 j2 j3;have ab:nm P a≠nm P b:=λz=>by have:=inj a b (by lia) (by lia) (by lia) (by lia) z;lia
  have ac:nm P a≠nm P c:=λz=>by have:=inj a c (by lia) (by lia) (by lia) (by lia) z;lia
  have bc:nm P b≠nm P c:=λz=>by have:=inj b c (by lia) (by lia) (by lia) (by lia) z;lia
  have pm:((s++(a,b)::t).map (ren P)).Perm (nrm (nm P a) (nm P b)::(s++t).map (ren P)):=by
   rw[qb,yo,qb,zeo,zdx ab];exact j7
  have z:deg ((s++(a,b)::t).map (ren P)) (nm P c)=0:=zq2 λe he=>by
   obtain⟨q,hq,rfl⟩:=yz.mp he;obtain⟨q1,q2,q3⟩:=i1 q hq;have n1:nm P q.1≠nm P c:=λz=>by have:=inj q.1 c (by lia) (by lia) (by lia) (by lia) z;lia
   have n2:nm P q.2≠nm P c:=λz=>by have:=inj q.2 c (by lia) (by lia) (by lia) (by lia) z;lia
   rw[zeo];unfold ord;split
   ·exact⟨n2,n1⟩
   ·exact⟨n1,n2⟩
  refine(ih.sub pm ab z).perm ?_
  rw[qb (l₁:=s++t),show[(a,(c:Int)),(b,(c:Int))].map (ren P)=[nrm (nm P a) (nm P c),nrm (nm P b) (nm P c)]by
   rw[yo,yo,yam,zeo,zeo,zdx ac,zdx bc]]
  exact wd (l₁:=[nrm (nm P a) (nm P c),nrm (nm P b) (nm P c)])
end
theorem zj4{l:List Dt}(h:l.Nodup):Up (srtP l):=by
 obtain⟨fs,hu,hp⟩:=zw4 h;rw[(zns hu).mpr hp.symm];exact hu
structure Plant (n:Nat) (es kn:List Dt):Prop where
 ue:Up es
 uk:Up kn
 sub:∀e∈kn,e∈es
 ein:∀e∈es,0<=e.1/\e.1<e.2/\e.2<(n:Int)
 n11:n<=11
 len:es.length<=30
 k9:2<=kn.length
 kl:kn.length<=30
 knot:Kn kn
section
variable {cl:Nat→List D→Option D} {W:Nat}
theorem m15(h13:∀(ns:List Int) (k:Nat),cl 13 [scr ns,.int k]=ya (.int (ns.getD k 0)))(h14:∀a p m:Int,0<p->0<m->cl 14 [.int a,.int p,.int m]=ya (.int (mix a p m)))(ns:List Int)(n:Nat)(hn:n<=12) :
  ∃P:List Int,P.Perm (rngI n)/\runF cl W f15 [scr ns,.int n]=ya (lsD P):=by
 obtain⟨ρ',e,P,s4,rfl,hP⟩:=zms (cl:=cl) (W:=W) (t:=.one 3) (it:=.rng1 (.var 1)) (b:=.cons (.ins 2 (.call 14 (.cons (.bin .add (.call 13 (.cons (.var 0) (.cons (.con (.int 4)) .nil))) (.bin .mul (.con (.int 7)) (.var 3))) (.cons (.con (.int 9931)) (.cons (.bin .add (.bi .len (.var 2)) (.con (.int 1))) .nil)))) (.var 3)) .nil)
  (ρ:=[.val (scr ns),.val (.int n),.own [],.no]) (ds:=rangeD 0 n) (by rw[zf0];exact zfu rfl (by lia))
  (λi ρ=>∃P s4,ρ=[.val (scr ns),.val (.int n),.own (intL P),s4]/\P.Perm (rngI i)) ⟨[],_,rfl,by simp⟩ (by
   rintro i d ρ hi ⟨P,s4,rfl,hP⟩;obtain⟨hi,rfl⟩:=zd0 hi;rw[yep];have hlen:P.length=i:=by rw[hP.length_eq];simp
   let m:=mix (ns.getD 4 0+7*(i:Int)) 9931 ((P.length:Int)+1)
   have hm0:0<=m:=we _ (by lia);have hm1:m<(P.length:Int)+1:=jt _ (by lia);refine⟨[.val (scr ns),.val (.int n),.own (intL P),.val (.int (i:Int))],[.val (scr ns),.val (.int n),.own (intL (putAt P m (i:Int))),.val (.int (i:Int))],rfl,ze ?_,putAt P m (i:Int),_,rfl,?_⟩
   ·have he:ev cl (.call 14 (.cons (.bin .add (.call 13 (.cons (.var 0) (.cons (.con (.int 4)) .nil))) (.bin .mul (.con (.int 7)) (.var 3))) (.cons (.con (.int 9931)) (.cons (.bin .add (.bi .len (.var 2)) (.con (.int 1))) .nil)))) [.val (scr ns),.val (.int n),.own (intL P),.val (.int (i:Int))]=ya (.int m,.solid):=by
     refine zl (zc (z8 (f:=.solid) (g:=.solid) (zl (zc rfl (zc rfl zi)) (h13 ns 4)) (z8 (f:=.solid) (g:=.solid) rfl rfl (ztt 7 _ (by decide))) rfl) (zc rfl (zc (x:=.int ((P.length:Int)+1)) ?_ zi))) (h14 _ 9931 _ (by decide) (by lia));refine z8 (f:=.solid) (g:=.solid) (x:=.int (P.length:Int)) (zr (f:=.peek) (x:=lsD P) rfl ?_) rfl rfl;rw[zat,yd]
    simp only[PY.zbf,PY.za3,PY.zbw,PY.zbz,PY.zc2,PY.zbq,PY.zc7,he,ye,int?];show(if(intL P).length<big/\small m=yl then ya (Out.nx [_,_,Sl.own (putAt (intL P) m (.int (i:Int))),_])else yk)=_;rw[if_pos ⟨by rw[yd];unfold big;lia,by unfold small;rw[decide_eq_true (by lia),decide_eq_true (by lia)];rfl⟩,zp9]
   ·refine(zp3 P m (i:Int)).trans ?_
    unfold rngI;rw[ye2,qb];exact hP.append_right _)
 have hl:(rangeD 0 n).length=n:=by rw[zf0];simp
 rw[hl]at hP;refine⟨P,hP,z5 ⟨rfl,by decide⟩ ?_⟩;show exs cl W _ [.val (scr ns),.val (.int n),.no,.no]=_;exact(ze (zo (r:=(.lst [],.fresh)) (ρ':=[.val (scr ns),.val (.int n),.own [],.no]) rfl rfl)).trans ((ze e).trans (zn (z6 (fl:=.peek) rfl)))
theorem zt6{n:Nat}{P:List Int}(h:P.Perm (rngI n)):Nam n P:=by
 have hl:P.length=n:=by rw[h.length_eq];simp
 have nd:P.Nodup:=h.symm.nodup (List.Pairwise.map _ (λa b hab z=>hab (by exact_mod_cast z)) yeu);refine⟨hl,λk hk=>?_,λj k hj hk z=>?_⟩
 ·have hm:P.getD k 0∈P:=by rw[y3,yc (by lia)];exact vq _
  obtain⟨i,hi,e⟩:=yz.mp (h.mem_iff.mp hm);have:=jm.mp hi;lia
 ·rw[y3,y3,yc (by lia),yc (by lia)]at z
  exact(yc9 nd).mp z
end
theorem zec{α β:Type}(f:α->β)(l:List α)(lo hi:Option Int):cutL (l.map f) lo hi=(cutL l lo hi).map f:=by
 unfold cutL;rw[yd,yfi,yfj]
section
variable {cl:Nat→List D→Option D} {W:Nat} (h13:∀ (ns:List Int) (k:Nat),cl 13 [scr ns,.int k]=ya (.int (ns.getD k 0))) (h14:∀ a p m:Int,0 < p→0 < m→cl 14 [.int a,.int p,.int m]=ya (.int (mix a p m)))
noncomputable abbrev Rp (ns:List Int) (s1 s2 s3 s4 s5 s6 s7 s8 s9 s10 s11:Sl):Rho:=[.val (scr ns),s1,s2,s3,s4,s5,s6,s7,s8,s9,s10,s11]
include h13 in
theorem zgg(ns:List Int)(k:Nat)(m:Int)(hm:0<m){ρ:Rho}(h0:ρ[0]? = ya (.val (scr ns))):ev cl (.bin .mod (.call 13 (.cons (.var 0) (.cons (.con (.int k)) .nil))) (.con (.int m))) ρ=ya (.int (ns.getD k 0 % m),.solid) :=
 z8 (f:=.solid) (g:=.solid) (zl (zc (by rw[PY.zba,slot,h0]) (zc rfl zi)) (h13 ns k)) rfl (zll _ _ hm)
noncomputable abbrev subB:Ss:=.cons (.pop (.one 4) 1 (.call 14 (.cons (.bin .add (.call 13 (.cons (.var 0) (.cons (.con (.int 2)) .nil))) (.bin .mul (.con (.int 11)) (.var 3))) (.cons (.con (.int 9967)) (.cons (.bi .len (.var 1)) .nil)))))
 (.cons (.asg (.one 1) (.bin .add (.var 1) (.lst (.cons (.tup (.cons (.ix (.var 4) (.con (.int 0))) (.cons (.var 2) .nil))) (.cons (.tup (.cons (.ix (.var 4) (.con (.int 1))) (.cons (.var 2) .nil))) .nil)))))
 (.cons (.asg (.one 2) (.bin .add (.var 2) (.con (.int 1)))) .nil))
include h13 h14 in
theorem zpu(ns:List Int){m:Nat}{B:List Dt}(hB:∀e∈B,0<=e.1/\e.1<e.2/\e.2<(m:Int))(hb:9<=B.length/\B.length<=10)(hm:m<=6):∃c Wl s3 s4,Sub m B c Wl/\c<=9 /\
  ex cl W (.loop (.one 3) (.rng1 (.bin .mod (.call 13 (.cons (.var 0) (.cons (.con (.int 1)) .nil))) (.con (.int 4)))) subB) (Rp ns (.own (B.map pr)) (.val (.int m)) .no .no .no .no .no .no .no .no .no)
   = ya (.nx (Rp ns (.own (Wl.map pr)) (.val (.int c)) s3 s4 .no .no .no .no .no .no .no)):=by
 have h4:0<=ns.getD 1 0 % 4/\ns.getD 1 0 % 4<4:=⟨we _ (by decide),jt _ (by decide)⟩;obtain⟨k,hk⟩:∃k:Nat,ns.getD 1 0 % 4=(k:Int):=⟨(ns.getD 1 0 % 4).toNat,by lia⟩;have hr:=zgg (cl:=cl) h13 ns 1 4 (by decide) (ρ:=Rp ns (.own (B.map pr)) (.val (.int m)) .no .no .no .no .no .no .no .no .no) rfl;rw[hk]at hr
 obtain⟨ρ',e,c,Wl,s3,s4,rfl,hs,hc⟩:=zbx (cl:=cl) (W:=W) (t:=.one 3) (b:=subB) (ρ:=Rp ns (.own (B.map pr)) (.val (.int m)) .no .no .no .no .no .no .no .no .no) D.int (zfu hr (by lia))
  (λs ρ=>∃(c:Nat) (Wl:List Dt) (s3 s4:Sl),ρ=Rp ns (.own (Wl.map pr)) (.val (.int c)) s3 s4 .no .no .no .no .no .no .no/\Sub m B c Wl/\c=m+s.length) ⟨m,B,.no,.no,rfl,.base,rfl⟩ (by
   rintro s i ρ ⟨t,ht⟩ ⟨c,Wl,s3,s4,rfl,hs,hc⟩
   have hsl:s.length<4:=by
    have:=congrArg uc ht;simp at this;lia
   obtain⟨f1,f2,f3⟩:=hs.facts hB;have hlen:0<Wl.length/\Wl.length<=100:=by lia
   let x:=mix (ns.getD 2 0+11*i) 9967 (Wl.length:Int)
   have hx0:0<=x:=we _ (by lia);have hx1:x<(Wl.length:Int):=jt _ (by lia);obtain⟨j,hj⟩:∃j:Nat,x=(j:Int):=⟨x.toNat,by lia⟩;have hjl:j<Wl.length:=by lia
   obtain⟨s0,ab,t0,hsp,hsl0⟩:∃s0 ab t0,Wl=s0++ab::t0/\s0.length=j:=⟨Wl.take j,Wl[j],Wl.drop (j+1),by rw[← v9 hjl,yac],by simp;lia⟩;obtain⟨a,b⟩:=ab
   have he:ev cl (.call 14 (.cons (.bin .add (.call 13 (.cons (.var 0) (.cons (.con (.int 2)) .nil))) (.bin .mul (.con (.int 11)) (.var 3))) (.cons (.con (.int 9967)) (.cons (.bi .len (.var 1)) .nil)))) (Rp ns (.own (Wl.map pr)) (.val (.int c)) (.val (.int i)) s4 .no .no .no .no .no .no .no)=ya (.int x,.solid):=by
    refine zl (zc (z8 (f:=.solid) (g:=.solid) (zl (zc rfl (zc rfl zi)) (h13 ns 2)) (z8 (f:=.solid) (g:=.solid) rfl rfl (ztt 11 _ (by decide))) rfl) (zc rfl (zc (x:=.int (Wl.length:Int)) ?_ zi))) (h14 _ 9967 _ (by decide) (by lia));refine zr (f:=.peek) (x:=.lst (Wl.map pr)) rfl ?_;rw[zat,yd]
   have hp:ex cl W (.pop (.one 4) 1 (.call 14 (.cons (.bin .add (.call 13 (.cons (.var 0) (.cons (.con (.int 2)) .nil))) (.bin .mul (.con (.int 11)) (.var 3))) (.cons (.con (.int 9967)) (.cons (.bi .len (.var 1)) .nil))))) (Rp ns (.own (Wl.map pr)) (.val (.int c)) (.val (.int i)) s4 .no .no .no .no .no .no .no)
     = ya (.nx (Rp ns (.own ((s0++t0).map pr)) (.val (.int c)) (.val (.int i)) (.val (pr (a,b))) .no .no .no .no .no .no .no)):=by
    simp only[PY.zbf,PY.za3,PY.zbw,PY.zbz,PY.zc2,PY.zbq,PY.zc7,he,ye,int?];show(if small x then(place (Wl.map pr).length x).bind (λj=>((Wl.map pr)[j]?).bind λd=>(give (.one 4) d [_,Sl.own ((Wl.map pr).eraseIdx j),_,_,_,_,_,_,_,_,_,_]).map Out.nx)else yk)=_;rw[if_pos (by unfold small;rw[decide_eq_true (by lia),decide_eq_true (by lia)];rfl),hj,zcl (by rw[yd];exact hjl),ye]
    have g1:(Wl.map pr)[j]? = ya (pr (a,b)):=by
     rw[yy,hsp,qz (by lia),hsl0];simp
    have g2:(Wl.map pr).eraseIdx j=(s0++t0).map pr:=by
     rw[hsp,qb,yo,List.eraseIdx_append_of_length_le (by rw[yd];lia),yd,hsl0,Nat.sub_self,List.eraseIdx_cons_zero,← qb]
    rw[g1,ye,g2];rfl
   refine⟨Rp ns (.own (Wl.map pr)) (.val (.int c)) (.val (.int i)) s4 .no .no .no .no .no .no .no,Rp ns (.own ((s0++t0++[(a,(c:Int)),(b,(c:Int))]).map pr)) (.val (.int ((c+1:Nat):Int))) (.val (.int i)) (.val (pr (a,b))) .no .no .no .no .no .no .no,rfl,?_,c+1,_,_,_,rfl,.step (hsp▸hs),by simp;lia⟩;rw[ze hp]
   rw[ze (zo (r:=(.lst ((s0++t0++[(a,(c:Int)),(b,(c:Int))]).map pr),.fresh)) (ρ':=Rp ns (.own ((s0++t0++[(a,(c:Int)),(b,(c:Int))]).map pr)) (.val (.int c)) (.val (.int i)) (.val (pr (a,b))) .no .no .no .no .no .no .no) (z8 (f:=.peek) (g:=.fresh) (x:=.lst ((s0++t0).map pr)) (y:=.lst [pr (a,c),pr (b,c)]) rfl rfl (by
    show(if((s0++t0).map pr).length+2<=big then ya (D.lst ((s0++t0).map pr++[pr (a,c),pr (b,c)]),Fl.fresh)else yk)=_;rw[if_pos,qb (l₁:=s0++t0)]
    ·rfl
    ·have:=congrArg uc hsp
     rw[yd];simp at this ⊢;unfold big;lia)) rfl)]
   exact ze (z7 (d:=.int ((c+1:Nat):Int)) rfl rfl))
 refine⟨c,Wl,s3,s4,hs,?_,e⟩;simp at hc;lia
noncomputable abbrev addB:Ss:=.cons (.frz [11] (.asg (.one 7) (.call 14 (.cons (.var 11) (.cons (.con (.int 9949)) (.cons (.bin .add (.var 2) (.var 5)) .nil))))))
 (.cons (.frz [11] (.asg (.one 8) (.call 14 (.cons (.var 11) (.cons (.con (.int 9941)) (.cons (.bin .add (.var 2) (.var 5)) .nil))))))
 (.cons (.cond (.and (.cmp .lt (.var 7) (.var 8)) (.cmp .notin (.tup (.cons (.var 7) (.cons (.var 8) .nil))) (.var 10))) (.cons (.app 10 (.tup (.cons (.var 7) (.cons (.var 8) .nil)))) .nil) .nil) .nil))
theorem zo2(p:Dt)(l:List Dt):cmpop .notin (pr p) (.lst (l.map pr))=ya (!memP p l):=by
 show(if yl&&(l.map pr).all (D.deep 8)then ya (!memD (pr p) (l.map pr))else yk)=_;rw[zf8,zo7];rfl
include h14 in
theorem zqh(ns cs:List Int){c k n:Nat}{K:List Dt}(hn:(c:Int)+k=n)(n0:0<n)(hK:K.Nodup)(hin:∀e∈K,0<=e.1/\e.1<e.2/\e.2<(n:Int))(hl:K.length+cs.length<=1000){it:I}{s1 s3 s4 s6 s9:Sl}(hit:evi cl it (Rp ns s1 (.val (.int c)) s3 s4 (.val (.int k)) s6 .no .no s9 (.own (K.map pr)) .no)=ya (cs.map D.int,yi)) :
  ∃F s7 s8 s11,ex cl W (.loop (.one 11) it addB) (Rp ns s1 (.val (.int c)) s3 s4 (.val (.int k)) s6 .no .no s9 (.own (K.map pr)) .no)=ya (.nx (Rp ns s1 (.val (.int c)) s3 s4 (.val (.int k)) s6 s7 s8 s9 (.own ((K++F).map pr)) s11)) /\
   (K++F).Nodup/\(∀e∈K++F,0<=e.1/\e.1<e.2/\e.2<(n:Int))/\F.length<=cs.length:=by
 obtain⟨ρ',e,F,s7,s8,s11,rfl,h1,h2,h3⟩:=zbx (cl:=cl) (W:=W) (t:=.one 11) (b:=addB) D.int hit
  (λs ρ=>∃F s7 s8 s11,ρ=Rp ns s1 (.val (.int c)) s3 s4 (.val (.int k)) s6 s7 s8 s9 (.own ((K++F).map pr)) s11/\(K++F).Nodup/\(∀e∈K++F,0<=e.1/\e.1<e.2/\e.2<(n:Int))/\F.length<=s.length)
  ⟨[],.no,.no,.no,by rw[qr],by rw[qr];exact hK,by rw[qr];exact hin,y6 _⟩ (by
   intro s z ρ ζ8 ζ9;refine zKK λγ κ=>?_;obtain⟨t,ht⟩:=ζ8;obtain⟨F,s7,s8,s11,rfl,h1,h2,h3⟩:=ζ9;refine κ ?_;have hsl:s.length<cs.length:=by rw[← ht];simp
   let x:=mix z 9949 (n:Int)
   let y:=mix z 9941 (n:Int)
   have x0:0<=x:=we _ (by lia);have x1:x<(n:Int):=jt _ (by lia);have y0:0<=y:=we _ (by lia);have y1:y<(n:Int):=jt _ (by lia);let R:Sl->Sl->Sl->Rho:=λs7 s8 s10=>Rp ns s1 (.val (.int c)) s3 s4 (.val (.int k)) s6 s7 s8 s9 s10 (.val (.int z))
   have hs:∀s7 s8 s10,ev cl (.bin .add (.var 2) (.var 5)) (R s7 s8 s10)=ya (.int (n:Int),.solid):=λ_ _ _=>by rw[← hn];rfl
   have e1:ex cl W (.frz [11] (.asg (.one 7) (.call 14 (.cons (.var 11) (.cons (.con (.int 9949)) (.cons (.bin .add (.var 2) (.var 5)) .nil)))))) (R s7 s8 (.own ((K++F).map pr)))=ya (.nx (R (.val (.int x)) s8 (.own ((K++F).map pr)))):=by
    rw[PY.zu];exact z7 (zl (zc rfl (zc rfl (zc (hs _ _ _) zi))) (h14 z 9949 n (by decide) (by lia))) rfl
   have e2:ex cl W (.frz [11] (.asg (.one 8) (.call 14 (.cons (.var 11) (.cons (.con (.int 9941)) (.cons (.bin .add (.var 2) (.var 5)) .nil)))))) (R (.val (.int x)) s8 (.own ((K++F).map pr)))=ya (.nx (R (.val (.int x)) (.val (.int y)) (.own ((K++F).map pr)))):=by
    rw[PY.zu];exact z7 (zl (zc rfl (zc rfl (zc (hs _ _ _) zi))) (h14 z 9941 n (by decide) (by lia))) rfl
   have e3:evT cl (.and (.cmp .lt (.var 7) (.var 8)) (.cmp .notin (.tup (.cons (.var 7) (.cons (.var 8) .nil))) (.var 10))) (R (.val (.int x)) (.val (.int y)) (.own ((K++F).map pr)))=ya (decide (x<y)&&!memP (x,y) (K++F)) :=
    zje (zm (f:=.solid) (g:=.solid) (x:=.int x) (y:=.int y) rfl rfl rfl) (zm (f:=.solid) (g:=.peek) (x:=pr (x,y)) (y:=.lst ((K++F).map pr)) rfl rfl (zo2 _ _))
   cases hq:decide (x<y)&&!memP (x,y) (K++F)with
   | false =>
    rw[hq]at e3;refine⟨R s7 s8 (.own ((K++F).map pr)),R (.val (.int x)) (.val (.int y)) (.own ((K++F).map pr)),rfl,?_,F,_,_,_,rfl,h1,h2,by rw[yu];lia⟩;rw[ze e1,ze e2];exact ze (zax e3)
   | true =>
    rw[hq]at e3;rw[yr,decide_eq_true_eq,xt]at hq;have nm:(x,y)∉K++F:=λz=>by rw[zc0.mpr z]at hq;cases hq.2
    refine⟨R s7 s8 (.own ((K++F).map pr)),R (.val (.int x)) (.val (.int y)) (.own ((K++(F++[(x,y)])).map pr)),rfl,?_,F++[(x,y)],_,_,_,rfl,?_,?_,by simp;lia⟩
    ·rw[ze e1,ze e2]
     refine ze ?_;rw[zdh e3];refine ze ?_;show(if((K++F).map pr).length<big then ya (Out.nx (R (.val (.int x)) (.val (.int y)) (.own ((K++F).map pr++[pr (x,y)]))))else yk)=_;rw[if_pos (by rw[yd,yu];unfold big;lia),← xb,qb (l₁:=K++F)];rfl
    ·rw[← xb,wq]
     refine⟨h1,by simp,λa ha b hb z=>?_⟩;rw[qd]at hb;subst hb z;exact nm ha
    ·rw[← xb]
     intro e he;rcases qt.mp he with k | k
     ·exact h2 e k
     ·rw[qd.mp k];exact⟨x0,hq.1,y1⟩)
 exact⟨F,s7,s8,s11,e,h1,h2,h3⟩
end
section
variable {cl:Nat→List D→Option D} {W:Nat} (h13:∀ (ns:List Int) (k:Nat),cl 13 [scr ns,.int k]=ya (.int (ns.getD k 0))) (h14:∀ a p m:Int,0 < p→0 < m→cl 14 [.int a,.int p,.int m]=ya (.int (mix a p m)))
noncomputable abbrev frm (r:Ss):Ss:=.cons (.loop (.one 3) (.rng1 (.bin .mod (.call 13 (.cons (.var 0) (.cons (.con (.int 1)) .nil))) (.con (.int 4)))) subB)
 (.cons (.asg (.one 5) (.bin .mod (.call 13 (.cons (.var 0) (.cons (.con (.int 3)) .nil))) (.con (.int 3)))) (.cons (.frz [0] (.asg (.one 6) (.call 15 (.cons (.var 0) (.cons (.bin .add (.var 2) (.var 5)) .nil)))))
 (.cons (.asg (.one 9) (.comp (.tup (.cons (.bi2 .min2 (.ix (.var 2) (.var 0)) (.ix (.var 2) (.var 1))) (.cons (.bi2 .max2 (.ix (.var 2) (.var 0)) (.ix (.var 2) (.var 1))) .nil))) (.many [0,1]) (.seq (.var 1)) .no 2 [6]))
 (.cons (.asg (.one 10) (.bi .list (.var 9)))
 (.cons (.loop (.one 11) (.seq (.sl (.var 0) (.so (.con (.int 6))) (.so (.con (.int 14))))) addB) r)))))
noncomputable abbrev finR:Ss:=.cons (.frz [] (.ret (.tup (.cons (.tup (.cons (.bin .add (.var 2) (.var 5)) (.cons (.bi .tuple (.bi .sorted (.var 10))) .nil))) (.cons (.bi .tuple (.bi .sorted (.var 9))) .nil))))) .nil
include h13 h14 in
theorem zq8(h15:∀(ns:List Int) (n:Nat),n<=12->∃P:List Int,P.Perm (rngI n)/\cl 15 [scr ns,.int n]=ya (lsD P))(ns:List Int){m:Nat}{B:List Dt}(hB:∀e∈B,0<=e.1/\e.1<e.2/\e.2<(m:Int))(hb:9<=B.length/\B.length<=10)(hm:5<=m/\m<=6)
  (hk:∀(n:Nat) (P:List Int),Nam n P->m<=n->Kn (B.map (ren P))):∃n es kn,Plant n es kn/\exs cl W (frm finR) (Rp ns (.own (B.map pr)) (.val (.int m)) .no .no .no .no .no .no .no .no .no)=ya (.rt (.tup [netD n es,.tup (kn.map pr)])):=by
 refine zKK λγ κ=>?_;obtain⟨c,Wl,s3,s4,hs,hc,e1⟩:=zpu (cl:=cl) (W:=W) h13 h14 ns hB hb hm.2;obtain⟨f1,f2,f3⟩:=hs.facts hB;have h3:0<=ns.getD 3 0 % 3/\ns.getD 3 0 % 3<3:=⟨we _ (by decide),jt _ (by decide)⟩;obtain⟨k,hk3⟩:∃k:Nat,ns.getD 3 0 % 3=(k:Int):=⟨(ns.getD 3 0 % 3).toNat,by lia⟩;have e2:=zgg (cl:=cl) h13 ns 3 3 (by decide) (ρ:=Rp ns (.own (Wl.map pr)) (.val (.int c)) s3 s4 .no .no .no .no .no .no .no) rfl;rw[hk3]at e2;obtain⟨P,hP,h15⟩:=h15 ns (c+k) (by lia);have nam:=zt6 hP;refine κ ?_;let K:=Wl.map (ren P)
 have hin:∀e∈Wl,0<=e.1/\e.1<e.2/\e.2<((c+k:Nat):Int):=λe he=>by have:=f1 e he;lia
 have knot:Kn K:=hs.kn nam hB (hk (c+k) P nam (by lia)) (by lia)
 have hKin:∀e∈K,0<=e.1/\e.1<e.2/\e.2<((c+k:Nat):Int):=λe he=>by
  obtain⟨q,hq,rfl⟩:=yz.mp he;exact zv1 nam (hin q hq)
 have hKl:K.length=Wl.length:=yd _
 have ix:∀x:Int,0<=x->x<((c+k:Nat):Int)->index (lsD P) (.int x)=ya (.int (nm P x),.solid):=λx h0 h1=>by
  have hl:=nam.len;have hx:x.toNat<P.length:=by lia
  have:=zj2 D.int (l:=P) (k:=x.toNat) (a:=P.getD x.toNat 0) (by rw[y3,yc hx];rfl);rw[show((x.toNat:Nat):Int)=x by lia]at this;exact this
 have e3:ex cl W (.frz [0] (.asg (.one 6) (.call 15 (.cons (.var 0) (.cons (.bin .add (.var 2) (.var 5)) .nil))))) (Rp ns (.own (Wl.map pr)) (.val (.int c)) s3 s4 (.val (.int k)) .no .no .no .no .no .no)=ya (.nx (Rp ns (.own (Wl.map pr)) (.val (.int c)) s3 s4 (.val (.int k)) (.val (lsD P)) .no .no .no .no .no)):=by
  rw[PY.zu];exact z7 (zl (zc rfl (zc (x:=.int ((c+k:Nat):Int)) (by rw[ydy];rfl) zi)) h15) rfl
 have e4:ev cl (.comp (.tup (.cons (.bi2 .min2 (.ix (.var 2) (.var 0)) (.ix (.var 2) (.var 1))) (.cons (.bi2 .max2 (.ix (.var 2) (.var 0)) (.ix (.var 2) (.var 1))) .nil))) (.many [0,1]) (.seq (.var 1)) .no 2 [6]) (Rp ns (.own (Wl.map pr)) (.val (.int c)) s3 s4 (.val (.int k)) (.val (lsD P)) .no .no .no .no .no)=ya (.lst (K.map pr),.fresh):=by
  have:=zak (cl:=cl) (ρ:=Rp ns (.own (Wl.map pr)) (.val (.int c)) s3 s4 (.val (.int k)) (.val (lsD P)) .no .no .no .no .no) (e:=.tup (.cons (.bi2 .min2 (.ix (.var 2) (.var 0)) (.ix (.var 2) (.var 1))) (.cons (.bi2 .max2 (.ix (.var 2) (.var 0)) (.ix (.var 2) (.var 1))) .nil))) (t:=.many [0,1]) (it:=.seq (.var 1)) (n:=2) (keep:=[6]) (b:=yl) pr (λq=>pr (ren P q)) (l:=Wl) rfl λq hq=>by
   obtain⟨i1,i2,i3⟩:=hin q hq;have ha:=ix q.1 i1 (by lia);have hb:=ix q.2 (by lia) i3;have ea:ev cl (.ix (.var 2) (.var 0)) [.val (.int q.1),.val (.int q.2),.val (lsD P)]=ya (.int (nm P q.1),.solid):=zbd (f:=.solid) (g:=.solid) rfl rfl ha;have eb:ev cl (.ix (.var 2) (.var 1)) [.val (.int q.1),.val (.int q.2),.val (lsD P)]=ya (.int (nm P q.2),.solid):=zbd (f:=.solid) (g:=.solid) rfl rfl hb;refine⟨[.val (.int q.1),.val (.int q.2),.val (lsD P)],(pr (ren P q),.solid),rfl,zea (ds:=[.int (mn (nm P q.1) (nm P q.2)),.int (mx (nm P q.1) (nm P q.2))]) (zc ?_ (zc ?_ zi)) (show 2<=4000 by decide),rfl⟩
   ·rw[PY.zja,ea,ye,eb];rfl
   ·rw[PY.zja,ea,ye,eb];rfl
  rw[show K.map pr=Wl.map λq=>pr (ren P q)by rw[qu];rfl];exact this
 have hcut:evi cl (.seq (.sl (.var 0) (.so (.con (.int 6))) (.so (.con (.int 14))))) (Rp ns (.own (Wl.map pr)) (.val (.int c)) s3 s4 (.val (.int k)) (.val (lsD P)) .no .no (.own (K.map pr)) (.own (K.map pr)) .no)=ya ((cutL ns (ya 6) (ya 14)).map D.int,yi):=by
  rw[← zec];rfl
 have cl8:(cutL ns (ya 6) (ya 14)).length<=14:=by
  unfold cutL;rw[x3];refine xh (yay _ _) (xh (Nat.sub_le _ _) ?_);show(if(14:Int)<0 then((14:Int)+(ns.length:Int)).toNat else min (14:Int).toNat ns.length)<=14;rw[if_neg (by decide)];exact yay _ _
 refine zKK λγ κ=>?_;obtain⟨F,s7,s8,s11,e5,a1,a2,a3⟩:=zqh (cl:=cl) (W:=W) h14 ns _ (c:=c) (k:=k) (n:=c+k) (K:=K) (by lia) (by lia) knot.sim.nd hKin (by lia) hcut;refine κ ?_;have l1:(K++F).length<64:=by rw[yu];lia
 have l2:K.length<64:=by lia
 refine⟨c+k,srtP (K++F),srtP K,⟨zj4 a1,zj4 knot.sim.nd,λe he=>(z9 _).mem_iff.mpr (jf _ ((z9 _).mem_iff.mp he)),λe he=>a2 e ((z9 _).mem_iff.mp he),by lia,?_,?_,?_,knot.perm (z9 _).symm⟩,?_⟩
 ·rw[(z9 _).length_eq,yu];lia
 ·rw[(z9 _).length_eq];lia
 ·rw[(z9 _).length_eq];lia
 ·rw[ze e1,ze (show ex cl W (.asg (.one 5) (.bin .mod (.call 13 (.cons (.var 0) (.cons (.con (.int 3)) .nil))) (.con (.int 3)))) _=ya (.nx (Rp ns (.own (Wl.map pr)) (.val (.int c)) s3 s4 (.val (.int k)) .no .no .no .no .no .no))from z7 e2 rfl),ze e3]
  rw[ze (zo (r:=(_,.fresh)) (ρ':=Rp ns (.own (Wl.map pr)) (.val (.int c)) s3 s4 (.val (.int k)) (.val (lsD P)) .no .no (.own (K.map pr)) .no .no) e4 rfl)];rw[ze (zo (r:=(.lst (K.map pr),.fresh)) (ρ':=Rp ns (.own (Wl.map pr)) (.val (.int c)) s3 s4 (.val (.int k)) (.val (lsD P)) .no .no (.own (K.map pr)) (.own (K.map pr)) .no) rfl rfl)];rw[ze e5];refine zn ?_;rw[PY.zu];refine z6 (fl:=.solid) (zea (zc (x:=netD (c+k) (srtP (K++F))) (zea (ds:=[.int ((c+k:Nat):Int),.tup ((srtP (K++F)).map pr)]) (zc (by rw[ydy];rfl) (zc ?_ zi)) (show 2<=4000 by decide)) (zc ?_ zi)) (show 2<=4000 by decide))
  ·exact zr (f:=.fresh) (x:=.lst ((srtP (K++F)).map pr)) (zr (f:=.peek) (x:=.lst ((K++F).map pr)) rfl (zcx l1)) rfl
  ·exact zr (f:=.fresh) (x:=.lst ((srtP K).map pr)) (zr (f:=.peek) (x:=.lst (K.map pr)) rfl (zcx l2)) rfl
theorem zl0(P:List Int)(B:List Dt):B.map (ren P)=bT (nm P) B:=x9 λe _=>zeo P e
include h13 h14 in
theorem m16(h15:∀(ns:List Int) (n:Nat),n<=12->∃P:List Int,P.Perm (rngI n)/\cl 15 [scr ns,.int n]=ya (lsD P))(ns:List Int):∃n es kn,Plant n es kn/\runF cl W f16 [scr ns]=ya (.tup [netD n es,.tup (kn.map pr)]):=by
 have c1:evT cl (.cmp .eq (.bin .mod (.call 13 (.cons (.var 0) (.cons (.con (.int 0)) .nil))) (.con (.int 2))) (.con (.int 1))) (Rp ns (.own (K5.map pr)) (.val (.int 5)) .no .no .no .no .no .no .no .no .no)=ya (decide (ns.getD 0 0 % 2=1)) :=
  zm (f:=.solid) (g:=.solid) (zgg h13 ns 0 2 (by decide) rfl) rfl (zes _ _)
 have inj:∀{n m:Nat} {P:List Int},Nam n P->m<=n->∀a b:Int,0<=a->a<m->0<=b->b<m->nm P a=nm P b->a=b:=λ{n m P} h hm a b h1 h2 h3 h4 z=>by
  have:=h.inj a.toNat b.toNat (by lia) (by lia) z;lia
 have start:∀v,exs cl W f16.body (Rp ns .no .no .no .no .no .no .no .no .no .no .no)=ya (.rt v)->runF cl W f16 [scr ns]=ya v:=λv h=>z5 ⟨rfl,by decide⟩ h
 by_cases h:ns.getD 0 0 % 2=1
 ·obtain⟨n,es,kn,pl,e⟩:=zq8 (cl:=cl) (W:=W) h13 h14 h15 ns (m:=6) (B:=K33) (by decide) (by decide) (by decide) λn P hP hm=>by
   rw[zl0];refine kn33 λa ha b hb z=>inj hP hm a b ?_ ?_ ?_ ?_ z <;> simp at ha hb <;> lia
  refine⟨n,es,kn,pl,start _ ?_⟩;simp only[f16];rw[ze (zo (r:=(.lst (K5.map pr),.fresh)) (ρ':=Rp ns (.own (K5.map pr)) .no .no .no .no .no .no .no .no .no .no) rfl rfl)];rw[ze (z7 (d:=.int 5) (ρ':=Rp ns (.own (K5.map pr)) (.val (.int 5)) .no .no .no .no .no .no .no .no .no) rfl rfl)]
  rw[ze (ρ':=Rp ns (.own (K33.map pr)) (.val (.int 6)) .no .no .no .no .no .no .no .no .no) (by
   rw[zdh c1,decide_eq_true h,if_pos rfl];rw[ze (zo (r:=(.lst (K33.map pr),.fresh)) (ρ':=Rp ns (.own (K33.map pr)) (.val (.int 5)) .no .no .no .no .no .no .no .no .no) rfl rfl)];exact ze (z7 (d:=.int 6) rfl rfl))]
  exact e
 ·obtain⟨n,es,kn,pl,e⟩:=zq8 (cl:=cl) (W:=W) h13 h14 h15 ns (m:=5) (B:=K5) (by decide) (by decide) (by decide) λn P hP hm=>by
   rw[zl0];refine kn5 λa ha b hb z=>inj hP hm a b ?_ ?_ ?_ ?_ z <;> simp at ha hb <;> lia
  refine⟨n,es,kn,pl,start _ ?_⟩;simp only[f16];rw[ze (zo (r:=(.lst (K5.map pr),.fresh)) (ρ':=Rp ns (.own (K5.map pr)) .no .no .no .no .no .no .no .no .no .no) rfl rfl)];rw[ze (z7 (d:=.int 5) (ρ':=Rp ns (.own (K5.map pr)) (.val (.int 5)) .no .no .no .no .no .no .no .no .no) rfl rfl)];rw[ze (zax (by rw[c1,decide_eq_false h]))];exact e
end
theorem cat_tup{a b:List D}(h:a.length+b.length<=4000):binop .add (.tup a) (.tup b)=ya (.tup (a++b),.solid):=if_pos h
theorem zsb{l:List Dt}(h:Up l)(j:Nat):Up (l.take j++l.drop (j+1)):=by
 refine h.sublist ?_
 conv=>rhs;rw[← yac j l]
 refine List.Sublist.append (List.Sublist.refl _) ?_;rw[← List.drop_drop];exact yek _ _
section
variable {cl:Nat→List D→Option D} {W:Nat}
noncomputable abbrev Rt (x y z:D) (s3 s4 s5:Sl):Rho:=[.val x,.val y,.val z,s3,s4,s5]
noncomputable abbrev tpD (l:List Dt):D:=.tup (l.map pr)
theorem m20{n:Nat}{es kn:List Dt}(p:Plant n es kn)(z:Int):∃T,runF cl W f20 [netD n es,tpD kn,.int z]=ya (tpD T)/\Up T/\∀e∈T,e∈es:=by
 have hk:=p.kl;have k9:=p.k9;have ha:0<=z / 12 % (kn.length:Int)/\z / 12 % (kn.length:Int)<kn.length:=⟨we _ (by lia),jt _ (by lia)⟩;obtain⟨j,hj⟩:∃j:Nat,z / 12 % (kn.length:Int)=(j:Int):=⟨(z / 12 % (kn.length:Int)).toNat,by lia⟩;let ot:=es.filter λe=>!memP e kn
 have hot:ot.length<=30:=xh (jk _ _) p.len;have uo:Up ot:=p.ue.sublist yea
 have so:∀e∈ot,e∈es/\e∉kn:=λe he=>by
  obtain⟨h1,h2⟩:=qa.mp he;refine⟨h1,λz=>?_⟩;rw[zc0.mpr z]at h2;cases h2
 let A:=kn.take j++kn.drop (j+1)
 have uA:Up A:=zsb p.uk j
 have sA:∀e∈A,e∈kn:=λe he=>by
  rcases qt.mp he with k | k
  ·exact w6 k
  ·exact yae k
 have hA:A.length<=30:=by
  show(kn.take j++kn.drop (j+1)).length<=30;rw[yu,x3,wk];lia
 have nd:∀{l:List Dt},Up l->(∀e∈l,e∈kn)->(l++ot.take 1).Nodup:=λ{l} hu hs=>by
  rw[wq];refine⟨zcz hu,(zcz uo).sublist (ycz _ _),λa ha b hb e=>?_⟩;subst e;exact(so a (w6 hb)).2 (hs a ha)
 have l1:(ot.take 1).length<=1:=by rw[x3];exact yay _ _
 let Z:List (List Dt):=[kn,A,srtP (A++ot.take 1),srtP (kn++ot.take 1),es,ot,[],kn]
 have hZ:∀T∈Z,Up T/\∀e∈T,e∈es:=by
  intro T hT;simp only[Z,yn,jb,or_false]at hT
  have sub:∀{l:List Dt},(∀e∈l,e∈kn)->∀e∈srtP (l++ot.take 1),e∈es:=λ{l} hs e he=>by
   rcases qt.mp ((z9 _).mem_iff.mp he)with k | k
   ·exact p.sub e (hs e k)
   ·exact(so e (w6 k)).1
  rcases hT with rfl | rfl | rfl | rfl | rfl | rfl | rfl | rfl
  ·exact⟨p.uk,p.sub⟩
  ·exact⟨uA,λe he=>p.sub e (sA e he)⟩
  ·exact⟨zj4 (nd uA sA),sub sA⟩
  ·exact⟨zj4 (nd p.uk λ_ h=>h),sub λ_ h=>h⟩
  ·exact⟨p.ue,λ_ h=>h⟩
  ·exact⟨uo,λe he=>(so e he).1⟩
  ·exact⟨List.Pairwise.nil,λe he=>by cases he⟩
  ·exact⟨p.uk,p.sub⟩
 have h8:0<=z % 8/\z % 8<8:=⟨we _ (by decide),jt _ (by decide)⟩;obtain⟨q,hq⟩:∃q:Nat,z % 8=(q:Int):=⟨(z % 8).toNat,by lia⟩;obtain⟨T,hT⟩:∃T,Z[q]? = ya T:=⟨Z[q]'(by show q<8;lia),yc _⟩;refine⟨T,?_,hZ T (xk hT)⟩
 have e1:ev cl (.bin .mod (.bin .fdiv (.var 2) (.con (.int 12))) (.bi .len (.var 1))) (Rt (netD n es) (tpD kn) (.int z) .no .no .no)=ya (.int (j:Int),.solid):=by
  rw[← hj];refine z8 (f:=.solid) (g:=.solid) (x:=.int (z / 12)) (y:=.int (kn.length:Int)) rfl (zr (f:=.solid) (x:=tpD kn) rfl ?_) (zll _ _ (by lia));rw[zim,yd]
 have e2:ev cl (.comp (.var 0) (.one 0) (.seq (.ix (.var 0) (.con (.int 1)))) (.so (.cmp .notin (.var 0) (.var 1))) 1 [1]) (Rt (netD n es) (tpD kn) (.int z) (.val (.int j)) .no .no)=ya (.lst (ot.map pr),.fresh) :=
  z0 pr (λe=>!memP e kn) pr (b:=yi) (zt (x:=tpD es) (zbd (f:=.solid) (g:=.solid) rfl rfl rfl) rfl) λe _=>⟨[.val (pr e),.val (tpD kn)],rfl,zm (f:=.solid) (g:=.solid) (x:=pr e) (y:=tpD kn) rfl rfl (zqw e kn),λ_=>⟨_,rfl,rfl⟩⟩
 let R:Sl->Rho:=λs5=>Rt (netD n es) (tpD kn) (.int z) (.val (.int j)) (.own (ot.map pr)) s5
 have eA:∀s5,ev cl (.bin .add (.sl (.var 1) .no (.so (.var 3))) (.sl (.var 1) (.so (.bin .add (.var 3) (.con (.int 1)))) .no)) (R s5)=ya (tpD A,.solid):=λs5=>by
  refine z8 (f:=.solid) (g:=.solid) (x:=.tup ((kn.take j).map pr)) (y:=.tup ((kn.drop (j+1)).map pr)) (zo3 (f:=.solid) (l:=yk) (h:=ya (j:Int)) (x:=tpD kn) rfl rfl rfl ?_) (zo3 (f:=.solid) (l:=ya ((j:Int)+1)) (h:=yk) (x:=tpD kn) rfl rfl rfl ?_) ?_
  ·show ya (D.tup (cutL (kn.map pr) yk (ya (j:Int))),Fl.solid)=_
   rw[zec,zfv]
  ·show ya (D.tup (cutL (kn.map pr) (ya ((j:Int)+1)) yk),Fl.solid)=_
   rw[show(j:Int)+1=((j+1:Nat):Int)by lia,zec,zkm]
  ·rw[cat_tup (by
    rw[yd,yd];have:(kn.take j).length<=kn.length:=by rw[x3];exact yer _ _
    have:(kn.drop (j+1)).length<=kn.length:=by rw[wk];exact Nat.sub_le _ _
    lia),← qb]
 have eo:∀s5,ev cl (.bi .tuple (.sl (.var 4) .no (.so (.con (.int 1))))) (R s5)=ya (tpD (ot.take 1),.solid):=λs5=>by
  refine zr (f:=.fresh) (x:=.lst ((ot.take 1).map pr)) (zo3 (f:=.peek) (l:=yk) (h:=ya 1) (x:=.lst (ot.map pr)) rfl rfl rfl ?_) rfl;show ya (D.lst (cutL (ot.map pr) yk (ya ((1:Nat):Int))),Fl.fresh)=_;rw[zec,zfv]
 have es1:∀{s5:Sl} {e:E} {l:List Dt},ev cl e (R s5)=ya (tpD l,.solid)->l.length<=30->ev cl (.bi .tuple (.bi .sorted (.bin .add e (.bi .tuple (.sl (.var 4) .no (.so (.con (.int 1)))))))) (R s5)=ya (tpD (srtP (l++ot.take 1)),.solid):=λ{s5 e l} he hl=>by
  refine zr (f:=.fresh) (x:=.lst ((srtP (l++ot.take 1)).map pr)) (zr (f:=.solid) (x:=tpD (l++ot.take 1)) (z8 (f:=.solid) (g:=.solid) he (eo s5) ?_) (zcx (by rw[yu];lia))) rfl;rw[cat_tup (by rw[yd,yd];lia),← qb]
 have e3:ev cl (.lst (.cons (.var 1) (.cons (.bin .add (.sl (.var 1) .no (.so (.var 3))) (.sl (.var 1) (.so (.bin .add (.var 3) (.con (.int 1)))) .no)) (.cons (.bi .tuple (.bi .sorted (.bin .add (.bin .add (.sl (.var 1) .no (.so (.var 3))) (.sl (.var 1) (.so (.bin .add (.var 3) (.con (.int 1)))) .no)) (.bi .tuple (.sl (.var 4) .no (.so (.con (.int 1)))))))) .nil)))) (R .no)=ya (.lst [tpD kn,tpD A,tpD (srtP (A++ot.take 1))],.fresh) :=
  zgo (zc rfl (zc (eA _) (zc (es1 (eA _) hA) zi))) (show 3<=4000 by decide)
 have e4:ev cl (.bin .add (.var 5) (.lst (.cons (.bi .tuple (.bi .sorted (.bin .add (.var 1) (.bi .tuple (.sl (.var 4) .no (.so (.con (.int 1)))))))) (.cons (.ix (.var 0) (.con (.int 1))) (.cons (.bi .tuple (.var 4)) (.cons (.tup .nil) (.cons (.var 1) .nil))))))) (R (.own [tpD kn,tpD A,tpD (srtP (A++ot.take 1))]))=ya (.lst (Z.map tpD),.fresh) :=
  z8 (f:=.peek) (g:=.fresh) (x:=.lst [tpD kn,tpD A,tpD (srtP (A++ot.take 1))]) (y:=.lst [tpD (srtP (kn++ot.take 1)),tpD es,tpD ot,tpD [],tpD kn]) rfl (zgo (zc (es1 rfl hk) (zc rfl (zc rfl (zc rfl (zc rfl zi))))) (show 5<=4000 by decide)) rfl
 refine z5 ⟨rfl,by decide⟩ ?_;show exs cl W f20.body (Rt (netD n es) (tpD kn) (.int z) .no .no .no)=_;simp only[f20];rw[ze (z7 (ρ':=Rt (netD n es) (tpD kn) (.int z) (.val (.int j)) .no .no) e1 rfl)];rw[ze (zo (r:=(_,.fresh)) (ρ':=R .no) e2 rfl)];rw[ze (zo (r:=(_,.fresh)) (ρ':=R (.own [tpD kn,tpD A,tpD (srtP (A++ot.take 1))])) e3 rfl)];rw[ze (zo (r:=(_,.fresh)) (ρ':=R (.own (Z.map tpD))) e4 rfl)];refine zn (z6 (fl:=.solid) (zbd (f:=.peek) (g:=.solid) (x:=.lst (Z.map tpD)) (y:=.int (q:Int)) rfl ?_ (zj2 tpD hT)));rw[← hq];exact z8 (f:=.solid) (g:=.solid) (x:=.int z) (y:=.int 8) rfl rfl (zll _ _ (by decide))
end
theorem zbn{n:Nat}{T:List Dt}(h:∀e∈T,0<=e.1/\e.1<e.2/\e.2<(n:Int)):Within n T:=λv hv=>by
 obtain⟨x,hx⟩:=va (l:=near T v) (by show 0<(near T v).length;have:(near T v).length≠0:=hv;lia);rcases K05.za0.mp hx with k | k
 ·have:=h _ k;exact⟨v.toNat,by simp only at this;lia,by simp only at this;lia⟩
 ·have:=h _ k;exact⟨v.toNat,by simp only at this;lia,by simp only at this;lia⟩
theorem zbs{n:Nat}{T:List Dt}(u:Up T)(h:∀e∈T,0<=e.1/\e.1<e.2/\e.2<(n:Int)):Simple T:=⟨zcz u,λe he=>(h e he).2.1⟩
noncomputable abbrev rg (n:Nat):List Dt:=[((n:Int),(n:Int)+1),((n:Int),(n:Int)+2),((n:Int)+1,(n:Int)+2)]
theorem zpb{n:Nat}{T:List Dt}(u:Up T)(h:∀e∈T,0<=e.1/\e.1<e.2/\e.2<(n:Int)):Up (T++rg n):=by
 have lt1:∀{a b:Dt},a.1<b.1->ltP a b=yl:=λ{a b} k=>by
  unfold ltP lexLt;rw[if_neg (by simp;lia)];exact decide_eq_true k
 have lt2:∀{a b:Dt},a.1=b.1->a.2<b.2->ltP a b=yl:=λ{a b} k l=>by
  unfold ltP lexLt;rw[if_pos (by simp[k])];unfold lexLt;rw[if_neg (by simp;lia)];exact decide_eq_true l
 refine yb3.mpr ⟨u,?_,λa ha b hb=>?_⟩
 ·refine .cons (λb hb=>?_) (.cons (λb hb=>?_) (.cons (λb hb=>by cases hb) .nil))
  ·simp only[yn,jb,or_false]at hb
   rcases hb with rfl | rfl
   ·exact lt2 rfl (by show(n:Int)+1<n+2;lia)
   ·exact lt1 (by show(n:Int)<n+1;lia)
  ·simp only[yn,jb,or_false]at hb
   subst hb;exact lt1 (by show(n:Int)<n+1;lia)
 ·have:=h a ha
  simp only[yn,jb,or_false]at hb;rcases hb with rfl | rfl | rfl
  ·exact lt1 (by show a.1<(n:Int);lia)
  ·exact lt1 (by show a.1<(n:Int);lia)
  ·exact lt1 (by show a.1<(n:Int)+1;lia)
theorem zi9{n:Nat}{T:List Dt}(h:∀e∈T,0<=e.1/\e.1<e.2/\e.2<(n:Int)):∀e∈T++rg n,0<=e.1/\e.1<e.2/\e.2<((n+3:Nat):Int):=λe he=>by
 rcases qt.mp he with k | k
 ·have:=h e k;lia
 ·simp only[yn,jb,or_false]at k
  rcases k with rfl | rfl | rfl <;> simp only <;> lia
section
variable {cl:Nat→List D→Option D} {W:Nat}
theorem m5no{d x:D}(h3:cl 3 [d]=ya (.bl yi)):runF cl W f5 [d,x]=ya (.bl yi):=by
 refine z5 ⟨rfl,by decide⟩ (zn (z6 (fl:=.solid) ?_));rw[PY.za9,zl (zc rfl zi) h3];rfl
noncomputable abbrev Rw (ns:List Int) (s1 s2 s3 s4 s5 s6 s7:Sl):Rho:=[.val (scr ns),s1,s2,s3,s4,s5,s6,s7]
theorem m21{ns:List Int}{n:Nat}{es kn T:List Dt}{b:Bool}(p:Plant n es kn)(h16:cl 16 [scr ns]=ya (.tup [netD n es,tpD kn]))(h13:∀k:Nat,cl 13 [scr ns,.int k]=ya (.int (ns.getD k 0)))(h20:cl 20 [netD n es,tpD kn,.int (ns.getD 5 0)]=ya (tpD T))
  (h12:cl 12 [tpD T,netD n es]=ya (.bl b)) (h19:cl 19 [tpD T,netD n es]=ya (.bl b)) (hr:cl 12 [tpD (kn++rg n),netD (n+3) (es++rg n)]=ya (.bl yi)) (ht:cl 12 [tpD kn,netD (n+3) (es++rg n)]=ya (.bl yl))
  (hst:∀d∈[D.lst (kn.map pr),tpD kn.reverse,tpD (kn++kn.take 1),.non,.int 7,.tup [.str "knot",tpD kn],tpD (kn++[(0,0)]),.str "knot"],cl 12 [d,netD n es]=ya (.bl yi)):runF cl W f21 [scr ns]=ya (.bl yl):=by
 have c1:ex cl W (.frz [0] (.asg (.many [1,2]) (.call 16 (.cons (.var 0) .nil)))) (Rw ns .no .no .no .no .no .no .no)=ya (.nx (Rw ns (.val (netD n es)) (.val (tpD kn)) .no .no .no .no .no)):=by
  rw[PY.zu];exact z7 (zl (zc rfl zi) h16) rfl
 have c2:ex cl W (.frz [1,2] (.asg (.one 3) (.call 20 (.cons (.var 1) (.cons (.var 2) (.cons (.call 13 (.cons (.var 0) (.cons (.con (.int 5)) .nil))) .nil)))))) (Rw ns (.val (netD n es)) (.val (tpD kn)) .no .no .no .no .no)=ya (.nx (Rw ns (.val (netD n es)) (.val (tpD kn)) (.val (tpD T)) .no .no .no .no)):=by
  rw[PY.zu];exact z7 (zl (zc rfl (zc rfl (zc (zl (zc rfl (zc rfl zi)) (h13 5)) zi))) h20) rfl
 have c3:ex cl W (.frz [3,1] (.asg (.one 4) (.call 12 (.cons (.var 3) (.cons (.var 1) .nil))))) (Rw ns (.val (netD n es)) (.val (tpD kn)) (.val (tpD T)) .no .no .no .no)=ya (.nx (Rw ns (.val (netD n es)) (.val (tpD kn)) (.val (tpD T)) (.val (.bl b)) .no .no .no)):=by
  rw[PY.zu];exact z7 (zl (zc rfl (zc rfl zi)) h12) rfl
 have c4:evT cl (.or (.not (.isi (.var 4) .bool)) (.cmp .ne (.var 4) (.call 19 (.cons (.var 3) (.cons (.var 1) .nil))))) (Rw ns (.val (netD n es)) (.val (tpD kn)) (.val (tpD T)) (.val (.bl b)) .no .no .no)=ya yi:=by
  refine zfi (p:=yi) (q:=yi) rfl (zm (f:=.solid) (g:=.solid) (x:=.bl b) rfl (zl (zc rfl (zc rfl zi)) h19) ?_);show ya (!(b==b))=_;rw[beq_self_eq_true];rfl
 have c5:ev cl (.tup (.cons (.tup (.cons (.ix (.var 1) (.con (.int 0))) (.cons (.bin .add (.ix (.var 1) (.con (.int 0))) (.con (.int 1))) .nil))) (.cons (.tup (.cons (.ix (.var 1) (.con (.int 0))) (.cons (.bin .add (.ix (.var 1) (.con (.int 0))) (.con (.int 2))) .nil))) (.cons (.tup (.cons (.bin .add (.ix (.var 1) (.con (.int 0))) (.con (.int 1))) (.cons (.bin .add (.ix (.var 1) (.con (.int 0))) (.con (.int 2))) .nil))) .nil)))) (Rw ns (.val (netD n es)) (.val (tpD kn)) (.val (tpD T)) (.val (.bl b)) .no .no .no)=ya (tpD (rg n),.solid):=rfl;let R:Sl->Sl->Rho:=λs6 s7=>Rw ns (.val (netD n es)) (.val (tpD kn)) (.val (tpD T)) (.val (.bl b)) (.val (tpD (rg n))) s6 s7
 have el:=p.len;have kl:=p.kl
 have cat:∀l:List Dt,l.length<=40->binop .add (tpD l) (tpD (rg n))=ya (tpD (l++rg n),.solid):=λl hl=>by
  rw[cat_tup (by rw[yd,yd];show l.length+3<=4000;lia),← qb]
 have c6:∃s6,ex cl W (.cond (.and (.cmp .le (.ix (.var 1) (.con (.int 0))) (.con (.int 9))) (.cmp .le (.bi .len (.ix (.var 1) (.con (.int 1)))) (.con (.int 37))))
   (.cons (.asg (.one 6) (.tup (.cons (.bin .add (.ix (.var 1) (.con (.int 0))) (.con (.int 3))) (.cons (.bin .add (.ix (.var 1) (.con (.int 1))) (.var 5)) .nil))))
   (.cons (.cond (.or (.cmp .notC (.call 12 (.cons (.bin .add (.var 2) (.var 5)) (.cons (.var 6) .nil))) (.con (.bl yi))) (.cmp .notC (.call 12 (.cons (.var 2) (.cons (.var 6) .nil))) (.con (.bl yl)))) (.cons (.ret (.con (.bl yi))) .nil) .nil) .nil)) .nil) (R .no .no)=ya (.nx (R s6 .no)):=by
  have q:∃k,evT cl (.and (.cmp .le (.ix (.var 1) (.con (.int 0))) (.con (.int 9))) (.cmp .le (.bi .len (.ix (.var 1) (.con (.int 1)))) (.con (.int 37)))) (R .no .no)=ya k:=⟨_,zje (zm (f:=.solid) (g:=.solid) (x:=.int n) (y:=.int 9) rfl rfl rfl) (zm (f:=.solid) (g:=.solid) (y:=.int 37) (zr (f:=.solid) (x:=tpD es) rfl (zim _)) rfl rfl)⟩;obtain⟨k,q⟩:=q;cases k with
  | false=>exact⟨.no,zax q⟩
  | true =>
   refine⟨.val (netD (n+3) (es++rg n)),?_⟩;rw[zdh q,if_pos rfl];rw[ze (z7 (ρ':=R (.val (netD (n+3) (es++rg n))) .no) (zea (ds:=[.int ((n+3:Nat):Int),tpD (es++rg n)]) (zc (by rw[ydy];rfl) (zc (z8 (f:=.solid) (g:=.solid) (x:=tpD es) (y:=tpD (rg n)) rfl rfl (cat es (by lia))) zi)) (show 2<=4000 by decide)) rfl)];refine ze (zax (zfi (p:=yi) (q:=yi) ?_ ?_))
   ·exact zm (f:=.solid) (g:=.solid) (zl (zc (z8 (f:=.solid) (g:=.solid) (x:=tpD kn) (y:=tpD (rg n)) rfl rfl (cat kn (by lia))) (zc rfl zi)) hr) rfl rfl
   ·exact zm (f:=.solid) (g:=.solid) (zl (zc rfl (zc rfl zi)) ht) rfl rfl
 obtain⟨s6,c6⟩:=c6
 have c7:ev cl (.lst (.cons (.bi .list (.var 2)) (.cons (.bi .revT (.var 2)) (.cons (.bin .add (.var 2) (.sl (.var 2) .no (.so (.con (.int 1))))) (.cons (.con .non) (.cons (.con (.int 7)) (.cons (.tup (.cons (.con (.str "knot")) (.cons (.var 2) .nil))) (.cons (.bin .add (.var 2) (.tup (.cons (.tup (.cons (.con (.int 0)) (.cons (.con (.int 0)) .nil))) .nil))) (.cons (.con (.str "knot")) .nil))))))))) (R s6 .no)
   = ya (.lst [D.lst (kn.map pr),tpD kn.reverse,tpD (kn++kn.take 1),.non,.int 7,.tup [.str "knot",tpD kn],tpD (kn++[(0,0)]),.str "knot"],.fresh):=by
  refine zgo (zgt rfl (zc ?_ (zc ?_ (zc rfl (zc rfl (zc rfl (zc ?_ (zc rfl zi)))))))) (show 8<=4000 by decide)
  ·refine zr (f:=.solid) (x:=tpD kn) rfl ?_
   show ya (D.tup (kn.map pr).reverse,Fl.solid)=_;rw[← List.map_reverse]
  ·refine z8 (f:=.solid) (g:=.solid) (x:=tpD kn) (y:=tpD (kn.take 1)) rfl (zo3 (f:=.solid) (l:=yk) (h:=ya 1) (x:=tpD kn) rfl rfl rfl ?_) ?_
   ·show ya (D.tup (cutL (kn.map pr) yk (ya ((1:Nat):Int))),Fl.solid)=_
    rw[zec,zfv]
   ·rw[cat_tup (by
     rw[yd,yd];have:(kn.take 1).length<=1:=by rw[x3];exact yay _ _
     lia),← qb]
  ·refine z8 (f:=.solid) (g:=.solid) (x:=tpD kn) (y:=tpD [(0,0)]) rfl rfl ?_
   rw[cat_tup (by rw[yd];show kn.length+1<=4000;lia),← qb]
 have h8:0<=ns.getD 14 0 % 8/\ns.getD 14 0 % 8<8:=⟨we _ (by decide),jt _ (by decide)⟩;obtain⟨q,hq⟩:∃q:Nat,ns.getD 14 0 % 8=(q:Int):=⟨(ns.getD 14 0 % 8).toNat,by lia⟩;generalize hZ:[D.lst (kn.map pr),tpD kn.reverse,tpD (kn++kn.take 1),.non,.int 7,.tup [.str "knot",tpD kn],tpD (kn++[(0,0)]),.str "knot"]=Z at hst c7;have hZ8:Z.length=8:=by rw[← hZ];rfl
 obtain⟨d,hd⟩:∃d,Z[q]? = ya d:=⟨Z[q]'(by lia),yc _⟩
 have c8:ev cl (.ix (.var 7) (.bin .mod (.call 13 (.cons (.var 0) (.cons (.con (.int 14)) .nil))) (.con (.int 8)))) (R s6 (.own Z))=ya (d,.solid):=by
  refine zbd (f:=.peek) (g:=.solid) (x:=.lst Z) (y:=.int (q:Int)) rfl ?_ ?_
  ·rw[← hq]
   exact z8 (f:=.solid) (g:=.solid) (zl (zc rfl (zc rfl zi)) (h13 14)) rfl (zll _ _ (by decide))
  ·have:=zj2 (λd:D=>d) hd
   rw[ycg]at this;exact this
 refine z5 ⟨rfl,by decide⟩ ?_;show exs cl W f21.body (Rw ns .no .no .no .no .no .no .no)=_;simp only[f21];rw[ze c1,ze c2,ze c3,ze (zax c4),ze (z7 (ρ':=R .no .no) c5 rfl),ze c6,ze (zo (r:=(_,.fresh)) (ρ':=R s6 (.own Z)) c7 rfl)];exact zn (z6 (fl:=.solid) (zb2 (f:=.solid) (g:=.solid) (x:=.bl yi) (y:=.bl yi) (zl (zc c8 (zc rfl zi)) (hst d (xk hd))) rfl rfl))
end
noncomputable abbrev W:Nat:=101
theorem st{k i:Nat}{as:List D}{f:Fn}{d:D}(h:fns[i]? = ya f)(hr:runF (run fns W k) W f as=ya d):run fns W (k+1) i as=ya d:=by
 show(fns[i]?).bind _=_;rw[h];exact hr
theorem r0(k:Nat)(d:D):run fns W (k+1) 0 [d]=ya (.bl (isWhole d)):=st (f:=f0) rfl (K01.m0 d)
theorem r1(k:Nat)(d:D):run fns W (k+2) 1 [d]=ya (.bl (areWhole d)):=st (f:=f1) rfl (K01.m1 (r0 k) d)
theorem r2(k:Nat)(d:D):run fns W (k+3) 2 [d]=ya (.bl (isPair d)):=st (f:=f2) rfl (K01.m2 (r1 k) d)
theorem r3(k:Nat)(d:D):run fns W (k+4) 3 [d]=ya (.bl (arePairs d)):=st (f:=f3) rfl (K01.m3 (r2 k) d)
theorem r4(k:Nat)(es:List Dt)(h:es.length<=1000):run fns W (k+1) 4 [tpD es]=ya (.bl (riseB es)):=st (f:=f4) rfl (K01.m4 es h)
theorem r5(k:Nat)(ss es:List Dt)(c:D)(h:ss.length<=1000):run fns W (k+5) 5 [tpD ss,.tup [c,tpD es]]=ya (.bl (edgesB ss es)):=st (f:=f5) rfl (K01.m6 (r3 k) (λes h=>r4 (k+3) es h) ss es c h)
theorem r5no(k:Nat)(d x:D)(h:arePairs d=yi):run fns W (k+5) 5 [d,x]=ya (.bl yi):=st (f:=f5) rfl (m5no (by rw[r3 k,h]))
theorem r6(k n:Nat)(es:List Dt)(p:Int)(h:es.length<=100):run fns W (k+1) 6 [netD n es,.int p]=ya (.lst (intL (near es p))):=st (f:=f6) rfl (m6 n es p h)
theorem r7(k n:Nat)(es:List Dt)(hn:n<=100)(h:es.length<=100):run fns W (k+2) 7 [netD n es]=ya (rowsD n es):=st (f:=f7) rfl (m7 (r6 k) n es hn h)
theorem r13(k:Nat)(ns:List Int)(j:Nat):run fns W (k+1) 13 [scr ns,.int j]=ya (.int (ns.getD j 0)):=st (f:=f13) rfl (K01.m7 ns j)
theorem r14(k:Nat)(a p m:Int)(hp:0<p)(hm:0<m):run fns W (k+1) 14 [.int a,.int p,.int m]=ya (.int (mix a p m)):=st (f:=f14) rfl (K01.m8 a p m hp hm)
theorem r12(k:Nat){n:Nat}{T es:List Dt}(u:Up T)(hin:∀e∈T,e∈es)(hT:∀e∈T,0<=e.1/\e.1<e.2/\e.2<(n:Int))(hn:n<=20)(hl:T.length<=60):∃b,run fns W (k+6) 12 [tpD T,netD n es]=ya (.bl b)/\(b=yl↔Prog n T):=by
 have hs:=zbs u hT;have hw:=zbn hT
 have he:edgesB T es=yl:=by
  unfold edgesB;rw[zm5 u,yb0];exact qo.mpr λe he=>zc0.mpr (hin e he)
 have L100:∀e,(near T e).length<=120:=λe=>xh (zjg T e) (by lia)
 have h9:run fns W (k+5) 9 [lsD (ends n T),rowsD n T]=ya (.lst ((Lw n T).map lsD)):=by
  refine st (k:=k+4) (f:=f9) rfl (m9 (λe he f hf=>?_) (λe he=>zcc.mp (qa.mp he).1) ?_)
  ·obtain⟨r,g,e1,h1,h2⟩:=znw hs hw he hf
   rw[e1];exact st (k:=k+3) (f:=f8) rfl (m8 (by decide) g (by lia) h2)
  ·rw[zf9]
   have:∀E:List Int,(E.map λe=>((near T e).map (wf T e)).length).sum<=E.length*120:=λE=>by
    induction E with
    | nil=>exact y6 _
    | cons x E ih =>
     rw[yo,xq,qf,yd];have:=L100 x;lia
   have h2:(ends n T).length<=n:=by
    unfold ends;refine xh (jk _ _) ?_;simp
   have:=this (ends n T);have:(ends n T).length*120<=20*120:=Nat.mul_le_mul_right _ (by lia);lia
 obtain⟨b,e,hb⟩:=m12 (cl:=run fns W (k+5)) (W:=W) (es:=es) hs hw (by lia) hl (by rw[r5 k T es _ (by lia),he]) (r7 (k+3) n T (by lia) (by lia)) h9 λh64 =>
  st (k:=k+4) (f:=f11) rfl (m11 λe=>st (k:=k+3) (f:=f10) rfl (m10 (λw hw'=>(zo5 hs hw hw').1) h64 e))
 exact⟨b,st (f:=f12) rfl e,hb⟩
theorem r12no(k:Nat){d x:D}(h:run fns W (k+5) 5 [d,x]=ya (.bl yi)):run fns W (k+6) 12 [d,x]=ya (.bl yi):=st (f:=f12) rfl (m12no h)
theorem zs5{a b:Bool}{p:Prop}(h1:a=yl↔p)(h2:b=yl↔p):a=b:=by
 cases a <;> cases b <;> simp_all
theorem zqy(ns:List Int)(k:Nat):run fns W (k+7) 21 [scr ns]=ya (.bl yl):=by
 obtain⟨n,es,kn,p,e16⟩:=m16 (cl:=run fns W (k+5)) (W:=W) (r13 (k+4)) (r14 (k+4)) (λns n hn=>by
  obtain⟨P,hP,e⟩:=m15 (cl:=run fns W (k+4)) (W:=W) (r13 (k+3)) (r14 (k+3)) ns n hn;exact⟨P,hP,st (f:=f15) rfl e⟩) ns
 obtain⟨T,e20,uT,sT⟩:=m20 (cl:=run fns W (k+5)) (W:=W) p (ns.getD 5 0);have hT:∀e∈T,0<=e.1/\e.1<e.2/\e.2<(n:Int):=λe he=>p.ein e (sT e he)
 have n11:=p.n11;have kl:=p.kl;have el:=p.len;have hkn:∀e∈kn,0<=e.1/\e.1<e.2/\e.2<(n:Int):=λe he=>p.ein e (p.sub e he)
 have tl:T.length<=60:=by
  have:∀(l m:List Dt),l.Nodup->(∀e∈l,e∈m)->l.length<=m.length:=λl=>by
   induction l with
   | nil=>intro m _ _;exact wm _
   | cons x l ih =>
    intro m nd hs;obtain⟨s,t,e⟩:=wg (hs x yg);obtain⟨n1,n2⟩:=xw.mp nd
    have:=ih (s++t) n2 λy hy=>by
     have h1:=hs y (yf _ hy);rw[e]at h1;rcases qt.mp h1 with z | z
     ·exact jf _ z
     ·rcases yn.mp z with z | z
      ·subst z;exact absurd hy n1
      ·exact qx _ z
    rw[e];simp at this ⊢;lia
  have:=this T es (zcz uT) sT;lia
 obtain⟨b,e12,hb⟩:=r12 k uT sT hT (by lia) tl
 obtain⟨b',e19,hb'⟩:=m19 (cl:=run fns W (k+5)) (W:=W) (es:=es) (zbs uT hT) uT sT (zbn hT) (by lia) tl (by
  obtain⟨v,e,sm⟩:=m18 (cl:=run fns W (k+4)) (W:=W) (by decide) (zbs uT hT) tl;exact⟨v,st (f:=f18) rfl e,sm⟩) λE h1 h2=>st (k:=k+4) (f:=f17) rfl (m17 h1 h2)
 have ebb:b'=b:=zs5 hb' hb;subst ebb;have sk:=zbs p.uk hkn;obtain⟨b1,e1,h1⟩:=r12 k (n:=n+3) (T:=kn++rg n) (es:=es++rg n) (zpb p.uk hkn) (λe he=>(qt.mp he).elim (λz=>jf _ (p.sub e z)) λz=>qx _ z) (zi9 hkn) (by lia) (by rw[yu];show kn.length+3<=60;lia)
 have f1:b1=yi:=by
  cases b1 with
  | false=>rfl
  | true =>
   obtain⟨S,C,f,c⟩:=p.knot.ring (zbn hkn);exact absurd (h1.mp rfl) (zm7 f (zbs (zpb p.uk hkn) (zi9 hkn)) (zbn (zi9 hkn)) c)
 subst f1;have hk3:∀e∈kn,0<=e.1/\e.1<e.2/\e.2<((n+3:Nat):Int):=λe he=>by have:=hkn e he;lia
 obtain⟨b2,e2,h2⟩:=r12 k (n:=n+3) (T:=kn) (es:=es++rg n) p.uk (λe he=>jf _ (p.sub e he)) hk3 (by lia) (by lia);have f2:b2=yl:=h2.mpr (p.knot.prog (zbn hk3));subst f2;refine st (f:=f21) rfl (m21 (cl:=run fns W (k+6)) (W:=W) p (st (f:=f16) rfl e16) (r13 (k+5) ns) (st (f:=f20) rfl e20) e12 (st (f:=f19) rfl e19) e1 e2 λd hd=>?_)
 obtain⟨a,a2,r,ekn⟩:∃a a2 r,kn=a::a2::r:=by
  have:=p.k9
  match kn,this with
  | a::b::r,_=>exact⟨a,b,r,rfl⟩
 have noE:∀ss:List Dt,ss.length<=1000->edgesB ss es=yi->run fns W (k+6) 12 [tpD ss,netD n es]=ya (.bl yi):=λss hl he=>r12no k (by rw[r5 k ss es _ hl,he])
 have noP:∀d:D,arePairs d=yi->run fns W (k+6) 12 [d,netD n es]=ya (.bl yi):=λd h=>r12no k (r5no k d _ h)
 simp only[yn,jb,or_false]at hd;rcases hd with rfl | rfl | rfl | rfl | rfl | rfl | rfl | rfl
 ·exact noP _ rfl
 ·refine noE _ (by rw[wa];lia) ?_
  unfold edgesB;have hu:=p.uk;rw[ekn]at hu ⊢;have lt:=(xj.mp hu).1 a2 yg;rw[show(a::a2::r).reverse=r.reverse++[a2,a]by simp,zbp (zkg lt)];rfl
 ·refine noE _ (by rw[yu,x3];lia) ?_
  unfold edgesB;have:=zlg (es:=kn) (e:=a) (r:=a2::r) ekn p.uk;rw[show kn.take 1=[a]by rw[ekn];rfl,this];rfl
 ·exact noP _ rfl
 ·exact noP _ rfl
 ·exact noP _ rfl
 ·refine noE _ (by rw[yu];show kn.length+1<=1000;lia) ?_
  unfold edgesB;rw[List.all_append]
  have:memP (0,0) es=yi:=by
   cases h:memP (0,0) es with
   | false=>rfl
   | true =>
    have:=p.ein _ (zc0.mp h);simp at this
  simp[this]
 ·exact noP _ rfl
open PY
theorem ztv:compileX [] PySem.Challenge.pw_planeyard_k12_what_is_a_knot=ya K12.fns:=by rfl
end K12
namespace K12E
open PySem L2 SD PY
noncomputable def top(i:Nat):Stmt:=PySem.Challenge.pw_planeyard_k12_what_is_a_knot.main.body.getD i (.Pass ⟨0,0,0,0⟩)
theorem tops:topDefs PySem.Challenge.pw_planeyard_k12_what_is_a_knot=[top 1,top 2,top 3,top 4,top 5,top 6,top 7,top 9,top 12,top 13,top 14,top 15,top 16,top 18,top 19,top 20,top 21,top 22,top 23,top 24,top 25,top 26]:=by rfl
theorem topc:topCons PySem.Challenge.pw_planeyard_k12_what_is_a_knot.main.body=[]:=by decide +kernel
theorem topt:topTabs PySem.Challenge.pw_planeyard_k12_what_is_a_knot.main.body=[(("SHAPES" : Str),[[4,4,4,4,4],[3,3,3,3,3,3]])]:=by decide +kernel
noncomputable def Df(K:Frag)(x:Str)(st:Stmt):Prop:=∃f kV dc pm an cd ct,yfm K xi x=ya (ya (.ref f))/\Fun K x x st f (fnOf x x (defArgs st) (defBody st) (defScope st) .none kV dc pm an cd ct)
theorem df{K:Frag}{x:Str}{st:Stmt}{f:yq}{od an:Option yq}{sl:Array (Option yh)}{oc kV dc pm cd ct:yh}(a:yfm K xi x=ya (ya (.ref f)))(l:K.lookup f=ya ⟨oc,od,.func (fnOf x x (defArgs st) (defBody st) (defScope st) .none kV dc pm an cd ct),sl⟩)(c:codeIn K cd x=yl)(k:yd6 K (.ref f)=yl):Df K x st:=⟨f,kV,dc,pm,an,cd,ct,a,zuw (st:=st) l c k⟩
theorem Df.at1{K:Frag}{h:Heap}{mg:Str->Option yh}{x:Str}{st:Stmt}{p0:Str}(d:Df K x st)(X:K.In h)(G:h.Ns xi mg)(hn:defName st=ya x)(hp:argNames (defArgs st)=[p0])(hb:∀kV dc pm an cd ct a0,bindArgs (fnOf x x (defArgs st) (defBody st) (defScope st) .none kV dc pm an cd ct) ⟨[a0],[]⟩=pure [(p0,a0)]):FnAt K mg st :=
 let⟨_,_,_,_,_,_,_,a,F⟩:=d
 ztc X G a F hn hp λ_ _ _ _ _ _ us hl=>by obtain⟨a0,rfl⟩:=len1 hl;exact hb _ _ _ _ _ _ _
theorem Df.at2{K:Frag}{h:Heap}{mg:Str->Option yh}{x:Str}{st:Stmt}{p0 p1:Str}(d:Df K x st)(X:K.In h)(G:h.Ns xi mg)(hn:defName st=ya x)(hp:argNames (defArgs st)=[p0,p1])(hb:∀kV dc pm an cd ct a0 a1,bindArgs (fnOf x x (defArgs st) (defBody st) (defScope st) .none kV dc pm an cd ct) ⟨[a0,a1],[]⟩=pure [(p0,a0),(p1,a1)]):FnAt K mg st :=
 let⟨_,_,_,_,_,_,_,a,F⟩:=d
 ztc X G a F hn hp λ_ _ _ _ _ _ us hl=>by obtain⟨a0,a1,rfl⟩:=len2 hl;exact hb _ _ _ _ _ _ _ _
theorem Df.at3{K:Frag}{h:Heap}{mg:Str->Option yh}{x:Str}{st:Stmt}{p0 p1 p2:Str}(d:Df K x st)(X:K.In h)(G:h.Ns xi mg)(hn:defName st=ya x)(hp:argNames (defArgs st)=[p0,p1,p2])(hb:∀kV dc pm an cd ct a0 a1 a2,bindArgs (fnOf x x (defArgs st) (defBody st) (defScope st) .none kV dc pm an cd ct) ⟨[a0,a1,a2],[]⟩=pure [(p0,a0),(p1,a1),(p2,a2)]):FnAt K mg st :=
 let⟨_,_,_,_,_,_,_,a,F⟩:=d
 ztc X G a F hn hp λ_ _ _ _ _ _ us hl=>by obtain⟨a0,a1,a2,rfl⟩:=len3 hl;exact hb _ _ _ _ _ _ _ _ _
theorem tab{K:Frag}{s:yq}{e:Option yq}{n:Nat}{r:Array (Option yh)}{s0 s1:yq}{e0:Option yq}{n0:Nat}{r0:Array (Option yh)}{t00 t01 t02 t03 t04:Tok}{e1:Option yq}{n1:Nat}{r1:Array (Option yh)}{t10 t11 t12 t13 t14 t15:Tok}(u:yfm K xi "SHAPES" = ya (ya (.ref s)))(v:K.lookup s=ya ⟨.type "tuple",e,.seq #[.ref s0,.ref s1] n,r⟩)(u0:K.lookup s0=ya ⟨.type "tuple",e0,.seq #[.int 4 t00,.int 4 t01,.int 4 t02,.int 4 t03,.int 4 t04] n0,r0⟩)(u1:K.lookup s1=ya ⟨.type "tuple",e1,.seq #[.int 3 t10,.int 3 t11,.int 3 t12,.int 3 t13,.int 3 t14,.int 3 t15] n1,r1⟩):∃a,yfm K xi "SHAPES" = ya (ya (.ref a))/\TabK K a [[4,4,4,4,4],[3,3,3,3,3,3]]:=by
 refine⟨s,u,[s0,s1],λH=>.inr ⟨_,_,_,v,rfl,rfl,(by show 2<=y8;decide),.cons rfl (.cons rfl (.nil))⟩,rfl,λi b n hb hn=>?_⟩
 match i,hb,hn with
 | 0,hb,hn=>cases hb;cases hn;exactλH=>.inr ⟨_,_,_,u0,rfl,rfl,(by show 5<=y8;decide),.cons ⟨_,rfl⟩ (.cons ⟨_,rfl⟩ (.cons ⟨_,rfl⟩ (.cons ⟨_,rfl⟩ (.cons ⟨_,rfl⟩ (.nil)))))⟩
 | 1,hb,hn=>cases hb;cases hn;exactλH=>.inr ⟨_,_,_,u1,rfl,rfl,(by show 6<=y8;decide),.cons ⟨_,rfl⟩ (.cons ⟨_,rfl⟩ (.cons ⟨_,rfl⟩ (.cons ⟨_,rfl⟩ (.cons ⟨_,rfl⟩ (.cons ⟨_,rfl⟩ (.nil))))))⟩
 | _+2,hb,_=>cases hb
theorem zvk{w:x8}{K:Frag}{h:Heap}{mg:Str->Option yh}{fa:yq}(X:K.In h)(G:h.Ns xi mg)(hfa:mg "law" = ya (.ref fa))
  (d0:Df K "is_whole" (top 1))
  (d1:Df K "are_whole" (top 2))
  (d2:Df K "is_pair" (top 3))
  (d3:Df K "are_pairs" (top 4))
  (d4:Df K "is_rising" (top 5))
  (d5:Df K "are_edges" (top 6))
  (d6:Df K "places_near" (top 7))
  (d7:Df K "rows_of" (top 9))
  (d8:Df K "way_from" (top 12))
  (d9:Df K "ways_between" (top 13))
  (d10:Df K "joined_with" (top 14))
  (d11:Df K "are_well_joined" (top 15))
  (d12:Df K "is_knot" (top 16))
  (d13:Df K "_law_cell" (top 18))
  (d14:Df K "_law_mix" (top 19))
  (d15:Df K "_law_names" (top 20))
  (d16:Df K "_law_planted" (top 21))
  (d17:Df K "_law_two_of" (top 22))
  (d18:Df K "_law_smooth" (top 23))
  (d19:Df K "_law_is_knot" (top 24))
  (d20:Df K "_law_spoilt" (top 25))
  (d21:Df K "law" (top 26))
  (z:AllN K bnames)
  (tb:∃a,yfm K xi "SHAPES" = ya (ya (.ref a))/\TabK K a [[4,4,4,4,4],[3,3,3,3,3,3]]) :
  ∃fd:yaj,(∀(s:ym) (v:yh),BindsTo s fd ⟨[v],[]⟩ [("_law_script",v)])/\∀base:Heap,K.In base->base.Ns xi mg->LamB K mg base->FnOk PySem.Challenge.pw_planeyard_k12_what_is_a_knot w K mg base CX0 28 fa fd ["_law_script"] (spLaw K):=by
 obtain⟨f,kV,dc,pm,an,cd,ct,a,F⟩:=id d21;have e:=hfa.symm.trans (yc7 X G a);cases e
 have T:Txt [] PySem.Challenge.pw_planeyard_k12_what_is_a_knot K mg:=zvr X G tops topc ⟨d0.at1 X G (by rfl) (p0:="thing") (by rfl) λ_ _ _ _ _ _ _=>rfl,d1.at1 X G (by rfl) (p0:="thing") (by rfl) λ_ _ _ _ _ _ _=>rfl,d2.at1 X G (by rfl) (p0:="thing") (by rfl) λ_ _ _ _ _ _ _=>rfl,d3.at1 X G (by rfl) (p0:="thing") (by rfl) λ_ _ _ _ _ _ _=>rfl,d4.at1 X G (by rfl) (p0:="row") (by rfl) λ_ _ _ _ _ _ _=>rfl,d5.at2 X G (by rfl) (p0:="thing") (p1:="net") (by rfl) λ_ _ _ _ _ _ _ _=>rfl,d6.at2 X G (by rfl) (p0:="net") (p1:="place") (by rfl) λ_ _ _ _ _ _ _ _=>rfl,d7.at1 X G (by rfl) (p0:="net") (by rfl) λ_ _ _ _ _ _ _=>rfl,d8.at3 X G (by rfl) (p0:="end") (p1:="first") (p2:="rows") (by rfl) λ_ _ _ _ _ _ _ _ _=>rfl,d9.at2 X G (by rfl) (p0:="ends") (p1:="rows") (by rfl) λ_ _ _ _ _ _ _ _=>rfl,d10.at2 X G (by rfl) (p0:="end") (p1:="ways") (by rfl) λ_ _ _ _ _ _ _ _=>rfl,d11.at2 X G (by rfl) (p0:="ends") (p1:="ways") (by rfl) λ_ _ _ _ _ _ _ _=>rfl,d12.at2 X G (by rfl) (p0:="thing") (p1:="net") (by rfl) λ_ _ _ _ _ _ _ _=>rfl,d13.at2 X G (by rfl) (p0:="_law_script") (p1:="_law_k") (by rfl) λ_ _ _ _ _ _ _ _=>rfl,d14.at3 X G (by rfl) (p0:="_law_cell_here") (p1:="_law_prime") (p2:="_law_many") (by rfl) λ_ _ _ _ _ _ _ _ _=>rfl,d15.at2 X G (by rfl) (p0:="_law_script") (p1:="_law_count") (by rfl) λ_ _ _ _ _ _ _ _=>rfl,d16.at1 X G (by rfl) (p0:="_law_script") (by rfl) λ_ _ _ _ _ _ _=>rfl,d17.at1 X G (by rfl) (p0:="_law_ends") (by rfl) λ_ _ _ _ _ _ _=>rfl,d18.at1 X G (by rfl) (p0:="_law_edges") (by rfl) λ_ _ _ _ _ _ _=>rfl,d19.at2 X G (by rfl) (p0:="_law_edges") (p1:="_law_net") (by rfl) λ_ _ _ _ _ _ _ _=>rfl,d20.at3 X G (by rfl) (p0:="_law_net") (p1:="_law_knot") (p2:="_law_cell_here") (by rfl) λ_ _ _ _ _ _ _ _ _=>rfl,d21.at1 X G (by rfl) (p0:="_law_script") (by rfl) λ_ _ _ _ _ _ _=>rfl,trivial⟩ z trivial (λx l e=>by
  rw[topt,vo]at e;split at e
  ·rename_i hx;cases e;rw[beq_iff_eq.mp hx];exact tb
  ·cases e)
 exact⟨fnOf "law" "law" (defArgs (top 26)) (defBody (top 26)) (defScope (top 26)) .none kV dc pm an cd ct,λs v=>.of_eq rfl,λbase KB GB LB=>zwn (f:=21) (W:=101) (k:=6) T KB GB LB rfl hfa K12.ztv (by rw[tops];rfl) rfl (λns _=>K12.zqy ns 0) F⟩
end K12E
open PySem PySem.W PyProof.Rows
set_option maxRecDepth 100000 in
set_option maxHeartbeats 0 in
theorem PySem.Challenge.cw_planeyard_k12_what_is_a_knot_holds : PySem.Challenge.rw_planeyard_k12_what_is_a_knot.Holds := by
 w_on;o_law;k_head;(case hw=>w_witness2)
 k_fill
 refine SD.walkT (l:=PySem.Challenge.rw_planeyard_k12_what_is_a_knot) (k:=28) (x:="_law_script") (ts:=[]) rfl rfl ⟨rfl,by decide,by decide⟩ (λw h Y=>⟨PySem.W.kIn_of Y,λP hP=>by cases hP⟩) (λw P hP=>by cases hP) (λw y hy=>by cases hy) ?F
 case F =>
  intro w mg fa h KX G hmg;refine' K12E.zvk KX G hmg ?d0 ?d1 ?d2 ?d3 ?d4 ?d5 ?d6 ?d7 ?d8 ?d9 ?d10 ?d11 ?d12 ?d13 ?d14 ?d15 ?d16 ?d17 ?d18 ?d19 ?d20 ?d21 ?z ?tb
  iterate 22
   refine' K12E.df ?a ?l ?c ?k;(case a=>k_is);(case l=>k_is);(case c=>k_is);(case k=>k_is)
  (case z=>(iterate 19 refine'⟨by k_is,?_⟩);exact trivial)
  refine' K12E.tab ?u ?v ?u0 ?u1;(case u=>k_is);(case v=>k_is);(case u0=>k_is);(case u1=>k_is)
