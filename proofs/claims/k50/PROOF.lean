import PyProof.Rows.All
import Wide.All
import OpenK.AllK
import Wide.FinOn
import Lean
import PyProof.EqAt
import PyProof.EqKinds
import PyProof.TupleCall
import PyProof.ExcInit
import PyProof.ExcClass3
import OpenK.KOwn
import PyProof.ExcAttrAll.ValueError
import OpenK.KDescr
import KE.KIsNot
import PyProof.NeKinds
import PyProof.Draws
import PyProof.EnumMake
import PyProof.ZipIter
import KE.KListMore
import PyProof.Rows.FStr
import PyProof.FString
import PyProof.Rows.CallKw2
import PyProof.StrLawsTight
import PyProof.CompUse
import PyProof.CompFree
import PyProof.RaisesMany
import PyProof.NsDelKeeps
import PyProof.RulesAs
import PyProof.MaxThree
import PyProof.Rows.SumAny
import PyProof.Rows.StrJoin2
import KE.KRevIter
import PyProof.AutoRange
import PyProof.FactsAll.range_2
import PyProof.Rows.FactsT2
import PyProof.Rows.SortShell
import PyProof.Rows.SortWalk
import PyProof.DictIter
import PyProof.DictWalks
import KE.KDictLaws
import KE.KDictOf
import PyProof.AttrMissSeq
import KE.KIntText
import PyProof.Rows.SetFrom
import PyProof.Rows.SortRuns
import PyProof.Rows.SortStr
import PySem.Challenge.RW_inningsbook_k50_told_and_kept
set_option bootstrap.genMatcherCode false
set_option compiler.extract_closed false
set_option genSizeOf false
set_option Elab.async false
set_option linter.all false
set_option maxRecDepth 100000
set_option maxHeartbeats 4000000
set_option genInjectivity false
open PySem renaming wpAny_bind->zaa,wpAny_pure->zad,wpAny_mono->zaK,wpAny_newObj_type->zaS,mem_of_lookup->zaZ,wpAny_truthy_bool->zba,boot_len->zbg,wpAny_holding->zbo,wpAny_field->zbt,wpAny_loadPart_at->zbC,wpAny_typeNameOfWhole_keyiter->zbF,wpAny_callSpecial?_slot->zbG,wpAny_setField->zbI,wpAny_call_entry->zbS,plainObj_wpAny_Assign_Attribute->zbW,wpAny_Call_Name_kw->zbZ,tupleKind_room_in1->zcb,wpAny_call->zcl,wpAny_isSubtype_exc->zcr,wpAny_execs_nil->zct,wpAny_passesOwn->zcu,codeAny_mono->zcx,wpAny_standAt->zcH,call_meets->zcP,codeAny_call_builtin->zcR,wpAny_loadPart->zdc,wpAny_attempt->zdn,wpAny_pyIter_list->zds,wpAny_dictEntries->zdv,wpAny_execs_cons->zdA,wpAny_lookBehind->zdB,pastItsLine_dict->zdC,wpAny_dictEpoch->zdM,sizeLine_eq->zdP
open List renaming getElem?_append_left->zab,getElem?_eq_some_iff->zae,length_map->zaf,getElem?_eq_getElem->zag,length_append->zaj,mem_cons->zam,size_toArray->zao,length_cons->zar,map_cons->zas,getElem?_append_right->zat,getElem?_map->zau,mem_singleton->zav,not_mem_nil->zax,append_nil->zay,getElem?_set_ne->zaz,mem_of_getElem?->zaA,getElem?_set_self->zaC,mem_cons_of_mem->zaD,map_append->zaE,all_cons->zaF,getElem?_cons_succ->zaH,mem_append_right->zaL,all_eq_true->zaM,all_nil->zaN,length_nil->zaP,lookup_cons->zaQ,getElem?_cons_zero->zaT,contains_cons->zaV,take_length->zaY,length_singleton->zbb,nil_append->zbd,mem_cons_self->zbh,length_take->zbj,cons_append->zbl,mem_map->zbm,mem_flatMap->zbn,foldl_cons->zbr,replicate_succ->zbs,map_map->zbu,nodup_cons->zby,getElem?_take_of_lt->zbz,append_assoc->zbE,take_of_length_le->zbK,map_nil->zbL,mem_append->zbM,filter_cons->zbT,replicate_zero->zbV,any_cons->zbY,find?_cons->zca,nodup_append->zce,eq_nil_or_concat->zci,mem_append_left->zck,getElem_mem->zco,filterMap_cons->zcp,map_congr_left->zcs,drop_eq_getElem_cons->zcw,any_map->zcB,getElem?_replicate->zcF,any_eq_true->zcI,eraseIdxIfInBounds_toArray->zcM,length_set->zcO,all_map->zcU,getElem?_range->zcZ,filter_eq_self->zda,set_cons_succ->zdj,zip_cons_cons->zdk,getD_eq_getElem?_getD->zdp,set_comm->zdq,flatMap_cons->zdw,length_drop->zdF,of_mem_zip->zdK,drop_eq_nil_of_le->zdU,mem_range->zdV,dropLast_eq_take->zeb,set_append_right->zec,any_nil->zeB
open PySem.Heap renaming get?_push_of_some->zac,lt_size->zan,get?_push_size->zap,get?_update_other->zaG,get?_update_self->zaR,size_push->zdd
open Nat renaming le_refl->zah,le_trans->zai,lt_of_lt_of_le->zak,ne_of_lt->zaq,lt_irrefl->zaO,le_succ->zaW,lt_succ_self->zbi,ne_of_gt->zbQ,zero_add->zcf,le_add_right->zcn,lt_of_le_of_lt->zcC,zero_le->zcG,one_ne_zero->zcV,lt_trans->zdD,min_eq_right->zdG,add_sub_cancel_left->zdJ,min_eq_left->zdO,le_of_lt->zep
open Bool renaming false_ne_true->zal,and_self->zaU,eq_iff_iff->zbc,and_eq_true_iff->zbf,and_eq_true->zbw,false_eq_true->zcc,or_true->zcz,or_eq_true->zcQ,false_and->zdb,or_false->zdm,true_and->zdr,and_false->zdX,and_true->zek
open Option.some renaming inj->zaw,injEq->zbD
open PySem.F renaming plainAttrs_list->zaB,slot_list_append->zaI,type_list_append->zaJ,slot_dict_keyiterator_next->zbp,slot_tuple_iterator_next->zbO,slot_list_getattribute->zcA,slot_dict_get->zcL,args_dict_keyiterator_next_1->zcS,entry_dict_keyiterator_next->zcW,args_tuple_iterator_next_1->zde,attrBase_ValueError->zdh,entry_tuple_iterator_next->zdi,args_tuple_add_2->zdE,args_dict_get_3->zdH,entry_tuple_add->zdI,entry_dict_get->zdR,slot_tuple_add->zdS
open Option renaming bind_some->zaX,map_eq_some_iff->zbJ,isSome_iff_exists->zbR,getD_none->zcm,map_some->zcv,getD_some->zcJ,isSome_map->zdu,isNone_iff_eq_none->zdz,isSome_some->zes,isNone_none->zeA
open Ne renaming symm->zbe
open PySem.Obj renaming data_mapFields->zbk,isFreed_of_fields->zcg
open Int renaming toNat_natCast->zbq,natCast_add->zbA,eq_ofNat_of_zero_le->zbH,natCast_one->zbN,emod_lt_of_pos->zcD,emod_nonneg->zcT
open PyProof.Rows renaming boot_list->zbv,slot_tuple_getitem->zbX,boot_isinstance->zch,callWith_type1->zcj
open PySem.W.Looks renaming here->zbx
open PySem.PassesOwn renaming never->zbB
open PySem.W renaming looks_findIn->zbP,looks_clsIn->zcq,callWith_K->zcy,methodCall_KW->zcK,plainGet_of->zcY,cellsFrom_some->zdQ,mg_of->zed,handedOut_of->zef,looks_mroIn->zem,tail_of_in->zew,check_slot->zex,looks_find->zey,set_plain->zeD
open PySem.Heap.SameBut renaming update->zbU
open PySem.Calls renaming callWith_builtin->zcd,evalArgs_plain->zcN,spliced_cons->zdg,Name_function_global->zdl
open Eq renaming symm->zcE
open Array renaming length_toList->zcX,getElem?_eq_some_iff->zdo,getElem?_eq_getElem->zdy,getElem?_toList->zdY
open Sum.inr renaming inj->zdf
open PySem.SeqAt.EqAt renaming same->zdL,int_str->zen,str_int->zeo,of_refs->zez
theorem zp_0q(h:True:=by rfl):True:=trivial
def zp_0:Lean.Syntax:=zp_0q._auto_1
theorem zp_1q(h:True:=by decide):True:=trivial
def zp_1:Lean.Syntax:=zp_1q._auto_1
theorem zp_2q(h:True:=by first|decide|omega):True:=trivial
def zp_2:Lean.Syntax:=zp_2q._auto_1
theorem zp_3q(h:True:=by intro _;rfl):True:=trivial
def zp_3:Lean.Syntax:=zp_3q._auto_1
theorem zp_4q(h:True:=by first|exact .inl rfl|exact .inr rfl|assumption):True:=trivial
def zp_4:Lean.Syntax:=zp_4q._auto_1
theorem zp_5q(h:True:=by with_unfolding_all rfl):True:=trivial
def zp_5:Lean.Syntax:=zp_5q._auto_1
theorem zp_7q(h:True:=by first|exact Or.inl rfl|exact Or.inr (Or.inl rfl)|exact Or.inr (Or.inr rfl)):True:=trivial
def zp_7:Lean.Syntax:=zp_7q._auto_1
theorem zp_8q(h:True:=by intro _ _;rfl):True:=trivial
def zp_8:Lean.Syntax:=zp_8q._auto_1
theorem zp_9q(h:True:=by exact⟨rfl,rfl,rfl,rfl⟩):True:=trivial
def zp_9:Lean.Syntax:=zp_9q._auto_1
theorem zp_10q(h:True:=by first|exact Or.inl rfl|exact Or.inr rfl):True:=trivial
def zp_10:Lean.Syntax:=zp_10q._auto_1
namespace L2
open PySem PySem.Spec PyProof.Rows
theorem _root_.jp{p q:Prop}(a:p)(b:q):p∧q:=⟨a,b⟩
noncomputable abbrev dW:=Sum Int Str
noncomputable def lV:dW->Value->Bool
 |.inl k,v=>Value.isInt k v
 |.inr x,v=>Value.isStrOf x v
noncomputable def ale (w:World):dW->Int
 |.inl k=>hashInt k
 |.inr x=>hashStr w x
theorem dh:∀{k:dW} {v:Value},lV k v=true->(∃i t,k=Sum.inl i/\v=Value.int i t)\/(∃x t,k=Sum.inr x/\v=Value.str x t)
 |.inl i,v,h=>by
  obtain⟨t,e⟩:=Value.isInt_shape (k:=i) (v:=v) h
  exact .inl ⟨i,t,rfl,e⟩
 |.inr x,v,h=>by
  obtain⟨t,e⟩:=Value.isStrOf_shape (x:=x) (v:=v) h
  exact .inr ⟨x,t,rfl,e⟩
theorem IB (i:Int)(t:Tok):lV (.inl i) (.int i t)=true:=by simp[lV,Value.isInt]
theorem IC (x:Str)(t:Tok):lV (.inr x) (.str x t)=true:=by simp[lV,Value.isStrOf]
theorem Y6 (a b:Int):decide ((Sum.inl a:dW)=Sum.inl b)=(a == b):=by
 by_cases e:a=b
 ·subst e;simp
 ·have h:¬ (Sum.inl a:dW)=Sum.inl b:=λq=>e (Sum.inl.inj q)
  rw[decide_eq_false h];exact (beq_eq_false_iff_ne.mpr e).symm
theorem Y7 (a b:Str):decide ((Sum.inr a:dW)=Sum.inr b)=decide (a=b):=by
 by_cases e:a=b
 ·subst e;simp
 ·have h:¬ (Sum.inr a:dW)=Sum.inr b:=λq=>e (zdf q)
  rw[decide_eq_false h,decide_eq_false e]
theorem Y8 (a:Int)(b:Str):decide ((Sum.inl a:dW)=Sum.inr b)=false:=decide_eq_false (λq=>nomatch q)
theorem Y9 (a:Str)(b:Int):decide ((Sum.inr a:dW)=Sum.inl b)=false:=decide_eq_false (λq=>nomatch q)
noncomputable def bW (prog:Program)(w:World):PySem.KeyKind prog w dW where
 is:=lV
 hash:=ale w
 inj:=λv a b ha hb=>by
  rcases dh ha with⟨i,t,rfl,rfl⟩|⟨x,t,rfl,rfl⟩
  ·rcases dh hb with⟨j,u,rfl,e⟩|⟨y,u,rfl,e⟩
   ·injection e with e1 _;rw[e1]
   ·exact nomatch e
  ·rcases dh hb with⟨j,u,rfl,e⟩|⟨y,u,rfl,e⟩
   ·exact nomatch e
   ·injection e with e1 _;rw[e1]
 byValue:=λk v h=>by
  rcases dh h with⟨i,t,rfl,rfl⟩|⟨x,t,rfl,rfl⟩<;>rfl
 pyHash:=λhv h=>by
  rcases dh hv with⟨i,t,rfl,rfl⟩|⟨x,t,rfl,rfl⟩
  ·exact wpAny_pyHash_int h
  ·exact wpAny_pyHash_str h
 eqBool:=λhu hv h=>by
  rcases dh hu with⟨i,t,rfl,rfl⟩|⟨x,t,rfl,rfl⟩
  ·rcases dh hv with⟨j,u,rfl,rfl⟩|⟨y,u,rfl,rfl⟩
   ·rw[Y6] at h;exact wpAny_eqBool_int h
   ·rw[Y8] at h;exact zen i t y u _ _ _ _ h
  ·rcases dh hv with⟨j,u,rfl,rfl⟩|⟨y,u,rfl,rfl⟩
   ·rw[Y9] at h;exact zeo x t j u _ _ _ _ h
   ·rw[Y7] at h;exact wpAny_eqBool_str h
 «strs»:= λk x t v h=>by
  rcases dh h with⟨i,u,rfl,e⟩|⟨y,u,rfl,e⟩
  ·exact nomatch e
  ·injection e with e1 _
   subst e1;cases v<;>rfl
theorem Ay (prog:Program)(w:World)(i:Int)(t:Tok):(bW prog w).is (.inl i) (.int i t)=true:=IB i t
theorem Az (prog:Program)(w:World)(x:Str)(t:Tok):(bW prog w).is (.inr x) (.str x t)=true:=IC x t
set_option genInjectivity true in
inductive V where
 |bB|bl (b:Bool)|int (i:Int)|str (x:Str)|K9 (b:Array UInt8)|flt (b:UInt64)|ref (a:Addr)|ty (n:String)
 deriving DecidableEq
noncomputable def bG:V->Value->Prop
 |.bB,u=>u=Value.none
 |.bl b,u=>u=Value.bool b
 |.int i,u=>∃t,u=Value.int i t
 |.str x,u=>∃t,u=Value.str x t
 |.K9 b,u=>∃t,u=Value.bytes b t
 |.flt b,u=>∃t,u=Value.float b t
 |.ref a,u=>u=Value.ref a
 |.ty n,u=>u=Value.type n
noncomputable abbrev bH:List V->List Value->Prop:=Paired bG
theorem bH.length (r:bH xs us):xs.length=us.length:=Paired.length r
theorem bH.get:∀{xs:List V} {us:List Value} {i:Nat} {x:V},bH xs us->xs[i]? = some x->∃u,us[i]? = some u/\bG x u
 |_,_,_,_,.nil,e=>by simp at e
 |_,_,0,_,.cons r _,e=>by simp at e;subst e;exact⟨_,rfl,r⟩
 |_,_,i+1,x,.cons _ t,e=>by
  obtain⟨u,h1,h2⟩:=bH.get (i:=i) (x:=x) t (by simpa using e)
  exact⟨u,by simpa using h1,h2⟩
theorem bH.set (r:bG x u):∀{xs:List V} {us:List Value} (i:Nat),bH xs us->bH (xs.set i x) (us.set i u)
 |_,_,_,.nil=>.nil
 |_,_,0,.cons _ t=>.cons r t
 |_,_,i+1,.cons q t=>.cons q (bH.set r i t)
theorem bH.lW:∀{xs ys:List V} {us ws:List Value},bH xs us->bH ys ws->bH (xs++ys) (us++ws)
 |_,_,_,_,.nil,s=>s
 |_,_,_,_,.cons r t,s=>.cons r (bH.lW t s)
theorem bH.take:∀{xs:List V} {us:List Value} (n:Nat),bH xs us->bH (xs.take n) (us.take n)
 |_,_,0,_=>.nil
 |_,_,_+1,.nil=>.nil
 |_,_,n+1,.cons r t=>.cons r (bH.take n t)
theorem bH.drop:∀{xs:List V} {us:List Value} (n:Nat),bH xs us->bH (xs.drop n) (us.drop n)
 |_,_,0,r=>r
 |_,_,_+1,.nil=>.nil
 |_,_,n+1,.cons _ t=>bH.drop n t
noncomputable def iP:Option V->Option Value->Prop
 |some v,some u=>bG v u
 |none,none=>True
 |_,_=>False
noncomputable def KV {κ:Type}:List (κ × V)->List (κ × Value)->Prop:=Paired λ(p:κ × V) (q:κ × Value)=>p.1=q.1/\bG p.2 q.2
noncomputable def kV:dW->V
 |.inl i=>.int i
 |.inr x=>.str x
inductive HO where
 /-- a list -/
 |bA (xs:List V)
 /-- a fO (never akp) -/
 |gQ (xs:List V)
 /-- a dict afG pX are ints and afH;K_ afG pX are tuples of ints and afH (Dn empty K_ is ap3) -/
 |dK (aQ:List (dW×V))|dT (aQ:List (List dW×V))
 /-- a set of ints:aX akq,aX size -/
 |set (S:Int->Bool) (n:Nat)
 /-- an instance of Dn class at C,aX dict at dx,aX Y_ -/
 |eS (C dx:Addr) (fs:List (Str×V))
 /-- Dn dict of Dn instance at x -/
 |sD (x:Addr)
 /-- Dn dict of an ae4 -/
 |xd (fs:List (Str×V))
 /-- a aop alf,f of x -/
 |met (f x:Addr)
 /-- a range Ll lo,lo+1,.. aoq hi -/
 |rng (lo hi:Int)
 /-- a afI ap4 is aor to Dn Ll (Dn Ln;a dict while a Q5 aos it):ap5,never akr while it is so -/
 |rR (o:Obj) (u:HO)
 /-- a ap6 afJ table -/
 |rD (ps:Array Value)
 /-- any FZ afI,by ali is true of aX K_ Ll (a def of aot sD:ap7 a S n:=HO.ext fun h=>..) -/
 |ext (φ:Heap->Prop)
noncomputable abbrev Hp:=Addr->Option HO
noncomputable def bD (H:Hp)(a:Addr)(o:HO):Hp:=λb=>if b=a then some o else H b
theorem av:bD H a o a=some o:=by unfold bD;rw[if_pos rfl]
theorem au (h:b≠a):bD H a o b=H b:=by unfold bD;rw[if_neg h]
theorem F1:bD (bD H a o) a u=bD H a u:=by
 funext b;unfold bD;split<;>rfl
theorem afK {H:Hp}{a b:Addr}{o u:HO}(h:H a=some o)(h':H b=some u)(d:o≠u):a≠b:=by
 intro e;subst e;rw[h] at h';exact d (zaw h')
theorem e_ {H:Hp}{a b:Addr}{o:HO}(h:H a=some o)(h':H b=none):a≠b:=by
 intro e;subst e;rw[h] at h';cases h'
section
variable (P:Program)(w:World)
noncomputable def cR (H:Hp)(h:Heap)(a:Addr):HO->Prop
 |.bA xs=>xs.length<=sizeLine/\∃(aX:List Value) (n:Nat),bH xs aX/\h.get? a=some { cls:=.type "list",data:=.seq aX.toArray n}
 |.gQ xs=>xs.length<=sizeLine/\∃aX:List Value,bH xs aX/\IsTup h a aX.toArray
 |.dK aQ=>aQ.length<=sizeLine/\(a == sysModules)=false/\∃vs,KV aQ vs/\h.DictOf (bW P w) a vs
 |.dT aQ=>aQ.length<=sizeLine/\(a == sysModules)=false/\∃xs:List (List dW×Addr×Value),
   Paired (λ(p:List dW×V) (q:List dW×Addr×Value)=>p.1=q.1/\H q.2.1=some (.gQ (p.1.map kV))/\bG p.2 q.2.2) aQ xs /\
   ∃o es ep,h.get? a=some o/\o.ExactDict/\o.data = .dict es ep/\es.toList=xs.map (entryOfKey (tupleKind (bW P w)))/\(xs.map (·.1)).Nodup
 |.set S n=>h.SetOf (intKind P w) a S n
 |.eS C dx fs=>H dx=some (.sD a)/\fs.length<=1000/\dx≠a/\h.get? a=some (PySem.W.instObj C dx) /\
   ∃mA,h.Ns1 dx mA/\(∀f,iP (fs.lookup f) (mA f))/\PySem.Within mA (fs.map (·.1))
 |.sD _=>∃o,h.get? a=some o
 |.xd fs=>∃mA,h.Ns1 a mA/\∀f,iP (fs.lookup f) (mA f)
 |.rng lo hi=>∃t u v,h.get? a=some { cls:=.type "range",data:=.fields #[.int lo t,.int hi u,.int 1 v]}
 |.rR o u=>h.get? a=some o/\cR H h a u
 |.rD ps=>h.get? a=some {cls:=.none,data:=.fields ps}
 |.met f x=>h.get? a=some (PySem.W.methodObj (.ref f) (.ref x))
 |.ext φ=>φ h/\(∃o,h.get? a=some o)/\∀h1 h2:Heap,φ h1->(∀o,h1.get? a=some o->h2.get? a=some o) -> φ h2
noncomputable def mT (H:Hp)(h:Heap):Prop:=∀a o,H a=some o->cR P w H h a o
end
theorem cR.lt (x:cR P w H h a o):a<h.objs.size:=by
 cases o with
 |bA xs=>obtain⟨_,_,_,_,e⟩:=x;exact zan e
 |gQ xs=>obtain⟨_,_,_,p⟩:=x;exact p.lt
 |dK aQ=>obtain⟨_,_,_,_,o,_,_,e,_⟩:=x;exact zan e
 |dT aQ=>obtain⟨_,_,_,_,o,_,_,e,_⟩:=x;exact zan e
 |set S n=>obtain⟨o,_,_,_,e,_⟩:=x;exact zan e
 |eS C dx fs=>obtain⟨_,_,_,e,_⟩:=x;exact zan e
 |sD y=>obtain⟨_,e⟩:=x;exact zan e
 |xd fs=>obtain⟨_,⟨_,_,_,e,_⟩,_⟩:=x;exact zan e
 |rng lo hi=>obtain⟨_,_,_,e⟩:=x;exact zan e
 |rR ob u=>obtain⟨e,_⟩:=x;exact zan e
 |rD ps=>exact zan (show h.get? a=some _ from x)
 |met f y=>exact zan (show h.get? a=some _ from x)
 |ext φ=>obtain⟨_,⟨_,e⟩,_⟩:=x;exact zan e
theorem Paired.Za {α β:Type}{F G:α -> β -> Prop}:∀{afL:List α} {afM:List β},Paired F afL afM->(∀a b,F a b->G a b)->Paired G afL afM
 |_,_,.nil,_=>.nil
 |_,_,.cons r t,f=>.cons (f _ _ r) (Paired.Za t f)
theorem cR.pY (x:cR P w H h a o)(k:∀b u,(b=a\/H b=some (.sD a))->h.get? b=some u->h'.get? b=some u)
  (ho:∀b,H b=some (.sD a)->H' b=some (.sD a)) (ht:∀b xs,H b=some (.gQ xs)->H' b=some (.gQ xs)):cR P w H' h' a o:=by
 induction o with
 |bA xs=>obtain⟨z,aX,n,r,e⟩:=x;exact⟨z,aX,n,r,k _ _ (.inl rfl) e⟩
 |gQ xs=>obtain⟨z,aX,r,ob,e,c⟩:=x;exact⟨z,aX,r,ob,k _ _ (.inl rfl) e,c⟩
 |dK aQ=>obtain⟨z,y,vs,r,ob,es,ep,e,c⟩:=x;exact⟨z,y,vs,r,ob,es,ep,k _ _ (.inl rfl) e,c⟩
 |dT aQ =>
  obtain⟨z,y,xs,r,ob,es,ep,e,c⟩:=x;exact⟨z,y,xs,Paired.Za r λp q z=>⟨z.1,ht _ _ z.2.1,z.2.2⟩,ob,es,ep,k _ _ (.inl rfl) e,c⟩
 |set S n=>obtain⟨ob,es,ep,t,e,c⟩:=x;exact⟨ob,es,ep,t,k _ _ (.inl rfl) e,c⟩
 |eS C dx fs =>
  obtain⟨d,z,ne,e,mA,⟨od,es,ep,e2,c⟩,r⟩:=x
  exact⟨ho _ d,z,ne,k _ _ (.inl rfl) e,mA,⟨od,es,ep,k _ _ (.inr d) e2,c⟩,r⟩
 |sD y=>obtain⟨ob,e⟩:=x;exact⟨ob,k _ _ (.inl rfl) e⟩
 |xd fs=>obtain⟨mA,⟨od,es,ep,e,c⟩,r⟩:=x;exact⟨mA,⟨od,es,ep,k _ _ (.inl rfl) e,c⟩,r⟩
 |rng lo hi=>obtain⟨t,u,v,e⟩:=x;exact⟨t,u,v,k _ _ (.inl rfl) e⟩
 |rR ob u ih=>obtain⟨e,q⟩:=x;exact⟨k _ _ (.inl rfl) e,ih q⟩
 |rD ps =>
  have e:h.get? a=some {cls:=.none,data:=.fields ps}:=x
  show h'.get? a=some {cls:=.none,data:=.fields ps}
  exact k a _ (.inl rfl) e
 |met f y =>
  have e:h.get? a=some (PySem.W.methodObj (.ref f) (.ref y)):=x
  show h'.get? a=some (PySem.W.methodObj (.ref f) (.ref y))
  exact k a _ (.inl rfl) e
 |ext φ=>obtain⟨p,⟨o,e⟩,st⟩:=x;exact⟨st _ _ p λo q=>k _ _ (.inl rfl) q,⟨o,k _ _ (.inl rfl) e⟩,st⟩
theorem mT.lt (x:mT P w H h)(e:H a=some o):a<h.objs.size:=(x a o e).lt
theorem mT.fresh (x:mT P w H h)(e:h.objs.size<=a):H a=none:=by
 cases q:H a with
 |none=>rfl
 |some u=>exact absurd (zak (x.lt q) e) (zaO _)
theorem mT.ie (x:mT P w H h)(k:∀b u,h.get? b=some u->h'.get? b=some u):mT P w H h':=λa o e =>
 (x a o e).pY (λb u _ q=>k b u q) (λ_ q=>q) λ_ _ q=>q
theorem mT.jI (x:mT P w H h)(k:∀b u,h.get? b=some u->h'.get? b=some u)(hp:h.objs.size<=a)(new:cR P w (bD H a o) h' a o):mT P w (bD H a o) h':=λb u e=>by
 have hn:=x.fresh hp;by_cases hb:b=a
 ·subst hb;rw[av] at e;cases e;exact new
 ·rw[au hb] at e
  exact (x b u e).pY (λc v _ q=>k c v q) (λc q=>by rw[au (e_ q hn)];exact q) λc xs q=>by rw[au (e_ q hn)];exact q
noncomputable def Rd (H:Hp)(a:Addr)(u:HO):Prop:=H a=some u\/∃o,H a=some (.rR o u)
theorem Rd.ok (r:Rd H a u)(x:mT P w H h):cR P w H h a u:=by
 rcases r with r|⟨o,r⟩
 ·exact x a u r
 ·obtain⟨_,q⟩:=x a _ r
  exact q
noncomputable def Mut:Option HO->Prop
 |some (.bA _)=>True
 |some (.dK _)=>True
 |some (.dT _)=>True
 |some (.set _ _)=>True
 |some (.eS _ _ _)=>True
 |some (.ext _)=>True
 |_=>False
theorem mT.jm (ok:mT P w H h)(mu:Mut (H x))(he:e=x\/H e=some (.sD x))(k:∀b u,b≠e->h.get? b=some u->h'.get? b=some u)(heo:∃u,h'.get? e=some u)
  (new:cR P w (bD H x o') h' x o'):mT P w (bD H x o') h':=λb u q=>by
 have afN:∀c y,H c=some (.sD y)->c≠x:=λc y r z=>by subst z;rw[r] at mu;exact mu
 have alj:∀c xs,H c=some (.gQ xs)->c≠x:=λc xs r z=>by subst z;rw[r] at mu;exact mu
 by_cases hb:b=x
 ·subst hb;rw[av] at q;cases q;exact new
 ·rw[au hb] at q
  by_cases Zb:b=e
  ·have q':H b=some (.sD x):=by
    rcases he with z|z
    ·exact absurd (Zb.trans z) hb
    ·rw[Zb];exact z
   rw[q] at q';cases q'
   obtain⟨v,hv⟩:=heo;exact⟨v,by rw[Zb];exact hv⟩
  ·refine (ok b u q).pY (λc v hc r=>k c v ?_ r) (λc r=>by rw[au (afN c b r)];exact r) λc xs r=>by rw[au (alj c xs r)];exact r
   rcases hc with rfl|hc
   ·exact Zb
   ·rintro rfl
    rcases he with z|z
    ·exact afN c b hc z
    ·rw[hc] at z;cases z;exact hb rfl
structure Un (fs ex:List Addr) (H H':Hp) (h h':Heap):Prop where
 keep:∀b o,h.get? b=some o->H b=none->b∉fs->b∉ex->h'.get? b=some o
 slot:∀b o,h.get? b=some o->H b=none->b∈fs->b∉ex->∃sl,h'.get? b=some {o with slots:=sl}
 free:∀b o,h.get? b=some o->H b=none->b∉ex->H' b=none
 there:∀b o,h.get? b=some o->b∉ex->∃o',h'.get? b=some o'
 sE:∀b xs,H b=some (.gQ xs)->H' b=some (.gQ xs)
 rE:∀b o u,H b=some (.rR o u)->H' b=some (.rR o u)
 sF:∀b ps,H b=some (.rD ps)->∃jC,H' b=some (.rD (ps++jC))
theorem Un.any (u:Un fs ex H H1 h h1)(q:h.get? b=some ob)(n:H b=none)(hx:b∉ex):∃sl,h1.get? b=some {ob with slots:=sl}:=by
 by_cases hb:b∈fs
 ·exact u.slot b ob q n hb hx
 ·exact⟨ob.slots,u.keep b ob q n hb hx⟩
theorem Un.ie (k:∀b u,h.get? b=some u->h'.get? b=some u):Un fs ex H H h h':=
 ⟨λb ob q _ _ _=>k b ob q,λb ob q _ _ _=>⟨ob.slots,k b ob q⟩,λ_ _ _ n _=>n,λb ob q _=>⟨ob,k b ob q⟩,λ_ _ q=>q,λ_ _ _ q=>q,λ_ ps q=>⟨#[],by rw[q];simp⟩⟩
theorem Un.refl:Un fs ex H H h h:=Un.ie λ_ _ q=>q
theorem Un.jI (k:∀b u,h.get? b=some u->h'.get? b=some u)(hp:h.objs.size<=a)(hn:H a=none):Un fs ex H (bD H a o) h h' where
 keep:=λb u q _ _ _=>k b u q
 slot:=λb u q _ _ _=>⟨u.slots,k b u q⟩
 free:=λb u q n _=>by rw[au (zaq (zak (zan q) hp))];exact n
 there:=λb u q _=>⟨u,k b u q⟩
 sE:=λb xs q=>by rw[au (e_ q hn)];exact q
 rE:=λb u xs q=>by rw[au (e_ q hn)];exact q
 sF:=λb ps q=>⟨#[],by rw[au (e_ q hn),q];simp⟩
theorem Un.jm (mu:Mut (H x))(he:e=x\/H e=some (.sD x))(k:∀b u,b≠e->h.get? b=some u->h'.get? b=some u)(heo:∃u,h'.get? e=some u):Un fs ex H (bD H x o) h h':=by
 have hx:∀b,H b=none->b≠x:=λb n z=>by subst z;rw[n] at mu;exact mu
 have hb:∀b,H b=none->b≠e:=λb n z=>by
  subst z;rcases he with r|r
  ·exact hx b n r
  ·rw[n] at r;cases r
 have hm:∀b u,H b=some u->¬ Mut (some u)->b≠x:=λb u q nm z=>by subst z;rw[q] at mu;exact nm mu
 refine⟨λb u q n _ _=>k b u (hb b n) q,λb u q n _ _=>⟨u.slots,k b u (hb b n) q⟩,λb u q n _=>by rw[au (hx b n)];exact n,λb u q _=>?_,
  λb xs q=>by rw[au (hm b _ q λz=>z)];exact q,λb u xs q=>by rw[au (hm b _ q λz=>z)];exact q,λb ps q=>⟨#[],by rw[au (hm b _ q λz=>z),q];simp⟩⟩
 by_cases Zb:b=e
 ·subst Zb;exact heo
 ·exact⟨u,k b u Zb q⟩
noncomputable def trk (h:Heap)(H:Hp):List Addr:=(List.range h.objs.size).filter λa=>(H a).isSome
noncomputable def yS (h:Heap)(H:Hp):Heap:=PySem.W.hideAll h (trk h H)
theorem ID (h:Heap)(H:Hp):(yS h H).objs.size=h.objs.size:=PySem.W.hideAll_size _ _
theorem Lo (e:h.get? b=some o)(n:H b=none):(yS h H).get? b=some o:=
 PySem.W.hideAll_get _ e λhm=>by
  have q:(H b).isSome=true:=(List.mem_filter.mp hm).2
  rw[n] at q;simp at q
theorem Q6 (e:(yS h H).get? b=some o):h.get? b=some o/\H b=none:=by
 have e':h.get? b=some o:=PySem.W.of_hideAll (trk h H) e
 refine⟨e',?_⟩
 cases q:H b with
 |none=>rfl
 |some x =>
  have hm:b∈trk h H:=List.mem_filter.mpr ⟨zdV.mpr (zan e'),by simp[q]⟩
  have z:(yS h H).get? b=none:=PySem.W.hideAll_none (trk h H) hm
  rw[z] at e;cases e
structure Mod (K:PySem.W.Frag) (mg:Str->Option Value) (base:Heap):Prop where
 Zc:K.In base
 sG:base.Ns mainGlobals mg
 Vw:∃mb,base.Ns builtinsNs mb/\∀x:Str,x ≠ "__name__" -> mb x=bootBuiltins x
 nolimit:base.NoLimit
structure Cx where
 prog:Program
 w:World
 K:PySem.W.Frag
 mg:Str->Option Value
 base:Heap
 A:Around
 N:List Str
 s₀:Shared
 H₀:Hp
 env:Env
 outer:List Env
 dm:List Env
 ex:List Addr
 fn:Str->Bool
 fS:Bool
 pn:List (Addr×Obj)
 xe:Value->Shared->Prop
noncomputable def rS (l:List Env):List Addr:=l.filterMap (·.frame)
noncomputable abbrev Cx.fs (X:Cx):List Addr:=rS X.outer
noncomputable def Vis (sc:Scope)(x:Str):Prop:=sc.names.lookup x=some .local\/sc.names.lookup x=some .cell\/sc.names.lookup x=some .free
noncomputable def Vx (sc:Scope)(x:Str):Prop:=sc.names.lookup x=some .local\/sc.names.lookup x=some .cell
noncomputable def alk (env:Env)(h:Heap)(m:Str->Option Value)(x:Str)(u:Value):Prop:=
 (env.kindOf x=some .local/\m x=some u)\/((env.kindOf x=some .cell\/env.kindOf x=some .free)/\∃c,env.cells.lookup x=some c/\h.IsCell c (some u))
structure Cx.Ok (X:Cx):Prop where
 sH:Mod X.K X.mg X.base
 kind:X.env.scope.kind = .function
 sG:X.env.globals=mainGlobals
 Vw:X.env.builtins=builtinsNs
 above:X.s₀.heap.objs.size<=X.env.locals
 inj:∀x y c,X.env.cells.lookup x=some c->X.env.cells.lookup y=some c->x=y
 has:∀x,(X.env.kindOf x=some .cell\/X.env.kindOf x=some .free)->∃c,X.env.cells.lookup x=some c
 Zd:∀x c,X.fn x=true->X.env.cells.lookup x=some c->X.s₀.heap.objs.size<=c
 hd:X.fS=true->X.A.handled=none
 frames:X.A.frames=some X.dm
 stk:X.dm=X.outer\/(X.dm=X.env::X.outer/\X.env.frame=some X.env.locals)
 exf:∀b∈X.ex,b≠X.env.locals/\∀x c,X.env.cells.lookup x=some c->c≠b
 bs:∀b o,X.base.get? b=some o->X.s₀.heap.get? b=some o/\X.H₀ b=none
 QU:X.base.objs.size<=X.s₀.heap.objs.size
 jj:∀b o,X.base.get? b=some o->b∉X.ex
 Dp:∀b∈X.ex,b∉X.fs
 j7:X.s₀.heap.FunFrames X.base X.outer
 Lp:∀b∈X.fs,X.H₀ b=none
structure aL (X:Cx) (ah:List (Addr×Obj)) (σ:List (Option V)) (H:Hp) (s:Shared):Prop where
 ok:X.Ok
 os:s.os=X.s₀.os
 ig:AllBare s.gens
 base:Un X.fs X.ex X.H₀ H X.s₀.heap s.heap
 As:∃m,s.heap.Ns X.env.locals m/\∀(i:Nat) (x:Str) (v:V),X.N[i]? = some x -> σ[i]? = some (some v)->Vis X.env.scope x->∃u,bG v u/\alk X.env s.heap m x u
 cell:∀x c,X.env.cells.lookup x=some c->∃v,s.heap.IsCell c v
 free:H X.env.locals=none
 jJ:∀x c,X.env.cells.lookup x=some c->H c=none
 AA:∀p∈X.pn++ah,s.heap.get? p.1=some p.2/\H p.1=none/\p.1≠X.env.locals/\p.1∉X.fs/\∀v,p.2.data ≠ .cell v
 cA:mT X.prog X.w H s.heap
 len:σ.length=X.N.length
section
variable {X:Cx}{ah:List (Addr×Obj)}{σ:List (Option V)}{H H':Hp}{s:Shared}{h':Heap}
theorem Cx.Ok.alm (ok:X.Ok)(e:X.base.get? b=some o):b∉X.fs:=λhb=>by
 have:=(ok.j7.mem hb).1
 rw[e] at this;cases this
theorem aL.bs (I:aL X ah σ H s):∀b o,X.base.get? b=some o->s.heap.get? b=some o/\H b=none:=λb o e =>
 ⟨I.base.keep b o (I.ok.bs b o e).1 (I.ok.bs b o e).2 (I.ok.alm e) (I.ok.jj b o e),I.base.free b o (I.ok.bs b o e).1 (I.ok.bs b o e).2 (I.ok.jj b o e)⟩
theorem aL.bk (I:aL X ah σ H s):∀b o,X.base.get? b=some o->s.heap.get? b=some o:=λb o e=>(I.bs b o e).1
theorem aL.sH (I:aL X ah σ H s):Mod X.K X.mg X.base:=I.ok.sH
theorem aL.nE (I:aL X ah σ H s):X.K.In s.heap:=I.ok.sH.Zc.keeps I.bk
theorem aL.lt (I:aL X ah σ H s):X.env.locals<s.heap.objs.size:=let ⟨_,hn,_⟩:=I.As;hn.lt
theorem aL.sz (I:aL X ah σ H s):X.s₀.heap.objs.size<=s.heap.objs.size:=zai I.ok.above (zep I.lt)
theorem aL.aln (I:aL X ah σ H s)(h:s.heap.objs.size<=a):a∉X.fs:=λhb=>by
 obtain⟨_,o,ho,_⟩:=I.ok.j7.mem hb;exact absurd (zak (zan ho) (zai I.sz h)) (zaO _)
theorem aL.Lq (I:aL X ah σ H s):∀x c,X.env.cells.lookup x=some c->c≠X.env.locals:=λx c e z=>by
 obtain⟨v,o,ho,hd⟩:=I.cell x c e;obtain⟨m,⟨o',es,ep,v8,QV,_⟩,_⟩:=I.As
 rw[z,v8] at ho;cases ho;rw[QV] at hd;cases hd
theorem aL.j7 (I:aL X ah σ H s):s.heap.FunFrames X.base X.outer:=by
 have all:∀(l:List Env),(∀b∈rS l,b∈X.fs)->X.s₀.heap.FunFrames X.base l->s.heap.FunFrames X.base l:=by
  intro l;induction l with
  |nil=>intro _ _;trivial
  |cons env r ih =>
   intro hs hl;obtain⟨hk,⟨L,o,hf,hn,ho,hd⟩,hr⟩:=hl
   have hL:L∈X.fs:=hs L (by unfold rS;rw[zcp,hf];exact zbh)
   obtain⟨sl,e⟩:=I.base.slot L o ho (I.ok.Lp L hL) hL λz=>I.ok.Dp L z hL
   exact⟨hk,⟨L,_,hf,hn,e,hd⟩,ih (λb hb=>hs b (by unfold rS;rw[zcp,hf];exact zaD _ hb)) hr⟩
 exact all X.outer (λ_ hb=>hb) I.ok.j7
theorem aL.dm (I:aL X ah σ H s):s.heap.FunFrames X.base X.dm:=by
 rcases I.ok.stk with e|⟨e,hf⟩
 ·rw[e];exact I.j7
 ·rw[e]
  obtain⟨m,hn,_⟩:=I.As;refine .cons (by rw[I.ok.kind];decide) hf hn ?_ I.j7
  exact Heap.get?_none_of_le (zai I.ok.QU I.ok.above)
theorem aL.Dq (I:aL X ah σ H s):∀b∈rS X.dm,b∈X.env.locals::X.fs:=λb hb=>by
 rcases I.ok.stk with e|⟨e,hf⟩
 ·rw[e] at hb;exact zaD _ hb
 ·rw[e] at hb
  unfold rS at hb;rw[zcp,hf] at hb;exact hb
theorem aL.F3 (I:aL X ah σ H s):∀b∈rS X.dm,H b=none:=λb hb=>by
 rcases zam.mp (I.Dq b hb) with e|hb
 ·rw[e];exact I.free
 ·obtain⟨_,o,ho,_⟩:=I.ok.j7.mem hb
  exact I.base.free b o ho (I.ok.Lp b hb) λz=>I.ok.Dp b z hb
theorem aL.AB {g':Array GenState}{t':Nat}{d':Drawn}{ch:List Addr}(I:aL X ah σ H s)
  (QW:∀b∈ch,(b∈X.ex\/X.s₀.heap.objs.size<=b)/\b≠X.env.locals/\(∀x c,X.env.cells.lookup x=some c->c≠b)/\∀p∈X.pn++ah,p.1≠b)
  (keep:∀b o,b≠X.env.locals->b∉X.fs->b∉ch->s.heap.get? b=some o->H b=none->h'.get? b=some o)
  (slot:∀b o,b≠X.env.locals->b∈X.fs->b∉ch->s.heap.get? b=some o->H b=none->∃sl,h'.get? b=some {o with slots:=sl}) (free:∀b o,b∉ch->s.heap.get? b=some o->H b=none->H' b=none)
  (there:∀b o,b∉ch->s.heap.get? b=some o->∃o',h'.get? b=some o')
  (sE:∀b xs,H b=some (.gQ xs)->H' b=some (.gQ xs)) (rE:∀b o u,H b=some (.rR o u)->H' b=some (.rR o u)) (sF:∀b ps,H b=some (.rD ps)->∃jC,H' b=some (.rD (ps++jC)))
  (ns:∀m,s.heap.Ns X.env.locals m->h'.Ns X.env.locals m) (cA:mT X.prog X.w H' h') (hg:AllBare g'):
  aL X ah σ H' {s with heap:=h',gens:=g',drawn:=d',toks:=t' }:=by
 have neL:∀b o,X.s₀.heap.get? b=some o->b≠X.env.locals:=λb o e=>zaq (zak (zan e) I.ok.above)
 have neC:∀b o,X.s₀.heap.get? b=some o->b∉X.ex->b∉ch:=λb o e hx hb=>by
  rcases (QW b hb).1 with z|z
  ·exact hx z
  ·exact absurd (zak (zan e) z) (zaO _)
 have Vy:∀x c,X.env.cells.lookup x=some c->∀v,s.heap.IsCell c v->h'.IsCell c v:=λx c e v ⟨o,ho,hd⟩=>by
  have nch:c∉ch:=λz=>(QW c z).2.2.1 x c e rfl
  by_cases hc:c∈X.fs
  ·obtain⟨sl,q⟩:=slot c o (I.Lq x c e) hc nch ho (I.jJ x c e)
   exact⟨_,q,hd⟩
  ·exact⟨o,keep c o (I.Lq x c e) hc nch ho (I.jJ x c e),hd⟩
 refine⟨I.ok,I.os,hg,⟨λb o e n hb hx=>?_,λb o e n hb hx=>?_,λb o e n hx=>?_,λb o e hx=>?_,λb xs e=>sE b xs (I.base.sE b xs e),λb o xs e=>rE b o xs (I.base.rE b o xs e),λb ps e=>?_⟩,?_,λx c e=>?_,?_,λx c e=>?_,λp hp=>?_,cA,I.len⟩
 ·exact keep b o (neL b o e) hb (neC b o e hx) (I.base.keep b o e n hb hx) (I.base.free b o e n hx)
 ·obtain⟨sl,e1⟩:=I.base.slot b o e n hb hx
  obtain⟨Lr,e2⟩:=slot b _ (neL b o e) hb (neC b o e hx) e1 (I.base.free b o e n hx)
  exact⟨Lr,e2⟩
 ·obtain⟨o',e1⟩:=I.base.there b o e hx
  exact free b o' (neC b o e hx) e1 (I.base.free b o e n hx)
 ·obtain⟨o',e1⟩:=I.base.there b o e hx
  exact there b o' (neC b o e hx) e1
 ·obtain⟨m1,e1⟩:=I.base.sF b ps e
  obtain⟨m2,e2⟩:=sF b _ e1;exact⟨m1++m2,by rw[e2,Array.append_assoc]⟩
 ·obtain⟨m,hn,hl⟩:=I.As
  refine⟨m,ns m hn,λi x v e1 e2 e3=>?_⟩
  obtain⟨u,r,l⟩:=hl i x v e1 e2 e3;refine⟨u,r,?_⟩
  rcases l with l|⟨k,c,e,z⟩
  ·exact .inl l
  ·exact .inr ⟨k,c,e,Vy x c e _ z⟩
 ·obtain⟨v,z⟩:=I.cell x c e
  exact⟨v,Vy x c e v z⟩
 ·obtain⟨m,⟨o,_,_,ho,_⟩,_⟩:=I.As
  exact free _ o (λz=>(QW _ z).2.1 rfl) ho I.free
 ·obtain⟨v,o,ho,hd⟩:=I.cell x c e
  exact free c o (λz=>(QW c z).2.2.1 x c e rfl) ho (I.jJ x c e)
 ·obtain⟨e,n,ne,nf,d⟩:=I.AA p hp
  have nch:p.1∉ch:=λz=>(QW p.1 z).2.2.2 p hp rfl
  exact⟨keep p.1 p.2 ne nf nch e n,free p.1 p.2 nch e n,ne,nf,d⟩
theorem aL.un {t':Nat}(I:aL X ah σ H s)(u:Un X.fs [] H H' s.heap h')(cA:mT X.prog X.w H' h'):aL X ah σ H' {s with heap:=h',toks:=t' }:=by
 obtain⟨m,⟨o,es,ep,ho,r⟩,_⟩:=id I.As
 obtain⟨sl,hL⟩:=u.any ho I.free (by simp)
 exact I.AB (g':=s.gens) (d':=s.drawn) (ch:=[]) (λ_ z=>nomatch z) (λb o _ hb _ e n=>u.keep b o e n hb (by simp)) (λb o _ hb _ e n=>u.slot b o e n hb (by simp)) (λb o _ e n=>u.free b o e n (by simp)) (λb o _ e=>u.there b o e (by simp)) u.sE u.rE u.sF (λm' hm=>by
  obtain⟨o',es',ep',v8,r'⟩:=hm;rw[ho] at v8;cases v8
  exact⟨_,es',ep',hL,r'⟩) cA I.ig
theorem aL.call {g':Array GenState}{t':Nat}{d':Drawn}{ch:List Addr}(I:aL X ah σ H s)(u:Un (rS X.dm) ch H H' s.heap h')(cA:mT X.prog X.w H' h')(hg:AllBare g')
  (QW:∀b∈ch,(b∈X.ex\/X.s₀.heap.objs.size<=b)/\b≠X.env.locals/\(∀x c,X.env.cells.lookup x=some c->c≠b)/\∀p∈X.pn++ah,p.1≠b):
  aL X ah σ H' {s with heap:=h',gens:=g',drawn:=d',toks:=t' }:=by
 obtain⟨m,⟨o,es,ep,ho,r⟩,_⟩:=id I.As
 obtain⟨sl,hL⟩:=u.any ho I.free λz=>(QW _ z).2.1 rfl
 exact I.AB (ch:=ch) QW (λb o hL hb hc e n=>u.keep b o e n (λz=>(zam.mp (I.Dq b z)).elim hL hb) hc) (λb o _ _ hc e n=>u.any e n hc) (λb o hc e n=>u.free b o e n hc) (λb o hc e=>u.there b o e hc) u.sE u.rE u.sF (λm' hm=>by
  obtain⟨o',es',ep',v8,r'⟩:=hm;rw[ho] at v8;cases v8
  exact⟨_,es',ep',hL,r'⟩) cA hg
theorem aL.j8 {t':Nat}{it:Addr}(I:aL X ah σ H s)(k:∀b o,b≠it->s.heap.get? b=some o->h'.get? b=some o)(hn:H it=none)(hL:it≠X.env.locals)
  (h1:it∈X.ex\/X.s₀.heap.objs.size<=it) (h2:∀x c,X.env.cells.lookup x=some c->c≠it) (h3:∀p∈X.pn++ah,p.1≠it):aL X ah σ H {s with heap:=h',toks:=t' }:=by
 have nit:∀b u,H b=some u->b≠it:=λb u e z=>by rw[z,hn] at e;cases e
 refine I.AB (g':=s.gens) (d':=s.drawn) (ch:=[it]) (λb hb=>?_) (λb o _ _ hc e _=>k b o (λz=>hc (by simp[z])) e) (λb o _ _ hc e _=>⟨o.slots,k b o (λz=>hc (by simp[z])) e⟩) (λ_ _ _ _ n=>n)
  (λb o hc e=>⟨o,k b o (λz=>hc (by simp[z])) e⟩) (λ_ _ e=>e) (λ_ _ _ e=>e) (λb ps e=>⟨#[],by rw[e];simp⟩) (λm hm=>?_) (λb u e=>?_) I.ig
 ·have e:b=it:=by simpa using hb
  subst e;exact⟨h1,hL,h2,h3⟩
 ·obtain⟨o,es,ep,ho,r⟩:=hm
  exact⟨o,es,ep,k _ o (zbe hL) ho,r⟩
 ·refine (I.cA b u e).pY (λc v hc q=>k c v ?_ q) (λ_ q=>q) λ_ _ q=>q
  rcases hc with z|z
  ·rw[z];exact nit b u e
  ·exact nit c _ z
theorem aL.nF (I:aL X ah σ H s)(t:Nat):aL X ah σ H {s with toks:=t}:=I.un (h':=s.heap) (t':=t) Un.refl I.cA
theorem aL.ie (I:aL X ah σ H s)(k:∀b u,s.heap.get? b=some u->h'.get? b=some u):aL X ah σ H {s with heap:=h',toks:=t' }:=I.un (Un.ie k) (I.cA.ie k)
theorem aL.jI (I:aL X ah σ H s)(k:∀b u,s.heap.get? b=some u->h'.get? b=some u)(hp:s.heap.objs.size<=a)(new:cR X.prog X.w (bD H a o) h' a o):
  aL X ah σ (bD H a o) {s with heap:=h',toks:=t' }:=I.un (Un.jI k hp (I.cA.fresh hp)) (I.cA.jI k hp new)
theorem aL.jm (I:aL X ah σ H s)(mu:Mut (H x))(he:e=x\/H e=some (.sD x))(k:∀b u,b≠e->s.heap.get? b=some u->h'.get? b=some u)(heo:∃u,h'.get? e=some u)
  (new:cR X.prog X.w (bD H x o) h' x o):aL X ah σ (bD H x o) {s with heap:=h',toks:=t' }:=I.un (Un.jm mu he k heo) (I.cA.jm mu he k heo new)
theorem aL.F5 (I:aL X ah σ H s)(h:∀p∈afP,s.heap.get? p.1=some p.2/\H p.1=none/\p.1≠X.env.locals/\p.1∉X.fs/\∀v,p.2.data ≠ .cell v):aL X afP σ H s:=
 ⟨I.ok,I.os,I.ig,I.base,I.As,I.cell,I.free,I.jJ,λp hp=>(zbM.mp hp).elim (λz=>I.AA p (zck _ z)) (h p),I.cA,I.len⟩
theorem sI {N:List Str}(hN:N.Nodup){i j:Nat}{x:Str}(a:N[i]? = some x)(b:N[j]? = some x):i=j:=by
 obtain⟨h1,e1⟩:=zae.mp a
 obtain⟨h2,e2⟩:=zae.mp b
 exact (List.getElem_inj hN).mp (e1.trans e2.symm)
theorem wK {M:Model}{A:Around}{E:Value->Shared->Prop}{i:Nat}{x:Str}{v:V}{u:Value}{Q:Unit->Shared->Prop}(I:aL X ah σ H s)(hN:X.N.Nodup)(hi:X.N[i]? = some x)(hx:Vx X.env.scope x)(r:bG v u)
  (h:∀s',aL X ah (σ.set i (some v)) H s'->(∃a,Heap.SameBut a s.heap s'.heap/\(a=X.env.locals\/X.env.cells.lookup x=some a))->Q () s') (hf:autoParam (X.fn x=true\/X.env.scope.names.lookup x=some .local) zp_4):wpAny M A (storeName X.env x u) Q E s:=by
 obtain⟨m,hn,hl⟩:=id I.As;have Ls:(X.env.scope.kind == .class || (X.env.scope.kind == .module && X.env.locals != X.env.globals))=false:=by rw[I.ok.kind];rfl
 have afQ:i<σ.length:=by rw[I.len];exact (zae.mp hi).1
 have Lq:=I.Lq;have oz:∀{a:Addr} {h':Heap},(∃o,s.heap.get? a=some o/\H a=none)->Heap.SameBut a s.heap h'->mT X.prog X.w H h':=λ{a h'} ha hs b ob e=>by
  obtain⟨_,_,wL⟩:=ha;refine (I.cA b ob e).pY (λc w' hc q=>(hs.2 c ?_).trans q) (λ_ q=>q) λ_ _ q=>q
  rintro rfl
  rcases hc with rfl|hc
  ·rw[wL] at e;cases e
  ·rw[wL] at hc;cases hc
 rcases hx with hk|hk
 ·refine wpAny_storeName_local hk hn (λh' hn' hs=>?_) Ls
  obtain⟨oL,_,_,hoL,_⟩:=id hn;refine h _ ⟨I.ok,I.os,I.ig,⟨λb o e n hb hx=>?_,λb o e n hb hx=>?_,I.base.free,λb o e hx=>?_,I.base.sE,I.base.rE,I.base.sF⟩,⟨_,hn',λj y v' e1 e2 e3=>?_⟩,λy c e=>?_,I.free,I.jJ,λp hp=>?_,oz ⟨oL,hoL,I.free⟩ hs,by simpa using I.len⟩ ⟨_,hs,.inl rfl⟩
  ·exact (hs.2 b (zaq (zak (zan e) I.ok.above))).trans (I.base.keep b o e n hb hx)
  ·obtain⟨sl,e1⟩:=I.base.slot b o e n hb hx
   exact⟨sl,(hs.2 b (zaq (zak (zan e) I.ok.above))).trans e1⟩
  ·obtain⟨o',e1⟩:=I.base.there b o e hx
   exact⟨o',(hs.2 b (zaq (zak (zan e) I.ok.above))).trans e1⟩
  ·by_cases hj:j=i
   ·subst hj
    rw[hi] at e1;cases e1
    rw[zaC afQ] at e2;cases e2;exact⟨u,r,.inl ⟨hk,by simp⟩⟩
   ·rw[zaz (zbe hj)] at e2
    obtain⟨u',r',q⟩:=hl j y v' e1 e2 e3;refine⟨u',r',?_⟩
    rcases q with⟨k,e⟩|⟨k,c,e,z⟩
    ·refine .inl ⟨k,?_⟩
     have:y≠x:=λe=>hj (sI hN e1 (e ▸ hi))
     simp[this,e]
    ·exact .inr ⟨k,c,e,z.sameBut hs (Lq y c e)⟩
  ·obtain⟨w',z⟩:=I.cell y c e
   exact⟨w',z.sameBut hs (Lq y c e)⟩
  ·obtain⟨e,n,ne,nf,d⟩:=I.AA p hp
   exact⟨(hs.2 p.1 ne).trans e,n,ne,nf,d⟩
 ·have hfn:X.fn x=true:=by
   rcases hf with z|z
   ·exact z
   ·rw[z] at hk;cases hk
  obtain⟨c,hc⟩:=I.ok.has x (.inl hk)
  obtain⟨w',z⟩:=I.cell x c hc;refine wpAny_storeName_cell I.ok.kind hk hc z (λh' F6 hs=>?_)
  obtain⟨oc,hoc,alr⟩:=id z;refine h {s with heap:=h' } ⟨I.ok,I.os,I.ig,⟨λb o e n hb hx=>?_,λb o e n hb hx=>?_,I.base.free,λb o e hx=>?_,I.base.sE,I.base.rE,I.base.sF⟩,⟨m,hn.sameBut hs (zbe (Lq x c hc)),λj y v' e1 e2 e3=>?_⟩,λy c' e=>?_,I.free,I.jJ,λp hp=>?_,oz ⟨oc,hoc,I.jJ x c hc⟩ hs,by simpa using I.len⟩ ⟨c,hs,.inr hc⟩
  ·exact (hs.2 b (zaq (zak (zan e) (I.ok.Zd x c hfn hc)))).trans (I.base.keep b o e n hb hx)
  ·obtain⟨sl,e1⟩:=I.base.slot b o e n hb hx
   exact⟨sl,(hs.2 b (zaq (zak (zan e) (I.ok.Zd x c hfn hc)))).trans e1⟩
  ·obtain⟨o',e1⟩:=I.base.there b o e hx
   exact⟨o',(hs.2 b (zaq (zak (zan e) (I.ok.Zd x c hfn hc)))).trans e1⟩
  ·by_cases hj:j=i
   ·subst hj
    rw[hi] at e1;cases e1
    rw[zaC afQ] at e2;cases e2;exact⟨u,r,.inr ⟨.inl hk,c,hc,F6⟩⟩
   ·rw[zaz (zbe hj)] at e2
    obtain⟨u',r',q⟩:=hl j y v' e1 e2 e3;refine⟨u',r',?_⟩
    rcases q with q|⟨k,c',e,z'⟩
    ·exact .inl q
    ·refine .inr ⟨k,c',e,z'.sameBut hs ?_⟩
     rintro rfl
     exact hj (sI hN e1 (I.ok.inj _ _ _ e hc ▸ hi))
  ·by_cases hcc:c'=c
   ·subst hcc;exact⟨_,F6⟩
   ·obtain⟨w2,z2⟩:=I.cell y c' e
    exact⟨w2,z2.sameBut hs hcc⟩
  ·obtain⟨e,n,ne,nf,d⟩:=I.AA p hp
   refine⟨(hs.2 p.1 ?_).trans e,n,ne,nf,d⟩
   intro q;rw[q,hoc] at e;have q':oc=p.2:=zaw e
   exact d w' (by rw[<-q'];exact alr)
theorem oA (I:aL X ah σ H s)(hN:X.N.Nodup)(hi:X.N[i]? = some x)(hx:Vx X.env.scope x)(r:bG v u)
  (h:∀s',aL X ah (σ.set i (some v)) H s'->Q () s') (hf:autoParam (X.fn x=true\/X.env.scope.names.lookup x=some .local) zp_4):wpAny M A (storeName X.env x u) Q E s:=
 wK I hN hi hx r (λs' I' _=>h s' I') hf
theorem aL.AD (I:aL X ah σ H s)(ho:s'.os=s.os)(u:Un (rS X.dm) ch H H' s.heap s'.heap)(cA:mT X.prog X.w H' s'.heap)(hg:AllBare s'.gens)
  (QW:∀b∈ch,(b∈X.ex\/X.s₀.heap.objs.size<=b)/\b≠X.env.locals/\(∀x c,X.env.cells.lookup x=some c->c≠b)/\∀p∈X.pn++ah,p.1≠b):aL X ah σ H' s':=by
 obtain⟨h',g',d',t',o'⟩:=s';have e:o'=s.os:=ho
 subst e;exact I.call (g':=g') (t':=t') (d':=d') u cA hg QW
end
noncomputable abbrev XK:=Value->Option Addr->Hp->Prop
noncomputable abbrev St:=List (Option V)
noncomputable abbrev VK:=V->Hp->Prop
noncomputable abbrev TE:=St->Hp->VK->Prop
noncomputable abbrev TT:=St->Hp->(Bool->Hp->Prop)->Prop
noncomputable abbrev TA:=St->Hp->(List V->Hp->Prop)->Prop
structure sJ where
 nx:St->Hp->Prop
 rt:VK
 bk:St->Hp->Prop:=λ_ _=>False
 ct:St->Hp->Prop:=λ_ _=>False
noncomputable abbrev TS:=sJ->St->Hp->Prop
noncomputable def EP (X:Cx)(ah:List (Addr×Obj))(σ:St)(Q:VK)(u:Value)(s':Shared):Prop:=∃v H',aL X ah σ H' s'/\bG v u/\Q v H'
noncomputable def TP (X:Cx)(ah:List (Addr×Obj))(σ:St)(Q:Bool->Hp->Prop)(b:Bool)(s':Shared):Prop:=∃H',aL X ah σ H' s'/\Q b H'
noncomputable def AP (X:Cx)(ah:List (Addr×Obj))(σ:St)(Q:List V->Hp->Prop)(us:List Value)(s':Shared):Prop:=∃vs H',aL X ah σ H' s'/\bH vs us/\Q vs H'
noncomputable def SP (X:Cx)(ah:List (Addr×Obj))(D:sJ)(f:Flow)(s':Shared):Prop:=
 match f with
 |.next=>∃d9 H',aL X ah d9 H' s'/\D.nx d9 H'
 |.brk=>∃d9 H',aL X ah d9 H' s'/\D.bk d9 H'
 |.cont=>∃d9 H',aL X ah d9 H' s'/\D.ct d9 H'
 |.ret u=>∃v d9 H',aL X ah d9 H' s'/\bG v u/\D.rt v H'
noncomputable def PE (X:Cx)(e:Expr)(t:TE):Prop:=
 ∀(ah:List (Addr×Obj)) (s:Shared) (σ:St) (H:Hp) (Q:VK),aL X ah σ H s->t σ H Q->wpAny (model X.prog X.w) X.A (eval e X.env) (EP X ah σ Q) X.xe s
noncomputable def PT (X:Cx)(e:Expr)(t:TT):Prop:=
 ∀(ah:List (Addr×Obj)) (s:Shared) (σ:St) (H:Hp) (Q:Bool->Hp->Prop),aL X ah σ H s->t σ H Q->wpAny (model X.prog X.w) X.A (isTrue e X.env (eval e X.env)) (TP X ah σ Q) X.xe s
noncomputable def PW (X:Cx)(e:Expr)(t:TT):Prop:=
 ∀(sL:Sem Value) (ah:List (Addr×Obj)) (s:Shared) (σ:St) (H:Hp) (Q:Bool->Hp->Prop),aL X ah σ H s->t σ H Q->wpAny (model X.prog X.w) X.A (isTrue e X.env sL) (TP X ah σ Q) X.xe s
theorem PW.pt (h:PW X e t):PT X e t:=h _
noncomputable def PA (X:Cx)(es:List Expr)(t:TA):Prop:=
 ∀(pos:Pos) (ah:List (Addr×Obj)) (s:Shared) (σ:St) (H:Hp) (Q:List V->Hp->Prop),aL X ah σ H s->t σ H Q->wpAny (model X.prog X.w) X.A (spliced (backTo pos (starEach es X.env))) (AP X ah σ Q) X.xe s
noncomputable def PS (X:Cx)(st:Stmt)(t:TS):Prop:=
 ∀(ah:List (Addr×Obj)) (s:Shared) (σ:St) (H:Hp) (D:sJ),aL X ah σ H s->t D σ H->wpAny (model X.prog X.w) X.A (exec st X.env) (SP X ah D) X.xe s
noncomputable def wM (X:Cx)(st:List Stmt)(t:TS):Prop:=
 ∀(ah:List (Addr×Obj)) (s:Shared) (σ:St) (H:Hp) (D:sJ),aL X ah σ H s->t D σ H->wpAny (model X.prog X.w) X.A (execs st X.env) (SP X ah D) X.xe s
theorem cS {α:Type}{t:Sem α}{Q Q' : α -> Shared->Prop}{M:Model}{A:Around}{E:Value->Shared->Prop}{s:Shared}(h:wpAny M A t Q E s)(hQ:∀a s,Q a s->Q' a s):wpAny M A t Q' E s:=zaK h hQ λ_ _ x=>x
section
variable {X:Cx}
noncomputable def afR (i:Nat):TE:=λσ H Q=>∃v,σ[i]? = some (some v)/\Q v H
noncomputable def tC (v:V):TE:=λ_ H Q=>Q v H
theorem Lu (hN:X.N[i]? = some x)(hv:Vis X.env.scope x)(hd:autoParam ((x == ("__debug__" : Str))=false) zp_1)(AE:autoParam ((x == ("__classdict__" : Str))=false) zp_1):PE X (.Name x pos) (afR i):=by
 intro ah s σ H Q I h;obtain⟨v,e,h⟩:=h;obtain⟨m,hn,hl⟩:=I.As;obtain⟨u,r,l⟩:=hl i x v hN e hv;have eW:EP X ah σ Q u s:=⟨v,H,I,r,h⟩
 rcases l with⟨hk,hm⟩|⟨hk,c,hc,AF⟩
 ·exact wpAny_Name (wpAny_loadName_local I.ok.kind hk hn hm eW) hd
 ·rcases hk with hk|hk
  ·exact wpAny_Name (wpAny_loadName_cell I.ok.kind hk hc AF eW) hd
  ·exact wpAny_Name (wpAny_loadName_free I.ok.kind hk hc AF eW AE) hd
theorem Ze {i j pos}:PE X (.Constant (.int i) j pos) (tC (.int i)):=λ_ _ _ H _ I h=>wpAny_Constant_int ⟨.int i,H,I.nF _,⟨_,rfl⟩,h⟩
theorem afS {b j pos}:PE X (.Constant (.bool b) j pos) (tC (.bl b)):=λ_ _ _ H _ I h=>Constant_bool ⟨.bl b,H,I,rfl,h⟩
theorem Zf {j pos}:PE X (.Constant .none j pos) (tC .bB):=λ_ _ _ H _ I h=>Constant_none ⟨.bB,H,I,rfl,h⟩
theorem Zg {x j pos}:PE X (.Constant (.str x) j pos) (tC (.str x)):=λ_ _ _ H _ I h=>Calls.Constant_str ⟨.str x,H,I.nF _,⟨_,rfl⟩,h⟩
noncomputable def Gl (X:Cx)(x:Str):Prop:=X.env.kindOf x=some .globalImplicit
theorem mU (I:aL X ah σ H s)(hg:Gl X x)(hm:X.mg x=some u)(h:Q u s)
  (hd:autoParam ((x == ("__debug__" : Str))=false) zp_1):wpAny (model X.prog X.w) X.A (eval (.Name x pos) X.env) Q E s:=
 zdl I.ok.kind hg (Calls.loadGlobal_global (by rw[I.ok.sG];exact I.sH.sG.keeps I.bk) hm h) hd
theorem sM (I:aL X ah σ H s)(hg:Gl X x)(hm:X.mg x=none)(hv:bootBuiltins x=some u)(h:Q u s)
  (hn:autoParam (x ≠ "__name__") zp_1) (hd:autoParam ((x == ("__debug__" : Str))=false) zp_1):wpAny (model X.prog X.w) X.A (eval (.Name x pos) X.env) Q E s:=by
 obtain⟨mb,h1,h2⟩:=I.sH.Vw;exact zdl I.ok.kind hg (Calls.loadGlobal_builtin (by rw[I.ok.sG];exact I.sH.sG.keeps I.bk) hm (by rw[I.ok.Vw];exact h1.keeps I.bk) ((h2 x hn).trans hv) h) hd
theorem yT (hg:Gl X x)(hm:X.mg x=some u)(r:bG v u)(hd:autoParam ((x == ("__debug__" : Str))=false) zp_1):PE X (.Name x pos) (tC v):=
 λ_ _ _ H _ I h=>mU I hg hm ⟨v,H,I,r,h⟩ hd
theorem Q7 (hg:Gl X x)(hm:X.mg x=none)(hv:bootBuiltins x=some u)(r:bG v u)(hn:autoParam (x ≠ "__name__") zp_1)(hd:autoParam ((x == ("__debug__" : Str))=false) zp_1):PE X (.Name x pos) (tC v):=
 λ_ _ _ H _ I h=>sM I hg hm hv ⟨v,H,I,r,h⟩ hn hd
variable {a b:Expr}{ta tb:TE}{pos:Pos}
noncomputable def PC (X:Cx)(op:CmpOp)(a b:Expr)(t:TE):Prop:=
 ∀(ah:List (Addr×Obj)) (s:Shared) (σ:St) (H:Hp) (Q:VK),aL X ah σ H s->t σ H Q ->
  wpAny (model X.prog X.w) X.A (eval a X.env) (λv cM=>wpAny (model X.prog X.w) X.A (eval b X.env) (λu lY=>wpAny (model X.prog X.w) X.A (compareOp op v u) (EP X ah σ Q) X.xe lY) X.xe cM) X.xe s
noncomputable def tB (t:TE):TT:=λσ H Q=>t σ H λx H1=>∃c,x = .bl c/\Q c H1
theorem Zh (h:PC X op a b t)(h1:behindInMarks op b=false:=by first|exact Lv _ (by decide) (by decide)|rfl):PE X (.Compare a [op] [b] pos) t:=λah s σ H Q I hw=>wpAny_Compare1 (h ah s σ H Q I hw) h1
theorem Zi (h:PC X op a b t)(h1:behindInMarks op b=false:=by first|exact Lv _ (by decide) (by decide)|rfl):PT X (.Compare a [op] [b] pos) (tB t):=by
 intro ah s σ H Q I hw;refine wpAny_isTrue_Compare1 (cS (h ah s σ H _ I hw) λv s1 h1=>cS h1 λu s2 h2=>cS h2 λc s3 ⟨x,H1,I1,r1,q1⟩=>?_) h1
 obtain⟨d,rfl,q⟩:=q1;cases r1;exact zba ⟨H1,I1,q⟩
theorem Zj (h:PE X e t)(he:autoParam (∀sL,isTrue e X.env sL=(do let v <-sL;standAt e.pos;holding [v] (truthy v))) zp_3):PT X e (tB t):=by
 intro ah s σ H Q I hw;refine isTrue_plain (cS (h ah s σ H _ I hw) λv s1 ⟨x,H1,I1,r1,q1⟩=>?_) (he _)
 obtain⟨d,rfl,q⟩:=q1;cases r1;exact zba ⟨H1,I1,q⟩
variable {tA tB':TT}{dw:List Expr}
noncomputable def als (t u:TT):TT:=λσ H Q=>t σ H λc H1=>if c=true then u σ H1 Q else Q false H1
noncomputable def tOr (t u:TT):TT:=λσ H Q=>t σ H λc H1=>if c=true then Q true H1 else u σ H1 Q
noncomputable def alu (t:TT):TT:=λσ H Q=>t σ H λc H1=>Q (!c) H1
theorem Q8 (ha:PT X a tA):PW X (.BoolOp .And [a] pos) tA:=by
 intro wh ah s σ H Q I h;refine isTrue_and (cS (ha ah s σ H Q I h) λc s1 e=>?_)
 cases c with
 |true=>exact isTrue_and_nil e
 |false=>exact e
theorem Zk (ha:PT X a tA):PW X (.BoolOp .Or [a] pos) tA:=by
 intro wh ah s σ H Q I h;refine isTrue_or (cS (ha ah s σ H Q I h) λc s1 e=>?_)
 cases c with
 |false=>exact isTrue_or_nil e
 |true=>exact e
theorem Zl (ha:PT X a tA)(hb:PW X (.BoolOp .And (b::dw) pos) tB'):PW X (.BoolOp .And (a::b::dw) pos) (als tA tB'):=by
 intro wh ah s σ H Q I h;refine isTrue_and (cS (ha ah s σ H _ I h) λc s1 ⟨H1,I1,q1⟩=>?_)
 cases c with
 |true=>exact hb wh ah s1 σ H1 Q I1 q1
 |false=>exact⟨H1,I1,q1⟩
theorem afT (ha:PT X a tA)(hb:PW X (.BoolOp .Or (b::dw) pos) tB'):PW X (.BoolOp .Or (a::b::dw) pos) (tOr tA tB'):=by
 intro wh ah s σ H Q I h;refine isTrue_or (cS (ha ah s σ H _ I h) λc s1 ⟨H1,I1,q1⟩=>?_)
 cases c with
 |true=>exact⟨H1,I1,q1⟩
 |false=>exact hb wh ah s1 σ H1 Q I1 q1
theorem Zm (ha:PT X a tA):PT X (.UnaryOp .Not a pos) (alu tA):=by
 intro ah s σ H Q I h;exact isTrue_not (ha ah s σ H (λc H1=>Q (!c) H1) I h)
noncomputable def afU (ta tb:TE):TE:=λσ H Q=>ta σ H λx H1=>∃c,x = .bl c/\if c=true then tb σ H1 Q else Q (.bl false) H1
noncomputable def alv (ta tb:TE):TE:=λσ H Q=>ta σ H λx H1=>∃c,x = .bl c/\if c=true then Q (.bl true) H1 else tb σ H1 Q
noncomputable def afV (ta:TE):TE:=λσ H Q=>ta σ H λx H1=>∃c,x = .bl c/\Q (.bl (!c)) H1
theorem Zn {op}(h:PE X a t):PE X (.BoolOp op [a] pos) t:=λah s σ H Q I hw=>BoolOp_one (h ah s σ H Q I hw)
theorem Zo (ha:PE X a ta)(hb:PE X (.BoolOp .And (b::dw) pos) tb):PE X (.BoolOp .And (a::b::dw) pos) (afU ta tb):=by
 intro ah s σ H Q I h;refine BoolOp_and (cS (ha ah s σ H _ I h) λv s1 ⟨x,H1,I1,r1,q1⟩=>?_)
 obtain⟨c,rfl,q1⟩:=q1;cases r1;refine zba ?_
 cases c with
 |true=>exact hb ah s1 σ H1 Q I1 q1
 |false=>exact⟨.bl false,H1,I1,rfl,q1⟩
theorem afW (ha:PE X a ta)(hb:PE X (.BoolOp .Or (b::dw) pos) tb):PE X (.BoolOp .Or (a::b::dw) pos) (alv ta tb):=by
 intro ah s σ H Q I h;refine BoolOp_or (cS (ha ah s σ H _ I h) λv s1 ⟨x,H1,I1,r1,q1⟩=>?_)
 obtain⟨c,rfl,q1⟩:=q1;cases r1;refine zba ?_
 cases c with
 |false=>exact hb ah s1 σ H1 Q I1 q1
 |true=>exact⟨.bl true,H1,I1,rfl,q1⟩
theorem Zp (ha:PE X a ta):PE X (.UnaryOp .Not a pos) (afV ta):=by
 intro ah s σ H Q I h;refine UnaryOp_ (cS (ha ah s σ H _ I h) λv s1 ⟨x,H1,I1,r1,q1⟩=>?_)
 obtain⟨c,rfl,q1⟩:=q1;cases r1;exact not_of (zba ⟨.bl (!c),H1,I1,rfl,q1⟩)
noncomputable def tIf (t:TT)(ta tb:TE):TE:=λσ H Q=>t σ H λc H1=>if c=true then ta σ H1 Q else tb σ H1 Q
theorem Lw (hc:PT X c tA)(ha:PE X a ta)(hb:PE X b tb):PE X (.IfExp c a b pos) (tIf tA ta tb):=by
 intro ah s σ H Q I h;refine wpAny_IfExp (cS (hc ah s σ H _ I h) λd s1 ⟨H1,I1,q1⟩=>?_)
 cases d with
 |true=>exact ha ah s1 σ H1 Q I1 q1
 |false=>exact hb ah s1 σ H1 Q I1 q1
end
noncomputable def jn (K:PySem.W.Frag)(H:Hp)(a:Addr)(xs:List V):Prop:=
 Rd H a (.bA xs) \/
  ∃(o:Obj) (aX:Array Value) (n:Nat),K.lookup a=some o/\o.cls = .type "list" /\ o.dict=none/\o.data = .seq aX n/\aX.size<=sizeLine/\bH xs aX.toList
noncomputable def nM (K:PySem.W.Frag)(H:Hp)(a:Addr)(xs:List V):Prop:=
 Rd H a (.gQ xs) \/
  ∃(o:Obj) (aX:Array Value) (n:Nat),K.lookup a=some o/\o.cls = .type "tuple" /\ o.data = .seq aX n/\aX.size<=sizeLine/\bH xs aX.toList
noncomputable def alw:Value->Option V
 |.none=>some .bB
 |.bool b=>some (.bl b)
 |.int i _=>some (.int i)
 |.str x _=>some (.str x)
 |.bytes b _=>some (.K9 b)
 |.float b _=>some (.flt b)
 |.ref a=>some (.ref a)
 |.type n=>some (.ty n)
 |_=>none
theorem bG.abs (r:bG x u):alw u=some x:=by
 cases x with
 |bB=>cases r;rfl
 |bl _=>cases r;rfl
 |int _=>obtain⟨t,rfl⟩:=r;rfl
 |str _=>obtain⟨t,rfl⟩:=r;rfl
 |K9 _=>obtain⟨t,rfl⟩:=r;rfl
 |flt _=>obtain⟨t,rfl⟩:=r;rfl
 |ref _=>cases r;rfl
 |ty _=>cases r;rfl
theorem bG.inj (r:bG x u)(q:bG y u):x=y:=zaw (r.abs.symm.trans q.abs)
theorem bH.inj:∀{xs ys:List V} {us:List Value},bH xs us->bH ys us->xs=ys
 |_,_,_,.nil,.nil=>rfl
 |_,_,_,.cons r t,.cons r' t'=>by rw[r.inj r',bH.inj t t']
theorem jn.of {K:PySem.W.Frag}(h:H a=some (.bA xs)):jn K H a xs:=.inl (.inl h)
theorem nM.of {K:PySem.W.Frag}(h:H a=some (.gQ xs)):nM K H a xs:=.inl (.inl h)
theorem aL.list (I:aL X ah σ H s)(h:jn X.K H a xs):∃aX:List Value,bH xs aX/\PlainL s.heap a aX.toArray/\xs.length<=sizeLine:=by
 rcases h with h|⟨o,aX,n,hk,hc,hd,hs,hz,r⟩
 ·obtain⟨z,aX,n,r,e⟩:=h.ok I.cA
  exact⟨aX,r,⟨_,n,e,rfl,rfl,rfl⟩,z⟩
 ·refine⟨aX.toList,r,⟨o,n,I.nE a o hk,hc,hd,by simpa using hs⟩,?_⟩
  have e:=r.length;simp only[zcX] at e;omega
theorem aL.fO (I:aL X ah σ H s)(h:nM X.K H a xs):∃aX:List Value,bH xs aX/\IsTup s.heap a aX.toArray/\xs.length<=sizeLine:=by
 rcases h with h|⟨o,aX,n,hk,hc,hs,hz,r⟩
 ·obtain⟨z,aX,r,p⟩:=h.ok I.cA
  exact⟨aX,r,p,z⟩
 ·refine⟨aX.toList,r,⟨o,I.nE a o hk,hc,n,by simpa using hs⟩,?_⟩
  have e:=r.length;simp only[zcX] at e;omega
theorem aL.AG (I:aL X ah σ H s)(h:jn X.K H a xs)(h':jn X.K H a ys):xs=ys:=by
 obtain⟨aX,r,⟨o,n,e,_,_,d⟩,_⟩:=I.list h
 obtain⟨its',r',⟨o',n',e',_,_,d'⟩,_⟩:=I.list h'
 rw[e] at e';cases e'
 rw[d] at d';injection d' with d1 _
 have:aX=its':=by simpa using congrArg Array.toList d1
 subst this;exact r.inj r'
theorem aL.wN (I:aL X ah σ H s)(h:nM X.K H a xs)(h':nM X.K H a ys):xs=ys:=by
 obtain⟨aX,r,⟨o,e,_,n,d⟩,_⟩:=I.fO h
 obtain⟨its',r',⟨o',e',_,n',d'⟩,_⟩:=I.fO h'
 rw[e] at e';cases e'
 rw[d] at d';injection d' with d1 _
 have:aX=its':=by simpa using congrArg Array.toList d1
 subst this;exact r.inj r'
noncomputable abbrev Cx.rF (X:Cx)(E:Value->Shared->Prop):Cx:={X with xe:=E}
noncomputable abbrev Cx.Dc (X:Cx):Cx:=X.rF λ_ _=>False
theorem Cx.Ok.rF {X:Cx}(ok:X.Ok)(E:Value->Shared->Prop):(X.rF E).Ok:=
 ⟨ok.sH,ok.kind,ok.sG,ok.Vw,ok.above,ok.inj,ok.has,ok.Zd,ok.hd,ok.frames,ok.stk,ok.exf,ok.bs,ok.QU,ok.jj,ok.Dp,ok.j7,ok.Lp⟩
theorem Cx.Ok.gh {X:Cx}{E:Value->Shared->Prop}(ok:(X.rF E).Ok):X.Ok:=
 ⟨ok.sH,ok.kind,ok.sG,ok.Vw,ok.above,ok.inj,ok.has,ok.Zd,ok.hd,ok.frames,ok.stk,ok.exf,ok.bs,ok.QU,ok.jj,ok.Dp,ok.j7,ok.Lp⟩
theorem aL.rF (I:aL X ah σ H s)(E:Value->Shared->Prop):aL (X.rF E) ah σ H s:=⟨I.ok.rF E,I.os,I.ig,I.base,I.As,I.cell,I.free,I.jJ,I.AA,I.cA,I.len⟩
theorem aL.gh (I:aL (X.rF E) ah σ H s):aL X ah σ H s:=⟨I.ok.gh,I.os,I.ig,I.base,I.As,I.cell,I.free,I.jJ,I.AA,I.cA,I.len⟩
theorem SP.gh (h:SP (X.rF E) ah D f s'):SP X ah D f s':=by
 cases f with
 |next=>obtain⟨d9,H',I,q⟩:=h;exact⟨d9,H',I.gh,q⟩
 |brk=>obtain⟨d9,H',I,q⟩:=h;exact⟨d9,H',I.gh,q⟩
 |cont=>obtain⟨d9,H',I,q⟩:=h;exact⟨d9,H',I.gh,q⟩
 |ret u=>obtain⟨v,d9,H',I,r,q⟩:=h;exact⟨v,d9,H',I.gh,r,q⟩
theorem wM.Dc {st:List Stmt}{t:TS}(h:wM X.Dc st t):wM X st t:=λah s σ H D I hw =>
 zaK (h ah s σ H D (I.rF _) hw) (λ_ _ q=>q.gh) λ_ _ z=>False.elim z
section
variable {X:Cx}{st:Stmt}{dw:List Stmt}{t u:TS}{e:Expr}{te:TE}{pos:Pos}
noncomputable def afX:TS:=λD σ H=>D.nx σ H
noncomputable def alx (t u:TS):TS:=λD σ H=>t {D with nx:=u D} σ H
theorem Q9:wM X [] afX:=λ_ _ σ H _ I h=>zct ⟨σ,H,I,h⟩
theorem sN (h1:PS X st t)(h2:wM X dw u):wM X (st::dw) (alx t u):=by
 intro ah s σ H D I h;refine zdA (cS (h1 ah s σ H {D with nx:=u D} I h) λf s1 q=>?_)
 cases f with
 |next =>
  obtain⟨d9,H',I',q⟩:=q;exact h2 ah s1 d9 H' D I' q
 |ret v=>exact q
 |brk=>exact q
 |cont=>exact q
theorem F7 (h1:PS X st t):wM X [st] t:=by
 intro ah s σ H D I h;refine zdA (cS (h1 ah s σ H D I h) λf s1 q=>?_)
 cases f with
 |next=>exact zct q
 |ret v=>exact q
 |brk=>exact q
 |cont=>exact q
theorem aL.quiet (I:aL X ah σ H s):interactive X.env=false:=by simp[interactive,I.ok.kind]
noncomputable def afY (te:TE):TS:=λD σ H=>te σ H λ_ H1=>D.nx σ H1
theorem F8 (he:PE X e te)(hs:autoParam (swapsWith e none pos.line X.env=pure false) zp_0):PS X (.Expr e pos) (afY te):=by
 intro ah s σ H D I h;exact wpAny_Expr_any (cS (he ah s σ H _ I h) λv s1 ⟨x,H1,I1,r1,q1⟩=>⟨σ,H1,I1,q1⟩) I.quiet hs
noncomputable def aly (te:TE):TS:=λD σ H=>te σ H D.rt
theorem Zq (he:PE X e te):PS X (.Return (some e) pos) (aly te):=by
 intro ah s σ H D I h;exact wpAny_Return_some (cS (he ah s σ H _ I h) λv s1 ⟨x,H1,I1,r1,q1⟩=>⟨x,σ,H1,I1,r1,q1⟩)
noncomputable def alz (c:TT)(t u:TS):TS:=λD σ H=>c σ H λb H1=>if b=true then t D σ H1 else u D σ H1
theorem afZ (hc:PT X c tc)(ha:wM X a t)(hb:wM X b u):PS X (.If c a b pos) (alz tc t u):=by
 intro ah s σ H D I h;refine wpAny_If (cS (hc ah s σ H _ I h) λd s1 ⟨H1,I1,q1⟩=>?_)
 cases d with
 |true=>exact ha ah s1 σ H1 D I1 q1
 |false=>exact hb ah s1 σ H1 D I1 q1
end
noncomputable abbrev TG:=V->St->Hp->(St->Hp->Prop)->Prop
noncomputable abbrev TGs:=List V->St->Hp->(St->Hp->Prop)->Prop
noncomputable def PG (X:Cx)(target:Expr)(t:TG):Prop:=
 ∀(ah:List (Addr×Obj)) (s:Shared) (σ:St) (H:Hp) (v:V) (u:Value) (Q:St->Hp->Prop),aL X ah σ H s->bG v u->t v σ H Q ->
  wpAny (model X.prog X.w) X.A (assign target X.env u) (λ_ s'=>∃d9 H',aL X ah d9 H' s'/\Q d9 H') X.xe s
noncomputable def Q_ (X:Cx)(ts:List Expr)(t:TGs):Prop:=
 ∀(ah:List (Addr×Obj)) (s:Shared) (σ:St) (H:Hp) (vs:List V) (us:List Value) (Q:St->Hp->Prop),aL X ah σ H s->bH vs us->t vs σ H Q ->
  wpAny (model X.prog X.w) X.A (assignInOrder ((assignEach ts X.env).map (·.2)) us) (λ_ s'=>∃d9 H',aL X ah d9 H' s'/\Q d9 H') X.xe s
noncomputable abbrev af0:=V->V->V->Hp->(Hp->Prop)->Prop
noncomputable def Zr (X:Cx)(t:af0):Prop:=
 ∀(ah:List (Addr×Obj)) (s:Shared) (σ:St) (H:Hp) (o i v:V) (ov iv u:Value) (Q:Hp->Prop),aL X ah σ H s->bG o ov->bG i iv->bG v u->t o i v H Q ->
  wpAny (model X.prog X.w) X.A (setItem ov iv u) (λ_ s'=>∃H',aL X ah σ H' s'/\Q H') X.xe s
noncomputable def F9 (i:Nat):TG:=λv σ H Q=>Q (σ.set i (some v)) H
theorem Ra (hN:X.N.Nodup)(hi:X.N[i]? = some x)(hx:Vx X.env.scope x)(hf:autoParam (X.fn x=true\/X.env.scope.names.lookup x=some .local) zp_4):PG X (.Name x pos) (F9 i):=by
 intro ah s σ H v u Q I r h;exact wpAny_assign_Name (oA I hN hi hx r (λs' I'=>⟨_,H,I',h⟩) hf)
noncomputable def alA:TGs:=λvs σ H Q=>vs=[]/\Q σ H
noncomputable def af1 (t:TG)(u:TGs):TGs:=λvs σ H Q=>∃v r,vs=v::r/\t v σ H λd9 H'=>u r d9 H' Q
theorem Rb:Q_ X [] alA:=by
 intro ah s σ H vs us Q I r h;obtain⟨e,h⟩:=h;subst e;cases r;exact assignInOrder_nil ⟨σ,H,I,h⟩
theorem Lx (h1:PG X e t)(h2:Q_ X es u)
  (hs:autoParam ((assignEach (e::es) X.env).map (·.2)=assign e X.env::(assignEach es X.env).map (·.2)) zp_0):Q_ X (e::es) (af1 t u):=by
 intro ah s σ H vs us Q I r h;obtain⟨v,vr,e1,h⟩:=h;subst e1;cases r with
 |cons r rr =>
  rw[hs];refine assignInOrder_cons (cS (h1 ah s σ H _ _ _ I r h) λ_ s1 ⟨σ1,H1,I1,q1⟩=>?_)
  exact h2 ah s1 σ1 H1 _ _ Q I1 rr q1
noncomputable def alB (K:PySem.W.Frag)(n:Nat)(t:TGs):TG:=λv σ H Q=>∃a xs,v = .ref a/\nM K H a xs/\xs.length=n/\t xs σ H Q
theorem Zs (hc:X.fS=true)(h:Q_ X es t)
  (hn:autoParam ((assignEach es X.env).length=n) zp_0) (pV:autoParam ((assignEach es X.env).findIdx? (·.1)=none) zp_0):PG X (.Tuple es k pos) (alB X.K n t):=by
 intro ah s σ H v u Q I r hw;obtain⟨a,xs,e1,hq,hl,hw⟩:=hw;subst e1;cases r;obtain⟨aX,rv,ht,hz⟩:=I.fO hq;refine assign_Tuple_tuple (I.ok.hd hc) ht (by simp[hn,<-hl,rv.length]) pV λh' hx=>?_
 have I1:aL X ah σ H {s with heap:=h' }:=I.ie (t':=s.toks) λb o e=>hx b o (zaq (zan e)) e
 exact h ah _ σ H xs _ Q I1 (by simpa using rv) hw
noncomputable def alC (to ti:TE)(t:af0):TG:=λv σ H Q=>to σ H λo H1=>ti σ H1 λi H2=>t o i v H2 λH3=>Q σ H3
theorem Zt (ho:PE X o to)(hi:PE X i ti)(hs:Zr X t)
  (ha:autoParam (∀v,assign (.Subscript o i pos) X.env v=(do
   let ov <-holding [v] (eval o X.env)
   let iv <-holding [v,ov] (eval i X.env)
   standAt pos
   holding [v,ov,iv] (setItem ov iv v)
   release [v,ov,iv] [])) zp_3):PG X (.Subscript o i pos) (alC to ti t):=by
 intro ah s σ H v u Q I r h;rw[ha];refine zaa (zbo (cS (ho ah s σ H _ I h) λov s1 ⟨x,H1,I1,r1,q1⟩=>?_))
 refine zaa (zbo (cS (hi ah s1 σ H1 _ I1 q1) λiv s2 ⟨y,H2,I2,r2,q2⟩=>?_))
 refine zaa (zcH (zaa (zbo (cS (hs ah s2 σ H2 x y v ov iv u _ I2 r1 r2 r q2) λ_ s3 ⟨H3,I3,q3⟩=>?_))))
 exact wpAny_release ⟨σ,H3,I3,q3⟩
noncomputable def Rc (te:TE)(g:TG):TS:=λD σ H=>te σ H λx H1=>g x σ H1 D.nx
theorem Zu (he:PE X e te)(hg:PG X tg g)(hs:autoParam (swapsWithSole [tg] e pos.line X.env=pure false) zp_0)(hw:autoParam (swappedStores [tg] e X.env=pure none) zp_0)
  (h1:autoParam ((assignEach [tg] X.env).map (·.2)=[assign tg X.env]) zp_0):PS X (.Assign [tg] e pos) (Rc te g):=by
 intro ah s σ H D I h;refine wpAny_Assign_stores (cS (he ah s σ H _ I h) λv s1 ⟨x,H1,I1,r1,q1⟩=>?_) hs hw
 rw[h1];exact cS (hg ah s1 σ H1 x v _ I1 r1 q1) λ_ s2 q=>q
theorem Zv (hN:X.N.Nodup)(hi:X.N[i]? = some x)(hx:Vx X.env.scope x)(he:PE X e te)(hs:autoParam (swapsWith e (some (.Name x jK)) pos.line X.env=pure false) zp_0)(hf:autoParam (X.fn x=true\/X.env.scope.names.lookup x=some .local) zp_4):
  PS X (.Assign [.Name x jK] e pos) (Rc te (F9 i)):=by
 intro ah s σ H D I h;refine wpAny_Assign_Name (cS (he ah s σ H _ I h) λv s1 ⟨y,H1,I1,r1,q1⟩=>?_) hs
 exact oA I1 hN hi hx r1 (λs2 I2=>⟨_,H1,I2,q1⟩) hf
structure It where
 go:Nat->Hp->Prop
 yld:Nat->Hp->V->Hp->Prop
 stop:Nat->Hp->Prop
noncomputable def pZ (X:Cx)(ah:List (Addr×Obj))(H:Hp)(b:Addr):Prop:=
 H b=none/\b≠X.env.locals/\b∉X.fs/\(b∈X.ex\/X.s₀.heap.objs.size<=b)/\(∀x c,X.env.cells.lookup x=some c->c≠b)/\∀p∈X.pn++ah,p.1≠b
theorem aL.Dt (I:aL X ah σ H s)(hb:s.heap.objs.size<=b)(hn:H' b=none):pZ X ah H' b:=by
 refine⟨hn,zbQ (zak I.lt hb),I.aln hb,.inr (zai I.sz hb),λx c e z=>?_,λp hp z=>?_⟩
 ·obtain⟨v,q⟩:=I.cell x c e
  exact absurd (zak q.lt (by rw[z];exact hb)) (zaO _)
 ·exact absurd (zak (zan (I.AA p hp).1) (by rw[z];exact hb)) (zaO _)
structure IE (P:Program) (w:World) (K:PySem.W.Frag) (tg:Expr) (J:It) (fp:List Addr) (it:Addr) (tn:Nat->Heap->Prop):Prop where
 mem:it∈fp
 j9:∀i h,tn i h->∀b∈fp,∃o,h.get? b=some o/\∀v,o.data ≠ .cell v
 keep:∀i h h',tn i h->(∀b∈fp,∀o,h.get? b=some o->h'.get? b=some o)->tn i h'
 item:∀(X:Cx),X.prog=P->X.w=w->X.K=K->X.fS=true->∀(i:Nat) (ah:List (Addr×Obj)) (s:Shared) (σ:St) (H:Hp) (E:Value->Shared->Prop),aL X ah σ H s->(∀b∈fp,pZ X ah H b)->tn i s.heap->J.go i H ->
  wpAny (model P w) X.A (pyNext (.ref it)) (λr s1=>∃u,r=some u /\
   wpAny (model P w) X.A (letOwnedTupleGo tg (.ref it) u) (λ_ s2=>∃x H',aL X ah σ H' s2/\bG x u/\J.yld i H x H'/\tn (i+1) s2.heap/\∀b∈fp,H' b=none) E s1) E s
 done:∀(X:Cx),X.prog=P->X.w=w->X.K=K->X.fS=true->∀(i:Nat) (ah:List (Addr×Obj)) (s:Shared) (σ:St) (H:Hp) (E:Value->Shared->Prop),aL X ah σ H s->(∀b∈fp,pZ X ah H b)->tn i s.heap->J.stop i H ->
  wpAny (model P w) X.A (pyNext (.ref it)) (λr s1=>r=none/\aL X ah σ H s1) E s
 self:∀(A:Around) (i:Nat) (s:Shared) (Q:Value->Shared->Prop) (E:Value->Shared->Prop),tn i s.heap->Q (.ref it) s->wpAny (model P w) A (pyIter (.ref it)) Q E s
noncomputable abbrev TI:=St->Hp->(It->Hp->Prop)->Prop
noncomputable def PIE (X:Cx)(ah:List (Addr×Obj))(σ:St)(tg:Expr)(R:It->Hp->Prop)(itv:Value)(s2:Shared):Prop:=
 ∃(it:Addr) (fp:List Addr) (tn:Nat->Heap->Prop) (J:It) (H':Hp),itv = .ref it/\aL X ah σ H' s2/\IE X.prog X.w X.K tg J fp it tn/\tn 0 s2.heap/\(∀b∈fp,pZ X ah H' b)/\R J H'
noncomputable def PI (X:Cx)(tg dQ:Expr)(wi:TI):Prop:=
 ∀(ah:List (Addr×Obj)) (s:Shared) (σ:St) (H:Hp) (R:It->Hp->Prop),aL X ah σ H s->wi σ H R ->
  wpAny (model X.prog X.w) X.A (eval dQ X.env) (λv s1=>wpAny (model X.prog X.w) X.A (pyIter v) (PIE X ah σ tg R) X.xe s1) X.xe s
theorem F_ (ho:s.heap.get? it=some o)(hc:o.cls = .type n)(hd:o.data = .fields vs)
    (hn:["enumerate","zip","dict_itemiterator","dict_reverseitemiterator","odict_iterator","itertools.zip_longest","itertools.pairwise"].contains n=false) (hQ:Q () s):wpAny M A (letOwnedTupleGo tg (.ref it) u) Q E s:=by
  unfold letOwnedTupleGo;cases tg<;>first
    |exact zad hQ
    | (cases u<;>first
        |exact zad hQ
        | (refine zaa (wpAny_load ho ?_)
           rw[hc,hd];show wpAny M A (if (["enumerate","zip","dict_itemiterator","dict_reverseitemiterator","odict_iterator","itertools.zip_longest","itertools.pairwise"].contains n && vs[0]? == some (rawInt _))=true then _ else _) Q E s
           rw[if_neg (by intro h;rw[hn,zdb] at h;cases h)]
           exact zad hQ))
noncomputable def Itl (K:PySem.W.Frag)(a:Addr):It:=
 ⟨λi H=>∃xs x,jn K H a xs/\xs[i]? = some x,λi H x H'=>H'=H/\∀xs,jn K H a xs->xs[i]? = some x,λi H=>∃xs,jn K H a xs/\xs.length<=i⟩
noncomputable def Itt (K:PySem.W.Frag)(a:Addr):It:=
 ⟨λi H=>∃xs x,nM K H a xs/\xs[i]? = some x,λi H x H'=>H'=H/\∀xs,nM K H a xs->xs[i]? = some x,λi H=>∃xs,nM K H a xs/\xs.length<=i⟩
noncomputable def Itr (lo:Int)(n:Nat):It:=⟨λi _=>i<n,λi H x H'=>H'=H/\x = .int (lo+i),λi _=>n<=i⟩
theorem IG {P:Program}{w:World}{K:PySem.W.Frag}{tg:Expr}(a it:Addr):IE P w K tg (Itl K a) [it] it (λi h=>h.IsListIter it a i) where
 mem:=by simp
 j9:=λi h st b hb=>by
  have e:b=it:=by simpa using hb
  subst e;obtain⟨o,e,c,d⟩:=st;exact⟨o,e,λv z=>by rw[d] at z;cases z⟩
 keep:=λi h h' st k=>st.at λo e=>k it (by simp) o e
 item:=by
  intro X hP hw hK hc i ah s σ H E I hf st hg;subst hP hw hK;obtain⟨xs,x,hq,hx⟩:=hg;obtain⟨aX,rv,p,hz⟩:=I.list hq;obtain⟨u,hu,ru⟩:=rv.get hx;obtain⟨f0,f1,f2,f3,f4,f5⟩:=hf it (by simp)
  refine wpAny_pyNext_list_item st p.isList (x:=u) (by simpa using hu) λh' AH sb=>?_
  have I1:aL X ah σ H {s with heap:=h' }:=I.j8 (t':=s.toks) (λb o hb e=>(sb.2 b hb).trans e) f0 f1 f3 f4 f5
  obtain⟨o,e,c,d⟩:=id AH;exact⟨u,rfl,F_ (s:={s with heap:=h' }) e c d (by decide) ⟨x,H,I1,ru,⟨rfl,λys hy=>by rw[I.AG hy hq];exact hx⟩,AH,λb hb=>(hf b hb).1⟩⟩
 done:=by
  intro X hP hw hK hc i ah s σ H E I hf st hg;subst hP hw hK;obtain⟨xs,hq,hx⟩:=hg;obtain⟨aX,rv,p,hz⟩:=I.list hq;obtain⟨f0,f1,f2,f3,f4,f5⟩:=hf it (by simp)
  have hl:=rv.length;exact wpAny_pyNext_list_end (I.ok.hd hc) st p.isList (by simp;omega) λh' eb=>⟨rfl,I.j8 (t':=s.toks) (λb o hb e=>eb b o hb e) f0 f1 f3 f4 f5⟩
 self:=λ_ _ _ _ _ st h=>wpAny_pyIter_listiter st h
theorem Du {P:Program}{w:World}{K:PySem.W.Frag}{tg:Expr}(a it:Addr):IE P w K tg (Itt K a) [it] it (λi h=>h.IsTupleIter it a i) where
 mem:=by simp
 j9:=λi h st b hb=>by
  have e:b=it:=by simpa using hb
  subst e;obtain⟨o,e,c,d⟩:=st;exact⟨o,e,λv z=>by rw[d] at z;cases z⟩
 keep:=λi h h' st k=>st.at λo e=>k it (by simp) o e
 item:=by
  intro X hP hw hK hc i ah s σ H E I hf st hg;subst hP hw hK;obtain⟨xs,x,hq,hx⟩:=hg;obtain⟨aX,rv,p,hz⟩:=I.fO hq;obtain⟨u,hu,ru⟩:=rv.get hx;obtain⟨f0,f1,f2,f3,f4,f5⟩:=hf it (by simp)
  refine wpAny_pyNext_tuple_item st (show s.heap.IsTuple a aX.toArray from p) (x:=u) (by simpa using hu) λh' AH sb=>?_
  have I1:aL X ah σ H {s with heap:=h' }:=I.j8 (t':=s.toks) (λb o hb e=>(sb.2 b hb).trans e) f0 f1 f3 f4 f5
  obtain⟨o,e,c,d⟩:=id AH;exact⟨u,rfl,F_ (s:={s with heap:=h' }) e c d (by decide) ⟨x,H,I1,ru,⟨rfl,λys hy=>by rw[I.wN hy hq];exact hx⟩,AH,λb hb=>(hf b hb).1⟩⟩
 done:=by
  intro X hP hw hK hc i ah s σ H E I hf st hg;subst hP hw hK;obtain⟨xs,hq,hx⟩:=hg;obtain⟨aX,rv,p,hz⟩:=I.fO hq;obtain⟨f0,f1,f2,f3,f4,f5⟩:=hf it (by simp)
  have hl:=rv.length;exact wpAny_pyNext_tuple_end (I.ok.hd hc) st (show s.heap.IsTuple a aX.toArray from p) (by simp;omega) λh' eb=>⟨rfl,I.j8 (t':=s.toks) (λb o hb e=>eb b o hb e) f0 f1 f3 f4 f5⟩
 self:=λ_ _ _ _ _ st h=>wpAny_pyIter_tupleiter st h
theorem Dv {P:Program}{w:World}{K:PySem.W.Frag}{tg:Expr}(it:Addr)(lo:Int)(n:Nat):IE P w K tg (Itr lo n) [it] it (λi h=>IsRangeIter h it (lo+(i:Nat) * 1) ((n:Int) - (i:Nat)) 1) where
 mem:=by simp
 j9:=λi h st b hb=>by
  have e:b=it:=by simpa using hb
  subst e;exact⟨_,st,λv z=>by
   have z':Data.fields _=Data.cell v:=z
   cases z'⟩
 keep:=λi h h' st k=>k it (by simp) _ st
 item:=by
  intro X hP hw hK hc i ah s σ H E I hf st hg;subst hP hw hK;obtain⟨f0,f1,f2,f3,f4,f5⟩:=hf it (by simp)
  have W:=Walks.range (prog:=X.prog) (w:=X.w) (I.ok.hd hc) it lo 1 n
  refine W.item i s _ _ hg st λv h' tk hv AH kk=>?_
  obtain⟨t,rfl⟩:=hv;have I1:aL X ah σ H {s with heap:=h',toks:=tk}:=I.j8 (λb o hb e=>kk b o (by simpa using hb) e) f0 f1 f3 f4 f5
  refine⟨_,rfl,F_ (s:={s with heap:=h',toks:=tk}) (n:= "range_iterator") AH rfl rfl (by decide) ⟨.int (lo+i),H,I1,⟨t,?_⟩,⟨rfl,rfl⟩,AH,λb hb=>(hf b hb).1⟩⟩
  rw[Int.mul_one]
 done:=by
  intro X hP hw hK hc i ah s σ H E I hf st hg;subst hP hw hK;obtain⟨f0,f1,f2,f3,f4,f5⟩:=hf it (by simp)
  exact wpAny_pyNext_range_end (I.ok.hd hc) st (by have:n<=i:=hg;omega) λh' eb=>⟨rfl,I.j8 (t':=s.toks) (λb o hb e=>eb b o hb e) f0 f1 f3 f4 f5⟩
 self:=λ_ _ _ _ _ st h=>wpAny_pyIter_rangeiter st h
noncomputable def af2 (K:PySem.W.Frag)(tl:TE):TI:=λσ H R=>tl σ H λx H1=>∃a,x = .ref a/\(∃xs,jn K H1 a xs)/\R (Itl K a) H1
noncomputable def alG (K:PySem.W.Frag)(tl:TE):TI:=λσ H R=>tl σ H λx H1=>∃a,x = .ref a/\(∃xs,nM K H1 a xs)/\R (Itt K a) H1
theorem Rf {l:Expr}{tl:TE}(hl:PE X l tl):PI X tg l (af2 X.K tl):=by
 intro ah s σ H R I h;refine cS (hl ah s σ H _ I h) λv s1 ⟨x,H1,I1,r1,q1⟩=>?_
 obtain⟨a,e,⟨xs,hq⟩,q⟩:=q1
 subst e;cases r1;obtain⟨aX,rv,p,hz⟩:=I1.list hq;refine zds p.isList ?_
 refine⟨s1.heap.objs.size,[s1.heap.objs.size],_,_,H1,rfl,I1.ie (t':=s1.toks) λb o e=>zac _ e,IG a _,⟨_,zap _ rfl,rfl,rfl⟩,λb hb=>?_,q⟩
 have e:b=s1.heap.objs.size:=by simpa using hb
 subst e;exact I1.Dt (zah _) (I1.cA.fresh (zah _))
theorem Zw {l:Expr}{tl:TE}(hl:PE X l tl):PI X tg l (alG X.K tl):=by
 intro ah s σ H R I h;refine cS (hl ah s σ H _ I h) λv s1 ⟨x,H1,I1,r1,q1⟩=>?_
 obtain⟨a,e,⟨xs,hq⟩,q⟩:=q1
 subst e;cases r1;obtain⟨aX,rv,p,hz⟩:=I1.fO hq;refine wpAny_pyIter_tuple (show s1.heap.IsTuple a aX.toArray from p) ?_
 refine⟨s1.heap.objs.size,[s1.heap.objs.size],_,_,H1,rfl,I1.ie (t':=s1.toks) λb o e=>zac _ e,Du a _,⟨_,zap _ rfl,rfl,rfl⟩,λb hb=>?_,q⟩
 have e:b=s1.heap.objs.size:=by simpa using hb
 subst e;exact I1.Dt (zah _) (I1.cA.fresh (zah _))
theorem Lz {ah:List (Addr×Obj)}{σ:St}{H:Hp}{s:Shared}{R:It->Hp->Prop}{E:Value->Shared->Prop}{lo hi:Int}{t u v:Tok}{tk:Nat}(I:aL X ah σ H s)(h1: -(2 ^ 62)<=lo)(h2:lo<2 ^ 62)(h3: -(2 ^ 62)<=hi)(h4:hi<2 ^ 62)
  (q:R (Itr lo (hi - lo).toNat) H):wpAny (model X.prog X.w) X.A (pyIter (.ref s.heap.objs.size)) (PIE X ah σ tg R) E { s with heap:=s.heap.push { cls:=.type "range",data:=.fields #[.int lo t,.int hi u,.int 1 v]},toks:=tk}:=by
 refine wpAny_pyIter_range (IsRange.new ..) (small_one h1 h2 h3 h4) ?_
 have I1:aL X ah σ H { s with heap:=s.heap.push { cls:=.type "range",data:=.fields #[.int lo t,.int hi u,.int 1 v]},toks:=tk}:=I.ie λb o e=>zac _ e
 refine⟨(s.heap.push { cls:=.type "range",data:=.fields #[.int lo t,.int hi u,.int 1 v]}).objs.size,[(s.heap.push { cls:=.type "range",data:=.fields #[.int lo t,.int hi u,.int 1 v]}).objs.size],_,_,H,rfl,
  I1.ie (t':=tk) λb o e=>zac _ e,Dv _ lo (hi - lo).toNat,?_,λb hb=>?_,q⟩
 ·have e1:lo+((0:Nat):Int) * 1=lo:=by simp
  have e2:(((hi - lo).toNat:Nat):Int) - ((0:Nat):Int)=Builtin.Range.rangeSize lo hi 1:=by rw[rangeSize_one];split<;>omega
  show IsRangeIter _ _ (lo+((0:Nat):Int) * 1) ((((hi - lo).toNat:Nat):Int) - ((0:Nat):Int)) 1
  rw[e1,e2];exact zap _ rfl
 ·have e:b=(s.heap.push { cls:=.type "range",data:=.fields #[.int lo t,.int hi u,.int 1 v]}).objs.size:=by simpa using hb
  subst e;exact I1.Dt (zah _) (I1.cA.fresh (zah _))
noncomputable def af3 (ta:TA):TI:=λσ H R=>ta σ H λvs H1=>∃j:Int,vs=[.int j] /\ -(2 ^ 62)<=j/\j<2 ^ 62/\R (Itr 0 j.toNat) H1
theorem II {a:Expr}{ta:TA}{p pos:Pos}(hg:Gl X "range")(hm:X.mg "range"=none)(ha:PA X [a] ta)(hs:autoParam (starEach [a] X.env=[(false,eval a X.env)]) zp_0):PI X tg (.Call (.Name "range" p) [a] [] pos) (af3 ta):=by
 intro ah s σ H R I h;refine Call_ (sM I hg hm boot_range (zcj (cS (ha pos ah s σ H _ I h) λus s1 ⟨vs,H1,I1,r1,q1⟩=>?_) hs rfl))
 obtain⟨j,e,q1,q2,q⟩:=q1;subst e;cases r1 with
 |cons r rr =>
  cases rr;obtain⟨t,rfl⟩:=r;exact call_range_1 (Lz I1 (by omega) (by omega) q1 q2 (by simpa using q))
noncomputable def alH (wi:TI)(g:TG)(tb:TS):TS:=λD σ H=>wi σ H λJ H1=>∃W:Nat->Nat->St->Hp->Prop,(∃m,W 0 m σ H1)/\∀i m σ H,W i m σ H ->
 (J.stop i H/\D.nx σ H)\/(J.go i H/\∃N:St->Hp->Prop,(∀d9 H',N d9 H'->∃m',m' < m/\W (i+1) m' d9 H')/\∀x H',J.yld i H x H'->g x σ H' λAu H2=>tb {D with nx:=N,ct:=N,bk:=D.nx} Au H2)
noncomputable def sO (fp:List Addr)(h:Heap):List (Addr×Obj):=fp.filterMap λb=>(h.get? b).map λo=>(b,o)
theorem j_ (hb:b∈fp)(e:h.get? b=some o):(b,o)∈sO fp h:=List.mem_filterMap.mpr ⟨b,hb,by rw[e];rfl⟩
theorem IJ (hp:p∈sO fp h):p.1∈fp/\h.get? p.1=some p.2:=by
 obtain⟨b,hb,e⟩:=List.mem_filterMap.mp hp;cases q:h.get? b with
 |none=>rw[q] at e;cases e
 |some o =>
  rw[q] at e;have e':(b,o)=p:=zaw e
  subst e';exact⟨hb,q⟩
theorem aL.LA (I:aL X ah σ H s)(hf:∀b∈fp,pZ X ah H b)(ho:∀b∈fp,∃o,s.heap.get? b=some o/\∀v,o.data ≠ .cell v):aL X (ah++sO fp s.heap) σ H s:=
 I.F5 λp hp=>(zbM.mp hp).elim (λz=>I.AA p (zaL _ z)) λz=>by
  obtain⟨hb,e⟩:=IJ z;obtain⟨f0,f1,f2,_⟩:=hf p.1 hb;obtain⟨o,e',d⟩:=ho p.1 hb;rw[e] at e';cases e'
  exact⟨e,f0,f1,f2,d⟩
theorem aL.oE (I:aL X (ah++pl) σ H s):aL X ah σ H s:=I.F5 λp hp=>I.AA p (zaL _ (zck _ hp))
theorem Zx (hp:PassesOwn (model X.prog X.w) X.A X.env X.xe)(hc:X.fS=true)(hi:PI X tg dQ wi)(hg:PG X tg g)(hb:wM X body tb)
  (hs:autoParam (∀x,foldedSetIterable dQ X.env x=pure x) zp_3):PS X (.For tg dQ body [] pos) (alH wi g tb):=by
 intro ah s σ H D I h;refine wpAny_For (cS (hi ah s σ H _ I h) λv s1 h1=>cS h1 λitv s2 h2=>?_) hs
 obtain⟨it,fp,tn,J,H2,e,I2,T,st2,f2,W,⟨m0,w0⟩,LB⟩:=h2
 subst e;-- ali aoC true of Dn Zy Rg akz Dn Q5
 have Dw:∀{H':Hp},(∀b∈fp,H' b=none)->∀b∈fp,pZ X ah H' b:=λhn b hb=>⟨hn b hb,(f2 b hb).2⟩
 refine codeAny_forLoop_any (λn s'=>∃i d9 H',aL X ah d9 H' s'/\tn i s'.heap/\(∀b∈fp,H' b=none)/\W i n d9 H') ?_ m0 ⟨0,σ,H2,I2,st2,λb hb=>(f2 b hb).1,w0⟩
 rintro n s3 ⟨i,σ3,H3,I3,st3,fr3,w3⟩
 rcases LB i n σ3 H3 w3 with⟨stop,qn⟩|⟨go,N,hN,AB⟩
 ·refine zcu hp (cS (T.done X rfl rfl rfl hc i ah s3 σ3 H3 X.xe I3 (Dw fr3) st3 stop) λr s4 ⟨hr,I4⟩=>?_)
  subst hr;exact zct ⟨σ3,H3,I4,qn⟩
 ·refine zcu hp (cS (T.item X rfl rfl rfl hc i ah s3 σ3 H3 X.xe I3 (Dw fr3) st3 go) λr s4 ⟨u,hr,h4⟩=>?_)
  subst hr;refine zcu hp (cS h4 λ_ s5 ⟨x,H5,I5,r5,y5,st5,fr5⟩=>?_)
  have I5':=I5.LA (Dw fr5) (T.j9 _ _ st5)
  refine zcu hp (cS (hg _ s5 σ3 H5 x u _ I5' r5 (AB x H5 y5)) λ_ s6 ⟨LC,H6,I6,q6⟩=>?_)
  refine zcu hp (cS (hb _ s6 LC H6 _ I6 q6) λf s7 q7=>?_)
  have again:∀{LD:St} {H7:Hp},aL X (ah++sO fp s5.heap) LD H7 s7->N LD H7->∃m,m<n/\∃i d9 H',aL X ah d9 H' s7/\tn i s7.heap/\(∀b∈fp,H' b=none)/\W i m d9 H':=λ{LD H7} I7 n7=>by
   obtain⟨m',hm,w7⟩:=hN LD H7 n7;refine⟨m',hm,i+1,LD,H7,I7.oE,T.keep _ _ _ st5 λb hb o e=>(I7.AA (b,o) (zaL _ (zaL _ (j_ hb e)))).1,λb hb=>?_,w7⟩
   obtain⟨o,e,d⟩:=T.j9 _ _ st5 b hb;exact (I7.AA (b,o) (zaL _ (zaL _ (j_ hb e)))).2.1
  cases f with
  |next=>obtain⟨LD,H7,I7,n7⟩:=q7;exact again I7 n7
  |cont=>obtain⟨LD,H7,I7,n7⟩:=q7;exact again I7 n7
  |brk=>obtain⟨LD,H7,I7,q7⟩:=q7;exact⟨LD,H7,I7.oE,q7⟩
  |ret v=>obtain⟨x7,LD,H7,I7,r7,q7⟩:=q7;exact⟨x7,LD,H7,I7.oE,r7,q7⟩
noncomputable abbrev R2:=V->V->Hp->VK->Prop
noncomputable def kg (X:Cx)(f:Value->Value->Sem Value)(r:R2):Prop:=
 ∀(ah:List (Addr×Obj)) (s:Shared) (σ:St) (H:Hp) (x y:V) (v u:Value) (Q:VK),aL X ah σ H s->bG x v->bG y u->r x y H Q ->
  wpAny (model X.prog X.w) X.A (f v u) (EP X ah σ Q) X.xe s
noncomputable def UnR (X:Cx)(f:Value->Sem Value)(r:V->Hp->VK->Prop):Prop:=
 ∀(ah:List (Addr×Obj)) (s:Shared) (σ:St) (H:Hp) (x:V) (v:Value) (Q:VK),aL X ah σ H s->bG x v->r x H Q ->
  wpAny (model X.prog X.w) X.A (f v) (EP X ah σ Q) X.xe s
noncomputable def jo (X:Cx)(f:Value)(r:List V->Hp->VK->Prop):Prop:=
 ∀(ah:List (Addr×Obj)) (s:Shared) (σ:St) (H:Hp) (xs:List V) (us:List Value) (Q:VK),aL X ah σ H s->bH xs us->r xs H Q ->
  wpAny (model X.prog X.w) X.A (call f us) (EP X ah σ Q) X.xe s
noncomputable def tOp (r:R2)(ta tb:TE):TE:=λσ H Q=>ta σ H λx H1=>tb σ H1 λy H2=>r x y H2 Q
noncomputable def tUn (r:V->Hp->VK->Prop)(ta:TE):TE:=λσ H Q=>ta σ H λx H1=>r x H1 Q
noncomputable def rI (C:Int->Int->Prop)(g:Int->Int->V):R2:=λx y H Q=>∃i j,x = .int i/\y = .int j/\C i j/\Q (g i j) H
noncomputable def Rh (g:Int->Int->V):R2:=λx y H Q=>∃i j,x = .int i/\y = .int j/\Q (g i j) H
noncomputable def rU (g:Int->V):V->Hp->VK->Prop:=λx H Q=>∃i,x = .int i/\Q (g i) H
theorem Zz (ha:PE X a ta)(hb:PE X b tb){ah:List (Addr×Obj)}{s:Shared}{σ:St}{H:Hp}{R:V->V->Hp->Prop}(I:aL X ah σ H s)
  (h:ta σ H λx H1=>tb σ H1 λy H2=>R x y H2) {Q:Value->Shared->Prop} {f:Value->Value->Sem Value}
  (hf:∀v u s2 x y H2,aL X ah σ H2 s2->bG x v->bG y u->R x y H2->wpAny (model X.prog X.w) X.A (f v u) Q X.xe s2):
  wpAny (model X.prog X.w) X.A (eval a X.env) (λv cM=>wpAny (model X.prog X.w) X.A (eval b X.env) (λu lY=>wpAny (model X.prog X.w) X.A (f v u) Q X.xe lY) X.xe cM) X.xe s:=by
 refine cS (ha ah s σ H _ I h) λv s1 ⟨x,H1,I1,r1,q1⟩=>?_
 refine cS (hb ah s1 σ H1 _ I1 q1) λu s2 ⟨y,H2,I2,r2,q2⟩=>?_
 exact hf v u s2 x y H2 I2 r1 r2 q2
theorem af7 {op:Operator}{r:R2}(ho:kg X (binaryOp op) r)(ha:PE X a ta)(hb:PE X b tb):PE X (.BinOp a op b pos) (tOp r ta tb):=by
 intro ah s σ H Q I h;exact wpAny_BinOp (Zz ha hb I h λv u s2 x y H2 I2 rx ry q=>ho ah s2 σ H2 x y v u Q I2 rx ry q)
theorem af8 (ho:UnR X (unaryOp op) r)(ha:PE X a ta):PE X (.UnaryOp op a pos) (tUn r ta):=by
 intro ah s σ H Q I h;exact UnaryOp_ (cS (ha ah s σ H _ I h) λv s1 ⟨x,H1,I1,r1,q1⟩=>ho ah s1 σ H1 x v Q I1 r1 q1)
theorem opI {f:Value->Value->Sem Value}{C:Int->Int->Prop}{g:Int->Int->Int}
  (rule:∀(i j:Int) (t u:Tok) (s:Shared) (Q:Value->Shared->Prop) (E:Value->Shared->Prop),C i j->Q (.int (g i j) s.toks) {s with toks:=s.toks+1}->wpAny (model X.prog X.w) X.A (f (.int i t) (.int j u)) Q E s):
  kg X f (rI C λi j=>.int (g i j)):=by
 intro ah s σ H x y v u Q I rx ry h;obtain⟨i,j,rfl,rfl,hc,q⟩:=h;obtain⟨t,rfl⟩:=rx;obtain⟨t',rfl⟩:=ry;exact rule i j t t' s _ _ hc ⟨.int (g i j),H,I.nF _,⟨_,rfl⟩,q⟩
theorem af9 {f:Value->Value->Sem Value}{g:Int->Int->Int}
  (rule:∀(i j:Int) (t u:Tok) (s:Shared) (Q:Value->Shared->Prop) (E:Value->Shared->Prop),Q (.int (g i j) s.toks) {s with toks:=s.toks+1}->wpAny (model X.prog X.w) X.A (f (.int i t) (.int j u)) Q E s):
  kg X f (Rh λi j=>.int (g i j)):=by
 intro ah s σ H x y v u Q I rx ry h;obtain⟨i,j,rfl,rfl,q⟩:=h;obtain⟨t,rfl⟩:=rx;obtain⟨t',rfl⟩:=ry;exact rule i j t t' s _ _ ⟨.int (g i j),H,I.nF _,⟨_,rfl⟩,q⟩
theorem Ri {f:Value->Value->Sem Value}{g:Int->Int->Bool}
  (rule:∀(i j:Int) (t u:Tok) (s:Shared) (Q:Value->Shared->Prop) (E:Value->Shared->Prop),Q (.bool (g i j)) s->wpAny (model X.prog X.w) X.A (f (.int i t) (.int j u)) Q E s):
  kg X f (Rh λi j=>.bl (g i j)):=by
 intro ah s σ H x y v u Q I rx ry h;obtain⟨i,j,rfl,rfl,q⟩:=h;obtain⟨t,rfl⟩:=rx;obtain⟨t',rfl⟩:=ry;exact rule i j t t' s _ _ ⟨.bl (g i j),H,I,rfl,q⟩
noncomputable def alJ (i j:Int):Prop:=0<j/\j<1073741824
noncomputable def ZA (i j:Int):Prop:=(-(2 ^ 64)<i/\i<2 ^ 64)\/(-(2 ^ 64)<j/\j<2 ^ 64)
theorem ZA.ok (h:ZA i j):IntMulOk i j:=by
 rcases h with⟨h1,h2⟩|⟨h1,h2⟩
 ·exact .of_left (intBits_le_64 h1 h2)
 ·exact .of_right (intBits_le_64 h1 h2)
theorem ZC:kg X (binaryOp .Add) (Rh λi j=>.int (i+j)):=af9 λ_ _ _ _ _ _ _ q=>add_int q
theorem ZD:kg X (binaryOp .Sub) (Rh λi j=>.int (i - j)):=af9 λ_ _ _ _ _ _ _ q=>sub_int q
theorem ZE:kg X (binaryOp .Mult) (rI ZA λi j=>.int (i * j)):=opI λ_ _ _ _ _ _ _ hc q=>mul_int q hc.ok
theorem Rj:kg X (binaryOp .FloorDiv) (rI alJ λi j=>.int (i / j)):=opI λi j _ _ _ _ _ hc q=>by
 have h1:(0:Int)<j:=hc.1
 have h2:j<1073741824:=hc.2
 exact floordiv_int (by omega) (by rw[Int.fdiv_eq_ediv_of_nonneg i (by omega)];exact q) (.inl (PyProof.noPylong_small (by omega)))
theorem ZF:kg X (binaryOp .Mod) (rI (λ_ j=>0<j) λi j=>.int (i % j)):=opI λi j _ _ _ _ _ hc q=>by
 have h1:(0:Int)<j:=hc
 exact mod_int' (by omega) (by rw[Int.fmod_eq_emod_of_nonneg i (by omega)];exact q)
theorem unI {f:Value->Sem Value}{g:Int->Int}
  (rule:∀(i:Int) (t:Tok) (s:Shared) (Q:Value->Shared->Prop) (E:Value->Shared->Prop),Q (.int (g i) s.toks) {s with toks:=s.toks+1}->wpAny (model X.prog X.w) X.A (f (.int i t)) Q E s):
  UnR X f (rU λi=>.int (g i)):=by
 intro ah s σ H x v Q I rx h;obtain⟨i,rfl,q⟩:=h;obtain⟨t,rfl⟩:=rx;exact rule i t s _ _ ⟨.int (g i),H,I.nF _,⟨_,rfl⟩,q⟩
theorem ZG:UnR X (unaryOp .USub) (rU λi=>.int (-i)):=unI λ_ _ _ _ _ q=>neg_int q
noncomputable def ZH:V->V->Bool
 |.bB,.bB=>true|.bB,.int _=>true|.int _,.bB=>true|.bB,.bl _=>true|.bl _,.bB=>true|.bB,.str _=>true|.str _,.bB=>true
 |.int _,.int _=>true|.bl _,.bl _=>true|.str _,.str _=>true|.K9 _,.K9 _=>true
 |.int _,.str _=>true|.str _,.int _=>true|.bl _,.str _=>true|.str _,.bl _=>true
 |_,_=>false
noncomputable def rEq:R2:=λx y H Q=>ZH x y=true/\Q (.bl (decide (x=y))) H
noncomputable def rNe:R2:=λx y H Q=>ZH x y=true/\Q (.bl (!decide (x=y))) H
theorem Ga:decide (V.int i=V.int j)=(i == j):=by
 rw[zbc];simp
theorem Dy:decide (V.bl i=V.bl j)=(i == j):=by
 rw[zbc];simp
theorem Gb:decide (V.str i=V.str j)=(i == j):=by
 rw[zbc];simp
theorem Gd:decide (V.K9 i=V.K9 j)=(i.toList == j.toList):=by
 rw[zbc];cases i;cases j;simp
theorem bS (I:aL X ah σ H s)(q:Q (.bl k) H)(e:k=k'):EP X ah σ Q (.bool k') s:=by
 subst e;exact⟨.bl k,H,I,rfl,q⟩
theorem aga:kg X (compareOp .Eq) rEq:=by
 intro ah s σ H x y v u Q I rx ry h;obtain⟨hs,q⟩:=h;cases x with
 |bB =>
  cases rx;cases y with
  |bB=>cases ry;exact PySem.EqNone.eq_none_none (bS I q (by simp))
  |bl j=>cases ry;exact PySem.EqNone.eq_none_bool (bS I q (by simp))
  |int j=>obtain⟨t',rfl⟩:=ry;exact PySem.EqNone.eq_none_int (bS I q (by simp))
  |str j=>obtain⟨t',rfl⟩:=ry;exact PySem.EqNone.eq_none_str (bS I q (by simp))
  |_=>exact absurd (show false=true from hs) zal
 |bl i =>
  cases rx;cases y with
  |bB=>cases ry;exact PySem.EqNone.eq_bool_none (bS I q (by simp))
  |bl j=>cases ry;exact eq_bool (bS I q Dy)
  |str j=>obtain⟨t',rfl⟩:=ry;exact PySem.EqMixed.eq_bool_str (bS I q (by simp))
  |_=>exact absurd (show false=true from hs) zal
 |int i =>
  obtain⟨t,rfl⟩:=rx;cases y with
  |bB=>cases ry;exact PySem.EqNone.eq_int_none (bS I q (by simp))
  |int j=>obtain⟨t',rfl⟩:=ry;exact eq_int (bS I q Ga)
  |str j=>obtain⟨t',rfl⟩:=ry;exact PySem.EqMixed.eq_int_str (bS I q (by simp))
  |_=>exact absurd (show false=true from hs) zal
 |str i =>
  obtain⟨t,rfl⟩:=rx;cases y with
  |bB=>cases ry;exact PySem.EqNone.eq_str_none (bS I q (by simp))
  |bl j=>cases ry;exact PySem.EqMixed.eq_str_bool (bS I q (by simp))
  |int j=>obtain⟨t',rfl⟩:=ry;exact PySem.EqMixed.eq_str_int (bS I q (by simp))
  |str j=>obtain⟨t',rfl⟩:=ry;exact eq_str (bS I q Gb)
  |_=>exact absurd (show false=true from hs) zal
 |K9 i =>
  obtain⟨t,rfl⟩:=rx;cases y with
  |K9 j=>obtain⟨t',rfl⟩:=ry;exact PySem.W.eq_bytes (bS I q Gd)
  |_=>exact absurd (show false=true from hs) zal
 |_=>cases y<;>exact absurd (show false=true from hs) zal
theorem agb:kg X (compareOp .NotEq) rNe:=by
 intro ah s σ H x y v u Q I rx ry h;obtain⟨hs,q⟩:=h;cases x with
 |bB =>
  cases rx;cases y with
  |bB=>cases ry;exact PySem.EqNone.ne_none_none (bS I q (by simp))
  |bl j=>cases ry;exact PySem.EqNone.ne_none_bool (bS I q (by simp))
  |int j=>obtain⟨t',rfl⟩:=ry;exact PySem.EqNone.ne_none_int (bS I q (by simp))
  |str j=>obtain⟨t',rfl⟩:=ry;exact PySem.EqNone.ne_none_str (bS I q (by simp))
  |_=>exact absurd (show false=true from hs) zal
 |bl i =>
  cases rx;cases y with
  |bB=>cases ry;exact PySem.EqNone.ne_bool_none (bS I q (by simp))
  |bl j=>cases ry;exact ne_bool (bS I q (congrArg not Dy))
  |str j=>obtain⟨t',rfl⟩:=ry;exact PySem.EqMixed.ne_bool_str (bS I q (by simp))
  |_=>exact absurd (show false=true from hs) zal
 |int i =>
  obtain⟨t,rfl⟩:=rx;cases y with
  |bB=>cases ry;exact PySem.EqNone.ne_int_none (bS I q (by simp))
  |int j=>obtain⟨t',rfl⟩:=ry;exact ne_int (bS I q (congrArg not Ga))
  |str j=>obtain⟨t',rfl⟩:=ry;exact PySem.EqMixed.ne_int_str (bS I q (by simp))
  |_=>exact absurd (show false=true from hs) zal
 |str i =>
  obtain⟨t,rfl⟩:=rx;cases y with
  |bB=>cases ry;exact PySem.EqNone.ne_str_none (bS I q (by simp))
  |bl j=>cases ry;exact PySem.EqMixed.ne_str_bool (bS I q (by simp))
  |int j=>obtain⟨t',rfl⟩:=ry;exact PySem.EqMixed.ne_str_int (bS I q (by simp))
  |str j=>obtain⟨t',rfl⟩:=ry;exact ne_str (bS I q (congrArg not Gb))
  |_=>exact absurd (show false=true from hs) zal
 |K9 i =>
  obtain⟨t,rfl⟩:=rx;cases y with
  |K9 j=>obtain⟨t',rfl⟩:=ry;exact PySem.W.ne_bytes (bS I q (congrArg not Gd))
  |_=>exact absurd (show false=true from hs) zal
 |_=>cases y<;>exact absurd (show false=true from hs) zal
theorem agc:kg X (compareOp .Lt) (Rh λi j=>.bl (decide (i<j))):=Ri λ_ _ _ _ _ _ _ q=>lt_int q
theorem agd:kg X (compareOp .LtE) (Rh λi j=>.bl (decide (i<=j))):=Ri λ_ _ _ _ _ _ _ q=>le_int q
theorem age:kg X (compareOp .Gt) (Rh λi j=>.bl (decide (j<i))):=Ri λ_ _ _ _ _ _ _ q=>gt_int q
theorem agf:kg X (compareOp .GtE) (Rh λi j=>.bl (decide (j<=i))):=Ri λ_ _ _ _ _ _ _ q=>ge_int q
theorem IK:kg X (compareOp .In) (λx y H Q=>∃i j,x = .str i/\y = .str j/\Q (.bl (!(Builtin.Str.occurrences j i 0 j.length 1).isEmpty)) H):=by
 intro ah s σ H x y v u Q I rx ry h;obtain⟨i,j,rfl,rfl,q⟩:=h;obtain⟨t,rfl⟩:=rx;obtain⟨t',rfl⟩:=ry;exact in_str (bS I q rfl)
theorem ZI:kg X (compareOp .Is) (λx y H Q=>y = .bB/\Q (.bl (decide (x = .bB))) H):=by
 intro ah s σ H x y v u Q I rx ry h;obtain⟨rfl,q⟩:=h;cases ry;refine is_none_gen (bS I q ?_)
 cases x<;>first
  | (cases rx;rfl)
  | (obtain⟨t,rfl⟩:=rx;rfl)
theorem Rk:kg X (compareOp .IsNot) (λx y H Q=>y = .bB/\Q (.bl (!decide (x = .bB))) H):=by
 intro ah s σ H x y v u Q I rx ry h;obtain⟨rfl,q⟩:=h;cases ry;refine isnot_none_gen (bS I q ?_)
 cases x<;>first
  | (cases rx;rfl)
  | (obtain⟨t,rfl⟩:=rx;rfl)
theorem Dz (b:Expr)(h:autoParam (op ≠ .In) zp_1)(h2:autoParam (op ≠ .NotIn) zp_1):behindInMarks op b=false:=by
 have e1:(op == CmpOp.In)=false:=by cases op<;>first|rfl|exact absurd rfl h
 have e2:(op == CmpOp.NotIn)=false:=by cases op<;>first|rfl|exact absurd rfl h2
 cases b<;>simp[behindInMarks,e1,e2]
theorem Rl (ho:kg X (compareOp op) r)(ha:PE X a ta)(hb:PE X b tb)(hm:behindInMarks op b=false):PE X (.Compare a [op] [b] pos) (tOp r ta tb):=by
 intro ah s σ H Q I h;exact wpAny_Compare1 (Zz ha hb I h λv u s2 x y H2 I2 rx ry q=>ho ah s2 σ H2 x y v u Q I2 rx ry q) hm
noncomputable def Vz (t:TE):TT:=λσ H Q=>t σ H λx H'=>∃k,x = .bl k/\Q k H'
theorem Rm (ho:kg X (compareOp op) r)(ha:PE X a ta)(hb:PE X b tb)(hm:behindInMarks op b=false):PT X (.Compare a [op] [b] pos) (Vz (tOp r ta tb)):=by
 intro ah s σ H Q I h;refine wpAny_isTrue_Compare1 (cS (ha ah s σ H _ I h) λv s1 ⟨x,H1,I1,r1,q1⟩=>cS (hb ah s1 σ H1 _ I1 q1) λu s2 ⟨y,H2,I2,r2,q2⟩ =>
  cS (ho ah s2 σ H2 x y v u _ I2 r1 r2 q2) λc s3 ⟨z,H3,I3,r3,k,e,q3⟩=>?_) hm
 subst e;cases r3;exact zba ⟨H3,I3,q3⟩
noncomputable def DA (r r':R2)(ta tb tc:TE):TE:=λσ H Q=>ta σ H λx H1=>tb σ H1 λy H2=>r x y H2 λz H3=>∃k,z = .bl k /\
 (if k=true then tc σ H3 λw' H4=>r' y w' H4 Q else Q (.bl false) H3)
theorem LF (ho:kg X (compareOp op) r)(v8:kg X (compareOp LG) r')(ha:PE X a ta)(hb:PE X b tb)(hc:PE X c tc)
  (hm:autoParam (lastMarks [op,LG] [b,c]=false) zp_5):PE X (.Compare a [op,LG] [b,c] pos) (DA r r' ta tb tc):=by
 intro ah s σ H Q I h;refine Compare_chain (cS (ha ah s σ H _ I h) λv s1 ⟨x,H1,I1,r1,q1⟩=>chain_link (cS (hb ah s1 σ H1 _ I1 q1) λu s2 ⟨y,H2,I2,r2,q2⟩ =>
  cS (ho ah s2 σ H2 x y v u _ I2 r1 r2 q2) λd s3 ⟨z,H3,I3,r3,k,e,q3⟩=>?_)) hm
 subst e;cases r3;refine zba ?_
 cases k with
 |false=>exact ite_ff ⟨.bl false,H3,I3,rfl,q3⟩
 |true=>exact ite_tt (chain_last (cS (hc ah s3 σ H3 _ I3 q3) λw' s4 ⟨z',H4,I4,r4,q4⟩=>v8 ah s4 σ H4 y z' u w' Q I4 r2 r4 q4))
theorem LH (ho:kg X (compareOp op) r)(v8:kg X (compareOp LG) r')(ha:PE X a ta)(hb:PE X b tb)(hc:PE X c tc)
  (hm:autoParam (lastMarks [op,LG] [b,c]=false) zp_5):PT X (.Compare a [op,LG] [b,c] pos) (Vz (DA r r' ta tb tc)):=by
 intro ah s σ H Q I h;refine isTrue_chain (cS (ha ah s σ H _ I h) λv s1 ⟨x,H1,I1,r1,q1⟩=>test_link (cS (hb ah s1 σ H1 _ I1 q1) λu s2 ⟨y,H2,I2,r2,q2⟩ =>
  cS (ho ah s2 σ H2 x y v u _ I2 r1 r2 q2) λd s3 ⟨z,H3,I3,r3,k,e,q3⟩=>?_)) hm
 subst e;cases r3;refine zba ?_
 cases k with
 |false =>
  obtain⟨k',e',q'⟩:=q3;cases e';exact ite_ff ⟨H3,I3,q'⟩
 |true =>
  refine ite_tt (test_last (cS (hc ah s3 σ H3 _ I3 q3) λw' s4 ⟨z',H4,I4,r4,q4⟩=>cS (v8 ah s4 σ H4 y z' u w' _ I4 r2 r4 q4) λd' s5 ⟨z2,H5,I5,r5,k2,e2,q5⟩=>?_))
  subst e2;cases r5;exact zba ⟨H5,I5,q5⟩
theorem p_:(sizeLine:Nat)<2 ^ 63:=by rw[zdP];decide
theorem DB:kg X (binaryOp .Add) (λx y H Q=>∃i j,x = .str i/\y = .str j/\i.length+j.length<=sizeLine/\Q (.str (i++j)) H):=by
 intro ah s σ H x y v u Q I rx ry h;obtain⟨i,j,rfl,rfl,hz,q⟩:=h;obtain⟨t,rfl⟩:=rx;obtain⟨t',rfl⟩:=ry;exact add_str (λt' tk=>⟨.str (i++j),H,I.nF _,⟨_,rfl⟩,q⟩) hz
theorem sP (r:bH [x] us):∃u,us=[u]/\bG x u:=by
 cases r with
 |cons r1 r2=>cases r2;exact⟨_,rfl,r1⟩
theorem agg (r:bH [x,y] us):∃u w',us=[u,w']/\bG x u/\bG y w':=by
 cases r with
 |cons r1 r2 =>
  cases r2 with
  |cons r3 r4=>cases r4;exact⟨_,_,rfl,r1,r3⟩
theorem IM (hc:X.fS=true):jo X (.builtin "min") (λxs H Q=>∃i j,xs=[.int i,.int j]/\Q (.int (if j<i then j else i)) H):=by
 intro ah s σ H xs us Q I r h;obtain⟨i,j,rfl,q⟩:=h;obtain⟨u,w',rfl,⟨t,rfl⟩,⟨t',rfl⟩⟩:=agg r
 refine min_two_ints (I.ok.hd hc) λh' tk k=>⟨_,H,I.ie k,?_,q⟩
 by_cases hj:j<i
 ·rw[if_pos hj,if_pos hj];exact⟨_,rfl⟩
 ·rw[if_neg hj,if_neg hj];exact⟨_,rfl⟩
structure DC (h:Heap) (x dx C:Addr) (mA:Str->Option Value):Prop where
 j9:h.get? x=some (PySem.W.instObj C dx)
 ns:h.Ns1 dx mA
 ne:dx≠x
theorem jL {h:Heap}{dx:Addr}{mA:Str->Option Value}(n:h.Ns1 dx mA):∃od,h.get? dx=some od/\∀name,PySem.W.lookIn name od=some (mA name):=by
 obtain⟨o,es,ep,ho,hd,hk,_,hm⟩:=n;refine⟨o,ho,λname=>?_⟩
 have e:=hm name;unfold nsFind findBy at e;rw[<-Array.find?_toList] at e;unfold PySem.W.lookIn;rw[hd];dsimp only;split
 ·rename_i y q
  rw[q] at e;exact congrArg some e
 ·rename_i q
  rw[q] at e;have a:es.toList.any (·.refKey)=false:=by
   rw[List.any_eq_false];intro y hy;obtain⟨z,t,LI⟩:=hk y (Array.mem_toList_iff.mp hy)
   simp[DictEntry.refKey,LI]
  have a':¬ es.toList.any (·.refKey)=true:=by rw[a];exact zal
  rw[if_neg a'];exact congrArg some e
theorem DC.ZJ (I:DC h x dx C mA):∃od,PySem.W.InstAt h x (PySem.W.instObj C dx) C (some od)/\∀name,PySem.W.lookIn name od=some (mA name):=
 let ⟨od,ho,hl⟩:=jL I.ns
 ⟨od,⟨I.j9,rfl,rfl,ho⟩,hl⟩
section
variable {prog:Program}{w:World}{A:Around}{E:Value->Shared->Prop}{s:Shared}{K:PySem.W.Frag}{x dx C f:Addr}{mA:Str->Option Value}{name:Str}{v:Value}
theorem Rn (X:K.In s.heap)(I:DC s.heap x dx C mA)(hg:PySem.W.plainGet K C name=true)(hh:PySem.W.hasDictIn K C=true)
  (ha:PySem.W.findIn K (.ref C) name=some none) (hv:mA name=some v) (hv':PySem.W.handedIn v=true) (h:Q v {s with toks:=s.toks+1}):
  wpAny (model prog w) A (getAttr (.ref x) name LJ) Q E s:=by
 obtain⟨od,J,hl⟩:=I.ZJ;exact PySem.W.get_value X J (zcY hg).1 (PySem.W.findObj_own hh ha rfl (by rw[hl,hv])) hv' h
theorem LL (X:K.In s.heap)(I:DC s.heap x dx C mA)(hg:PySem.W.plainGet K C name=true)
  (hf:PySem.W.findIn K (.ref C) name=some (some (.ref f))) (ht:PySem.W.isFn K (.ref f)=true) (hv:mA name=none) (h:Q (.ref f,[.ref x]) s):
  wpAny (model prog w) A (getMethod (.ref x) name pl) Q E s:=by
 obtain⟨od,J,hl⟩:=I.ZJ;exact PySem.W.method_fn X J (zcY hg).1 (zcY hg).2 hf (beq_iff_eq.mp ht) (by show (PySem.W.lookIn name od).map (·.isSome)=some false;rw[hl,hv];rfl) h
theorem Ro (X:K.In s.heap)(I:DC s.heap x dx C mA)
  (hs:PySem.W.findIn K (.ref C) "__setattr__"=some (some (.builtin "object.__setattr__"))) (hp:PySem.W.plainOver K C=true) (ht:PySem.W.takerIn K C name=some none) (hh:PySem.W.hasDictIn K C=true)
  (hw:PySem.Within mA ns) (hsz:ns.length<=sizeLine)
  (h:∀h',DC h' x dx C (λy=>if y=name then some v else mA y)->Heap.SameBut dx s.heap h'->Q () {s with heap:=h',toks:=s.toks+2}):
  wpAny (model prog w) A (setAttr (.ref x) name v) Q E s:=by
 obtain⟨od,J,hl⟩:=I.ZJ;refine zeD X J hs (PySem.W.osa_open (s:={s with toks:=s.toks+1}) (r:=none) X J hp ht λb=>?_)
 obtain⟨cd,hc,QV⟩:=PySem.W.any_some hh;have hx:s.heap.get? x=some ⟨.ref C,some dx,.plain,#[]⟩:=I.j9
 refine zaa (zad (zaa (zaa (zdc hx (zaa (zbx (s:={s with toks:=s.toks+1}) (zcq X hc) ?_))))))
 rw[QV];refine zad (a:=some dx) (zaa (zad (zaa ?_)))
 refine wpAny_nsSet1 (s:={s with toks:=s.toks+1}) I.ns λh' La hs2=>?_
 obtain⟨oD,esD,epD,Lb,hdD,hcD⟩:=La.count (PySem.Within.cons name v hw)
 refine zaa (zdB Lb (by rw[hdD];exact zdC (zai hcD (by rw[zar];omega))) ?_)
 exact zad (h _ ⟨(hs2.2 _ (zbe I.ne)).trans I.j9,La,I.ne⟩ hs2)
theorem LM (X:K.In s.heap)(hm:PySem.W.makesIn K C=true)
  (hi:PySem.W.findIn K (.ref C) "__init__"=some (some (.ref f))) (hf:PySem.W.typeIn K (.ref f)=some (.type "function"))
  (h:codeAny (model prog w) (A.under (.builtin "type.__call__" ⟨.ref C::vs,kw⟩)) (.call (.ref f) ⟨.ref (s.heap.objs.size+1)::vs,kw⟩) (PySem.W.InitBack (s.heap.objs.size+1) R)
   {s with heap:=(s.heap.push PySem.W.emptyDict).push (PySem.W.instObj C s.heap.objs.size)}):
  codeAny (model prog w) A (.call (.ref C) ⟨vs,kw⟩) R s:=by
 obtain⟨hh,g,d,t,os⟩:=s;exact PySem.W.make_core (PySem.W.makes_of X hm) (zbP X hi) (λself=>PySem.W.bind_fn X self hf) (.inl rfl) h
end
noncomputable def gz (f:Str)(v:V):List (Str×V)->List (Str×V)
 |[]=>[(f,v)]
 | (g,x)::r=>if g=f then (g,v)::r else (g,x)::gz f v r
theorem lZ (f g:Str)(v:V):∀fs:List (Str×V),(gz f v fs).lookup g=if g=f then some v else fs.lookup g
 |[]=>by
  show List.lookup g [(f,v)]=_
  by_cases h:g=f
  ·have hb:(g == f)=true:=beq_iff_eq.mpr h
   simp only[List.lookup,hb,if_pos h]
  ·have hb:(g == f)=false:=beq_eq_false_iff_ne.mpr h
   simp only[List.lookup,hb,if_neg h]
 | (k,x)::r=>by
  have ih:=lZ f g v r;rw[show gz f v ((k,x)::r)=(if k=f then (k,v)::r else (k,x)::gz f v r) from rfl];by_cases hk:k=f
  ·rw[if_pos hk]
   by_cases h:g=k
   ·have hb:(g == k)=true:=beq_iff_eq.mpr h
    simp only[List.lookup,hb,if_pos (h.trans hk)]
   ·have hb:(g == k)=false:=beq_eq_false_iff_ne.mpr h
    simp only[List.lookup,hb,if_neg (λe:g=f=>h (e.trans hk.symm))]
  ·rw[if_neg hk]
   by_cases h:g=k
   ·have hb:(g == k)=true:=beq_iff_eq.mpr h
    simp only[List.lookup,hb,if_neg (λe:g=f=>hk (h.symm.trans e))]
   ·have hb:(g == k)=false:=beq_eq_false_iff_ne.mpr h
    simp only[List.lookup,hb];exact ih
theorem jM (f:Str)(v:V):∀fs:List (Str×V),f∈(gz f v fs).map (·.1)/\∀g,g∈fs.map (·.1)->g∈(gz f v fs).map (·.1)
 |[]=>⟨by simp[gz],λg h=>by simp at h⟩
 | (k,x)::r=>by
  obtain⟨i1,i2⟩:=jM f v r;rw[show gz f v ((k,x)::r)=(if k=f then (k,v)::r else (k,x)::gz f v r) from rfl];by_cases hk:k=f
  ·rw[if_pos hk]
   subst hk;exact⟨by simp,λg h=>by simpa using h⟩
  ·rw[if_neg hk]
   refine⟨?_,λg h=>?_⟩
   ·rw[zas]
    exact zaD _ i1
   ·rw[zas] at h ⊢
    rcases zam.mp h with e|e
    ·exact zam.mpr (.inl e)
    ·exact zaD _ (i2 g e)
theorem qP (f:Str)(v:V):∀fs:List (Str×V),(gz f v fs).length<=fs.length+1
 |[]=>by simp[gz]
 | (k,x)::r=>by
  have ih:=qP f v r;rw[show gz f v ((k,x)::r)=(if k=f then (k,v)::r else (k,x)::gz f v r) from rfl];by_cases hk:k=f
  ·rw[if_pos hk,zar,zar];omega
  ·rw[if_neg hk,zar,zar];omega
theorem iP.rT (r:iP (some v) o):∃u,o=some u/\bG v u:=by
 cases o with
 |none=>exact (show False from r).elim
 |some u=>exact⟨u,rfl,r⟩
theorem iP.Rp (r:iP none o):o=none:=by
 cases o with
 |none=>rfl
 |some u=>exact (show False from r).elim
theorem wO (r:bG v u):PySem.W.handedIn u=true:=by
 cases v with
 |bB=>cases (show u=Value.none from r);rfl
 |bl b=>cases (show u=Value.bool b from r);rfl
 |int i=>obtain⟨t,e⟩:=(show ∃t,u=Value.int i t from r);cases e;rfl
 |str x=>obtain⟨t,e⟩:=(show ∃t,u=Value.str x t from r);cases e;rfl
 |K9 b=>obtain⟨t,e⟩:=(show ∃t,u=Value.bytes b t from r);cases e;rfl
 |flt b=>obtain⟨t,e⟩:=(show ∃t,u=Value.float b t from r);cases e;rfl
 |ref a=>cases (show u=Value.ref a from r);rfl
 |ty n=>cases (show u=Value.type n from r);rfl
theorem yU (cA:mT P w H h)(e:H a=some (.eS C dx fs)):∃mA,DC h a dx C mA/\(∀f,iP (fs.lookup f) (mA f))/\PySem.Within mA (fs.map (·.1))/\fs.length<=1000/\H dx=some (.sD a):=by
 obtain⟨d,z,ne,ob,mA,n,r,q⟩:=(show cR P w H h a (.eS C dx fs) from cA a _ e)
 exact⟨mA,⟨ob,n,ne⟩,r,q,z,d⟩
structure sQ (K:PySem.W.Frag) (C:Addr):Prop where
 pg:PySem.W.plainGet K C Str.empty=true
 hd:PySem.W.hasDictIn K C=true
 po:PySem.W.plainOver K C=true
 sa:PySem.W.findIn K (.ref C) "__setattr__"=some (some (.builtin "object.__setattr__"))
theorem sQ.get {K:PySem.W.Frag}{C:Addr}(c:sQ K C)(f:Str):PySem.W.plainGet K C f=true:=c.pg
noncomputable def bU (K:PySem.W.Frag)(C:Addr)(f:Str):Prop:=PySem.W.findIn K (.ref C) f=some none
theorem bU.agk {K:PySem.W.Frag}{C:Addr}{f:Str}(n:bU K C f):PySem.W.takerIn K C f=some none:=by
 unfold PySem.W.takerIn;rw[show PySem.W.findIn K (.ref C) f=some none from n];rfl
structure c8 (K:PySem.W.Frag) (C:Addr) (m:Str) (f:Addr):Prop where
 rG:PySem.W.findIn K (.ref C) m=some (some (.ref f))
 fn:PySem.W.isFn K (.ref f)=true
 kp:PySem.W.keepIn K (.ref f)=true
theorem sR (I:aL X ah σ H s)(e:H a=some (.eS C dx fs))(c:sQ X.K C)(n:bU X.K C f)(l:fs.lookup f=some v)
  (h:∀u s',aL X ah σ H s'->bG v u->Q u s'):wpAny (model X.prog X.w) A (getAttr (.ref a) f b) Q E s:=by
 obtain⟨mA,O,r,_,_,_⟩:=yU I.cA e;obtain⟨u,hu,ru⟩:=iP.rT (v:=v) (o:=mA f) (by rw[<-l];exact r f)
 exact Rn I.nE O (c.get f) c.hd n hu (wO ru) (h u _ (I.nF _) ru)
theorem nN (I:aL X ah σ H s)(e:H a=some (.eS C dx fs))(c:sQ X.K C)(k:c8 X.K C m g)(l:fs.lookup m=none)
  (h:Q (.ref g,[.ref a]) s):wpAny (model X.prog X.w) A (getMethod (.ref a) m pl) Q E s:=by
 obtain⟨mA,O,r,_,_,_⟩:=yU I.cA e;have hn:mA m=none:=iP.Rp (by rw[<-l];exact r m)
 exact LL I.nE O (c.get m) k.rG k.fn hn h
theorem sS (I:aL X ah σ H s)(e:H a=some (.eS C dx fs))(c:sQ X.K C)(n:bU X.K C f)(hl:fs.length<1000)(ry:bG y u)
  (h:∀s',aL X ah σ (bD H a (.eS C dx (gz f y fs))) s'->Q () s'):wpAny (model X.prog X.w) A (setAttr (.ref a) f u) Q E s:=by
 obtain⟨mA,O,r,wi,_,ho⟩:=yU I.cA e;have hz:(fs.map (·.1)).length<=sizeLine:=by rw[zaf,zdP];omega
 refine Ro I.nE O c.sa c.po n.agk c.hd wi hz λh' O' sb=>h _ ?_
 have hd:∃o,h'.get? dx=some o:=let ⟨o,_,_,e',_⟩:=O'.ns;⟨o,e'⟩
 refine I.jm (x:=a) (e:=dx) (by rw[e];exact True.intro) (.inr ho) (λb q hb z=>(sb.2 b hb).trans z) hd ?_
 refine⟨by rw[au O.ne];exact ho,?_,O.ne,O'.j9,_,O'.ns,λg=>?_,λg hg=>?_⟩
 ·have:=qP f y fs;omega
 ·show iP ((gz f y fs).lookup g) (if g=f then some u else mA g)
  rw[lZ];by_cases q:g=f
  ·rw[if_pos q,if_pos q];exact ry
  ·rw[if_neg q,if_neg q];exact r g
 ·by_cases q:g=f
  ·rw[q];exact (jM f y fs).1
  ·refine (jM f y fs).2 g (wi g λz=>hg ?_)
   show (if g=f then some u else mA g)=none
   rw[if_neg q];exact z
theorem aL.made (I:aL X ah σ H s):aL X ah σ (bD (bD H s.heap.objs.size (.sD (s.heap.objs.size+1))) (s.heap.objs.size+1) (.eS C s.heap.objs.size []))
  {s with heap:=(s.heap.push PySem.W.emptyDict).push (PySem.W.instObj C s.heap.objs.size)}:=by
 have e1:(s.heap.push PySem.W.emptyDict).get? s.heap.objs.size=some PySem.W.emptyDict:=zap s.heap rfl
 have e2:((s.heap.push PySem.W.emptyDict).push (PySem.W.instObj C s.heap.objs.size)).get? (s.heap.objs.size+1)=some (PySem.W.instObj C s.heap.objs.size):=by
  have:=zap (s.heap.push PySem.W.emptyDict) (o:=PySem.W.instObj C s.heap.objs.size) rfl
  rwa[zdd] at this
 have e3:(s.heap.push PySem.W.emptyDict).Ns s.heap.objs.size (λ_=>none):=⟨PySem.W.emptyDict,#[],_,e1,rfl,(λe he=>absurd he (by simp)),λ_=>rfl⟩
 have I1:=I.jI (a:=s.heap.objs.size) (o:=.sD (s.heap.objs.size+1)) (h':=s.heap.push PySem.W.emptyDict) (t':=s.toks) (λb u q=>zac _ q) (zah _) ⟨_,e1⟩
 refine I1.jI (a:=s.heap.objs.size+1) (o:=.eS C s.heap.objs.size []) (t':=s.toks) (λb u q=>zac _ q) (Nat.le_of_eq (zdd _ _)) ?_
 have ne:s.heap.objs.size≠s.heap.objs.size+1:=zaq (zbi _)
 refine⟨by rw[au ne,av],zcG _,ne,e2,λ_=>none,(Heap.Ns1.of_empty e3).at λo q=>zac _ q,λ_=>True.intro,λy hy=>absurd rfl hy⟩
theorem Ge (hb:attributeBase e f env (eval e env)=eval e env)
  (h:wpAny (model prog w) A (eval e env) (λo cM=>wpAny (model prog w) A (getAttr o f true) Q E cM) E s):wpAny (model prog w) A (eval (.Attribute e f pos) env) Q E s:=
 Attribute_any_ h (by rw[arm_eval_Attribute,hb])
noncomputable def alK (K:PySem.W.Frag)(ta:TE)(f:Str):TE:=λσ H Q=>ta σ H λx H1=>∃a C dx fs v,x = .ref a/\H1 a=some (.eS C dx fs)/\sQ K C/\bU K C f/\fs.lookup f=some v/\Q v H1
noncomputable def alL (K:PySem.W.Frag)(ta tv:TE)(f:Str):TS:=λD σ H=>tv σ H λy H1=>ta σ H1 λx H2=>∃a C dx fs,x = .ref a/\H2 a=some (.eS C dx fs)/\sQ K C/\bU K C f/\fs.length<1000 /\
 D.nx σ (bD H2 a (.eS C dx (gz f y fs)))
noncomputable def Rq (X:Cx)(op:Operator)(rd:V->V->Hp->VK->Prop):Prop:=
 ∀(ah:List (Addr×Obj)) (s:Shared) (σ:St) (H:Hp) (x y:V) (u v:Value) (Q:VK),aL X ah σ H s->bG x u->bG y v->rd x y H Q->wpAny (model X.prog X.w) X.A (inplaceOp op u v) (EP X ah σ Q) X.xe s
noncomputable def Rr (K:PySem.W.Frag)(ta tv:TE)(rd:V->V->Hp->VK->Prop)(f:Str):TS:=λD σ H=>ta σ H λx H1=>∃a C dx fs v,x = .ref a/\H1 a=some (.eS C dx fs)/\sQ K C/\bU K C f/\fs.lookup f=some v /\
 tv σ H1 λy H2=>rd v y H2 λz H3=>∃dx' Lc,H3 a=some (.eS C dx' Lc)/\Lc.length<1000/\D.nx σ (bD H3 a (.eS C dx' (gz f z Lc)))
theorem ZK (he:PE X e ta)(hb:attributeBase e f X.env (eval e X.env)=eval e X.env):PE X (.Attribute e f pos) (alK X.K ta f):=by
 intro ah s σ H Q I h;refine Ge hb (cS (he ah s σ H _ I h) λu s1 ⟨x,H1,I1,rx,a,C,dx,fs,v,ex,ea,c,n,l,q⟩=>?_)
 subst ex;obtain rfl:u=Value.ref a:=rx
 exact sR I1 ea c n l λu' s2 I2 ru=>⟨v,H1,I2,ru,q⟩
theorem ZL (ha:PE X o ta)(hv:PE X value tv)(hs:swapsWith value (some (.Attribute o f jK)) pos.line X.env=pure false):PS X (.Assign [.Attribute o f jK] value pos) (alL X.K ta tv f):=by
 intro ah s σ H D I h;refine zbW (cS (hv ah s σ H _ I h) λu s1 ⟨y,H1,I1,ry,q⟩=>cS (ha ah s1 σ H1 _ I1 q) λov s2 ⟨x,H2,I2,rx,a,C,dx,fs,ex,ea,c,n,l,q2⟩=>?_) hs
 subst ex;obtain rfl:ov=Value.ref a:=rx
 exact sS I2 ea c n l ry λs3 I3=>⟨σ,_,I3,q2⟩
theorem IP (ha:PE X o ta)(hv:PE X value tv)(hop:Rq X op rd):PS X (.AugAssign (.Attribute o f aqh) op value pos) (Rr X.K ta tv rd f):=by
 intro ah s σ H D I h;refine wpAny_AugAssign_AttributeAny (cS (ha ah s σ H _ I h) λov s1 ⟨x,H1,I1,rx,a,C,dx,fs,v,ex,ea,c,n,l,q⟩=>?_)
 subst ex;obtain rfl:ov=Value.ref a:=rx
 refine sR I1 ea c n l λu s2 I2 ru=>cS (hv ah s2 σ H1 _ I2 q) λw3 s3 ⟨y,H2,I3,ry,q3⟩=>cS (hop ah s3 σ H2 v y u w3 _ I3 ru ry q3) λw4 s4 ⟨z,H3,I4,rz,dx',Lc,ea',l',q4⟩=>?_
 exact sS I4 ea' c n l' rz λs5 I5=>⟨σ,_,I5,q4⟩
noncomputable def alN:V->V->Hp->VK->Prop:=λx y H Q=>∃i j,x = .int i/\y = .int j/\Q (.int (i+j)) H
theorem ZM:Rq X .Add alN:=by
 rintro ah s σ H x y u v Q I rx ry ⟨i,j,rfl,rfl,q⟩
 obtain⟨t,rfl⟩:=(show ∃t,u=Value.int i t from rx)
 obtain⟨t',rfl⟩:=(show ∃t',v=Value.int j t' from ry)
 exact PyProof.Rows.iadd_int ⟨.int (i+j),H,I.nF _,⟨_,rfl⟩,q⟩
section
variable {X:Cx}{ah:List (Addr×Obj)}{σ:St}{H:Hp}{s:Shared}{A:Around}{E:Value->Shared->Prop}{Q:Value->Shared->Prop}{c:Value}{b:Bool}
end
structure gR (k:Nat) (A:Around):Prop where
 hd:A.handled=none
 dp:A.depth+3 * k+5<recursionLimit
 un:A.units+16 * k+200<cLine
theorem gR.mono (r:gR k A)(h:j<=k):gR j A:=⟨r.hd,by have:=r.dp;omega,by have:=r.un;omega⟩
theorem gR.deeper (r:gR (k+1) A)(env:Env):gR k (A.deeper env):=
 ⟨r.hd,by have:=r.dp;show A.depth+1+3 * k+5<_;omega,by have:=r.un;show A.units+3+16 * k+200<_;omega⟩
theorem DE {A:Around}{C:Addr}{us:List Value}{kw:List (Str×Value)}:(A.under (.builtin "type.__call__" ⟨.ref C::us,kw⟩)).depth=A.depth+1:=by
 first|rfl|simp[Around.under,Code.weight,Code.isCreation,Code.isGuard,Code.isCaller,Code.frames,Code.isFrame,agl]
theorem DF {A:Around}{C:Addr}{us:List Value}{kw:List (Str×Value)}:(A.under (.builtin "type.__call__" ⟨.ref C::us,kw⟩)).units=A.units+1:=by
 first|rfl|simp[Around.under,Code.cUnits,Code.frames,Code.isFrame]
theorem gR.LN (r:gR (k+1) A)(C:Addr)(us:List Value)(kw:List (Str×Value)):gR k (A.under (.builtin "type.__call__" ⟨.ref C::us,kw⟩)):=
 ⟨r.hd,by have:=r.dp;rw[DE];omega,by have:=r.un;rw[DF];omega⟩
theorem gR.depth (r:gR k A):A.depth<recursionLimit:=by have:=r.dp;omega
noncomputable def agm:TA:=λ_ H Q=>Q [] H
noncomputable def agn (ta:TE)(tr:TA):TA:=λσ H Q=>ta σ H λx H1=>tr σ H1 λxs H2=>Q (x::xs) H2
theorem qa:PA X [] agm:=λ_ _ _ _ H Q I h=>Calls.spliced_nil ⟨[],H,I,.nil,h⟩
theorem g_ (ha:PE X e te)(hr:PA X es t)(hs:autoParam (starEach (e::es) X.env=(false,eval e X.env)::starEach es X.env) zp_0):PA X (e::es) (agn te t):=by
 intro pos ah s σ H Q I h;rw[hs];show wpAny _ _ (spliced ((false,eval e X.env)::backTo pos (starEach es X.env))) _ _ s
 refine zdg (cS (ha ah s σ H _ I h) λu s1 ⟨x,H1,I1,r1,q1⟩=>?_)
 exact cS (hr pos ah s1 σ H1 _ I1 q1) λus s2 ⟨xs,H2,I2,r2,q2⟩=>⟨x::xs,H2,I2,.cons r1 r2,q2⟩
noncomputable def alO (t:TA):TE:=λσ H Q=>t σ H λxs H1=>xs.length<=sizeLine/\∀p,H1 p=none->Q (.ref p) (bD H1 p (.gQ xs))
noncomputable def alP (t:TA):TE:=λσ H Q=>t σ H λxs H1=>xs.length<=sizeLine/\∀p,H1 p=none->Q (.ref p) (bD H1 p (.bA xs))
theorem LO {x1}(h:PA X es t):PE X (.Tuple es x1 pos) (alO t):=by
 intro ah s σ H Q I hq;refine wpAny_Tuple_spliced (cS (h pos ah s σ H _ I hq) λus s1 ⟨xs,H1,I1,r,z,q⟩=>⟨by rw[<-r.length];exact z,?_⟩)
 have hf:H1 s1.heap.objs.size=none:=I1.cA.fresh (zah _)
 refine⟨.ref s1.heap.objs.size,bD H1 s1.heap.objs.size (.gQ xs),I1.jI (t':=s1.toks) (λb u e=>zac _ e) (zah _) ?_,rfl,q _ hf⟩
 exact⟨z,us,r,⟨_,zap _ rfl,rfl,_,rfl⟩⟩
theorem LP (h:PA X es t):PE X (.List es pos) (alP t):=by
 intro ah s σ H Q I hq;refine wpAny_List_spliced (cS (h pos ah s σ H _ I hq) λus s1 ⟨xs,H1,I1,r,z,q⟩=>⟨by rw[<-r.length];exact z,?_⟩)
 have hf:H1 s1.heap.objs.size=none:=I1.cA.fresh (zah _)
 refine⟨.ref s1.heap.objs.size,bD H1 s1.heap.objs.size (.bA xs),I1.jI (t':=s1.toks) (λb u e=>zac _ e) (zah _) ?_,rfl,q _ hf⟩
 exact⟨z,us,0,r,zap _ rfl⟩
noncomputable abbrev Sp:=List V->Hp->VK->XK->Prop
noncomputable abbrev AI:=List Env->Hp->Shared->XK->Value->Shared->Prop
structure DG (P:Program) (w:World) (K:PySem.W.Frag) (mg:Str->Option Value) (base:Heap) (A:Around) (outer:List Env) (s:Shared) (H:Hp):Prop where
 frames:A.frames=some outer
 sH:Mod K mg base
 bs:∀b o,base.get? b=some o->s.heap.get? b=some o/\H b=none
 QU:base.objs.size<=s.heap.objs.size
 j7:s.heap.FunFrames base outer
 Lp:∀b∈rS outer,H b=none
 cA:mT P w H s.heap
 ig:AllBare s.gens
noncomputable def CE (outer:List Env)(P:Program)(w:World)(H:Hp)(s:Shared)(Q:VK)(u:Value)(s':Shared):Prop:=
 ∃v H',s'.os=s.os/\AllBare s'.gens/\Un (rS outer) [] H H' s.heap s'.heap/\mT P w H' s'.heap/\bG v u/\Q v H'
noncomputable def CR (CX:AI)(outer:List Env)(P:Program)(w:World)(H:Hp)(s:Shared)(Q:VK)(E:XK)(r:Result)(s':Shared):Prop:=
 match r with
 |.ok (.ret u)=>CE outer P w H s Q u s'
 |.ok _=>False
 |.error e=>CX outer H s E e s'
structure aO (P:Program) (w:World) (K:PySem.W.Frag) (mg:Str->Option Value) (base:Heap) (CX:AI) (k:Nat) (f:Addr) (fd:FuncData) (ps:List Str) (sp:Sp):Prop where
 len:∀vs H Q E,sp vs H Q E->vs.length=ps.length
 kh:∀(A:Around) (outer:List Env) (s:Shared) (H:Hp) (args:Args) (us:List Value) (vs:List V) (Q:VK) (E:XK),gR k A->DG P w K mg base A outer s H->BindsTo s fd args (ps.zip us)->bH vs us->sp vs H Q E ->
  codeAny (model P w) A (.call (.ref f) args) (CR CX outer P w H s Q E) s
theorem aO.imp {P:Program}{w:World}{K:PySem.W.Frag}{mg:Str->Option Value}{base:Heap}{CX:AI}{k:Nat}{f:Addr}{fd:FuncData}{ps:List Str}{sp sp':Sp}(F:aO P w K mg base CX k f fd ps sp)
  (h:∀vs H Q E,sp' vs H Q E->sp vs H Q E):aO P w K mg base CX k f fd ps sp':=
 ⟨λvs H Q E q=>F.len vs H Q E (h _ _ _ _ q),λA outer s H args us vs Q E hr he hb hv hs=>F.kh A outer s H args us vs Q E hr he hb hv (h _ _ _ _ hs)⟩
theorem DG.LN {P:Program}{w:World}{K:PySem.W.Frag}{mg:Str->Option Value}{base:Heap}{A:Around}{outer:List Env}{s:Shared}{H:Hp}(e:DG P w K mg base A outer s H)(C:Addr)(us:List Value)(kw:List (Str×Value)):
  DG P w K mg base (A.under (.builtin "type.__call__" ⟨.ref C::us,kw⟩)) outer s H:=⟨by first|exact e.frames | (simpa[Around.under,Code.envs,Code.isFrame,ago] using e.frames),e.sH,e.bs,e.QU,e.j7,e.Lp,e.cA,e.ig⟩
theorem aL.yV (I:aL X ah σ H s):DG X.prog X.w X.K X.mg X.base X.A X.dm s H:=
 ⟨I.ok.frames,I.ok.sH,I.bs,zai I.ok.QU I.sz,I.dm,I.F3,I.cA,I.ig⟩
theorem aL.after (I:aL X ah σ H s)(h:CE X.dm X.prog X.w H s Q u s'):EP X ah σ Q u s':=by
 obtain⟨v,H',os,ig,un,cA,r,q⟩:=h;obtain⟨hh,g,d,t,os'⟩:=s';obtain rfl:os'=s.os:=os
 exact⟨v,H',I.call (h':=hh) (g':=g) (d':=d) (t':=t) (ch:=[]) un cA ig (λb z=>absurd z (by simp)),r,q⟩
noncomputable def VA (sp:Sp)(mV:List V)(E:XK)(t:TA):TE:=λσ H Q=>t σ H λvs H1=>sp (vs++mV) H1 Q E
noncomputable def Gf (C:Addr)(m:Str)(sp:Sp)(mV:List V)(E:XK)(ta:TE)(t:TA):TE:=λσ H Q=>ta σ H λx H1=>∃a dx fs,x = .ref a/\H1 a=some (.eS C dx fs)/\fs.lookup m=none /\
 t σ H1 λvs H2=>sp (x::(vs++mV)) H2 Q E
noncomputable def VB (C:Addr)(sp:Sp)(mV:List V)(E:XK)(t:TA):TE:=λσ H Q=>t σ H λvs H1=>∀x dx,H1 x=none->H1 dx=none->dx≠x ->
 sp (.ref x::(vs++mV)) (bD (bD H1 dx (.sD x)) x (.eS C dx [])) (λv H2=>v = .bB/\Q (.ref x) H2) E
noncomputable def d_ (K:PySem.W.Frag)(fd:FuncData)(ps:List Str)(ds:List Value):Prop:=
 ∀(s:Shared) (us:List Value),K.In s.heap->(us++ds).length=ps.length->BindsTo s fd ⟨us,[]⟩ (ps.zip (us++ds))
theorem d_.all {K:PySem.W.Frag}{fd:FuncData}{ps:List Str}(h:∀us:List Value,us.length=ps.length->bindArgs fd ⟨us,[]⟩=pure (ps.zip us)):d_ K fd ps []:=λs us _ hl=>by
 rw[zay] at hl ⊢
 exact .of_eq (h us hl)
noncomputable def fj (CX:AI)(X:Cx)(E:XK):Prop:=∀(ah:List (Addr×Obj)) (σ:St) (H:Hp) (s:Shared) (e:Value) (s':Shared),aL X ah σ H s->CX X.dm H s E e s'->X.xe e s'
section
variable {X:Cx}{CX:AI}{k:Nat}{f C:Addr}{fd:FuncData}{ps:List Str}{sp:Sp}{mV:List V}{ds:List Value}{E:XK}{x m:Str}{p pos dX:Pos}{e o:Expr}{es:List Expr}{ta:TE}{t:TA}
theorem DH (F:aO X.prog X.w X.K X.mg X.base CX k f fd ps sp)(hr:gR k X.A)(hb:d_ X.K fd ps ds)(hd:bH mV ds)(hx:fj CX X E)
  (I:aL X ah σ H s) (r:bH vs us) (h:sp (vs++mV) H Q E):wpAny (model X.prog X.w) X.A (call (.ref f) us) (EP X ah σ Q) X.xe s:=by
 have r2:bH (vs++mV) (us++ds):=r.lW hd
 have hl:(us++ds).length=ps.length:=by rw[<-r2.length];exact F.len _ _ _ _ h
 refine zcl (zcx (F.kh X.A X.dm s H ⟨us,[]⟩ (us++ds) (vs++mV) Q E hr I.yV (hb s us I.nE hl) r2 h) λr s' hq=>?_)
 cases r with
 |error e=>exact hx ah σ H s e s' I hq
 |ok fl =>
  cases fl with
  |ret u=>exact I.after hq
  |next=>exact False.elim hq
  |brk=>exact False.elim hq
  |cont=>exact False.elim hq
theorem Rt (F:aO X.prog X.w X.K X.mg X.base CX k f fd ps sp)(hr:gR k X.A)(hg:Gl X x)(hm:X.mg x=some (.ref f))(hk:PySem.W.keepIn X.K (.ref f)=true)(hb:d_ X.K fd ps ds)(hd:bH mV ds)(hx:fj CX X E)
  (ha:PA X (e::es) t) (sU:autoParam ((x == ("__debug__" : Str))=false) zp_1) (he:autoParam (starEach (e::es) X.env=(false,eval e X.env)::starEach es X.env) zp_0) (hpl:autoParam ((backTo pos (starEach es X.env)).any (·.1)=false) zp_0):
  PE X (.Call (.Name x p) (e::es) [] pos) (VA sp mV E t):=by
 intro ah s σ H Q I h;refine zbZ (mU I hg hm ?_ sU)
 refine zcy (h₀:= X.base) I.ok.sH.Zc hk (cS (ha pos ah s σ H _ I h) λus s1 ⟨vs,H1,I1,r,q⟩=>⟨I1.nE,?_⟩) he hpl
 exact DH F hr hb hd hx I1 r q
theorem Gg (he:PE X o ta)(c:sQ X.K C)(hm:c8 X.K C m f)(F:aO X.prog X.w X.K X.mg X.base CX k f fd ps sp)(hr:gR k X.A)(hb:d_ X.K fd ps ds)(hd:bH mV ds)(hx:fj CX X E)(ha:PA X (e::es) t)
  (pV:autoParam (starEach (e::es) X.env=(false,eval e X.env)::starEach es X.env) zp_0) (hpl:autoParam ((backTo pos (starEach es X.env)).any (·.1)=false) zp_0)
  (ht:autoParam (eval (.Call (.Attribute o m dX) (e::es) [] pos) X.env=(do
   let ov <-eval o X.env
   standAt dX.atName
   let (f,first) <-holding [ov] (getMethod ov m pl)
   callWith pos f first (backTo pos (starEach (e::es) X.env)) (backToKw pos (keywordEach [] X.env)))) zp_0):
  PE X (.Call (.Attribute o m dX) (e::es) [] pos) (Gf C m sp mV E ta t):=by
 intro ah s σ H Q I h;refine zcK (pl:=pl) (cS (he ah s σ H _ I h) λu s1 ⟨x,H1,I1,rx,a,dx,fs,ex,ea,l,q⟩=>?_) ht
 subst ex;obtain rfl:u=Value.ref a:=rx
 refine nN I1 ea c hm l ?_
 refine zcy (first:=[.ref a]) (h₀:= X.base) I.ok.sH.Zc hm.kp (cS (ha pos ah s1 σ H1 _ I1 q) λus s2 ⟨vs,H2,I2,r,q2⟩=>⟨I2.nE,?_⟩) pV hpl
 exact DH (us:=.ref a::us) (vs:=.ref a::vs) F hr hb hd hx I2 (.cons rfl r) q2
theorem LQ (he:PE X o ta)(c:sQ X.K C)(hm:c8 X.K C m f)(F:aO X.prog X.w X.K X.mg X.base CX k f fd ps sp)(hr:gR k X.A)(hb:d_ X.K fd ps ds)(hd:bH mV ds)(hx:fj CX X E)
  (ht:autoParam (eval (.Call (.Attribute o m dX) [] [] pos) X.env=(do
   let ov <-eval o X.env
   standAt dX.atName
   let (f,first) <-holding [ov] (getMethod ov m pl)
   callWith pos f first (backTo pos (starEach [] X.env)) (backToKw pos (keywordEach [] X.env)))) zp_0):
  PE X (.Call (.Attribute o m dX) [] [] pos) (Gf C m sp mV E ta agm):=by
 intro ah s σ H Q I h;refine zcK (pl:=pl) (cS (he ah s σ H _ I h) λu s1 ⟨x,H1,I1,rx,a,dx,fs,ex,ea,l,q⟩=>?_) ht
 subst ex;obtain rfl:u=Value.ref a:=rx
 refine nN I1 ea c hm l ?_
 exact PySem.W.callWith_K0 (first:=[.ref a]) I1.nE hm.kp (DH (us:=[.ref a]) (vs:=[.ref a]) F hr hb hd hx I1 (.cons rfl .nil) q)
structure Mk (K:PySem.W.Frag) (C f:Addr):Prop where
 agp:PySem.W.makesIn K C=true
 init:PySem.W.findIn K (.ref C) "__init__"=some (some (.ref f))
 fn:PySem.W.isFn K (.ref f)=true
 kp:PySem.W.keepIn K (.ref C)=true
theorem LR (M:Mk X.K C f)(F:aO X.prog X.w X.K X.mg X.base CX k f fd ps sp)(hr:gR (k+1) X.A)(hb:d_ X.K fd ps ds)(hd:bH mV ds)
  (hx:fj CX X E) (I:aL X ah σ H s) (r:bH vs us)
  (h:∀x dx,H x=none->H dx=none->dx≠x->sp (.ref x::(vs++mV)) (bD (bD H dx (.sD x)) x (.eS C dx [])) (λv H2=>v = .bB/\Q (.ref x) H2) E):
  wpAny (model X.prog X.w) X.A (call (.ref C) us) (EP X ah σ Q) X.xe s:=by
 have hq:=h (s.heap.objs.size+1) s.heap.objs.size (I.cA.fresh (zaW _)) (I.cA.fresh (zah _)) (zaq (zbi _))
 have I2:=aL.made (C:=C) I
 have r2:bH (V.ref (s.heap.objs.size+1)::(vs++mV)) (Value.ref (s.heap.objs.size+1)::(us++ds)):=.cons rfl (r.lW hd)
 have hl:(Value.ref (s.heap.objs.size+1)::us++ds).length=ps.length:=by
  have e:=r2.length;rw[F.len _ _ _ _ hq] at e;exact e.symm
 refine zcl (LM (f:=f) I.nE M.agp M.init (beq_iff_eq.mp M.fn) (zcx (F.kh _ X.dm _ _ ⟨Value.ref (s.heap.objs.size+1)::us,[]⟩ (Value.ref (s.heap.objs.size+1)::(us++ds)) _ _ E (hr.LN C us [])
  (I2.yV.LN C us []) (hb _ (Value.ref (s.heap.objs.size+1)::us) I2.nE hl) r2 hq) λr s' LS=>?_))
 cases r with
 |error e=>exact hx ah σ _ _ e s' I2 LS
 |ok fl =>
  cases fl with
  |ret u =>
   obtain⟨v,H',I3,rv,ev,q3⟩:=I2.after LS;subst ev;exact⟨rv,⟨V.ref (s.heap.objs.size+1),H',I3,rfl,q3⟩⟩
  |next=>exact False.elim LS
  |brk=>exact False.elim LS
  |cont=>exact False.elim LS
theorem Ru (M:Mk X.K C f)(F:aO X.prog X.w X.K X.mg X.base CX k f fd ps sp)(hr:gR (k+1) X.A)(hg:Gl X x)(hm:X.mg x=some (.ref C))(hb:d_ X.K fd ps ds)(hd:bH mV ds)(hx:fj CX X E)
  (ha:PA X (e::es) t) (sU:autoParam ((x == ("__debug__" : Str))=false) zp_1) (he:autoParam (starEach (e::es) X.env=(false,eval e X.env)::starEach es X.env) zp_0) (hpl:autoParam ((backTo pos (starEach es X.env)).any (·.1)=false) zp_0):
  PE X (.Call (.Name x p) (e::es) [] pos) (VB C sp mV E t):=by
 intro ah s σ H Q I h;refine zbZ (mU I hg hm ?_ sU)
 refine zcy (h₀:= X.base) I.ok.sH.Zc M.kp (cS (ha pos ah s σ H _ I h) λus s1 ⟨vs,H1,I1,r,q⟩=>⟨I1.nE,?_⟩) he hpl
 exact LR M F hr hb hd hx I1 r q
end
section
variable {X:Cx}{CX:AI}{k:Nat}{f C:Addr}{fd:FuncData}{ps ks:List Str}{sp:Sp}{E:XK}{x m:Str}{p pos dX aqj:Pos}{e o:Expr}{es:List Expr}{kws:List Keyword}{te ta:TE}{t tk:TA}{nm:Option Str}
end
structure aq (N P:List Str) (sc:Scope):Prop where
 kind:sc.kind = .function
 co:sc.isCoroutine=false
 gen:sc.isGenerator=false
 nd:N.Nodup
 pre:N.take P.length=P
 par:∀x∈P,sc.names.lookup x=some .local\/sc.names.lookup x=some .cell
 ZN:∀y∈sc.names,y.2 ≠ .free
theorem wQ {kindOf:Str->Option NameKind}{x:Str}:∀{qQ:List (Str×Value)} {m:Str->Option Value},(∀v,(x,v)∉qQ)->bindL kindOf qQ m x=m x
 |[],_,_=>rfl
 | (n,v)::r,m,h=>by
  unfold bindL;rw[wQ λw hw=>h w (zaD _ hw)]
  split
  ·have:x≠n:=by rintro rfl;exact h v zbh
   simp[this]
  ·rfl
theorem wR {kindOf:Str->Option NameKind}{x:Str}:∀{qQ:List (Str×Value)} {m:Str->Option Value},(∀v,(x,v)∉qQ)->bindC kindOf qQ m x=m x
 |[],_,_=>rfl
 | (n,v)::r,m,h=>by
  unfold bindC;rw[wR λw hw=>h w (zaD _ hw)]
  split
  ·rfl
  ·have:x≠n:=by rintro rfl;exact h v zbh
   simp[this]
theorem wU {kindOf:Str->Option NameKind}{x:Str}{v:Value}:∀{P:List Str} {vs:List Value} {i:Nat} {m:Str->Option Value},P.Nodup->P[i]? = some x->vs[i]? = some v->kindOf x=some .local ->
  bindL kindOf (P.zip vs) m x=some v
 |[],_,_,_,_,h,_,_=>by simp at h
 |_::_,[],_,_,_,_,h,_=>by simp at h
 |p::P,w::vs,0,m,nd,h1,h2,hk=>by
  simp at h1 h2;subst h1;subst h2
  show bindL kindOf ((p,w)::P.zip vs) m p=_
  unfold bindL;rw[wQ λv hv=>(zby.mp nd).1 (zdK hv).1,if_pos hk]
  simp
 |p::P,w::vs,i+1,m,nd,h1,h2,hk=>by
  show bindL kindOf ((p,w)::P.zip vs) m x=_
  unfold bindL;exact wU (i:=i) (zby.mp nd).2 (by simpa using h1) (by simpa using h2) hk
theorem wV {kindOf:Str->Option NameKind}{x:Str}{v:Value}:∀{P:List Str} {vs:List Value} {i:Nat} {m:Str->Option Value},P.Nodup->P[i]? = some x->vs[i]? = some v->kindOf x≠some .local ->
  bindC kindOf (P.zip vs) m x=some v
 |[],_,_,_,_,h,_,_=>by simp at h
 |_::_,[],_,_,_,_,h,_=>by simp at h
 |p::P,w::vs,0,m,nd,h1,h2,hk=>by
  simp at h1 h2;subst h1;subst h2
  show bindC kindOf ((p,w)::P.zip vs) m p=_
  unfold bindC;rw[wR λv hv=>(zby.mp nd).1 (zdK hv).1,if_neg hk]
  simp
 |p::P,w::vs,i+1,m,nd,h1,h2,hk=>by
  show bindC kindOf ((p,w)::P.zip vs) m x=_
  unfold bindC;exact wV (i:=i) (zby.mp nd).2 (by simpa using h1) (by simpa using h2) hk
noncomputable def dz (N:List Str)(vs:List V):St:=vs.map some++List.replicate (N.length - vs.length) none
noncomputable def iB (CX:AI)(P:Program)(w:World)(K:PySem.W.Frag)(mg:Str->Option Value)(base:Heap)(N:List Str)(bV:Str)(scope:Scope)(f:Addr)(cd:Value)(A:Around)(outer:List Env)(s:Shared)(H:Hp)(E:XK):Cx where
 prog:=P
 w:=w
 K:=K
 mg:=mg
 base:=base
 A:=A.deeper (envOfC bV scope s.heap.objs.size f cd)
 N:=N
 s₀:= s
 H₀:= H
 env:=envOfC bV scope s.heap.objs.size f cd
 outer:=outer
 dm:=envOfC bV scope s.heap.objs.size f cd::outer
 ex:=[]
 fS:=true
 fn:=λ_=>true
 pn:=[]
 xe:=λe s'=>wpAny (model P w) (A.deeper (envOfC bV scope s.heap.objs.size f cd)) (leaving (envOfC bV scope s.heap.objs.size f cd) e) (λ_ s''=>CX outer H s E e s'') (λe' s''=>CX outer H s E e' s'') s'
theorem AJ {sc:Scope}{n:Nat}{x:Str}(h:sc.names.lookup x=some .cell):∃c,(cellsFrom n sc.names []).lookup x=some c:=by
 have q:=zdQ sc.names n [] (.inl h)
 exact zbR.mp q
theorem IQ {CX:AI}{P:Program}{w:World}{K:PySem.W.Frag}{mg:Str->Option Value}{base:Heap}{N ps:List Str}{bV:Str}{scope:Scope}{f:Addr}{cd:Value}{A:Around}{outer:List Env}{s s1:Shared}{H:Hp}{E:XK}{us:List Value}{vs:List V}
  (S:aq N ps scope) (hd:A.handled=none) (e0:DG P w K mg base A outer s H) (hl:vs.length=ps.length) (r:bH vs us)
  (x:InCallC s s.heap.objs.size (bindL (envOfC bV scope s.heap.objs.size f cd).kindOf (ps.zip us) λ_=>none) (cellsFrom (s.heap.objs.size+1) scope.names []) (bindC (envOfC bV scope s.heap.objs.size f cd).kindOf (ps.zip us) λ_=>none) s1):
  aL (iB CX P w K mg base N bV scope f cd A outer s H E) [] (dz N vs) H s1:=by
 have hpl:ps.length<=N.length:=by have:=congrArg List.length S.pre;rw[zbj] at this;omega
 obtain⟨h1,tk,rfl,hk⟩:=x.done;have noA:∀b:Addr,b∉(iB CX P w K mg base N bV scope f cd A outer s H E).ex:=λb z=>absurd (show b∈([]:List Addr) from z) (by simp)
 refine⟨⟨e0.sH,S.kind,rfl,rfl,zah _,λy z c h1 h2=>?_,λy hy=>?_,λy c _ h=>?_,λ_=>hd,Around.frames_deeper e0.frames,.inr ⟨rfl,rfl⟩,λb z=>absurd z (noA b),e0.bs,e0.QU,λb _ _=>noA b,λb z=>absurd z (noA b),e0.j7,e0.Lp⟩,
  rfl,e0.ig,Un.ie hk,⟨_,x.toInCall.ns,λi y v h1 h2 h3=>?_⟩,λy c h=>⟨_,x.cell y c h⟩,e0.cA.fresh (zah _),λy c h=>?_,λp hp=>absurd (show p∈([]:List (Addr×Obj)) from hp) (by simp),e0.cA.ie hk,?_⟩
 ·exact name_of_addr x.apart (zaZ h1) (zaZ h2)
 ·have hy:scope.names.lookup y=some .cell\/scope.names.lookup y=some .free:=hy
  rcases hy with hy|hy
  ·exact AJ hy
  ·exact absurd rfl (S.ZN _ (zaZ hy))
 ·exact zep (x.above y c (zaZ h))
 ·have hi:i<vs.length:=by
   unfold dz at h2;by_cases hi:i<vs.length
   ·exact hi
   ·rw[zat (by simpa using hi)] at h2
    rw[zcF] at h2;split at h2<;>cases h2
  have ha:vs[i]? = some v:=by
   unfold dz at h2;rw[zab (by simpa using hi),zau] at h2
   cases e:vs[i]? with
   |none=>rw[e] at h2;cases h2
   |some a=>rw[e] at h2;cases h2;rfl
  obtain⟨u,hu,rv⟩:=r.get ha;have hp:ps[i]? = some y:=by
   rw[<-S.pre,zbz (by omega)];exact h1
  have ndP:ps.Nodup:=by rw[<-S.pre];exact S.nd.sublist (List.take_sublist _ _)
  refine⟨u,rv,?_⟩
  rcases S.par y (zaA hp) with k|k
  ·exact .inl ⟨k,wU ndP hp hu k⟩
  ·obtain⟨c,e⟩:=AJ (n:=s.heap.objs.size+1) k
   refine .inr ⟨.inl k,c,e,?_⟩
   have q:=x.cell y c e;rw[wV ndP hp hu (by show scope.names.lookup y≠_;rw[k];decide)] at q
   exact q
 ·exact e0.cA.fresh (zep (x.above y c (zaZ h)))
 ·unfold dz
  show _=N.length
  rw[zaj,zaf,List.length_replicate];omega
theorem LU {CX:AI}{P:Program}{w:World}{K:PySem.W.Frag}{mg:Str->Option Value}{base:Heap}{k:Nat}{f:Addr}{name bV:Str}{params:Arguments}{body:List Stmt}{scope:Scope}{dV kV nO pm eU ct oc:Value}{an od:Option Addr}
  {Dd:Array (Option Value)} {N ps:List Str} {sp:Sp} (lk:K.lookup f=some ⟨oc,od,.func (PySem.W.fnOf name bV params body scope dV kV nO pm an eU ct),Dd⟩) (AE:PySem.W.codeIn K eU bV=true) (S:aq N ps scope)
  (len:∀vs H Q E,sp vs H Q E->vs.length=ps.length)
  (sV:∀(A:Around) (outer:List Env) (s:Shared) (H:Hp) (vs:List V) (Q:VK) (E:XK),gR k (A.deeper (envOfC bV scope s.heap.objs.size f eU))->sp vs H Q E ->
   ∃t,wM (iB CX P w K mg base N bV scope f eU A outer s H E) body t/\t {nx:=λ_ H'=>Q .bB H',rt:=Q} (dz N vs) H):
  aO P w K mg base CX (k+1) f (PySem.W.fnOf name bV params body scope dV kV nO pm an eU ct) ps sp:=by
 refine⟨len,λA outer s H args us vs Q E hr e0 hb r Ld=>?_⟩
 have hl:=len _ _ _ _ Ld;have KX:K.In s.heap:=e0.sH.Zc.keeps λb o e=>(e0.bs b o e).1
 have lim:s.heap.NoLimit:=e0.sH.nolimit.keeps λb o e=>(e0.bs b o e).1
 have Gh:∀y∈ps.zip us,scope.names.lookup y.1=some .local\/(scope.names.lookup y.1=some .cell/\((cellsFrom (s.heap.objs.size+1) scope.names []).lookup y.1).isSome=true):=λ⟨n,v⟩ hy=>by
  rcases S.par n (zdK hy).1 with q|q
  ·exact .inl q
  ·exact .inr ⟨q,zdQ _ _ _ (.inl q)⟩
 refine codeAny_call_function hr.depth (KX _ _ lk) rfl S.co S.gen rfl (PySem.W.codeRec_of KX AE) (hb _ _ _ _ ?_)
 refine wpAny_newFunctionEnv_cells S.kind Gh λenv he s1 x=>?_
 subst he;refine⟨lim.keeps x.toInCall.keep,codeAny_func ?_⟩
 obtain⟨t,ht,hq⟩:=sV A outer s H vs Q E (hr.deeper _) Ld
 have I:aL (iB CX P w K mg base N bV scope f eU A outer s H E) [] (dz N vs) H s1:=IQ S hr.hd e0 hl r x
 refine zaK (ht [] s1 (dz N vs) H _ I hq) (λfl s' hs=>?_) λe s' hs=>hs
 have eW:∀{d9:St} {H':Hp} {v:V} {u:Value},aL (iB CX P w K mg base N bV scope f eU A outer s H E) [] d9 H' s'->bG v u->Q v H'->CE outer P w H s Q u s':=
  λ{d9 H' v u} J rv q=>⟨v,H',J.os,J.ig,J.base,J.cA,rv,q⟩
 cases fl with
 |ret u =>
  obtain⟨v,d9,H',J,rv,q⟩:=hs;exact eW J rv q
 |next =>
  obtain⟨d9,H',J,q⟩:=hs;exact eW (v:=V.bB) (u:=Value.none) J rfl q
 |brk =>
  obtain⟨_,_,_,q⟩:=hs;exact False.elim q
 |cont =>
  obtain⟨_,_,_,q⟩:=hs;exact False.elim q
section
variable {X:Cx}{x:Str}{p pos:Pos}{e:Expr}{es:List Expr}{t:TA}{id T:String}{r:List V->Hp->VK->Prop}
noncomputable def tCB (r:List V->Hp->VK->Prop)(t:TA):TE:=λσ H Q=>t σ H λvs H1=>r vs H1 Q
theorem oF (hc:jo X (.builtin id) r)(hg:Gl X x)(hm:X.mg x=none)(hv:bootBuiltins x=some (.builtin id))(ha:PA X (e::es) t)(hn:autoParam (x ≠ "__name__") zp_1)(sU:autoParam ((x == ("__debug__" : Str))=false) zp_1)
  (he:autoParam (starEach (e::es) X.env=(false,eval e X.env)::starEach es X.env) zp_0) (hpl:autoParam ((backTo pos (starEach es X.env)).any (·.1)=false) zp_0):PE X (.Call (.Name x p) (e::es) [] pos) (tCB r t):=by
 intro ah s σ H Q I h;refine zbZ (sM I hg hm hv ?_ hn sU)
 exact PyProof.Rows.callWith_builtin1 (cS (ha pos ah s σ H _ I h) λus s1 ⟨vs,H1,I1,r1,q1⟩=>hc ah s1 σ H1 vs us Q I1 r1 q1) he hpl
theorem IS (hc:jo X (.type T) r)(hg:Gl X x)(hm:X.mg x=none)(hv:bootBuiltins x=some (.type T))(ha:PA X (e::es) t)(hn:autoParam (x ≠ "__name__") zp_1)(sU:autoParam ((x == ("__debug__" : Str))=false) zp_1)
  (he:autoParam (starEach (e::es) X.env=(false,eval e X.env)::starEach es X.env) zp_0) (hpl:autoParam ((backTo pos (starEach es X.env)).any (·.1)=false) zp_0):PE X (.Call (.Name x p) (e::es) [] pos) (tCB r t):=by
 intro ah s σ H Q I h;refine zbZ (sM I hg hm hv ?_ hn sU)
 exact zcj (cS (ha pos ah s σ H _ I h) λus s1 ⟨vs,H1,I1,r1,q1⟩=>hc ah s1 σ H1 vs us Q I1 r1 q1) he hpl
end
section
variable {κ:Type}[DecidableEq κ]
noncomputable def lJ (aQ:List (κ × V))(k:κ):Option V:=(aQ.find? λkv=>decide (kv.1=k)).map (·.2)
noncomputable def ki (aQ:List (κ × V))(k:κ)(v:V):List (κ × V):=
 if (aQ.any λkv=>decide (kv.1=k))=true then aQ.map (λkv=>if kv.1=k then (kv.1,v) else kv) else aQ++[(k,v)]
theorem oG {p:κ × V}{r:List (κ × V)}{k:κ}(e:p.1=k):lJ (p::r) k=some p.2:=by simp[lJ,zca,e]
theorem oH {p:κ × V}{r:List (κ × V)}{k:κ}(e:¬ p.1=k):lJ (p::r) k=lJ r k:=by simp[lJ,zca,e]
theorem AK (k:κ):∀aQ:List (κ × V),(aQ.any λkv=>decide (kv.1=k))=(lJ aQ k).isSome
 |[]=>rfl
 |p::r=>by
  rw[zbY];by_cases e:p.1=k
  ·simp only[oG e,decide_eq_true e,Bool.true_or,zes]
  ·rw[oH e,decide_eq_false e,Bool.false_or];exact AK k r
theorem l6 (aQ:List (κ × V))(k:κ)(v:V):(ki aQ k v).length<=aQ.length+1:=by
 unfold ki;split
 ·rw[zaf];omega
 ·rw[zaj,zar,zaP];omega
theorem iP.jN (r:iP o u):o.isSome=u.isSome:=by
 cases o with
 |none=>cases u with
  |none=>rfl
  |some _=>exact (show False from r).elim
 |some _=>cases u with
  |none=>exact (show False from r).elim
  |some _=>rfl
theorem iP.getD (r:iP o u)(rd:bG d d'):bG (o.getD d) (u.getD d'):=by
 cases o with
 |none=>cases u with
  |none=>exact rd
  |some _=>exact (show False from r).elim
 |some _=>cases u with
  |none=>exact (show False from r).elim
  |some _=>exact r
theorem KV.val {aQ:List (κ × V)}{vs:List (κ × Value)}(r:KV aQ vs)(k:κ):iP (lJ aQ k) (valueAt vs k):=by
 unfold KV at r;induction r with
 |nil=>exact True.intro
 | @cons p q ps qs h t ih =>
  obtain⟨h1,h2⟩:=h;by_cases e:p.1=k
  ·have e':q.1=k:=h1.symm.trans e
   have b:valueAt (q::qs) k=some q.2:=by simp[valueAt,zca,e']
   rw[oG e,b];exact h2
  ·have e':¬ q.1=k:=λz=>e (h1.trans z)
   have b:valueAt (q::qs) k=valueAt qs k:=by simp[valueAt,zca,e']
   rw[oH e,b];exact ih
theorem KV.any (r:KV aQ vs)(k:κ):(aQ.any λkv=>decide (kv.1=k))=vs.any λkv=>decide (kv.1=k):=by
 unfold KV at r;induction r with
 |nil=>rfl
 |cons h t ih=>rw[zbY,zbY,ih,h.1]
theorem KV.ZO (r:KV aQ vs)(k:κ)(ry:bG y u):
  KV (aQ.map λkv=>if kv.1=k then (kv.1,y) else kv) (vs.map λkv=>if kv.1=k then (kv.1,u) else kv):=by
 unfold KV at r ⊢
 induction r with
 |nil=>exact .nil
 | @cons p q ps qs h t ih =>
  rw[zas,zas];refine .cons ?_ ih
  obtain⟨h1,h2⟩:=h;by_cases e:p.1=k
  ·rw[if_pos e,if_pos (h1.symm.trans e)];exact⟨h1,ry⟩
  ·rw[if_neg e,if_neg (λz=>e (h1.trans z))];exact⟨h1,h2⟩
theorem KV.DI (r:KV aQ vs)(k:κ)(ry:bG y u):KV (ki aQ k y) (stored vs k u):=by
 unfold ki stored;rw[r.any k];by_cases e:(vs.any λkv=>decide (kv.1=k))=true
 ·rw[if_pos e,if_pos e];exact r.ZO k ry
 ·rw[if_neg e,if_neg e];exact Paired.snoc r ⟨rfl,ry⟩
theorem KV.pX {aQ:List (κ × V)}{vs:List (κ × Value)}(r:KV aQ vs):aQ.map (·.1)=vs.map (·.1):=by
 unfold KV at r;induction r with
 |nil=>rfl
 |cons h t ih=>rw[zas,zas,ih,h.1]
theorem KV.length (r:KV aQ vs):aQ.length=vs.length:=Paired.length r
end
theorem qR (r:bG (kV k) u):(bW P w).is k u=true:=by
 cases k with
 |inl i=>obtain⟨t,e⟩:=(show ∃t,u=Value.int i t from r);subst e;exact Ay P w i t
 |inr x=>obtain⟨t,e⟩:=(show ∃t,u=Value.str x t from r);subst e;exact Az P w x t
theorem wW:∀{ks:List dW} {us:List Value},bH (ks.map kV) us->ItemsAre (bW P w) ks us
 |[],_,r=>by rw[zbL] at r;cases r;exact .nil
 |k::ks,_,r=>by
  rw[zas] at r;cases r with
  |cons h t=>exact .cons (qR h) (wW t)
noncomputable abbrev KT (H:Hp):List (List dW×V)->List (List dW×Addr×Value)->Prop:=Paired λp q=>p.1=q.1/\H q.2.1=some (.gQ (p.1.map kV))/\bG p.2 q.2.2
theorem KT.val (r:KT H aQ xs)(k:List dW):iP (lJ aQ k) ((atKey xs k).map (·.2)):=by
 induction r with
 |nil=>exact True.intro
 | @cons p q ps qs h t ih =>
  obtain⟨h1,_,h2⟩:=h;by_cases e:p.1=k
  ·have e':q.1=k:=h1.symm.trans e
   have b:atKey (q::qs) k=some q.2:=by simp[atKey,zca,e']
   rw[oG e,b];exact h2
  ·have e':¬ q.1=k:=λz=>e (h1.trans z)
   have b:atKey (q::qs) k=atKey qs k:=by simp[atKey,zca,e']
   rw[oH e,b];exact ih
theorem KT.ZO (r:KT H aQ xs)(k:List dW)(ry:bG y u):
  KT H (aQ.map λkv=>if kv.1=k then (kv.1,y) else kv) (xs.map (putAt k u)):=by
 induction r with
 |nil=>exact .nil
 | @cons p q ps qs h t ih =>
  rw[zas,zas];refine .cons ?_ ih
  obtain⟨h1,h2,h3⟩:=h;unfold putAt;by_cases e:p.1=k
  ·rw[if_pos e,if_pos (h1.symm.trans e)];exact⟨h1,h2,ry⟩
  ·rw[if_neg e,if_neg (λz=>e (h1.trans z))];exact⟨h1,h2,h3⟩
theorem KT.DI (r:KT H aQ xs)(k:List dW)(hb:H b=some (.gQ (k.map kV)))(ry:bG y u):
  KT H (ki aQ k y) (storedH xs k b u):=by
 have e:(aQ.any λkv=>decide (kv.1=k))=(atKey xs k).isSome:=by
  rw[AK,(r.val k).jN,zdu]
 unfold ki storedH;rw[e];by_cases q:(atKey xs k).isSome=true
 ·rw[if_pos q,if_pos q];exact r.ZO k ry
 ·rw[if_neg q,if_neg q];exact Paired.snoc r ⟨rfl,hb,ry⟩
theorem KT.keeps (r:KT H aQ xs)(ht:∀b ys,H b=some (.gQ ys)->H' b=some (.gQ ys)):KT H' aQ xs:=
 Paired.Za r λ_ _ z=>⟨z.1,ht _ _ z.2.1,z.2.2⟩
theorem VC (ok:mT P w H h)(e:Rd H a u):cR P w H h a u:=e.ok ok
theorem qS (ok:mT P w H h)(e:Rd H a (.dK aQ)):aQ.length<=sizeLine/\(a == sysModules)=false/\∃vs,KV aQ vs/\h.DictOf (bW P w) a vs:=
 show cR P w H h a (.dK aQ) from VC ok e
theorem VD (ok:mT P w H h)(e:H a=some (.dK aQ)):aQ.length<=sizeLine/\(a == sysModules)=false/\∃vs,KV aQ vs/\h.DictOf (bW P w) a vs:=qS ok (.inl e)
theorem qb (ok:mT P w H h)(e:H a=some (.gQ (ks.map kV))):(tupleKind (bW P w)).is h ks a:=by
 obtain⟨_,aX,r,o,h1,h2,n,h3⟩:=(show cR P w H h a (.gQ (ks.map kV)) from ok a _ e)
 exact⟨o,aX.toArray,n,h1,h2,h3,by simpa using wW r⟩
theorem sW (ok:mT P w H h)(e:Rd H a (.dT aQ)):aQ.length<=sizeLine/\(a == sysModules)=false /\
  ∃xs,KT H aQ xs/\h.DictOfH (tupleKind (bW P w)) a xs:=by
 obtain⟨z,y,xs,r,o,es,ep,h1,h2,h3,h4,h5⟩:=(show cR P w H h a (.dT aQ) from VC ok e)
 refine⟨z,y,xs,r,o,es,ep,h1,h2,h3,h4,λx hx=>?_,h5⟩
 have all:∀{l:List (List dW×V)} {m:List (List dW×Addr×Value)},KT H l m->∀x∈m,(tupleKind (bW P w)).is h x.1 x.2.1:=by
  intro l m q;induction q with
  |nil=>intro x hx;exact nomatch hx
  | @cons p q ps qs hq t ih =>
   intro x hx;rcases zam.mp hx with e|hx
   ·subst e
    exact qb ok (by rw[<-hq.1];exact hq.2.1)
   ·exact ih x hx
 exact all r x hx
theorem ags (ok:mT P w H h)(e:H a=some (.dT aQ)):aQ.length<=sizeLine/\(a == sysModules)=false /\
  ∃xs,KT H aQ xs/\h.DictOfH (tupleKind (bW P w)) a xs:=sW ok (.inl e)
noncomputable def nP (H:Hp)(a:Addr)(y:V)(r:Option V):Prop:=
 (∃aQ k,Rd H a (.dK aQ)/\y=kV k/\r=lJ aQ k)\/∃aQ k b,Rd H a (.dT aQ)/\y = .ref b/\H b=some (.gQ (k.map kV))/\r=lJ aQ k
noncomputable def IT (H:Hp)(a:Addr)(y v:V)(H':Hp):Prop:=
 (∃aQ k,H a=some (.dK aQ)/\y=kV k/\aQ.length<sizeLine/\H'=bD H a (.dK (ki aQ k v))) \/
 ∃aQ k b,H a=some (.dT aQ)/\y = .ref b/\H b=some (.gQ (k.map kV))/\aQ.length<sizeLine/\H'=bD H a (.dT (ki aQ k v))
theorem nP.k {H:Hp}{a:Addr}{aQ:List (dW×V)}{k:dW}(e:H a=some (.dK aQ)):nP H a (kV k) (lJ aQ k):=.inl ⟨aQ,k,.inl e,rfl,rfl⟩
theorem IT.k {H:Hp}{a:Addr}{aQ:List (dW×V)}{k:dW}{v:V}(e:H a=some (.dK aQ))(hl:aQ.length<sizeLine):IT H a (kV k) v (bD H a (.dK (ki aQ k v))):=.inl ⟨aQ,k,e,rfl,hl,rfl⟩
theorem aL.big (I:aL X ah σ H s):sysModules<s.heap.objs.size:=by
 have h:mainGlobals<s.heap.objs.size:=(I.sH.sG.keeps I.bk).lt
 exact zdD (by decide) h
theorem IU (hu:A.units+1<cLine)(I:aL X ah σ H s)(g:nP H a y (some v))(ry:bG y u)(h:∀w' s',aL X ah σ H s'->bG v w'->Q w' s'):
  wpAny (model X.prog X.w) A (getItem (.ref a) u) Q E s:=by
 rcases g with⟨aQ,k,e,ey,l⟩|⟨aQ,k,b,e,ey,eb,l⟩
 ·subst ey
  obtain⟨z,hd,vs,jq,dd⟩:=qS I.cA e;obtain⟨w',hw,AL⟩:=iP.rT (v:=v) (o:=valueAt vs k) (by rw[l];exact jq.val k)
  exact wpAny_getItem_of (qR ry) dd.mapOf hw (h w' _ (I.nF _) AL)
 ·subst ey
  cases (show u=Value.ref b from ry)
  obtain⟨z,hd,xs,jq,dd⟩:=sW I.cA e;obtain⟨w',hw,AL⟩:=iP.rT (v:=v) (o:=(atKey xs k).map (·.2)) (by rw[l];exact jq.val k)
  obtain⟨p,hp,hp2⟩:=zbJ.mp hw;refine wpAny_getItem_heap (zcb hu) (qb I.cA eb) dd hp ?_
  rw[hp2];exact h w' _ (I.nF _) AL
theorem alT (hu:A.units+1<cLine)(I:aL X ah σ H s)(g:nP H a y o)(ry:bG y u)(h:∀s',aL X ah σ H s'->Q (.bool o.isSome) s'):
  wpAny (model X.prog X.w) A (compareOp .In u (.ref a)) Q E s:=by
 rcases g with⟨aQ,k,e,ey,l⟩|⟨aQ,k,b,e,ey,eb,l⟩
 ·subst ey
  obtain⟨z,hd,vs,jq,dd⟩:=qS I.cA e;refine wpAny_in_of (qR ry) hd dd.mapOf ?_
  rw[<-(jq.val k).jN,<-l];exact h _ (I.nF _)
 ·subst ey
  cases (show u=Value.ref b from ry)
  obtain⟨z,hd,xs,jq,dd⟩:=sW I.cA e;refine wpAny_in_heap (zcb hu) (qb I.cA eb) hd dd ?_
  have q:=(jq.val k).jN
  rw[zdu] at q;rw[<-q,<-l];exact h _ (I.nF _)
theorem Rv (hu:A.units+1<cLine)(I:aL X ah σ H s)(g:nP H a y o)(ry:bG y u)(h:∀s',aL X ah σ H s'->Q (.bool (!o.isSome)) s'):
  wpAny (model X.prog X.w) A (compareOp .NotIn u (.ref a)) Q E s:=by
 rcases g with⟨aQ,k,e,ey,l⟩|⟨aQ,k,b,e,ey,eb,l⟩
 ·subst ey
  obtain⟨z,hd,vs,jq,dd⟩:=qS I.cA e;refine wpAny_notIn_of (qR ry) hd dd.mapOf ?_
  rw[<-(jq.val k).jN,<-l];exact h _ (I.nF _)
 ·subst ey
  cases (show u=Value.ref b from ry)
  obtain⟨z,hd,xs,jq,dd⟩:=sW I.cA e;refine wpAny_notIn_heap (zcb hu) (qb I.cA eb) hd dd ?_
  have q:=(jq.val k).jN
  rw[zdu] at q;rw[<-q,<-l];exact h _ (I.nF _)
theorem yW (I:aL X ah σ H s)(mu:Mut (H a))(hs:Heap.SameBut a s.heap h')(he:∃q,h'.get? a=some q)(new:cR X.prog X.w (bD H a ob) h' a ob):
  aL X ah σ (bD H a ob) {s with heap:=h',toks:=t' }:=
 I.jm (x:=a) (e:=a) mu (.inl rfl) (λb q hb z=>(hs.2 b hb).trans z) he new
theorem LV (z:aQ.length<=sizeLine)(hd:(a == sysModules)=false)(jq:KV aQ vs)(dd:h'.DictOf (bW P w) a vs):
  cR P w H' h' a (.dK aQ):=⟨z,hd,vs,jq,dd⟩
theorem IV (hu:A.units+1<cLine)(I:aL X ah σ H s)(g:IT H a y v H')(ry:bG y u)(rv:bG v r)(h:∀s',aL X ah σ H' s'->Q () s'):
  wpAny (model X.prog X.w) A (setItem (.ref a) u r) Q E s:=by
 rcases g with⟨aQ,k,e,ey,l,eH⟩|⟨aQ,k,b,e,ey,eb,l,eH⟩
 ·subst ey eH
  obtain⟨z,hd,vs,jq,dd⟩:=VD I.cA e;have hz:vs.length<=sizeLine:=by rw[<-jq.length];exact z
  have hl:(ki aQ k v).length<=sizeLine:=by have:=l6 aQ k v;omega
  refine wpAny_setItem_pairs (hsz:=hz) (qR ry) dd λh' AM hs=>h _ ?_
  have he:∃q,h'.get? a=some q:=let ⟨q,_,_,hq,_⟩:=AM;⟨q,hq⟩
  exact yW I (by rw[e];exact True.intro) hs he (LV hl hd (jq.DI k rv) AM)
 ·subst ey eH
  cases (show u=Value.ref b from ry)
  obtain⟨z,hd,xs,jq,dd⟩:=ags I.cA e;have hz:xs.length<=sizeLine:=by rw[<-Paired.length jq];exact z
  have hl:(ki aQ k v).length<=sizeLine:=by have:=l6 aQ k v;omega
  refine wpAny_setItem_heap (hsz:=hz) (zcb hu) (qb I.cA eb) dd λh' AM hs=>h _ ?_
  obtain⟨q,es,ep,hq,h2,h3,h4,_,h5⟩:=AM;refine yW I (by rw[e];exact True.intro) hs ⟨q,hq⟩ ⟨hl,hd,_,(jq.DI k eb rv).keeps λc ys ec=>?_,q,es,ep,hq,h2,h3,h4,h5⟩
  rw[au (afK ec e (λz=>nomatch z))]
  exact ec
theorem agt (I:aL X ah σ H s)(e:Rd H a (.dK aQ))(h:∀t s',aL X ah σ H s'->Q (.int aQ.length t) s'):wpAny (model X.prog X.w) A (call (.builtin "len") [.ref a]) Q E s:=by
 obtain⟨z,hd,vs,jq,dd⟩:=qS I.cA e;refine call_len_dict hd dd (by rw[<-jq.length];rw[zdP] at z;omega) ?_
 rw[<-jq.length];exact h _ _ (I.nF _)
noncomputable def ZP (i:Expr):Prop:=∀ov iv,subscripted i false ov iv=operate [ov,iv] (getItem ov iv)
theorem Rw {prog:Program}{w:World}{A:Around}{E:Value->Shared->Prop}{s:Shared}{env:Env}{value slice:Expr}{pos:Pos}{T id:String}{Q:Value->Shared->Prop}
  (hl:typeLookup (.type T) "__getitem__"=pure (some (.builtin id))) (hs:ZP slice)
  (h:wpAny (model prog w) A (eval value env) (λo cM=>wpAny (model prog w) A (eval slice env) (λi lY=>lY.TypeIs o T/\wpAny (model prog w) A (getItem o i) Q E lY) E cM) E s):
  wpAny (model prog w) A (eval (.Subscript value slice pos) env) Q E s:=by
 refine Subscript_ (zaK h (λo cM Rx=>zaK Rx (λi lY LW=>?_) λ_ _ x=>x) λ_ _ x=>x)
 obtain⟨hT,LW⟩:=LW;unfold subscriptTail;refine zaa ?_
 rw[getitemInPython_of_ne hT.not_modules];refine zaa (wpAny_specialOf hT hl ?_)
 have eW:wpAny (model prog w) A (subscripted slice false o i) (λr wc=>wpAny (model prog w) A (letTemporaryGo value o r >>= λ_=>pure r) Q E wc) E lY:=by
  rw[hs o i];exact wpAny_operating (zaK LW (λr wc Ry=>zaa (wpAny_letTemporaryGo (zad Ry))) λ_ _ x=>x)
 first
  |exact zad (zaa eW)
  |exact zaa (zad (zaa eW))
  |exact zaa eW
theorem AN (I:aL X ah σ H s)(g:nP H a y o):s.TypeIs (.ref a) "dict" := by
 rcases g with⟨aQ,k,e,_,_⟩|⟨aQ,k,b,e,_,_,_⟩
 ·obtain⟨_,_,vs,_,dd⟩:=qS I.cA e
  exact dd.typeIs
 ·obtain⟨_,_,xs,_,dd⟩:=sW I.cA e
  exact dd.typeIs
noncomputable def agu (td ty:TE):TE:=λσ H Q=>td σ H λx H1=>ty σ H1 λy H2=>∃a v,x = .ref a/\nP H2 a y (some v)/\Q v H2
noncomputable def agv (ty td:TE):TE:=λσ H Q=>ty σ H λy H1=>td σ H1 λx H2=>∃a o,x = .ref a/\nP H2 a y o/\Q (.bl o.isSome) H2
noncomputable def Gi (ty td:TE):TE:=λσ H Q=>ty σ H λy H1=>td σ H1 λx H2=>∃a o,x = .ref a/\nP H2 a y o/\Q (.bl (!o.isSome)) H2
noncomputable def agw (td ty tv:TE):TS:=λD σ H=>tv σ H λv H1=>td σ H1 λx H2=>ty σ H2 λy H3=>∃a H4,x = .ref a/\IT H3 a y v H4/\D.nx σ H4
theorem Rz (hu:X.A.units+1<cLine)(ho:PE X o td)(hi:PE X i ty)(hs:ZP i):PE X (.Subscript o i pos) (agu td ty):=by
 intro ah s σ H Q I h;refine Rw PySem.F.slot_dict_getitem.lookup hs (cS (ho ah s σ H _ I h) λu s1 ⟨x,H1,I1,rx,q1⟩=>cS (hi ah s1 σ H1 _ I1 q1) λiv s2 ⟨y,H2,I2,ry,a,v,ex,g,q2⟩=>?_)
 subst ex;obtain rfl:u=Value.ref a:=rx
 exact⟨AN I2 g,IU hu I2 g ry λw' s3 I3 AL=>⟨v,H2,I3,AL,q2⟩⟩
theorem ZQ (hu:X.A.units+1<cLine)(hi:PE X i ty)(ho:PE X o td):PC X .In i o (agv ty td):=by
 intro ah s σ H Q I h;refine cS (hi ah s σ H _ I h) λiv s1 ⟨y,H1,I1,ry,q1⟩=>cS (ho ah s1 σ H1 _ I1 q1) λu s2 ⟨x,H2,I2,rx,a,ov,ex,g,q2⟩=>?_
 subst ex;obtain rfl:u=Value.ref a:=rx
 exact alT hu I2 g ry λs3 I3=>⟨.bl ov.isSome,H2,I3,rfl,q2⟩
theorem IW (hu:X.A.units+1<cLine)(hi:PE X i ty)(ho:PE X o td):PC X .NotIn i o (Gi ty td):=by
 intro ah s σ H Q I h;refine cS (hi ah s σ H _ I h) λiv s1 ⟨y,H1,I1,ry,q1⟩=>cS (ho ah s1 σ H1 _ I1 q1) λu s2 ⟨x,H2,I2,rx,a,ov,ex,g,q2⟩=>?_
 subst ex;obtain rfl:u=Value.ref a:=rx
 exact Rv hu I2 g ry λs3 I3=>⟨.bl (!ov.isSome),H2,I3,rfl,q2⟩
theorem RA (hu:X.A.units+1<cLine)(ho:PE X o td)(hi:PE X i ty)(hv:PE X value tv)(hs:swapsWith value (some (.Subscript o i jK)) pos.line X.env=pure false):
  PS X (.Assign [.Subscript o i jK] value pos) (agw td ty tv):=by
 intro ah s σ H D I h;refine wpAny_Assign_Subscript (cS (hv ah s σ H _ I h) λr s1 ⟨v,H1,I1,rv,q1⟩=>cS (ho ah s1 σ H1 _ I1 q1) λu s2 ⟨x,H2,I2,rx,q2⟩=>cS (hi ah s2 σ H2 _ I2 q2) λiv s3 ⟨y,H3,I3,ry,a,H4,ex,g,q3⟩=>?_) hs
 subst ex;obtain rfl:u=Value.ref a:=rx
 exact IV hu I3 g ry rv λs4 I4=>⟨σ,H4,I4,q3⟩
theorem AO (h:Heap)(hb:sysModules<h.objs.size):cR P w H (h.push { cls:=.type "dict",data:=.dict #[]}) h.objs.size (.dK []):=
 ⟨zcG _,beq_eq_false_iff_ne.mpr (zbe (zaq hb)),[],.nil,Heap.DictOf.new h⟩
noncomputable def ZR:TE:=λ_ H Q=>∀p,H p=none->Q (.ref p) (bD H p (.dK []))
theorem LX:PE X (.Dict [] [] pos) ZR:=λah s σ H Q I h =>
 wpAny_Dict_empty ⟨.ref s.heap.objs.size,_,I.jI (a:=s.heap.objs.size) (o:=.dK []) (t':=s.toks) (λ_ _ q=>zac _ q) (zah _) (AO s.heap I.big),rfl,h _ (I.cA.fresh (zah _))⟩
noncomputable def yX:List (TE×TE)->St->Hp->(List (V×V)->Hp->Prop)->Prop
 |[],_,H,Q=>Q [] H
 | (tk,tv)::r,σ,H,Q=>tk σ H λx H1=>tv σ H1 λy H2=>yX r σ H2 λps H3=>Q ((x,y)::ps) H3
noncomputable abbrev VV:List (V×V)->List (Value×Value)->Prop:=Paired λp q=>bG p.1 q.1/\bG p.2 q.2
noncomputable def PPs (X:Cx)(pos:Pos)(pX:List (Option Expr))(qc:List Expr)(VE:List (TE×TE)):Prop:=
 ∀(ah:List (Addr×Obj)) (s:Shared) (σ:St) (H:Hp) (Q:List (V×V)->Hp->Prop),aL X ah σ H s->yX VE σ H Q ->
  wpAny (model X.prog X.w) X.A (evalPairs (pairTrees pX qc X.env pos)) (λvs s'=>∃ps H',aL X ah σ H' s'/\VV ps vs/\Q ps H') X.xe s
theorem RB:PPs X pos [] [] []:=λah s σ H Q I h=>pairTrees_nil_walk ⟨[],H,I,.nil,h⟩
theorem LY (hk:PE X k tk)(hv:PE X v tv)(hr:PPs X pos ks vs VE):
  PPs X pos (some k::ks) (v::vs) ((tk,tv)::VE):=λah s σ H Q I h =>
 pairTrees_cons_walk (cS (hk ah s σ H _ I h) λu s1 ⟨x,H1,I1,rx,q1⟩=>cS (hv ah s1 σ H1 _ I1 q1) λw2 s2 ⟨y,H2,I2,ry,q2⟩ =>
  cS (hr ah s2 σ H2 _ I2 q2) λws s3 ⟨ps,H3,I3,jq,q3⟩=>⟨(x,y)::ps,H3,I3,.cons ⟨rx,ry⟩ jq,q3⟩)
noncomputable def gi (aQ jC:List (dW×V)):List (dW×V):=jC.foldl (λcD kv=>ki cD kv.1 kv.2) aQ
theorem KV.AQ:∀{jC:List (dW×V)} {rs:List (dW×Value)} {aQ:List (dW×V)} {vs:List (dW×Value)},KV jC rs->KV aQ vs->KV (gi aQ jC) (merged vs rs):=by
 intro jC rs aQ vs r;unfold KV at r;induction r generalizing aQ vs with
 |nil=>intro q;exact q
 | @cons p q ps qs h t ih =>
  intro r0;have e:KV (ki aQ p.1 p.2) (stored vs q.1 q.2):=by
   have:=r0.DI p.1 h.2
   rw[<-h.1];exact this
  exact ih e
theorem nG:∀(jC aQ:List (dW×V)),(gi aQ jC).length<=aQ.length+jC.length
 |[],aQ=>by show aQ.length<=aQ.length+0;omega
 |p::r,aQ=>by
  have h1:=nG r (ki aQ p.1 p.2)
  have h2:=l6 aQ p.1 p.2;show (gi (ki aQ p.1 p.2) r).length<=_
  rw[zar];omega
theorem sX:∀{aQ:List (dW×V)} {ws:List (Value×Value)},VV (aQ.map λkv=>(kV kv.1,kv.2)) ws->∃rs,Carries (bW P w) ws rs/\KV aQ rs
 |[],_,r=>by rw[zbL] at r;cases r;exact⟨[],True.intro,.nil⟩
 |p::aQ,_,r=>by
  rw[zas] at r;cases r with
  | @cons a b as bs h t =>
   obtain⟨rs,c,q⟩:=sX (P:=P) (w:=w) t
   obtain⟨b1,b2⟩:=b;exact⟨(p.1,b2)::rs,⟨qR h.1,rfl,c⟩,.cons ⟨rfl,h.2⟩ q⟩
noncomputable def agx (VE:List (TE×TE)):TE:=λσ H Q=>∀p,H p=none->yX VE σ (bD H p (.dK [])) λps H2=>H2 p=some (.dK [])/\∃aQ:List (dW×V),ps=aQ.map (λkv=>(kV kv.1,kv.2))/\aQ.length<=15/\Q (.ref p) (bD H2 p (.dK (gi [] aQ)))
theorem RC {X:Cx}{pos:Pos}{pX:List (Option Expr)}{qc:List Expr}{VE:List (TE×TE)}(h:PPs X pos pX qc VE)(LZ:pX.all (·.isSome)=true)(hl:pX.length=qc.length)(h0:pX≠[])
  (h15:pX.length<=15):PE X (.Dict pX qc pos) (agx VE):=by
 intro ah s σ H Q I q;have hn:=I.cA.fresh (zah s.heap.objs.size)
 have I1:=I.jI (a:=s.heap.objs.size) (o:=.dK []) (h':=s.heap.push { cls:=.type "dict",data:=.dict #[]}) (t':=s.toks) (λ_ _ q=>zac _ q) (zah _) (AO s.heap I.big)
 refine wpAny_Dict_walk (knd:=bW X.prog X.w) LZ hl h0 h15 (cS (h ah _ σ _ _ I1 (q _ hn)) λws s2 ⟨ps,H2,I2,jq,e,aQ,ep,lk,q2⟩=>?_)
 subst ep;obtain⟨rs,c,rk⟩:=sX (P:=X.prog) (w:=X.w) jq
 obtain⟨z,hd,vs0,r0,dd⟩:=VD I2.cA e;cases r0;refine⟨rs,c,dd,λh' AM hs=>⟨.ref s.heap.objs.size,_,?_,rfl,q2⟩⟩
 have hz:(gi [] aQ).length<=sizeLine:=by
  have h1:=nG aQ []
  rw[zaP] at h1;rw[zdP];omega
 have he:∃q,h'.get? s.heap.objs.size=some q:=let ⟨q,_,_,hq,_⟩:=AM;⟨q,hq⟩
 exact yW I2 (by rw[e];exact True.intro) hs he (LV hz hd (rk.AQ .nil) AM)
structure M2 (X:Cx) (o:Expr) (m:Str) (dX:Pos) (e f:Expr) (gr:Pos):Prop where
 base:attributeBase o m X.env (eval o X.env)=eval o X.env
 few:((backTo gr (starEach [e,f] X.env)).all (λx=>!x.1) && (backToKw gr (keywordEach [] X.env)).all (λx=>x.1.isSome)
  && decide (([e,f]:List Expr).length+([]:List Keyword).length+(if ([]:List Keyword).isEmpty then 0 else 1)<30))=true
 line:(dX.endLine == gr.line)=true
 agz:backTo gr (starEach [e,f] X.env)=[(false,eval e X.env),(false,eval f X.env)]
noncomputable def IsD (H:Hp)(a:Addr):Prop:=(∃aQ,Rd H a (.dK aQ))\/∃aQ,Rd H a (.dT aQ)
theorem ZS (I:aL X ah σ H s)(d:IsD H a):
  s.TypeIs (.ref a) "dict" /\ (∀b,Value.ref a = .ref b->∃ob,s.heap.get? b=some ob/\ob.dict=none)/\(a == sysModules)=false:=by
 rcases d with⟨aQ,e⟩|⟨aQ,e⟩
 ·obtain⟨_,hd,vs,_,dd⟩:=qS I.cA e
  refine⟨dd.typeIs,λb q=>?_,hd⟩
  cases q;obtain⟨ob,_,_,h1,h2,_⟩:=dd;exact⟨ob,h1,h2.2.1⟩
 ·obtain⟨_,hd,xs,_,dd⟩:=sW I.cA e
  refine⟨dd.typeIs,λb q=>?_,hd⟩
  cases q;obtain⟨ob,_,_,h1,h2,_⟩:=dd;exact⟨ob,h1,h2.2.1⟩
theorem ZT (hu:A.units+1<cLine)(I:aL X ah σ H s)(g:nP H a y o)(ry:bG y u)(rd:bG d r)(h:∀w' s',aL X ah σ H s'->bG (o.getD d) w'->Q w' s'):
  wpAny (model X.prog X.w) A (call (.builtin "dict.get") [.ref a,u,r]) Q E s:=by
 rcases g with⟨aQ,k,e,ey,l⟩|⟨aQ,k,b,e,ey,eb,l⟩
 ·subst ey
  obtain⟨z,hd,vs,jq,dd⟩:=qS I.cA e;refine call_meetsIn zcL dd.typeIs zdR (zdH _ _ _) (meets_dict_get_default (bW X.prog X.w) a (qR ry) hd r) ⟨_,dd.mapOf,h _ _ (I.nF _) ?_⟩
  rw[l];exact (jq.val k).getD rd
 ·subst ey
  cases (show u=Value.ref b from ry)
  obtain⟨z,hd,xs,jq,dd⟩:=sW I.cA e;refine call_meetsIn zcL dd.typeIs zdR (zdH _ _ _) (meetsH_dict_get_default (tupleKind (bW X.prog X.w)) a b hd r) ⟨zcb hu,k,xs,qb I.cA eb,dd,h _ _ (I.nF _) ?_⟩
  rw[l];exact (jq.val k).getD rd
noncomputable def ZU (td ty tx:TE):TE:=λσ H Q=>td σ H λx H1=>∃a,x = .ref a/\IsD H1 a/\ty σ H1 λy H2=>tx σ H2 λz H3=>∃o,nP H3 a y o/\Q (o.getD z) H3
theorem L4 (hu:X.A.units+1<cLine)(ho:PE X o td)(he:PE X e ty)(hf:PE X f tx)(m:M2 X o "get" dX e f gr):PE X (.Call (.Attribute o "get" dX) [e,f] [] gr) (ZU td ty tx):=by
 intro ah s σ H Q I h;refine wpAny_Call_method m.base m.few m.line PySem.F.plainAttrs_dict zcL PySem.F.type_dict_get (cS (ho ah s σ H _ I h) λu s1 ⟨x,H1,I1,rx,a,ex,d,q1⟩=>?_)
 subst ex;obtain rfl:u=Value.ref a:=rx
 obtain⟨t1,t2,_⟩:=ZS I1 d;refine⟨t1,t2,?_⟩
 rw[m.agz];refine zcd rfl (zcN (zdg (cS (he ah s1 σ H1 _ I1 q1) λiv s2 ⟨y,H2,I2,ry,q2⟩ =>
  zdg (cS (hf ah s2 σ H2 _ I2 q2) λfv s3 ⟨z,H3,I3,rz,ov,g,q3⟩=>Calls.spliced_nil ?_))))
 exact ZT hu I3 g ry rz λw' s4 I4 AL=>⟨_,H3,I4,AL,q3⟩
end L2
namespace HT
open PySem PyProof.Rows
section
open PySem.SeqAt
open PySem.AutoSeq1 (wpAny_loadPart')
open PySem.MeetsSeq PySem.MeetsSeq2 PySem.MeetsSeq3
end
theorem RD (ht:IsTup s.heap t vs.toArray)(hb:IsTup s.heap b ws.toArray)(hv:vs≠[])
  (h1:ws=[]->Q (.ref t) s) (h2:ws≠[]->Q (.ref s.heap.objs.size) { s with heap:=s.heap.push { cls:=.type "tuple",data:=.seq (vs++ws).toArray} })
  (hsz:vs.length+ws.length<=sizeLine):wpAny (model prog w) A (binaryOp .Add (.ref t) (.ref b)) Q E s:=by
 obtain⟨⟨cls,dd,data,sl⟩,ho,hc,n,hd⟩:=id ht
 obtain⟨⟨aqn,dd2,aoK,L5⟩,ho2,hc2,n2,hd2⟩:=id hb
 simp only at hc hd hc2 hd2
 subst hc hd hc2 hd2;have e:vs.toArray++ws.toArray=(vs++ws).toArray:=by simp
 by_cases hw:ws=[]
 ·exact concat_meets ⟨_,ho,rfl⟩ ⟨_,ho2,rfl⟩ noFill_tuple_add seq_tuple_add zdS zdI (zdE _ _)
   (tuple_addW1 t b vs.toArray ws.toArray n n2 dd dd2 sl L5 (by simpa using hv) (by simp[hw])) ⟨ho,ho2,h1 hw⟩
 ·refine concat_meets ⟨_,ho,rfl⟩ ⟨_,ho2,rfl⟩ noFill_tuple_add seq_tuple_add zdS zdI (zdE _ _)
   (tuple_addW2 t b vs.toArray ws.toArray n n2 dd dd2 sl L5 (by simpa using hv) (by simpa using hw) (by rw[zao,zao];exact hsz)) ⟨ho,ho2,?_⟩
  rw[e];exact h2 hw
noncomputable def gA (n d:Nat):Option Int->Nat
 |none=>d
 |some v=>if v<0 then (v+(n:Int)).toNat else min v.toNat n
theorem L6 (n d:Nat):gA n d none=d:=rfl
theorem Gj (n d k:Nat):gA n d (some (k:Int))=min k n:=by
 show (if (k:Int)<0 then ((k:Int)+(n:Int)).toNat else min (k:Int).toNat n)=min k n
 rw[if_neg (by omega),zbq]
theorem ZV (n d:Nat)(hd:d<=n)(o:Option Int):gA n d o<=n:=by
 cases o with
 |none=>exact hd
 |some v =>
  show (if v<0 then (v+(n:Int)).toNat else min v.toNat n)<=n
  by_cases hv:v<0
  ·rw[if_pos hv];omega
  ·rw[if_neg hv];exact Nat.min_le_right _ _
theorem Gk (v:Int)(n d:Nat):(if v<0 then max (v+(n:Int)) 0 else min v (n:Int))=((gA n d (some v):Nat):Int):=by
 show (if v<0 then max (v+(n:Int)) 0 else min v (n:Int))=(((if v<0 then (v+(n:Int)).toNat else min v.toNat n):Nat):Int)
 by_cases hv:v<0
 ·simp only[if_pos hv];omega
 ·simp only[if_neg hv];omega
theorem DJ (lo hi:Option Int)(n:Nat):Builtin.Slice.sliceAdjust lo hi 1 (n:Int)=(((gA n 0 lo:Nat):Int),((gA n n hi:Nat):Int)):=by
 have h1:¬ ((1:Int)<0):=by omega
 unfold Builtin.Slice.sliceAdjust;simp only[h1,if_false];refine Prod.ext ?_ ?_
 ·cases lo with
  |none=>rfl
  |some v=>exact Gk v n 0
 ·cases hi with
  |none=>rfl
  |some v=>exact Gk v n n
theorem DK (i j:Nat):Builtin.Slice.slicePlaces (i:Int) (j:Int) 1=j - i:=by
 unfold Builtin.Slice.slicePlaces;have h1:(1:Int) > 0:=by omega
 simp only[h1,if_true,Int.ediv_one];split<;>omega
theorem sY (p:IsPart v o)(h:Q o s):wpAny (model prog w) A (Builtin.Slice.slicePartIndex v) Q E s:=by
 cases p with
 |none=>exact slicePart_none h
 |int i t=>exact slicePart_int h
theorem qd {sl:Addr}{vl vu:Value}{lo hi:Option Int}{n:Nat}{Q:Int×Int×Nat->Shared->Prop}(hs:s.heap.IsSliceOf sl vl vu .none)(pl:IsPart vl lo)(pu:IsPart vu hi)
  (h:Q (((gA n 0 lo:Nat):Int),1,gA n n hi - gA n 0 lo) s):wpAny (model prog w) A (Builtin.Slice.sliceApplied (.ref sl) (pure (n:Int))) Q E s:=by
 obtain⟨os,RE,hcs,hds⟩:=id hs;unfold Builtin.Slice.sliceApplied Builtin.Slice.sliceFields;refine zaa (zaa (zbt RE hds (x:=vl) rfl (zaa (zbt RE hds (x:=vu) rfl (zaa (zbt RE hds (x:=.none) rfl (zad ?_)))))))
 refine zaa (slicePart_none ?_)
 show wpAny _ _ (if ((1:Int) == 0)=true then _ else _) _ _ s
 rw[if_neg (by decide)]
 refine zaa (sY pl (zaa (sY pu (zaa (zad ?_)))))
 show wpAny _ _ (match Builtin.Slice.sliceAdjust lo hi 1 (n:Int) with | (lo,hi)=>pure (lo,(1:Int),Builtin.Slice.slicePlaces lo hi 1)) _ _ s
 rw[DJ lo hi n];show wpAny _ _ (pure (((gA n 0 lo:Nat):Int),(1:Int),Builtin.Slice.slicePlaces ((gA n 0 lo:Nat):Int) ((gA n n hi:Nat):Int) 1)) _ _ s
 rw[DK];exact zad h
theorem L7 (xs:Array Value)(i k:Nat):((List.range k).filterMap λ(m:Nat)=>xs[((i:Int)+(m:Int) * 1).toNat]?).toArray=((xs.toList.drop i).take k).toArray:=by
 have e:(λ(m:Nat)=>xs[((i:Int)+(m:Int) * 1).toNat]?)=λm=>xs[i+m]?:= by
  funext m
  have:((i:Int)+(m:Int) * 1).toNat=i+m:=by omega
  rw[this]
 rw[e]
 have:=pick_run xs i k
 rw[List.filterMap_map] at this;have e2:((λx=>xs[x]?) ∘ λx=>i+x)=λm=>xs[i+m]?:= rfl
 rw[e2] at this;rw[this]
theorem oJ {t sl:Addr}{items:Array Value}{vl vu:Value}{lo hi:Option Int}{Q:Value->Shared->Prop}(ht:IsTup s.heap t items)(hs:s.heap.IsSliceOf sl vl vu .none)(pl:IsPart vl lo)(pu:IsPart vu hi)
  (hw:¬ (gA items.size 0 lo=0/\gA items.size items.size hi=items.size))
  (h:Q (.ref s.heap.objs.size) { s with heap:=s.heap.push { cls:=.type "tuple",data:=.seq ((items.toList.drop (gA items.size 0 lo)).take (gA items.size items.size hi - gA items.size 0 lo)).toArray} })
  (hsz:items.size<=sizeLine):wpAny (model prog w) A (getItem (.ref t) (.ref sl)) Q E s:=by
 have Gm:sizeOk (.seq ((items.toList.drop (gA items.size 0 lo)).take (gA items.size items.size hi - gA items.size 0 lo)).toArray):=by
  show ((items.toList.drop (gA items.size 0 lo)).take (gA items.size items.size hi - gA items.size 0 lo)).toArray.size<=sizeLine
  rw[zao,zbj,zdF,zcX];omega
 have hj:gA items.size items.size hi<=items.size:=ZV _ _ (zah _) hi
 obtain⟨os,RE,hcs,hds⟩:=id hs;have hTs:s.TypeIs (.ref sl) "slice" := ⟨os,RE,hcs⟩
 unfold getItem;try with_reducible refine zbo ?_
 first|refine zaa (zad ?_)|skip
 refine zaa (wpAny_sequenceKey ht.typeIs (by decide) ?_)
 refine zaa (zbG (name:=Str.ofString "__getitem__") ht.typeIs zbX
  (zbS zbX ht.typeIs entry_tuple_getitem ?_ (args_tuple_getitem _ _)))
 show wpAny _ _ (Builtin.Tuple.tupleItemsOf (.ref t) >>= _) _ _ s
 refine zaa (tupleItemsOf_ ht ?_)
 refine zaa (wpAny_typeOf hTs ?_)
 rw[if_pos (by decide)]
 refine zaa (qd hs pl pu ?_)
 have hno:¬ ((((gA items.size 0 lo:Nat):Int) == 0 && (1:Int) == 1 && (gA items.size items.size hi - gA items.size 0 lo) == items.size)=true):=by
  intro q;rw[zbw,zbw] at q;have q1:((gA items.size 0 lo:Nat):Int)=0:=eq_of_beq q.1.1
  have q2:gA items.size items.size hi - gA items.size 0 lo=items.size:=eq_of_beq q.2
  exact hw ⟨by omega,by omega⟩
 show wpAny _ _ (if (((gA items.size 0 lo:Nat):Int) == 0 && (1:Int) == 1 && (gA items.size items.size hi - gA items.size 0 lo) == items.size)=true then _ else _) _ _ s
 rw[if_neg hno,L7];first
  |exact zaa (m:=Builtin.Tuple.tupleExact _) (zaS (zad ⟨_,rfl,zad h⟩) Gm)
  |exact zaa (m:=Builtin.Tuple.tupleExact _) (zaS (zaa (zad (zad ⟨_,rfl,zad h⟩))) Gm)
  |exact zaa (zaa (m:=Builtin.Tuple.tupleExact _) (zaS (zad (zad ⟨_,rfl,zad h⟩)) Gm))
  |exact zaa (zaa (m:=Builtin.Tuple.tupleExact _) (zaS (zad ⟨_,rfl,zad h⟩) Gm))
end HT
namespace L2
open PySem PySem.Spec PyProof.Rows
noncomputable abbrev TO:=St->Hp->(Option Int->Hp->Prop)->Prop
noncomputable def PO (X:Cx)(e:Option Expr)(t:TO):Prop:=
 ∀(ah:List (Addr×Obj)) (s:Shared) (σ:St) (H:Hp) (Q:Option Int->Hp->Prop),aL X ah σ H s->t σ H Q ->
  wpAny (model X.prog X.w) X.A (evalPart e X.env) (λu s'=>∃o H',aL X ah σ H' s'/\IsPart u o/\Q o H') X.xe s
noncomputable def RG:TO:=λ_ H Q=>Q none H
noncomputable def agA (t:TE):TO:=λσ H Q=>t σ H λx H1=>∃i,x = .int i/\Q (some i) H1
theorem DL:∀{us:List Value},bH (ns.map V.int) us->IntsAre us ns:=by
 induction ns with
 |nil=>intro us r;rw[zbL] at r;cases r;exact .nil
 |cons n ns ih =>
  intro us r;rw[zas] at r;cases r with
  |cons r1 r2 =>
   obtain⟨t,e⟩:=r1;subst e;exact .cons n t (ih r2)
section
variable {X:Cx}{e:Expr}{te:TE}{lo hi:Option Expr}{tl th:TO}{pos p2:Pos}
theorem RH:PO X none RG:=by
 intro ah s σ H Q I h;rw[evalPart_none];exact zad ⟨none,H,I,.none,h⟩
theorem RI (h:PE X e te):PO X (some e) (agA te):=by
 intro ah s σ H Q I hw;rw[evalPart_some];refine cS (h ah s σ H _ I hw) λu s1 ⟨x,H1,I1,r1,q1⟩=>?_
 obtain⟨i,rfl,q⟩:=q1;obtain⟨t,rfl⟩:=r1;exact⟨some i,H1,I1,.int i t,q⟩
noncomputable def SlR (X:Cx)(r:V->Option Int->Option Int->Hp->VK->Prop):Prop:=
 ∀(ah:List (Addr×Obj)) (s:Shared) (σ:St) (H:Hp) (x:V) (v vl vu:Value) (lo hi:Option Int) (sl:Addr) (Q:VK),aL X ah σ H s->bG x v->s.heap.IsSliceOf sl vl vu .none->IsPart vl lo->IsPart vu hi->r x lo hi H Q ->
  ∃T id,typeLookup (.type T) "__getitem__"=pure (some (.builtin id))/\s.TypeIs v T/\wpAny (model X.prog X.w) X.A (getItem v (.ref sl)) (EP X ah σ Q) X.xe s
noncomputable def tSl (r:V->Option Int->Option Int->Hp->VK->Prop)(te:TE)(tl th:TO):TE:=λσ H Q=>te σ H λx H1=>tl σ H1 λl H2=>th σ H2 λu H3=>r x l u H3 Q
theorem L8 (hr:SlR X r)(he:PE X e te)(hl:PO X lo tl)(hu:PO X hi th):PE X (.Subscript e (.Slice lo hi none p2) pos) (tSl r te tl th):=by
 intro ah s σ H Q I h;refine Subscript_ (cS (he ah s σ H _ I h) λv s1 ⟨x,H1,I1,r1,q1⟩=>?_)
 refine wpAny_Slice (cS (hl ah s1 σ H1 _ I1 q1) λvl s2 ⟨l,H2,I2,pl,q2⟩=>cS (hu ah s2 σ H2 _ I2 q2) λvu s3 ⟨u,H3,I3,pu,q3⟩=>?_)
 rw[evalPart_none];refine zad ?_
 have I4:aL X ah σ H3 { s3 with heap:=s3.heap.push { cls:=.type "slice",data:=.fields #[vl,vu,.none]} }:=I3.ie (t':=s3.toks) λb ob q=>zac _ q
 obtain⟨T,id,hT,ht,hg⟩:=hr ah { s3 with heap:=s3.heap.push { cls:=.type "slice",data:=.fields #[vl,vu,.none]} } σ H3 x v vl vu l u s3.heap.objs.size Q I4 r1 (Heap.IsSliceOf.new ..) pl pu q3
 show wpAny (model X.prog X.w) X.A (subscriptTail e (.Slice lo hi none p2) v (.ref s3.heap.objs.size)) (EP X ah σ Q) X.xe { s3 with heap:=s3.heap.push { cls:=.type "slice",data:=.fields #[vl,vu,.none]} }
 exact tail_any (ops:=[.ref s3.heap.objs.size,v]) ht hT hg (by with_unfolding_all rfl)
noncomputable def AR (xs:List V)(lo hi:Option Int):List V:=(xs.drop (HT.gA xs.length 0 lo)).take (HT.gA xs.length xs.length hi - HT.gA xs.length 0 lo)
theorem qT (xs:List V)(lo hi:Option Int):(AR xs lo hi).length<=xs.length:=by
 unfold AR;rw[zbj,zdF];omega
noncomputable def alV (K:PySem.W.Frag):V->Option Int->Option Int->Hp->VK->Prop:=λx lo hi H Q=>∃a xs,x = .ref a/\nM K H a xs /\
 ¬ (HT.gA xs.length 0 lo=0/\HT.gA xs.length xs.length hi=xs.length)/\∀p,H p=none->Q (.ref p) (bD H p (.gQ (AR xs lo hi)))
theorem ZW:SlR X (alV X.K):=by
 intro ah s σ H x v vl vu lo hi sl Q I rx hs pl pu h;obtain⟨a,xs,rfl,hx,hw,q⟩:=h;cases rx;obtain⟨aX,r,ht,hz⟩:=I.fO hx;have dH:aX.toArray.size=xs.length:=by rw[zao];exact r.length.symm
 refine⟨"tuple",_,zbX.lookup,ht.typeIs,?_⟩
 refine HT.oJ ht hs pl pu (by rw[dH];exact hw) ?_ (by rw[dH];exact hz)
 rw[dH];refine⟨.ref s.heap.objs.size,_,I.jI (t':=s.toks) (o:=.gQ (AR xs lo hi)) (λb ob q=>zac _ q) (zah _) ?_,rfl,q _ (I.cA.fresh (zah _))⟩
 exact⟨zai (qT xs lo hi) hz,_,(r.drop (HT.gA xs.length 0 lo)).take (HT.gA xs.length xs.length hi - HT.gA xs.length 0 lo),IsTup.new _ _⟩
noncomputable def agB (K:PySem.W.Frag):R2:=λx y H Q=>∃a b xs ys,x = .ref a/\y = .ref b/\nM K H a xs/\nM K H b ys/\xs≠[]/\xs.length+ys.length<=sizeLine /\
 (ys=[]->Q (.ref a) H)/\(ys≠[]->∀p,H p=none->Q (.ref p) (bD H p (.gQ (xs++ys))))
theorem bH.yY (r:bH xs us):us=[]↔xs=[]:=by
 cases r with
 |nil=>simp
 |cons _ _=>simp
theorem RJ:kg X (binaryOp .Add) (agB X.K):=by
 intro ah s σ H x y v u Q I rx ry h;obtain⟨a,b,xs,ys,rfl,rfl,ha,hb,hx,hz,q1,q2⟩:=h;cases rx;cases ry;obtain⟨aX,r1,p1,_⟩:=I.fO ha;obtain⟨iC,r2,p2,_⟩:=I.fO hb;refine HT.RD p1 p2 (λz=>hx (r1.yY.mp z)) (λz=>⟨.ref a,H,I,rfl,q1 (r2.yY.mp z)⟩) (λz=>?_) (by rw[<-r1.length,<-r2.length];exact hz)
 refine⟨.ref s.heap.objs.size,_,I.jI (t':=s.toks) (o:=.gQ (xs++ys)) (λb ob q=>zac _ q) (zah _) ?_,rfl,q2 (λw=>z (r2.yY.mpr w)) _ (I.cA.fresh (zah _))⟩
 exact⟨by rw[zaj];exact hz,_,r1.lW r2,IsTup.new _ _⟩
end
noncomputable def Av (n:Nat)(i:Int):Option Nat:=if 0<=i then (if i<n then some i.toNat else none) else if -(n:Int)<=i then some (i+n).toNat else none
noncomputable def iE {α:Type}(xs:List α)(i:Int):Option α:= (Av xs.length i).bind λj=>xs[j]?
theorem Gn (h:Av n i=some j):seqIndex? i n=some j/\j<n /\ -(n:Int)<=i/\i<n:=by
 unfold Av at h;by_cases h0:0<=i
 ·rw[if_pos h0] at h
  by_cases h1:i<n
  ·rw[if_pos h1] at h
   have e:i.toNat=j:=zaw h
   exact⟨by rw[seqIndex_of h0 h1,e],by omega,by omega,h1⟩
  ·rw[if_neg h1] at h;cases h
 ·rw[if_neg h0] at h
  by_cases h1: -(n:Int)<=i
  ·rw[if_pos h1] at h
   have e:(i+n).toNat=j:=zaw h
   exact⟨by rw[seqIndex_neg (by omega) h1,e],by omega,h1,by omega⟩
  ·rw[if_neg h1] at h;cases h
theorem yZ {α:Type}{xs:List α}{i:Int}{v:α}(h:iE xs i=some v):∃j,seqIndex? i xs.length=some j/\xs[j]? = some v/\j<xs.length /\ -(xs.length:Int)<=i/\i<xs.length:=by
 unfold iE at h;cases e:Av xs.length i with
 |none=>rw[e] at h;cases h
 |some j =>
  rw[e] at h;obtain⟨h1,h2,h3,h4⟩:=Gn e;exact⟨j,h1,h,h2,h3,h4⟩
theorem f_ {α:Type}{xs:List α}{j:Nat}{v:α}(h:xs[j]? = some v):iE xs (j:Int)=some v:=by
 have hj:j<xs.length:=(zae.mp h).1
 have e:Av xs.length (j:Int)=some j:=by
  unfold Av;rw[if_pos (by omega),if_pos (by omega)];simp
 unfold iE;rw[e];exact h
noncomputable def Gp (b:Expr):Prop:=∀o i,subscripted b false o i=operate [o,i] (getItem o i)
noncomputable def RL (X:Cx)(r:R2):Prop:=
 ∀(value slice:Expr) (ah:List (Addr×Obj)) (s:Shared) (σ:St) (H:Hp) (x y:V) (v u:Value) (Q:VK),aL X ah σ H s->bG x v->bG y u->r x y H Q ->
  subscripted slice false v u=operate [v,u] (getItem v u)->wpAny (model X.prog X.w) X.A (subscriptTail value slice v u) (EP X ah σ Q) X.xe s
noncomputable def MtR (X:Cx)(id:String)(r:V->List V->Hp->VK->Prop):Prop:=
 ∀(ah:List (Addr×Obj)) (s:Shared) (σ:St) (H:Hp) (x:V) (xs:List V) (v:Value) (us:List Value) (Q:VK),aL X ah σ H s->bG x v->bH xs us->r x xs H Q ->
  wpAny (model X.prog X.w) X.A (call (.builtin id) (v::us)) (EP X ah σ Q) X.xe s
section
variable {X:Cx}{a b:Expr}{ta tb:TE}{pos:Pos}
theorem RL.or (h:RL X r)(h':RL X r'):RL X (λx y H Q=>r x y H Q\/r' x y H Q):=by
 intro value slice ah s σ H x y v u Q I rx ry q hs;rcases q with q|q
 ·exact h value slice ah s σ H x y v u Q I rx ry q hs
 ·exact h' value slice ah s σ H x y v u Q I rx ry q hs
theorem agC (hr:RL X r)(ha:PE X a ta)(hb:PE X b tb)(hs:Gp b):PE X (.Subscript a b pos) (tOp r ta tb):=by
 intro ah s σ H Q I h;exact Subscript_ (Zz ha hb I h λv u s2 x y H2 I2 rx ry q=>hr a b ah s2 σ H2 x y v u Q I2 rx ry q (hs _ _))
noncomputable def agD (K:PySem.W.Frag):R2:=λx y H Q=>∃p xs i v,x = .ref p/\y = .int i/\jn K H p xs/\iE xs i=some v/\Q v H
noncomputable def agE (K:PySem.W.Frag):R2:=λx y H Q=>∃p xs i v,x = .ref p/\y = .int i/\nM K H p xs/\iE xs i=some v/\Q v H
noncomputable def agF:R2:=λx y H Q=>∃z i c,x = .str z/\y = .int i/\z.length<=sizeLine/\iE z.cps.toList i=some c/\Q (.str ⟨#[c]⟩) H
theorem RM:RL X (agD X.K):=by
 intro value slice ah s σ H x y v u Q I rx ry h hs;obtain⟨p,xs,i,z,rfl,rfl,hq,he,q⟩:=h;cases rx;obtain⟨t,rfl⟩:=ry;obtain⟨aX,r,pl,hz⟩:=I.list hq;obtain⟨j,h1,h2,h3,h4,h5⟩:=yZ he;obtain⟨w,ew,AL⟩:=r.get h2;have hl:=r.length;have hn:=p_;have eW:EP X ah σ Q w s:=⟨z,H,I,AL,q⟩
 by_cases h0:0<=i
 ·have hj:i.toNat=j:=by
   rw[seqIndex_of h0 h5] at h1;exact zaw h1
  exact item_listR pl.isList h0 (by omega) (by rw[hj];simpa using ew) eW hs
 ·have hj:(i+(aX.toArray.size:Int)).toNat=j:=by
   rw[seqIndex_neg (by omega) h4] at h1
   rw[zao,<-hl];exact zaw h1
  exact subscriptTail_builtinR (x:=w) pl.isList.typeIs slot_list_getitem.lookup
   (wpAny_getItem_list_neg (Q:=λr s'=>r=w/\EP X ah σ Q r s') pl.isList (by omega) (by rw[zao]<;>omega) (by omega) (by rw[hj];simpa using ew) ⟨rfl,eW⟩) hs
theorem ZX:RL X (agE X.K):=by
 intro value slice ah s σ H x y v u Q I rx ry h hs;obtain⟨p,xs,i,z,rfl,rfl,hq,he,q⟩:=h;cases rx;obtain⟨t,rfl⟩:=ry;obtain⟨aX,r,pl,hz⟩:=I.fO hq;obtain⟨j,h1,h2,h3,h4,h5⟩:=yZ he;obtain⟨w,ew,AL⟩:=r.get h2;have hl:=r.length;have hn:=p_;have eW:EP X ah σ Q w s:=⟨z,H,I,AL,q⟩
 exact subscriptTail_builtinR (x:=w) pl.typeIs slot_tuple_getitem.lookup
  (getItem_tuple (j:=j) (Q:=λr s'=>r=w/\EP X ah σ Q r s') pl (by omega) (by omega) (by rw[zao,<-hl];exact h1) (by simpa using ew) ⟨rfl,eW⟩) hs
theorem ZY:RL X agF:=by
 intro value slice ah s σ H x y v u Q I rx ry h hs;obtain⟨z,i,c,rfl,rfl,hz,he,q⟩:=h;obtain⟨t,rfl⟩:=rx;obtain⟨t',rfl⟩:=ry;obtain⟨j,h1,h2,h3,h4,h5⟩:=yZ he;have hl:z.cps.toList.length=z.length:=by simp[Str.length]
 rw[hl] at h1 h4 h5;have hn:=p_;exact tail_any (typeIs_str s z t) slot_str_getitem.lookup (getItem_str (c:=c) (by
  have e1:decide (i < -(2 ^ 63:Int))=false:=decide_eq_false (by omega)
  have e2:decide (i ≥ 2 ^ 63)=false:=decide_eq_false (by omega)
  rw[e1,e2,zdm]) (by rw[h1];simpa using h2) ⟨.str ⟨#[c]⟩,H,I.nF _,⟨_,rfl⟩,q⟩) hs
noncomputable def rIx (K:PySem.W.Frag):R2:=λx y H Q=>agD K x y H Q\/agE K x y H Q\/agF x y H Q
theorem ZZ:RL X (rIx X.K):=RM.or (ZX.or ZY)
theorem DM (aX:List Value)(n j:Nat)(u:Value):Obj.mapSeq (·.setIfInBounds j u) { cls:=.type "list",data:=.seq aX.toArray n} = { cls:=.type "list",data:=.seq (aX.set j u).toArray n}:=by
 simp[Obj.mapSeq]
theorem aL.bA (I:aL X ah σ H s)(h:H p=some (.bA xs)):
  ∃(aX:List Value) (n:Nat),bH xs aX/\s.heap.get? p=some { cls:=.type "list",data:=.seq aX.toArray n}/\xs.length<=sizeLine:=by
 obtain⟨z,aX,n,r,e⟩:=I.cA p _ h;exact⟨aX,n,r,e,z⟩
theorem aL.Z0 {ah:List (Addr×Obj)}{σ:St}{H:Hp}{s:Shared}{p:Addr}{xs ys:List V}{aX its':List Value}{n n':Nat}{f:Obj->Obj}(I:aL X ah σ H s)(h:H p=some (.bA xs))
  (ho:s.heap.get? p=some { cls:=.type "list",data:=.seq aX.toArray n}) (hf:f { cls:=.type "list",data:=.seq aX.toArray n} = { cls:=.type "list",data:=.seq its'.toArray n' }) (r:bH ys its') (hz:ys.length<=sizeLine) (t:Nat):
  aL X ah σ (bD H p (.bA ys)) {s with heap:=s.heap.update p f,toks:=t}:=by
 have e:(s.heap.update p f).get? p=some { cls:=.type "list",data:=.seq its'.toArray n' }:=by
  rw[zaR f ho (by rw[hf]<;>rfl),hf]
 refine I.jm (x:=p) (e:=p) (by rw[h];trivial) (.inl rfl) (λb u hb q=>(zaG _ _ (zbe hb)).trans q) ⟨_,e⟩ ?_
 exact⟨hz,its',n',r,e⟩
noncomputable def agG:V->V->V->Hp->(Hp->Prop)->Prop:=λo i v H Q=>∃p xs k j,o = .ref p/\i = .int k/\H p=some (.bA xs)/\Av xs.length k=some j/\Q (bD H p (.bA (xs.set j v)))
theorem L_:Zr X agG:=by
 intro ah s σ H o i v ov iv u Q I ro ri rv h;obtain⟨p,xs,k,j,rfl,rfl,hp,hj,q⟩:=h;cases ro;obtain⟨t,rfl⟩:=ri;obtain⟨aX,n,r,ho,hz⟩:=I.bA hp;obtain⟨h1,h2,h3,h4⟩:=Gn hj;have hl:=r.length;have hn:=p_;have I':aL X ah σ (bD H p (.bA (xs.set j v))) {s with heap:=s.heap.update p (Obj.mapSeq (·.setIfInBounds j u))}:=
  I.Z0 hp ho (DM aX n j u) (r.set rv j) (by rw[zcO];exact hz) s.toks
 by_cases h0:0<=k
 ·have hk:k.toNat=j:=by
   rw[seqIndex_of h0 h4] at h1;exact zaw h1
  exact PySem.W.ki_setAt ho h0 (by omega) (by rw[zao,<-hl];exact h4) (by rw[hk];exact⟨_,I',q⟩)
 ·have hk:(k+(aX.toArray.size:Int)).toNat=j:=by
   rw[seqIndex_neg (by omega) h3] at h1
   rw[zao,<-hl];exact zaw h1
  exact PySem.W.ki_setBack ho (by omega) (by rw[zao,<-hl];exact h3) (by omega) (by rw[hk];exact⟨_,I',q⟩)
theorem y9 (lo hi:Option Int)(n:Nat):(sliceBounds lo hi none n).1=((HT.gA n 0 lo:Nat):Int)/\(sliceBounds lo hi none n).2.1=((HT.gA n n hi:Nat):Int)/\(sliceBounds lo hi none n).2.2=1:=by
 refine⟨?_,?_,rfl⟩
 ·cases lo with
  |none=>simp[sliceBounds,HT.gA]
  |some i =>
   simp only[sliceBounds,HT.gA,zcm,show (1:Int) > 0 by decide,if_true]
   by_cases h:i<0
   ·simp only[h,if_true]<;>omega
   ·simp only[h,if_false]<;>omega
 ·cases hi with
  |none=>simp[sliceBounds,HT.gA]
  |some i =>
   simp only[sliceBounds,HT.gA,zcm,show (1:Int) > 0 by decide,if_true]
   by_cases h:i<0
   ·simp only[h,if_true]<;>omega
   ·simp only[h,if_false]<;>omega
theorem we (aX:List Value)(lo hi:Option Int):slicePick aX.toArray lo hi none=((aX.drop (HT.gA aX.length 0 lo)).take (HT.gA aX.length aX.length hi - HT.gA aX.length 0 lo)).toArray:=by
 obtain⟨h1,h2,h3⟩:=y9 lo hi aX.toArray.size;unfold slicePick;rw[h1,h2,h3];simp only[sliceRange_one,pick_run,zao]<;>rfl
noncomputable def alW (K:PySem.W.Frag):V->Option Int->Option Int->Hp->VK->Prop:=λx lo hi H Q=>∃a xs,x = .ref a/\jn K H a xs/\∀p,H p=none->Q (.ref p) (bD H p (.bA (AR xs lo hi)))
theorem RN:SlR X (alW X.K):=by
 intro ah s σ H x v vl vu lo hi sl Q I rx hs pl pu h;obtain⟨a,xs,rfl,hx,q⟩:=h;cases rx;obtain⟨aX,r,ht,hz⟩:=I.list hx;have dH:=r.length;refine⟨"list",_,slot_list_getitem.lookup,ht.isList.typeIs,?_⟩
 refine wpAny_getItem_list_slice ht.isList hs pl pu .none (by simp) ?_ (by rw[zao]<;>omega)
 rw[we,<-dH];refine⟨.ref s.heap.objs.size,_,I.jI (t':=s.toks) (o:=.bA (AR xs lo hi)) (λb ob q=>zac _ q) (zah _) ?_,rfl,q _ (I.cA.fresh (zah _))⟩
 exact⟨zai (qT xs lo hi) hz,_,0,(r.drop (HT.gA xs.length 0 lo)).take (HT.gA xs.length xs.length hi - HT.gA xs.length 0 lo),zap _ rfl⟩
noncomputable def iK:V->Bool
 |.bB=>true
 |.bl _=>true
 |.int _=>true
 |.str _=>true
 |_=>false
noncomputable def y_:V->V->Bool
 |.bB,.bB=>true
 |.bl a,.bl b=>a == b
 |.bl a,.int b=>(if a then 1 else 0) == b
 |.int a,.bl b=>a == (if b then 1 else 0)
 |.int a,.int b=>a == b
 |.str a,.str b=>a == b
 |_,_=>false
theorem Ma (ry:bG y u)(rx:bG x v)(fy:iK y=true)(fx:iK x=true):SeqAt.EqAt A s u v (y_ y x):=by
 cases y with
 |bB =>
  cases ry;cases x with
  |bB=>cases rx;exact zdL _
  |bl b=>cases rx;exact SeqAt.EqAt.none_bool b
  |int b=>obtain⟨t,rfl⟩:=rx;exact SeqAt.EqAt.none_int b t
  |str b=>obtain⟨t,rfl⟩:=rx;exact SeqAt.EqAt.none_str b t
  |_=>exact absurd (show false=true from fx) zal
 |bl a =>
  cases ry;cases x with
  |bB=>cases rx;exact SeqAt.EqAt.bool_none a
  |bl b=>cases rx;exact SeqAt.EqAt.bool_bool a b
  |int b=>obtain⟨t,rfl⟩:=rx;exact SeqAt.EqAt.bool_int a b t
  |str b=>obtain⟨t,rfl⟩:=rx;exact SeqAt.EqAt.bool_str a b t
  |_=>exact absurd (show false=true from fx) zal
 |int a =>
  obtain⟨t',rfl⟩:=ry;cases x with
  |bB=>cases rx;exact SeqAt.EqAt.int_none a t'
  |bl b=>cases rx;exact SeqAt.EqAt.int_bool a t' b
  |int b=>obtain⟨t,rfl⟩:=rx;exact SeqAt.EqAt.int_int a t' b t
  |str b=>obtain⟨t,rfl⟩:=rx;exact zen a t' b t
  |_=>exact absurd (show false=true from fx) zal
 |str a =>
  obtain⟨t',rfl⟩:=ry;cases x with
  |bB=>cases rx;exact SeqAt.EqAt.str_none a t'
  |bl b=>cases rx;exact SeqAt.EqAt.str_bool a t' b
  |int b=>obtain⟨t,rfl⟩:=rx;exact zeo a t' b t
  |str b=>obtain⟨t,rfl⟩:=rx;exact SeqAt.EqAt.str_str a t' b t
  |_=>exact absurd (show false=true from fx) zal
 |_=>exact absurd (show false=true from fy) zal
noncomputable def AS (x:V)(u:Value):Bool:=match u with
 |.none=>y_ .bB x
 |.bool b=>y_ (.bl b) x
 |.int i _=>y_ (.int i) x
 |.str z _=>y_ (.str z) x
 |_=>false
theorem DN (r:bG y u)(f:iK y=true):AS x u=y_ y x:=by
 cases y with
 |bB=>cases r;rfl
 |bl b=>cases r;rfl
 |int i=>obtain⟨t,rfl⟩:=r;rfl
 |str z=>obtain⟨t,rfl⟩:=r;rfl
 |_=>exact absurd (show false=true from f) zal
theorem oK:∀{xs:List V} {us:List Value},bH xs us->xs.all iK=true->us.any (AS x)=xs.any λy=>y_ y x
 |_,_,.nil,_=>rfl
 |y::xs,u::us,.cons r t,f=>by
  rw[zaF,zbw] at f;rw[zbY,zbY,DN r f.1,oK t f.2]
theorem jO (rx:bG x v)(fx:iK x=true):∀{xs:List V} {us:List Value},bH xs us->xs.all iK=true->∀u∈us,SeqAt.EqAt A s u v (AS x u)
 |_,_,.nil,_=>λu hu=>by cases hu
 |y::xs,u::us,.cons r t,f=>λu' hu=>by
  rw[zaF,zbw] at f;rcases zam.mp hu with rfl|hu
  ·rw[DN r f.1];exact Ma r rx f.1 fx
  ·exact jO rx fx t f.2 u' hu
noncomputable def inV (x:V)(xs:List V):Bool:=xs.any λy=>y_ y x
noncomputable def rIn (K:PySem.W.Frag)(neg:Bool):R2:=λx y H Q=>∃p xs,y = .ref p/\(jn K H p xs\/nM K H p xs)/\iK x=true/\xs.all iK=true/\Q (.bl (if neg then !inV x xs else inV x xs)) H
theorem IX:kg X (compareOp .In) (rIn X.K false):=by
 intro ah s σ H x y v u Q I rx ry h;obtain⟨p,xs,rfl,hq,fx,fs,q⟩:=h;cases ry;rcases hq with hq|hq
 ·obtain⟨aX,r,pl,hz⟩:=I.list hq
  refine SeqAt.in_listAt (AS x) pl.isList (λw hw=>jO rx fx r fs w (by simpa using hw)) ⟨.bl _,H,I,rfl,?_⟩
  rw[show aX.toArray.any (AS x)=aX.any (AS x) by simp,oK r fs]
  exact q
 ·obtain⟨aX,r,pl,hz⟩:=I.fO hq
  refine SeqAt.in_tupleAt (AS x) pl (λw hw=>jO rx fx r fs w (by simpa using hw)) ⟨.bl _,H,I,rfl,?_⟩
  rw[show aX.toArray.any (AS x)=aX.any (AS x) by simp,oK r fs]
  exact q
theorem zd:kg X (compareOp .NotIn) (rIn X.K true):=by
 intro ah s σ H x y v u Q I rx ry h;obtain⟨p,xs,rfl,hq,fx,fs,q⟩:=h;cases ry;rcases hq with hq|hq
 ·obtain⟨aX,r,pl,hz⟩:=I.list hq
  refine SeqAt.notIn_listAt (AS x) pl.isList (λw hw=>jO rx fx r fs w (by simpa using hw)) ⟨.bl _,H,I,rfl,?_⟩
  rw[show aX.toArray.any (AS x)=aX.any (AS x) by simp,oK r fs]
  exact q
 ·obtain⟨aX,r,pl,hz⟩:=I.fO hq
  refine SeqAt.notIn_tupleAt (AS x) pl (λw hw=>jO rx fx r fs w (by simpa using hw)) ⟨.bl _,H,I,rfl,?_⟩
  rw[show aX.toArray.any (AS x)=aX.any (AS x) by simp,oK r fs]
  exact q
theorem ze:kg X (compareOp .NotIn) (λx y H Q=>∃i j,x = .str i/\y = .str j/\Q (.bl (!(!(Builtin.Str.occurrences j i 0 j.length 1).isEmpty))) H):=by
 intro ah s σ H x y v u Q I rx ry h;obtain⟨i,j,rfl,rfl,q⟩:=h;obtain⟨t,rfl⟩:=rx;obtain⟨t',rfl⟩:=ry;exact notIn_str ⟨.bl _,H,I,rfl,q⟩
theorem zf:jo X (.builtin "len") (λxs H Q=>∃p ys,xs=[.ref p]/\(jn X.K H p ys\/nM X.K H p ys)/\Q (.int ys.length) H):=by
 intro ah s σ H xs us Q I r h;obtain⟨p,ys,rfl,hq,q⟩:=h;obtain⟨u,rfl,rx⟩:=sP r;cases rx;have hn:=p_;rcases hq with hq|hq
 ·obtain⟨aX,r',pl,hz⟩:=I.list hq
  have dH:=r'.length;exact Calls.call_len_list pl.isList (by simp only[zao]<;>omega) ⟨.int ys.length,H,I.nF _,⟨s.toks+1,by rw[zao,dH]⟩,q⟩
 ·obtain⟨aX,r',pl,hz⟩:=I.fO hq
  have dH:=r'.length;exact len_tuple pl (by simp only[zao]<;>omega) ⟨.int ys.length,H,I.nF _,⟨s.toks+1,by rw[zao,dH]⟩,q⟩
theorem zg:jo X (.builtin "len") (λxs H Q=>∃z,xs=[.str z]/\z.length<=sizeLine/\Q (.int z.length) H):=by
 intro ah s σ H xs us Q I r h;obtain⟨z,rfl,hz,q⟩:=h;obtain⟨u,rfl,t,rfl⟩:=sP r;have hn:=p_;exact len_str (by omega) ⟨.int z.length,H,I.nF _,⟨_,rfl⟩,q⟩
theorem oM:jo X (.type "list") (λxs H Q=>∃p ys,xs=[.ref p]/\(jn X.K H p ys\/nM X.K H p ys)/\∀l,H l=none->Q (.ref l) (bD H l (.bA ys))):=by
 intro ah s σ H xs us Q I r h;obtain⟨p,ys,rfl,hq,q⟩:=h;obtain⟨u,rfl,rx⟩:=sP r;cases rx;have eW:∀(aX:List Value),bH ys aX->ys.length<=sizeLine->∀(h':Heap) (c':Nat),(∀b o',s.heap.get? b=some o'->h'.get? b=some o') ->
   h'.get? s.heap.objs.size=some { cls:=.type "list",dict:=none,data:=.seq aX.toArray c',slots:=#[]}->EP X ah σ Q (.ref s.heap.objs.size) {s with heap:=h' }:=λaX r' hz h' c' kp e =>
  ⟨.ref s.heap.objs.size,_,I.jI (t':=s.toks) kp (zah _) (show cR X.prog X.w _ h' _ (.bA ys) from ⟨hz,aX,c',r',e⟩),rfl,q _ (I.cA.fresh (zah _))⟩
 rcases hq with hq|hq
 ·obtain⟨aX,r',pl,hz⟩:=I.list hq
  have dH:=r'.length;obtain⟨o,ho,hc,n,hd⟩:=pl.isList;exact call_list_seq p (.inl rfl) ho hc hd (λh' c' kp e=>eW aX r' hz h' c' kp e) (by simp only[zao]<;>omega)
 ·obtain⟨aX,r',pl,hz⟩:=I.fO hq
  have dH:=r'.length;obtain⟨o,ho,hc,n,hd⟩:=pl;exact call_list_seq p (.inr rfl) ho hc hd (λh' c' kp e=>eW aX r' hz h' c' kp e) (by simp only[zao]<;>omega)
noncomputable def tyV (K:PySem.W.Frag)(T:String)(x:V)(H:Hp):Prop:=match x with
 |.str _=>T="str"
 |.int _=>T="int"
 |.ref p=>(T="list" /\ ∃xs,jn K H p xs)\/(T="tuple" /\ ∃o,K.lookup p=some o/\o.cls = .type "tuple" /\ o.dict=none) \/
   (T="dict" /\ ((∃aQ,H p=some (.dK aQ))\/∃aQ,H p=some (.dT aQ)))\/(T="set" /\ ∃S n,H p=some (.set S n))
 |_=>False
theorem Mb (I:aL X ah σ H s)(r:bG x v)(ty:tyV X.K T x H):
  s.TypeIs v T/\∀a,v = .ref a->∃ob,s.heap.get? a=some ob/\ob.dict=none:=by
 cases x with
 |str z =>
  obtain⟨t,rfl⟩:=r;cases (show T="str" from ty)
  exact⟨typeIs_str s z t,λ_ e=>nomatch e⟩
 |int i =>
  obtain⟨t,rfl⟩:=r;cases (show T="int" from ty)
  exact⟨typeIs_int s i t,λ_ e=>nomatch e⟩
 |ref p =>
  cases r;rcases ty with⟨rfl,xs,hq⟩|⟨rfl,o,hk,hc,hd⟩|⟨rfl,hk⟩|⟨rfl,S,n,hk⟩
  ·obtain⟨aX,_,pl,_⟩:=I.list hq
   refine⟨pl.isList.typeIs,λa e=>?_⟩
   cases e;obtain⟨o,n,e,c,hd,_⟩:=pl;exact⟨o,e,hd⟩
  ·refine⟨⟨o,I.nE p o hk,hc⟩,λa e=>?_⟩
   cases e;exact⟨o,I.nE _ o hk,hd⟩
  ·have z:∃o,s.heap.get? p=some o/\o.ExactDict:=by
    rcases hk with⟨aQ,hk⟩|⟨aQ,hk⟩
    ·obtain⟨_,_,_,_,o,_,_,e,ex,_⟩:=I.cA p _ hk
     exact⟨o,e,ex⟩
    ·obtain⟨_,_,_,_,o,_,_,e,ex,_⟩:=I.cA p _ hk
     exact⟨o,e,ex⟩
   obtain⟨o,e,ex⟩:=z;refine⟨⟨o,e,ex.1⟩,λa e2=>?_⟩
   cases e2;exact⟨o,e,ex.2.1⟩
  ·obtain⟨o,_,_,_,e,ex,_⟩:=I.cA p _ hk
   refine⟨⟨o,e,ex.1⟩,λa e2=>?_⟩
   cases e2;exact⟨o,e,ex.2.1⟩
 |_=>exact False.elim ty
noncomputable def alX (K:PySem.W.Frag)(T:String)(r:V->List V->Hp->VK->Prop)(to:TE):TE:=λσ H Q=>to σ H λx H1=>tyV K T x H1/\r x [] H1 Q
noncomputable def tBM (K:PySem.W.Frag)(T:String)(r:V->List V->Hp->VK->Prop)(to:TE)(t:TA):TE:=λσ H Q=>to σ H λx H1=>tyV K T x H1/\t σ H1 λxs H2=>r x xs H2 Q
variable {o e:Expr}{es:List Expr}{to:TE}{t:TA}{name:Str}{dX gr:Pos}{T id:String}{r:V->List V->Hp->VK->Prop}
theorem Z1 (pa:PlainAttrs T)(slot:Slot T name id)(Z2:typeOf (.builtin id)=pure (.type "method_descriptor"))(hm:MtR X id r)(ho:PE X o to)
  (sZ:autoParam (attributeBase o name X.env (eval o X.env)=eval o X.env) zp_0) (s_:autoParam ((dX.endLine == gr.line)=true) zp_0):PE X (.Call (.Attribute o name dX) [] [] gr) (alX X.K T r to):=by
 intro ah s σ H Q I h;refine wpAny_Call_method0_late sZ s_ (cS (ho ah s σ H _ I h) λv s1 ⟨x,H1,I1,r1,ty,q1⟩=>?_)
 obtain⟨h1,h2⟩:=Mb I1 r1 ty;exact⟨T,id,pa,slot,Z2,h1,h2,zcd rfl (PySem.evalArgs_none (hm ah s1 σ H1 x [] v [] Q I1 r1 .nil q1))⟩
theorem agH (pa:PlainAttrs T)(slot:Slot T name id)(Z2:typeOf (.builtin id)=pure (.type "method_descriptor"))(hm:MtR X id r)(ho:PE X o to)(ha:PA X (e::es) t)
  (sZ:autoParam (attributeBase o name X.env (eval o X.env)=eval o X.env) zp_0)
  (alY:autoParam (((backTo gr (starEach (e::es) X.env)).all (λx=>!x.1) && (backToKw gr (keywordEach [] X.env)).all (λx=>x.1.isSome)
   && decide ((e::es).length+([]:List Keyword).length+(if ([]:List Keyword).isEmpty then 0 else 1)<30))=true) zp_0)
  (s_:autoParam ((dX.endLine == gr.line)=true) zp_0) (hs:autoParam (starEach (e::es) X.env=(false,eval e X.env)::starEach es X.env) zp_0) (Z3:autoParam ((backTo gr (starEach es X.env)).any (·.1)=false) zp_0):
  PE X (.Call (.Attribute o name dX) (e::es) [] gr) (tBM X.K T r to t):=by
 intro ah s σ H Q I h;refine wpAny_Call_method_late sZ alY s_ rfl (cS (ho ah s σ H _ I h) λv s1 ⟨x,H1,I1,r1,ty,q1⟩=>?_)
 obtain⟨h1,h2⟩:=Mb I1 r1 ty;refine⟨T,id,pa,slot,Z2,h1,h2,?_⟩
 have hA:=ha gr ah s1 σ H1 _ I1 q1;rw[hs] at hA ⊢
 refine zcd (by show (false || (backTo gr (starEach es X.env)).any (·.1))=false;rw[Z3]<;>rfl) (zcN ?_)
 exact cS hA λus s2 ⟨vs,H2,I2,r2,q2⟩=>hm ah s2 σ H2 x vs v us Q I2 r1 r2 q2
end
noncomputable def MtM (X:Cx)(id:String)(r:V->List V->Hp->VK->Prop):Prop:=
 ∀(ah:List (Addr×Obj)) (s:Shared) (σ:St) (H:Hp) (x:V) (xs:List V) (v:Value) (us:List Value) (Q:VK),aL X ah σ H s->bG x v->bH xs us->r x xs H Q ->
  wpAny (model X.prog X.w) X.A (call (.builtin id) (v::us)) (EP X ah σ Q) X.xe s
theorem bH.K_:∀{x:V} {us:List Value},bH [x] us->∃u,us=[u]/\bG x u
 |_,_,.cons r .nil=>⟨_,rfl,r⟩
theorem bH.two:∀{x y:V} {us:List Value},bH [x,y] us->∃u v,us=[u,v]/\bG x u/\bG y v
 |_,_,_,.cons r (.cons q .nil)=>⟨_,_,rfl,r,q⟩
theorem bH.zero:∀{us:List Value},bH [] us->us=[]
 |_,.nil=>rfl
theorem bH.dropLast (h:bH xs us):bH xs.dropLast us.dropLast:=by
 induction h with
 |nil=>exact .nil
 |cons r t ih =>
  cases t with
  |nil=>exact .nil
  |cons q t'=>exact .cons r ih
theorem bH.eraseIdx:∀{xs:List V} {us:List Value} (i:Nat),bH xs us->bH (xs.eraseIdx i) (us.eraseIdx i)
 |_,_,_,.nil=>.nil
 |_,_,0,.cons _ t=>t
 |_,_,i+1,.cons r t=>.cons r (bH.eraseIdx i t)
theorem DO {α:Type}(l:List α):l.eraseIdx (l.length - 1)=l.dropLast:=by
 induction l with
 |nil=>rfl
 |cons a r ih =>
  cases r with
  |nil=>rfl
  |cons b r =>
   have e:(a::b::r).length - 1=((b::r).length - 1)+1:=by
    have h1:(a::b::r).length=r.length+2:=rfl
    have h2:(b::r).length=r.length+1:=rfl
    omega
   rw[e,List.eraseIdx_cons_succ,ih];all_goals rfl
theorem wX {α:Type}:∀(l:List α) (i:Nat),(l.eraseIdx i).length<=l.length
 |[],_=>zah _
 |_::_,0=>zaW _
 |_::r,i+1=>Nat.succ_le_succ (wX r i)
theorem aL.RO {aX its':List Value}{n:Nat}{f:Array Value->Array Value}{t':Nat}(I:aL X ah σ H s)(hH:H l=some (.bA xs))
  (e:s.heap.get? l=some { cls:=.type "list",data:=.seq aX.toArray n}) (hf:f aX.toArray=its'.toArray) (hv:bH ys its') (hz:ys.length<=sizeLine):
  aL X ah σ (bD H l (.bA ys)) {s with heap:=s.heap.update l (Obj.mapSeq f),toks:=t' }:=by
 have q:=PySem.IsL.update e f;rw[hf] at q;refine I.jm (x:=l) (e:=l) (by rw[hH];exact trivial) (.inl rfl) (λb' u hb hu=>(zaG s.heap (Obj.mapSeq f) (zbe hb)).trans hu) ⟨_,q⟩ ?_
 exact⟨hz,its',_,hv,q⟩
theorem aL.alZ (I:aL X ah σ H s)(hv:bH ys aX)(hz:ys.length<=sizeLine):
  aL X ah σ (bD H s.heap.objs.size (.bA ys)) { s with heap:=s.heap.push { cls:=.type "list",data:=.seq aX.toArray},toks:=t' }:=
 I.jI (λ_ _ q=>zac _ q) (zah _) ⟨hz,aX,0,hv,zap _ rfl⟩
theorem aL.fresh (I:aL X ah σ H s):H s.heap.objs.size=none:=I.cA.fresh (zah _)
theorem aL.AU (I:aL X ah σ H s)(hH:H l=some (.bA xs)):xs.length<=sizeLine/\∃(aX:List Value) (n:Nat),bH xs aX/\xs.length=aX.length/\s.heap.get? l=some { cls:=.type "list",data:=.seq aX.toArray n}:=by
 obtain⟨z,aX,n,r,e⟩:=I.cA l _ hH;exact⟨z,aX,n,r,r.length,e⟩
theorem Mc (h:n<=sizeLine):Builtin.List.listTooLong n=false:=by
 unfold Builtin.List.listTooLong;exact decide_eq_false (by omega)
noncomputable def RP:V->List V->Hp->VK->Prop:=λx vs H Q=>∃l xs y,x = .ref l/\vs=[y]/\H l=some (.bA xs)/\xs.length<sizeLine/\Q .bB (bD H l (.bA (xs++[y])))
theorem wY:MtM X "list.append" RP:=by
 intro ah s σ H x vs v us Q I rx rv h;obtain⟨l,xs,y,rfl,rfl,hH,hz,q⟩:=h;cases rx;obtain⟨u,rfl,ru⟩:=rv.K_;obtain⟨z,aX,n,r,hl,e⟩:=I.AU hH;refine zcP F.slot_list_append ⟨_,e,rfl⟩ F.entry_list_append (F.args_list_append_2 _ _) (PySem.list_append l aX.toArray n u (by rw[zao];omega)) ⟨e,?_⟩
 refine⟨.bB,_,I.RO (its':=aX++[u]) hH e (by simp) (r.lW (.cons ru .nil)) ?_,rfl,q⟩
 rw[zaj,zbb];omega
noncomputable def RQ:V->List V->Hp->VK->Prop:=λx vs H Q=>∃l b xs zs,x = .ref l/\vs=[.ref b]/\H l=some (.bA xs)/\H b=some (.bA zs)/\xs.length+zs.length<=sizeLine/\Q .bB (bD H l (.bA (xs++zs)))
theorem IY:MtM X "list.extend" RQ:=by
 intro ah s σ H x vs v us Q I rx rv h;obtain⟨l,b,xs,zs,rfl,rfl,hH,hB,hz,q⟩:=h;cases rx;obtain⟨u,rfl,ru⟩:=rv.K_;cases ru;obtain⟨z,aX,n,r,hl,e⟩:=I.AU hH;obtain⟨z2,iC,n2,r2,Gq,e2⟩:=I.AU hB;have hsz:aX.toArray.size+iC.toArray.size<=sizeLine:=by rw[zao,zao];omega
 have agJ:¬ (!aX.toArray.isEmpty && Builtin.List.listTooLong (aX.toArray.size+iC.toArray.size))=true:=by
  rw[Mc hsz,zdX];exact zal
 refine zcP F.slot_list_extend ⟨_,e,rfl⟩ F.entry_list_extend (F.args_list_extend_2 _ _)
  (AutoSeq1.list_extend_list_list_0 l aX.toArray n b iC.toArray n2 agJ (by rw[zao];omega) (by omega)) ⟨e,e2,?_⟩
 refine⟨.bB,_,I.RO (its':=aX++iC) hH e (by simp) (r.lW r2) ?_,rfl,q⟩
 rw[zaj];omega
noncomputable def al0:V->List V->Hp->VK->Prop:=λx vs H Q=>∃l xs y,x = .ref l/\vs=[]/\H l=some (.bA xs)/\xs[xs.length - 1]? = some y/\Q y (bD H l (.bA xs.dropLast))
theorem Z4:MtM X "list.pop" al0:=by
 intro ah s σ H x vs v us Q I rx rv h;obtain⟨l,xs,y,rfl,rfl,hH,hy,q⟩:=h;cases rx;have hus:=rv.zero;subst hus;obtain⟨z,aX,n,r,hl,e⟩:=I.AU hH;obtain⟨u,hu,ru⟩:=r.get hy;have hy':aX.toArray[aX.toArray.size - 1]? = some u:=by
  show aX.toArray[aX.length - 1]? = some u
  rw[<-zdY,<-hl];exact hu
 refine zcP F.slot_list_pop ⟨_,e,rfl⟩ F.entry_list_pop (F.args_list_pop_1 _) (MeetsSeq.list_pop_last l aX.toArray n u hy' (by rw[zao];omega)) ⟨e,?_⟩
 refine⟨y,_,I.RO (its':=aX.dropLast) hH e ?_ r.dropLast ?_,ru,q⟩
 ·show aX.toArray.eraseIdxIfInBounds (aX.toArray.size - 1)=aX.dropLast.toArray
  rw[zao,zcM,DO]
 ·rw[List.length_dropLast]
  omega
noncomputable def Z5:V->List V->Hp->VK->Prop:=λx vs H Q=>∃l xs i k y,x = .ref l/\vs=[.int i]/\H l=some (.bA xs) /\ -(2 ^ 63)<=i/\i<2 ^ 63/\seqIndex? i xs.length=some k/\xs[k]? = some y/\Q y (bD H l (.bA (xs.eraseIdx k)))
theorem Me:MtM X "list.pop" Z5:=by
 intro ah s σ H x vs v us Q I rx rv h;obtain⟨l,xs,i,k,y,rfl,rfl,hH,h1,h2,hk,hy,q⟩:=h;cases rx;obtain⟨u,rfl,ru⟩:=rv.K_;obtain⟨t,rfl⟩:=ru;obtain⟨z,aX,n,r,hl,e⟩:=I.AU hH;obtain⟨w,hw,AL⟩:=r.get hy;refine zcP F.slot_list_pop ⟨_,e,rfl⟩ F.entry_list_pop (F.args_list_pop_2 _ _)
  (MeetsSeq.list_pop_at l aX.toArray n i t k w (fitsIndex_both h1 h2) (by rw[zao,<-hl];exact hk) (by rw[<-zdY];exact hw) (by rw[zao];omega)) ⟨e,?_⟩
 refine⟨y,_,I.RO (its':=aX.eraseIdx k) hH e ?_ (r.eraseIdx k) ?_,AL,q⟩
 ·show aX.toArray.eraseIdxIfInBounds k=(aX.eraseIdx k).toArray
  rw[zcM]
 ·have:=wX xs k
  omega
noncomputable def al1:R2:=λx y H Q=>∃l b xs zs,x = .ref l/\y = .ref b/\H l=some (.bA xs)/\H b=some (.bA zs)/\xs.length+zs.length<=sizeLine/\∀p,H p=none->Q (.ref p) (bD H p (.bA (xs++zs)))
theorem Z6:kg X (binaryOp .Add) al1:=by
 intro ah s σ H x y v u Q I rx ry h;obtain⟨l,b,xs,zs,rfl,rfl,hH,hB,hz,q⟩:=h;cases rx;cases ry;obtain⟨z,aX,n,r,hl,e⟩:=I.AU hH;obtain⟨z2,iC,n2,r2,Gq,e2⟩:=I.AU hB;refine PySem.P.add_list e e2 ?_ (by rw[zao,zao];omega)
 have ea:aX.toArray++iC.toArray=(aX++iC).toArray:=by simp
 rw[ea];exact⟨.ref _,_,I.alZ (t':=s.toks) (r.lW r2) (by rw[zaj];omega),rfl,q _ I.fresh⟩
end L2
namespace Att
open PySem PySem.W PySem.Calls PyProof.Rows
theorem rH:∀(ns:List Int) (vs:List Value),WellAll P h vs (ns.map WData.int)->IntsAre vs ns:=by
 intro ns;induction ns with
 |nil =>
  intro vs w;rw[zbL] at w;cases w;exact .nil
 |cons n ns ih =>
  intro vs w;rw[zas] at w;cases w with
  |cons a b =>
   cases a;exact .cons _ _ (ih _ b)
theorem IZ {l:OpenLaw}{n:Nat}(hn:l.most=some n){P:Params}{h:Heap}{args:List WData}{Z7:List Value}
  (RU:l.row.toRowW.claim.pre args=true) (hwl:WellAll P h Z7 args):
  ∃a vs ns,Z7=[Value.ref a]/\args=[WData.list (ns.map WData.int)]/\h.get? a=some { cls:=.type "list",data:=.seq vs.toArray}/\IntsAre vs ns/\ns.length<=n:=by
 have hsh:WShape.hasAll [] args [.list .int]=true:=(pre_splitW RU).1
 have hc:l.pre.holds [] {args:=args}=true:=(pre_splitW RU).2
 obtain⟨d,r,rfl,h1,h2⟩:=hasAllW_cons hsh;obtain rfl:=hasAllW_nil h2
 obtain⟨xs,rfl,h3⟩:=hasW_list h1;obtain⟨ns,rfl⟩:=items_int h3;have dH:ns.length<=n:=by
  unfold OpenLaw.pre at hc;have h4:(WTm.not (.lt (.lit (.int (n:Int))) (.len (.arg 0)))).holds [] {args:=[.list (ns.map .int)]}=true:=by
   have h4:=(holds_andW hc).1
   rw[hn] at h4;exact h4
  have h5:=condW_of h4 (w_not (w_lt w_lit (w_len_list (w_arg rfl))))
  rw[zaf] at h5;refine Nat.le_of_not_lt λq=>?_
  have q':(n:Int)<((ns.length:Nat):Int):=by omega
  first
   | (rw[decide_eq_true q'] at h5;exact absurd h5 (by decide))
   | (simp at h5;omega)
 cases hwl with
 |cons w1 w2 =>
  cases w2;cases w1 with
  |list ho LZ=>exact⟨_,_,ns,rfl,rfl,ho,rH ns _ LZ,dH⟩
theorem I_ (l:OpenLaw)(args:List WData):l.row.toRowW.claim.post args (.bool true) args=true:=
 postW_of (r:=l.row.toRowW) (X:=(true == true))
  (show WShape.has [] (.bool true) .bool=true by first|rfl|decide|simp[WShape.has,WShape.arms,WShape.armsAll])
  (show (WTm.eq .res (.lit (.bool true))).value [] {args:=args,res:=some (.bool true),after:=args}=some (.bool (true == true)) from w_eq_bool (w_res rfl) w_lit) rfl
theorem AV {l:OpenLaw}{n:Nat}{q:Program}{wZ:List Str}{XP:(Str->Option Value)->Heap->Prop}{YP:World->Heap->Prop}{d:DefRec}
  (hn:l.most=some n) (hdf:d.params.defaults=[])
  (call:∀(w:World) (s₀ cM:Shared) (mg mb:Str->Option Value) (fa:Addr) (o:Obj) (pm cd nO:Value) (a:Addr) (vs:List Value) (ns:List Int),
   Ground q wZ [] XP w s₀ mg mb cM.heap->YP w cM.heap ->
   cM.heap.get? fa=some o->o.data = .func (docDef d.name d.params d.body d.scope pm cd nO)->cM.heap.CodeRec cd d.name->mg d.name=some (.ref fa) ->
   cM.heap.get? a=some { cls:=.type "list",data:=.seq vs.toArray}->IntsAre vs ns->ns.length<=n->cM.gens = #[] ->
   codeAny (model l.prog w) callerA (.call (.ref fa) ⟨[.ref a],[]⟩) (λr s'=>r = .ok (.ret (.bool true))/\OldK cM.heap s'.heap/\s'.os=cM.os/\AllBare s'.gens) cM):
  WalkO q wZ XP YP l.row.toRowW d [] (λf vs=>PySem.call f vs):=by
 intro w s₀ cM mg mb G Y fa o pm cd nO dV kV ho hd AE hD hmg hg args Z7 as RU aqu hrd hwl hlo;obtain rfl:dV = .none:=Dflts.none hD hdf
 obtain rfl:kV = .none:=Dflts.noKw hD
 obtain⟨a,vs,ns,rfl,rfl,Z8,Mf,dH⟩:=IZ hn RU hwl;refine enter_call (zcx (call w s₀ cM mg mb fa o pm cd nO a vs ns G Y ho (fd_plain hd) AE hmg Z8 Mf dH hg) λr s' hq=>?_)
 obtain⟨rfl,h2,h3,h4⟩:=hq;exact⟨.inl ⟨.bool true,.bool true,[],rfl,λ_=>rfl,.bool true,I_ l _,λ_=>⟨List.Pairwise.nil,λ_ hm=>(nomatch hm)⟩⟩,h2,h3,h4⟩
section
variable {prog:Program}{w:World}{A:Around}{E:Value->Shared->Prop}{s:Shared}{K:Frag}
end
end Att
namespace L2
open PySem PySem.Spec PyProof.Rows
theorem w9:∀{vs:List Value} {ns:List Int},IntsAre vs ns->bH (ns.map V.int) vs
 |_,_,.nil=>.nil
 |_,_,.cons n t h=>.cons ⟨t,rfl⟩ (w9 h)
noncomputable def aM (H:Hp):Prop:=∀b,H b=none\/∃o xs,H b=some (.rR o (.bA xs))
theorem Mg {P:Program}{w:World}{K:PySem.W.Frag}{mg mb:Str->Option Value}{CX:AI}{k:Nat}{fa a:Addr}{fd:FuncData}{x:Str}{sp:Sp}{cM:Shared}{vs:List Value}{ns:List Int}
  (KX:K.In cM.heap) (Le:cM.heap.Ns mainGlobals mg) (hb:cM.heap.Ns builtinsNs mb) (hbb:∀x:Str,x ≠ "__name__" -> mb x=bootBuiltins x) (al4:cM.heap.NoLimit) (hg:cM.gens = #[])
  (ha:cM.heap.get? a=some { cls:=.type "list",data:=.seq vs.toArray}) (hi:IntsAre vs ns) (hl:ns.length<=sizeLine) (hr:gR k callerA)
  (F:∀base:Heap,K.In base->base.Ns mainGlobals mg->aO P w K mg base CX k fa fd [x] sp) (agL:∀(s:Shared) (u:Value),BindsTo s fd ⟨[u],[]⟩ [(x,u)])
  (Ld:∀H:Hp,aM H->jn K H a (ns.map V.int)->sp [.ref a] H (λv _=>v = .bl true) λ_ _ _=>False)
  (hCX:∀H e s',CX [] H cM (λ_ _ _=>False) e s'->False):
  codeAny (model P w) callerA (.call (.ref fa) ⟨[.ref a],[]⟩) (λr s'=>r = .ok (.ret (.bool true))/\OldK cM.heap s'.heap/\s'.os=cM.os/\AllBare s'.gens) cM:=by
 have rv:=w9 hi;have al6:=hi.length;-- from an abstract heap in aoP akI but Dn Ln may be oz
 have Ja:∀H:Hp,aM H->jn K H a (ns.map V.int)->mT P w H cM.heap->(∀b,H b≠none->b=a)->(H a≠none->K.lookup a=none) ->
   codeAny (model P w) callerA (.call (.ref fa) ⟨[.ref a],[]⟩) (λr s'=>r = .ok (.ret (.bool true))/\OldK cM.heap s'.heap/\s'.os=cM.os/\AllBare s'.gens) cM:=by
  intro H hO hS cA hA hK;have Gr:∀{b:Addr} {o:Obj},cM.heap.get? b=some o->H b=none->(yS cM.heap H).get? b=some o:=λe n=>Lo e n
  have noA:∀{b:Addr} {o:Obj} {es:Array DictEntry} {ep:Nat},cM.heap.get? b=some o->o.data = .dict es ep->H b=none:=λ{b o es ep} e d=>by
   cases q:H b with
   |none=>rfl
   |some u =>
    have e':b=a:=hA b (by rw[q];simp)
    subst e';rw[ha] at e;cases e
    have d':Data.seq vs.toArray _=Data.dict es ep:=d
    cases d'
  have nsK:∀{b:Addr} {m:Str->Option Value},cM.heap.Ns b m->(yS cM.heap H).Ns b m:=λ{b m} ⟨o,es,ep,e,d,r⟩=>⟨o,es,ep,Gr e (noA e d),d,r⟩
  have hKb:K.In (yS cM.heap H):=λb o e=>Gr (KX b o e) (by
   cases q:H b with
   |none=>rfl
   |some u =>
    have e':b=a:=hA b (by rw[q];simp)
    subst e';rw[hK (by rw[q];simp)] at e;cases e)
  have hM:Mod K mg (yS cM.heap H):=⟨hKb,nsK Le,⟨mb,nsK hb,hbb⟩,let ⟨mc,h1,h2⟩:=al4;⟨mc,nsK h1,h2⟩⟩
  have e0:DG P w K mg (yS cM.heap H) callerA [] cM H:=⟨rfl,hM,λb o e=>Q6 e,Nat.le_of_eq (ID _ _),trivial,λb hb=>absurd (show b∈([]:List Addr) from hb) (by simp),cA,.of_eq hg⟩
  refine zcx ((F _ hKb (nsK Le)).kh callerA [] cM H ⟨[.ref a],[]⟩ [.ref a] [.ref a] _ _ hr e0 (agL cM (.ref a)) (.cons rfl .nil) (Ld H hO hS)) λr s' h=>?_
  cases r with
  |error e=>exact (hCX H e s' h).elim
  |ok fl =>
   cases fl with
   |next=>exact False.elim h
   |brk=>exact False.elim h
   |cont=>exact False.elim h
   |ret u =>
    obtain⟨v,H',os,ig,un,al7,r',q⟩:=h;have q':v = .bl true:=q
    subst q';obtain rfl:u=Value.bool true:=r'
    refine⟨rfl,OldK.of_keep λb o e=>?_,os,ig⟩
    cases q:H b with
    |none=>exact un.keep b o e q (by intro z;exact absurd (show b∈([]:List Addr) from z) (by simp)) (by simp)
    |some u =>
     rcases hO b with z|⟨ob,xs,z⟩
     ·rw[q] at z;cases z
     ·have z2:=un.rE b ob _ z
      obtain⟨e1,_⟩:=cA b _ z;obtain⟨e2,_⟩:=al7 b _ z2;rw[e] at e1;cases e1
      exact e2
 cases hk:K.lookup a with
 |some o =>
  -- Dn Ln is K_ of Dn agM sD Rg
  have e:=KX a o hk;rw[ha] at e;cases e;refine Ja (λ_=>none) (λ_=>.inl rfl) (.inr ⟨_,vs.toArray,_,hk,rfl,rfl,rfl,by rw[zao,al6];exact hl,by simpa using rv⟩) (λb u z=>by have z':(none:Option HO)=some u:=z;cases z') (λb z=>absurd rfl z) λz=>absurd rfl z
 |none =>
  refine Ja (λb=>if b=a then some (.rR { cls:=.type "list",data:=.seq vs.toArray} (.bA (ns.map V.int))) else none) (λb=>?_) (.inl (.inr ⟨{ cls:=.type "list",data:=.seq vs.toArray},if_pos rfl⟩)) (λb u z=>?_) (λb z=>?_) λ_=>hk
  ·by_cases hb:b=a
   ·exact .inr ⟨_,_,if_pos hb⟩
   ·exact .inl (if_neg hb)
  ·by_cases hb:b=a
   ·have z':=(if_pos hb).symm.trans z
    cases z';subst hb;exact⟨ha,by rw[zaf];exact hl,vs,_,rv,ha⟩
   ·have z':=(if_neg hb).symm.trans z
    cases z'
  ·by_cases hb:b=a
   ·exact hb
   ·exact absurd (if_neg hb) z
theorem RV {l:PySem.W.OpenLaw}{n k:Nat}{q:Program}{wZ:List Str}{XP:(Str->Option Value)->Heap->Prop}{YP:World->Heap->Prop}{d:DefRec}{K:Params->PySem.W.Frag}{CX:World->AI}{sp:World->Sp}{x:Str}
  (hn:l.most=some n) (La:n<=sizeLine) (hdf:d.params.defaults=[]) (hr:gR k callerA)
  (hY:∀(w:World) (h:Heap),YP w h->(K w.params).In h)
  (F:∀(w:World) (mg:Str->Option Value) (fa:Addr) (h:Heap),(K w.params).In h->h.Ns mainGlobals mg->mg d.name=some (.ref fa) ->
   ∃fd:FuncData,(∀(s:Shared) (u:Value),BindsTo s fd ⟨[u],[]⟩ [(x,u)]) /\
    ∀base:Heap,(K w.params).In base->base.Ns mainGlobals mg->aO l.prog w (K w.params) mg base (CX w) k fa fd [x] (sp w))
  (Ld:∀(w:World) (H:Hp) (a:Addr) (ns:List Int),ns.length<=n->aM H->jn (K w.params) H a (ns.map V.int)->sp w [.ref a] H (λv _=>v = .bl true) λ_ _ _=>False)
  (hCX:∀(w:World) (H:Hp) (s:Shared) (e:Value) (s':Shared),CX w [] H s (λ_ _ _=>False) e s'->False):
  PySem.W.WalkO q wZ XP YP l.row.toRowW d [] (λf vs=>PySem.call f vs):=by
 refine Att.AV hn hdf λw s₀ cM mg mb fa o pm cd nO a vs ns G Y ho hd AE hmg Z8 Mf dH hg=>?_
 have KX:=hY w _ Y;obtain⟨fd,hb,hF⟩:=F w mg fa _ KX G.T.g hmg;exact Mg KX G.T.g G.T.b G.T.builtins G.T.nolimit hg Z8 Mf (zai dH La) hr hF hb (λH hO hS=>Ld w H a ns dH hO hS) λH e s'=>hCX w H cM e s'
noncomputable def aU (s:Stmt)(j:Nat):Stmt:=match s with
 |.ClassDef _ _ _ body _ _ _ _ _ _ _=>body.getD j (.Pass ⟨0,0,0,0⟩)
 |_=>.Pass ⟨0,0,0,0⟩
noncomputable def eE (s:Stmt):Arguments:=match s with
 |.FunctionDef _ a _ _ _ _ _ _ _ _=>a
 |_=>{posonlyargs:=[],args:=[],vararg:=none,kwonlyargs:=[],kw_defaults:=[],kwarg:=none,defaults:=[]}
noncomputable def cW (s:Stmt):List Stmt:=match s with
 |.FunctionDef _ _ b _ _ _ _ _ _ _=>b
 |_=>[]
noncomputable def aj (s:Stmt):Scope:=match s with
 |.FunctionDef _ _ _ _ _ _ sc _ _ _=>sc
 |_=>{kind:=.function,names:=[],isGenerator:=false,isCoroutine:=false}
noncomputable abbrev eB:AI:=λ_ _ _ _ _ _=>False
noncomputable abbrev E0:XK:=λ_ _ _=>False
structure Mh (K:PySem.W.Frag) (x bV:Str) (st:Stmt) (f:Addr) (fd:FuncData):Prop where
 ex:∃(oc:Value) (od:Option Addr) (kV nO pm:Value) (an:Option Addr) (eU ct:Value) (Dd:Array (Option Value)),
  fd=PySem.W.fnOf x bV (eE st) (cW st) (aj st) .none kV nO pm an eU ct/\K.lookup f=some ⟨oc,od,.func fd,Dd⟩/\PySem.W.codeIn K eU bV=true
 kp:PySem.W.keepIn K (.ref f)=true
section
variable {P:Program}{w:World}{K:PySem.W.Frag}{mg:Str->Option Value}{base:Heap}
theorem Mh.ok {x bV:Str}{st:Stmt}{f:Addr}{fd:FuncData}{N ps:List Str}{k:Nat}{sp:Sp}(F:Mh K x bV st f fd)(S:aq N ps (aj st))(len:∀vs H Q E,sp vs H Q E->vs.length=ps.length)
  (sV:∀(eU:Value) (A:Around) (outer:List Env) (s:Shared) (H:Hp) (vs:List V) (Q:VK) (E:XK),gR k (A.deeper (envOfC bV (aj st) s.heap.objs.size f eU))->sp vs H Q E ->
   ∃t,wM (iB eB P w K mg base N bV (aj st) f eU A outer s H E).Dc (cW st) t/\t {nx:=λ_ H'=>Q .bB H',rt:=Q} (dz N vs) H):aO P w K mg base eB (k+1) f fd ps sp:=by
 obtain⟨oc,od,kV,nO,pm,an,eU,ct,Dd,rfl,lk,AE⟩:=F.ex;refine LU lk AE S len λA outer s H vs Q E hr Ld=>?_
 obtain⟨t,h,q⟩:=sV eU A outer s H vs Q E hr Ld;exact⟨t,h.Dc,q⟩
theorem Mh.qQ {x bV:Str}{st:Stmt}{f:Addr}{fd:FuncData}{ps:List Str}(F:Mh K x bV st f fd)
  (h:∀(kV nO pm:Value) (an:Option Addr) (eU ct:Value) (us:List Value),us.length=ps.length->bindArgs (PySem.W.fnOf x bV (eE st) (cW st) (aj st) .none kV nO pm an eU ct) ⟨us,[]⟩=pure (ps.zip us)):d_ K fd ps []:=by
 obtain⟨oc,od,kV,nO,pm,an,eU,ct,Dd,rfl,lk,AE⟩:=F.ex;exact .all (h kV nO pm an eU ct)
theorem zh {x bV:Str}{st:Stmt}{f:Addr}{oc:Value}{od an:Option Addr}{Dd:Array (Option Value)}{kV nO pm eU ct:Value}(l:K.lookup f=some ⟨oc,od,.func (PySem.W.fnOf x bV (eE st) (cW st) (aj st) .none kV nO pm an eU ct),Dd⟩)
  (c:PySem.W.codeIn K eU bV=true) (k:PySem.W.keepIn K (.ref f)=true):Mh K x bV st f (PySem.W.fnOf x bV (eE st) (cW st) (aj st) .none kV nO pm an eU ct):=⟨⟨oc,od,kV,nO,pm,an,eU,ct,Dd,rfl,l,c⟩,k⟩
end
theorem pv (i:Nat)(hN:autoParam (X.N[i]? = some x) zp_0)(hv:autoParam (Vis X.env.scope x) zp_7)(hd:autoParam ((x == ("__debug__" : Str))=false) zp_1)
  (AE:autoParam ((x == ("__classdict__" : Str))=false) zp_1):PE X (.Name x pos) (afR i):=Lu hN hv hd AE
theorem Jb:jo X (.builtin "len") (λxs H Q=>∃a aQ,xs=[V.ref a]/\H a=some (.dK aQ)/\Q (.int aQ.length) H):=by
 intro ah s σ H xs us Q I r h;obtain⟨a,aQ,rfl,ha,q⟩:=h;obtain⟨u,rfl,ru⟩:=sP r;cases ru;exact agt I (.inl ha) λt s' I'=>⟨.int aQ.length,H,I',⟨t,rfl⟩,q⟩
theorem AW {A B:Prop}(h:B):if false=true then A else B:=by
 rw[if_neg zal];exact h
theorem AX {A B:Prop}(h:A):if true=true then A else B:=by
 rw[if_pos rfl];exact h
section
variable {κ:Type}[DecidableEq κ]
end
noncomputable def oN (env:Env):List (Str×NameKind)->List (Str×Addr)->List (Str×Addr)
 |[],cs=>cs
 | (n,k)::r,cs=>oN env r (if (k == NameKind.free)=true then (match env.cells.lookup n with|some c=>(n,c)::cs|none=>cs) else cs)
theorem DP (h:∀p∈scope.names,p.2 = .free->∃c,env.cells.lookup p.1=some c):closureFor scope env=pure (oN env scope.names []):=by
 have key:∀(l:List (Str×NameKind)) (cs:List (Str×Addr)),(∀p∈l,p.2 = .free->∃c,env.cells.lookup p.1=some c) ->
   (forIn l cs λ(x:Str×NameKind) (r:List (Str×Addr))=>match x with
    | (name,kind)=>if (kind == NameKind.free)=true then do let a <-cellOf env name;pure (ForInStep.yield ((name,a)::r)) else pure (ForInStep.yield r):Sem (List (Str×Addr)))=pure (oN env l cs):=by
  intro l;induction l with
  |nil=>intro cs _;rfl
  |cons p r ih =>
   intro cs hl;obtain⟨n,k⟩:=p;rw[List.forIn_cons];have hr:=λcs=>ih cs λq hq=>hl q (zaD _ hq)
   show (_ >>= _)=pure (oN env r (if (k == NameKind.free)=true then (match env.cells.lookup n with|some c=>(n,c)::cs|none=>cs) else cs))
   by_cases hk:(k == NameKind.free)=true
   ·obtain⟨c,hc⟩:=hl (n,k) zbh (by simpa using hk)
    dsimp only at hc ⊢
    rw[if_pos hk,if_pos hk,hc];have e:cellOf env n=pure c:=by unfold cellOf;rw[hc]
    rw[e,pure_bind,pure_bind];exact hr _
   ·dsimp only
    rw[if_neg hk,if_neg hk,pure_bind];exact hr _
 unfold closureFor;rw[show (pure (oN env scope.names []):Sem (List (Str×Addr)))=(pure (oN env scope.names []) >>= λr=>pure r) from (bind_pure _).symm,<-key scope.names [] h]
theorem l7:∀{l:List (Str×NameKind)} {cs:List (Str×Addr)},(oN env l cs).lookup x=some c->cs.lookup x=some c\/env.cells.lookup x=some c
 |[],_,h=>.inl h
 | (n,k)::r,cs,h=>by
  rcases l7 (l:=r) h with q|q
  ·by_cases hk:(k == NameKind.free)=true
   ·rw[if_pos hk] at q
    cases e:env.cells.lookup n with
    |none=>rw[e] at q;exact .inl q
    |some d =>
     rw[e] at q;dsimp only at q
     rw[zaQ] at q;cases hx:x == n with
     |true =>
      rw[hx] at q;have:x=n:=by simpa using hx
      subst this;dsimp only at q
      rw[<-q];exact .inr e
     |false=>rw[hx] at q;exact .inl q
   ·rw[if_neg hk] at q;exact .inl q
  ·exact .inr q
theorem tu:∀{l:List (Str×NameKind)} {cs:List (Str×Addr)},((x,NameKind.free)∈l/\(∃c,env.cells.lookup x=some c))\/(∃c,cs.lookup x=some c)->∃c,(oN env l cs).lookup x=some c
 |[],cs,h=>by
  rcases h with⟨h,_⟩|h
  ·exact absurd h (by simp)
  ·exact h
 | (n,k)::r,cs,h=>by
  refine tu (l:=r) ?_
  rcases h with⟨h,hc⟩|h
  ·rcases zam.mp h with e|h
   ·have e1:x=n:=congrArg (·.1) e
    have e2:NameKind.free=k:=congrArg (·.2) e
    subst e1 e2;obtain⟨c,hc⟩:=hc;refine .inr ⟨c,?_⟩
    rw[if_pos (by decide),hc]
    simp[zaQ]
   ·exact .inl ⟨h,hc⟩
  ·obtain⟨c,hc⟩:=h
   right
   by_cases hk:(k == NameKind.free)=true
   ·rw[if_pos hk]
    cases e:env.cells.lookup n with
    |none=>exact⟨c,hc⟩
    |some d =>
     dsimp only;rw[zaQ];cases hx:x == n with
     |true=>exact⟨d,rfl⟩
     |false=>exact⟨c,hc⟩
   ·rw[if_neg hk];exact⟨c,hc⟩
theorem kj {env:Env}:∀{names:List (Str×NameKind)} {k:NameKind},
  (names.map λ(p:Str×NameKind)=>match p with | (n,k)=>if (k == NameKind.free && env.scope.kind == .function && env.kindOf n == some .cell)=true then (n,NameKind.cell) else (n,k)).lookup x=some k ->
  ∃k',names.lookup x=some k'/\(k'=k\/(k' = .free/\k = .cell))
 |[],_,h=>by simp at h
 | (n,k0)::r,k,h=>by
  rw[zas] at h;by_cases hc:(k0 == NameKind.free && env.scope.kind == .function && env.kindOf n == some .cell)=true
  ·dsimp only at h
   rw[if_pos hc,zaQ] at h;rw[zaQ];cases hx:x == n with
   |true =>
    rw[hx] at h;have e:NameKind.cell=k:=zaw h
    have e0:k0 = .free:=by
     simp only[zbw,beq_iff_eq] at hc;exact hc.1.1
    exact⟨k0,rfl,.inr ⟨e0,e.symm⟩⟩
   |false=>rw[hx] at h;exact kj (names:=r) h
  ·dsimp only at h
   rw[if_neg hc,zaQ] at h;rw[zaQ];cases hx:x == n with
   |true=>rw[hx] at h;exact⟨k0,rfl,.inl (zaw h)⟩
   |false=>rw[hx] at h;exact kj (names:=r) h
theorem ko {env:Env}:∀{names:List (Str×NameKind)},names.lookup x=some .free ->
  (names.map λ(p:Str×NameKind)=>match p with | (n,k)=>if (k == NameKind.free && env.scope.kind == .function && env.kindOf n == some .cell)=true then (n,NameKind.cell) else (n,k)).lookup x=some .cell \/
  (names.map λ(p:Str×NameKind)=>match p with | (n,k)=>if (k == NameKind.free && env.scope.kind == .function && env.kindOf n == some .cell)=true then (n,NameKind.cell) else (n,k)).lookup x=some .free
 |[],h=>by simp at h
 | (n,k0)::r,h=>by
  rw[zas];rw[zaQ] at h;by_cases hc:(k0 == NameKind.free && env.scope.kind == .function && env.kindOf n == some .cell)=true
  ·dsimp only
   rw[if_pos hc,zaQ];cases hx:x == n with
   |true=>exact .inl rfl
   |false=>rw[hx] at h;exact ko (names:=r) h
  ·dsimp only
   rw[if_neg hc,zaQ];cases hx:x == n with
   |true=>rw[hx] at h;exact .inr h
   |false=>rw[hx] at h;exact ko (names:=r) h
theorem zj (I:Nat->Shared->Prop)
  (LB:∀n s,I n s->wpAny (model prog w) A (pyNext it) (λr cM=>match r with
   |none=>R (.ok .next) cM
   |some v=>wpAny (model prog w) A (letOwnedTupleGo target it v) (λ_ VF=>wpAny (model prog w) A (assign target env v) (λ_ lY =>
     wpAny (model prog w) A (forIn pW true λc r=>if r=true then do let ok <-isTrue c env (eval c env);pure (ForInStep.yield ok) else pure (ForInStep.yield r)) (λok wc =>
      if ok=true then wpAny (model prog w) A (eval rV env) (λx agN =>
       wpAny (model prog w) A (call (.builtin "list.append") [cD,x]) (λ_ agO=>∃m,m<n/\I m agO) (notedBy (model prog w) A env λe s'=>R (.error e) s') agN) (notedBy (model prog w) A env λe s'=>R (.error e) s') wc
      else ∃m,m<n/\I m wc) (notedBy (model prog w) A env λe s'=>R (.error e) s') lY) (notedBy (model prog w) A env λe s'=>R (.error e) s') VF) (notedBy (model prog w) A env λe s'=>R (.error e) s') cM) (notedBy (model prog w) A env λe s'=>R (.error e) s') s)
  (n:Nat) (h:I n s):
  codeAny (model prog w) A (.compLoop (.ListComp rV [⟨target,dQ,pW,0⟩] scope pos) 0 it cD env) R s:=by
 refine codeAny_loop rfl I (λn s hI=>?_) n h
 show wpAny _ A ((compTurn (.ListComp rV [⟨target,dQ,pW,0⟩] scope pos) 0 it cD env).onRaise (λx=>do noteFrame x env;theTreesLotGoes x)) _ _ s
 refine wpAny_noted ?_
 rw[compTurn_list];refine zaa (zcH (zaa (zaK (LB n s hI) (λr cM Rx=>?_) λ_ _ h'=>h')))
 cases r with
 |none=>exact zad Rx
 |some v =>
  refine zaa (zaK Rx (λ_ VF agP=>?_) λ_ _ h'=>h')
  refine zaa (zaK agP (λ_ lY LW=>zaa (zaK LW (λok wc Ry=>?_) λ_ _ h'=>h')) λ_ _ h'=>h')
  cases ok with
  |false=>exact zad ⟨rfl,Ry⟩
  |true =>
   exact zaa (zaa (zaK Ry (λx agN al8=>zaa (zaK al8 (λ_ agO al9=>zad (zad ⟨rfl,al9⟩)) λ_ _ h'=>h')) λ_ _ h'=>h'))
noncomputable def oO (X:Cx)(N:List Str)(sc:Scope)(C:Addr)(fp:List Addr)(s:Shared)(H:Hp)(xe:Value->Shared->Prop):Cx:=
 {X with N:=N,s₀:= s,H₀:= H,env:=compEnvC sc (oN X.env sc.names []) C X.env,outer:=X.dm,ex:=fp,fn:=λ_=>false,pn:=[],xe:=xe}
noncomputable def DQ (X:Cx)(pW:List Expr)(t:TT):Prop:=
 ∀(ah:List (Addr×Obj)) (s:Shared) (σ:St) (H:Hp) (Q:Bool->Hp->Prop),aL X ah σ H s->t σ H Q ->
  wpAny (model X.prog X.w) X.A (forIn pW true λc r=>if r=true then do let ok <-isTrue c X.env (eval c X.env);pure (ForInStep.yield ok) else pure (ForInStep.yield r)) (TP X ah σ Q) X.xe s
noncomputable def agQ:TT:=λ_ H Q=>Q true H
theorem RW:DQ X [] agQ:=λah s σ H Q I h=>wpAny_tests_nil ⟨H,I,h⟩
theorem RX (h:PT X c t):DQ X [c] t:=λah s σ H Q I q=>wpAny_tests_one (h ah s σ H Q I q)
structure di (X:Cx) (F T:List Str) (fr:List Nat) (sc:Scope):Prop where
 kind:sc.kind = .function
 Mi:∀y∈sc.names,y.2 ≠ .cell
 locals:∀y∈sc.names,y.2 = .local->sc.names.lookup y.1=some .local
 Mj:∀y∈sc.names,y.2 = .free->X.env.kindOf y.1=some .cell
 Z9:∀x∈F,sc.names.lookup x=some .free
 eqs:fr.map (λj=>X.N[j]?)=F.map some
theorem di.len (S:di X F T fr sc):fr.length=F.length:=by
 have:=congrArg List.length S.eqs
 simpa using this
theorem di.rG (S:di X F T fr sc)(i:Nat)(x:Str)(h:F[i]? = some x):∃j,fr[i]? = some j/\X.N[j]? = some x:=by
 have e:=congrArg (λl=>l[i]?) S.eqs
 simp only[zau,h,zcv] at e;cases q:fr[i]? with
 |none=>rw[q] at e;cases e
 |some j=>rw[q] at e;exact⟨j,rfl,zaw e⟩
noncomputable def kr (fr:List Nat)(T:List Str)(σ:St):St:=(fr.map λj=>(σ[j]?).join)++T.map λ_=>none
noncomputable def Gs (wi:TI)(fr:List Nat)(T:List Str)(g:TG)(ti:TT)(te:TE):TE:=λσ H Q=>wi σ H λJ H1=>∀D,H1 D=none ->
  ∃W:Nat->Nat->St->List V->Hp->Prop,(∃m,W 0 m (kr fr T σ) [] (bD H1 D (.bA [])))/\∀i m d9 xs H',W i m d9 xs H'->H' D=some (.bA xs) /\
    ((J.stop i H'/\Q (.ref D) H')\/(J.go i H'/\∃N:St->List V->Hp->Prop,(∀Au ys H2,N Au ys H2->∃m',m' < m/\W (i+1) m' Au ys H2)/\∀x H2,J.yld i H' x H2->g x d9 H2 λAu H3=>ti Au H3 λb H4 =>
      if b=true then te Au H4 λv H5=>H5 D=some (.bA xs)/\xs.length<sizeLine/\N Au (xs++[v]) (bD H5 D (.bA (xs++[v]))) else N Au xs H4))
theorem Z_ (S:di X F T fr sc)(I:aL X ah σ H s)
  (VG:∀b∈fp,pZ X ah H b) (hfo:∀b∈fp,b<s.heap.objs.size):(oO X (F++T) sc s.heap.objs.size fp s H xe).Ok:=by
 have cl:∀x c,(oN X.env sc.names []).lookup x=some c->X.env.cells.lookup x=some c:=λx c e=>(l7 e).resolve_left (by simp)
 refine⟨I.ok.sH,?_,I.ok.sG,I.ok.Vw,zah _,λx y c h1 h2=>I.ok.inj x y c (cl _ _ h1) (cl _ _ h2),λx hx=>?_,λ_ _ h=>?_,I.ok.hd,I.ok.frames,.inl rfl,λb hb=>⟨zaq (hfo b hb),λx c e=>(VG b hb).2.2.2.2.1 x c (cl _ _ e)⟩,I.bs,zai I.ok.QU I.sz,λb o e hb=>?_,λb hb=>?_,I.dm,I.F3⟩
 ·show (relabel sc X.env).kind=_
  exact S.kind
 ·have VH:∃k,(relabel sc X.env).names.lookup x=some k/\(k = .cell\/k = .free):=by
   rcases hx with h|h
   ·exact⟨_,h,.inl rfl⟩
   ·exact⟨_,h,.inr rfl⟩
  obtain⟨k,hk,hkk⟩:=VH;obtain⟨k',h1,h2⟩:=kj (env:=X.env) hk
  have hf:k' = .free:=by
   rcases h2 with h2|h2
   ·rcases hkk with z|z
    ·exact absurd (by rw[h2,z]) (S.Mi _ (zaZ h1))
    ·rw[h2,z]
   ·exact h2.1
  rw[hf] at h1;have hm:=zaZ h1;refine tu (.inl ⟨hm,?_⟩)
  exact I.ok.has x (.inl (S.Mj _ hm rfl))
 ·exact absurd h (by show ¬ (false=true);decide)
 ·rcases (VG b hb).2.2.2.1 with z|z
  ·exact I.ok.jj b o e z
  ·exact absurd (zak (zan (I.ok.bs b o e).1) z) (zaO _)
 ·intro z
  rcases zam.mp (I.Dq b z) with q|q
  ·exact (VG b hb).2.1 q
  ·exact (VG b hb).2.2.1 q
theorem Ml (S:di X F T fr sc)(I:aL X ah σ H s)
  (VG:∀b∈fp,pZ X ah H b) (hfo:∀b∈fp,b<s.heap.objs.size) (hn:h4.Ns s.heap.objs.size m) (k:∀b o,s.heap.get? b=some o->h4.get? b=some o):
  aL (oO X (F++T) sc s.heap.objs.size fp s H xe) [] (kr fr T σ) H {s with heap:=h4,toks:=tk}:=by
 have cl:∀x c,(oN X.env sc.names []).lookup x=some c->X.env.cells.lookup x=some c:=λx c e=>(l7 e).resolve_left (by simp)
 refine⟨Z_ S I VG hfo,rfl,I.ig,Un.ie k,⟨m,hn,λi x v h1 h2 h3=>?_⟩,λx c e=>?_,I.cA.fresh (zah _),λx c e=>I.jJ x c (cl _ _ e),λp hp=>absurd (show p∈([]:List (Addr×Obj)) from hp) (by simp),I.cA.ie k,?_⟩
 ·have hi:i<fr.length:=by
   unfold kr at h2;by_cases hi:i<fr.length
   ·exact hi
   ·rw[zat (by simpa using hi),zau] at h2
    cases q:T[i - (fr.map λj=>(σ[j]?).join).length]? with
    |none=>rw[q] at h2;cases h2
    |some y=>rw[q] at h2;cases h2
  have hF:F[i]? = some x:=by
   have h1:(F++T)[i]? = some x:=h1
   rw[zab (by rw[<-S.len];exact hi)] at h1
   exact h1
  obtain⟨j,hj,hx⟩:=S.rG i x hF;have hv:σ[j]? = some (some v):=by
   unfold kr at h2;rw[zab (by simpa using hi),zau,hj] at h2
   have h2:some (σ[j]?).join=some (some v):=h2
   have h2:=zaw h2;cases q:σ[j]? with
   |none=>rw[q] at h2;cases h2
   |some y=>rw[q] at h2;have h2:y=some v:=h2;rw[h2]
  have ama:x∈F:=zaA hF
  have wL:=S.Z9 x ama;have AF:X.env.kindOf x=some .cell:=S.Mj _ (zaZ wL) rfl
  obtain⟨m0,_,hl⟩:=I.As;obtain⟨u,ru,lk⟩:=hl j x v hx hv (.inr (.inl AF))
  refine⟨u,ru,.inr ⟨ko (env:=X.env) wL,?_⟩⟩
  rcases lk with⟨z,_⟩|⟨_,c,hc,hic⟩
  ·rw[AF] at z;cases z
  ·obtain⟨c',F6⟩:=tu (env:=X.env) (x:=x) (l:=sc.names) (cs:=[]) (.inl ⟨zaZ wL,c,hc⟩)
   have e:c'=c:=by have:=cl _ _ F6;rw[hc] at this;exact (zaw this).symm
   subst e;obtain⟨o,ho,hd⟩:=hic;exact⟨c',F6,o,k _ _ ho,hd⟩
 ·obtain⟨v,o,ho,hd⟩:=I.cell x c (cl _ _ e)
  exact⟨v,o,k _ _ ho,hd⟩
 ·show (kr fr T σ).length=(F++T).length
  unfold kr;rw[zaj,zaj,zaf,zaf,S.len]
theorem AY (S:di X F T fr sc)(hc:X.fS=true)(hi:PI X target dQ wi)
  (hg:∀C fp s H xe,PG (oO X (F++T) sc C fp s H xe) target g) (Mm:∀C fp s H xe,DQ (oO X (F++T) sc C fp s H xe) pW ti) (he:∀C fp s H xe,PE (oO X (F++T) sc C fp s H xe) rV te)
  (hs:∀x,foldedSetIterable dQ X.env x=pure x) {ah:List (Addr×Obj)} {s:Shared} {σ:St} {H:Hp} {Q:VK} {use:Option (Value->Sem Unit)} {QQ:Value->Shared->Prop} (I:aL X ah σ H s) (h:Gs wi fr T g ti te σ H Q)
  (eW:∀(D C:Addr) (fp:List Addr) (s3 s7:Shared) (H3 H6:Hp) (xe:Value->Shared->Prop) (LC:St),aL X ah σ H3 s3->(∀b∈fp,pZ X ah H3 b)->s3.heap.objs.size=C->aL (oO X (F++T) sc C fp s3 H3 xe) [] LC H6 s7->Q (.ref D) H6->compPost (model X.prog X.w) X.A X.xe use QQ (.ref D) C (.ok .next) s7):
  wpAny (model X.prog X.w) X.A (comprehension (.ListComp rV [⟨target,dQ,pW,0⟩] sc pos) sc X.env gr (newList []) false (eval dQ X.env) use) QQ X.xe s:=by
 refine wpAny_comprehension_free rfl hs (DP λp hp hf=>?_) S.kind S.locals ?_
 ·exact I.ok.has p.1 (.inl (S.Mj p hp hf))
 refine cS (hi ah s σ H _ I h) λv s1 h1=>cS h1 λitv s2 h2=>?_
 obtain⟨it,fp,tn,J,H2,e,I2,T2,st2,f2,hD⟩:=h2;subst e;have hfo:∀b∈fp,b<s2.heap.objs.size:=λb hb=>by
  obtain⟨o,e,_⟩:=T2.j9 _ _ st2 b hb;exact zan e
 -- Dn new list
 refine zaS ?_
 have hDn:H2 s2.heap.objs.size=none:=I2.cA.fresh (zah _)
 obtain⟨W,⟨m0,w0⟩,LB⟩:=hD s2.heap.objs.size hDn
 have I3:aL X ah σ (bD H2 s2.heap.objs.size (.bA [])) { s2 with heap:=s2.heap.push { cls:=.type "list",dict:=none,data:=.seq ([]:List Value).toArray} }:=
  I2.jI (t':=s2.toks) (λb u e=>zac _ e) (zah _) ⟨zcG _,[],0,.nil,zap _ rfl⟩
 generalize hs3:({ s2 with heap:=s2.heap.push { cls:=.type "list",dict:=none,data:=.seq ([]:List Value).toArray} }:Shared)=s3 at I3
 have amc:s3.heap.objs.size=s2.heap.objs.size+1:=by rw[<-hs3];exact zdd _ _
 have neD:∀b∈fp,b≠s2.heap.objs.size:=λb hb=>zaq (hfo b hb)
 have f3:∀b∈fp,pZ X ah (bD H2 s2.heap.objs.size (.bA [])) b:=λb hb=>⟨by rw[au (neD b hb)];exact (f2 b hb).1,(f2 b hb).2⟩
 have amd:∀b∈fp,b<s3.heap.objs.size:=λb hb=>by rw[amc];exact Nat.lt_succ_of_lt (hfo b hb)
 have st3:tn 0 s3.heap:=T2.keep _ _ _ st2 λb hb o e=>by rw[<-hs3];exact zac _ e
 generalize hDD:s2.heap.objs.size=D at *
 -- Dn frame
 refine wpAny_newFunctionEnv S.Mi (by intro y hy;simp at hy) (λh4 hn4 ame=>?_) S.kind
 have RY:∀b o,s3.heap.get? b=some o->h4.get? b=some o:=λb o e=>ame.extBut b o (zaq (zan e)) (zac _ e)
 generalize RZ:s3.heap.objs.size=C at *
 let R:Result->Shared->Prop:=compPost (model X.prog X.w) X.A X.xe use QQ (.ref D) C
 let xe:Value->Shared->Prop:=notedBy (model X.prog X.w) X.A (compEnvC sc (oN X.env sc.names []) C X.env) λe s'=>R (.error e) s'
 have I4:aL (oO X (F++T) sc C fp s3 (bD H2 D (.bA [])) xe) [] (kr fr T σ) (bD H2 D (.bA [])) {s3 with heap:=h4,toks:=s3.toks+([]:List (Str×Value)).length}:=by
  subst RZ;exact Ml S I3 f3 amd hn4 RY
 have st4:tn 0 h4:=T2.keep _ _ _ st3 λb hb o e=>RY b o e
 have Dw:∀{H':Hp},(∀b∈fp,H' b=none)->∀b∈fp,pZ (oO X (F++T) sc C fp s3 (bD H2 D (.bA [])) xe) [] H' b:=λ{H'} hn b hb=>by
  refine⟨hn b hb,?_,?_,.inl hb,λx c e=>?_,λp hp=>absurd (show p∈([]:List (Addr×Obj)) from hp) (by simp)⟩
  ·exact (I4.ok.exf b hb).1
  ·exact I4.ok.Dp b hb
  ·exact (I4.ok.exf b hb).2 x c e
 have Q5:∀s5:Shared,s5 = {s3 with heap:=h4,toks:=s3.toks+([]:List (Str×Value)).length} ->
   codeAny (model X.prog X.w) X.A (.compLoop (.ListComp rV [⟨target,dQ,pW,0⟩] sc pos) 0 (.ref it) (.ref D) (compEnvC sc (oN X.env sc.names []) C X.env)) R s5:=by
  rintro s5 rfl
  refine zj (λn s'=>∃i d9 xs H',aL (oO X (F++T) sc C fp s3 (bD H2 D (.bA [])) xe) [] d9 H' s'/\tn i s'.heap/\(∀b∈fp,H' b=none)/\W i n d9 xs H') ?_ m0 ⟨0,_,[],_,I4,st4,λb hb=>(f3 b hb).1,w0⟩
  rintro n s6 ⟨i,LC,xs,H6,I6,st6,fr6,w6⟩
  obtain⟨hD6,tt⟩:=LB i n LC xs H6 w6;rcases tt with⟨stop,qn⟩|⟨go,NN,hNN,AB⟩
  ·refine cS (T2.done (oO X (F++T) sc C fp s3 (bD H2 D (.bA [])) xe) rfl rfl rfl hc i [] s6 LC H6 xe I6 (Dw fr6) st6 stop) λr s7 cC=>?_
   obtain⟨hr,I7⟩:=cC;subst hr;exact eW D C fp s3 s7 _ H6 xe LC I3 f3 RZ I7 qn
  ·refine cS (T2.item (oO X (F++T) sc C fp s3 (bD H2 D (.bA [])) xe) rfl rfl rfl hc i [] s6 LC H6 xe I6 (Dw fr6) st6 go) λr s7 dI=>?_
   obtain⟨u,hr,h7⟩:=dI;subst hr;refine cS h7 λ_ s8 eN=>?_
   obtain⟨x,H8,I8,r8,y8,st8,fr8⟩:=eN;have I8':=I8.LA (Dw fr8) (T2.j9 _ _ st8)
   have agS:∀{s9:Shared} {R0:St} {H9:Hp},aL (oO X (F++T) sc C fp s3 (bD H2 D (.bA [])) xe) ([]++sO fp s8.heap) R0 H9 s9->aL (oO X (F++T) sc C fp s3 (bD H2 D (.bA [])) xe) [] R0 H9 s9/\tn (i+1) s9.heap/\∀b∈fp,H9 b=none:=λ{s9 R0 H9} I9=>by
    refine⟨I9.oE,T2.keep _ _ _ st8 λb hb o e=>(I9.AA (b,o) (zaL _ (zaL _ (j_ hb e)))).1,λb hb=>?_⟩
    obtain⟨o,e,d⟩:=T2.j9 _ _ st8 b hb;exact (I9.AA (b,o) (zaL _ (zaL _ (j_ hb e)))).2.1
   refine cS (hg C fp s3 _ xe _ s8 LC H8 x u _ I8' r8 (AB x H8 y8)) λ_ s9 iu=>?_
   obtain⟨R0,H9,I9,q9⟩:=iu;refine cS (Mm C fp s3 _ xe _ s9 R0 H9 _ I9 q9) λok s10 jP=>?_
   obtain⟨H10,I10,q10⟩:=jP;cases ok with
   |false =>
    rw[if_neg zal] at q10 ⊢
    obtain⟨m',hm,w'⟩:=hNN _ _ _ q10;obtain⟨b1,b2,b3⟩:=agS I10;exact⟨m',hm,i+1,R0,xs,H10,b1,b2,b3,w'⟩
   |true =>
    rw[if_pos rfl] at q10 ⊢
    refine cS (he C fp s3 _ xe _ s10 R0 H10 _ I10 q10) λfU s11 l8=>?_
    obtain⟨v11,H11,I11,r11,ami,hz,q11⟩:=l8;obtain⟨m',hm,w'⟩:=hNN _ _ _ q11;refine cS (wY _ s11 R0 H11 (.ref D) [v11] (.ref D) [fU] (λ_ H'=>H'=bD H11 D (.bA (xs++[v11]))) I11 rfl (.cons r11 .nil) ⟨D,xs,v11,rfl,rfl,ami,hz,rfl⟩) λ_ s12 jQ=>?_
    obtain⟨_,H12,I12,_,e12⟩:=jQ;subst e12;obtain⟨b1,b2,b3⟩:=agS I12;exact⟨m',hm,i+1,R0,_,_,b1,b2,b3,w'⟩
 have st5:codeAny (model X.prog X.w) X.A (.compStart (.ListComp rV [⟨target,dQ,pW,0⟩] sc pos) 0 (.ref it) (.ref D) (compEnvC sc (oN X.env sc.names []) C X.env)) R {s3 with heap:=h4,toks:=s3.toks+([]:List (Str×Value)).length}:=
  codeAny_compStart_list (Q5 _ rfl) (T2.self _ 0 _ _ _ st4 (Q5 _ rfl))
 subst hs3;exact st5
theorem R3 (S:di X F T fr sc)(hc:X.fS=true)(hi:PI X target dQ wi)
  (hg:∀C fp s H xe,PG (oO X (F++T) sc C fp s H xe) target g) (Mm:∀C fp s H xe,DQ (oO X (F++T) sc C fp s H xe) pW ti) (he:∀C fp s H xe,PE (oO X (F++T) sc C fp s H xe) rV te)
  (hs:autoParam (∀x,foldedSetIterable dQ X.env x=pure x) zp_3):PE X (.ListComp rV [⟨target,dQ,pW,0⟩] sc pos) (Gs wi fr T g ti te):=by
 intro ah s σ H Q I h;rw[eval_ListComp];refine AY S hc hi hg Mm he hs I h λD C fp s3 s7 H3 H6 xe LC I3 f3 RZ I7 qn=>?_
 obtain⟨m7,hn7,_⟩:=I7.As;refine⟨m7,hn7,λh8 VI=>⟨.ref D,H6,?_,rfl,qn⟩⟩
 have hCn:H6 C=none:=I7.free
 have un8:Un (rS X.dm) fp (H3) H6 s3.heap h8:=by
  have u7:Un (rS X.dm) fp (H3) H6 s3.heap s7.heap:=I7.base
  have nC:∀b o,s3.heap.get? b=some o->b≠C:=λb o e=>by rw[<-RZ];exact zaq (zan e)
  refine⟨λb o e n hb hx=>(VI.2 b (nC b o e)).trans (u7.keep b o e n hb hx),λb o e n hb hx=>?_,u7.free,λb o e hx=>?_,u7.sE,u7.rE,u7.sF⟩
  ·obtain⟨sl,q⟩:=u7.slot b o e n hb hx
   exact⟨sl,(VI.2 b (nC b o e)).trans q⟩
  ·obtain⟨o',q⟩:=u7.there b o e hx
   exact⟨o',(VI.2 b (nC b o e)).trans q⟩
 have amk:mT X.prog X.w H6 h8:=λb ob e=>by
  refine (I7.cA b ob e).pY (λc w' hc q=>(VI.2 c ?_).trans q) (λ_ q=>q) λ_ _ q=>q
  rintro rfl
  rcases hc with rfl|hc
  ·rw[hCn] at e;cases e
  ·rw[hCn] at hc;cases hc
 refine I3.AD (s':={s7 with heap:=h8}) (H':=H6) (ch:=fp) I7.os un8 amk I7.ig λb hb=>?_
 obtain⟨_,q1,_,q2,q3,q4⟩:=f3 b hb;exact⟨q2,q1,q3,q4⟩
noncomputable def aml:V->Option Int->Option Int->Hp->VK->Prop:=λx lo hi H Q=>∃z,x = .str z/\z.length<=sizeLine/\Q (.str (Txt.slice z lo hi)) H
theorem aaa:SlR X aml:=by
 intro ah s σ H x v vl vu lo hi sl Q I rx hs pl pu h;obtain⟨z,rfl,hz,q⟩:=h;obtain⟨t,rfl⟩:=(show ∃t,v=Value.str z t from rx)
 refine⟨"str",_,F.slot_str_getitem.lookup,typeIs_str _ _ _,?_⟩
 have key:∀(l u:Option (Int×Tok)),s.heap.IsSlice sl l u none->l.map (·.1)=lo->u.map (·.1)=hi->wpAny (model X.prog X.w) X.A (getItem (.str z t) (.ref sl)) (EP X ah σ Q) X.xe s:=by
  intro l u hsl e1 e2;subst e1 e2;exact wpAny_getItem_str_slice (st:=none) hsl rfl (post_val_or_str ⟨zai (Txt.slice_le z _ _) hz,λt' k=>⟨.str (Txt.slice z (l.map (·.1)) (u.map (·.1))),H,I.nF k,⟨t',rfl⟩,q⟩⟩)
 cases pl with
 |none=>cases pu with
  |none=>exact key none none hs rfl rfl
  |int j t'=>exact key none (some (j,t')) hs rfl rfl
 |int i ti=>cases pu with
  |none=>exact key (some (i,ti)) none hs rfl rfl
  |int j t'=>exact key (some (i,ti)) (some (j,t')) hs rfl rfl
noncomputable def tw (z:Str)(n:Nat):Str:=⟨(List.replicate n z.cps).foldl (·++·) #[]⟩
noncomputable def agT:R2:=λx y H Q=>∃z n,x = .str z/\y = .int n/\0<=n/\n<1000000/\z.length * n.toNat<=1000000/\Q (.str (tw z n.toNat)) H
theorem Mn (z:Str):tw z 1=z:=by
 obtain⟨c⟩:=z;simp[tw]
theorem wg (h:z.length=0)(n:Nat):tw z n=z:=by
 obtain⟨c⟩:=z;have e:c = #[]:=by simpa[Str.length] using h
 subst e;unfold tw;congr 1
 induction n with
 |zero=>rfl
 |succ n ih=>rw[zbs,zbr];simpa using ih
theorem DR:kg X (binaryOp .Mult) agT:=by
 intro ah s σ H x y v u Q I rx ry h;obtain⟨z,n,rfl,rfl,h0,h1,h2,q⟩:=h;obtain⟨t,rfl⟩:=(show ∃t,v=Value.str z t from rx)
 obtain⟨t',rfl⟩:=(show ∃t,u=Value.int n t from ry)
 have hz:z.length * n.toNat<=sizeLine:=zai h2 (by decide)
 refine P.mul_str (by
  have e1:¬ n < -(2 ^ 63:Int):=by omega
  have e2:¬ n ≥ 2 ^ 63:=by omega
  rw[decide_eq_false e1,decide_eq_false e2];rfl) (λhn _ hc=>?_) (λ_ _=>?_) ?_
 ·have amm:0<n:=by omega
  have e3:(z.length:Int) * n<=1000000:=by
   have:((z.length * n.toNat:Nat):Int)<=((1000000:Nat):Int):=Int.ofNat_le.mpr h2
   rw[Int.natCast_mul,Int.toNat_of_nonneg h0] at this;exact this
  have e4:(z.length:Int)<=(2 ^ 63 - 1) / n:=by
   rw[Int.le_ediv_iff_mul_le amm];omega
  omega
 ·unfold Builtin.Str.tooLong
  exact decide_eq_false (by omega)
 ·by_cases hn:n<1
  ·rw[if_pos hn]
   have e:n=0:=by omega
   subst e;exact⟨by decide,⟨.str _,H,I.nF _,⟨_,rfl⟩,q⟩⟩
  ·rw[if_neg hn]
   by_cases hc:(n == 1 || z.length == 0)=true
   ·rw[if_pos hc]
    have e:tw z n.toNat=z:=by
     rcases zcQ _ _ ▸ hc with e|e
     ·have e:n=1:=by simpa using e
      subst e;exact Mn z
     ·exact wg (by simpa using e) _
    rw[e] at q;exact⟨.str z,H,I,⟨t,rfl⟩,q⟩
   ·rw[if_neg hc]
    refine⟨?_,⟨.str _,H,I.nF _,⟨_,rfl⟩,q⟩⟩
    have:∀(k:Nat) (a:Array Nat),((List.replicate k z.cps).foldl (·++·) a).size=a.size+k * z.cps.size:=by
     intro k;induction k with
     |zero=>intro a;simp
     |succ k ih=>intro a;rw[zbs,zbr,ih,Array.size_append,Nat.succ_mul];omega
    show ((List.replicate n.toNat z.cps).foldl (·++·) #[]).size<=sizeLine
    rw[this];have e5:z.cps.size=z.length:=rfl
    rw[e5];simp only[zao,zaP,zcf];rw[Nat.mul_comm];exact hz
noncomputable def lM:List Value:=[.type "ValueError",.type "Exception",.type "BaseException",.type "object"]
theorem zk:lM.contains (.type "ValueError")=true:=by decide +kernel
noncomputable def ku (C:Addr)(od:Option Addr)(t:Addr):Obj:={cls:=.ref C,dict:=od,data:=.fields #[.ref t,.none,.none,.none,.bool false,.none]}
noncomputable def EO (a C:Addr)(od:Option Addr):HO:=.ext λh=>∃t:Addr,h.get? a=some (ku C od t)
noncomputable def ED (d:Addr)(fs:List (Str×V)):HO:=.ext λh=>∃mA,h.Ns1 d mA/\(∀f,iP (fs.lookup f) (mA f))/\PySem.Within mA (fs.map (·.1))
theorem Mp (e:h.get? a=some (ku C od t)):cR P w H h a (EO a C od):=
 ⟨⟨t,e⟩,⟨_,e⟩,λh1 h2 cC k=>by obtain⟨t,q⟩:=cC;exact⟨t,k _ q⟩⟩
theorem Mq (e:h.Ns1 d mA)(r:∀f,iP (fs.lookup f) (mA f))(wi:PySem.Within mA (fs.map (·.1))):cR P w H h d (ED d fs):=
 ⟨⟨mA,e,r,wi⟩,(let ⟨o,_,_,e',_⟩:=e;⟨o,e'⟩),λh1 h2 dI k=>by obtain⟨mA,q,r,wi⟩:=dI;exact⟨mA,q.at λo z=>k o z,r,wi⟩⟩
section
variable {prog:Program}{w:World}{A:Around}{E:Value->Shared->Prop}{h:Heap}{g:Array GenState}{d:Drawn}{t:Nat}{os:OsState}{K:PySem.W.Frag}
variable {nm q:Str}{C N:Addr}{bs bm:List Value}{rJ:Bool}{sn:List Str}{sub:List Value}{ab:Bool}{qU:Option Bool}{dd:Option Addr}{k0 k1 k2 k3 k5:Option Value}
theorem rK (X:K.In h)(T:OwnTail h lM bm){dw:List Value} 
  (hC:h.get? C=some (excClassObj nm q C N bs bm rJ sn sub ab qU dd k0 k1 k2 k3 k5 "ValueError.__new__"))
  (hi:PySem.W.findIn K (.ref C) "__init__"=some (some (.ref fI))) (hf:PySem.W.typeIn K (.ref fI)=some (.type "function"))
  (hq:wpAny (model prog w) A (call (.ref fI) (.ref (h.objs.size+1)::dw)) (λr s'=>r = .none/\Q (.done (.ret (.ref (h.objs.size+1)))) s') E
   ⟨(h.push { cls:=.type "tuple",data:=.seq dw.toArray}).push (ku C none h.objs.size),g,d,t,os⟩) (hrest:dw.length<=sizeLine):
  wpAny (model prog w) A (Builtin.«type.__call__» ⟨.ref C::dw,[]⟩) Q E ⟨h,g,d,t,os⟩:=by
 have F:ExcBaseFacts "ValueError" "ValueError.__new__" "ValueError.__init__" lM:=F.excBase_ValueError
 repeat (first|with_reducible refine zbC hC ?_|with_reducible refine wpAny_madeBy_exc hC ?_|wp_step)
 refine codeAny_call_builtin_code (Code.quiet_builtin _ F.quiet) (wpAny_check_new_subU F zk T hC ?_)
 refine codeAny_exc_new_subU F zk F T hC ?_ hrest
 show wpAny _ _ _ _ _ _
 have up:∀b o,h.get? b=some o->((h.push { cls:=.type "tuple",data:=.seq dw.toArray}).push {cls:=.ref C,data:=.fields #[.ref h.objs.size,.none,.none,.none,.bool false,.none]}).get? b=some o:=
  λb o e=>zac _ (zac _ e)
 have agU:=up _ _ hC;have agV:K.In _:=X.keeps up
 have amn:((h.push { cls:=.type "tuple",data:=.seq dw.toArray}).push
   {cls:=.ref C,data:=.fields #[.ref h.objs.size,.none,.none,.none,.bool false,.none]}).get? (h.objs.size+1)=some
   {cls:=.ref C,data:=.fields #[.ref h.objs.size,.none,.none,.none,.bool false,.none]}:=by heap_get
 have hcC:(Value.ref C::bm).contains (.ref C)=true:=by simp
 unfold isInstance;repeat (first|with_reducible refine zbC amn ?_ | (with_reducible refine zcr agU ?_;rw[hcC])|wp_step)
 show wpAny _ _ (typeLookup (.ref C) _) _ _ _
 refine (zbP agV hi).here ?_
 refine zbo (zaa ?_)
 unfold bindSpecial;refine zaa ((PySem.W.looks_typeIn agV hf).here ?_)
 rw[if_pos (by decide)]
 refine zad (zaa (zaK hq (λr s' hr=>?_) λ_ _ x=>x))
 obtain⟨rfl,hQ⟩:=hr;wp_walk
 exact hQ
theorem DS (X:K.In h)(T:OwnTail h lM bm){dw:List Value} 
  (hC:h.get? C=some (excClassObj nm q C N bs bm rJ sn sub ab qU dd k0 k1 k2 k3 k5 "ValueError.__new__"))
  (hi:PySem.W.findIn K (.ref C) "__init__"=some (some (.ref fI))) (hf:PySem.W.typeIn K (.ref fI)=some (.type "function"))
  (hq:wpAny (model prog w) (A.under (.builtin "type.__call__" ⟨.ref C::dw,[]⟩)) (call (.ref fI) (.ref (h.objs.size+1)::dw)) (λr s'=>r = .none/\Q (.ref (h.objs.size+1)) s') E
   ⟨(h.push { cls:=.type "tuple",data:=.seq dw.toArray}).push (ku C none h.objs.size),g,d,t,os⟩) (hrest:dw.length<=sizeLine):
  wpAny (model prog w) A (call (.ref C) dw) Q E ⟨h,g,d,t,os⟩:=by
 have f1:=tc_lookup;have f2:=tc_bind (.ref C)
 have hT:(⟨h,g,d,t,os⟩:Shared).TypeIs (.ref C) "type" := ⟨_,hC,rfl⟩
 refine zcl (codeAny_of_tree ?_)
 show wpAny _ _ (callAny (.ref C) _) _ _ _
 repeat (any_goals (first|assumption|with_reducible refine zbC hC ?_|wp_step))
 refine⟨rfl,?_⟩
 exact codeAny_call_builtin_at (Code.quiet_builtin _ (by decide +kernel)) entry_typeCall (wpAny_check_type_call_sub hC (rK (hrest:=hrest) X T hC hi hf hq))
end
structure iW (K:PySem.W.Frag) (C f:Addr) (bm:List Value):Prop where
 j9:∃nm q N bs sn sub ab qU dd k0 k1 k2 k3 k5,K.lookup C=some (excClassObj nm q C N bs bm true sn sub ab qU dd k0 k1 k2 k3 k5 "ValueError.__new__")
 tail:PySem.W.tailIn K lM bm=true
 init:PySem.W.findIn K (.ref C) "__init__"=some (some (.ref f))
 fn:PySem.W.typeIn K (.ref f)=some (.type "function")
 kp:PySem.W.keepIn K (.ref C)=true
 sa:PySem.W.findIn K (.ref C) "__setattr__"=some (some (.builtin "object.__setattr__"))
 ga:PySem.W.findIn K (.ref C) "__getattribute__"=some (some (.builtin "BaseException.__getattribute__"))
 gg:PySem.W.findIn K (.ref C) "__getattr__"=some none
 kc:PySem.W.findIn K (.ref C) "__class__"=some (some (.builtin "object.__class__"))
 nb:∃B,bm = .ref B::lM
theorem AZ (h:H a=some o):bD H a o=H:=by
 funext b
 unfold bD;split
 ·rename_i e;rw[e,h]
 ·rfl
section
variable {X:Cx}{CX:AI}{k:Nat}{f C:Addr}{bm:List Value}{fd:FuncData}{ps:List Str}{sp:Sp}{mV:List V}{ds:List Value}{E:XK}{x m:Str}{p pos dX:Pos}{e o:Expr}{es:List Expr}{ta:TE}{t:TA}
noncomputable def amo (C:Addr)(sp:Sp)(mV:List V)(E:XK)(t:TA):TE:=λσ H Q=>t σ H λvs H1=>vs.length<=1000/\∀x,H1 x=none ->
 sp (.ref x::(vs++mV)) (bD H1 x (EO x C none)) (λv H2=>v = .bB/\Q (.ref x) H2) E
theorem R4 (M:iW X.K C f bm)(F:aO X.prog X.w X.K X.mg X.base CX k f fd ps sp)(hr:gR (k+1) X.A)(hb:d_ X.K fd ps ds)(hd:bH mV ds)
  (hx:fj CX X E) (I:aL X ah σ H s) (r:bH vs us) (hz:vs.length<=1000)
  (h:∀x,H x=none->sp (.ref x::(vs++mV)) (bD H x (EO x C none)) (λv H2=>v = .bB/\Q (.ref x) H2) E):
  wpAny (model X.prog X.w) X.A (call (.ref C) us) (EP X ah σ Q) X.xe s:=by
 obtain⟨nm,q,N,bs,sn,sub,ab,qU,dd,k0,k1,k2,k3,k5,lk⟩:=M.j9;have KX:=I.nE;have hq:=h (s.heap.objs.size+1) (I.cA.fresh (zaW _))
 have hsz:us.length<=sizeLine:=by
  rw[<-r.length];exact zai hz (by decide)
 have e2:((s.heap.push { cls:=.type "tuple",data:=.seq us.toArray}).push (ku C none s.heap.objs.size)).get? (s.heap.objs.size+1)=some (ku C none s.heap.objs.size):=by
  have:=zap (s.heap.push { cls:=.type "tuple",data:=.seq us.toArray}) (o:=ku C none s.heap.objs.size) rfl
  rwa[zdd] at this
 have up:∀b o,s.heap.get? b=some o->((s.heap.push { cls:=.type "tuple",data:=.seq us.toArray}).push (ku C none s.heap.objs.size)).get? b=some o:=λb o e=>zac _ (zac _ e)
 have I2:aL X ah σ (bD H (s.heap.objs.size+1) (EO (s.heap.objs.size+1) C none)) { s with heap:=(s.heap.push { cls:=.type "tuple",data:=.seq us.toArray}).push (ku C none s.heap.objs.size)}:=
  I.jI (t':=s.toks) up (zaW _) (Mp e2)
 have r2:bH (V.ref (s.heap.objs.size+1)::(vs++mV)) (Value.ref (s.heap.objs.size+1)::(us++ds)):=.cons rfl (r.lW hd)
 have hl:(Value.ref (s.heap.objs.size+1)::us++ds).length=ps.length:=by
  have e:=r2.length;rw[F.len _ _ _ _ hq] at e;exact e.symm
 have eW:wpAny (model X.prog X.w) (X.A.under (.builtin "type.__call__" ⟨.ref C::us,[]⟩)) (call (.ref f) (.ref (s.heap.objs.size+1)::us)) (λr s'=>r = .none/\EP X ah σ Q (.ref (s.heap.objs.size+1)) s') X.xe
   { s with heap:=(s.heap.push { cls:=.type "tuple",data:=.seq us.toArray}).push (ku C none s.heap.objs.size)}:=by
  refine zcl (zcx (F.kh _ X.dm _ _ ⟨Value.ref (s.heap.objs.size+1)::us,[]⟩ (Value.ref (s.heap.objs.size+1)::(us++ds)) _ _ E (hr.LN C us [])
   (I2.yV.LN C us []) (hb _ (Value.ref (s.heap.objs.size+1)::us) I2.nE hl) r2 hq) λr s' LS=>?_)
  cases r with
  |error e=>exact hx ah σ _ _ e s' I2 LS
  |ok fl =>
   cases fl with
   |ret u =>
    obtain⟨v,H',I3,rv,ev,q3⟩:=I2.after LS;subst ev;exact⟨rv,⟨V.ref (s.heap.objs.size+1),H',I3,rfl,q3⟩⟩
   |next=>exact False.elim LS
   |brk=>exact False.elim LS
   |cont=>exact False.elim LS
 exact DS (g:=s.gens) (d:=s.drawn) (t:=s.toks) (os:=s.os) KX (zew KX M.tail) (KX _ _ lk) M.init M.fn eW hsz
theorem aab (M:iW X.K C f bm)(F:aO X.prog X.w X.K X.mg X.base CX k f fd ps sp)(hr:gR (k+1) X.A)(hg:Gl X x)(hm:X.mg x=some (.ref C))(hb:d_ X.K fd ps ds)(hd:bH mV ds)(hx:fj CX X E)
  (ha:PA X (e::es) t) (sU:autoParam ((x == ("__debug__" : Str))=false) zp_1) (he:autoParam (starEach (e::es) X.env=(false,eval e X.env)::starEach es X.env) zp_0) (hpl:autoParam ((backTo pos (starEach es X.env)).any (·.1)=false) zp_0):
  PE X (.Call (.Name x p) (e::es) [] pos) (amo C sp mV E t):=by
 intro ah s σ H Q I h;refine zbZ (mU I hg hm ?_ sU)
 refine zcy (h₀:= X.base) I.ok.sH.Zc M.kp (cS (ha pos ah s σ H _ I h) λus s1 ⟨vs,H1,I1,r,hz,q⟩=>⟨I1.nE,?_⟩) he hpl
 exact R4 M F hr hb hd hx I1 r hz q
structure VJ (K:PySem.W.Frag) (B:Addr):Prop where
 sp:PySem.W.specialIn K (.ref B) "__getattribute__"=some (some (.builtin "type.__getattribute__"))
 rd:PySem.W.readsIn K B (.type "type")=true
 fc:PySem.W.findCls K (.ref B) (.type "type") "__init__"=some (.val (.builtin "ValueError.__init__"))
noncomputable def aac (K:PySem.W.Frag)(t:TA):TE:=λσ H Q=>t σ H λvs H1=>∃a C f bm od y,vs=[.ref a,y]/\H1 a=some (EO a C od)/\iW K C f bm/\Q .bB H1
theorem Mr (M:iW X.K C f bm)(I:aL X ah σ H s)(hH:H a=some (EO a C od))(q:Q .bB H):
  wpAny (model X.prog X.w) X.A (call (.builtin "ValueError.__init__") [.ref a,u]) (EP X ah σ Q) X.xe s:=by
 obtain⟨nm,q',N,bs,sn,sub,ab,qU,dd,k0,k1,k2,k3,k5,lk⟩:=M.j9;have KX:=I.nE;have F:ExcBaseFacts "ValueError" "ValueError.__new__" "ValueError.__init__" lM:=F.excBase_ValueError
 obtain⟨⟨t0,ha⟩,_,_⟩:=(show cR X.prog X.w H s.heap a (EO a C od) from I.cA a _ hH)
 have hC:=KX _ _ lk;have T:=zew KX M.tail;obtain⟨h,g,d,tk,os⟩:=s;refine zcl (zcR F.init.plain F.initEntry (wpAny_check_init_subU F T hC ha rfl ?_))
 have R5:h.get? a=some {cls:=.ref C,dict:=od,data:=.fields #[.ref t0,.none,.none,.none,.bool false,.none]}:=ha
 wp_walk
 have up:∀b o,h.get? b=some o->(h.push { cls:=.type "tuple",data:=.seq #[u]}).get? b=some o:=λb o e=>zac _ e
 have I1:aL X ah σ H ⟨h.push { cls:=.type "tuple",data:=.seq #[u]},g,d,tk,os⟩:=I.ie (t':=tk) up
 have e1:((h.push { cls:=.type "tuple",data:=.seq #[u]}).update a (Obj.mapFields λx=>x.setIfInBounds 0 (Value.ref h.objs.size))).get? a=some (ku C od h.objs.size):=by
  rw[zaR _ (up _ _ R5) rfl];rfl
 have I2:=I1.jm (x:=a) (e:=a) (o:=EO a C od) (t':=tk) (h':=(h.push { cls:=.type "tuple",data:=.seq #[u]}).update a (Obj.mapFields λx=>x.setIfInBounds 0 (Value.ref h.objs.size)))
  (by rw[hH];exact True.intro) (.inl rfl) (λb z hb e=>(zaG _ _ (zbe hb)).trans e) ⟨_,e1⟩ (Mp e1)
 rw[AZ hH] at I2;exact⟨.bB,H,I2,rfl,q⟩
theorem Ms (EB:VJ X.K B)(hg:Gl X x)(hm:X.mg x=some (.ref B))(ha:PA X [e,e2] t)(sU:autoParam ((x == ("__debug__" : Str))=false) zp_1)
  (pV:autoParam (starEach [e,e2] X.env=(false,eval e X.env)::starEach [e2] X.env) zp_0) (hpl:autoParam ((backTo pos (starEach [e2] X.env)).any (·.1)=false) zp_0)
  (ht:autoParam (eval (.Call (.Attribute (.Name x p) "__init__" dX) [e,e2] [] pos) X.env=(do
   let ov <-eval (.Name x p) X.env
   standAt dX.atName
   let (f,first) <-holding [ov] (getMethod ov "__init__" pl)
   callWith pos f first (backTo pos (starEach [e,e2] X.env)) (backToKw pos (keywordEach [] X.env)))) zp_0):
  PE X (.Call (.Attribute (.Name x p) "__init__" dX) [e,e2] [] pos) (aac X.K t):=by
 intro ah s σ H Q I h;refine zcK (pl:=pl) (mU I hg hm ?_ sU) ht
 refine PySem.W.method_cls I.nE EB.sp (PySem.W.cls_value I.nE EB.rd EB.fc rfl ?_)
 have I1:=I.nF (s.toks+1)
 have hA:=ha pos ah {s with toks:=s.toks+1} σ H _ I1 h
 rw[pV] at hA ⊢
 refine zcd (by show (false || (backTo pos (starEach [e2] X.env)).any (·.1))=false;rw[hpl]<;>rfl) (zcN ?_)
 refine cS hA λus s2 dI=>?_
 obtain⟨vs,H2,I2,r2,a,C',f',bm',od,y,ev,hH,M,q⟩:=dI;subst ev;obtain⟨u1,u2,rfl,ru1,_⟩:=r2.two;cases (show u1=Value.ref a from ru1)
 exact Mr M I2 hH q
end
theorem aad (e:h.get? a=some (ku C none t)):PySem.W.InstAt h a (ku C none t) C none:=⟨e,rfl,rfl,True.intro⟩
theorem aae (e:h.get? a=some (ku C (some d) t))(hd:h.get? d=some o):PySem.W.InstAt h a (ku C (some d) t) C (some o):=⟨e,rfl,rfl,hd⟩
theorem DT (self:Value):refuseLoop self "__setattr__" lM=pure ():=by
 with_unfolding_all rfl
theorem iW.cls {K:PySem.W.Frag}(M:iW K C f bm):∃cd,PySem.W.clsIn K C=some cd/\cd.mro = .ref C::bm/\cd.hasDict=true:=by
 obtain⟨nm,q',N,bs,sn,sub,ab,qU,dd,k0,k1,k2,k3,k5,lk⟩:=M.j9;refine⟨{name:=nm,bases:=bs,mro:=.ref C::bm,ns:=N,qualname:=q',hasDict:=true,slotNames:=sn,subclasses:=sub,abstract:=ab,collection:=qU,hasDel:=false},?_,rfl,rfl⟩
 unfold PySem.W.clsIn;rw[lk]
section
variable {prog:Program}{w:World}{A:Around}{E:Value->Shared->Prop}{s:Shared}{K:PySem.W.Frag}{x C f:Addr}{bm:List Value}{ox:Obj}{od:Option Obj}{name:Str}
theorem iW.has {T:String}(M:iW K C f bm)(hT:lM.contains (.type T)=true):PySem.W.mroIn K C (.type T)=some true:=by
 obtain⟨cd,hc,hm,_⟩:=M.cls;obtain⟨B,rfl⟩:=M.nb;unfold PySem.W.mroIn;rw[hc,zaX,hm,if_neg (by simp)]
 rw[zaV,zaV,hT,zcz,zcz]
theorem Gu {amq LJ:Bool}{tk:Tok}{Q:Value->Shared->Prop}(X:K.In s.heap)(I:PySem.W.InstAt s.heap x ox C od)(M:iW K C f bm)
  (h:wpAny (model prog w) A.in1 (Builtin.«object.__getattribute__» ⟨[.ref x,.str name tk],[]⟩)
   (λeW s'=>match eW with|.done (.ret v)=>wpAny (model prog w) A (handedOut v) Q E s' | _=>False) (λ_ _=>False) s):
  wpAny (model prog w) A (getAttrBy (.ref x) (.str name tk) amq LJ) Q E s:=by
 have L0:=I.type (M:=model prog w)
 unfold getAttrBy;refine zbo (zaa (L0.here (zaa ((zbP X M.ga).here ?_))))
 dsimp only;rw[show (onTheHeap (Value.ref C) && Value.builtin "BaseException.__getattribute__" == Value.builtin "object.__getattribute__")=false from by rw[show (Value.builtin "BaseException.__getattribute__" == Value.builtin "object.__getattribute__")=false from by decide +kernel,zdX],if_neg (by decide)]
 unfold getAttrByItsOwn;refine zaa ?_
 unfold hookBefore;rw[if_pos (show onTheHeap (Value.ref C)=true from rfl)];refine (zbP X M.gg).here (zaa (zdn (zbo ?_)))
 unfold callGetattribute;rw[show (LJ && onTheHeap (Value.builtin "BaseException.__getattribute__"))=false from zdX _,if_neg (by decide)]
 unfold boundAndCalled;rw[zdh.ga.bind];refine zaa (zad ?_)
 show wpAny _ _ (call (.builtin "BaseException.__getattribute__") [.ref x,.str name tk]) _ _ _
 refine zcl (zcR zdh.ga.plain PySem.F.entry_bexc_ga ?_)
 refine @zex (model prog w) _ _ s "BaseException.__getattribute__" "BaseException" "__getattribute__" (.ref x) [.str name tk] [] _ (by decide +kernel) (by decide +kernel)
  (L0.andThen (zem X (M.has (by decide +kernel)))) (PySem.F.args_bexc_ga _ _) ?_
 refine zaK h (λeW s' z=>?_) λ_ _ z=>z.elim
 rcases eW with (_|_|_|_)|_<;>first|exact z|exact z.elim
theorem DU {LJ:Bool}{v:Value}{Q:Value->Shared->Prop}(X:K.In s.heap)(I:PySem.W.InstAt s.heap x ox C od)(M:iW K C f bm)(hf:PySem.W.findObj K C od name=some (.value v))(hh:PySem.W.handedIn v=true)
  (h:Q v {s with toks:=s.toks+1}):wpAny (model prog w) A (getAttr (.ref x) name LJ) Q E s:=by
 unfold getAttr;refine zaa (wpAny_mkText ?_)
 refine Gu (s:={s with toks:=s.toks+1}) X I M ?_
 have L0:=I.type (M:=model prog w)
 have L1:=zey (M:=model prog w) X I hf
 obtain⟨hh',g,d,t,os⟩:=s;refine zaa (zad (zaa (zad (zaa (L0.at (zaa (L1.at ?_)))))))
 refine zad ?_
 show wpAny _ _ (handedOut v) _ _ _
 rw[zef hh];exact zad h
theorem DW {Q:Option Value->Shared->Prop}(X:K.In s.heap)(I:PySem.W.InstAt s.heap x ox C od)(M:iW K C f bm)
  (hf:PySem.W.findObj K C od "__class__"=some (.bind (.builtin "getset_descriptor.__get__") (.builtin "object.__class__"))) (h:Q (some (.ref C)) {s with toks:=s.toks+1}):
  wpAny (model prog w) A (getAttr? (.ref x) "__class__") Q E s:=by
 unfold getAttr?
 refine zaa (wpAny_mkText ?_)
 unfold getAttrBy?
 refine zaa (zdn ?_)
 refine Gu (s:={s with toks:=s.toks+1}) X I M ?_
 have L0:=I.type (M:=model prog w)
 have L1:=zey (M:=model prog w) X I hf
 obtain⟨hh',g,d,t,os⟩:=s;refine zaa (zad (zaa (zad (zaa (L0.at (zaa (L1.at ?_)))))))
 dsimp only;refine zaa (zbo (zcl (PySem.W.class_get (s:=⟨hh',g,d,t+1,os⟩) (ox:=ox) (od:=od) X I (M.has (by decide +kernel)) ?_)))
 refine zad ?_
 show wpAny _ _ (handedOut (.ref C)) _ _ _
 rw[zef (v:=.ref C) rfl];exact zad (zad h)
theorem A0 (M:iW K C f bm)(hn:PySem.W.specialIn K (.builtin "object.__class__") "__get__"=some (some (.builtin "getset_descriptor.__get__")))(htk:PySem.W.takesIn K (.builtin "object.__class__")=some true):
  PySem.W.KitX K (.ref x) (.ref C) (λh=>PySem.W.InstAt h x ox C od) where
 ty:=λ_ _ _ I=>I.type
 it:=λ_ _ X _=>by
  obtain⟨nm,q',N,bs,sn,sub,ab,qU,dd,k0,k1,k2,k3,k5,lk⟩:=M.j9;intro A' Q' E' s' k q;unfold isType loadHead;exact zaa (zdc (k _ _ (X _ _ lk)) (zad q))
 ne:=λh tp dd aX n sl X htp=>by
  obtain⟨nm,q',N,bs,sn,sub,ab,qU,AM,k0,k1,k2,k3,k5,lk⟩:=M.j9;refine Bool.eq_false_iff.mpr λq=>?_
  have e:C=tp:=Value.ref.inj (beq_iff_eq.mp q)
  subst e;have z:(Value.type "type")=Value.type "tuple" := congrArg Obj.cls (zaw ((X _ _ lk).symm.trans htp))
  injection z with z
  exact absurd z (by decide)
 ca:=λX I k=>by
  refine DW X I M ?_ k
  obtain⟨cd,hc,_⟩:=M.cls;unfold PySem.W.findObj;rw[hc,zaX,M.kc,zaX];simp[hn,htk]
theorem w_ {v:Value}{b:Bool->Prop}{Q:Unit->Shared->Prop}(X:K.In s.heap)(I:PySem.W.InstAt s.heap x ox C od)(M:iW K C f bm)(hn:PySem.W.findIn K (.ref C) name=some none)
  (h:∀on tk,wpAny (model prog w) A.in1 (Builtin.ObjectAttr.storeInOwnDict (.ref x) (.ref C) (.str name tk) name v on) (λeW s'=>match eW with|.done (.ret _)=>Q () s' | _=>False) E {s with toks:=s.toks+1}):
  wpAny (model prog w) A (setAttr (.ref x) name v) Q E s:=by
 refine zeD X I M.sa ?_
 have SF:=PySem.F.store_object;obtain⟨cd,hc,hm,_⟩:=M.cls;obtain⟨B,hB⟩:=M.nb;have L0:=I.type (M:=model prog w)
 refine zcR SF.slot.plain SF.entry (@zex (model prog w) _ _ {s with toks:=s.toks+1} "object.__setattr__" "object" "__setattr__" (.ref x) [.str name s.toks,v] [] _ SF.kind SF.split
  (L0.andThen (zem X (M.has (by decide +kernel)))) (SF.args (.ref x) (.str name s.toks) v) ?_)
 have Lm:PySem.W.Looks (model prog w) s.heap (mroOf (.ref C)) cd.mro:=(zcq X hc).andThen .now
 rw[PySem.W.osa_eq,refuse_eq];refine zaa (zaa (zbx (s:={s with toks:=s.toks+1}) L0 (zaa (zbx (s:={s with toks:=s.toks+1}) Lm ?_))))
 rw[hm,hB,refuseLoop_ref,refuseLoop_ref,DT];refine zad (zaa (zbx (s:={s with toks:=s.toks+1}) L0 (zaa (zbx (s:={s with toks:=s.toks+1}) (zbP X hn) ?_))))
 refine zaa (zad ?_)
 refine zaK (h _ _) (λeW s' z=>?_) λ_ _ z=>z
 rcases eW with (_|_|_|_)|_<;>first|exact z|exact z.elim
end
section
variable {X:Cx}{ah:List (Addr×Obj)}{σ:St}{H:Hp}{s:Shared}{A:Around}{E:Value->Shared->Prop}{a C f d:Addr}{bm:List Value}{g:Str}{v y:V}{u:Value}{fs:List (Str×V)}
theorem Mt {od:Option Addr}(I:aL X ah σ H s)(h:H a=some (EO a C od)):∃t,s.heap.get? a=some (ku C od t):=by
 obtain⟨⟨t,e⟩,_,_⟩:=(show cR X.prog X.w H s.heap a (EO a C od) from I.cA a _ h)
 exact⟨t,e⟩
theorem Gv (I:aL X ah σ H s)(h:H d=some (ED d fs)):∃mA,s.heap.Ns1 d mA/\(∀f,iP (fs.lookup f) (mA f))/\PySem.Within mA (fs.map (·.1)):=by
 obtain⟨q,_,_⟩:=(show cR X.prog X.w H s.heap d (ED d fs) from I.cA d _ h)
 exact q
end
theorem Mu (h:a≠b):bD (bD (bD H a o) b u) a w=bD (bD (bD H a o) a w) b u:=by
 funext c
 unfold bD;by_cases h1:c=a
 ·subst h1;rw[if_pos rfl,if_neg h,if_pos rfl]
 ·rw[if_neg h1,if_neg h1,if_neg h1]
theorem Mv (I:aL X ah σ H s)(M:iW X.K C f bm)(ha:H a=some (EO a C none))(hn:PySem.W.findIn X.K (.ref C) g=some none)(ry:bG y u)
  (h:∀d s',H d=none->aL X ah σ (bD (bD H d (ED d [(g,y)])) a (EO a C (some d))) s'->Q () s'):wpAny (model X.prog X.w) A (setAttr (.ref a) g u) Q E s:=by
 obtain⟨t,e⟩:=Mt I ha;obtain⟨cd,hc,_,rJ⟩:=M.cls;refine w_ (b:=λ_=>True) I.nE (aad e) M hn λon tk=>?_
 have aaf:H s.heap.objs.size=none:=I.cA.fresh (zah _)
 have e':s.heap.get? a=some ⟨.ref C,none,.fields #[.ref t,.none,.none,.none,.bool false,.none],#[]⟩:=e
 refine zaa (zad (zaa (zaa (zdc e' (zaa (zbx (s:={s with toks:=s.toks+1}) (zcq I.nE hc) ?_))))))
 rw[rJ];refine zaa (wpAny_alloc ?_)
 have hal:a<s.heap.objs.size:=zan e
 have nad:a≠s.heap.objs.size:=zaq hal
 have g1:(s.heap.push ({ cls:=.type "dict",data:=.dict #[]}:Obj)).get? s.heap.objs.size=some { cls:=.type "dict",data:=.dict #[]}:=zap _ rfl
 have n1:(s.heap.push ({ cls:=.type "dict",data:=.dict #[]}:Obj)).Ns s.heap.objs.size (λ_=>none):=⟨_,#[],_,g1,rfl,(λe he=>absurd he (by simp)),λ_=>rfl⟩
 have n1':=Heap.Ns1.of_empty n1;have I1:aL X ah σ (bD H s.heap.objs.size (ED s.heap.objs.size [])) { s with heap:=s.heap.push ({ cls:=.type "dict",data:=.dict #[]}:Obj),toks:=s.toks+1}:=
  I.jI (λb u e=>zac _ e) (zah _) (Mq n1' (λ_=>True.intro) (λy hy=>absurd rfl hy))
 have e1:(s.heap.push ({ cls:=.type "dict",data:=.dict #[]}:Obj)).get? a=some ⟨.ref C,none,.fields #[.ref t,.none,.none,.none,.bool false,.none],#[]⟩:=zac _ e'
 refine zaa (wpAny_update e1 ?_)
 have e2:((s.heap.push ({ cls:=.type "dict",data:=.dict #[]}:Obj)).update a (λo=>{cls:=o.cls,dict:=some s.heap.objs.size,data:=o.data,slots:=o.slots})).get? a=some (ku C (some s.heap.objs.size) t):=by
  rw[zaR _ e1 rfl];rfl
 have hH1:(bD H s.heap.objs.size (ED s.heap.objs.size [])) a=some (EO a C none):=by rw[au nad];exact ha
 have I2:=I1.jm (x:=a) (e:=a) (o:=EO a C (some s.heap.objs.size)) (t':=s.toks+1) (h':=(s.heap.push ({ cls:=.type "dict",data:=.dict #[]}:Obj)).update a (λo=>{cls:=o.cls,dict:=some s.heap.objs.size,data:=o.data,slots:=o.slots}))
  (by rw[hH1];exact True.intro) (.inl rfl) (λb z hb q=>(zaG _ _ (zbe hb)).trans q) ⟨_,e2⟩ (Mp e2)
 have n2:((s.heap.push ({ cls:=.type "dict",data:=.dict #[]}:Obj)).update a (λo=>{cls:=o.cls,dict:=some s.heap.objs.size,data:=o.data,slots:=o.slots})).Ns1 s.heap.objs.size (λ_=>none):=
  n1'.at λo z=>(zaG _ _ nad).trans z
 refine zad ?_
 refine zaa (zad (zaa ?_))
 refine wpAny_nsSet1 n2 λh' La hs2=>?_
 obtain⟨oD,esD,epD,Lb,hdD,hcD⟩:=La.count (PySem.Within.cons g u (ns:=[]) (λy hy=>absurd rfl hy))
 refine zaa (zdB Lb (by rw[hdD];exact zdC (zai hcD (show 1<=sizeLine+1 by decide))) ?_)
 refine zad (h s.heap.objs.size _ aaf ?_)
 have hHd:(bD (bD H s.heap.objs.size (ED s.heap.objs.size [])) a (EO a C (some s.heap.objs.size))) s.heap.objs.size=some (ED s.heap.objs.size []):=by rw[au (zbe nad),av]
 have I3:=I2.jm (x:=s.heap.objs.size) (e:=s.heap.objs.size) (o:=ED s.heap.objs.size [(g,y)]) (t':=s.toks+1+1) (h':=h')
  (by rw[hHd];exact True.intro) (.inl rfl) (λb z hb q=>(hs2.2 b hb).trans q) ⟨_,Lb⟩ (Mq La (λf=>?_) (λf hf=>?_))
 ·rw[Mu (zbe nad),F1] at I3
  exact I3
 ·show iP (List.lookup f [(g,y)]) (if f=g then some u else none)
  rw[zaQ];by_cases q:f=g
  ·rw[if_pos q,show (f == g)=true from by simpa using q]
   exact ry
  ·rw[if_neg q,show (f == g)=false from by simpa using q]
   exact True.intro
 ·have hf:(if f=g then some u else none)≠none:=hf
  by_cases q:f=g
  ·rw[q];simp
  ·rw[if_neg q] at hf;exact absurd rfl hf
theorem Mw (I:aL X ah σ H s)(M:iW X.K C f bm)(ha:H a=some (EO a C (some d)))(hd:H d=some (ED d fs))(hl:fs.length<1000)(hn:PySem.W.findIn X.K (.ref C) g=some none)(ry:bG y u)
  (h:∀s',aL X ah σ (bD H d (ED d (gz g y fs))) s'->Q () s'):wpAny (model X.prog X.w) A (setAttr (.ref a) g u) Q E s:=by
 obtain⟨t,e⟩:=Mt I ha;obtain⟨mA,ns,r,wi⟩:=Gv I hd;obtain⟨oD,Lb,_⟩:=jL ns;obtain⟨cd,hc,_,rJ⟩:=M.cls;refine w_ (b:=λ_=>True) I.nE (aae e Lb) M hn λon tk=>?_
 have e':s.heap.get? a=some ⟨.ref C,some d,.fields #[.ref t,.none,.none,.none,.bool false,.none],#[]⟩:=e
 refine zaa (zad (zaa (zaa (zdc e' (zaa (zbx (s:={s with toks:=s.toks+1}) (zcq I.nE hc) ?_))))))
 rw[rJ];refine zad (a:=some d) (zaa (zad (zaa ?_)))
 refine wpAny_nsSet1 (s:={s with toks:=s.toks+1}) ns λh' La hs2=>?_
 obtain⟨oD',esD,epD,agW,hdD,hcD⟩:=La.count (PySem.Within.cons g u wi)
 have ao1:(1000:Nat)<=sizeLine:=by decide
 have hz:(fs.map (·.1)).length<1000:=by rw[zaf];exact hl
 refine zaa (zdB agW (by rw[hdD];exact zdC (zai hcD (by rw[zar];omega))) ?_)
 refine zad (h _ ?_)
 refine I.jm (x:=d) (e:=d) (o:=ED d (gz g y fs)) (by rw[hd];exact True.intro) (.inl rfl) (λb z hb q=>(hs2.2 b hb).trans q) ⟨_,agW⟩ (Mq La (λf=>?_) (λf hf=>?_))
 ·show iP ((gz g y fs).lookup f) (if f=g then some u else mA f)
  rw[lZ];by_cases q:f=g
  ·rw[if_pos q,if_pos q];exact ry
  ·rw[if_neg q,if_neg q];exact r f
 ·by_cases q:f=g
  ·rw[q];exact (jM g y fs).1
  ·refine (jM g y fs).2 f (wi f λz=>hf ?_)
   show (if f=g then some u else mA f)=none
   rw[if_neg q];exact z
noncomputable def agX (K:PySem.W.Frag)(ta tv:TE)(g:Str):TS:=λD σ H=>tv σ H λy H1=>ta σ H1 λx H2=>∃a C f bm,x = .ref a/\H2 a=some (EO a C none)/\iW K C f bm/\PySem.W.findIn K (.ref C) g=some none /\
 ∀d,H2 d=none->D.nx σ (bD (bD H2 d (ED d [(g,y)])) a (EO a C (some d)))
noncomputable def agY (K:PySem.W.Frag)(ta tv:TE)(g:Str):TS:=λD σ H=>tv σ H λy H1=>ta σ H1 λx H2=>∃a C f bm d fs,x = .ref a/\H2 a=some (EO a C (some d))/\H2 d=some (ED d fs)/\fs.length<1000/\iW K C f bm/\PySem.W.findIn K (.ref C) g=some none /\
 D.nx σ (bD H2 d (ED d (gz g y fs)))
theorem R6 (ha:PE X o ta)(hv:PE X value tv)(hs:autoParam (swapsWith value (some (.Attribute o g jK)) pos.line X.env=pure false) zp_0):PS X (.Assign [.Attribute o g jK] value pos) (agX X.K ta tv g):=by
 intro ah s σ H D I h;refine zbW (cS (hv ah s σ H _ I h) λu s1 ⟨y,H1,I1,ry,q⟩=>cS (ha ah s1 σ H1 _ I1 q) λov s2 eN=>?_) hs
 obtain⟨x,H2,I2,rx,a,C,f,bm,ex,ea,M,n,q2⟩:=eN;subst ex;obtain rfl:ov=Value.ref a:=rx
 exact Mv I2 M ea n ry λd s3 hd I3=>⟨σ,_,I3,q2 d hd⟩
theorem R7 (ha:PE X o ta)(hv:PE X value tv)(hs:autoParam (swapsWith value (some (.Attribute o g jK)) pos.line X.env=pure false) zp_0):PS X (.Assign [.Attribute o g jK] value pos) (agY X.K ta tv g):=by
 intro ah s σ H D I h;refine zbW (cS (hv ah s σ H _ I h) λu s1 ⟨y,H1,I1,ry,q⟩=>cS (ha ah s1 σ H1 _ I1 q) λov s2 jP=>?_) hs
 obtain⟨x,H2,I2,rx,a,C,f,bm,d,fs,ex,ea,ed,hl,M,n,q2⟩:=jP;subst ex;obtain rfl:ov=Value.ref a:=rx
 exact Mw I2 M ea ed hl n ry λs3 I3=>⟨σ,_,I3,q2⟩
theorem rL:bootBuiltins "ValueError"=some (.type "ValueError"):=by decide +kernel
section
variable {K:PySem.W.Frag}{C f B:Addr}
theorem aag {bm:List Value}(M:iW K C f bm):PySem.W.kitOne K (.ref C) (.type "ValueError")=some true:=by
 have h2:PySem.W.kitMeta "ValueError"=true:=by decide +kernel
 unfold PySem.W.kitOne;rw[if_neg (by show ¬ ((false:Bool)=true);decide)]
 show (if PySem.W.kitMeta "ValueError"=true then PySem.W.mroIn K C (.type "ValueError") else none)=some true
 rw[if_pos h2];exact M.has zk
theorem Mx {D g:Addr}{bm':List Value}{b:Bool}(M:iW K C f (.ref B::lM))(hD:(PySem.W.clsIn K D).isSome=true)(tD:PySem.W.typeIn K (.ref D)=some (.type "type"))(hb:decide (D=C\/D=B)=b):PySem.W.kitOne K (.ref C) (.ref D)=some b:=by
 obtain⟨cd,hc,hm,_⟩:=M.cls;unfold PySem.W.kitOne;by_cases h:C=D
 ·subst h
  rw[if_pos (by simp)]
  rw[<-hb,decide_eq_true (.inl rfl)]
 ·rw[if_neg (by simpa using h)]
  show (if ((PySem.W.clsIn K D).isSome && PySem.W.typeIn K (.ref D) == some (.type "type"))=true then PySem.W.mroIn K C (.ref D) else none)=some b
  rw[if_pos (by rw[hD,tD];simp)]
  unfold PySem.W.mroIn;rw[hc,zaX,hm,if_neg (by simp)]
  congr 1
  rw[zaV,zaV,<-hb];have e1:lM.contains (.ref D)=false:=rfl
  rw[e1,zdm,zbc];simp only[zcQ,beq_iff_eq,decide_eq_true_eq];constructor
  ·rintro (q|q)
   ·exact .inl (Value.ref.inj q)
   ·exact .inr (Value.ref.inj q)
  ·rintro (q|q)
   ·exact .inl (by rw[q])
   ·exact .inr (by rw[q])
theorem iW.Mz {bm:List Value}(M:iW K C f bm):(PySem.W.clsIn K C).isSome=true:=by
 obtain⟨cd,hc,_⟩:=M.cls;rw[hc];rfl
theorem iW.VL {bm:List Value}(M:iW K C f bm):PySem.W.typeIn K (.ref C)=some (.type "type"):=by
 obtain⟨nm,q',N,bs,sn,sub,ab,qU,dd,k0,k1,k2,k3,k5,lk⟩:=M.j9;show Option.map (λx=>x.cls) (K.lookup C)=some (.type "type")
 rw[lk];rfl
end
theorem aL.Gw {fp:List Addr}(I:aL X ah σ H s)(k:∀b o,b∉fp->s.heap.get? b=some o->h'.get? b=some o)
  (hf:∀b∈fp,pZ X ah H b):aL X ah σ H {s with heap:=h',toks:=t' }:=by
 refine I.AB (g':=s.gens) (d':=s.drawn) (ch:=fp) (λb hb=>?_) (λb o _ _ hc e _=>k b o hc e) (λb o _ _ hc e _=>⟨o.slots,k b o hc e⟩) (λ_ _ _ _ n=>n)
  (λb o hc e=>⟨o,k b o hc e⟩) (λ_ _ e=>e) (λ_ _ _ e=>e) (λb ps e=>⟨#[],by rw[e];simp⟩) (λm hm=>?_) (λb u e=>?_) I.ig
 ·obtain⟨f0,f1,f2,f3,f4,f5⟩:=hf b hb
  exact⟨f3,f1,f4,f5⟩
 ·obtain⟨o,es,ep,ho,r⟩:=hm
  exact⟨o,es,ep,k _ o (λz=>(hf _ z).2.1 rfl) ho,r⟩
 ·refine (I.cA b u e).pY (λc v hc q=>k c v (λz=>?_) q) (λ_ q=>q) λ_ _ q=>q
  have f0:=(hf c z).1
  rcases hc with z' | z'
  ·rw[z',e] at f0;cases f0
  ·rw[z'] at f0;cases f0
noncomputable def SqK (K:PySem.W.Frag)(κ:Bool)(H:Hp)(a:Addr)(xs:List V):Prop:=match κ with|true=>nM K H a xs|false=>jn K H a xs
noncomputable def nH (κ:Bool)(h:Heap)(it a:Addr)(i:Nat):Prop:=match κ with|true=>h.IsTupleIter it a i|false=>h.IsListIter it a i
noncomputable def tE (κ:Bool)(h:Heap)(a:Addr)(aX:Array Value):Prop:=match κ with|true=>h.IsTuple a aX|false=>h.IsList a aX
theorem nH.j9 (st:nH κ h it a i):∃o,h.get? it=some o/\∀v,o.data ≠ .cell v:=by
 cases κ with
 |true=>obtain⟨o,e,c,d⟩:=st;exact⟨o,e,λv z=>by rw[d] at z;cases z⟩
 |false=>obtain⟨o,e,c,d⟩:=st;exact⟨o,e,λv z=>by rw[d] at z;cases z⟩
theorem nH.rG (st:nH κ h it a i)(k:∀o,h.get? it=some o->h'.get? it=some o):nH κ h' it a i:=by
 cases κ with
 |true=>obtain⟨o,e,r⟩:=st;exact⟨o,k o e,r⟩
 |false=>obtain⟨o,e,r⟩:=st;exact⟨o,k o e,r⟩
theorem tE.rG (st:tE κ h a aX)(k:∀o,h.get? a=some o->h'.get? a=some o):tE κ h' a aX:=by
 cases κ with
 |true=>obtain⟨o,e,r⟩:=st;exact⟨o,k o e,r⟩
 |false=>obtain⟨o,e,r⟩:=st;exact⟨o,k o e,r⟩
theorem nH.ne (st:nH κ h it a i)(so:tE κ h a aX):a≠it:=by
 intro z;subst z;cases κ with
 |true =>
  obtain⟨o,e,c,d⟩:=st;obtain⟨o',e',c',_⟩:=so;rw[e] at e';cases e'
  rw[c] at c';exact absurd c' (by decide)
 |false =>
  obtain⟨o,e,c,d⟩:=st;obtain⟨o',e',c',_⟩:=so;rw[e] at e';cases e'
  rw[c] at c';exact absurd c' (by decide)
theorem DX (hj:s.heap.IsTupleIter j tp n)(hp:s.heap.IsTuple tp vs)(hv:vs[n]? = some v)
  (k:∀h',h'.IsTupleIter j tp (n+1)->Heap.SameBut j s.heap h'->Q v {s with heap:=h' }):wpAny (model prog w) A (Builtin.SmallTypes.nextOf (.ref j)) Q E s:=by
 obtain⟨oj,ej,cj,dj⟩:=id hj;obtain⟨op,ep,_,m,dp⟩:=hp;have hn:¬ ((Value.ref tp == Value.none)=true):=zal
 unfold Builtin.SmallTypes.nextOf;refine zaa (zbG (name:=Str.ofString "__next__") hj.typeIs zbO (zbS zbO hj.typeIs zdi ?_ (zde _)))
 show wpAny _ _ (field (.ref j) 0 >>= _) _ _ s
 refine zaa (zbt ej dj (x:=.ref tp) rfl ?_)
 show wpAny _ _ (if (Value.ref tp == Value.none)=true then _ else _) _ _ s
 rw[if_neg hn];show wpAny _ _ (field (.ref j) 1 >>= _) _ _ s
 refine zaa (zbt ej dj (x:=.int n 0) rfl ?_)
 show wpAny _ _ (seqItems? (.ref tp) >>= _) _ _ s
 refine zaa (wpAny_seqItems ep dp ?_)
 simp only[zbq,hv];refine zaa (zbI ej dj (by simp) (zad ⟨v,rfl,zad (k _ ⟨_,zaR _ ej (zcg (zbk dj _)),(Obj.cls_mapFields ..).trans cj,?_⟩ (zbU ..))⟩))
 rw[zbk dj];simp[rawInt]
theorem Jc (hh:A.handled=none)(hj:s.heap.IsTupleIter j tp n)(hp:s.heap.IsTuple tp vs)(hv:vs[n]? = none)
  (k:∀h' x,Heap.ExtBut j s.heap h'->(∃o,h'.get? x=some o/\o.cls = .type "StopIteration")->E (.ref x) {s with heap:=h' }):wpAny (model prog w) A (Builtin.SmallTypes.nextOf (.ref j)) Q E s:=by
 obtain⟨oj,ej,cj,dj⟩:=id hj;obtain⟨op,ep,_,m,dp⟩:=hp;have hn:¬ ((Value.ref tp == Value.none)=true):=zal
 unfold Builtin.SmallTypes.nextOf;refine zaa (zbG (name:=Str.ofString "__next__") hj.typeIs zbO (zbS zbO hj.typeIs zdi ?_ (zde _)))
 show wpAny _ _ (field (.ref j) 0 >>= _) _ _ s
 refine zaa (zbt ej dj (x:=.ref tp) rfl ?_)
 show wpAny _ _ (if (Value.ref tp == Value.none)=true then _ else _) _ _ s
 rw[if_neg hn];show wpAny _ _ (field (.ref j) 1 >>= _) _ _ s
 refine zaa (zbt ej dj (x:=.int n 0) rfl ?_)
 show wpAny _ _ (seqItems? (.ref tp) >>= _) _ _ s
 refine zaa (wpAny_seqItems ep dp ?_)
 simp only[zbq,hv];refine zaa (wpAny_rule (zaa (zbI ej dj (by simp) ?_)))
 show wpAny _ _ (newExc (.type "StopIteration") [] >>= _) _ _ _
 refine zaa ?_
 simp only[newExc,newTuple];refine zaa (zaS ?_ (by size_fits))
 refine zaa (m:=firstArgMember _ _) (wpAny_of_eq (a:=Value.none) (by first|rfl | (simp only[firstArgMember];rfl)) (zaS ?_ (by size_fits)))
 simp only[raiseNew];refine zaa (wpAny_handled ?_)
 first|rw[show A.in1.handled=none from hh]|rw[hh]
 exact zaa (zad (wpAny_throw (k _ _ (((zbU ..).extBut.push _).push _) ⟨_,zap _ rfl,rfl⟩)))
theorem xg (hh:A.handled=none)(κ:Bool)(it a:Addr)(De:a≠it)(aX:Array Value):
    Draws P w A it [it,a] aX.size (λi v=>aX[i]? = some v) (λi h=>nH κ h it a i/\tE κ h a aX):=by
  cases κ with
  |false=>exact Draws.list hh it a De aX
  |true =>
    exact { live:=λi h st=>let ⟨o,e,_⟩:=st.1;⟨o,e⟩
            frame:=λi h h' st k=>⟨st.1.rG λo e=>k it (by simp) o e,st.2.rG λo e=>k a (by simp) o e⟩
            item:=λi s Q E hi st k=>DX st.1 st.2 (v:=aX[i]) (by simp[hi]) λh' AH sb=>k _ h' s.toks (by simp[hi]) ⟨AH,Heap.IsTuple.extBut st.2 sb.extBut De⟩ sb
            done:=λs Q E st k=>Jc hh st.1 st.2 (by simp) k}
theorem A1 {St:Nat->Heap->Prop}(D:Draws P w A it fp n Y St)(k:Nat):
  Draws P w A it fp (n+k) (λi v=>Y (i - k) v) (λi h=>k<=i/\St (i - k) h) where
 live:=λi h st=>D.live _ _ st.2
 frame:=λi h h' st q=>⟨st.1,D.frame _ _ _ st.2 q⟩
 item:=λi s Q E hi st q=>D.item (i - k) s Q E (by have:=st.1;omega) st.2 λx h' tk p AH sb=>q x h' tk p ⟨Nat.le_succ_of_le st.1,by rw[Nat.succ_sub st.1];exact AH⟩ sb
 done:=λs Q E st q=>D.done s Q E (by have:=st.2;rwa[Nat.add_sub_cancel] at this) q
theorem aL.src (I:aL X ah σ H s)(h:SqK X.K κ H a xs):∃aX:List Value,bH xs aX/\tE κ s.heap a aX.toArray/\xs.length<=sizeLine:=by
 cases κ with
 |true =>
  obtain⟨aX,r,p,z⟩:=I.fO h;exact⟨aX,r,p,z⟩
 |false =>
  obtain⟨aX,r,p,z⟩:=I.list h;exact⟨aX,r,p.isList,z⟩
theorem aL.R8 (I:aL X ah σ H s)(h:SqK X.K κ H a xs)(h':SqK X.K κ H a ys):xs=ys:=by
 cases κ with
 |true=>exact I.wN h h'
 |false=>exact I.AG h h'
noncomputable def Ite (K:PySem.W.Frag)(κ:Bool)(a:Addr)(st:Nat):It:=
 ⟨λi H=>∃xs x,SqK K κ H a xs/\xs[i]? = some x,λi H y H'=>∃T x,H T=none/\y = .ref T/\H'=bD H T (.gQ [.int ((st+i:Nat):Int),x])/\∀xs,SqK K κ H a xs->xs[i]? = some x,λi H=>∃xs,SqK K κ H a xs/\xs.length=i⟩
theorem aL.aah {fp:List Addr}(I:aL X ah σ H s)(hf:∀b∈fp,pZ X ah H b)(rx:bG x u)(ry:bG y v)
  (lt:∀b∈fp,b<s.heap.objs.size) (hT:h'.get? s.heap.objs.size=some { cls:=.type "tuple",data:=.seq #[u,v]}) (k:∀b o,b∉fp->s.heap.get? b=some o->h'.get? b=some o):
  aL X ah σ (bD H s.heap.objs.size (.gQ [x,y])) {s with heap:=h',toks:=t' }/\∀b∈fp,bD H s.heap.objs.size (.gQ [x,y]) b=none:=by
 have ne:∀b∈fp,b≠s.heap.objs.size:=λb hb=>zaq (lt b hb)
 have fr:∀b∈fp,bD H s.heap.objs.size (.gQ [x,y]) b=none:=λb hb=>by rw[au (ne b hb)];exact (hf b hb).1
 have I1:=I.jI (h':=s.heap.push { cls:=.type "tuple",data:=.seq #[u,v]}) (t':=t') (a:=s.heap.objs.size) (o:=.gQ [x,y]) (λb o e=>zac _ e) (zah _)
  (show cR X.prog X.w _ _ _ (.gQ [x,y]) from ⟨(by show 2<=sizeLine;decide),[u,v],.cons rx (.cons ry .nil),IsTup.new _ _⟩)
 refine⟨aL.Gw (s:={ s with heap:=s.heap.push { cls:=.type "tuple",data:=.seq #[u,v]},toks:=t' }) (t':=t') (fp:=fp) I1 (λb o hb e=>?_) λb hb=>⟨fr b hb,(hf b hb).2⟩,fr⟩
 have e:(s.heap.push { cls:=.type "tuple",data:=.seq #[u,v]}).get? b=some o:=e
 by_cases z:b=s.heap.objs.size
 ·subst z
  rw[zap _ rfl] at e;cases e;exact hT
 ·rw[Heap.get?_push_ne _ _ _ z] at e
  exact k b o hb e
theorem Jd {P:Program}{w:World}{K:PySem.W.Frag}{R9:List Expr}{x1}{pos:Pos}(κ:Bool)(a e it:Addr)(st:Nat)(De:e≠it):
  IE P w K (.Tuple R9 x1 pos) (Ite K κ a st) [e,it] e (λi h=>(∃RY,IsEnum h e it ((st+i:Nat):Int) RY)/\nH κ h it a i) where
 mem:=by simp
 j9:=λi h t b hb=>by
  obtain⟨⟨RY,he⟩,hi⟩:=t
  rcases zam.mp hb with rfl|hb
  ·exact⟨_,he,λv z=>by cases z⟩
  ·rw[zav.mp hb]
   exact hi.j9
 keep:=λi h h' t k=>by
  obtain⟨⟨RY,he⟩,hi⟩:=t
  exact⟨⟨RY,k e (by simp) _ he⟩,hi.rG λo q=>k it (by simp) o q⟩
 item:=by
  intro X hP hw hK hc i ah s σ H E I hf t hg;subst hP hw hK;obtain⟨⟨RY,he⟩,hi⟩:=t
  obtain⟨xs,x,hq,hx⟩:=hg;obtain⟨aX,rv,so,hz⟩:=I.src hq;obtain⟨u,hu,ru⟩:=rv.get hx;have hai:=hi.ne so;have hae:e≠a:=λz=>by
   subst z;cases κ with
   |true=>obtain⟨o',e',c',_⟩:=so;rw[he] at e';cases e';exact absurd (show Value.type "enumerate"=Value.type _ from c') (by decide)
   |false=>obtain⟨o',e',c',_⟩:=so;rw[he] at e';cases e';exact absurd (show Value.type "enumerate"=Value.type _ from c') (by decide)
  have ly:i<aX.toArray.size:=by
   have:=(zae.mp hu).1
   simpa using this
  have D:=A1 (xg (P:=X.prog) (w:=X.w) (A:=X.A.in1) (show X.A.in1.handled=none from I.ok.hd hc) κ it a hai aX.toArray) st
  have pV:st<=st+i/\(nH κ s.heap it a (st+i - st)/\tE κ s.heap a aX.toArray):=⟨zcn _ _,by rw[zdJ];exact hi,so⟩
  refine wpAny_pyNext_enum_itemD (i:=st+i) D he pV (by omega) De (by simp;exact⟨De,hae⟩) λv h' tk hv DY AH hT hsz kk=>⟨_,rfl,?_⟩
  have ev:v=u:=by
   have hv':aX.toArray[st+i - st]? = some v:=hv
   rw[zdJ] at hv';have hu':aX.toArray[i]? = some u:=by simpa using hu
   rw[hu'] at hv';exact (zaw hv').symm
  subst ev;refine wpAny_letOwnedTupleGo_enum (s:={s with heap:=h',toks:=tk+1}) DY λh2 he2 sb2=>?_
  have sb2:Heap.SameBut e h' h2:=sb2
  have rV:e<s.heap.objs.size:=zan he
  have ilt:it<s.heap.objs.size:=by obtain⟨o,q,_⟩:=hi.j9;exact zan q
  obtain⟨I2,fr⟩:=I.aah (h':=h2) (t':=tk+1) (fp:=[e,it]) (x:=.int ((st+i:Nat):Int)) (y:=x) (u:=.int ((st+i:Nat):Int) tk) (v:=v) hf ⟨_,rfl⟩ ru
   (λb hb=>by
    rcases zam.mp hb with rfl|hb
    ·exact rV
    ·rw[zav.mp hb];exact ilt)
   ((sb2.2 _ (zbQ rV)).trans hT) (λb o hb q=>(sb2.2 b λz=>hb (by simp[z])).trans (kk b o (λz=>hb (by simp[z])) (λz=>hb (by simp[z])) q))
  refine⟨.ref s.heap.objs.size,_,I2,rfl,⟨s.heap.objs.size,x,I.cA.fresh (zah _),rfl,rfl,λys hy=>by rw[I.R8 hy hq];exact hx⟩,⟨⟨v,?_⟩,?_⟩,fr⟩
  ·have e1:((st+(i+1):Nat):Int)=((st+i:Nat):Int)+1:=by omega
   rw[e1];exact he2
  ·have q:=AH.2.1
   have e2:st+i+1 - st=i+1:=by omega
   rw[e2] at q;exact q.rG λo z=>(sb2.2 it De.symm).trans z
 done:=by
  intro X hP hw hK hc i ah s σ H E I hf t hg;subst hP hw hK;obtain⟨⟨RY,he⟩,hi⟩:=t
  obtain⟨xs,hq,hx⟩:=hg;obtain⟨aX,rv,so,hz⟩:=I.src hq;have hai:=hi.ne so;have D:=xg (P:=X.prog) (w:=X.w) (A:=X.A.in1) (show X.A.in1.handled=none from I.ok.hd hc) κ it a hai aX.toArray
  have hn:aX.toArray.size=i:=by
   have:=rv.length
   simp
   omega
  exact wpAny_pyNext_enum_endD D he (by rw[hn];exact⟨hi,so⟩) λh' eb=>⟨rfl,I.Gw (fp:=[e,it]) (t':=s.toks) (λb o hb q=>eb b o (λz=>hb (by simp[z])) q) hf⟩
 self:=λ_ _ _ _ _ t h=>let ⟨⟨_,he⟩,_⟩:=t;wpAny_pyIter_enum he h
noncomputable def amt (tv:TE):TE:=λσ H Q=>tv σ H λv H1=>(∃x,v = .str x/\x.length<=sizeLine/\Q (.str x) H1)\/(∃i:Int,v = .int i/\i.natAbs.log2<1920/\Q (.str (toString i)) H1)
theorem aai (h:PE X value tv):PE X (.FormattedValue value (-1) none pos) (amt tv):=by
 intro ah s σ H Q I hq;refine FormattedValue_plain (cS (h ah s σ H _ I hq) λv s1 cC=>?_)
 obtain⟨y,H1,I1,r,q⟩:=cC;rcases q with⟨x,rfl,hz,q⟩|⟨i,rfl,hd,q⟩
 ·obtain⟨t,rfl⟩:=r
  exact formatField_str (λt' tk=>⟨.str x,H1,I1.nF tk,⟨_,rfl⟩,q⟩) hz
 ·obtain⟨t,rfl⟩:=r
  exact formatField_int_small hd ⟨.str (toString i),H1,I1.nF _,⟨_,rfl⟩,q⟩
noncomputable abbrev TJ:=Str->TE
noncomputable def PJ (X:Cx)(es:List Expr)(t:TJ):Prop:=
 ∀(cD:Str) (ah:List (Addr×Obj)) (s:Shared) (σ:St) (H:Hp) (Q:VK),aL X ah σ H s->t cD σ H Q->wpAny (model X.prog X.w) X.A (joinParts cD (evalEach es X.env)) (EP X ah σ Q) X.xe s
noncomputable def ag0:TJ:=λcD _ H Q=>cD.length<=sizeLine/\Q (.str cD) H
noncomputable def aaj (te:TE)(tr:TJ):TJ:=λcD σ H Q=>te σ H λv H1=>∃y,v = .str y/\(cD++y).length<=sizeLine/\tr (cD++y) σ H1 Q
theorem aak:PJ X [] ag0:=λcD ah s σ H Q I h=>joinParts_nil ⟨.str cD,H,I.nF _,⟨_,rfl⟩,h.2⟩ h.1
theorem R_ (he:PE X e te)(hr:PJ X es tr):PJ X (e::es) (aaj te tr):=by
 intro cD ah s σ H Q I h;show wpAny _ _ (joinParts cD (eval e X.env::evalEach es X.env)) _ _ _
 refine joinParts_cons (cS (he ah s σ H _ I h) λv s1 dI=>?_)
 obtain⟨z,H1,I1,r,y,ez,hz,q⟩:=dI;subst ez;obtain⟨t,rfl⟩:=r;exact⟨hz,hr _ ah s1 σ H1 Q I1 q⟩
theorem Sb (h:PJ X (e1::e2::es) t):PE X (.JoinedStr (e1::e2::es) pos) (t Str.empty):=λah s σ H Q I hq=>JoinedStr_many (h Str.empty ah s σ H Q I hq)
theorem tF:bootBuiltins "enumerate"=some (.type "enumerate"):=by decide +kernel
noncomputable def iEn (K:PySem.W.Frag)(st:Nat)(ta:TA):TI:=λσ H R=>ta σ H λvs H1=>∃a xs,vs=[.ref a]/\jn K H1 a xs/\R (Ite K false a st) H1
theorem Sd {x1}{st:Nat}(I:aL X ah σ H s)(he:IsEnum h' (s.heap.objs.size+1) s.heap.objs.size ((st:Nat):Int) .none)
  (hi:h'.IsListIter s.heap.objs.size a 0) (k:∀b o,s.heap.get? b=some o->h'.get? b=some o) (q:R (Ite X.K false a st) H):
  wpAny (model X.prog X.w) X.A (pyIter (.ref (s.heap.objs.size+1))) (PIE X ah σ (.Tuple R9 x1 tp) R) X.xe {s with heap:=h' }:=by
 refine wpAny_pyIter_enum he ?_
 refine⟨s.heap.objs.size+1,[s.heap.objs.size+1,s.heap.objs.size],_,Ite X.K false a st,H,rfl,I.ie (t':=s.toks) k,Jd false a _ _ st (Nat.succ_ne_self _),⟨⟨.none,he⟩,hi⟩,λb hb=>?_,q⟩
 rcases zam.mp hb with rfl|hb
 ·exact I.Dt (zaW _) (I.cA.fresh (zaW _))
 ·rw[zav.mp hb]
  exact I.Dt (zah _) (I.cA.fresh (zah _))
theorem Se {x1}(hg:Gl X "enumerate")(hm:X.mg "enumerate"=none)(ha:PA X [a] ta)(hs:autoParam (starEach [a] X.env=[(false,eval a X.env)]) zp_0):
  PI X (.Tuple R9 x1 tp) (.Call (.Name "enumerate" p) [a] [] pos) (iEn X.K 0 ta):=by
 intro ah s σ H R I h;refine Call_ (sM I hg hm tF (zcj (cS (ha pos ah s σ H _ I h) λus s1 eN=>?_) hs rfl))
 obtain⟨vs,H1,I1,r1,l,xs,ev,hl,q⟩:=eN;subst ev;obtain⟨u,rfl,ru⟩:=r1.K_;cases (show u=Value.ref l from ru)
 obtain⟨aX,r,pl,hz⟩:=I1.list hl;exact call_enumerate_list pl.isList λh' he hi _ k=>Sd I1 he hi k q
section
variable {prog:Program}{w:World}{A:Around}{E:Value->Shared->Prop}{s:Shared}{Z TI TO i1 i2:Addr}{fp1 fp2:List Addr}{n1 n2 k:Nat}{Y1 Y2:Nat->Value->Prop}{S1 S2:Nat->Heap->Prop}{p q:Value}
end
open AutoSeq1 (wpAny_loadPart')
theorem MA (a b:Str):(a++b).cps.toList=a.cps.toList++b.cps.toList:=by rw[Str.cps_append,Array.toList_append]
end L2
namespace L2
open PySem PySem.Spec PyProof.Rows
theorem Gy (S:di X F T fr sc)(hc:X.fS=true)(hi:PI X target dQ wi)
  (hg:∀C fp s H xe,PG (oO X (F++T) sc C fp s H xe) target g) (Mm:∀C fp s H xe,DQ (oO X (F++T) sc C fp s H xe) pW ti) (he:∀C fp s H xe,PE (oO X (F++T) sc C fp s H xe) rV te)
  (hN:X.N.Nodup) (hiy:X.N[i0]? = some y) (hly:X.env.scope.names.lookup y=some .local) (hex:X.ex=[])
  (MB:autoParam (swapsWith (.ListComp rV [⟨target,dQ,pW,0⟩] sc pos) (some (.Name y py)) MC.line X.env=pure true) zp_0) (hs:autoParam (∀x,foldedSetIterable dQ X.env x=pure x) zp_3):PS X (.Assign [.Name y py] (.ListComp rV [⟨target,dQ,pW,0⟩] sc pos) MC) (Rc (Gs wi fr T g ti te) (F9 i0)):=by
 intro ah s σ H DD I h;rw[exec_Assign_Name_used _ _ _ _ MB];refine zaa (zcH (zaa ?_))
 show wpAny _ X.A (do let _ <-comprehension (.ListComp rV [⟨target,dQ,pW,0⟩] sc pos) sc X.env _ (newList []) false (eval dQ X.env) (some (assign (.Name y py) X.env))) _ _ s
 refine zaa (zaK (AY (use:=some (assign (.Name y py) X.env)) (QQ:=λ_ s'=>SP X ah DD .next s') S hc hi hg Mm he hs I h λD C fp s3 s7 H3 H6 xe LC I3 f3 RZ I7 qn=>?_) (λ_ s' hq=>zad (zad hq)) λ_ _ e=>e)
 obtain⟨m7,hn7,_⟩:=I7.As;have hCn:H6 C=none:=I7.free
 have I8:aL X ah σ H6 s7:=I3.AD (s':=s7) (H':=H6) (ch:=fp) I7.os I7.base I7.cA I7.ig λb hb=>by
  obtain⟨_,q1,_,q2,q3,q4⟩:=f3 b hb;exact⟨q2,q1,q3,q4⟩
 have Cge:X.s₀.heap.objs.size<=C:=by rw[<-RZ];exact I3.sz
 have CL:C≠X.env.locals:=λz=>by
  have:=I3.lt
  rw[<-z,<-RZ] at this;exact zaO _ this
 have CC:∀z c,X.env.cells.lookup z=some c->c≠C:=λz c e q=>by
  obtain⟨v,hv⟩:=I3.cell z c e
  have:=hv.lt
  rw[q,<-RZ] at this;exact zaO _ this
 have CP:∀p∈X.pn++ah,p.1≠C:=λp hp q=>by
  have:=zan (I3.AA p hp).1
  rw[q,<-RZ] at this;exact zaO _ this
 show wpAny _ X.A (assign (.Name y py) X.env (.ref D)) _ _ s7
 refine wpAny_assign_Name (wK I8 hN hiy (.inl hly) (v:=.ref D) rfl (λs8 I9 sb=>?_) (.inr hly))
 obtain⟨a8,sb8,ha8⟩:=sb;have a8C:C≠a8:=by
  rcases ha8 with z|z
  ·rw[z];exact CL
  ·exact zbe (CC _ _ z)
 refine⟨m7,hn7.sameBut sb8 a8C,λh9 hs9=>⟨_,H6,?_,qn⟩⟩
 exact I9.j8 (it:=C) (t':=s8.toks) (λb o nb e=>(hs9.2 b nb).trans e) hCn CL (.inr Cge) CC CP
noncomputable def aal:V->List V->Hp->VK->Prop:=λx vs H Q=>∃(l:Addr) (xs:List V) (y z:V) (j:Nat),x = .ref l/\vs=[y]/\H l=some (.bA xs)/\iK y=true/\xs.all iK=true/\xs[j]? = some z/\y_ z y=true/\(∀m z',m<j->xs[m]? = some z'->y_ z' y=false)/\Q (.int (j:Int)) H
theorem MD:MtM X "list.index" aal:=by
 intro ah s σ H x vs v us Q I rx rv h;obtain⟨l,xs,y,z,j,rfl,rfl,hH,fy,fs,hj,he,hno,q⟩:=h;cases rx;obtain⟨u,rfl,ru⟩:=rv.K_;obtain⟨hz,aX,n,r,hl,e⟩:=I.AU hH;have hs:sizeLine=16777216:=by decide
 have jl:j<aX.length:=by rw[<-hl];exact (zae.mp hj).1
 have rG:∀(m:Nat) (hm:m<aX.length),∃z',xs[m]? = some z'/\AS y aX[m]=y_ z' y:=λm hm=>by
  have hm':m<xs.length:=by omega
  obtain⟨w',hw,AL⟩:=r.get (zag hm')
  have ew:aX[m]=w':=by
   rw[zag hm] at hw;exact zaw hw
  refine⟨_,zag hm',?_⟩
  rw[ew];exact DN AL (zaM.mp fs _ (zco _))
 refine zcP F.slot_list_index ⟨_,e,rfl⟩ F.entry_list_index (F.args_list_index_2 _ _)
  (SeqAt.list_indexAt l aX.toArray n none #[] u (AS y) j (by simpa using jl) (by omega) ?_ ?_) ⟨e,?_,⟨.int (j:Int),H,I.nF _,⟨_,rfl⟩,q⟩⟩
 ·obtain⟨z',e1,e2⟩:=rG j jl
  rw[hj] at e1;cases e1;have:aX.toArray[j]'(by simpa using jl)=aX[j]:=by simp
  rw[this,e2];exact he
 ·intro m hm hmj
  have hm':m<aX.length:=by simpa using hm
  obtain⟨z',e1,e2⟩:=rG m hm';have:aX.toArray[m]'hm=aX[m]:=by simp
  rw[this,e2];exact hno m z' hmj e1
 ·intro w' hw
  exact jO ru fy r fs w' (by simpa using hw)
noncomputable def gU (C:Addr)(od:Option Addr)(t:Addr)(tb:Value):Obj:={cls:=.ref C,dict:=od,data:=.fields #[.ref t,tb,.none,.none,.bool false,.none]}
noncomputable def tG (h:Heap)(T:Addr):Prop:=∃oT ts,h.get? T=some oT/\oT.data = .fields ts/\ts[3]? = some Value.none
section
variable {M:Model}{A:Around}{E:Value->Shared->Prop}{s:Shared}
structure ME (S:List Addr) (a C t:Addr) (od:Option Addr) (h h':Heap) (T:Addr):Prop where
 j9:h'.get? a=some (gU C od t (.ref T))
 tb:tG h' T
 new:h.objs.size<=T
 keep:∀b o,h.get? b=some o->b≠a->b∉S->h'.get? b=some o
 slot:∀b o,h.get? b=some o->b≠a->∃sl,h'.get? b=some {o with slots:=sl}
theorem xh 
  (Je:A.frames=some (env::outer)) (hl:s.heap.FunFrames base (env::outer)) (hf:env.frame=some L) (ha:s.heap.get? a=some (gU C od t tb))
  (k:∀h' T,ME ((env::outer).filterMap (·.frame)) a C t od s.heap h' T->Q () {s with heap:=h' }):
  wpAny M A (do let fr <-frameOf env;let pl <-entryPlaceOf L akQ;let b <-EntryCells.newEntry head fr .none (rawInt L) .none pl;setField (.ref a) 1 b) (λ_ s'=>wpAny M A (setFlight (.ref a) none) Q E s') E s:=by
 have na:a∉(env::outer).filterMap (·.frame):=λhm=>by
  obtain⟨_,o,ho,hnf⟩:=hl.mem hm;rw[ha] at ho;cases ho;exact hnf _ rfl
 refine zaa (wpAny_frameOf_fun Je hl hf λg1 DZ=>zaa (wpAny_entryPlaceOf λpl hpl=>?_))
 unfold EntryCells.newEntry newFields;refine zaa (zaS ?_ (hpl.sizeOk5 _ _ _ _ _))
 have MF:g1.get? a=some (gU C od t tb):=(DZ.2.1 a na).trans ha
 generalize hts:([head,Value.ref L,Value.none,rawInt L,Value.none]++(if pl.isEmpty then List.replicate 6 Value.none else pl)).toArray=ts
 have h3:3<ts.size:=by rw[<-hts];simp only[zao,zaj,zar,zaP];omega
 have VM:(g1.push { cls:=.type "traceback",dict:=none,data:=.fields ts}).get? a=some (gU C od t tb):=zac _ MF
 have Ta:g1.objs.size≠a:=zbQ (zan MF)
 refine zbI VM rfl (by show 1<6;decide) ?_
 have ha3:((g1.push { cls:=.type "traceback",dict:=none,data:=.fields ts}).update a (Obj.mapFields (·.setIfInBounds 1 (Value.ref g1.objs.size)))).get? a=some (gU C od t (.ref g1.objs.size)):=by
  rw[zaR _ VM rfl];rfl
 have hT3:((g1.push { cls:=.type "traceback",dict:=none,data:=.fields ts}).update a (Obj.mapFields (·.setIfInBounds 1 (Value.ref g1.objs.size)))).get? g1.objs.size=some { cls:=.type "traceback",dict:=none,data:=.fields ts}:=
  (zaG _ _ (zbe Ta)).trans (zap g1 rfl)
 unfold setFlight;refine zaa (zbt ha3 rfl (x:=.ref g1.objs.size) rfl ?_)
 rw[if_pos (show (Value.ref g1.objs.size != Value.none)=true from by simp)]
 refine zbI hT3 rfl h3 (k _ g1.objs.size ?_)
 have keep:∀b o,b≠a->g1.get? b=some o->(((g1.push { cls:=.type "traceback",dict:=none,data:=.fields ts}).update a (Obj.mapFields (·.setIfInBounds 1 (Value.ref g1.objs.size)))).update g1.objs.size
   (Obj.mapFields (·.setIfInBounds 3 ((none:Option Addr).elim Value.none λf=>rawInt f)))).get? b=some o:=λb o nb hb=>by
  have hbT:g1.objs.size≠b:=zbQ (zan hb)
  rw[zaG _ _ hbT,zaG _ _ (zbe nb)];exact zac _ hb
 refine⟨?_,⟨_,_,zaR _ hT3 rfl,rfl,by simp[h3]⟩,by rw[DZ.1];exact zah _,λb o hb nb nS=>keep b o nb ((DZ.2.1 b nS).trans hb),λb o hb nb=>?_⟩
 ·rw[zaG _ _ Ta]
  exact ha3
 ·obtain⟨sl,hs⟩:=DZ.2.2 b o hb
  exact⟨sl,keep b _ nb hs⟩
theorem A2 
  (Je:A.frames=some (env::outer)) (hl:s.heap.FunFrames base (env::outer)) (hf:env.frame=some L) (ha:s.heap.get? a=some (gU C od t .none))
  (k:∀h' T,ME ((env::outer).filterMap (·.frame)) a C t od s.heap h' T->Q () {s with heap:=h' }):wpAny M A (leaving env (.ref a)) Q E s:=by
 unfold leaving noteFrame;simp only[hf];refine zaa (zaa (zbt ha rfl (x:=.none) rfl ?_))
 rw[if_neg (by decide)]
 exact xh Je hl hf ha k
theorem xj 
  (Je:A.frames=some (env::outer)) (hl:s.heap.FunFrames base (env::outer)) (hf:env.frame=some L) (ha:s.heap.get? a=some (gU C od t (.ref T))) (hT:tG s.heap T) (nT:T≠a)
  (k:∀h1 h' T',(∀b o,b≠T->s.heap.get? b=some o->h1.get? b=some o)->tG h1 T->h1.objs.size=s.heap.objs.size->ME ((env::outer).filterMap (·.frame)) a C t od h1 h' T'->Q () {s with heap:=h' }):wpAny M A (noteFrame (.ref a) env) (λ_ s'=>wpAny M A (setFlight (.ref a) none) Q E s') E s:=by
 obtain⟨oT,ts,eT,dT,h3⟩:=hT;unfold noteFrame;simp only[hf];refine zaa (zbt ha rfl (x:=.ref T) rfl ?_)
 rw[if_pos (show (Value.ref T != Value.none)=true from by simp)]
 refine zaa (zbt eT dT h3 ?_)
 rw[if_neg (show ¬ ((Value.none == rawInt L)=true) from by simp[rawInt])]
 have sz:=(zdo.mp h3).1
 refine zaa (zbI eT dT sz ?_)
 have FZ:∀b o,b≠T->s.heap.get? b=some o->(s.heap.update T (Obj.mapFields (·.setIfInBounds 3 Value.none))).get? b=some o:=λb o nb e=>(zaG _ _ (zbe nb)).trans e
 have fT:(s.heap.update T (Obj.mapFields (·.setIfInBounds 3 Value.none))).get? T=some (Obj.mapFields (·.setIfInBounds 3 Value.none) oT):=zaR _ eT (zcg (zbk dT _))
 have hl':(s.heap.update T (Obj.mapFields (·.setIfInBounds 3 Value.none))).FunFrames base (env::outer):=hl.of_keeps λb o hb hnf=>⟨o,FZ b o (λq=>by rw[q,eT] at hb;cases hb;exact hnf ts dT) hb,rfl⟩
 refine xh (s:={s with heap:=s.heap.update T (Obj.mapFields (·.setIfInBounds 3 Value.none))}) Je hl' hf (FZ a _ (zbe nT) ha) λh' T' lf=>k _ h' T' FZ ⟨_,_,fT,zbk dT _,by simp[sz]⟩ ?_ lf
 exact (zbU ..).1
end
theorem Jf (hh:A.handled=none)
  (h:wpAny M A x (λv s1=>∃(a t:Addr) (od:Option Addr) (nm q:Str) (C N:Addr) (bs bm:List Value) (rJ:Bool) (sn:List Str) (sub:List Value) (ab:Bool) (qU:Option Bool) (dd:Option Addr) (k0 k1 k2 k3 k5:Option Value) (oQ:String),v = .ref a /\
   bm.contains (.type "BaseException")=true/\s1.heap.get? C=some (excClassObj nm q C N bs bm rJ sn sub ab qU dd k0 k1 k2 k3 k5 oQ)/\s1.heap.get? a=some (ku C od t)/\E (.ref a) s1) E s):wpAny M A (raiseStmt env (some x) none) Q E s:=by
 unfold raiseStmt;refine zaa (zaK h (λv s1 h1=>?_) λ_ _ z=>z)
 obtain⟨a,t,od,nm,q,C,N,bs,bm,rJ,sn,sub,ab,qU,dd,k0,k1,k2,k3,k5,oQ,rfl,hb,hC,ha,hE⟩:=h1;have hcb:(Value.ref C::bm).contains (.type "BaseException")=true:=by rw[zaV,hb,zcz]
 unfold ku at ha;obtain⟨hp,g,d,tk,os⟩:=s1;repeat (first|with_reducible refine zbC ha ?_|with_reducible refine zbC hC ?_ | (with_reducible refine zcr hC ?_;rw[hcb])|wp_step)
 exact wpAny_raiseNew_none hh hE
noncomputable def nQ (a C:Addr)(od:Option Addr)(T:Addr):HO:=.ext λh=>∃t:Addr,h.get? a=some (gU C od t (.ref T))
noncomputable def TB (T:Addr):HO:=.ext λh=>tG h T
theorem MG (e:h.get? a=some (gU C od t (.ref T))):cR P w H h a (nQ a C od T):=
 ⟨⟨t,e⟩,⟨_,e⟩,λh1 h2 cC k=>by obtain⟨t',e'⟩:=cC;exact⟨t',k _ e'⟩⟩
theorem Gz (e:tG h T):cR P w H h T (TB T):=by
 obtain⟨oT,ts,e1,e2,e3⟩:=id e;exact⟨e,⟨_,e1⟩,λh1 h2 dI k=>by obtain⟨o,ts',x1,x2,x3⟩:=dI;exact⟨o,ts',k _ x1,x2,x3⟩⟩
noncomputable def qe (P:Program)(w:World):AI:=λouter H s E e s'=>∃(a T C:Addr) (od:Option Addr) (H':Hp),e = .ref a/\s'.os=s.os/\AllBare s'.gens/\Un (rS outer) [] H H' s.heap s'.heap/\mT P w H' s'.heap /\
 H' a=some (nQ a C od T)/\H' T=some (TB T)/\T≠a/\E (.ref C) (some a) H'
noncomputable def aan (K:PySem.W.Frag)(E:XK)(te:TE):TS:=λ_ σ H=>te σ H λv H1=>∃(a C f:Addr) (bm:List Value) (od:Option Addr),v = .ref a/\H1 a=some (EO a C od)/\iW K C f bm /\
 ∀T,H1 T=none->T≠a->E (.ref C) (some a) (bD (bD H1 a (nQ a C od T)) T (TB T))
section
variable {P:Program}{w:World}{K:PySem.W.Frag}{mg:Str->Option Value}{base:Heap}{N:List Str}{bV:Str}{scope:Scope}{f:Addr}{eU:Value}{A:Around}{outer:List Env}{s₀:Shared}{H₀:Hp}{E:XK}
theorem Sf (I:aL (iB (qe P w) P w K mg base N bV scope f eU A outer s₀ H₀ E) ah σ H s)(ha:∃ φ,H a=some (.ext φ))(Ta:T≠a)
  (Lf:ME (rS ((iB (qe P w) P w K mg base N bV scope f eU A outer s₀ H₀ E).env::outer)) a C t od s.heap h' T):
  Un (rS outer) [] H₀ (bD (bD H a (nQ a C od T)) T (TB T)) s₀.heap h'/\mT P w (bD (bD H a (nQ a C od T)) T (TB T)) h':=by
 obtain⟨φ,ha⟩:=ha;have hT:H T=none:=I.cA.fresh Lf.new
 have lt:∀b o,s₀.heap.get? b=some o->b<s₀.heap.objs.size:=λb o e=>zan e
 have sz:s₀.heap.objs.size<=s.heap.objs.size:=I.sz
 have bT:∀b o,s₀.heap.get? b=some o->b≠T:=λb o e=>zaq (zak (lt b o e) (zai sz Lf.new))
 have nf:∀b o,s₀.heap.get? b=some o->b∉rS outer->b∉rS ((iB (qe P w) P w K mg base N bV scope f eU A outer s₀ H₀ E).env::outer):=λb o e nb z=>by
  have z':b∈((iB (qe P w) P w K mg base N bV scope f eU A outer s₀ H₀ E).env::outer).filterMap (·.frame):=z
  rw[zcp] at z';have:b=s₀.heap.objs.size\/b∈rS outer:=by
   have z2:b∈s₀.heap.objs.size::outer.filterMap (·.frame):=z'
   exact zam.mp z2
  rcases this with q|q
  ·exact absurd (lt b o e) (by rw[q];exact zaO _)
  ·exact nb q
 have U:=I.base;refine⟨⟨λb o e n1 n2 n3=>?_,λb o e n1 n2 n3=>?_,λb o e n1 n2=>?_,λb o e n2=>?_,λb xs e=>?_,λb o u e=>?_,λb ps e=>?_⟩,λb u e=>?_⟩
 ·have e1:=U.keep b o e n1 n2 n3
  have nb:b≠a:=λz=>by
   have:=U.free b o e n1 n3
   rw[z,ha] at this;cases this
  exact Lf.keep b o e1 nb (nf b o e n2)
 ·obtain⟨sl,e1⟩:=U.slot b o e n1 n2 n3
  have nb:b≠a:=λz=>by
   have:=U.free b o e n1 n3
   rw[z,ha] at this;cases this
  obtain⟨L5,e2⟩:=Lf.slot b _ e1 nb;exact⟨L5,e2⟩
 ·have e1:=U.free b o e n1 n2
  have nb:b≠a:=λz=>by rw[z,ha] at e1;cases e1
  rw[au (bT b o e),au nb];exact e1
 ·obtain⟨o',e1⟩:=U.there b o e n2
  by_cases z:b=a
  ·rw[z];exact⟨_,Lf.j9⟩
  ·obtain⟨sl,e2⟩:=Lf.slot b o' e1 z
   exact⟨_,e2⟩
 ·have e1:=U.sE b xs e
  have nb:b≠a:=λz=>by rw[z,ha] at e1;cases e1
  have nT:b≠T:=λz=>by rw[z,hT] at e1;cases e1
  rw[au nT,au nb];exact e1
 ·have e1:=U.rE b o u e
  have nb:b≠a:=λz=>by rw[z,ha] at e1;cases e1
  have nT:b≠T:=λz=>by rw[z,hT] at e1;cases e1
  rw[au nT,au nb];exact e1
 ·obtain⟨jC,e1⟩:=U.sF b ps e
  have nb:b≠a:=λz=>by rw[z,ha] at e1;cases e1
  have nT:b≠T:=λz=>by rw[z,hT] at e1;cases e1
  exact⟨jC,by rw[au nT,au nb];exact e1⟩
 ·by_cases zT:b=T
  ·subst zT
   rw[av] at e;cases e;exact Gz Lf.tb
  ·rw[au zT] at e
   by_cases za:b=a
   ·subst za
    rw[av] at e;cases e;exact MG Lf.j9
   ·rw[au za] at e
    have free:∀c,c∈rS ((iB (qe P w) P w K mg base N bV scope f eU A outer s₀ H₀ E).env::outer)->H c=none:=λc hc=>I.yV.Lp c hc
    refine (I.cA b u e).pY (λc v hc q=>?_) (λc hc=>?_) (λc xs hc=>?_)
    ·have hcn:∃uu,H c=some uu/\c≠a:=by
      rcases hc with z|z
      ·exact⟨u,by rw[z];exact e,by rw[z];exact za⟩
      ·exact⟨_,z,λq=>by rw[q,ha] at z;cases z⟩
     obtain⟨uu,h1,h2⟩:=hcn;refine Lf.keep c v q h2 λz=>?_
     rw[free c z] at h1;cases h1
    ·have nb:c≠a:=λz=>by rw[z,ha] at hc;cases hc
     have nT:c≠T:=λz=>by rw[z,hT] at hc;cases hc
     rw[au nT,au nb];exact hc
    ·have nb:c≠a:=λz=>by rw[z,ha] at hc;cases hc
     have nT:c≠T:=λz=>by rw[z,hT] at hc;cases hc
     rw[au nT,au nb];exact hc
theorem MH (he:PE (iB (qe P w) P w K mg base N bV scope f eU A outer s₀ H₀ E) ex te):
  PS (iB (qe P w) P w K mg base N bV scope f eU A outer s₀ H₀ E) (.Raise (some ex) none pos) (aan K E te):=by
 intro ah s σ H D I h;rw[arm_exec_Raise];refine zaa (zcH (Jf (I.ok.hd rfl) ?_))
 refine zaa (zaK (he ah s σ H _ I h) (λv s1 ⟨y,H1,I1,r,a,C,g,bm,od,ey,ha,Mk,q⟩=>zaa (zcH (zad ?_))) λ_ _ z=>z)
 subst ey;cases (show v=Value.ref a from r)
 obtain⟨nm,qn,N',bs,sn,sub,ab,qU,dd,k0,k1,k2,k3,k5,lk⟩:=Mk.j9;obtain⟨B,eb⟩:=Mk.nb;obtain⟨t,ea⟩:=Mt I1 ha;have hb:bm.contains (.type "BaseException")=true:=by
  rw[eb,zaV];have:lM.contains (.type "BaseException")=true:=by decide +kernel
  rw[this,zcz]
 refine⟨a,t,od,nm,qn,C,N',bs,bm,true,sn,sub,ab,qU,dd,k0,k1,k2,k3,k5,"ValueError.__new__",rfl,hb,I1.nE _ _ lk,ea,?_⟩
 refine A2 (base:=base) (env:=(iB (qe P w) P w K mg base N bV scope f eU A outer s₀ H₀ E).env) (outer:=outer) I1.ok.frames I1.yV.j7 rfl (show s1.heap.get? a=some (gU C od t .none) from ea) λh' T Lf=>?_
 have Ta:T≠a:=zbQ (zak (zan ea) Lf.new)
 obtain⟨un,cA⟩:=Sf I1 ⟨_,ha⟩ Ta Lf
 exact⟨a,T,C,od,_,rfl,I1.os,I1.ig,un,cA,by rw[au Ta.symm];exact av,av,Ta,q T (I1.cA.fresh Lf.new) Ta⟩
theorem Mh.okX {st:Stmt}(F:Mh K x bV st f fd)(S:aq N ps (aj st))(len:∀vs H Q E,sp vs H Q E->vs.length=ps.length)
  (sV:∀(eU:Value) (A:Around) (outer:List Env) (s:Shared) (H:Hp) (vs:List V) (Q:VK) (E:XK),gR k (A.deeper (envOfC bV (aj st) s.heap.objs.size f eU))->sp vs H Q E ->
   ∃t,wM (iB (qe P w) P w K mg base N bV (aj st) f eU A outer s H E) (cW st) t/\t {nx:=λ_ H'=>Q .bB H',rt:=Q} (dz N vs) H):aO P w K mg base (qe P w) (k+1) f fd ps sp:=by
 obtain⟨oc,od,kV,nO,pm,an,eU,ct,Dd,rfl,lk,AE⟩:=F.ex;exact LU lk AE S len λA outer s H vs Q E hr Ld=>sV eU A outer s H vs Q E hr Ld
end
theorem aL.A3 (I:aL X ah σ H s)(ha:H a=some (nQ a C od T))(hT:H T=some (TB T))(Ta:T≠a)(Sg:T'≠a)(k1:∀b o,b≠T->s.heap.get? b=some o->h1.get? b=some o)(tb1:tG h1 T)(z1:h1.objs.size=s.heap.objs.size)
  (Lf:ME (rS X.dm) a C t od h1 h' T'):aL X ah σ (bD (bD H a (nQ a C od T')) T' (TB T')) {s with heap:=h' }:=by
 have nT':H T'=none:=I.cA.fresh (by rw[<-z1];exact Lf.new)
 have free:∀c,c∈rS X.dm->H c=none:=λc hc=>I.yV.Lp c hc
 have TS:T∉rS X.dm:=λz=>by rw[free T z] at hT;cases hT
 have aS:a∉rS X.dm:=λz=>by rw[free a z] at ha;cases ha
 have bT':∀b o,s.heap.get? b=some o->b≠T':=λb o e=>zaq (zak (zan e) (by rw[<-z1];exact Lf.new))
 have ne:∀{b},H b=none->b≠a/\b≠T:=λ{b} n=>⟨λz=>(by rw[z,ha] at n;cases n),λz=>(by rw[z,hT] at n;cases n)⟩
 have tb':tG h' T:=by
  obtain⟨oT,ts,e1,e2,e3⟩:=tb1;exact⟨oT,ts,Lf.keep T oT e1 Ta TS,e2,e3⟩
 have ex:∀{b u},H b=some u->(∀ φ,u ≠ .ext φ)->bD (bD H a (nQ a C od T')) T' (TB T') b=some u:=λ{b u} e n=>by
  have nb:b≠a:=λz=>by rw[z,ha] at e;exact n _ (zaw e).symm
  have nt:b≠T':=λz=>by rw[z,nT'] at e;cases e
  rw[au nt,au nb];exact e
 refine I.AD (s':={s with heap:=h' }) (ch:=[]) rfl ⟨λb o e n1 n2 n3=>?_,λb o e n1 n2 n3=>?_,λb o e n1 n2=>?_,λb o e n2=>?_,λb xs e=>ex e (λφ z=>by cases z),λb o u e=>ex e (λφ z=>by cases z),λb ps e=>⟨#[],by rw[ex e (λφ z=>by cases z)];simp⟩⟩ (λb u e=>?_) I.ig (λb z=>absurd z (by simp))
 ·exact Lf.keep b o (k1 b o (ne n1).2 e) (ne n1).1 n2
 ·exact Lf.slot b o (k1 b o (ne n1).2 e) (ne n1).1
 ·rw[au (bT' b o e),au (ne n1).1]
  exact n1
 ·by_cases za:b=a
  ·rw[za];exact⟨_,Lf.j9⟩
  ·by_cases zT:b=T
   ·rw[zT]
    obtain⟨oT,ts,e1,_⟩:=tb';exact⟨oT,e1⟩
   ·obtain⟨sl,e2⟩:=Lf.slot b o (k1 b o zT e) za
    exact⟨_,e2⟩
 ·by_cases zT':b=T'
  ·subst zT'
   rw[av] at e;cases e;exact Gz Lf.tb
  ·rw[au zT'] at e
   by_cases za:b=a
   ·subst za
    rw[av] at e;cases e;exact MG Lf.j9
   ·rw[au za] at e
    by_cases zT:b=T
    ·subst zT
     rw[hT] at e;cases e;exact Gz tb'
    ·refine (I.cA b u e).pY (λc v hc q=>?_) (λc hc=>ex hc (λφ z=>by cases z)) (λc xs hc=>ex hc (λφ z=>by cases z))
     have hcn:∃uu,H c=some uu/\c≠a/\c≠T:=by
      rcases hc with z|z
      ·exact⟨u,by rw[z];exact e,by rw[z];exact za,by rw[z];exact zT⟩
      ·exact⟨_,z,λq=>(by rw[q,ha] at z;cases z),λq=>(by rw[q,hT] at z;cases z)⟩
     obtain⟨uu,g1,g2,g3⟩:=hcn;exact Lf.keep c v (k1 c v g3 q) g2 λz=>by rw[free c z] at g1;cases g1
theorem rW (I:aL X ah σ H s)(hN:X.N.Nodup)(hi:X.N[l]? = some n)(hx:X.env.scope.names.lookup n=some .local)
  (h:∀s',aL X ah (σ.set l none) H s'->Q () s'):wpAny M A (do bindName X.env n .none;unbindBehindTheSuite X.env n pos) Q E s:=by
 have Ls:(X.env.scope.kind == .class || (X.env.scope.kind == .module && X.env.locals != X.env.globals))=false:=by rw[I.ok.kind];rfl
 refine zaa (wpAny_bindName (oA I hN hi (.inl hx) (v:=.bB) rfl (λs1 I1=>?_) (.inr hx)))
 unfold unbindBehindTheSuite;refine wpAny_onRaise ?_
 unfold unbindName;refine zaa (wpAny_point (zaa ?_))
 unfold deleteName;have Gh:X.env.kindOf n=some .local:=hx
 simp only[Gh,Ls];rw[if_neg (by decide)]
 obtain⟨m,hn,hl⟩:=id I1.As;have ag5:l<σ.length:=by rw[I.len];exact (zae.mp hi).1
 have isS:(m n).isSome=true:=by
  obtain⟨u,r,q⟩:=hl l n .bB hi (by rw[zaC ag5]) (.inl hx)
  rcases q with⟨_,q⟩|⟨kk,_⟩
  ·rw[q];rfl
  ·rcases kk with kk|kk<;>(rw[Gh] at kk;cases kk)
 refine zaa (wpAny_nsDel_keeps hn λh2 v La hs=>?_)
 rw[isS];simp only[Bool.not_true,zcc,if_false];refine zad (wpAny_point (h _ ?_))
 obtain⟨oL,_,_,hoL,_⟩:=id hn;have Lq:=I1.Lq;have oz:mT X.prog X.w H h2:=λb ob e=>by
  refine (I1.cA b ob e).pY (λc w' hc q=>(hs.2 c ?_).trans q) (λ_ q=>q) λ_ _ q=>q
  intro z;rcases hc with hc|hc
  ·rw[<-hc,z,I1.free] at e;cases e
  ·rw[z,I1.free] at hc;cases hc
 refine⟨I1.ok,I1.os,I1.ig,⟨λb o e n hb hx=>?_,λb o e n hb hx=>?_,I1.base.free,λb o e hx=>?_,I1.base.sE,I1.base.rE,I1.base.sF⟩,⟨_,La,λj y v' e1 e2 e3=>?_⟩,λy c e=>?_,I1.free,I1.jJ,λp hp=>?_,oz,by simpa using I.len⟩
 ·exact (hs.2 b (zaq (zak (zan e) I.ok.above))).trans (I1.base.keep b o e n hb hx)
 ·obtain⟨sl,e1⟩:=I1.base.slot b o e n hb hx
  exact⟨sl,(hs.2 b (zaq (zak (zan e) I.ok.above))).trans e1⟩
 ·obtain⟨o',e1⟩:=I1.base.there b o e hx
  exact⟨o',(hs.2 b (zaq (zak (zan e) I.ok.above))).trans e1⟩
 ·by_cases hj:j=l
  ·subst hj
   rw[zaC ag5] at e2;cases e2
  ·rw[zaz (zbe hj)] at e2
   obtain⟨u',r',q⟩:=hl j y v' e1 (by rw[zaz (zbe hj)];exact e2) e3
   refine⟨u',r',?_⟩
   rcases q with⟨k,e⟩|⟨k,c,e,z⟩
   ·refine .inl ⟨k,?_⟩
    have:y≠n:=λe=>hj (sI hN e1 (e ▸ hi))
    simp[this,e]
   ·exact .inr ⟨k,c,e,z.sameBut hs (Lq y c e)⟩
 ·obtain⟨w',z⟩:=I1.cell y c e
  exact⟨w',z.sameBut hs (Lq y c e)⟩
 ·obtain⟨e,n,ne,nf,d⟩:=I1.AA p hp
  exact⟨(hs.2 p.1 ne).trans e,n,ne,nf,d⟩
noncomputable def Cx.kC (X:Cx)(a:Addr):Cx:={X with A:=X.A.mark (some (.ref a)),fS:=false}
theorem aL.kC (I:aL X ah σ H s)(a:Addr):aL (X.kC a) ah σ H s:=
 ⟨⟨I.ok.sH,I.ok.kind,I.ok.sG,I.ok.Vw,I.ok.above,I.ok.inj,I.ok.has,I.ok.Zd,λh=>absurd (show false=true from h) zal,I.ok.frames,I.ok.stk,I.ok.exf,I.ok.bs,I.ok.QU,I.ok.jj,I.ok.Dp,I.ok.j7,I.ok.Lp⟩,I.os,I.ig,I.base,I.As,I.cell,I.free,I.jJ,I.AA,I.cA,I.len⟩
theorem aL.oR {a:Addr}(I:aL (X.kC a) ah σ H s)(hd:X.fS=true->X.A.handled=none):aL X ah σ H s:=
 ⟨⟨I.ok.sH,I.ok.kind,I.ok.sG,I.ok.Vw,I.ok.above,I.ok.inj,I.ok.has,I.ok.Zd,hd,I.ok.frames,I.ok.stk,I.ok.exf,I.ok.bs,I.ok.QU,I.ok.jj,I.ok.Dp,I.ok.j7,I.ok.Lp⟩,I.os,I.ig,I.base,I.As,I.cell,I.free,I.jJ,I.AA,I.cA,I.len⟩
section
variable {X:Cx}{k:Nat}{g B:Addr}{fd:FuncData}{ps:List Str}{sp:Sp}{e:Expr}{es:List Expr}{t:TA}{x y n fn cB:Str}{i j l:Nat}{xp p cp ap np yp np2 bp hp pos:Pos}
 {VN q':Str} {N':Addr} {VO:List Value} {qV:Bool} {VP:List Str} {A4:List Value} {VQ:Bool} {A5:Option Bool} {AM:Option Addr} {j0 j1 j2 j3 j5:Option Value} {l9:String}
end
theorem D0 {h:Heap}{a C t d:Addr}{tb:Value}{o:Obj}(e:h.get? a=some (gU C (some d) t tb))(hd:h.get? d=some o):PySem.W.InstAt h a (gU C (some d) t tb) C (some o):=⟨e,rfl,rfl,hd⟩
theorem D3 {od:Option Addr}(I:aL X ah σ H s)(h:H a=some (nQ a C od T)):∃t,s.heap.get? a=some (gU C od t (.ref T)):=(I.cA a _ h).1
theorem MI {b:Bool}{Q:Value->Shared->Prop}(I:aL X ah σ H s)(M:iW X.K C f bm)(ha:H a=some (nQ a C (some d) T))(hd:H d=some (ED d fs))(hn:PySem.W.findIn X.K (.ref C) g=some none)(l:fs.lookup g=some v)
  (h:∀u s',aL X ah σ H s'->bG v u->Q u s'):wpAny (model X.prog X.w) A (getAttr (.ref a) g b) Q E s:=by
 obtain⟨t,e⟩:=D3 I ha;obtain⟨mA,ns,r,_⟩:=Gv I hd;obtain⟨oD,Lb,hl⟩:=jL ns;obtain⟨u,hu,ru⟩:=iP.rT (v:=v) (o:=mA g) (by rw[<-l];exact r g)
 obtain⟨cd,hc,_,rJ⟩:=M.cls;have hf:PySem.W.findObj X.K C (some oD) g=some (.value u):=by
  unfold PySem.W.findObj;rw[hc,zaX,hn,zaX];simp[PySem.W.ownOf,rJ,hl,hu]
 exact DU I.nE (D0 e Lb) M hf (wO ru) (h u _ (I.nF _) ru)
noncomputable def aap (K:PySem.W.Frag)(ta:TE)(g:Str):TE:=λσ H Q=>ta σ H λx H1=>∃a C f bm d T fs v,x = .ref a/\H1 a=some (nQ a C (some d) T)/\H1 d=some (ED d fs)/\iW K C f bm/\PySem.W.findIn K (.ref C) g=some none/\fs.lookup g=some v/\Q v H1
theorem MJ (he:PE X e ta)(hb:autoParam (attributeBase e g X.env (eval e X.env)=eval e X.env) zp_0):PE X (.Attribute e g pos) (aap X.K ta g):=by
 intro ah s σ H Q I h;refine Ge hb (cS (he ah s σ H _ I h) λu s1 cC=>?_)
 obtain⟨x,H1,I1,rx,a,C,f,bm,d,T,fs,v,ex,ea,ed,M,n,l,q⟩:=cC;subst ex;obtain rfl:u=Value.ref a:=rx
 exact MI I1 M ea ed n l λu' s2 I2 ru=>⟨v,H1,I2,ru,q⟩
noncomputable def VR (K:PySem.W.Frag):List V->Hp->VK->Prop:=λxs H Q=>∃(a C f T:Addr) (bm:List Value) (d:Addr) (fs:List (Str×V)) (c:V) (u:Value) (b:Bool),xs=[.ref a,c]/\H a=some (nQ a C (some d) T)/\H d=some (ED d fs)/\iW K C f bm /\
 bG c u/\(∀u',bG c u'->u'=u)/\PySem.W.specialIn K (.builtin "object.__class__") "__get__"=some (some (.builtin "getset_descriptor.__get__"))/\PySem.W.takesIn K (.builtin "object.__class__")=some true/\PySem.W.kitOne K (.ref C) u=some b/\Q (.bl b) H
theorem xm:jo X (.builtin "isinstance") (VR X.K):=by
 intro ah s σ H xs us Q I r h;obtain⟨a,C,f,T,bm,d,fs,c,u,b,rfl,ha,hd,M,rc,uc,h1,h2,e,q⟩:=h;obtain⟨v1,v2,rfl,r1,r2⟩:=r.two;cases (show v1=Value.ref a from r1)
 rw[uc v2 r2];obtain⟨t,ea⟩:=D3 I ha;obtain⟨mA,ns,_,_⟩:=Gv I hd;obtain⟨oD,Lb,_⟩:=jL ns;exact PySem.W.kia_one (A0 (ox:=gU C (some d) t (.ref T)) (od:=some oD) M h1 h2) I.nE (D0 ea Lb) e (λz=>nomatch z) λtk=>⟨.bl b,H,I.nF tk,rfl,q⟩
end L2
namespace L2
open PySem PySem.Spec PyProof.Rows
theorem at0 {α:Type}{a:α}{xs:List α}:iE (a::xs) 0=some a:=f_ (j:=0) rfl
theorem at1 {α:Type}{a b:α}{xs:List α}:iE (a::b::xs) 1=some b:=f_ (j:=1) rfl
theorem at2 {α:Type}{a b c:α}{xs:List α}:iE (a::b::c::xs) 2=some c:=f_ (j:=2) rfl
theorem at3 {α:Type}{a b c d:α}{xs:List α}:iE (a::b::c::d::xs) 3=some d:=f_ (j:=3) rfl
theorem at4 {α:Type}{a b c d e:α}{xs:List α}:iE (a::b::c::d::e::xs) 4=some e:=f_ (j:=4) rfl
theorem at5 {α:Type}{a b c d e f:α}{xs:List α}:iE (a::b::c::d::e::f::xs) 5=some f:=f_ (j:=5) rfl
theorem at6 {α:Type}{a b c d e f g:α}{xs:List α}:iE (a::b::c::d::e::f::g::xs) 6=some g:=f_ (j:=6) rfl
theorem at7 {α:Type}{a b c d e f g h:α}{xs:List α}:iE (a::b::c::d::e::f::g::h::xs) 7=some h:=f_ (j:=7) rfl
theorem kD (ha:H a=none)(hb:H b=some x):bD H a o b=some x:=by rw[au (e_ hb ha)];exact hb
noncomputable def ag6:V->V->V->Hp->(Hp->Prop)->Prop:=λo i v H Q=>∃p k,o = .ref p/\i = .int k/\match H p with
 |some (.bA xs)=>(match Av xs.length k with|some j=>Q (bD H p (.bA (xs.set j v)))|none=>False)
 |_=>False
theorem ag7:Zr X ag6:=by
 intro ah s σ H o i v ov iv u Q I ro ri rv h;obtain⟨p,k,rfl,rfl,h⟩:=h;cases e:H p with
 |none=>rw[e] at h;exact h.elim
 |some ob =>
  rw[e] at h;cases ob with
  |bA xs =>
   dsimp only at h
   cases e2:Av xs.length k with
   |none=>rw[e2] at h;exact h.elim
   |some j=>rw[e2] at h;exact L_ ah s σ H _ _ v ov iv u Q I ro ri rv ⟨p,xs,k,j,rfl,rfl,e,e2,h⟩
  |_=>exact h.elim
noncomputable abbrev Ev:=St->Hp->Option V
section
variable {X:Cx}{a b c:Expr}{ea eb ec:Ev}{pos Sh:Pos}
variable {dw:List Expr}
end
theorem MK (hc:X.fS=true):jo X (.builtin "sum") (λxs H Q=>∃(l:Addr) (ns:List Int),xs=[.ref l]/\jn X.K H l (ns.map V.int)/\Q (.int ns.sum) H):=by
 intro ah s σ H xs us Q I r h;obtain⟨l,ns,rfl,hl,q⟩:=h;obtain⟨u,rfl,ru⟩:=sP r;cases ru;obtain⟨aX,r2,pl,_⟩:=I.list hl;have hi:=DL r2;obtain⟨ys,e⟩:=hi.allInts.items;have e2:numsOf aX=ns:=hi.numsOf
 have VS:=pl.isList;rw[e] at VS;refine sum_intListG (I.ok.hd hc) VS λh' tk t' kp=>⟨.int ns.sum,H,I.ie kp,⟨t',?_⟩,q⟩
 have e3:numsOf (intItems ys).toList=ns:=by rw[<-e];exact e2
 rw[nums_intItems] at e3;rw[preSum_eq,zbK (by simp),e3]
inductive DV where
 |fl (v:V)
 |tp (l:List DV)
 |ls (l:List DV)
mutual
noncomputable def iw (K:PySem.W.Frag)(H:Hp):DV->V->Prop
 |.fl w,v=>v=w/\iK w=true
 |.tp l,v=>∃a xs,v = .ref a/\nM K H a xs/\jR K H l xs
 |.ls l,v=>∃a xs,v = .ref a/\jn K H a xs/\jR K H l xs
noncomputable def jR (K:PySem.W.Frag)(H:Hp):List DV->List V->Prop
 |[],xs=>xs=[]
 |d::l,xs=>∃x r,xs=x::r/\iw K H d x/\jR K H l r
end
mutual
noncomputable def DV.xo:DV->Nat
 |.fl _=>0
 |.tp l=>DV.A6 l+1
 |.ls l=>DV.A6 l+1
noncomputable def DV.A6:List DV->Nat
 |[]=>0
 |d::l=>max (DV.xo d) (DV.A6 l)
end
theorem ML (h:iK w=true):y_ w w=true:=by
 cases w with
 |bB=>rfl
 |bl b=>simp[y_]
 |int i=>simp[y_]
 |str z=>simp[y_]
 |_=>exact absurd (show false=true from h) zal
theorem dY (n:Nat):(List.range n).all (λ_=>true)=true:=by simp
mutual
theorem Jg (I:aL X ah σ H s):∀(d:DV) (A:Around) (x y:V) (v u:Value),iw X.K H d x->iw X.K H d y->bG x v->bG y u->A.units+d.xo<cLine->SeqAt.EqAt A s v u true
 |.fl w,A,x,y,v,u,hx,hy,rx,ry,_=>by
  unfold iw at hx hy;obtain⟨rfl,fw⟩:=hx;obtain⟨rfl,_⟩:=hy;have h:=Ma (A:=A) (s:=s) rx ry fw fw
  rw[ML fw] at h;exact h
 |.tp l,A,x,y,v,u,hx,hy,rx,ry,hd=>by
  unfold iw at hx hy;obtain⟨a,xs,rfl,sx,dx⟩:=hx;obtain⟨b,ys,rfl,sy,dy⟩:=hy;cases rx;cases ry;obtain⟨aX,r1,p1,_⟩:=I.fO sx;obtain⟨iC,r2,p2,_⟩:=I.fO sy;unfold DV.xo at hd;obtain⟨hl,he⟩:=gj I l A.in1 xs ys aX iC dx dy r1 r2 (by show A.units+1+_<_;omega)
  by_cases hab:a=b
  ·subst hab;exact zdL _
  ·refine zez hab ?_
   have h:=SeqAt.RcAt.tuples (A:=A) (e:=λ_=>true) p1 p2 (by omega) λj h1 h2=>he j _ _ (by simpa using zag (by simpa using h1)) (by simpa using zag (by simpa using h2))
   rw[dY,show (aX.toArray.size == iC.toArray.size)=true by simpa using hl] at h
   exact h
 |.ls l,A,x,y,v,u,hx,hy,rx,ry,hd=>by
  unfold iw at hx hy;obtain⟨a,xs,rfl,sx,dx⟩:=hx;obtain⟨b,ys,rfl,sy,dy⟩:=hy;cases rx;cases ry;obtain⟨aX,r1,p1,_⟩:=I.list sx;obtain⟨iC,r2,p2,_⟩:=I.list sy;unfold DV.xo at hd;obtain⟨hl,he⟩:=gj I l A.in1 xs ys aX iC dx dy r1 r2 (by show A.units+1+_<_;omega)
  by_cases hab:a=b
  ·subst hab;exact zdL _
  ·refine zez hab ?_
   have h:=SeqAt.RcAt.lists (A:=A) (e:=λ_=>true) p1.isList p2.isList (by simpa using hl) (by omega) λj h1 h2=>he j _ _ (by simpa using zag (by simpa using h1)) (by simpa using zag (by simpa using h2))
   rw[dY] at h;exact h
theorem gj (I:aL X ah σ H s):∀(l:List DV) (A:Around) (xs ys:List V) (us ws:List Value),jR X.K H l xs->jR X.K H l ys->bH xs us->bH ys ws->A.units+DV.A6 l<cLine ->
  us.length=ws.length/\∀(j:Nat) (u w:Value),us[j]? = some u->ws[j]? = some w->SeqAt.EqAt A s u w true
 |[],A,xs,ys,us,ws,hx,hy,rx,ry,_=>by
  unfold jR at hx hy;subst hx hy;cases rx;cases ry;exact⟨rfl,λj u w h=>by simp at h⟩
 |d::l,A,xs,ys,us,ws,hx,hy,rx,ry,hd=>by
  unfold jR at hx hy;obtain⟨x,r,rfl,dx,dr⟩:=hx;obtain⟨y,r',rfl,dy,dr'⟩:=hy;cases rx with
  |cons r1 t1 =>
   cases ry with
   |cons r2 t2 =>
    unfold DV.A6 at hd;obtain⟨hl,he⟩:=gj I l A r r' _ _ dr dr' t1 t2 (by omega)
    refine⟨by simp[hl],λj u w h1 h2=>?_⟩
    cases j with
    |zero =>
     simp only[zaT,zbD] at h1 h2;subst h1 h2;exact Jg I d A x y _ _ dx dy r1 r2 (by omega)
    |succ j =>
     simp only[zaH] at h1 h2;exact he j u w h1 h2
end
noncomputable def ag9 (K:PySem.W.Frag)(neg:Bool):R2:=λx y H Q=>∃d:DV,DV.xo d<=50/\(∀w,d ≠ .fl w)/\iw K H d x/\iw K H d y/\Q (.bl (!neg)) H
theorem aaq (hu:X.A.units+100<cLine):kg X (compareOp .Eq) (ag9 X.K false):=by
 intro ah s σ H x y v u Q I rx ry h;obtain⟨d,hd,hn,dx,dy,q⟩:=h;have eW:EP X ah σ Q (.bool true) s:=⟨.bl true,H,I,rfl,q⟩
 cases d with
 |fl w=>exact absurd rfl (hn w)
 |tp l =>
  unfold iw at dx dy;obtain⟨a,xs,rfl,sx,dx⟩:=dx;obtain⟨b,ys,rfl,sy,dy⟩:=dy;cases rx;cases ry;obtain⟨aX,r1,p1,_⟩:=I.fO sx;obtain⟨iC,r2,p2,_⟩:=I.fO sy;unfold DV.xo at hd;obtain⟨hl,he⟩:=gj I l X.A.in1 xs ys aX iC dx dy r1 r2 (by show X.A.units+1+_<_;omega)
  refine SeqAt.eq_tupleAt (e:=λ_=>true) p1 p2 (by omega) (λj h1 h2=>he j _ _ (by simpa using zag (by simpa using h1)) (by simpa using zag (by simpa using h2))) ?_
  rw[dY,show (aX.toArray.size == iC.toArray.size)=true by simpa using hl]
  exact eW
 |ls l =>
  unfold iw at dx dy;obtain⟨a,xs,rfl,sx,dx⟩:=dx;obtain⟨b,ys,rfl,sy,dy⟩:=dy;cases rx;cases ry;obtain⟨aX,r1,p1,_⟩:=I.list sx;obtain⟨iC,r2,p2,_⟩:=I.list sy;unfold DV.xo at hd;obtain⟨hl,he⟩:=gj I l X.A.in1 xs ys aX iC dx dy r1 r2 (by show X.A.units+1+_<_;omega)
  refine SeqAt.eq_listAt (e:=λ_=>true) p1.isList p2.isList (by simpa using hl) (by omega) (λj h1 h2=>he j _ _ (by simpa using zag (by simpa using h1)) (by simpa using zag (by simpa using h2))) ?_
  rw[dY];exact eW
theorem aar (hu:X.A.units+100<cLine):kg X (compareOp .NotEq) (ag9 X.K true):=by
 intro ah s σ H x y v u Q I rx ry h;obtain⟨d,hd,hn,dx,dy,q⟩:=h;have eW:EP X ah σ Q (.bool false) s:=⟨.bl false,H,I,rfl,q⟩
 cases d with
 |fl w=>exact absurd rfl (hn w)
 |tp l =>
  unfold iw at dx dy;obtain⟨a,xs,rfl,sx,dx⟩:=dx;obtain⟨b,ys,rfl,sy,dy⟩:=dy;cases rx;cases ry;obtain⟨aX,r1,p1,_⟩:=I.fO sx;obtain⟨iC,r2,p2,_⟩:=I.fO sy;unfold DV.xo at hd;obtain⟨hl,he⟩:=gj I l X.A.in1 xs ys aX iC dx dy r1 r2 (by show X.A.units+1+_<_;omega)
  have h:=SeqAt.RcNeAt.tuples (e:=λ_=>true) p1 p2 (show X.A.units<cLine by omega) λj h1 h2=>he j _ _ (by simpa using zag (by simpa using h1)) (by simpa using zag (by simpa using h2))
  rw[dY,show (aX.toArray.size == iC.toArray.size)=true by simpa using hl] at h
  exact h X.prog X.w _ _ eW
 |ls l =>
  unfold iw at dx dy;obtain⟨a,xs,rfl,sx,dx⟩:=dx;obtain⟨b,ys,rfl,sy,dy⟩:=dy;cases rx;cases ry;obtain⟨aX,r1,p1,_⟩:=I.list sx;obtain⟨iC,r2,p2,_⟩:=I.list sy;unfold DV.xo at hd;obtain⟨hl,he⟩:=gj I l X.A.in1 xs ys aX iC dx dy r1 r2 (by show X.A.units+1+_<_;omega)
  have h:=SeqAt.RcNeAt.lists (e:=λ_=>true) p1.isList p2.isList (by simpa using hl) (show X.A.units<cLine by omega) λj h1 h2=>he j _ _ (by simpa using zag (by simpa using h1)) (by simpa using zag (by simpa using h2))
  rw[dY] at h;exact h X.prog X.w _ _ eW
end L2
namespace L2
open PySem PySem.Spec PyProof.Rows
end L2
namespace L2
open PySem PySem.Spec PyProof.Rows
end L2
namespace My
open PySem L2
end My
namespace My
open PySem L2
end My
namespace L2
open PySem
theorem MM (hc:X.fS=true):jo X (.builtin "any") (λxs H Q=>∃(l:Addr) (bs:List Bool),xs=[.ref l]/\H l=some (.bA (bs.map V.bl))/\Q (.bl (bs.any id)) H):=by
 intro ah s σ H xs us Q I r h;obtain⟨l,bs,rfl,hl,q⟩:=h;obtain⟨u,rfl,ru⟩:=sP r;cases ru;obtain⟨aX,n,rv,e,_⟩:=I.bA hl;have aha:s.heap.IsList l aX.toArray:=⟨_,e,rfl,n,rfl⟩
 refine call_any_walk (zds aha ?_)
 have De:l≠s.heap.objs.size:=zaq (zan e)
 have dH:aX.length=bs.length:=by rw[<-rv.length];simp
 refine⟨s.heap.objs.size,_,_,_,_,_,λi=>bs[i]?.getD true,rfl,Walks.list (by exact I.ok.hd hc) s.heap.objs.size l De aX.toArray,⟨⟨_,zap _ rfl,rfl,rfl⟩,⟨_,zac _ e,rfl,n,rfl⟩⟩,?_,?_⟩
 ·intro i v s' Q' E' hv hq
  have hv:aX[i]? = some v:=by simpa using hv
  have hi:i<bs.length:=by rw[<-dH];exact (zae.mp hv).1
  obtain⟨u,hu,ru⟩:=rv.get (i:=i) (x:=V.bl bs[i]) (by simp[hi])
  rw[hv] at hu;have e1:v=u:=zaw hu
  subst e1;cases (show v=Value.bool bs[i] from ru)
  refine zba ?_
  have e2:bs[i]?.getD true=bs[i]:=by simp[hi]
  have hq:Q' (bs[i]?.getD true) s':=hq
  rw[e2] at hq;exact hq
 ·intro h' tk hk
  refine⟨.bl (bs.any id),H,I.ie λb o e'=>hk b o (by simp;exact zaq (zan e')) (zac _ e'),?_,q⟩
  show Value.bool _=Value.bool _
  congr 1
  rw[zao,dH];rw[zbc,zcI,zcI];constructor
  ·rintro⟨i,hi,hb⟩
   have hi:=zdV.mp hi;rw[zag hi] at hb;exact⟨_,zco hi,hb⟩
  ·rintro⟨b,hb,hbt⟩
   obtain⟨i,hi,e⟩:=List.mem_iff_getElem.mp hb;refine⟨i,zdV.mpr hi,?_⟩
   rw[zag hi,zcJ,e];exact hbt
section
variable {α:Type}{H H':Hp}{o:α -> HO}{as:List Addr}{xs:List α}
end
end L2
namespace L2
open PySem PySem.Spec PyProof.Rows
theorem A7 (hd:(d == sysModules)=false)(ho:s.heap.get? d=some o)(hc:o.ExactDict)(A8:o.data = .dict es ep)
  (hQ:Q (.ref s.heap.objs.size) { s with heap:=s.heap.push { cls:=.type "dict_keyiterator",data:=.fields #[.ref d,.int 0 0,.int es.size 0,.int ep 0]} }):wpAny (model prog w) A (pyIter (.ref d)) Q E s:=by
 have hT:s.TypeIs (.ref d) "dict" := ⟨o,ho,hc.1⟩
 refine wpAny_pyIter_slot hT F.slot_dict_iter (zbS F.slot_dict_iter hT F.entry_dict_iter ?_ (F.args_dict_iter_1 _))
 unfold Builtin.«dict.__iter__» Builtin.Dict.dictSlotNone
 refine zaa (zaa (wpAny_notOrdered_dict hT (zad (?_:wpAny _ _ (Builtin.Dict.showsAll d >>= _) _ _ s))))
 unfold Builtin.Dict.showsAll;rw[if_neg (by rw[hd];exact zal)]
 refine zaa (zad (zaa (zdv ho A8 (zaa (zdM ho A8 (zaa (zaS (zad ⟨_,rfl,"dict_keyiterator",_,⟨_,zap _ rfl,rfl⟩,zbp.lookup,?_⟩)))))))) 
 simpa[rawInt] using hQ
theorem MN (Df:s.heap.IsKeyIter it d i es.size ep)(v8:s.heap.get? d=some o)(A8:o.data = .dict es ep)(ly:i<es.size)
  (hQ:∀h',h'.IsKeyIter it d (i+1) es.size ep->Heap.SameBut it s.heap h'->Q (some es[i].key) {s with heap:=h' }):wpAny (model prog w) A (pyNext (.ref it)) Q E s:=by
 obtain⟨oi,hoi,hci,hdi⟩:=id Df;unfold pyNext;refine zaa (zdn (zbG (name:=Str.ofString "__next__") Df.typeIs zbp
  (zbS zbp Df.typeIs zcW (zaa (zad (zaa (zaa ?_)))) (zcS _))))
 first|refine zaa (zbF Df.typeIs (zad ?_))|refine zaa (dR Df.typeIs (zad ?_))
 refine zaa (wpAny_fieldsOf hoi hdi ?_)
 simp only[(by decide:Builtin.Dict_items.ownsTuple "dict_keyiterator"=false),zcc,if_false]
 show wpAny _ _ (if (Value.ref d == Value.none)=true then _ else _) _ _ s
 rw[if_neg (show ¬ ((Value.ref d == Value.none)=true) from zal)];refine zaa (zad (zaa (zdv v8 A8 ?_)))
 rw[if_neg (by simp)]
 refine zaa (zad (zaa (zdM v8 A8 ?_)))
 rw[if_neg (by simp)]
 refine zad ?_
 simp only[show ¬ ((i:Int)<0) from by omega,if_false,zbq,zdy ly]
 refine zaa ?_
 first|refine zaa (zbF Df.typeIs (zad ?_))|refine zaa (dR Df.typeIs (zad ?_))
 refine zaa (wpAny_isOneOf_keyiter Df.typeIs (?_:wpAny _ _ (setField (.ref it) 1 (rawInt ((i:Int)+1)) >>= _) _ _ s))
 refine zaa (zbI hoi hdi (by simp) ?_)
 have ahb:(s.heap.update it (Obj.mapFields (·.setIfInBounds 1 (rawInt ((i:Int)+1))))).IsKeyIter it d (i+1) es.size ep:=
  ⟨_,zaR _ hoi (zcg (zbk hdi _)),(Obj.cls_mapFields ..).trans hci,by rw[zbk hdi];simp[rawInt]⟩
 refine zaa (zbo (zaa (wpAny_isOneOf_keyiter (s:={s with heap:=s.heap.update it (Obj.mapFields (·.setIfInBounds 1 (rawInt ((i:Int)+1))))}) ahb.typeIs (?_:wpAny _ _ (pure es[i].key) _ _ _))))
 exact zad (zad ⟨_,rfl,zad (hQ _ ahb (zbU ..))⟩)
theorem MO (hh:A.handled=none)(Df:s.heap.IsKeyIter it d i es.size ep)(v8:s.heap.get? d=some o)(A8:o.data = .dict es ep)(hge:es.size<=i)
  (hQ:∀h',Heap.ExtBut it s.heap h'->Q none {s with heap:=h' }):wpAny (model prog w) A (pyNext (.ref it)) Q E s:=by
 obtain⟨oi,hoi,hci,hdi⟩:=id Df;unfold pyNext;refine zaa (zdn (zbG (name:=Str.ofString "__next__") Df.typeIs zbp
  (zbS zbp Df.typeIs zcW (zaa (zad (zaa (zaa ?_)))) (zcS _))))
 first|refine zaa (zbF Df.typeIs (zad ?_))|refine zaa (dR Df.typeIs (zad ?_))
 refine zaa (wpAny_fieldsOf hoi hdi ?_)
 simp only[(by decide:Builtin.Dict_items.ownsTuple "dict_keyiterator"=false),zcc,if_false]
 show wpAny _ _ (if (Value.ref d == Value.none)=true then _ else _) _ _ s
 rw[if_neg (show ¬ ((Value.ref d == Value.none)=true) from zal)];refine zaa (zad (zaa (zdv v8 A8 ?_)))
 rw[if_neg (by simp)]
 refine zaa (zad (zaa (zdM v8 A8 ?_)))
 rw[if_neg (by simp)]
 refine zad ?_
 simp only[show ¬ ((i:Int)<0) from by omega,if_false,zbq,Array.getElem?_eq_none hge]
 refine zaa ?_
 first|refine zaa (zbF Df.typeIs (zad ?_))|refine zaa (dR Df.typeIs (zad ?_))
 show wpAny _ _ (setField (.ref it) 0 .none >>= _) _ _ s
 refine zaa (zbI hoi hdi (by simp) (?_:wpAny _ _ (newExc (.type "StopIteration") [] >>= _) _ _ _))
 refine zaa ?_
 simp only[newExc,newTuple];refine zaa (zaS ?_ (by size_fits))
 refine zaa (m:=firstArgMember _ _) (wpAny_of_eq (a:=Value.none) (by first|rfl | (simp only[firstArgMember];rfl)) ?_)
 refine zaS ?_ (by size_fits)
 simp only[raiseNew];refine zaa (wpAny_handled ?_)
 rw[show A.in1.handled=none from hh];refine zaa (zad (wpAny_throw ?_))
 refine zaa (wpAny_isInstance (T:= "StopIteration") (b:=true) ⟨_,zap _ rfl,rfl⟩ isSubtype_stop ?_)
 exact zad (hQ _ (((zbU ..).extBut.push _).push _))
noncomputable def Itd (a:Addr)(o:Obj)(u:HO)(ks:List V):It:=⟨λi H=>H a=some (.rR o u)/\i<ks.length,λi H x H'=>H'=H/\ks[i]? = some x,λi H=>H a=some (.rR o u)/\ks.length<=i⟩
theorem xq {K:W.Frag}(a it:Addr)(hc:o.ExactDict)(hd:o.data = .dict es ep)(hn:es.size=ks.length)(hk:∀i (h:i<es.size) x,ks[i]? = some x->bG x es[i].key):
  IE P w K tg (Itd a o u ks) [it] it (λi h=>h.IsKeyIter it a i es.size ep) where
 mem:=by simp
 j9:=λi h st b hb=>by
  have e:b=it:=by simpa using hb
  subst e;obtain⟨o,e,c,d⟩:=st;exact⟨o,e,λv z=>by rw[d] at z;cases z⟩
 keep:=λi h h' st k=>st.at λo e=>k it (by simp) o e
 item:=by
  intro X hP hw hK hcm i ah s σ H E I hf st hg;subst hP hw hK;obtain⟨ha,hi⟩:=hg;obtain⟨ho,_⟩:=(show cR X.prog X.w H s.heap a (.rR o u) from I.cA a _ ha)
  obtain⟨f0,f1,f2,f3,f4,f5⟩:=hf it (by simp)
  have hi2:i<es.size:=by omega
  refine MN st ho hd hi2 λh' AH sb=>?_
  have I1:aL X ah σ H {s with heap:=h' }:=I.j8 (t':=s.toks) (λb o hb e=>(sb.2 b hb).trans e) f0 f1 f3 f4 f5
  obtain⟨oi,e,c,d⟩:=id AH;exact⟨_,rfl,F_ (s:={s with heap:=h' }) e c d (by decide) ⟨ks[i],H,I1,hk i hi2 _ (zag hi),⟨rfl,zag hi⟩,AH,λb hb=>(hf b hb).1⟩⟩
 done:=by
  intro X hP hw hK hcm i ah s σ H E I hf st hg;subst hP hw hK;obtain⟨ha,hi⟩:=hg;obtain⟨ho,_⟩:=(show cR X.prog X.w H s.heap a (.rR o u) from I.cA a _ ha)
  obtain⟨f0,f1,f2,f3,f4,f5⟩:=hf it (by simp)
  exact MO (I.ok.hd hcm) st ho hd (by omega) λh' eb=>⟨rfl,I.j8 (t':=s.toks) (λb o hb e=>eb b o hb e) f0 f1 f3 f4 f5⟩
 self:=λ_ _ _ _ _ st h=>wpAny_pyIter_keyiter st h
theorem Si (h:lV k v=true):bG (kV k) v:=by
 rcases dh h with⟨i,t,rfl,rfl⟩|⟨x,t,rfl,rfl⟩
 ·exact⟨t,rfl⟩
 ·exact⟨t,rfl⟩
theorem Paired.ahc {α β γ:Type}{F:α -> β -> Prop}{G:α -> γ -> Prop}{f:β -> γ}(h:∀a b,F a b->G a (f b)):∀{l:List α} {m:List β},Paired F l m->Paired G l (m.map f)
 |_,_,.nil=>.nil
 |_,_,.cons r t=>.cons (h _ _ r) (Paired.ahc h t)
noncomputable def MP (H:Hp)(u:HO)(ks:List V):Prop:=match u with
 |.dK aQ=>ks=aQ.map λp=>kV p.1
 |.dT aQ=>Paired (λ(p:List dW×V) (x:V)=>∃b,x = .ref b/\H b=some (.gQ (p.1.map kV))) aQ ks
 |_=>False
noncomputable def GA:HO->Prop|.dK _=>True|.dT _=>True|_=>False
theorem GB {P:Program}{w:World}{H:Hp}(hu:GA u)(x:cR P w H h a u):(a == sysModules)=false/\∃o ks es ep,h.get? a=some o/\MP H u ks/\o.ExactDict/\o.data = .dict es ep/\es.size=ks.length/\∀i (h:i<es.size) x,ks[i]? = some x->bG x es[i].key:=by
 cases u with
 |dK aQ =>
  obtain⟨_,hs,vs,kv,o,es,ep,ho,hc,hd,hk,hp,hn⟩:=x;have hl:=hp.length;have kl:=kv.length;have kk:=kv.pX;refine⟨hs,o,_,es,ep,ho,rfl,hc,hd,by rw[zaf,kl,<-hl];simp,λi hi y hy=>?_⟩
  rw[zau] at hy;have hiv:i<vs.length:=by rw[<-hl];simpa using hi
  have e1:(aQ.map (·.1))[i]? = (vs.map (·.1))[i]?:= by rw[kk]
  rw[zau,zau,zag hiv] at e1;rw[zag (by omega)] at hy e1
  simp only[zcv,zbD] at hy e1
  have:=(hp.get? (i:=i) (e:=es[i]) (k:=vs[i].1) (v:=vs[i].2) (by simp[hi]) (by rw[zag hiv])).1
  rw[<-hy,e1];exact Si this
 |dT aQ =>
  obtain⟨_,hs,xs,pr,o,es,ep,ho,hc,hd,he,hn⟩:=x;have hl:es.size=xs.length:=by have:=congrArg List.length he;simpa using this
  refine⟨hs,o,xs.map λq=>.ref q.2.1,es,ep,ho,?_,hc,hd,by rw[zaf,hl],λi hi y hy=>?_⟩
  ·show Paired _ aQ (xs.map λq=>V.ref q.2.1)
   exact Paired.ahc (λp q h=>⟨_,rfl,h.2.1⟩) pr
  ·rw[zau,zag (by omega)] at hy
   simp only[zcv,zbD] at hy;have e1:es[i]=entryOfKey (tupleKind (bW P w)) (xs[i]'(by omega)):=by
    have:=entry_at he i
    rw[zdy hi,zag (by omega)] at this
    simpa using this
   rw[<-hy,e1];rfl
 |_=>exact hu.elim
noncomputable def amy (tl:TE):TI:=λσ H R=>tl σ H λx H1=>∃a u,x = .ref a/\GA u/\((H1 a=some u/\∀o ks,MP H1 u ks->R (Itd a o u ks) (bD H1 a (.rR o u)))\/∃o,H1 a=some (.rR o u)/\∀ks,MP H1 u ks->R (Itd a o u ks) H1)
theorem Sj {l:Expr}{tl:TE}(hl:PE X l tl):PI X tg l (amy tl):=by
 intro ah s σ H R I h;refine cS (hl ah s σ H _ I h) λv s1 cC=>?_
 obtain⟨x,H1,I1,r1,q1⟩:=cC;obtain⟨a,u,e,hu,q⟩:=q1;subst e;cases r1;rcases q with⟨ha,q⟩|⟨o,ha,q⟩
 ·obtain⟨hs,o,ks,es,ep,ho,hk,hc,hd,hn,hr⟩:=GB hu (I1.cA a u ha)
  refine A7 hs ho hc hd ?_
  have mu:Mut (H1 a):=by rw[ha];cases u<;>first|exact hu.elim|trivial
  have I2:aL X ah σ (bD H1 a (.rR o u)) { s1 with heap:=s1.heap.push { cls:=.type "dict_keyiterator",data:=.fields #[.ref a,.int 0 0,.int es.size 0,.int ep 0]} }:=I1.jm (t':=s1.toks) (x:=a) (e:=a) mu (.inl rfl) (λb v _ e=>zac _ e) ⟨o,zac _ ho⟩
   ⟨zac _ ho,(I1.cA a u ha).pY (λb v _ e=>zac _ e) (λb hb=>by rw[au (λz=>by subst z;rw[ha] at hb;cases hb;exact hu.elim)];exact hb) λb xs hb=>by rw[au (λz=>by subst z;rw[ha] at hb;cases hb;exact hu.elim)];exact hb⟩
  refine⟨s1.heap.objs.size,[s1.heap.objs.size],_,_,_,rfl,I2,xq a _ hc hd hn hr,⟨_,zap _ rfl,rfl,rfl⟩,λb hb=>?_,q o ks hk⟩
  have e:b=s1.heap.objs.size:=by simpa using hb
  subst e;exact I1.Dt (zah _) (by rw[au (λz=>absurd (I1.cA.lt ha) (by rw[<-z];exact zaO _))];exact I1.cA.fresh (zah _))
 ·have hob:=(show cR X.prog X.w H1 s1.heap a (.rR o u) from I1.cA a _ ha)
  obtain⟨hs,o',ks,es,ep,ho,hk,hc,hd,hn,hr⟩:=GB hu hob.2;have eo:o'=o:=by have:=hob.1;rw[ho] at this;exact zaw this
  subst eo;refine A7 hs ho hc hd ?_
  refine⟨s1.heap.objs.size,[s1.heap.objs.size],_,_,H1,rfl,I1.ie (t':=s1.toks) λb o e=>zac _ e,xq a _ hc hd hn hr,⟨_,zap _ rfl,rfl,rfl⟩,λb hb=>?_,q ks hk⟩
  have e:b=s1.heap.objs.size:=by simpa using hb
  subst e;exact I1.Dt (zah _) (I1.cA.fresh (zah _))
section
variable {X:Cx}{o:Expr}{lo:Option Expr}{to:TE}{tl:TO}{p2 pos:Pos}
end
theorem Jh:typeLookup (.type "list") "keys"=pure none:=am_miss_of_fast (by decide +kernel)
theorem Ji (hx:s.heap.get? a=some { cls:=.type "list",data:=.seq xs k})(hA:A.handled=none)
  (h:∀h' tk,(∀b o,s.heap.get? b=some o->h'.get? b=some o)->Q none {s with heap:=h',toks:=tk}):wpAny (model prog w) A (getAttr? (.ref a) "keys") Q E s:=by
 obtain⟨hp,g,d,tk,os⟩:=s;have hT:∀tk',(⟨hp,g,d,tk',os⟩:Shared).TypeIs (.ref a) "list" := λ_=>⟨_,hx,rfl⟩
 have f1:=sub_AttributeError;have f3:=zcA.lookup;have f4:=zcA.bind (.ref a)
 have f5:=am_list_getattr_none;unfold getAttr? getAttrBy? getAttrBy
 repeat (any_goals (first|assumption|exact hT _ | ((with_reducible show wpAny _ _ (call (Value.builtin "list.__getattribute__") _ _) _ _ _);refine zcP zcA (hT _) am_entry_list_getattribute (F.args_list_getattribute_2 _ _) (meets_getattribute_miss_list a xs k #[] _ _ Jh (by decide +kernel)) ⟨hx,hA,λh' tk' e VH=>?_⟩)|wp_step))
 ·obtain⟨t',u',he⟩:=VH.there
  show wpAny _ _ (getattributeRaised _ _ _ _ _ _ _) _ _ _
  unfold getattributeRaised;repeat (any_goals (first|assumption|wp_step))
  exact h _ _ VH.keeps
theorem xr:entryFor table "dict.update.loop"=some Builtin.«dict.update.loop»:= entryFor_of_tree (by kernel_rfl)
theorem mW:plainId "dict.update.loop"=true:=by decide +kernel
noncomputable def tH (kv:Nat->dW×Value):Nat->List (dW×Value)
 |0=>[]
 |i+1=>stored (tH kv i) (kv i).1 (kv i).2
theorem D4 (l:List (dW×Value))(k:dW)(v:Value):(stored l k v).length<=l.length+1:=by
 unfold stored;split
 ·rw[zaf];omega
 ·simp
theorem zl (kv:Nat->dW×Value):∀i,(tH kv i).length<=i
 |0=>zah _
 |i+1=>zai (D4 _ _ _) (Nat.succ_le_succ (zl kv i))
section
variable {prog:Program}{w:World}{A:Around}{R:Result->Shared->Prop}{I:Addr}{fp wr:List Addr}{G:Array GenState->Array GenState->Prop}{n:Nat}{P:Nat->Value->Prop}{St:Nat->Shared->Prop}
theorem DictOf.ie {h h':Heap}(q:h.DictOf (bW prog w) S l)(k:∀o,h.get? S=some o->h'.get? S=some o):h'.DictOf (bW prog w) S l:=by
 obtain⟨o,es,ep,ho,dw⟩:=q;exact⟨o,es,ep,k o ho,dw⟩
noncomputable def qf (h:Heap)(a:Addr)(k x:Value):Prop:=∃o m,h.get? a=some o/\o.cls = .type "tuple" /\ o.data = .seq #[k,x] m
theorem Jj (W:WalksS prog w A.in1 I fp wr G n P St)(S:Addr)(hSf:S∉fp)(ad:Nat->Addr)(kk:Nat->Value)(kv:Nat->dW×Value)(aat:∀i v,P i v->v = .ref (ad i))(LI:∀i,i<n->lV (kv i).1 (kk i)=true)(hn:n<=1000)(had:∀i,i<n->ad i∉S::wr)(j:Nat):
  ∀(i:Nat) (t:Tok) (s:Shared),n=i+j->St i s->s.heap.DictOf (bW prog w) S (tH kv i)->(∀m,m<n->qf s.heap (ad m) (kk m) (kv m).2) ->
   (∀s',Moved (S::wr) G s s'->s'.heap.DictOf (bW prog w) S (tH kv n)->R (.ok (.ret .none)) s')->codeAny (model prog w) A (.builtin "dict.update.loop" ⟨[.ref S,.ref I,.int i t,.none],[]⟩) R s:=by
 have hSw:S∉wr:=λh=>hSf (W.sub _ h)
 induction j with
 |zero =>
  intro i t s hi pV hS hp hR;subst hi;refine codeAny_builtin xr ?_
  rw[Around.under_plainId mW _];refine zaa (W.done s _ _ pV λs' hm=>?_)
  show wpAny _ _ (Builtin.Dict.addKeywords S [] >>= _) _ _ _
  exact zaa (zad (zad (hR s' (hm.mono λb hb=>zaD _ hb) (DictOf.ie hS λo ho=>hm.heap S o hSw ho))))
 |succ j ih =>
  intro i t s hi pV hS hp hR;refine codeAny_builtin xr ?_
  rw[Around.under_plainId mW _];refine zaa (W.item i s _ _ (by omega) pV λv s' hP amz hm=>?_)
  have hv:=aat i v hP;subst hv;have hS':s'.heap.DictOf (bW prog w) S (tH kv i):=DictOf.ie hS λo ho=>hm.heap S o hSw ho
  have hp':∀m,m<n->qf s'.heap (ad m) (kk m) (kv m).2:=λm hmn=>by
   obtain⟨o,q,ho,dw⟩:=hp m hmn;exact⟨o,q,hm.heap _ o (λz=>had m hmn (zaD _ z)) ho,dw⟩
  obtain⟨o,q,ho,hc,hd⟩:=hp' i (by omega)
  have hT:s'.TypeIs (.ref (ad i)) "tuple" := ⟨o,ho,hc⟩
  refine zaa (zbo ?_)
  refine zaa (wpAny_tryCatch ?_)
  unfold Builtin.Dict.pairItems;refine zaa (wpAny_typeOf hT ?_)
  rw[if_pos (by decide)]
  unfold seqItems?
  refine zaa (zaa (wpAny_load ho ?_))
  rw[hd];refine zad (zad ?_)
  show wpAny _ _ (holding [kk i,(kv i).2] (dictSet S (kk i) (kv i).2)) _ _ _
  have hle:=zl kv i;refine zbo (wpAny_dictSet_pairs (LI i (by omega)) hS' (λh' wj VI=>?_) (zai (by omega:(tH kv i).length<=1000) (by decide)))
  refine zad ⟨plainId_quiet mW _,ih (i+1) _ _ (by omega) (W.frame _ s' _ _ amz (zaW _) λb hb o e=>?_) wj (λm hmn=>?_) λs'' amB amC=>?_⟩
  ·rw[VI.2 b (λz:b=S=>hSf (by rw[<-z];exact hb))];exact e
  ·obtain⟨o2,q2,ho2,dw⟩:=hp' m hmn
   exact⟨o2,q2,by rw[VI.2 _ (λz=>had m hmn (by rw[z];exact zbh))];exact ho2,dw⟩
  ·refine hR s'' (Moved.trans W.gtrans ((hm.mono λb hb=>zaD _ hb).then_heap (zaW _) λb o hb e=>?_) amB) amC
   rw[VI.2 b (λz:b=S=>hb (by rw[z];exact zbh))];exact e
end
section
variable {prog:Program}{w:World}{A:Around}{E:Value->Shared->Prop}{s:Shared}
theorem rO {l:Addr}{ad:Nat->Addr}{kk:Nat->Value}(hh:A.handled=none)(hol:s.heap.get? l=some { cls:=.type "list",data:=.seq items nl})
  (aat:∀i v,items[i]? = some v->v=Value.ref (ad i)) (LI:∀i,i<items.size->lV (kv i).1 (kk i)=true) (hn:items.size<=1000) (hp:∀m,m<items.size->qf s.heap (ad m) (kk m) (kv m).2)
  (h:∀(h':Heap) (tk:Nat),h'.DictOf (bW prog w) s.heap.objs.size (tH kv items.size)->(∀b o,s.heap.get? b=some o->h'.get? b=some o)->Q (.ref s.heap.objs.size) {s with heap:=h',toks:=tk}):
  wpAny (model prog w) A (call (.type "dict") [.ref l]) Q E s:=by
 refine callType_codes (Q₁:= λj9 cM=>j9 = .ref s.heap.objs.size/\cM = { s with heap:=s.heap.push { cls:=.type "dict",data:=.dict #[]} }) F.kt_called_dict (F.kt_typeCall_dict_1 _) F.entry_dict_init (kt_code_dict_new _ ⟨rfl,rfl⟩) ?_
 rintro j9 cM ⟨rfl,rfl⟩
 have aav:(s.heap.push { cls:=.type "dict",data:=.dict #[]}).DictOf (bW prog w) s.heap.objs.size []:=Heap.DictOf.new s.heap
 have aaw:(s.heap.push { cls:=.type "dict",data:=.dict #[]}).get? l=some { cls:=.type "list",data:=.seq items nl}:=zac _ hol
 have hlS:l<s.heap.objs.size:=zan hol
 refine⟨aav.typeIs,F.args_dict_init_2 _ _,?_⟩
 unfold Builtin.«dict.__init__»
 refine zaa ?_
 unfold Builtin.Dict.selfAndRest;refine zaa (wpAny_notOrdered_dict aav.typeIs (?_:wpAny _ _ (pure (s.heap.objs.size,[Value.ref l])) _ _ _))
 refine zad ?_
 show wpAny _ _ (Builtin.Dict.updateFrom "dict.__init__" s.heap.objs.size (.ref l) [] .none) _ _ _
 unfold Builtin.Dict.updateFrom;refine zaa (wpAny_typeOf (T:= "list") ⟨_,aaw,rfl⟩ ?_)
 rw[if_pos (by decide)]
 refine zaa (Ji aaw (by simp[hh]) λh1 tk1 hk1=>?_)
 simp only[zeA,if_true];refine zaa (wpAny_rule ?_)
 have amD:h1.get? l=some { cls:=.type "list",data:=.seq items nl}:=hk1 _ _ aaw
 have VT:h1.DictOf (bW prog w) s.heap.objs.size []:=DictOf.ie aav λo ho=>hk1 _ _ ho
 have VU:h1.IsList l items:=⟨_,amD,rfl,nl,rfl⟩
 have Sk:s.heap.objs.size<h1.objs.size:=by
  obtain⟨o,_,_,ho,_⟩:=VT;exact zan ho
 refine zaa (zds (s:={s with heap:=h1,toks:=tk1}) VU ?_)
 refine zad ?_
 refine⟨plainId_quiet mW _,?_⟩
 have amE:l≠h1.objs.size:=zaq (zdD hlS Sk)
 have hSf:s.heap.objs.size∉[h1.objs.size,l]:=by
  simp only[zam,zax,or_false,not_or];exact⟨zaq Sk,zbQ hlS⟩
 have hp1:∀m,m<items.size->qf h1 (ad m) (kk m) (kv m).2:=λm hm=>by
  obtain⟨o,q,ho,dw⟩:=hp m hm;exact⟨o,q,hk1 _ _ (zac _ ho),dw⟩
 refine Jj ((Walks.list (by simp[hh]) _ l amE items).toS) s.heap.objs.size hSf ad kk kv (λi v hv=>aat i v hv) LI hn (λi hi=>?_) items.size 0 _ _ (by omega)
  ⟨⟨_,zap _ rfl,rfl,rfl⟩,(VU.push _)⟩ (DictOf.ie VT λo ho=>zac _ ho) (λm hm=>?_) ?_
 ·obtain⟨o,q,ho,_⟩:=hp i hi
  have:=zan ho
  simp only[zam,zax,or_false,not_or];exact⟨zaq this,zaq (zdD this Sk)⟩
 ·obtain⟨o,q,ho,dw⟩:=hp1 m hm
  exact⟨o,q,zac _ ho,dw⟩
 ·intro s' hm hS'
  obtain⟨h',g',d',tk',os'⟩:=s';have eg:g'=s.gens:=hm.gens
  have ed:d'=s.drawn:=hm.drawn
  have eo:os'=s.os:=hm.os
  subst eg;subst ed;subst eo;refine⟨rfl,h h' tk' hS' λb o e=>?_⟩
  have hb0:=zan e;exact hm.heap b o (by simp only[zam,zax,or_false,not_or];exact⟨zaq hb0,zaq (zdD hb0 Sk)⟩) (zac _ (hk1 _ _ (zac _ e)))
end
inductive Tr where
 |bB|bl (b:Bool)|int (i:Int)|str (x:Str)|tp (l:List Tr)|ls (l:List Tr)|kt (l:List Tr)|kl (l:List Tr)|hd (n:Nat)
inductive Ce where
 |tK|bA (l:List Tr)|jD (l:List (dW×Tr))|eS (c:Str) (fs:List (Str×Tr))|tL (c:Str) (fs:List (Str×Tr))|QX (l:List (List dW×Tr))|wm (l:List (dW×Tr))|D5 (l:List (List dW×Tr))
noncomputable def Ce.fz:Ce->Bool|.tK=>true|.wm _=>true|.D5 _=>true|_=>false
noncomputable abbrev Cs:=List Ce
structure Wd where
 K:W.Frag
 n:Nat
 ρ:Nat->Addr
 F:Hp
 hid:Hp
structure Wd.le (w w':Wd):Prop where
 K:w'.K=w.K
 n:w.n<=w'.n
 r:∀i,i<w.n->w'.ρ i=w.ρ i
 F:∀b o,w.F b=some o->w'.F b=some o
 hid:w'.hid=w.hid
theorem Wd.le.refl (w:Wd):w.le w:=⟨rfl,zah _,λ_ _=>rfl,λ_ _ h=>h,rfl⟩
theorem Wd.le.trans {a b c:Wd}(h:a.le b)(g:b.le c):a.le c:=
 ⟨g.K.trans h.K,zai h.n g.n,λi hi=>(g.r i (zak hi h.n)).trans (h.r i hi),λb o e=>g.F b o (h.F b o e),g.hid.trans h.hid⟩
mutual
noncomputable def RT (w:Wd):Tr->V->Prop
 |.bB,v=>v = .bB
 |.bl b,v=>v = .bl b
 |.int i,v=>v = .int i
 |.str x,v=>v = .str x
 |.tp l,v=>∃a xs,v = .ref a/\w.F a=some (.gQ xs)/\bL w l xs
 |.ls l,v=>∃a xs,v = .ref a/\w.F a=some (.bA xs)/\bL w l xs
 |.kt l,v=>∃a xs,v = .ref a/\nM w.K w.F a xs/\bL w l xs
 |.kl l,v=>∃a xs,v = .ref a/\jn w.K w.F a xs/\bL w l xs
 |.hd n,v=>n<w.n/\v = .ref (w.ρ n)
noncomputable def bL (w:Wd):List Tr->List V->Prop
 |[],xs=>xs=[]
 |d::l,xs=>∃x r,xs=x::r/\RT w d x/\bL w l r
end
theorem Rd.mono {H H':Hp}(h:∀b o,H b=some o->H' b=some o){a:Addr}{u:HO}(r:Rd H a u):Rd H' a u:=by
 rcases r with r|⟨o,r⟩
 ·exact .inl (h _ _ r)
 ·exact .inr ⟨o,h _ _ r⟩
theorem jn.mono {K:W.Frag}{H H':Hp}(h:∀b o,H b=some o->H' b=some o){a:Addr}{xs:List V}(r:jn K H a xs):jn K H' a xs:=r.imp (Rd.mono h) id
theorem nM.mono {K:W.Frag}{H H':Hp}(h:∀b o,H b=some o->H' b=some o){a:Addr}{xs:List V}(r:nM K H a xs):nM K H' a xs:=r.imp (Rd.mono h) id
mutual
theorem RT.mono {w w':Wd}(le:w.le w'):∀(t:Tr) (v:V),RT w t v->RT w' t v
 |.bB,v,h=>by unfold RT at h ⊢;exact h
 |.bl b,v,h=>by unfold RT at h ⊢;exact h
 |.int b,v,h=>by unfold RT at h ⊢;exact h
 |.str b,v,h=>by unfold RT at h ⊢;exact h
 |.tp l,v,h=>by
  unfold RT at h ⊢
  obtain⟨a,xs,e,s,r⟩:=h;exact⟨a,xs,e,le.F _ _ s,bL.mono le l xs r⟩
 |.ls l,v,h=>by
  unfold RT at h ⊢
  obtain⟨a,xs,e,s,r⟩:=h;exact⟨a,xs,e,le.F _ _ s,bL.mono le l xs r⟩
 |.kt l,v,h=>by
  unfold RT at h ⊢
  obtain⟨a,xs,e,s,r⟩:=h;exact⟨a,xs,e,by rw[le.K];exact s.mono le.F,bL.mono le l xs r⟩
 |.kl l,v,h=>by
  unfold RT at h ⊢
  obtain⟨a,xs,e,s,r⟩:=h;exact⟨a,xs,e,by rw[le.K];exact s.mono le.F,bL.mono le l xs r⟩
 |.hd n,v,h=>by
  unfold RT at h ⊢
  exact⟨zak h.1 le.n,by rw[le.r n h.1];exact h.2⟩
theorem bL.mono {w w':Wd}(le:w.le w'):∀(l:List Tr) (xs:List V),bL w l xs->bL w' l xs
 |[],xs,h=>by unfold bL at h ⊢;exact h
 |d::l,xs,h=>by
  unfold bL at h ⊢
  obtain⟨x,r,e,h1,h2⟩:=h;exact⟨x,r,e,RT.mono le d x h1,bL.mono le l r h2⟩
end
mutual
theorem RT.bE {w:Wd}(hid:Hp):∀(t:Tr) (v:V),RT w t v->RT {w with hid:=hid} t v
 |.bB,v,h=>by unfold RT at h ⊢;exact h
 |.bl b,v,h=>by unfold RT at h ⊢;exact h
 |.int b,v,h=>by unfold RT at h ⊢;exact h
 |.str b,v,h=>by unfold RT at h ⊢;exact h
 |.tp l,v,h=>by unfold RT at h ⊢;obtain⟨a,xs,e,s,r⟩:=h;exact⟨a,xs,e,s,bL.bE hid l xs r⟩
 |.ls l,v,h=>by unfold RT at h ⊢;obtain⟨a,xs,e,s,r⟩:=h;exact⟨a,xs,e,s,bL.bE hid l xs r⟩
 |.kt l,v,h=>by unfold RT at h ⊢;obtain⟨a,xs,e,s,r⟩:=h;exact⟨a,xs,e,s,bL.bE hid l xs r⟩
 |.kl l,v,h=>by unfold RT at h ⊢;obtain⟨a,xs,e,s,r⟩:=h;exact⟨a,xs,e,s,bL.bE hid l xs r⟩
 |.hd n,v,h=>by unfold RT at h ⊢;exact h
theorem bL.bE {w:Wd}(hid:Hp):∀(l:List Tr) (xs:List V),bL w l xs->bL {w with hid:=hid} l xs
 |[],xs,h=>by unfold bL at h ⊢;exact h
 |d::l,xs,h=>by
  unfold bL at h ⊢
  obtain⟨x,r,e,h1,h2⟩:=h;exact⟨x,r,e,RT.bE hid d x h1,bL.bE hid l r h2⟩
end
theorem bL.nil {w:Wd}:bL w [] []:=by unfold bL;rfl
theorem bL.cons {w:Wd}{t:Tr}{l:List Tr}{v:V}{xs:List V}(h:RT w t v)(r:bL w l xs):bL w (t::l) (v::xs):=by unfold bL;exact⟨v,xs,rfl,h,r⟩
theorem bL.bX {w:Wd}{xs:List V}(h:bL w [] xs):xs=[]:=by unfold bL at h;exact h
theorem bL.bw {w:Wd}{t:Tr}{l:List Tr}{xs:List V}(h:bL w (t::l) xs):∃x r,xs=x::r/\RT w t x/\bL w l r:=by unfold bL at h;exact h
theorem bL.len {w:Wd}:∀{l:List Tr} {xs:List V},bL w l xs->xs.length=l.length
 |[],xs,h=>by rw[h.bX];rfl
 |d::l,xs,h=>by
  obtain⟨x,r,rfl,_,h2⟩:=h.bw;simp[bL.len h2]
theorem bL.get {w:Wd}:∀{l:List Tr} {xs:List V} {i:Nat} {t:Tr},bL w l xs->l[i]? = some t->∃v,xs[i]? = some v/\RT w t v
 |[],xs,i,t,h,e=>by simp at e
 |d::l,xs,i,t,h,e=>by
  obtain⟨x,r,rfl,h1,h2⟩:=h.bw;cases i with
  |zero=>simp at e;subst e;exact⟨x,rfl,h1⟩
  |succ i=>simpa using bL.get (i:=i) h2 (by simpa using e)
theorem bL.qW {w:Wd}:∀{l m:List Tr} {xs ys:List V},bL w l xs->bL w m ys->bL w (l++m) (xs++ys)
 |[],m,xs,ys,h,g=>by rw[h.bX];exact g
 |d::l,m,xs,ys,h,g=>by
  obtain⟨x,r,rfl,h1,h2⟩:=h.bw;exact .cons h1 (bL.qW h2 g)
theorem bL.set {w:Wd}{t:Tr}{v:V}(ht:RT w t v):∀{l:List Tr} {xs:List V} (i:Nat),bL w l xs->bL w (l.set i t) (xs.set i v)
 |[],xs,i,h=>by rw[h.bX];exact .nil
 |d::l,xs,i,h=>by
  obtain⟨x,r,rfl,h1,h2⟩:=h.bw;cases i with
  |zero=>exact .cons ht h2
  |succ i=>exact .cons h1 (bL.set ht i h2)
theorem bL.take {w:Wd}:∀{l:List Tr} {xs:List V} (n:Nat),bL w l xs->bL w (l.take n) (xs.take n)
 |[],xs,n,h=>by rw[h.bX];simp;exact .nil
 |d::l,xs,0,h=>by simp;exact .nil
 |d::l,xs,n+1,h=>by
  obtain⟨x,r,rfl,h1,h2⟩:=h.bw;exact .cons h1 (bL.take n h2)
theorem bL.drop {w:Wd}:∀{l:List Tr} {xs:List V} (n:Nat),bL w l xs->bL w (l.drop n) (xs.drop n)
 |[],xs,n,h=>by rw[h.bX];simp;exact .nil
 |d::l,xs,0,h=>h
 |d::l,xs,n+1,h=>by
  obtain⟨x,r,rfl,h1,h2⟩:=h.bw;exact bL.drop n h2
theorem bL.snoc {w:Wd}{l:List Tr}{xs:List V}{t:Tr}{v:V}(h:bL w l xs)(g:RT w t v):bL w (l++[t]) (xs++[v]):=h.qW (.cons g .nil)
noncomputable def RK (w:Wd){α:Type}(l:List (α × Tr))(m:List (α × V)):Prop:=m.map Prod.fst=l.map Prod.fst/\bL w (l.map Prod.snd) (m.map Prod.snd)
theorem RK.mono {w w':Wd}(le:w.le w'){α:Type}{l:List (α × Tr)}{m:List (α × V)}(h:RK w l m):RK w' l m:=⟨h.1,bL.mono le _ _ h.2⟩
theorem RK.nil {w:Wd}{α:Type}:RK w ([]:List (α × Tr)) []:=⟨rfl,.nil⟩
theorem RK.cons {w:Wd}{α:Type}{k:α}{t:Tr}{v:V}{l:List (α × Tr)}{m:List (α × V)}(h:RT w t v)(r:RK w l m):RK w ((k,t)::l) ((k,v)::m):=⟨by simp[r.1],.cons h r.2⟩
theorem RK.bw {w:Wd}{α:Type}{k:α}{t:Tr}{l:List (α × Tr)}{m:List (α × V)}(h:RK w ((k,t)::l) m):∃v r,m=(k,v)::r/\RT w t v/\RK w l r:=by
 obtain⟨h1,h2⟩:=h;cases m with
 |nil=>simp at h1
 |cons p r =>
  obtain⟨q,v⟩:=p;simp only[zas,List.cons.injEq] at h1;obtain⟨x,r',e,g1,g2⟩:=h2.bw;simp only[zas,List.cons.injEq] at e;obtain⟨rfl,rfl⟩:=e;obtain⟨rfl,e2⟩:=h1;exact⟨v,r,rfl,g1,e2,g2⟩
theorem RK.bX {w:Wd}{α:Type}{m:List (α × V)}(h:RK w ([]:List (α × Tr)) m):m=[]:=by simpa using h.1
theorem RK.len {w:Wd}{α:Type}{l:List (α × Tr)}{m:List (α × V)}(h:RK w l m):m.length=l.length:=by simpa using congrArg List.length h.1
noncomputable def eO (S:Cs)(i:Nat):Prop:=∃c,S[i]? = some c/\c.fz=false
open Classical in
noncomputable def Fz (ρ:Nat->Addr)(hid:Hp)(S:Cs)(H:Hp):Hp:=λb=>if (∃i,eO S i /\ ρ i=b)\/hid b≠none then none else H b
structure Gx where
 K:W.Frag
 cl:Str->Addr
 E:XK
noncomputable def bI (G:Gx)(w:Wd)(H:Hp)(a:Addr):Ce->Prop
 |.tK=>True
 |.bA l=>∃xs,H a=some (.bA xs)/\bL w l xs
 |.jD l=>∃aQ,H a=some (.dK aQ)/\RK w l aQ
 |.eS c fs=>∃dx qg,H a=some (.eS (G.cl c) dx qg)/\RK w fs qg
 |.tL c fs=>∃T d qg,H a=some (nQ a (G.cl c) (some d) T)/\w.F T=some (TB T)/\w.F d=some (ED d qg)/\T≠a/\d≠a/\RK w fs qg
 |.QX l=>∃aQ,H a=some (.dT aQ)/\RK w l aQ
 |.wm l=>∃o aQ,w.F a=some (.rR o (.dK aQ))/\RK w l aQ
 |.D5 l=>∃o aQ,w.F a=some (.rR o (.dT aQ))/\RK w l aQ
theorem bI.mono {G:Gx}{w w':Wd}(le:w.le w'){H H':Hp}{a:Addr}(hH:∀o,H a=some o->H' a=some o):∀{c:Ce},bI G w H a c->bI G w' H' a c
 |.tK,_=>trivial
 |.bA l,h=>let ⟨xs,e,r⟩:=h;⟨xs,hH _ e,bL.mono le _ _ r⟩
 |.jD l,h=>let ⟨xs,e,r⟩:=h;⟨xs,hH _ e,r.mono le⟩
 |.eS c l,h=>let ⟨dx,xs,e,r⟩:=h;⟨dx,xs,hH _ e,r.mono le⟩
 |.tL c l,h=>let ⟨T,d,xs,e,e2,e3,n1,n2,r⟩:=h;⟨T,d,xs,hH _ e,le.F _ _ e2,le.F _ _ e3,n1,n2,r.mono le⟩
 |.QX l,h=>let ⟨xs,e,r⟩:=h;⟨xs,hH _ e,r.mono le⟩
 |.wm l,h=>let ⟨o,xs,e,r⟩:=h;⟨o,xs,le.F _ _ e,r.mono le⟩
 |.D5 l,h=>let ⟨o,xs,e,r⟩:=h;⟨o,xs,le.F _ _ e,r.mono le⟩
theorem bI.MQ {G:Gx}{w w':Wd}(le:w.le w'){H H':Hp}{a:Addr}:∀{c:Ce},c.fz=true->bI G w H a c->bI G w' H' a c
 |.tK,_,_=>trivial
 |.wm l,_,h=>let ⟨o,xs,e,r⟩:=h;⟨o,xs,le.F _ _ e,r.mono le⟩
 |.D5 l,_,h=>let ⟨o,xs,e,r⟩:=h;⟨o,xs,le.F _ _ e,r.mono le⟩
theorem RK.bE {w:Wd}(hid:Hp){α:Type}{l:List (α × Tr)}{m:List (α × V)}(h:RK w l m):RK {w with hid:=hid} l m:=⟨h.1,bL.bE hid _ _ h.2⟩
theorem bI.bE {G:Gx}{w:Wd}{hid:Hp}{H H':Hp}{a:Addr}(hH:∀o,H a=some o->H' a=some o):∀{c:Ce},bI G w H a c->bI G {w with hid:=hid} H' a c
 |.tK,_=>trivial
 |.bA l,h=>let ⟨xs,e,r⟩:=h;⟨xs,hH _ e,bL.bE hid _ _ r⟩
 |.jD l,h=>let ⟨xs,e,r⟩:=h;⟨xs,hH _ e,r.bE hid⟩
 |.eS c l,h=>let ⟨dx,xs,e,r⟩:=h;⟨dx,xs,hH _ e,r.bE hid⟩
 |.tL c l,h=>let ⟨T,d,xs,e,e2,e3,n1,n2,r⟩:=h;⟨T,d,xs,hH _ e,e2,e3,n1,n2,r.bE hid⟩
 |.QX l,h=>let ⟨xs,e,r⟩:=h;⟨xs,hH _ e,r.bE hid⟩
 |.wm l,h=>let ⟨o,xs,e,r⟩:=h;⟨o,xs,e,r.bE hid⟩
 |.D5 l,h=>let ⟨o,xs,e,r⟩:=h;⟨o,xs,e,r.bE hid⟩
theorem bI.Jk {G:Gx}{w:Wd}{hid:Hp}{H H':Hp}{a:Addr}:∀{c:Ce},c.fz=true->bI G w H a c->bI G {w with hid:=hid} H' a c
 |.tK,_,_=>trivial
 |.wm l,_,h=>let ⟨o,xs,e,r⟩:=h;⟨o,xs,e,r.bE hid⟩
 |.D5 l,_,h=>let ⟨o,xs,e,r⟩:=h;⟨o,xs,e,r.bE hid⟩
theorem bI.aax {G:Gx}{w:Wd}{F' Sn:Hp}(hF:∀b o,w.F b=some o->F' b=some o){H:Hp}{a:Addr}{c:Ce}(h:bI G w H a c):bI G {w with hid:=Sn,F:=F' } H a c:=
 bI.mono (w:={w with hid:=Sn}) (w':={w with hid:=Sn,F:=F' }) ⟨rfl,zah _,λ_ _=>rfl,hF,rfl⟩ (λ_ e=>e) (bI.bE (hid:=Sn) (λ_ e=>e) h)
theorem bI.some {G:Gx}{w:Wd}{H:Hp}{a:Addr}:∀{c:Ce},bI G w H a c->c.fz=false->∃o,H a=some o
 |.tK,_,n=>by cases n
 |.bA l,h,_=>let ⟨xs,e,r⟩:=h;⟨_,e⟩
 |.jD l,h,_=>let ⟨xs,e,r⟩:=h;⟨_,e⟩
 |.eS c l,h,_=>let ⟨dx,xs,e,r⟩:=h;⟨_,e⟩
 |.tL c l,h,_=>let ⟨T,d,xs,e,_⟩:=h;⟨_,e⟩
 |.QX l,h,_=>let ⟨xs,e,r⟩:=h;⟨_,e⟩
 |.wm l,_,n=>by cases n
 |.D5 l,_,n=>by cases n
structure HR (G:Gx) (w:Wd) (S:Cs) (H:Hp):Prop where
 K:w.K=G.K
 n:w.n=S.length
 F:w.F=Fz w.ρ w.hid S H
 cell:∀i c,S[i]? = some c->bI G w H (w.ρ i) c
 inj:∀i j,eO S i->eO S j->w.ρ i=w.ρ j->i=j
 hid:∀b o,w.hid b=some o->H b=some o
 jS:∀i,eO S i->w.hid (w.ρ i)=none
 hl:∀b xs,w.hid b≠some (.gQ xs)
theorem HR.sub (h:HR G w S H):∀b o,w.F b=some o->H b=some o:=λb o e=>by
 rw[h.F] at e;unfold Fz at e;split at e
 ·cases e
 ·exact e
theorem HR.sqL (h:HR G w S H){a:Addr}{xs:List V}(s:jn w.K w.F a xs):jn G.K H a xs:=by rw[<-h.K];exact s.mono h.sub
theorem HR.sqT (h:HR G w S H){a:Addr}{xs:List V}(s:nM w.K w.F a xs):nM G.K H a xs:=by rw[<-h.K];exact s.mono h.sub
theorem HR.live (h:HR G w S H){i:Nat}(l:eO S i):∃o,H (w.ρ i)=some o:=by
 obtain⟨c,e,n⟩:=l;exact (h.cell i c e).some n
theorem HR.GC (h:HR G w S H){p:Addr}(hp:H p=none):w.hid p=none:=by
 cases e:w.hid p with
 |none=>rfl
 |some o=>rw[h.hid p o e] at hp;cases hp
theorem HR.free (h:HR G w S H){p:Addr}(hp:H p=none):¬ ((∃i,eO S i/\w.ρ i=p)\/w.hid p≠none):=by
 rintro (⟨i,l,rfl⟩|z)
 ·obtain⟨o,e⟩:=h.live l
  rw[hp] at e;cases e
 ·exact z (h.GC hp)
theorem HR.MR (h:HR G w S H){p:Addr}(hp:H p=none):w.F p=none:=by rw[h.F];unfold Fz;rw[if_neg (h.free hp)];exact hp
theorem zm {hid:Hp}{H:Hp}{p:Addr}{o:HO}(h:∀b o,hid b=some o->H b=some o)(hp:hid p=none):∀b u,hid b=some u->bD H p o b=some u:=λb u e=>by
 rw[au λz=>by subst z;rw[hp] at e;cases e]
 exact h b u e
theorem MS {hid:Hp}{p:Addr}{o:HO}(h:∀b xs,hid b≠some (.gQ xs))(ho:∀xs,o ≠ .gQ xs):∀b xs,bD hid p o b≠some (.gQ xs):=λb xs e=>by
 by_cases hb:b=p
 ·subst hb;rw[av] at e;cases e;exact ho _ rfl
 ·rw[au hb] at e;exact h b xs e
theorem HR.lay (h:HR G w S H){p:Addr}(hp:H p=none)(o:HO):HR G {w with F:=bD w.F p o} S (bD H p o)/\w.le {w with F:=bD w.F p o}:=by
 have hn:=h.free hp;have hF:=h.MR hp;have le:w.le {w with F:=bD w.F p o}:=⟨rfl,zah _,λ_ _=>rfl,λb u e=>kD hF e,rfl⟩
 refine⟨⟨h.K,h.n,?_,λi c e=>(h.cell i c e).mono le λu eu=>kD hp eu,h.inj,zm h.hid (h.GC hp),h.jS,h.hl⟩,le⟩
 show bD w.F p o=Fz w.ρ w.hid S (bD H p o)
 rw[h.F];funext b
 by_cases hb:b=p
 ·subst hb
  rw[av];unfold Fz;rw[if_neg hn,av]
 ·rw[au hb]
  unfold Fz;rw[au hb]
theorem xu {c:Ce}(hc:c.fz=false):∀i,eO (S++[c]) i↔eO S i\/i=S.length:=λi=>by
  constructor
  ·rintro⟨d,e,n⟩
   by_cases hi:i<S.length
   ·rw[zab hi] at e;exact .inl ⟨d,e,n⟩
   ·rw[zat (by omega)] at e
    have:i - S.length<1:=by
     have:=(zae.mp e).1
     simpa using this
    exact .inr (by omega)
  ·rintro (⟨d,e,n⟩|rfl)
   ·exact⟨d,by rw[zab (zae.mp e).1];exact e,n⟩
   ·exact⟨c,by simp,hc⟩
theorem eO.lt {i:Nat}(l:eO S i):i<S.length:=let ⟨_,e,_⟩:=l;(zae.mp e).1
noncomputable def Wd.up (w:Wd)(p:Addr):Wd:={w with n:=w.n+1,ρ:= λi=>if i=w.n then p else w.ρ i}
theorem Wd.tM (w:Wd)(p:Addr):w.le (w.up p):=⟨rfl,zaW _,λi hi=>by show (if i=w.n then p else w.ρ i)=_;rw[if_neg (by omega)],λb u e=>e,rfl⟩
theorem HR.ahg (h:HR G w S H){p:Addr}{H':Hp}{c:Ce}(hc:c.fz=false)(rX:∀i,eO S i->w.ρ i≠p)(hH:∀b,b≠p->H' b=H b)(hF:w.F p=none)(hh:w.hid p=none)
  (ok:bI G (w.up p) H' p c):HR G (w.up p) (S++[c]) H':=by
 have lv:=xu (S:=S) hc
 have le:=w.tM p;have iX:∀i,i<S.length->(w.up p).ρ i=w.ρ i:=λi hi=>le.r i (by rw[h.n];exact hi)
 have qh:(w.up p).ρ S.length=p:=by show (if S.length=w.n then p else w.ρ S.length)=p;rw[if_pos h.n.symm]
 refine⟨h.K,by show w.n+1=_;simp[h.n],?_,λi d e=>?_,λi j li lj e=>?_,λb o e=>?_,λi li=>?_,h.hl⟩
 ·show w.F=Fz (w.up p).ρ w.hid (S++[c]) H'
  rw[h.F];funext b
  unfold Fz;by_cases hb:b=p
  ·subst hb
   rw[h.F] at hF;unfold Fz at hF;rw[hF,if_pos (.inl ⟨S.length,(lv _).mpr (.inr rfl),qh⟩)]
  ·rw[hH b hb]
   have VW:(∃i,eO (S++[c]) i/\(w.up p).ρ i=b)↔∃i,eO S i/\w.ρ i=b:=by
    constructor
    ·rintro⟨i,li,e⟩
     rcases (lv i).mp li with l|rfl
     ·rw[iX i l.lt] at e
      exact⟨i,l,e⟩
     ·rw[qh] at e;exact absurd e.symm hb
    ·rintro⟨i,l,e⟩
     exact⟨i,(lv i).mpr (.inl l),by rw[iX i l.lt];exact e⟩
   by_cases hx:(∃i,eO S i/\w.ρ i=b)\/w.hid b≠none
   ·rw[if_pos hx,if_pos (hx.imp VW.mpr λz=>z)]
   ·rw[if_neg hx,if_neg (λz=>hx (z.imp VW.mp λz=>z))]
 ·by_cases hi:i<S.length
  ·rw[zab hi] at e
   rw[iX i hi];cases hd:d.fz with
   |true=>exact bI.MQ le hd (h.cell i d e)
   |false=>exact (h.cell i d e).mono le λu eu=>by rw[hH _ (rX i ⟨d,e,hd⟩)];exact eu
  ·rw[zat (by omega)] at e
   have h0:i - S.length<1:=by simpa using (zae.mp e).1
   have h1:i=S.length:=by omega
   subst h1;simp at e
   subst e;rw[qh];exact ok
 ·rcases (lv i).mp li with l|rfl
  ·rcases (lv j).mp lj with l' | rfl
   ·rw[iX i l.lt,iX j l'.lt] at e
    exact h.inj i j l l' e
   ·rw[iX i l.lt,qh] at e
    exact absurd e (rX i l)
  ·rcases (lv j).mp lj with l' | rfl
   ·rw[qh,iX j l'.lt] at e
    exact absurd e.symm (rX j l')
   ·rfl
 ·have e2:w.hid b=some o:=e
  rw[hH b λz=>by subst z;rw[hh] at e2;cases e2]
  exact h.hid b o e2
 ·show w.hid _=none
  rcases (lv i).mp li with l|rfl
  ·rw[iX i l.lt];exact h.jS i l
  ·rw[qh];exact hh
theorem HR.MT (h:HR G w S H){p:Addr}(hp:H p=none):∀i,eO S i->w.ρ i≠p:=λi l z=>h.free hp (.inl ⟨i,l,z⟩)
theorem HR.Jl (h:HR G w S H){p:Addr}(hp:H p=none){o:HO}{c:Ce}(hc:c.fz=false)(ok:bI G (w.up p) (bD H p o) p c):HR G (w.up p) (S++[c]) (bD H p o)/\w.le (w.up p):=
 ⟨h.ahg hc (h.MT hp) (λb hb=>au hb) (h.MR hp) (h.GC hp) ok,w.tM p⟩
theorem HR.DI (h:HR G w S H){i:Nat}{c c':Ce}(e:S[i]? = some c)(hc:c.fz=false)(F6:c'.fz=false){o:HO}(ok:bI G w (bD H (w.ρ i) o) (w.ρ i) c'):HR G w (S.set i c') (bD H (w.ρ i) o):=by
 have hi:=(zae.mp e).1
 have lv:∀j,eO (S.set i c') j↔eO S j:=λj=>by
  unfold eO;by_cases hj:i=j
  ·subst hj
   rw[zaC hi];exact⟨λ_=>⟨c,e,hc⟩,λ_=>⟨c',rfl,F6⟩⟩
  ·rw[zaz hj]
 have li:eO S i:=⟨c,e,hc⟩
 refine⟨h.K,by simp[h.n],?_,λj d ej=>?_,λa b la lb=>h.inj a b ((lv a).mp la) ((lv b).mp lb),zm h.hid (h.jS i li),λj lj=>h.jS j ((lv j).mp lj),h.hl⟩
 ·rw[h.F]
  funext b
  unfold Fz;by_cases hn:(∃i,eO S i/\w.ρ i=b)\/w.hid b≠none
  ·rw[if_pos hn,if_pos (hn.imp (λz=>z.imp λj hj=>⟨(lv j).mpr hj.1,hj.2⟩) λz=>z)]
  ·rw[if_neg hn,if_neg (λz=>hn (z.imp (λz=>z.imp λj hj=>⟨(lv j).mp hj.1,hj.2⟩) λz=>z)),au λz=>hn (.inl ⟨i,⟨c,e,hc⟩,z.symm⟩)]
 ·by_cases hj:i=j
  ·subst hj
   rw[zaC hi] at ej;cases ej;exact ok
  ·rw[zaz hj] at ej
   cases hd:d.fz with
   |true=>exact bI.MQ (Wd.le.refl w) hd (h.cell j d ej)
   |false =>
    refine (h.cell j d ej).mono (Wd.le.refl w) λu eu=>?_
    rw[au λz=>hj (h.inj i j ⟨c,e,hc⟩ ⟨d,ej,hd⟩ z.symm)]
    exact eu
theorem HR.amG (h:HR G w S H){p:Addr}(hp:H p=none)(o:HO)(ho:∀xs,o ≠ .gQ xs):HR G {w with hid:=bD w.hid p o} S (bD H p o):=by
 have hn:=h.free hp;have wi:∀{t:Tr} {v:V},RT w t v->RT {w with hid:=bD w.hid p o} t v:=λ{t v} r=>RT.bE _ t v r
 refine⟨h.K,h.n,?_,λi c e=>(h.cell i c e).bE λu eu=>kD hp eu,h.inj,λb u e=>?_,λi l=>?_,MS h.hl ho⟩
 ·show w.F=Fz w.ρ (bD w.hid p o) S (bD H p o)
  rw[h.F];funext b
  unfold Fz;by_cases hb:b=p
  ·subst hb
   rw[if_neg hn,if_pos (.inr (by rw[av];simp)),hp]
  ·rw[au hb,au hb]
 ·have e:bD w.hid p o b=some u:=e
  by_cases hb:b=p
  ·subst hb;rw[av] at e ⊢;exact e
  ·rw[au hb] at e ⊢;exact h.hid b u e
 ·show bD w.hid p o _=none
  rw[au (h.MT hp i l)];exact h.jS i l
theorem HR.aaz (h:HR G w S H){p:Addr}{o:HO}(hp:w.hid p=some o)(o':HO)(ho:∀xs,o' ≠ .gQ xs):HR G {w with hid:=bD w.hid p o' } S (bD H p o'):=by
 have rX:∀i,eO S i->w.ρ i≠p:=λi l z=>by have:=h.jS i l;rw[z,hp] at this;cases this
 refine⟨h.K,h.n,?_,λi c e=>?_,h.inj,λb u e=>?_,λi l=>?_,MS h.hl ho⟩
 ·show w.F=Fz w.ρ (bD w.hid p o') S (bD H p o')
  rw[h.F];funext b
  unfold Fz;by_cases hb:b=p
  ·subst hb
   rw[if_pos (.inr (by rw[hp];simp)),if_pos (.inr (by rw[av];simp))]
  ·rw[au hb,au hb]
 ·cases hd:c.fz with
  |true=>exact bI.Jk hd (h.cell i c e)
  |false=>exact (h.cell i c e).bE λu eu=>by rw[au (rX i ⟨c,e,hd⟩)];exact eu
 ·have e:bD w.hid p o' b=some u:=e
  by_cases hb:b=p
  ·subst hb;rw[av] at e ⊢;exact e
  ·rw[au hb] at e ⊢;exact h.hid b u e
 ·show bD w.hid p o' _=none
  rw[au (rX i l)];exact h.jS i l
theorem HR.ahh (h:HR G w S H){p:Addr}{o:HO}{lN:Hp}(e0:w.hid=bD lN p o)(hp0:lN p=none):HR G {w with hid:=lN,F:=bD w.F p o} S H:=by
 have hp:w.hid p=some o:=by rw[e0];exact av
 have hH:H p=some o:=h.hid p o hp
 have rX:∀i,eO S i->w.ρ i≠p:=λi l z=>by have:=h.jS i l;rw[z,hp] at this;cases this
 have hF:w.F p=none:=by rw[h.F];unfold Fz;rw[if_pos (.inr (by rw[hp];simp))]
 refine⟨h.K,h.n,?_,λi c e=>?_,h.inj,λb u e=>?_,λi l=>?_,λb xs (e:lN b=_)=>h.hl b xs (by rw[e0,au λz=>by rw[z,hp0] at e;cases e];exact e)⟩
 ·show bD w.F p o=Fz w.ρ lN S H
  rw[h.F];funext b
  unfold Fz;by_cases hb:b=p
  ·subst hb
   rw[av,if_neg,hH];rintro (⟨i,l,z⟩|z)
   ·exact rX i l z
   ·exact z hp0
  ·rw[au hb,e0,au hb]
 ·exact bI.aax (λb u e=>kD hF e) (h.cell i c e)
 ·have e2:lN b=some u:=e
  have nb:b≠p:=λz=>by rw[z,hp0] at e2;cases e2
  exact h.hid b u (by rw[e0,au nb];exact e2)
 ·have:=h.jS i l
  rw[e0,au (rX i l)] at this;exact this
theorem HR.So (h:HR G w S H){p:Addr}{o:HO}{lN:Hp}(e0:w.hid=bD lN p o)(hp0:lN p=none){c:Ce}(hc:c.fz=false)(ok:bI G ({w with hid:=lN}.up p) H p c):HR G ({w with hid:=lN}.up p) (S++[c]) H:=by
 have hp:w.hid p=some o:=by rw[e0];exact av
 have rX:∀i,eO S i->w.ρ i≠p:=λi l z=>by have:=h.jS i l;rw[z,hp] at this;cases this
 have lv:=xu (S:=S) hc
 have le:=({w with hid:=lN}:Wd).tM p
 have iX:∀i,i<S.length->(if i=w.n then p else w.ρ i)=w.ρ i:=λi hi=>by rw[if_neg (by rw[h.n];omega)]
 have qh:(if S.length=w.n then p else w.ρ S.length)=p:=by rw[if_pos h.n.symm]
 refine⟨h.K,by show w.n+1=_;simp[h.n],?_,λi d e=>?_,λi j li lj e=>?_,λb u e=>?_,λi li=>?_,λb xs (e:lN b=_)=>h.hl b xs (by rw[e0,au λz=>by rw[z,hp0] at e;cases e];exact e)⟩
 ·show w.F=Fz (λi=>if i=w.n then p else w.ρ i) lN (S++[c]) H
  rw[h.F];funext b
  unfold Fz;by_cases hb:b=p
  ·subst hb
   rw[if_pos (.inr (by rw[hp];simp)),if_pos (.inl ⟨S.length,(lv _).mpr (.inr rfl),qh⟩)]
  ·have VW:(∃i,eO (S++[c]) i/\(if i=w.n then p else w.ρ i)=b)↔∃i,eO S i/\w.ρ i=b:=by
    constructor
    ·rintro⟨i,li,e⟩
     rcases (lv i).mp li with l|rfl
     ·rw[iX i l.lt] at e
      exact⟨i,l,e⟩
     ·rw[qh] at e;exact absurd e.symm hb
    ·rintro⟨i,l,e⟩
     exact⟨i,(lv i).mpr (.inl l),by rw[iX i l.lt];exact e⟩
   have eh:w.hid b=lN b:=by rw[e0,au hb]
   by_cases hx:(∃i,eO S i/\w.ρ i=b)\/w.hid b≠none
   ·rw[if_pos hx,if_pos (hx.imp VW.mpr λz=>by rw[<-eh];exact z)]
   ·rw[if_neg hx,if_neg (λz=>hx (z.imp VW.mp λz=>by rw[eh];exact z))]
 ·by_cases hi:i<S.length
  ·rw[zab hi] at e
   show bI G _ H (if i=w.n then p else w.ρ i) d
   rw[iX i hi];exact ((h.cell i d e).bE (hid:=lN) λu eu=>eu).mono le λu eu=>eu
  ·rw[zat (by omega)] at e
   have h0:i - S.length<1:=by simpa using (zae.mp e).1
   have h1:i=S.length:=by omega
   subst h1;simp at e
   subst e;show bI G _ H (if S.length=w.n then p else w.ρ S.length) c
   rw[qh];exact ok
 ·have e:(if i=w.n then p else w.ρ i)=(if j=w.n then p else w.ρ j):=e
  rcases (lv i).mp li with l|rfl
  ·rcases (lv j).mp lj with l' | rfl
   ·rw[iX i l.lt,iX j l'.lt] at e
    exact h.inj i j l l' e
   ·rw[iX i l.lt,qh] at e
    exact absurd e (rX i l)
  ·rcases (lv j).mp lj with l' | rfl
   ·rw[qh,iX j l'.lt] at e
    exact absurd e.symm (rX j l')
   ·rfl
 ·have e2:lN b=some u:=e
  have nb:b≠p:=λz=>by rw[z,hp0] at e2;cases e2
  exact h.hid b u (by rw[e0,au nb];exact e2)
 ·show lN (if i=w.n then p else w.ρ i)=none
  rcases (lv i).mp li with l|rfl
  ·rw[iX i l.lt]
   have:=h.jS i l
   rw[e0,au (rX i l)] at this;exact this
  ·rw[qh];exact hp0
theorem aaB {ρ:Nat->Addr}{hid:Hp}{m:Nat}:∀b o,Fz ρ hid S H b=some o->Fz ρ hid (S.take m) H b=some o:=λb o e=>by
 unfold Fz at e ⊢
 split at e
 ·cases e
 ·rename_i hn
  rw[if_neg]
  ·exact e
  ·rintro (⟨i,⟨c,ei,n⟩,r⟩|z)
   ·have hi:=(zae.mp ei).1
    rw[zbj] at hi;rw[zbz (by omega)] at ei
    exact hn (.inl ⟨i,⟨c,ei,n⟩,r⟩)
   ·exact hn (.inr z)
theorem HR.cut (h:HR G w S H){m:Nat}(hm:m<=S.length)(hb:∀i c,(S.take m)[i]? = some c->bI G {w with n:=m,F:=Fz w.ρ w.hid (S.take m) H} H (w.ρ i) c):HR G {w with n:=m,F:=Fz w.ρ w.hid (S.take m) H} (S.take m) H:=by
 have lv:∀i,eO (S.take m) i->eO S i:=λi ⟨c,e,n⟩=>⟨c,by
  have hi:=(zae.mp e).1
  rw[zbj] at hi;rw[zbz (by omega)] at e
  exact e,n⟩
 exact⟨h.K,by simp;omega,rfl,hb,λi j li lj e=>h.inj i j (lv i li) (lv j lj) e,h.hid,λi l=>h.jS i (lv i l),h.hl⟩
inductive R (α:Type) where
 |ok (a:α) (s:Cs)|ex (n:Nat) (s:Cs)|aG
noncomputable def R.aF {α β:Type}(r:R α)(k:α -> Cs->R β):R β:= match r with|.ok a s=>k a s|.ex n s=>.ex n s|.aG=>.aG
theorem R.eV {α β:Type}(a:α)(s:Cs)(k:α -> Cs->R β):(R.ok a s).aF k=k a s:=rfl
theorem R.aaC {α β:Type}(n:Nat)(s:Cs)(k:α -> Cs->R β):(R.ex n s:R α).aF k = .ex n s:=rfl
theorem R.Sq {α β:Type}(k:α -> Cs->R β):(R.aG:R α).aF k = .aG:=rfl
noncomputable def wo {α:Type}(c:Prop)(a b:α):α:= @ite α c (Classical.propDecidable c) a b
theorem oS {α:Type}{c:Prop}(h:c)(a b:α):wo c a b=a:=by unfold wo;rw[if_pos h]
theorem ahi {α:Type}(a b:α):wo True a b=a:=oS trivial a b
inductive RS where
 |nx (τ:List (Option Tr)) (s:Cs)|rt (t:Tr) (s:Cs)|bk (τ:List (Option Tr)) (s:Cs)|ct (τ:List (Option Tr)) (s:Cs)|ex (n:Nat) (s:Cs)|aG
noncomputable abbrev En:=List (Option Tr)
noncomputable abbrev Em:=En->Cs->R Tr
noncomputable abbrev Sm:=En->Cs->RS
structure Sl (w:Wd) (τ:En) (σ:St):Prop where
 len:τ.length=σ.length
 rG:∀(i:Nat) (t:Tr),τ[i]? = some (some t)->∃v,σ[i]? = some (some v)/\RT w t v
theorem Sl.mono {w w':Wd}(le:w.le w'){τ:En}{σ:St}(h:Sl w τ σ):Sl w' τ σ:= ⟨h.len,λi t e=>let ⟨v,e2,r⟩:=h.rG i t e;⟨v,e2,RT.mono le t v r⟩⟩
theorem Sl.set (h:Sl w τ σ)(i:Nat)(r:RT w t v):Sl w (τ.set i (some t)) (σ.set i (some v)):=by
 refine⟨by simp[h.len],λj u e=>?_⟩
 by_cases hj:i=j
 ·subst hj
  have hi:i<τ.length:=by
   have:=(zae.mp e).1
   simpa using this
  rw[zaC hi] at e;cases e;exact⟨v,by rw[zaC (by rw[<-h.len];exact hi)],r⟩
 ·rw[zaz hj] at e
  rw[zaz hj];exact h.rG j u e
theorem Sl.MU (h:Sl w τ σ)(i:Nat)(x:Option V):Sl w (τ.set i none) (σ.set i x):=by
 refine⟨by simp[h.len],λj u e=>?_⟩
 by_cases hj:i=j
 ·subst hj
  have hi:i<τ.length:=by
   have:=(zae.mp e).1
   simpa using this
  rw[zaC hi] at e;cases e
 ·rw[zaz hj] at e
  rw[zaz hj];exact h.rG j u e
noncomputable def oU (G:Gx)(w:Wd)(n:Nat)(S':Cs):Prop:=∃c fs,S'[n]? = some (.tL c fs)/\∀w' H',w.le w'->HR G w' S' H'->G.E (.ref (G.cl c)) (some (w'.ρ n)) H'
theorem oU.mono {G:Gx}{w w1:Wd}(le:w.le w1){n:Nat}{S:Cs}(h:oU G w n S):oU G w1 n S:=let ⟨c,fs,e,k⟩:=h;⟨c,fs,e,λw' H' l hr=>k w' H' (le.trans l) hr⟩
noncomputable def br {α β:Type}(jq:Wd -> α -> β -> Prop)(G:Gx)(w:Wd)(r:R α)(Q:β -> Hp->Prop):Prop:=match r with
 |.ok a S'=>∀w' H' b,w.le w'->HR G w' S' H'->jq w' a b->Q b H'
 |.ex n S'=>oU G w n S'
 |.aG=>False
theorem br.mono {α β:Type}{jq:Wd -> α -> β -> Prop}{G:Gx}{w:Wd}{r:R α}{Q Q' : β -> Hp->Prop}(h:br jq G w r Q)(k:∀b H,Q b H->Q' b H):br jq G w r Q':=by
 cases r with
 |ok a S=>exact λw' H' b le hr rl=>k _ _ (h w' H' b le hr rl)
 |ex n S=>exact h
 |aG=>exact h
theorem br.wd {α β:Type}{jq:Wd -> α -> β -> Prop}{G:Gx}{w w1:Wd}(le:w.le w1){r:R α}{Q:β -> Hp->Prop}(h:br jq G w r Q):br jq G w1 r Q:=by
 cases r with
 |ok a S=>exact λw' H' b l hr rl=>h w' H' b (le.trans l) hr rl
 |ex n S=>exact oU.mono le h
 |aG=>exact h
theorem br.aF {α β γ δ:Type}{jq:Wd -> α -> β -> Prop}{ahj:Wd -> γ -> δ -> Prop}{G:Gx}{w:Wd}{r:R α}{k:α -> Cs->R γ}{Q:δ -> Hp->Prop}(h:br ahj G w (r.aF k) Q):
  br jq G w r (λb H1=>∃w1 S1 a,w.le w1/\HR G w1 S1 H1/\jq w1 a b/\r = .ok a S1/\br ahj G w1 (k a S1) Q):=by
 cases r with
 |ok a S=>exact λw' H' b le hr rl=>⟨w',S,a,le,hr,rl,rfl,br.wd le h⟩
 |ex n S=>exact h
 |aG=>exact h
noncomputable def cG (G:Gx)(w:Wd)(r:RS)(D:sJ):Prop:=match r with
 |.nx τ S'=>∀w' H' d9,w.le w'->HR G w' S' H'->Sl w' τ d9->D.nx d9 H'
 |.bk τ S'=>∀w' H' d9,w.le w'->HR G w' S' H'->Sl w' τ d9->D.bk d9 H'
 |.ct τ S'=>∀w' H' d9,w.le w'->HR G w' S' H'->Sl w' τ d9->D.ct d9 H'
 |.rt t S'=>∀w' H' v,w.le w'->HR G w' S' H'->RT w' t v->D.rt v H'
 |.ex n S'=>oU G w n S'
 |.aG=>False
theorem cG.wd {G:Gx}{w w1:Wd}(le:w.le w1){r:RS}{D:sJ}(h:cG G w r D):cG G w1 r D:=by
 cases r with
 |nx τ S=>exact λw' H' b l hr rl=>h w' H' b (le.trans l) hr rl
 |bk τ S=>exact λw' H' b l hr rl=>h w' H' b (le.trans l) hr rl
 |ct τ S=>exact λw' H' b l hr rl=>h w' H' b (le.trans l) hr rl
 |rt τ S=>exact λw' H' b l hr rl=>h w' H' b (le.trans l) hr rl
 |ex n S=>exact oU.mono le h
 |aG=>exact h
noncomputable def R.b_ {α:Type}(r:R α)(k:α -> Cs->RS):RS:=match r with|.ok a s=>k a s|.ex n s=>.ex n s|.aG=>.aG
theorem R.gB {α:Type}(a:α)(s:Cs)(k:α -> Cs->RS):(R.ok a s).b_ k=k a s:=rfl
theorem R.GD {α:Type}(n:Nat)(s:Cs)(k:α -> Cs->RS):(R.ex n s:R α).b_ k = .ex n s:=rfl
theorem R.A9 {α:Type}(k:α -> Cs->RS):(R.aG:R α).b_ k = .aG:=rfl
theorem cG.aF {α β:Type}{jq:Wd -> α -> β -> Prop}{G:Gx}{w:Wd}{r:R α}{k:α -> Cs->RS}{D:sJ}(h:cG G w (r.b_ k) D):
  br jq G w r (λb H1=>∃w1 S1 a,w.le w1/\HR G w1 S1 H1/\jq w1 a b/\r = .ok a S1/\cG G w1 (k a S1) D):=by
 cases r with
 |ok a S=>exact λw' H' b le hr rl=>⟨w',S,a,le,hr,rl,rfl,cG.wd le h⟩
 |ex n S=>exact h
 |aG=>exact h
structure jE (G:Gx) (k:Nat) (X:Cx):Prop where
 K:X.K=G.K
 fS:0<k->X.fS=true
 room:0<k->gR k X.A
 un:X.A.units+200<cLine
theorem jE.hu (o:jE G k X):X.A.units+100<cLine:=by have:=o.un;omega
theorem jE.hu1 (o:jE G k X):X.A.units+1<cLine:=by have:=o.hu;omega
noncomputable def fm (G:Gx)(f:Em):TE:=λσ H Q=>∃w S τ,HR G w S H/\Sl w τ σ /\ br RT G w (f τ S) Q
noncomputable def A_ (G:Gx)(f:En->Cs->R Bool):TT:=λσ H Q=>∃w S τ,HR G w S H/\Sl w τ σ /\ br (λ_ a b=>a=b) G w (f τ S) Q
noncomputable def D6 (G:Gx)(f:En->Cs->R (List Tr)):TA:=λσ H Q=>∃w S τ,HR G w S H/\Sl w τ σ /\ br bL G w (f τ S) Q
noncomputable def MV (G:Gx)(f:Sm):TS:=λD σ H=>∃w S τ,HR G w S H/\Sl w τ σ /\ cG G w (f τ S) D
noncomputable def aaD (G:Gx)(f:Tr->En->Cs->R En):TG:=λv σ H Q=>∃w S τ t,HR G w S H/\Sl w τ σ /\ RT w t v/\br Sl G w (f t τ S) Q
structure TV (G:Gx) (k:Nat) (X:Cx) (e:Expr) (f:Em):Prop where
 kh:jE G k X->PE X e (fm G f)
noncomputable instance {G:Gx}{k:Nat}{X:Cx}{e:Expr}{f:Em}:CoeFun (TV G k X e f) (λ_=>jE G k X->PE X e (fm G f)):=⟨TV.kh⟩
structure Dg (G:Gx) (k:Nat) (X:Cx) (e:Expr) (f:En->Cs->R Bool):Prop where
 kh:jE G k X->PT X e (A_ G f)
noncomputable instance {G:Gx}{k:Nat}{X:Cx}{e:Expr}{f:En->Cs->R Bool}:CoeFun (Dg G k X e f) (λ_=>jE G k X->PT X e (A_ G f)):=⟨Dg.kh⟩
structure MW (G:Gx) (k:Nat) (X:Cx) (e:Expr) (f:En->Cs->R Bool):Prop where
 kh:jE G k X->PW X e (A_ G f)
noncomputable instance {G:Gx}{k:Nat}{X:Cx}{e:Expr}{f:En->Cs->R Bool}:CoeFun (MW G k X e f) (λ_=>jE G k X->PW X e (A_ G f)):=⟨MW.kh⟩
structure wu (G:Gx) (k:Nat) (X:Cx) (es:List Expr) (f:En->Cs->R (List Tr)):Prop where
 kh:jE G k X->PA X es (D6 G f)
noncomputable instance {G:Gx}{k:Nat}{X:Cx}{es:List Expr}{f:En->Cs->R (List Tr)}:CoeFun (wu G k X es f) (λ_=>jE G k X->PA X es (D6 G f)):=⟨wu.kh⟩
structure zo (G:Gx) (k:Nat) (X:Cx) (st:Stmt) (f:Sm):Prop where
 kh:jE G k X->PS X st (MV G f)
noncomputable instance {G:Gx}{k:Nat}{X:Cx}{st:Stmt}{f:Sm}:CoeFun (zo G k X st f) (λ_=>jE G k X->PS X st (MV G f)):=⟨zo.kh⟩
structure Jm (G:Gx) (k:Nat) (X:Cx) (st:List Stmt) (f:Sm):Prop where
 kh:jE G k X->wM X st (MV G f)
noncomputable instance {G:Gx}{k:Nat}{X:Cx}{st:List Stmt}{f:Sm}:CoeFun (Jm G k X st f) (λ_=>jE G k X->wM X st (MV G f)):=⟨Jm.kh⟩
structure Lg (G:Gx) (k:Nat) (X:Cx) (tg:Expr) (f:Tr->En->Cs->R En):Prop where
 kh:jE G k X->PG X tg (aaD G f)
noncomputable instance {G:Gx}{k:Nat}{X:Cx}{tg:Expr}{f:Tr->En->Cs->R En}:CoeFun (Lg G k X tg f) (λ_=>jE G k X->PG X tg (aaD G f)):=⟨Lg.kh⟩
section
variable {X:Cx}{e:Expr}{st:Stmt}{sts:List Stmt}{es:List Expr}
theorem PE.wk {t t':TE}(h:PE X e t)(g:∀ σ H Q,t' σ H Q->t σ H Q):PE X e t':=λah s σ H Q I q=>h ah s σ H Q I (g _ _ _ q)
theorem PT.wk {t t':TT}(h:PT X e t)(g:∀ σ H Q,t' σ H Q->t σ H Q):PT X e t':=λah s σ H Q I q=>h ah s σ H Q I (g _ _ _ q)
theorem PW.wk {t t':TT}(h:PW X e t)(g:∀ σ H Q,t' σ H Q->t σ H Q):PW X e t':=λwh ah s σ H Q I q=>h wh ah s σ H Q I (g _ _ _ q)
theorem PA.wk {t t':TA}(h:PA X es t)(g:∀ σ H Q,t' σ H Q->t σ H Q):PA X es t':=λpos ah s σ H Q I q=>h pos ah s σ H Q I (g _ _ _ q)
theorem PS.wk {t t':TS}(h:PS X st t)(g:∀D σ H,t' D σ H->t D σ H):PS X st t':=λah s σ H D I q=>h ah s σ H D I (g _ _ _ q)
theorem wM.wk {t t':TS}(h:wM X sts t)(g:∀D σ H,t' D σ H->t D σ H):wM X sts t':=λah s σ H D I q=>h ah s σ H D I (g _ _ _ q)
theorem PG.wk {t t':TG}(h:PG X e t)(g:∀v σ H Q,t' v σ H Q->t v σ H Q):PG X e t':=λah s σ H v u Q I r q=>h ah s σ H v u Q I r (g _ _ _ _ q)
end
noncomputable def dB:Expr->Bool|.Starred _ _=>true|_=>false
noncomputable def dg:List Expr->Bool|[]=>true|e::r=>!dB e && dg r
theorem cE {e:Expr}{es:List Expr}{env:Env}(h:dB e=false):starEach (e::es) env=(false,eval e env)::starEach es env:=by
 cases e<;>first|rfl | (cases h;done)
theorem dZ:∀{es:List Expr},dg es=true->(backTo pos (starEach es env)).any (·.1)=false
 |[],_=>rfl
 |e::es,h=>by
  have h:=zbf.mp (show (!dB e && dg es)=true from h)
  rw[cE (by simpa using h.1)]
  show (false || (backTo pos (starEach es env)).any (·.1))=false
  rw[dZ h.2];rfl
theorem Ba:∀{es:List Expr},dg es=true->(backTo pos (starEach es env)).all (λx=>!x.1)=true
 |[],_=>rfl
 |e::es,h=>by
  have h:=zbf.mp (show (!dB e && dg es)=true from h)
  rw[cE (by simpa using h.1)]
  show (true && (backTo pos (starEach es env)).all (λx=>!x.1))=true
  rw[Ba h.2];rfl
section
variable {G:Gx}{k:Nat}{X:Cx}{a b c:Expr}{fa fb fc:Em}{pos Sh:Pos}
noncomputable def aa (i:Nat):Em:=λτ S=>match τ[i]? with|some (some t)=>.ok t S|_=>.aG
noncomputable def mC (t:Tr):Em:=λ_ S=>.ok t S
theorem aaE (i:Nat)(hN:autoParam (X.N[i]? = some x) zp_0)(hv:autoParam (Vis X.env.scope x) zp_7)(hd:autoParam ((x == ("__debug__" : Str))=false) zp_1)
  (AE:autoParam ((x == ("__classdict__" : Str))=false) zp_1):TV G k X (.Name x pos) (aa i):=.mk<|λ_=>(Lu hN hv hd AE).wk λσ H Q h=>by
 obtain⟨w,S,τ,hr,sl,q⟩:=h;unfold aa at q;split at q
 ·rename_i t e
  obtain⟨v,e2,r⟩:=sl.rG i t e;exact⟨v,e2,q w H v (.refl w) hr r⟩
 ·exact q.elim
theorem MX (h:PE X e (tC v))(r:∀w:Wd,w.K=G.K->RT w t v):TV G k X e (mC t):=.mk<|λ_=>h.wk λσ H Q h=>by
 obtain⟨w,S,τ,hr,sl,q⟩:=h;exact q w H v (.refl w) hr (r w hr.K)
theorem d7:RT w (.int i) (.int i):=by unfold RT;rfl
theorem kE:RT w (.str i) (.str i):=by unfold RT;rfl
theorem gC {w:Wd}{i:Bool}:RT w (.bl i) (.bl i):=by unfold RT;rfl
theorem tN:RT w .bB .bB:=by unfold RT;rfl
theorem aaF {i j pos}:TV G k X (.Constant (.int i) j pos) (mC (.int i)):=MX Ze λ_ _=>d7
theorem ahl {i j pos}:TV G k X (.Constant (.bool i) j pos) (mC (.bl i)):=MX afS λ_ _=>gC
theorem aaG {i j pos}:TV G k X (.Constant (.str i) j pos) (mC (.str i)):=MX Zg λ_ _=>kE
theorem aaH {j pos}:TV G k X (.Constant .none j pos) (mC .bB):=MX Zf λ_ _=>tN
theorem c9 (hm:X.mg x=some (.int i tk))(hg:autoParam (Gl X x) zp_0)(hd:autoParam ((x == ("__debug__" : Str))=false) zp_1):TV G k X (.Name x pos) (mC (.int i)):=MX (yT (v:=.int i) hg hm ⟨_,rfl⟩ hd) λ_ _=>d7
noncomputable def ai (g:Tr->Tr->Cs->R Tr)(fa fb:Em):Em:=λτ S=>(fa τ S).aF λt1 S1=>(fb τ S1).aF λt2 S2=>g t1 t2 S2
noncomputable def mUn (g:Tr->Cs->R Tr)(fa:Em):Em:=λτ S=>(fa τ S).aF λt1 S1=>g t1 S1
noncomputable def r2 (G:Gx)(g:Tr->Tr->Cs->R Tr):R2:=λx y H Q=>∃w S t1 t2,HR G w S H/\RT w t1 x/\RT w t2 y/\br RT G w (g t1 t2 S) Q
noncomputable def r1 (G:Gx)(g:Tr->Cs->R Tr):V->Hp->VK->Prop:=λx H Q=>∃w S t1,HR G w S H/\RT w t1 x/\br RT G w (g t1 S) Q
theorem qi {g:Tr->Tr->Cs->R Tr}{σ:St}{H:Hp}{Q:VK}(h:fm G (ai g fa fb) σ H Q):tOp (r2 G g) (fm G fa) (fm G fb) σ H Q:=by
 obtain⟨w,S,τ,hr,sl,q⟩:=h;refine⟨w,S,τ,hr,sl,(br.aF q).mono λx H1 cC=>?_⟩
 obtain⟨w1,S1,t1,dD,bN,r1,_,q1⟩:=cC;exact⟨w1,S1,τ,bN,sl.mono dD,(br.aF q1).mono λy H2 dI=>by obtain⟨w2,S2,t2,fq,dN,r2,_,q2⟩:=dI;exact⟨w2,S2,t1,t2,dN,RT.mono fq _ _ r1,r2,q2⟩⟩
structure nR (G:Gx) (k:Nat) (f:Value->Value->Sem Value) (g:Tr->Tr->Cs->R Tr):Prop where
 kh:∀X:Cx,jE G k X->kg X f (r2 G g)
noncomputable instance {G:Gx}{k:Nat}{f:Value->Value->Sem Value}{g:Tr->Tr->Cs->R Tr}:CoeFun (nR G k f g) (λ_=>∀X:Cx,jE G k X->kg X f (r2 G g)):=⟨nR.kh⟩
theorem aaI (ho:nR G k (binaryOp op) g)(ha:TV G k X a fa)(hb:TV G k X b fb):TV G k X (.BinOp a op b pos) (ai g fa fb):=.mk<|λo =>
 (af7 (ho X o) (ha o) (hb o)).wk λ_ _ _ h=>qi h
theorem ahm {op:UnaryOp}{g:Tr->Cs->R Tr}(ho:∀X:Cx,jE G k X->UnR X (unaryOp op) (r1 G g))(ha:TV G k X a fa):TV G k X (.UnaryOp op a pos) (mUn g fa):=.mk<|λo =>
 (af8 (ho X o) (ha o)).wk λσ H Q h=>by
  obtain⟨w,S,τ,hr,sl,q⟩:=h;exact⟨w,S,τ,hr,sl,(br.aF q).mono λx H1 eN=>by obtain⟨w1,S1,t1,dD,bN,r1,_,q1⟩:=eN;exact⟨w1,S1,t1,bN,r1,q1⟩⟩
theorem qj (ho:nR G k (compareOp op) g)(ha:TV G k X a fa)(hb:TV G k X b fb)(hm:behindInMarks op b=false):TV G k X (.Compare a [op] [b] pos) (ai g fa fb):=.mk<|λo =>
 (Rl (ho X o) (ha o) (hb o) hm).wk λ_ _ _ h=>qi h
noncomputable def l_ (g g':Tr->Tr->Cs->R Tr)(fa fb fc:Em):Em:=λτ S=>(fa τ S).aF λt1 S1=>(fb τ S1).aF λt2 S2=>(g t1 t2 S2).aF λz S3=>match z with
 |.bl true=>(fc τ S3).aF λt3 S4=>g' t2 t3 S4
 |.bl false=>.ok (.bl false) S3
 |_=>.aG
theorem Bb {g g':Tr->Tr->Cs->R Tr}{σ:St}{H:Hp}{Q:VK}(h:fm G (l_ g g' fa fb fc) σ H Q):DA (r2 G g) (r2 G g') (fm G fa) (fm G fb) (fm G fc) σ H Q:=by
 obtain⟨w,S,τ,hr,sl,q⟩:=h;refine⟨w,S,τ,hr,sl,(br.aF q).mono λx H1 iu=>?_⟩
 obtain⟨w1,S1,t1,dD,bN,r1,_,q1⟩:=iu;refine⟨w1,S1,τ,bN,sl.mono dD,(br.aF q1).mono λy H2 jP=>?_⟩
 obtain⟨w2,S2,t2,fq,dN,r2,_,q2⟩:=jP;refine⟨w2,S2,t1,t2,dN,RT.mono fq _ _ r1,r2,(br.aF q2).mono λz H3 l8=>?_⟩
 obtain⟨w3,S3,t3,mh,ql,r3,_,q3⟩:=l8;split at q3
 ·unfold RT at r3
  subst r3;refine⟨true,rfl,AX ⟨w3,S3,τ,ql,(sl.mono dD).mono (fq.trans mh),(br.aF q3).mono λu H4 jQ=>by obtain⟨w4,S4,t4,MY,Lh,r4,_,q4⟩:=jQ;exact⟨w4,S4,t2,t4,Lh,RT.mono (mh.trans MY) _ _ r2,r4,q4⟩⟩⟩
 ·unfold RT at r3
  subst r3;exact⟨false,rfl,AW (q3 w3 H3 _ (.refl _) ql gC)⟩
 ·exact q3.elim
theorem MZ (ho:nR G k (compareOp op) g)(v8:nR G k (compareOp LG) g')(ha:TV G k X a fa)(hb:TV G k X b fb)(hc:TV G k X c fc)(hm:autoParam (lastMarks [op,LG] [b,c]=false) zp_5):
  TV G k X (.Compare a [op,LG] [b,c] pos) (l_ g g' fa fb fc):=.mk<|λo=>(LF (ho X o) (v8 X o) (ha o) (hb o) (hc o) hm).wk λ_ _ _ h=>Bb h
noncomputable def mB (f:Em):En->Cs->R Bool:=λτ S=>(f τ S).aF λt S1=>match t with|.bl b=>.ok b S1|_=>.aG
theorem rY {f:Em}{σ:St}{H:Hp}{Q:Bool->Hp->Prop}(h:A_ G (mB f) σ H Q):fm G f σ H λx H1=>∃c,x = .bl c/\Q c H1:=by
 obtain⟨w,S,τ,hr,sl,q⟩:=h;refine⟨w,S,τ,hr,sl,(br.aF q).mono λx H1 jT=>?_⟩
 obtain⟨w1,S1,t1,dD,bN,r1,_,q1⟩:=jT;split at q1
 ·unfold RT at r1
  subst r1;exact⟨_,rfl,q1 w1 H1 _ (.refl _) bN rfl⟩
 ·exact q1.elim
theorem aaJ (h:TV G k X e f)(he:autoParam (∀sL,isTrue e X.env sL=(do let v <-sL;standAt e.pos;holding [v] (truthy v))) zp_3):Dg G k X e (mB f):=.mk<|λo=>(Zj (h o) he).wk λ_ _ _ h=>rY h
theorem kF (ho:nR G k (compareOp op) g)(ha:TV G k X a fa)(hb:TV G k X b fb)(hm:behindInMarks op b=false):Dg G k X (.Compare a [op] [b] pos) (mB (ai g fa fb)):=.mk<|λo =>
 (Rm (ho X o) (ha o) (hb o) hm).wk λ_ _ _ h=>qi (rY h)
theorem Bc (ho:nR G k (compareOp op) g)(v8:nR G k (compareOp LG) g')(ha:TV G k X a fa)(hb:TV G k X b fb)(hc:TV G k X c fc)(hm:autoParam (lastMarks [op,LG] [b,c]=false) zp_5):
  Dg G k X (.Compare a [op,LG] [b,c] pos) (mB (l_ g g' fa fb fc)):=.mk<|λo=>(LH (ho X o) (v8 X o) (ha o) (hb o) (hc o) hm).wk λ_ _ _ h=>Bb (rY h)
variable {ta tb:En->Cs->R Bool}{dw:List Expr}
noncomputable def lO (ta tb:En->Cs->R Bool):En->Cs->R Bool:=λτ S=>(ta τ S).aF λx S1=>if x=true then tb τ S1 else .ok false S1
noncomputable def Dh (ta tb:En->Cs->R Bool):En->Cs->R Bool:=λτ S=>(ta τ S).aF λx S1=>if x=true then .ok true S1 else tb τ S1
noncomputable def tO (ta:En->Cs->R Bool):En->Cs->R Bool:=λτ S=>(ta τ S).aF λx S1=>.ok (!x) S1
theorem aaK (ha:Dg G k X a ta):Dg G k X (.UnaryOp .Not a pos) (tO ta):=.mk<|λo=>(Zm (ha o)).wk λσ H Q h=>by
 obtain⟨w,S,τ,hr,sl,q⟩:=h;refine⟨w,S,τ,hr,sl,(br.aF q).mono λx H1 M0=>?_⟩
 obtain⟨w1,S1,t1,dD,bN,r1,_,q1⟩:=M0;subst r1;exact q1 w1 H1 _ (.refl _) bN rfl
theorem Ss (ha:Dg G k X a ta):MW G k X (.BoolOp .And [a] pos) ta:=.mk<|λo=>Q8 (ha o)
theorem aaL (ha:Dg G k X a ta):MW G k X (.BoolOp .Or [a] pos) ta:=.mk<|λo=>Zk (ha o)
theorem aaM (ha:Dg G k X a ta)(hb:MW G k X (.BoolOp .And (b::dw) pos) tb):MW G k X (.BoolOp .And (a::b::dw) pos) (lO ta tb):=.mk<|λo=>(Zl (ha o) (hb o)).wk λσ H Q h=>by
 obtain⟨w,S,τ,hr,sl,q⟩:=h;refine⟨w,S,τ,hr,sl,(br.aF q).mono λx H1 oV=>?_⟩
 obtain⟨w1,S1,t1,dD,bN,r1,_,q1⟩:=oV;subst r1;cases t1 with
 |true=>rw[if_pos rfl] at q1;exact AX ⟨w1,S1,τ,bN,sl.mono dD,q1⟩
 |false=>rw[if_neg zal] at q1;exact AW (q1 w1 H1 _ (.refl _) bN rfl)
theorem ahn (ha:Dg G k X a ta)(hb:MW G k X (.BoolOp .Or (b::dw) pos) tb):MW G k X (.BoolOp .Or (a::b::dw) pos) (Dh ta tb):=.mk<|λo=>(afT (ha o) (hb o)).wk λσ H Q h=>by
 obtain⟨w,S,τ,hr,sl,q⟩:=h;refine⟨w,S,τ,hr,sl,(br.aF q).mono λx H1 kG=>?_⟩
 obtain⟨w1,S1,t1,dD,bN,r1,_,q1⟩:=kG;subst r1;cases t1 with
 |true=>rw[if_pos rfl] at q1;exact AX (q1 w1 H1 _ (.refl _) bN rfl)
 |false=>rw[if_neg zal] at q1;exact AW ⟨w1,S1,τ,bN,sl.mono dD,q1⟩
theorem MW.t (h:MW G k X e ta):Dg G k X e ta:=.mk<|λo=>(h o).pt
noncomputable def M4 (fa fb:Em):Em:=λτ S=>(fa τ S).aF λt S1=>match t with|.bl true=>fb τ S1|.bl false=>.ok (.bl false) S1|_=>.aG
noncomputable def mOr (fa fb:Em):Em:=λτ S=>(fa τ S).aF λt S1=>match t with|.bl true=>.ok (.bl true) S1|.bl false=>fb τ S1|_=>.aG
noncomputable def Su (fa:Em):Em:=λτ S=>(fa τ S).aF λt S1=>match t with|.bl b=>.ok (.bl (!b)) S1|_=>.aG
noncomputable def Di (ta:En->Cs->R Bool)(fa fb:Em):Em:=λτ S=>(ta τ S).aF λx S1=>if x=true then fa τ S1 else fb τ S1
theorem aaN {op}(h:TV G k X a fa):TV G k X (.BoolOp op [a] pos) fa:=.mk<|λo=>Zn (h o)
theorem aaO (ha:TV G k X a fa)(hb:TV G k X (.BoolOp .And (b::dw) pos) fb):TV G k X (.BoolOp .And (a::b::dw) pos) (M4 fa fb):=.mk<|λo=>(Zo (ha o) (hb o)).wk λσ H Q h=>by
 obtain⟨w,S,τ,hr,sl,q⟩:=h;refine⟨w,S,τ,hr,sl,(br.aF q).mono λx H1 nU=>?_⟩
 obtain⟨w1,S1,t1,dD,bN,r1,_,q1⟩:=nU;split at q1
 ·unfold RT at r1;subst r1;exact⟨true,rfl,AX ⟨w1,S1,τ,bN,sl.mono dD,q1⟩⟩
 ·unfold RT at r1;subst r1;exact⟨false,rfl,AW (q1 w1 H1 _ (.refl _) bN gC)⟩
 ·exact q1.elim
theorem aho (ha:TV G k X a fa)(hb:TV G k X (.BoolOp .Or (b::dw) pos) fb):TV G k X (.BoolOp .Or (a::b::dw) pos) (mOr fa fb):=.mk<|λo=>(afW (ha o) (hb o)).wk λσ H Q h=>by
 obtain⟨w,S,τ,hr,sl,q⟩:=h;refine⟨w,S,τ,hr,sl,(br.aF q).mono λx H1 i7=>?_⟩
 obtain⟨w1,S1,t1,dD,bN,r1,_,q1⟩:=i7;split at q1
 ·unfold RT at r1;subst r1;exact⟨true,rfl,AX (q1 w1 H1 _ (.refl _) bN gC)⟩
 ·unfold RT at r1;subst r1;exact⟨false,rfl,AW ⟨w1,S1,τ,bN,sl.mono dD,q1⟩⟩
 ·exact q1.elim
theorem M5 (ha:TV G k X a fa):TV G k X (.UnaryOp .Not a pos) (Su fa):=.mk<|λo=>(Zp (ha o)).wk λσ H Q h=>by
 obtain⟨w,S,τ,hr,sl,q⟩:=h;refine⟨w,S,τ,hr,sl,(br.aF q).mono λx H1 nV=>?_⟩
 obtain⟨w1,S1,t1,dD,bN,r1,_,q1⟩:=nV;split at q1
 ·unfold RT at r1;subst r1;exact⟨_,rfl,q1 w1 H1 _ (.refl _) bN gC⟩
 ·exact q1.elim
theorem aaP (hc:Dg G k X c ta)(ha:TV G k X a fa)(hb:TV G k X b fb):TV G k X (.IfExp c a b pos) (Di ta fa fb):=.mk<|λo=>(Lw (hc o) (ha o) (hb o)).wk λσ H Q h=>by
 obtain⟨w,S,τ,hr,sl,q⟩:=h;refine⟨w,S,τ,hr,sl,(br.aF q).mono λx H1 tP=>?_⟩
 obtain⟨w1,S1,t1,dD,bN,r1,_,q1⟩:=tP;subst r1;cases t1 with
 |true=>rw[if_pos rfl] at q1;exact AX ⟨w1,S1,τ,bN,sl.mono dD,q1⟩
 |false=>rw[if_neg zal] at q1;exact AW ⟨w1,S1,τ,bN,sl.mono dD,q1⟩
noncomputable def ak:En->Cs->R (List Tr):=λ_ S=>.ok [] S
noncomputable def af (f:Em)(r:En->Cs->R (List Tr)):En->Cs->R (List Tr):=λτ S=>(f τ S).aF λt S1=>(r τ S1).aF λts S2=>.ok (t::ts) S2
theorem aaQ:wu G k X [] ak:=.mk<|λ_=>qa.wk λσ H Q h=>by
 obtain⟨w,S,τ,hr,sl,q⟩:=h;exact q w H [] (.refl w) hr .nil
theorem Sv (ha:TV G k X e f)(hr:wu G k X es fr)(hs:autoParam (dB e=false) zp_0):wu G k X (e::es) (af f fr):=.mk<|λo=>(g_ (ha o) (hr o) (cE hs)).wk λσ H Q h=>by
 obtain⟨w,S,τ,hr,sl,q⟩:=h;refine⟨w,S,τ,hr,sl,(br.aF q).mono λx H1 tQ=>?_⟩
 obtain⟨w1,S1,t1,dD,bN,r1,_,q1⟩:=tQ;refine⟨w1,S1,τ,bN,sl.mono dD,(br.aF q1).mono λxs H2 tR=>?_⟩
 obtain⟨w2,S2,ts,fq,dN,r2,_,q2⟩:=tR;exact q2 w2 H2 _ (.refl _) dN (.cons (RT.mono fq _ _ r1) r2)
noncomputable def cZ (fr:En->Cs->R (List Tr)):Em:=λτ S=>(fr τ S).aF λts S1=>if ts.length<=sizeLine then .ok (.tp ts) S1 else .aG
noncomputable def kI (fr:En->Cs->R (List Tr)):Em:=λτ S=>(fr τ S).aF λts S1=>if ts.length<=sizeLine then .ok (.ls ts) S1 else .aG
noncomputable def nI (fr:En->Cs->R (List Tr)):Em:=λτ S=>(fr τ S).aF λts S1=>if ts.length<=sizeLine then .ok (.hd S1.length) (S1++[.bA ts]) else .aG
theorem HR.aaR {w:Wd}{S:Cs}{H:Hp}{ts:List Tr}{xs:List V}(hr:HR G w S H)(r:bL w ts xs){Q:VK}{S':Cs}(hS:S'=S)(q:br RT G w (.ok (.tp ts) S') Q):∀p,H p=none->Q (.ref p) (bD H p (.gQ xs)):=λp hp=>by
 subst hS;obtain⟨h2,le⟩:=hr.lay hp (.gQ xs)
 refine q _ _ _ le h2 ?_
 unfold RT;exact⟨p,xs,rfl,av,bL.mono le _ _ r⟩
theorem HR.jF {w:Wd}{S:Cs}{H:Hp}{ts:List Tr}{xs:List V}(hr:HR G w S H)(r:bL w ts xs){Q:VK}{S':Cs}(hS:S'=S)(q:br RT G w (.ok (.ls ts) S') Q):∀p,H p=none->Q (.ref p) (bD H p (.bA xs)):=λp hp=>by
 subst hS;obtain⟨h2,le⟩:=hr.lay hp (.bA xs)
 refine q _ _ _ le h2 ?_
 unfold RT;exact⟨p,xs,rfl,av,bL.mono le _ _ r⟩
theorem HR.ahp {w:Wd}{S:Cs}{H:Hp}{ts:List Tr}{xs:List V}(hr:HR G w S H)(r:bL w ts xs){Q:VK}{S':Cs}{n:Nat}(hS:S'=S++[.bA ts])(hn:n=S.length)(q:br RT G w (.ok (.hd n) S') Q):∀p,H p=none->Q (.ref p) (bD H p (.bA xs)):=λp hp=>by
 subst hS hn;obtain⟨h2,le⟩:=hr.Jl (c:=.bA ts) hp (o:=.bA xs) rfl ⟨xs,av,bL.mono (w.tM p) _ _ r⟩
 refine q _ _ _ le h2 ?_
 unfold RT;refine⟨by rw[<-hr.n];exact zbi _,?_⟩
 show V.ref p=V.ref (if S.length=w.n then p else w.ρ S.length)
 rw[if_pos hr.n.symm]
theorem aaS {x1}(h:wu G k X es fr):TV G k X (.Tuple es x1 pos) (cZ fr):=.mk<|λo=>(LO (h o)).wk λσ H Q h=>by
 obtain⟨w,S,τ,hr,sl,q⟩:=h;refine⟨w,S,τ,hr,sl,(br.aF q).mono λxs H1 tS=>?_⟩
 obtain⟨w1,S1,ts,dD,bN,r1,_,q1⟩:=tS;split at q1
 ·exact⟨by rw[r1.len];assumption,bN.aaR r1 rfl q1⟩
 ·exact q1.elim
theorem aaT (h:wu G k X es fr):TV G k X (.List es pos) (kI fr):=.mk<|λo=>(LP (h o)).wk λσ H Q h=>by
 obtain⟨w,S,τ,hr,sl,q⟩:=h;refine⟨w,S,τ,hr,sl,(br.aF q).mono λxs H1 D7=>?_⟩
 obtain⟨w1,S1,ts,dD,bN,r1,_,q1⟩:=D7;split at q1
 ·exact⟨by rw[r1.len];assumption,bN.jF r1 rfl q1⟩
 ·exact q1.elim
theorem Sw (h:wu G k X es fr):TV G k X (.List es pos) (nI fr):=.mk<|λo=>(LP (h o)).wk λσ H Q h=>by
 obtain⟨w,S,τ,hr,sl,q⟩:=h;refine⟨w,S,τ,hr,sl,(br.aF q).mono λxs H1 aaU=>?_⟩
 obtain⟨w1,S1,ts,dD,bN,r1,_,q1⟩:=aaU;split at q1
 ·exact⟨by rw[r1.len];assumption,bN.ahp r1 rfl rfl q1⟩
 ·exact q1.elim
end
noncomputable def cF (S:Cs)(n:Nat):Option (List Tr):=match S[n]? with|some (.bA l)=>some l|_=>none
noncomputable def tT (S:Cs)(n:Nat):Option (List (dW×Tr)):=match S[n]? with|some (.jD l)=>some l|_=>none
noncomputable def iM (S:Cs)(n:Nat):Option (Str×List (Str×Tr)):=match S[n]? with|some (.eS c l)=>some (c,l)|_=>none
theorem cN (h:cF S n=some l):S[n]? = some (.bA l):=by
 unfold cF at h;split at h
 ·cases h;assumption
 ·cases h
theorem gW (h:tT S n=some l):S[n]? = some (.jD l):=by
 unfold tT at h;split at h
 ·cases h;assumption
 ·cases h
theorem fu (h:iM S n=some (c,l)):S[n]? = some (.eS c l):=by
 unfold iM at h;split at h
 ·cases h;assumption
 ·cases h
noncomputable def D8 (S:Cs):Tr->Option (List Tr)
 |.ls l=>some l
 |.hd n=>cF S n
 |_=>none
noncomputable def GF (S:Cs):Tr->Option (List Tr)
 |.ls l=>some l
 |.kl l=>some l
 |.hd n=>cF S n
 |_=>none
noncomputable def VX:Tr->Option (List Tr)
 |.tp l=>some l
 |.kt l=>some l
 |_=>none
noncomputable def xw (S:Cs):Tr->Option (List Tr)
 |.tp l=>some l
 |.kt l=>some l
 |.ls l=>some l
 |.kl l=>some l
 |.hd n=>cF S n
 |_=>none
noncomputable def QY (S:Cs):Tr->Option (List (dW×Tr))
 |.hd n=>tT S n
 |_=>none
theorem RT.cO (r:RT w (.hd n) v):n<w.n/\v = .ref (w.ρ n):=by unfold RT at r;exact r
theorem qm (hr:HR G w S H)(r:RT w t v)(e:D8 S t=some l):∃a xs,v = .ref a/\H a=some (.bA xs)/\bL w l xs:=by
 cases t with
 |ls m =>
  cases e;unfold RT at r;obtain⟨a,xs,rfl,h,r⟩:=r;exact⟨a,xs,rfl,hr.sub _ _ h,r⟩
 |hd n =>
  obtain⟨xs,h1,h2⟩:=hr.cell n _ (cN e)
  exact⟨_,xs,r.cO.2,h1,h2⟩
 |_=>cases e
theorem mj (hr:HR G w S H)(r:RT w t v)(e:GF S t=some l):∃a xs,v = .ref a/\jn G.K H a xs/\bL w l xs:=by
 cases t with
 |ls m =>
  cases e;unfold RT at r;obtain⟨a,xs,rfl,h,r⟩:=r;exact⟨a,xs,rfl,jn.of (hr.sub _ _ h),r⟩
 |kl m =>
  cases e;unfold RT at r;obtain⟨a,xs,rfl,h,r⟩:=r;exact⟨a,xs,rfl,hr.sqL h,r⟩
 |hd n =>
  obtain⟨xs,h1,h2⟩:=hr.cell n _ (cN e)
  exact⟨_,xs,r.cO.2,jn.of h1,h2⟩
 |_=>cases e
theorem mq (hr:HR G w S H)(r:RT w t v)(e:VX t=some l):∃a xs,v = .ref a/\nM G.K H a xs/\bL w l xs:=by
 cases t with
 |tp m =>
  cases e;unfold RT at r;obtain⟨a,xs,rfl,h,r⟩:=r;exact⟨a,xs,rfl,nM.of (hr.sub _ _ h),r⟩
 |kt m =>
  cases e;unfold RT at r;obtain⟨a,xs,rfl,h,r⟩:=r;exact⟨a,xs,rfl,hr.sqT h,r⟩
 |_=>cases e
theorem tU (hr:HR G w S H)(r:RT w t v)(e:xw S t=some l):∃a xs,v = .ref a/\(jn G.K H a xs\/nM G.K H a xs)/\bL w l xs:=by
 cases t with
 |ls m=>obtain⟨a,xs,h1,h2,h3⟩:=mj hr r (l:=l) (e);exact⟨a,xs,h1,.inl h2,h3⟩
 |kl m=>obtain⟨a,xs,h1,h2,h3⟩:=mj hr r (l:=l) (e);exact⟨a,xs,h1,.inl h2,h3⟩
 |hd n=>obtain⟨a,xs,h1,h2,h3⟩:=mj hr r (l:=l) (e);exact⟨a,xs,h1,.inl h2,h3⟩
 |tp m=>obtain⟨a,xs,h1,h2,h3⟩:=mq hr r (l:=l) (e);exact⟨a,xs,h1,.inr h2,h3⟩
 |kt m=>obtain⟨a,xs,h1,h2,h3⟩:=mq hr r (l:=l) (e);exact⟨a,xs,h1,.inr h2,h3⟩
 |_=>cases e
theorem zq (hr:HR G w S H)(r:RT w t v)(e:QY S t=some m):∃n aQ,t = .hd n/\S[n]? = some (.jD m)/\v = .ref (w.ρ n)/\H (w.ρ n)=some (.dK aQ)/\RK w m aQ:=by
 cases t with
 |hd n =>
  obtain⟨xs,h1,h2⟩:=hr.cell n _ (gW e)
  exact⟨n,xs,rfl,gW e,r.cO.2,h1,h2⟩
 |_=>cases e
theorem bL.iE (h:bL w l xs)(e:L2.iE l i=some t):∃v,L2.iE xs i=some v/\RT w t v:=by
 unfold L2.iE at e ⊢
 rw[h.len];cases q:Av l.length i with
 |none=>rw[q] at e;cases e
 |some j=>rw[q] at e;exact h.get e
noncomputable def cT:Tr->Tr->Cs->R Tr:=λt1 t2 S=>match t1,t2 with
 |.int i,.int j=>.ok (.int (i+j)) S
 |.str a,.str b=>if a.length+b.length<=sizeLine then .ok (.str (a++b)) S else .aG
 |.tp a,.tp b=>if a.isEmpty=false/\a.length+b.length<=sizeLine then .ok (.tp (a++b)) S else .aG
 |t1,t2=>match D8 S t1,D8 S t2 with
  |some a,some b=>if a.length+b.length<=sizeLine then .ok (.ls (a++b)) S else .aG
  |_,_=>.aG
noncomputable def gI (g:Int->Int->Tr):Tr->Tr->Cs->R Tr:=λt1 t2 S=>match t1,t2 with
 |.int i,.int j=>.ok (g i j) S
 |_,_=>.aG
noncomputable def Jo (c:Int->Int->Bool)(g:Int->Int->Tr):Tr->Tr->Cs->R Tr:=λt1 t2 S=>match t1,t2 with
 |.int i,.int j=>if c i j=true then .ok (g i j) S else .aG
 |_,_=>.aG
noncomputable abbrev dS:=gI λi j=>.int (i - j)
noncomputable abbrev Sx:=Jo (λ_ j=>decide (0<j/\j<1073741824)) λi j=>.int (i / j)
noncomputable abbrev oW:=Jo (λ_ j=>decide (0<j)) λi j=>.int (i % j)
noncomputable def qo:Tr->Tr->Cs->R Tr:=λt1 t2 S=>match t1,t2 with
 |.int i,.int j=>wo ((-(2 ^ 64)<i/\i<2 ^ 64)\/(-(2 ^ 64)<j/\j<2 ^ 64)) (.ok (.int (i * j)) S) .aG
 |.str a,.int n=>if 0<=n/\n<1000000/\a.length * n.toNat<=1000000 then .ok (.str (tw a n.toNat)) S else .aG
 |_,_=>.aG
noncomputable abbrev zu:=gI λi j=>.bl (decide (i<j))
noncomputable abbrev gLe:=gI λi j=>.bl (decide (i<=j))
noncomputable abbrev D9:=gI λi j=>.bl (decide (j<i))
noncomputable abbrev gGe:=gI λi j=>.bl (decide (j<=i))
noncomputable def D_:Tr->Cs->R Tr:=λt S=>match t with|.int i=>.ok (.int (-i)) S|_=>.aG
theorem bg (r:RT w (.int i) v):v = .int i:=by unfold RT at r;exact r
theorem cH (r:RT w (.str i) v):v = .str i:=by unfold RT at r;exact r
theorem qp (r:RT w (.bl i) v):v = .bl i:=by unfold RT at r;exact r
theorem kJ (r:RT w .bB v):v = .bB:=by unfold RT at r;exact r
theorem Bd (h:∀X:Cx,jE G k X->kg X f (Rh gv))(rg:∀(w:Wd) i j,RT w (g i j) (gv i j)):nR G k f (gI g):=.mk<|λX o ah s σ H x y v u Q I rx ry cC=>by
 obtain⟨w,S,t1,t2,hr,r1,r2,q⟩:=cC;unfold gI at q;split at q
 ·exact h X o ah s σ H x y v u Q I rx ry ⟨_,_,bg r1,bg r2,q w H _ (.refl w) hr (rg _ _ _)⟩
 ·exact q.elim
theorem M6 (h:∀X:Cx,jE G k X->kg X f (rI C gv))(hc:∀i j,c i j=true->C i j)(rg:∀(w:Wd) i j,RT w (g i j) (gv i j)):nR G k f (Jo c g):=.mk<|λX o ah s σ H x y v u Q I rx ry dI=>by
 obtain⟨w,S,t1,t2,hr,r1,r2,q⟩:=dI;unfold Jo at q;split at q
 ·split at q
  ·exact h X o ah s σ H x y v u Q I rx ry ⟨_,_,bg r1,bg r2,hc _ _ (by assumption),q w H _ (.refl w) hr (rg _ _ _)⟩
  ·exact q.elim
 ·exact q.elim
theorem ahr:nR G k (binaryOp .Sub) dS:=Bd (λX _=>ZD) λ_ _ _=>d7
theorem ahs:nR G k (binaryOp .FloorDiv) Sx:=M6 (λX _=>Rj) (λi j h=>(of_decide_eq_true h:0<j/\j<1073741824)) λ_ _ _=>d7
theorem aht:nR G k (binaryOp .Mod) oW:=M6 (λX _=>ZF) (λi j h=>of_decide_eq_true h) λ_ _ _=>d7
theorem M7:nR G k (compareOp .Lt) zu:=Bd (λX _=>agc) λ_ _ _=>gC
theorem M8:nR G k (compareOp .LtE) gLe:=Bd (λX _=>agd) λ_ _ _=>gC
theorem ahu:nR G k (compareOp .Gt) D9:=Bd (λX _=>age) λ_ _ _=>gC
theorem ahv:nR G k (compareOp .GtE) gGe:=Bd (λX _=>agf) λ_ _ _=>gC
theorem ahw:nR G k (binaryOp .Mult) qo:=.mk<|λX o ah s σ H x y v u Q I rx ry eN=>by
 obtain⟨w,S,t1,t2,hr,r1,r2,q⟩:=eN;unfold qo at q;split at q
 ·unfold wo at q
  split at q
  ·exact ZE ah s σ H x y v u Q I rx ry ⟨_,_,bg r1,bg r2,(by assumption),q w H _ (.refl w) hr d7⟩
  ·exact q.elim
 ·split at q
  ·rename_i h
   exact DR ah s σ H x y v u Q I rx ry ⟨_,_,cH r1,bg r2,h.1,h.2.1,h.2.2,q w H _ (.refl w) hr kE⟩
  ·exact q.elim
 ·exact q.elim
theorem ahx:nR G k (binaryOp .Add) cT:=.mk<|λX o ah s σ H x y v u Q I rx ry iu=>by
 obtain⟨w,S,t1,t2,hr,r1,r2,q⟩:=iu;unfold cT at q;split at q
 ·exact ZC ah s σ H x y v u Q I rx ry ⟨_,_,bg r1,bg r2,q w H _ (.refl w) hr d7⟩
 ·split at q
  ·exact DB ah s σ H x y v u Q I rx ry ⟨_,_,cH r1,cH r2,(by assumption),q w H _ (.refl w) hr kE⟩
  ·exact q.elim
 ·split at q
  ·rename_i a b h
   obtain⟨p,xs,e1,s1,R1⟩:=mq hr r1 (l:=a) rfl
   obtain⟨p2,ys,e2,s2,R2⟩:=mq hr r2 (l:=b) rfl
   rw[<-o.K] at s1 s2;refine RJ ah s σ H x y v u Q I rx ry ⟨p,p2,xs,ys,e1,e2,s1,s2,?_,by rw[R1.len,R2.len];exact h.2,λz=>?_,λz=>hr.aaR (R1.qW R2) rfl q⟩
   ·intro z
    have:=R1.len
    rw[z] at this;have h1:=h.1;cases a with
    |nil=>simp at h1
    |cons _ _=>simp at this
   ·have hb:b=[]:=by
     have:=R2.len
     rw[z] at this;cases b with
     |nil=>rfl
     |cons _ _=>simp at this
    subst hb;rw[zay] at q;rw[<-e1];exact q w H _ (.refl w) hr r1
  ·exact q.elim
 ·split at q
  ·rename_i a b ea eb
   split at q
   ·obtain⟨p,xs,e1,s1,R1⟩:=qm hr r1 ea
    obtain⟨p2,ys,e2,s2,R2⟩:=qm hr r2 eb;exact Z6 ah s σ H x y v u Q I rx ry ⟨p,p2,xs,ys,e1,e2,s1,s2,by rw[R1.len,R2.len];assumption,hr.jF (R1.qW R2) rfl q⟩
   ·exact q.elim
  ·exact q.elim
theorem ahy:∀X:Cx,jE G k X->UnR X (unaryOp .USub) (r1 G D_):=λX o ah s σ H x v Q I rx l8=>by
 obtain⟨w,S,t1,hr,r1,q⟩:=l8;unfold D_ at q;split at q
 ·exact ZG ah s σ H x v Q I rx ⟨_,bg r1,q w H _ (.refl w) hr d7⟩
 ·exact q.elim
noncomputable def M9:Tr->Tr->Option Bool
 |.int i,.int j=>some (decide (i=j))
 |.str i,.str j=>some (decide (i=j))
 |.bl i,.bl j=>some (i == j)
 |.bB,.bB=>some true
 |.bB,.int _=>some false
 |.int _,.bB=>some false
 |.bB,.bl _=>some false
 |.bl _,.bB=>some false
 |.bB,.str _=>some false
 |.str _,.bB=>some false
 |.int _,.str _=>some false
 |.str _,.int _=>some false
 |.bl _,.str _=>some false
 |.str _,.bl _=>some false
 |_,_=>none
mutual
noncomputable def Tr.lP:Tr->Bool
 |.tp l=>Tr.kK l
 |.ls l=>Tr.kK l
 |.kt _=>false
 |.kl _=>false
 |.hd _=>false
 |_=>true
noncomputable def Tr.kK:List Tr->Bool
 |[]=>true
 |t::l=>Tr.lP t && Tr.kK l
end
mutual
noncomputable def Tr.dp:Tr->Nat
 |.tp l=>Tr.qX l+1
 |.ls l=>Tr.qX l+1
 |_=>0
noncomputable def Tr.qX:List Tr->Nat
 |[]=>0
 |t::l=>max (Tr.dp t) (Tr.qX l)
end
mutual
noncomputable def Tr.dv:Tr->DV
 |.tp l=>.tp (Tr.Li l)
 |.ls l=>.ls (Tr.Li l)
 |.int i=>.fl (.int i)
 |.bl i=>.fl (.bl i)
 |.str i=>.fl (.str i)
 |_=>.fl .bB
noncomputable def Tr.Li:List Tr->List DV
 |[]=>[]
 |t::l=>Tr.dv t::Tr.Li l
end
mutual
theorem Tr.zv:∀t:Tr,DV.xo t.dv=t.dp
 |.tp l=>by unfold Tr.dv Tr.dp DV.xo;rw[Tr.zw l]
 |.ls l=>by unfold Tr.dv Tr.dp DV.xo;rw[Tr.zw l]
 |.int _=>by unfold Tr.dv Tr.dp DV.xo;rfl
 |.bl _=>by unfold Tr.dv Tr.dp DV.xo;rfl
 |.str _=>by unfold Tr.dv Tr.dp DV.xo;rfl
 |.bB=>by unfold Tr.dv Tr.dp DV.xo;rfl
 |.kt _=>by unfold Tr.dv Tr.dp DV.xo;rfl
 |.kl _=>by unfold Tr.dv Tr.dp DV.xo;rfl
 |.hd _=>by unfold Tr.dv Tr.dp DV.xo;rfl
theorem Tr.zw:∀l:List Tr,DV.A6 (Tr.Li l)=Tr.qX l
 |[]=>by unfold Tr.Li Tr.qX DV.A6;rfl
 |t::l=>by unfold Tr.Li Tr.qX DV.A6;rw[Tr.zv t,Tr.zw l]
end
noncomputable def vw:Nat->Cs->Tr->Tr
 |n+1,S,.hd i=>(match cF S i with|some l=>.ls (l.map (vw n S))|none=>.hd i)
 |n+1,S,.ls l=>.ls (l.map (vw n S))
 |n+1,S,.kl l=>.ls (l.map (vw n S))
 |n+1,S,.tp l=>.tp (l.map (vw n S))
 |n+1,S,.kt l=>.tp (l.map (vw n S))
 |_,_,t=>t
section
variable {G:Gx}{w:Wd}{S:Cs}{H:Hp}
theorem jU (hg:∀t v,RT w t v->(g t).lP=true->iw G.K H (g t).dv v):∀{l:List Tr} {xs:List V},bL w l xs->Tr.kK (l.map g)=true->jR G.K H (Tr.Li (l.map g)) xs
 |[],xs,h,_=>by rw[h.bX];unfold List.map Tr.Li jR;rfl
 |t::l,xs,h,n=>by
  obtain⟨x,r,rfl,h1,h2⟩:=h.bw;simp only[zas] at n ⊢
  unfold Tr.kK at n;unfold Tr.Li jR;have n:=zbf.mp n;exact⟨x,r,rfl,hg t x h1 n.1,jU hg h2 n.2⟩
mutual
theorem jV (hr:HR G w S H):∀(t:Tr) (v:V),RT w t v->t.lP=true->iw G.K H t.dv v
 |.tp l,v,r,n=>by
  unfold RT at r;unfold Tr.lP at n;unfold Tr.dv iw
  obtain⟨a,xs,e,h,r⟩:=r;exact⟨a,xs,e,nM.of (hr.sub _ _ h),qt hr l xs r n⟩
 |.ls l,v,r,n=>by
  unfold RT at r;unfold Tr.lP at n;unfold Tr.dv iw
  obtain⟨a,xs,e,h,r⟩:=r;exact⟨a,xs,e,jn.of (hr.sub _ _ h),qt hr l xs r n⟩
 |.int _,v,r,n=>by unfold Tr.dv iw;exact⟨bg r,rfl⟩
 |.bl _,v,r,n=>by unfold Tr.dv iw;exact⟨qp r,rfl⟩
 |.str _,v,r,n=>by unfold Tr.dv iw;exact⟨cH r,rfl⟩
 |.bB,v,r,n=>by unfold Tr.dv iw;exact⟨kJ r,rfl⟩
 |.kt _,v,r,n=>by unfold Tr.lP at n;cases n
 |.kl _,v,r,n=>by unfold Tr.lP at n;cases n
 |.hd _,v,r,n=>by unfold Tr.lP at n;cases n
theorem qt (hr:HR G w S H):∀(l:List Tr) (xs:List V),bL w l xs->Tr.kK l=true->jR G.K H (Tr.Li l) xs
 |[],xs,r,n=>by unfold Tr.Li jR;exact r.bX
 |t::l,xs,r,n=>by
  obtain⟨x,r',rfl,h1,h2⟩:=r.bw;unfold Tr.kK at n;unfold Tr.Li jR;have n:=zbf.mp n;exact⟨x,r',rfl,jV hr t x h1 n.1,qt hr l r' h2 n.2⟩
end
theorem kL (hr:HR G w S H):∀(n:Nat) (t:Tr) (v:V),RT w t v->(vw n S t).lP=true->iw G.K H (vw n S t).dv v
 |0,t,v,r,n=>by unfold vw at n ⊢;exact jV hr t v r n
 |m+1,t,v,r,n=>by
  cases t with
  |hd i =>
   unfold vw at n ⊢
   split at n
   ·rename_i l e
    unfold Tr.lP at n;obtain⟨xs,h1,h2⟩:=hr.cell i _ (cN e)
    rw[r.cO.2];unfold Tr.dv iw;exact⟨_,xs,rfl,jn.of h1,jU (kL hr m) h2 n⟩
   ·unfold Tr.lP at n;cases n
  |ls l =>
   unfold vw at n ⊢
   unfold Tr.lP at n;unfold RT at r;obtain⟨a,xs,e,h,r⟩:=r;unfold Tr.dv iw;exact⟨a,xs,e,jn.of (hr.sub _ _ h),jU (kL hr m) r n⟩
  |kl l =>
   unfold vw at n ⊢
   unfold Tr.lP at n;unfold RT at r;obtain⟨a,xs,e,h,r⟩:=r;unfold Tr.dv iw;exact⟨a,xs,e,hr.sqL h,jU (kL hr m) r n⟩
  |tp l =>
   unfold vw at n ⊢
   unfold Tr.lP at n;unfold RT at r;obtain⟨a,xs,e,h,r⟩:=r;unfold Tr.dv iw;exact⟨a,xs,e,nM.of (hr.sub _ _ h),jU (kL hr m) r n⟩
  |kt l =>
   unfold vw at n ⊢
   unfold Tr.lP at n;unfold RT at r;obtain⟨a,xs,e,h,r⟩:=r;unfold Tr.dv iw;exact⟨a,xs,e,hr.sqT h,jU (kL hr m) r n⟩
  |bB=>unfold vw at n ⊢;exact jV hr _ v r n
  |int=>unfold vw at n ⊢;exact jV hr _ v r n
  |bl=>unfold vw at n ⊢;exact jV hr _ v r n
  |str=>unfold vw at n ⊢;exact jV hr _ v r n
end
open Classical in
noncomputable def c7 (neg:Bool):Tr->Tr->Cs->R Tr:=λt1 t2 S=>match M9 t1 t2 with
 |some b=>.ok (.bl (if neg then !b else b)) S
 |none=>if vw 6 S t1=vw 6 S t2/\(vw 6 S t1).lP=true/\(vw 6 S t1).dp<=50/\(vw 6 S t1).dp≠0 then .ok (.bl (!neg)) S else .aG
theorem Sy (h:M9 t1 t2=some b)(r1:RT w t1 x)(r2:RT w t2 y):ZH x y=true/\decide (x=y)=b:=by
 unfold M9 at h;split at h<;>(first | (cases h;done)|skip)<;>(unfold RT at r1 r2;subst r1;subst r2;cases h;first|exact⟨rfl,Dy⟩|exact⟨rfl,by simp⟩|exact⟨rfl,by rw[zbc];simp⟩)
theorem M_:nR G k (compareOp (if neg then .NotEq else .Eq)) (c7 neg):=.mk<|λX o ah s σ H x y v u Q I rx ry jQ=>by
 obtain⟨w,S,t1,t2,hr,r1,r2,q⟩:=jQ;unfold c7 at q;split at q
 ·rename_i b e
  obtain⟨h1,h2⟩:=Sy e r1 r2;have q:=q w H _ (.refl w) hr gC
  cases neg with
  |true=>exact agb ah s σ H x y v u Q I rx ry ⟨h1,by rw[h2];exact q⟩
  |false=>exact aga ah s σ H x y v u Q I rx ry ⟨h1,by rw[h2];exact q⟩
 ·split at q
  ·rename_i h
   obtain⟨e1,e2,e3,e4⟩:=h;have d1:=kL hr 6 t1 x r1 e2;have d2:=kL hr 6 t2 y r2 (by rw[<-e1];exact e2)
   rw[<-e1] at d2;rw[<-o.K] at d1 d2;have q:=q w H _ (.refl w) hr gC
   have hn:∀z,(vw 6 S t1).dv ≠ .fl z:=λz hz=>e4 (by rw[<-Tr.zv,hz];unfold DV.xo;rfl)
   cases neg with
   |true=>exact aar o.hu ah s σ H x y v u Q I rx ry ⟨_,by rw[Tr.zv];exact e3,hn,d1,d2,q⟩
   |false=>exact aaq o.hu ah s σ H x y v u Q I rx ry ⟨_,by rw[Tr.zv];exact e3,hn,d1,d2,q⟩
  ·exact q.elim
theorem ahz:nR G k (compareOp .Eq) (c7 false):=M_ (neg:=false)
theorem ahA:nR G k (compareOp .NotEq) (c7 true):=M_ (neg:=true)
noncomputable def isN:Tr->Bool|.bB=>true|_=>false
noncomputable def jk (neg:Bool):Tr->Tr->Cs->R Tr:=λt1 t2 S=>match t2 with
 |.bB=>.ok (.bl (if neg then !isN t1 else isN t1)) S
 |_=>.aG
theorem Na (r:RT w t x):decide (x=V.bB)=isN t:=by
 cases t<;>unfold RT at r<;>(first | (subst r;rfl) | (obtain⟨a,xs,rfl,_⟩:=r;rfl) | (rw[r.2];rfl))
theorem VY:nR G k (compareOp (if neg then .IsNot else .Is)) (jk neg):=.mk<|λX o ah s σ H x y v u Q I rx ry jT=>by
 obtain⟨w,S,t1,t2,hr,r1,r2,q⟩:=jT;unfold jk at q;split at q
 ·have q:=q w H _ (.refl w) hr gC
  cases neg with
  |true=>exact Rk ah s σ H x y v u Q I rx ry ⟨kJ r2,by rw[Na r1];exact q⟩
  |false=>exact ZI ah s σ H x y v u Q I rx ry ⟨kJ r2,by rw[Na r1];exact q⟩
 ·exact q.elim
theorem ahB:nR G k (compareOp .Is) (jk false):=VY (neg:=false)
theorem GG:nR G k (compareOp .IsNot) (jk true):=VY (neg:=true)
noncomputable def jr:Tr->Option dW|.int i=>some (.inl i)|.str x=>some (.inr x)|_=>none
noncomputable def aP {κ:Type}[DecidableEq κ](k:κ):List (κ × Tr)->Option Tr
 |[]=>none
 | (j,t)::r=>if j=k then some t else aP k r
noncomputable def lz {κ:Type}[DecidableEq κ](l:List (κ × Tr))(k:κ)(t:Tr):List (κ × Tr):=
 if (l.any λkv=>decide (kv.1=k))=true then l.map (λkv=>if kv.1=k then (kv.1,t) else kv) else l++[(k,t)]
noncomputable def bY (f:Str)(v:Tr):List (Str×Tr)->List (Str×Tr)
 |[]=>[(f,v)]
 | (g,x)::r=>if g=f then (g,v)::r else (g,x)::bY f v r
noncomputable def fL (aQ jC:List (dW×Tr)):List (dW×Tr):=jC.foldl (λcD kv=>lz cD kv.1 kv.2) aQ
section
variable {w:Wd}{κ:Type}[DecidableEq κ]
theorem oX:∀{l:List (κ × Tr)} {m:List (κ × V)} {k:κ},RK w l m->(∀t,aP k l=some t->∃v,lJ m k=some v/\RT w t v)/\(aP k l=none->lJ m k=none)
 |[],m,k,h=>by rw[h.bX];exact⟨λt e=>(by cases e),λ_=>rfl⟩
 | (j,t)::l,m,k,h=>by
  obtain⟨v,r,rfl,h1,h2⟩:=h.bw;unfold aP;by_cases e:j=k
  ·rw[if_pos e,oG (p:=(j,v)) e]
   exact⟨λu z=>by cases z;exact⟨v,rfl,h1⟩,λz=>by cases z⟩
  ·rw[if_neg e,oH (p:=(j,v)) e]
   exact oX h2
theorem gm:∀{l:List (Str×Tr)} {m:List (Str×V)} {k:Str},RK w l m->(∀t,aP k l=some t->∃v,m.lookup k=some v/\RT w t v)/\(aP k l=none->m.lookup k=none)
 |[],m,k,h=>by rw[h.bX];exact⟨λt e=>(by cases e),λ_=>rfl⟩
 | (j,t)::l,m,k,h=>by
  obtain⟨v,r,rfl,h1,h2⟩:=h.bw;unfold aP;by_cases e:j=k
  ·subst e
   rw[if_pos rfl,List.lookup_cons_self];exact⟨λu z=>by cases z;exact⟨v,rfl,h1⟩,λz=>by cases z⟩
  ·have hb:(k == j)=false:=beq_eq_false_iff_ne.mpr λz=>e z.symm
   rw[if_neg e,zaQ,hb];exact gm h2
theorem RK.DI (h:RK w l m)(k:κ)(r:RT w t v):RK w (lz l k t) (ki m k v):=by
 have amI:(l.any λkv=>decide (kv.1=k))=m.any λkv=>decide (kv.1=k):=by
  have e1:(l.any λkv=>decide (kv.1=k))=(l.map Prod.fst).any λj=>decide (j=k):=by rw[zcB];rfl
  have e2:(m.any λkv=>decide (kv.1=k))=(m.map Prod.fst).any λj=>decide (j=k):=by rw[zcB];rfl
  rw[e1,e2,h.1]
 have amJ:∀{l:List (κ × Tr)} {m:List (κ × V)},RK w l m->RK w (l.map λkv=>if kv.1=k then (kv.1,t) else kv) (m.map λkv=>if kv.1=k then (kv.1,v) else kv):=by
  intro l;induction l with
  |nil=>intro m h;rw[h.bX];exact .nil
  |cons p l ih =>
   intro m h;obtain⟨j,u⟩:=p;obtain⟨x,r',rfl,h1,h2⟩:=h.bw;simp only[zas];by_cases e:j=k
   ·rw[if_pos e,if_pos e];exact .cons r (ih h2)
   ·rw[if_neg e,if_neg e];exact .cons h1 (ih h2)
 unfold lz ki;rw[amI];split
 ·exact amJ h
 ·exact⟨by simp[h.1],by simp only[zaE,zas,zbL];exact h.2.snoc r⟩
theorem RK.gz:∀{l:List (Str×Tr)} {m:List (Str×V)},RK w l m->(f:Str)->{t:Tr}->{v:V}->RT w t v->RK w (bY f t l) (L2.gz f v m)
 |[],m,h,f,t,v,r=>by rw[h.bX];exact .cons r .nil
 | (j,u)::l,m,h,f,t,v,r=>by
  obtain⟨x,r',rfl,h1,h2⟩:=h.bw;unfold bY L2.gz;split
  ·exact .cons r h2
  ·exact .cons h1 (RK.gz h2 f r)
theorem RK.AQ:∀{jC:List (dW×Tr)} {mv:List (dW×V)} {l:List (dW×Tr)} {m:List (dW×V)},RK w jC mv->RK w l m->RK w (fL l jC) (gi m mv)
 |[],mv,l,m,h,g=>by rw[h.bX];exact g
 | (k,t)::jC,mv,l,m,h,g=>by
  obtain⟨x,r',rfl,h1,h2⟩:=h.bw;show RK w (fL (lz l k t) jC) (gi (ki m k x) r')
  exact RK.AQ h2 (g.DI k h1)
theorem iy (e:jr t=some k)(r:RT w t v):v=kV k:=by
 cases t with
 |int i=>cases e;exact bg r
 |str i=>cases e;exact cH r
 |_=>cases e
end
noncomputable def fP:Tr->Bool|.bB=>true|.bl _=>true|.int _=>true|.str _=>true|_=>false
noncomputable def QZ:Tr->Tr->Bool
 |.bB,.bB=>true
 |.bl a,.bl b=>a == b
 |.bl a,.int b=>(if a then 1 else 0) == b
 |.int a,.bl b=>a == (if b then 1 else 0)
 |.int a,.int b=>a == b
 |.str a,.str b=>a == b
 |_,_=>false
noncomputable def GH (t:Tr)(l:List Tr):Bool:=l.any λu=>QZ u t
noncomputable def v9 (neg:Bool):Tr->Tr->Cs->R Tr:=λt1 t2 S=>match t2 with
 |.str z=>(match t1 with|.str y=>.ok (.bl (if neg then !(!(Builtin.Str.occurrences z y 0 z.length 1).isEmpty) else !(Builtin.Str.occurrences z y 0 z.length 1).isEmpty)) S|_=>.aG)
 |t2=>match xw S t2 with
  |some l=>if fP t1=true/\l.all fP=true then .ok (.bl (if neg then !GH t1 l else GH t1 l)) S else .aG
  |none=>.aG
section
variable {G:Gx}{k:Nat}{w:Wd}
theorem oY (h:fP t=true)(r:RT w t v):iK v=true:=by
 cases t<;>first | (cases h;done) | (unfold RT at r;subst r;rfl)
theorem mX:∀{l:List Tr} {xs:List V},l.all fP=true->bL w l xs->xs.all iK=true
 |[],xs,_,r=>by rw[r.bX];rfl
 |t::l,xs,h,r=>by
  obtain⟨x,r',rfl,h1,h2⟩:=r.bw;have h:=zbf.mp (show (fP t && l.all fP)=true from h)
  show (iK x && r'.all iK)=true
  rw[oY h.1 h1,mX h.2 h2];rfl
theorem Ea (h1:fP t=true)(h2:fP u=true)(r1:RT w t x)(r2:RT w u y):y_ x y=QZ t u:=by
 cases t<;>(first | (cases h1;done)|skip)<;>(unfold RT at r1;subst r1)<;>cases u<;>(first | (cases h2;done)|skip)<;>(unfold RT at r2;subst r2;rfl)
theorem Nb (h1:fP t=true)(r:RT w t x):∀{l:List Tr} {xs:List V},l.all fP=true->bL w l xs->inV x xs=GH t l
 |[],xs,_,q=>by rw[q.bX];rfl
 |u::l,xs,h,q=>by
  obtain⟨y,r',rfl,g1,g2⟩:=q.bw;have h:=zbf.mp (show (fP u && l.all fP)=true from h)
  show (y_ y x || inV x r')=(QZ u t || GH t l)
  rw[Ea h.1 h1 g1 r,Nb h1 r h.2 g2]
theorem VZ:nR G k (compareOp (if neg then .NotIn else .In)) (v9 neg):=.mk<|λX o ah s σ H x y v u Q I rx ry cC=>by
 obtain⟨w,S,t1,t2,hr,r1,r2,q⟩:=cC;unfold v9 at q;split at q
 ·split at q
  ·have q:=q w H _ (.refl w) hr gC
   cases neg with
   |true=>exact ze ah s σ H x y v u Q I rx ry ⟨_,_,cH r1,cH r2,q⟩
   |false=>exact IK ah s σ H x y v u Q I rx ry ⟨_,_,cH r1,cH r2,q⟩
  ·exact q.elim
 ·split at q
  ·rename_i l e
   split at q
   ·rename_i h
    obtain⟨a,xs,e1,sq,R⟩:=tU hr r2 e;have q:=q w H _ (.refl w) hr gC
    rw[<-o.K] at sq;rw[<-Nb h.1 r1 h.2 R] at q;cases neg with
    |true=>exact zd ah s σ H x y v u Q I rx ry ⟨a,xs,e1,sq,oY h.1 r1,mX h.2 R,q⟩
    |false=>exact IX ah s σ H x y v u Q I rx ry ⟨a,xs,e1,sq,oY h.1 r1,mX h.2 R,q⟩
   ·exact q.elim
  ·exact q.elim
theorem Eb:nR G k (compareOp .In) (v9 false):=VZ (neg:=false)
theorem Be:nR G k (compareOp .NotIn) (v9 true):=VZ (neg:=true)
noncomputable def Bf (neg:Bool):Tr->Tr->Cs->R Tr:=λt1 t2 S=>match QY S t2,jr t1 with
 |some m,some j=>.ok (.bl (if neg then !(aP j m).isSome else (aP j m).isSome)) S
 |_,_=>.aG
variable {X:Cx}{a b c:Expr}{fa fb fc:Em}{pos Sh:Pos}
theorem Bg (r:RK w m aQ)(j:dW):(lJ aQ j).isSome=(aP j m).isSome:=by
 obtain⟨h1,h2⟩:=oX (k:=j) r
 cases e:aP j m with
 |none=>rw[h2 e];rfl
 |some t=>obtain⟨v,ev,_⟩:=h1 t e;rw[ev];rfl
theorem Nc (h:fm G (ai (Bf neg) fa fb) σ H Q):(if neg then Gi (fm G fa) (fm G fb) else agv (fm G fa) (fm G fb)) σ H Q:=by
 have h:=qi h;have go:∀{σ H Q},tOp (r2 G (Bf neg)) (fm G fa) (fm G fb) σ H Q->fm G fa σ H λy H1=>fm G fb σ H1 λx H2=>∃a o,x=V.ref a/\nP H2 a y o/\Q (.bl (if neg then !o.isSome else o.isSome)) H2:=λ{σ H Q} h=>by
  obtain⟨w,S,τ,hr,sl,q⟩:=h;refine⟨w,S,τ,hr,sl,q.mono λy H1 ⟨w1,S1,eX,bN,DZ,q1⟩=>⟨w1,S1,eX,bN,DZ,q1.mono λx H2 eN=>?_⟩⟩
  obtain⟨w2,S2,t1,t2,dN,r1,r2,q2⟩:=eN;unfold Bf at q2;split at q2
  ·rename_i m j em ej
   obtain⟨n,aQ,_,_,ev,hH,R⟩:=zq dN r2 em;refine⟨w2.ρ n,lJ aQ j,ev,?_,?_⟩
   ·rw[iy ej r1]
    exact nP.k hH
   ·rw[Bg R]
    exact q2 w2 H2 _ (.refl _) dN gC
  ·exact q2.elim
 cases neg with
 |true=>exact go h
 |false=>exact go h
theorem SA (ha:TV G k X a fa)(hb:TV G k X b fb)(hm:autoParam (behindInMarks .NotIn b=false) zp_5):TV G k X (.Compare a [.NotIn] [b] pos) (ai (Bf true) fa fb):=.mk<|λo=>(Zh (IW o.hu1 (ha o) (hb o)) hm).wk λ_ _ _ h=>Nc (neg:=true) h
theorem aaW (ha:TV G k X a fa)(hb:TV G k X b fb)(hm:autoParam (behindInMarks .In b=false) zp_5):Dg G k X (.Compare a [.In] [b] pos) (mB (ai (Bf false) fa fb)):=.mk<|λo=>(Zi (ZQ o.hu1 (ha o) (hb o)) hm).wk λ_ _ _ h=>Nc (neg:=false) (rY h)
noncomputable def bJ:Tr->Tr->Cs->R Tr:=λt1 t2 S=>match t1,t2 with
 |.str z,.int i=>if z.length<=sizeLine then (match iE z.cps.toList i with|some c=>.ok (.str ⟨#[c]⟩) S|none=>.aG) else .aG
 |t1,.int i=>(match xw S t1 with
  |some l=>(match iE l i with|some t=>.ok t S|none=>.aG)
  |none=>.aG)
 |_,_=>.aG
theorem ahC (ha:TV G k X a fa)(hb:TV G k X b fb)(hs:autoParam (Gp b) zp_8):TV G k X (.Subscript a b pos) (ai bJ fa fb):=.mk<|λo=>(agC ZZ (ha o) (hb o) hs).wk λσ H Q h=>by
 obtain⟨w,S,τ,hr,sl,q⟩:=qi h;refine⟨w,S,τ,hr,sl,q.mono λx H1 ⟨w1,S1,eX,bN,DZ,q1⟩=>⟨w1,S1,eX,bN,DZ,q1.mono λy H2 jP=>?_⟩⟩
 obtain⟨w2,S2,t1,t2,dN,r1,r2,q2⟩:=jP;unfold bJ at q2;split at q2
 ·split at q2
  ·split at q2
   ·rename_i c e
    exact .inr (.inr ⟨_,_,c,cH r1,bg r2,(by assumption),e,q2 w2 H2 _ (.refl _) dN kE⟩)
   ·exact q2.elim
  ·exact q2.elim
 ·split at q2
  ·rename_i l e
   split at q2
   ·rename_i t et
    obtain⟨p,xs,e1,sq,R⟩:=tU dN r1 e;obtain⟨v,ev,rv⟩:=R.iE et;have q:=q2 w2 H2 v (.refl _) dN rv
    rw[<-o.K] at sq;rcases sq with sq|sq
    ·exact .inl ⟨p,xs,_,v,e1,bg r2,sq,ev,q⟩
    ·exact .inr (.inl ⟨p,xs,_,v,e1,bg r2,sq,ev,q⟩)
   ·exact q2.elim
  ·exact q2.elim
 ·exact q2.elim
noncomputable def oZ (f:Em):En->Cs->R (Option Int):=λτ S=>(f τ S).aF λt S1=>match t with|.int i=>.ok (some i) S1|_=>.aG
noncomputable def o4:En->Cs->R (Option Int):=λ_ S=>.ok none S
noncomputable def SD (G:Gx)(f:En->Cs->R (Option Int)):TO:=λσ H Q=>∃w S τ,HR G w S H/\Sl w τ σ /\ br (λ_ a b=>a=b) G w (f τ S) Q
structure TVO (G:Gx) (k:Nat) (X:Cx) (e:Option Expr) (f:En->Cs->R (Option Int)):Prop where
 kh:jE G k X->PO X e (SD G f)
noncomputable instance {G:Gx}{k:Nat}{X:Cx}{e:Option Expr}{f:En->Cs->R (Option Int)}:CoeFun (TVO G k X e f) (λ_=>jE G k X->PO X e (SD G f)):=⟨TVO.kh⟩
theorem SE:TVO G k X none o4:=.mk<|λo ah s σ H Q I jT=>by obtain⟨w,S,τ,hr,sl,q⟩:=jT;exact RH ah s σ H Q I (q w H _ (.refl w) hr rfl)
theorem SG (ha:TV G k X a fa):TVO G k X (some a) (oZ fa):=.mk<|λo ah s σ H Q I ⟨w,S,τ,hr,sl,q⟩=>RI (ha o) ah s σ H Q I ⟨w,S,τ,hr,sl,(br.aF q).mono λx H1 oV=>by
 obtain⟨w1,S1,t1,dD,bN,r1,_,q1⟩:=oV;split at q1
 ·exact⟨_,bg r1,q1 w1 H1 _ (.refl _) bN rfl⟩
 ·exact q1.elim⟩
noncomputable def tV (l:List Tr)(lo hi:Option Int):List Tr:=(l.drop (HT.gA l.length 0 lo)).take (HT.gA l.length l.length hi - HT.gA l.length 0 lo)
theorem bL.cut (h:bL w l xs)(lo hi:Option Int):bL w (tV l lo hi) (AR xs lo hi):=by
 unfold tV AR;rw[h.len];exact (h.drop _).take _
noncomputable def GI (t:Tr)(lo hi:Option Int)(S:Cs):R Tr:=match t with
 |.str z=>if z.length<=sizeLine then .ok (.str (Txt.slice z lo hi)) S else .aG
 |t=>match GF S t with
  |some l=>.ok (.ls (tV l lo hi)) S
  |none=>match VX t with
   |some l=>if ¬ (HT.gA l.length 0 lo=0/\HT.gA l.length l.length hi=l.length) then .ok (.tp (tV l lo hi)) S else .aG
   |none=>.aG
noncomputable def V0 (g:Tr->Option Int->Option Int->Cs->R Tr)(fa:Em)(fl fh:En->Cs->R (Option Int)):Em:=λτ S=>(fa τ S).aF λt S1=>(fl τ S1).aF λlo S2=>(fh τ S2).aF λhi S3=>g t lo hi S3
variable {lo hi:Option Expr}{fl fh:En->Cs->R (Option Int)}
theorem Nd (h:fm G (V0 g fa fl fh) σ H Q):tSl (λx l u H3 Q=>∃w S t,HR G w S H3/\RT w t x/\br RT G w (g t l u S) Q) (fm G fa) (SD G fl) (SD G fh) σ H Q:=by
 obtain⟨w,S,τ,hr,sl,q⟩:=h;refine⟨w,S,τ,hr,sl,(br.aF q).mono λx H1 kG=>?_⟩
 obtain⟨w1,S1,t1,dD,bN,r1,_,q1⟩:=kG;refine⟨w1,S1,τ,bN,sl.mono dD,(br.aF q1).mono λl H2 nU=>?_⟩
 obtain⟨w2,S2,t2,fq,dN,r2,_,q2⟩:=nU;refine⟨w2,S2,τ,dN,(sl.mono dD).mono fq,(br.aF q2).mono λu H3 i7=>?_⟩
 obtain⟨w3,S3,t3,mh,ql,r3,_,q3⟩:=i7;subst r2 r3;exact⟨w3,S3,t1,ql,RT.mono (fq.trans mh) _ _ r1,q3⟩
theorem ahD (ha:TV G k X a fa)(hl:TVO G k X lo fl)(hh:TVO G k X hi fh):TV G k X (.Subscript a (.Slice lo hi none p2) pos) (V0 GI fa fl fh):=.mk<|λo =>
 (L8 (r:=λx l u H Q=>∃w S t,HR G w S H/\RT w t x/\br RT G w (GI t l u S) Q) (λah s σ H x v vl vu lo hi sl Q I rx hs pl pu nV=>by
  obtain⟨w,S,t,hr,r,q⟩:=nV;unfold GI at q;split at q
  ·split at q
   ·exact aaa ah s σ H x v vl vu lo hi sl Q I rx hs pl pu ⟨_,cH r,by assumption,q w H _ (.refl w) hr kE⟩
   ·exact q.elim
  ·split at q
   ·rename_i l e
    obtain⟨a,xs,e1,sq,R⟩:=mj hr r e;rw[<-o.K] at sq;exact RN ah s σ H x v vl vu lo hi sl Q I rx hs pl pu ⟨a,xs,e1,sq,hr.jF (R.cut lo hi) rfl q⟩
   ·split at q
    ·rename_i l e
     split at q
     ·rename_i hn
      obtain⟨a,xs,e1,sq,R⟩:=mq hr r e;rw[<-o.K] at sq;exact ZW ah s σ H x v vl vu lo hi sl Q I rx hs pl pu ⟨a,xs,e1,sq,by rw[R.len];exact hn,hr.aaR (R.cut lo hi) rfl q⟩
     ·exact q.elim
    ·exact q.elim) (ha o) (hl o) (hh o)).wk λ_ _ _ h=>Nd h
end
section
variable {G:Gx}{k:Nat}{X:Cx}{a b c o e:Expr}{es:List Expr}{fa fb fc fo f:Em}{fr:En->Cs->R (List Tr)}{pos p dX gr:Pos}{x:Str}{id T:String}
noncomputable def rN (G:Gx)(g:List Tr->Cs->R Tr):List V->Hp->VK->Prop:=λxs H Q=>∃w S ts,HR G w S H/\bL w ts xs/\br RT G w (g ts S) Q
noncomputable def bZ (g:List Tr->Cs->R Tr)(fr:En->Cs->R (List Tr)):Em:=λτ S=>(fr τ S).aF λts S1=>g ts S1
structure mw (G:Gx) (k:Nat) (f:Value) (g:List Tr->Cs->R Tr):Prop where
 kh:∀X:Cx,jE G k X->jo X f (rN G g)
noncomputable instance {G:Gx}{k:Nat}{f:Value}{g:List Tr->Cs->R Tr}:CoeFun (mw G k f g) (λ_=>∀X:Cx,jE G k X->jo X f (rN G g)):=⟨mw.kh⟩
theorem GJ (h:fm G (bZ g fr) σ H Q):tCB (rN G g) (D6 G fr) σ H Q:=by
 obtain⟨w,S,τ,hr,sl,q⟩:=h;exact⟨w,S,τ,hr,sl,(br.aF q).mono λxs H1 cC=>by obtain⟨w1,S1,ts,dD,bN,r1,_,q1⟩:=cC;exact⟨w1,S1,ts,bN,r1,q1⟩⟩
theorem dJ (hc:mw G k (.builtin id) g)(hm:X.mg x=none)(hv:bootBuiltins x=some (.builtin id))(ha:wu G k X (e::es) fr)(hg:autoParam (Gl X x) zp_0)(hn:autoParam (x ≠ "__name__") zp_1)(sU:autoParam ((x == ("__debug__" : Str))=false) zp_1)
  (he:autoParam (dB e=false) zp_0) (hpl:autoParam (dg es=true) zp_0):TV G k X (.Call (.Name x p) (e::es) [] pos) (bZ g fr):=.mk<|λo =>
 (oF (hc X o) hg hm hv (ha o) hn sU (cE he) (dZ hpl)).wk λ_ _ _ h=>GJ h
theorem gX (hc:mw G k (.type T) g)(hm:X.mg x=none)(hv:bootBuiltins x=some (.type T))(ha:wu G k X (e::es) fr)(hg:autoParam (Gl X x) zp_0)(hn:autoParam (x ≠ "__name__") zp_1)(sU:autoParam ((x == ("__debug__" : Str))=false) zp_1)
  (he:autoParam (dB e=false) zp_0) (hpl:autoParam (dg es=true) zp_0):TV G k X (.Call (.Name x p) (e::es) [] pos) (bZ g fr):=.mk<|λo =>
 (IS (hc X o) hg hm hv (ha o) hn sU (cE he) (dZ hpl)).wk λ_ _ _ h=>GJ h
theorem eY (r:bL w [t] xs):∃x,xs=[x]/\RT w t x:=by
 obtain⟨x,r',rfl,h1,h2⟩:=r.bw;exact⟨x,by rw[h2.bX],h1⟩
theorem GK (r:bL w [t,u] xs):∃x y,xs=[x,y]/\RT w t x/\RT w u y:=by
 obtain⟨x,r',rfl,h1,h2⟩:=r.bw;obtain⟨y,rfl,h3⟩:=eY h2;exact⟨x,y,rfl,h1,h3⟩
noncomputable def gx:List Tr->Cs->R Tr:=λts S=>match ts with
 |[.str z]=>if z.length<=sizeLine then .ok (.int z.length) S else .aG
 |[t]=>(match xw S t with|some l=>.ok (.int l.length) S|none=>match QY S t with|some m=>.ok (.int m.length) S|none=>.aG)
 |_=>.aG
theorem mz:mw G k (.builtin "len") gx:=.mk<|λX o ah s σ H xs us Q I rv dI=>by
 obtain⟨w,S,ts,hr,r,q⟩:=dI;unfold gx at q;split at q
 ·split at q
  ·obtain⟨x,rfl,r1⟩:=eY r
   exact zg ah s σ H _ us Q I rv ⟨_,by rw[cH r1],by assumption,q w H _ (.refl w) hr d7⟩
  ·exact q.elim
 ·obtain⟨x,rfl,r1⟩:=eY r
  split at q
  ·rename_i l e
   obtain⟨a,xs,e1,sq,R⟩:=tU hr r1 e;rw[<-o.K] at sq;have q:=q w H (.int xs.length) (.refl w) hr (by rw[R.len];exact d7)
   exact zf ah s σ H _ us Q I rv ⟨a,xs,by rw[e1],sq,q⟩
  ·split at q
   ·rename_i m e
    obtain⟨n,aQ,_,_,ev,hH,R⟩:=zq hr r1 e;have q:=q w H (.int aQ.length) (.refl w) hr (by rw[R.len];exact d7)
    exact Jb ah s σ H _ us Q I rv ⟨w.ρ n,aQ,by rw[ev],hH,q⟩
   ·exact q.elim
 ·exact q.elim
noncomputable def tW:List Tr->Cs->R Tr:=λts S=>match ts with
 |[t]=>(match xw S t with|some l=>.ok (.ls l) S|none=>.aG)
 |_=>.aG
noncomputable def qu:List Tr->Cs->R Tr:=λts S=>match ts with
 |[t]=>(match xw S t with|some l=>.ok (.hd S.length) (S++[.bA l])|none=>.aG)
 |_=>.aG
theorem zx:mw G k (.type "list") tW:=.mk<|λX o ah s σ H xs us Q I rv eN=>by
 obtain⟨w,S,ts,hr,r,q⟩:=eN;unfold tW at q;split at q
 ·obtain⟨x,rfl,r1⟩:=eY r
  split at q
  ·rename_i l e
   obtain⟨a,xs,e1,sq,R⟩:=tU hr r1 e;rw[<-o.K] at sq;exact oM ah s σ H _ us Q I rv ⟨a,xs,by rw[e1],sq,hr.jF R rfl q⟩
  ·exact q.elim
 ·exact q.elim
theorem GL:mw G k (.type "list") qu:=.mk<|λX o ah s σ H xs us Q I rv iu=>by
 obtain⟨w,S,ts,hr,r,q⟩:=iu;unfold qu at q;split at q
 ·obtain⟨x,rfl,r1⟩:=eY r
  split at q
  ·rename_i l e
   obtain⟨a,xs,e1,sq,R⟩:=tU hr r1 e;rw[<-o.K] at sq;exact oM ah s σ H _ us Q I rv ⟨a,xs,by rw[e1],sq,hr.ahp R rfl rfl q⟩
  ·exact q.elim
 ·exact q.elim
noncomputable def apj:List Tr->Cs->R Tr:=λts S=>match ts with
 |[.int i,.int j]=>.ok (.int (if j > i then j else i)) S
 |_=>.aG
noncomputable def xx:List Tr->Cs->R Tr:=λts S=>match ts with
 |[.int i,.int j]=>.ok (.int (if j<i then j else i)) S
 |_=>.aG
theorem aaX (hk:autoParam (0<k) zp_2):mw G k (.builtin "min") xx:=.mk<|λX o ah s σ H xs us Q I rv oV=>by
 obtain⟨w,S,ts,hr,r,q⟩:=oV;unfold xx at q;split at q
 ·obtain⟨x,y,rfl,r1,r2⟩:=GK r
  exact IM (o.fS hk) ah s σ H _ us Q I rv ⟨_,_,by rw[bg r1,bg r2],q w H _ (.refl w) hr d7⟩
 ·exact q.elim
noncomputable def qY:List Tr->Option (List Int)|[]=>some []|.int i::l=>(qY l).map (i::·)|_=>none
noncomputable def qZ:List Tr->Option (List Bool)|[]=>some []|.bl i::l=>(qZ l).map (i::·)|_=>none
theorem Bh:∀{l:List Tr} {xs:List V} {ns:List Int},qY l=some ns->bL w l xs->xs=ns.map V.int
 |[],xs,ns,h,r=>by cases h;exact r.bX
 |t::l,xs,ns,h,r=>by
  obtain⟨x,r',rfl,h1,h2⟩:=r.bw;cases t with
  |int i =>
   cases e:qY l with
   |none=>unfold qY at h;rw[e] at h;cases h
   |some ms=>unfold qY at h;rw[e] at h;cases h;rw[Bh e h2,bg h1];rfl
  |_=>cases h
theorem Bj:∀{l:List Tr} {xs:List V} {ns:List Bool},qZ l=some ns->bL w l xs->xs=ns.map V.bl
 |[],xs,ns,h,r=>by cases h;exact r.bX
 |t::l,xs,ns,h,r=>by
  obtain⟨x,r',rfl,h1,h2⟩:=r.bw;cases t with
  |bl i =>
   cases e:qZ l with
   |none=>unfold qZ at h;rw[e] at h;cases h
   |some ms=>unfold qZ at h;rw[e] at h;cases h;rw[Bj e h2,qp h1];rfl
  |_=>cases h
noncomputable def SH:List Tr->Cs->R Tr:=λts S=>match ts with
 |[t]=>(match GF S t with|some l=>(match qY l with|some ns=>.ok (.int ns.sum) S|none=>.aG)|none=>.aG)
 |_=>.aG
theorem ahE (hk:autoParam (0<k) zp_2):mw G k (.builtin "sum") SH:=.mk<|λX o ah s σ H xs us Q I rv kG=>by
 obtain⟨w,S,ts,hr,r,q⟩:=kG;unfold SH at q;split at q
 ·obtain⟨x,rfl,r1⟩:=eY r
  split at q
  ·rename_i l e
   split at q
   ·rename_i ns en
    obtain⟨a,xs,e1,sq,R⟩:=mj hr r1 e;rw[<-o.K,Bh en R] at sq;exact MK (o.fS hk) ah s σ H _ us Q I rv ⟨a,ns,by rw[e1],sq,q w H _ (.refl w) hr d7⟩
   ·exact q.elim
  ·exact q.elim
 ·exact q.elim
noncomputable def SJ:List Tr->Cs->R Tr:=λts S=>match ts with
 |[t]=>(match D8 S t with|some l=>(match qZ l with|some ns=>.ok (.bl (ns.any _root_.id)) S|none=>.aG)|none=>.aG)
 |_=>.aG
theorem ahF (hk:autoParam (0<k) zp_2):mw G k (.builtin "any") SJ:=.mk<|λX o ah s σ H xs us Q I rv i7=>by
 obtain⟨w,S,ts,hr,r,q⟩:=i7;unfold SJ at q;split at q
 ·obtain⟨x,rfl,r1⟩:=eY r
  split at q
  ·rename_i l e
   split at q
   ·rename_i ns en
    obtain⟨a,xs,e1,sq,R⟩:=qm hr r1 e;rw[Bj en R] at sq;exact MM (o.fS hk) ah s σ H _ us Q I rv ⟨a,ns,by rw[e1],sq,q w H _ (.refl w) hr gC⟩
   ·exact q.elim
  ·exact q.elim
 ·exact q.elim
noncomputable def rM (G:Gx)(g:Tr->List Tr->Cs->R Tr):V->List V->Hp->VK->Prop:=λx xs H Q=>∃w S t ts,HR G w S H/\RT w t x/\bL w ts xs/\br RT G w (g t ts S) Q
noncomputable def lQ (ck:Cs->Tr->Bool)(g:Tr->List Tr->Cs->R Tr)(fo:Em)(fr:En->Cs->R (List Tr)):Em:=λτ S=>(fo τ S).aF λt S1=>if ck S1 t=true then (fr τ S1).aF λts S2=>g t ts S2 else .aG
structure Bk (G:Gx) (k:Nat) (id:String) (g:Tr->List Tr->Cs->R Tr):Prop where
 kh:∀X:Cx,jE G k X->MtR X id (rM G g)
noncomputable instance {G:Gx}{k:Nat}{id:String}{g:Tr->List Tr->Cs->R Tr}:CoeFun (Bk G k id g) (λ_=>∀X:Cx,jE G k X->MtR X id (rM G g)):=⟨Bk.kh⟩
noncomputable def Aw (S:Cs)(t:Tr):Bool:=(GF S t).isSome
noncomputable def ckD (S:Cs)(t:Tr):Bool:=(QY S t).isSome
noncomputable def aaY (ck:Cs->Tr->Bool)(T:String):Prop:=∀(G:Gx) (w:Wd) (S:Cs) (H:Hp) (t:Tr) (v:V),HR G w S H->RT w t v->ck S t=true->tyV G.K T v H
theorem iF:aaY Aw "list" := λG w S H t v hr r e=>by
 unfold Aw at e;obtain⟨l,el⟩:=zbR.mp e;obtain⟨a,xs,rfl,sq,_⟩:=mj hr r el;exact .inl ⟨rfl,xs,sq⟩
theorem aaZ (hs:dB e=false)(Le:dg es=true)(dH:decide (es.length<29)=true):((backTo gr (starEach (e::es) env)).all (λx=>!x.1) && (backToKw gr (keywordEach [] env)).all (λx=>x.1.isSome)
   && decide ((e::es).length+([]:List Keyword).length+(if ([]:List Keyword).isEmpty then 0 else 1)<30))=true:=by
 have h1:dg (e::es)=true:=by show (!dB e && dg es)=true;rw[hs,Le];rfl
 rw[Ba h1];have h2:es.length<29:=of_decide_eq_true dH
 show (true && true && decide (es.length+1+0+0<30))=true
 rw[decide_eq_true (by omega)];rfl
theorem i8 (pa:PlainAttrs T)(slot:Slot T name id)(Z2:typeOf (.builtin id)=pure (.type "method_descriptor"))(hck:aaY ck T)(hm:Bk G k id g)(ho:TV G k X o fo)(ha:wu G k X (e::es) fr)
  (sZ:autoParam (attributeBase o name X.env (eval o X.env)=eval o X.env) zp_0)
  (hs:autoParam (dB e=false) zp_0) (Le:autoParam (dg es=true) zp_0) (dH:autoParam (decide (es.length<29)=true) zp_0) (s_:autoParam ((dX.endLine == gr.line)=true) zp_0):
  TV G k X (.Call (.Attribute o name dX) (e::es) [] gr) (lQ ck g fo fr):=.mk<|λox =>
 (agH pa slot Z2 (hm X ox) (ho ox) (ha ox) sZ (aaZ hs Le dH) s_ (cE hs) (dZ Le)).wk λσ H Q h=>by
  obtain⟨w,S,τ,hr,sl,q⟩:=h;refine⟨w,S,τ,hr,sl,(br.aF q).mono λx H1 tP=>?_⟩
  obtain⟨w1,S1,t1,dD,bN,r1,_,q1⟩:=tP;split at q1
  ·rename_i hk
   rw[ox.K];exact⟨hck G w1 S1 H1 t1 x bN r1 hk,w1,S1,τ,bN,sl.mono dD,(br.aF q1).mono λxs H2 tQ=>by obtain⟨w2,S2,ts,fq,dN,r2,_,q2⟩:=tQ;exact⟨w2,S2,t1,ts,dN,RT.mono fq _ _ r1,r2,q2⟩⟩
  ·exact q1.elim
theorem SK (pa:PlainAttrs T)(slot:Slot T name id)(Z2:typeOf (.builtin id)=pure (.type "method_descriptor"))(hck:aaY ck T)(hm:Bk G k id g)(ho:TV G k X o fo)
  (sZ:autoParam (attributeBase o name X.env (eval o X.env)=eval o X.env) zp_0) (s_:autoParam ((dX.endLine == gr.line)=true) zp_0):
  TV G k X (.Call (.Attribute o name dX) [] [] gr) (lQ ck g fo ak):=.mk<|λox =>
 (Z1 pa slot Z2 (hm X ox) (ho ox) sZ s_).wk λσ H Q h=>by
  obtain⟨w,S,τ,hr,sl,q⟩:=h;refine⟨w,S,τ,hr,sl,(br.aF q).mono λx H1 tR=>?_⟩
  obtain⟨w1,S1,t1,dD,bN,r1,_,q1⟩:=tR;split at q1
  ·rename_i hk
   rw[ox.K];exact⟨hck G w1 S1 H1 t1 x bN r1 hk,w1,S1,t1,[],bN,r1,.nil,q1⟩
  ·exact q1.elim
noncomputable def o6:Tr->List Tr->Cs->R Tr:=λt ts S=>match t,ts with
 |.hd n,[u]=>(match cF S n with|some l=>if l.length<sizeLine then .ok .bB (S.set n (.bA (l++[u]))) else .aG|none=>.aG)
 |_,_=>.aG
noncomputable def SM:Tr->List Tr->Cs->R Tr:=λt ts S=>match t,ts with
 |.hd n,[u]=>(match cF S n,D8 S u with|some l,some m=>if l.length+m.length<=sizeLine then .ok .bB (S.set n (.bA (l++m))) else .aG|_,_=>.aG)
 |_,_=>.aG
theorem putL (hr:HR G w S H)(e:cF S n=some l)(r:bL w l' ys):HR G w (S.set n (.bA l')) (bD H (w.ρ n) (.bA ys)):=
 hr.DI (cN e) rfl rfl ⟨ys,av,r⟩
theorem gD:Bk G k "list.append" o6:=.mk<|λX o ah s σ H x xs v us Q I rx rv tS=>by
 obtain⟨w,S,t,ts,hr,r,rs,q⟩:=tS;unfold o6 at q;split at q
 ·split at q
  ·rename_i l e
   split at q
   ·obtain⟨y,rfl,r1⟩:=eY rs
    obtain⟨ys,h1,h2⟩:=hr.cell _ _ (cN e)
    exact wY ah s σ H x _ v us Q I rx rv ⟨_,ys,y,r.cO.2,rfl,h1,by rw[h2.len];assumption,q w _ _ (.refl w) (putL hr e (h2.snoc r1)) tN⟩
   ·exact q.elim
  ·exact q.elim
 ·exact q.elim
theorem Nf:Bk G k "list.extend" SM:=.mk<|λX o ah s σ H x xs v us Q I rx rv D7=>by
 obtain⟨w,S,t,ts,hr,r,rs,q⟩:=D7;unfold SM at q;split at q
 ·split at q
  ·rename_i l m e em
   split at q
   ·obtain⟨y,rfl,r1⟩:=eY rs
    obtain⟨ys,h1,h2⟩:=hr.cell _ _ (cN e)
    obtain⟨b,zs,rfl,hb,R⟩:=qm hr r1 em;exact IY ah s σ H x _ v us Q I rx rv ⟨_,b,ys,zs,r.cO.2,rfl,h1,hb,by rw[h2.len,R.len];assumption,q w _ _ (.refl w) (putL hr e (h2.qW R)) tN⟩
   ·exact q.elim
  ·exact q.elim
 ·exact q.elim
noncomputable def Ng:Tr->List Tr->Cs->R Tr:=λt ts S=>match t,ts with
 |.hd n,[.int i]=>(match cF S n with
  |some l=>if -(2 ^ 63)<=i/\i<2 ^ 63 then (match seqIndex? i l.length with|some j=>(match l[j]? with|some u=>.ok u (S.set n (.bA (l.eraseIdx j)))|none=>.aG)|none=>.aG) else .aG
  |none=>.aG)
 |.hd n,[]=>(match cF S n with|some l=>(match l[l.length - 1]? with|some u=>.ok u (S.set n (.bA l.dropLast))|none=>.aG)|none=>.aG)
 |_,_=>.aG
theorem bL.V1:∀{l:List Tr} {xs:List V} (j:Nat),bL w l xs->bL w (l.eraseIdx j) (xs.eraseIdx j)
 |[],xs,j,h=>by rw[h.bX];exact .nil
 |t::l,xs,0,h=>by obtain⟨x,r,rfl,h1,h2⟩:=h.bw;exact h2
 |t::l,xs,j+1,h=>by obtain⟨x,r,rfl,h1,h2⟩:=h.bw;exact .cons h1 (bL.V1 j h2)
theorem ahI:Bk G k "list.pop" Ng:=.mk<|λX o ah s σ H x xs v us Q I rx rv aa0=>by
 obtain⟨w,S,t,ts,hr,r,rs,q⟩:=aa0;unfold Ng at q;split at q
 ·split at q
  ·rename_i l e
   split at q
   ·rename_i h
    split at q
    ·rename_i j ej
     split at q
     ·rename_i u eu
      obtain⟨y,rfl,r1⟩:=eY rs;obtain⟨ys,h1,h2⟩:=hr.cell _ _ (cN e)
      obtain⟨z,ez,rz⟩:=h2.get eu;exact Me ah s σ H x _ v us Q I rx rv ⟨_,ys,_,j,z,r.cO.2,by rw[bg r1],h1,h.1,h.2,by rw[h2.len];exact ej,ez,q w _ _ (.refl w) (putL hr e (h2.V1 j)) rz⟩
     ·exact q.elim
    ·exact q.elim
   ·exact q.elim
  ·exact q.elim
 ·split at q
  ·rename_i l e
   split at q
   ·rename_i u eu
    obtain⟨ys,h1,h2⟩:=hr.cell _ _ (cN e)
    obtain⟨z,ez,rz⟩:=h2.get eu;refine Z4 ah s σ H x _ v us Q I rx rv ⟨_,ys,z,r.cO.2,rs.bX,h1,by rw[h2.len];exact ez,q w _ _ (.refl w) (putL hr e ?_) rz⟩
    rw[zeb,zeb,h2.len];exact h2.take _
   ·exact q.elim
  ·exact q.elim
 ·exact q.elim
noncomputable def zy (t:Tr):List Tr->Option Nat
 |[]=>none
 |u::l=>if QZ u t=true then some 0 else (zy t l).map (· + 1)
theorem GN {x:V}(ft:fP t=true)(r:RT w t x):∀{l:List Tr} {xs:List V} {j:Nat},l.all fP=true->bL w l xs->zy t l=some j->∃z,xs[j]? = some z/\y_ z x=true/\∀m z',m<j->xs[m]? = some z'->y_ z' x=false
 |[],xs,j,_,_,e=>by cases e
 |u::l,xs,j,h,q,e=>by
  obtain⟨y,r',rfl,g1,g2⟩:=q.bw;have h:=zbf.mp (show (fP u && l.all fP)=true from h)
  unfold zy at e;split at e
  ·rename_i he
   cases e;exact⟨y,rfl,by rw[Ea h.1 ft g1 r];exact he,λm z' hm=>by omega⟩
  ·rename_i he
   cases ei:zy t l with
   |none=>rw[ei] at e;cases e
   |some i =>
    rw[ei] at e;cases e;obtain⟨z,k1,k2,k3⟩:=GN ft r h.2 g2 ei;refine⟨z,by simpa using k1,k2,λm z' hm hz=>?_⟩
    cases m with
    |zero =>
     simp at hz
     subst hz;rw[Ea h.1 ft g1 r];exact Bool.eq_false_iff.mpr he
    |succ m=>exact k3 m z' (by have hm:m+1<i+1:=hm;omega) (by simpa using hz)
noncomputable def qv:Tr->List Tr->Cs->R Tr:=λt ts S=>match ts with
 |[u]=>(match D8 S t with|some l=>if fP u=true/\l.all fP=true then (match zy u l with|some j=>.ok (.int (j:Int)) S|none=>.aG) else .aG|none=>.aG)
 |_=>.aG
theorem SN:Bk G k "list.index" qv:=.mk<|λX o ah s σ H x xs v us Q I rx rv aa1=>by
 obtain⟨w,S,t,ts,hr,r,rs,q⟩:=aa1;unfold qv at q;split at q
 ·split at q
  ·rename_i l e
   split at q
   ·rename_i h
    split at q
    ·rename_i j ej
     obtain⟨y,rfl,r1⟩:=eY rs;obtain⟨a,ys,rfl,ha,R⟩:=qm hr r e;obtain⟨z,k1,k2,k3⟩:=GN h.1 r1 h.2 R ej;exact MD ah s σ H _ _ v us Q I rx rv ⟨a,ys,y,z,j,rfl,rfl,ha,oY h.1 r1,mX h.2 R,k1,k2,k3,q w H _ (.refl w) hr d7⟩
    ·exact q.elim
   ·exact q.elim
  ·exact q.elim
 ·exact q.elim
theorem bL.ints:∀(l:List Int),bL w (l.map Tr.int) (l.map V.int)
 |[]=>.nil
 |x::l=>.cons d7 (bL.ints l)
end
section
variable {G:Gx}{k:Nat}{X:Cx}{a b c o e value:Expr}{es:List Expr}{fa fb fc fo fi fv f:Em}{fr:En->Cs->R (List Tr)}{pos jK p dX gr:Pos}{x:Str}
noncomputable def cI (i:Nat):Tr->En->Cs->R En:=λt τ S=>.ok (τ.set i (some t)) S
theorem SO (hN:X.N.Nodup)(hi:X.N[i]? = some x)(hx:Vx X.env.scope x)(hf:autoParam (X.fn x=true\/X.env.scope.names.lookup x=some .local) zp_4):Lg G k X (.Name x pos) (cI i):=.mk<|λ_=>(Ra hN hi hx hf).wk λv σ H Q h=>by
 obtain⟨w,S,τ,t,hr,sl,r,q⟩:=h;exact q w H _ (.refl w) hr (sl.set i r)
noncomputable abbrev Bs:=List Tr->En->Cs->R En
noncomputable def tX:Bs:=λts τ S=>match ts with|[]=>.ok τ S|_=>.aG
noncomputable def gE (b:Tr->En->Cs->R En)(r:Bs):Bs:=λts τ S=>match ts with|t::l=>(b t τ S).aF λeX S1=>r l eX S1|[]=>.aG
noncomputable def V2 (G:Gx)(f:Bs):TGs:=λvs σ H Q=>∃w S τ ts,HR G w S H/\Sl w τ σ /\ bL w ts vs/\br Sl G w (f ts τ S) Q
structure Jp (G:Gx) (k:Nat) (X:Cx) (ts:List Expr) (f:Bs):Prop where
 kh:jE G k X->Q_ X ts (V2 G f)
noncomputable instance {G:Gx}{k:Nat}{X:Cx}{ts:List Expr}{f:Bs}:CoeFun (Jp G k X ts f) (λ_=>jE G k X->Q_ X ts (V2 G f)):=⟨Jp.kh⟩
theorem Q_.wk (h:Q_ X ts t)(g:∀vs σ H Q,t' vs σ H Q->t vs σ H Q):Q_ X ts t':=λah s σ H vs us Q I r q=>h ah s σ H vs us Q I r (g _ _ _ _ q)
theorem SQ:Jp G k X [] tX:=.mk<|λ_=>Rb.wk λvs σ H Q h=>by
 obtain⟨w,S,τ,ts,hr,sl,r,q⟩:=h;unfold tX at q;split at q
 ·exact⟨r.bX,q w H _ (.refl w) hr sl⟩
 ·exact q.elim
theorem Nh {b:Tr->En->Cs->R En}(h1:Lg G k X e b)(h2:Jp G k X es r)(hs:autoParam ((assignEach (e::es) X.env).map (·.2)=assign e X.env::(assignEach es X.env).map (·.2)) zp_0):Jp G k X (e::es) (gE b r):=.mk<|λo=>(Lx (h1 o) (h2 o) hs).wk λvs σ H Q h=>by
 obtain⟨w,S,τ,ts,hr,sl,r,q⟩:=h;unfold gE at q;split at q
 ·obtain⟨v,vr,rfl,r1,r2⟩:=r.bw
  exact⟨v,vr,rfl,w,S,τ,_,hr,sl,r1,(br.aF q).mono λσ1 H1 cC=>by obtain⟨w1,S1,eX,dD,bN,DZ,_,q1⟩:=cC;exact⟨w1,S1,eX,_,bN,DZ,bL.mono dD _ _ r2,q1⟩⟩
 ·exact q.elim
noncomputable def mD (n:Nat)(r:Bs):Tr->En->Cs->R En:=λt τ S=>match VX t with|some l=>if l.length=n then r l τ S else .aG|none=>.aG
theorem nW (h:Jp G k X es r)(hn:autoParam ((assignEach es X.env).length=n) zp_0)(pV:autoParam ((assignEach es X.env).findIdx? (·.1)=none) zp_0)(hk:autoParam (0<k) zp_2):Lg G k X (.Tuple es kk pos) (mD n r):=.mk<|λo=>(Zs (o.fS hk) (h o) hn pV).wk λv σ H Q h=>by
 obtain⟨w,S,τ,t,hr,sl,r,q⟩:=h;unfold mD at q;split at q
 ·rename_i l el
  split at q
  ·obtain⟨a,xs,e1,sq,R⟩:=mq hr r el
   rw[<-o.K] at sq;exact⟨a,xs,e1,sq,by rw[R.len];assumption,w,S,τ,l,hr,sl,R,q⟩
  ·exact q.elim
 ·exact q.elim
noncomputable def aa2 (fo fi:Em):Tr->En->Cs->R En:=λt τ S=>(fo τ S).aF λu S1=>(fi τ S1).aF λj S2=>match u,j with
 |.hd n,.int i=>(match cF S2 n with|some l=>(match Av l.length i with|some m=>.ok τ (S2.set n (.bA (l.set m t)))|none=>.aG)|none=>.aG)
 |_,_=>.aG
theorem aa3 (ho:TV G k X o fo)(hi:TV G k X i fi)(ha:autoParam (∀v,assign (.Subscript o i pos) X.env v=(do
   let ov <-holding [v] (eval o X.env)
   let iv <-holding [v,ov] (eval i X.env)
   standAt pos
   holding [v,ov,iv] (setItem ov iv v)
   release [v,ov,iv] [])) zp_3):Lg G k X (.Subscript o i pos) (aa2 fo fi):=.mk<|λox=>(Zt (ho ox) (hi ox) ag7 ha).wk λv σ H Q h=>by
 obtain⟨w,S,τ,t,hr,sl,r,q⟩:=h;refine⟨w,S,τ,hr,sl,(br.aF q).mono λx H1 dI=>?_⟩
 obtain⟨w1,S1,t1,dD,bN,r1,_,q1⟩:=dI;refine⟨w1,S1,τ,bN,sl.mono dD,(br.aF q1).mono λy H2 eN=>?_⟩
 obtain⟨w2,S2,t2,fq,dN,r2,_,q2⟩:=eN;split at q2
 ·split at q2
  ·rename_i l el
   split at q2
   ·rename_i m em
    have r1':=(RT.mono fq _ _ r1).cO
    obtain⟨ys,h1,h2⟩:=dN.cell _ _ (cN el)
    refine⟨_,_,r1'.2,bg r2,?_⟩
    rw[h1];show match Av ys.length _ with|some j=>_|none=>False
    rw[h2.len,em];exact q2 w2 _ _ (.refl _) (putL dN el (h2.set (RT.mono (dD.trans fq) _ _ r) m)) ((sl.mono dD).mono fq)
   ·exact q2.elim
  ·exact q2.elim
 ·exact q2.elim
noncomputable def aH:Sm:=λτ S=>.nx τ S
noncomputable def ao (f g:Sm):Sm:=λτ S=>match f τ S with|.nx eX S1=>g eX S1|r=>r
noncomputable def c_ (f:Em):Sm:=λτ S=>(f τ S).b_ λ_ S1=>.nx τ S1
noncomputable def aI (f:Em):Sm:=λτ S=>(f τ S).b_ λt S1=>.rt t S1
noncomputable def cP (c:En->Cs->R Bool)(f g:Sm):Sm:=λτ S=>(c τ S).b_ λb S1=>if b=true then f τ S1 else g τ S1
noncomputable def aR (i:Nat)(f:Em):Sm:=λτ S=>(f τ S).b_ λt S1=>.nx (τ.set i (some t)) S1
noncomputable def aa4 (f:Em)(b:Tr->En->Cs->R En):Sm:=λτ S=>(f τ S).b_ λt S1=>(b t τ S1).b_ λeX S2=>.nx eX S2
variable {st:Stmt}{dw:List Stmt}{s1 s2:Sm}
theorem aa5:Jm G k X [] aH:=.mk<|λ_=>Q9.wk λD σ H h=>by
 obtain⟨w,S,τ,hr,sl,q⟩:=h;exact q w H σ (.refl w) hr sl
theorem aa6 (h:zo G k X st s1):Jm G k X [st] s1:=.mk<|λo=>F7 (h o)
theorem SR (h1:zo G k X st s1)(h2:Jm G k X dw s2):Jm G k X (st::dw) (ao s1 s2):=.mk<|λo=>(sN (h1 o) (h2 o)).wk λD σ H h=>by
 obtain⟨w,S,τ,hr,sl,q⟩:=h;refine⟨w,S,τ,hr,sl,?_⟩
 unfold ao at q;split at q
 ·rename_i eX S1 e
  rw[e];exact λw' H' d9 le qw Lr=>⟨w',S1,eX,qw,Lr,cG.wd le q⟩
 ·rename_i r De
  cases e:s1 τ S with
  |nx eX S1=>exact absurd e (De eX S1)
  |rt t S1=>rw[e] at q;exact q
  |bk t S1=>rw[e] at q;exact q
  |ct t S1=>rw[e] at q;exact q
  |ex t S1=>rw[e] at q;exact q
  |aG=>rw[e] at q;exact q
theorem SS (he:TV G k X e f)(hs:autoParam (swapsWith e none pos.line X.env=pure false) zp_0):zo G k X (.Expr e pos) (c_ f):=.mk<|λo=>(F8 (he o) hs).wk λD σ H h=>by
 obtain⟨w,S,τ,hr,sl,q⟩:=h;exact⟨w,S,τ,hr,sl,(cG.aF q).mono λv H1 iu=>by obtain⟨w1,S1,t1,dD,bN,r1,_,q1⟩:=iu;exact q1 w1 H1 σ (.refl _) bN (sl.mono dD)⟩
theorem aa7 (he:TV G k X e f):zo G k X (.Return (some e) pos) (aI f):=.mk<|λo=>(Zq (he o)).wk λD σ H h=>by
 obtain⟨w,S,τ,hr,sl,q⟩:=h;exact⟨w,S,τ,hr,sl,(cG.aF q).mono λv H1 jP=>by obtain⟨w1,S1,t1,dD,bN,r1,_,q1⟩:=jP;exact q1 w1 H1 v (.refl _) bN r1⟩
theorem ahJ (hc:Dg G k X c ta)(ha:Jm G k X as s1)(hb:Jm G k X bs s2):zo G k X (.If c as bs pos) (cP ta s1 s2):=.mk<|λo=>(afZ (hc o) (ha o) (hb o)).wk λD σ H h=>by
 obtain⟨w,S,τ,hr,sl,q⟩:=h;refine⟨w,S,τ,hr,sl,(cG.aF q).mono λx H1 l8=>?_⟩
 obtain⟨w1,S1,t1,dD,bN,r1,_,q1⟩:=l8;subst r1;cases t1 with
 |true=>rw[if_pos rfl] at q1;exact AX ⟨w1,S1,τ,bN,sl.mono dD,q1⟩
 |false=>rw[if_neg zal] at q1;exact AW ⟨w1,S1,τ,bN,sl.mono dD,q1⟩
theorem Ec (h:MV G (aR i f) D σ H):Rc (fm G f) (F9 i) D σ H:=by
 obtain⟨w,S,τ,hr,sl,q⟩:=h;exact⟨w,S,τ,hr,sl,(cG.aF q).mono λv H1 jQ=>by obtain⟨w1,S1,t1,dD,bN,r1,_,q1⟩:=jQ;exact q1 w1 H1 _ (.refl _) bN ((sl.mono dD).set i r1)⟩
theorem aa8 (hN:X.N.Nodup)(hi:X.N[i]? = some x)(hx:Vx X.env.scope x)(he:TV G k X e f)(hs:autoParam (swapsWith e (some (.Name x jK)) pos.line X.env=pure false) zp_0)(hf:autoParam (X.fn x=true\/X.env.scope.names.lookup x=some .local) zp_4):
  zo G k X (.Assign [.Name x jK] e pos) (aR i f):=.mk<|λo=>(Zv hN hi hx (he o) hs hf).wk λ_ _ _ h=>Ec h
theorem aa9 {b:Tr->En->Cs->R En}(he:TV G k X e f)(hg:Lg G k X tg b)(hs:autoParam (swapsWithSole [tg] e pos.line X.env=pure false) zp_0)(hw:autoParam (swappedStores [tg] e X.env=pure none) zp_0)
  (h1:autoParam ((assignEach [tg] X.env).map (·.2)=[assign tg X.env]) zp_0):zo G k X (.Assign [tg] e pos) (aa4 f b):=.mk<|λo=>(Zu (he o) (hg o) hs hw h1).wk λD σ H h=>by
 obtain⟨w,S,τ,hr,sl,q⟩:=h;exact⟨w,S,τ,hr,sl,(cG.aF q).mono λv H1 jT=>by obtain⟨w1,S1,t1,dD,bN,r1,_,q1⟩:=jT;exact⟨w1,S1,τ,t1,bN,sl.mono dD,r1,(cG.aF q1).mono λAu H2 M0=>by obtain⟨w2,S2,nJ,fq,dN,L5,_,q2⟩:=M0;exact q2 w2 H2 Au (.refl _) dN L5⟩⟩
noncomputable def amK (i j:Nat)(fr:En->Cs->R (List Tr)):Sm:=λτ S=>(fr τ S).b_ λts S1=>match ts with|[t,u]=>.nx ((τ.set i (some t)).set j (some u)) S1|_=>.aG
noncomputable def o7 (u j t:Tr)(S:Cs):R Unit:=match u with
 |.hd n=>(match jr j with|some q=>(match tT S n with|some m=>if m.length<sizeLine then .ok () (S.set n (.jD (lz m q t))) else .aG|none=>.aG)|none=>.aG)
 |_=>.aG
theorem Ni {x y v:V}(hr:HR G w S H)(ru:RT w u x)(rj:RT w j y)(rt:RT w t v)(e:o7 u j t S = .ok () S'):∃a H',x = .ref a/\IT H a y v H'/\HR G w S' H':=by
 unfold o7 at e;split at e
 ·split at e
  ·rename_i q ek
   split at e
   ·rename_i m em
    split at e
    ·cases e
     obtain⟨aQ,h1,h2⟩:=hr.cell _ _ (gW em)
     refine⟨_,_,ru.cO.2,by rw[iy ek rj];exact IT.k h1 (by rw[h2.len];assumption),?_⟩
     exact hr.DI (gW em) rfl rfl ⟨_,av,h2.DI q rt⟩
    ·cases e
   ·cases e
  ·cases e
 ·cases e
noncomputable def GO (fo fi fv:Em):Sm:=λτ S=>(fv τ S).b_ λt S1=>(fo τ S1).b_ λu S2=>(fi τ S2).b_ λj S3=>(o7 u j t S3).b_ λ_ S4=>.nx τ S4
theorem Ed:o7 u j t S ≠ .ex n S':=by
 unfold o7;split<;>(try split)<;>(try split)<;>(try split)<;>simp
theorem GP (ho:TV G k X o fo)(hi:TV G k X i fi)(hv:TV G k X value fv)(hs:autoParam (swapsWith value (some (.Subscript o i jK)) pos.line X.env=pure false) zp_0):zo G k X (.Assign [.Subscript o i jK] value pos) (GO fo fi fv):=.mk<|λox=>(RA ox.hu1 (ho ox) (hi ox) (hv ox) hs).wk λD σ H h=>by
 obtain⟨w,S,τ,hr,sl,q⟩:=h;refine⟨w,S,τ,hr,sl,(cG.aF q).mono λv H1 kG=>?_⟩
 obtain⟨w1,S1,t,dD,bN,r1,_,q1⟩:=kG;refine⟨w1,S1,τ,bN,sl.mono dD,(cG.aF q1).mono λx H2 nU=>?_⟩
 obtain⟨w2,S2,u,fq,dN,r2,_,q2⟩:=nU;refine⟨w2,S2,τ,dN,(sl.mono dD).mono fq,(cG.aF q2).mono λy H3 i7=>?_⟩
 obtain⟨w3,S3,j,mh,ql,r3,_,q3⟩:=i7;cases e:o7 u j t S3 with
 |ok z S4 =>
  rw[e] at q3;obtain⟨a,H4,e1,d,Lh⟩:=Ni ql (RT.mono mh _ _ r2) r3 (RT.mono (fq.trans mh) _ _ r1) e
  exact⟨a,H4,e1,d,q3 w3 _ σ (.refl _) Lh (((sl.mono dD).mono fq).mono mh)⟩
 |ex n S4=>exact absurd e Ed
 |aG=>rw[e] at q3;exact q3.elim
noncomputable def dU (G:Gx)(cs:List Str)(f:Str):Prop:=∀c∈cs,sQ G.K (G.cl c)/\bU G.K (G.cl c) f
noncomputable def Jq (cs:List Str)(f:Str)(t:Tr)(S:Cs):R Tr:=match t with
 |.hd n=>(match iM S n with|some (c,fs)=>if c∈cs then (match aP f fs with|some u=>.ok u S|none=>.aG) else .aG|none=>.aG)
 |_=>.aG
noncomputable def a_ (cs:List Str)(f:Str)(fo:Em):Em:=λτ S=>(fo τ S).aF λt S1=>Jq cs f t S1
theorem az {f:Str}(hf:dU G cs f)(ho:TV G k X o fo)(hb:autoParam (attributeBase o f X.env (eval o X.env)=eval o X.env) zp_0):TV G k X (.Attribute o f pos) (a_ cs f fo):=.mk<|λox=>(ZK (ho ox) hb).wk λσ H Q h=>by
 obtain⟨w,S,τ,hr,sl,q⟩:=h;refine⟨w,S,τ,hr,sl,(br.aF q).mono λx H1 nV=>?_⟩
 obtain⟨w1,S1,t1,dD,bN,r1,_,q1⟩:=nV;unfold Jq at q1;split at q1
 ·split at q1
  ·rename_i c fs ei
   split at q1
   ·rename_i hc
    split at q1
    ·rename_i u eu
     obtain⟨dx,qg,h1,h2⟩:=bN.cell _ _ (fu ei)
     obtain⟨v,ev,rv⟩:=(gm (k:=f) h2).1 u eu
     obtain⟨c1,c2⟩:=hf c hc;rw[<-ox.K] at c1 c2;exact⟨_,_,dx,qg,v,r1.cO.2,h1,c1,c2,ev,q1 w1 H1 v (.refl _) bN rv⟩
    ·exact q1.elim
   ·exact q1.elim
  ·exact q1.elim
 ·exact q1.elim
noncomputable def o8 (cs:List Str)(f:Str)(t v:Tr)(S:Cs):R Unit:=match t with
 |.hd n=>(match iM S n with|some (c,fs)=>if c∈cs/\fs.length<1000 then .ok () (S.set n (.eS c (bY f v fs))) else .aG|none=>.aG)
 |_=>.aG
noncomputable def b9 (cs:List Str)(f:Str)(fo fv:Em):Sm:=λτ S=>(fv τ S).b_ λt S1=>(fo τ S1).b_ λu S2=>(o8 cs f u t S2).b_ λ_ S3=>.nx τ S3
theorem SV {f:Str}{x y:V}(hf:dU G cs f)(hr:HR G w S H)(rt:RT w t x)(ru:RT w u y)(e:o8 cs f t u S = .ok () S'):
  ∃a C dx fs,x = .ref a/\H a=some (.eS C dx fs)/\sQ G.K C/\bU G.K C f/\fs.length<1000/\HR G w S' (bD H a (.eS C dx (gz f y fs))):=by
 unfold o8 at e;split at e
 ·split at e
  ·rename_i c fs ei
   split at e
   ·rename_i hc
    cases e;obtain⟨dx,qg,h1,h2⟩:=hr.cell _ _ (fu ei)
    obtain⟨c1,c2⟩:=hf c hc.1;exact⟨_,_,dx,qg,rt.cO.2,h1,c1,c2,by rw[h2.len];exact hc.2,hr.DI (fu ei) rfl rfl ⟨dx,_,av,h2.gz f ru⟩⟩
   ·cases e
  ·cases e
 ·cases e
theorem aZ {f:Str}(hf:dU G cs f)(ho:TV G k X o fo)(hv:TV G k X value fv)(hs:autoParam (swapsWith value (some (.Attribute o f jK)) pos.line X.env=pure false) zp_0):zo G k X (.Assign [.Attribute o f jK] value pos) (b9 cs f fo fv):=.mk<|λox=>(ZL (ho ox) (hv ox) hs).wk λD σ H h=>by
 obtain⟨w,S,τ,hr,sl,q⟩:=h;refine⟨w,S,τ,hr,sl,(cG.aF q).mono λv H1 tP=>?_⟩
 obtain⟨w1,S1,t,dD,bN,r1,_,q1⟩:=tP;refine⟨w1,S1,τ,bN,sl.mono dD,(cG.aF q1).mono λx H2 tQ=>?_⟩
 obtain⟨w2,S2,u,fq,dN,r2,_,q2⟩:=tQ;cases e:o8 cs f u t S2 with
 |ok z S3 =>
  rw[e] at q2;obtain⟨a,C,dx,fs,e1,h1,c1,c2,hl,ql⟩:=SV hf dN r2 (RT.mono fq _ _ r1) e
  rw[<-ox.K] at c1 c2;exact⟨a,C,dx,fs,e1,h1,c1,c2,hl,q2 w2 _ σ (.refl _) ql ((sl.mono dD).mono fq)⟩
 |ex n S3=>exact absurd e (by unfold o8;split<;>(try split)<;>(try split)<;>simp)
 |aG=>rw[e] at q2;exact q2.elim
noncomputable def xy (cs:List Str)(f:Str)(g:Int->Int->Int)(fo fv:Em):Sm:=λτ S=>(fo τ S).b_ λt S1=>match t with
 |.hd n=>(match iM S1 n with
  |some (c,fs)=>if c∈cs then (match aP f fs with
   |some (.int i)=>(fv τ S1).b_ λy S2=>(match y with
    |.int j=>(match iM S2 n with|some (c',Lc)=>if c'=c/\Lc.length<1000 then .nx τ (S2.set n (.eS c (bY f (.int (g i j)) Lc))) else .aG|none=>.aG)
    |_=>.aG)
   |_=>.aG) else .aG
  |none=>.aG)
 |_=>.aG
theorem rZ {f:Str}(hop:∀X:Cx,Rq X op (λx y H Q=>∃i j,x = .int i/\y = .int j/\Q (.int (g i j)) H))(hf:dU G cs f)(ho:TV G k X o fo)(hv:TV G k X value fv):zo G k X (.AugAssign (.Attribute o f jK) op value pos) (xy cs f g fo fv):=.mk<|λox=>(IP (ho ox) (hv ox) (hop X)).wk λD σ H h=>by
 obtain⟨w,S,τ,hr,sl,q⟩:=h;refine⟨w,S,τ,hr,sl,(cG.aF q).mono λx H1 tR=>?_⟩
 obtain⟨w1,S1,t,dD,bN,r1,_,q1⟩:=tR;split at q1
 ·rename_i n
  split at q1
  ·rename_i c fs ei
   split at q1
   ·rename_i hc
    split at q1
    ·rename_i i eu
     obtain⟨dx,qg,h1,h2⟩:=bN.cell _ _ (fu ei)
     obtain⟨v,ev,rv⟩:=(gm (k:=f) h2).1 _ eu
     obtain⟨c1,c2⟩:=hf c hc;rw[<-ox.K] at c1 c2;refine⟨_,_,dx,qg,v,r1.cO.2,h1,c1,c2,ev,w1,S1,τ,bN,sl.mono dD,(cG.aF q1).mono λy H2 tS=>?_⟩
     obtain⟨w2,S2,t2,fq,dN,r2,_,q2⟩:=tS;split at q2
     ·rename_i j
      split at q2
      ·rename_i c' Lc ei'
       split at q2
       ·rename_i hl
        obtain⟨rfl,hl⟩:=hl;obtain⟨dx',amL,h1',GQ⟩:=dN.cell _ _ (fu ei')
        have e0:=fq.r _ r1.cO.1;rw[e0] at h1';refine⟨i,_,bg rv,bg r2,dx',amL,h1',by rw[GQ.len];exact hl,q2 w2 _ σ (.refl _) ?_ ((sl.mono dD).mono fq)⟩
        rw[<-e0];exact dN.DI (fu ei') rfl rfl ⟨dx',_,av,GQ.gz f d7⟩
       ·exact q2.elim
      ·exact q2.elim
     ·exact q2.elim
    ·exact q1.elim
   ·exact q1.elim
  ·exact q1.elim
 ·exact q1.elim
theorem r9:∀X:Cx,Rq X .Add (λx y H Q=>∃i j,x = .int i/\y = .int j/\Q (.int (i+j)) H):=λ_=>ZM
end
structure zz where
 items:List Tr
 gM:Cs->Prop
noncomputable def SW (G:Gx)(w:Wd)(s:zz)(J:It):Prop:=∀(w1:Wd) (S1:Cs) (H1:Hp) (i:Nat),w.K=w1.K->w.n<=w1.n->(∀i,i<w.n->w1.ρ i=w.ρ i)->(∀b o,w.F b=some o->w1.F b=some o)->HR G w1 S1 H1->s.gM S1 ->
 (∀t,s.items[i]? = some t->J.go i H1/\∀x H2,J.yld i H1 x H2->∃w2,w1.le w2/\HR G w2 S1 H2/\RT w2 t x)/\(i=s.items.length->J.stop i H1)
noncomputable def SX (G:Gx)(f:En->Cs->R zz):TI:=λσ H Q=>∃w S τ,HR G w S H/\Sl w τ σ /\ br (λw s J=>SW G w s J) G w (f τ S) Q
structure Nj (G:Gx) (k:Nat) (X:Cx) (tg dQ:Expr) (f:En->Cs->R zz):Prop where
 kh:jE G k X->PI X tg dQ (SX G f)
noncomputable instance {G:Gx}{k:Nat}{X:Cx}{tg dQ:Expr}{f:En->Cs->R zz}:CoeFun (Nj G k X tg dQ f) (λ_=>jE G k X->PI X tg dQ (SX G f)):=⟨Nj.kh⟩
section
variable {G:Gx}{k:Nat}{X:Cx}{a b c o e tg:Expr}{es:List Expr}{fa fb f:Em}{fr:En->Cs->R (List Tr)}{pos p:Pos}
theorem PI.wk (h:PI X tg dQ t)(g:∀ σ H Q,t' σ H Q->t σ H Q):PI X tg dQ t':=λah s σ H R I q=>h ah s σ H R I (g _ _ _ q)
theorem RT.xA (hK:w.K=w1.K)(hn:w.n<=w1.n)(iX:∀i,i<w.n->w1.ρ i=w.ρ i)(hF:∀b o,w.F b=some o->w1.F b=some o)(r:RT w t v):RT w1 t v:=
 RT.mono (w:={w with hid:=w1.hid}) ⟨hK.symm,hn,iX,hF,rfl⟩ t v (RT.bE _ t v r)
theorem bL.xA (hK:w.K=w1.K)(hn:w.n<=w1.n)(iX:∀i,i<w.n->w1.ρ i=w.ρ i)(hF:∀b o,w.F b=some o->w1.F b=some o)(r:bL w l xs):bL w1 l xs:=
 bL.mono (w:={w with hid:=w1.hid}) ⟨hK.symm,hn,iX,hF,rfl⟩ l xs (bL.bE _ l xs r)
noncomputable def iL:Tr->Cs->R zz:=λt S=>match t with
 |.ls l=>.ok ⟨l,λ_=>True⟩ S
 |.kl l=>.ok ⟨l,λ_=>True⟩ S
 |.hd n=>(match cF S n with|some l=>.ok ⟨l,λS'=>cF S' n=some l⟩ S|none=>.aG)
 |_=>.aG
noncomputable def iT:Tr->Cs->R zz:=λt S=>match t with
 |.tp l=>.ok ⟨l,λ_=>True⟩ S
 |.kt l=>.ok ⟨l,λ_=>True⟩ S
 |_=>.aG
noncomputable def tY (g:Tr->Cs->R zz)(f:Em):En->Cs->R zz:=λτ S=>(f τ S).aF λt S1=>g t S1
noncomputable def ahK (G:Gx)(w:Wd)(s:zz)(a:Addr)(l:List Tr):Prop:=s.items=l/\∀(w1:Wd) (S1:Cs) (H1:Hp),w.K=w1.K->w.n<=w1.n->(∀i,i<w.n->w1.ρ i=w.ρ i)->(∀b o,w.F b=some o->w1.F b=some o)->HR G w1 S1 H1->s.gM S1->∃xs,jn G.K H1 a xs/\bL w1 l xs
theorem GR (hr:HR G w S H)(r:RT w t v)(e:iL t S = .ok s S'):S'=S/\∃a l,v = .ref a/\(∃xs,jn G.K H a xs/\bL w l xs)/\ahK G w s a l:=by
 unfold iL at e;split at e
 ·cases e
  unfold RT at r;obtain⟨a,xs,rfl,h,r⟩:=r;exact⟨rfl,a,_,rfl,⟨xs,jn.of (hr.sub _ _ h),r⟩,rfl,λw1 S1 H1 hK hn iX hF bN _=>⟨xs,jn.of (bN.sub _ _ (hF _ _ h)),r.xA hK hn iX hF⟩⟩
 ·cases e
  unfold RT at r;obtain⟨a,xs,rfl,h,r⟩:=r;exact⟨rfl,a,_,rfl,⟨xs,hr.sqL h,r⟩,rfl,λw1 S1 H1 hK hn iX hF bN _=>⟨xs,bN.sqL (by rw[<-hK];exact h.mono hF),r.xA hK hn iX hF⟩⟩
 ·rename_i n
  split at e
  ·rename_i l el
   cases e;obtain⟨xs,h1,h2⟩:=hr.cell _ _ (cN el)
   have hi:=r.cO;refine⟨rfl,_,l,hi.2,⟨xs,jn.of h1,h2⟩,rfl,λw1 S1 H1 hK hn iX hF bN hc=>?_⟩
   obtain⟨ys,h3,h4⟩:=bN.cell _ _ (cN hc)
   rw[iX _ hi.1] at h3;exact⟨ys,jn.of h3,h4⟩
  ·cases e
 ·cases e
theorem GS:iL t S ≠ .ex n S':=by
 unfold iL;split<;>(try split)<;>simp
theorem SY (ha:TV G k X a fa):Nj G k X tg a (tY iL fa):=.mk<|λox=>(Rf (ha ox)).wk λσ H Q h=>by
 obtain⟨w,S,τ,hr,sl,q⟩:=h;refine⟨w,S,τ,hr,sl,(br.aF q).mono λx H1 cC=>?_⟩
 obtain⟨w1,S1,t1,dD,bN,r1,_,q1⟩:=cC;cases e:iL t1 S1 with
 |ok s S2 =>
  rw[e] at q1;obtain⟨rfl,p,l,rfl,⟨xs,sq,R⟩,ei,st⟩:=GR bN r1 e
  refine⟨p,rfl,⟨xs,by rw[ox.K];exact sq⟩,q1 w1 H1 _ (.refl _) bN λw2 S2 H2 i hK hn iX hF dN hc=>?_⟩
  obtain⟨ys,Nk,R2⟩:=st w2 S2 H2 hK hn iX hF dN hc;rw[ei];refine⟨λt et=>?_,λhi=>⟨ys,by rw[ox.K];exact Nk,by rw[R2.len,hi];exact zah _⟩⟩
  obtain⟨v,ev,rv⟩:=R2.get et;refine⟨⟨ys,v,by rw[ox.K];exact Nk,ev⟩,λy H3 dI=>?_⟩
  obtain⟨e3,hy⟩:=dI;subst e3
  have:=hy ys (by rw[ox.K];exact Nk)
  rw[ev] at this;cases this;exact⟨w2,.refl _,dN,rv⟩
 |ex n S2=>exact absurd e GS
 |aG=>rw[e] at q1;exact q1.elim
theorem aba (ha:TV G k X a fa):Nj G k X tg a (tY iT fa):=.mk<|λox=>(Zw (ha ox)).wk λσ H Q h=>by
 obtain⟨w,S,τ,hr,sl,q⟩:=h;refine⟨w,S,τ,hr,sl,(br.aF q).mono λx H1 eN=>?_⟩
 obtain⟨w1,S1,t1,dD,bN,r1,_,q1⟩:=eN;have go:∀{l:List Tr},VX t1=some l->br (λw s J=>SW G w s J) G w1 (.ok ⟨l,λ_=>True⟩ S1) Q->∃a,x = .ref a/\(∃xs,nM X.K H1 a xs)/\Q (Itt X.K a) H1:=λ{l} el q1=>by
  obtain⟨p,xs,rfl,sq,R⟩:=mq bN r1 el;refine⟨p,rfl,⟨xs,by rw[ox.K];exact sq⟩,q1 w1 H1 _ (.refl _) bN λw2 S2 H2 i hK hn iX hF dN hc=>?_⟩
  obtain⟨_,ys,ep,Nk,R2⟩:=mq dN (r1.xA hK hn iX hF) el
  cases ep;refine⟨λt et=>?_,λhi=>⟨ys,by rw[ox.K];exact Nk,by rw[R2.len,hi];exact zah _⟩⟩
  obtain⟨v,ev,rv⟩:=R2.get et;refine⟨⟨ys,v,by rw[ox.K];exact Nk,ev⟩,λy H3 iu=>?_⟩
  obtain⟨e3,hy⟩:=iu;subst e3
  have:=hy ys (by rw[ox.K];exact Nk)
  rw[ev] at this;cases this;exact⟨w2,.refl _,dN,rv⟩
 unfold iT at q1;split at q1
 ·exact go rfl q1
 ·exact go rfl q1
 ·exact q1.elim
noncomputable def qx (lo:Int)(n:Nat):List Tr:=(List.range n).map λ(j:Nat)=>Tr.int (lo+j)
noncomputable def o9 (fr:En->Cs->R (List Tr)):En->Cs->R zz:=λτ S=>(fr τ S).aF λts S1=>match ts with
 |[.int j]=>wo (-(2 ^ 62)<=j/\j<2 ^ 62) (.ok ⟨qx 0 j.toNat,λ_=>True⟩ S1) .aG
 |_=>.aG
theorem abb {lo:Int}:SW G w ⟨qx lo n,λ_=>True⟩ (Itr lo n):=λw2 S2 H2 i hK hn iX hF dN hc=>by
 refine⟨λt et=>?_,λhi=>?_⟩
 ·have et:(qx lo n)[i]? = some t:=et
  unfold qx at et;rw[zau] at et;have ly:i<n:=by
   cases ec:(List.range n)[i]? with
   |none=>rw[ec] at et;cases et
   |some c=>simpa using (zae.mp ec).1
  rw[zcZ ly] at et;cases et;refine⟨ly,λy H3 jQ=>?_⟩
  obtain⟨e3,ey⟩:=jQ;subst e3;subst ey;exact⟨w2,.refl _,dN,d7⟩
 ·show n<=i
  have hi:i=(qx lo n).length:=hi
  unfold qx at hi;simp at hi
  omega
theorem o_ (hm:X.mg "range"=none)(ha:wu G k X [a] fr)(hg:autoParam (Gl X "range") zp_0)(hs:autoParam (dB a=false) zp_0):Nj G k X tg (.Call (.Name "range" p) [a] [] pos) (o9 fr):=.mk<|λox=>(II hg hm (ha ox) (cE hs)).wk λσ H Q h=>by
 obtain⟨w,S,τ,hr,sl,q⟩:=h;refine⟨w,S,τ,hr,sl,(br.aF q).mono λxs H1 jT=>?_⟩
 obtain⟨w1,S1,ts,dD,bN,r1,_,q1⟩:=jT;split at q1
 ·unfold wo at q1
  split at q1
  ·rename_i h
   obtain⟨x,rfl,rx⟩:=eY r1;exact⟨_,by rw[bg rx],h.1,h.2,q1 w1 H1 _ (.refl _) bN abb⟩
  ·exact q1.elim
 ·exact q1.elim
noncomputable def q8 (st:Nat)(l:List Tr):List Tr:=(l.zip (List.range l.length)).map λp=>Tr.tp [.int ((st+p.2:Nat):Int),p.1]
noncomputable def mEn (st:Nat)(fr:En->Cs->R (List Tr)):En->Cs->R zz:=λτ S=>(fr τ S).aF λts S1=>match ts with
 |[t]=>(iL t S1).aF λs S2=>.ok ⟨q8 st s.items,s.gM⟩ S2
 |_=>.aG
theorem xB {st:Nat}{t:Tr}(h:(q8 st l)[i]? = some t):∃u,l[i]? = some u/\t = .tp [.int ((st+i:Nat):Int),u]:=by
 unfold q8 at h;rw[zau] at h;cases e:(l.zip (List.range l.length))[i]? with
 |none=>rw[e] at h;cases h
 |some p =>
  rw[e] at h;cases h;obtain⟨u,j⟩:=p;rw[List.getElem?_zip_eq_some] at e;obtain⟨e1,e2⟩:=e;have ly:i<l.length:=(zae.mp e1).1
  rw[zcZ ly] at e2;cases e2;exact⟨u,e1,rfl⟩
theorem Jr {st:Nat}:(q8 st l).length=l.length:=by simp[q8]
theorem ahL {st:Nat}(hK:X.K=G.K){Q:It->Hp->Prop}(h:SX G (mEn st fr) σ H Q):iEn X.K st (D6 G fr) σ H Q:=by
 obtain⟨w,S,τ,hr,sl,q⟩:=h;refine⟨w,S,τ,hr,sl,(br.aF q).mono λxs H1 nU=>?_⟩
 obtain⟨w1,S1,ts,dD,bN,r1,_,q1⟩:=nU;split at q1
 ·rename_i t _
  obtain⟨x,rfl,rx⟩:=eY r1;cases e:iL t S1 with
  |ok s S2 =>
   rw[e] at q1;obtain⟨rfl,p,l,rfl,⟨xs,sq,R⟩,ei,pY⟩:=GR bN rx e
   refine⟨p,xs,rfl,by rw[hK];exact sq,q1 w1 H1 _ (.refl _) bN λw2 S2 H2 i hK2 hn iX hF dN hc=>?_⟩
   obtain⟨ys,Nk,R2⟩:=pY w2 S2 H2 hK2 hn iX hF dN hc;refine⟨λt et=>?_,λhi=>⟨ys,by rw[hK];exact Nk,?_⟩⟩
   ·obtain⟨u,eu,rfl⟩:=xB et
    rw[ei] at eu;obtain⟨v,ev,rv⟩:=R2.get eu;refine⟨⟨ys,v,by rw[hK];exact Nk,ev⟩,λy H3 i7=>?_⟩
    obtain⟨T,z,hT,ey,eH,hz⟩:=i7
    have:=hz ys (by rw[hK];exact Nk)
    rw[ev] at this;cases this;subst ey;subst eH;obtain⟨h3,mh⟩:=dN.lay hT (.gQ [.int ((st+i:Nat):Int),v])
    refine⟨_,mh,h3,?_⟩
    unfold RT;exact⟨T,_,rfl,av,.cons d7 (.cons (RT.mono mh _ _ rv) .nil)⟩
   ·have hi:i=(q8 st s.items).length:=hi
    rw[Jr,ei] at hi;rw[R2.len,hi]
  |ex n S2=>exact absurd e GS
  |aG=>rw[e] at q1;exact q1.elim
 ·exact q1.elim
theorem S9 {x1}(hm:X.mg "enumerate"=none)(ha:wu G k X [a] fr)(hg:autoParam (Gl X "enumerate") zp_0)(hs:autoParam (dB a=false) zp_0):Nj G k X (.Tuple R9 x1 tp) (.Call (.Name "enumerate" p) [a] [] pos) (mEn 0 fr):=.mk<|λox=>(Se hg hm (ha ox) (cE hs)).wk λσ H Q h=>ahL ox.K h
noncomputable def lpS (r:RS)(g:Sm):RS:=match r with|.nx τ S=>g τ S|.ct τ S=>g τ S|.bk τ S=>.nx τ S|.rt t S=>.rt t S|.ex n S=>.ex n S|.aG=>.aG
open Classical in
noncomputable def gS (gM:Cs->Prop)(b:Tr->En->Cs->R En)(f:Sm):List Tr->En->Cs->RS
 |[],τ,S=>if gM S then .nx τ S else .aG
 |t::r,τ,S=>if gM S then (b t τ S).b_ λeX S1=>lpS (f eX S1) (gS gM b f r) else .aG
noncomputable def wz (fi:En->Cs->R zz)(b:Tr->En->Cs->R En)(f:Sm):Sm:=λτ S=>(fi τ S).b_ λs S1=>gS s.gM b f s.items τ S1
theorem S_ (h:cG G w (lpS r g) D)(hN:∀w' H' d9 τ S,w.le w'->HR G w' S H'->Sl w' τ d9->cG G w' (g τ S) D->N d9 H'):cG G w r {D with nx:=N,ct:=N,bk:=D.nx}:=by
 cases r with
 |nx τ S=>exact λw' H' d9 le hr sl=>hN w' H' d9 τ S le hr sl (cG.wd le h)
 |ct τ S=>exact λw' H' d9 le hr sl=>hN w' H' d9 τ S le hr sl (cG.wd le h)
 |bk τ S=>exact h
 |rt τ S=>exact h
 |ex τ S=>exact h
 |aG=>exact h
theorem mE (hp:PassesOwn (model X.prog X.w) X.A X.env X.xe)(hi:Nj G k X tg dQ fi)(hg:Lg G k X tg bt)(hb:Jm G k X body sb)(hs:autoParam (∀x,foldedSetIterable dQ X.env x=pure x) zp_3)(hk:autoParam (0<k) zp_2):zo G k X (.For tg dQ body [] pos) (wz fi bt sb):=.mk<|λox =>
 (Zx hp (ox.fS hk) (hi ox) (hg ox) (hb ox) hs).wk λD σ H h=>by
  obtain⟨w,S,τ,hr,sl,q⟩:=h;refine⟨w,S,τ,hr,sl,(cG.aF q).mono λJ H1 nV=>?_⟩
  obtain⟨w1,S1,s,dD,bN,it,_,q1⟩:=nV;refine⟨λi m Au H2=>∃w2 S2 nJ,w1.le w2/\HR G w2 S2 H2/\Sl w2 nJ Au/\i<=s.items.length/\m=s.items.length - i/\cG G w2 (gS s.gM bt sb (s.items.drop i) nJ S2) D,⟨_,w1,S1,τ,.refl _,bN,sl.mono dD,zcG _,rfl,q1⟩,?_⟩
  rintro i m Au H2 ⟨w2,S2,nJ,fq,dN,L5,hi,rfl,q2⟩
  by_cases ly:i<s.items.length
  ·have ed:s.items.drop i=s.items[i]::s.items.drop (i+1):=zcw ly
   rw[ed] at q2;unfold gS at q2;split at q2
   ·rename_i hc
    obtain⟨go,yl⟩:=(it w2 S2 H2 i fq.K.symm fq.n fq.r fq.F dN hc).1 s.items[i] (zag ly)
    refine .inr ⟨go,λd9 H'=>∃m',m' < s.items.length - i/\∃w2 S2 nJ,w1.le w2/\HR G w2 S2 H'/\Sl w2 nJ d9/\i+1<=s.items.length/\m'=s.items.length - (i+1)/\cG G w2 (gS s.gM bt sb (s.items.drop (i+1)) nJ S2) D,λd9 H' h=>h,λx H' hy=>?_⟩
    obtain⟨w3,mh,ql,r3⟩:=yl x H' hy;refine⟨w3,S2,nJ,_,ql,L5.mono mh,r3,(cG.aF (cG.wd mh q2)).mono λσ4 H4 ⟨w4,S4,Dk,MY,Lh,sl4,_,q4⟩=>⟨w4,S4,Dk,Lh,sl4,S_ q4 λw5 H5 σ5 τ5 S5 le5 hr5 sl5 q5=>?_⟩⟩
    exact⟨_,by omega,w5,S5,τ5,((fq.trans mh).trans MY).trans le5,hr5,sl5,ly,rfl,q5⟩
   ·exact q2.elim
  ·have e:i=s.items.length:=by omega
   subst e;rw[List.drop_length] at q2;unfold gS at q2;split at q2
   ·rename_i hc
    exact .inl ⟨(it w2 S2 H2 _ fq.K.symm fq.n fq.r fq.F dN hc).2 rfl,q2 w2 H2 Au (.refl _) dN L5⟩
   ·exact q2.elim
end
noncomputable def Gx.nx (G:Gx):Gx:={G with E:=E0}
theorem bI.nx:bI G.nx w H a c↔bI G w H a c:=by cases c<;>exact Iff.rfl
theorem HR.nx (h:HR G w S H):HR G.nx w S H:=⟨h.K,h.n,h.F,λi c e=>bI.nx.mpr (h.cell i c e),h.inj,h.hid,h.jS,h.hl⟩
theorem HR.unx (h:HR G.nx w S H):HR G w S H:=⟨h.K,h.n,h.F,λi c e=>bI.nx.mp (h.cell i c e),h.inj,h.hid,h.jS,h.hl⟩
noncomputable def jj {α:Type}(r:R α):R α:= match r with|.ok a s=>.ok a s|_=>.aG
noncomputable def iG (fr:List Nat)(n:Nat)(τ:En):En:=(fr.map λj=>(τ[j]?).join)++List.replicate n none
noncomputable def iN:En->Cs->R Bool:=λ_ S=>.ok true S
open Classical in
noncomputable def cX (gM:Cs->Prop)(b:Tr->En->Cs->R En)(c:En->Cs->R Bool)(f:Em):List Tr->En->List Tr->Cs->R (List Tr)
 |[],_,cD,S=>if gM S then .ok cD S else .aG
 |t::r,τ,cD,S=>if gM S then (jj (b t τ S)).aF λeX S1=>(jj (c eX S1)).aF λx S2=>if x=true then (jj (f eX S2)).aF λu S3=>(if cD.length<sizeLine then cX gM b c f r eX (cD++[u]) S3 else .aG) else cX gM b c f r eX cD S2 else .aG
noncomputable def fQ (fi:En->Cs->R zz)(fr:List Nat)(n:Nat)(b:Tr->En->Cs->R En)(c:En->Cs->R Bool)(f:Em):Em:=λτ S=>(fi τ S).aF λs S1=>(cX s.gM b c f s.items (iG fr n τ) [] S1).aF λl S2=>.ok (.ls l) S2
noncomputable def zA (fi:En->Cs->R zz)(fr:List Nat)(n:Nat)(b:Tr->En->Cs->R En)(c:En->Cs->R Bool)(f:Em):Em:=λτ S=>(fi τ S).aF λs S1=>(cX s.gM b c f s.items (iG fr n τ) [] S1).aF λl S2=>.ok (.hd S2.length) (S2++[.bA l])
structure Ef (G:Gx) (k:Nat) (X:Cx) (pW:List Expr) (c:En->Cs->R Bool):Prop where
 kh:jE G k X->DQ X pW (A_ G c)
noncomputable instance {G:Gx}{k:Nat}{X:Cx}{pW:List Expr}{c:En->Cs->R Bool}:CoeFun (Ef G k X pW c) (λ_=>jE G k X->DQ X pW (A_ G c)):=⟨Ef.kh⟩
section
variable {G:Gx}{k:Nat}{X:Cx}
theorem Tc:Ef G k X [] iN:=.mk<|λ_ ah s σ H Q I cC=>by obtain⟨w,S,τ,hr,sl,q⟩:=cC;exact RW ah s σ H Q I (q w H _ (.refl w) hr rfl)
theorem Td (h:Dg G k X c t):Ef G k X [c] t:=.mk<|λo=>RX (h o)
theorem jE.comp (o:jE G k X):jE G.nx k (oO X N sc C fp s H xe):=⟨o.K,o.fS,o.room,o.un⟩
theorem Te (sl:Sl w τ σ)(j:Nat)(h:(τ[j]?).join=some t):∃v,(σ[j]?).join=some v/\RT w t v:=by
 have e:τ[j]? = some (some t):=by
  cases q:τ[j]? with
  |none=>rw[q] at h;cases h
  |some x=>rw[q] at h;cases x with
   |none=>cases h
   |some y=>cases h;rfl
 obtain⟨v,ev,rv⟩:=sl.rG j t e;exact⟨v,by rw[ev];rfl,rv⟩
theorem Sl.comp (sl:Sl w τ σ)(fr:List Nat)(T:List Str):Sl w (iG fr T.length τ) (kr fr T σ):=by
 unfold iG kr;refine⟨by simp,λi t e=>?_⟩
 by_cases hi:i<fr.length
 ·rw[zab (by simpa using hi),zau] at e
  rw[zab (by simpa using hi),zau]
  rw[zag hi] at e ⊢
  have e1:(τ[fr[i]]?).join=some t:=by simpa using e
  obtain⟨v,ev,rv⟩:=Te sl _ e1;exact⟨v,by simp[ev],rv⟩
 ·rw[zat (by simpa using hi)] at e
  rw[zcF] at e;split at e<;>cases e
variable {F T:List Str}{fr:List Nat}{sc:Scope}{rV target dQ:Expr}{pW:List Expr}{pos:Pos}{fi:En->Cs->R zz}{bt:Tr->En->Cs->R En}{fc:En->Cs->R Bool}{fe:Em}
inductive abd|val|cel
noncomputable def abd.eW:abd->List Tr->Cs->R Tr|.val,l,S=>.ok (.ls l) S|.cel,l,S=>.ok (.hd S.length) (S++[.bA l])
theorem zB (ce:abd)(hK:X.K=G.K)(h:fm G (λτ S=>(fi τ S).aF λs S1=>(cX s.gM bt fc fe s.items (iG fr T.length τ) [] S1).aF λl S2=>ce.eW l S2) σ H Q):
  Gs (SX G fi) fr T (aaD G.nx bt) (A_ G.nx fc) (fm G.nx fe) σ H Q:=by
 obtain⟨w,S,τ,hr,sl,q⟩:=h;refine⟨w,S,τ,hr,sl,(br.aF q).mono λJ H1 ⟨w1,S1,s,dD,bN,it,_,q1⟩=>λD hD=>?_⟩
 have hhD:=bN.GC hD;refine⟨λi m Au xs H2=>∃w2 S2 nJ cD,w2.hid=bD w1.hid D (.bA xs)/\w2.K=w1.K/\w1.n<=w2.n/\(∀i,i<w1.n->w2.ρ i=w1.ρ i)/\(∀b o,w1.F b=some o->w2.F b=some o)/\HR G w2 S2 H2/\Sl w2 nJ Au/\bL w2 cD xs/\i<=s.items.length/\m=s.items.length - i /\
   br RT G w1 ((cX s.gM bt fc fe (s.items.drop i) nJ cD S2).aF λl S3=>ce.eW l S3) Q,?_,?_⟩
 ·refine⟨_,{w1 with hid:=bD w1.hid D (.bA [])},S1,_,[],rfl,rfl,zah _,λ_ _=>rfl,λ_ _ e=>e,bN.amG hD _ (λ_ z=>by cases z),?_,.nil,zcG _,rfl,q1⟩
  have:=(sl.mono dD).comp fr T
  exact⟨this.len,λi t e=>let ⟨v,ev,rv⟩:=this.rG i t e;⟨v,ev,RT.bE _ t v rv⟩⟩
 ·rintro i m Au xs H2 ⟨w2,S2,nJ,cD,eh,eK,hn,iX,hF,dN,L5,ra,hi,rfl,q2⟩
  have hDx:w2.hid D=some (.bA xs):=by rw[eh];exact av
  refine⟨dN.hid D _ hDx,?_⟩
  by_cases ly:i<s.items.length
  ·have ed:s.items.drop i=s.items[i]::s.items.drop (i+1):=zcw ly
   rw[ed] at q2;unfold cX at q2;split at q2
   ·rename_i hc
    obtain⟨go,yl⟩:=(it w2 S2 H2 i eK.symm hn iX hF dN hc).1 s.items[i] (zag ly)
    refine .inr ⟨go,λd9 ys H'=>∃m',m' < s.items.length - i/\∃w2 S2 nJ cD,w2.hid=bD w1.hid D (.bA ys)/\w2.K=w1.K/\w1.n<=w2.n/\(∀i,i<w1.n->w2.ρ i=w1.ρ i)/\(∀b o,w1.F b=some o->w2.F b=some o)/\HR G w2 S2 H'/\Sl w2 nJ d9/\bL w2 cD ys/\i+1<=s.items.length/\m'=s.items.length - (i+1) /\
     br RT G w1 ((cX s.gM bt fc fe (s.items.drop (i+1)) nJ cD S2).aF λl S3=>ce.eW l S3) Q,λd9 ys H' h=>h,λx H' hy=>?_⟩
    obtain⟨w3,mh,ql,r3⟩:=yl x H' hy;refine⟨w3,S2,nJ,_,ql.nx,L5.mono mh,r3,?_⟩
    cases eb:bt s.items[i] nJ S2 with
    |ok Dk S4 =>
     rw[eb] at q2;intro w4 H4 σ4 MY Lh sl4;refine⟨w4,S4,Dk,Lh,sl4,?_⟩
     have q2:br RT G w1 (((jj (fc Dk S4)).aF λx S2=>if x=true then (jj (fe Dk S2)).aF λu S3=>(if cD.length<sizeLine then cX s.gM bt fc fe (s.items.drop (i+1)) Dk (cD++[u]) S3 else .aG) else cX s.gM bt fc fe (s.items.drop (i+1)) Dk cD S2).aF λl S3=>ce.eW l S3) Q:=q2
     cases ec:fc Dk S4 with
     |ok bb S5 =>
      rw[ec] at q2;have q2:br RT G w1 ((if bb=true then (jj (fe Dk S5)).aF λu S3=>(if cD.length<sizeLine then cX s.gM bt fc fe (s.items.drop (i+1)) Dk (cD++[u]) S3 else .aG) else cX s.gM bt fc fe (s.items.drop (i+1)) Dk cD S5).aF λl S3=>ce.eW l S3) Q:=q2
      intro w5 H5 b' le5 hr5 eb';subst eb';have Eg:=(mh.trans MY).trans le5
      have Bl:w5.hid=bD w1.hid D (.bA xs)/\w5.K=w1.K/\w1.n<=w5.n/\(∀i,i<w1.n->w5.ρ i=w1.ρ i)/\(∀b o,w1.F b=some o->w5.F b=some o):=⟨Eg.hid.trans eh,Eg.K.trans eK,zai hn Eg.n,λi hi=>(Eg.r i (zak hi hn)).trans (iX i hi),λb o e=>Eg.F b o (hF b o e)⟩
      cases bb with
      |true =>
       rw[if_pos rfl] at q2;refine AX ⟨w5,S5,Dk,hr5,sl4.mono le5,?_⟩
       cases ef:fe Dk S5 with
       |ok u S6 =>
        rw[ef] at q2;have q2:br RT G w1 ((if cD.length<sizeLine then cX s.gM bt fc fe (s.items.drop (i+1)) Dk (cD++[u]) S6 else .aG).aF λl S3=>ce.eW l S3) Q:=q2
        intro w6 H6 v le6 hr6 r6;have Eh:=Eg.trans le6;split at q2
        ·rename_i dH
         have ra6:=bL.mono Eh _ _ ra;have hD6:w6.hid D=some (.bA xs):=by rw[Eh.hid];exact hDx
         have e6:w6.hid=bD w1.hid D (.bA xs):=Eh.hid.trans eh
         refine⟨hr6.unx.hid D _ hD6,by rw[ra.len];exact dH,_,by omega,{w6 with hid:=bD w6.hid D (.bA (xs++[v]))},S6,Dk,cD++[u],?_,Eh.K.trans eK,zai hn Eh.n,λi hi=>(Eh.r i (zak hi hn)).trans (iX i hi),λb o e=>Eh.F b o (hF b o e),hr6.unx.aaz hD6 _ (λ_ z=>by cases z),?_,?_,ly,rfl,q2⟩
         ·show bD w6.hid D _=_
          rw[e6,F1]
         ·have:=(sl4.mono le5).mono le6
          exact⟨this.len,λi t e=>let ⟨v,ev,rv⟩:=this.rG i t e;⟨v,ev,RT.bE _ t v rv⟩⟩
         ·exact bL.bE _ _ _ (ra6.snoc r6)
        ·exact q2.elim
       |ex n S6=>rw[ef] at q2;exact q2.elim
       |aG=>rw[ef] at q2;exact q2.elim
      |false =>
       rw[if_neg zal] at q2;refine AW ⟨_,by omega,w5,S5,Dk,cD,Bl.1,Bl.2.1,Bl.2.2.1,Bl.2.2.2.1,Bl.2.2.2.2,hr5.unx,sl4.mono le5,bL.mono Eg _ _ ra,ly,rfl,q2⟩
     |ex n S5=>rw[ec] at q2;exact q2.elim
     |aG=>rw[ec] at q2;exact q2.elim
    |ex n S4=>rw[eb] at q2;exact q2.elim
    |aG=>rw[eb] at q2;exact q2.elim
   ·exact q2.elim
  ·have e:i=s.items.length:=by omega
   subst e;rw[List.drop_length] at q2;unfold cX at q2;split at q2
   ·rename_i hc
    refine .inl ⟨(it w2 S2 H2 _ eK.symm hn iX hF dN hc).2 rfl,?_⟩
    have hF2:w2.F D=none:=by rw[dN.F];unfold Fz;rw[if_pos (.inr (by rw[hDx];simp))]
    cases ce with
    |val =>
     have q2:br RT G w1 (.ok (.ls cD) S2) Q:=q2
     refine q2 _ _ _ ?_ (dN.ahh eh hhD) ?_
     ·exact⟨eK,hn,iX,λb o e=>kD hF2 (hF b o e),rfl⟩
     ·unfold RT
      exact⟨D,xs,rfl,av,bL.xA (w:=w2) rfl (zah _) (λ_ _=>rfl) (λb o e=>kD hF2 e) ra⟩
    |cel =>
     have q2:br RT G w1 (.ok (.hd S2.length) (S2++[.bA cD])) Q:=q2
     have lu:=({w2 with hid:=w1.hid}:Wd).tM D
     refine q2 _ _ _ ?_ (dN.So eh hhD (c:=.bA cD) rfl ⟨xs,dN.hid D _ hDx,?_⟩) ?_
     ·exact⟨eK,zai hn lu.n,λi hi=>(lu.r i (zak hi hn)).trans (iX i hi),λb o e=>hF b o e,rfl⟩
     ·exact bL.mono lu _ _ (bL.bE _ _ _ ra)
     ·unfold RT
      refine⟨by show S2.length<w2.n+1;rw[dN.n];exact zbi _,?_⟩
      show V.ref D=V.ref (if S2.length=w2.n then D else w2.ρ S2.length)
      rw[if_pos dN.n.symm]
   ·exact q2.elim
theorem iQ (S:di X F T fr sc)(hi:Nj G k X target dQ fi)(hg:∀C fp s H xe,Lg G.nx k (oO X (F++T) sc C fp s H xe) target bt)(Mm:∀C fp s H xe,Ef G.nx k (oO X (F++T) sc C fp s H xe) pW fc)
  (he:∀C fp s H xe,TV G.nx k (oO X (F++T) sc C fp s H xe) rV fe) (hs:autoParam (∀x,foldedSetIterable dQ X.env x=pure x) zp_3) (hk:autoParam (0<k) zp_2):TV G k X (.ListComp rV [⟨target,dQ,pW,0⟩] sc pos) (fQ fi fr T.length bt fc fe):=.mk<|λo =>
 (R3 S (o.fS hk) (hi o) (λC fp s H xe=>hg C fp s H xe o.comp) (λC fp s H xe=>Mm C fp s H xe o.comp) (λC fp s H xe=>he C fp s H xe o.comp) hs).wk λ_ _ _ h=>zB .val o.K h
theorem r_ (S:di X F T fr sc)(hi:Nj G k X target dQ fi)(hg:∀C fp s H xe,Lg G.nx k (oO X (F++T) sc C fp s H xe) target bt)(Mm:∀C fp s H xe,Ef G.nx k (oO X (F++T) sc C fp s H xe) pW fc)
  (he:∀C fp s H xe,TV G.nx k (oO X (F++T) sc C fp s H xe) rV fe) (hN:X.N.Nodup) (hiy:X.N[i0]? = some y) (hly:X.env.scope.names.lookup y=some .local) (hex:X.ex=[])
  (MB:autoParam (swapsWith (.ListComp rV [⟨target,dQ,pW,0⟩] sc pos) (some (.Name y py)) MC.line X.env=pure true) zp_0) (hs:autoParam (∀x,foldedSetIterable dQ X.env x=pure x) zp_3) (hk:autoParam (0<k) zp_2):
  zo G k X (.Assign [.Name y py] (.ListComp rV [⟨target,dQ,pW,0⟩] sc pos) MC) (aR i0 (fQ fi fr T.length bt fc fe)):=.mk<|λo =>
 (Gy S (o.fS hk) (hi o) (λC fp s H xe=>hg C fp s H xe o.comp) (λC fp s H xe=>Mm C fp s H xe o.comp) (λC fp s H xe=>he C fp s H xe o.comp) hN hiy hly hex MB hs).wk λD σ H h=>zB .val o.K (Ec h)
theorem Nl (S:di X F T fr sc)(hi:Nj G k X target dQ fi)(hg:∀C fp s H xe,Lg G.nx k (oO X (F++T) sc C fp s H xe) target bt)(Mm:∀C fp s H xe,Ef G.nx k (oO X (F++T) sc C fp s H xe) pW fc)
  (he:∀C fp s H xe,TV G.nx k (oO X (F++T) sc C fp s H xe) rV fe) (hN:X.N.Nodup) (hiy:X.N[i0]? = some y) (hly:X.env.scope.names.lookup y=some .local) (hex:X.ex=[])
  (MB:autoParam (swapsWith (.ListComp rV [⟨target,dQ,pW,0⟩] sc pos) (some (.Name y py)) MC.line X.env=pure true) zp_0) (hs:autoParam (∀x,foldedSetIterable dQ X.env x=pure x) zp_3) (hk:autoParam (0<k) zp_2):
  zo G k X (.Assign [.Name y py] (.ListComp rV [⟨target,dQ,pW,0⟩] sc pos) MC) (aR i0 (zA fi fr T.length bt fc fe)):=.mk<|λo =>
 (Gy S (o.fS hk) (hi o) (λC fp s H xe=>hg C fp s H xe o.comp) (λC fp s H xe=>Mm C fp s H xe o.comp) (λC fp s H xe=>he C fp s H xe o.comp) hN hiy hly hex MB hs).wk λD σ H h=>zB .cel o.K (Ec h)
end
noncomputable abbrev Fn:=List Tr->Cs->R Tr
noncomputable def dO (K:W.Frag)(cl:Str->Addr)(n:Nat)(q:Fn):Sp:=λvs H Q E=>∃w S ts,HR ⟨K,cl,E⟩ w S H/\bL w ts vs/\ts.length=n/\br RT ⟨K,cl,E⟩ w (q ts S) Q
noncomputable def e9 (n:Nat)(q:Fn)(fr:En->Cs->R (List Tr)):Em:=λτ S=>(fr τ S).aF λts S1=>if ts.length=n then q ts S1 else .aG
section
variable {G:Gx}{k j n:Nat}{X:Cx}{CX:AI}{f C:Addr}{fd:FuncData}{ps:List Str}{q:Fn}{x m:Str}{p pos dX gr:Pos}{e o:Expr}{es:List Expr}{fr:En->Cs->R (List Tr)}{fo:Em}
theorem ahN (h:fm G (e9 n q fr) σ H Q):VA (dO G.K G.cl n q) [] G.E (D6 G fr) σ H Q:=by
 obtain⟨w,S,τ,hr,sl,qq⟩:=h;refine⟨w,S,τ,hr,sl,(br.aF qq).mono λvs H1 cC=>?_⟩
 obtain⟨w1,S1,ts,dD,bN,r1,_,q1⟩:=cC;split at q1
 ·rename_i hn
  rw[zay];exact⟨w1,S1,ts,bN,r1,hn,q1⟩
 ·exact q1.elim
theorem Tf (F:aO X.prog X.w X.K X.mg X.base CX j f fd ps (dO G.K G.cl n q))(hj:j<=k)(hm:X.mg x=some (.ref f))(hk:W.keepIn X.K (.ref f)=true)(hb:d_ X.K fd ps [])(hx:fj CX X G.E)(ha:wu G k X (e::es) fr)
  (hg:autoParam (Gl X x) zp_0) (sU:autoParam ((x == ("__debug__" : Str))=false) zp_1) (he:autoParam (dB e=false) zp_0) (hpl:autoParam (dg es=true) zp_0) (xC:autoParam (0<k) zp_2):
  TV G k X (.Call (.Name x p) (e::es) [] pos) (e9 n q fr):=.mk<|λox=>(Rt F ((ox.room xC).mono hj) hg hm hk hb .nil hx (ha ox) sU (cE he) (dZ hpl)).wk λ_ _ _ h=>ahN h
noncomputable def aJ (c m:Str)(n:Nat)(q:Fn)(fo:Em)(fr:En->Cs->R (List Tr)):Em:=λτ S=>(fo τ S).aF λt S1=>match t with
 |.hd i=>(match iM S1 i with
  |some (c',fs)=>if c'=c/\(aP m fs).isNone=true then (fr τ S1).aF λts S2=>(if (t::ts).length=n then q (t::ts) S2 else .aG) else .aG
  |none=>.aG)
 |_=>.aG
theorem zC (h:fm G (aJ c m n q fo fr) σ H Q):Gf (G.cl c) m (dO G.K G.cl n q) [] G.E (fm G fo) (D6 G fr) σ H Q:=by
 obtain⟨w,S,τ,hr,sl,qq⟩:=h;refine⟨w,S,τ,hr,sl,(br.aF qq).mono λv H1 dI=>?_⟩
 obtain⟨w1,S1,t,dD,bN,r1,_,q1⟩:=dI;split at q1
 ·split at q1
  ·rename_i c' fs ei
   split at q1
   ·rename_i hc
    obtain⟨rfl,hm⟩:=hc;obtain⟨dx,qg,h1,h2⟩:=bN.cell _ _ (fu ei)
    refine⟨_,dx,qg,r1.cO.2,h1,(gm (k:=m) h2).2 (zdz.mp hm),w1,S1,τ,bN,sl.mono dD,(br.aF q1).mono λvs H2 eN=>?_⟩
    obtain⟨w2,S2,ts,fq,dN,r2,_,q2⟩:=eN;split at q2
    ·rename_i hn
     rw[zay];exact⟨w2,S2,_,dN,.cons (RT.mono fq _ _ r1) r2,hn,q2⟩
    ·exact q2.elim
   ·exact q1.elim
  ·exact q1.elim
 ·exact q1.elim
theorem bM (hc:sQ G.K (G.cl c))(hM:c8 G.K (G.cl c) m f)(F:aO X.prog X.w X.K X.mg X.base CX j f fd ps (dO G.K G.cl n q))(hj:j<=k)(hb:d_ X.K fd ps [])(hx:fj CX X G.E)(ho:TV G k X o fo)(ha:wu G k X (e::es) fr)
  (pV:autoParam (dB e=false) zp_0) (hpl:autoParam (dg es=true) zp_0)
  (ht:autoParam (eval (.Call (.Attribute o m dX) (e::es) [] pos) X.env=(do
   let ov <-eval o X.env
   standAt dX.atName
   let (f,first) <-holding [ov] (getMethod ov m pl)
   callWith pos f first (backTo pos (starEach (e::es) X.env)) (backToKw pos (keywordEach [] X.env)))) zp_0) (xC:autoParam (0<k) zp_2):TV G k X (.Call (.Attribute o m dX) (e::es) [] pos) (aJ c m n q fo fr):=.mk<|λox =>
 (Gg (ho ox) (by rw[ox.K];exact hc) (by rw[ox.K];exact hM) F ((ox.room xC).mono hj) hb .nil hx (ha ox) (cE pV) (dZ hpl) ht).wk λ_ _ _ h=>zC h
theorem aK (hc:sQ G.K (G.cl c))(hM:c8 G.K (G.cl c) m f)(F:aO X.prog X.w X.K X.mg X.base CX j f fd ps (dO G.K G.cl n q))(hj:j<=k)(hb:d_ X.K fd ps [])(hx:fj CX X G.E)(ho:TV G k X o fo)
  (ht:autoParam (eval (.Call (.Attribute o m dX) [] [] pos) X.env=(do
   let ov <-eval o X.env
   standAt dX.atName
   let (f,first) <-holding [ov] (getMethod ov m pl)
   callWith pos f first (backTo pos (starEach [] X.env)) (backToKw pos (keywordEach [] X.env)))) zp_0) (xC:autoParam (0<k) zp_2):TV G k X (.Call (.Attribute o m dX) [] [] pos) (aJ c m n q fo ak):=.mk<|λox =>
 (LQ (ho ox) (by rw[ox.K];exact hc) (by rw[ox.K];exact hM) F ((ox.room xC).mono hj) hb .nil hx ht).wk λσ H Q h=>by
  obtain⟨w,S,τ,hr,sl,qq⟩:=zC h;refine⟨w,S,τ,hr,sl,qq.mono λv H1 ⟨a,dx,fs,e1,h1,hl,⟨w1,S1,eX,bN,DZ,q1⟩⟩=>⟨a,dx,fs,e1,h1,hl,?_⟩⟩
  exact q1 w1 H1 [] (.refl _) bN .nil
noncomputable def nK (c:Str)(n:Nat)(q:Fn)(fr:En->Cs->R (List Tr)):Em:=λτ S=>(fr τ S).aF λts S1=>if ts.length+1=n then (q (.hd S1.length::ts) (S1++[.eS c []])).aF λr S2=>(match r with|.bB=>.ok (.hd S1.length) S2|_=>.aG) else .aG
theorem Tg (h:fm G (nK c n q fr) σ H Q):VB (G.cl c) (dO G.K G.cl n q) [] G.E (D6 G fr) σ H Q:=by
 obtain⟨w,S,τ,hr,sl,qq⟩:=h;refine⟨w,S,τ,hr,sl,(br.aF qq).mono λvs H1 ⟨w1,S1,ts,dD,bN,r1,_,q1⟩=>λx dx hx hdx ne=>?_⟩
 split at q1
 ·rename_i hn
  obtain⟨h2,fq⟩:=bN.lay hdx (.sD x)
  have hx2:bD H1 dx (.sD x) x=none:=by rw[au (zbe ne)];exact hx
  obtain⟨h3,mh⟩:=h2.Jl hx2 (o:=.eS (G.cl c) dx []) (c:=.eS c []) rfl ⟨dx,[],av,.nil⟩
  have iX:(({w1 with F:=bD w1.F dx (.sD x)}:Wd).up x).ρ S1.length=x:=by
   show (if S1.length=w1.n then x else w1.ρ S1.length)=x
   rw[if_pos bN.n.symm]
  rw[zay];refine⟨_,_,.hd S1.length::ts,h3,.cons ?_ (bL.mono (fq.trans mh) _ _ r1),by simpa using hn,(br.aF (br.wd (fq.trans mh) q1)).mono λv H4 ⟨w4,S4,t4,MY,Lh,r4,_,q4⟩=>?_⟩
  ·unfold RT
   exact⟨by show S1.length<w1.n+1;rw[bN.n];exact zbi _,by rw[iX]⟩
  ·split at q4
   ·refine⟨kJ r4,q4 w4 H4 _ (.refl _) Lh ?_⟩
    have ly:S1.length<(({w1 with F:=bD w1.F dx (.sD x)}:Wd).up x).n:=by show S1.length<w1.n+1;rw[bN.n];exact zbi _
    unfold RT;exact⟨zak ly MY.n,by rw[MY.r _ ly,iX]⟩
   ·exact q4.elim
 ·exact q1.elim
theorem mY (M:Mk G.K (G.cl c) f)(F:aO X.prog X.w X.K X.mg X.base CX j f fd ps (dO G.K G.cl n q))(hj:j+1<=k)(hm:X.mg x=some (.ref (G.cl c)))(hb:d_ X.K fd ps [])(hx:fj CX X G.E)(ha:wu G k X (e::es) fr)
  (hg:autoParam (Gl X x) zp_0) (sU:autoParam ((x == ("__debug__" : Str))=false) zp_1) (he:autoParam (dB e=false) zp_0) (hpl:autoParam (dg es=true) zp_0) (xC:autoParam (0<k) zp_2):
  TV G k X (.Call (.Name x p) (e::es) [] pos) (nK c n q fr):=.mk<|λox=>(Ru (by rw[ox.K];exact M) F ((ox.room xC).mono hj) hg hm hb .nil hx (ha ox) sU (cE he) (dZ hpl)).wk λ_ _ _ h=>Tg h
noncomputable def gF (N:List Str)(ts:List Tr):En:=ts.map some++List.replicate (N.length - ts.length) none
noncomputable def dF (N:List Str)(sb:Sm):Fn:=λts S=>match sb (gF N ts) S with|.nx _ S'=>.ok .bB S' | .rt t S'=>.ok t S' | _=>.aG
theorem Sl.dz (N:List Str)(r:bL w ts vs):Sl w (gF N ts) (dz N vs):=by
 unfold gF L2.dz;refine⟨by simp[r.len],λi t e=>?_⟩
 by_cases hi:i<ts.length
 ·rw[zab (by simpa using hi),zau] at e
  rw[zab (by rw[zaf,r.len];exact hi),zau]
  cases et:ts[i]? with
  |none=>rw[et] at e;cases e
  |some u =>
   rw[et] at e;cases e;obtain⟨v,ev,rv⟩:=r.get et;exact⟨v,by rw[ev];rfl,rv⟩
 ·rw[zat (by simpa using hi)] at e
  rw[zcF] at e;split at e<;>cases e
variable {P:Program}{w:World}{K:W.Frag}{mg:Str->Option Value}{base:Heap}{cl:Str->Addr}{N:List Str}{bV:Str}{st:Stmt}{sb:Sm}
theorem bh (F:Mh K x bV st f fd)(Sc:aq N ps (aj st))
  (hb:∀eU A outer s H E,Jm ⟨K,cl,E0⟩ k (iB eB P w K mg base N bV (aj st) f eU A outer s H E).Dc (cW st) sb):aO P w K mg base eB (k+1) f fd ps (dO K cl ps.length (dF N sb)):=by
 refine F.ok Sc (λvs H Q E jQ=>by obtain⟨w,S,ts,hr,r,hn,_⟩:=jQ;rw[r.len,hn]) λeU A outer s H vs Q E hr jT=>?_
 obtain⟨w,S,ts,Q0,r,hn,q⟩:=jT;refine⟨_,hb eU A outer s H E ⟨rfl,λ_=>rfl,λ_=>hr,zcC (Nat.add_le_add_right (zcn _ _) 200) hr.un⟩,w,S,gF N ts,⟨Q0.K,Q0.n,Q0.F,λi c e=>Q0.nx.cell i c e,Q0.inj,Q0.hid,Q0.jS,Q0.hl⟩,Sl.dz N r,?_⟩
 have conv:∀{w' S' H'},HR (⟨K,cl,E0⟩:Gx) w' S' H'->HR ⟨K,cl,E⟩ w' S' H':=λh=>HR.unx (G:=⟨K,cl,E⟩) h
 unfold dF at q;cases e:sb (gF N ts) S with
 |nx wA S'=>rw[e] at q;exact λw' H' d9 le qw Lr=>q w' H' _ le (conv qw) tN
 |rt t S'=>rw[e] at q;exact λw' H' v le qw rv=>q w' H' v le (conv qw) rv
 |bk wA S'=>rw[e] at q;exact q.elim
 |ct wA S'=>rw[e] at q;exact q.elim
 |ex wA S'=>rw[e] at q;exact q.elim
 |aG=>rw[e] at q;exact q.elim
mutual
noncomputable def Tr.aF (m:Nat):Tr->Bool
 |.tp l=>Tr.jG m l
 |.ls l=>Tr.jG m l
 |.kt l=>Tr.jG m l
 |.kl l=>Tr.jG m l
 |.hd n=>decide (n<m)
 |_=>true
noncomputable def Tr.jG (m:Nat):List Tr->Bool
 |[]=>true
 |t::l=>Tr.aF m t && Tr.jG m l
end
mutual
theorem RT.aF {w:Wd}:∀(t:Tr) (v:V),RT w t v->t.aF w.n=true
 |.tp l,v,r=>by unfold RT at r;unfold Tr.aF;obtain⟨_,xs,_,_,r⟩:=r;exact bL.aF l xs r
 |.ls l,v,r=>by unfold RT at r;unfold Tr.aF;obtain⟨_,xs,_,_,r⟩:=r;exact bL.aF l xs r
 |.kt l,v,r=>by unfold RT at r;unfold Tr.aF;obtain⟨_,xs,_,_,r⟩:=r;exact bL.aF l xs r
 |.kl l,v,r=>by unfold RT at r;unfold Tr.aF;obtain⟨_,xs,_,_,r⟩:=r;exact bL.aF l xs r
 |.hd n,v,r=>by unfold Tr.aF;exact decide_eq_true r.cO.1
 |.bB,v,r=>by unfold Tr.aF;rfl
 |.bl _,v,r=>by unfold Tr.aF;rfl
 |.int _,v,r=>by unfold Tr.aF;rfl
 |.str _,v,r=>by unfold Tr.aF;rfl
theorem bL.aF {w:Wd}:∀(l:List Tr) (xs:List V),bL w l xs->Tr.jG w.n l=true
 |[],xs,r=>by unfold Tr.jG;rfl
 |t::l,xs,r=>by
  obtain⟨x,r',rfl,h1,h2⟩:=r.bw;unfold Tr.jG;rw[RT.aF t x h1,bL.aF l r' h2];rfl
end
mutual
theorem RT.ny {w:Wd}{m:Nat}(hF:∀b o,w.F b=some o->F' b=some o):∀(t:Tr) (v:V),RT w t v->t.aF m=true->RT {w with n:=m,F:=F' } t v
 |.tp l,v,r,h=>by unfold RT at r ⊢;unfold Tr.aF at h;obtain⟨a,xs,e,s,r⟩:=r;exact⟨a,xs,e,hF _ _ s,bL.ny hF l xs r h⟩
 |.ls l,v,r,h=>by unfold RT at r ⊢;unfold Tr.aF at h;obtain⟨a,xs,e,s,r⟩:=r;exact⟨a,xs,e,hF _ _ s,bL.ny hF l xs r h⟩
 |.kt l,v,r,h=>by unfold RT at r ⊢;unfold Tr.aF at h;obtain⟨a,xs,e,s,r⟩:=r;exact⟨a,xs,e,s.mono hF,bL.ny hF l xs r h⟩
 |.kl l,v,r,h=>by unfold RT at r ⊢;unfold Tr.aF at h;obtain⟨a,xs,e,s,r⟩:=r;exact⟨a,xs,e,s.mono hF,bL.ny hF l xs r h⟩
 |.hd n,v,r,h=>by unfold RT;unfold Tr.aF at h;exact⟨of_decide_eq_true h,r.cO.2⟩
 |.bB,v,r,h=>by unfold RT at r ⊢;exact r
 |.bl _,v,r,h=>by unfold RT at r ⊢;exact r
 |.int _,v,r,h=>by unfold RT at r ⊢;exact r
 |.str _,v,r,h=>by unfold RT at r ⊢;exact r
theorem bL.ny {w:Wd}{m:Nat}(hF:∀b o,w.F b=some o->F' b=some o):∀(l:List Tr) (xs:List V),bL w l xs->Tr.jG m l=true->bL {w with n:=m,F:=F' } l xs
 |[],xs,r,h=>by rw[r.bX];exact .nil
 |t::l,xs,r,h=>by
  obtain⟨x,r',rfl,h1,h2⟩:=r.bw;unfold Tr.jG at h;have h:=zbf.mp h;exact .cons (RT.ny hF t x h1 h.1) (bL.ny hF l r' h2 h.2)
end
noncomputable def ahO (m:Nat):Ce->Bool
 |.tK=>true
 |.bA l=>Tr.jG m l
 |.jD l=>Tr.jG m (l.map Prod.snd)
 |.eS _ l=>Tr.jG m (l.map Prod.snd)
 |.tL _ l=>Tr.jG m (l.map Prod.snd)
 |.QX l=>Tr.jG m (l.map Prod.snd)
 |.wm l=>Tr.jG m (l.map Prod.snd)
 |.D5 l=>Tr.jG m (l.map Prod.snd)
theorem bI.aF {w:Wd}(h:bI G w H a c):ahO w.n c=true:=by
 cases c with
 |tK=>rfl
 |bA l=>obtain⟨xs,_,r⟩:=h;exact bL.aF _ _ r
 |jD l=>obtain⟨xs,_,r⟩:=h;exact bL.aF _ _ r.2
 |eS c l=>obtain⟨_,xs,_,r⟩:=h;exact bL.aF _ _ r.2
 |tL c l=>obtain⟨_,_,xs,_,_,_,_,_,r⟩:=h;exact bL.aF _ _ r.2
 |QX l=>obtain⟨xs,_,r⟩:=h;exact bL.aF _ _ r.2
 |wm l=>obtain⟨_,xs,_,r⟩:=h;exact bL.aF _ _ r.2
 |D5 l=>obtain⟨_,xs,_,r⟩:=h;exact bL.aF _ _ r.2
theorem bI.cut {w:Wd}{m:Nat}(hF:∀b o,w.F b=Option.some o->F' b=Option.some o)(h:bI G w H a c)(hb:ahO m c=true):bI G {w with n:=m,F:=F' } H a c:=by
 cases c with
 |tK=>trivial
 |bA l=>obtain⟨xs,e,r⟩:=h;exact⟨xs,e,bL.ny hF _ _ r hb⟩
 |jD l=>obtain⟨xs,e,r⟩:=h;exact⟨xs,e,r.1,bL.ny hF _ _ r.2 hb⟩
 |eS c l=>obtain⟨dx,xs,e,r⟩:=h;exact⟨dx,xs,e,r.1,bL.ny hF _ _ r.2 hb⟩
 |tL c l=>obtain⟨T,d,xs,e,e2,e3,n1,n2,r⟩:=h;exact⟨T,d,xs,e,hF _ _ e2,hF _ _ e3,n1,n2,r.1,bL.ny hF _ _ r.2 hb⟩
 |QX l=>obtain⟨xs,e,r⟩:=h;exact⟨xs,e,r.1,bL.ny hF _ _ r.2 hb⟩
 |wm l=>obtain⟨o,xs,e,r⟩:=h;exact⟨o,xs,hF _ _ e,r.1,bL.ny hF _ _ r.2 hb⟩
 |D5 l=>obtain⟨o,xs,e,r⟩:=h;exact⟨o,xs,hF _ _ e,r.1,bL.ny hF _ _ r.2 hb⟩
noncomputable def nX (m:Nat)(S:Cs)(t:Tr):Option Tr:=match t with
 |.hd n=>if n<m then some (.hd n) else (match cF S n with|some l=>if Tr.jG m l=true then some (.ls l) else none|none=>none)
 |t=>if t.aF m=true then some t else none
open Classical in
noncomputable def lA (q:Fn):Fn:=λts S=>match q ts S with
 |.ok t S1=>if S1.take S.length=S then (match nX S.length S1 t with|some u=>.ok u S|none=>.aG) else .aG
 |.ex n S1=>.ex n S1
 |.aG=>.aG
open Classical in
theorem Th {H:Hp}(h:dO K cl n (lA q) vs H Q E):dO K cl n q vs H Q E:=by
 obtain⟨w,S,ts,hr,r,hn,qq⟩:=h;refine⟨w,S,ts,hr,r,hn,?_⟩
 unfold lA at qq;cases e:q ts S with
 |ex m S1=>rw[e] at qq;exact qq
 |aG=>rw[e] at qq;exact qq
 |ok t S1 =>
  rw[e] at qq;have qq:br RT ⟨K,cl,E⟩ w (if S1.take S.length=S then (match nX S.length S1 t with|some u=>.ok u S|none=>.aG) else .aG) Q:=qq
  split at qq
  ·rename_i hS
   split at qq
   ·rename_i u eu
    intro w1 H1 v dD bN rv;have hm:S.length<=S1.length:=by
     have:=congrArg List.length hS
     rw[zbj] at this;omega
    have hF:∀b o,w1.F b=some o->Fz w1.ρ w1.hid (S1.take S.length) H1 b=some o:=λb o e=>aaB b o (by rw[<-bN.F];exact e)
    have dN:=bN.cut hm λi c ec=>by
     have hi:=(zae.mp ec).1
     rw[zbj] at hi;have ec1:S1[i]? = some c:=by rw[zbz (by omega)] at ec;exact ec
     rw[hS] at ec;have hb:=(hr.cell i c ec).aF
     rw[hr.n] at hb;exact (bN.cell i c ec1).cut hF hb
    have fq:w.le {w1 with n:=S.length,F:=Fz w1.ρ w1.hid (S1.take S.length) H1}:=⟨dD.K,by show w.n<=S.length;rw[hr.n];exact zah _,dD.r,λb o e=>hF b o (dD.F b o e),dD.hid⟩
    rw[hS] at dN fq hF;refine qq _ _ _ fq dN ?_
    unfold nX at eu;split at eu
    ·rename_i n
     split at eu
     ·cases eu
      rename_i ly;unfold RT;exact⟨ly,rv.cO.2⟩
     ·rename_i hge
      split at eu
      ·rename_i l el
       split at eu
       ·rename_i hb
        cases eu;obtain⟨xs,h1,h2⟩:=bN.cell _ _ (cN el)
        have lv:eO S1 n:=⟨_,cN el,rfl⟩
        unfold RT;refine⟨_,xs,rv.cO.2,?_,bL.ny hF _ _ h2 hb⟩
        show Fz w1.ρ w1.hid S H1 (w1.ρ n)=_
        unfold Fz;rw[if_neg,h1];rintro (⟨i,li,ei⟩|z)
        ·have li1:eO S1 i:=by
          obtain⟨c,ec,nc⟩:=li;have hi:=(zae.mp ec).1
          rw[<-hS,zbz (by omega)] at ec
          exact⟨c,ec,nc⟩
         have:=bN.inj i n li1 lv ei
         subst this;exact hge li.lt
        ·exact z (bN.jS n lv)
       ·cases eu
      ·cases eu
    ·split at eu
     ·cases eu
      exact RT.ny hF _ _ rv (by assumption)
     ·cases eu
   ·exact qq.elim
  ·exact qq.elim
theorem aO.pure (F:aO P w K mg base CX j f fd ps (dO K cl n q)):aO P w K mg base CX j f fd ps (dO K cl n (lA q)):=F.imp λ_ _ _ _ h=>Th h
end
section
variable {G:Gx}{k:Nat}{X:Cx}{a b c o e kx vx:Expr}{es:List Expr}{ks:List (Option Expr)}{vs:List Expr}{fo fe ff fk fv:Em}{pos dX gr:Pos}
noncomputable def Ei:Em:=λ_ S=>.ok (.hd S.length) (S++[.jD []])
theorem Nm:TV G k X (.Dict [] [] pos) Ei:=.mk<|λ_=>LX.wk λσ H Q h=>by
 obtain⟨w,S,τ,hr,sl,q⟩:=h;intro p hp;obtain⟨h2,le⟩:=hr.Jl (c:=.jD []) hp (o:=.dK []) rfl ⟨[],av,.nil⟩
 refine q _ _ _ le h2 ?_
 unfold RT;exact⟨by show S.length<w.n+1;rw[hr.n];exact zbi _,by show V.ref p=V.ref (if S.length=w.n then p else w.ρ S.length);rw[if_pos hr.n.symm]⟩
noncomputable def Js:List (Em×Em)->En->Cs->R (List (dW×Tr))
 |[],_,S=>.ok [] S
 | (fk,fv)::r,τ,S=>(fk τ S).aF λt S1=>(fv τ S1).aF λu S2=>(Js r τ S2).aF λl S3=>match jr t with|some j=>.ok ((j,u)::l) S3|none=>.aG
noncomputable def Nn (ps:List (Em×Em)):Em:=λτ S=>(Js ps τ (S++[.jD []])).aF λl S1=>match tT S1 S.length with
 |some []=>if l.length<=15 then .ok (.hd S.length) (S1.set S.length (.jD (fL [] l))) else .aG
 |_=>.aG
noncomputable def Np (G:Gx)(ps:List (Em×Em)):List (TE×TE):=ps.map λp=>(fm G p.1,fm G p.2)
structure TVP (G:Gx) (k:Nat) (X:Cx) (pos:Pos) (ks:List (Option Expr)) (vs:List Expr) (ps:List (Em×Em)):Prop where
 kh:jE G k X->PPs X pos ks vs (Np G ps)
noncomputable instance {G:Gx}{k:Nat}{X:Cx}{pos:Pos}{ks:List (Option Expr)}{vs:List Expr}{ps:List (Em×Em)}:CoeFun (TVP G k X pos ks vs ps) (λ_=>jE G k X->PPs X pos ks vs (Np G ps)):=⟨TVP.kh⟩
theorem abe:TVP G k X pos [] [] []:=.mk<|λ_=>RB
theorem Ti (hk:TV G k X kx fk)(hv:TV G k X vx fv)(hr:TVP G k X pos ks vs ps):TVP G k X pos (some kx::ks) (vx::vs) ((fk,fv)::ps):=.mk<|λo=>LY (hk o) (hv o) (hr o)
theorem Nq:∀(ps:List (Em×Em)) {w:Wd} {S:Cs} {τ:En} {σ:St} {H:Hp} {Q:List (V×V)->Hp->Prop},HR G w S H->Sl w τ σ ->
  br (λw (l:List (dW×Tr)) (m:List (V×V))=>∃aQ,m=aQ.map (λkv=>(kV kv.1,kv.2))/\RK w l aQ) G w (Js ps τ S) Q->yX (Np G ps) σ H Q
 |[],w,S,τ,σ,H,Q,hr,sl,q=>q w H [] (.refl w) hr ⟨[],rfl,.nil⟩
 | (fk,fv)::r,w,S,τ,σ,H,Q,hr,sl,q=>by
  refine⟨w,S,τ,hr,sl,(br.aF q).mono λx H1 cC=>?_⟩
  obtain⟨w1,S1,t,dD,bN,r1,_,q1⟩:=cC;refine⟨w1,S1,τ,bN,sl.mono dD,(br.aF q1).mono λy H2 dI=>?_⟩
  obtain⟨w2,S2,u,fq,dN,r2,_,q2⟩:=dI;refine Nq r dN ((sl.mono dD).mono fq) ((br.aF q2).mono λm H3 eN=>?_)
  obtain⟨w3,S3,l,mh,ql,⟨aQ,em,rk⟩,_,q3⟩:=eN
  split at q3
  ·rename_i j ej
   refine q3 w3 H3 _ (.refl _) ql ⟨(j,y)::aQ,?_,.cons (RT.mono mh _ _ r2) rk⟩
   rw[em,zas,iy ej r1]
  ·exact q3.elim
theorem Tj (h:TVP G k X pos ks vs ps)(LZ:autoParam (ks.all (·.isSome)=true) zp_0)(hl:autoParam (ks.length=vs.length) zp_0)(h0:ks≠[]:=by simp)(h15:autoParam (ks.length<=15) zp_1):TV G k X (.Dict ks vs pos) (Nn ps):=.mk<|λox=>(RC (h ox) LZ hl h0 h15).wk λσ H Q h=>by
 obtain⟨w,S,τ,hr,sl,q⟩:=h;intro p hp;obtain⟨h2,le⟩:=hr.Jl (c:=.jD []) hp (o:=.dK []) rfl ⟨[],av,.nil⟩
 have ly:S.length<(w.up p).n:=by show S.length<w.n+1;rw[hr.n];exact zbi _
 have iX:(w.up p).ρ S.length=p:=by show (if S.length=w.n then p else w.ρ S.length)=p;rw[if_pos hr.n.symm]
 refine Nq ps h2 (sl.mono le) ((br.aF (br.wd le q)).mono λm H2 iu=>?_)
 obtain⟨w2,S2,l,fq,dN,⟨aQ,em,rk⟩,_,q2⟩:=iu
 split at q2
 ·rename_i ed
  split at q2
  ·rename_i h15
   obtain⟨arx,h3,h4⟩:=dN.cell _ _ (gW ed)
   have abf:w2.ρ S.length=p:=(fq.r _ ly).trans iX
   rw[abf,h4.bX] at h3;refine⟨h3,aQ,em,by rw[rk.len];exact h15,?_⟩
   have h5:HR G w2 (S2.set S.length (.jD (fL [] l))) (bD H2 (w2.ρ S.length) (.dK (gi [] aQ))):=dN.DI (gW ed) rfl rfl ⟨_,av,RK.AQ rk .nil⟩
   rw[abf] at h5;refine q2 w2 _ _ (.refl _) h5 ?_
   unfold RT;exact⟨zak ly fq.n,by rw[abf]⟩
  ·exact q2.elim
 ·exact q2.elim
noncomputable def GU (fo fe ff:Em):Em:=λτ S=>(fo τ S).aF λt S1=>if ckD S1 t=true then (fe τ S1).aF λj S2=>(ff τ S2).aF λu S3=>(match QY S3 t,jr j with|some m,some q=>.ok ((aP q m).getD u) S3|_,_=>.aG) else .aG
theorem abg (hr:HR G w S H)(r:RT w t v)(h:ckD S t=true):∃n,t = .hd n/\v = .ref (w.ρ n)/\IsD H (w.ρ n):=by
 unfold ckD at h;obtain⟨m,em⟩:=zbR.mp h;obtain⟨n,aQ,e1,_,e2,h1,_⟩:=zq hr r em;exact⟨n,e1,e2,.inl ⟨aQ,.inl h1⟩⟩
theorem Jt {j:dW}(R:RK w m aQ)(ru:RT w u z):RT w ((aP j m).getD u) ((lJ aQ j).getD z):=by
 obtain⟨h1,h2⟩:=oX (k:=j) R
 cases e:aP j m with
 |none=>rw[h2 e];exact ru
 |some t=>obtain⟨v,ev,rv⟩:=h1 t e;rw[ev];exact rv
theorem GV (ho:TV G k X o fo)(he:TV G k X e fe)(hf:TV G k X c ff)(m:autoParam (M2 X o "get" dX e c gr) zp_9):TV G k X (.Call (.Attribute o "get" dX) [e,c] [] gr) (GU fo fe ff):=.mk<|λox=>(L4 ox.hu1 (ho ox) (he ox) (hf ox) m).wk λσ H Q h=>by
 obtain⟨w,S,τ,hr,sl,q⟩:=h;refine⟨w,S,τ,hr,sl,(br.aF q).mono λx H1 jP=>?_⟩
 obtain⟨w1,S1,t,dD,bN,r1,_,q1⟩:=jP;split at q1
 ·rename_i hck
  obtain⟨n,rfl,e2,hd⟩:=abg bN r1 hck;refine⟨_,e2,hd,w1,S1,τ,bN,sl.mono dD,(br.aF q1).mono λy H2 l8=>?_⟩
  obtain⟨w2,S2,j,fq,dN,r2,_,q2⟩:=l8;refine⟨w2,S2,τ,dN,(sl.mono dD).mono fq,(br.aF q2).mono λz H3 jQ=>?_⟩
  obtain⟨w3,S3,u,mh,ql,r3,_,q3⟩:=jQ;split at q3
  ·rename_i mm qk em ek
   obtain⟨n',aQ,e4,_,_,h4,R⟩:=zq ql (RT.mono (fq.trans mh) _ _ r1) em
   cases e4;rw[(fq.trans mh).r _ r1.cO.1] at h4;refine⟨lJ aQ qk,by rw[iy ek (RT.mono mh _ _ r2)];exact nP.k h4,q3 w3 H3 _ (.refl _) ql (Jt R r3)⟩
  ·exact q3.elim
 ·exact q1.elim
noncomputable def abh (f:Em):Em:=λτ S=>(f τ S).aF λt S1=>match t with
 |.str x=>if x.length<=sizeLine then .ok (.str x) S1 else .aG
 |.int i=>if i.natAbs.log2<1920 then .ok (.str (toString i)) S1 else .aG
 |_=>.aG
theorem abi (h:TV G k X a fo):TV G k X (.FormattedValue a (-1) none pos) (abh fo):=.mk<|λox=>(aai (h ox)).wk λσ H Q h=>by
 obtain⟨w,S,τ,hr,sl,q⟩:=h;refine⟨w,S,τ,hr,sl,(br.aF q).mono λx H1 oV=>?_⟩
 obtain⟨w1,S1,t,dD,bN,r1,_,q1⟩:=oV;split at q1
 ·split at q1
  ·exact .inl ⟨_,cH r1,by assumption,q1 w1 H1 _ (.refl _) bN kE⟩
  ·exact q1.elim
 ·split at q1
  ·exact .inr ⟨_,bg r1,by assumption,q1 w1 H1 _ (.refl _) bN kE⟩
  ·exact q1.elim
 ·exact q1.elim
noncomputable def fJ:List Em->Str->Em
 |[],cD,_,S=>if cD.length<=sizeLine then .ok (.str cD) S else .aG
 |f::r,cD,τ,S=>(f τ S).aF λt S1=>match t with|.str y=>if (cD++y).length<=sizeLine then fJ r (cD++y) τ S1 else .aG|_=>.aG
structure TVJ (G:Gx) (k:Nat) (X:Cx) (es:List Expr) (fs:List Em):Prop where
 kh:jE G k X->PJ X es (λcD=>fm G (fJ fs cD))
noncomputable instance {G:Gx}{k:Nat}{X:Cx}{es:List Expr}{fs:List Em}:CoeFun (TVJ G k X es fs) (λ_=>jE G k X->PJ X es (λcD=>fm G (fJ fs cD))):=⟨TVJ.kh⟩
theorem abj:TVJ G k X [] []:=.mk<|λ_ cD ah s σ H Q I ⟨w,S,τ,hr,sl,q⟩=>aak cD ah s σ H Q I (by
 unfold fJ at q;split at q
 ·exact⟨by assumption,q w H _ (.refl w) hr kE⟩
 ·exact q.elim)
theorem Tn (h1:TV G k X e f)(h2:TVJ G k X es fs):TVJ G k X (e::es) (f::fs):=.mk<|λox cD ah s σ H Q I ⟨w,S,τ,hr,sl,q⟩=>R_ (h1 ox) (h2 ox) cD ah s σ H Q I ⟨w,S,τ,hr,sl,(br.aF q).mono λx H1 i7=>by
 obtain⟨w1,S1,t,dD,bN,r1,_,q1⟩:=i7;split at q1
 ·split at q1
  ·exact⟨_,cH r1,by assumption,w1,S1,τ,bN,sl.mono dD,q1⟩
  ·exact q1.elim
 ·exact q1.elim⟩
theorem To (h:TVJ G k X (a::b::es) fs):TV G k X (.JoinedStr (a::b::es) pos) (fJ fs Str.empty):=.mk<|λox=>Sb (h ox)
end
structure pe (K:W.Frag) (mg:Str->Option Value) (x:Str) (st:Stmt) (ps:List Str) (f:Addr) (fd:FuncData):Prop where
 F:Mh K x x st f fd
 m:mg x=some (.ref f)
 b:d_ K fd ps []
structure jt (K:W.Frag) (C:Addr) (x bV:Str) (st:Stmt) (ps:List Str) (f:Addr) (fd:FuncData):Prop where
 F:Mh K x bV st f fd
 M:c8 K C x f
 b:d_ K fd ps []
structure Nr (K:W.Frag) (mg:Str->Option Value) (x:Str) (C f:Addr):Prop where
 m:mg x=some (.ref C)
 c:sQ K C
 k:Mk K C f
theorem aB:fj eB X E:=λ_ _ _ _ _ _ _ h=>h.elim
noncomputable def RS.seq (r:RS)(g:Sm):RS:=match r with|.nx eX S1=>g eX S1|r=>r
noncomputable def RS.eW (r:RS):R Tr:=match r with|.nx _ S'=>.ok .bB S' | .rt t S'=>.ok t S' | _=>.aG
theorem abk (f g:Sm)(τ:En)(S:Cs):ao f g τ S=(f τ S).seq g:=rfl
theorem Bm (N:List Str)(sb:Sm)(ts:List Tr)(S:Cs):dF N sb ts S=(sb (gF N ts) S).eW:=rfl
theorem Tp {α β:Type}{c:Prop}(a b:R α)(k:α -> Cs->R β):(wo c a b).aF k=wo c (a.aF k) (b.aF k):=by unfold wo;split<;>rfl
theorem Nt {α:Type}{c:Prop}(a b:R α)(k:α -> Cs->RS):(wo c a b).b_ k=wo c (a.b_ k) (b.b_ k):=by unfold wo;split<;>rfl
theorem Tq {c:Prop}(a b:RS)(g:Sm):(wo c a b).seq g=wo c (a.seq g) (b.seq g):=by unfold wo;split<;>rfl
theorem Tt {c:Prop}(a b:RS):(wo c a b).eW=wo c a.eW b.eW:=by unfold wo;split<;>rfl
theorem abl (τ:En)(S:Cs)(g:Sm):(RS.nx τ S).seq g=g τ S:=rfl
theorem abm (t:Tr)(S:Cs)(g:Sm):(RS.rt t S).seq g = .rt t S:=rfl
theorem Tu (g:Sm):RS.aG.seq g = .aG:=rfl
theorem abn (τ:En)(S:Cs):(RS.nx τ S).eW = .ok .bB S:=rfl
theorem tZ (t:Tr)(S:Cs):(RS.rt t S).eW = .ok t S:=rfl
theorem Tv:RS.aG.eW = .aG:=rfl
theorem V3 (τ:En)(S:Cs)(g:Sm):lpS (.nx τ S) g=g τ S:=rfl
theorem ahP (τ:En)(S:Cs)(g:Sm):lpS (.ct τ S) g=g τ S:=rfl
theorem ahQ (t:Tr)(S:Cs)(g:Sm):lpS (.rt t S) g = .rt t S:=rfl
theorem bF {n:Nat}(h:n<=1000000):(n<=sizeLine)=True:=eq_true (zai h (by decide))
theorem gk {n:Nat}(h:n<1000000):(n<sizeLine)=True:=eq_true (zak h (by decide))
theorem h_ {α:Type}(a:α)(S:Cs):jj (.ok a S) = .ok a S:=rfl
theorem abo {p:Prop}[Decidable p]:(decide p=true)=p:=propext decide_eq_true_iff
theorem ahR {α:Type}(a b:α):(if True then a else b)=a:=if_pos trivial
theorem amN {α:Type}(a b:α):(if False then a else b)=b:=if_neg id
theorem Nu {b:Tr->En->Cs->R En}{f:Sm}{τ:En}{S:Cs}:gS (λ_=>True) b f [] τ S = .nx τ S:=by unfold gS;rw[if_pos trivial]
theorem Ju {b:Tr->En->Cs->R En}{f:Sm}{t:Tr}{r:List Tr}{τ:En}{S:Cs}:gS (λ_=>True) b f (t::r) τ S=(b t τ S).b_ λeX S1=>lpS (f eX S1) (gS (λ_=>True) b f r):=by
 conv=>lhs;unfold gS
 rw[if_pos trivial]
theorem xD {b:Tr->En->Cs->R En}{c:En->Cs->R Bool}{f:Em}{τ:En}{cD:List Tr}{S:Cs}:cX (λ_=>True) b c f [] τ cD S = .ok cD S:=by unfold cX;rw[if_pos trivial]
theorem t6 {b:Tr->En->Cs->R En}{c:En->Cs->R Bool}{f:Em}{t:Tr}{r:List Tr}{τ:En}{cD:List Tr}{S:Cs}:cX (λ_=>True) b c f (t::r) τ cD S =
  (jj (b t τ S)).aF λeX S1=>(jj (c eX S1)).aF λx S2=>if x=true then (jj (f eX S2)).aF λu S3=>(if cD.length<sizeLine then cX (λ_=>True) b c f r eX (cD++[u]) S3 else .aG) else cX (λ_=>True) b c f r eX cD S2:=by
 conv=>lhs;unfold cX
 rw[if_pos trivial]
theorem qy {b:Tr->En->Cs->R En}{c:En->Cs->R Bool}{f:Em}{S:Cs}(τ0:En)(P:En->Prop)(g:Tr->Tr)(keep:Tr->Bool)
  : ∀(l:List Tr) (τ:En) (cD:List Tr),P τ -> (∀t∈l,∀ τ,P τ -> ∃eX,P eX/\b t τ S = .ok eX S/\c eX S = .ok (keep t) S/\(keep t=true->f eX S = .ok (g t) S))->cD.length+l.length<=1000000 ->
   cX (λ_=>True) b c f l τ cD S = .ok (cD++(l.filter keep).map g) S
 |[],τ,cD,hτ,h,hl=>by rw[xD];simp
 |t::r,τ,cD,hτ,h,hl=>by
  obtain⟨eX,p1,e1,e2,e3⟩:=h t (by simp) τ hτ
  rw[t6,e1,h_,R.eV,e2,h_,R.eV];have Gq:cD.length+1+r.length<=1000000:=by simp at hl;omega
  cases hk:keep t with
  |true =>
   rw[if_pos rfl,e3 hk,h_,R.eV,if_pos (zak (by omega:cD.length<1000000) (by decide)),qy τ0 P g keep r eX _ p1 (λu hu=>h u (by simp[hu])) (by simp;omega)]
   simp[zbT,hk]
  |false =>
   rw[if_neg zal,qy τ0 P g keep r eX _ p1 (λu hu=>h u (by simp[hu])) (by omega)]
   simp[zbT,hk]
theorem Tw {α:Type}(l:List α)(a b:α):(l++[a]).set l.length b=l++[b]:=by
 induction l with
 |nil=>rfl
 |cons x r ih=>simp only[zbl,zar,zdj,ih]
theorem ju {α:Type}(l:List α)(a:α):(l++[a])[l.length]? = some a:=by simp
theorem xE (S:Cs)(l:List Tr):cF (S++[.bA l]) S.length=some l:=by unfold cF;rw[ju]
open Classical in
theorem fB {q:Fn}{ts:List Tr}{S S1:Cs}{t u:Tr}(h:q ts S = .ok t S1)(h1:S1.take S.length=S)(h2:nX S.length S1 t=some u):lA q ts S = .ok u S:=by
 unfold lA;rw[h];show (if S1.take S.length=S then _ else _)=_
 rw[if_pos h1,h2]
theorem xF (S:Cs)(T:List Ce):(S++T).take S.length=S:=by simp
theorem fV (m:Nat):∀l:List Tr,Tr.jG m l=l.all (Tr.aF m)
 |[]=>by unfold Tr.jG;rfl
 |t::l=>by unfold Tr.jG;rw[fV m l];rfl
theorem fW:∀l:List Tr,Tr.kK l=l.all Tr.lP
 |[]=>by unfold Tr.kK;rfl
 |t::l=>by unfold Tr.kK;rw[fW l];rfl
theorem pq {m:Nat}{i:Int}:Tr.aF m (.int i)=true:=by unfold Tr.aF;rfl
theorem kM {m:Nat}{i:Str}:Tr.aF m (.str i)=true:=by unfold Tr.aF;rfl
theorem Nv {m:Nat}{i:Bool}:Tr.aF m (.bl i)=true:=by unfold Tr.aF;rfl
theorem GW {m:Nat}:Tr.aF m .bB=true:=by unfold Tr.aF;rfl
theorem nY {m:Nat}{l:List Tr}:Tr.aF m (.tp l)=l.all (Tr.aF m):=by unfold Tr.aF;exact fV m l
theorem abp {m:Nat}{l:List Tr}:Tr.aF m (.ls l)=l.all (Tr.aF m):=by unfold Tr.aF;exact fV m l
noncomputable def GX (K:W.Frag):Sp:=λvs H Q _=>∃(a:Addr) (ns:List Int),vs=[.ref a]/\jn K H a (ns.map V.int)/\ns.length<=63/\∀H',Q (.bl true) H'
theorem abq {P:Program}{w:World}{K:W.Frag}{mg:Str->Option Value}{base:Heap}{CX:AI}{j:Nat}{f:Addr}{fd:FuncData}{ps:List Str}{cl:Str->Addr}{q:Fn}(F:aO P w K mg base CX j f fd ps (dO K cl 1 q))
  (h:∀ns:List Int,ns.length<=63->∃S,q [.kl (ns.map Tr.int)] [] = .ok (.bl true) S):aO P w K mg base CX j f fd ps (GX K):=F.imp λvs H Q E cC=>by
 obtain⟨a,ns,ev,hS,hl,k⟩:=cC;subst ev;obtain⟨S,e⟩:=h ns hl;refine⟨⟨K,0,λ_=>0,H,λ_=>none⟩,[],[.kl (ns.map Tr.int)],⟨rfl,rfl,?_,λi c e=>(by simp at e),λi j ⟨c,e,_⟩=>(by simp at e),λb o e=>(by cases e),λi ⟨c,e,_⟩=>(by simp at e),λb xs e=>(by cases e)⟩,.cons ?_ .nil,rfl,?_⟩
 ·funext b
  unfold Fz;rw[if_neg];rintro (⟨i,⟨c,e,_⟩,_⟩|z)
  ·simp at e
  ·exact z rfl
 ·unfold RT
  exact⟨a,_,rfl,hS,bL.ints ns⟩
 ·rw[e]
  intro w' H' v _ _ rv;rw[qp rv];exact k H'
noncomputable def amO (t:Tr)(x:R Tr)(S:Cs):R Tr:=match t with|.bl true=>x|.bl false=>.ok (.bl false) S|_=>.aG
noncomputable def orV (t:Tr)(x:R Tr)(S:Cs):R Tr:=match t with|.bl true=>.ok (.bl true) S|.bl false=>x|_=>.aG
theorem Jv {p:Prop}[Decidable p]{a b:Bool}{S:Cs}:(if p then R.ok (Tr.bl a) S else R.ok (Tr.bl b) S)=R.ok (Tr.bl (if p then a else b)) S:=by split<;>rfl
theorem zD {α:Type}{l:List α}{n:Int}{m:Int}(hm:m=l.length)(h0:0<m):∃t,t∈l/\iE l (n % m)=some t:=by
 have h1:=zcT n (by omega:m≠0)
 have h2:=zcD n h0;obtain⟨j,hj⟩:=zbH h1;have GY:j<l.length:=by omega
 exact⟨l[j],zco GY,by rw[hj];exact f_ (zag GY)⟩
theorem pA {lo:Int}{n i:Nat}{t:Tr}(h:(qx lo n)[i]? = some t):i<n/\t = .int (lo+i):=by
 unfold qx at h;rw[zau] at h;have ly:i<n:=by
  cases ec:(List.range n)[i]? with
  |none=>rw[ec] at h;cases h
  |some c=>simpa using (zae.mp ec).1
 rw[zcZ ly] at h;cases h;exact⟨ly,rfl⟩
theorem mG {lo:Int}{n:Nat}:(qx lo n).length=n:=by simp[qx]
end L2
namespace L2
open PySem PySem.Spec PyProof.Rows
theorem Ej {st:Nat}{l:List Tr}{i:Nat}{t:Tr}(h:(q8 st l)[i]? = some t):∃u,l[i]? = some u/\t = .tp [.int ((st:Int)+(i:Int)),u]:=by
 obtain⟨u,e,rfl⟩:=xB h;exact⟨u,e,by rw[zbA]⟩
end L2
namespace L2
open PySem PySem.Spec PyProof.Rows
theorem t7:∀{l m:List Char},l.map Char.toNat=m.map Char.toNat->l=m
 |[],[],_=>rfl
 |[],_::_,h=>by simp at h
 |_::_,[],h=>by simp at h
 |a::l,b::m,h=>by
  simp only[zas,List.cons.injEq] at h;rw[t7 h.2,Char.ext (UInt32.toNat_inj.mp h.1)]
theorem Tz {a b:String}:(Str.ofString a=Str.ofString b)=(a=b):=by
 apply propext
 constructor
 ·intro h
  rw[Str.ofString_eq_byList] at h;unfold Str.ofStringByList at h;simp only[Str.mk.injEq] at h;have h2:a.toList.map Char.toNat=b.toList.map Char.toNat:=by simpa using h
  exact String.toList_inj.mp (t7 h2)
 ·rintro rfl;rfl
theorem kN {gM:Cs->Prop}{b:Tr->En->Cs->R En}{c:En->Cs->R Bool}{f:Em}{τ:En}{cD:List Tr}{S:Cs}(h:gM S):cX gM b c f [] τ cD S = .ok cD S:=by unfold cX;rw[if_pos h]
theorem jv {gM:Cs->Prop}{b:Tr->En->Cs->R En}{c:En->Cs->R Bool}{f:Em}{t:Tr}{r:List Tr}{τ:En}{cD:List Tr}{S:Cs}(h:gM S):cX gM b c f (t::r) τ cD S =
  (jj (b t τ S)).aF λeX S1=>(jj (c eX S1)).aF λx S2=>if x=true then (jj (f eX S2)).aF λu S3=>(if cD.length<sizeLine then cX gM b c f r eX (cD++[u]) S3 else .aG) else cX gM b c f r eX cD S2:=by
 conv=>lhs;unfold cX
 rw[if_pos h]
theorem i9 {α:Type}{gM:Cs->Prop}{b:Tr->En->Cs->R En}{c:En->Cs->R Bool}{f:Em}{S:Cs}(hS:gM S)(P:En->Prop)(k:α -> Tr)(g:α -> Tr)(keep:α -> Bool)
  : ∀(l:List α) (τ:En) (cD:List Tr),P τ -> (∀a∈l,∀ τ,P τ -> ∃eX,P eX/\b (k a) τ S = .ok eX S/\c eX S = .ok (keep a) S/\(keep a=true->f eX S = .ok (g a) S))->cD.length+l.length<=1000000 ->
   cX gM b c f (l.map k) τ cD S = .ok (cD++(l.filter keep).map g) S
 |[],τ,cD,hτ,h,hl=>by rw[zbL,kN hS];simp
 |t::r,τ,cD,hτ,h,hl=>by
  obtain⟨eX,p1,e1,e2,e3⟩:=h t (by simp) τ hτ
  rw[zas,jv hS,e1,h_,R.eV,e2,h_,R.eV];have Gq:cD.length+1+r.length<=1000000:=by simp at hl;omega
  cases hk:keep t with
  |true =>
   rw[if_pos rfl,e3 hk,h_,R.eV,if_pos (zak (by omega:cD.length<1000000) (by decide)),i9 hS P k g keep r eX _ p1 (λu hu=>h u (by simp[hu])) (by simp;omega)]
   simp[zbT,hk]
  |false =>
   rw[if_neg zal,i9 hS P k g keep r eX _ p1 (λu hu=>h u (by simp[hu])) (by omega)]
   simp[zbT,hk]
theorem Ek {α β γ:Type}(f:α -> Bool)(g:α -> γ):∀{l:List α} {l':List β},l'.length=l.length->((l.zip l').filter λp=>f p.1).map (λp=>g p.1)=(l.filter f).map g
 |[],_,_=>by simp
 |a::l,[],h=>by simp at h
 |a::l,b::l',h=>by
  have h':l'.length=l.length:=by simpa using h
  rw[zdk,zbT,zbT];cases f a
  ·simp only[zcc,if_false];exact Ek f g h'
  ·simp only[if_true,zas];rw[Ek f g h']
theorem GZ {α β γ:Type}(g:β -> γ):∀{l:List α} {l':List β},l'.length=l.length->(l.zip l').map (λp=>g p.2)=l'.map g
 |[],[],_=>rfl
 |[],_::_,h=>by simp at h
 |a::l,[],h=>by simp at h
 |a::l,b::l',h=>by
  have h':l'.length=l.length:=by simpa using h
  rw[zdk,zas,zas,GZ g h']
theorem Nx {α β:Type}:∀{l:List α} {l':List β} {p:α × β},p∈l.zip l'->∃j:Nat,l[j]? = some p.1/\l'[j]? = some p.2
 |[],_,p,h=>by simp at h
 |_::_,[],p,h=>by simp at h
 |a::l,b::l',p,h=>by
  rw[zdk] at h;rcases zam.mp h with rfl|h
  ·exact⟨0,rfl,rfl⟩
  ·obtain⟨j,h1,h2⟩:=Nx h
   exact⟨j+1,by simpa using h1,by simpa using h2⟩
theorem HR.ext (h:HR G w S H)(k:∀b o,H b=some o->H' b=some o):HR G {w with F:=Fz w.ρ w.hid S H' } S H'/\w.le {w with F:=Fz w.ρ w.hid S H' }:=by
 have hF:∀b o,w.F b=some o->Fz w.ρ w.hid S H' b=some o:=λb o e=>by
  rw[h.F] at e;unfold Fz at e ⊢
  split at e
  ·cases e
  ·rename_i hn
   rw[if_neg hn];exact k b o e
 have le:w.le {w with F:=Fz w.ρ w.hid S H' }:=⟨rfl,zah _,λ_ _=>rfl,hF,rfl⟩
 exact⟨⟨h.K,h.n,rfl,λi c e=>(h.cell i c e).mono le λu eu=>k _ _ eu,h.inj,λb o e=>k b o (h.hid b o e),h.jS,h.hl⟩,le⟩
section
variable {P:Program}{qz:World}{K:W.Frag}{mg:Str->Option Value}{base:Heap}{N:List Str}{bV:Str}{scope:Scope}{f:Addr}{eU:Value}{A:Around}{outer:List Env}{s₀:Shared}{H₀:Hp}{E:XK}{cl:Str->Addr}{k:Nat}
noncomputable def V4 (C:Addr)(n:Nat)(g:List V->List (Str×V)):Sp:=λvs H Q _=>∃(a:Addr) (xs:List V),vs = .ref a::xs/\xs.length=n/\H a=some (EO a C none) /\
 ∀(d:Addr) (H':Hp),H d=none->H' a=some (EO a C (some d))->H' d=some (ED d (g xs))->(∀b o,H b=some o->b≠a->H' b=some o)->Q .bB H'
theorem HR.abr (h:HR G w S H)(hx:H x=none)(hd:H d=none)(dx:d≠x)(h2x:H2 x=some (EO x (G.cl c) (some d)))(h2d:H2 d=some (ED d qg))
  (kp:∀b o,H b=some o->H2 b=some o) (hT:H2 T=none) (Tx:T≠x) (r:RK w fs qg):∃w',w.le w'/\w'.ρ S.length=x/\HR G w' (S++[.tL c fs]) (bD (bD H2 x (nQ x (G.cl c) (some d) T)) T (TB T)):=by
 have h3:∀b o,H b=some o->(λb=>if b=x then none else H2 b) b=some o:=λb o e=>by
  show (if b=x then none else H2 b)=some o
  rw[if_neg λz=>by subst z;rw[hx] at e;cases e]
  exact kp b o e
 obtain⟨dN,fq⟩:=h.ext (H':=λb=>if b=x then none else H2 b) h3
 have hT3:(λb=>if b=x then none else H2 b) T=none:=by
  show (if T=x then none else H2 T)=none
  rw[if_neg Tx,hT]
 obtain⟨ql,mh⟩:=dN.lay hT3 (TB T)
 have dT:d≠T:=λz=>by rw[z,hT] at h2d;cases h2d
 have hp:bD (λb=>if b=x then none else H2 b) T (TB T) x=none:=by
  rw[au Tx.symm];show (if x=x then none else H2 x)=none
  rw[if_pos rfl]
 have hH:bD (bD (λb=>if b=x then none else H2 b) T (TB T)) x (nQ x (G.cl c) (some d) T)=bD (bD H2 x (nQ x (G.cl c) (some d) T)) T (TB T):=by
  funext b
  by_cases b1:b=x
  ·subst b1
   rw[av,au Tx.symm,av]
  ·rw[au b1]
   by_cases b2:b=T
   ·subst b2
    rw[av,av]
   ·rw[au b2,au b2,au b1]
    show (if b=x then none else H2 b)=_
    rw[if_neg b1]
 have MY:=Wd.tM { {w with F:=Fz w.ρ w.hid S λb=>if b=x then none else H2 b} with F:=bD (Fz w.ρ w.hid S λb=>if b=x then none else H2 b) T (TB T)} x
 obtain⟨Lh,_⟩:=ql.Jl hp (o:=nQ x (G.cl c) (some d) T) (c:=.tL c fs) rfl (by
  refine⟨T,d,qg,av,av,?_,Tx,dx,r.mono (fq.trans (mh.trans MY))⟩
  show bD (Fz w.ρ w.hid S λb=>if b=x then none else H2 b) T (TB T) d=_
  rw[au dT];unfold Fz;rw[if_neg (h.free hd)];show (if d=x then none else H2 d)=_
  rw[if_neg dx,h2d])
 rw[hH] at Lh;refine⟨_,fq.trans (mh.trans MY),?_,Lh⟩
 show (if S.length=w.n then x else w.ρ S.length)=x
 rw[if_pos h.n.symm]
noncomputable def zF (c:Str)(n:Nat)(gT:List Tr->List (Str×Tr))(G0:List Tr)(fr:En->Cs->R (List Tr)):Sm:=λτ S=>(fr τ S).b_ λts S1=>if ts.length+G0.length=n/\n<=1000 then .ex S1.length (S1++[.tL c (gT (ts++G0))]) else .aG
theorem Ny 
  (M:iW K (cl c) fi bm) (F:aO P qz K mg base eB j fi fd ps (V4 (cl c) n g)) (hj:j+1<=k) (hm:mg x=some (.ref (cl c))) (hb:d_ K fd ps ds) (hd:bH mV ds) (hdt:∀w,bL w G0 mV) (hg:∀w ts vs,bL w ts vs->ts.length=n->RK w (gT ts) (g vs))
  (ha:wu ⟨K,cl,E⟩ k (iB (qe P qz) P qz K mg base N bV scope f eU A outer s₀ H₀ E) (e::es) fr)
  (hgl:autoParam (Gl (iB (qe P qz) P qz K mg base N bV scope f eU A outer s₀ H₀ E) x) zp_0) (sU:autoParam ((x == ("__debug__" : Str))=false) zp_1) (hs:autoParam (dB e=false) zp_0) (Le:autoParam (dg es=true) zp_0) (xC:autoParam (0<k) zp_2):
  zo ⟨K,cl,E⟩ k (iB (qe P qz) P qz K mg base N bV scope f eU A outer s₀ H₀ E) (.Raise (some (.Call (.Name x p) (e::es) [] gr)) none pos) (zF c n gT G0 fr):=.mk<|λox =>
 (MH (aab (X:=iB (qe P qz) P qz K mg base N bV scope f eU A outer s₀ H₀ E) (E:=E0) M F ((ox.room xC).mono hj) hgl hm hb hd (λ_ _ _ _ _ _ _ h=>h.elim) (ha ox) sU (cE hs) (dZ Le))).wk λD σ H h=>by
  obtain⟨w,S,τ,hr,sl,q⟩:=h;refine⟨w,S,τ,hr,sl,(cG.aF q).mono λvs H1 cC=>?_⟩
  obtain⟨w1,S1,ts,dD,bN,r1,_,q1⟩:=cC;split at q1
  ·rename_i hn
   have hl:vs.length<=1000:=by rw[r1.len];omega
   refine⟨hl,λx' VH=>⟨x',vs++mV,rfl,?_,av,λd H' QV e1 e2 kp=>⟨rfl,x',cl c,fi,bm,some d,rfl,e1,M,λT hT Tx=>?_⟩⟩⟩
   ·rw[zaj,r1.len,(hdt w1).len];exact hn.1
   ·have dx:d≠x':=λz=>by rw[z,av] at QV;cases QV
    have hd2:H1 d=none:=by rw[au dx] at QV;exact QV
    obtain⟨w',le',ρx,qw⟩:=bN.abr (c:=c) (fs:=gT (ts++G0)) (qg:=g (vs++mV)) VH hd2 dx e1 e2 (λb o eb=>kp b o (by rw[au λz=>by rw[z,VH] at eb;cases eb];exact eb) λz=>by rw[z,VH] at eb;cases eb) hT Tx (hg w1 _ _ (r1.qW (hdt w1)) (by rw[zaj];exact hn.1))
    obtain⟨c',Lc,ec,kk⟩:=q1;have ec2:c'=c:=by
     simp only[ju] at ec;cases ec;rfl
    subst ec2
    have:=kk w' _ le' qw
    rw[ρx] at this;exact this
  ·exact q1.elim
noncomputable def fnX (N:List Str)(sb:Sm):Fn:=λts S=>match sb (gF N ts) S with|.nx _ S'=>.ok .bB S' | .rt t S'=>.ok t S' | .ex n S'=>.ex n S' | _=>.aG
theorem Nz {st:Stmt}(F:Mh K x bV st f fd)(Sc:aq N ps (aj st))
  (hb:∀eU A outer s H E,Jm ⟨K,cl,E⟩ k (iB (qe P qz) P qz K mg base N bV (aj st) f eU A outer s H E) (cW st) sb):aO P qz K mg base (qe P qz) (k+1) f fd ps (dO K cl ps.length (fnX N sb)):=by
 refine F.okX Sc (λvs H Q E dI=>by obtain⟨w,S,ts,hr,r,hn,_⟩:=dI;rw[r.len,hn]) λeU A outer s H vs Q E hr eN=>?_
 obtain⟨w,S,ts,Q0,r,hn,q⟩:=eN;refine⟨_,hb eU A outer s H E ⟨rfl,λ_=>rfl,λ_=>hr,zcC (Nat.add_le_add_right (zcn _ _) 200) hr.un⟩,w,S,gF N ts,Q0,Sl.dz N r,?_⟩
 unfold fnX at q;cases e:sb (gF N ts) S with
 |nx wA S'=>rw[e] at q;exact λw' H' d9 le qw Lr=>q w' H' _ le qw tN
 |rt t S'=>rw[e] at q;exact λw' H' v le qw rv=>q w' H' v le qw rv
 |bk wA S'=>rw[e] at q;exact q.elim
 |ct wA S'=>rw[e] at q;exact q.elim
 |ex wA S'=>rw[e] at q;exact q
 |aG=>rw[e] at q;exact q.elim
end
theorem zG (hC:s.heap.get? C=some (excClassObj nm q C N bs bm rJ sn sub ab qU dd k0 k1 k2 k3 k5 oQ))(hB:s.heap.get? B=some (excClassObj VN q' B N' VO bm' qV VP A4 VQ A5 AM j0 j1 j2 j3 j5 l9))
  (he:s.heap.get? a=some oe) (Ls:oe.cls = .ref C) (hb:bm'.contains (.type "BaseException")=true) (h2:(Value.ref C::bm).contains (.ref B)=true) (hq:Q true s):wpAny M A (excMatches (.ref a) (.ref B)) Q E s:=by
 have h1:(Value.ref B::bm').contains (.type "BaseException")=true:=by rw[zaV,hb,zcz]
 have f:=tc_notTuple;obtain⟨hp,g,d,tk,os⟩:=s;unfold excMatches;repeat (first | (with_reducible refine zbC he ?_;rw[Ls])|with_reducible refine zbC hB ?_ | (with_reducible refine zcr hB ?_;rw[h1]) | (with_reducible refine zcr hC ?_;rw[h2])|wp_step)
 exact hq
noncomputable def sJ.amQ (D:sJ)(l:Nat):sJ:={nx:=λσ H=>D.nx (σ.set l none) H,bk:=λσ H=>D.bk (σ.set l none) H,ct:=λσ H=>D.ct (σ.set l none) H,rt:=D.rt}
noncomputable def abt (K:W.Frag)(B:Addr)(kk:Addr->Hp->Prop):XK:=λcls oa H2=>∃(a C f:Addr) (bm:List Value) (od:Option Addr) (T:Addr),oa=some a/\cls = .ref C/\iW K C f bm/\(Value.ref C::bm).contains (.ref B)=true /\
 H2 a=some (nQ a C od T)/\H2 T=some (TB T)/\T≠a/\∀T',H2 T'=none->T'≠a->kk a (bD (bD H2 a (nQ a C od T')) T' (TB T'))
noncomputable def abu (K:W.Frag)(C:Addr)(m:Str)(B:Addr)(l:Nat)(sp:Sp)(ta:TE)(t:TA)(ts:TS):TS:=λD σ H=>Gf C m sp [] (abt K B λa H'=>ts (D.amQ l) (σ.set l (some (.ref a))) H') ta t σ H λ_ H3=>D.nx σ H3
section
variable {X:Cx}{k:Nat}{g B C:Addr}{fd:FuncData}{ps:List Str}{sp:Sp}{e o:Expr}{es:List Expr}{ta:TE}{t:TA}{n m cB:Str}{l:Nat}{p cp ap np ep hp pos:Pos}{lB:List Stmt}{rP:Stmt}{ts:TS}
 {VN q':Str} {N':Addr} {VO bm':List Value} {qV:Bool} {VP:List Str} {A4:List Value} {VQ:Bool} {A5:Option Bool} {AM:Option Addr} {j0 j1 j2 j3 j5:Option Value} {l9:String}
theorem Jw {D:sJ}(V5:X.fS=true)(zH:X.dm=X.env::X.outer)(Je:X.env.frame=some X.env.locals)(hgB:Gl X cB)(hmB:X.mg cB=some (.ref B))
  (hB:X.K.lookup B=some (excClassObj VN q' B N' VO bm' qV VP A4 VQ A5 AM j0 j1 j2 j3 j5 l9)) (hbB:bm'.contains (.type "BaseException")=true) (TH:(cB == ("__debug__" : Str))=false)
  (I1:aL X ah σ H1 s1) (hq:qe X.prog X.w X.dm H1 s1 (abt X.K B kk) ev s')
  (hs:∀a C od T' s4 H4,ev = .ref a->H4 a=some (nQ a C od T')->H4 T'=some (TB T')->aL (X.kC a) ah σ H4 s4->kk a H4->codeAny (model X.prog X.w) (X.A.mark (some (.ref a))) (.handlers (.ref a) [.ExceptHandler none name (rP::lB) hp] X.env) (λr lY=>match r with
     |.ok f=>(match name with
      |none=>SP X ah D f lY
      |some n=>wpAny (model X.prog X.w) X.A (do bindName X.env n .none;unbindBehindTheSuite X.env n hp) (λ_ wc=>SP X ah D f wc) X.xe lY)
     |.error x=>cameBackBy (model X.prog X.w) X.A X.env X.xe x lY) s4):
  wpAny (model X.prog X.w) X.A (noteFrame ev X.env) (λ_ lY=>wpAny (model X.prog X.w) X.A (setFlight ev none) (λ_ wc=>wpAny (model X.prog X.w) X.A (handleBy ev X.env [.ExceptHandler (some (.Name cB np)) name (rP::lB) hp]) (SP X ah D) X.xe wc) X.xe lY) X.xe s':=by
 obtain⟨a,_,_,_,H2,rfl,RE,NC,un,cA,_,_,_,a9,C,f,bm,od,T,ea,ec,Mk,q_,VM,V6,Ta,kq⟩:=hq;cases ea;have I2:aL X ah σ H2 s':=I1.AD (ch:=[]) RE un cA NC (λb z=>absurd z (by simp))
 obtain⟨t0,ga⟩:=(show ∃t,s'.heap.get? a=some (gU C od t (.ref T)) from (I2.cA a _ VM).1)
 have gT:tG s'.heap T:=(I2.cA T _ V6).1
 have j7:s'.heap.FunFrames X.base (X.env::X.outer):=by rw[<-zH];exact I2.yV.j7
 have frames:X.A.frames=some (X.env::X.outer):=by rw[<-zH];exact I2.ok.frames
 refine xj (base:=X.base) frames j7 Je ga gT Ta λh1 h' T' k1 tb1 z1 Lf=>?_
 have Sg:T'≠a:=zbQ (zak (zan ga) (by rw[<-z1];exact Lf.new))
 have nT':H2 T'=none:=I2.cA.fresh (by rw[<-z1];exact Lf.new)
 have I3:aL X ah σ (bD (bD H2 a (nQ a C od T')) T' (TB T')) {s' with heap:=h' }:=I2.A3 VM V6 Ta Sg k1 tb1 z1 (by rw[zH];exact Lf)
 have I3m:=I3.kC a;refine wpAny_handleBy_cons (codeAny_handlers_test (mU I3m hgB hmB ?_ TH)) (by intro q;cases q)
 obtain⟨nm,qn,N0,bs,sn,sub,ab,qU,dd,k0,k1',k2,k3,k5,lk⟩:=Mk.j9;refine zG (I3.nE _ _ lk) (I3.nE _ _ hB) Lf.j9 rfl hbB q_ ?_
 exact hs a C od T' _ _ rfl (by rw[au Sg.symm,av]) av I3m (kq T' nT' Sg)
theorem El (I:aL X ah σ H s)(ha:H a=some (nQ a C od T))(hT:H T=some (TB T))
  (h:∀s',aL X ah σ H s'->Q () s'):wpAny M A (setFlight (.ref a) none) Q E s:=by
 obtain⟨t0,e1⟩:=(show ∃t,s.heap.get? a=some (gU C od t (.ref T)) from (I.cA a _ ha).1)
 obtain⟨oT,ts,eT,dT,h3⟩:=(show tG s.heap T from (I.cA T _ hT).1)
 unfold setFlight;refine zaa (zbt e1 rfl (x:=.ref T) rfl ?_)
 rw[if_pos (show (Value.ref T != Value.none)=true from by simp)]
 have sz:=(zdo.mp h3).1
 refine zbI eT dT sz ?_
 have fT:(s.heap.update T (Obj.mapFields (·.setIfInBounds 3 ((none:Option Addr).elim Value.none λf=>rawInt f)))).get? T=some (Obj.mapFields (·.setIfInBounds 3 ((none:Option Addr).elim Value.none λf=>rawInt f)) oT):=zaR _ eT (zcg (zbk dT _))
 have tb4:tG (s.heap.update T (Obj.mapFields (·.setIfInBounds 3 ((none:Option Addr).elim Value.none λf=>rawInt f)))) T:=⟨_,_,fT,zbk dT _,by simp[sz]⟩
 have I4:=I.jm (x:=T) (e:=T) (o:=TB T) (t':=s.toks) (h':=s.heap.update T (Obj.mapFields (·.setIfInBounds 3 ((none:Option Addr).elim Value.none λf=>rawInt f))))
  (by rw[hT];exact True.intro) (.inl rfl) (λb u nb hb=>(zaG _ _ (zbe nb)).trans hb) ⟨_,fT⟩ (Gz tb4)
 rw[AZ hT] at I4;exact h _ I4
theorem ND (V5:X.fS=true)(zH:X.dm=X.env::X.outer)(Je:X.env.frame=some X.env.locals)(hgB:Gl X cB)(hmB:X.mg cB=some (.ref B))
  (hB:X.K.lookup B=some (excClassObj VN q' B N' VO bm' qV VP A4 VQ A5 AM j0 j1 j2 j3 j5 l9)) (hbB:bm'.contains (.type "BaseException")=true)
  (he:PE X.Dc o ta) (c:sQ X.K C) (hm:c8 X.K C m g) (F:aO X.prog X.w X.K X.mg X.base (qe X.prog X.w) k g fd ps sp) (hr:gR k X.A) (hb:d_ X.K fd ps []) (ha:PA X.Dc (e::es) t)
  (hN:X.N.Nodup) (hl:X.N[l]? = some n) (rX:X.env.scope.names.lookup n=some .local) (hs:∀a,wM (X.kC a).Dc (rP::lB) ts)
  (TH:autoParam ((cB == ("__debug__" : Str))=false) zp_1) (MB:autoParam (swapsWith (.Call (.Attribute o m ap) (e::es) [] cp) none ep.line X.env=pure false) zp_0)
  (pV:autoParam (starEach (e::es) X.env=(false,eval e X.env)::starEach es X.env) zp_0) (hpl:autoParam ((backTo cp (starEach es X.env)).any (·.1)=false) zp_0)
  (ht:autoParam (eval (.Call (.Attribute o m ap) (e::es) [] cp) X.env=(do
   let ov <-eval o X.env
   standAt ap.atName
   let (f,first) <-holding [ov] (getMethod ov m pl)
   callWith cp f first (backTo cp (starEach (e::es) X.env)) (backToKw cp (keywordEach [] X.env)))) zp_0):
  PS X (.Try [.Expr (.Call (.Attribute o m ap) (e::es) [] cp) ep] [.ExceptHandler (some (.Name cB np)) (some n) (rP::lB) hp] [] [] pos) (abu X.K C m B l sp ta t ts):=by
 intro ah s σ H D I h;have hhd:X.fS=true->X.A.handled=none:=I.ok.hd
 refine wpAny_Try_except (zdA (wpAny_Expr_any ?_ I.quiet MB))
 refine W.methodCall_KW (pl:=pl) (zaK (he ah s σ H _ (I.rF _) h) (λu s1 cC=>?_) λ_ _ z=>z.elim) ht
 obtain⟨x,H1,I1',rx,a,dx,fs,ex,ea,lk,q⟩:=cC;have I1:aL X ah σ H1 s1:=I1'.gh
 subst ex;obtain rfl:u=Value.ref a:=rx
 refine nN I1 ea c hm lk ?_
 refine W.callWith_K (first:=[.ref a]) (h₀:= X.base) I.ok.sH.Zc hm.kp (zaK (ha cp ah s1 σ H1 _ I1' q) (λus s2 ⟨vs,H2,I2',r,q2⟩=>⟨I2'.gh.nE,?_⟩) λ_ _ z=>z.elim) pV hpl
 have I2:aL X ah σ H2 s2:=I2'.gh
 have r2:bH (V.ref a::vs) (Value.ref a::us):=.cons rfl r
 have q2:sp (V.ref a::(vs++[])) H2 _ _:=q2
 rw[zay] at q2;have dH:(Value.ref a::us).length=ps.length:=by rw[<-r2.length];exact F.len _ _ _ _ q2
 have aF:=hb s2 (Value.ref a::us) I2.nE (by rw[zay];exact dH)
 rw[zay] at aF;refine zcl (zcx (F.kh X.A X.dm s2 H2 ⟨Value.ref a::us,[]⟩ (Value.ref a::us) (V.ref a::vs) _ _ hr I2.yV aF r2 q2) λrr s' hq=>?_)
 cases rr with
 |ok fl =>
  cases fl with
  |ret u =>
   obtain⟨v,H3,I3,rv,q3⟩:=I2.after hq;exact zct (zct ⟨σ,H3,I3,q3⟩)
  |next=>exact False.elim hq
  |brk=>exact False.elim hq
  |cont=>exact False.elim hq
 |error ev =>
  refine Jw V5 zH Je hgB hmB hB hbB TH I2 hq λa C od T' s4 H4 _ ha4 hT4 I4 kq=>?_
  refine codeAny_handlers_suite_as (El I4 ha4 hT4 λs5 I5=>?_)
  refine oA (X:=X.kC a) I5 hN hl (.inl rX) (v:=.ref a) rfl (λs6 I6=>?_) (.inr rX)
  refine zaK (hs a ah s6 (σ.set l (some (.ref a))) H4 _ (I6.rF _) kq) (λfl s7 h7=>?_) λ_ _ z=>z.elim
  cases fl with
  |next=>obtain⟨d9,H',I7,q7⟩:=h7;exact rW (I7.gh.oR hhd) hN hl rX λs8 I8=>⟨_,_,I8,q7⟩
  |brk=>obtain⟨d9,H',I7,q7⟩:=h7;exact rW (I7.gh.oR hhd) hN hl rX λs8 I8=>⟨_,_,I8,q7⟩
  |cont=>obtain⟨d9,H',I7,q7⟩:=h7;exact rW (I7.gh.oR hhd) hN hl rX λs8 I8=>⟨_,_,I8,q7⟩
  |ret u=>obtain⟨v,d9,H',I7,r7,q7⟩:=h7;exact rW (I7.gh.oR hhd) hN hl rX λs8 I8=>⟨v,_,_,I8,r7,q7⟩
end
noncomputable def t8 (S:Cs)(n:Nat):Option (Str×List (Str×Tr)):=match S[n]? with|some (.tL c fs)=>some (c,fs)|_=>none
theorem gY (h:t8 S n=some (c,fs)):S[n]? = some (.tL c fs):=by
 unfold t8 at h;split at h
 ·cases h;assumption
 ·cases h
noncomputable def Eo (G:Gx)(cs:List Str)(g:Str):Prop:=∀c∈cs,(∃f bm,iW G.K (G.cl c) f bm)/\W.findIn G.K (.ref (G.cl c)) g=some none
noncomputable def Bo (cs:List Str)(g:Str)(t:Tr)(S:Cs):R Tr:=match t with
 |.hd n=>(match t8 S n with|some (c,fs)=>if c∈cs then (match aP g fs with|some u=>.ok u S|none=>.aG) else .aG|none=>.aG)
 |_=>.aG
noncomputable def Bp (cs:List Str)(g:Str)(fo:Em):Em:=λτ S=>(fo τ S).aF λt S1=>Bo cs g t S1
section
variable {G:Gx}{k:Nat}{X:Cx}{o a:Expr}{fo fa:Em}{pos p p2:Pos}
theorem zI (hf:Eo G cs f)(ho:TV G k X o fo)(hb:autoParam (attributeBase o f X.env (eval o X.env)=eval o X.env) zp_0):TV G k X (.Attribute o f pos) (Bp cs f fo):=.mk<|λox=>(MJ (ho ox) hb).wk λσ H Q h=>by
 obtain⟨w,S,τ,hr,sl,q⟩:=h;refine⟨w,S,τ,hr,sl,(br.aF q).mono λx H1 cC=>?_⟩
 obtain⟨w1,S1,t1,dD,bN,r1,_,q1⟩:=cC;unfold Bo at q1;split at q1
 ·split at q1
  ·rename_i c fs ei
   split at q1
   ·rename_i hc
    split at q1
    ·rename_i u eu
     obtain⟨T,d,qg,h1,h2,h3,_,_,h4⟩:=bN.cell _ _ (gY ei)
     obtain⟨v,ev,rv⟩:=(gm (k:=f) h4).1 u eu
     obtain⟨⟨f',bm,M⟩,hn⟩:=hf c hc
     rw[<-ox.K] at M hn;exact⟨_,_,f',bm,d,T,qg,v,r1.cO.2,h1,bN.sub _ _ h3,M,hn,ev,q1 w1 H1 v (.refl _) bN rv⟩
    ·exact q1.elim
   ·exact q1.elim
  ·exact q1.elim
 ·exact q1.elim
noncomputable def Bq (G:Gx)(u:Value)(rD:List (Str×Bool)):Prop:=∀p∈rD,(∃f bm,iW G.K (G.cl p.1) f bm)/\W.kitOne G.K (.ref (G.cl p.1)) u=some p.2
noncomputable def xG (c:Str):List (Str×Bool)->Option Bool
 |[]=>none
 | (d,b)::r=>if d=c then some b else xG c r
theorem qA:∀{l:List (Str×Bool)},xG c l=some b->(c,b)∈l
 | (d,x)::r,h=>by
  unfold xG at h;split at h
  ·rename_i e
   cases h;rw[e];exact zbh
  ·exact zaD _ (qA h)
noncomputable def Jx (rD:List (Str×Bool))(t:Tr)(S:Cs):R Tr:=match t with
 |.hd n=>(match t8 S n with|some (c,_)=>(match xG c rD with|some b=>.ok (.bl b) S|none=>.aG)|none=>.aG)
 |_=>.aG
noncomputable def Br (rD:List (Str×Bool))(fo:Em):Em:=λτ S=>(fo τ S).aF λt S1=>Jx rD t S1
structure Sys (K:W.Frag):Prop where
 get:W.specialIn K (.builtin "object.__class__") "__get__"=some (some (.builtin "getset_descriptor.__get__"))
 V7:W.takesIn K (.builtin "object.__class__")=some true
theorem NF (S0:Sys G.K)(rc:bG cV u)(uc:∀u',bG cV u'->u'=u)(hT:Bq G u rD)(h:fm G (Br rD fa) σ H Q):
  fm G fa σ H λx H1=>VR G.K [x,cV] H1 Q:=by
 obtain⟨w,S,τ,hr,sl,q⟩:=h;refine⟨w,S,τ,hr,sl,(br.aF q).mono λx H1 dI=>?_⟩
 obtain⟨w1,S1,t1,dD,bN,r1,_,q1⟩:=dI;unfold Jx at q1;split at q1
 ·split at q1
  ·rename_i c fs ei
   split at q1
   ·rename_i b eb
    obtain⟨T,d,qg,h1,h2,h3,_,_,h4⟩:=bN.cell _ _ (gY ei)
    obtain⟨⟨f',bm,M⟩,hk⟩:=hT _ (qA eb)
    exact⟨_,_,f',T,bm,d,qg,cV,u,b,by rw[r1.cO.2],h1,bN.sub _ _ h3,M,rc,uc,S0.get,S0.V7,hk,q1 w1 H1 _ (.refl _) bN gC⟩
   ·exact q1.elim
  ·exact q1.elim
 ·exact q1.elim
theorem TL (S0:Sys G.K)(hT:Bq G (.ref C) rD)(hm:X.mg "isinstance"=none)(hy:X.mg y=some (.ref C))(ha:TV G k X a fa)(hg:autoParam (Gl X "isinstance") zp_0)(hgy:autoParam (Gl X y) zp_0)(hd:autoParam ((y == ("__debug__" : Str))=false) zp_1)
  (hs:autoParam (dB a=false) zp_0):TV G k X (.Call (.Name "isinstance" p) [a,.Name y p2] [] pos) (Br rD fa):=.mk<|λo =>
 (oF xm hg hm zch (g_ (ha o) (g_ (yT (v:=.ref C) hgy hy rfl hd) qa (cE rfl)) (cE hs)) (he:=cE hs) (hpl:=dZ rfl)).wk λσ H Q h=>by
  have h:=NF (cV:=.ref C) S0 rfl (λu' e=>e) hT h
  rw[<-o.K] at h;exact h
theorem TM (S0:Sys G.K)(hT:Bq G (.type "ValueError") rD)(hm:X.mg "isinstance"=none)(hy:X.mg "ValueError"=none)(ha:TV G k X a fa)(hg:autoParam (Gl X "isinstance") zp_0)(hgy:autoParam (Gl X "ValueError") zp_0)
  (hs:autoParam (dB a=false) zp_0):TV G k X (.Call (.Name "isinstance" p) [a,.Name "ValueError" p2] [] pos) (Br rD fa):=.mk<|λo =>
 (oF xm hg hm zch (g_ (ha o) (g_ (Q7 (v:=.ty _) hgy hy rL rfl) qa (cE rfl)) (cE hs)) (he:=cE hs) (hpl:=dZ rfl)).wk λσ H Q h=>by
  have h:=NF (cV:=.ty "ValueError") S0 rfl (λu' e=>e) hT h
  rw[<-o.K] at h;exact h
noncomputable def V8 (K:W.Frag):List V->Hp->VK->Prop:=λxs H Q=>∃(a C f T:Addr) (bm:List Value) (d:Addr) (fs:List (Str×V)) (tp:Addr) (cs:List Addr) (b:Bool),xs=[.ref a,.ref tp]/\H a=some (nQ a C (some d) T)/\H d=some (ED d fs)/\iW K C f bm /\
 H tp=some (.gQ (cs.map V.ref))/\W.specialIn K (.builtin "object.__class__") "__get__"=some (some (.builtin "getset_descriptor.__get__"))/\W.takesIn K (.builtin "object.__class__")=some true/\W.kitAny K (.ref C) (cs.map Value.ref)=some b/\Q (.bl b) H
theorem xH:∀{cs:List Addr} {us:List Value},bH (cs.map V.ref) us->us=cs.map Value.ref
 |[],us,h=>by cases h;rfl
 |c::r,us,h=>by
  cases h with
  |cons e h2 =>
   rw[xH h2];cases (show _=Value.ref c from e)
   rfl
theorem Jy:jo X (.builtin "isinstance") (V8 X.K):=by
 intro ah s σ H xs us Q I r h;obtain⟨a,C,f,T,bm,d,fs,tp,cs,b,rfl,ha,hd,M,ht,h1,h2,e,q⟩:=h;obtain⟨v1,v2,rfl,r1,r2⟩:=r.two;cases (show v1=Value.ref a from r1)
 cases (show v2=Value.ref tp from r2)
 obtain⟨t,ea⟩:=D3 I ha;obtain⟨mA,ns,_,_⟩:=Gv I hd;obtain⟨oD,Lb,_⟩:=jL ns;obtain⟨_,aX,vs,p⟩:=(show cR X.prog X.w H s.heap tp (.gQ (cs.map V.ref)) from I.cA tp _ ht)
 rw[xH vs] at p;obtain⟨⟨oc,od',oda,Dd⟩,ep,hc,n,QV⟩:=p
 cases (show oc=_ from hc)
 cases (show oda=_ from QV)
 exact W.kia_tup (A0 (ox:=gU C (some d) t (.ref T)) (od:=some oD) M h1 h2) I.nE (D0 ea Lb) ep e (λz=>nomatch z) λtk=>⟨.bl b,H,I.nF tk,rfl,q⟩
noncomputable def NG (G:Gx)(us:List Value)(rD:List (Str×Bool)):Prop:=∀p∈rD,(∃f bm,iW G.K (G.cl p.1) f bm)/\W.kitAny G.K (.ref (G.cl p.1)) us=some p.2
theorem TN {cs:List Addr}{x1}(S0:Sys G.K)(hT:NG G (cs.map Value.ref) rD)(hm:X.mg "isinstance"=none)(hes:PA X es (λ_ H Q=>Q (cs.map V.ref) H))(ha:TV G k X a fa)(hl:cs.length<=1000:=by first|decide|exact Nat.le_of_ble_eq_true rfl)(hg:autoParam (Gl X "isinstance") zp_0)
  (hs:autoParam (dB a=false) zp_0):TV G k X (.Call (.Name "isinstance" p) [a,.Tuple es x1 p2] [] pos) (Br rD fa):=.mk<|λo =>
 (oF Jy hg hm zch (g_ (ha o) (g_ (LO hes) qa (cE rfl)) (cE hs)) (he:=cE hs) (hpl:=dZ rfl)).wk λσ H Q h=>by
  obtain⟨w,S,τ,hr,sl,q⟩:=h;refine⟨w,S,τ,hr,sl,(br.aF q).mono λx H1 eN=>?_⟩
  obtain⟨w1,S1,t1,dD,bN,r1,_,q1⟩:=eN;show (cs.map V.ref).length<=sizeLine/\∀p,H1 p=none->V8 X.K [x,.ref p] (bD H1 p (.gQ (cs.map V.ref))) Q
  refine⟨zai (by rw[zaf];exact hl) (by decide:1000<=sizeLine),λtp htp=>?_⟩
  unfold Jx at q1;split at q1
  ·split at q1
   ·rename_i c fs ei
    split at q1
    ·rename_i b eb
     obtain⟨dN,fq⟩:=bN.lay htp (.gQ (cs.map V.ref))
     obtain⟨T,d,qg,h1,h2,h3,_,_,h4⟩:=dN.cell _ _ (gY ei)
     obtain⟨⟨f',bm,M⟩,hk⟩:=hT _ (qA eb)
     rw[<-o.K] at M hk;have S1:=S0;rw[<-o.K] at S1;exact⟨_,_,f',T,bm,d,qg,tp,cs,b,by rw[r1.cO.2],h1,dN.sub _ _ h3,M,av,S1.get,S1.V7,hk,q1 _ _ _ fq dN gC⟩
    ·exact q1.elim
   ·exact q1.elim
  ·exact q1.elim
end
noncomputable def zJ (l:Option Nat)(x:Option Tr)(τ:En):En:=match l with|some l=>τ.set l x|none=>τ
noncomputable def xJ (l:Option Nat)(r:RS):RS:=match r with
 |.nx τ S=>.nx (zJ l none τ) S
 |.bk τ S=>.bk (zJ l none τ) S
 |.ct τ S=>.ct (zJ l none τ) S
 |.rt t S=>.rt t S
 |_=>.aG
noncomputable def kO (cs:List Str)(l:Option Nat)(sh:Sm)(τ:En)(r:R Tr):RS:=match r with
 |.ok _ S=>.nx τ S
 |.ex e S=>(match t8 S e with|some (c,_)=>if c∈cs then xJ l (sh (zJ l (some (.hd e)) τ) S) else .aG|none=>.aG)
 |.aG=>.aG
noncomputable def Bt (c m:Str)(n:Nat)(q:Fn)(fo:Em)(fr:En->Cs->R (List Tr))(cs:List Str)(l:Option Nat)(sh:Sm):Sm:=λτ S=>(fo τ S).b_ λt S1=>match t with
 |.hd i=>(match iM S1 i with
  |some (c',fs)=>if c'=c/\(aP m fs).isNone=true then (fr τ S1).b_ λts S2=>(if (t::ts).length=n then kO cs l sh τ (q (t::ts) S2) else .aG) else .aG
  |none=>.aG)
 |_=>.aG
noncomputable def pB (G:Gx)(B:Addr)(cs:List Str):Prop:=∀c∈cs,∃f bm,iW G.K (G.cl c) f bm/\(Value.ref (G.cl c)::bm).contains (.ref B)=true
theorem i_ {α:Type}:∀{l:List α} {i:Nat} {c:α},l[i]? = some c->l.set i c=l
 |[],i,c,h=>by simp at h
 |x::r,0,c,h=>by simp at h;simp[h]
 |x::r,i+1,c,h=>by simp only[zaH] at h;rw[zdj,i_ h]
theorem HR.A3 (h:HR G w S H)(he:S[e]? = some (.tL c fs)):∃d T,H (w.ρ e)=some (nQ (w.ρ e) (G.cl c) (some d) T)/\H T=some (TB T)/\T≠w.ρ e /\
  ∀T',H T'=none->T'≠w.ρ e->∃w',w.le w'/\w'.ρ=w.ρ /\ HR G w' S (bD (bD H (w.ρ e) (nQ (w.ρ e) (G.cl c) (some d) T')) T' (TB T')):=by
 obtain⟨T,d,qg,h1,h2,h3,h4,h5,h6⟩:=h.cell _ _ he;refine⟨d,T,h1,h.sub _ _ h2,h4,λT' hT' ne=>?_⟩
 obtain⟨dN,fq⟩:=h.lay hT' (TB T')
 have hdT:d≠T':=λz=>by rw[z,h.MR hT'] at h3;cases h3
 have ql:=dN.DI he rfl (c':=.tL c fs) rfl (o:=nQ (w.ρ e) (G.cl c) (some d) T') ⟨T',d,qg,av,av,by show bD w.F T' (TB T') d=_;rw[au hdT];exact h3,ne,h5,h6.mono fq⟩
 rw[i_ he] at ql;refine⟨_,fq,rfl,?_⟩
 have:bD (bD H (w.ρ e) (nQ (w.ρ e) (G.cl c) (some d) T')) T' (TB T')=bD (bD H T' (TB T')) (w.ρ e) (nQ (w.ρ e) (G.cl c) (some d) T'):=by
  funext b
  by_cases b1:b=T'
  ·subst b1;rw[av,au ne,av]
  ·rw[au b1]
   by_cases b2:b=w.ρ e
   ·subst b2;rw[av,av]
   ·rw[au b2,au b2,au b1]
 rw[this];exact ql
section
variable {K:W.Frag}{cl:Str->Addr}{k j n:Nat}{X:Cx}{f B:Addr}{fd:FuncData}{ps:List Str}{q:Fn}{m cB nn c:Str}{p cp ap np ep hp pos:Pos}{e o:Expr}{es:List Expr}{fr:En->Cs->R (List Tr)}{fo:Em}{lB:List Stmt}{rP:Stmt}{sh:Sm}{l:Nat}{cs:List Str}
 {VN q':Str} {N':Addr} {VO bm':List Value} {qV:Bool} {VP:List Str} {A4:List Value} {VQ:Bool} {A5:Option Bool} {AM:Option Addr} {j0 j1 j2 j3 j5:Option Value} {l9:String}
theorem HR.swE (h:HR ⟨K,cl,E⟩ w S H):HR ⟨K,cl,E'⟩ w S H:=HR.unx (G:=⟨K,cl,E'⟩) (HR.nx (G:=⟨K,cl,E⟩) h)
theorem NH {lo:Option Nat}(hC:pB ⟨K,cl,E⟩ B cs)(sl:Sl w2 τ σ)(q2:cG ⟨K,cl,E⟩ w2 (kO cs lo sh τ r) D)
  (hkk:∀a H',(∃w S n,w2.le w/\HR ⟨K,cl,E⟩ w S H'/\n<w.n/\a=w.ρ n/\cG ⟨K,cl,E⟩ w (xJ lo (sh (zJ lo (some (.hd n)) τ) S)) D)->kk a H'):br RT ⟨K,cl,abt K B kk⟩ w2 r λ_ H3=>D.nx σ H3:=by
 cases r with
 |ok a S3=>exact λw' H' b le qw _=>q2 w' H' σ le qw.swE (sl.mono le)
 |aG=>exact q2
 |ex en S3 =>
  unfold kO at q2;simp only at q2
  split at q2
  ·rename_i c2 fs2 ei
   split at q2
   ·rename_i hc
    refine⟨c2,fs2,gY ei,λw' H' le qw=>?_⟩
    obtain⟨d,T,h1,h2,h3,h4⟩:=qw.A3 (gY ei)
    obtain⟨f',bm,M,q_⟩:=hC c2 hc;refine⟨_,_,f',bm,some d,T,rfl,rfl,M,q_,h1,h2,h3,λT' a1 a2=>?_⟩
    obtain⟨w3,mh,e3,ql⟩:=h4 T' a1 a2;have hn:en<w3.n:=by
     have:=(zae.mp (gY ei)).1
     rw[ql.n];exact this
    exact hkk _ _ ⟨w3,S3,en,le.trans mh,ql.swE,hn,by rw[e3],cG.wd (le.trans mh) q2⟩
   ·exact q2.elim
  ·exact q2.elim
theorem NI {pl:Sem Bool}(hB:K.lookup B=some (excClassObj VN q' B N' VO bm' qV VP A4 VQ A5 AM j0 j1 j2 j3 j5 l9))(hbB:bm'.contains (.type "BaseException")=true)(hC:pB ⟨K,cl,E0⟩ B cs)(hmB:X.mg cB=some (.ref B))
  (hc:sQ K (cl c)) (hM:c8 K (cl c) m f) (F:aO X.prog X.w X.K X.mg X.base (qe X.prog X.w) j f fd ps (dO K cl n q)) (hj:j<=k) (hb:d_ X.K fd ps []) (ho:TV ⟨K,cl,E0⟩ k X.Dc o fo) (ha:wu ⟨K,cl,E0⟩ k X.Dc (e::es) fr)
  (hN:X.N.Nodup) (hs:∀a,Jm ⟨K,cl,E0⟩ 0 (X.kC a).Dc (rP::lB) sh) (hl:X.N[l]? = some nn) (rX:X.env.scope.names.lookup nn=some .local) (zH:autoParam (X.dm=X.env::X.outer) zp_0) (Je:autoParam (X.env.frame=some X.env.locals) zp_0)
  (hgB:autoParam (Gl X cB) zp_0) (TH:autoParam ((cB == ("__debug__" : Str))=false) zp_1) (MB:autoParam (swapsWith (.Call (.Attribute o m ap) (e::es) [] cp) none ep.line X.env=pure false) zp_0)
  (pV:autoParam (dB e=false) zp_0) (hpl:autoParam (dg es=true) zp_0)
  (ht:autoParam (eval (.Call (.Attribute o m ap) (e::es) [] cp) X.env=(do
   let ov <-eval o X.env
   standAt ap.atName
   let (f,first) <-holding [ov] (getMethod ov m pl)
   callWith cp f first (backTo cp (starEach (e::es) X.env)) (backToKw cp (keywordEach [] X.env)))) zp_0) (xC:autoParam (0<k) zp_2):
  zo ⟨K,cl,E0⟩ k X (.Try [.Expr (.Call (.Attribute o m ap) (e::es) [] cp) ep] [.ExceptHandler (some (.Name cB np)) (some nn) (rP::lB) hp] [] [] pos) (Bt c m n q fo fr cs (some l) sh):=.mk<|λox =>
 (ND (pl:=pl) (C:=cl c) (ox.fS xC) zH Je hgB hmB (by rw[ox.K];exact hB) hbB (ho ⟨ox.K,ox.fS,ox.room,ox.un⟩) (by rw[ox.K];exact hc) (by rw[ox.K];exact hM) F ((ox.room xC).mono hj) hb (ha ⟨ox.K,ox.fS,ox.room,ox.un⟩) hN hl rX (λa=>hs a ⟨ox.K,λz=>absurd z (zaO 0),λz=>absurd z (zaO 0),ox.un⟩) TH MB (cE pV) (dZ hpl) ht).wk λD σ H h=>by
  obtain⟨w,S,τ,hr,sl,qq⟩:=h;refine⟨w,S,τ,hr,sl,(cG.aF qq).mono λv H1 iu=>?_⟩
  obtain⟨w1,S1,t,dD,bN,r1,_,q1⟩:=iu;split at q1
  ·split at q1
   ·rename_i c' fs ei
    split at q1
    ·rename_i hc
     obtain⟨rfl,hm⟩:=hc;obtain⟨dx,qg,h1,h2⟩:=bN.cell _ _ (fu ei)
     refine⟨_,dx,qg,r1.cO.2,h1,(gm (k:=m) h2).2 (zdz.mp hm),w1,S1,τ,bN,sl.mono dD,(cG.aF q1).mono λvs H2 jP=>?_⟩
     obtain⟨w2,S2,ts,fq,dN,r2,_,q2⟩:=jP;split at q2
     ·rename_i hn
      rw[zay];refine⟨w2,S2,_,dN.swE,.cons (RT.mono fq _ _ r1) r2,hn,?_⟩
      rw[ox.K];refine NH hC ((sl.mono dD).mono fq) q2 λa H' l8=>?_
      obtain⟨w3,S3,en,mh,ql,hn3,ea,q3⟩:=l8;subst ea;refine⟨w3,S3,τ.set l (some (.hd en)),ql,((sl.mono dD).mono (fq.trans mh)).set l (t:=.hd en) (v:=.ref (w3.ρ en)) (by unfold RT;exact⟨hn3,rfl⟩),?_⟩
      have q3:cG ⟨K,cl,E0⟩ w3 (xJ (some l) (sh (τ.set l (some (.hd en))) S3)) D:=q3
      generalize sh (τ.set l (some (.hd en))) S3=z at q3 ⊢
      cases z with
      |nx nJ S4=>exact λw' H' d9 le qw Lr=>q3 w' H' _ le qw (Lr.MU l none)
      |bk nJ S4=>exact λw' H' d9 le qw Lr=>q3 w' H' _ le qw (Lr.MU l none)
      |ct nJ S4=>exact λw' H' d9 le qw Lr=>q3 w' H' _ le qw (Lr.MU l none)
      |rt nJ S4=>exact q3
      |ex nJ S4=>exact q3.elim
      |aG=>exact q3
     ·exact q2.elim
    ·exact q1.elim
   ·exact q1.elim
  ·exact q1.elim
end
structure EC (K:W.Frag) (mg:Str->Option Value) (B:Addr) (x:Str) (C f:Addr) (st:Stmt) (fd:FuncData) (ps:List Str):Prop where
 M:iW K C f (.ref B::lM)
 m:mg x=some (.ref C)
 b:d_ K fd ps []
 lk:∃(oc:Value) (od:Option Addr) (dV kV nO pm:Value) (an:Option Addr) (eU ct:Value) (Dd:Array (Option Value)) (q:Str),
  fd=W.fnOf "__init__" q (eE st) (cW st) (aj st) dV kV nO pm an eU ct/\K.lookup f=some ⟨oc,od,.func fd,Dd⟩/\W.codeIn K eU q=true
structure aby (K:W.Frag) (mg:Str->Option Value) (B:Addr) (cs:List (Str×Addr×Addr)):Prop where
 m:mg "BookError"=some (.ref B)
 EB:VJ K B
 Q2:(W.clsIn K B).isSome=true
 tyB:W.typeIn K (.ref B)=some (.type "type")
 oB:∃nm q N bs hd sn sub ab qU dd j0 j1 j2 j3 j5 oQ,K.lookup B=some (excClassObj nm q B N bs lM hd sn sub ab qU dd j0 j1 j2 j3 j5 oQ)
 sy:Sys K
 all:∀p∈cs,mg p.1=some (.ref p.2.1)/\iW K p.2.1 p.2.2 (.ref B::lM)
section
variable {P:Program}{w:World}{K:W.Frag}{mg:Str->Option Value}{base:Heap}{B:Addr}{cs:List (Str×Addr×Addr)}
theorem EC.ok {st:Stmt}(F:EC K mg B x C f st fd ps)(S:aq N ps (aj st))(len:∀vs H Q E,sp vs H Q E->vs.length=ps.length)
  (sV:∀(q:Str) (eU:Value) (A:Around) (outer:List Env) (s:Shared) (H:Hp) (vs:List V) (Q:VK) (E:XK),gR k (A.deeper (PyProof.Rows.envOfC q (aj st) s.heap.objs.size f eU))->sp vs H Q E ->
   ∃t,wM (iB eB P w K mg base N q (aj st) f eU A outer s H E).Dc (cW st) t/\t {nx:=λ_ H'=>Q .bB H',rt:=Q} (L2.dz N vs) H):aO P w K mg base eB (k+1) f fd ps sp:=by
 obtain⟨oc,od,dV,kV,nO,pm,an,eU,ct,Dd,q,rfl,lk,AE⟩:=F.lk;refine LU lk AE S len λA outer s H vs Q E hr Ld=>?_
 obtain⟨t,h,z⟩:=sV q eU A outer s H vs Q E hr Ld;exact⟨t,h.Dc,z⟩
noncomputable def gE2 (g h:Str):List V->List (Str×V)|[_,y,z]=>[(g,y),(h,z)]|_=>[]
noncomputable def gT2 (g h:Str):List Tr->List (Str×Tr)|[_,y,z]=>[(g,y),(h,z)]|_=>[]
theorem gR2:∀w ts vs,bL w ts vs->ts.length=3->RK w (gT2 g h ts) (gE2 g h vs):=λw ts vs r hl=>by
 match ts,hl with
 |[a,b,c],_ =>
  obtain⟨x,r1,rfl,h1,h2⟩:=r.bw;obtain⟨y,r2,rfl,h3,h4⟩:=h2.bw;obtain⟨z,r3,rfl,h5,h6⟩:=h4.bw;rw[h6.bX];exact .cons h3 (.cons h5 .nil)
theorem Bu (M:iW K C f (.ref B::lM)):∀(Ds:List Addr),(∀D∈Ds,D≠C/\D≠B/\∃f',iW K D f' (.ref B::lM))->W.kitAny K (.ref C) (Ds.map Value.ref)=some false
 |[],_=>rfl
 |D::r,h=>by
  obtain⟨h1,h2,f',M'⟩:=h D zbh;rw[zas];unfold W.kitAny;rw[Mx (g:=f') (bm':=.ref B::lM) M M'.Mz M'.VL (b:=false) (decide_eq_false λz=>z.elim h1 h2)]
  exact Bu M r λD' h'=>h D' (zaD _ h')
noncomputable def abz (K:W.Frag)(B:Addr):Prop:=∃nm q N bs bm hd sn sub ab qU dd j0 j1 j2 j3 j5 oQ,K.lookup B=some (excClassObj nm q B N bs bm hd sn sub ab qU dd j0 j1 j2 j3 j5 oQ)/\bm.contains (.type "BaseException")=true
theorem aby.j9 (E:aby K mg B cs):abz K B:=by
 obtain⟨nm,q,N,bs,hd,sn,sub,ab,qU,dd,j0,j1,j2,j3,j5,oQ,h⟩:=E.oB;exact⟨nm,q,N,bs,lM,hd,sn,sub,ab,qU,dd,j0,j1,j2,j3,j5,oQ,h,by decide +kernel⟩
theorem iW.amT (M:iW K C f (.ref B::lM)):abz K C:=by
 obtain⟨nm,q,N,bs,sn,sub,ab,qU,dd,k0,k1,k2,k3,k5,h⟩:=M.j9;exact⟨nm,q,N,bs,_,true,sn,sub,ab,qU,dd,k0,k1,k2,k3,k5,_,h,by rw[zaV,show lM.contains (.type "BaseException")=true by decide +kernel,zcz]⟩
theorem NJ:(Value.ref C::.ref B::lM).contains (.ref B)=true:=by simp[zaV]
theorem NK:(Value.ref C::.ref B::lM).contains (.ref C)=true:=by simp[zaV]
end
section
variable {K:W.Frag}{cl:Str->Addr}{k j n:Nat}{X:Cx}{f B:Addr}{fd:FuncData}{ps:List Str}{q:Fn}{m cB nn c:Str}{p cp ap np ep hp pos:Pos}{e o:Expr}{es:List Expr}{fr:En->Cs->R (List Tr)}{fo:Em}{lB:List Stmt}{rP:Stmt}{sh:Sm}{l:Nat}{cs:List Str}
theorem xK (hB:abz K B)(hC:pB ⟨K,cl,E0⟩ B cs)(hmB:X.mg cB=some (.ref B))
  (hc:sQ K (cl c)) (hM:c8 K (cl c) m f) (F:aO X.prog X.w X.K X.mg X.base (qe X.prog X.w) j f fd ps (dO K cl n q)) (hj:j<=k) (hb:d_ X.K fd ps []) (ho:TV ⟨K,cl,E0⟩ k X.Dc o fo) (ha:wu ⟨K,cl,E0⟩ k X.Dc (e::es) fr)
  (hN:X.N.Nodup) (hs:∀a,Jm ⟨K,cl,E0⟩ 0 (X.kC a).Dc (rP::lB) sh) (hl:X.N[l]? = some nn) (rX:X.env.scope.names.lookup nn=some .local) (zH:autoParam (X.dm=X.env::X.outer) zp_0) (Je:autoParam (X.env.frame=some X.env.locals) zp_0)
  (hgB:autoParam (Gl X cB) zp_0) (TH:autoParam ((cB == ("__debug__" : Str))=false) zp_1) (MB:autoParam (swapsWith (.Call (.Attribute o m ap) (e::es) [] cp) none ep.line X.env=pure false) zp_0)
  (pV:autoParam (dB e=false) zp_0) (hpl:autoParam (dg es=true) zp_0)
  (ht:autoParam (eval (.Call (.Attribute o m ap) (e::es) [] cp) X.env=(do
   let ov <-eval o X.env
   standAt ap.atName
   let (f,first) <-holding [ov] (getMethod ov m pl)
   callWith cp f first (backTo cp (starEach (e::es) X.env)) (backToKw cp (keywordEach [] X.env)))) zp_0) (xC:autoParam (0<k) zp_2):
  zo ⟨K,cl,E0⟩ k X (.Try [.Expr (.Call (.Attribute o m ap) (e::es) [] cp) ep] [.ExceptHandler (some (.Name cB np)) (some nn) (rP::lB) hp] [] [] pos) (Bt c m n q fo fr cs (some l) sh):=by
 obtain⟨_,_,_,_,_,_,_,_,_,_,_,_,_,_,_,_,_,h,hbB⟩:=hB;exact NI h hbB hC hmB hc hM F hj hb ho ha hN hs hl rX zH Je hgB TH MB pV hpl ht xC
end
theorem TQ:PA X [] (λ_ H Q=>Q (([]:List Addr).map V.ref) H):=qa
theorem NL (hm:X.mg y=some (.ref C))(hr:PA X es (λ_ H Q=>Q (cs.map V.ref) H))(hg:autoParam (Gl X y) zp_0)(hd:autoParam ((y == ("__debug__" : Str))=false) zp_1):
  PA X (.Name y p::es) (λ_ H Q=>Q ((C::cs).map V.ref) H):=g_ (yT (v:=.ref C) hg hm rfl hd) hr (cE rfl)
theorem NO:fj (qe P w) X E0:=λ_ _ _ _ _ _ _ h=>by
 obtain⟨_,_,_,_,_,_,_,_,_,_,_,_,_,z⟩:=h;exact z.elim
noncomputable def kIf (a b:Sm)(τ:En):Bool->Cs->RS:=λx S=>if x=true then a τ S else b τ S
theorem ahW:kIf a b τ true S=a τ S:=rfl
theorem ahX:kIf a b τ false S=b τ S:=rfl
theorem vIf:cP c a b τ S=(c τ S).b_ (kIf a b τ):=rfl
noncomputable def kRt:Tr->Cs->RS:=λt S=>.rt t S
theorem ahY:kRt t S = .rt t S:=rfl
theorem amV:aI f τ S=(f τ S).b_ kRt:=rfl
noncomputable def kNx {α:Type}(τ:En):α -> Cs->RS:=λ_ S=>.nx τ S
theorem ahZ {α:Type}{τ:En}{t:α}{S:Cs}:kNx τ t S = .nx τ S:=rfl
theorem ah0:c_ f τ S=(f τ S).b_ (kNx τ):=rfl
noncomputable def lR (i:Nat)(τ:En):Tr->Cs->RS:=λt S=>.nx (τ.set i (some t)) S
theorem amW:aR i f τ S=(f τ S).b_ (lR i τ):=rfl
noncomputable def kEn:En->Cs->RS:=λτ S=>.nx τ S
theorem ah1:kEn τ S = .nx τ S:=rfl
noncomputable def ah2 (b:Tr->En->Cs->R En)(τ:En):Tr->Cs->RS:=λt S=>(b t τ S).b_ kEn
theorem abA:ah2 b τ t S=(b t τ S).b_ kEn:=rfl
theorem amY:aa4 f b τ S=(f τ S).b_ (ah2 b τ):=rfl
theorem ah3:aH τ S = .nx τ S:=rfl
noncomputable def Ep (cs:List Str)(f:Str)(τ:En)(t:Tr):Tr->Cs->RS:=λu S=>(o8 cs f u t S).b_ (kNx τ)
theorem NP:Ep cs f τ t u S=(o8 cs f u t S).b_ (kNx τ):=rfl
noncomputable def V9 (cs:List Str)(f:Str)(fo:Em)(τ:En):Tr->Cs->RS:=λt S=>(fo τ S).b_ (Ep cs f τ t)
theorem TR:V9 cs f fo τ t S=(fo τ S).b_ (Ep cs f τ t):=rfl
theorem ah4:b9 cs f fo fv τ S=(fv τ S).b_ (V9 cs f fo τ):=rfl
noncomputable def kB:Tr->Cs->R Bool:=λt S=>match t with|.bl b=>.ok b S|_=>.aG
theorem amZ:kB (.bl b) S = .ok b S:=rfl
theorem vB:mB f τ S=(f τ S).aF kB:=rfl
noncomputable def t9 (g:Tr->Tr->Cs->R Tr)(fb:Em)(τ:En):Tr->Cs->R Tr:=λt S=>(fb τ S).aF (g t)
theorem abC:t9 g fb τ t S=(fb τ S).aF (g t):=rfl
theorem am0:ai g fa fb τ S=(fa τ S).aF (t9 g fb τ):=rfl
theorem vUn:mUn g fa τ S=(fa τ S).aF g:=rfl
theorem vC:mC t τ S = .ok t S:=rfl
theorem ah5:bZ g fr τ S=(fr τ S).aF g:=rfl
noncomputable def fC (t:Tr):List Tr->Cs->R (List Tr):=λts S=>.ok (t::ts) S
theorem NQ:fC t ts S = .ok (t::ts) S:=rfl
noncomputable def NR (r:En->Cs->R (List Tr))(τ:En):Tr->Cs->R (List Tr):=λt S=>(r τ S).aF (fC t)
theorem TU:NR r τ t S=(r τ S).aF (fC t):=rfl
theorem ah6:af f r τ S=(f τ S).aF (NR r τ):=rfl
theorem am1:ak τ S = .ok [] S:=rfl
noncomputable def zL:List Tr->Cs->R Tr:=λts S=>if ts.length<=sizeLine then .ok (.tp ts) S else .aG
theorem am2:cZ fr τ S=(fr τ S).aF zL:=rfl
noncomputable def zM:List Tr->Cs->R Tr:=λts S=>if ts.length<=sizeLine then .ok (.ls ts) S else .aG
theorem am3:kI fr τ S=(fr τ S).aF zM:=rfl
noncomputable def V_:List Tr->Cs->R Tr:=λts S=>if ts.length<=sizeLine then .ok (.hd S.length) (S++[.bA ts]) else .aG
theorem ah7:nI fr τ S=(fr τ S).aF V_:=rfl
noncomputable def kFn (n:Nat)(q:Fn):List Tr->Cs->R Tr:=λts S=>if ts.length=n then q ts S else .aG
theorem vFn:e9 n q fr τ S=(fr τ S).aF (kFn n q):=rfl
noncomputable def t_ (n:Nat)(q:Fn)(t:Tr):List Tr->Cs->R Tr:=λts S=>if (t::ts).length=n then q (t::ts) S else .aG
noncomputable def Wa (c m:Str)(n:Nat)(q:Fn)(fr:En->Cs->R (List Tr))(τ:En):Tr->Cs->R Tr:=λt S1=>match t with
 |.hd i=>(match iM S1 i with
  |some (c',fs)=>if c'=c/\(aP m fs).isNone=true then (fr τ S1).aF (t_ n q t) else .aG
  |none=>.aG)
 |_=>.aG
theorem TX:Wa c m n q fr τ (.hd i) S=match iM S i with
  |some (c',fs)=>if c'=c/\(aP m fs).isNone=true then (fr τ S).aF (t_ n q (.hd i)) else .aG
  |none=>.aG:=rfl
theorem ah8:aJ c m n q fo fr τ S=(fo τ S).aF (Wa c m n q fr τ):=rfl
noncomputable def ua (k:Nat):Tr->Cs->R Tr:=λr S=>match r with|.bB=>.ok (.hd k) S|_=>.aG
theorem NS:ua k .bB S = .ok (.hd k) S:=rfl
noncomputable def G1 (c:Str)(n:Nat)(q:Fn):List Tr->Cs->R Tr:=λts S1=>if ts.length+1=n then (q (.hd S1.length::ts) (S1++[.eS c []])).aF (ua S1.length) else .aG
theorem ah9:nK c n q fr τ S=(fr τ S).aF (G1 c n q):=by
 unfold nK G1 ua;rfl
theorem am4:a_ cs f fo τ S=(fo τ S).aF (Jq cs f):=rfl
noncomputable def abD (a b:Em)(τ:En):Bool->Cs->R Tr:=λx S=>if x=true then a τ S else b τ S
theorem abE:abD a b τ true S=a τ S:=rfl
theorem abF:abD a b τ false S=b τ S:=rfl
theorem am5:Di c a b τ S=(c τ S).aF (abD a b τ):=rfl
noncomputable def aia:Tr->Cs->R Tr:=λt S=>match t with|.bl b=>.ok (.bl (!b)) S|_=>.aG
theorem abG:aia (.bl b) S = .ok (.bl (!b)) S:=rfl
theorem am6:Su f τ S=(f τ S).aF aia:=rfl
noncomputable def abH (tb:En->Cs->R Bool)(τ:En):Bool->Cs->R Bool:=λx S=>if x=true then tb τ S else .ok false S
theorem abI:abH tb τ true S=tb τ S:=rfl
theorem abJ:abH tb τ false S = .ok false S:=rfl
theorem am7:lO ta tb τ S=(ta τ S).aF (abH tb τ):=rfl
noncomputable def kOr (tb:En->Cs->R Bool)(τ:En):Bool->Cs->R Bool:=λx S=>if x=true then .ok true S else tb τ S
theorem aib:kOr tb τ true S = .ok true S:=rfl
theorem aic:kOr tb τ false S=tb τ S:=rfl
theorem vOr:Dh ta tb τ S=(ta τ S).aF (kOr tb τ):=rfl
noncomputable def Wb:Bool->Cs->R Bool:=λx S=>.ok (!x) S
theorem TY:Wb x S = .ok (!x) S:=rfl
theorem aid:tO ta τ S=(ta τ S).aF Wb:=rfl
noncomputable def Wc (fb:Em)(τ:En):Tr->Cs->R Tr:=λt S=>amO t (fb τ S) S
theorem TZ:Wc fb τ (.bl b) S=if b=true then fb τ S else .ok (.bl false) S:=by cases b<;>rfl
theorem aie:M4 fa fb τ S=(fa τ S).aF (Wc fb τ):=rfl
noncomputable def aif (fb:Em)(τ:En):Tr->Cs->R Tr:=λt S=>orV t (fb τ S) S
theorem abK:aif fb τ (.bl b) S=if b=true then .ok (.bl true) S else fb τ S:=by cases b<;>rfl
theorem am9:mOr fa fb τ S=(fa τ S).aF (aif fb τ):=rfl
noncomputable def aih (ck:Cs->Tr->Bool)(g:Tr->List Tr->Cs->R Tr)(fr:En->Cs->R (List Tr))(τ:En):Tr->Cs->R Tr:=λt S=>if ck S t=true then (fr τ S).aF (g t) else .aG
theorem abL:aih ck g fr τ t S=if ck S t=true then (fr τ S).aF (g t) else .aG:=rfl
theorem ana:lQ ck g fo fr τ S=(fo τ S).aF (aih ck g fr τ):=rfl
noncomputable def aii (b:Tr->En->Cs->R En)(f:Sm)(τ:En):zz->Cs->RS:=λs S=>gS s.gM b f s.items τ S
theorem abM:aii b f τ s S=gS s.gM b f s.items τ S:=rfl
theorem anb:wz fi b f τ S=(fi τ S).b_ (aii b f τ):=rfl
theorem vIt:tY g f τ S=(f τ S).aF g:=rfl
theorem aij:Bp cs g fo τ S=(fo τ S).aF (Bo cs g):=rfl
theorem anc:Br rD fo τ S=(fo τ S).aF (Jx rD):=rfl
noncomputable def NT (n:Nat)(q:Fn)(cs:List Str)(l:Option Nat)(sh:Sm)(τ:En)(t:Tr):List Tr->Cs->RS:=λts S=>if (t::ts).length=n then kO cs l sh τ (q (t::ts) S) else .aG
theorem T4:NT n q cs l sh τ t ts S=if (t::ts).length=n then kO cs l sh τ (q (t::ts) S) else .aG:=rfl
noncomputable def aik (c m:Str)(n:Nat)(q:Fn)(fr:En->Cs->R (List Tr))(cs:List Str)(l:Option Nat)(sh:Sm)(τ:En):Tr->Cs->RS:=λt S1=>match t with
 |.hd i=>(match iM S1 i with
  |some (c',fs)=>if c'=c/\(aP m fs).isNone=true then (fr τ S1).b_ (NT n q cs l sh τ t) else .aG
  |none=>.aG)
 |_=>.aG
theorem abN:aik c m n q fr cs l sh τ (.hd i) S=match iM S i with
  |some (c',fs)=>if c'=c/\(aP m fs).isNone=true then (fr τ S).b_ (NT n q cs l sh τ (.hd i)) else .aG
  |none=>.aG:=rfl
theorem ane:Bt c m n q fo fr cs l sh τ S=(fo τ S).b_ (aik c m n q fr cs l sh τ):=rfl
theorem Es:kO cs l sh τ (.ok t S) = .nx τ S:=rfl
theorem Jz:kO cs l sh τ (.ex e S)=match t8 S e with|some (c,_)=>if c∈cs then xJ l (sh (zJ l (some (.hd e)) τ) S) else .aG|none=>.aG:=rfl
theorem T8:xJ l (.nx τ S) = .nx (zJ l none τ) S:=rfl
theorem T9:xJ l (.rt t S) = .rt t S:=rfl
noncomputable def RS.T_ (r:RS):R Tr:=match r with|.nx _ S'=>.ok .bB S' | .rt t S'=>.ok t S' | .ex n S'=>.ex n S' | _=>.aG
theorem Ua (τ:En)(S:Cs):(RS.nx τ S).T_ = .ok .bB S:=rfl
theorem Ub (t:Nat)(S:Cs):(RS.ex t S).T_ = .ex t S:=rfl
theorem abO (t:Nat)(S:Cs)(g:Sm):(RS.ex t S).seq g = .ex t S:=rfl
noncomputable def NU (c:Str)(n:Nat)(gT:List Tr->List (Str×Tr))(G0:List Tr):List Tr->Cs->RS:=λts S1=>if ts.length+G0.length=n/\n<=1000 then .ex S1.length (S1++[.tL c (gT (ts++G0))]) else .aG
theorem NV:NU c n gT G0 ts S=if ts.length+G0.length=n/\n<=1000 then .ex S.length (S++[.tL c (gT (ts++G0))]) else .aG:=rfl
theorem abP:zF c n gT G0 fr τ S=(fr τ S).b_ (NU c n gT G0):=rfl
theorem anf (i j:Nat)(fr:En->Cs->R (List Tr))(τ:En)(S:Cs):amK i j fr τ S=((fr τ S).b_ λts S1=>match ts with|[t,u]=>.nx ((τ.set i (some t)).set j (some u)) S1|_=>.aG):=rfl
theorem Uc (cs:List Str)(f:Str)(g:Int->Int->Int)(fo fv:Em)(τ:En)(S:Cs):xy cs f g fo fv τ S=((fo τ S).b_ λt S1=>match t with
 |.hd n=>(match iM S1 n with
  |some (c,fs)=>if c∈cs then (match aP f fs with
   |some (.int i)=>(fv τ S1).b_ λy S2=>(match y with
    |.int j=>(match iM S2 n with|some (c',Lc)=>if c'=c/\Lc.length<1000 then .nx τ (S2.set n (.eS c (bY f (.int (g i j)) Lc))) else .aG|none=>.aG)
    |_=>.aG)
   |_=>.aG) else .aG
  |none=>.aG)
 |_=>.aG):=rfl
theorem NW (g g':Tr->Tr->Cs->R Tr)(fa fb fc:Em)(τ:En)(S:Cs):l_ g g' fa fb fc τ S=((fa τ S).aF λt1 S1=>(fb τ S1).aF λt2 S2=>(g t1 t2 S2).aF λz S3=>match z with
 |.bl true=>(fc τ S3).aF λt3 S4=>g' t2 t3 S4
 |.bl false=>.ok (.bl false) S3
 |_=>.aG):=rfl
theorem Ud (fo fe ff:Em)(τ:En)(S:Cs):GU fo fe ff τ S=((fo τ S).aF λt S1=>if ckD S1 t=true then (fe τ S1).aF λj S2=>(ff τ S2).aF λu S3=>(match QY S3 t,jr j with|some m,some q=>.ok ((aP q m).getD u) S3|_,_=>.aG) else .aG):=rfl
theorem NX  (u0:En) (S:Cs):Ei  u0 S=(.ok (.hd S.length) (S++[.jD []])):=rfl
theorem Ue (ps:List (Em×Em))(τ:En)(S:Cs):Nn ps τ S=((Js ps τ (S++[.jD []])).aF λl S1=>match tT S1 S.length with
 |some []=>if l.length<=15 then .ok (.hd S.length) (S1.set S.length (.jD (fL [] l))) else .aG
 |_=>.aG):=rfl
theorem ail (g:Tr->Option Int->Option Int->Cs->R Tr)(fa:Em)(fl fh:En->Cs->R (Option Int))(τ:En)(S:Cs):V0 g fa fl fh τ S=((fa τ S).aF λt S1=>(fl τ S1).aF λlo S2=>(fh τ S2).aF λhi S3=>g t lo hi S3):=rfl
theorem Ug (f:Em)(τ:En)(S:Cs):oZ f τ S=((f τ S).aF λt S1=>match t with|.int i=>.ok (some i) S1|_=>.aG):=rfl
theorem JA  (u0:En) (S:Cs):o4  u0 S=(.ok none S):=rfl
theorem Uh (fo fi fv:Em)(τ:En)(S:Cs):GO fo fi fv τ S=((fv τ S).b_ λt S1=>(fo τ S1).b_ λu S2=>(fi τ S2).b_ λj S3=>(o7 u j t S3).b_ λ_ S4=>.nx τ S4):=rfl
theorem Ui (n:Nat)(r:Bs)(t:Tr)(τ:En)(S:Cs):mD n r t τ S=(match VX t with|some l=>if l.length=n then r l τ S else .aG|none=>.aG):=rfl
theorem Uj (b:Tr->En->Cs->R En)(r:Bs)(ts:List Tr)(τ:En)(S:Cs):gE b r ts τ S=(match ts with|t::l=>(b t τ S).aF λeX S1=>r l eX S1|[]=>.aG):=rfl
theorem abQ  (ts:List Tr) (τ:En) (S:Cs):tX  ts τ S=(match ts with|[]=>.ok τ S|_=>.aG):=rfl
theorem abR (fo fi:Em)(t:Tr)(τ:En)(S:Cs):aa2 fo fi t τ S=((fo τ S).aF λu S1=>(fi τ S1).aF λj S2=>match u,j with
 |.hd n,.int i=>(match cF S2 n with|some l=>(match Av l.length i with|some m=>.ok τ (S2.set n (.bA (l.set m t)))|none=>.aG)|none=>.aG)
 |_,_=>.aG):=rfl
theorem Uk (fr:En->Cs->R (List Tr))(τ:En)(S:Cs):o9 fr τ S=((fr τ S).aF λts S1=>match ts with
 |[.int j]=>wo (-(2 ^ 62)<=j/\j<2 ^ 62) (.ok ⟨qx 0 j.toNat,λ_=>True⟩ S1) .aG
 |_=>.aG):=rfl
theorem aim (st:Nat)(fr:En->Cs->R (List Tr))(τ:En)(S:Cs):mEn st fr τ S=((fr τ S).aF λts S1=>match ts with
 |[t]=>(iL t S1).aF λs S2=>.ok ⟨q8 st s.items,s.gM⟩ S2
 |_=>.aG):=rfl
theorem ang (g:Int->Int->Tr)(t1:Tr)(t2:Tr)(S:Cs):gI g t1 t2 S=(match t1,t2 with
 |.int i,.int j=>.ok (g i j) S
 |_,_=>.aG):=rfl
theorem ain (c:Int->Int->Bool)(g:Int->Int->Tr)(t1:Tr)(t2:Tr)(S:Cs):Jo c g t1 t2 S=(match t1,t2 with
 |.int i,.int j=>if c i j=true then .ok (g i j) S else .aG
 |_,_=>.aG):=rfl
theorem abS  (t1:Tr) (t2:Tr) (S:Cs):cT  t1 t2 S=(match t1,t2 with
 |.int i,.int j=>.ok (.int (i+j)) S
 |.str a,.str b=>if a.length+b.length<=sizeLine then .ok (.str (a++b)) S else .aG
 |.tp a,.tp b=>if a.isEmpty=false/\a.length+b.length<=sizeLine then .ok (.tp (a++b)) S else .aG
 |t1,t2=>match D8 S t1,D8 S t2 with
  |some a,some b=>if a.length+b.length<=sizeLine then .ok (.ls (a++b)) S else .aG
  |_,_=>.aG):=rfl
theorem abT  (t1:Tr) (t2:Tr) (S:Cs):qo  t1 t2 S=(match t1,t2 with
 |.int i,.int j=>wo ((-(2 ^ 64)<i/\i<2 ^ 64)\/(-(2 ^ 64)<j/\j<2 ^ 64)) (.ok (.int (i * j)) S) .aG
 |.str a,.int n=>if 0<=n/\n<1000000/\a.length * n.toNat<=1000000 then .ok (.str (tw a n.toNat)) S else .aG
 |_,_=>.aG):=rfl
theorem abU (neg:Bool)(a b:Str)(S:Cs):c7 neg (.str a) (.str b) S = .ok (.bl (if neg=true then !decide (a=b) else decide (a=b))) S:=rfl
theorem abV (neg:Bool)(a b:Int)(S:Cs):c7 neg (.int a) (.int b) S = .ok (.bl (if neg=true then !decide (a=b) else decide (a=b))) S:=rfl
theorem abW (neg:Bool)(a:Int)(S:Cs):c7 neg (.int a) .bB S = .ok (.bl (if neg=true then !false else false)) S:=rfl
theorem abX (neg:Bool)(t1:Tr)(t2:Tr)(S:Cs):jk neg t1 t2 S=(match t2 with
 |.bB=>.ok (.bl (if neg then !isN t1 else isN t1)) S
 |_=>.aG):=rfl
theorem aio (neg:Bool)(t1:Tr)(t2:Tr)(S:Cs):v9 neg t1 t2 S=(match t2 with
 |.str z=>(match t1 with|.str y=>.ok (.bl (if neg then !(!(Builtin.Str.occurrences z y 0 z.length 1).isEmpty) else !(Builtin.Str.occurrences z y 0 z.length 1).isEmpty)) S|_=>.aG)
 |t2=>match xw S t2 with
  |some l=>if fP t1=true/\l.all fP=true then .ok (.bl (if neg then !GH t1 l else GH t1 l)) S else .aG
  |none=>.aG):=rfl
theorem abY (neg:Bool)(t1:Tr)(t2:Tr)(S:Cs):Bf neg t1 t2 S=(match QY S t2,jr t1 with
 |some m,some j=>.ok (.bl (if neg then !(aP j m).isSome else (aP j m).isSome)) S
 |_,_=>.aG):=rfl
theorem NY  (t1:Tr) (t2:Tr) (S:Cs):bJ  t1 t2 S=(match t1,t2 with
 |.str z,.int i=>if z.length<=sizeLine then (match iE z.cps.toList i with|some c=>.ok (.str ⟨#[c]⟩) S|none=>.aG) else .aG
 |t1,.int i=>(match xw S t1 with
  |some l=>(match iE l i with|some t=>.ok t S|none=>.aG)
  |none=>.aG)
 |_,_=>.aG):=rfl
theorem abZ  (ts:List Tr) (S:Cs):gx  ts S=(match ts with
 |[.str z]=>if z.length<=sizeLine then .ok (.int z.length) S else .aG
 |[t]=>(match xw S t with|some l=>.ok (.int l.length) S|none=>match QY S t with|some m=>.ok (.int m.length) S|none=>.aG)
 |_=>.aG):=rfl
theorem Ul  (ts:List Tr) (S:Cs):tW  ts S=(match ts with
 |[t]=>(match xw S t with|some l=>.ok (.ls l) S|none=>.aG)
 |_=>.aG):=rfl
theorem ab0  (t:Tr) (ts:List Tr) (S:Cs):o6  t ts S=(match t,ts with
 |.hd n,[u]=>(match cF S n with|some l=>if l.length<sizeLine then .ok .bB (S.set n (.bA (l++[u]))) else .aG|none=>.aG)
 |_,_=>.aG):=rfl
theorem ab1  (t:Tr) (ts:List Tr) (S:Cs):SM  t ts S=(match t,ts with
 |.hd n,[u]=>(match cF S n,D8 S u with|some l,some m=>if l.length+m.length<=sizeLine then .ok .bB (S.set n (.bA (l++m))) else .aG|_,_=>.aG)
 |_,_=>.aG):=rfl
theorem Um  (u0:En) (S:Cs):iN  u0 S=(.ok true S):=rfl
theorem Uo (fi:En->Cs->R zz)(fr:List Nat)(n:Nat)(b:Tr->En->Cs->R En)(c:En->Cs->R Bool)(f:Em)(τ:En)(S:Cs):fQ fi fr n b c f τ S=((fi τ S).aF λs S1=>(cX s.gM b c f s.items (iG fr n τ) [] S1).aF λl S2=>.ok (.ls l) S2):=rfl
theorem NZ (fi:En->Cs->R zz)(fr:List Nat)(n:Nat)(b:Tr->En->Cs->R En)(c:En->Cs->R Bool)(f:Em)(τ:En)(S:Cs):zA fi fr n b c f τ S=((fi τ S).aF λs S1=>(cX s.gM b c f s.items (iG fr n τ) [] S1).aF λl S2=>.ok (.hd S2.length) (S2++[.bA l])):=rfl
theorem anh  (t:Tr) (S:Cs):iL  t S=(match t with
 |.ls l=>.ok ⟨l,λ_=>True⟩ S
 |.kl l=>.ok ⟨l,λ_=>True⟩ S
 |.hd n=>(match cF S n with|some l=>.ok ⟨l,λS'=>cF S' n=some l⟩ S|none=>.aG)
 |_=>.aG):=rfl
theorem ab2  (t:Tr) (S:Cs):D_  t S=(match t with|.int i=>.ok (.int (-i)) S|_=>.aG):=rfl
section
variable {prog:Program}{w:World}{A:Around}{E:Value->Shared->Prop}{s:Shared}{Z TI TO i1 i2:Addr}{fp1 fp2:List Addr}{n1 n2 k:Nat}{Y1 Y2:Nat->Value->Prop}{S1 S2:Nat->Heap->Prop}{p q:Value}
end
section
variable {G:Gx}{k:Nat}{X:Cx}{a b c o e tg:Expr}{es:List Expr}{fa fb f:Em}{fr:En->Cs->R (List Tr)}{pos p:Pos}
end
theorem zN {α:Type}(x:α):(some (some x)).join=some x:=rfl
theorem iY {gM:Cs->Prop}{b:Tr->En->Cs->R En}{f:Sm}{l:List Tr}{τ:En}{S:Cs}{Z:RS}(e:gS gM b f l τ S=Z)(I:Nat->En->Cs->Prop)(hc:∀i τ S,I i τ S->gM S)(h0:I 0 τ S)(hs:∀i t τ S,l[i]? = some t->I i τ S->∃nJ S2,((b t τ S).b_ f = .nx nJ S2\/(b t τ S).b_ f = .ct nJ S2)/\I (i+1) nJ S2):∃wA S',I l.length wA S'/\Z = .nx wA S':=by
 have key:∀(l:List Tr) (n:Nat) (τ:En) (S:Cs),(∀i t τ S,l[i]? = some t->I (n+i) τ S->∃nJ S2,((b t τ S).b_ f = .nx nJ S2\/(b t τ S).b_ f = .ct nJ S2)/\I (n+i+1) nJ S2)->I n τ S->∃wA S',I (n+l.length) wA S'/\gS gM b f l τ S = .nx wA S':=by
  intro l;induction l with
  |nil=>intro n τ S h h0;exact⟨τ,S,h0,by unfold gS;rw[if_pos (hc n τ S h0)]⟩
  |cons t r ih =>
   intro n τ S h h0;obtain⟨nJ,S2,e,h2⟩:=h 0 t τ S rfl h0;obtain⟨τ3,S3,h3,e3⟩:=ih (n+1) nJ S2 (λi u τ S hu hI=>by
    have:=h (i+1) u τ S (by simpa using hu) (by rw[show n+(i+1)=n+1+i by omega];exact hI)
    rw[show n+(i+1)+1=n+1+i+1 by omega] at this
    exact this) h2
   refine⟨τ3,S3,by rw[zar,show n+(r.length+1)=n+1+r.length by omega];exact h3,?_⟩
   conv=>lhs;unfold gS
   rw[if_pos (hc n τ S h0)];cases hb:b t τ S with
   |ok eX S1 =>
    rw[hb,R.gB] at e;rw[R.gB];rcases e with e|e
    ·rw[e,V3,e3]
    ·rw[e,ahP,e3]
   |ex n S1=>rw[hb,R.GD] at e;rcases e with e|e<;>cases e
   |aG=>rw[hb,R.A9] at e;rcases e with e|e<;>cases e
 obtain⟨wA,S',h,e2⟩:=key l 0 τ S (λi t τ S ht hI=>by rw[zcf] at hI ⊢;exact hs i t τ S ht hI) h0
 rw[zcf] at h;exact⟨wA,S',h,by rw[<-e,e2]⟩
theorem xM {gM:Cs->Prop}{b:Tr->En->Cs->R En}{f:Em}(I:Nat->En->List Tr->Cs->Prop)(hc:∀i τ cD S,I i τ cD S->gM S):∀(l:List Tr) (n:Nat) (τ:En) (cD:List Tr) (S:Cs),
  (∀i t τ cD S,l[i]? = some t->I (n+i) τ cD S->∃eX u S3,b t τ S = .ok eX S/\f eX S = .ok u S3/\I (n+i+1) eX (cD++[u]) S3)->cD.length+l.length<=1000000->I n τ cD S->∃wA Et S',I (n+l.length) wA Et S'/\cX gM b iN f l τ cD S = .ok Et S'
 |[],n,τ,cD,S,h,hl,h0=>⟨τ,cD,S,h0,kN (hc n τ cD S h0)⟩
 |t::r,n,τ,cD,S,h,hl,h0=>by
  obtain⟨eX,u,S3,e1,e2,h2⟩:=h 0 t τ cD S rfl h0;have Gq:cD.length+1+r.length<=1000000:=by simp at hl;omega
  obtain⟨τ3,anj,S4,h3,e3⟩:=xM I hc r (n+1) eX (cD++[u]) S3 (λi u τ cD S hu hI=>by
   have:=h (i+1) u τ cD S (by simpa using hu) (by rw[show n+(i+1)=n+1+i by omega];exact hI)
   rw[show n+(i+1)+1=n+1+i+1 by omega] at this
   exact this) (by simp;omega) h2
  refine⟨τ3,anj,S4,by rw[zar,show n+(r.length+1)=n+1+r.length by omega];exact h3,?_⟩
  rw[jv (hc n τ cD S h0),e1,h_,R.eV];show (jj (R.ok true S)).aF _=_
  rw[h_,R.eV,if_pos rfl,e2,h_,R.eV,if_pos (zak (by omega:cD.length<1000000) (by decide)),e3]
theorem xN {gM:Cs->Prop}{b:Tr->En->Cs->R En}{f:Em}{l:List Tr}{τ:En}{S:Cs}{Z:R (List Tr)}(e:cX gM b iN f l τ [] S=Z)(I:Nat->En->List Tr->Cs->Prop)(hc:∀i τ cD S,I i τ cD S->gM S)(h0:I 0 τ [] S)(hl:l.length<=1000000)
  (hs:∀i t τ cD S,l[i]? = some t->I i τ cD S->∃eX u S3,b t τ S = .ok eX S/\f eX S = .ok u S3/\I (i+1) eX (cD++[u]) S3):∃wA Et S',I l.length wA Et S'/\Z = .ok Et S':=by
 obtain⟨wA,Et,S',h,e2⟩:=xM I hc l 0 τ [] S (λi t τ cD S ht hI=>by rw[zcf] at hI ⊢;exact hs i t τ cD S ht hI) (by simpa using hl) h0
 rw[zcf] at h;exact⟨wA,Et,S',h,by rw[<-e,e2]⟩
noncomputable def ank (S S':Cs):Prop:=∃J,S'=S++J
end L2
namespace L2
open PySem PySem.Spec PyProof.Rows
section
variable {K:W.Frag}{cl:Str->Addr}{k j0 n:Nat}{X:Cx}{g B:Addr}{fd:FuncData}{ps:List Str}{q:Fn}{x y nn fn cB:Str}{xp p cp ap np yp np2 bp hp pos:Pos}{e:Expr}{es:List Expr}{fr:En->Cs->R (List Tr)}{i j l:Nat}{cs:List Str}
 {VN q':Str} {N':Addr} {VO:List Value} {qV:Bool} {VP:List Str} {A4:List Value} {VQ:Bool} {A5:Option Bool} {AM:Option Addr} {j1 j2 j3 j4 j5:Option Value} {l9:String}
end
noncomputable def aip (K:W.Frag)(neg:Bool):R2:=λx y H Q=>∃a b xs ys,x = .ref a/\y = .ref b/\jn K H a xs/\jn K H b ys/\xs.length≠ys.length/\Q (.bl neg) H
theorem N1 (hu:X.A.units<cLine):kg X (compareOp .Eq) (aip X.K false):=by
 intro ah s σ H x y v u Q I rx ry h;obtain⟨a,b,xs,ys,rfl,rfl,hp,hq,hn,k⟩:=h;cases rx;cases ry;obtain⟨aX,r1,p1,_⟩:=I.list hp;obtain⟨iC,r2,p2,_⟩:=I.list hq;have l1:=r1.length;have l2:=r2.length;exact SeqAt.eq_list_lengthsAt p1.isList p2.isList (by simp;omega) hu ⟨.bl false,H,I,rfl,k⟩
theorem N2 (hu:X.A.units<cLine):kg X (compareOp .NotEq) (aip X.K true):=by
 intro ah s σ H x y v u Q I rx ry h;obtain⟨a,b,xs,ys,rfl,rfl,hp,hq,hn,k⟩:=h;cases rx;cases ry;obtain⟨aX,r1,p1,_⟩:=I.list hp;obtain⟨iC,r2,p2,_⟩:=I.list hq;have l1:=r1.length;have l2:=r2.length;have h:=SeqAt.RcNeAt.lists_lengths p1.isList p2.isList (by simp;omega) (show X.A.units<cLine from hu)
 exact h X.prog X.w _ _ ⟨.bl true,H,I,rfl,k⟩
noncomputable def Bv (neg:Bool):Tr->Tr->Cs->R Tr:=λt1 t2 S=>match GF S t1,GF S t2 with
 |some l,some m=>if l.length=m.length then c7 neg t1 t2 S else .ok (.bl neg) S
 |_,_=>.aG
theorem ab3 {neg:Bool}:nR G k (compareOp (if neg then .NotEq else .Eq)) (Bv neg):=.mk<|λX o ah s σ H x y v u Q I rx ry dI=>by
 obtain⟨w,S,t1,t2,hr,r1,r2,q⟩:=dI;unfold Bv at q;split at q
 ·rename_i l m e1 e2
  split at q
  ·exact (M_ (G:=G) (k:=k) (neg:=neg)).kh X o ah s σ H x y v u Q I rx ry ⟨w,S,t1,t2,hr,r1,r2,q⟩
  ·rename_i hn
   obtain⟨a,xs,ea,sx,rx'⟩:=mj hr r1 e1;obtain⟨b,ys,eb,sy,ry'⟩:=mj hr r2 e2;rw[<-o.K] at sx sy;have q:=q w H _ (.refl w) hr gC
   have hl:xs.length≠ys.length:=by rw[rx'.len,ry'.len];exact hn
   cases neg with
   |true=>exact N2 (zcC (zcn _ _) o.hu) ah s σ H x y v u Q I rx ry ⟨a,b,xs,ys,ea,eb,sx,sy,hl,q⟩
   |false=>exact N1 (zcC (zcn _ _) o.hu) ah s σ H x y v u Q I rx ry ⟨a,b,xs,ys,ea,eb,sx,sy,hl,q⟩
 ·exact q.elim
theorem aiq:nR G k (compareOp .NotEq) (Bv true):=ab3 (neg:=true)
section
variable {G:Gx}{k:Nat}{X:Cx}{a b c o e tg:Expr}{es:List Expr}{fa fb f:Em}{fr:En->Cs->R (List Tr)}{pos p:Pos}
end
end L2
namespace L2
open PySem PySem.Spec PyProof.Rows
section
variable {prog:Program}{w:World}{A:Around}{R:Result->Shared->Prop}{I:Addr}{fp wr:List Addr}{G:Array GenState->Array GenState->Prop}{n:Nat}{P:Nat->Value->Prop}{St:Nat->Shared->Prop}
end
section
variable {prog:Program}{w:World}{A:Around}{E:Value->Shared->Prop}{s:Shared}
end
end L2
namespace L2
open PySem PySem.Spec PyProof.Rows
end L2
namespace L2
open PySem PySem.Spec PyProof.Rows
section
variable {X:Cx}{k:Nat}{g B:Addr}{fd:FuncData}{ps:List Str}{sp:Sp}{e:Expr}{es:List Expr}{t:TA}{n fn cB:Str}{l:Nat}{p cp np ep hp pos:Pos}{lB:List Stmt}{rP:Stmt}{ts:TS}
 {VN q':Str} {N':Addr} {VO bm':List Value} {qV:Bool} {VP:List Str} {A4:List Value} {VQ:Bool} {A5:Option Bool} {AM:Option Addr} {j0 j1 j2 j3 j5:Option Value} {l9:String}
end
section
variable {K:W.Frag}{cl:Str->Addr}{k j n:Nat}{X:Cx}{g B:Addr}{fd:FuncData}{ps:List Str}{q:Fn}{cB nn fn:Str}{p cp np ep hp pos:Pos}{e:Expr}{es:List Expr}{fr:En->Cs->R (List Tr)}{lB:List Stmt}{rP:Stmt}{sh:Sm}{l:Nat}{cs:List Str}
end
noncomputable def keysOf:List Tr->Option (List dW)
 |[]=>some []
 |t::r=>(match jr t,keysOf r with|some k,some l=>some (k::l)|_,_=>none)
noncomputable def N3:Tr->Option (List dW)|.tp l=>keysOf l|_=>none
noncomputable def N4 (S:Cs)(t1 t2:Tr):Option (Option Tr):=match t1 with
 |.hd n=>(match S[n]? with
  |some (.jD l)=>(jr t2).map λq=>aP q l
  |some (.wm l)=>(jr t2).map λq=>aP q l
  |some (.QX l)=>(N3 t2).map λq=>aP q l
  |some (.D5 l)=>(N3 t2).map λq=>aP q l
  |_=>none)
 |_=>none
theorem xO:∀{l:List Tr} {q:List dW} {xs:List V},keysOf l=some q->bL w l xs->xs=q.map kV
 |[],q,xs,e,r=>by cases e;rw[r.bX];rfl
 |t::l,q,xs,e,r=>by
  obtain⟨x,r',rfl,h1,h2⟩:=r.bw;unfold keysOf at e;split at e
  ·rename_i k1 l1 e1 e2
   cases e;rw[iy e1 h1,xO e2 h2];rfl
  ·cases e
theorem Bw (e:N3 t=some q)(r:RT w t v):∃p,v = .ref p/\w.F p=some (.gQ (q.map kV)):=by
 cases t with
 |tp l =>
  unfold RT at r;obtain⟨p,xs,rfl,h,r⟩:=r;rw[xO e r] at h;exact⟨p,rfl,h⟩
 |_=>cases e
noncomputable def We (w:Wd)(ot:Option Tr)(ov:Option V):Prop:=match ot with|some t=>∃v,ov=some v/\RT w t v|none=>ov=none
theorem mZ {κ:Type}[DecidableEq κ]{l:List (κ × Tr)}{m:List (κ × V)}(r:RK w l m)(j:κ):We w (aP j l) (lJ m j):=by
 obtain⟨h1,h2⟩:=oX (k:=j) r
 cases e:aP j l with
 |none=>exact h2 e
 |some t=>exact h1 t e
theorem Up {S:Cs}{H:Hp}(hr:HR G w S H)(r1:RT w t1 x)(r2:RT w t2 y)(e:N4 S t1 t2=some ot):∃p ov,x = .ref p/\nP H p y ov/\We w ot ov:=by
 unfold N4 at e;split at e
 ·rename_i n
  have hx:=r1.cO.2;split at e
  ·rename_i l en
   rw[zbJ] at e;obtain⟨q,ek,rfl⟩:=e;obtain⟨aQ,h1,h2⟩:=hr.cell _ _ en;exact⟨_,_,hx,.inl ⟨aQ,q,.inl h1,iy ek r2,rfl⟩,mZ h2 q⟩
  ·rename_i l en
   rw[zbJ] at e;obtain⟨q,ek,rfl⟩:=e;obtain⟨ob,aQ,h1,h2⟩:=hr.cell _ _ en;exact⟨_,_,hx,.inl ⟨aQ,q,.inr ⟨ob,hr.sub _ _ h1⟩,iy ek r2,rfl⟩,mZ h2 q⟩
  ·rename_i l en
   rw[zbJ] at e;obtain⟨q,ek,rfl⟩:=e;obtain⟨aQ,h1,h2⟩:=hr.cell _ _ en;obtain⟨p,ey,hp⟩:=Bw ek r2;exact⟨_,_,hx,.inr ⟨aQ,q,p,.inl h1,ey,hr.sub _ _ hp,rfl⟩,mZ h2 q⟩
  ·rename_i l en
   rw[zbJ] at e;obtain⟨q,ek,rfl⟩:=e;obtain⟨ob,aQ,h1,h2⟩:=hr.cell _ _ en;obtain⟨p,ey,hp⟩:=Bw ek r2;exact⟨_,_,hx,.inr ⟨aQ,q,p,.inr ⟨ob,hr.sub _ _ h1⟩,ey,hr.sub _ _ hp,rfl⟩,mZ h2 q⟩
  ·cases e
 ·cases e
noncomputable def N5:Tr->Tr->Cs->R Tr:=λt1 t2 S=>match N4 S t1 t2 with|some (some t)=>.ok t S|_=>.aG
theorem ab4 (ha:TV G k X a fa)(hb:TV G k X b fb)(hs:autoParam (ZP b) zp_8):TV G k X (.Subscript a b pos) (ai N5 fa fb):=.mk<|λo=>(Rz o.hu1 (ha o) (hb o) hs).wk λσ H Q h=>by
 obtain⟨w,S,τ,hr,sl,q⟩:=qi h;refine⟨w,S,τ,hr,sl,q.mono λx H1 ⟨w1,S1,eX,bN,DZ,q1⟩=>⟨w1,S1,eX,bN,DZ,q1.mono λy H2 iu=>?_⟩⟩
 obtain⟨w2,S2,t1,t2,dN,r1,r2,q2⟩:=iu;unfold N5 at q2;split at q2
 ·rename_i t et
  obtain⟨p,ov,ex,g,v,rfl,rv⟩:=Up dN r1 r2 et;exact⟨p,v,ex,g,q2 w2 H2 v (.refl _) dN rv⟩
 ·exact q2.elim
theorem HR.N6 (h:HR G w S H){c c':Ce}(e:S[i]? = some c)(hc:c.fz=false)(F6:c'.fz=true)(ok:∀w':Wd,w.le w'->w'.F (w.ρ i)=some o'->bI G w' (bD H (w.ρ i) o') (w.ρ i) c'):
  HR G {w with F:=bD w.F (w.ρ i) o' } (S.set i c') (bD H (w.ρ i) o')/\w.le {w with F:=bD w.F (w.ρ i) o' }:=by
 have hi:=(zae.mp e).1
 have li:eO S i:=⟨c,e,hc⟩
 have hF:w.F (w.ρ i)=none:=by rw[h.F];unfold Fz;rw[if_pos (.inl ⟨i,li,rfl⟩)]
 have le:w.le {w with F:=bD w.F (w.ρ i) o' }:=⟨rfl,zah _,λ_ _=>rfl,λb u eb=>kD hF eb,rfl⟩
 have lv:∀j,eO (S.set i c') j->eO S j/\j≠i:=λj jT=>by
  obtain⟨d,ed,hd⟩:=jT;by_cases hj:i=j
  ·subst hj
   rw[zaC hi] at ed;cases ed;rw[F6] at hd;cases hd
  ·rw[zaz hj] at ed
   exact⟨⟨d,ed,hd⟩,λz=>hj z.symm⟩
 have lv2:∀j,eO S j->j≠i->eO (S.set i c') j:=λj ⟨d,ed,hd⟩ hj=>⟨d,by rw[zaz (λz=>hj z.symm)];exact ed,hd⟩
 refine⟨⟨h.K,by simp[h.n],?_,λj d ej=>?_,λa b la lb=>h.inj a b (lv a la).1 (lv b lb).1,zm h.hid (h.jS i li),λj lj=>h.jS j (lv j lj).1,h.hl⟩,le⟩
 ·show bD w.F (w.ρ i) o'=Fz w.ρ w.hid (S.set i c') (bD H (w.ρ i) o')
  funext b
  unfold Fz;by_cases hb:b=w.ρ i
  ·subst hb
   rw[av,if_neg,av];rintro (⟨j,lj,z⟩|z)
   ·exact (lv j lj).2 (h.inj j i (lv j lj).1 li z)
   ·exact z (h.jS i li)
  ·rw[au hb,au hb,h.F]
   unfold Fz;have VW:(∃j,eO (S.set i c') j/\w.ρ j=b)↔∃j,eO S j/\w.ρ j=b:=⟨λoV=>by obtain⟨j,lj,z⟩:=oV;exact⟨j,(lv j lj).1,z⟩,λkG=>by obtain⟨j,lj,z⟩:=kG;exact⟨j,lv2 j lj (λq=>hb (by rw[<-z,q])),z⟩⟩
   by_cases hx:(∃j,eO S j/\w.ρ j=b)\/w.hid b≠none
   ·rw[if_pos hx,if_pos (hx.imp VW.mpr λz=>z)]
   ·rw[if_neg hx,if_neg (λz=>hx (z.imp VW.mp λz=>z))]
 ·by_cases hj:i=j
  ·subst hj
   rw[zaC hi] at ej;cases ej;exact ok _ le av
  ·rw[zaz hj] at ej
   cases hd:d.fz with
   |true=>exact bI.MQ le hd (h.cell j d ej)
   |false =>
    refine (h.cell j d ej).mono le λu eu=>?_
    rw[au λz=>hj (h.inj i j li ⟨d,ej,hd⟩ z.symm)]
    exact eu
noncomputable def N7:dW->Tr|.inl i=>.int i|.inr x=>.str x
noncomputable def iD:Tr->Cs->R zz:=λt S=>match t with
 |.hd n=>(match S[n]? with
  |some (.jD l)=>.ok ⟨l.map λp=>N7 p.1,λ_=>True⟩ (S.set n (.wm l))
  |some (.wm l)=>.ok ⟨l.map λp=>N7 p.1,λ_=>True⟩ S
  |some (.QX l)=>.ok ⟨l.map λp=>.tp (p.1.map N7),λ_=>True⟩ (S.set n (.D5 l))
  |some (.D5 l)=>.ok ⟨l.map λp=>.tp (p.1.map N7),λ_=>True⟩ S
  |_=>.aG)
 |_=>.aG
theorem ab5 (q:dW):RT w (N7 q) (kV q):=by
 cases q with
 |inl i=>exact d7
 |inr x=>exact kE
theorem zO:∀q:List dW,bL w (q.map N7) (q.map kV)
 |[]=>.nil
 |k::r=>.cons (ab5 k) (zO r)
theorem zP {a:Addr}(hF:w.F a=some (.rR ob u))(R:bL w l ks):SW G w ⟨l,λ_=>True⟩ (Itd a ob u ks):=λw1 S1 H1 i hK hn iX hF1 bN _=>by
 have ha:=bN.sub _ _ (hF1 _ _ hF)
 have R1:=R.xA hK hn iX hF1;refine⟨λt et=>?_,λhi=>⟨ha,by rw[R.len,hi];exact zah _⟩⟩
 obtain⟨v,ev,rv⟩:=R1.get et;refine⟨⟨ha,(zae.mp ev).1⟩,λx H2 ⟨e2,ex⟩=>?_⟩
 subst e2;rw[ev] at ex;cases ex;exact⟨w1,.refl _,bN,rv⟩
theorem Wf (r:RK w l aQ):bL w (l.map λp=>N7 p.1) (aQ.map λp=>kV p.1):=by
 have e1:(l.map λp=>N7 p.1)=(l.map Prod.fst).map N7:=by rw[zbu];rfl
 have e2:(aQ.map λp=>kV p.1)=(aQ.map Prod.fst).map kV:=by rw[zbu];rfl
 rw[e1,e2,r.1];exact zO _
theorem N8 {H:Hp}{S:Cs}(air:∀b xs,H b=some (.gQ xs)->w.F b=some (.gQ xs)):∀{aQ:List (List dW×V)} {ks:List V},Paired (λ(p:List dW×V) (x:V)=>∃b,x = .ref b/\H b=some (.gQ (p.1.map kV))) aQ ks->bL w ((aQ.map Prod.fst).map λq=>.tp (q.map N7)) ks
 |_,_,.nil=>.nil
 |_,_,.cons ⟨b,ex,hb⟩ t=>.cons (by unfold RT;exact⟨b,_,ex,air _ _ hb,zO _⟩) (N8 (S:=S) air t)
theorem HR.ais (h:HR G w S H){b:Addr}(hb:H b=some (.gQ xs)):w.F b=some (.gQ xs):=by
 rw[h.F];unfold Fz;rw[if_neg,hb];rintro (⟨i,⟨c,e,n⟩,z⟩|z)
 ·have hc:=h.cell i c e
  rw[z] at hc;cases c with
  |bA l=>obtain⟨_,q,_⟩:=hc;rw[hb] at q;cases q
  |jD l=>obtain⟨_,q,_⟩:=hc;rw[hb] at q;cases q
  |QX l=>obtain⟨_,q,_⟩:=hc;rw[hb] at q;cases q
  |eS c l=>obtain⟨_,_,q,_⟩:=hc;rw[hb] at q;cases q
  |tL c l=>obtain⟨_,_,_,q,_⟩:=hc;rw[hb] at q;cases q
  |tK=>cases n
  |wm l=>cases n
  |D5 l=>cases n
 ·cases e:w.hid b with
  |none=>exact z e
  |some u =>
   have:=h.hid b u e
   rw[hb] at this;cases this;exact h.hl b xs e
theorem Uq (ha:TV G k X a fa):Nj G k X tg a (tY iD fa):=.mk<|λox=>(Sj (ha ox)).wk λσ H Q h=>by
 obtain⟨w,S,τ,hr,sl,q⟩:=h;refine⟨w,S,τ,hr,sl,(br.aF q).mono λx H1 cC=>?_⟩
 obtain⟨w1,S1,t1,dD,bN,r1,_,q1⟩:=cC;unfold iD at q1;split at q1
 ·rename_i n _
  have hx:=r1.cO.2;split at q1
  ·rename_i l en
   obtain⟨aQ,h1,h2⟩:=bN.cell _ _ en;refine⟨_,.dK aQ,hx,trivial,.inl ⟨h1,λob ks hk=>?_⟩⟩
   obtain⟨dN,fq⟩:=bN.N6 en rfl (c':=.wm l) rfl (o':=.rR ob (.dK aQ)) (λw' le' hF=>⟨ob,aQ,hF,h2.mono le'⟩)
   cases (show ks=_ from hk)
   exact q1 _ _ _ fq dN (zP av (Wf (h2.mono fq)))
  ·rename_i l en
   obtain⟨ob,aQ,h1,h2⟩:=bN.cell _ _ en;refine⟨_,.dK aQ,hx,trivial,.inr ⟨ob,bN.sub _ _ h1,λks hk=>?_⟩⟩
   cases (show ks=_ from hk)
   exact q1 _ _ _ (.refl _) bN (zP h1 (Wf h2))
  ·rename_i l en
   obtain⟨aQ,h1,h2⟩:=bN.cell _ _ en;refine⟨_,.dT aQ,hx,trivial,.inl ⟨h1,λob ks hk=>?_⟩⟩
   obtain⟨dN,fq⟩:=bN.N6 en rfl (c':=.D5 l) rfl (o':=.rR ob (.dT aQ)) (λw' le' hF=>⟨ob,aQ,hF,h2.mono le'⟩)
   have R:=N8 (S:=S1) (w:={w1 with F:=bD w1.F (w1.ρ n) (.rR ob (.dT aQ))}) (λb xs hb=>fq.F _ _ (bN.ais hb)) hk
   rw[h2.1,zbu] at R;exact q1 _ _ _ fq dN (zP av R)
  ·rename_i l en
   obtain⟨ob,aQ,h1,h2⟩:=bN.cell _ _ en;refine⟨_,.dT aQ,hx,trivial,.inr ⟨ob,bN.sub _ _ h1,λks hk=>?_⟩⟩
   have R:=N8 (S:=S1) (λb xs hb=>bN.ais hb) hk
   rw[h2.1,zbu] at R;exact q1 _ _ _ (.refl _) bN (zP h1 R)
  ·exact q1.elim
 ·exact q1.elim
noncomputable def pC (H:Hp):List V->List (dW×V)->Prop
 |[],[]=>True
 |x::xs,(q,v)::r=>(∃a,x = .ref a/\H a=some (.gQ [kV q,v]))/\pC H xs r
 |_,_=>False
theorem pC.len:∀{xs:List V} {r:List (dW×V)},pC H xs r->xs.length=r.length
 |[],[],_=>rfl
 |x::xs,(q,v)::r,h=>by simp[pC.len h.2]
 |[],_::_,h=>h.elim
 |_::_,[],h=>h.elim
theorem pC.get:∀{xs:List V} {r:List (dW×V)} {i:Nat} {x:V},pC H xs r->xs[i]? = some x->∃q v a,r[i]? = some (q,v)/\x = .ref a/\H a=some (.gQ [kV q,v])
 |[],[],i,x,_,e=>by simp at e
 |y::xs,(q,v)::r,0,x,h,e=>by
  simp at e
  subst e;obtain⟨a,e1,e2⟩:=h.1;exact⟨q,v,a,rfl,e1,e2⟩
 |y::xs,(q,v)::r,i+1,x,h,e=>by simpa using pC.get (i:=i) h.2 (by simpa using e)
 |[],_::_,_,_,h,_=>h.elim
 |_::_,[],_,_,h,_=>h.elim
theorem G2 {r:List (dW×V)}(h:∀i q v,r[i]? = some (q,v)->(kv i).1=q/\bG v (kv i).2):∀n,n<=r.length->KV (gi [] (r.take n)) (tH kv n)
 |0,_=>.nil
 |n+1,hn=>by
  have ih:=G2 h n (by omega)
  have e:r.take (n+1)=r.take n++[r[n]'(by omega)]:=by rw[List.take_add_one,zag (by omega)];rfl
  obtain⟨e1,e2⟩:=h n (r[n]'(by omega)).1 (r[n]'(by omega)).2 (zag (by omega))
  rw[e];unfold gi tH;rw[List.foldl_append];show KV (ki (gi [] (r.take n)) (r[n]'(by omega)).1 (r[n]'(by omega)).2) (stored (tH kv n) (kv n).1 (kv n).2)
  rw[e1];exact ih.DI _ e2
theorem Eu (hc:X.fS=true):jo X (.type "dict") (λxs H Q=>∃(p:Addr) (ys:List V) (r:List (dW×V)),xs=[.ref p]/\H p=some (.bA ys)/\pC H ys r/\r.length<=1000/\∀l,H l=none->Q (.ref l) (bD H l (.dK (gi [] r)))):=by
 intro ah s σ H xs us Q I rr h;obtain⟨p,ys,r,rfl,hp,hr,hl,q⟩:=h;obtain⟨u,rfl,ru⟩:=sP rr;cases ru;obtain⟨aX,n,rv,e,_⟩:=I.bA hp;have dH:aX.length=r.length:=by rw[<-rv.length,hr.len]
 -- Dn afx,pX and qc of Dn apy
 have rG:∀i,i<r.length->∃(a:Addr) (kk vv:Value),aX[i]? = some (.ref a)/\qf s.heap a kk vv/\lV (r.getD i (.inl 0,.bB)).1 kk=true/\bG (r.getD i (.inl 0,.bB)).2 vv:=λi hi=>by
  have hy:i<ys.length:=by rw[hr.len];exact hi
  obtain⟨kq,v,a,e1,e2,e3⟩:=hr.get (zag hy)
  obtain⟨u,hu,ru⟩:=rv.get (zag hy)
  rw[e2] at ru;cases (show u=Value.ref a from ru)
  obtain⟨_,ws,AL,ob,ho,oc,m,od⟩:=(show cR X.prog X.w H s.heap a (.gQ [kV kq,v]) from I.cA a _ e3)
  obtain⟨w1,w2,rfl,g1,g2⟩:=AL.two;have eg:r.getD i (.inl 0,.bB)=(kq,v):=by rw[zdp,e1];rfl
  rw[eg];exact⟨a,w1,w2,hu,⟨ob,m,ho,oc,od⟩,qR (P:=X.prog) (w:=X.w) g1,g2⟩
 let ad:Nat->Addr:=λi=>if h:i<r.length then (rG i h).choose else 0
 let kk:Nat->Value:=λi=>if h:i<r.length then (rG i h).choose_spec.choose else .none
 let kv:Nat->dW×Value:=λi=>if h:i<r.length then ((r.getD i (.inl 0,.bB)).1,(rG i h).choose_spec.choose_spec.choose) else (.inl 0,.none)
 have spec:∀i,i<r.length->aX[i]? = some (.ref (ad i))/\qf s.heap (ad i) (kk i) (kv i).2/\lV (kv i).1 (kk i)=true/\(kv i).1=(r.getD i (.inl 0,.bB)).1/\bG (r.getD i (.inl 0,.bB)).2 (kv i).2:=λi hi=>by
  have:=(rG i hi).choose_spec.choose_spec.choose_spec
  simp only[ad,kk,kv,dif_pos hi];exact⟨this.1,this.2.1,this.2.2.1,trivial,this.2.2.2⟩
 have hsz:aX.toArray.size=r.length:=by simp[dH]
 refine rO (ad:=ad) (kk:=kk) (kv:=kv) (I.ok.hd hc) e (λi v hv=>?_) (λi hi=>(spec i (by omega)).2.2.1) (by omega) (λm hm=>(spec m (by omega)).2.1) λh' tk hS hk=>?_
 ·have hv:aX[i]? = some v:=by simpa using hv
  have hi:i<r.length:=by rw[<-dH];exact (zae.mp hv).1
  rw[(spec i hi).1] at hv;exact (zaw hv).symm
 ·rw[hsz] at hS
  have hkv:KV (gi [] r) (tH kv r.length):=by
   have:=G2 (kv:=kv) (r:=r) (λi kq v e1=>by
    have hi:i<r.length:=(zae.mp e1).1
    have eg:r.getD i (.inl 0,.bB)=(kq,v):=by rw[zdp,e1];rfl
    obtain⟨_,_,_,s4,s5⟩:=spec i hi;rw[eg] at s4 s5;exact⟨s4,s5⟩) r.length (zah _)
   rwa[zaY] at this
  refine⟨.ref s.heap.objs.size,_,I.jI (t':=tk) hk (zah _) (show cR X.prog X.w _ _ _ (.dK (gi [] r)) from ⟨?_,beq_eq_false_iff_ne.mpr (zbe (zaq I.big)),_,hkv,hS⟩),rfl,q _ (I.cA.fresh (zah _))⟩
  have h1:=zl kv r.length;rw[hkv.length];exact zai h1 (zai hl (by decide))
noncomputable def qC:List Tr->Option (List (dW×Tr))
 |[]=>some []
 |.tp [a,b]::r=>(match jr a,qC r with|some q,some l=>some ((q,b)::l)|_,_=>none)
 |_=>none
noncomputable def zQ:List Tr->Cs->R Tr:=λts S=>match ts with
 |[t]=>(match D8 S t with|some l=>(match qC l with|some ps=>if ps.length<=1000 then .ok (.hd S.length) (S++[.jD (fL [] ps)]) else .aG|none=>.aG)|none=>.aG)
 |_=>.aG
theorem xP (hF:∀b o,w.F b=some o->H b=some o):∀{l:List Tr} {ps:List (dW×Tr)} {xs:List V},qC l=some ps->bL w l xs->∃r,pC H xs r/\RK w ps r
 |[],ps,xs,e,rt=>by cases e;rw[rt.bX];exact⟨[],trivial,.nil⟩
 |.tp [a,b]::l,ps,xs,e,rt=>by
  obtain⟨x,xs',rfl,h1,h2⟩:=rt.bw;unfold qC at e;split at e
  ·rename_i q l' e1 e2
   cases e;obtain⟨r,g1,g2⟩:=xP hF e2 h2;unfold RT at h1;obtain⟨ad,ys,rfl,hy,ry⟩:=h1;obtain⟨y1,y2,rfl,ra,rb⟩:=GK ry;rw[iy e1 ra] at hy;exact⟨(q,y2)::r,⟨⟨ad,rfl,hF _ _ hy⟩,g1⟩,.cons rb g2⟩
  ·cases e
 |.bB::_,_,_,e,_|.bl _::_,_,_,e,_|.int _::_,_,_,e,_|.str _::_,_,_,e,_|.ls _::_,_,_,e,_|.kt _::_,_,_,e,_|.kl _::_,_,_,e,_|.hd _::_,_,_,e,_=>by cases e
 |.tp []::_,_,_,e,_|.tp [_]::_,_,_,e,_|.tp (_::_::_::_)::_,_,_,e,_=>by cases e
theorem Ur (hk:autoParam (0<k) zp_2):mw G k (.type "dict") zQ:=.mk<|λX o ah s σ H xs us Q I rv cC=>by
 obtain⟨w,S,ts,hr,r,q⟩:=cC;unfold zQ at q;split at q
 ·obtain⟨x,rfl,r1⟩:=eY r
  split at q
  ·rename_i l el
   split at q
   ·rename_i ps ep
    split at q
    ·rename_i hl
     obtain⟨a,ys,rfl,ha,ry⟩:=qm hr r1 el;obtain⟨rp,h1,h2⟩:=xP hr.sub ep ry;refine Eu (o.fS hk) ah s σ H _ us Q I rv ⟨a,ys,rp,rfl,ha,h1,by rw[h2.len];exact hl,λp hp=>?_⟩
     obtain⟨dN,le⟩:=hr.Jl (c:=.jD (fL [] ps)) hp (o:=.dK (gi [] rp)) rfl ⟨_,av,(RK.AQ h2 .nil).mono (w.tM p)⟩
     refine q _ _ _ le dN ?_
     unfold RT;exact⟨by show S.length<w.n+1;rw[hr.n];exact zbi _,by show V.ref p=V.ref (if S.length=w.n then p else w.ρ S.length);rw[if_pos hr.n.symm]⟩
    ·exact q.elim
   ·exact q.elim
  ·exact q.elim
 ·exact q.elim
section
variable {a0 a1 a2 a3 a4 a5 a6 a7 a8 a9 ud Ax JB a13 a14 a15 a16 a17 a18 a19:Option Tr}{x0 x1 x2 x3 x4 x5 x6 x7 x8 x9 gO fU Dl t y:Tr}{n0 n1 n2 n3 n4 n5 n6 n7 n8 n9 n10 n11 n12 n13 n14 n15 n16 c:Str}{r:En}{S:Cs}{sb:Sm}{q:Fn}{f:Tr->Cs->R β}{f':Tr->Cs->RS}{l:List Tr}{b:Bool}{z:Int}{g:Tr->Tr->Cs->R Tr}{fb:Em}{fr:En->Cs->R (List Tr)}{sc:Sm}{k n:Nat}{x:Str}{fs:List (Str×Tr)}
theorem sl {α:Type}{l:List α}(n:Nat)(h:l.length=n)(hn:autoParam (n<=20) zp_1):l.length<=sizeLine:=by rw[h];exact zai hn (by decide)
theorem Wg {i:Int}(h:iE l i=some y):bJ (.tp l) (.int i) S = .ok y S:=by rw[NY];simp only[xw,h]
theorem ixl {i:Int}(h:iE l i=some y):bJ (.ls l) (.int i) S = .ok y S:=by rw[NY];simp only[xw,h]
theorem vV0:aa 0 (some t::r) S = .ok t S:=rfl
theorem bV0:(aa 0 (some t::r) S).aF f=f t S:=rfl
theorem sV0:(aa 0 (some t::r) S).b_ f'=f' t S:=rfl
theorem kS0:lR 0 (a0::r) t S = .nx (some t::r) S:=rfl
theorem bN0:cI 0 t (a0::r) S = .ok (some t::r) S:=rfl
theorem bV1:(aa 1 (a0::some t::r) S).aF f=f t S:=rfl
theorem sV1:(aa 1 (a0::some t::r) S).b_ f'=f' t S:=rfl
theorem kS1:lR 1 (a0::a1::r) t S = .nx (a0::some t::r) S:=rfl
theorem bN1:cI 1 t (a0::a1::r) S = .ok (a0::some t::r) S:=rfl
theorem vV2:aa 2 (a0::a1::some t::r) S = .ok t S:=rfl
theorem bV2:(aa 2 (a0::a1::some t::r) S).aF f=f t S:=rfl
theorem sV2:(aa 2 (a0::a1::some t::r) S).b_ f'=f' t S:=rfl
theorem kS2:lR 2 (a0::a1::a2::r) t S = .nx (a0::a1::some t::r) S:=rfl
theorem bN2:cI 2 t (a0::a1::a2::r) S = .ok (a0::a1::some t::r) S:=rfl
theorem vV3:aa 3 (a0::a1::a2::some t::r) S = .ok t S:=rfl
theorem bV3:(aa 3 (a0::a1::a2::some t::r) S).aF f=f t S:=rfl
theorem sV3:(aa 3 (a0::a1::a2::some t::r) S).b_ f'=f' t S:=rfl
theorem kS3:lR 3 (a0::a1::a2::a3::r) t S = .nx (a0::a1::a2::some t::r) S:=rfl
theorem bN3:cI 3 t (a0::a1::a2::a3::r) S = .ok (a0::a1::a2::some t::r) S:=rfl
theorem bV4:(aa 4 (a0::a1::a2::a3::some t::r) S).aF f=f t S:=rfl
theorem sV4:(aa 4 (a0::a1::a2::a3::some t::r) S).b_ f'=f' t S:=rfl
theorem kS4:lR 4 (a0::a1::a2::a3::a4::r) t S = .nx (a0::a1::a2::a3::some t::r) S:=rfl
theorem bN4:cI 4 t (a0::a1::a2::a3::a4::r) S = .ok (a0::a1::a2::a3::some t::r) S:=rfl
theorem bV5:(aa 5 (a0::a1::a2::a3::a4::some t::r) S).aF f=f t S:=rfl
theorem sV5:(aa 5 (a0::a1::a2::a3::a4::some t::r) S).b_ f'=f' t S:=rfl
theorem kS5:lR 5 (a0::a1::a2::a3::a4::a5::r) t S = .nx (a0::a1::a2::a3::a4::some t::r) S:=rfl
theorem bV6:(aa 6 (a0::a1::a2::a3::a4::a5::some t::r) S).aF f=f t S:=rfl
theorem kS6:lR 6 (a0::a1::a2::a3::a4::a5::a6::r) t S = .nx (a0::a1::a2::a3::a4::a5::some t::r) S:=rfl
theorem bN6:cI 6 t (a0::a1::a2::a3::a4::a5::a6::r) S = .ok (a0::a1::a2::a3::a4::a5::some t::r) S:=rfl
theorem kS7:lR 7 (a0::a1::a2::a3::a4::a5::a6::a7::r) t S = .nx (a0::a1::a2::a3::a4::a5::a6::some t::r) S:=rfl
theorem bV8:(aa 8 (a0::a1::a2::a3::a4::a5::a6::a7::some t::r) S).aF f=f t S:=rfl
theorem kS8:lR 8 (a0::a1::a2::a3::a4::a5::a6::a7::a8::r) t S = .nx (a0::a1::a2::a3::a4::a5::a6::a7::some t::r) S:=rfl
theorem bV9:(aa 9 (a0::a1::a2::a3::a4::a5::a6::a7::a8::some t::r) S).aF f=f t S:=rfl
theorem kS9:lR 9 (a0::a1::a2::a3::a4::a5::a6::a7::a8::a9::r) t S = .nx (a0::a1::a2::a3::a4::a5::a6::a7::a8::some t::r) S:=rfl
theorem anl:(aa 10 (a0::a1::a2::a3::a4::a5::a6::a7::a8::a9::some t::r) S).aF f=f t S:=rfl
theorem anm:lR 10 (a0::a1::a2::a3::a4::a5::a6::a7::a8::a9::ud::r) t S = .nx (a0::a1::a2::a3::a4::a5::a6::a7::a8::a9::some t::r) S:=rfl
theorem ano:cI 10 t (a0::a1::a2::a3::a4::a5::a6::a7::a8::a9::ud::r) S = .ok (a0::a1::a2::a3::a4::a5::a6::a7::a8::a9::some t::r) S:=rfl
theorem anp:lR 11 (a0::a1::a2::a3::a4::a5::a6::a7::a8::a9::ud::Ax::r) t S = .nx (a0::a1::a2::a3::a4::a5::a6::a7::a8::a9::ud::some t::r) S:=rfl
theorem anq:lR 12 (a0::a1::a2::a3::a4::a5::a6::a7::a8::a9::ud::Ax::JB::r) t S = .nx (a0::a1::a2::a3::a4::a5::a6::a7::a8::a9::ud::Ax::some t::r) S:=rfl
theorem anr:lR 13 (a0::a1::a2::a3::a4::a5::a6::a7::a8::a9::ud::Ax::JB::a13::r) t S = .nx (a0::a1::a2::a3::a4::a5::a6::a7::a8::a9::ud::Ax::JB::some t::r) S:=rfl
theorem ans:(aa 14 (a0::a1::a2::a3::a4::a5::a6::a7::a8::a9::ud::Ax::JB::a13::some t::r) S).aF f=f t S:=rfl
theorem ant:lR 14 (a0::a1::a2::a3::a4::a5::a6::a7::a8::a9::ud::Ax::JB::a13::a14::r) t S = .nx (a0::a1::a2::a3::a4::a5::a6::a7::a8::a9::ud::Ax::JB::a13::some t::r) S:=rfl
theorem anu:(aa 15 (a0::a1::a2::a3::a4::a5::a6::a7::a8::a9::ud::Ax::JB::a13::a14::some t::r) S).aF f=f t S:=rfl
theorem anv:lR 15 (a0::a1::a2::a3::a4::a5::a6::a7::a8::a9::ud::Ax::JB::a13::a14::a15::r) t S = .nx (a0::a1::a2::a3::a4::a5::a6::a7::a8::a9::ud::Ax::JB::a13::a14::some t::r) S:=rfl
theorem bC:(mC t r S).aF f=f t S:=rfl
theorem sC:(mC t r S).b_ f'=f' t S:=rfl
theorem aiu:dF [n0] sb [x0] S=(sb [some x0] S).eW:=rfl
theorem aiv:dF [n0,n1] sb [x0] S=(sb [some x0,none] S).eW:=rfl
theorem aiw:dF [n0,n1,n2] sb [x0] S=(sb [some x0,none,none] S).eW:=rfl
theorem aix:dF [n0,n1,n2,n3] sb [x0] S=(sb [some x0,none,none,none] S).eW:=rfl
theorem aiy:dF [n0,n1,n2,n3,n4,n5,n6,n7] sb [x0] S=(sb [some x0,none,none,none,none,none,none,none] S).eW:=rfl
theorem ab7:dF [n0,n1,n2,n3,n4,n5,n6,n7,n8,n9,n10,n11,n12] sb [x0] S=(sb [some x0,none,none,none,none,none,none,none,none,none,none,none,none] S).eW:=rfl
theorem aiz:dF [n0,n1] sb [x0,x1] S=(sb [some x0,some x1] S).eW:=rfl
theorem aiA:dF [n0,n1,n2] sb [x0,x1] S=(sb [some x0,some x1,none] S).eW:=rfl
theorem aiB:dF [n0,n1,n2,n3] sb [x0,x1] S=(sb [some x0,some x1,none,none] S).eW:=rfl
theorem aiC:dF [n0,n1,n2,n3,n4] sb [x0,x1] S=(sb [some x0,some x1,none,none,none] S).eW:=rfl
theorem aiD:dF [n0,n1,n2,n3,n4,n5,n6,n7] sb [x0,x1] S=(sb [some x0,some x1,none,none,none,none,none,none] S).eW:=rfl
theorem aiE:dF [n0,n1,n2,n3,n4,n5,n6,n7,n8] sb [x0,x1] S=(sb [some x0,some x1,none,none,none,none,none,none,none] S).eW:=rfl
theorem aiF:dF [n0,n1,n2] sb [x0,x1,x2] S=(sb [some x0,some x1,some x2] S).eW:=rfl
theorem aiG:dF [n0,n1,n2,n3] sb [x0,x1,x2] S=(sb [some x0,some x1,some x2,none] S).eW:=rfl
theorem aiH:dF [n0,n1,n2,n3,n4] sb [x0,x1,x2] S=(sb [some x0,some x1,some x2,none,none] S).eW:=rfl
theorem aiI:dF [n0,n1,n2,n3,n4,n5,n6,n7,n8] sb [x0,x1,x2] S=(sb [some x0,some x1,some x2,none,none,none,none,none,none] S).eW:=rfl
theorem aiJ:dF [n0,n1,n2,n3] sb [x0,x1,x2,x3] S=(sb [some x0,some x1,some x2,some x3] S).eW:=rfl
theorem aiK:dF [n0,n1,n2,n3,n4,n5,n6] sb [x0,x1,x2,x3] S=(sb [some x0,some x1,some x2,some x3,none,none,none] S).eW:=rfl
theorem aiL:dF [n0,n1,n2,n3,n4,n5,n6,n7] sb [x0,x1,x2,x3] S=(sb [some x0,some x1,some x2,some x3,none,none,none,none] S).eW:=rfl
theorem ab8:dF [n0,n1,n2,n3,n4,n5,n6,n7,n8,n9,n10,n11,n12,n13,n14,n15] sb [x0,x1,x2,x3] S=(sb [some x0,some x1,some x2,some x3,none,none,none,none,none,none,none,none,none,none,none,none] S).eW:=rfl
theorem aiM:dF [n0,n1,n2,n3,n4] sb [x0,x1,x2,x3,x4] S=(sb [some x0,some x1,some x2,some x3,some x4] S).eW:=rfl
theorem aiN:fnX [n0,n1] sb [x0,x1] S=(sb [some x0,some x1] S).T_:=rfl
theorem aiO:fnX [n0,n1,n2,n3] sb [x0,x1] S=(sb [some x0,some x1,none,none] S).T_:=rfl
theorem kF1:kFn 1 q [x0] S=q [x0] S:=rfl
theorem kF2:kFn 2 q [x0,x1] S=q [x0,x1] S:=rfl
theorem kF3:kFn 3 q [x0,x1,x2] S=q [x0,x1,x2] S:=rfl
theorem kF4:kFn 4 q [x0,x1,x2,x3] S=q [x0,x1,x2,x3] S:=rfl
theorem kF5:kFn 5 q [x0,x1,x2,x3,x4] S=q [x0,x1,x2,x3,x4] S:=rfl
theorem kM1:t_ 1 q t [] S=q [t] S:=rfl
theorem kM2:t_ 2 q t [x0] S=q [t,x0] S:=rfl
theorem kM3:t_ 3 q t [x0,x1] S=q [t,x0,x1] S:=rfl
theorem kK3:G1 c 3 q [x0,x1] S=(q [.hd S.length,x0,x1] (S++[.eS c []])).aF (ua S.length):=rfl
theorem kK5:G1 c 5 q [x0,x1,x2,x3] S=(q [.hd S.length,x0,x1,x2,x3] (S++[.eS c []])).aF (ua S.length):=rfl
theorem kL0:zM [] S = .ok (.ls []) S:=if_pos (sl 0 rfl)
theorem kC0:V_ [] S = .ok (.hd S.length) (S++[.bA []])  := if_pos (sl 0 rfl)
theorem kT1:zL [x0] S = .ok (.tp [x0]) S:=if_pos (sl 1 rfl)
theorem kL1:zM [x0] S = .ok (.ls [x0]) S:=if_pos (sl 1 rfl)
theorem kT2:zL [x0,x1] S = .ok (.tp [x0,x1]) S:=if_pos (sl 2 rfl)
theorem kL2:zM [x0,x1] S = .ok (.ls [x0,x1]) S:=if_pos (sl 2 rfl)
theorem kT3:zL [x0,x1,x2] S = .ok (.tp [x0,x1,x2]) S:=if_pos (sl 3 rfl)
theorem kL3:zM [x0,x1,x2] S = .ok (.ls [x0,x1,x2]) S:=if_pos (sl 3 rfl)
theorem kT4:zL [x0,x1,x2,x3] S = .ok (.tp [x0,x1,x2,x3]) S:=if_pos (sl 4 rfl)
theorem kL4:zM [x0,x1,x2,x3] S = .ok (.ls [x0,x1,x2,x3]) S:=if_pos (sl 4 rfl)
theorem kT5:zL [x0,x1,x2,x3,x4] S = .ok (.tp [x0,x1,x2,x3,x4]) S:=if_pos (sl 5 rfl)
theorem kL5:zM [x0,x1,x2,x3,x4] S = .ok (.ls [x0,x1,x2,x3,x4]) S:=if_pos (sl 5 rfl)
theorem kT6:zL [x0,x1,x2,x3,x4,x5] S = .ok (.tp [x0,x1,x2,x3,x4,x5]) S:=if_pos (sl 6 rfl)
theorem kL6:zM [x0,x1,x2,x3,x4,x5] S = .ok (.ls [x0,x1,x2,x3,x4,x5]) S:=if_pos (sl 6 rfl)
theorem kT7:zL [x0,x1,x2,x3,x4,x5,x6] S = .ok (.tp [x0,x1,x2,x3,x4,x5,x6]) S:=if_pos (sl 7 rfl)
theorem kT8:zL [x0,x1,x2,x3,x4,x5,x6,x7] S = .ok (.tp [x0,x1,x2,x3,x4,x5,x6,x7]) S:=if_pos (sl 8 rfl)
theorem kL8:zM [x0,x1,x2,x3,x4,x5,x6,x7] S = .ok (.ls [x0,x1,x2,x3,x4,x5,x6,x7]) S:=if_pos (sl 8 rfl)
theorem iT0:bJ (.tp (y::l)) (.int 0) S = .ok y S:=Wg (by simp[at0])
theorem iT1:bJ (.tp (x0::y::l)) (.int 1) S = .ok y S:=Wg (by simp[at1])
theorem iT2:bJ (.tp (x0::x1::y::l)) (.int 2) S = .ok y S:=Wg (by simp[at2])
theorem iT3:bJ (.tp (x0::x1::x2::y::l)) (.int 3) S = .ok y S:=Wg (by simp[at3])
theorem iT4:bJ (.tp (x0::x1::x2::x3::y::l)) (.int 4) S = .ok y S:=Wg (by simp[at4])
theorem iT5:bJ (.tp (x0::x1::x2::x3::x4::y::l)) (.int 5) S = .ok y S:=Wg (by simp[at5])
theorem iT6:bJ (.tp (x0::x1::x2::x3::x4::x5::y::l)) (.int 6) S = .ok y S:=Wg (by simp[at6])
theorem iT7:bJ (.tp (x0::x1::x2::x3::x4::x5::x6::y::l)) (.int 7) S = .ok y S:=Wg (by simp[at7])
theorem iL0:bJ (.ls (y::l)) (.int 0) S = .ok y S:=ixl (by simp[at0])
theorem iL1:bJ (.ls (x0::y::l)) (.int 1) S = .ok y S:=ixl (by simp[at1])
theorem anw:ai g (aa 0) fb (some t::r) S=(fb (some t::r) S).aF (g t):=rfl
theorem anx:t9 g (aa 0) (some t::r) y S=g y t S:=rfl
theorem aV0:af (aa 0) fr (some t::r) S=(fr (some t::r) S).aF (fC t):=rfl
theorem anz:ai g (aa 1) fb (a0::some t::r) S=(fb (a0::some t::r) S).aF (g t):=rfl
theorem anA:t9 g (aa 1) (a0::some t::r) y S=g y t S:=rfl
theorem aV1:af (aa 1) fr (a0::some t::r) S=(fr (a0::some t::r) S).aF (fC t):=rfl
theorem anB:ai g (aa 2) fb (a0::a1::some t::r) S=(fb (a0::a1::some t::r) S).aF (g t):=rfl
theorem anC:t9 g (aa 2) (a0::a1::some t::r) y S=g y t S:=rfl
theorem aV2:af (aa 2) fr (a0::a1::some t::r) S=(fr (a0::a1::some t::r) S).aF (fC t):=rfl
theorem anD:ai g (aa 3) fb (a0::a1::a2::some t::r) S=(fb (a0::a1::a2::some t::r) S).aF (g t):=rfl
theorem anE:t9 g (aa 3) (a0::a1::a2::some t::r) y S=g y t S:=rfl
theorem aV3:af (aa 3) fr (a0::a1::a2::some t::r) S=(fr (a0::a1::a2::some t::r) S).aF (fC t):=rfl
theorem anF:ai g (aa 4) fb (a0::a1::a2::a3::some t::r) S=(fb (a0::a1::a2::a3::some t::r) S).aF (g t):=rfl
theorem anG:t9 g (aa 4) (a0::a1::a2::a3::some t::r) y S=g y t S:=rfl
theorem aV4:af (aa 4) fr (a0::a1::a2::a3::some t::r) S=(fr (a0::a1::a2::a3::some t::r) S).aF (fC t):=rfl
theorem anH:ai g (aa 5) fb (a0::a1::a2::a3::a4::some t::r) S=(fb (a0::a1::a2::a3::a4::some t::r) S).aF (g t):=rfl
theorem aV5:af (aa 5) fr (a0::a1::a2::a3::a4::some t::r) S=(fr (a0::a1::a2::a3::a4::some t::r) S).aF (fC t):=rfl
theorem anI:ai g (aa 6) fb (a0::a1::a2::a3::a4::a5::some t::r) S=(fb (a0::a1::a2::a3::a4::a5::some t::r) S).aF (g t):=rfl
theorem anJ:t9 g (aa 6) (a0::a1::a2::a3::a4::a5::some t::r) y S=g y t S:=rfl
theorem aV6:af (aa 6) fr (a0::a1::a2::a3::a4::a5::some t::r) S=(fr (a0::a1::a2::a3::a4::a5::some t::r) S).aF (fC t):=rfl
theorem anK:ai g (aa 7) fb (a0::a1::a2::a3::a4::a5::a6::some t::r) S=(fb (a0::a1::a2::a3::a4::a5::a6::some t::r) S).aF (g t):=rfl
theorem aV7:af (aa 7) fr (a0::a1::a2::a3::a4::a5::a6::some t::r) S=(fr (a0::a1::a2::a3::a4::a5::a6::some t::r) S).aF (fC t):=rfl
theorem anL:ai g (aa 8) fb (a0::a1::a2::a3::a4::a5::a6::a7::some t::r) S=(fb (a0::a1::a2::a3::a4::a5::a6::a7::some t::r) S).aF (g t):=rfl
theorem aV8:af (aa 8) fr (a0::a1::a2::a3::a4::a5::a6::a7::some t::r) S=(fr (a0::a1::a2::a3::a4::a5::a6::a7::some t::r) S).aF (fC t):=rfl
theorem anM:ai g (aa 9) fb (a0::a1::a2::a3::a4::a5::a6::a7::a8::some t::r) S=(fb (a0::a1::a2::a3::a4::a5::a6::a7::a8::some t::r) S).aF (g t):=rfl
theorem aV9:af (aa 9) fr (a0::a1::a2::a3::a4::a5::a6::a7::a8::some t::r) S=(fr (a0::a1::a2::a3::a4::a5::a6::a7::a8::some t::r) S).aF (fC t):=rfl
theorem aiP:ai g (aa 10) fb (a0::a1::a2::a3::a4::a5::a6::a7::a8::a9::some t::r) S=(fb (a0::a1::a2::a3::a4::a5::a6::a7::a8::a9::some t::r) S).aF (g t):=rfl
theorem aiQ:t9 g (aa 10) (a0::a1::a2::a3::a4::a5::a6::a7::a8::a9::some t::r) y S=g y t S:=rfl
theorem anN:af (aa 10) fr (a0::a1::a2::a3::a4::a5::a6::a7::a8::a9::some t::r) S=(fr (a0::a1::a2::a3::a4::a5::a6::a7::a8::a9::some t::r) S).aF (fC t):=rfl
theorem anO:af (aa 11) fr (a0::a1::a2::a3::a4::a5::a6::a7::a8::a9::ud::some t::r) S=(fr (a0::a1::a2::a3::a4::a5::a6::a7::a8::a9::ud::some t::r) S).aF (fC t):=rfl
theorem aiR:ai g (aa 12) fb (a0::a1::a2::a3::a4::a5::a6::a7::a8::a9::ud::Ax::some t::r) S=(fb (a0::a1::a2::a3::a4::a5::a6::a7::a8::a9::ud::Ax::some t::r) S).aF (g t):=rfl
theorem aiS:t9 g (aa 12) (a0::a1::a2::a3::a4::a5::a6::a7::a8::a9::ud::Ax::some t::r) y S=g y t S:=rfl
theorem aiT:ai g (aa 13) fb (a0::a1::a2::a3::a4::a5::a6::a7::a8::a9::ud::Ax::JB::some t::r) S=(fb (a0::a1::a2::a3::a4::a5::a6::a7::a8::a9::ud::Ax::JB::some t::r) S).aF (g t):=rfl
theorem anP:af (aa 13) fr (a0::a1::a2::a3::a4::a5::a6::a7::a8::a9::ud::Ax::JB::some t::r) S=(fr (a0::a1::a2::a3::a4::a5::a6::a7::a8::a9::ud::Ax::JB::some t::r) S).aF (fC t):=rfl
theorem sS4:(R.ok t S).b_ (lR 4 (a0::a1::a2::a3::a4::r)) = .nx (a0::a1::a2::a3::some t::r) S:=rfl
theorem kBC:t9 g (mC y) r t S=g t y S:=rfl
theorem kCN:NR ak r t S = .ok [t] S:=rfl
theorem aC:af (mC t) fr r S=(fr r S).aF (fC t):=rfl
theorem ln7:∀{p0 p1 p2 p3 p4 p5 p6:Str×Tr},([p0,p1,p2,p3,p4,p5,p6]:List (Str×Tr)).length=7:=rfl
theorem anQ:∀{p0 p1 p2 p3 p4 p5 p6 p7 p8 p9 p10 p11:Str×Tr},([p0,p1,p2,p3,p4,p5,p6,p7,p8,p9,p10,p11]:List (Str×Tr)).length=12:=rfl
end
section
variable {G:Gx}{k:Nat}{X:Cx}{e o:Expr}{es:List Expr}{f:Em}{fo:Em}{fr:En->Cs->R (List Tr)}{x:Str}{pos jK p dX:Pos}{CX:_}{j n:Nat}{ad:Addr}{fd:FuncData}{ps:List Str}{q:Fn}{st:Stmt}{c m:Str}
theorem anR (i:Nat)(hN:X.N.Nodup)(he:TV G k X e f)(hi:autoParam (X.N[i]? = some x) zp_0)(hx:autoParam (Vx X.env.scope x) zp_10)(hs:autoParam (swapsWith e (some (.Name x jK)) pos.line X.env=pure false) zp_0)(hf:autoParam (X.fn x=true\/X.env.scope.names.lookup x=some .local) zp_4):zo G k X (.Assign [.Name x jK] e pos) (aR i f):=aa8 hN hi hx he hs hf
theorem gy (i:Nat)(hN:X.N.Nodup)(hi:autoParam (X.N[i]? = some x) zp_0)(hx:autoParam (Vx X.env.scope x) zp_10)(hf:autoParam (X.fn x=true\/X.env.scope.names.lookup x=some .local) zp_4):Lg G k X (.Name x pos) (cI i):=SO hN hi hx hf
theorem cU (F:aO X.prog X.w X.K X.mg X.base CX j ad fd ps (dO G.K G.cl n q))(D:pe X.K X.mg x st ps ad fd)(ha:wu G k X (e::es) fr)(hj:autoParam (j<=k) zp_1)(hx:fj CX X G.E:=by first|exact aB|exact NO)
  (hg:autoParam (Gl X x) zp_0) (sU:autoParam ((x == ("__debug__" : Str))=false) zp_1) (he:autoParam (dB e=false) zp_0) (hpl:autoParam (dg es=true) zp_0) (xC:autoParam (0<k) zp_2):
  TV G k X (.Call (.Name x p) (e::es) [] pos) (e9 n q fr):=Tf F hj D.m D.F.kp D.b hx ha hg sU he hpl xC
theorem G3 {F T:List Str}{ns:List Nat}{sc:Scope}(st:Stmt)(d:(∀y∈sc.names,y.2 ≠ .cell)/\(∀y∈sc.names,y.2 = .local->sc.names.lookup y.1=some .local)/\(∀y∈sc.names,y.2 = .free->(aj st).names.lookup y.1=some .cell)/\∀x∈F,sc.names.lookup x=some .free)(h1:autoParam (sc.kind = .function) zp_0)(h6:autoParam (ns.map (λj=>X.N[j]?)=F.map some) zp_0)(he:autoParam (∀n,X.env.kindOf n=(aj st).names.lookup n) zp_3):di X F T ns sc:=⟨h1,d.1,d.2.1,λy hy h=>(he _).trans (d.2.2.1 y hy h),d.2.2.2,h6⟩
end
section
variable {prog:Program}{w:World}{A:Around}{E:Value->Shared->Prop}{s:Shared}{z0:Array Keyed}
end
section
variable {G:Gx}{k:Nat}{w:Wd}{X:Cx}{ah:List (Addr×Obj)}{s:Shared}{σ:St}{H:Hp}
end
end L2
namespace L2
open PySem PySem.Spec PyProof.Rows
section
variable {X:Cx}{o:Expr}{lo hi:Option Expr}{to:TE}{tl th:TO}{p2 pos:Pos}
end
section
variable {G:Gx}{k:Nat}{w:Wd}{X:Cx}{o:Expr}{fo fl fh:Em}{p2 pos:Pos}
end
section
variable {G:Gx}{k:Nat}{w:Wd}{X:Cx}{ah:List (Addr×Obj)}{s:Shared}{σ:St}{H:Hp}
end
end L2
namespace L2
open PySem PySem.Spec PyProof.Rows
section
variable {prog:Program}{w:World}{A:Around}{E:Value->Shared->Prop}{s:Shared}
end
end L2
namespace L2
open PySem PySem.Spec PyProof.Rows
section
variable {X:Cx}{tg a:Expr}{ta:TA}{p2 Sh:Pos}
end
section
variable {G:Gx}{k:Nat}{X:Cx}{a tg:Expr}{fr:En->Cs->R (List Tr)}{p2 Sh:Pos}
end
noncomputable def Ex1 (E:XK):XK:=λcls oa H'=>∃a C od T,oa=some a/\cls = .ref C/\H' a=some (nQ a C od T)/\H' T=some (TB T)/\T≠a/\∀T',H' T'=none->T'≠a->E cls oa (bD (bD H' a (nQ a C od T')) T' (TB T'))
theorem aiU {P:Program}{w:World}{K:W.Frag}{mg:Str->Option Value}{base:Heap}{N:List Str}{bV:Str}{scope:Scope}{f:Addr}{eU:Value}{A:Around}{outer:List Env}{s₀:Shared}{H₀:Hp}{E:XK}:
  fj (qe P w) (iB (qe P w) P w K mg base N bV scope f eU A outer s₀ H₀ E) (Ex1 E):=by
 intro ah σ H s e s' I h;obtain⟨a,_,C,_,H2,rfl,RE,NC,un,cA,_,_,_,a9,C9,od,T,ea,ec,VM,V6,Ta,hE⟩:=h;cases ea;cases ec;have I2:aL (iB (qe P w) P w K mg base N bV scope f eU A outer s₀ H₀ E) ah σ H2 s':=I.AD (ch:=[]) RE un cA NC (λb z=>absurd z (by simp))
 obtain⟨t0,ga⟩:=(show ∃t,s'.heap.get? a=some (gU C od t (.ref T)) from (I2.cA a _ VM).1)
 have gT:tG s'.heap T:=(I2.cA T _ V6).1
 show wpAny (model P w) _ (leaving _ (.ref a)) _ _ s'
 unfold leaving;refine zaa (xj (base:=base) I2.ok.frames I2.yV.j7 rfl ga gT Ta λh1 h' T' k1 tb1 z1 Lf=>?_)
 have Sg:T'≠a:=zbQ (zak (zan ga) (by rw[<-z1];exact Lf.new))
 have nT':H2 T'=none:=I2.cA.fresh (by rw[<-z1];exact Lf.new)
 have I3:aL (iB (qe P w) P w K mg base N bV scope f eU A outer s₀ H₀ E) ah σ (bD (bD H2 a (nQ a C od T')) T' (TB T')) {s' with heap:=h' }:=I2.A3 VM V6 Ta Sg k1 tb1 z1 Lf
 exact⟨a,T',C,od,_,rfl,I3.os,I3.ig,I3.base,I3.cA,by rw[au Sg.symm];exact av,av,Sg,hE T' nT' Sg⟩
theorem JC {K:W.Frag}{cl:Str->Addr}{E:XK}{w:Wd}{n:Nat}{S:Cs}(h:oU ⟨K,cl,E⟩ w n S):oU ⟨K,cl,Ex1 E⟩ w n S:=by
 obtain⟨c,fs,e,k⟩:=h;refine⟨c,fs,e,λw' H' le hr=>?_⟩
 have qw:HR ⟨K,cl,E⟩ w' S H':=HR.swE hr
 obtain⟨d,T0,h1,h2,h3,h4⟩:=qw.A3 e;refine⟨_,_,_,T0,rfl,rfl,h1,h2,h3,λT' hT' nT'=>?_⟩
 obtain⟨w2,l2,r2,dN⟩:=h4 T' hT' nT';have q:=k w2 _ (le.trans l2) dN
 rw[r2] at q;exact q
theorem N9 {K:W.Frag}{cl:Str->Addr}{E:XK}{w:Wd}{r:R Tr}{Q:VK}(h:br RT ⟨K,cl,E⟩ w r Q):br RT ⟨K,cl,Ex1 E⟩ w r Q:=by
 cases r with
 |ok t S=>exact λw' H' v le hr rv=>h w' H' v le (HR.swE hr) rv
 |ex n S=>exact JC h
 |aG=>exact h
section
variable {G:Gx}{k j n:Nat}{X:Cx}{f:Addr}{fd:FuncData}{ps:List Str}{q:Fn}{m c:Str}{pos dX:Pos}{e o:Expr}{es:List Expr}{fr:En->Cs->R (List Tr)}{fo:Em}{CX:AI}{pl:Sem Bool}
theorem N_ (hc:sQ G.K (G.cl c))(hM:c8 G.K (G.cl c) m f)(F:aO X.prog X.w X.K X.mg X.base CX j f fd ps (dO G.K G.cl n q))(hj:j<=k)(hb:d_ X.K fd ps [])(hx:fj CX X (Ex1 G.E))(ho:TV G k X o fo)(ha:wu G k X (e::es) fr)
  (pV:autoParam (dB e=false) zp_0) (hpl:autoParam (dg es=true) zp_0)
  (ht:autoParam (eval (.Call (.Attribute o m dX) (e::es) [] pos) X.env=(do
   let ov <-eval o X.env
   standAt dX.atName
   let (f,first) <-holding [ov] (getMethod ov m pl)
   callWith pos f first (backTo pos (starEach (e::es) X.env)) (backToKw pos (keywordEach [] X.env)))) zp_0) (xC:autoParam (0<k) zp_2):TV G k X (.Call (.Attribute o m dX) (e::es) [] pos) (aJ c m n q fo fr):=.mk<|λox =>
 (Gg (ho ox) (by rw[ox.K];exact hc) (by rw[ox.K];exact hM) F ((ox.room xC).mono hj) hb .nil hx (ha ox) (cE pV) (dZ hpl) ht).wk λσ H Q h=>by
  obtain⟨w,S,τ,hr,sl,z⟩:=zC h;refine⟨w,S,τ,hr,sl,z.mono λv H1 zp=>?_⟩
  obtain⟨a,dx,fs,e1,e2,e3,w1,S1,eX,bN,DZ,z1⟩:=zp;refine⟨a,dx,fs,e1,e2,e3,w1,S1,eX,bN,DZ,z1.mono λvs H2 zp2=>?_⟩
  obtain⟨w2,S2,ts,dN,r2,hn,q2⟩:=zp2;exact⟨w2,S2,ts,HR.swE dN,r2,hn,N9 q2⟩
end
end L2
namespace L2
open PySem
def bp:=jp @vV0<|jp @bV0<|jp @sV0<|jp @kS0<|jp @bN0<|jp @bV1<|jp @sV1<|jp @kS1<|jp @bN1<|jp @vV2<|jp @bV2<|jp @sV2<|jp @kS2<|jp @bN2<|jp @vV3<|jp @bV3<|jp @sV3<|jp @kS3<|jp @bN3<|jp @bV4<|jp @sV4<|jp @kS4<|jp @bN4<|jp @bV5<|jp @sV5<|jp @kS5<|jp @bV6<|jp @kS6<|jp @bN6<|jp @kS7<|jp @bV8<|jp @kS8<|jp @bV9<|jp @kS9<|jp @anl<|jp @anm<|jp @ano<|jp @anp<|jp @anq<|jp @anr<|jp @ans<|jp @ant<|jp @anu<|jp @anv<|jp @bC<|jp @sC<|jp @aiu<|jp @aiv<|jp @aiw<|jp @aix<|jp @aiy<|jp @ab7<|jp @aiz<|jp @aiA<|jp @aiB<|jp @aiC<|jp @aiD<|jp @aiE<|jp @aiF<|jp @aiG<|jp @aiH<|jp @aiI<|jp @aiJ<|jp @aiK<|jp @aiL<|jp @ab8<|jp @aiM<|jp @aiN<|jp @aiO<|jp @kF1<|jp @kF2<|jp @kF3<|jp @kF4<|jp @kF5<|jp @kM1<|jp @kM2<|jp @kM3<|jp @kK3<|jp @kK5<|jp @kL0<|jp @kC0<|jp @kT1<|jp @kL1<|jp @kT2<|jp @kL2<|jp @kT3<|jp @kL3<|jp @kT4<|jp @kL4<|jp @kT5<|jp @kL5<|jp @kT6<|jp @kL6<|jp @kT7<|jp @kT8<|jp @kL8<|jp @iT0<|jp @iT1<|jp @iT2<|jp @iT3<|jp @iT4<|jp @iT5<|jp @iT6<|jp @iT7<|jp @iL0<|jp @iL1<|jp @anw<|jp @anx<|jp @aV0<|jp @anz<|jp @anA<|jp @aV1<|jp @anB<|jp @anC<|jp @aV2<|jp @anD<|jp @anE<|jp @aV3<|jp @anF<|jp @anG<|jp @aV4<|jp @anH<|jp @aV5<|jp @anI<|jp @anJ<|jp @aV6<|jp @anK<|jp @aV7<|jp @anL<|jp @aV8<|jp @anM<|jp @aV9<|jp @aiP<|jp @aiQ<|jp @anN<|jp @anO<|jp @aiR<|jp @aiS<|jp @aiT<|jp @anP<|jp @sS4<|jp @kBC<|jp @kCN<|jp @aC<|jp @ln7<|@anQ
def bx:=jp @Bm<|jp @abk<|jp @Uc<|jp @Jv<|jp @NW<|jp @Ud<|jp @NX<|jp @Ue<|jp @ail<|jp @Ug<|jp @JA<|jp @Uh<|jp @Ui<|jp @Uj<|jp @abQ<|jp @abR<|jp @Uk<|jp @aim<|jp @R.eV<|jp @R.Sq<|jp @R.gB<|jp @R.A9<|jp @abl<|jp @abm<|jp @Tu<|jp @abn<|jp @tZ<|jp @Tv<|jp @ang<|jp @ain<|jp @abS<|jp @abT<|jp @abU<|jp @abV<|jp @abW<|jp @abX<|jp @aio<|jp @abY<|jp @NY<|jp @abZ<|jp @Ul<|jp @ab0<|jp @ab1<|jp @zas.{0,0}<|jp @zbL.{0,0}<|jp @zar.{0}<|jp @zaP.{0}<|jp @zbl.{0}<|jp @zbd.{0}<|jp @zaT.{0}<|jp @zaH.{0}<|jp @List.set_cons_zero.{0}<|jp @zdj.{0}<|jp @zbV.{0}<|jp @zbs.{0}<|jp @zes.{0}<|jp @Option.isNone_some.{0}<|jp @zeA.{0}<|jp @abo<|jp @zcc<|jp @ahR<|jp @amN<|jp @if_true.{0}<|jp @if_false.{0}<|jp @decide_true<|jp @decide_false<|jp @Bool.not_true<|jp @Bool.not_false<|jp @and_true<|jp @false_and<|jp @and_false<|jp @or_true<|jp @true_or<|jp @or_false<|jp @not_true_eq_false<|jp @not_false_eq_true<|jp @at0<|jp @bF<|jp @gk<|jp @and_self<|jp @or_self<|jp @ahi<|jp @Tp<|jp @Nt<|jp @Tq<|jp @Tt<|jp @ju<|jp @Tw<|jp @Um<|jp @h_<|jp @Uo<|jp @NZ<|jp @t6<|jp @xD<|jp @anh<|jp @Ju<|jp @Nu<|jp @V3<|jp @ahQ<|jp @ab2<|jp @zaj.{0}<|jp @zaf.{0,0}<|jp @Int.cast_ofNat_Int<|jp @List.isEmpty_cons.{0}<|jp @Int.add_zero<|jp @Int.zero_add<|jp @ahW<|jp @ahX<|jp @vIf<|jp @ahY<|jp @amV<|jp @ahZ<|jp @ah0<|jp @amW<|jp @ah1<|jp @abA<|jp @amY<|jp @ah3<|jp @NP<|jp @TR<|jp @ah4<|jp @amZ<|jp @vB<|jp @abC<|jp @am0<|jp @vUn<|jp @vC<|jp @ah5<|jp @NQ<|jp @TU<|jp @ah6<|jp @am1<|jp @am2<|jp @am3<|jp @ah7<|jp @vFn<|jp @TX<|jp @ah8<|jp @NS<|jp @ah9<|jp @am4<|jp @abE<|jp @abF<|jp @am5<|jp @abG<|jp @am6<|jp @abI<|jp @abJ<|jp @am7<|jp @aib<|jp @aic<|jp @vOr<|jp @TY<|jp @aid<|jp @TZ<|jp @aie<|jp @abK<|jp @am9<|jp @abL<|jp @ana<|jp @abM<|jp @anb<|jp @vIt<|jp @aij<|jp @anc<|jp @T4<|jp @abN<|jp @ane<|jp @Es<|jp @Jz<|jp @T8<|jp @T9<|jp @Ua<|jp @Ub<|jp @abO<|jp @NV<|jp @abP<|jp @zN<|jp @gF.eq_1<|jp @Jq.eq_1<|jp @Jq.eq_2<|jp @o8.eq_1<|jp @o8.eq_2<|jp @Js.eq_1<|jp @Js.eq_2<|jp @o7.eq_1<|jp @o7.eq_2<|jp @isN.eq_1<|jp @isN.eq_2<|jp @GI.eq_1<|jp @GI.eq_2<|jp @jr.eq_1<|jp @jr.eq_2<|jp @jr.eq_3<|jp @xw.eq_1<|jp @xw.eq_2<|jp @xw.eq_3<|jp @xw.eq_4<|jp @xw.eq_5<|jp @xw.eq_6<|jp @GF.eq_1<|jp @GF.eq_2<|jp @GF.eq_3<|jp @GF.eq_4<|jp @VX.eq_1<|jp @VX.eq_2<|jp @VX.eq_3<|jp @QY.eq_1<|jp @QY.eq_2<|jp @D8.eq_1<|jp @D8.eq_2<|jp @D8.eq_3<|jp @cF.eq_1<|jp @tT.eq_1<|jp @iM.eq_1<|jp @Aw.eq_1<|jp @ckD.eq_1<|jp @iG.eq_1<|jp @zJ.eq_1<|jp @zJ.eq_2<|jp @t8.eq_1<|jp @Bo.eq_1<|jp @Bo.eq_2<|jp @Jx.eq_1<|jp @Jx.eq_2<|jp @xG.eq_1<|jp @xG.eq_2<|jp @gT2.eq_1<|@gT2.eq_2
end L2
namespace My
open PySem L2
theorem qD {α β:Type}{f:α -> β}{a:α}{l:List α}:List.map f (a::l)=f a::List.map f l:=by first|exact zas|exact zas _|simp
theorem wB {α β:Type}{f:α -> β}:List.map f []=[]:=by first|exact zbL|exact zbL _|simp
noncomputable def fD (i:Nat):Stmt:=PySem.Challenge.pw_inningsbook_k50_told_and_kept.main.body.getD i (.Pass ⟨0,0,0,0⟩)
noncomputable abbrev Wh:Stmt:=fD 42
noncomputable abbrev Wi:Stmt:=fD 43
noncomputable abbrev Wj:Stmt:=fD 44
noncomputable abbrev Wk:Stmt:=fD 45
noncomputable abbrev G4:Stmt:=fD 46
noncomputable abbrev Oa:Stmt:=fD 34
noncomputable abbrev Ob:Stmt:=aU (fD 37) 0
noncomputable abbrev Wl:Stmt:=aU (fD 37) 1
noncomputable abbrev Wm:Stmt:=aU (fD 37) 2
noncomputable abbrev Oc:Stmt:=aU (fD 37) 3
noncomputable abbrev Wn:Stmt:=aU (fD 37) 4
noncomputable abbrev Wo:Stmt:=aU (fD 37) 5
noncomputable abbrev Wq:Stmt:=aU (fD 37) 24
noncomputable abbrev Wr:Stmt:=aU (fD 37) 20
noncomputable abbrev Od:Stmt:=aU (fD 37) 23
noncomputable abbrev Ws:Stmt:=aU (fD 37) 21
noncomputable abbrev Wt:Stmt:=aU (fD 37) 6
noncomputable abbrev Wu:Stmt:=aU (fD 37) 22
noncomputable abbrev Wv:Stmt:=fD 47
noncomputable abbrev Oe:Stmt:=fD 48
noncomputable abbrev Ww:Stmt:=aU (fD 37) 8
noncomputable abbrev Wx:Stmt:=aU (fD 37) 9
noncomputable abbrev Wy:Stmt:=aU (fD 25) 1
noncomputable abbrev Wz:Stmt:=fD 30
noncomputable abbrev WA:Stmt:=aU (fD 37) 10
noncomputable abbrev WB:Stmt:=aU (fD 37) 7
noncomputable abbrev WC:Stmt:=aU (fD 37) 11
noncomputable abbrev WD:Stmt:=aU (fD 25) 2
noncomputable abbrev WE:Stmt:=fD 19
noncomputable abbrev WG:Stmt:=fD 20
noncomputable abbrev WH:Stmt:=fD 21
noncomputable abbrev WI:Stmt:=fD 27
noncomputable abbrev WJ:Stmt:=fD 28
noncomputable abbrev WK:Stmt:=fD 29
noncomputable abbrev WL:Stmt:=fD 31
noncomputable abbrev WM:Stmt:=aU (fD 37) 12
noncomputable abbrev aiV:Stmt:=aU (fD 25) 0
noncomputable abbrev WN:Stmt:=aU (fD 37) 13
noncomputable abbrev WO:Stmt:=fD 22
noncomputable abbrev WQ:Stmt:=fD 23
noncomputable abbrev WR:Stmt:=aU (fD 25) 8
noncomputable abbrev aiW:Stmt:=aU (fD 25) 4
noncomputable abbrev WS:Stmt:=aU (fD 25) 5
noncomputable abbrev aiX:Stmt:=aU (fD 25) 9
noncomputable abbrev aiY:Stmt:=aU (fD 25) 10
noncomputable abbrev WT:Stmt:=aU (fD 25) 11
noncomputable abbrev WU:Stmt:=aU (fD 37) 14
noncomputable abbrev aiZ:Stmt:=aU (fD 25) 6
noncomputable abbrev ai0:Stmt:=aU (fD 25) 7
noncomputable abbrev Of:Stmt:=fD 38
noncomputable abbrev Og:Stmt:=fD 26
noncomputable abbrev WV:Stmt:=aU (fD 25) 12
noncomputable abbrev Oh:Stmt:=aU (fD 37) 15
noncomputable abbrev WW:Stmt:=aU (fD 37) 16
noncomputable abbrev WX:Stmt:=aU (fD 37) 17
noncomputable abbrev Oi:Stmt:=aU (fD 25) 3
noncomputable abbrev WY:Stmt:=aU (fD 37) 18
noncomputable abbrev WZ:Stmt:=aU (fD 37) 19
noncomputable abbrev W0:Stmt:=fD 49
noncomputable abbrev W2:Stmt:=fD 50
noncomputable abbrev ab9:Stmt:=aU (fD 40) 0
noncomputable abbrev W3:Stmt:=fD 53
noncomputable abbrev ai1:Stmt:=aU (fD 40) 1
noncomputable abbrev W4:Stmt:=fD 54
noncomputable abbrev ai2:Stmt:=aU (fD 40) 2
noncomputable abbrev W5:Stmt:=aU (fD 37) 25
noncomputable abbrev W6:Stmt:=fD 51
noncomputable abbrev ai3:Stmt:=aU (fD 40) 3
noncomputable abbrev W7:Stmt:=fD 55
noncomputable abbrev G5:Stmt:=fD 56
noncomputable abbrev dM:Stmt:=aU (fD 4) 0
structure AdF where
 Bx:Addr
 BA:Addr
 BB:Addr
 BC:Addr
 BD:Addr
 BE:Addr
 ue:Addr
 xQ:Addr
 xR:Addr
 xS:Addr
 xT:Addr
 xU:Addr
 xV:Addr
 xW:Addr
 xX:Addr
 xY:Addr
 xZ:Addr
 x_:Addr
 BF:Addr
 BG:Addr
 ya:Addr
 yb:Addr
 yc:Addr
 BH:Addr
 yd:Addr
 ye:Addr
 yf:Addr
 yg:Addr
 BI:Addr
 BJ:Addr
 BK:Addr
 BL:Addr
 BN:Addr
 BO:Addr
 BP:Addr
 yh:Addr
 Ew:Addr
 yi:Addr
 BQ:Addr
 BR:Addr
 yj:Addr
 JD:Addr
 yk:Addr
 JE:Addr
 JF:Addr
 ym:Addr
 yo:Addr
 JG:Addr
 JH:Addr
 BS:Addr
 BU:Addr
 yq:Addr
 yr:Addr
 yt:Addr
 yu:Addr
 yv:Addr
 yw:Addr
 yx:Addr
 BV:Addr
 BW:Addr
 Ex:Addr
 BX:Addr
 JI:Addr
 BY:Addr
 JJ:Addr
 yy:Addr
 BZ:Addr
 JK:Addr
 B4:Addr
 B5:Addr
 uf:FuncData
 ug:FuncData
 uh:FuncData
 um:FuncData
 uo:FuncData
 uq:FuncData
 ur:FuncData
 uv:FuncData
 uw:FuncData
 ux:FuncData
 uy:FuncData
 uz:FuncData
 uA:FuncData
 uB:FuncData
 uC:FuncData
 uD:FuncData
 uE:FuncData
 uF:FuncData
 uG:FuncData
 uH:FuncData
 uI:FuncData
 uJ:FuncData
 uK:FuncData
 uL:FuncData
 uM:FuncData
 uN:FuncData
 uO:FuncData
 uP:FuncData
 uQ:FuncData
 uR:FuncData
 uS:FuncData
 uU:FuncData
 uV:FuncData
 uW:FuncData
 uX:FuncData
 uY:FuncData
 B6:FuncData
 uZ:FuncData
 u5:FuncData
 u6:FuncData
 u9:FuncData
 B7:FuncData
 u_:FuncData
 B8:FuncData
 B9:FuncData
 vc:FuncData
 vd:FuncData
 B_:FuncData
 Ca:FuncData
 ve:FuncData
 vf:FuncData
 vg:FuncData
 vh:FuncData
 vj:FuncData
 vm:FuncData
 vn:FuncData
 vo:FuncData
 vp:FuncData
 vq:FuncData
 vt:FuncData
 Cb:FuncData
 vz:FuncData
 Cc:FuncData
 vA:FuncData
 Cd:FuncData
 vD:FuncData
 vE:FuncData
 Cf:FuncData
 vF:FuncData
 nZ:FuncData
 aV:Addr
 bu:Addr
 gG:Addr
 jw:Tok
 zR:Tok
 iR:Tok
 iS:Tok
 m6:Tok
 iU:Tok
 jx:Tok
 kQ:Tok
 m8:Tok
 G6:Tok
 kR:Tok
 iV:Tok
 jy:Tok
 m9:Tok
structure Ad extends AdF where
 aE:Addr
 bz:Addr
 bP:Addr
 bK:Addr
 bf:Addr
 bQ:Addr
 bO:Addr
 eF:FuncData
 iZ:Tok
noncomputable def aA (a:Ad):Str->Addr:=λx=>if x="Innings" then a.aV else if x="Match" then a.bu else if x="Book" then a.gG else if x="NotLet" then a.bz else 0
noncomputable def er (a:Ad):List (Str×Addr×Addr):=[("NotLet",a.bz,a.bf),("BadRow",a.bP,a.bQ),("NoEntry",a.bK,a.bO)]
structure TxF (K:W.Frag) (mg:Str->Option Value) (a:AdF):Prop where
 zS:mg "ValueError"=none
 ai4:mg "any"=none
 acd:mg "dict"=none
 Cg:mg "enumerate"=none
 kT:mg "isinstance"=none
 mH:mg "len"=none
 qE:mg "list"=none
 ai5:mg "min"=none
 pD:mg "range"=none
 ai6:mg "sum"=none
 Ci:mg "FOLLOW_AT"=some (.int 7 a.jw)
 ace:mg "FOUR"=some (.int 4 a.zR)
 zU:mg "INNINGS_AT"=some (.int 6 a.iR)
 zV:mg "IS_CROSSED"=some (.int 6 a.iS)
 JL:mg "IS_FAIR"=some (.int 4 a.m6)
 pF:mg "LONG_MATCH"=some (.int 4 a.iU)
 Cj:mg "NOBALL_AT"=some (.int 4 a.jx)
 Ey:mg "OVERS_AT"=some (.int 1 a.kQ)
 JM:mg "OVER_AT"=some (.int 0 a.m8)
 ai7:mg "SIX"=some (.int 6 a.G6)
 Ez:mg "SPELL_AT"=some (.int 2 a.kR)
 pG:mg "TEAM_COUNT"=some (.int 2 a.iV)
 Ck:mg "TEAM_RUNS"=some (.int 0 a.jy)
 JN:mg "WIDE_AT"=some (.int 3 a.m9)
 W8:pe K mg "_law_folded" Wh ["_law_script","_law_most"] a.Bx a.uf
 W9:pe K mg "_law_digit" Wi ["_law_cell","_law_at","_law_many"] a.BA a.ug
 vG:pe K mg "_law_draw" Wj ["_law_script","_law_k","_law_many"] a.BB a.uh
 W_:pe K mg "_law_rules" Wk ["_law_script"] a.BC a.um
 Xa:pe K mg "_law_teams" G4 ["_law_script","_law_side"] a.BD a.uo
 Oj:pe K mg "names_told" Oa ["teams","word"] a.BE a.uq
 Cm:jt K a.bu "__init__" "Match.__init__" Ob ["self","rules","teams"] a.ue a.ur
 jz:jt K a.bu "going" "Match.going" Wl ["self"] a.xQ a.uv
 Cn:jt K a.bu "most_innings" "Match.most_innings" Wm ["self"] a.xR a.uw
 Ol:jt K a.bu "total_of" "Match.total_of" Oc ["self","side"] a.xS a.ux
 yz:jt K a.bu "lead_of" "Match.lead_of" Wn ["self","side"] a.xT a.uy
 Co:jt K a.bu "is_done" "Match.is_done" Wo ["self"] a.xU a.uz
 G7:jt K a.bu "result" "Match.result" Wq ["self"] a.xV a.uA
 G8:jt K a.bu "state" "Match.state" Wr ["self"] a.xW a.uB
 G9:jt K a.bu "players" "Match.players" Od ["self"] a.xX a.uC
 G_:jt K a.bu "innings" "Match.innings" Ws ["self"] a.xY a.uD
 Hf:jt K a.bu "next_side" "Match.next_side" Wt ["self"] a.xZ a.uE
 Hg:jt K a.bu "turn" "Match.turn" Wu ["self"] a.x_ a.uF
 Om:pe K mg "_law_ball" Wv ["_law_script","_law_k","_law_state"] a.BF a.uG
 Xb:pe K mg "_law_entry" Oe ["_law_script","_law_k","_law_teams_here","_law_match"] a.BG a.uH
 Hh:jt K a.bu "side_to_start" "Match.side_to_start" Ww ["self","team"] a.ya a.uI
 Oo:jt K a.bu "start_refusal" "Match.start_refusal" Wx ["self","entry"] a.yb a.uJ
 rm:jt K a.aV "stands" "Innings.stands" Wy ["self","name"] a.yc a.uK
 Xc:pe K mg "swap_refusal_within" Wz ["innings","old"] a.BH a.uL
 Oq:jt K a.bu "swap_refusal" "Match.swap_refusal" WA ["self","old","new"] a.yd a.uM
 Ot:jt K a.bu "may_follow" "Match.may_follow" WB ["self"] a.ye a.uN
 Ou:jt K a.bu "follow_refusal" "Match.follow_refusal" WC ["self"] a.yf a.uO
 Cp:jt K a.aV "has_gap" "Innings.has_gap" WD ["self"] a.yg a.uP
 Xd:pe K mg "rope_goes" WE ["kind","runs"] a.BI a.uQ
 Xe:pe K mg "way_goes" WG ["kind","runs","rope","way"] a.BJ a.uR
 Xf:pe K mg "ball_fault" WH ["entry"] a.BK a.uS
 Xg:pe K mg "ball_refusal" WI ["innings","entry"] a.BL a.uU
 Xh:pe K mg "in_refusal" WJ ["innings","batting","name"] a.BN a.uV
 Xi:pe K mg "bowl_refusal" WK ["innings","fielding","spell","name"] a.BO a.uW
 Xj:pe K mg "refusal_within" WL ["innings","rules","batting","fielding","entry"] a.BP a.uX
 Ov:jt K a.bu "refusal" "Match.refusal" WM ["self","entry"] a.yh a.uY
 ai8:jt K a.aV "__init__" "Innings.__init__" aiV ["self","side","facing","other","bowler"] a.Ew a.B6
 Ow:jt K a.bu "begin" "Match.begin" WN ["self","entry"] a.yi a.uZ
 Xk:pe K mg "runs_by" WO ["rules","kind","runs"] a.BQ a.u5
 Xl:pe K mg "ball_sums" WQ ["rules","entry"] a.BR a.u6
 Ox:jt K a.aV "out_by" "Innings.out_by" WR ["self","entry"] a.yj a.u9
 Oz:jt K a.aV "change_ends" "Innings.change_ends" aiW ["self"] a.JD a.B7
 Hi:jt K a.aV "leave" "Innings.leave" WS ["self","name"] a.yk a.u_
 acf:jt K a.aV "fall" "Innings.fall" aiX ["self","name","end"] a.JE a.B8
 acg:jt K a.aV "count_fair" "Innings.count_fair" aiY ["self","over"] a.JF a.B9
 OA:jt K a.aV "play" "Innings.play" WT ["self","rules","entry"] a.ym a.vc
 OB:jt K a.bu "play_ball" "Match.play_ball" WU ["self","entry"] a.yo a.vd
 ach:jt K a.aV "come_in" "Innings.come_in" aiZ ["self","name"] a.JG a.B_
 aci:jt K a.aV "bowl_next" "Innings.bowl_next" ai0 ["self","name"] a.JH a.Ca
 Xm:pe K mg "swapped" Of ["players","old","new"] a.BS a.ve
 Xn:pe K mg "renamed" Og ["told","old","new"] a.BU a.vf
 OC:jt K a.aV "rename" "Innings.rename" WV ["self","old","new"] a.yq a.vg
 OD:jt K a.bu "swap_player" "Match.swap_player" Oh ["self","old","new"] a.yr a.vh
 OE:jt K a.bu "close" "Match.close" WW ["self"] a.yt a.vj
 OF:jt K a.bu "do" "Match.do" WX ["self","entry"] a.yu a.vm
 OG:jt K a.aV "has_left" "Innings.has_left" Oi ["self","players"] a.yv a.vn
 OH:jt K a.bu "ending_due" "Match.ending_due" WY ["self","going"] a.yw a.vo
 Cq:jt K a.bu "tell" "Match.tell" WZ ["self","entry"] a.yx a.vp
 Hj:pe K mg "_law_lets" W0 ["_law_match","_law_entry_here"] a.BV a.vq
 Xo:pe K mg "_law_entries" W2 ["_law_script","_law_rules_here","_law_teams_here","_law_many"] a.BW a.vt
 ai9:jt K a.gG "__init__" "Book.__init__" ab9 ["self","rules","teams"] a.Ex a.Cb
 Xp:pe K mg "_law_odd" W3 ["_law_script","_law_k","_law_teams_here","_law_entries_here"] a.BX a.vz
 acj:jt K a.gG "tell" "Book.tell" ai1 ["self","entry"] a.JI a.Cc
 Xq:pe K mg "_law_tells" W4 ["_law_book","_law_entry_here"] a.BY a.vA
 ack:jt K a.gG "entries" "Book.entries" ai2 ["self"] a.JJ a.Cd
 OI:jt K a.bu "log" "Match.log" W5 ["self"] a.yy a.vD
 Xr:pe K mg "_law_seen" W6 ["_law_match"] a.BZ a.vE
 acm:jt K a.gG "match" "Book.match" ai3 ["self"] a.JK a.Cf
 Xs:pe K mg "_law_right" W7 ["_law_book","_law_match","_law_kept"] a.B4 a.vF
 OJ:pe K mg "law" G5 ["_law_script"] a.B5 a.nZ
 cQ:Nr K mg "Innings" a.aV a.Ew
 aja:bU K a.aV "side"
 ajb:bU K a.aV "facing"
 ajc:bU K a.aV "other"
 ajd:bU K a.aV "bowler"
 aje:bU K a.aV "ahead"
 ajf:bU K a.aV "total"
 ajg:bU K a.aV "wickets"
 ajh:bU K a.aV "overs"
 aji:bU K a.aV "balls"
 ajj:bU K a.aV "ending"
 acn:bU K a.aV "outs"
 aco:bU K a.aV "spells"
 ia:Nr K mg "Match" a.bu a.ue
 ajk:bU K a.bu "rules"
 ajl:bU K a.bu "sides"
 ajm:bU K a.bu "known"
 ajn:bU K a.bu "played"
 ajo:bU K a.bu "followed"
 ajp:bU K a.bu "closed"
 ajq:bU K a.bu "balls_told"
 n_:Nr K mg "Book" a.gG a.Ex
 ajr:bU K a.gG "rules"
 ajs:bU K a.gG "teams"
 ajt:bU K a.gG "kept"
 aju:bU K a.gG "current"
structure Txt (K:W.Frag) (mg:Str->Option Value) (a:Ad):Prop extends TxF K mg a.toAdF where
 Er:aby K mg a.aE (er a)
 gn:EC K mg a.aE "NotLet" a.bz a.bf dM a.eF ["self","words","rule","number"]
 yC:d_ K a.eF ["self","words","rule","number"] [.int 0 a.iZ]
 ja:W.findIn K (.ref a.bz) "rule"=some none
 gZ:W.findIn K (.ref a.bz) "number"=some none
 JO:a.bz≠a.aE
 jW:a.bP≠a.bz
 jA:a.bK≠a.bz
 yD:a.bP≠a.aE
 vH:a.bK≠a.aE
theorem fE {K:W.Frag}{cl:Str->Addr}{E:XK}{x f:Str}{C:Addr}(e:cl x=C)(h:sQ K C)(n:bU K C f):dU ⟨K,cl,E⟩ [x] f:=λc hc=>by
 cases zav.mp hc
 subst e;exact⟨h,n⟩
theorem fF {N P:List Str}{sc:Scope}(h:autoParam (sc.kind = .function/\sc.isCoroutine=false/\sc.isGenerator=false/\N.take P.length=P) zp_9)(d:N.Nodup/\(∀x∈P,sc.names.lookup x=some .local\/sc.names.lookup x=some .cell)/\∀y∈sc.names,y.2 ≠ .free:=by decide +kernel):aq N P sc:=⟨h.1,h.2.1,h.2.2.1,d.1,h.2.2.2,d.2.1,d.2.2⟩
section
variable {P:Program}{w:World}{K:W.Frag}{mg:Str->Option Value}{base:Heap}{a:Ad}{E:XK}
theorem aW:aA a "Innings"=a.aV:=by unfold aA;rw[if_pos rfl]
theorem bq (T:Txt K mg a):sQ K (aA a "Innings"):=by rw[aW];exact T.cQ.c
theorem EA (T:Txt K mg a):Mk K (aA a "Innings") a.Ew:=by rw[aW];exact T.cQ.k
theorem Cr (T:Txt K mg a):mg "Innings"=some (.ref (aA a "Innings")):=by rw[aW];exact T.cQ.m
theorem kU (T:Txt K mg a):dU ⟨K,aA a,E⟩ ["Innings"] "side" := fE aW T.cQ.c T.aja
theorem iH (T:Txt K mg a):dU ⟨K,aA a,E⟩ ["Innings"] "facing" := fE aW T.cQ.c T.ajb
theorem mJ (T:Txt K mg a):dU ⟨K,aA a,E⟩ ["Innings"] "other" := fE aW T.cQ.c T.ajc
theorem kW (T:Txt K mg a):dU ⟨K,aA a,E⟩ ["Innings"] "bowler" := fE aW T.cQ.c T.ajd
theorem vI (T:Txt K mg a):dU ⟨K,aA a,E⟩ ["Innings"] "ahead" := fE aW T.cQ.c T.aje
theorem vJ (T:Txt K mg a):dU ⟨K,aA a,E⟩ ["Innings"] "total" := fE aW T.cQ.c T.ajf
theorem zW (T:Txt K mg a):dU ⟨K,aA a,E⟩ ["Innings"] "wickets" := fE aW T.cQ.c T.ajg
theorem qF (T:Txt K mg a):dU ⟨K,aA a,E⟩ ["Innings"] "overs" := fE aW T.cQ.c T.ajh
theorem oh (T:Txt K mg a):dU ⟨K,aA a,E⟩ ["Innings"] "balls" := fE aW T.cQ.c T.aji
theorem qG (T:Txt K mg a):dU ⟨K,aA a,E⟩ ["Innings"] "ending" := fE aW T.cQ.c T.ajj
theorem m_ (T:Txt K mg a):dU ⟨K,aA a,E⟩ ["Innings"] "outs" := fE aW T.cQ.c T.acn
theorem pH (T:Txt K mg a):dU ⟨K,aA a,E⟩ ["Innings"] "spells" := fE aW T.cQ.c T.aco
theorem aY:aA a "Match"=a.bu:=by unfold aA;rw[if_neg (by decide)];rw[if_pos rfl]
theorem ay (T:Txt K mg a):sQ K (aA a "Match"):=by rw[aY];exact T.ia.c
theorem pI (T:Txt K mg a):Mk K (aA a "Match") a.ue:=by rw[aY];exact T.ia.k
theorem ng (T:Txt K mg a):mg "Match"=some (.ref (aA a "Match")):=by rw[aY];exact T.ia.m
theorem qH (T:Txt K mg a):dU ⟨K,aA a,E⟩ ["Match"] "rules" := fE aY T.ia.c T.ajk
theorem g5 (T:Txt K mg a):dU ⟨K,aA a,E⟩ ["Match"] "sides" := fE aY T.ia.c T.ajl
theorem EE (T:Txt K mg a):dU ⟨K,aA a,E⟩ ["Match"] "known" := fE aY T.ia.c T.ajm
theorem jb (T:Txt K mg a):dU ⟨K,aA a,E⟩ ["Match"] "played" := fE aY T.ia.c T.ajn
theorem zX (T:Txt K mg a):dU ⟨K,aA a,E⟩ ["Match"] "followed" := fE aY T.ia.c T.ajo
theorem zY (T:Txt K mg a):dU ⟨K,aA a,E⟩ ["Match"] "closed" := fE aY T.ia.c T.ajp
theorem EF (T:Txt K mg a):dU ⟨K,aA a,E⟩ ["Match"] "balls_told" := fE aY T.ia.c T.ajq
theorem ic:aA a "Book"=a.gG:=by unfold aA;rw[if_neg (by decide)];rw[if_neg (by decide)];rw[if_pos rfl]
theorem vK (T:Txt K mg a):sQ K (aA a "Book"):=by rw[ic];exact T.n_.c
theorem Us (T:Txt K mg a):Mk K (aA a "Book") a.Ex:=by rw[ic];exact T.n_.k
theorem OL (T:Txt K mg a):mg "Book"=some (.ref (aA a "Book")):=by rw[ic];exact T.n_.m
theorem OM (T:Txt K mg a):dU ⟨K,aA a,E⟩ ["Book"] "rules" := fE ic T.n_.c T.ajr
theorem ON (T:Txt K mg a):dU ⟨K,aA a,E⟩ ["Book"] "teams" := fE ic T.n_.c T.ajs
theorem zZ (T:Txt K mg a):dU ⟨K,aA a,E⟩ ["Book"] "kept" := fE ic T.n_.c T.ajt
theorem OO (T:Txt K mg a):dU ⟨K,aA a,E⟩ ["Book"] "current" := fE ic T.n_.c T.aju
theorem gq:aA a "NotLet"=a.bz:=by unfold aA;rw[if_neg (by decide)];rw[if_neg (by decide)];rw[if_neg (by decide)];rw[if_pos rfl]
theorem d8 (T:Txt K mg a):iW K (aA a "NotLet") a.bf (.ref a.aE::lM):=by rw[gq];exact T.gn.M
theorem EG (T:Txt K mg a):mg "NotLet"=some (.ref (aA a "NotLet")):=by rw[gq];exact T.gn.m
theorem om:aq ["self","words","rule","number"] ["self","words","rule","number"] (aj dM):=fF
theorem oq (T:Txt K mg a):aO P w K mg base eB 1 a.bf a.eF ["self","words","rule","number"] (V4 (aA a "NotLet") 3 (gE2 "rule" "number")):=by
 rw[gq];refine T.gn.ok om (λvs H Q E h=>?_) (λq eU A outer s H vs Q E hr h=>?_)
 ·obtain⟨b,xs,rfl,hl,_⟩:=h
  simp[hl]
 ·obtain⟨b,xs,rfl,hl,ha,k⟩:=h
  match xs,hl,k with
  |[x,y,z],_,k =>
   refine⟨_,sN (F8 (Ms T.Er.EB rfl T.Er.m (g_ (pv 0) (g_ (pv 1) qa)))) (sN (R6 (pv 0) (pv 2)) (F7 (R7 (pv 0) (pv 3)))),?_⟩
   refine⟨_,rfl,_,rfl,b,_,_,_,none,x,rfl,ha,T.gn.M,?_⟩
   refine⟨_,rfl,_,rfl,b,_,_,_,rfl,ha,T.gn.M,T.ja,λd nd=>?_⟩
   have nda:d≠b:=(e_ ha nd).symm
   refine⟨_,rfl,_,rfl,b,_,_,_,d,[(("rule" : Str),y)],rfl,av,by rw[au nda,av],(show 1<1000 by decide),T.gn.M,T.gZ,?_⟩
   have e1:gz "number" z [(("rule" : Str),y)]=[(("rule" : Str),y),("number",z)]:=by
    show (if ("rule" : Str)="number" then _ else _)=_
    rw[if_neg (by decide +kernel)]
    rfl
   rw[e1];refine k d _ nd (by rw[au nda.symm,av]) av λb o eb nb=>?_
   have nbd:b≠d:=e_ eb nd
   rw[au nbd,au nb,au nbd];exact eb
theorem Ct (T:Txt K mg a):mg "NotLet"=some (.ref a.bz):=(T.Er.all _ (zaA (i:=0) (l:=er a) rfl)).1
theorem OP (T:Txt K mg a):mg "BadRow"=some (.ref a.bP):=(T.Er.all _ (zaA (i:=1) (l:=er a) rfl)).1
theorem JP (T:Txt K mg a):mg "NoEntry"=some (.ref a.bK):=(T.Er.all _ (zaA (i:=2) (l:=er a) rfl)).1
theorem yE (T:Txt K mg a):iW K a.bz a.bf (.ref a.aE::lM):=(T.Er.all _ (zaA (i:=0) (l:=er a) rfl)).2
theorem JQ (T:Txt K mg a):iW K a.bP a.bQ (.ref a.aE::lM):=(T.Er.all _ (zaA (i:=1) (l:=er a) rfl)).2
theorem EH (T:Txt K mg a):iW K a.bK a.bO (.ref a.aE::lM):=(T.Er.all _ (zaA (i:=2) (l:=er a) rfl)).2
theorem Cu (T:Txt K mg a):mg "BookError"=some (.ref a.aE):=T.Er.m
theorem Hl (T:Txt K mg a):Eo ⟨K,aA a,E⟩ ["NotLet"] "rule" := by
 intro c hc;simp only[zam,zax,or_false] at hc;rcases hc with rfl
 ·exact⟨⟨_,_,d8 T⟩,by show W.findIn K (.ref (aA a "NotLet")) _=_;rw[gq];exact T.ja⟩
theorem JR (T:Txt K mg a):Eo ⟨K,aA a,E⟩ ["NotLet"] "number" := by
 intro c hc;simp only[zam,zax,or_false] at hc;rcases hc with rfl
 ·exact⟨⟨_,_,d8 T⟩,by show W.findIn K (.ref (aA a "NotLet")) _=_;rw[gq];exact T.gZ⟩
theorem JS (T:Txt K mg a):Bq ⟨K,aA a,E⟩ (.ref a.bz) [("NotLet",true)]:=by
 intro c hc;simp only[zam,zax,or_false] at hc;rcases hc with rfl
 ·exact⟨⟨_,_,d8 T⟩,Mx (g:=0) (bm':=[]) (d8 T) (yE T).Mz (yE T).VL (decide_eq_true (.inl (gq (a:=a)).symm))⟩
theorem nA (T:Txt K mg a):NG ⟨K,aA a,E⟩ ([a.bP,a.bK].map Value.ref) [("NotLet",false)]:=by
 intro c hc;simp only[zam,zax,or_false] at hc;rcases hc with rfl
 ·refine⟨⟨_,_,d8 T⟩,Bu (d8 T) _ λD hD=>?_⟩
  rw[gq];simp only[zam,zax,or_false] at hD;rcases hD with rfl|rfl
  ·exact⟨T.jW,T.yD,_,JQ T⟩
  ·exact⟨T.jA,T.vH,_,EH T⟩
theorem wC (T:Txt K mg a):Bq ⟨K,aA a,E⟩ (.type "ValueError") [("NotLet",true)]:=by
 intro c hc;simp only[zam,zax,or_false] at hc;rcases hc with rfl
 ·exact⟨⟨_,_,d8 T⟩,aag (d8 T)⟩
theorem z6 (T:Txt K mg a):pB ⟨K,aA a,E⟩ a.aE ["NotLet"]:=by
 intro c hc;simp only[zam,zax,or_false] at hc;rcases hc with rfl
 ·exact⟨_,_,d8 T,by show (Value.ref (aA a "NotLet")::_).contains _=true;exact NJ⟩
theorem JT (T:Txt K mg a):pB ⟨K,aA a,E⟩ a.bz ["NotLet"]:=by
 intro c hc;simp only[zam,zax,or_false] at hc;rcases hc with rfl
 ·exact⟨_,_,d8 T,by show (Value.ref (aA a "NotLet")::_).contains _=true;rw[gq];exact NK⟩
theorem gb (T:Txt K mg a):c8 K (aA a "Match") "going" a.xQ:=by rw[aY];exact T.jz.M
theorem z7 (T:Txt K mg a):c8 K (aA a "Match") "most_innings" a.xR:=by rw[aY];exact T.Cn.M
theorem Ut (T:Txt K mg a):c8 K (aA a "Match") "total_of" a.xS:=by rw[aY];exact T.Ol.M
theorem se (T:Txt K mg a):c8 K (aA a "Match") "lead_of" a.xT:=by rw[aY];exact T.yz.M
theorem z8 (T:Txt K mg a):c8 K (aA a "Match") "is_done" a.xU:=by rw[aY];exact T.Co.M
theorem Ho (T:Txt K mg a):c8 K (aA a "Match") "result" a.xV:=by rw[aY];exact T.G7.M
theorem Hq (T:Txt K mg a):c8 K (aA a "Match") "state" a.xW:=by rw[aY];exact T.G8.M
theorem Hr (T:Txt K mg a):c8 K (aA a "Match") "players" a.xX:=by rw[aY];exact T.G9.M
theorem Hs (T:Txt K mg a):c8 K (aA a "Match") "innings" a.xY:=by rw[aY];exact T.G_.M
theorem Ht (T:Txt K mg a):c8 K (aA a "Match") "next_side" a.xZ:=by rw[aY];exact T.Hf.M
theorem Hu (T:Txt K mg a):c8 K (aA a "Match") "turn" a.x_:=by rw[aY];exact T.Hg.M
theorem Hv (T:Txt K mg a):c8 K (aA a "Match") "side_to_start" a.ya:=by rw[aY];exact T.Hh.M
theorem Uu (T:Txt K mg a):c8 K (aA a "Match") "start_refusal" a.yb:=by rw[aY];exact T.Oo.M
theorem nh (T:Txt K mg a):c8 K (aA a "Innings") "stands" a.yc:=by rw[aW];exact T.rm.M
theorem Uv (T:Txt K mg a):c8 K (aA a "Match") "swap_refusal" a.yd:=by rw[aY];exact T.Oq.M
theorem Uw (T:Txt K mg a):c8 K (aA a "Match") "may_follow" a.ye:=by rw[aY];exact T.Ot.M
theorem Ux (T:Txt K mg a):c8 K (aA a "Match") "follow_refusal" a.yf:=by rw[aY];exact T.Ou.M
theorem z9 (T:Txt K mg a):c8 K (aA a "Innings") "has_gap" a.yg:=by rw[aW];exact T.Cp.M
theorem Uy (T:Txt K mg a):c8 K (aA a "Match") "refusal" a.yh:=by rw[aY];exact T.Ov.M
theorem Uz (T:Txt K mg a):c8 K (aA a "Match") "begin" a.yi:=by rw[aY];exact T.Ow.M
theorem UA (T:Txt K mg a):c8 K (aA a "Innings") "out_by" a.yj:=by rw[aW];exact T.Ox.M
theorem EI (T:Txt K mg a):c8 K (aA a "Innings") "change_ends" a.JD:=by rw[aW];exact T.Oz.M
theorem Hw (T:Txt K mg a):c8 K (aA a "Innings") "leave" a.yk:=by rw[aW];exact T.Hi.M
theorem acp (T:Txt K mg a):c8 K (aA a "Innings") "fall" a.JE:=by rw[aW];exact T.acf.M
theorem acq (T:Txt K mg a):c8 K (aA a "Innings") "count_fair" a.JF:=by rw[aW];exact T.acg.M
theorem UB (T:Txt K mg a):c8 K (aA a "Innings") "play" a.ym:=by rw[aW];exact T.OA.M
theorem UC (T:Txt K mg a):c8 K (aA a "Match") "play_ball" a.yo:=by rw[aY];exact T.OB.M
theorem acr (T:Txt K mg a):c8 K (aA a "Innings") "come_in" a.JG:=by rw[aW];exact T.ach.M
theorem acs (T:Txt K mg a):c8 K (aA a "Innings") "bowl_next" a.JH:=by rw[aW];exact T.aci.M
theorem UD (T:Txt K mg a):c8 K (aA a "Innings") "rename" a.yq:=by rw[aW];exact T.OC.M
theorem UE (T:Txt K mg a):c8 K (aA a "Match") "swap_player" a.yr:=by rw[aY];exact T.OD.M
theorem UG (T:Txt K mg a):c8 K (aA a "Match") "close" a.yt:=by rw[aY];exact T.OE.M
theorem UH (T:Txt K mg a):c8 K (aA a "Match") "do" a.yu:=by rw[aY];exact T.OF.M
theorem UI (T:Txt K mg a):c8 K (aA a "Innings") "has_left" a.yv:=by rw[aW];exact T.OG.M
theorem UJ (T:Txt K mg a):c8 K (aA a "Match") "ending_due" a.yw:=by rw[aY];exact T.OH.M
theorem z_ (T:Txt K mg a):c8 K (aA a "Match") "tell" a.yx:=by rw[aY];exact T.Cq.M
theorem acu (T:Txt K mg a):c8 K (aA a "Book") "tell" a.JI:=by rw[ic];exact T.acj.M
theorem acv (T:Txt K mg a):c8 K (aA a "Book") "entries" a.JJ:=by rw[ic];exact T.ack.M
theorem UK (T:Txt K mg a):c8 K (aA a "Match") "log" a.yy:=by rw[aY];exact T.OI.M
theorem acw (T:Txt K mg a):c8 K (aA a "Book") "match" a.JK:=by rw[ic];exact T.acm.M
end
local macro_rules
 | `(tactic|simp?[$x,*])=>`(tactic|simp only[↓bp,bx,simprocAttr,$x,*])
local macro_rules
 | `(tactic|exists $es,*)=>`(tactic|repeat' first|exact aaE _|exact aaF|exact aaG|exact aaQ|refine Sv ?_ ?_|refine SR ?_ ?_|refine aa6 ?_|exact aa5|refine ahC ?_ ?_|refine aa7 ?_|refine ahJ ?_ ?_ ?_|refine anR _ (by assumption) ?_|refine kF (by first|exact ahz|exact ahA|exact M7|exact M8|exact ahu|exact ahv|exact ahB|exact GG) ?_ ?_ (Dz _)|refine aaS ?_|refine aaI (by first|exact ahx|exact aht|exact ahs|exact ahr|exact ahw|exact apG) ?_ ?_|refine SS ?_|exact aaH|exact ahl|refine aaT ?_|refine Sw ?_|refine ahD ?_ ?_ ?_|refine SG ?_|exact SE|refine aaP ?_ ?_ ?_|refine qj (by first|exact ahz|exact ahA|exact M7|exact M8|exact ahu|exact ahv|exact ahB|exact GG) ?_ ?_ (Dz _)|refine aaM ?_ ?_|refine Ss ?_|refine ahn ?_ ?_|refine aaL ?_|refine aaN ?_|refine aaO ?_ ?_|refine aho ?_ ?_|refine SY ?_|refine aa9 ?_ ?_|refine aa3 ?_ ?_|refine Nh ?_ ?_|exact SQ|exact Tc|refine Td ?_|refine ahm ahy ?_|refine aaK ?_ $[| refine $es]* | refine aaJ ?_|refine MW.t ?_)
section
variable {P:Program}{w:World}{K:W.Frag}{mg:Str->Option Value}{base:Heap}{a:Ad}
noncomputable abbrev OQ:List Str:=["_law_script","_law_most","_law_cells","_law_k","_law_cell"]
theorem Aa:aq OQ ["_law_script","_law_most"] (aj Wh):=fF
noncomputable def Hx:Fn:=lA (dF OQ (ao (aR 2 (nI ak))
   (ao (wz (mEn 0 (af (aa 0) ak)) (mD 2 (gE (cI 3) (gE (cI 4) tX)))
   (cP (mB (ai zu (aa 3) (aa 1)))
   (c_ (lQ Aw o6 (aa 2) (af (aa 4) ak)))
   (aa4 (ai cT (ai qo (ai bJ (aa 2) (ai oW (aa 3) (aa 1))) (mC (.int 31))) (aa 4)) (aa2 (aa 2) (ai oW (aa 3) (aa 1))))))
   (aI (aa 2)))))
theorem acy (T:Txt K mg a):aO P w K mg base eB 2 a.Bx a.uf ["_law_script","_law_most"] (dO K (aA a) 2 Hx):=
 aO.pure (bh T.W8.F Aa λ_ _ _ _ _ _=>(by have:=Aa.nd;exists (mE zbB ?_ ?_ ?_),(S9 T.Cg ?_),(nW (n:=2) ?_),(gy 3 Aa.nd),(gy 4 Aa.nd),(i8 zaB zaI zaJ iF gD ?_ ?_)))
noncomputable abbrev Xu:List Str:=["_law_cell","_law_at","_law_many","_law_k"]
theorem EJ:aq Xu ["_law_cell","_law_at","_law_many"] (aj Wi):=fF
noncomputable def Hy:Fn:=dF Xu (ao (wz (o9 (af (aa 1) ak)) (cI 3)
   (aR 0 (ai Sx (aa 0) (mC (.int 60)))))
   (aI (ai oW (aa 0) (aa 2))))
theorem acz (T:Txt K mg a):aO P w K mg base eB 2 a.BA a.ug ["_law_cell","_law_at","_law_many"] (dO K (aA a) 3 Hy):=
 bh T.W9.F EJ λ_ _ _ _ _ _=>(by have:=EJ.nd;exists (mE zbB ?_ ?_ ?_),(o_ T.pD ?_),(gy 3 EJ.nd))
noncomputable abbrev Xv:List Str:=["_law_script","_law_k","_law_many","_law_cell","_law_number"]
theorem OR:aq Xv ["_law_script","_law_k","_law_many"] (aj Wj):=fF
noncomputable def cK:Fn:=dF Xv (ao (aR 3 (mC (.int 0)))
   (ao (cP (mB (ai D9 (bZ gx (af (aa 0) ak)) (mC (.int 0))))
   (aR 3 (ai bJ (aa 0) (ai oW (aa 1) (bZ gx (af (aa 0) ak)))))
   aH)
   (ao (cP (mB (ai (c7 false) (ai oW (bZ gx (af (aa 0) ak)) (mC (.int 2))) (mC (.int 1))))
   (aI (e9 3 Hy (af (aa 3) (af (ai oW (ai Sx (aa 1) (bZ gx (af (aa 0) ak))) (mC (.int 20))) (af (aa 2) ak)))))
   aH)
   (ao (aR 4 (ai oW (ai qo (ai cT (ai cT (ai oW (aa 3) (mC (.int 2147483647))) (ai qo (mC (.int 7)) (aa 1))) (mC (.int 3))) (ai cT (mC (.int 48271)) (ai qo (ai qo (mC (.int 1103)) (aa 1)) (aa 1)))) (mC (.int 2147483629))))
   (aI (ai oW (ai Sx (aa 4) (mC (.int 64))) (aa 2)))))))
theorem qI (T:Txt K mg a):aO P w K mg base eB 3 a.BB a.uh ["_law_script","_law_k","_law_many"] (dO K (aA a) 3 cK):=
 bh T.vG.F OR λ_ _ _ _ _ _=>(by have:=OR.nd;exists (dJ mz T.mH zbg ?_),(cU (acz T) T.W9 ?_))
noncomputable abbrev Xw:List Str:=["_law_script","_law_over","_law_overs","_law_spell","_law_follow","_law_beside","_law_side","_law_turns"]
theorem OS:aq Xw ["_law_script"] (aj Wk):=fF
noncomputable def Hz:Fn:=dF Xw (ao (aR 1 (ai cT (mC (.int 1)) (e9 3 cK (af (aa 0) (af (mC (.int 900)) (af (mC (.int 3)) ak))))))
   (ao (aR 2 (ai bJ (kI (af (mC (.int 0)) (af (mC (.int 1)) (af (mC (.int 2)) (af (mC (.int 3)) (af (mC (.int 4)) ak)))))) (e9 3 cK (af (aa 0) (af (mC (.int 901)) (af (mC (.int 5)) ak))))))
   (ao (aR 3 (ai bJ (kI (af (mC (.int 0)) (af (mC (.int 0)) (af (mC (.int 1)) (af (mC (.int 2)) ak))))) (e9 3 cK (af (aa 0) (af (mC (.int 902)) (af (mC (.int 4)) ak))))))
   (ao (aR 4 (ai bJ (kI (af (mC (.int 0)) (af (mC (.int 1)) (af (mC (.int 3)) (af (mC (.int 8)) ak))))) (e9 3 cK (af (aa 0) (af (mC (.int 903)) (af (mC (.int 4)) ak))))))
   (ao (aR 5 (cZ (af (e9 3 cK (af (aa 0) (af (mC (.int 904)) (af (mC (.int 3)) ak)))) (af (e9 3 cK (af (aa 0) (af (mC (.int 905)) (af (mC (.int 3)) ak)))) ak))))
   (ao (aR 6 (ai bJ (kI (af (mC (.int 2)) (af (mC (.int 3)) (af (mC (.int 4)) (af (mC (.int 2)) (af (mC (.int 3)) (af (mC (.int 4)) (af (mC (.int 9)) (af (mC (.int 11)) ak))))))))) (e9 3 cK (af (aa 0) (af (mC (.int 906)) (af (mC (.int 8)) ak))))))
   (ao (aR 7 (ai cT (mC (.int 1)) (e9 3 cK (af (aa 0) (af (mC (.int 907)) (af (mC (.int 2)) ak))))))
   (aI (cZ (af (aa 1) (af (aa 2) (af (aa 3) (af (ai bJ (aa 5) (mC (.int 0))) (af (ai bJ (aa 5) (mC (.int 1))) (af (aa 6) (af (aa 7) (af (aa 4) ak)))))))))))))))))
theorem acA (T:Txt K mg a):aO P w K mg base eB 4 a.BC a.um ["_law_script"] (dO K (aA a) 1 Hz):=
 bh T.W_.F OS λ_ _ _ _ _ _=>(by have:=OS.nd;exists (cU (qI T) T.vG ?_))
noncomputable abbrev Xx:List Str:=["_law_script","_law_side","_law_letters","_law_ahead","_law_behind","_law_first","_law_names","_law_others"]
theorem Ab:aq Xx ["_law_script","_law_side"] (aj G4):=fF
noncomputable def HA:Fn:=dF Xx (ao (aR 2 (mC (.str "bcdfghjkmnpqvwxz")))
   (ao (aR 3 (ai qo (mC (.str "zq")) (e9 3 cK (af (aa 0) (af (mC (.int 908)) (af (mC (.int 2)) ak))))))
   (ao (aR 4 (V0 GI (mC (.str "vzb")) o4 (oZ (e9 3 cK (af (aa 0) (af (mC (.int 909)) (af (mC (.int 4)) ak)))))))
   (ao (aR 5 (e9 3 cK (af (aa 0) (af (mC (.int 910)) (af (mC (.int 16)) ak)))))
   (ao (aR 6 (fQ (o9 (af (mC (.int 16)) ak)) [4,3,2,5] 1 (cI 4) iN (ai cT (ai cT (aa 1) (ai bJ (aa 2) (ai oW (ai cT (aa 3) (aa 4)) (mC (.int 16))))) (aa 0))))
   (ao (aR 7 (V0 GI (aa 6) (oZ (mC (.int 6))) (oZ (ai cT (mC (.int 6)) (aa 1)))))
   (ao (cP (mB (ai D9 (aa 1) (mC (.int 4))))
   (aR 7 (fQ (tY iL (V0 GI (aa 6) o4 (oZ (aa 1)))) [] 1 (cI 0) iN (ai cT (aa 0) (mC (.str "x")))))
   aH)
   (aI (kI (af (cZ (af (ai bJ (aa 6) (mC (.int 12))) (af (V0 GI (aa 6) o4 (oZ (aa 1))) ak))) (af (cZ (af (ai bJ (aa 6) (mC (.int 13))) (af (aa 7) ak))) ak)))))))))))
theorem acB (T:Txt K mg a):aO P w K mg base eB 4 a.BD a.uo ["_law_script","_law_side"] (dO K (aA a) 2 HA):=
 bh T.Xa.F Ab λ_ _ _ _ _ _=>(by have:=Ab.nd;exists (cU (qI T) T.vG ?_),(r_ (target:=.Name "_law_k" _) (i0:=6) (F:=["_law_behind","_law_ahead","_law_letters","_law_first"]) (T:=["_law_k"]) (fr:=[4,3,2,5]) (G3 G4 (by decide +kernel)) ?_ (λ_ _ _ _ _=>?_) (λ_ _ _ _ _=>?_) (λ_ _ _ _ _=>?_) Ab.nd rfl rfl rfl),(o_ T.pD ?_),(gy 4 (show (["_law_behind","_law_ahead","_law_letters","_law_first","_law_k"]:List Str).Nodup by decide +kernel)),(r_ (target:=.Name "_law_name" _) (i0:=7) (F:=[]) (T:=["_law_name"]) (fr:=[]) (G3 G4 (by decide +kernel)) ?_ (λ_ _ _ _ _=>?_) (λ_ _ _ _ _=>?_) (λ_ _ _ _ _=>?_) Ab.nd rfl rfl rfl),(gy 0 (show (["_law_name"]:List Str).Nodup by decide +kernel)))
noncomputable abbrev Xy:List Str:=["teams","word","names","name","players"]
theorem Ac:aq Xy ["teams","word"] (aj Oa):=fF
noncomputable def vL:Fn:=dF Xy (ao (cP (mB (ai (c7 false) (aa 1) (mC (.str "team"))))
   (aI (fQ (tY iL (aa 0)) [] 2 (mD 2 (gE (cI 0) (gE (cI 1) tX))) iN (aa 0)))
   aH)
   (ao (aR 2 (nI ak))
   (ao (wz (tY iL (aa 0)) (mD 2 (gE (cI 3) (gE (cI 4) tX)))
   (c_ (lQ Aw SM (aa 2) (af (aa 4) ak))))
   (aI (aa 2)))))
theorem OT (T:Txt K mg a):aO P w K mg base eB 2 a.BE a.uq ["teams","word"] (dO K (aA a) 2 vL):=
 bh T.Oj.F Ac λ_ _ _ _ _ _=>(by have:=Ac.nd;exists (iQ (F:=[]) (T:=["name","players"]) (fr:=[]) (G3 Oa (by decide +kernel)) ?_ (λ_ _ _ _ _=>?_) (λ_ _ _ _ _=>?_) (λ_ _ _ _ _=>?_)),(nW (n:=2) ?_),(gy 0 (show (["name","players"]:List Str).Nodup by decide +kernel)),(gy 1 (show (["name","players"]:List Str).Nodup by decide +kernel)),(mE zbB ?_ ?_ ?_),(gy 3 Ac.nd),(gy 4 Ac.nd),(i8 zaB PySem.F.slot_list_extend PySem.F.type_list_extend iF Nf ?_ ?_))
noncomputable abbrev Xz:List Str:=["self","rules","teams"]
theorem OU:aq Xz ["self","rules","teams"] (aj Ob):=fF
noncomputable def pJ:Fn:=dF Xz (ao (b9 ["Match"] "rules" (aa 0) (aa 1))
   (ao (b9 ["Match"] "sides" (aa 0) (fQ (tY iL (aa 2)) [] 2 (mD 2 (gE (cI 0) (gE (cI 1) tX))) iN (cZ (af (aa 0) (af (bZ tW (af (aa 1) ak)) ak)))))
   (ao (b9 ["Match"] "known" (aa 0) (e9 2 vL (af (aa 2) (af (mC (.str "player")) ak))))
   (ao (b9 ["Match"] "played" (aa 0) (nI ak))
   (ao (b9 ["Match"] "followed" (aa 0) (mC (.bl false)))
   (ao (b9 ["Match"] "closed" (aa 0) (mC (.bl false)))
   (b9 ["Match"] "balls_told" (aa 0) (nI ak))))))))
theorem Ae (T:Txt K mg a):aO P w K mg base eB 3 a.ue a.ur ["self","rules","teams"] (dO K (aA a) 3 pJ):=
 bh T.Cm.F OU λ_ _ _ _ _ _=>(by have:=OU.nd;exists (aZ (qH T) ?_ ?_),(aZ (g5 T) ?_ ?_),(iQ (F:=[]) (T:=["name","players"]) (fr:=[]) (G3 Ob (by decide +kernel)) ?_ (λ_ _ _ _ _=>?_) (λ_ _ _ _ _=>?_) (λ_ _ _ _ _=>?_)),(nW (n:=2) ?_),(gy 0 (show (["name","players"]:List Str).Nodup by decide +kernel)),(gy 1 (show (["name","players"]:List Str).Nodup by decide +kernel)),(gX zx T.qE zbv ?_),(aZ (EE T) ?_ ?_),(cU (OT T) T.Oj ?_),(aZ (jb T) ?_ ?_),(aZ (zX T) ?_ ?_),(aZ (zY T) ?_ ?_),(aZ (EF T) ?_ ?_))
noncomputable abbrev XA:List Str:=["self"]
theorem OV:aq XA ["self"] (aj Wl):=fF
noncomputable def jc:Fn:=dF XA (ao (cP (Dh (mB (ai (c7 false) (bZ gx (af (a_ ["Match"] "played" (aa 0)) ak)) (mC (.int 0)))) (mB (ai (c7 true) (a_ ["Innings"] "ending" (ai bJ (a_ ["Match"] "played" (aa 0)) (mUn D_ (mC (.int 1))))) (mC (.str "")))))
   (aI (mC .bB))
   aH)
   (aI (ai bJ (a_ ["Match"] "played" (aa 0)) (mUn D_ (mC (.int 1))))))
theorem iI (T:Txt K mg a):aO P w K mg base eB 2 a.xQ a.uv ["self"] (dO K (aA a) 1 jc):=
 bh T.jz.F OV λ_ _ _ _ _ _=>(by have:=OV.nd;exists (dJ mz T.mH zbg ?_),(az (jb T) ?_),(az (qG T) ?_))
noncomputable abbrev XC:List Str:=["self"]
theorem OW:aq XC ["self"] (aj Wm):=fF
noncomputable def vM:Fn:=dF XC (aI (ai qo (mC (.int 2)) (ai bJ (a_ ["Match"] "rules" (aa 0)) (mC (.int 6)))))
theorem EK (T:Txt K mg a):aO P w K mg base eB 2 a.xR a.uw ["self"] (dO K (aA a) 1 vM):=
 bh T.Cn.F OW λ_ _ _ _ _ _=>(by have:=OW.nd;exists (c9 T.pG),(az (qH T) ?_),(c9 T.zU))
noncomputable abbrev XD:List Str:=["self","side"]
theorem OX:aq XD ["self","side"] (aj Oc):=fF
noncomputable def Cv:Fn:=lA (dF XD (aI (bZ SH (af (fQ (tY iL (a_ ["Match"] "played" (aa 0))) [1] 1 (cI 1) (mB (ai (c7 false) (a_ ["Innings"] "side" (aa 1)) (aa 0))) (a_ ["Innings"] "total" (aa 1))) ak))))
theorem acC (T:Txt K mg a):aO P w K mg base eB 2 a.xS a.ux ["self","side"] (dO K (aA a) 2 Cv):=
 aO.pure (bh T.Ol.F OX λ_ _ _ _ _ _=>(by have:=OX.nd;exists (dJ ahE T.ai6 PyProof.Rows.boot_sum ?_),(iQ (F:=["side"]) (T:=["innings"]) (fr:=[1]) (G3 Oc (by decide +kernel)) ?_ (λ_ _ _ _ _=>?_) (λ_ _ _ _ _=>?_) (λ_ _ _ _ _=>?_)),(az (jb T) ?_),(gy 1 (show (["side","innings"]:List Str).Nodup by decide +kernel)),(az (kU T) ?_),(az (vJ T) ?_)))
noncomputable abbrev XE:List Str:=["self","side"]
theorem OY:aq XE ["self","side"] (aj Wn):=fF
noncomputable def vN:Fn:=dF XE (aI (ai dS (aJ "Match" "total_of" 2 Cv (aa 0) (af (aa 1) ak)) (aJ "Match" "total_of" 2 Cv (aa 0) (af (ai dS (mC (.int 1)) (aa 1)) ak))))
theorem Af (T:Txt K mg a):aO P w K mg base eB 3 a.xT a.uy ["self","side"] (dO K (aA a) 2 vN):=
 bh T.yz.F OY λ_ _ _ _ _ _=>(by have:=OY.nd;exists (bM (ay T) (Ut T) (acC T) (by decide) T.Ol.b aB ?_ ?_))
noncomputable abbrev XF:List Str:=["self","count"]
theorem OZ:aq XF ["self"] (aj Wo):=fF
noncomputable def yF:Fn:=dF XF (ao (cP (mB (a_ ["Match"] "closed" (aa 0)))
   (aI (mC (.bl true)))
   aH)
   (ao (cP (mB (ai (jk true) (aJ "Match" "going" 1 jc (aa 0) ak) (mC .bB)))
   (aI (mC (.bl false)))
   aH)
   (ao (aR 1 (bZ gx (af (a_ ["Match"] "played" (aa 0)) ak)))
   (ao (cP (lO (mB (ai (c7 false) (aa 1) (ai dS (mC (.int 4)) (mC (.int 1))))) (mB (ai (c7 false) (aJ "Match" "most_innings" 1 vM (aa 0) ak) (mC (.int 4)))))
   (aI (ai zu (aJ "Match" "lead_of" 2 vN (aa 0) (af (a_ ["Innings"] "side" (ai bJ (a_ ["Match"] "played" (aa 0)) (mUn D_ (mC (.int 1))))) ak)) (mC (.int 0))))
   aH)
   (aI (ai gGe (aa 1) (aJ "Match" "most_innings" 1 vM (aa 0) ak)))))))
theorem EL (T:Txt K mg a):aO P w K mg base eB 4 a.xU a.uz ["self"] (dO K (aA a) 1 yF):=
 bh T.Co.F OZ λ_ _ _ _ _ _=>(by have:=OZ.nd;exists (az (zY T) ?_),(aK (ay T) (gb T) (iI T) (by decide) T.jz.b aB ?_),(dJ mz T.mH zbg ?_),(az (jb T) ?_),(c9 T.pF),(aK (ay T) (z7 T) (EK T) (by decide) T.Cn.b aB ?_),(bM (ay T) (se T) (Af T) (by decide) T.yz.b aB ?_ ?_),(az (kU T) ?_))
noncomputable abbrev XG:List Str:=["self","lead"]
theorem O0:aq XG ["self"] (aj Wq):=fF
noncomputable def Cw:Fn:=lA (dF XG (ao (cP (tO (mB (aJ "Match" "is_done" 1 yF (aa 0) ak)))
   (aI (mC .bB))
   aH)
   (ao (cP (mB (a_ ["Match"] "closed" (aa 0)))
   (aI (cZ (af (mC (.str "closed")) ak)))
   aH)
   (ao (aR 1 (aJ "Match" "lead_of" 2 vN (aa 0) (af (mC (.int 0)) ak)))
   (ao (cP (mB (ai (c7 false) (aa 1) (mC (.int 0))))
   (aI (cZ (af (mC (.str "tie")) ak)))
   aH)
   (aI (cZ (af (mC (.str "won")) (af (ai bJ (ai bJ (a_ ["Match"] "sides" (aa 0)) (Di (mB (ai D9 (aa 1) (mC (.int 0)))) (mC (.int 0)) (mC (.int 1)))) (mC (.int 0))) ak)))))))))
theorem O1 (T:Txt K mg a):aO P w K mg base eB 5 a.xV a.uA ["self"] (dO K (aA a) 1 Cw):=
 aO.pure (bh T.G7.F O0 λ_ _ _ _ _ _=>(by have:=O0.nd;exists (aK (ay T) (z8 T) (EL T) (by decide) T.Co.b aB ?_),(az (zY T) ?_),(bM (ay T) (se T) (Af T) (by decide) T.yz.b aB ?_ ?_),(az (g5 T) ?_)))
noncomputable abbrev XH:List Str:=["self","going","who"]
theorem O2:aq XH ["self"] (aj Wr):=fF
noncomputable def Cy:Fn:=lA (dF XH (ao (aR 1 (aJ "Match" "going" 1 jc (aa 0) ak))
   (ao (cP (mB (ai (jk false) (aa 1) (mC .bB)))
   (aI (mC .bB))
   aH)
   (ao (aR 2 (cZ (af (ai bJ (ai bJ (a_ ["Match"] "sides" (aa 0)) (a_ ["Innings"] "side" (aa 1))) (mC (.int 0))) (af (a_ ["Innings"] "facing" (aa 1)) (af (a_ ["Innings"] "other" (aa 1)) (af (a_ ["Innings"] "bowler" (aa 1)) ak))))))
   (aI (ai cT (aa 2) (cZ (af (a_ ["Innings"] "total" (aa 1)) (af (a_ ["Innings"] "wickets" (aa 1)) (af (a_ ["Innings"] "overs" (aa 1)) (af (a_ ["Innings"] "balls" (aa 1)) ak)))))))))))
theorem O3 (T:Txt K mg a):aO P w K mg base eB 3 a.xW a.uB ["self"] (dO K (aA a) 1 Cy):=
 aO.pure (bh T.G8.F O2 λ_ _ _ _ _ _=>(by have:=O2.nd;exists (aK (ay T) (gb T) (iI T) (by decide) T.jz.b aB ?_),(az (g5 T) ?_),(az (kU T) ?_),(az (iH T) ?_),(az (mJ T) ?_),(az (kW T) ?_),(az (vJ T) ?_),(az (zW T) ?_),(az (qF T) ?_),(az (oh T) ?_)))
noncomputable abbrev XI:List Str:=["self"]
theorem O4:aq XI ["self"] (aj Od):=fF
noncomputable def Cz:Fn:=dF XI (aI (fQ (tY iL (a_ ["Match"] "sides" (aa 0))) [] 2 (mD 2 (gE (cI 0) (gE (cI 1) tX))) iN (cZ (af (aa 0) (af (bZ tW (af (aa 1) ak)) ak)))))
theorem O5 (T:Txt K mg a):aO P w K mg base eB 2 a.xX a.uC ["self"] (dO K (aA a) 1 Cz):=
 bh T.G9.F O4 λ_ _ _ _ _ _=>(by have:=O4.nd;exists (iQ (F:=[]) (T:=["name","players"]) (fr:=[]) (G3 Od (by decide +kernel)) ?_ (λ_ _ _ _ _=>?_) (λ_ _ _ _ _=>?_) (λ_ _ _ _ _=>?_)),(az (g5 T) ?_),(nW (n:=2) ?_),(gy 0 (show (["name","players"]:List Str).Nodup by decide +kernel)),(gy 1 (show (["name","players"]:List Str).Nodup by decide +kernel)),(gX zx T.qE zbv ?_))
noncomputable abbrev XJ:List Str:=["self","told","one"]
theorem EM:aq XJ ["self"] (aj Ws):=fF
noncomputable def CA:Fn:=lA (dF XJ (ao (aR 1 (nI ak))
   (ao (wz (tY iL (a_ ["Match"] "played" (aa 0))) (cI 2)
   (c_ (lQ Aw o6 (aa 1) (af (cZ (af (ai bJ (ai bJ (a_ ["Match"] "sides" (aa 0)) (a_ ["Innings"] "side" (aa 2))) (mC (.int 0))) (af (a_ ["Innings"] "total" (aa 2)) (af (a_ ["Innings"] "wickets" (aa 2)) (af (a_ ["Innings"] "overs" (aa 2)) (af (a_ ["Innings"] "balls" (aa 2)) (af (a_ ["Innings"] "ending" (aa 2)) ak))))))) ak))))
   (aI (aa 1)))))
theorem O6 (T:Txt K mg a):aO P w K mg base eB 2 a.xY a.uD ["self"] (dO K (aA a) 1 CA):=
 aO.pure (bh T.G_.F EM λ_ _ _ _ _ _=>(by have:=EM.nd;exists (mE zbB ?_ ?_ ?_),(az (jb T) ?_),(gy 2 EM.nd),(i8 zaB zaI zaJ iF gD ?_ ?_),(az (g5 T) ?_),(az (kU T) ?_),(az (vJ T) ?_),(az (zW T) ?_),(az (qF T) ?_),(az (oh T) ?_),(az (qG T) ?_)))
noncomputable abbrev XM:List Str:=["self","last"]
theorem O7:aq XM ["self"] (aj Wt):=fF
noncomputable def CB:Fn:=dF XM (ao (cP (Dh (mB (ai (c7 false) (bZ gx (af (a_ ["Match"] "played" (aa 0)) ak)) (mC (.int 0)))) (Dh (mB (ai (jk true) (aJ "Match" "going" 1 jc (aa 0) ak) (mC .bB))) (mB (aJ "Match" "is_done" 1 yF (aa 0) ak))))
   (aI (mC .bB))
   aH)
   (ao (aR 1 (a_ ["Innings"] "side" (ai bJ (a_ ["Match"] "played" (aa 0)) (mUn D_ (mC (.int 1))))))
   (ao (cP (lO (mB (a_ ["Match"] "followed" (aa 0))) (mB (ai (c7 false) (bZ gx (af (a_ ["Match"] "played" (aa 0)) ak)) (mC (.int 2)))))
   (aI (aa 1))
   aH)
   (aI (ai dS (mC (.int 1)) (aa 1))))))
theorem O8 (T:Txt K mg a):aO P w K mg base eB 5 a.xZ a.uE ["self"] (dO K (aA a) 1 CB):=
 bh T.Hf.F O7 λ_ _ _ _ _ _=>(by have:=O7.nd;exists (dJ mz T.mH zbg ?_),(az (jb T) ?_),(aK (ay T) (gb T) (iI T) (by decide) T.jz.b aB ?_),(aK (ay T) (z8 T) (EL T) (by decide) T.Co.b aB ?_),(az (kU T) ?_),(az (zX T) ?_))
noncomputable abbrev XN:List Str:=["self","side"]
theorem O9:aq XN ["self"] (aj Wu):=fF
noncomputable def vO:Fn:=dF XN (ao (aR 1 (aJ "Match" "next_side" 1 CB (aa 0) ak))
   (aI (Di (mB (ai (jk false) (aa 1) (mC .bB))) (mC (.str "")) (ai bJ (ai bJ (a_ ["Match"] "sides" (aa 0)) (aa 1)) (mC (.int 0))))))
theorem O_ (T:Txt K mg a):aO P w K mg base eB 6 a.x_ a.uF ["self"] (dO K (aA a) 1 vO):=
 bh T.Hg.F O9 λ_ _ _ _ _ _=>(by have:=O9.nd;exists (aK (ay T) (Ht T) (O8 T) (by decide) T.Hf.b aB ?_),(az (g5 T) ?_))
noncomputable abbrev XO:List Str:=["_law_script","_law_k","_law_state","_law_kind","_law_runs","_law_way","_law_who","_law_end","_law_out"]
theorem Pa:aq XO ["_law_script","_law_k","_law_state"] (aj Wv):=fF
noncomputable def CD:Fn:=dF XO (ao (aR 3 (ai bJ (kI (af (mC (.str "bat")) (af (mC (.str "bat")) (af (mC (.str "bat")) (af (mC (.str "bye")) (af (mC (.str "leg")) (af (mC (.str "wide")) (af (mC (.str "no")) (af (mC (.str "nobye")) ak))))))))) (e9 3 cK (af (aa 0) (af (aa 1) (af (mC (.int 8)) ak))))))
   (ao (aR 4 (ai bJ (kI (af (mC (.int 0)) (af (mC (.int 0)) (af (mC (.int 1)) (af (mC (.int 1)) (af (mC (.int 2)) (af (mC (.int 3)) (af (mC (.int 4)) (af (mC (.int 6)) ak))))))))) (e9 3 cK (af (aa 0) (af (ai cT (aa 1) (mC (.int 1))) (af (mC (.int 8)) ak))))))
   (ao (aR 5 (e9 3 cK (af (aa 0) (af (ai cT (aa 1) (mC (.int 2))) (af (mC (.int 9)) ak)))))
   (ao (cP (mB (ai (c7 false) (aa 5) (mC (.int 0))))
   (ao (aR 6 (ai bJ (kI (af (ai bJ (aa 2) (mC (.int 1))) (af (ai bJ (aa 2) (mC (.int 2))) ak))) (e9 3 cK (af (aa 0) (af (ai cT (aa 1) (mC (.int 3))) (af (mC (.int 2)) ak))))))
   (ao (aR 7 (ai bJ (kI (af (mC (.str "strike")) (af (mC (.str "other")) ak))) (e9 3 cK (af (aa 0) (af (ai cT (aa 1) (mC (.int 4))) (af (mC (.int 2)) ak))))))
   (aI (cZ (af (mC (.str "ball")) (af (aa 3) (af (aa 4) (af (mC (.bl false)) (af (mC (.str "run")) (af (aa 6) (af (aa 7) ak)))))))))))
   aH)
   (ao (cP (mB (ai zu (aa 5) (mC (.int 3))))
   (ao (aR 8 (ai bJ (kI (af (mC (.str "bowled")) (af (mC (.str "caught")) (af (mC (.str "before")) (af (mC (.str "stumped")) (af (mC (.str "hit")) ak)))))) (e9 3 cK (af (aa 0) (af (ai cT (aa 1) (mC (.int 3))) (af (mC (.int 5)) ak))))))
   (aI (cZ (af (mC (.str "ball")) (af (mC (.str "bat")) (af (mC (.int 0)) (af (mC (.bl false)) (af (aa 8) (af (mC (.str "")) (af (mC (.str "")) ak))))))))))
   aH)
   (aI (cZ (af (mC (.str "ball")) (af (aa 3) (af (aa 4) (af (ai (c7 false) (e9 3 cK (af (aa 0) (af (ai cT (aa 1) (mC (.int 3))) (af (mC (.int 4)) ak)))) (mC (.int 0))) (af (mC (.str "")) (af (mC (.str "")) (af (mC (.str "")) ak))))))))))))))
theorem Pb (T:Txt K mg a):aO P w K mg base eB 4 a.BF a.uG ["_law_script","_law_k","_law_state"] (dO K (aA a) 3 CD):=
 bh T.Om.F Pa λ_ _ _ _ _ _=>(by have:=Pa.nd;exists (cU (qI T) T.vG ?_))
noncomputable abbrev XQ:List Str:=["_law_script","_law_k","_law_teams_here","_law_match","_law_state","_law_now","_law_at","_law_order","_law_one","_law_fielders","_law_other","_law_fielder","_law_odd_here","_law_there","_law_players","_law_new"]
theorem EN:aq XQ ["_law_script","_law_k","_law_teams_here","_law_match"] (aj Oe):=fF
noncomputable def CF:Fn:=dF XQ (ao (aR 4 (aJ "Match" "state" 1 Cy (aa 3) ak))
   (ao (aR 5 (aJ "Match" "players" 1 Cz (aa 3) ak))
   (ao (cP (mB (ai (jk false) (aa 4) (mC .bB)))
   (ao (cP (lO (mB (ai (c7 false) (bZ gx (af (aJ "Match" "innings" 1 CA (aa 3) ak) ak)) (mC (.int 2)))) (mB (ai (c7 false) (e9 3 cK (af (aa 0) (af (aa 1) (af (mC (.int 2)) ak)))) (mC (.int 0)))))
   (aI (cZ (af (mC (.str "follow")) ak)))
   aH)
   (ao (aR 6 (e9 3 cK (af (aa 0) (af (ai cT (aa 1) (mC (.int 1))) (af (mC (.int 2)) ak)))))
   (ao (cP (mB (ai (c7 true) (aJ "Match" "turn" 1 vO (aa 3) ak) (mC (.str ""))))
   (aR 6 (lQ Aw qv (kI (af (ai bJ (ai bJ (aa 5) (mC (.int 0))) (mC (.int 0))) (af (ai bJ (ai bJ (aa 5) (mC (.int 1))) (mC (.int 0))) ak))) (af (aJ "Match" "turn" 1 vO (aa 3) ak) ak)))
   aH)
   (ao (aR 7 (ai bJ (ai bJ (aa 5) (aa 6)) (mC (.int 1))))
   (ao (aR 8 (e9 3 cK (af (aa 0) (af (ai cT (aa 1) (mC (.int 2))) (af (bZ gx (af (aa 7) ak)) ak)))))
   (ao (aR 9 (ai bJ (ai bJ (aa 5) (ai dS (mC (.int 1)) (aa 6))) (mC (.int 1))))
   (ao (aR 10 (ai bJ (aa 7) (ai oW (ai cT (aa 8) (mC (.int 1))) (bZ gx (af (aa 7) ak)))))
   (ao (aR 11 (ai bJ (aa 9) (e9 3 cK (af (aa 0) (af (ai cT (aa 1) (mC (.int 3))) (af (bZ gx (af (aa 9) ak)) ak))))))
   (aI (cZ (af (mC (.str "start")) (af (ai bJ (ai bJ (aa 5) (aa 6)) (mC (.int 0))) (af (ai bJ (aa 7) (aa 8)) (af (aa 10) (af (aa 11) ak)))))))))))))))
   aH)
   (ao (aR 6 (lQ Aw qv (kI (af (ai bJ (ai bJ (aa 5) (mC (.int 0))) (mC (.int 0))) (af (ai bJ (ai bJ (aa 5) (mC (.int 1))) (mC (.int 0))) ak))) (af (ai bJ (aa 4) (mC (.int 0))) ak)))
   (ao (aR 12 (e9 3 cK (af (aa 0) (af (ai cT (aa 1) (mC (.int 4))) (af (mC (.int 40)) ak)))))
   (ao (cP (mB (ai (c7 false) (aa 12) (mC (.int 0))))
   (aI (cZ (af (mC (.str "declare")) ak)))
   aH)
   (ao (aR 13 (fQ (tY iT (V0 GI (aa 4) (oZ (mC (.int 1))) (oZ (mC (.int 3))))) [] 1 (cI 0) (mB (ai (c7 true) (aa 0) (mC (.str "")))) (aa 0)))
   (ao (cP (lO (mB (ai (c7 false) (aa 12) (mC (.int 1)))) (mB (ai (Bv true) (aa 13) (kI ak))))
   (aI (cZ (af (mC (.str "hurt")) (af (ai bJ (aa 13) (ai oW (e9 3 cK (af (aa 0) (af (ai cT (aa 1) (mC (.int 5))) (af (mC (.int 2)) ak)))) (bZ gx (af (aa 13) ak)))) ak))))
   aH)
   (ao (cP (mB (ai (c7 false) (aa 12) (mC (.int 2))))
   (ao (aR 14 (ai cT (ai bJ (ai bJ (aa 5) (mC (.int 0))) (mC (.int 1))) (ai bJ (ai bJ (aa 5) (mC (.int 1))) (mC (.int 1)))))
   (ao (aR 15 (ai cT (mC (.str "sw")) (ai bJ (mC (.str "abcdefgh")) (e9 3 cK (af (aa 0) (af (ai cT (aa 1) (mC (.int 6))) (af (mC (.int 8)) ak)))))))
   (aI (cZ (af (mC (.str "swap")) (af (ai bJ (aa 14) (e9 3 cK (af (aa 0) (af (ai cT (aa 1) (mC (.int 5))) (af (bZ gx (af (aa 14) ak)) ak))))) (af (aa 15) ak)))))))
   aH)
   (ao (cP (Dh (mB (ai (c7 false) (ai bJ (aa 4) (mC (.int 1))) (mC (.str "")))) (mB (ai (c7 false) (ai bJ (aa 4) (mC (.int 2))) (mC (.str "")))))
   (aI (cZ (af (mC (.str "in")) (af (ai bJ (ai bJ (ai bJ (aa 5) (aa 6)) (mC (.int 1))) (e9 3 cK (af (aa 0) (af (ai cT (aa 1) (mC (.int 5))) (af (bZ gx (af (ai bJ (ai bJ (aa 5) (aa 6)) (mC (.int 1))) ak)) ak))))) ak))))
   aH)
   (ao (cP (mB (ai (c7 false) (ai bJ (aa 4) (mC (.int 3))) (mC (.str ""))))
   (aI (cZ (af (mC (.str "bowl")) (af (ai bJ (ai bJ (ai bJ (aa 5) (ai dS (mC (.int 1)) (aa 6))) (mC (.int 1))) (e9 3 cK (af (aa 0) (af (ai cT (aa 1) (mC (.int 5))) (af (bZ gx (af (ai bJ (ai bJ (aa 5) (ai dS (mC (.int 1)) (aa 6))) (mC (.int 1))) ak)) ak))))) ak))))
   aH)
   (aI (e9 3 CD (af (aa 0) (af (ai cT (aa 1) (mC (.int 5))) (af (aa 4) ak))))))))))))))))
theorem acD (T:Txt K mg a):aO P w K mg base eB 7 a.BG a.uH ["_law_script","_law_k","_law_teams_here","_law_match"] (dO K (aA a) 4 CF):=
 bh T.Xb.F EN λ_ _ _ _ _ _=>(by have:=EN.nd;exists (aK (ay T) (Hq T) (O3 T) (by decide) T.G8.b aB ?_),(aK (ay T) (Hr T) (O5 T) (by decide) T.G9.b aB ?_),(dJ mz T.mH zbg ?_),(aK (ay T) (Hs T) (O6 T) (by decide) T.G_.b aB ?_),(cU (qI T) T.vG ?_),(aK (ay T) (Hu T) (O_ T) (by decide) T.Hg.b aB ?_),(i8 zaB PySem.F.slot_list_index PySem.F.type_list_index iF SN ?_ ?_),(r_ (i0:=13) (F:=[]) (T:=["_law_name"]) (fr:=[]) (G3 Oe (by decide +kernel)) ?_ (λ_ _ _ _ _=>?_) (λ_ _ _ _ _=>?_) (λ_ _ _ _ _=>?_) EN.nd rfl rfl rfl),(aba ?_),(gy 0 (show (["_law_name"]:List Str).Nodup by decide +kernel)),(kF aiq ?_ ?_ (Dz _)),(cU (Pb T) T.Om ?_))
noncomputable abbrev XR:List Str:=["self","team","side"]
theorem ER:aq XR ["self","team"] (aj Ww):=fF
noncomputable def CG:Fn:=dF XR (ao (wz (o9 (af (mC (.int 2)) ak)) (cI 2)
   (cP (lO (mB (ai (c7 false) (ai bJ (ai bJ (a_ ["Match"] "sides" (aa 0)) (aa 2)) (mC (.int 0))) (aa 1))) (Dh (mB (ai (c7 false) (bZ gx (af (a_ ["Match"] "played" (aa 0)) ak)) (mC (.int 0)))) (mB (ai (c7 false) (aa 2) (aJ "Match" "next_side" 1 CB (aa 0) ak)))))
   (aI (aa 2))
   aH))
   (aI (mC .bB)))
theorem Pc (T:Txt K mg a):aO P w K mg base eB 6 a.ya a.uI ["self","team"] (dO K (aA a) 2 CG):=
 bh T.Hh.F ER λ_ _ _ _ _ _=>(by have:=ER.nd;exists (mE zbB ?_ ?_ ?_),(o_ T.pD ?_),(c9 T.pG),(gy 2 ER.nd),(az (g5 T) ?_),(dJ mz T.mH zbg ?_),(az (jb T) ?_),(aK (ay T) (Ht T) (O8 T) (by decide) T.Hf.b aB ?_))
noncomputable abbrev XS:List Str:=["self","entry","side","batting","fielding"]
theorem Pd:aq XS ["self","entry"] (aj Wx):=fF
noncomputable def HB:Fn:=dF XS (ao (cP (mB (ai (jk true) (aJ "Match" "going" 1 jc (aa 0) ak) (mC .bB)))
   (aI (mC (.str "going")))
   aH)
   (ao (aR 2 (aJ "Match" "side_to_start" 2 CG (aa 0) (af (ai bJ (aa 1) (mC (.int 1))) ak)))
   (ao (cP (mB (ai (jk false) (aa 2) (mC .bB)))
   (aI (mC (.str "turn")))
   aH)
   (ao (aR 3 (ai bJ (ai bJ (a_ ["Match"] "sides" (aa 0)) (aa 2)) (mC (.int 1))))
   (ao (aR 4 (ai bJ (ai bJ (a_ ["Match"] "sides" (aa 0)) (ai dS (mC (.int 1)) (aa 2))) (mC (.int 1))))
   (ao (cP (Dh (mB (ai (v9 true) (ai bJ (aa 1) (mC (.int 2))) (aa 3))) (Dh (mB (ai (v9 true) (ai bJ (aa 1) (mC (.int 3))) (aa 3))) (mB (ai (v9 true) (ai bJ (aa 1) (mC (.int 4))) (aa 4)))))
   (aI (mC (.str "team")))
   aH)
   (aI (Di (mB (ai (c7 false) (ai bJ (aa 1) (mC (.int 2))) (ai bJ (aa 1) (mC (.int 3))))) (mC (.str "alike")) (mC .bB)))))))))
theorem acE (T:Txt K mg a):aO P w K mg base eB 7 a.yb a.uJ ["self","entry"] (dO K (aA a) 2 HB):=
 bh T.Oo.F Pd λ_ _ _ _ _ _=>(by have:=Pd.nd;exists (aK (ay T) (gb T) (iI T) (by decide) T.jz.b aB ?_),(bM (ay T) (Hv T) (Pc T) (by decide) T.Hh.b aB ?_ ?_),(az (g5 T) ?_),(kF Be ?_ ?_ (by with_unfolding_all rfl)))
noncomputable abbrev XT:List Str:=["self","name"]
theorem Pe:aq XT ["self","name"] (aj Wy):=fF
noncomputable def pK:Fn:=dF XT (aI (ai (v9 false) (aa 1) (cZ (af (a_ ["Innings"] "facing" (aa 0)) (af (a_ ["Innings"] "other" (aa 0)) ak)))))
theorem qJ (T:Txt K mg a):aO P w K mg base eB 2 a.yc a.uK ["self","name"] (dO K (aA a) 2 pK):=
 bh T.rm.F Pe λ_ _ _ _ _ _=>(by have:=Pe.nd;exists (qj Eb ?_ ?_ (by with_unfolding_all rfl)),(az (iH T) ?_),(az (mJ T) ?_))
noncomputable abbrev XU:List Str:=["innings","old"]
theorem Pf:aq XU ["innings","old"] (aj Wz):=fF
noncomputable def HD:Fn:=dF XU (aI (Di (Dh (mB (aJ "Innings" "stands" 2 pK (aa 0) (af (aa 1) ak))) (mB (ai (c7 false) (aa 1) (a_ ["Innings"] "bowler" (aa 0))))) (mC (.str "there")) (mC .bB)))
theorem acF (T:Txt K mg a):aO P w K mg base eB 3 a.BH a.uL ["innings","old"] (dO K (aA a) 2 HD):=
 bh T.Xc.F Pf λ_ _ _ _ _ _=>(by have:=Pf.nd;exists (bM (bq T) (nh T) (qJ T) (by decide) T.rm.b aB ?_ ?_),(az (kW T) ?_))
noncomputable abbrev XW:List Str:=["self","old","new","going"]
theorem Pg:aq XW ["self","old","new"] (aj WA):=fF
noncomputable def HE:Fn:=dF XW (ao (cP (mB (ai (v9 true) (aa 1) (e9 2 vL (af (a_ ["Match"] "sides" (aa 0)) (af (mC (.str "player")) ak)))))
   (aI (mC (.str "team")))
   aH)
   (ao (cP (mB (ai (v9 false) (aa 2) (a_ ["Match"] "known" (aa 0))))
   (aI (mC (.str "name")))
   aH)
   (ao (aR 3 (aJ "Match" "going" 1 jc (aa 0) ak))
   (aI (Di (mB (ai (jk false) (aa 3) (mC .bB))) (mC .bB) (e9 2 HD (af (aa 3) (af (aa 1) ak))))))))
theorem acG (T:Txt K mg a):aO P w K mg base eB 4 a.yd a.uM ["self","old","new"] (dO K (aA a) 3 HE):=
 bh T.Oq.F Pg λ_ _ _ _ _ _=>(by have:=Pg.nd;exists (kF Be ?_ ?_ (by with_unfolding_all rfl)),(cU (OT T) T.Oj ?_),(az (g5 T) ?_),(kF Eb ?_ ?_ (by with_unfolding_all rfl)),(az (EE T) ?_),(aK (ay T) (gb T) (iI T) (by decide) T.jz.b aB ?_),(cU (acF T) T.Xc ?_))
noncomputable abbrev XX:List Str:=["self"]
theorem Ph:aq XX ["self"] (aj WB):=fF
noncomputable def HF:Fn:=dF XX (ao (cP (Dh (mB (ai (c7 true) (bZ gx (af (a_ ["Match"] "played" (aa 0)) ak)) (mC (.int 2)))) (Dh (mB (ai (c7 true) (aJ "Match" "most_innings" 1 vM (aa 0) ak) (mC (.int 4)))) (mB (a_ ["Match"] "followed" (aa 0)))))
   (aI (mC (.bl false)))
   aH)
   (aI (l_ zu gLe (mC (.int 0)) (ai bJ (a_ ["Match"] "rules" (aa 0)) (mC (.int 7))) (aJ "Match" "lead_of" 2 vN (aa 0) (af (a_ ["Innings"] "side" (ai bJ (a_ ["Match"] "played" (aa 0)) (mC (.int 0)))) ak)))))
theorem acH (T:Txt K mg a):aO P w K mg base eB 4 a.ye a.uN ["self"] (dO K (aA a) 1 HF):=
 bh T.Ot.F Ph λ_ _ _ _ _ _=>(by have:=Ph.nd;exists (dJ mz T.mH zbg ?_),(az (jb T) ?_),(aK (ay T) (z7 T) (EK T) (by decide) T.Cn.b aB ?_),(c9 T.pF),(az (zX T) ?_),(MZ M7 M8 ?_ ?_ ?_),(az (qH T) ?_),(c9 T.Ci),(bM (ay T) (se T) (Af T) (by decide) T.yz.b aB ?_ ?_),(az (kU T) ?_))
noncomputable abbrev XY:List Str:=["self"]
theorem Pj:aq XY ["self"] (aj WC):=fF
noncomputable def HG:Fn:=dF XY (ao (cP (mB (ai (jk true) (aJ "Match" "going" 1 jc (aa 0) ak) (mC .bB)))
   (aI (mC (.str "going")))
   aH)
   (aI (Di (mB (aJ "Match" "may_follow" 1 HF (aa 0) ak)) (mC .bB) (mC (.str "follow")))))
theorem acI (T:Txt K mg a):aO P w K mg base eB 5 a.yf a.uO ["self"] (dO K (aA a) 1 HG):=
 bh T.Ou.F Pj λ_ _ _ _ _ _=>(by have:=Pj.nd;exists (aK (ay T) (gb T) (iI T) (by decide) T.jz.b aB ?_),(aK (ay T) (Uw T) (acH T) (by decide) T.Ot.b aB ?_))
noncomputable abbrev XZ:List Str:=["self"]
theorem Pk:aq XZ ["self"] (aj WD):=fF
noncomputable def yG:Fn:=dF XZ (aI (aJ "Innings" "stands" 2 pK (aa 0) (af (mC (.str "")) ak)))
theorem ES (T:Txt K mg a):aO P w K mg base eB 3 a.yg a.uP ["self"] (dO K (aA a) 1 yG):=
 bh T.Cp.F Pk λ_ _ _ _ _ _=>(by have:=Pk.nd;exists (bM (bq T) (nh T) (qJ T) (by decide) T.rm.b aB ?_ ?_))
noncomputable abbrev X0:List Str:=["kind","runs"]
theorem Pn:aq X0 ["kind","runs"] (aj WE):=fF
noncomputable def HH:Fn:=dF X0 (aI (mOr (ai (c7 false) (aa 1) (mC (.int 4))) (M4 (ai (c7 false) (aa 1) (mC (.int 6))) (ai (v9 false) (aa 0) (cZ (af (mC (.str "bat")) (af (mC (.str "no")) ak)))))))
theorem acJ (T:Txt K mg a):aO P w K mg base eB 2 a.BI a.uQ ["kind","runs"] (dO K (aA a) 2 HH):=
 bh T.Xd.F Pn λ_ _ _ _ _ _=>(by have:=Pn.nd;exists (c9 T.ace),(c9 T.ai7),(qj Eb ?_ ?_ (by with_unfolding_all rfl)))
noncomputable abbrev X3:List Str:=["kind","runs","rope","way"]
theorem Po:aq X3 ["kind","runs","rope","way"] (aj WG):=fF
noncomputable def HJ:Fn:=dF X3 (ao (cP (mB (ai (c7 false) (aa 3) (mC (.str ""))))
   (aI (mC (.bl true)))
   aH)
   (ao (cP (mB (aa 2))
   (aI (mC (.bl false)))
   aH)
   (ao (cP (mB (ai (c7 false) (aa 3) (mC (.str "run"))))
   (aI (mC (.bl true)))
   aH)
   (ao (cP (mB (ai (c7 true) (aa 1) (mC (.int 0))))
   (aI (mC (.bl false)))
   aH)
   (ao (cP (mB (ai (v9 false) (aa 3) (cZ (af (mC (.str "stumped")) (af (mC (.str "hit")) ak)))))
   (aI (ai (v9 false) (aa 0) (cZ (af (mC (.str "bat")) (af (mC (.str "wide")) ak)))))
   aH)
   (aI (ai (c7 false) (aa 0) (mC (.str "bat")))))))))
theorem acK (T:Txt K mg a):aO P w K mg base eB 2 a.BJ a.uR ["kind","runs","rope","way"] (dO K (aA a) 4 HJ):=
 bh T.Xe.F Po λ_ _ _ _ _ _=>(by have:=Po.nd;exists (kF Eb ?_ ?_ (by with_unfolding_all rfl)),(qj Eb ?_ ?_ (by with_unfolding_all rfl)))
noncomputable abbrev X4:List Str:=["entry","kind","runs","rope"]
theorem Pp:aq X4 ["entry"] (aj WH):=fF
noncomputable def HK:Fn:=dF X4 (ao (aR 1 (ai bJ (aa 0) (mC (.int 1))))
   (ao (aR 2 (ai bJ (aa 0) (mC (.int 2))))
   (ao (aR 3 (ai bJ (aa 0) (mC (.int 3))))
   (ao (cP (lO (mB (aa 3)) (tO (mB (e9 2 HH (af (aa 1) (af (aa 2) ak))))))
   (aI (mC (.str "rope")))
   aH)
   (ao (cP (tO (mB (e9 4 HJ (af (aa 1) (af (aa 2) (af (aa 3) (af (ai bJ (aa 0) (mC (.int 4))) ak)))))))
   (aI (mC (.str "way")))
   aH)
   (aI (mC .bB)))))))
theorem acL (T:Txt K mg a):aO P w K mg base eB 3 a.BK a.uS ["entry"] (dO K (aA a) 1 HK):=
 bh T.Xf.F Pp λ_ _ _ _ _ _=>(by have:=Pp.nd;exists (cU (acJ T) T.Xd ?_),(cU (acK T) T.Xe ?_))
noncomputable abbrev X5:List Str:=["innings","entry","fault"]
theorem Pq:aq X5 ["innings","entry"] (aj WI):=fF
noncomputable def HL:Fn:=dF X5 (ao (cP (mB (aJ "Innings" "has_gap" 1 yG (aa 0) ak))
   (aI (mC (.str "empty")))
   aH)
   (ao (cP (mB (ai (c7 false) (a_ ["Innings"] "bowler" (aa 0)) (mC (.str ""))))
   (aI (mC (.str "bowler")))
   aH)
   (ao (aR 2 (e9 1 HK (af (aa 1) ak)))
   (ao (cP (lO (mB (ai (jk false) (aa 2) (mC .bB))) (lO (mB (ai (c7 false) (ai bJ (aa 1) (mC (.int 4))) (mC (.str "run")))) (tO (mB (aJ "Innings" "stands" 2 pK (aa 0) (af (ai bJ (aa 1) (mC (.int 5))) ak))))))
   (aI (mC (.str "who")))
   aH)
   (aI (aa 2))))))
theorem acM (T:Txt K mg a):aO P w K mg base eB 4 a.BL a.uU ["innings","entry"] (dO K (aA a) 2 HL):=
 bh T.Xg.F Pq λ_ _ _ _ _ _=>(by have:=Pq.nd;exists (aK (bq T) (z9 T) (ES T) (by decide) T.Cp.b aB ?_),(az (kW T) ?_),(cU (acL T) T.Xf ?_),(bM (bq T) (nh T) (qJ T) (by decide) T.rm.b aB ?_ ?_))
noncomputable abbrev X6:List Str:=["innings","batting","name"]
theorem Pr:aq X6 ["innings","batting","name"] (aj WJ):=fF
noncomputable def HM:Fn:=dF X6 (ao (cP (tO (mB (aJ "Innings" "has_gap" 1 yG (aa 0) ak)))
   (aI (mC (.str "full")))
   aH)
   (ao (cP (mB (ai (v9 true) (aa 2) (aa 1)))
   (aI (mC (.str "team")))
   aH)
   (ao (cP (mB (ai (Bf false) (aa 2) (a_ ["Innings"] "outs" (aa 0))))
   (aI (mC (.str "out")))
   aH)
   (aI (Di (mB (aJ "Innings" "stands" 2 pK (aa 0) (af (aa 2) ak))) (mC (.str "there")) (mC .bB))))))
theorem acN (T:Txt K mg a):aO P w K mg base eB 4 a.BN a.uV ["innings","batting","name"] (dO K (aA a) 3 HM):=
 bh T.Xh.F Pr λ_ _ _ _ _ _=>(by have:=Pr.nd;exists (aK (bq T) (z9 T) (ES T) (by decide) T.Cp.b aB ?_),(kF Be ?_ ?_ (by with_unfolding_all rfl)),(aaW ?_ ?_),(az (m_ T) ?_),(bM (bq T) (nh T) (qJ T) (by decide) T.rm.b aB ?_ ?_))
noncomputable abbrev X7:List Str:=["innings","fielding","spell","name"]
theorem Pu:aq X7 ["innings","fielding","spell","name"] (aj WK):=fF
noncomputable def HN:Fn:=dF X7 (ao (cP (mB (ai (c7 true) (a_ ["Innings"] "bowler" (aa 0)) (mC (.str ""))))
   (aI (mC (.str "bowling")))
   aH)
   (ao (cP (mB (ai (v9 true) (aa 3) (aa 1)))
   (aI (mC (.str "team")))
   aH)
   (ao (cP (mB (ai (c7 false) (aa 3) (a_ ["Innings"] "ahead" (aa 0))))
   (aI (mC (.str "twice")))
   aH)
   (ao (cP (mB (l_ zu gLe (mC (.int 0)) (aa 2) (GU (a_ ["Innings"] "spells" (aa 0)) (aa 3) (mC (.int 0)))))
   (aI (mC (.str "spell")))
   aH)
   (aI (mC .bB))))))
theorem acO (T:Txt K mg a):aO P w K mg base eB 2 a.BO a.uW ["innings","fielding","spell","name"] (dO K (aA a) 4 HN):=
 bh T.Xi.F Pu λ_ _ _ _ _ _=>(by have:=Pu.nd;exists (az (kW T) ?_),(kF Be ?_ ?_ (by with_unfolding_all rfl)),(az (vI T) ?_),(Bc M7 M8 ?_ ?_ ?_),(GV ?_ ?_ ?_),(az (pH T) ?_))
noncomputable abbrev X8:List Str:=["innings","rules","batting","fielding","entry"]
theorem Pw:aq X8 ["innings","rules","batting","fielding","entry"] (aj WL):=fF
noncomputable def HP:Fn:=dF X8 (ao (cP (mB (ai (c7 false) (ai bJ (aa 4) (mC (.int 0))) (mC (.str "ball"))))
   (aI (e9 2 HL (af (aa 0) (af (aa 4) ak))))
   aH)
   (ao (cP (mB (ai (c7 false) (ai bJ (aa 4) (mC (.int 0))) (mC (.str "in"))))
   (aI (e9 3 HM (af (aa 0) (af (aa 2) (af (ai bJ (aa 4) (mC (.int 1))) ak)))))
   aH)
   (ao (cP (mB (ai (c7 false) (ai bJ (aa 4) (mC (.int 0))) (mC (.str "bowl"))))
   (aI (e9 4 HN (af (aa 0) (af (aa 3) (af (ai bJ (aa 1) (mC (.int 2))) (af (ai bJ (aa 4) (mC (.int 1))) ak))))))
   aH)
   (ao (cP (mB (ai (c7 false) (ai bJ (aa 4) (mC (.int 0))) (mC (.str "hurt"))))
   (aI (Di (mB (aJ "Innings" "stands" 2 pK (aa 0) (af (ai bJ (aa 4) (mC (.int 1))) ak))) (mC .bB) (mC (.str "who"))))
   aH)
   (aI (mC .bB))))))
theorem acP (T:Txt K mg a):aO P w K mg base eB 5 a.BP a.uX ["innings","rules","batting","fielding","entry"] (dO K (aA a) 5 HP):=
 bh T.Xj.F Pw λ_ _ _ _ _ _=>(by have:=Pw.nd;exists (cU (acM T) T.Xg ?_),(cU (acN T) T.Xh ?_),(cU (acO T) T.Xi ?_),(c9 T.Ez),(bM (bq T) (nh T) (qJ T) (by decide) T.rm.b aB ?_ ?_))
noncomputable abbrev X_:List Str:=["self","entry","going","batting","fielding"]
theorem Px:aq X_ ["self","entry"] (aj WM):=fF
noncomputable def rq:Fn:=dF X_ (ao (cP (mB (aJ "Match" "is_done" 1 yF (aa 0) ak))
   (aI (mC (.str "done")))
   aH)
   (ao (cP (mB (ai (c7 false) (ai bJ (aa 1) (mC (.int 0))) (mC (.str "start"))))
   (aI (aJ "Match" "start_refusal" 2 HB (aa 0) (af (aa 1) ak)))
   aH)
   (ao (cP (mB (ai (c7 false) (ai bJ (aa 1) (mC (.int 0))) (mC (.str "swap"))))
   (aI (aJ "Match" "swap_refusal" 3 HE (aa 0) (af (ai bJ (aa 1) (mC (.int 1))) (af (ai bJ (aa 1) (mC (.int 2))) ak))))
   aH)
   (ao (cP (mB (ai (c7 false) (ai bJ (aa 1) (mC (.int 0))) (mC (.str "follow"))))
   (aI (aJ "Match" "follow_refusal" 1 HG (aa 0) ak))
   aH)
   (ao (cP (mB (ai (c7 false) (ai bJ (aa 1) (mC (.int 0))) (mC (.str "close"))))
   (aI (mC .bB))
   aH)
   (ao (aR 2 (aJ "Match" "going" 1 jc (aa 0) ak))
   (ao (cP (mB (ai (jk false) (aa 2) (mC .bB)))
   (aI (mC (.str "none")))
   aH)
   (ao (aR 3 (ai bJ (ai bJ (a_ ["Match"] "sides" (aa 0)) (a_ ["Innings"] "side" (aa 2))) (mC (.int 1))))
   (ao (aR 4 (ai bJ (ai bJ (a_ ["Match"] "sides" (aa 0)) (ai dS (mC (.int 1)) (a_ ["Innings"] "side" (aa 2)))) (mC (.int 1))))
   (aI (e9 5 HP (af (aa 2) (af (a_ ["Match"] "rules" (aa 0)) (af (aa 3) (af (aa 4) (af (aa 1) ak))))))))))))))))
theorem acQ (T:Txt K mg a):aO P w K mg base eB 8 a.yh a.uY ["self","entry"] (dO K (aA a) 2 rq):=
 bh T.Ov.F Px λ_ _ _ _ _ _=>(by have:=Px.nd;exists (aK (ay T) (z8 T) (EL T) (by decide) T.Co.b aB ?_),(bM (ay T) (Uu T) (acE T) (by decide) T.Oo.b aB ?_ ?_),(bM (ay T) (Uv T) (acG T) (by decide) T.Oq.b aB ?_ ?_),(aK (ay T) (Ux T) (acI T) (by decide) T.Ou.b aB ?_),(aK (ay T) (gb T) (iI T) (by decide) T.jz.b aB ?_),(az (g5 T) ?_),(az (kU T) ?_),(cU (acP T) T.Xj ?_),(az (qH T) ?_))
noncomputable abbrev ajv:List Str:=["self","side","facing","other","bowler"]
theorem Yb:aq ajv ["self","side","facing","other","bowler"] (aj aiV):=fF
noncomputable def UL:Fn:=dF ajv (ao (b9 ["Innings"] "side" (aa 0) (aa 1))
   (ao (b9 ["Innings"] "facing" (aa 0) (aa 2))
   (ao (b9 ["Innings"] "other" (aa 0) (aa 3))
   (ao (b9 ["Innings"] "bowler" (aa 0) (aa 4))
   (ao (b9 ["Innings"] "ahead" (aa 0) (mC (.str "")))
   (ao (b9 ["Innings"] "total" (aa 0) (mC (.int 0)))
   (ao (b9 ["Innings"] "wickets" (aa 0) (mC (.int 0)))
   (ao (b9 ["Innings"] "overs" (aa 0) (mC (.int 0)))
   (ao (b9 ["Innings"] "balls" (aa 0) (mC (.int 0)))
   (ao (b9 ["Innings"] "ending" (aa 0) (mC (.str "")))
   (ao (b9 ["Innings"] "outs" (aa 0) Ei)
   (b9 ["Innings"] "spells" (aa 0) (Nn [((aa 4),(mC (.int 1)))])))))))))))))
theorem ajw (T:Txt K mg a):aO P w K mg base eB 2 a.Ew a.B6 ["self","side","facing","other","bowler"] (dO K (aA a) 5 UL):=
 bh T.ai8.F Yb λ_ _ _ _ _ _=>(by have:=Yb.nd;exists (aZ (kU T) ?_ ?_),(aZ (iH T) ?_ ?_),(aZ (mJ T) ?_ ?_),(aZ (kW T) ?_ ?_),(aZ (vI T) ?_ ?_),(aZ (vJ T) ?_ ?_),(aZ (zW T) ?_ ?_),(aZ (qF T) ?_ ?_),(aZ (oh T) ?_ ?_),(aZ (qG T) ?_ ?_),(aZ (m_ T) ?_ ?_),Nm,(aZ (pH T) ?_ ?_),(Tj ?_),(Ti ?_ ?_ ?_),abe)
noncomputable abbrev Yc:List Str:=["self","entry","side"]
theorem Py:aq Yc ["self","entry"] (aj WN):=fF
noncomputable def HQ:Fn:=dF Yc (ao (aR 2 (aJ "Match" "side_to_start" 2 CG (aa 0) (af (ai bJ (aa 1) (mC (.int 1))) ak)))
   (c_ (lQ Aw o6 (a_ ["Match"] "played" (aa 0)) (af (nK "Innings" 5 UL (af (aa 2) (af (ai bJ (aa 1) (mC (.int 2))) (af (ai bJ (aa 1) (mC (.int 3))) (af (ai bJ (aa 1) (mC (.int 4))) ak))))) ak))))
theorem acR (T:Txt K mg a):aO P w K mg base eB 7 a.yi a.uZ ["self","entry"] (dO K (aA a) 2 HQ):=
 bh T.Ow.F Py λ_ _ _ _ _ _=>(by have:=Py.nd;exists (bM (ay T) (Hv T) (Pc T) (by decide) T.Hh.b aB ?_ ?_),(i8 zaB zaI zaJ iF gD ?_ ?_),(az (jb T) ?_),(mY (c:= "Innings") (EA T) (ajw T) (by decide) (Cr T) T.ai8.b aB ?_))
noncomputable abbrev Yd:List Str:=["rules","kind","runs","wide","noball"]
theorem Pz:aq Yd ["rules","kind","runs"] (aj WO):=fF
noncomputable def HS:Fn:=dF Yd (ao (cP (mB (ai (c7 false) (aa 1) (mC (.str "bat"))))
   (aI (cZ (af (aa 2) (af (mC (.int 0)) (af (aa 2) ak)))))
   aH)
   (ao (cP (mB (ai (c7 false) (aa 1) (mC (.str "wide"))))
   (ao (aR 3 (ai cT (ai bJ (aa 0) (mC (.int 3))) (aa 2)))
   (aI (cZ (af (mC (.int 0)) (af (aa 3) (af (aa 3) ak))))))
   aH)
   (ao (aR 4 (ai bJ (aa 0) (mC (.int 4))))
   (ao (cP (mB (ai (c7 false) (aa 1) (mC (.str "no"))))
   (aI (cZ (af (aa 2) (af (aa 4) (af (ai cT (aa 4) (aa 2)) ak)))))
   aH)
   (ao (cP (mB (ai (c7 false) (aa 1) (mC (.str "nobye"))))
   (aI (cZ (af (mC (.int 0)) (af (ai cT (aa 4) (aa 2)) (af (aa 4) ak)))))
   aH)
   (aI (cZ (af (mC (.int 0)) (af (aa 2) (af (mC (.int 0)) ak))))))))))
theorem acS (T:Txt K mg a):aO P w K mg base eB 2 a.BQ a.u5 ["rules","kind","runs"] (dO K (aA a) 3 HS):=
 bh T.Xk.F Pz λ_ _ _ _ _ _=>(by have:=Pz.nd;exists (c9 T.JN),(c9 T.Cj))
noncomputable abbrev Ye:List Str:=["rules","entry","kind","runs","by","fair","faced","crossed","credited"]
theorem PB:aq Ye ["rules","entry"] (aj WQ):=fF
noncomputable def HU:Fn:=dF Ye (ao (aR 2 (ai bJ (aa 1) (mC (.int 1))))
   (ao (aR 3 (ai bJ (aa 1) (mC (.int 2))))
   (ao (aR 4 (e9 3 HS (af (aa 0) (af (aa 2) (af (aa 3) ak)))))
   (ao (aR 5 (ai (v9 false) (aa 2) (cZ (af (mC (.str "bat")) (af (mC (.str "bye")) (af (mC (.str "leg")) ak))))))
   (ao (aR 6 (ai (c7 true) (aa 2) (mC (.str "wide"))))
   (ao (aR 7 (M4 (ai (c7 false) (ai oW (aa 3) (mC (.int 2))) (mC (.int 1))) (Su (ai bJ (aa 1) (mC (.int 3))))))
   (ao (aR 8 (ai (v9 true) (ai bJ (aa 1) (mC (.int 4))) (cZ (af (mC (.str "")) (af (mC (.str "run")) ak)))))
   (aI (ai cT (ai cT (cZ (af (ai cT (ai bJ (aa 4) (mC (.int 0))) (ai bJ (aa 4) (mC (.int 1)))) ak)) (aa 4)) (cZ (af (aa 5) (af (aa 6) (af (aa 7) (af (aa 8) ak))))))))))))))
theorem acT (T:Txt K mg a):aO P w K mg base eB 3 a.BR a.u6 ["rules","entry"] (dO K (aA a) 2 HU):=
 bh T.Xl.F PB λ_ _ _ _ _ _=>(by have:=PB.nd;exists (cU (acS T) T.Xk ?_),(qj Eb ?_ ?_ (by with_unfolding_all rfl)),(M5 ?_),(qj Be ?_ ?_ (by with_unfolding_all rfl)))
noncomputable abbrev Yg:List Str:=["self","entry"]
theorem PD:aq Yg ["self","entry"] (aj WR):=fF
noncomputable def HV:Fn:=dF Yg (ao (cP (mB (ai (c7 false) (ai bJ (aa 1) (mC (.int 4))) (mC (.str "run"))))
   (aI (ai bJ (aa 1) (mC (.int 5))))
   aH)
   (aI (Di (mB (ai (c7 false) (ai bJ (aa 1) (mC (.int 4))) (mC (.str "")))) (mC (.str "")) (a_ ["Innings"] "facing" (aa 0)))))
theorem acU (T:Txt K mg a):aO P w K mg base eB 2 a.yj a.u9 ["self","entry"] (dO K (aA a) 2 HV):=
 bh T.Ox.F PD λ_ _ _ _ _ _=>(by have:=PD.nd;exists (az (iH T) ?_))
noncomputable abbrev ajx:List Str:=["self","facing"]
theorem Yh:aq ajx ["self"] (aj aiW):=fF
noncomputable def JU:Fn:=dF ajx (ao (aR 1 (a_ ["Innings"] "facing" (aa 0)))
   (ao (b9 ["Innings"] "facing" (aa 0) (a_ ["Innings"] "other" (aa 0)))
   (b9 ["Innings"] "other" (aa 0) (aa 1))))
theorem PF (T:Txt K mg a):aO P w K mg base eB 2 a.JD a.B7 ["self"] (dO K (aA a) 1 JU):=
 bh T.Oz.F Yh λ_ _ _ _ _ _=>(by have:=Yh.nd;exists (az (iH T) ?_),(aZ (iH T) ?_ ?_),(az (mJ T) ?_),(aZ (mJ T) ?_ ?_))
noncomputable abbrev Yi:List Str:=["self","name"]
theorem PK:aq Yi ["self","name"] (aj WS):=fF
noncomputable def CH:Fn:=dF Yi (cP (mB (ai (c7 false) (a_ ["Innings"] "facing" (aa 0)) (aa 1)))
   (b9 ["Innings"] "facing" (aa 0) (mC (.str "")))
   (b9 ["Innings"] "other" (aa 0) (mC (.str ""))))
theorem PM (T:Txt K mg a):aO P w K mg base eB 2 a.yk a.u_ ["self","name"] (dO K (aA a) 2 CH):=
 bh T.Hi.F PK λ_ _ _ _ _ _=>(by have:=PK.nd;exists (az (iH T) ?_),(aZ (iH T) ?_ ?_),(aZ (mJ T) ?_ ?_))
noncomputable abbrev ajy:List Str:=["self","name","end","empty"]
theorem Yj:aq ajy ["self","name","end"] (aj aiX):=fF
noncomputable def UM:Fn:=dF ajy (ao (GO (a_ ["Innings"] "outs" (aa 0)) (aa 1) (mC (.bl true)))
   (ao (xy ["Innings"] "wickets" (λi j=>i+j) (aa 0) (mC (.int 1)))
   (ao (c_ (aJ "Innings" "leave" 2 CH (aa 0) (af (aa 1) ak)))
   (ao (aR 3 (Di (mB (ai (c7 false) (a_ ["Innings"] "facing" (aa 0)) (mC (.str "")))) (mC (.str "strike")) (mC (.str "other"))))
   (cP (mB (ai (c7 true) (aa 3) (aa 2)))
   (c_ (aJ "Innings" "change_ends" 1 JU (aa 0) ak))
   aH)))))
theorem ajz (T:Txt K mg a):aO P w K mg base eB 3 a.JE a.B8 ["self","name","end"] (dO K (aA a) 3 UM):=
 bh T.acf.F Yj λ_ _ _ _ _ _=>(by have:=Yj.nd;exists (GP ?_ ?_ ?_),(az (m_ T) ?_),(rZ r9 (zW T) ?_ ?_),(bM (bq T) (Hw T) (PM T) (by decide) T.Hi.b aB ?_ ?_),(az (iH T) ?_),(aK (bq T) (EI T) (PF T) (by decide) T.Oz.b aB ?_))
noncomputable abbrev ajA:List Str:=["self","over"]
theorem Yk:aq ajA ["self","over"] (aj aiY):=fF
noncomputable def UN:Fn:=dF ajA (ao (xy ["Innings"] "balls" (λi j=>i+j) (aa 0) (mC (.int 1)))
   (cP (mB (ai gGe (a_ ["Innings"] "balls" (aa 0)) (aa 1)))
   (ao (xy ["Innings"] "overs" (λi j=>i+j) (aa 0) (mC (.int 1)))
   (ao (b9 ["Innings"] "balls" (aa 0) (mC (.int 0)))
   (ao (c_ (aJ "Innings" "change_ends" 1 JU (aa 0) ak))
   (ao (b9 ["Innings"] "ahead" (aa 0) (a_ ["Innings"] "bowler" (aa 0)))
   (b9 ["Innings"] "bowler" (aa 0) (mC (.str "")))))))
   aH))
theorem ajB (T:Txt K mg a):aO P w K mg base eB 3 a.JF a.B9 ["self","over"] (dO K (aA a) 2 UN):=
 bh T.acg.F Yk λ_ _ _ _ _ _=>(by have:=Yk.nd;exists (rZ r9 (oh T) ?_ ?_),(az (oh T) ?_),(rZ r9 (qF T) ?_ ?_),(aZ (oh T) ?_ ?_),(aK (bq T) (EI T) (PF T) (by decide) T.Oz.b aB ?_),(aZ (vI T) ?_ ?_),(az (kW T) ?_),(aZ (kW T) ?_ ?_))
noncomputable abbrev Yl:List Str:=["self","rules","entry","sums","out"]
theorem PN:aq Yl ["self","rules","entry"] (aj WT):=fF
noncomputable def HW:Fn:=dF Yl (ao (aR 3 (e9 2 HU (af (aa 1) (af (aa 2) ak))))
   (ao (aR 4 (aJ "Innings" "out_by" 2 HV (aa 0) (af (aa 2) ak)))
   (ao (xy ["Innings"] "total" (λi j=>i+j) (aa 0) (ai bJ (aa 3) (mC (.int 0))))
   (ao (cP (mB (ai bJ (aa 3) (mC (.int 6))))
   (c_ (aJ "Innings" "change_ends" 1 JU (aa 0) ak))
   aH)
   (ao (cP (mB (ai (c7 true) (aa 4) (mC (.str ""))))
   (c_ (aJ "Innings" "fall" 3 UM (aa 0) (af (aa 4) (af (Di (mB (ai (c7 false) (ai bJ (aa 2) (mC (.int 4))) (mC (.str "run")))) (ai bJ (aa 2) (mC (.int 6))) (mC (.str "strike"))) ak))))
   aH)
   (ao (cP (mB (ai bJ (aa 3) (mC (.int 4))))
   (c_ (aJ "Innings" "count_fair" 2 UN (aa 0) (af (ai bJ (aa 1) (mC (.int 0))) ak)))
   aH)
   (aI (aa 4))))))))
theorem acV (T:Txt K mg a):aO P w K mg base eB 4 a.ym a.vc ["self","rules","entry"] (dO K (aA a) 3 HW):=
 bh T.OA.F PN λ_ _ _ _ _ _=>(by have:=PN.nd;exists (cU (acT T) T.Xl ?_),(bM (bq T) (UA T) (acU T) (by decide) T.Ox.b aB ?_ ?_),(rZ r9 (vJ T) ?_ ?_),(c9 T.Ck),(c9 T.zV),(aK (bq T) (EI T) (PF T) (by decide) T.Oz.b aB ?_),(bM (bq T) (acp T) (ajz T) (by decide) T.acf.b aB ?_ ?_),(c9 T.JL),(bM (bq T) (acq T) (ajB T) (by decide) T.acg.b aB ?_ ?_),(c9 T.JM))
noncomputable abbrev Ym:List Str:=["self","entry","going","ahead","out"]
theorem PR:aq Ym ["self","entry"] (aj WU):=fF
noncomputable def HX:Fn:=dF Ym (ao (aR 2 (aJ "Match" "going" 1 jc (aa 0) ak))
   (ao (aR 3 (cZ (af (ai dS (bZ gx (af (a_ ["Match"] "played" (aa 0)) ak)) (mC (.int 1))) (af (a_ ["Innings"] "overs" (aa 2)) (af (a_ ["Innings"] "balls" (aa 2)) (af (a_ ["Innings"] "facing" (aa 2)) (af (a_ ["Innings"] "other" (aa 2)) (af (a_ ["Innings"] "bowler" (aa 2)) ak))))))))
   (ao (aR 4 (aJ "Innings" "play" 3 HW (aa 2) (af (a_ ["Match"] "rules" (aa 0)) (af (aa 1) ak))))
   (c_ (lQ Aw o6 (a_ ["Match"] "balls_told" (aa 0)) (af (ai cT (aa 3) (cZ (af (aa 1) (af (aa 4) ak)))) ak))))))
theorem acW (T:Txt K mg a):aO P w K mg base eB 5 a.yo a.vd ["self","entry"] (dO K (aA a) 2 HX):=
 bh T.OB.F PR λ_ _ _ _ _ _=>(by have:=PR.nd;exists (aK (ay T) (gb T) (iI T) (by decide) T.jz.b aB ?_),(dJ mz T.mH zbg ?_),(az (jb T) ?_),(az (qF T) ?_),(az (oh T) ?_),(az (iH T) ?_),(az (mJ T) ?_),(az (kW T) ?_),(bM (bq T) (UB T) (acV T) (by decide) T.OA.b aB ?_ ?_),(az (qH T) ?_),(i8 zaB zaI zaJ iF gD ?_ ?_),(az (EF T) ?_))
noncomputable abbrev ajC:List Str:=["self","name"]
theorem Yn:aq ajC ["self","name"] (aj aiZ):=fF
noncomputable def UO:Fn:=dF ajC (cP (mB (ai (c7 false) (a_ ["Innings"] "facing" (aa 0)) (mC (.str ""))))
   (b9 ["Innings"] "facing" (aa 0) (aa 1))
   (b9 ["Innings"] "other" (aa 0) (aa 1)))
theorem ajD (T:Txt K mg a):aO P w K mg base eB 2 a.JG a.B_ ["self","name"] (dO K (aA a) 2 UO):=
 bh T.ach.F Yn λ_ _ _ _ _ _=>(by have:=Yn.nd;exists (az (iH T) ?_),(aZ (iH T) ?_ ?_),(aZ (mJ T) ?_ ?_))
noncomputable abbrev ajE:List Str:=["self","name"]
theorem Yo:aq ajE ["self","name"] (aj ai0):=fF
noncomputable def UP:Fn:=dF ajE (ao (b9 ["Innings"] "bowler" (aa 0) (aa 1))
   (GO (a_ ["Innings"] "spells" (aa 0)) (aa 1) (ai cT (GU (a_ ["Innings"] "spells" (aa 0)) (aa 1) (mC (.int 0))) (mC (.int 1)))))
theorem ajF (T:Txt K mg a):aO P w K mg base eB 2 a.JH a.Ca ["self","name"] (dO K (aA a) 2 UP):=
 bh T.aci.F Yo λ_ _ _ _ _ _=>(by have:=Yo.nd;exists (aZ (kW T) ?_ ?_),(GP ?_ ?_ ?_),(az (pH T) ?_),(GV ?_ ?_ ?_))
noncomputable abbrev Yp:List Str:=["players","old","new"]
theorem PU:aq Yp ["players","old","new"] (aj Of):=fF
noncomputable def HY:Fn:=dF Yp (aI (fQ (tY iL (aa 0)) [2,1] 1 (cI 2) iN (Di (mB (ai (c7 false) (aa 2) (aa 1))) (aa 0) (aa 2))))
theorem acX (T:Txt K mg a):aO P w K mg base eB 2 a.BS a.ve ["players","old","new"] (dO K (aA a) 3 HY):=
 bh T.Xm.F PU λ_ _ _ _ _ _=>(by have:=PU.nd;exists (iQ (F:=["new","old"]) (T:=["name"]) (fr:=[2,1]) (G3 Of (by decide +kernel)) ?_ (λ_ _ _ _ _=>?_) (λ_ _ _ _ _=>?_) (λ_ _ _ _ _=>?_)),(gy 2 (show (["new","old","name"]:List Str).Nodup by decide +kernel)))
noncomputable abbrev Yq:List Str:=["told","old","new"]
theorem PV:aq Yq ["told","old","new"] (aj Og):=fF
noncomputable def CI:Fn:=dF Yq (aI (bZ zQ (af (fQ (tY iD (aa 0)) [2,0,1] 1 (cI 3) iN (cZ (af (Di (mB (ai (c7 false) (aa 3) (aa 2))) (aa 0) (aa 3)) (af (ai N5 (aa 1) (aa 3)) ak)))) ak)))
theorem acY (T:Txt K mg a):aO P w K mg base eB 2 a.BU a.vf ["told","old","new"] (dO K (aA a) 3 CI):=
 bh T.Xn.F PV λ_ _ _ _ _ _=>(by have:=PV.nd;exists (gX Ur T.acd PyProof.Rows.boot_dict ?_),(iQ (F:=["new","told","old"]) (T:=["name"]) (fr:=[2,0,1]) (G3 Og (by decide +kernel)) ?_ (λ_ _ _ _ _=>?_) (λ_ _ _ _ _=>?_) (λ_ _ _ _ _=>?_)),(Uq ?_),(gy 3 (show (["new","told","old","name"]:List Str).Nodup by decide +kernel)),(ab4 ?_ ?_))
noncomputable abbrev Yr:List Str:=["self","old","new"]
theorem PX:aq Yr ["self","old","new"] (aj WV):=fF
noncomputable def HZ:Fn:=dF Yr (ao (b9 ["Innings"] "outs" (aa 0) (e9 3 CI (af (a_ ["Innings"] "outs" (aa 0)) (af (aa 1) (af (aa 2) ak)))))
   (ao (b9 ["Innings"] "spells" (aa 0) (e9 3 CI (af (a_ ["Innings"] "spells" (aa 0)) (af (aa 1) (af (aa 2) ak)))))
   (cP (mB (ai (c7 false) (a_ ["Innings"] "ahead" (aa 0)) (aa 1)))
   (b9 ["Innings"] "ahead" (aa 0) (aa 2))
   aH)))
theorem acZ (T:Txt K mg a):aO P w K mg base eB 3 a.yq a.vg ["self","old","new"] (dO K (aA a) 3 HZ):=
 bh T.OC.F PX λ_ _ _ _ _ _=>(by have:=PX.nd;exists (aZ (m_ T) ?_ ?_),(cU (acY T) T.Xn ?_),(az (m_ T) ?_),(aZ (pH T) ?_ ?_),(az (pH T) ?_),(az (vI T) ?_),(aZ (vI T) ?_ ?_))
noncomputable abbrev Ys:List Str:=["self","old","new","going"]
theorem PY:aq Ys ["self","old","new"] (aj Oh):=fF
noncomputable def H_:Fn:=dF Ys (ao (c_ (lQ Aw o6 (a_ ["Match"] "known" (aa 0)) (af (aa 2) ak)))
   (ao (b9 ["Match"] "sides" (aa 0) (fQ (tY iL (a_ ["Match"] "sides" (aa 0))) [1,2] 2 (mD 2 (gE (cI 2) (gE (cI 3) tX))) iN (cZ (af (aa 2) (af (e9 3 HY (af (aa 3) (af (aa 0) (af (aa 1) ak)))) ak)))))
   (ao (aR 3 (aJ "Match" "going" 1 jc (aa 0) ak))
   (cP (mB (ai (jk true) (aa 3) (mC .bB)))
   (c_ (aJ "Innings" "rename" 3 HZ (aa 3) (af (aa 1) (af (aa 2) ak))))
   aH))))
theorem ac0 (T:Txt K mg a):aO P w K mg base eB 4 a.yr a.vh ["self","old","new"] (dO K (aA a) 3 H_):=
 bh T.OD.F PY λ_ _ _ _ _ _=>(by have:=PY.nd;exists (i8 zaB zaI zaJ iF gD ?_ ?_),(az (EE T) ?_),(aZ (g5 T) ?_ ?_),(iQ (F:=["old","new"]) (T:=["name","players"]) (fr:=[1,2]) (G3 Oh (by decide +kernel)) ?_ (λ_ _ _ _ _=>?_) (λ_ _ _ _ _=>?_) (λ_ _ _ _ _=>?_)),(az (g5 T) ?_),(nW (n:=2) ?_),(gy 2 (show (["old","new","name","players"]:List Str).Nodup by decide +kernel)),(gy 3 (show (["old","new","name","players"]:List Str).Nodup by decide +kernel)),(cU (acX T) T.Xm ?_),(aK (ay T) (gb T) (iI T) (by decide) T.jz.b aB ?_),(bM (bq T) (UD T) (acZ T) (by decide) T.OC.b aB ?_ ?_))
noncomputable abbrev Yt:List Str:=["self","going"]
theorem PZ:aq Yt ["self"] (aj WW):=fF
noncomputable def Ia:Fn:=dF Yt (ao (b9 ["Match"] "closed" (aa 0) (mC (.bl true)))
   (ao (aR 1 (aJ "Match" "going" 1 jc (aa 0) ak))
   (cP (mB (ai (jk true) (aa 1) (mC .bB)))
   (b9 ["Innings"] "ending" (aa 1) (mC (.str "closed")))
   aH)))
theorem ac1 (T:Txt K mg a):aO P w K mg base eB 3 a.yt a.vj ["self"] (dO K (aA a) 1 Ia):=
 bh T.OE.F PZ λ_ _ _ _ _ _=>(by have:=PZ.nd;exists (aZ (zY T) ?_ ?_),(aK (ay T) (gb T) (iI T) (by decide) T.jz.b aB ?_),(aZ (qG T) ?_ ?_))
noncomputable abbrev Yu:List Str:=["self","entry","going","word"]
theorem P0:aq Yu ["self","entry"] (aj WX):=fF
noncomputable def vP:Fn:=dF Yu (ao (aR 2 (aJ "Match" "going" 1 jc (aa 0) ak))
   (ao (aR 3 (ai bJ (aa 1) (mC (.int 0))))
   (cP (mB (ai (c7 false) (aa 3) (mC (.str "start"))))
   (c_ (aJ "Match" "begin" 2 HQ (aa 0) (af (aa 1) ak)))
   (cP (mB (ai (c7 false) (aa 3) (mC (.str "ball"))))
   (c_ (aJ "Match" "play_ball" 2 HX (aa 0) (af (aa 1) ak)))
   (cP (mB (ai (c7 false) (aa 3) (mC (.str "in"))))
   (c_ (aJ "Innings" "come_in" 2 UO (aa 2) (af (ai bJ (aa 1) (mC (.int 1))) ak)))
   (cP (mB (ai (c7 false) (aa 3) (mC (.str "bowl"))))
   (c_ (aJ "Innings" "bowl_next" 2 UP (aa 2) (af (ai bJ (aa 1) (mC (.int 1))) ak)))
   (cP (mB (ai (c7 false) (aa 3) (mC (.str "hurt"))))
   (c_ (aJ "Innings" "leave" 2 CH (aa 2) (af (ai bJ (aa 1) (mC (.int 1))) ak)))
   (cP (mB (ai (c7 false) (aa 3) (mC (.str "swap"))))
   (c_ (aJ "Match" "swap_player" 3 H_ (aa 0) (af (ai bJ (aa 1) (mC (.int 1))) (af (ai bJ (aa 1) (mC (.int 2))) ak))))
   (cP (mB (ai (c7 false) (aa 3) (mC (.str "declare"))))
   (b9 ["Innings"] "ending" (aa 2) (mC (.str "declared")))
   (cP (mB (ai (c7 false) (aa 3) (mC (.str "follow"))))
   (b9 ["Match"] "followed" (aa 0) (mC (.bl true)))
   (c_ (aJ "Match" "close" 1 Ia (aa 0) ak))))))))))))
theorem ac2 (T:Txt K mg a):aO P w K mg base eB 8 a.yu a.vm ["self","entry"] (dO K (aA a) 2 vP):=
 bh T.OF.F P0 λ_ _ _ _ _ _=>(by have:=P0.nd;exists (aK (ay T) (gb T) (iI T) (by decide) T.jz.b aB ?_),(bM (ay T) (Uz T) (acR T) (by decide) T.Ow.b aB ?_ ?_),(bM (ay T) (UC T) (acW T) (by decide) T.OB.b aB ?_ ?_),(bM (bq T) (acr T) (ajD T) (by decide) T.ach.b aB ?_ ?_),(bM (bq T) (acs T) (ajF T) (by decide) T.aci.b aB ?_ ?_),(bM (bq T) (Hw T) (PM T) (by decide) T.Hi.b aB ?_ ?_),(bM (ay T) (UE T) (ac0 T) (by decide) T.OD.b aB ?_ ?_),(aZ (qG T) ?_ ?_),(aZ (zX T) ?_ ?_),(aK (ay T) (UG T) (ac1 T) (by decide) T.OE.b aB ?_))
noncomputable abbrev Yv:List Str:=["self","players"]
theorem P1:aq Yv ["self","players"] (aj Oi):=fF
noncomputable def Ib:Fn:=dF Yv (aI (bZ SJ (af (fQ (tY iL (aa 1)) [0] 1 (cI 1) iN (M4 (ai (Bf true) (aa 1) (a_ ["Innings"] "outs" (aa 0))) (Su (aJ "Innings" "stands" 2 pK (aa 0) (af (aa 1) ak))))) ak)))
theorem ac3 (T:Txt K mg a):aO P w K mg base eB 3 a.yv a.vn ["self","players"] (dO K (aA a) 2 Ib):=
 bh T.OG.F P1 λ_ _ _ _ _ _=>(by have:=P1.nd;exists (dJ ahF T.ai4 PyProof.Rows.boot_any ?_),(iQ (F:=["self"]) (T:=["name"]) (fr:=[0]) (G3 Oi (by decide +kernel)) ?_ (λ_ _ _ _ _=>?_) (λ_ _ _ _ _=>?_) (λ_ _ _ _ _=>?_)),(gy 1 (show (["self","name"]:List Str).Nodup by decide +kernel)),(SA ?_ ?_),(az (m_ T) ?_),(M5 ?_),(bM (bq T) (nh T) (qJ T) (by decide) T.rm.b aB ?_ ?_))
noncomputable abbrev Yw:List Str:=["self","going"]
theorem P4:aq Yw ["self","going"] (aj WY):=fF
noncomputable def Ic:Fn:=dF Yw (ao (cP (lO (mB (ai (c7 false) (bZ gx (af (a_ ["Match"] "played" (aa 0)) ak)) (aJ "Match" "most_innings" 1 vM (aa 0) ak))) (mB (ai D9 (aJ "Match" "lead_of" 2 vN (aa 0) (af (a_ ["Innings"] "side" (aa 1)) ak)) (mC (.int 0)))))
   (aI (mC (.str "won")))
   aH)
   (ao (cP (lO (mB (aJ "Innings" "has_gap" 1 yG (aa 1) ak)) (tO (mB (aJ "Innings" "has_left" 2 Ib (aa 1) (af (ai bJ (ai bJ (a_ ["Match"] "sides" (aa 0)) (a_ ["Innings"] "side" (aa 1))) (mC (.int 1))) ak)))))
   (aI (mC (.str "out")))
   aH)
   (aI (Di (mB (l_ zu gLe (mC (.int 0)) (ai bJ (a_ ["Match"] "rules" (aa 0)) (mC (.int 1))) (a_ ["Innings"] "overs" (aa 1)))) (mC (.str "overs")) (mC (.str ""))))))
theorem ac4 (T:Txt K mg a):aO P w K mg base eB 4 a.yw a.vo ["self","going"] (dO K (aA a) 2 Ic):=
 bh T.OH.F P4 λ_ _ _ _ _ _=>(by have:=P4.nd;exists (dJ mz T.mH zbg ?_),(az (jb T) ?_),(aK (ay T) (z7 T) (EK T) (by decide) T.Cn.b aB ?_),(bM (ay T) (se T) (Af T) (by decide) T.yz.b aB ?_ ?_),(az (kU T) ?_),(aK (bq T) (z9 T) (ES T) (by decide) T.Cp.b aB ?_),(bM (bq T) (UI T) (ac3 T) (by decide) T.OG.b aB ?_ ?_),(az (g5 T) ?_),(Bc M7 M8 ?_ ?_ ?_),(az (qH T) ?_),(c9 T.Ey),(az (qF T) ?_))
noncomputable abbrev Yx:List Str:=["self","entry","rule","going"]
theorem P5:aq Yx ["self","entry"] (aj WZ):=fF
noncomputable def mK:Fn:=fnX Yx (ao (aR 2 (aJ "Match" "refusal" 2 rq (aa 0) (af (aa 1) ak)))
   (ao (cP (mB (ai (jk true) (aa 2) (mC .bB)))
   (zF "NotLet" 3 (gT2 "rule" "number") [.int 0] (af (fJ [(mC (.str "the rules don't let this entry: ")),(abh (aa 2))] Str.empty) (af (aa 2) ak)))
   aH)
   (ao (c_ (aJ "Match" "do" 2 vP (aa 0) (af (aa 1) ak)))
   (ao (aR 3 (aJ "Match" "going" 1 jc (aa 0) ak))
   (cP (mB (ai (jk true) (aa 3) (mC .bB)))
   (b9 ["Innings"] "ending" (aa 3) (aJ "Match" "ending_due" 2 Ic (aa 0) (af (aa 3) ak)))
   aH)))))
theorem ET (T:Txt K mg a):aO P w K mg base (qe P w) 9 a.yx a.vp ["self","entry"] (dO K (aA a) 2 mK):=
 Nz T.Cq.F P5 λ_ _ _ _ _ _=>(by have:=P5.nd;exists (bM (ay T) (Uy T) (acQ T) (by decide) T.Ov.b aB ?_ ?_),(Ny (c:= "NotLet") (n:=3) (g:=gE2 "rule" "number") (gT:=gT2 "rule" "number") (G0:=[.int 0]) (mV:=[.int 0]) (d8 T) (oq T) (by decide) (EG T) T.yC (.cons ⟨_,rfl⟩ .nil) (λ_=>.cons d7 .nil) gR2 ?_),(To ?_),(Tn ?_ ?_),(abi ?_),abj,(bM (ay T) (UH T) (ac2 T) (by decide) T.OF.b aB ?_ ?_),(aK (ay T) (gb T) (iI T) (by decide) T.jz.b aB ?_),(aZ (qG T) ?_ ?_),(bM (ay T) (UJ T) (ac4 T) (by decide) T.OH.b aB ?_ ?_))
noncomputable abbrev Yy:List Str:=["_law_match","_law_entry_here","_law_rule","refused"]
theorem EU:aq Yy ["_law_match","_law_entry_here"] (aj W0):=fF
noncomputable def pL:Fn:=dF Yy (ao (aR 2 (mC (.str "")))
   (ao (Bt "Match" "tell" 2 mK (aa 0) (af (aa 1) ak) ["NotLet"] (some 3)
   (aR 2 (Bp ["NotLet"] "rule" (aa 3))))
   (aI (aa 2))))
theorem EV (T:Txt K mg a):aO P w K mg base eB 10 a.BV a.vq ["_law_match","_law_entry_here"] (dO K (aA a) 2 pL):=
 bh T.Hj.F EU λ_ _ _ _ _ _=>(by have:=EU.nd;exists (xK (l:=3) (c:= "Match") (T.gn.M.amT) (JT T) (Ct T) (ay T) (z_ T) (ET T) (by decide) T.Cq.b ?_ ?_ EU.nd (λ_=>?_) rfl rfl),(zI (Hl T) ?_))
noncomputable abbrev P6:List Str:=["_law_script","_law_rules_here","_law_teams_here","_law_many","_law_match","_law_kept","_law_k","_law_entry_here"]
theorem EW:aq P6 ["_law_script","_law_rules_here","_law_teams_here","_law_many"] (aj W2):=fF
noncomputable def Ie:Fn:=lA (dF P6 (ao (aR 4 (nK "Match" 3 pJ (af (aa 1) (af (aa 2) ak))))
   (ao (aR 5 (nI ak))
   (ao (wz (o9 (af (aa 3) ak)) (cI 6)
   (cP (mB (ai (jk false) (aJ "Match" "result" 1 Cw (aa 4) ak) (mC .bB)))
   (ao (aR 7 (e9 4 CF (af (aa 0) (af (ai qo (mC (.int 11)) (aa 6)) (af (aa 2) (af (aa 4) ak))))))
   (cP (mB (ai (c7 false) (e9 2 pL (af (aa 4) (af (aa 7) ak))) (mC (.str ""))))
   (c_ (lQ Aw o6 (aa 5) (af (aa 7) ak)))
   aH))
   aH))
   (aI (aa 5))))))
theorem ac5 (T:Txt K mg a):aO P w K mg base eB 11 a.BW a.vt ["_law_script","_law_rules_here","_law_teams_here","_law_many"] (dO K (aA a) 4 Ie):=
 aO.pure (bh T.Xo.F EW λ_ _ _ _ _ _=>(by have:=EW.nd;exists (mY (c:= "Match") (pI T) (Ae T) (by decide) (ng T) T.Cm.b aB ?_),(mE zbB ?_ ?_ ?_),(o_ T.pD ?_),(gy 6 EW.nd),(aK (ay T) (Ho T) (O1 T) (by decide) T.G7.b aB ?_),(cU (acD T) T.Xb ?_),(cU (EV T) T.Hj ?_),(i8 zaB zaI zaJ iF gD ?_ ?_)))
noncomputable abbrev ajG:List Str:=["self","rules","teams"]
theorem Yz:aq ajG ["self","rules","teams"] (aj ab9):=fF
noncomputable def UQ:Fn:=dF ajG (ao (b9 ["Book"] "rules" (aa 0) (aa 1))
   (ao (b9 ["Book"] "teams" (aa 0) (fQ (tY iL (aa 2)) [] 2 (mD 2 (gE (cI 0) (gE (cI 1) tX))) iN (cZ (af (aa 0) (af (bZ tW (af (aa 1) ak)) ak)))))
   (ao (b9 ["Book"] "kept" (aa 0) (nI ak))
   (b9 ["Book"] "current" (aa 0) (nK "Match" 3 pJ (af (aa 1) (af (aa 2) ak)))))))
theorem ajH (T:Txt K mg a):aO P w K mg base eB 5 a.Ex a.Cb ["self","rules","teams"] (dO K (aA a) 3 UQ):=
 bh T.ai9.F Yz λ_ _ _ _ _ _=>(by have:=Yz.nd;exists (aZ (OM T) ?_ ?_),(aZ (ON T) ?_ ?_),(iQ (F:=[]) (T:=["name","players"]) (fr:=[]) (G3 ab9 (by decide +kernel)) ?_ (λ_ _ _ _ _=>?_) (λ_ _ _ _ _=>?_) (λ_ _ _ _ _=>?_)),(nW (n:=2) ?_),(gy 0 (show (["name","players"]:List Str).Nodup by decide +kernel)),(gy 1 (show (["name","players"]:List Str).Nodup by decide +kernel)),(gX zx T.qE zbv ?_),(aZ (zZ T) ?_ ?_),(aZ (OO T) ?_ ?_),(mY (c:= "Match") (pI T) (Ae T) (by decide) (ng T) T.Cm.b aB ?_))
noncomputable abbrev YA:List Str:=["_law_script","_law_k","_law_teams_here","_law_entries_here","_law_way","_law_names","_law_name"]
theorem P7:aq YA ["_law_script","_law_k","_law_teams_here","_law_entries_here"] (aj W3):=fF
noncomputable def Ig:Fn:=dF YA (ao (aR 4 (e9 3 cK (af (aa 0) (af (aa 1) (af (mC (.int 6)) ak)))))
   (ao (cP (lO (mB (ai (c7 false) (aa 4) (mC (.int 0)))) (mB (ai D9 (bZ gx (af (aa 3) ak)) (mC (.int 0)))))
   (aI (ai bJ (aa 3) (e9 3 cK (af (aa 0) (af (ai cT (aa 1) (mC (.int 1))) (af (bZ gx (af (aa 3) ak)) ak))))))
   aH)
   (ao (cP (mB (ai (c7 false) (aa 4) (mC (.int 1))))
   (aI (ai bJ (kI (af (cZ (af (mC (.str "declare")) ak)) (af (cZ (af (mC (.str "close")) ak)) (af (cZ (af (mC (.str "follow")) ak)) ak)))) (e9 3 cK (af (aa 0) (af (ai cT (aa 1) (mC (.int 1))) (af (mC (.int 3)) ak))))))
   aH)
   (ao (aR 5 (ai cT (ai cT (ai bJ (ai bJ (aa 2) (mC (.int 0))) (mC (.int 1))) (ai bJ (ai bJ (aa 2) (mC (.int 1))) (mC (.int 1)))) (kI (af (mC (.str "nobodyzz")) ak))))
   (ao (aR 6 (ai bJ (aa 5) (e9 3 cK (af (aa 0) (af (ai cT (aa 1) (mC (.int 1))) (af (bZ gx (af (aa 5) ak)) ak))))))
   (ao (cP (mB (ai (c7 false) (aa 4) (mC (.int 2))))
   (aI (ai bJ (kI (af (cZ (af (mC (.str "in")) (af (aa 6) ak))) (af (cZ (af (mC (.str "bowl")) (af (aa 6) ak))) (af (cZ (af (mC (.str "hurt")) (af (aa 6) ak))) ak)))) (e9 3 cK (af (aa 0) (af (ai cT (aa 1) (mC (.int 2))) (af (mC (.int 3)) ak))))))
   aH)
   (aI (e9 3 CD (af (aa 0) (af (ai cT (aa 1) (mC (.int 3))) (af (cZ (af (mC (.str "")) (af (aa 6) (af (aa 6) (af (mC (.str "")) ak))))) ak)))))))))))
theorem ac6 (T:Txt K mg a):aO P w K mg base eB 5 a.BX a.vz ["_law_script","_law_k","_law_teams_here","_law_entries_here"] (dO K (aA a) 4 Ig):=
 bh T.Xp.F P7 λ_ _ _ _ _ _=>(by have:=P7.nd;exists (cU (qI T) T.vG ?_),(dJ mz T.mH zbg ?_),(cU (Pb T) T.Om ?_))
noncomputable abbrev ajI:List Str:=["self","entry"]
theorem YB:aq ajI ["self","entry"] (aj ai1):=fF
noncomputable def JV:Fn:=fnX ajI (ao (c_ (aJ "Match" "tell" 2 mK (a_ ["Book"] "current" (aa 0)) (af (aa 1) ak)))
   (c_ (lQ Aw o6 (a_ ["Book"] "kept" (aa 0)) (af (aa 1) ak))))
theorem ajJ (T:Txt K mg a):aO P w K mg base (qe P w) 10 a.JI a.Cc ["self","entry"] (dO K (aA a) 2 JV):=
 Nz T.acj.F YB λ_ _ _ _ _ _=>(by have:=YB.nd;exists (N_ (c:= "Match") (ay T) (z_ T) (ET T) (by decide) T.Cq.b aiU ?_ ?_),(az (OO T) ?_),(i8 zaB zaI zaJ iF gD ?_ ?_),(az (zZ T) ?_))
noncomputable abbrev YC:List Str:=["_law_book","_law_entry_here","_law_caught","refused"]
theorem EX:aq YC ["_law_book","_law_entry_here"] (aj W4):=fF
noncomputable def rA:Fn:=dF YC (ao (aR 2 (mC .bB))
   (ao (Bt "Book" "tell" 2 JV (aa 0) (af (aa 1) ak) ["NotLet"] (some 3)
   (aR 2 (aa 3)))
   (ao (cP (mB (ai (jk false) (aa 2) (mC .bB)))
   (aI (mC (.str "")))
   aH)
   (ao (cP (Dh (tO (mB (Br [("NotLet",true)] (aa 2)))) (Dh (mB (Br [("NotLet",false)] (aa 2))) (tO (mB (Br [("NotLet",true)] (aa 2))))))
   (aI (mC .bB))
   aH)
   (ao (cP (mB (ai (c7 true) (Bp ["NotLet"] "number" (aa 2)) (mC (.int 0))))
   (aI (mC .bB))
   aH)
   (aI (Bp ["NotLet"] "rule" (aa 2))))))))
theorem ac7 (T:Txt K mg a):aO P w K mg base eB 11 a.BY a.vA ["_law_book","_law_entry_here"] (dO K (aA a) 2 rA):=
 bh T.Xq.F EX λ_ _ _ _ _ _=>(by have:=EX.nd;exists (xK (l:=3) (c:= "Book") T.Er.j9 (z6 T) (Cu T) (vK T) (acu T) (ajJ T) (by decide) T.acj.b ?_ ?_ EX.nd (λ_=>?_) rfl rfl),(TL T.Er.sy (JS T) T.kT (Ct T) ?_),(TN (cs:=[a.bP,a.bK]) T.Er.sy (nA T) T.kT (NL (C:=a.bP) (OP T) (NL (C:=a.bK) (JP T) TQ)) ?_),(TM T.Er.sy (wC T) T.kT T.zS ?_),(zI (JR T) ?_),(zI (Hl T) ?_))
noncomputable abbrev ajK:List Str:=["self"]
theorem YD:aq ajK ["self"] (aj ai2):=fF
noncomputable def P8:Fn:=dF ajK (aI (bZ qu (af (a_ ["Book"] "kept" (aa 0)) ak)))
theorem ajL (T:Txt K mg a):aO P w K mg base eB 2 a.JJ a.Cd ["self"] (dO K (aA a) 1 P8):=
 bh T.ack.F YD λ_ _ _ _ _ _=>(by have:=YD.nd;exists (gX GL T.qE zbv ?_),(az (zZ T) ?_))
noncomputable abbrev YE:List Str:=["self"]
theorem P9:aq YE ["self"] (aj W5):=fF
noncomputable def Ih:Fn:=lA (dF YE (aI (bZ tW (af (a_ ["Match"] "balls_told" (aa 0)) ak))))
theorem ac8 (T:Txt K mg a):aO P w K mg base eB 2 a.yy a.vD ["self"] (dO K (aA a) 1 Ih):=
 aO.pure (bh T.OI.F P9 λ_ _ _ _ _ _=>(by have:=P9.nd;exists (gX zx T.qE zbv ?_),(az (EF T) ?_)))
noncomputable abbrev YF:List Str:=["_law_match"]
theorem P_:aq YF ["_law_match"] (aj W6):=fF
noncomputable def CJ:Fn:=dF YF (aI (kI (af (aJ "Match" "state" 1 Cy (aa 0) ak) (af (aJ "Match" "innings" 1 CA (aa 0) ak) (af (aJ "Match" "turn" 1 vO (aa 0) ak) (af (aJ "Match" "players" 1 Cz (aa 0) ak) (af (aJ "Match" "result" 1 Cw (aa 0) ak) (af (aJ "Match" "log" 1 Ih (aa 0) ak) ak))))))))
theorem ac9 (T:Txt K mg a):aO P w K mg base eB 7 a.BZ a.vE ["_law_match"] (dO K (aA a) 1 CJ):=
 bh T.Xr.F P_ λ_ _ _ _ _ _=>(by have:=P_.nd;exists (aK (ay T) (Hq T) (O3 T) (by decide) T.G8.b aB ?_),(aK (ay T) (Hs T) (O6 T) (by decide) T.G_.b aB ?_),(aK (ay T) (Hu T) (O_ T) (by decide) T.Hg.b aB ?_),(aK (ay T) (Hr T) (O5 T) (by decide) T.G9.b aB ?_),(aK (ay T) (Ho T) (O1 T) (by decide) T.G7.b aB ?_),(aK (ay T) (UK T) (ac8 T) (by decide) T.OI.b aB ?_))
noncomputable abbrev ajM:List Str:=["self","own","entry"]
theorem Qa:aq ajM ["self"] (aj ai3):=fF
noncomputable def Qc:Fn:=dF ajM (ao (aR 1 (nK "Match" 3 pJ (af (a_ ["Book"] "rules" (aa 0)) (af (a_ ["Book"] "teams" (aa 0)) ak))))
   (ao (wz (tY iL (a_ ["Book"] "kept" (aa 0))) (cI 2)
   (c_ (aJ "Match" "tell" 2 mK (aa 1) (af (aa 2) ak))))
   (aI (aa 1))))
theorem ajN (T:Txt K mg a):aO P w K mg base eB 10 a.JK a.Cf ["self"] (dO K (aA a) 1 Qc):=
 bh T.acm.F Qa λ_ _ _ _ _ _=>(by have:=Qa.nd;exists (mY (c:= "Match") (pI T) (Ae T) (by decide) (ng T) T.Cm.b aB ?_),(az (OM T) ?_),(az (ON T) ?_),(mE zbB ?_ ?_ ?_),(az (zZ T) ?_),(gy 2 Qa.nd),(bM (ay T) (z_ T) (ET T) (by decide) T.Cq.b NO ?_ ?_))
noncomputable abbrev YG:List Str:=["_law_book","_law_match","_law_kept","_law_found","_law_told"]
theorem Qd:aq YG ["_law_book","_law_match","_law_kept"] (aj W7):=fF
noncomputable def CK:Fn:=dF YG (ao (aR 3 (aJ "Book" "entries" 1 P8 (aa 0) ak))
   (ao (cP (Dh (mB (ai (c7 true) (aa 3) (aa 2))) (mB (ai (c7 true) (e9 1 CJ (af (aJ "Book" "match" 1 Qc (aa 0) ak) ak)) (e9 1 CJ (af (aa 1) ak)))))
   (aI (mC (.bl false)))
   aH)
   (ao (c_ (lQ Aw o6 (aa 3) (af (mC .bB) ak)))
   (ao (aR 4 (aJ "Book" "match" 1 Qc (aa 0) ak))
   (ao (c_ (e9 2 pL (af (aa 4) (af (cZ (af (mC (.str "close")) ak)) ak))))
   (aI (ai (c7 false) (aJ "Book" "entries" 1 P8 (aa 0) ak) (aa 2))))))))
theorem ada (T:Txt K mg a):aO P w K mg base eB 11 a.B4 a.vF ["_law_book","_law_match","_law_kept"] (dO K (aA a) 3 CK):=
 bh T.Xs.F Qd λ_ _ _ _ _ _=>(by have:=Qd.nd;exists (aK (vK T) (acv T) (ajL T) (by decide) T.ack.b aB ?_),(cU (ac9 T) T.Xr ?_),(aK (vK T) (acw T) (ajN T) (by decide) T.acm.b aB ?_),(i8 zaB zaI zaJ iF gD ?_ ?_),(cU (EV T) T.Hj ?_))
noncomputable abbrev YH:List Str:=["_law_script","_law_cells","_law_rules_here","_law_teams_here","_law_entries_here","_law_handed","_law_book","_law_match","_law_places","_law_kept","_law_k","_law_odd_here","_law_rule"]
theorem vQ:aq YH ["_law_script"] (aj G5):=fF
noncomputable def Qe:Fn:=dF YH (ao (aR 1 (e9 2 Hx (af (aa 0) (af (mC (.int 40)) ak))))
   (ao (aR 2 (e9 1 Hz (af (aa 1) ak)))
   (ao (aR 3 (e9 2 HA (af (aa 1) (af (ai bJ (aa 2) (mC (.int 5))) ak))))
   (ao (aR 4 (e9 4 Ie (af (aa 1) (af (aa 2) (af (aa 3) (af (bZ xx (af (mC (.int 60)) (af (ai qo (mC (.int 3)) (bZ gx (af (aa 1) ak))) ak))) ak))))))
   (ao (aR 5 (zA (tY iL (aa 3)) [] 2 (mD 2 (gE (cI 0) (gE (cI 1) tX))) iN (cZ (af (aa 0) (af (bZ qu (af (aa 1) ak)) ak)))))
   (ao (aR 6 (nK "Book" 3 UQ (af (aa 2) (af (aa 5) ak))))
   (ao (c_ (lQ Aw o6 (ai bJ (ai bJ (aa 5) (mC (.int 0))) (mC (.int 1))) (af (mC (.str "zz")) ak)))
   (ao (c_ (lQ Aw Ng (aa 5) ak))
   (ao (aR 7 (nK "Match" 3 pJ (af (aa 2) (af (aa 3) ak))))
   (ao (aR 8 (fQ (o9 (af (mC (.int 8)) ak)) [1,4] 1 (cI 2) iN (e9 3 cK (af (aa 0) (af (ai cT (mC (.int 2000)) (aa 2)) (af (ai cT (bZ gx (af (aa 1) ak)) (mC (.int 1))) ak))))))
   (ao (aR 9 (nI ak))
   (ao (wz (o9 (af (ai cT (bZ gx (af (aa 4) ak)) (mC (.int 1))) ak)) (cI 10)
   (ao (cP (mB (ai (v9 false) (aa 10) (aa 8)))
   (ao (aR 11 (e9 4 Ig (af (aa 1) (af (ai cT (mC (.int 2010)) (ai qo (mC (.int 9)) (aa 10))) (af (aa 3) (af (aa 4) ak))))))
   (ao (aR 12 (e9 2 pL (af (aa 7) (af (aa 11) ak))))
   (ao (cP (Dh (mB (ai (c7 true) (e9 2 rA (af (aa 6) (af (aa 11) ak))) (aa 12))) (lO (mB (ai (c7 true) (aa 12) (mC (.str "")))) (tO (mB (e9 3 CK (af (aa 6) (af (aa 7) (af (aa 9) ak))))))))
   (aI (mC (.bl false)))
   aH)
   (cP (mB (ai (c7 false) (aa 12) (mC (.str ""))))
   (c_ (lQ Aw o6 (aa 9) (af (aa 11) ak)))
   aH))))
   aH)
   (cP (mB (ai zu (aa 10) (bZ gx (af (aa 4) ak))))
   (ao (aR 12 (e9 2 pL (af (aa 7) (af (ai bJ (aa 4) (aa 10)) ak))))
   (ao (cP (mB (ai (c7 true) (e9 2 rA (af (aa 6) (af (ai bJ (aa 4) (aa 10)) ak))) (aa 12)))
   (aI (mC (.bl false)))
   aH)
   (cP (mB (ai (c7 false) (aa 12) (mC (.str ""))))
   (c_ (lQ Aw o6 (aa 9) (af (ai bJ (aa 4) (aa 10)) ak)))
   aH)))
   aH)))
   (aI (e9 3 CK (af (aa 6) (af (aa 7) (af (aa 9) ak)))))))))))))))))
theorem adb (T:Txt K mg a):aO P w K mg base eB 12 a.B5 a.nZ ["_law_script"] (dO K (aA a) 1 Qe):=
 bh T.OJ.F vQ λ_ _ _ _ _ _=>(by have:=vQ.nd;exists (cU (acy T) T.W8 ?_),(cU (acA T) T.W_ ?_),(cU (acB T) T.Xa ?_),(cU (ac5 T) T.Xo ?_),(dJ aaX T.ai5 PyProof.Rows.boot_min ?_),(dJ mz T.mH zbg ?_),(Nl (target:=.Tuple _ _ _) (i0:=5) (F:=[]) (T:=["_law_name","_law_players"]) (fr:=[]) (G3 G5 (by decide +kernel)) ?_ (λ_ _ _ _ _=>?_) (λ_ _ _ _ _=>?_) (λ_ _ _ _ _=>?_) vQ.nd rfl rfl rfl),(nW (n:=2) ?_),(gy 0 (show (["_law_name","_law_players"]:List Str).Nodup by decide +kernel)),(gy 1 (show (["_law_name","_law_players"]:List Str).Nodup by decide +kernel)),(gX GL T.qE zbv ?_),(mY (c:= "Book") (Us T) (ajH T) (by decide) (OL T) T.ai9.b aB ?_),(i8 zaB zaI zaJ iF gD ?_ ?_),(SK zaB PySem.F.slot_list_pop PySem.F.type_list_pop iF ahI ?_),(mY (c:= "Match") (pI T) (Ae T) (by decide) (ng T) T.Cm.b aB ?_),(r_ (target:=.Name "_law_k" _) (i0:=8) (F:=["_law_cells","_law_entries_here"]) (T:=["_law_k"]) (fr:=[1,4]) (G3 G5 (by decide +kernel)) ?_ (λ_ _ _ _ _=>?_) (λ_ _ _ _ _=>?_) (λ_ _ _ _ _=>?_) vQ.nd rfl rfl rfl),(o_ T.pD ?_),(gy 2 (show (["_law_cells","_law_entries_here","_law_k"]:List Str).Nodup by decide +kernel)),(cU (qI T) T.vG ?_),(mE zbB ?_ ?_ ?_),(gy 10 vQ.nd),(kF Eb ?_ ?_ (by with_unfolding_all rfl)),(cU (ac6 T) T.Xp ?_),(cU (EV T) T.Hj ?_),(cU (ac7 T) T.Xq ?_),(cU (ada T) T.Xs ?_))
end
theorem Ag (c:Nat):Str.length ⟨#[c]⟩=1:=rfl
theorem Ah (a b:Str):(a++b).length=a.length+b.length:=by
 have:(a++b).cps.toList.length=a.cps.toList.length+b.cps.toList.length:=by rw[MA,zaj]
 simpa[Str.length] using this
theorem ade (l:List Tr)(m:Nat):tV l none (some (m:Int))=l.take m:=by
 unfold tV;rw[HT.L6,HT.Gj,List.drop_zero,Nat.sub_zero];by_cases h:m<=l.length
 ·rw[zdO h]
 ·rw[zdG (by omega),zbK (zah _),zbK (by omega)]
theorem UR (l:List Tr)(i j:Nat)(h:i<=j):tV l (some (i:Int)) (some (j:Int))=(l.take j).drop i:=by
 unfold tV;simp only[HT.Gj];rw[List.drop_take];by_cases h1:i<=l.length
 ·rw[zdO h1]
  by_cases h2:j<=l.length
  ·rw[zdO h2]
  ·rw[zdG (by omega)]
   rw[zbK (by simp),zbK (by simp;omega)]
 ·rw[zdU (as:=l) (i:=i) (by omega),zdU (as:=l) (i:=min i l.length) (by rw[zdG (by omega)];exact zah _)]
  simp
section
variable {x0 x1 x2 x3 x4 x5 x6 x7 x8 x9 gO fU v:Tr}
noncomputable abbrev mr (x0 x1 x2 x3 x4 x5 x6:Tr):List (Str×Tr):=[("rules",x0),("sides",x1),("known",x2),("played",x3),("followed",x4),("closed",x5),("balls_told",x6)]
noncomputable abbrev ir (x0 x1 x2 x3 x4 x5 x6 x7 x8 x9 gO fU:Tr):List (Str×Tr):=[("side",x0),("facing",x1),("other",x2),("bowler",x3),("ahead",x4),("total",x5),("wickets",x6),("overs",x7),("balls",x8),("ending",x9),("outs",gO),("spells",fU)]
theorem adf:bY ("rules" : Str) v ([]:List (Str×Tr))=([("rules",v)]:List (Str×Tr)):=by kernel_rfl
theorem adg:aP ("rules" : Str) (mr x0 x1 x2 x3 x4 x5 x6)=some x0:=by kernel_rfl
theorem adh:bY ("sides" : Str) v ([("rules",x0)]:List (Str×Tr))=([("rules",x0),("sides",v)]:List (Str×Tr)):=by kernel_rfl
theorem adi:aP ("sides" : Str) (mr x0 x1 x2 x3 x4 x5 x6)=some x1:=by kernel_rfl
theorem adj:bY ("sides" : Str) v (mr x0 x1 x2 x3 x4 x5 x6)=([("rules",x0),("sides",v),("known",x2),("played",x3),("followed",x4),("closed",x5),("balls_told",x6)]:List (Str×Tr)):=by kernel_rfl
theorem adk:bY ("known" : Str) v ([("rules",x0),("sides",x1)]:List (Str×Tr))=([("rules",x0),("sides",x1),("known",v)]:List (Str×Tr)):=by kernel_rfl
theorem adl:aP ("known" : Str) (mr x0 x1 x2 x3 x4 x5 x6)=some x2:=by kernel_rfl
theorem adm:bY ("played" : Str) v ([("rules",x0),("sides",x1),("known",x2)]:List (Str×Tr))=([("rules",x0),("sides",x1),("known",x2),("played",v)]:List (Str×Tr)):=by kernel_rfl
theorem adn:aP ("played" : Str) (mr x0 x1 x2 x3 x4 x5 x6)=some x3:=by kernel_rfl
theorem ado:bY ("followed" : Str) v ([("rules",x0),("sides",x1),("known",x2),("played",x3)]:List (Str×Tr))=([("rules",x0),("sides",x1),("known",x2),("played",x3),("followed",v)]:List (Str×Tr)):=by kernel_rfl
theorem adp:aP ("followed" : Str) (mr x0 x1 x2 x3 x4 x5 x6)=some x4:=by kernel_rfl
theorem adq:bY ("followed" : Str) v (mr x0 x1 x2 x3 x4 x5 x6)=([("rules",x0),("sides",x1),("known",x2),("played",x3),("followed",v),("closed",x5),("balls_told",x6)]:List (Str×Tr)):=by kernel_rfl
theorem ads:bY ("closed" : Str) v ([("rules",x0),("sides",x1),("known",x2),("played",x3),("followed",x4)]:List (Str×Tr))=([("rules",x0),("sides",x1),("known",x2),("played",x3),("followed",x4),("closed",v)]:List (Str×Tr)):=by kernel_rfl
theorem adt:aP ("closed" : Str) (mr x0 x1 x2 x3 x4 x5 x6)=some x5:=by kernel_rfl
theorem adu:bY ("closed" : Str) v (mr x0 x1 x2 x3 x4 x5 x6)=([("rules",x0),("sides",x1),("known",x2),("played",x3),("followed",x4),("closed",v),("balls_told",x6)]:List (Str×Tr)):=by kernel_rfl
theorem adv:bY ("balls_told" : Str) v ([("rules",x0),("sides",x1),("known",x2),("played",x3),("followed",x4),("closed",x5)]:List (Str×Tr))=([("rules",x0),("sides",x1),("known",x2),("played",x3),("followed",x4),("closed",x5),("balls_told",v)]:List (Str×Tr)):=by kernel_rfl
theorem adw:aP ("balls_told" : Str) (mr x0 x1 x2 x3 x4 x5 x6)=some x6:=by kernel_rfl
theorem adx:aP ("going" : Str) (mr x0 x1 x2 x3 x4 x5 x6)=none:=by kernel_rfl
theorem ady:aP ("state" : Str) (mr x0 x1 x2 x3 x4 x5 x6)=none:=by kernel_rfl
theorem adz:aP ("most_innings" : Str) (mr x0 x1 x2 x3 x4 x5 x6)=none:=by kernel_rfl
theorem adA:aP ("total_of" : Str) (mr x0 x1 x2 x3 x4 x5 x6)=none:=by kernel_rfl
theorem adB:aP ("lead_of" : Str) (mr x0 x1 x2 x3 x4 x5 x6)=none:=by kernel_rfl
theorem adC:aP ("is_done" : Str) (mr x0 x1 x2 x3 x4 x5 x6)=none:=by kernel_rfl
theorem adD:aP ("next_side" : Str) (mr x0 x1 x2 x3 x4 x5 x6)=none:=by kernel_rfl
theorem adE:aP ("may_follow" : Str) (mr x0 x1 x2 x3 x4 x5 x6)=none:=by kernel_rfl
theorem adF:aP ("side_to_start" : Str) (mr x0 x1 x2 x3 x4 x5 x6)=none:=by kernel_rfl
theorem adG:aP ("start_refusal" : Str) (mr x0 x1 x2 x3 x4 x5 x6)=none:=by kernel_rfl
theorem adH:aP ("swap_refusal" : Str) (mr x0 x1 x2 x3 x4 x5 x6)=none:=by kernel_rfl
theorem adI:aP ("follow_refusal" : Str) (mr x0 x1 x2 x3 x4 x5 x6)=none:=by kernel_rfl
theorem adJ:aP ("refusal" : Str) (mr x0 x1 x2 x3 x4 x5 x6)=none:=by kernel_rfl
theorem adK:aP ("begin" : Str) (mr x0 x1 x2 x3 x4 x5 x6)=none:=by kernel_rfl
theorem adL:aP ("play_ball" : Str) (mr x0 x1 x2 x3 x4 x5 x6)=none:=by kernel_rfl
theorem adM:aP ("swap_player" : Str) (mr x0 x1 x2 x3 x4 x5 x6)=none:=by kernel_rfl
theorem adN:aP ("close" : Str) (mr x0 x1 x2 x3 x4 x5 x6)=none:=by kernel_rfl
theorem adO:aP ("do" : Str) (mr x0 x1 x2 x3 x4 x5 x6)=none:=by kernel_rfl
theorem adP:aP ("ending_due" : Str) (mr x0 x1 x2 x3 x4 x5 x6)=none:=by kernel_rfl
theorem adQ:aP ("tell" : Str) (mr x0 x1 x2 x3 x4 x5 x6)=none:=by kernel_rfl
theorem adR:aP ("innings" : Str) (mr x0 x1 x2 x3 x4 x5 x6)=none:=by kernel_rfl
theorem adS:aP ("turn" : Str) (mr x0 x1 x2 x3 x4 x5 x6)=none:=by kernel_rfl
theorem adT:aP ("players" : Str) (mr x0 x1 x2 x3 x4 x5 x6)=none:=by kernel_rfl
theorem adU:aP ("result" : Str) (mr x0 x1 x2 x3 x4 x5 x6)=none:=by kernel_rfl
theorem adV:aP ("log" : Str) (mr x0 x1 x2 x3 x4 x5 x6)=none:=by kernel_rfl
theorem Qf:(("Match" : Str)∈(["Match"]:List Str))=True:=eq_true (zav.mpr rfl)
theorem adW:bY ("side" : Str) v ([]:List (Str×Tr))=([("side",v)]:List (Str×Tr)):=by kernel_rfl
theorem adX:aP ("side" : Str) (ir x0 x1 x2 x3 x4 x5 x6 x7 x8 x9 gO fU)=some x0:=by kernel_rfl
theorem adY:bY ("facing" : Str) v ([("side",x0)]:List (Str×Tr))=([("side",x0),("facing",v)]:List (Str×Tr)):=by kernel_rfl
theorem adZ:aP ("facing" : Str) (ir x0 x1 x2 x3 x4 x5 x6 x7 x8 x9 gO fU)=some x1:=by kernel_rfl
theorem ad0:bY ("facing" : Str) v (ir x0 x1 x2 x3 x4 x5 x6 x7 x8 x9 gO fU)=([("side",x0),("facing",v),("other",x2),("bowler",x3),("ahead",x4),("total",x5),("wickets",x6),("overs",x7),("balls",x8),("ending",x9),("outs",gO),("spells",fU)]:List (Str×Tr)):=by kernel_rfl
theorem ad1:bY ("other" : Str) v ([("side",x0),("facing",x1)]:List (Str×Tr))=([("side",x0),("facing",x1),("other",v)]:List (Str×Tr)):=by kernel_rfl
theorem ad2:aP ("other" : Str) (ir x0 x1 x2 x3 x4 x5 x6 x7 x8 x9 gO fU)=some x2:=by kernel_rfl
theorem ad3:bY ("other" : Str) v (ir x0 x1 x2 x3 x4 x5 x6 x7 x8 x9 gO fU)=([("side",x0),("facing",x1),("other",v),("bowler",x3),("ahead",x4),("total",x5),("wickets",x6),("overs",x7),("balls",x8),("ending",x9),("outs",gO),("spells",fU)]:List (Str×Tr)):=by kernel_rfl
theorem ad4:bY ("bowler" : Str) v ([("side",x0),("facing",x1),("other",x2)]:List (Str×Tr))=([("side",x0),("facing",x1),("other",x2),("bowler",v)]:List (Str×Tr)):=by kernel_rfl
theorem ad5:aP ("bowler" : Str) (ir x0 x1 x2 x3 x4 x5 x6 x7 x8 x9 gO fU)=some x3:=by kernel_rfl
theorem ad6:bY ("bowler" : Str) v (ir x0 x1 x2 x3 x4 x5 x6 x7 x8 x9 gO fU)=([("side",x0),("facing",x1),("other",x2),("bowler",v),("ahead",x4),("total",x5),("wickets",x6),("overs",x7),("balls",x8),("ending",x9),("outs",gO),("spells",fU)]:List (Str×Tr)):=by kernel_rfl
theorem ad7:bY ("ahead" : Str) v ([("side",x0),("facing",x1),("other",x2),("bowler",x3)]:List (Str×Tr))=([("side",x0),("facing",x1),("other",x2),("bowler",x3),("ahead",v)]:List (Str×Tr)):=by kernel_rfl
theorem ad8:aP ("ahead" : Str) (ir x0 x1 x2 x3 x4 x5 x6 x7 x8 x9 gO fU)=some x4:=by kernel_rfl
theorem ad9:bY ("ahead" : Str) v (ir x0 x1 x2 x3 x4 x5 x6 x7 x8 x9 gO fU)=([("side",x0),("facing",x1),("other",x2),("bowler",x3),("ahead",v),("total",x5),("wickets",x6),("overs",x7),("balls",x8),("ending",x9),("outs",gO),("spells",fU)]:List (Str×Tr)):=by kernel_rfl
theorem aea:bY ("total" : Str) v ([("side",x0),("facing",x1),("other",x2),("bowler",x3),("ahead",x4)]:List (Str×Tr))=([("side",x0),("facing",x1),("other",x2),("bowler",x3),("ahead",x4),("total",v)]:List (Str×Tr)):=by kernel_rfl
theorem aeb:aP ("total" : Str) (ir x0 x1 x2 x3 x4 x5 x6 x7 x8 x9 gO fU)=some x5:=by kernel_rfl
theorem aec:bY ("total" : Str) v (ir x0 x1 x2 x3 x4 x5 x6 x7 x8 x9 gO fU)=([("side",x0),("facing",x1),("other",x2),("bowler",x3),("ahead",x4),("total",v),("wickets",x6),("overs",x7),("balls",x8),("ending",x9),("outs",gO),("spells",fU)]:List (Str×Tr)):=by kernel_rfl
theorem aed:bY ("wickets" : Str) v ([("side",x0),("facing",x1),("other",x2),("bowler",x3),("ahead",x4),("total",x5)]:List (Str×Tr))=([("side",x0),("facing",x1),("other",x2),("bowler",x3),("ahead",x4),("total",x5),("wickets",v)]:List (Str×Tr)):=by kernel_rfl
theorem aee:aP ("wickets" : Str) (ir x0 x1 x2 x3 x4 x5 x6 x7 x8 x9 gO fU)=some x6:=by kernel_rfl
theorem aef:bY ("wickets" : Str) v (ir x0 x1 x2 x3 x4 x5 x6 x7 x8 x9 gO fU)=([("side",x0),("facing",x1),("other",x2),("bowler",x3),("ahead",x4),("total",x5),("wickets",v),("overs",x7),("balls",x8),("ending",x9),("outs",gO),("spells",fU)]:List (Str×Tr)):=by kernel_rfl
theorem aeg:bY ("overs" : Str) v ([("side",x0),("facing",x1),("other",x2),("bowler",x3),("ahead",x4),("total",x5),("wickets",x6)]:List (Str×Tr))=([("side",x0),("facing",x1),("other",x2),("bowler",x3),("ahead",x4),("total",x5),("wickets",x6),("overs",v)]:List (Str×Tr)):=by kernel_rfl
theorem aeh:aP ("overs" : Str) (ir x0 x1 x2 x3 x4 x5 x6 x7 x8 x9 gO fU)=some x7:=by kernel_rfl
theorem aei:bY ("overs" : Str) v (ir x0 x1 x2 x3 x4 x5 x6 x7 x8 x9 gO fU)=([("side",x0),("facing",x1),("other",x2),("bowler",x3),("ahead",x4),("total",x5),("wickets",x6),("overs",v),("balls",x8),("ending",x9),("outs",gO),("spells",fU)]:List (Str×Tr)):=by kernel_rfl
theorem aej:bY ("balls" : Str) v ([("side",x0),("facing",x1),("other",x2),("bowler",x3),("ahead",x4),("total",x5),("wickets",x6),("overs",x7)]:List (Str×Tr))=([("side",x0),("facing",x1),("other",x2),("bowler",x3),("ahead",x4),("total",x5),("wickets",x6),("overs",x7),("balls",v)]:List (Str×Tr)):=by kernel_rfl
theorem aek:aP ("balls" : Str) (ir x0 x1 x2 x3 x4 x5 x6 x7 x8 x9 gO fU)=some x8:=by kernel_rfl
theorem ael:bY ("balls" : Str) v (ir x0 x1 x2 x3 x4 x5 x6 x7 x8 x9 gO fU)=([("side",x0),("facing",x1),("other",x2),("bowler",x3),("ahead",x4),("total",x5),("wickets",x6),("overs",x7),("balls",v),("ending",x9),("outs",gO),("spells",fU)]:List (Str×Tr)):=by kernel_rfl
theorem aem:bY ("ending" : Str) v ([("side",x0),("facing",x1),("other",x2),("bowler",x3),("ahead",x4),("total",x5),("wickets",x6),("overs",x7),("balls",x8)]:List (Str×Tr))=([("side",x0),("facing",x1),("other",x2),("bowler",x3),("ahead",x4),("total",x5),("wickets",x6),("overs",x7),("balls",x8),("ending",v)]:List (Str×Tr)):=by kernel_rfl
theorem aen:aP ("ending" : Str) (ir x0 x1 x2 x3 x4 x5 x6 x7 x8 x9 gO fU)=some x9:=by kernel_rfl
theorem aeo:bY ("ending" : Str) v (ir x0 x1 x2 x3 x4 x5 x6 x7 x8 x9 gO fU)=([("side",x0),("facing",x1),("other",x2),("bowler",x3),("ahead",x4),("total",x5),("wickets",x6),("overs",x7),("balls",x8),("ending",v),("outs",gO),("spells",fU)]:List (Str×Tr)):=by kernel_rfl
theorem US:bY ("outs" : Str) v ([("side",x0),("facing",x1),("other",x2),("bowler",x3),("ahead",x4),("total",x5),("wickets",x6),("overs",x7),("balls",x8),("ending",x9)]:List (Str×Tr))=([("side",x0),("facing",x1),("other",x2),("bowler",x3),("ahead",x4),("total",x5),("wickets",x6),("overs",x7),("balls",x8),("ending",x9),("outs",v)]:List (Str×Tr)):=by kernel_rfl
theorem UT:aP ("outs" : Str) (ir x0 x1 x2 x3 x4 x5 x6 x7 x8 x9 gO fU)=some gO:=by kernel_rfl
theorem UU:bY ("outs" : Str) v (ir x0 x1 x2 x3 x4 x5 x6 x7 x8 x9 gO fU)=([("side",x0),("facing",x1),("other",x2),("bowler",x3),("ahead",x4),("total",x5),("wickets",x6),("overs",x7),("balls",x8),("ending",x9),("outs",v),("spells",fU)]:List (Str×Tr)):=by kernel_rfl
theorem UW:bY ("spells" : Str) v ([("side",x0),("facing",x1),("other",x2),("bowler",x3),("ahead",x4),("total",x5),("wickets",x6),("overs",x7),("balls",x8),("ending",x9),("outs",gO)]:List (Str×Tr))=([("side",x0),("facing",x1),("other",x2),("bowler",x3),("ahead",x4),("total",x5),("wickets",x6),("overs",x7),("balls",x8),("ending",x9),("outs",gO),("spells",v)]:List (Str×Tr)):=by kernel_rfl
theorem UX:aP ("spells" : Str) (ir x0 x1 x2 x3 x4 x5 x6 x7 x8 x9 gO fU)=some fU:=by kernel_rfl
theorem UY:bY ("spells" : Str) v (ir x0 x1 x2 x3 x4 x5 x6 x7 x8 x9 gO fU)=([("side",x0),("facing",x1),("other",x2),("bowler",x3),("ahead",x4),("total",x5),("wickets",x6),("overs",x7),("balls",x8),("ending",x9),("outs",gO),("spells",v)]:List (Str×Tr)):=by kernel_rfl
theorem aep:aP ("stands" : Str) (ir x0 x1 x2 x3 x4 x5 x6 x7 x8 x9 gO fU)=none:=by kernel_rfl
theorem aeq:aP ("has_gap" : Str) (ir x0 x1 x2 x3 x4 x5 x6 x7 x8 x9 gO fU)=none:=by kernel_rfl
theorem aer:aP ("has_left" : Str) (ir x0 x1 x2 x3 x4 x5 x6 x7 x8 x9 gO fU)=none:=by kernel_rfl
theorem ajO:aP ("change_ends" : Str) (ir x0 x1 x2 x3 x4 x5 x6 x7 x8 x9 gO fU)=none:=by kernel_rfl
theorem aes:aP ("leave" : Str) (ir x0 x1 x2 x3 x4 x5 x6 x7 x8 x9 gO fU)=none:=by kernel_rfl
theorem ajP:aP ("come_in" : Str) (ir x0 x1 x2 x3 x4 x5 x6 x7 x8 x9 gO fU)=none:=by kernel_rfl
theorem ajQ:aP ("bowl_next" : Str) (ir x0 x1 x2 x3 x4 x5 x6 x7 x8 x9 gO fU)=none:=by kernel_rfl
theorem aet:aP ("out_by" : Str) (ir x0 x1 x2 x3 x4 x5 x6 x7 x8 x9 gO fU)=none:=by kernel_rfl
theorem ajR:aP ("fall" : Str) (ir x0 x1 x2 x3 x4 x5 x6 x7 x8 x9 gO fU)=none:=by kernel_rfl
theorem ajS:aP ("count_fair" : Str) (ir x0 x1 x2 x3 x4 x5 x6 x7 x8 x9 gO fU)=none:=by kernel_rfl
theorem aeu:aP ("play" : Str) (ir x0 x1 x2 x3 x4 x5 x6 x7 x8 x9 gO fU)=none:=by kernel_rfl
theorem aev:aP ("rename" : Str) (ir x0 x1 x2 x3 x4 x5 x6 x7 x8 x9 gO fU)=none:=by kernel_rfl
theorem EY:(("Innings" : Str)∈(["Innings"]:List Str))=True:=eq_true (zav.mpr rfl)
end
def fx:=jp @adf<|jp @adg<|jp @adh<|jp @adi<|jp @adj<|jp @adk<|jp @adl<|jp @adm<|jp @adn<|jp @ado<|jp @adp<|jp @adq<|jp @ads<|jp @adt<|jp @adu<|jp @adv<|jp @adw<|jp @Qf<|jp @adx<|jp @ady<|jp @adz<|jp @adA<|jp @adB<|jp @adC<|jp @adD<|jp @adE<|jp @adF<|jp @adG<|jp @adH<|jp @adI<|jp @adJ<|jp @adK<|jp @adL<|jp @adM<|jp @adN<|jp @adO<|jp @adP<|jp @adQ<|jp @adR<|jp @adS<|jp @adT<|jp @adU<|jp @adV<|jp @adW<|jp @adX<|jp @adY<|jp @adZ<|jp @ad0<|jp @ad1<|jp @ad2<|jp @ad3<|jp @ad4<|jp @ad5<|jp @ad6<|jp @ad7<|jp @ad8<|jp @ad9<|jp @aea<|jp @aeb<|jp @aec<|jp @aed<|jp @aee<|jp @aef<|jp @aeg<|jp @aeh<|jp @aei<|jp @aej<|jp @aek<|jp @ael<|jp @aem<|jp @aen<|jp @aeo<|jp @US<|jp @UT<|jp @UU<|jp @UW<|jp @UX<|jp @UY<|jp @EY<|jp @aep<|jp @aeq<|jp @aer<|jp @ajO<|jp @aes<|jp @ajP<|jp @ajQ<|jp @aet<|jp @ajR<|jp @ajS<|jp @aeu<|jp @aev<|@Tz
noncomputable def aN (t0 t1:Str)(p0 p1:List Str):Tr:=.ls [.tp [.str t0,.ls (p0.map .str)],.tp [.str t1,.ls (p1.map .str)]]
structure U where
 o:Int
 v:Int
 s:Int
 w:Int
 n:Int
 d:Int
 i:Int
 f:Int
noncomputable def U.t (u:U):Tr:=.tp [.int u.o,.int u.v,.int u.s,.int u.w,.int u.n,.int u.d,.int u.i,.int u.f]
structure I where
 cg:Int
 nB:Str
 vR:Str
 v_:Str
 YI:Str
 CM:Int
 wk:Int
 ov:Int
 ba:Int
 en:Str
 outs:List Str
 gP:List (Str×Int)
structure M where
 ru:U
 t0:Str
 t1:Str
 p0:List Str
 p1:List Str
 kn:List Str
 pl:List I
 YJ:Bool
 clo:Bool
 gV:List Tr
structure L3 where
 i:Nat
 o:Nat
 s:Nat
structure Ly where
 a:Nat
 k:Nat
 p:Nat
 l:Nat
 cs:List L3
noncomputable def i6 (x:I)(c:L3):List (Str×Tr):=[("side",.int x.cg),("facing",.str x.nB),("other",.str x.vR),("bowler",.str x.v_),("ahead",.str x.YI),("total",.int x.CM),("wickets",.int x.wk),("overs",.int x.ov),("balls",.int x.ba),("ending",.str x.en),("outs",.hd c.o),("spells",.hd c.s)]
noncomputable def iz (l:List Str):List (dW×Tr):=l.map λk=>(.inr k,.bl true)
noncomputable def sf (l:List (Str×Int)):List (dW×Tr):=l.map λp=>(.inr p.1,.int p.2)
structure g7 (S:Cs) (x:I) (c:L3):Prop where
 i:S[c.i]? = some (.eS "Innings" (i6 x c))
 o:S[c.o]? = some (.jD (iz x.outs))
 s:S[c.s]? = some (.jD (sf x.gP))
structure Dj (c:L3):Prop where
 io:c.i≠c.o
 is:c.i≠c.s
 os:c.o≠c.s
noncomputable def jX (S:Cs)(x:I)(c:L3):Cs:=((S.set c.i (.eS "Innings" (i6 x c))).set c.o (.jD (iz x.outs))).set c.s (.jD (sf x.gP))
theorem aD {S:Cs}{n:Nat}{c:Ce}(h:S[n]? = some c):n<S.length:=(zae.mp h).1
theorem cy {S:Cs}{n:Nat}{c:Ce}(h:n<S.length):(S.set n c)[n]? = some c:=zaC h
theorem cY {S:Cs}{n k:Nat}{c:Ce}(h:¬ n=k):(S.set n c)[k]? = S[k]?:= zaz h
theorem eZ {S:Cs}{n:Nat}{c d:Ce}:(S.set n c).set n d=S.set n d:=List.set_set ..
theorem kX {S:Cs}{x y:I}{c:L3}(h:g7 S x c)(d:Dj c):g7 (jX S y c) y c where
 i:=by
  unfold jX;rw[cY d.is.symm,cY d.io.symm,cy (aD h.i)]
 o:=by
  unfold jX;rw[cY d.os.symm,cy (by rw[zcO];exact aD h.o)]
 s:=by
  unfold jX;rw[cy (by rw[zcO,zcO];exact aD h.s)]
theorem ni {S:Cs}{x y:I}{c:L3}(d:Dj c):jX (jX S x c) y c=jX S y c:=by
 unfold jX;rw[zdq (i:=c.s) (j:=c.i) _ _ d.is.symm,zdq (i:=c.o) (j:=c.i) _ _ d.io.symm,eZ,zdq (i:=c.s) (j:=c.o) _ _ d.os.symm,eZ,eZ]
theorem lC {S:Cs}{x y:I}{c:L3}(h:g7 S x c)(d:Dj c)(ho:y.outs=x.outs)(hs:y.gP=x.gP):S.set c.i (.eS "Innings" (i6 y c))=jX S y c:=by
 unfold jX;rw[ho,hs,i_ (i:=c.o) (by rw[cY d.io];exact h.o),i_ (i:=c.s) (by rw[cY d.is];exact h.s)]
theorem gc {x:Str}{l:List Str}:GH (.str x) (l.map .str)=decide (x∈l):=by
 rw[zbc];simp only[GH,zcB,zcI,Function.comp,QZ,beq_iff_eq,decide_eq_true_eq];exact⟨λ⟨y,h,e⟩=>e ▸ h,λh=>⟨x,h,rfl⟩⟩
theorem in2:GH (.str x) [.str a,.str b]=decide (x=a\/x=b):=by
 rw[zbc];simp only[GH,zbY,zeB,QZ,zdm,zcQ,decide_eq_true_eq,beq_iff_eq];exact⟨λh=>h.imp zcE zcE,λh=>h.imp zcE zcE⟩
theorem in3:GH (.str x) [.str a,.str b,.str c]=decide (x=a\/x=b\/x=c):=by
 rw[zbc];simp only[GH,zbY,zeB,QZ,zdm,zcQ,decide_eq_true_eq,beq_iff_eq];exact⟨λh=>h.imp zcE (·.imp zcE zcE),λh=>h.imp zcE (·.imp zcE zcE)⟩
theorem cJ:fP (.str s)=true:=rfl
theorem gf {l:List Str}:(l.map Tr.str).all fP=true:=by
 rw[zaM];intro x hx;obtain⟨s,_,rfl⟩:=zbm.mp hx;rfl
theorem jY:∀{l:List Str},(aP (.inr k) (iz l)).isSome=decide (k∈l)
 |[]=>rfl
 |a::r=>by
  unfold iz;rw[qD];unfold aP;by_cases h:a=k
  ·subst h;rw[if_pos rfl];simp
  ·rw[if_neg (λz=>h (zdf z))]
   have:=jY (k:=k) (l:=r)
   unfold iz at this;rw[this];simp[zam,zbe h]
noncomputable def I.eL (x:I)(n:Str):Bool:=decide (n=x.nB\/n=x.vR)
noncomputable def I.YK (x:I):Bool:=x.eL ""
noncomputable def I.left (x:I)(ps:List Str):Bool:=ps.any λn=>!decide (n∈x.outs) && !x.eL n
noncomputable def I.swap (x:I):I:={x with nB:=x.vR,vR:=x.nB}
noncomputable def I.gH (x:I)(n:Str):I:=if x.nB=n then { x with nB:= "" } else { x with vR:= "" }
noncomputable def I.CN (x:I)(n:Str):I:=if x.nB="" then {x with nB:=n} else {x with vR:=n}
section
variable {S:Cs}{x:I}{c:L3}
theorem jZ (h:g7 S x c)(n:Str):pK [.hd c.i,.str n] S = .ok (.bl (x.eL n)) S:=by
 unfold pK I.eL;have hi:=h.i;unfold i6 at hi;simp?[fx,hi,zaF,zaN,cJ,zaU,in2]
theorem Qg (h:g7 S x c):yG [.hd c.i] S = .ok (.bl x.YK) S:=by
 unfold yG I.YK;have e:=jZ h ""
 have hi:=h.i;unfold i6 at hi;simp?[fx,hi,e]
theorem EZ (h:g7 S x c)(d:Dj c):JU [.hd c.i] S = .ok .bB (jX S x.swap c):=by
 unfold JU;rw[<-lC (y:=x.swap) h d rfl rfl];have hl:=aD h.i;have hi:=h.i;unfold i6 at *
 simp?[fx,hi,hl,cy,eZ,I.swap]
theorem Ii (h:g7 S x c)(d:Dj c)(n:Str):CH [.hd c.i,.str n] S = .ok .bB (jX S (x.gH n) c):=by
 unfold CH I.gH;have hl:=aD h.i;have hi:=h.i;by_cases hn:x.nB=n
 ·rw[if_pos hn,<-lC (x:=x) (y:={ x with nB:= "" }) h d rfl rfl]
  unfold i6 at *
  simp?[fx,hi,hl,cy,eZ,hn]
 ·rw[if_neg hn,<-lC (x:=x) (y:={ x with vR:= "" }) h d rfl rfl]
  unfold i6 at *
  simp?[fx,hi,hl,cy,eZ,hn]
theorem aew (h:g7 S x c)(d:Dj c)(n:Str):UO [.hd c.i,.str n] S = .ok .bB (jX S (x.CN n) c):=by
 unfold UO I.CN;have hl:=aD h.i;have hi:=h.i;by_cases hn:x.nB=""
 ·rw[if_pos hn,<-lC (x:=x) (y:={x with nB:=n}) h d rfl rfl]
  unfold i6 at *
  simp?[fx,hi,hl,cy,eZ,hn]
 ·rw[if_neg hn,<-lC (x:=x) (y:={x with vR:=n}) h d rfl rfl]
  unfold i6 at *
  simp?[fx,hi,hl,cy,eZ,hn]
end
structure B where
 k:Str
 r:Int
 rp:Bool
 w:Str
 who:Str
 en:Str
noncomputable def B.t (b:B):Tr:=.tp [.str "ball",.str b.k,.int b.r,.bl b.rp,.str b.w,.str b.who,.str b.en]
noncomputable def dG:Option Str->Tr|none=>.bB|some s=>.str s
noncomputable def Ij (k:Str)(r:Int):Bool:=if r=4 then true else if r=6 then decide (k="bat" \/ k="no") else false
noncomputable def Qh (k:Str)(r:Int)(rp:Bool)(w:Str):Bool:=if w="" then true else if rp=true then false else if w="run" then true else if r≠0 then false else if w="stumped" \/ w="hit" then decide (k="bat" \/ k="wide") else decide (k="bat")
noncomputable def B.yH (b:B):Option Str:=if (b.rp && !Ij b.k b.r)=true then some "rope" else if Qh b.k b.r b.rp b.w=true then none else some "way"
theorem aex (k:Str)(r:Int)(S:Cs):HH [.str k,.int r] S = .ok (.bl (Ij k r)) S:=by
 unfold HH Ij;simp?[zaF,zaN,cJ,zaU,in2]
theorem ajV (k:Str)(r:Int)(rp:Bool)(w:Str)(S:Cs):HJ [.str k,.int r,.bl rp,.str w] S = .ok (.bl (Qh k r rp w)) S:=by
 unfold HJ Qh;by_cases h1:w=""
 ·simp?[h1]
 ·cases rp with
  |true=>simp?[h1]
  |false =>
   by_cases h2:w="run"
   ·simp?[fx,h2]
   ·by_cases h3:r=0
    ·by_cases h4:w="stumped" \/ w="hit"
     ·simp?[fx,h1,h2,h3,h4,zaF,zaN,cJ,zaU,in2,ne_eq]
     ·simp?[fx,h1,h2,h3,h4,zaF,zaN,cJ,zaU,in2,ne_eq]
    ·simp?[fx,h1,h2,h3,ne_eq]
theorem UZ (b:B)(S:Cs):HK [b.t] S = .ok (dG b.yH) S:=by
 unfold HK B.t B.yH;have e1:=λS=>aex b.k b.r S
 have e2:=λS=>ajV b.k b.r b.rp b.w S
 obtain⟨k,r,rp,w,who,en⟩:=b;simp only at e1 e2 ⊢
 cases rp with
 |false =>
  cases h2:Qh k r false w<;>simp?[e1,e2,h2,dG,zdb]
 |true =>
  cases h1:Ij k r
  ·simp?[e1,e2,h1,dG,zdr]
  ·cases h2:Qh k r true w<;>simp?[e1,e2,h1,h2,dG,zdr]
structure By where
 E1:Int
 ext:Int
 cha:Int
noncomputable def U0 (u:U)(k:Str)(r:Int):By:=if k="bat" then ⟨r,0,r⟩ else if k="wide" then ⟨0,u.w+r,u.w+r⟩ else if k="no" then ⟨r,u.n,u.n+r⟩ else if k="nobye" then ⟨0,u.n+r,u.n⟩ else ⟨0,r,0⟩
noncomputable def rB (k:Str):Bool:=decide (k="bat" \/ k="bye" \/ k="leg")
noncomputable def ou (r:Int)(rp:Bool):Bool:=if r % 2=1 then !rp else false
noncomputable def YL (w:Str):Bool:=!decide (w="" \/ w="run")
noncomputable def B.U1 (u:U)(b:B):Int:=(U0 u b.k b.r).E1+(U0 u b.k b.r).ext
noncomputable def B.JW (u:U)(b:B):Tr:=.tp [.int (b.U1 u),.int (U0 u b.k b.r).E1,.int (U0 u b.k b.r).ext,.int (U0 u b.k b.r).cha,.bl (rB b.k),.bl (!decide (b.k="wide")),.bl (ou b.r b.rp),.bl (YL b.w)]
theorem anS (u:U)(k:Str)(r:Int)(S:Cs):HS [u.t,.str k,.int r] S = .ok (.tp [.int (U0 u k r).E1,.int (U0 u k r).ext,.int (U0 u k r).cha]) S:=by
 unfold HS U.t U0;by_cases h1:k="bat"
 ·simp?[fx,h1]
 ·by_cases h2:k="wide"
  ·simp?[fx,h2]
  ·by_cases h3:k="no"
   ·simp?[fx,h3]
   ·by_cases h4:k="nobye"
    ·simp?[fx,h4]
    ·simp?[fx,h1,h2,h3,h4]
theorem aey (u:U)(b:B)(S:Cs):HU [u.t,b.t] S = .ok (b.JW u) S:=by
 unfold HU B.JW B.U1 B.t rB ou YL;have e1:=λS=>anS u b.k b.r S
 unfold U.t at *
 simp?[e1,zaF,zaN,cJ,zaU,in2,in3]
noncomputable def I.DY (x:I)(b:B):Str:=if b.w="run" then b.who else if b.w="" then "" else x.nB
section
variable {S:Cs}{x:I}{c:L3}
theorem U3 (h:g7 S x c)(b:B):HV [.hd c.i,b.t] S = .ok (.str (x.DY b)) S:=by
 unfold HV I.DY B.t;have hi:=h.i;unfold i6 at hi;by_cases h1:b.w="run"
 ·simp?[fx,hi,h1]
 ·by_cases h2:b.w="" <;> simp?[fx,hi,h1,h2]
end
noncomputable def gJ (l:List Str)(n:Str):List Str:=if n∈l then l else l++[n]
noncomputable def jd (l:List (Str×Int))(n:Str):Int:=match l with|[]=>0 | (k,v)::r=>if k=n then v else jd r n
noncomputable def mL (l:List (Str×Int))(n:Str)(v:Int):List (Str×Int):=if (l.any λp=>decide (p.1=n))=true then l.map (λp=>if p.1=n then (p.1,v) else p) else l++[(n,v)]
theorem CO:lz (iz l) (.inr n) (.bl true)=iz (gJ l n):=by
 unfold lz gJ;have h1:((iz l).any λkv=>decide (kv.1=(.inr n:dW)))=decide (n∈l):=by
  unfold iz;rw[zcB,zbc,zcI];simp only[Function.comp,decide_eq_true_eq];exact⟨λ⟨x,h,e⟩=>zdf e ▸ h,λh=>⟨n,h,rfl⟩⟩
 rw[h1];by_cases h:n∈l
 ·rw[if_pos (decide_eq_true h),if_pos h]
  unfold iz;rw[zbu];apply zcs
  intro x hx;simp only[Function.comp];split<;>rfl
 ·rw[if_neg (by simpa using h),if_neg h]
  unfold iz;rw[zaE];rfl
theorem sj:∀{l:List (Str×Int)},(aP (.inr n) (sf l)).getD (.int 0) = .int (jd l n)
 |[]=>rfl
 | (k,v)::r=>by
  unfold sf;rw[qD];unfold aP jd;by_cases h:k=n
  ·subst h;rw[if_pos rfl,if_pos rfl];rfl
  ·rw[if_neg (λz=>h (zdf z)),if_neg h]
   exact sj (n:=n) (l:=r)
theorem Ik:lz (sf l) (.inr n) (.int v)=sf (mL l n v):=by
 unfold lz mL;have h1:((sf l).any λkv=>decide (kv.1=(.inr n:dW)))=l.any λp=>decide (p.1=n):=by
  unfold sf;rw[zcB];congr 1
  funext p
  simp only[Function.comp,Sum.inr.injEq]
 rw[h1];split
 ·unfold sf
  rw[zbu,zbu];apply zcs
  intro x hx;simp only[Function.comp,Sum.inr.injEq];split<;>rfl
 ·unfold sf
  rw[zaE];rfl
theorem Qi:(iz l).length=l.length:=by unfold iz;simp
theorem U4:(sf l).length=l.length:=by unfold sf;simp
noncomputable def I.yI (x:I)(n:Str):I:={x with v_:=n,gP:=mL x.gP n (jd x.gP n+1)}
noncomputable def I.wD (x:I)(n e:Str):I:=
 let y:=({x with outs:=gJ x.outs n,wk:=x.wk+1}:I).gH n
 if (if y.nB="" then "strike" else "other")=e then y else y.swap
noncomputable def I.wF (x:I)(o:Int):I:=if o<=x.ba+1 then { x with ov:=x.ov+1,ba:=0,nB:=x.vR,vR:=x.nB,YI:=x.v_,v_:= "" } else {x with ba:=x.ba+1}
noncomputable def I.pM (u:U)(x:I)(b:B):I:=
 let x1:I:={x with CM:=x.CM+b.U1 u}
 let x2:=if ou b.r b.rp=true then x1.swap else x1
 let x3:=if x.DY b="" then x2 else x2.wD (x.DY b) (if b.w="run" then b.en else "strike")
 if rB b.k=true then x3.wF u.o else x3
section
variable {S:Cs}{x:I}{c:L3}
theorem U5 (h:g7 S x c)(d:Dj c)(n:Str)(hl:x.gP.length<=1000):UP [.hd c.i,.str n] S = .ok .bB (jX S (x.yI n) c):=by
 unfold UP;have hi:=h.i;have hs:=h.s;have VS:=aD h.i;have hz:(x.gP.length<sizeLine)=True:=gk (by omega)
 have e:((S.set c.i (.eS "Innings" (i6 {x with v_:=n} c))).set c.s (.jD (sf (mL x.gP n (jd x.gP n+1)))))=jX S (x.yI n) c:=by
  unfold jX I.yI;rw[i_ (i:=c.o) (l:=S.set c.i _) (by rw[cY d.io];exact h.o)]
  rfl
 unfold i6 at hi e;simp only[↓bp,bx,simprocAttr,fx,hi,hs,VS,cy,eZ,cY d.is,d.is,d.is.symm,ne_eq,zbD,sj,Ik,U4,hz] at e ⊢
 rw[e]
theorem aez (h:g7 S x c)(d:Dj c)(n en:Str)(hl:x.outs.length<=1000):UM [.hd c.i,.str n,.str en] S = .ok .bB (jX S (x.wD n en) c):=by
 unfold UM;have hi:=h.i;have ho:=h.o;have hol:=aD h.o;have hz:(x.outs.length<sizeLine)=True:=gk (by omega)
 generalize hy:({x with outs:=gJ x.outs n,wk:=x.wk+1}:I)=y
 have e:((S.set c.o (.jD (iz (gJ x.outs n)))).set c.i (.eS "Innings" (i6 {x with wk:=x.wk+1} c)))=jX S y c:=by
  rw[<-hy];unfold jX;rw[zdq _ _ d.io,i_ (i:=c.s) (by rw[cY d.is,cY d.os];exact h.s)]
  rfl
 have hY:=kX (y:=y) h d
 have e1:=Ii hY d n;rw[ni d] at e1;have hZ:=kX (y:=y.gH n) h d
 have hzi:=hZ.i;have e2:=EZ hZ d;rw[ni d] at e2;have Qj:=hY.i;have ef:x.wD n en=if (if (y.gH n).nB="" then "strike" else "other")=en then y.gH n else (y.gH n).swap:=by unfold I.wD;rw[hy]
 rw[ef];generalize y.gH n=z at *
 unfold i6 at hi e hzi Qj;simp only[↓bp,bx,simprocAttr,fx,hi,ho,hol,cy,eZ,cY d.io.symm,d.io,d.io.symm,ne_eq,CO,Qi,hz] at e ⊢
 simp?[fx,e,e1,Qj,hzi];by_cases hf:z.nB=""
 ·by_cases he:en="strike"
  ·subst he;simp?[fx,hf]
  ·have he':¬ "strike"=en:=λq=>he q.symm
   simp?[fx,hf,he',hzi,e2]
 ·by_cases he:en="other"
  ·subst he;simp?[fx,hf]
  ·have he':¬ "other"=en:=λq=>he q.symm
   simp?[fx,hf,he',hzi,e2]
theorem aeA (h:g7 S x c)(d:Dj c)(o:Int):UN [.hd c.i,.int o] S = .ok .bB (jX S (x.wF o) c):=by
 unfold UN I.wF;have hi:=h.i;have VS:=aD h.i;by_cases ho:o<=x.ba+1
 ·rw[if_pos ho]
  generalize hy:({x with ov:=x.ov+1,ba:=0}:I)=y
  have e:=lC (y:=y) h d (by rw[<-hy]) (by rw[<-hy])
  have hY:=kX (y:=y) h d
  have e1:=EZ hY d;rw[ni d] at e1;have Qj:=hY.i;have hZ:=kX (y:=y.swap) h d
  have hZi:=hZ.i;have hZl:=aD hZ.i;have e2:=lC (y:={ y.swap with YI:=y.v_,v_:= "" }) hZ d rfl rfl
  rw[ni d] at e2;subst hy;unfold i6 at hi e Qj hZi e2;simp only[I.swap] at e1 hZi hZl e2 ⊢
  have v8:¬ x.ba+1<o:=by omega
  simp?[fx,hi,VS,cy,eZ,ho,ge_iff_le,e,e1,Qj,hZi,hZl,e2]
 ·rw[if_neg ho]
  have e:=lC (y:={x with ba:=x.ba+1}) h d rfl rfl
  have Qj:=(kX (y:={x with ba:=x.ba+1}) h d).i
  unfold i6 at hi e Qj;simp?[fx,hi,VS,cy,eZ,ho,ge_iff_le,e,Qj]
theorem aeC (h:g7 S x c)(d:Dj c)(u:U)(b:B)(hl:x.outs.length<=1000):HW [.hd c.i,u.t,b.t] S = .ok (.str (x.DY b)) (jX S (x.pM u b) c):=by
 have e1:=aey u b S;have e2:=U3 h b;have hi:=h.i;have e3:=lC (y:=({x with CM:=x.CM+b.U1 u}:I)) h d rfl rfl
 obtain⟨y,hy⟩:∃y:I,y = {x with CM:=x.CM+b.U1 u}:=⟨_,rfl⟩
 obtain⟨z,hz⟩:∃z,z=if ou b.r b.rp=true then y.swap else y:=⟨_,rfl⟩
 obtain⟨w,hw⟩:∃w,w=if x.DY b="" then z else z.wD (x.DY b) (if b.w="run" then b.en else "strike"):=⟨_,rfl⟩
 have hp:x.pM u b=if rB b.k=true then w.wF u.o else w:=by
  unfold I.pM;simp only[hw,hz,hy]
 have hzo:z.outs=x.outs:=by rw[hz,hy];split<;>rfl
 have hY:=kX (y:=y) h d
 have hZ:=kX (y:=z) h d
 have hW:=kX (y:=w) h d
 have e4:=EZ hY d;have e5:=λn en=>aez hZ d n en (by rw[hzo];exact hl)
 have e6:=aeA hW d u.o;rw[ni d] at e4 e6;simp only[ni d] at e5;have Qj:=hY.i;have hZi:=hZ.i;have hWi:=hW.i;have g0:∀S,bJ (b.JW u) (.int 0) S = .ok (.int (b.U1 u)) S:=λ_=>rfl
 have g6:∀S,bJ (b.JW u) (.int 6) S = .ok (.bl (ou b.r b.rp)) S:=λ_=>rfl
 have g4:∀S,bJ (b.JW u) (.int 4) S = .ok (.bl (rB b.k)) S:=λ_=>rfl
 have gu:∀S,bJ u.t (.int 0) S = .ok (.int u.o) S:=λ_=>rfl
 have gw:∀S,bJ b.t (.int 4) S = .ok (.str b.w) S:=λ_=>rfl
 have ge:∀S,bJ b.t (.int 6) S = .ok (.str b.en) S:=λ_=>rfl
 rw[hp];unfold i6 at hi e3 Qj hZi hWi;dsimp only at e3
 rw[<-hy] at e3;clear hp hzo hY hZ hW hy hl
 unfold HW;generalize x.DY b=o at *
 generalize b.JW u=sT at *
 generalize u.t=uT at *
 generalize b.t=bT at *
 generalize b.U1 u=gt at *
 generalize hI1:cP (mB (ai bJ (aa 3) (mC (.int 6)))) _ _=I1
 generalize hI2:cP (mB (ai (c7 true) (aa 4) (mC (.str "")))) _ _=I2
 generalize hI3:cP (mB (ai bJ (aa 3) (mC (.int 4)))) _ _=I3
 have k1:I1 [some (.hd c.i),some uT,some bT,some sT,some (.str o)] (jX S y c) = .nx [some (.hd c.i),some uT,some bT,some sT,some (.str o)] (jX S z c):=by
  rw[<-hI1,hz];cases hcr:ou b.r b.rp<;>rw[hcr] at g6<;>simp?[fx,↓g6,Qj,e4]
 have k2:I2 [some (.hd c.i),some uT,some bT,some sT,some (.str o)] (jX S z c) = .nx [some (.hd c.i),some uT,some bT,some sT,some (.str o)] (jX S w c):=by
  rw[<-hI2,hw];by_cases ho:o=""
  ·simp?[fx,ho]
  ·by_cases hr:b.w="run"
   ·rw[hr] at gw
    simp?[fx,ho,hr,↓gw,↓ge,hZi,e5]
   ·simp?[fx,ho,hr,↓gw,hZi,e5]
 have k3:I3 [some (.hd c.i),some uT,some bT,some sT,some (.str o)] (jX S w c) = .nx [some (.hd c.i),some uT,some bT,some sT,some (.str o)] (jX S (if rB b.k=true then w.wF u.o else w) c):=by
  rw[<-hI3];cases hf:rB b.k<;>rw[hf] at g4<;>simp?[fx,↓g4,↓gu,hWi,e6]
 generalize jX S (if rB b.k=true then w.wF u.o else w) c=SF at *
 simp?[fx,e1,e2,hi,↓g0,e3,k1,k2,k3]
end
inductive bR where
 |dz (t f o b:Str)|pN (b:B)|rC (n:Str)|pO (n:Str)|pP (n:Str)|swap (a b:Str)|fM|g8|jB
noncomputable def bR.t:bR->Tr
 |.dz t f o b=>.tp [.str "start",.str t,.str f,.str o,.str b]
 |.pN b=>b.t
 |.rC n=>.tp [.str "in",.str n]
 |.pO n=>.tp [.str "bowl",.str n]
 |.pP n=>.tp [.str "hurt",.str n]
 |.swap a b=>.tp [.str "swap",.str a,.str b]
 |.fM=>.tp [.str "declare"]
 |.g8=>.tp [.str "follow"]
 |.jB=>.tp [.str "close"]
noncomputable def nL (l:List Str):Tr:=.ls (l.map .str)
noncomputable def I.nj (x:I)(b:B):Option Str:=if x.YK=true then some "empty" else if x.v_="" then some "bowler" else match b.yH with|some f=>some f|none=>if b.w="run" /\ x.eL b.who=false then some "who" else none
noncomputable def I.CQ (x:I)(E1:List Str)(n:Str):Option Str:=if x.YK=false then some "full" else if n∉E1 then some "team" else if n∈x.outs then some "out" else if x.eL n=true then some "there" else none
noncomputable def I.pQ (x:I)(Qk:List Str)(sp:Int)(n:Str):Option Str:=if x.v_ ≠ "" then some "bowling" else if n∉Qk then some "team" else if n=x.YI then some "twice" else if 0<sp/\sp<=jd x.gP n then some "spell" else none
noncomputable def I.mO (x:I)(u:U)(E1 Qk:List Str):bR->Option Str
 |.pN b=>x.nj b
 |.rC n=>x.CQ E1 n
 |.pO n=>x.pQ Qk u.s n
 |.pP n=>if x.eL n=true then none else some "who"
 |_=>none
theorem CS {α:Type}(f:α -> Bool):∀l:List α,qZ (l.map λa=>.bl (f a))=some (l.map f)
 |[]=>rfl
 |a::r=>by rw[qD];unfold qZ;rw[CS f r];rfl
theorem CT {α:Type}(f:α -> Int):∀l:List α,qY (l.map λa=>.int (f a))=some (l.map f)
 |[]=>rfl
 |a::r=>by rw[qD];unfold qY;rw[CT f r];rfl
section
variable {S:Cs}{x:I}{c:L3}
theorem JX (h:g7 S x c)(b:B):HL [.hd c.i,b.t] S = .ok (dG (x.nj b)) S:=by
 unfold HL I.nj;have e1:=Qg h;have e2:=UZ b S;have e3:=λn=>jZ h n
 have hi:=h.i;unfold i6 at hi;cases hg:x.YK
 ·by_cases hb:x.v_=""
  ·simp?[fx,hi,e1,hg,hb,dG]
  ·cases hf:b.yH with
   |some f=>unfold B.t at *;simp?[fx,hi,e1,hg,hb,e2,hf,dG]
   |none =>
    by_cases hr:b.w="run"
    ·unfold B.t at *
     rw[hr] at e2;cases hs:x.eL b.who<;>simp?[fx,hi,e1,hg,hb,e2,hf,dG,hr,e3,hs]
    ·unfold B.t at *;simp?[fx,hi,e1,hg,hb,e2,hf,dG,hr]
 ·simp?[fx,hi,e1,hg,dG]
theorem U6 (h:g7 S x c)(E1:List Str)(n:Str):HM [.hd c.i,nL E1,.str n] S = .ok (dG (x.CQ E1 n)) S:=by
 unfold HM I.CQ nL;have e1:=Qg h;have e3:=λn=>jZ h n
 have hi:=h.i;have ho:=h.o;unfold i6 at hi;cases hg:x.YK
 ·simp?[fx,hi,e1,hg,dG]
 ·by_cases hb:n∈E1
  ·by_cases hn:n∈x.outs
   ·simp?[fx,hi,ho,e1,hg,hb,hn,gf,cJ,gc,jY,dG]
   ·cases hs:x.eL n<;>simp?[fx,hi,ho,e1,e3,hg,hb,hn,hs,gf,cJ,gc,jY,dG]
  ·simp?[fx,hi,e1,hg,hb,gf,cJ,gc,dG]
theorem JY (h:g7 S x c)(Qk:List Str)(sp:Int)(n:Str):HN [.hd c.i,nL Qk,.int sp,.str n] S = .ok (dG (x.pQ Qk sp n)) S:=by
 unfold HN I.pQ nL;have hi:=h.i;have hs:=h.s;unfold i6 at hi;by_cases hw:x.v_=""
 ·by_cases hb:n∈Qk
  ·by_cases ha:n=x.YI
   ·subst ha;simp?[fx,hi,hw,hb,gf,cJ,gc,dG,ne_eq]
   ·by_cases h0:0<sp
    ·by_cases h1:sp<=jd x.gP n<;>simp?[fx,hi,hs,hw,hb,ha,h0,h1,gf,cJ,gc,sj,dG,ne_eq]
    ·simp?[fx,hi,hs,hw,hb,ha,h0,gf,cJ,gc,sj,dG,ne_eq]
  ·simp?[fx,hi,hw,hb,gf,cJ,gc,dG,ne_eq]
 ·simp?[fx,hi,hw,dG,ne_eq]
noncomputable def bR.yJ:bR->Bool|.pN _=>true|.rC _=>true|.pO _=>true|.pP _=>true|.fM=>true|_=>false
theorem Ql (h:g7 S x c)(u:U)(E1 Qk:List Str)(e:bR)(he:e.yJ=true):HP [.hd c.i,u.t,nL E1,nL Qk,e.t] S = .ok (dG (x.mO u E1 Qk e)) S:=by
 unfold HP;have e1:=λb=>JX h b
 have e2:=λn=>U6 h E1 n
 have e3:=λsp n=>JY h Qk sp n
 have e4:=λn=>jZ h n
 have hi:=h.i;unfold i6 at hi;cases e with
 |pN b =>
  have e1:=e1 b;unfold bR.t I.mO;generalize dG (x.nj b)=z at *
  unfold B.t at *
  simp?[fx,e1]
 |rC n =>
  have e2:=e2 n;unfold bR.t I.mO;simp?[fx,e2]
 |pO n =>
  have e3:=λsp=>e3 sp n
  unfold bR.t I.mO U.t;simp?[fx,e3]
 |pP n =>
  have e4:=e4 n;unfold bR.t I.mO;cases hs:x.eL n<;>simp?[fx,hi,e4,hs,dG]
 |fM=>unfold bR.t I.mO;simp?[fx,dG]
 |dz _ _ _ _=>cases he
 |swap _ _=>cases he
 |g8=>cases he
 |jB=>cases he
theorem aeE (h:g7 S x c)(ps:List Str)(hl:ps.length<=1000):Ib [.hd c.i,nL ps] S = .ok (.bl (x.left ps)) S:=by
 unfold Ib nL;have e3:=λn=>jZ h n
 have hi:=h.i;have ho:=h.o;unfold i6 at hi;have hz:(ps.length<=sizeLine)=True:=bF (by omega)
 simp only[Bm,gF,aI,bZ,af,fQ,tY,aa,ak,iL,GF,R.eV,R.gB,iG,qD,wB,zbl,zbd,zar,zaP,Nat.reduceAdd,Nat.reduceSub,zbV,zbs,zaT,zaH,Option.join,zaX,id_eq,zay];rw[qy [] (λτ=>∃v,τ=[some (.hd c.i),v]) (λt=>match t with|.str n=>.bl (!decide (n∈x.outs) && !x.eL n)|_=>.bB) (λ_=>true) (ps.map .str) _ [] ⟨_,rfl⟩ ?_ (by simp;omega)]
 ·have e:((ps.map Tr.str).filter (λ_=>true)).map (λt=>match t with|.str n=>(.bl (!decide (n∈x.outs) && !x.eL n):Tr)|_=>.bB)=ps.map λn=>.bl (!decide (n∈x.outs) && !x.eL n):=by
   rw[zda.mpr (λ_ _=>rfl),zbu];rfl
  rw[zbd,e];simp only[R.eV,SJ,D8,CS,R.gB,tZ,zaf,hz,ite_true];unfold I.left;rw[zcB];rfl
 ·rintro t ht τ ⟨v,rfl⟩
  obtain⟨n,hn,rfl⟩:=zbm.mp ht;refine⟨[some (.hd c.i),some (.str n)],⟨_,rfl⟩,rfl,rfl,λ_=>?_⟩
  by_cases hno:n∈x.outs
  ·simp?[fx,hi,ho,jY,hno,zdb]
  ·cases hs:x.eL n<;>simp?[fx,hi,ho,jY,hno,e3,hs,zdr]
end
noncomputable def kY (c:L3):List Nat:=[c.i,c.o,c.s]
noncomputable def fp (y:Ly):List Nat:=y.a::y.k::y.p::y.l::y.cs.flatMap kY
noncomputable def mF (m:M)(y:Ly):List (Str×Tr):=[("rules",m.ru.t),("sides",aN m.t0 m.t1 m.p0 m.p1),("known",.hd y.k),("played",.hd y.p),("followed",.bl m.YJ),("closed",.bl m.clo),("balls_told",.hd y.l)]
structure dP (S:Cs) (m:M) (y:Ly):Prop where
 a:S[y.a]? = some (.eS "Match" (mF m y))
 k:S[y.k]? = some (.bA (m.kn.map .str))
 p:S[y.p]? = some (.bA (y.cs.map λc=>.hd c.i))
 l:S[y.l]? = some (.bA m.gV)
 len:y.cs.length=m.pl.length
 rC:∀(j:Nat) x c,m.pl[j]? = some x->y.cs[j]? = some c->g7 S x c
 nd:(fp y).Nodup
noncomputable def iA (m:M):Option I:=match m.pl.getLast? with|some x=>if x.en="" then some x else none|none=>none
noncomputable def U7 (m:M)(s:Int):Int:=((m.pl.filter λx=>decide (x.cg=s)).map (·.CM)).sum
noncomputable def lD (m:M)(s:Int):Int:=U7 m s - U7 m (1 - s)
noncomputable def fX (m:M):Int:=match m.pl.getLast? with|some x=>x.cg|none=>0
noncomputable def lF (m:M):Bool:=if m.clo=true then true else if (iA m).isSome=true then false else if m.pl.length=3/\2 * m.ru.i=4 then decide (lD m (fX m)<0) else decide (2 * m.ru.i<=m.pl.length)
theorem je {m:M}{y:Ly}(hl:y.cs.length=m.pl.length):(m.pl=[]/\y.cs=[])\/∃fR x ci c,m.pl=fR++[x]/\y.cs=ci++[c]/\ci.length=fR.length:=by
 rcases zci m.pl with h|⟨fR,x,h⟩
 ·exact .inl ⟨h,by rw[h] at hl;simpa using hl⟩
 ·rcases zci y.cs with h2|⟨ci,c,h2⟩
  ·rw[h,h2] at hl;simp at hl
  ·refine .inr ⟨fR,x,ci,c,by simpa using h,by simpa using h2,?_⟩
   rw[h,h2] at hl;simpa using hl
theorem mP {α:Type}(l:List α)(a:α):iE (l++[a]) (-1)=some a:=by
 unfold iE Av;rw[if_neg (by decide),zaj,zbb]
 rw[if_pos (by omega)]
 simp only[zaX];rw[show ((-1:Int)+((l.length+1:Nat):Int)).toNat=l.length by omega]
 simp
theorem fY {α:Type}(l:List α)(a:α):(l++[a])[l.length]? = some a:=by simp
section
variable {S:Cs}{m:M}{y:Ly}
theorem dP.qK (h:dP S m y)(e1:m.pl=fR++[x])(e2:y.cs=ci++[c])(e3:ci.length=fR.length):g7 S x c:=h.rC fR.length x c (by rw[e1,fY]) (by rw[e2,<-e3,fY])
theorem YM {α β:Type}{f:α -> List β}:∀{l:List α},(l.flatMap f).Nodup->∀c∈l,(f c).Nodup
 |[],_,c,h=>absurd h (by simp)
 |a::r,h,c,hc=>by
  rw[zdw] at h;have h':=zce.mp h;rcases zam.mp hc with rfl|hc
  ·exact h'.1
  ·exact YM h'.2.1 c hc
theorem CU (h:(fp y).Nodup)(hc:c∈y.cs):Dj c/\c.i≠y.a/\c.i≠y.k/\c.i≠y.p/\c.i≠y.l/\c.o≠y.a/\c.o≠y.k/\c.o≠y.p/\c.o≠y.l/\c.s≠y.a/\c.s≠y.k/\c.s≠y.p/\c.s≠y.l:=by
 unfold fp at h;simp only[zby,zam,zbn,not_or,not_exists,not_and] at h;obtain⟨⟨_,_,_,ha⟩,⟨_,_,hk⟩,⟨_,hp⟩,hl,hn⟩:=h
 have q:∀n∈kY c,n≠y.a/\n≠y.k/\n≠y.p/\n≠y.l:=λn hn=>⟨λz=>ha c hc (z ▸ hn),λz=>hk c hc (z ▸ hn),λz=>hp c hc (z ▸ hn),λz=>hl c hc (z ▸ hn)⟩
 have d:(kY c).Nodup:=by
  exact YM hn c hc
 unfold kY at d q;simp only[zby,zam,zax,or_false,not_or] at d;obtain⟨a1,a2,a3,a4⟩:=q c.i (by simp)
 obtain⟨b1,b2,b3,b4⟩:=q c.o (by simp)
 obtain⟨c1,c2,c3,c4⟩:=q c.s (by simp)
 exact⟨⟨d.1.1,d.1.2,d.2.1⟩,a1,a2,a3,a4,b1,b2,b3,b4,c1,c2,c3,c4⟩
noncomputable def Qm (m:M)(y:Ly):Tr:=match m.pl.getLast?,y.cs.getLast? with|some x,some c=>if x.en="" then .hd c.i else .bB|_,_=>.bB
theorem fN (h:dP S m y)(hs:m.pl.length<=1000):jc [.hd y.a] S = .ok (Qm m y) S:=by
 unfold jc Qm;have ha:=h.a;have hp:=h.p;have hz:(m.pl.length<=sizeLine)=True:=bF (by omega)
 unfold mF at ha;rcases je h.len with⟨e1,e2⟩|⟨fR,x,ci,c,e1,e2,e3⟩
 ·rw[e1,e2]
  rw[e2] at hp;simp?[fx,ha,hp,List.getLast?_nil]
 ·have hi:=(h.qK e1 e2 e3).i
  rw[e1,e2];rw[e2,zaE,qD,wB] at hp;have hz:(ci.length+1<=sizeLine)=True:=bF (by rw[e1] at hs;simp at hs;omega)
  unfold i6 at hi;have hn:¬ ((ci.length:Int)+1=0):=by omega
  by_cases he:x.en="" <;> simp?[fx,ha,hp,hi,he,hz,mP,List.getLast?_append,List.getLast?_singleton,Option.some_or,zaj,zaf,zbA,zbN,hn,Int.ofNat_one]
end
structure Sz (m:M) (n:Nat):Prop where
 pl:m.pl.length<=n
 kn:m.kn.length<=n
 gV:m.gV.length<=n
 p0:m.p0.length<=11
 p1:m.p1.length<=11
 outs:∀x∈m.pl,x.outs.length<=n
 gP:∀x∈m.pl,x.gP.length<=n
 cg:∀x∈m.pl,x.cg=0\/x.cg=1
noncomputable def jf (m:M)(s:Int):Str:=if s=0 then m.t0 else m.t1
noncomputable def iJ (m:M)(s:Int):List Str:=if s=0 then m.p0 else m.p1
theorem mQ {m:M}{s:Int}(h:s=0\/s=1):iE [Tr.tp [.str m.t0,.ls (m.p0.map .str)],Tr.tp [.str m.t1,.ls (m.p1.map .str)]] s=some (.tp [.str (jf m s),.ls ((iJ m s).map .str)]):=by rcases h with rfl|rfl<;>rfl
theorem Il {m:M}{s:Int}(h:s=0\/s=1):iE [Tr.tp [.str m.t0,.ls (m.p0.map .str)],Tr.tp [.str m.t1,.ls (m.p1.map .str)]] (1 - s)=some (.tp [.str (jf m (1 - s)),.ls ((iJ m (1 - s)).map .str)]):=by rcases h with rfl|rfl<;>rfl
noncomputable def lG (m:M):Option Int:=if m.pl=[] then none else if (iA m).isSome=true then none else if lF m=true then none else if m.YJ=true/\m.pl.length=2 then some (fX m) else some (1 - fX m)
noncomputable def lT:Option Int->Tr|none=>.bB|some i=>.int i
theorem aeF:qx 0 2=[.int 0,.int 1]:=rfl
noncomputable def Ai (m:M)(t:Str):Option Int:=if m.t0=t/\(m.pl=[]\/lG m=some 0) then some 0 else if m.t1=t/\(m.pl=[]\/lG m=some 1) then some 1 else none
noncomputable def mR (m:M)(t f o b:Str):Option Str:=if (iA m).isSome=true then some "going" else match Ai m t with
 |none=>some "turn"
 |some s=>if f∉iJ m s\/o∉iJ m s\/b∉iJ m (1 - s) then some "team" else if f=o then some "alike" else none
theorem sr {m:M}{y:Ly}{fR:List I}{x:I}{ci:List L3}{c:L3}(e1:m.pl=fR++[x])(e2:y.cs=ci++[c]):Qm m y=if x.en="" then .hd c.i else .bB:=by
 unfold Qm;rw[e1,e2];simp
theorem pR {m:M}{fR:List I}{x:I}(e1:m.pl=fR++[x]):iA m=if x.en="" then some x else none:=by
 unfold iA;rw[e1];simp
theorem fZ {m:M}{y:Ly}(hl:y.cs.length=m.pl.length)(h:(iA m).isSome=false):Qm m y = .bB:=by
 rcases je hl with⟨e1,e2⟩|⟨fR,x,ci,c,e1,e2,e3⟩
 ·unfold Qm;rw[e1,e2];rfl
 ·rw[sr e1 e2]
  rw[pR e1] at h;split
  ·rename_i q;rw[if_pos q] at h;cases h
  ·rfl
theorem fG {m:M}{y:Ly}(hl:y.cs.length=m.pl.length)(h:(iA m).isSome=true):∃(fR:List I) (x:I) (ci:List L3) (c:L3),m.pl=fR++[x]/\y.cs=ci++[c]/\ci.length=fR.length/\x.en=("" : Str)/\Qm m y = .hd c.i/\iA m=some x:=by
 rcases je hl with⟨e1,e2⟩|⟨fR,x,ci,c,e1,e2,e3⟩
 ·unfold iA at h;rw[e1] at h;cases h
 ·have hx:x.en="" := by
   rw[pR e1] at h;by_cases q:x.en=""
   ·exact q
   ·rw[if_neg q] at h;cases h
  exact⟨fR,x,ci,c,e1,e2,e3,hx,by rw[sr e1 e2,if_pos hx],by rw[pR e1,if_pos hx]⟩
section
variable {S:Cs}{m:M}{y:Ly}{n:Nat}
theorem E2 (h:dP S m y):vM [.hd y.a] S = .ok (.int (2 * m.ru.i)) S:=by
 unfold vM;have ha:=h.a;unfold mF U.t at ha;simp?[fx,ha]
theorem U8 (h:dP S m y)(s:Int)(hs:m.pl.length<=1000):Cv [.hd y.a,.int s] S = .ok (.int (U7 m s)) S:=by
 unfold Cv;refine fB (S1:=S) (t:=.int (U7 m s)) ?_ (zaY ..) (by unfold nX;simp only[pq];rfl)
 have ha:=h.a;have hp:=h.p;unfold mF at ha;have hz:∀k:Nat,k<=1000->(k<=sizeLine)=True:=λk hk=>bF (by omega)
 rw[<-GZ (l:=m.pl) (λc:L3=>Tr.hd c.i) h.len] at hp
 simp only[Bm,gF,aI,bZ,af,fQ,tY,aa,ak,a_,Jq,iM,iL,GF,cF,R.eV,R.gB,iG,qD,wB,zbl,zbd,zar,zaP,Nat.reduceAdd,Nat.reduceSub,zbV,zbs,zaT,zaH,Option.join,zaX,id_eq,zay,ha,hp,fx,ahR,if_true];rw[i9 (by rw[hp]) (λτ=>∃v,τ=[some (.int s),v]) (λp:I×L3=>Tr.hd p.2.i) (λp=>.int p.1.CM) (λp=>decide (p.1.cg=s)) _ _ [] ⟨_,rfl⟩ ?_ (by
  rw[zaP,List.length_zip,h.len];omega)]
 ·rw[zbd,Ek (λx:I=>decide (x.cg=s)) (λx=>Tr.int x.CM) h.len]
  simp only[R.eV,SH,GF,CT,R.gB,tZ];rfl
 ·rintro⟨x,c⟩ hxc τ ⟨v,rfl⟩
  obtain⟨j,h1,h2⟩:=Nx hxc;have hi:=(h.rC j x c h1 h2).i
  unfold i6 at hi;refine⟨[some (.int s),some (.hd c.i)],⟨_,rfl⟩,rfl,?_,λ_=>?_⟩<;>simp?[fx,hi]
theorem Aj (h:dP S m y)(s:Int)(hs:m.pl.length<=1000):vN [.hd y.a,.int s] S = .ok (.int (lD m s)) S:=by
 unfold vN lD;have e1:=λs=>U8 h s hs
 have ha:=h.a;unfold mF at ha;simp?[fx,ha,e1,dS]
theorem Ak (h:dP S m y)(z:Sz m n)(hn:n<=1000):yF [.hd y.a] S = .ok (.bl (lF m)) S:=by
 unfold yF lF;have hs:m.pl.length<=1000:=zai z.pl hn
 have e1:=fN h hs;have e2:=E2 h;have e3:=λs=>Aj h s hs
 have ha:=h.a;have hp:=h.p;have hz:(y.cs.length<=sizeLine)=True:=bF (by rw[h.len];omega)
 unfold mF at ha;cases hc:m.clo
 ·cases hg:(iA m).isSome
  ·have eg:=fZ h.len hg
   by_cases h3:m.pl.length=3
   ·have h3':((y.cs.length:Int)=3)=True:=eq_true (by rw[h.len,h3];rfl)
    by_cases h4:2 * m.ru.i=4
    ·rcases je h.len with⟨a1,_⟩|⟨fR,x,ci,c,a1,a2,a3⟩
     ·rw[a1] at h3;cases h3
     ·have hi:=(h.qK a1 a2 a3).i
      unfold i6 at hi;have hl:fX m=x.cg:=by unfold fX;rw[a1];simp
      have h5:((ci.length:Int)+1=3)=True:=eq_true (by rw[a2,zaj,zbb] at h3';have:=of_eq_true h3';omega)
      have U9:(ci.length+1<=sizeLine)=True:=by rw[a2,zaj,zbb] at hz;exact hz
      rw[a2,zaE,qD,wB] at hp;simp?[fx,ha,hp,hi,hc,e1,eg,e2,e3,h4,h3,hl,U9,h5,zaj,zaf,mP,dS,zbA,zbN,zu,Jo]
    ·have h4':¬ (2 * m.ru.i=4):=h4
     simp?[fx,ha,hp,hc,e1,eg,e2,h3,h4',hz,h3',zaf,dS,gGe,Jo];simp only[h.len,h3];rfl
   ·have h3':((y.cs.length:Int)=3)=False:=eq_false (by rw[h.len];omega)
    simp?[fx,ha,hp,hc,e1,eg,e2,h3,hz,h3',zaf,dS,gGe,Jo];simp only[h.len]
  ·obtain⟨fR,x,ci,c,a1,a2,a3,a4,a5,a6⟩:=fG h.len hg
   simp?[fx,ha,hc,e1,a5]
 ·simp?[fx,ha,hc]
theorem Qn (h:dP S m y)(z:Sz m n)(hn:n<=1000):CB [.hd y.a] S = .ok (lT (lG m)) S:=by
 unfold CB lG;have hs:m.pl.length<=1000:=zai z.pl hn
 have e1:=fN h hs;have e2:=Ak h z hn;have ha:=h.a;have hp:=h.p;have hz:(y.cs.length<=sizeLine)=True:=bF (by rw[h.len];omega)
 unfold mF at ha;rcases je h.len with⟨a1,a2⟩|⟨fR,x,ci,c,a1,a2,a3⟩
 ·rw[a2] at hp
  simp?[fx,ha,hp,a1,lT]
 ·have De:¬ m.pl=[]:=by rw[a1];simp
  have hi:=(h.qK a1 a2 a3).i
  unfold i6 at hi;have hl:fX m=x.cg:=by unfold fX;rw[a1];simp
  have U9:(ci.length+1<=sizeLine)=True:=by rw[a2,zaj,zbb] at hz;exact hz
  have h0:¬ ((ci.length:Int)+1=0):=by omega
  rw[a2,zaE,qD,wB] at hp;cases hg:(iA m).isSome
  ·have eg:=fZ h.len hg
   cases hd:lF m
   ·cases hf:m.YJ
    ·simp?[fx,ha,hp,hi,De,e1,eg,e2,hd,hf,hl,U9,h0,zaj,zaf,mP,dS,zbA,zbN,lT]
    ·by_cases h2:m.pl.length=2
     ·have h5:((ci.length:Int)+1=2)=True:=eq_true (by rw[a1,zaj,zbb,<-a3] at h2;omega)
      simp?[fx,ha,hp,hi,De,e1,eg,e2,hd,hf,hl,U9,h0,h2,h5,zaj,zaf,mP,dS,zbA,zbN,lT]
     ·have h5:((ci.length:Int)+1=2)=False:=eq_false (by rw[a1,zaj,zbb,<-a3] at h2;omega)
      simp?[fx,ha,hp,hi,De,e1,eg,e2,hd,hf,hl,U9,h0,h2,h5,zaj,zaf,mP,dS,zbA,zbN,lT]
   ·simp?[fx,ha,hp,De,e1,eg,e2,hd,U9,h0,zaj,zaf,zbA,zbN,lT]
  ·obtain⟨fR,x,ci,c,b1,b2,b3,b4,b5,b6⟩:=fG h.len hg
   simp?[fx,ha,hp,De,e1,b5,U9,h0,zaj,zaf,zbA,zbN,lT]
theorem YN (h:dP S m y)(z:Sz m n)(hn:n<=1000)(t:Str):CG [.hd y.a,.str t] S = .ok (lT (Ai m t)) S:=by
 have e1:=Qn h z hn;have ha:=h.a;have hp:=h.p;have hs:m.pl.length<=1000:=zai z.pl hn
 have hz:(y.cs.length<=sizeLine)=True:=bF (by rw[h.len];omega)
 have h0:((y.cs.length:Int)=0)=(m.pl=[]):=by
  apply propext
  rw[h.len];constructor
  ·intro q;exact List.length_eq_zero_iff.mp (by omega)
  ·intro q;rw[q];rfl
 unfold CG Ai;generalize hT:lO _ _=T
 have key:∀s:Int,s=0\/s=1->T [some (.hd y.a),some (.str t),some (.int s)] S = .ok (decide (jf m s=t/\(m.pl=[]\/lG m=some s))) S:=λs s01=>by
  have k5:=@mQ m s s01
  unfold mF aN at ha;subst hT;generalize jf m s=tt at *
  by_cases h1:tt=t
  ·by_cases h3:m.pl=[]
   ·simp?[fx,ha,hp,h0,h1,h3,hz,k5,zaf]
   ·cases hN:lG m with
    |none =>
     rw[hN] at e1;simp?[fx,ha,hp,h0,h1,h3,hz,k5,zaf,e1,lT]
    |some j =>
     rw[hN] at e1;simp?[fx,ha,hp,h0,h1,h3,hz,k5,zaf,e1,lT,zbD,eq_comm,false_or,true_and]
  ·simp?[fx,ha,h1,k5]
 have t0:jf m 0=m.t0:=rfl
 have t1:jf m 1=m.t1:=rfl
 have a0:=key 0 (.inl rfl)
 have a1:=key 1 (.inr rfl)
 rw[t0] at a0;rw[t1] at a1;clear key
 by_cases c0:m.t0=t/\(m.pl=[]\/lG m=some 0)
 ·rw[decide_eq_true c0] at a0
  rw[if_pos c0];simp?[aeF,a0,lT]
 ·rw[decide_eq_false c0] at a0
  rw[if_neg c0];by_cases c1:m.t1=t/\(m.pl=[]\/lG m=some 1)
  ·rw[decide_eq_true c1] at a1
   rw[if_pos c1];simp?[aeF,a0,a1,lT]
  ·rw[decide_eq_false c1] at a1
   rw[if_neg c1];simp?[aeF,a0,a1,lT]
theorem YO (e:Ai m t=some s):s=0\/s=1:=by
 unfold Ai at e;split at e
 ·cases e;exact .inl rfl
 ·split at e
  ·cases e;exact .inr rfl
  ·cases e
theorem E3 (h:dP S m y)(z:Sz m n)(hn:n<=1000)(t f o b:Str):HB [.hd y.a,(bR.dz t f o b).t] S = .ok (dG (mR m t f o b)) S:=by
 unfold HB mR bR.t;have hs:m.pl.length<=1000:=zai z.pl hn
 have e1:=fN h hs;have e2:=YN h z hn t;have ha:=h.a;unfold mF aN at ha;cases hg:(iA m).isSome
 ·have eg:=fZ h.len hg
  cases hs:Ai m t with
  |none=>rw[hs] at e2;simp?[fx,ha,e1,eg,e2,lT,dG]
  |some s =>
   rw[hs] at e2;have ajX:=YO hs;have k1:=@mQ m s ajX
   have k2:=@Il m s ajX
   by_cases h1:f∈iJ m s<;>by_cases h2:o∈iJ m s<;>by_cases h3:b∈iJ m (1 - s)<;>by_cases h4:f=o <;>
    simp?[fx,ha,e1,eg,e2,lT,dG,k1,k2,dS,gf,cJ,gc,h1,h2,h3,h4]
 ·obtain⟨fR,x,ci,c,b1,b2,b3,b4,b5,b6⟩:=fG h.len hg
  simp?[fx,ha,e1,b5,dG]
noncomputable def fH (m:M)(e:bR):Option Str:=match iA m with
 |none=>some "none"
 |some x=>x.mO m.ru (iJ m x.cg) (iJ m (1 - x.cg)) e
theorem U_ (e:bR)(he:e.yJ=true):∃w l,e.t = .tp (.str w::l)/\¬ w="start" /\ ¬ w="swap" /\ ¬ w="follow" /\ ¬ w="close" := by
 have h:∀w∈(["ball","in","bowl","hurt","declare"]:List Str),¬ w="start" /\ ¬ w="swap" /\ ¬ w="follow" /\ ¬ w="close" := by decide +kernel
 cases e<;>first | (cases he;done)|exact⟨_,_,rfl,h _ (by simp)⟩
theorem CV (h:dP S m y)(z:Sz m n)(hn:n<=1000)(e:bR)(he:e.yJ=true):rq [.hd y.a,e.t] S = .ok (dG (if lF m=true then some "done" else fH m e)) S:=by
 unfold rq;have hs:m.pl.length<=1000:=zai z.pl hn
 have e1:=fN h hs;have e2:=Ak h z hn;have ha:=h.a;unfold mF aN at ha;obtain⟨w,l,el,w1,w2,w3,w4⟩:=U_ e he;cases hd:lF m
 ·cases hg:(iA m).isSome
  ·have eg:=fZ h.len hg
   have q_:fH m e=some ("none" : Str):=by
    unfold fH;cases hq:iA m with
    |none=>rfl
    |some x=>rw[hq] at hg;cases hg
   rw[el];simp?[fx,ha,e1,eg,e2,hd,q_,dG,w1,w2,w3,w4]
  ·obtain⟨fR,x,ci,c,b1,b2,b3,b4,b5,b6⟩:=fG h.len hg
   have hI:=h.qK b1 b2 b3;have hi:=hI.i;unfold i6 at hi;have hsd:=z.cg x (by rw[b1];simp)
   have k1:=@mQ m x.cg hsd
   have k2:=@Il m x.cg hsd
   have e3:=Ql hI m.ru (iJ m x.cg) (iJ m (1 - x.cg)) e he
   have q_:fH m e=x.mO m.ru (iJ m x.cg) (iJ m (1 - x.cg)) e:=by unfold fH;rw[b6]
   rw[<-q_] at e3;unfold nL at e3;generalize fH m e=r at *
   rw[el] at e3 ⊢
   simp?[fx,ha,hi,e1,b5,e2,hd,k1,k2,dS,e3,w1,w2,w3,w4]
 ·simp?[fx,ha,e2,hd,dG]
end
noncomputable def aM (F:List Nat)(S S':Cs):Prop:=S.length<=S'.length/\∀j,j<S.length->j∉F->S'[j]? = S[j]?
theorem aM.refl:aM F S S:=⟨zah _,λ_ _ _=>rfl⟩
theorem aM.trans (a:aM F S1 S2)(b:aM F S2 S3):aM F S1 S3:=⟨zai a.1 b.1,λj h1 h2=>(b.2 j (zak h1 a.1) h2).trans (a.2 j h1 h2)⟩
theorem aM.mono (a:aM F S S')(h:∀j∈F,j∈F'):aM F' S S':=⟨a.1,λj h1 h2=>a.2 j h1 λz=>h2 (h j z)⟩
theorem aM.at (a:aM F S S')(h:S[j]? = some c)(hj:j∉F):S'[j]? = some c:=by rw[a.2 j (aD h) hj];exact h
theorem aM.set (h:n∈F):aM F S (S.set n c):=⟨by simp,λj _ h2=>cY λz=>h2 (z ▸ h)⟩
theorem aM.qW:aM F S (S++r):=⟨by simp,λj h1 _=>zab h1⟩
theorem aM.jX (h:∀j∈kY c,j∈F):aM F S (jX S x c):=by
 unfold My.jX;exact ((aM.set (h _ (by simp[kY]))).trans (aM.set (h _ (by simp[kY])))).trans (aM.set (h _ (by simp[kY])))
theorem g7.only (a:aM F S S')(h:g7 S x c)(hF:∀j∈kY c,j∉F):g7 S' x c:=⟨a.at h.i (hF _ (by simp[kY])),a.at h.o (hF _ (by simp[kY])),a.at h.s (hF _ (by simp[kY]))⟩
theorem dP.only (a:aM F S S')(h:dP S m y)(hF:∀j∈fp y,j∉F):dP S' m y where
 a:=a.at h.a (hF _ (by simp[fp]))
 k:=a.at h.k (hF _ (by simp[fp]))
 p:=a.at h.p (hF _ (by simp[fp]))
 l:=a.at h.l (hF _ (by simp[fp]))
 len:=h.len
 rC:=λj x c h1 h2=>(h.rC j x c h1 h2).only a λn hn=>hF n (by
  unfold fp;simp only[zam,zbn];exact .inr (.inr (.inr (.inr ⟨c,zaA h2,hn⟩))))
 nd:=h.nd
theorem Al {α β:Type}{f:α -> List β}:∀{l:List α} {j k:Nat} {a b:α},(l.flatMap f).Nodup->l[j]? = some a->l[k]? = some b->j≠k->∀n∈f a,n∉f b
 |[],j,k,a,b,_,h,_,_,_,_=>by simp at h
 |x::r,j,k,a,b,nd,h1,h2,ne,n,hn=>by
  rw[zdw] at nd;have nd':=zce.mp nd;intro hb;cases j with
  |zero =>
   cases k with
   |zero=>exact ne rfl
   |succ k =>
    simp only[zaT,zbD] at h1;simp only[zaH] at h2;subst h1;exact nd'.2.2 n hn n (zbn.mpr ⟨b,zaA h2,hb⟩) rfl
  |succ j =>
   simp only[zaH] at h1;cases k with
   |zero =>
    simp only[zaT,zbD] at h2;subst h2;exact nd'.2.2 n hb n (zbn.mpr ⟨a,zaA h1,hn⟩) rfl
   |succ k =>
    simp only[zaH] at h2;exact Al nd'.2.1 h1 h2 (λz=>ne (by rw[z])) n hn hb
theorem YQ (h:(fp y).Nodup):(y.cs.flatMap kY).Nodup:=by
 unfold fp at h;simp only[zby] at h;exact h.2.2.2.2
noncomputable def M.lH (m:M)(x:I):M:={m with pl:=m.pl.dropLast++[x]}
section
variable {S:Cs}{m:M}{y:Ly}{n:Nat}{fR:List I}{x x':I}{ci:List L3}{c:L3}
theorem dP.lH (h:dP S m y)(e1:m.pl=fR++[x])(e2:y.cs=ci++[c])(e3:ci.length=fR.length):dP (jX S x' c) (m.lH x') y:=by
 obtain⟨d,a1,a2,a3,a4,b1,b2,b3,b4,c1,c2,c3,c4⟩:=CU h.nd (c:=c) (by rw[e2];simp)
 have hI:=h.qK e1 e2 e3;have on:aM (kY c) S (jX S x' c):=aM.jX λ_ h=>h
 have nm:∀j,j≠c.i->j≠c.o->j≠c.s->j∉kY c:=λj h1 h2 h3 q=>by simp[kY] at q;rcases q with q|q|q;exact h1 q;exact h2 q;exact h3 q
 have ep:(m.lH x').pl=fR++[x']:=by unfold M.lH;simp[e1]
 refine⟨on.at h.a (nm _ a1.symm b1.symm c1.symm),on.at h.k (nm _ a2.symm b2.symm c2.symm),on.at h.p (nm _ a3.symm b3.symm c3.symm),on.at h.l (nm _ a4.symm b4.symm c4.symm),?_,?_,h.nd⟩
 ·rw[ep,e2];simp[e3]
 ·intro j z cz h1 h2
  rw[ep] at h1;by_cases hj:j=fR.length
  ·subst hj
   rw[fY] at h1;rw[e2,<-e3,fY] at h2;cases h1;cases h2
   exact kX hI d
  ·have GY:j<fR.length:=by
    have:=(zae.mp h1).1
    simp at this
    omega
   rw[zab GY] at h1;refine (h.rC j z cz (by rw[e1,zab GY];exact h1) h2).only on (Al (YQ h.nd) h2 (k:=fR.length) (by rw[e2,<-e3,fY]) hj)
theorem aeG (e1:m.pl=fR++[x])(z:I):(m.lH z).pl=fR++[z]:=by unfold M.lH;simp[e1]
theorem Sz.lH (h:Sz m n)(e1:m.pl=fR++[x])(hs:x'.cg=x.cg)(h1:x'.outs.length<=n)(h2:x'.gP.length<=n):Sz (m.lH x') n:=by
 have ep:=aeG e1 x';have hm:∀z∈(m.lH x').pl,z∈m.pl\/z=x':=λz hz=>by
  rw[ep] at hz;rcases zbM.mp hz with q|q
  ·exact .inl (by rw[e1];exact zck _ q)
  ·exact .inr (by simpa using q)
 refine⟨?_,h.kn,h.gV,h.p0,h.p1,λz hz=>?_,λz hz=>?_,λz hz=>?_⟩
 ·rw[ep];have:=h.pl;rw[e1] at this;simpa using this
 ·rcases hm z hz with q|rfl
  ·exact h.outs z q
  ·exact h1
 ·rcases hm z hz with q|rfl
  ·exact h.gP z q
  ·exact h2
 ·rcases hm z hz with q|rfl
  ·exact h.cg z q
  ·rw[hs];exact h.cg x (by rw[e1];simp)
end
noncomputable def jg (m:M)(x:I)(b:B):Tr:=.tp [.int ((m.pl.length:Int) - 1),.int x.ov,.int x.ba,.str x.nB,.str x.vR,.str x.v_,b.t,.str (x.DY b)]
noncomputable def ow (m:M)(x:I):bR->M
 |.pN b=>{m.lH (x.pM m.ru b) with gV:=m.gV++[jg m x b]}
 |.rC n=>m.lH (x.CN n)
 |.pO n=>m.lH (x.yI n)
 |.pP n=>m.lH (x.gH n)
 |.fM=>m.lH { x with en:= "declared" }
 |_=>m
noncomputable def E4 (m:M)(x:I):Str:=if (m.pl.length:Int)=2 * m.ru.i/\0<lD m x.cg then "won" else if x.YK=true/\x.left (iJ m x.cg)=false then "out" else if 0<m.ru.v/\m.ru.v<=x.ov then "overs" else ""
noncomputable def pS (m:M):M:=match iA m with|some x=>m.lH {x with en:=E4 m x} | none=>m
section
variable {S:Cs}{m:M}{y:Ly}{n:Nat}{fR:List I}{x x':I}{ci:List L3}{c:L3}
theorem Qo (h:dP S m y)(z:Sz m n)(hn:n<=1000)(e1:m.pl=fR++[x])(e2:y.cs=ci++[c])(e3:ci.length=fR.length):Ic [.hd y.a,.hd c.i] S = .ok (.str (E4 m x)) S:=by
 have hs:m.pl.length<=1000:=zai z.pl hn
 have hI:=h.qK e1 e2 e3;have k1:=E2 h;have k2:=Aj h x.cg hs;have k3:=Qg hI;have hsd:=z.cg x (by rw[e1];simp)
 have k5:=@mQ m x.cg hsd
 have hpl:(iJ m x.cg).length<=1000:=by
  have:=z.p0;have:=z.p1
  unfold iJ;split<;>omega
 have k4:=aeE hI (iJ m x.cg) hpl
 unfold nL at k4;have ha:=h.a;have hp:=h.p;have hi:=hI.i;have hz:(y.cs.length<=sizeLine)=True:=bF (by rw[h.len];omega)
 unfold mF aN at ha;unfold i6 at hi;have dH:(y.cs.length:Int)=m.pl.length:=by rw[h.len]
 unfold Ic E4;generalize (m.pl.length:Int)=N at *
 generalize lD m x.cg=L at *
 generalize x.YK=G at *
 generalize x.left (iJ m x.cg)=F at *
 generalize hT1:lO (mB (ai (c7 false) _ _)) _=T1
 generalize V6:lO (mB (aJ _ _ _ _ _ _)) _=T2
 generalize hT3:mB (l_ _ _ _ _ _)=T3
 have a1:T1 [some (.hd y.a),some (.hd c.i)] S = .ok (decide (N=2 * m.ru.i/\0<L)) S:=by
  subst hT1;by_cases h1:N=2 * m.ru.i<;>simp?[fx,ha,hp,hi,hz,k1,k2,dH,h1,zaf,D9,Jo,true_and,false_and,decide_false]
 have a2:T2 [some (.hd y.a),some (.hd c.i)] S = .ok (decide (G=true/\F=false)) S:=by
  have eG:decide (G=true/\F=false)=(G && !F):=by cases G<;>cases F<;>rfl
  rw[eG];subst V6;cases G<;>simp?[fx,ha,hi,k3,k4,k5,zdr,zdb]
 have a3:T3 [some (.hd y.a),some (.hd c.i)] S = .ok (decide (0<m.ru.v/\m.ru.v<=x.ov)) S:=by
  subst hT3;unfold U.t at ha;by_cases h1:0<m.ru.v<;>simp?[fx,ha,hi,h1,zu,gLe,Jo,true_and,false_and,decide_false]
 clear hT1 V6 hT3 ha hi hp k1 k2 k3 k4 k5
 by_cases q1:N=2 * m.ru.i/\0<L
 ·rw[decide_eq_true q1] at a1
  rw[if_pos q1];simp?[a1]
 ·rw[decide_eq_false q1] at a1
  rw[if_neg q1];by_cases q2:G=true/\F=false
  ·rw[decide_eq_true q2] at a2
   rw[if_pos q2];simp?[a1,a2]
  ·rw[decide_eq_false q2] at a2
   rw[if_neg q2];by_cases q3:0<m.ru.v/\m.ru.v<=x.ov
   ·rw[decide_eq_true q3] at a3
    rw[if_pos q3];simp?[a1,a2,a3]
   ·rw[decide_eq_false q3] at a3
    rw[if_neg q3];simp?[a1,a2,a3]
theorem Va (h:(fp y).Nodup):y.a≠y.k/\y.a≠y.p/\y.a≠y.l/\y.k≠y.p/\y.k≠y.l/\y.p≠y.l:=by
 unfold fp at h;simp only[zby,zam,not_or] at h;exact⟨h.1.1,h.1.2.1,h.1.2.2.1,h.2.1.1,h.2.1.2.1,h.2.2.1.1⟩
theorem dP.K_ (h:dP S m y)(on:aM [n] S S')(hn:∀c∈y.cs,n∉kY c):∀(j:Nat) x c,m.pl[j]? = some x->y.cs[j]? = some c->g7 S' x c:=λj x c h1 h2=>(h.rC j x c h1 h2).only on λk hk q=>by
 simp at q
 subst q;exact hn c (zaA h2) hk
theorem Im (h:(fp y).Nodup)(hk:k=y.a\/k=y.k\/k=y.p\/k=y.l):∀c∈y.cs,k∉kY c:=λc hc q=>by
 obtain⟨d,a1,a2,a3,a4,b1,b2,b3,b4,c1,c2,c3,c4⟩:=CU h (c:=c) hc
 simp[kY] at q
 rcases hk with rfl|rfl|rfl|rfl<;>rcases q with q|q|q<;>first|exact a1 q.symm|exact a2 q.symm|exact a3 q.symm|exact a4 q.symm|exact b1 q.symm|exact b2 q.symm|exact b3 q.symm|exact b4 q.symm|exact c1 q.symm|exact c2 q.symm|exact c3 q.symm|exact c4 q.symm
theorem dP.anV (h:dP S m y)(l:List Tr):dP (S.set y.l (.bA l)) {m with gV:=l} y:=by
 obtain⟨a1,a2,a3,a4,a5,a6⟩:=Va h.nd;exact⟨by rw[cY a3.symm];exact h.a,by rw[cY a5.symm];exact h.k,by rw[cY a6.symm];exact h.p,cy (aD h.l),h.len,h.K_ (aM.set (by simp)) (Im h.nd (.inr (.inr (.inr rfl)))),h.nd⟩
theorem Vb (h:dP S m y)(z:Sz m n)(hn:n<=1000)(e1:m.pl=fR++[x])(e2:y.cs=ci++[c])(e3:ci.length=fR.length)(hx:x.en="")(b:B):
  HX [.hd y.a,b.t] S = .ok .bB ((jX S (x.pM m.ru b) c).set y.l (.bA (m.gV++[jg m x b]))):=by
 unfold HX jg;have hs:m.pl.length<=1000:=zai z.pl hn
 have hI:=h.qK e1 e2 e3;have Vc:x∈m.pl:=by rw[e1];simp
 obtain⟨d,a1,a2,a3,a4,b1,b2,b3,b4,c1,c2,c3,c4⟩:=CU h.nd (c:=c) (by rw[e2];simp)
 have k1:=fN h hs;rw[sr e1 e2,if_pos hx] at k1;have k2:=aeC hI d m.ru b (zai (z.outs x Vc) hn)
 have hM:=dP.lH (x':=x.pM m.ru b) h e1 e2 e3
 have ha:=h.a;have hp:=h.p;have hi:=hI.i;have R5:=hM.a;have hl':=hM.l;have Gq:(m.lH (x.pM m.ru b)).gV=m.gV:=rfl
 rw[Gq] at hl';have hz:(y.cs.length<=sizeLine)=True:=bF (by rw[h.len];omega)
 have hz2:(m.gV.length<sizeLine)=True:=gk (by have:=z.gV;omega)
 have dH:(y.cs.length:Int)=m.pl.length:=by rw[h.len]
 unfold mF at ha R5;unfold i6 at hi;generalize (m.pl.length:Int)=N at *
 generalize x.DY b=o at *
 generalize jX S (x.pM m.ru b) c=S1 at *
 unfold B.t at *
 simp?[fx,k1,ha,hp,hi,hz,dH,zaf,dS,k2,R5,hl',hz2]
end
noncomputable def Am (s:Int)(f o b:Str):I:=⟨s,f,o,b,"",0,0,0,0,"",[],[(b,1)]⟩
noncomputable def jF (k:Nat):L3:=⟨k,k+1,k+2⟩
noncomputable def E5 (S:Cs)(s:Int)(f o b:Str):Cs:=S++[Ce.eS "Innings" (i6 (Am s f o b) (jF S.length)),Ce.jD [],Ce.jD [(Sum.inr b,Tr.int 1)]]
noncomputable def JZ (S:Cs)(y:Ly)(s:Int)(f o b:Str):Cs:=(E5 S s f o b).set y.p (.bA (y.cs.map (λc=>Tr.hd c.i)++[Tr.hd S.length]))
theorem Dm:(S++(a::r))[S.length]? = some a:=by simp
theorem YR:(S++(a::r)).set S.length b=S++(b::r):=by
 rw[zec _ _ (zah _),Nat.sub_self];rfl
theorem ga2:(S++(a::b::c::r))[S.length+2]? = some c:=by
 rw[zat (by omega),show S.length+2 - S.length=2 by omega];rfl
theorem sa2:(S++(a::b::c::r)).set (S.length+2) d=S++(a::b::d::r):=by
 rw[zec _ _ (by omega),show S.length+2 - S.length=2 by omega];rfl
theorem ajY (S:Cs)(s:Int)(f o b:Str):UL [.hd S.length,.int s,.str f,.str o,.str b] (S++[.eS "Innings" []]) = .ok .bB (E5 S s f o b):=by
 unfold UL E5 i6 Am jF;simp?[fx,Dm,YR,ga2,sa2,fL,lz,zbE,zbr,List.foldl_nil,zeB]
section
variable {S:Cs}{m:M}{y:Ly}{n:Nat}{fR:List I}{x x':I}{ci:List L3}{c:L3}
theorem dP.lt (h:dP S m y):∀j∈fp y,j<S.length:=by
 intro j hj;unfold fp at hj;simp only[zam,zbn] at hj;rcases hj with rfl|rfl|rfl|rfl|⟨c,hc,hj⟩
 ·exact aD h.a
 ·exact aD h.k
 ·exact aD h.p
 ·exact aD h.l
 ·obtain⟨k,hk⟩:=List.getElem?_of_mem hc
  have hk2:k<m.pl.length:=by rw[<-h.len];exact (zae.mp hk).1
  have hI:=h.rC k m.pl[k] c (zag hk2) hk
  simp[kY] at hj
  rcases hj with rfl|rfl|rfl
  ·exact aD hI.i
  ·exact aD hI.o
  ·exact aD hI.s
theorem dP.ajZ (h:dP S m y)(s:Int)(f o b:Str):dP (JZ S y s f o b) {m with pl:=m.pl++[Am s f o b]} {y with cs:=y.cs++[jF S.length]}:=by
 have on:aM [y.p] S (JZ S y s f o b):=aM.trans aM.qW (aM.set (by simp))
 obtain⟨a1,a2,a3,a4,a5,a6⟩:=Va h.nd;have ly:=h.lt;have hp:=ly y.p (by simp[fp])
 have ne:∀k,S.length<=k->y.p≠k:=λk hk z=>by omega
 refine⟨on.at h.a (by simp[a2]),on.at h.k (by simp[a4]),?_,on.at h.l (by simp[a6.symm]),by simp[h.len],?_,?_⟩
 ·unfold JZ E5
  rw[cy (by simp;omega)]
  simp[jF]
 ·intro j z cz h1 h2
  by_cases hj:j=m.pl.length
  ·subst hj
   have q1:(m.pl++[Am s f o b])[m.pl.length]? = some (Am s f o b):=fY _ _
   have q2:(y.cs++[jF S.length])[m.pl.length]? = some (jF S.length):=by rw[<-h.len];exact fY _ _
   simp only at h1 h2
   rw[q1] at h1;rw[q2] at h2;cases h1;cases h2
   unfold JZ E5;refine⟨?_,?_,?_⟩
   ·rw[cY (k:=(jF S.length).i) (ne _ (zah _))]
    show (S++_)[S.length]? = _
    exact Dm
   ·rw[cY (k:=(jF S.length).o) (ne _ (by simp[jF]))]
    show (S++_)[S.length+1]? = _
    rw[zat (by omega),show S.length+1 - S.length=1 by omega]
    rfl
   ·rw[cY (k:=(jF S.length).s) (ne _ (by simp[jF]))]
    show (S++_)[S.length+2]? = _
    rw[zat (by omega),show S.length+2 - S.length=2 by omega]
    rfl
  ·have GY:j<m.pl.length:=by
    have:=(zae.mp h1).1
    simp at this
    omega
   simp only at h1 h2
   rw[zab GY] at h1;rw[zab (by rw[h.len];exact GY)] at h2
   exact h.K_ on (Im h.nd (.inr (.inr (.inl rfl)))) j z cz h1 h2
 ·show (fp {y with cs:=y.cs++[jF S.length]}).Nodup
  have e:fp {y with cs:=y.cs++[jF S.length]}=fp y++[S.length,S.length+1,S.length+2]:=by
   unfold fp;simp[kY,jF]
  rw[e,zce];refine⟨h.nd,by simp,λa ha b hb=>?_⟩
  have:=ly a ha
  simp at hb
  omega
theorem Vd (h:dP S m y)(z:Sz m n)(hn:n<=1000)(t f o b:Str)(s:Int)(hs:Ai m t=some s):HQ [.hd y.a,(bR.dz t f o b).t] S = .ok .bB (JZ S y s f o b):=by
 unfold HQ bR.t;have e1:=YN h z hn t;rw[hs] at e1;have e2:=ajY S s f o b;have ha:=h.a;have hp:=h.p;have on:aM [] S (E5 S s f o b):=aM.qW
 have hp':=on.at h.p (by simp)
 have hz2:(y.cs.length<sizeLine)=True:=gk (by have:=z.pl;rw[h.len];omega)
 unfold mF at ha;unfold JZ;generalize E5 S s f o b=S1 at *
 simp?[fx,e1,lT,ha,hp,e2,hp',zaf,hz2]
theorem anY (h:dP S m y)(z:Sz m n)(hn:n<=1000)(e1:m.pl=fR++[x])(e2:y.cs=ci++[c])(e3:ci.length=fR.length)(hx:x.en="")(e:bR)(he:e.yJ=true):
  ∃S',vP [.hd y.a,e.t] S = .ok .bB S'/\dP S' (ow m x e) y/\aM (fp y) S S':=by
 have hs:m.pl.length<=1000:=zai z.pl hn
 have hI:=h.qK e1 e2 e3;have Vc:x∈m.pl:=by rw[e1];simp
 obtain⟨d,_⟩:=CU h.nd (c:=c) (by rw[e2];simp)
 have k1:=fN h hs;rw[sr e1 e2,if_pos hx] at k1;have ha:=h.a;have hi:=hI.i;have VS:=aD hI.i;have onc:∀x',aM (fp y) S (jX S x' c):=λx'=>aM.jX λj hj=>by
  unfold fp;simp only[zam,zbn];exact .inr (.inr (.inr (.inr ⟨c,by rw[e2];simp,hj⟩)))
 unfold mF at ha;unfold i6 at hi;unfold vP;cases e with
 |pN b =>
  have k2:=Vb h z hn e1 e2 e3 hx b;refine⟨_,?_,(dP.lH (x':=x.pM m.ru b) h e1 e2 e3).anV (m.gV++[jg m x b]),(onc _).trans (aM.set (by simp[fp]))⟩
  generalize jg m x b=r at *
  unfold bR.t;unfold B.t at *
  simp?[fx,k1,ha,k2]
 |rC nm =>
  have k2:=aew hI d nm;refine⟨_,?_,dP.lH (x':=x.CN nm) h e1 e2 e3,onc _⟩
  unfold bR.t;simp?[fx,k1,ha,hi,k2]
 |pO nm =>
  have k2:=U5 hI d nm (zai (z.gP x Vc) hn)
  refine⟨_,?_,dP.lH (x':=x.yI nm) h e1 e2 e3,onc _⟩
  unfold bR.t;simp?[fx,k1,ha,hi,k2]
 |pP nm =>
  have k2:=Ii hI d nm;refine⟨_,?_,dP.lH (x':=x.gH nm) h e1 e2 e3,onc _⟩
  unfold bR.t;simp?[fx,k1,ha,hi,k2]
 |fM =>
  have k2:=lC (y:={ x with en:= "declared" }) hI d rfl rfl
  refine⟨_,?_,dP.lH (x':={ x with en:= "declared" }) h e1 e2 e3,onc _⟩
  unfold bR.t;unfold i6 at k2;simp?[fx,k1,ha,hi,k2]
 |dz _ _ _ _=>cases he
 |swap _ _=>cases he
 |g8=>cases he
 |jB=>cases he
noncomputable def An:Str:= "the rules don't let this entry: "
theorem vS:An.length=32:=by decide +kernel
theorem J0 (w:Str)(hw:w.length<=100)(e:Tr)(hm:S[y.a]? = some (.eS "Match" (mF m y)))(hr:rq [.hd y.a,e] S = .ok (.str w) S0):
  mK [.hd y.a,e] S = .ex S0.length (S0++[.tL "NotLet" [("rule",.str w),("number",.int 0)]]):=by
 unfold mK;unfold mF at hm;have h1:(w.length<=sizeLine)=True:=bF (by omega)
 have h2:((Str.empty++An).length<=sizeLine)=True:=bF (by
  rw[Str.length_append,vS];decide)
 have h3:((Str.empty++An++w).length<=sizeLine)=True:=bF (by
  rw[Str.length_append,Str.length_append,vS];have:Str.empty.length=0:=rfl
  omega)
 unfold An at h2 h3;simp?[fx,hm,hr,fJ,abh,h1,h2,h3]
theorem E6 (h:dP S m y)(z:Sz m n)(e:Tr)(hr:rq [.hd y.a,e] S = .ok .bB S0)(h0:dP S0 m y)(hy:y1.a=y.a)(hd:vP [.hd y.a,e] S0 = .ok .bB S1)(h1:dP S1 m1 y1)(z1:Sz m1 k)(hn:k<=1000):
  ∃S',mK [.hd y.a,e] S = .ok .bB S'/\dP S' (pS m1) y1/\aM (fp y1) S1 S':=by
 have ha:=h.a;have ha0:=h0.a;have MF:=h1.a;have k1:=fN h1 (zai z1.pl hn)
 rw[hy] at MF k1;unfold mF at ha ha0 MF;unfold mK;cases hg:(iA m1).isSome
 ·have eg:=fZ h1.len hg
  have ef:pS m1=m1:=by
   unfold pS;cases hq:iA m1 with
   |none=>rfl
   |some x=>rw[hq] at hg;cases hg
  refine⟨S1,?_,by rw[ef];exact h1,aM.refl⟩
  simp?[fx,ha,ha0,hr,hd,MF,k1,eg]
 ·obtain⟨fR,x,ci,c,b1,b2,b3,b4,b5,b6⟩:=fG h1.len hg
  have hI:=h1.qK b1 b2 b3;obtain⟨d,_⟩:=CU h1.nd (c:=c) (by rw[b2];simp)
  have k2:=Qo h1 z1 hn b1 b2 b3;rw[hy] at k2;have k3:=lC (y:={x with en:=E4 m1 x}) hI d rfl rfl
  have hi:=hI.i;have ef:pS m1=m1.lH {x with en:=E4 m1 x}:=by unfold pS;rw[b6]
  refine⟨jX S1 {x with en:=E4 m1 x} c,?_,by rw[ef];exact dP.lH h1 b1 b2 b3,aM.jX λj hj=>?_⟩
  ·unfold i6 at hi k3
   generalize E4 m1 x=en at *
   simp?[fx,ha,ha0,hr,hd,MF,k1,b5,k2,hi,k3]
  ·unfold fp
   simp only[zam,zbn];exact .inr (.inr (.inr (.inr ⟨c,by rw[b2];simp,hj⟩)))
theorem Qp (x:I)(a b:Str):(x.wD a b).outs.length<=x.outs.length+1/\(x.wD a b).gP=x.gP/\(x.wD a b).cg=x.cg:=by
 unfold I.wD;have hl:∀(z:I) (k:Str),(z.gH k).outs=z.outs/\(z.gH k).gP=z.gP/\(z.gH k).cg=z.cg:=λz k=>by unfold I.gH;split<;>exact⟨rfl,rfl,rfl⟩
 dsimp only;generalize hy:I.gH {x with outs:=gJ x.outs a,wk:=x.wk+1} a=y
 have h1:y.outs=gJ x.outs a/\y.gP=x.gP/\y.cg=x.cg:=by rw[<-hy,(hl _ _).1,(hl _ _).2.1,(hl _ _).2.2];exact⟨rfl,rfl,rfl⟩
 have h2:y.outs.length<=x.outs.length+1:=by
  rw[h1.1];unfold gJ
  split<;>simp
 split<;>split<;>exact⟨h2,h1.2⟩
theorem Qq (u:U)(x:I)(b:B):(x.pM u b).outs.length<=x.outs.length+1/\(x.pM u b).gP=x.gP/\(x.pM u b).cg=x.cg:=by
 unfold I.pM;have hf:∀(x:I) (o:Int),(x.wF o).outs=x.outs/\(x.wF o).gP=x.gP/\(x.wF o).cg=x.cg:=λx o=>by unfold I.wF;split<;>exact⟨rfl,rfl,rfl⟩
 dsimp only;generalize hz:(if ou b.r b.rp=true then I.swap {x with CM:=x.CM+b.U1 u} else {x with CM:=x.CM+b.U1 u})=z
 have z1:z.outs=x.outs/\z.gP=x.gP/\z.cg=x.cg:=by rw[<-hz];split<;>exact⟨rfl,rfl,rfl⟩
 generalize hw:(if x.DY b="" then z else z.wD (x.DY b) (if b.w="run" then b.en else "strike"))=w
 have w1:w.outs.length<=x.outs.length+1/\w.gP=x.gP/\w.cg=x.cg:=by
  rw[<-hw,<-z1.1,<-z1.2.1,<-z1.2.2];split
  ·exact⟨zaW _,rfl,rfl⟩
  ·exact Qp _ _ _
 split
 ·rw[(hf w u.o).1,(hf w u.o).2.1,(hf w u.o).2.2];exact w1
 ·exact w1
theorem yK (l:List (Str×Int))(k:Str)(v:Int):(mL l k v).length<=l.length+1:=by unfold mL;split<;>simp
theorem Sz.mono (h:Sz m n)(hn:n<=n'):Sz m n':=⟨zai h.pl hn,zai h.kn hn,zai h.gV hn,h.p0,h.p1,λx hx=>zai (h.outs x hx) hn,λx hx=>zai (h.gP x hx) hn,h.cg⟩
theorem Sz.ow (z:Sz m n)(e1:m.pl=fR++[x])(e:bR):Sz (ow m x e) (n+1):=by
 have Vc:x∈m.pl:=by rw[e1];simp
 have z':=z.mono (zaW n)
 have ho:=z.outs x Vc;have hs:=z.gP x Vc;cases e with
 |pN b =>
  have q:=Qq m.ru x b;have k:=z'.lH (x':=x.pM m.ru b) e1 q.2.2 (by omega) (by rw[q.2.1];omega)
  refine⟨k.pl,k.kn,?_,k.p0,k.p1,k.outs,k.gP,k.cg⟩
  show (m.gV++[jg m x b]).length<=n+1
  have:=z.gV
  simp
  exact this
 |rC nm=>exact z'.lH (x':=x.CN nm) e1 (by unfold I.CN;split<;>rfl) (by unfold I.CN;split<;>(show x.outs.length<=_;omega)) (by unfold I.CN;split<;>(show x.gP.length<=_;omega))
 |pO nm=>exact z'.lH (x':=x.yI nm) e1 rfl (by show x.outs.length<=_;omega) (by have:=yK x.gP nm (jd x.gP nm+1);show (mL _ _ _).length<=_;omega)
 |pP nm=>exact z'.lH (x':=x.gH nm) e1 (by unfold I.gH;split<;>rfl) (by unfold I.gH;split<;>(show x.outs.length<=_;omega)) (by unfold I.gH;split<;>(show x.gP.length<=_;omega))
 |fM=>exact z'.lH (x':={ x with en:= "declared" }) e1 rfl (by show x.outs.length<=_;omega) (by show x.gP.length<=_;omega)
 |dz _ _ _ _=>exact z'
 |swap _ _=>exact z'
 |g8=>exact z'
 |jB=>exact z'
theorem Sz.eW (z:Sz m n):Sz (pS m) n:=by
 unfold pS;cases hg:iA m with
 |none=>exact z
 |some x =>
  rcases zci m.pl with h|⟨fR,w,h⟩
  ·unfold iA at hg;rw[h] at hg;cases hg
  ·have h:m.pl=fR++[w]:=by simpa using h
   rw[pR h] at hg;split at hg
   ·cases hg
    exact z.lH h rfl (z.outs x (by rw[h];simp)) (z.gP x (by rw[h];simp))
   ·cases hg
end
noncomputable def cL (u:U)(t0 t1:Str)(p0 p1:List Str):M:=⟨u,t0,t1,p0,p1,p0++p1,[],false,false,[]⟩
noncomputable def j6 (k:Nat):Ly:=⟨k,k+1,k+2,k+3,[]⟩
noncomputable def f9 (S:Cs)(m:M):Cs:=S++[Ce.eS "Match" (mF m (j6 S.length)),Ce.bA (m.kn.map .str),Ce.bA [],Ce.bA []]
theorem ga1:(S++(a::b::r))[S.length+1]? = some b:=by
 rw[zat (by omega),show S.length+1 - S.length=1 by omega];rfl
theorem ga3:(S++(a::b::c::d::r))[S.length+3]? = some d:=by
 rw[zat (by omega),show S.length+3 - S.length=3 by omega];rfl
theorem Qs (t0 t1:Str)(p0 p1:List Str)(h0:p0.length<=11)(h1:p1.length<=11)(S:Cs):vL [aN t0 t1 p0 p1,.str "player"] S = .ok (.hd S.length) (S++[.bA ((p0++p1).map .str)]):=by
 unfold vL aN;have hl:(p0.length<=sizeLine)=True:=bF (by omega)
 have Gq:(p0.length+p1.length<=sizeLine)=True:=bF (by omega)
 simp?[fx,xE,zaf,zaE,hl,Gq,zcf,zaj]
theorem E7 (u:U)(t0 t1:Str)(p0 p1:List Str)(h0:p0.length<=11)(h1:p1.length<=11)(S:Cs):pJ [.hd S.length,u.t,aN t0 t1 p0 p1] (S++[.eS "Match" []]) = .ok .bB (f9 S (cL u t0 t1 p0 p1)):=by
 unfold pJ f9 cL mF j6;have ht:=λS=>Qs t0 t1 p0 p1 h0 h1 S
 have hl0:(p0.length<=sizeLine)=True:=bF (by omega)
 have VU:(p1.length<=sizeLine)=True:=bF (by omega)
 have hz:(∀n:Nat,(n<5)=True->(n<sizeLine)=True):=λn h=>gk (by have:=of_eq_true h;omega)
 unfold aN at ht ⊢
 generalize u.t=ut at *
 simp?[fx,ht,hz,zaf,hl0,VU,Dm,YR,zbE]
theorem Ve (S:Cs)(u:U)(t0 t1:Str)(p0 p1:List Str):dP (f9 S (cL u t0 t1 p0 p1)) (cL u t0 t1 p0 p1) (j6 S.length):=by
 unfold f9;refine⟨Dm,ga1,ga2,ga3,rfl,λj x c h=>?_,?_⟩
 ·simp[cL] at h
 ·simp[fp,j6]
theorem Vf (u:U)(t0 t1:Str)(p0 p1:List Str)(h0:p0.length<=11)(h1:p1.length<=11):Sz (cL u t0 t1 p0 p1) 22:=⟨by simp[cL],by simp[cL];omega,by simp[cL],h0,h1,λx h=>by simp[cL] at h,λx h=>by simp[cL] at h,λx h=>by simp[cL] at h⟩
noncomputable def jH (m:M):Tr:=match iA m with
 |some x=>.tp [.str (jf m x.cg),.str x.nB,.str x.vR,.str x.v_,.int x.CM,.int x.wk,.int x.ov,.int x.ba]
 |none=>.bB
section
variable {S:Cs}{m:M}{y:Ly}{n:Nat}
theorem Io (h:dP S m y)(z:Sz m n)(hn:n<=1000):Cy [.hd y.a] S = .ok (jH m) S:=by
 unfold Cy jH;have k1:=fN h (zai z.pl hn)
 have ha:=h.a;unfold mF aN at ha;cases hg:(iA m).isSome
 ·have eg:=fZ h.len hg
  have en:iA m=none:=by
   cases hq:iA m with
   |none=>rfl
   |some x=>rw[hq] at hg;cases hg
  rw[en];refine fB (S1:=S) (t:=.bB) ?_ (zaY ..) (by unfold nX;simp only[GW];rfl)
  simp?[fx,ha,k1,eg]
 ·obtain⟨fR,x,ci,c,b1,b2,b3,b4,b5,b6⟩:=fG h.len hg
  have hi:=(h.qK b1 b2 b3).i
  unfold i6 at hi;have k5:=@mQ m x.cg (z.cg x (by rw[b1];simp))
  rw[b6];refine fB (S1:=S) (t:=.tp [.str (jf m x.cg),.str x.nB,.str x.vR,.str x.v_,.int x.CM,.int x.wk,.int x.ov,.int x.ba]) ?_ (zaY ..) ?_
  ·simp?[fx,ha,hi,k1,b5,k5]
  ·unfold nX
   simp only[fV,nY,kM,pq,zaF,zaN,zaU];rfl
end
noncomputable def nq (a b n:Str):Str:=if n=a then b else n
noncomputable def Ao (a b:Str)(l:List Str):List Str:=l.foldl (λq n=>gJ q (nq a b n)) []
noncomputable def E8 (a b:Str)(l:List (Str×Int)):List (Str×Int):=l.foldl (λq p=>mL q (nq a b p.1) (jd l p.1)) []
theorem E9 (l:List Str)(n:Str):(gJ l n).length<=l.length+1:=by unfold gJ;split<;>simp
theorem Qt:(Ao a b l).length<=l.length:=by
 have:∀(l q:List Str),(l.foldl (λq n=>gJ q (nq a b n)) q).length<=q.length+l.length:=by
  intro l;induction l with
  |nil=>intro q;simp
  |cons n r ih=>intro q;rw[zbr];have:=ih (gJ q (nq a b n));have:=E9 q (nq a b n);rw[zar];omega
 simpa[Ao] using this l []
theorem Qu:(E8 a b l).length<=l.length:=by
 have:∀(g:Str->Int) (l q:List (Str×Int)),(l.foldl (λq p=>mL q (nq a b p.1) (g p.1)) q).length<=q.length+l.length:=by
  intro g l;induction l with
  |nil=>intro q;simp
  |cons n r ih=>intro q;rw[zbr];have:=ih (mL q (nq a b n.1) (g n.1));have:=yK q (nq a b n.1) (g n.1);rw[zar];omega
 simpa[E8] using this (jd l) l []
theorem an0 (l:List Str):fL [] (l.map λn=>(Sum.inr (nq a b n),Tr.bl true))=iz (Ao a b l):=by
 unfold fL Ao;rw[List.foldl_map];have:∀(l q:List Str),l.foldl (λx y=>lz x (Sum.inr (nq a b y):dW) (Tr.bl true)) (iz q)=iz (l.foldl (λq n=>gJ q (nq a b n)) q):=by
  intro l;induction l with
  |nil=>intro q;rfl
  |cons n r ih=>intro q;rw[zbr,CO,ih,zbr]
 exact this l []
theorem an1 (l:List (Str×Int)):fL [] (l.map λp=>(Sum.inr (nq a b p.1),Tr.int (jd l p.1)))=sf (E8 a b l):=by
 unfold fL E8;rw[List.foldl_map];have:∀(g:Str->Int) (l q:List (Str×Int)),l.foldl (λx y=>lz x (Sum.inr (nq a b y.1):dW) (Tr.int (g y.1))) (sf q)=sf (l.foldl (λq p=>mL q (nq a b p.1) (g p.1)) q):=by
  intro g l;induction l with
  |nil=>intro q;rfl
  |cons n r ih=>intro q;rw[zbr,Ik,ih,zbr]
 exact this (jd l) l []
theorem yL {α:Type}(k:α -> Str)(v:α -> Tr):∀l:List α,qC (l.map λp=>.tp [.str (k p),v p])=some (l.map λp=>(Sum.inr (k p),v p))
 |[]=>rfl
 |p::r=>by
  rw[qD];unfold qC;rw[yL k v r];rfl
theorem YS {α:Type}{S:Cs}{k:Nat}{D:List (dW×Tr)}(hk:S[k]? = some (.jD D))(a b:Str)(L:List α)(nm:α -> Str)(vl:α -> Tr)(hD:D.map (λp=>N7 p.1)=L.map λp=>.str (nm p))(hv:∀p∈L,aP (.inr (nm p)) D=some (vl p))(hl:L.length<=1000):
  CI [.hd k,.str a,.str b] S = .ok (.hd S.length) (S.set k (.wm D)++[.jD (fL [] (L.map λp=>(Sum.inr (nq a b (nm p)),vl p)))]):=by
 unfold CI;have hf:(S.set k (.wm D))[k]? = some (.wm D):=cy (aD hk)
 generalize hS:S.set k (.wm D)=S1 at *
 simp only[Bm,gF,aI,bZ,af,fQ,tY,aa,ak,iD,hk,hD,hS,R.eV,R.gB,iG,qD,wB,zbl,zbd,zar,zaP,Nat.reduceAdd,Nat.reduceSub,zbV,zbs,zaT,zaH,Option.join,zaX,id_eq,zay];rw[i9 trivial (λτ=>∃v,τ=[some (.str b),some (.hd k),some (.str a),v]) (λp=>.str (nm p)) (λp=>.tp [.str (nq a b (nm p)),vl p]) (λ_=>true) L _ [] ⟨_,rfl⟩ ?_ (by simp;omega)]
 ·rw[zbd,zda.mpr (λ_ _=>rfl)]
  have Gq:(L.map λp=>((Sum.inr (nq a b (nm p)):dW),vl p)).length<=1000:=by simpa using hl
  have hL1:S1.length=S.length:=by rw[<-hS];simp
  simp only[R.eV,zQ,D8,yL (λp=>nq a b (nm p)) vl,R.gB,tZ,if_pos Gq,hL1]
 ·rintro p hp τ ⟨v,rfl⟩
  refine⟨[some (.str b),some (.hd k),some (.str a),some (.str (nm p))],⟨_,rfl⟩,rfl,rfl,λ_=>?_⟩
  have h1:=hv p hp;unfold nq;by_cases h:nm p=a
  ·rw[if_pos h]
   rw[h] at h1;simp?[h,N5,N4,hf,zcv,h1]
  ·rw[if_neg h]
   simp?[h,N5,N4,hf,zcv,h1]
theorem J1 (h:k∈l):aP (.inr k) (iz l)=some (.bl true):=by
 have h1:=jY (k:=k) (l:=l)
 rw[decide_eq_true h] at h1;obtain⟨t,e⟩:=zbR.mp h1;rw[e];have:∀l:List Str,aP (.inr k) (iz l)=some t->t = .bl true:=by
  intro l;induction l with
  |nil=>intro q;cases q
  |cons a r ih =>
   intro q;unfold iz at q;rw[qD] at q;unfold aP at q;split at q
   ·cases q;rfl
   ·exact ih q
 rw[this l e]
theorem Qv:∀p∈l,aP (.inr p.1) (sf l)=some (.int (jd l p.1)):=by
 induction l with
 |nil=>intro p h;cases h
 |cons a r ih =>
  intro p h;unfold sf;rw[qD];obtain⟨k,v⟩:=a;unfold aP jd;by_cases e:k=p.1
  ·rw[if_pos (by rw[e]),if_pos e]
  ·rw[if_neg (λz=>e (zdf z)),if_neg e]
   rcases zam.mp h with rfl|h
   ·exact absurd rfl e
   ·exact ih p h
noncomputable def I.nq (x:I)(a b:Str):I:={x with YI:=My.nq a b x.YI,outs:=Ao a b x.outs,gP:=E8 a b x.gP}
section
variable {S:Cs}{x:I}{c:L3}
theorem Qw (h:g7 S x c)(d:Dj c)(a b:Str)(ho:x.outs.length<=1000)(hs:x.gP.length<=1000):
  ∃S',HZ [.hd c.i,.str a,.str b] S = .ok .bB S'/\g7 S' (x.nq a b) ⟨c.i,S.length,S.length+1⟩/\aM (kY c) S S':=by
 have k1:=YS h.o a b x.outs id (λ_=>.bl true) (by unfold iz;rw[zbu];rfl) (λp hp=>J1 hp) ho
 simp only[id] at k1;rw[an0] at k1;have hi:=h.i;have lo:=aD h.o;have li:=aD h.i;have ls:=aD h.s;generalize hS1:S.set c.o (.wm (iz x.outs))++[.jD (iz (Ao a b x.outs))]=S1 at *
 have on1:aM (kY c) S S1:=by rw[<-hS1];exact (aM.set (by simp[kY])).trans aM.qW
 have l1:S1.length=S.length+1:=by rw[<-hS1];simp
 have i1:S1[c.i]? = some (.eS "Innings" (i6 x c)):=by
  rw[<-hS1,zab (by simpa using li),cY d.io.symm];exact hi
 have s1:S1[c.s]? = some (.jD (sf x.gP)):=by
  rw[<-hS1,zab (by simpa using ls),cY d.os];exact h.s
 have o1:S1[S.length]? = some (.jD (iz (Ao a b x.outs))):=by
  rw[<-hS1,zat (by simp)];simp
 generalize wj:S1.set c.i (.eS "Innings" (i6 x ⟨c.i,S.length,c.s⟩))=S2 at *
 have on2:aM (kY c) S S2:=by rw[<-wj];exact on1.trans (aM.set (by simp[kY]))
 have l2:S2.length=S.length+1:=by rw[<-wj];simpa using l1
 have i2:S2[c.i]? = some (.eS "Innings" (i6 x ⟨c.i,S.length,c.s⟩)):=by rw[<-wj];exact cy (by omega)
 have s2:S2[c.s]? = some (.jD (sf x.gP)):=by rw[<-wj,cY d.is];exact s1
 have o2:S2[S.length]? = some (.jD (iz (Ao a b x.outs))):=by rw[<-wj,cY (by omega)];exact o1
 have k2:=YS s2 a b x.gP (·.1) (λp=>.int (jd x.gP p.1)) (by unfold sf;rw[zbu];rfl) Qv hs
 rw[an1,l2] at k2;generalize Lj:S2.set c.s (.wm (sf x.gP))++[.jD (sf (E8 a b x.gP))]=S3 at *
 have on3:aM (kY c) S S3:=by rw[<-Lj];exact on2.trans ((aM.set (by simp[kY])).trans aM.qW)
 have l3:S3.length=S.length+2:=by rw[<-Lj];simp[l2]
 have i3:S3[c.i]? = some (.eS "Innings" (i6 x ⟨c.i,S.length,c.s⟩)):=by
  rw[<-Lj,zab (by simp;omega),cY d.is.symm];exact i2
 have o3:S3[S.length]? = some (.jD (iz (Ao a b x.outs))):=by
  rw[<-Lj,zab (by simp;omega),cY (by omega)];exact o2
 have s3:S3[S.length+1]? = some (.jD (sf (E8 a b x.gP))):=by
  rw[<-Lj,zat (by simp;omega)];simp[l2]
 have li3:c.i<S3.length:=by omega
 refine⟨S3.set c.i (.eS "Innings" (i6 (x.nq a b) ⟨c.i,S.length,S.length+1⟩)),?_,⟨cy li3,by rw[cY (by show ¬ c.i=S.length;omega)];exact o3,by rw[cY (by show ¬ c.i=S.length+1;omega)];exact s3⟩,on3.trans (aM.set (by simp[kY]))⟩
 unfold HZ I.nq nq;unfold i6 at hi i1 wj i2 i3 ⊢
 by_cases hh:x.YI=a
 ·subst hh
  simp?[fx,hi,k1,i1,wj,i2,k2,i3,cy li3,eZ]
 ·simp?[fx,hi,k1,i1,wj,i2,k2,i3,hh,cy li3,eZ]
end
theorem YT (ps:List Str)(a b:Str)(S:Cs)(hl:ps.length<=1000):HY [.ls (ps.map .str),.str a,.str b] S = .ok (.ls ((ps.map (nq a b)).map .str)) S:=by
 unfold HY;simp only[Bm,gF,aI,fQ,tY,aa,iL,GF,R.eV,R.gB,iG,qD,wB,zbl,zbd,zar,zaP,Nat.reduceAdd,Nat.reduceSub,zbV,zbs,zaT,zaH,Option.join,zaX,id_eq,zay];rw[i9 trivial (λτ=>∃v,τ=[some (.str b),some (.str a),v]) (λn=>.str n) (λn=>.str (nq a b n)) (λ_=>true) ps _ [] ⟨_,rfl⟩ ?_ (by simp;omega)]
 ·rw[zbd,zda.mpr (λ_ _=>rfl),zbu]
  simp only[R.eV,R.gB,tZ];rfl
 ·rintro n hn τ ⟨v,rfl⟩
  refine⟨[some (.str b),some (.str a),some (.str n)],⟨_,rfl⟩,rfl,rfl,λ_=>?_⟩
  unfold nq;by_cases h:n=a<;>simp?[h]
section
variable {S:Cs}{m:M}{y:Ly}{n:Nat}{fR:List I}{x x':I}{ci:List L3}{c:L3}
theorem dP.rcd (h:dP S m y)(m1:M)(hp:m1.pl=m.pl)(hl:m1.gV=m.gV):dP ((S.set y.k (.bA (m1.kn.map .str))).set y.a (.eS "Match" (mF m1 y))) m1 y:=by
 obtain⟨a1,a2,a3,a4,a5,a6⟩:=Va h.nd;have l1:=aD h.a;have l2:=aD h.k;refine⟨cy (by simpa using l1),by rw[cY a1];exact cy l2,by rw[cY a2,cY a4];exact h.p,by rw[cY a3,cY a5,hl];exact h.l,by rw[hp];exact h.len,λj x c h1 h2=>?_,h.nd⟩
 rw[hp] at h1;have hc:=zaA h2
 exact (h.rC j x c h1 h2).only (F:=[y.k,y.a]) ((aM.set (by simp)).trans (aM.set (by simp))) λk hk q=>by
  rcases zam.mp q with rfl|q
  ·exact Im h.nd (.inr (.inl rfl)) c hc hk
  ·rw[zav] at q
   subst q;exact Im h.nd (.inl rfl) c hc hk
theorem dP.an3 (h:dP S m y)(e1:m.pl=fR++[x])(e2:y.cs=ci++[c])(e3:ci.length=fR.length)(on:aM (kY c) S S')(hI:g7 S' x' ⟨c.i,S.length,S.length+1⟩):dP S' (m.lH x') {y with cs:=ci++[⟨c.i,S.length,S.length+1⟩]}:=by
 obtain⟨d,a1,a2,a3,a4,b1,b2,b3,b4,c1,c2,c3,c4⟩:=CU h.nd (c:=c) (by rw[e2];simp)
 have nm:∀j,j≠c.i->j≠c.o->j≠c.s->j∉kY c:=λj h1 h2 h3 q=>by simp[kY] at q;rcases q with q|q|q;exact h1 q;exact h2 q;exact h3 q
 have ep:(m.lH x').pl=fR++[x']:=by unfold M.lH;simp[e1]
 refine⟨on.at h.a (nm _ a1.symm b1.symm c1.symm),on.at h.k (nm _ a2.symm b2.symm c2.symm),?_,on.at h.l (nm _ a4.symm b4.symm c4.symm),?_,?_,?_⟩
 ·have:=on.at h.p (nm _ a3.symm b3.symm c3.symm)
  rw[e2] at this;rw[this];simp
 ·rw[ep];simp[e3]
 ·intro j z cz h1 h2
  rw[ep] at h1;by_cases hj:j=fR.length
  ·subst hj
   rw[fY] at h1;rw[<-e3,fY] at h2;cases h1;cases h2
   exact hI
  ·have GY:j<fR.length:=by
    have:=(zae.mp h1).1
    simp at this
    omega
   rw[zab GY] at h1;rw[zab (by omega)] at h2
   have GQ:y.cs[j]? = some cz:=by rw[e2,zab (by omega)];exact h2
   refine (h.rC j z cz (by rw[e1,zab GY];exact h1) GQ).only on (Al (YQ h.nd) GQ (k:=fR.length) (by rw[e2,<-e3,fY]) hj)
 ·have ly:=h.lt
  have nd:=h.nd;have f1:fp y=(y.a::y.k::y.p::y.l::ci.flatMap kY++[c.i])++[c.o,c.s]:=by unfold fp;rw[e2];simp[kY]
  have f2:fp {y with cs:=ci++[⟨c.i,S.length,S.length+1⟩]}=(y.a::y.k::y.p::y.l::ci.flatMap kY++[c.i])++[S.length,S.length+1]:=by unfold fp;simp[kY]
  rw[f2];rw[f1] at nd ly;generalize (y.a::y.k::y.p::y.l::ci.flatMap kY++[c.i])=L at *
  refine zce.mpr ⟨(zce.mp nd).1,by simp,λj hj k hk=>?_⟩
  have:=ly j (zck _ hj)
  simp at hk
  omega
noncomputable def wG (m:M)(a b:Str):M:={m with kn:=m.kn++[b],p0:=m.p0.map (nq a b),p1:=m.p1.map (nq a b)}
noncomputable def J2 (m:M)(a b:Str):M:=match iA m with|some x=>(wG m a b).lH (x.nq a b)|none=>wG m a b
theorem Vg (h:dP S m y)(z:Sz m n)(hn:n+1<=1000)(a b:Str):
  ∃S' y',H_ [.hd y.a,.str a,.str b] S = .ok .bB S'/\dP S' (J2 m a b) y'/\aM (fp y) S S'/\y'.a=y.a/\∀j∈fp y',j∈fp y\/S.length<=j:=by
 have hM:=h.rcd (wG m a b) rfl rfl
 have ha:=h.a;have hk:=h.k;have la:=aD ha;have k1:=fN hM (zai z.pl (by omega))
 obtain⟨a1,_⟩:=Va h.nd;have hz:(m.kn.length<sizeLine)=True:=gk (by have:=z.kn;omega)
 have w0:=λS=>YT m.p0 a b S (by have:=z.p0;omega)
 have w1:=λS=>YT m.p1 a b S (by have:=z.p1;omega)
 have hk2:((wG m a b).kn.map Tr.str)=m.kn.map .str++[.str b]:=by simp[wG]
 have on:aM (fp y) S ((S.set y.k (.bA ((wG m a b).kn.map .str))).set y.a (.eS "Match" (mF (wG m a b) y))):=(aM.set (by simp[fp])).trans (aM.set (by simp[fp]))
 have dH:((S.set y.k (.bA ((wG m a b).kn.map .str))).set y.a (.eS "Match" (mF (wG m a b) y))).length=S.length:=by simp
 have e0:(S.set y.k (.bA (m.kn.map .str++[.str b])))[y.a]? = some (.eS "Match" (mF m y)):=by rw[cY a1.symm];exact ha
 rw[hk2] at hM k1 on dH;have hMa:=hM.a;generalize wj:(S.set y.k (.bA (m.kn.map .str++[.str b]))).set y.a (.eS "Match" (mF (wG m a b) y))=S2 at *
 have hgo:iA (wG m a b)=iA m:=rfl
 have hgt:Qm (wG m a b) y=Qm m y:=rfl
 unfold H_ J2;cases hg:(iA m).isSome
 ·have eg:=fZ h.len hg
  have en:iA m=none:=by
   cases hq:iA m with
   |none=>rfl
   |some x=>rw[hq] at hg;cases hg
  rw[en];rw[hgt,eg] at k1;refine⟨S2,y,?_,hM,on,rfl,λj hj=>.inl hj⟩
  unfold mF wG aN at *
  simp?[fx,ha,hk,hz,e0,w0,w1,zN,wj,hMa,k1]
 ·obtain⟨fR,x,ci,c,b1,b2,b3,b4,b5,b6⟩:=fG h.len hg
  have hI:=hM.qK (x:=x) b1 b2 b3
  obtain⟨d,_⟩:=CU h.nd (c:=c) (by rw[b2];simp)
  have Vc:x∈m.pl:=by rw[b1];simp
  obtain⟨S3,k2,k3,k4⟩:=Qw hI d a b (zai (z.outs x Vc) (by omega)) (zai (z.gP x Vc) (by omega))
  have hi:=hI.i;rw[b6];rw[hgt,b5] at k1;refine⟨S3,_,?_,dP.an3 hM b1 b2 b3 k4 k3,on.trans (k4.mono λj hj=>?_),rfl,λj hj=>?_⟩
  ·unfold mF wG aN i6 at *
   simp?[fx,ha,hk,hz,e0,w0,w1,zN,wj,hMa,k1,hi,k2]
  ·unfold fp
   simp only[zam,zbn];exact .inr (.inr (.inr (.inr ⟨c,by rw[b2];simp,hj⟩)))
  ·rw[dH] at hj
   simp only[fp,zam,List.flatMap_append,zbM,zdw,List.flatMap_nil,kY,zax,or_false,b2] at hj ⊢
   rcases hj with q|q|q|q|q|q|q|q
   ·exact .inl (.inl q)
   ·exact .inl (.inr (.inl q))
   ·exact .inl (.inr (.inr (.inl q)))
   ·exact .inl (.inr (.inr (.inr (.inl q))))
   ·exact .inl (.inr (.inr (.inr (.inr (.inl q)))))
   ·exact .inl (.inr (.inr (.inr (.inr (.inr (.inl q))))))
   ·exact .inr (by omega)
   ·exact .inr (by omega)
noncomputable def Q2 (m:M):M:={m with clo:=true}
noncomputable def J3 (m:M):M:=match iA m with|some x=>(Q2 m).lH { x with en:= "closed" } | none=>Q2 m
theorem dP.aj5 (h:dP S m y)(m1:M)(hp:m1.pl=m.pl)(hl:m1.gV=m.gV)(hk:m1.kn=m.kn):dP (S.set y.a (.eS "Match" (mF m1 y))) m1 y:=by
 have:=h.rcd m1 hp hl
 rw[hk,i_ h.k] at this;exact this
theorem Vh (h:dP S m y)(z:Sz m n)(hn:n<=1000):∃S',Ia [.hd y.a] S = .ok .bB S'/\dP S' (J3 m) y/\aM (fp y) S S':=by
 have hM:=h.aj5 (Q2 m) rfl rfl rfl
 have ha:=h.a;have la:=aD ha;have k1:=fN hM (zai z.pl (by omega))
 have on:aM (fp y) S (S.set y.a (.eS "Match" (mF (Q2 m) y))):=aM.set (by simp[fp])
 have hMa:=hM.a;generalize wj:S.set y.a (.eS "Match" (mF (Q2 m) y))=S2 at *
 have hgt:Qm (Q2 m) y=Qm m y:=rfl
 unfold Ia J3;cases hg:(iA m).isSome
 ·have eg:=fZ h.len hg
  have en:iA m=none:=by
   cases hq:iA m with
   |none=>rfl
   |some x=>rw[hq] at hg;cases hg
  rw[en];rw[hgt,eg] at k1;refine⟨S2,?_,hM,on⟩
  unfold mF Q2 at *
  simp?[fx,ha,wj,hMa,k1]
 ·obtain⟨fR,x,ci,c,b1,b2,b3,b4,b5,b6⟩:=fG h.len hg
  have hI:=hM.qK (x:=x) b1 b2 b3
  obtain⟨d,_⟩:=CU h.nd (c:=c) (by rw[b2];simp)
  have k3:=lC (y:={ x with en:= "closed" }) hI d rfl rfl
  have hi:=hI.i;rw[b6];rw[hgt,b5] at k1;refine⟨_,?_,dP.lH (x':={ x with en:= "closed" }) hM b1 b2 b3,on.trans (aM.jX λj hj=>?_)⟩
  ·unfold mF Q2 i6 at *
   simp?[fx,ha,wj,hMa,k1,hi,k3]
  ·unfold fp
   simp only[zam,zbn];exact .inr (.inr (.inr (.inr ⟨c,by rw[b2];simp,hj⟩)))
noncomputable def su (m:M)(a b:Str):Option Str:=if a∉m.p0++m.p1 then some "team" else if b∈m.kn then some "name" else match iA m with|none=>none|some x=>if x.eL a=true\/a=x.v_ then some "there" else none
theorem J4 (h:dP S m y)(z:Sz m n)(hn:n<=1000)(a b:Str):HE [.hd y.a,.str a,.str b] S = .ok (dG (su m a b)) (S++[.bA ((m.p0++m.p1).map .str)]):=by
 unfold HE su;have k1:=Qs m.t0 m.t1 m.p0 m.p1 z.p0 z.p1 S;have h':dP (S++[.bA ((m.p0++m.p1).map .str)]) m y:=h.only (F:=[]) aM.qW (by simp)
 have k2:=fN h' (zai z.pl hn)
 have hL:(S++[Ce.bA ((m.p0++m.p1).map .str)])[S.length]? = some (.bA ((m.p0++m.p1).map .str)):=Dm
 generalize S++[.bA ((m.p0++m.p1).map .str)]=S1 at *
 have ha:=h.a;have R5:=h'.a;have hk':=h'.k;unfold mF at ha R5;by_cases h1:a∈m.p0++m.p1
 ·by_cases h2:b∈m.kn
  ·simp?[fx,ha,k1,hL,R5,hk',gf,cJ,gc,h1,h2,dG]
  ·cases hg:(iA m).isSome
   ·have eg:=fZ h.len hg
    have en:iA m=none:=by
     cases hq:iA m with
     |none=>rfl
     |some x=>rw[hq] at hg;cases hg
    simp?[fx,ha,k1,k2,hL,R5,hk',gf,cJ,gc,h1,h2,en,eg,dG]
   ·obtain⟨fR,x,ci,c,b1,b2,b3,b4,b5,b6⟩:=fG h.len hg
    have hI:=h'.qK b1 b2 b3;have k3:=jZ hI a;have hi:=hI.i;unfold i6 at hi;have k4:HD [.hd c.i,.str a] S1 = .ok (dG (if x.eL a=true\/a=x.v_ then some "there" else none)) S1:=by
     unfold HD;cases h3:x.eL a
     ·by_cases h4:a=x.v_
      ·subst h4;simp?[fx,hi,k3,h3,dG]
      ·simp?[fx,hi,k3,h3,h4,dG]
     ·simp?[fx,hi,k3,h3,dG]
    generalize hr:(if x.eL a=true\/a=x.v_ then some ("there" : Str) else none)=r at *
    simp?[fx,ha,k1,k2,hL,R5,hk',gf,cJ,gc,h1,h2,b5,b6,k4,hr]
 ·simp?[fx,ha,k1,hL,gf,cJ,gc,h1,dG]
noncomputable def Aq (m:M):Int:=match m.pl with|x::_=>x.cg|[]=>0
noncomputable def Vi (m:M):Bool:=if m.pl.length=2/\2 * m.ru.i=4/\m.YJ=false then decide (0<m.ru.f/\m.ru.f<=lD m (Aq m)) else false
noncomputable def nu (m:M):Option Str:=if (iA m).isSome=true then some "going" else if Vi m=true then none else some "follow"
theorem aj6 (h:dP S m y)(z:Sz m n)(hn:n<=1000):HF [.hd y.a] S = .ok (.bl (Vi m)) S:=by
 unfold HF Vi;have hs:m.pl.length<=1000:=zai z.pl hn
 have k1:=E2 h;have k2:=λs=>Aj h s hs
 have ha:=h.a;have hp:=h.p;have hz:(y.cs.length<=sizeLine)=True:=bF (by rw[h.len];omega)
 unfold mF U.t at ha;by_cases h2:m.pl.length=2
 ·have GQ:((y.cs.length:Int)=2)=True:=eq_true (by rw[h.len,h2];rfl)
  by_cases h4:2 * m.ru.i=4
  ·cases hf:m.YJ
   ·have dH:=h.len
    cases hpl:m.pl with
    |nil=>rw[hpl] at h2;cases h2
    |cons x r =>
     cases hcs:y.cs with
     |nil=>rw[hcs,hpl] at dH;cases dH
     |cons c q =>
      have hi:=(h.rC 0 x c (by rw[hpl];rfl) (by rw[hcs];rfl)).i
      unfold i6 at hi;have hl:Aq m=x.cg:=by unfold Aq;rw[hpl]
      rw[hcs] at hp GQ hz;rw[hpl] at h2;rw[zar] at h2 GQ hz;rw[qD] at hp;have U9:((q.map λc:L3=>Tr.hd c.i).length+1<=sizeLine)=True:=by rw[zaf];exact hz
      have an5:(((q.map λc:L3=>Tr.hd c.i).length+1:Nat):Int)=2:=by rw[zaf];exact of_eq_true GQ
      by_cases h5:0<m.ru.f<;>by_cases h6:m.ru.f<=lD m x.cg <;>
      simp?[fx,ha,hp,hi,hf,k1,k2,h4,h2,hl,hz,U9,GQ,an5,h5,h6,zar,zaf,zu,gLe,Jo,hpl]
   ·simp?[fx,ha,hp,hf,k1,h4,h2,hz,GQ,zaf]
  ·simp?[fx,ha,hp,k1,h4,h2,hz,GQ,zaf]
 ·have GQ:((y.cs.length:Int)=2)=False:=eq_false (by rw[h.len];omega)
  simp?[fx,ha,hp,h2,hz,GQ,zaf]
theorem CW (h:dP S m y)(z:Sz m n)(hn:n<=1000):HG [.hd y.a] S = .ok (dG (nu m)) S:=by
 unfold HG nu;have k1:=fN h (zai z.pl hn)
 have k2:=aj6 h z hn;have ha:=h.a;unfold mF at ha;cases hg:(iA m).isSome
 ·have eg:=fZ h.len hg
  cases hm:Vi m<;>simp?[fx,ha,k1,k2,eg,hm,dG]
 ·obtain⟨fR,x,ci,c,b1,b2,b3,b4,b5,b6⟩:=fG h.len hg
  simp?[fx,ha,k1,b5,dG]
end
noncomputable def jh (m:M)(e:bR):Option Str:=if lF m=true then some "done" else match e with
 |.dz t f o b=>mR m t f o b
 |.swap a b=>su m a b
 |.g8=>nu m
 |.jB=>none
 |e=>fH m e
noncomputable def Vj (m:M)(s:Int)(f o b:Str):M:={m with pl:=m.pl++[Am s f o b]}
noncomputable def Qx (m:M)(e:bR):M:=match e with
 |.dz t f o b=>Vj m ((Ai m t).getD 0) f o b
 |.swap a b=>J2 m a b
 |.g8=>{m with YJ:=true}
 |.jB=>J3 m
 |e=>match iA m with|some x=>ow m x e|none=>m
noncomputable def iO (m:M)(e:bR):M:=pS (Qx m e)
theorem B.J5 {b:B}{w:Str}(h:b.yH=some w):0<w.length/\w.length<=100:=by
 unfold B.yH at h;split at h
 ·cases h;decide +kernel
 ·split at h
  ·cases h
  ·cases h;decide +kernel
theorem gK (h:fH m e=some w):0<w.length/\w.length<=100:=by
 unfold fH at h;cases hg:iA m with
 |none=>rw[hg] at h;cases h;decide +kernel
 |some x =>
  rw[hg] at h;cases e with
  |pN b =>
   change x.nj b=some w at h
   unfold I.nj at h;repeat' split at h
   all_goals first | (cases h;done) | (cases h;decide +kernel) | (cases h;rename_i q;exact B.J5 q)
  |rC k =>
   change x.CQ _ k=some w at h
   unfold I.CQ at h;repeat' split at h
   all_goals first | (cases h;done) | (cases h;decide +kernel)
  |pO k =>
   change x.pQ _ _ k=some w at h
   unfold I.pQ at h;repeat' split at h
   all_goals first | (cases h;done) | (cases h;decide +kernel)
  |pP k =>
   change (if x.eL k=true then none else some ("who" : Str))=some w at h
   split at h
   ·cases h
   ·cases h;decide +kernel
  |dz _ _ _ _=>cases h
  |swap _ _=>cases h
  |fM=>cases h
  |g8=>cases h
  |jB=>cases h
theorem CY (h:jh m e=some w):0<w.length/\w.length<=100:=by
 unfold jh at h;split at h
 ·cases h;decide +kernel
 ·cases e with
  |dz t f o b =>
   simp only at h;unfold mR at h
   repeat' split at h
   all_goals first | (cases h;done) | (cases h;decide +kernel)
  |swap a b =>
   simp only at h;unfold su at h
   repeat' split at h
   all_goals first | (cases h;done) | (cases h;decide +kernel)
  |g8 =>
   simp only at h;unfold nu at h
   repeat' split at h
   all_goals first | (cases h;done) | (cases h;decide +kernel)
  |jB=>cases h
  |pN b=>exact gK h
  |rC k=>exact gK h
  |pO k=>exact gK h
  |pP k=>exact gK h
  |fM=>exact gK h
section
variable {S:Cs}{m:M}{y:Ly}{n:Nat}
theorem YU (h:dP S m y)(z:Sz m n)(hn:n<=1000)(e:bR):∃G,rq [.hd y.a,e.t] S = .ok (dG (jh m e)) (S++G):=by
 by_cases hi:e.yJ=true
 ·refine⟨[],?_⟩
  rw[CV h z hn e hi,zay];unfold jh;cases e<;>first|rfl | (cases hi;done)
 ·have k1:=Ak h z hn
  have ha:=h.a;unfold rq jh;unfold mF at ha;cases hd:lF m
  ·cases e with
   |dz t f o b =>
    refine⟨[],?_⟩
    have k2:=E3 h z hn t f o b;unfold bR.t at *
    simp?[fx,ha,k1,hd,k2,zay]
   |swap a b =>
    refine⟨[.bA ((m.p0++m.p1).map .str)],?_⟩
    have k2:=J4 h z hn a b;unfold bR.t at *
    simp?[fx,ha,k1,hd,k2]
   |g8 =>
    refine⟨[],?_⟩
    have k2:=CW h z hn;unfold bR.t at *
    simp?[fx,ha,k1,hd,k2,zay]
   |jB =>
    refine⟨[],?_⟩
    unfold bR.t at *
    simp?[fx,ha,k1,hd,zay,dG]
   |pN _=>exact absurd rfl hi
   |rC _=>exact absurd rfl hi
   |pO _=>exact absurd rfl hi
   |pP _=>exact absurd rfl hi
   |fM=>exact absurd rfl hi
  ·refine⟨[],?_⟩
   simp?[fx,ha,k1,hd,zay,dG]
theorem Sz.beg (z:Sz m n)(hs:s=0\/s=1)(hn:1<=n+1)(f o b:Str):Sz (Vj m s f o b) (n+1):=by
 have z':=z.mono (zaW n)
 have hm:∀w∈(Vj m s f o b).pl,w∈m.pl\/w=Am s f o b:=λw hw=>by
  rcases zbM.mp (show w∈m.pl++[Am s f o b] from hw) with q|q
  ·exact .inl q
  ·exact .inr (by simpa using q)
 refine⟨?_,z'.kn,z'.gV,z'.p0,z'.p1,λw hw=>?_,λw hw=>?_,λw hw=>?_⟩
 ·show (m.pl++[Am s f o b]).length<=n+1
  have:=z.pl
  simp;exact this
 ·rcases hm w hw with q|rfl
  ·exact z'.outs w q
  ·show 0<=_;omega
 ·rcases hm w hw with q|rfl
  ·exact z'.gP w q
  ·show 1<=_;omega
 ·rcases hm w hw with q|rfl
  ·exact z'.cg w q
  ·exact hs
theorem Ip (hg:iA m=some x):∃fR,m.pl=fR++[x]/\x.en="" := by
 rcases zci m.pl with h|⟨fR,w,h⟩
 ·unfold iA at hg;rw[h] at hg;cases hg
 ·have h:m.pl=fR++[w]:=by simpa using h
  rw[pR h] at hg;split at hg
  ·cases hg;exact⟨fR,h,by assumption⟩
  ·cases hg
theorem Sz.wG (z:Sz m n)(a b:Str):Sz (wG m a b) (n+1):=by
 have z':=z.mono (zaW n)
 exact⟨z'.pl,by have:=z.kn;simp[My.wG];omega,z'.gV,by have:=z.p0;simpa[My.wG] using this,by have:=z.p1;simpa[My.wG] using this,z'.outs,z'.gP,z'.cg⟩
theorem Sz.sw (z:Sz m n)(a b:Str):Sz (J2 m a b) (n+1):=by
 unfold J2;cases hg:iA m with
 |none=>exact z.wG a b
 |some x =>
  obtain⟨fR,e,_⟩:=Ip hg;have hx:x∈m.pl:=by rw[e];simp
  have h1:=z.outs x hx;have h2:=z.gP x hx;exact (z.wG a b).lH (x:=x) (x':=x.nq a b) e rfl (zai Qt (by omega)) (zai Qu (by omega))
theorem Sz.cl (z:Sz m n):Sz (J3 m) n:=by
 unfold J3;have zb:Sz (Q2 m) n:=⟨z.pl,z.kn,z.gV,z.p0,z.p1,z.outs,z.gP,z.cg⟩
 cases hg:iA m with
 |none=>exact zb
 |some x =>
  obtain⟨fR,e,_⟩:=Ip hg;have hx:x∈m.pl:=by rw[e];simp
  exact zb.lH (x:=x) (x':={ x with en:= "closed" }) e rfl (z.outs x hx) (z.gP x hx)
structure Qy (S:Cs) (y:Ly) (S':Cs) (m':M) (y':Ly):Prop where
 wH:dP S' m' y'
 on:aM (fp y) S S'
 a:y'.a=y.a
 fp:∀j∈fp y',j∈My.fp y\/S.length<=j
theorem aj7 (h:dP S m y)(z:Sz m n)(hn:n+1<=1000)(e:bR)(hr:jh m e=none):∃S' y',vP [.hd y.a,e.t] S = .ok .bB S'/\Qy S y S' (Qx m e) y'/\Sz (Qx m e) (n+1):=by
 have ha:=h.a;unfold mF at ha;have k1:=fN h (zai z.pl (by omega))
 by_cases hi:e.yJ=true
 ·have qw:fH m e=none:=by
   unfold jh at hr;split at hr
   ·cases hr
   ·cases e<;>first|exact hr | (cases hi;done)
  unfold fH at qw;cases hg:iA m with
  |none=>rw[hg] at qw;cases qw
  |some x =>
   obtain⟨fR,x2,ci,c,b1,b2,b3,b4,b5,b6⟩:=fG h.len (by rw[hg];rfl)
   rw[hg] at b6;cases b6;obtain⟨S1,k2,k3,k4⟩:=anY h z (by omega) b1 b2 b3 b4 e hi
   have ed:Qx m e=ow m x e:=by unfold Qx;rw[hg];cases e<;>first|rfl | (cases hi;done)
   rw[ed];exact⟨S1,y,k2,⟨k3,k4,rfl,λj hj=>.inl hj⟩,z.ow b1 e⟩
 ·unfold jh at hr
  split at hr
  ·cases hr
  ·unfold vP
   cases e with
   |dz t f o b =>
    simp only at hr
    unfold mR at hr;split at hr
    ·cases hr
    ·rename_i hgo
     cases hs:Ai m t with
     |none=>rw[hs] at hr;cases hr
     |some s =>
      have k4:=Vd h z (by omega) t f o b s hs
      have hM:=h.ajZ s f o b;have ed:Qx m (.dz t f o b)=Vj m s f o b:=by unfold Qx;simp only;rw[hs];rfl
      rw[ed];refine⟨_,_,?_,⟨hM,aM.trans aM.qW (aM.set (by simp[fp])),rfl,λj hj=>?_⟩,z.beg (YO hs) (by omega) f o b⟩
      ·unfold bR.t at *
       simp?[fx,ha,k4,k1]
      ·have VG:fp {y with cs:=y.cs++[jF S.length]}=fp y++[S.length,S.length+1,S.length+2]:=by
        unfold fp;simp[kY,jF]
       rw[VG] at hj;rcases zbM.mp hj with q|q
       ·exact .inl q
       ·simp at q;exact .inr (by omega)
   |swap a b =>
    obtain⟨S',y',k2,k3,k4,k5,k6⟩:=Vg h z hn a b;refine⟨S',y',?_,⟨k3,k4,k5,k6⟩,z.sw a b⟩
    unfold bR.t;simp?[fx,ha,k1,k2]
   |g8 =>
    have hM:=h.aj5 {m with YJ:=true} rfl rfl rfl
    refine⟨_,y,?_,⟨hM,aM.set (by simp[fp]),rfl,λj hj=>.inl hj⟩,(show Sz {m with YJ:=true} (n+1) from let z':=z.mono (zaW n);⟨z'.pl,z'.kn,z'.gV,z'.p0,z'.p1,z'.outs,z'.gP,z'.cg⟩)⟩
    unfold bR.t mF;simp?[fx,ha,k1]
   |jB =>
    obtain⟨S',k2,k3,k4⟩:=Vh h z (by omega)
    refine⟨S',y,?_,⟨k3,k4,rfl,λj hj=>.inl hj⟩,z.cl.mono (zaW n)⟩
    unfold bR.t;simp?[fx,ha,k1,k2]
   |pN _=>exact absurd rfl hi
   |rC _=>exact absurd rfl hi
   |pO _=>exact absurd rfl hi
   |pP _=>exact absurd rfl hi
   |fM=>exact absurd rfl hi
theorem aM.fresh (a:aM F S S')(b:aM F' S' S'')(h:∀j∈F',j∈F\/S.length<=j):aM F S S'':=⟨zai a.1 b.1,λj h1 h2=>by
 rw[b.2 j (zak h1 a.1) λq=>(h j q).elim h2 λk=>by omega,a.2 j h1 h2]⟩
theorem Ar (h:dP S m y)(z:Sz m n)(hn:n+1<=1000)(e:bR)(hr:jh m e=none):∃S' y',mK [.hd y.a,e.t] S = .ok .bB S'/\Qy S y S' (iO m e) y'/\Sz (iO m e) (n+1):=by
 obtain⟨G,k1⟩:=YU h z (by omega) e
 rw[hr] at k1;have h0:dP (S++G) m y:=h.only (F:=[]) aM.qW (by simp)
 obtain⟨S1,y1,k2,k3,k4⟩:=aj7 h0 z hn e hr;obtain⟨S',k5,k6,k7⟩:=E6 h z e.t k1 h0 k3.a k2 k3.wH k4 hn;have k3f:∀j∈fp y1,j∈fp y\/S.length<=j:=λj hj=>(k3.fp j hj).imp id λq=>by rw[zaj] at q;omega
 exact⟨S',y1,k5,⟨k6,((aM.qW (F:=fp y)).trans k3.on).fresh k7 k3f,k3.a,k3f⟩,k4.eW⟩
theorem Iq (h:dP S m y)(z:Sz m n)(hn:n+1<=1000)(e:bR)(w:Str)(hr:jh m e=some w):∃S0,ank S S0/\mK [.hd y.a,e.t] S = .ex S0.length (S0++[.tL "NotLet" [("rule",.str w),("number",.int 0)]]):=by
 obtain⟨G,k1⟩:=YU h z (by omega) e
 rw[hr] at k1;exact⟨S++G,⟨G,rfl⟩,J0 w (CY hr).2 e.t h.a k1⟩
end
theorem vU {α:Type}{l:List α}{i:Int}(h0:0<=i)(h1:i<l.length):∃x∈l,iE l i=some x:=by
 obtain⟨j,hj⟩:=zbH h0;have GY:j<l.length:=by omega
 exact⟨l[j],zco GY,by rw[hj];exact f_ (zag GY)⟩
theorem g9 {l:List Str}{i:Int}(h0:0<=i)(h1:i<l.length):∃x∈l,iE (l.map Tr.str) i=some (.str x):=by
 obtain⟨t,ht,e⟩:=vU (l:=l.map Tr.str) h0 (by simpa using h1)
 obtain⟨x,hx,rfl⟩:=zbm.mp ht;exact⟨x,hx,e⟩
theorem Ir {l:List Str}{n m:Int}(hm:m=l.length)(h0:0<m):∃x∈l,iE (l.map Tr.str) (n % m)=some (.str x):=g9 (zcT _ (by omega)) (by rw[<-hm];exact zcD _ h0)
noncomputable def YV:List Str:=["bat","bat","bat","bye","leg","wide","no","nobye"]
noncomputable def vV (m:M):Str:=match lG m with|none => "" |some s=>jf m s
noncomputable def fK (m:M)(x:I):Tr:=.tp [.str (jf m x.cg),.int x.CM,.int x.wk,.int x.ov,.int x.ba,.str x.en]
structure YW where
 a:Int
 b:Int
 c:Int
 f:Str
 o:Str
 w:Str
 e:B
 q:Str
noncomputable def YW.t (r:YW):Tr:=.tp [.int r.a,.int r.b,.int r.c,.str r.f,.str r.o,.str r.w,r.e.t,.str r.q]
section
variable {S:Cs}{m:M}{y:Ly}{n:Nat}
theorem yM (h:dP S m y)(z:Sz m n):Cz [.hd y.a] S = .ok (aN m.t0 m.t1 m.p0 m.p1) S:=by
 unfold Cz;have ha:=h.a;unfold mF aN at *
 simp?[fx,ha]
theorem E_ (z:Sz m n):fX m=0\/fX m=1:=by
 unfold fX;cases h:m.pl.getLast? with
 |none=>exact .inl rfl
 |some x=>exact z.cg x (List.mem_of_getLast? h)
theorem aeH (z:Sz m n)(e:lG m=some s):s=0\/s=1:=by
 unfold lG at e
 have:=E_ z
 repeat' split at e
 all_goals first | (cases e;done) | (cases e;omega)
theorem Qz (h:dP S m y)(z:Sz m n)(hn:n<=1000):vO [.hd y.a] S = .ok (.str (vV m)) S:=by
 unfold vO vV;have k1:=Qn h z hn;have ha:=h.a;unfold mF aN at *
 cases hq:lG m with
 |none=>rw[hq] at k1;simp?[fx,ha,k1,lT]
 |some s =>
  rw[hq] at k1;have k2:=@mQ m s (aeH z hq)
  simp?[fx,ha,k1,lT,k2]
theorem aj8 (h:dP S m y){rs:List YW}(hr:m.gV=rs.map YW.t):Ih [.hd y.a] S = .ok (.ls m.gV) S:=by
 unfold Ih;have ha:=h.a;have hl:=h.l;unfold mF at ha;refine fB (S1:=S) (t:=.ls m.gV) ?_ (zaY ..) ?_
 ·simp?[fx,ha,hl]
 ·unfold nX
  have:Tr.aF S.length (.ls m.gV)=true:=by
   rw[abp,zaM,hr];intro t ht;obtain⟨r,_,rfl⟩:=zbm.mp ht;unfold YW.t B.t;simp only[nY,kM,pq,Nv,zaF,zaN,zaU]
  simp only[this];rfl
theorem yN (h:dP S m y)(z:Sz m n)(hn:n<=1000):CA [.hd y.a] S = .ok (.ls (m.pl.map (fK m))) S:=by
 unfold CA;refine fB (S1:=S++[.bA (m.pl.map (fK m))]) (t:=.hd S.length) ?_ (xF _ _) ?_
 ·have ha:=h.a
  have hp:=h.p;have dH:=h.len;have hpl:=z.pl;unfold mF aN at ha;have lp:=aD h.p;have la:=aD h.a;simp?[fx,ha,hp];have hp1:(S++[Ce.bA []])[y.p]? = some (.bA (y.cs.map λc=>.hd c.i)):=by rw[zab lp];exact hp
  have MF:∀q,(S++[Ce.bA q])[y.a]? = some (.eS "Match" (mF m y)):=λq=>by rw[zab la];exact h.a
  unfold mF aN at MF;simp?[fx,MF,hp1];generalize hZ:gS _ _ _ _ _ _=Z
  obtain⟨τ,S',hI,rfl⟩:=iY hZ (λi τ S'=>(∃v,τ=[some (.hd y.a),some (.hd S.length),v])/\S'=S++[.bA ((m.pl.take i).map (fK m))]) (λi τ S' hh=>by
   show cF S' y.p=_
   rw[hh.2];unfold cF;rw[zab lp,hp]) ⟨⟨_,rfl⟩,by simp⟩ (λi t τ S' ht hh=>by
   obtain⟨⟨v,rfl⟩,rfl⟩:=hh
   rw[zau] at ht;cases hc:y.cs[i]? with
   |none=>rw[hc] at ht;cases ht
   |some c =>
    rw[hc] at ht;cases ht;have hi:i<m.pl.length:=by rw[<-dH];exact (zae.mp hc).1
    have hx:=zag hi
    generalize hxx:m.pl[i]=x at hx
    have hI:=(h.rC i x c hx hc).i
    have k2:=@mQ m x.cg (z.cg x (by rw[<-hxx];exact zco hi))
    have hI1:∀q,(S++[Ce.bA q])[c.i]? = some (.eS "Innings" (i6 x c)):=λq=>by rw[zab (aD hI)];exact hI
    have hz:((m.pl.take i).length<sizeLine)=True:=gk (by simp;omega)
    unfold i6 at hI1;refine⟨[some (.hd y.a),some (.hd S.length),some (.hd c.i)],_,.inl ?_,⟨_,rfl⟩,rfl⟩
    have et:(m.pl.take (i+1)).map (fK m)=(m.pl.take i).map (fK m)++[fK m x]:=by rw[List.take_succ,hx];simp
    rw[et];unfold fK;simp?[fx,MF,hI1,k2,Dm,YR,hz])
  obtain⟨⟨v,rfl⟩,rfl⟩:=hI
  have el:(y.cs.map λc:L3=>Tr.hd c.i).length=m.pl.length:=by simpa using dH
  rw[el,zaY];simp only[↓bp,bx,simprocAttr]
 ·unfold nX
  have hq:cF (S++[.bA (m.pl.map (fK m))]) S.length=some (m.pl.map (fK m)):=by unfold cF;rw[Dm]
  have:((m.pl.map (fK m)).all (Tr.aF S.length))=true:=by
   rw[zaM];intro t ht;obtain⟨r,_,rfl⟩:=zbm.mp ht;unfold fK;simp only[nY,kM,pq,zaF,zaN,zaU]
  simp only[hq,zaO,if_false,fV,this,if_true]
end
structure Dr (m:M) (d n:Nat):Prop where
 z:Sz m n
 hn:n<=1000
 p0:m.p0.length=d
 p1:m.p1.length=d
 d2:2<=d
 sA:d<=11
 rs:∃rs:List YW,m.gV=rs.map YW.t
theorem YX:jf m s=m.t0\/jf m s=m.t1:=by unfold jf;split<;>simp
theorem Vk (D:Dr m d n)(s:Int):(iJ m s).length=d:=by
 unfold iJ;split
 ·exact D.p0
 ·exact D.p1
theorem Vl (m:M):(pS m).gV=m.gV:=by unfold pS;split<;>rfl
theorem aeI (m:M):(pS m).p0=m.p0:=by unfold pS;split<;>rfl
theorem aeJ (m:M):(pS m).p1=m.p1:=by unfold pS;split<;>rfl
theorem aj9 (m:M)(a b:Str):(J2 m a b).p0=m.p0.map (nq a b)/\(J2 m a b).p1=m.p1.map (nq a b)/\(J2 m a b).gV=m.gV:=by unfold J2;split<;>exact⟨rfl,rfl,rfl⟩
theorem aka (m:M):(J3 m).p0=m.p0/\(J3 m).p1=m.p1/\(J3 m).gV=m.gV:=by unfold J3;split<;>exact⟨rfl,rfl,rfl⟩
theorem aeK (m:M)(x:I)(e:bR):(ow m x e).p0=m.p0/\(ow m x e).p1=m.p1/\((ow m x e).gV=m.gV\/∃b,(ow m x e).gV=m.gV++[jg m x b]):=by
 unfold ow;split
 ·exact⟨rfl,rfl,.inr ⟨_,rfl⟩⟩
 all_goals exact⟨rfl,rfl,.inl rfl⟩
theorem akb (m:M)(e:bR):(Qx m e).p0.length=m.p0.length/\(Qx m e).p1.length=m.p1.length/\((Qx m e).gV=m.gV\/∃x b,(Qx m e).gV=m.gV++[jg m x b]):=by
 have q_:∀e,(match iA m with|some x=>ow m x e|none=>m).p0.length=m.p0.length/\(match iA m with|some x=>ow m x e|none=>m).p1.length=m.p1.length/\((match iA m with|some x=>ow m x e|none=>m).gV=m.gV\/∃x b,(match iA m with|some x=>ow m x e|none=>m).gV=m.gV++[jg m x b]):=λe=>by
  cases iA m with
  |none=>exact⟨rfl,rfl,.inl rfl⟩
  |some x =>
   obtain⟨h1,h2,h3⟩:=aeK m x e;exact⟨by simp only[h1],by simp only[h2],h3.imp id λ⟨b,q⟩=>⟨x,b,q⟩⟩
 cases e with
 |dz t f o b=>exact⟨rfl,rfl,.inl rfl⟩
 |swap a b =>
  obtain⟨h1,h2,h3⟩:=aj9 m a b;show (J2 m a b).p0.length=_/\(J2 m a b).p1.length=_/\((J2 m a b).gV=_\/∃x c,(J2 m a b).gV=m.gV++[jg m x c])
  rw[h1,h2,h3];exact⟨by simp,by simp,.inl rfl⟩
 |g8=>exact⟨rfl,rfl,.inl rfl⟩
 |jB =>
  obtain⟨h1,h2,h3⟩:=aka m;show (J3 m).p0.length=_/\(J3 m).p1.length=_/\((J3 m).gV=_\/∃x c,(J3 m).gV=m.gV++[jg m x c])
  rw[h1,h2,h3];exact⟨rfl,rfl,.inl rfl⟩
 |pN b=>exact q_ _
 |rC b=>exact q_ _
 |pO b=>exact q_ _
 |pP b=>exact q_ _
 |fM=>exact q_ _
theorem Dr.aeL (D:Dr m d n)(e:bR)(z:Sz (iO m e) (n+1))(hn:n+1<=1000):Dr (iO m e) d (n+1):=by
 obtain⟨h1,h2,h3⟩:=akb m e;refine⟨z,hn,?_,?_,D.d2,D.sA,?_⟩
 ·unfold iO;rw[aeI,h1,D.p0]
 ·unfold iO;rw[aeJ,h2,D.p1]
 ·unfold iO
  rw[Vl];obtain⟨rs,er⟩:=D.rs;rcases h3 with q|⟨x,b,q⟩
  ·exact⟨rs,by rw[q,er]⟩
  ·refine⟨rs++[⟨(m.pl.length:Int) - 1,x.ov,x.ba,x.nB,x.vR,x.v_,b,x.DY b⟩],?_⟩
   rw[q,er,zaE];rfl
theorem Dr.mono (D:Dr m d n)(h:n<=n')(hn:n'<=1000):Dr m d n':=⟨D.z.mono h,hn,D.p0,D.p1,D.d2,D.sA,D.rs⟩
theorem yO:∀{l:List Tr},(∀t∈l,t.dp<=n)->Tr.qX l<=n
 |[],_=>by unfold Tr.qX;exact zcG _
 |t::l,h=>by
  unfold Tr.qX;exact Nat.max_le.mpr ⟨h t (by simp),yO λu hu=>h u (by simp[hu])⟩
theorem QA:∀{l:List Tr} {t:Tr},t∈l->t.dp<=Tr.qX l
 |u::l,t,h=>by
  unfold Tr.qX;rcases zam.mp h with rfl|h
  ·exact Nat.le_max_left ..
  ·exact zai (QA h) (Nat.le_max_right ..)
theorem YY (S:Cs):∀(n:Nat) (t:Tr),t.lP=true->t.dp<=n->vw n S t=t
 |0,t,_,_=>by cases t<;>rfl
 |n+1,t,h,hd=>by
  have key:∀l:List Tr,Tr.kK l=true->Tr.qX l<=n->l.map (vw n S)=l:=λl h1 h2=>by
   rw[fW,zaM] at h1;have:l.map (vw n S)=l.map _root_.id:=zcs λt ht=>YY S n t (h1 t ht) (zai (QA ht) h2)
   rw[this,List.map_id]
  cases t with
  |tp l =>
   unfold Tr.lP at h;unfold Tr.dp at hd;show Tr.tp (l.map (vw n S))=_
   rw[key l h (by omega)]
  |ls l =>
   unfold Tr.lP at h;unfold Tr.dp at hd;show Tr.ls (l.map (vw n S))=_
   rw[key l h (by omega)]
  |hd i=>unfold Tr.lP at h;cases h
  |kl l=>unfold Tr.lP at h;cases h
  |kt l=>unfold Tr.lP at h;cases h
  |_=>rfl
noncomputable def Iu (S:Cs)(t:Tr)(l:List Tr):Prop:=t = .ls l\/∃k,t = .hd k/\S[k]? = some (.bA l)
theorem Iu.vw (h:Iu S t l)(hn:Tr.kK l=true)(hd:Tr.qX l<=5):vw 6 S t = .ls l:=by
 have key:l.map (L2.vw 5 S)=l:=by
  rw[fW,zaM] at hn;have:l.map (L2.vw 5 S)=l.map _root_.id:=zcs λt ht=>YY S 5 t (hn t ht) (zai (QA ht) hd)
  rw[this,List.map_id]
 rcases h with rfl|⟨k,rfl,hk⟩
 ·show Tr.ls (l.map (L2.vw 5 S))=_
  rw[key]
 ·show (match cF S k with|some l=>Tr.ls (l.map (L2.vw 5 S))|none=>.hd k)=_
  have:cF S k=some l:=by unfold cF;rw[hk]
  rw[this];simp only[key]
theorem CZ (h1:Iu S t1 l)(h2:Iu S t2 l)(hn:Tr.kK l=true)(hd:Tr.qX l<=5):c7 neg t1 t2 S = .ok (.bl (!neg)) S:=by
 have e1:=h1.vw hn hd;have e2:=h2.vw hn hd;have e0:M9 t1 t2=none:=by
  rcases h1 with rfl|⟨k,rfl,_⟩<;>rcases h2 with rfl|⟨k,rfl,_⟩<;>rfl
 unfold c7;rw[e0];simp only
 rw[e1,e2,if_pos];refine⟨rfl,by unfold Tr.lP;exact hn,by unfold Tr.dp;omega,by unfold Tr.dp;omega⟩
noncomputable def wI (m:M):Tr:=if lF m=false then .bB else if m.clo=true then .tp [.str "closed"] else if lD m 0=0 then .tp [.str "tie"] else .tp [.str "won",.str (jf m (if 0<lD m 0 then 0 else 1))]
theorem YZ (h:dP S m y)(z:Sz m n)(hn:n<=1000):Cw [.hd y.a] S = .ok (wI m) S:=by
 unfold Cw wI;have k1:=Ak h z hn;have k2:=Aj h 0 (zai z.pl hn)
 have ha:=h.a;unfold mF aN at ha;cases hd:lF m with
 |false =>
  rw[hd] at k1;rw[if_pos rfl];refine fB (S1:=S) (t:=.bB) ?_ (zaY ..) (by unfold nX;simp only[GW];rfl)
  simp?[fx,ha,k1]
 |true =>
  rw[hd] at k1;rw[if_neg (by simp)]
  cases hc:m.clo with
  |true =>
   rw[hc] at ha;rw[if_pos rfl];refine fB (S1:=S) (t:=.tp [.str "closed"]) ?_ (zaY ..) (by unfold nX;simp only[fV,nY,kM,zaF,zaN,zaU];rfl)
   simp?[fx,ha,k1]
  |false =>
   rw[hc] at ha;rw[if_neg (by simp)]
   by_cases h0:lD m 0=0
   ·rw[if_pos h0]
    rw[h0] at k2;refine fB (S1:=S) (t:=.tp [.str "tie"]) ?_ (zaY ..) (by unfold nX;simp only[fV,nY,kM,zaF,zaN,zaU];rfl)
    simp?[fx,ha,k1,k2]
   ·rw[if_neg h0]
    refine fB (S1:=S) (t:=.tp [.str "won",.str (jf m (if 0<lD m 0 then 0 else 1))]) ?_ (zaY ..) (by unfold nX;simp only[fV,nY,kM,zaF,zaN,zaU];rfl)
    by_cases hp:0<lD m 0<;>simp?[fx,ha,k1,k2,h0,hp,D9,jf]
noncomputable def J6 (m:M):Tr:=.ls [jH m,.ls (m.pl.map (fK m)),.str (vV m),aN m.t0 m.t1 m.p0 m.p1,wI m,.ls m.gV]
theorem Y0 (h:dP S m y)(D:Dr m d n):CJ [.hd y.a] S = .ok (J6 m) S:=by
 obtain⟨rs,hr⟩:=D.rs;have k1:=Io h D.z D.hn;have k2:=yN h D.z D.hn;have k3:=Qz h D.z D.hn;have k4:=yM h D.z;have k5:=YZ h D.z D.hn;have k6:=aj8 h hr;have ha:=h.a;unfold mF at ha;unfold CJ J6;simp?[fx,ha,k1,k2,k3,k4,k5,k6]
theorem C0 (l:List Str):Tr.kK (l.map .str)=true:=by
 rw[fW,zcU,zaM];intro _ _;rfl
theorem Iv (l:List Str):Tr.qX (l.map .str)<=1:=yO λt ht=>by
 obtain⟨r,_,rfl⟩:=zbm.mp ht;simp[Tr.dp]
theorem Vm (D:Dr m d n):∃l,J6 m = .ls l/\Tr.kK l=true/\Tr.qX l<=5:=by
 obtain⟨rs,hr⟩:=D.rs;have n1:(jH m).lP=true/\(jH m).dp<=4:=by
  unfold jH;split<;>exact⟨by rfl,by simp[Tr.dp,Tr.qX]⟩
 have n2:Tr.kK (m.pl.map (fK m))=true/\Tr.qX (m.pl.map (fK m))<=3:=by
  refine⟨?_,yO λt ht=>?_⟩
  ·rw[fW,zcU,zaM]
   intro _ _;rfl
  ·obtain⟨r,_,rfl⟩:=zbm.mp ht
   simp[fK,Tr.dp,Tr.qX]
 have n3:Tr.kK m.gV=true/\Tr.qX m.gV<=4:=by
  rw[hr];refine⟨?_,yO λt ht=>?_⟩
  ·rw[fW,zcU,zaM]
   intro _ _;rfl
  ·obtain⟨r,_,rfl⟩:=zbm.mp ht
   simp[YW.t,B.t,Tr.dp,Tr.qX]
 have n4:(wI m).lP=true/\(wI m).dp<=4:=by
  unfold wI;repeat' split
  all_goals exact⟨by rfl,by simp[Tr.dp,Tr.qX]⟩
 have n5:=C0 m.p0;have n6:=C0 m.p1;have d5:=Iv m.p0;have d6:=Iv m.p1;refine⟨_,rfl,?_,?_⟩
 ·simp only[fW,zaF,zaN,zek,zbw]
  refine⟨n1.1,?_,rfl,?_,n4.1,?_⟩
  ·unfold Tr.lP;exact n2.1
  ·unfold aN Tr.lP
   simp only[fW,zaF,zaN,zek,zbw];refine⟨?_,?_⟩<;>unfold Tr.lP<;>simp only[fW,zaF,zaN,zek,zbw]<;>refine⟨rfl,?_⟩<;>unfold Tr.lP
   ·exact n5
   ·exact n6
  ·unfold Tr.lP;exact n3.1
 ·refine yO λt ht=>?_
  simp only[zam,zax,or_false] at ht;rcases ht with rfl|rfl|rfl|rfl|rfl|rfl
  ·omega
  ·unfold Tr.dp;omega
  ·unfold Tr.dp;omega
  ·unfold aN
   simp only[Tr.dp,Tr.qX];omega
  ·omega
  ·unfold Tr.dp;omega
theorem aeM (D:Dr m d n)(neg:Bool)(S:Cs):c7 neg (J6 m) (J6 m) S = .ok (.bl (!neg)) S:=by
 obtain⟨l,e,h1,h2⟩:=Vm D;rw[e];exact CZ (.inl rfl) (.inl rfl) h1 h2
noncomputable def dig (c:Int):Nat->Int
 |0=>c
 |n+1=>dig c n / 60
theorem Vn (c:Int)(a0:0<=a)(a1:a<1000)(h0:0<dc)(h1:dc<1000000)(S:Cs):Hy [.int c,.int a,.int dc] S = .ok (.int (dig c a.toNat % dc)) S:=by
 obtain⟨n,rfl⟩:=zbH a0;have c1:(0<dc)=True:=eq_true h0
 have c2:(dc<1073741824)=True:=eq_true (by omega)
 have hr:(-4611686018427387904<=(n:Int)/\(n:Int)<4611686018427387904)=True:=eq_true (by omega)
 unfold Hy;rw[zbq];simp?[hr,zbq];generalize hZ:gS _ _ _ _ _ _=Z
 obtain⟨τ,S',⟨⟨v,rfl⟩,rfl⟩,rfl⟩:=iY hZ (λi τ S'=>(∃v,τ=[some (.int (dig c i)),some (.int (n:Int)),some (.int dc),v])/\S'=S) (λ_ _ _ _=>trivial) ⟨⟨_,rfl⟩,rfl⟩ (by
  rintro i t τ S' ht ⟨⟨v,rfl⟩,rfl⟩
  obtain⟨ly,rfl⟩:=pA ht;refine⟨[some (.int (dig c i / 60)),some (.int (n:Int)),some (.int dc),some (.int (0+(i:Int)))],S',.inl ?_,⟨_,rfl⟩,rfl⟩
  simp only[↓bp,bx,simprocAttr])
 rw[mG];simp?[c1,c2]
noncomputable def dv (cs:List Int)(k dc:Int):Int:=
 let c:=(iE cs (k % (cs.length:Int))).getD 0
 if cs.length % 2=1 then dig c (k / (cs.length:Int) % 20).toNat % dc else (c % 2147483647+7 * k+3) * (48271+1103 * k * k) % 2147483629 / 64 % dc
theorem C1 (cs:List Int)(k:Int)(h0:0<dc):0<=dv cs k dc/\dv cs k dc<dc:=by
 unfold dv;dsimp only;split<;>exact⟨zcT _ (by omega),zcD _ h0⟩
theorem C2:iE (cs.map Tr.int) i=(iE cs i).map Tr.int:=by
 unfold iE;rw[zaf];cases Av cs.length i with
 |none=>rfl
 |some j=>simp
theorem qL (cs:List Int)(hl:cs.length<=100)(k0:0<=k)(k1:k<10000)(h0:0<dc)(h1:dc<1000000)(S:Cs):cK [.ls (cs.map .int),.int k,.int dc] S = .ok (.int (dv cs k dc)) S:=by
 have c1:(0<dc)=True:=eq_true h0
 have c2:(dc<1073741824)=True:=eq_true (by omega)
 have z1:(cs.length<=sizeLine)=True:=bF (by omega)
 unfold cK dv;dsimp only;cases cs with
 |nil =>
  have e0:iE ([]:List Int) (k % ((0:Nat):Int))=none:=by
   unfold iE Av;repeat' split
   all_goals simp
  rw[if_neg (by decide)]
  simp only[zaP] at e0 ⊢
  rw[e0];simp?[c1,c2,D9,zcm,wB];rw[oS (by omega),oS (by omega)]
 |cons x r =>
  have hp:(0<((r.length+1:Nat):Int))=True:=eq_true (by omega)
  have hl':r.length+1<=100:=by simpa using hl
  have hq:(((r.length+1:Nat):Int)<1073741824)=True:=eq_true (by omega)
  obtain⟨c,_,ec⟩:=zD (l:=x::r) (n:=k) (m:=((r.length+1:Nat):Int)) (by simp) (by omega)
  have et:iE ((x::r).map Tr.int) (k % ((r.length+1:Nat):Int))=some (.int c):=by rw[C2,ec];rfl
  have ed:=λS=>Vn c (a:=k / ((r.length+1:Nat):Int) % 20) (zcT _ (by decide)) (Int.lt_trans (zcD _ (by decide)) (by decide)) h0 h1 S
  simp only[zar] at *
  rw[ec,zcJ];generalize hX:(x::r).map Tr.int=X at *
  have lX:X.length=r.length+1:=by rw[<-hX];simp
  by_cases q:(r.length+1) % 2=1
  ·have q':((r.length+1:Nat):Int) % 2=1:=by omega
   rw[if_pos q];simp?[c1,c2,z1,D9,lX,hp,hq,et,q',ed]
  ·have q':¬ ((r.length+1:Nat):Int) % 2=1:=by omega
   rw[if_neg q];simp?[c1,c2,z1,D9,lX,hp,hq,et,q'];rw[oS (by omega),oS (by omega)]
theorem vW {l:List Int}{i:Int}(h0:0<=i)(h1:i<l.length):∃x∈l,iE (l.map Tr.int) i=some (.int x):=by
 obtain⟨t,ht,e⟩:=vU (l:=l.map Tr.int) h0 (by simpa using h1)
 obtain⟨x,hx,rfl⟩:=zbm.mp ht;exact⟨x,hx,e⟩
theorem QB (cs:List Int)(hl:cs.length<=100)(S:Cs):∃u:U,Hz [.ls (cs.map .int)] S = .ok u.t S/\2<=u.d/\u.d<=11:=by
 have D:=λ(k dc:Int) (k0:0<=k) (k1:k<10000) (h0:0<dc) (h1:dc<1000000)=>And.intro (C1 cs k h0) (qL cs hl k0 k1 h0 h1 S)
 obtain⟨⟨a1,b1⟩,e1⟩:=D 900 3 (by decide) (by decide) (by decide) (by decide)
 obtain⟨⟨a2,b2⟩,e2⟩:=D 901 5 (by decide) (by decide) (by decide) (by decide)
 obtain⟨⟨a3,b3⟩,e3⟩:=D 902 4 (by decide) (by decide) (by decide) (by decide)
 obtain⟨⟨a4,b4⟩,e4⟩:=D 903 4 (by decide) (by decide) (by decide) (by decide)
 obtain⟨⟨a5,b5⟩,e5⟩:=D 904 3 (by decide) (by decide) (by decide) (by decide)
 obtain⟨⟨a6,b6⟩,e6⟩:=D 905 3 (by decide) (by decide) (by decide) (by decide)
 obtain⟨⟨a7,b7⟩,e7⟩:=D 906 8 (by decide) (by decide) (by decide) (by decide)
 obtain⟨⟨a8,b8⟩,e8⟩:=D 907 2 (by decide) (by decide) (by decide) (by decide)
 obtain⟨x2,_,f2⟩:=vW (l:=[0,1,2,3,4]) a2 b2
 obtain⟨x3,_,f3⟩:=vW (l:=[0,0,1,2]) a3 b3
 obtain⟨x4,_,f4⟩:=vW (l:=[0,1,3,8]) a4 b4
 obtain⟨x7,hx,f7⟩:=vW (l:=[2,3,4,2,3,4,9,11]) a7 b7
 have h7:2<=x7/\x7<=11:=by
  simp only[zam,zax,or_false] at hx;omega
 simp only[qD,wB] at f2 f3 f4 f7;refine⟨⟨1+dv cs 900 3,x2,x3,dv cs 904 3,dv cs 905 3,x7,1+dv cs 907 2,x4⟩,?_,h7⟩
 unfold Hz U.t;generalize cs.map Tr.int=X at *
 simp?[e1,e2,e3,e4,e5,e6,e7,e8,f2,f3,f4,f7]
noncomputable def QC:Str:= "bcdfghjkmnpqvwxz"
theorem Vo (i:Int):∃c,iE QC.cps.toList (i % 16)=some c:=by
 obtain⟨c,_,e⟩:=zD (l:=QC.cps.toList) (n:=i) (m:=16) (by decide +kernel) (by decide)
 exact⟨c,e⟩
theorem aeN {v:Int}(h0:0<=v)(h1:v<2):(tw (Str.ofString "zq") v.toNat).length<=9/\(Str.ofString "zq").length * v.toNat<=1000000:=by
 have h:∀n:Fin 5,(tw (Str.ofString "zq") n).length<=9:=by decide +kernel
 have e:(Str.ofString "zq").length=2:=by decide +kernel
 exact⟨h ⟨v.toNat,by omega⟩,by rw[e];omega⟩
theorem aeO (h0:0<=v)(h1:v<4):(Txt.slice (Str.ofString "vzb") none (some v)).length<=9:=by
 have h:∀n:Fin 5,(Txt.slice (Str.ofString "vzb") none (some ((n:Nat):Int))).length<=9:=by decide +kernel
 have:=h ⟨v.toNat,by omega⟩
 simpa[Int.toNat_of_nonneg h0] using this
theorem QD (cs:List Int)(hl:cs.length<=100)(sd:Nat)(h2:2<=sd)(h11:sd<=11)(S:Cs):∃(t0 t1:Str) (p0 p1:List Str),HA [.ls (cs.map .int),.int sd] S = .ok (aN t0 t1 p0 p1) S/\p0.length=sd/\p1.length=sd:=by
 have D:=λ(k dc:Int) (k0:0<=k) (k1:k<10000) (h0:0<dc) (h1:dc<1000000)=>And.intro (C1 cs k h0) (qL cs hl k0 k1 h0 h1 S)
 obtain⟨⟨a1,b1⟩,e1⟩:=D 908 2 (by decide) (by decide) (by decide) (by decide)
 obtain⟨⟨a2,b2⟩,e2⟩:=D 909 4 (by decide) (by decide) (by decide) (by decide)
 obtain⟨⟨a3,b3⟩,e3⟩:=D 910 16 (by decide) (by decide) (by decide) (by decide)
 obtain⟨r1,r2⟩:=aeN a1 b1;have r3:=aeO a2 b2;have c1:(0<=dv cs 908 2)=True:=eq_true a1
 have c2:(dv cs 908 2<1000000)=True:=eq_true (by omega)
 have c3:((Str.ofString "zq").length * (dv cs 908 2).toNat<=1000000)=True:=eq_true r2
 have c4:((Str.ofString "vzb").length<=sizeLine)=True:=bF (by decide +kernel)
 generalize hA:tw (Str.ofString "zq") (dv cs 908 2).toNat=A at *
 generalize hB:Txt.slice (Str.ofString "vzb") none (some (dv cs 909 4))=B at *
 generalize dv cs 910 16=f at *
 have hL:(QC.length<=sizeLine)=True:=bF (by decide +kernel)
 have hat:=Vo;unfold HA;rw[show Str.ofString "bcdfghjkmnpqvwxz"=QC from rfl];generalize QC=L at *
 generalize cs.map Tr.int=X at *
 have r16:(-4611686018427387904<=(16:Int)/\(16:Int)<4611686018427387904)=True:=eq_true (by decide)
 simp?[e1,e2,e3,c1,c2,c3,c4,hA,hB,GI];generalize hZ:cX _ _ _ _ _ _ _ _=Z
 obtain⟨eX,an6,S2,⟨_,⟨nm,rfl,ln⟩,rfl⟩,rfl⟩:=xN hZ (λi τ cD S'=>(∃v,τ=[some (.str B),some (.str A),some (.str L),some (.int f),v])/\(∃p:List Str,cD=p.map .str/\p.length=i/\∀x∈p,x.length<=100)/\S=S') (λ_ _ _ _ _=>trivial) ⟨⟨_,rfl⟩,⟨[],rfl,rfl,by simp⟩,rfl⟩ (by rw[mG];decide) (by
  rintro i t τ cD S' ht ⟨⟨v,rfl⟩,⟨p,rfl,lp,hp⟩,rfl⟩
  obtain⟨ly,rfl⟩:=pA ht;obtain⟨c,ec⟩:=hat (f+(i:Int))
  have c5:(A.length+1<=sizeLine)=True:=bF (by omega)
  have c6:(A.length+1+B.length<=sizeLine)=True:=bF (by omega)
  refine⟨[some (.str B),some (.str A),some (.str L),some (.int f),some (.int (0+(i:Int)))],.str (A++⟨#[c]⟩++B),S,rfl,?_,⟨_,rfl⟩,⟨p++[A++⟨#[c]⟩++B],by simp,by simp[lp],λx hx=>?_⟩,rfl⟩
  ·simp?[ec,hL,c5,c6,Ag,Ah]
  ·rcases zbM.mp hx with q|q
   ·exact hp x q
   ·rw[zav.mp q,Ah,Ah,Ag];omega)
 rw[mG] at ln;obtain⟨ln,hnm⟩:=ln;obtain⟨t0,_,f0⟩:=g9 (l:=nm) (i:=12) (by decide) (by rw[ln];decide)
 obtain⟨t1,_,f1⟩:=g9 (l:=nm) (i:=13) (by decide) (by rw[ln];decide)
 have k1:tV (nm.map Tr.str) none (some (sd:Int))=(nm.take sd).map Tr.str:=by rw[ade,List.map_take]
 have k2:tV (nm.map Tr.str) (some 6) (some (6+(sd:Int)))=((nm.take (6+sd)).drop 6).map Tr.str:=by
  have:=UR (nm.map Tr.str) 6 (6+sd) (by omega)
  rw[show ((6:Nat):Int)=6 from rfl,show ((6+sd:Nat):Int)=6+(sd:Int) by omega] at this
  rw[this,List.map_drop,List.map_take]
 have l0:(nm.take sd).length=sd:=by rw[zbj,ln];omega
 have ht:∀x∈nm.take sd,x.length<=100:=λx hx=>hnm x (List.mem_of_mem_take hx)
 by_cases q:4<sd
 ·have q':(4<(sd:Int))=True:=eq_true (by omega)
  have hx1:(Str.ofString "x").length=1:=by decide +kernel
  simp?[D9,q',k1,k2,GI];generalize hZ:cX _ _ _ _ _ _ _ _=Z
  obtain⟨eX,an6,S2,⟨_,⟨p1,rfl,lp1⟩,rfl⟩,rfl⟩:=xN hZ (λi τ cD S'=>(∃v,τ=[v])/\(∃p:List Str,cD=p.map .str/\p.length=i)/\S=S') (λ_ _ _ _ _=>trivial) ⟨⟨_,rfl⟩,⟨[],rfl,rfl⟩,rfl⟩ (by simp[l0];omega) (by
   rintro i t τ cD S' ht' ⟨⟨v,rfl⟩,⟨p,rfl,lp⟩,rfl⟩
   rw[zau] at ht';cases hc:(nm.take sd)[i]? with
   |none=>rw[hc] at ht';cases ht'
   |some x =>
    rw[hc] at ht';cases ht'
    have:=ht x (zaA hc)
    have c5:(x.length+1<=sizeLine)=True:=bF (by omega)
    refine⟨[some (.str x)],.str (x++Str.ofString "x"),S,rfl,?_,⟨_,rfl⟩,⟨p++[x++Str.ofString "x"],by simp,by simp[lp]⟩,rfl⟩
    simp?[c5,hx1])
  rw[zaf,l0] at lp1;refine⟨t0,t1,nm.take sd,p1,?_,l0,lp1⟩
  unfold aN;simp?[k1,f0,f1,GI]
 ·have q':¬ (4<(sd:Int)):=by omega
  refine⟨t0,t1,nm.take sd,(nm.take (6+sd)).drop 6,?_,l0,?_⟩
  ·unfold aN
   simp?[D9,q',k1,k2,f0,f1,GI]
  ·rw[zdF,zbj,ln]
   omega
theorem Vp:(Tr.ls []).lP=true:=by
 unfold Tr.lP Tr.kK;rfl
theorem QE:(Tr.ls []).dp<=50/\(Tr.ls []).dp≠0:=by
 unfold Tr.dp Tr.qX;decide
theorem aeP (h:vw 6 S t = .ls [])(hs:M9 t (.ls [])=none):c7 neg t (.ls []) S = .ok (.bl (!neg)) S:=by
 have e:vw 6 S (.ls []) = .ls []:=rfl
 have hc:vw 6 S t=vw 6 S (.ls [])/\(vw 6 S t).lP=true/\(vw 6 S t).dp<=50/\(vw 6 S t).dp≠0:=by
  rw[h,e];exact⟨rfl,Vp,QE.1,QE.2⟩
 unfold c7;rw[hs];exact if_pos hc
theorem Iw:Bv true (.ls l) (.ls []) S = .ok (.bl (!l.isEmpty)) S:=by
 unfold Bv;show (if l.length=0 then _ else _)=_
 cases l with
 |nil =>
  rw[if_pos (show ([]:List Tr).length=0 from rfl),aeP rfl rfl]
  rfl
 |cons x r =>
  rw[if_neg (by simp)]
  rfl
theorem aeQ (h:l≠[]):Bv true (.ls (l.map .str)) (.ls []) S = .ok (.bl true) S:=by
 cases l with
 |nil=>exact absurd rfl h
 |cons x r=>exact Iw
theorem Iz (cs:List Int)(hl:cs.length<=100)(k0:0<=k)(k1:k<9000)(f o:Str)(s1:iE st 1=some (.str f))(s2:iE st 2=some (.str o))(S:Cs):∃b:B,CD [.ls (cs.map .int),.int k,.tp st] S = .ok b.t S:=by
 have D:=λ(j dc:Int) (k0:0<=j) (k1:j<10000) (h0:0<dc) (h1:dc<1000000)=>And.intro (C1 cs j h0) (qL cs hl k0 k1 h0 h1 S)
 obtain⟨⟨a1,b1⟩,e1⟩:=D k 8 (by omega) (by omega) (by decide) (by decide)
 obtain⟨⟨a2,b2⟩,e2⟩:=D (k+1) 8 (by omega) (by omega) (by decide) (by decide)
 obtain⟨⟨a3,b3⟩,e3⟩:=D (k+2) 9 (by omega) (by omega) (by decide) (by decide)
 obtain⟨⟨a4,b4⟩,e4⟩:=D (k+3) 2 (by omega) (by omega) (by decide) (by decide)
 obtain⟨⟨a5,b5⟩,e5⟩:=D (k+4) 2 (by omega) (by omega) (by decide) (by decide)
 obtain⟨⟨a6,b6⟩,e6⟩:=D (k+3) 5 (by omega) (by omega) (by decide) (by decide)
 obtain⟨⟨a7,b7⟩,e7⟩:=D (k+3) 4 (by omega) (by omega) (by decide) (by decide)
 obtain⟨kd,_,f1⟩:=g9 (l:=YV) a1 b1
 obtain⟨r,_,f2⟩:=vW (l:=[0,0,1,1,2,3,4,6]) a2 b2
 obtain⟨w,_,f4⟩:=g9 (l:=[f,o]) a4 b4
 obtain⟨en,_,f5⟩:=g9 (l:=["strike","other"]) a5 b5
 obtain⟨wy,_,f6⟩:=g9 (l:=["bowled","caught","before","stumped","hit"]) a6 b6
 simp only[YV,qD,wB] at f1 f2 f4 f5 f6;generalize cs.map Tr.int=X at *
 generalize dv cs k 8=v1 at *
 generalize dv cs (k+1) 8=v2 at *
 generalize dv cs (k+2) 9=v3 at *
 generalize dv cs (k+3) 2=v4 at *
 generalize dv cs (k+4) 2=v5 at *
 generalize dv cs (k+3) 5=v6 at *
 generalize dv cs (k+3) 4=v7 at *
 unfold CD;simp?[e1,e2,e3,f1,f2];by_cases q0:v3=0
 ·refine⟨⟨kd,r,false,"run",w,en⟩,?_⟩
  unfold B.t;simp?[q0,e4,e5,f4,f5,s1,s2]
 ·by_cases q1:v3<3
  ·refine⟨⟨"bat",0,false,wy,"",""⟩,?_⟩
   unfold B.t;simp?[q0,q1,e6,f6,zu]
  ·refine⟨⟨kd,r,decide (v7=0),"","",""⟩,?_⟩
   unfold B.t;simp?[q0,q1,e7,zu]
noncomputable def lt8:Str:= "abcdefgh"
theorem aeR (h0:0<=i)(h1:i<8):∃c,iE lt8.cps.toList i=some c:=by
 obtain⟨c,_,e⟩:=vU (l:=lt8.cps.toList) (i:=i) h0 (by rw[show (lt8.cps.toList.length:Int)=8 by decide +kernel];exact h1)
 exact⟨c,e⟩
theorem ake (h:t=a\/t=b):∃j:Nat,((j:Int)=0\/(j:Int)=1)/\zy (.str t) [.str a,.str b]=some j:=by
 by_cases h1:a=t
 ·refine⟨0,.inl rfl,?_⟩
  unfold zy;rw[if_pos (by simp[QZ,h1])]
 ·refine⟨1,.inr rfl,?_⟩
  have h2:b=t:=(h.resolve_left λq=>h1 q.symm).symm
  unfold zy;rw[if_neg (by simp[QZ,h1])]
  unfold zy;rw[if_pos (by simp[QZ,h2])]
  rfl
theorem IA (a b c d e f g h:Tr):tV [a,b,c,d,e,f,g,h] (some 1) (some 3)=[b,c]:=rfl
theorem sx8:HT.gA 8 0 (some 1)=1:=rfl
section
variable {S:Cs}{m:M}{y:Ly}{n dd:Nat}
theorem QF (cs:List Int)(hl:cs.length<=100)(h:dP S m y)(D:Dr m dd n)(k0:0<=k)(k1:k<8000)(tt:Tr):∃e:bR,CF [.ls (cs.map .int),.int k,tt,.hd y.a] S = .ok e.t S:=by
 have W:=λ(j dc:Int) (k0:0<=j) (k1:j<10000) (h0:0<dc) (h1:dc<1000000)=>And.intro (C1 cs j h0) (qL cs hl k0 k1 h0 h1 S)
 have pV:=Io h D.z D.hn;have hpl:=yM h D.z;have ht:=Qz h D.z D.hn;have q_:=yN h D.z D.hn;have ha:=h.a;have d2:=D.d2;have sA:=D.sA;unfold mF at ha;obtain⟨PL,hPL⟩:∃PL,PL=[Tr.tp [.str m.t0,.ls (m.p0.map .str)],Tr.tp [.str m.t1,.ls (m.p1.map .str)]]:=⟨_,rfl⟩
 have i1:iE PL 1=some (.tp [.str m.t1,.ls (m.p1.map .str)]):=by rw[hPL];rfl
 have i0:iE PL 0=some (.tp [.str m.t0,.ls (m.p0.map .str)]):=by rw[hPL];rfl
 have s3:=λ(v:Int) (hv:v=0\/v=1)=>@mQ m v hv
 have p3:=λ(v:Int)=>Vk D v
 unfold aN at hpl;rw[<-hPL] at hpl;simp only[<-hPL] at s3;cases hg:iA m with
 |none =>
  have hs:jH m = .bB:=by unfold jH;rw[hg]
  rw[hs] at pV;obtain⟨⟨a1,b1⟩,e1⟩:=W k 2 (by omega) (by omega) (by decide) (by decide)
  obtain⟨⟨a2,b2⟩,e2⟩:=W (k+1) 2 (by omega) (by omega) (by decide) (by decide)
  have zi:((m.pl.map (fK m)).length<=sizeLine)=True:=bF (by rw[zaf];have:=D.z.pl;have:=D.hn;omega)
  generalize hIL:m.pl.map (fK m)=IL at *
  unfold CF;simp?[fx,ha,pV,hpl,q_,zi];generalize hI:cP (mB (ai (c7 true) (aJ "Match" "turn" 1 vO (aa 3) ak) (mC (.str "")))) _ _=IF
  by_cases q1:(IL.length:Int)=2/\dv cs k 2=0
  ·refine⟨.g8,?_⟩
   generalize cs.map Tr.int=X at *
   simp?[fx,q1.1,q1.2,e1,bR.t]
  ·have key:∃j:Int,(j=0\/j=1)/\IF [some (.ls (cs.map .int)),some (.int k),some tt,some (.hd y.a),some .bB,some (.ls PL),some (.int (dv cs (k+1) 2)),none,none,none,none,none,none,none,none,none] S = .nx [some (.ls (cs.map .int)),some (.int k),some tt,some (.hd y.a),some .bB,some (.ls PL),some (.int j),none,none,none,none,none,none,none,none,none] S:=by
    subst hI;by_cases q:vV m=""
    ·exact⟨dv cs (k+1) 2,by omega,by simp?[fx,ha,ht,q]⟩
    ·obtain⟨j,hj,ej⟩:=ake (t:=vV m) (a:=m.t0) (b:=m.t1) (by
      unfold vV at q ⊢
      split
      ·rename_i r;rw[r] at q;exact absurd rfl q
      ·exact YX)
     refine⟨(j:Int),hj,?_⟩
     generalize vV m=tm at *
     simp?[fx,ha,ht,q,i0,i1,qv,ej,cJ,zaF,zaN,zaU]
   obtain⟨j,j01,hIF⟩:=key;have s1:=s3 j j01;have s2:=s3 (1 - j) (by omega)
   have p1:=p3 j;have p2:=p3 (1 - j)
   generalize jf m j=tj at *
   generalize jf m (1 - j)=tk at *
   generalize iJ m j=A at *
   generalize iJ m (1 - j)=B at *
   obtain⟨⟨a3,b3⟩,e3⟩:=W (k+2) (A.length:Int) (by omega) (by omega) (by omega) (by omega)
   obtain⟨⟨a4,b4⟩,e4⟩:=W (k+3) (B.length:Int) (by omega) (by omega) (by omega) (by omega)
   obtain⟨x1,_,f1⟩:=g9 (l:=A) a3 b3
   obtain⟨x2,_,f2⟩:=Ir (l:=A) (n:=dv cs (k+2) (A.length:Int)+1) (m:=(A.length:Int)) rfl (by omega)
   obtain⟨x3,_,f3⟩:=g9 (l:=B) a4 b4
   have z1:(A.length<=sizeLine)=True:=bF (by omega)
   have z2:(B.length<=sizeLine)=True:=bF (by omega)
   have z3:(0<(A.length:Int))=True:=eq_true (by omega)
   have z4:((A.length:Int)<1073741824)=True:=eq_true (by omega)
   refine⟨.dz tj x1 x2 x3,?_⟩
   generalize cs.map Tr.int=X at *
   by_cases q2:(IL.length:Int)=2
   ·have q3:¬ dv cs k 2=0:=λz=>q1 ⟨q2,z⟩
    simp?[fx,q2,q3,e1,e2,hIF,s1,s2,e3,e4,f1,f2,f3,z1,z2,z3,z4,zaf,bR.t]
   ·simp?[fx,q2,e2,hIF,s1,s2,e3,e4,f1,f2,f3,z1,z2,z3,z4,zaf,bR.t]
 |some x =>
  have hs:∃r0 r1 r2 r3,jH m = .tp [.str (jf m x.cg),.str x.nB,.str x.vR,.str x.v_,r0,r1,r2,r3]:=by
   unfold jH;rw[hg];exact⟨_,_,_,_,rfl⟩
  obtain⟨r0,r1,r2,r3,hs⟩:=hs;rw[hs] at pV;clear hs
  obtain⟨j,j01,ej⟩:=ake (t:=jf m x.cg) (a:=m.t0) (b:=m.t1) YX
  generalize jf m x.cg=ts at *
  obtain⟨⟨a1,b1⟩,e1⟩:=W (k+4) 40 (by omega) (by omega) (by decide) (by decide)
  obtain⟨⟨a2,b2⟩,e2⟩:=W (k+5) 2 (by omega) (by omega) (by decide) (by decide)
  obtain⟨⟨a6,b6⟩,e6⟩:=W (k+6) 8 (by omega) (by omega) (by decide) (by decide)
  have s1:=s3 (j:Int) j01
  have s2:=s3 (1 - (j:Int)) (by omega)
  have p1:=p3 (j:Int)
  have p2:=p3 (1 - (j:Int))
  have dp0:=D.p0;have dp1:=D.p1;generalize jf m (j:Int)=tj at *
  generalize jf m (1 - (j:Int))=tk at *
  generalize iJ m (j:Int)=A at *
  generalize iJ m (1 - (j:Int))=B at *
  obtain⟨⟨a3,b3⟩,e3⟩:=W (k+5) (A.length:Int) (by omega) (by omega) (by omega) (by omega)
  obtain⟨⟨a4,b4⟩,e4⟩:=W (k+5) (B.length:Int) (by omega) (by omega) (by omega) (by omega)
  obtain⟨⟨a5,b5⟩,e5⟩:=W (k+5) ((m.p0++m.p1).length:Int) (by omega) (by omega) (by rw[zaj];omega) (by rw[zaj];omega)
  obtain⟨x1,_,f1⟩:=g9 (l:=A) a3 b3
  obtain⟨x2,_,f2⟩:=g9 (l:=B) a4 b4
  obtain⟨x3,_,f3⟩:=g9 (l:=m.p0++m.p1) a5 b5
  obtain⟨c,f4⟩:=aeR a6 b6;obtain⟨b,f5⟩:=Iz cs hl (k:=k+5) (by omega) (by omega) x.nB x.vR (st:=[.str ts,.str x.nB,.str x.vR,.str x.v_,r0,r1,r2,r3]) rfl rfl S
  have z1:(A.length<=sizeLine)=True:=bF (by omega)
  have z2:(B.length<=sizeLine)=True:=bF (by omega)
  have z3:(m.p0.length+m.p1.length<=sizeLine)=True:=bF (by omega)
  have z4:(lt8.length<=sizeLine)=True:=bF (by decide +kernel)
  have z5:((Str.ofString "sw").length+1<=sizeLine)=True:=bF (by decide +kernel)
  rw[zaE] at f3;rw[zaj] at e5 f3;unfold CF;rw[show Str.ofString "abcdefgh"=lt8 from rfl];generalize lt8=L at *
  generalize hX:cs.map Tr.int=X at *
  generalize dv cs (k+4) 40=v1 at *
  generalize dv cs (k+5) 2=v2 at *
  generalize dv cs (k+5) (A.length:Int)=v3 at *
  generalize dv cs (k+5) (B.length:Int)=v4 at *
  generalize dv cs (k+5) ((m.p0.length+m.p1.length:Nat):Int)=v5 at *
  generalize dv cs (k+6) 8=v6 at *
  simp?[fx,ha,pV,hpl,i0,i1,qv,ej,cJ,zaF,zaN,zaU,e1];by_cases q0:v1=0
  ·refine⟨.fM,?_⟩
   simp?[fx,q0,bR.t]
  ·generalize hC:fQ _ _ _ _ _ _=C
   have key:∃th:List Str,th.length<=2/\∀v f o w,x.nB=f->x.vR=o->C [some (.ls X),some (.int k),some tt,some (.hd y.a),some (.tp [.str ts,.str f,.str o,.str w,r0,r1,r2,r3]),some (.ls PL),some (.int (j:Int)),none,none,none,none,none,some (.int v),none,none,none] S = .ok (.ls (th.map .str)) S:=by
    subst hC;by_cases g1:x.nB="" <;> by_cases g2:x.vR=""
    ·exact⟨[],by simp,λv f o w hf ho=>by rw[<-hf,<-ho];simp?[fx,IA,sx8,zcV,g1,g2,iT,wB]⟩
    ·exact⟨[x.vR],by simp,λv f o w hf ho=>by rw[<-hf,<-ho];simp?[fx,IA,sx8,zcV,g1,g2,iT,wB,qD]⟩
    ·exact⟨[x.nB],by simp,λv f o w hf ho=>by rw[<-hf,<-ho];simp?[fx,IA,sx8,zcV,g1,g2,iT,wB,qD]⟩
    ·exact⟨[x.nB,x.vR],by simp,λv f o w hf ho=>by rw[<-hf,<-ho];simp?[fx,IA,sx8,zcV,g1,g2,iT,wB,qD]⟩
   obtain⟨th,lth,Q3⟩:=key;have zt:(th.length<=sizeLine)=True:=bF (by omega)
   by_cases q1:v1=1/\th≠[]
   ·have tp:0<th.length:=List.length_pos_iff.mpr q1.2
    obtain⟨x4,_,f6⟩:=Ir (l:=th) (n:=v2) (m:=(th.length:Int)) rfl (by omega)
    have c1:(0<(th.length:Int))=True:=eq_true (by omega)
    have c2:((th.length:Int)<1073741824)=True:=eq_true (by omega)
    have g1:=aeQ (S:=S) q1.2
    refine⟨.pP x4,?_⟩
    simp?[fx,q0,q1.1,Q3,↓g1,e2,f6,zt,c1,c2,zaf,bR.t]
   ·have q1':v1=1->Bv true (.ls (th.map .str)) (.ls []) S = .ok (.bl false) S:=λz=>by
     have:th=[]:=Classical.byContradiction λw=>q1 ⟨z,w⟩
     rw[Iw,this];rfl
    by_cases q2:v1=2
    ·refine⟨.swap x3 (Str.ofString "sw"++⟨#[c]⟩),?_⟩
     simp?[fx,q0,q2,Q3,i0,i1,e5,e6,f3,f4,z3,z4,z5,Ag,zaj,zaf,bR.t]
    ·by_cases q3:x.nB="" \/ x.vR=""
     ·refine⟨.rC x1,?_⟩
      by_cases q5:v1=1
      ·have g1:=q1' q5
       by_cases q4:x.nB=""
       ·simp?[fx,q5,Q3,↓g1,q4,s1,e3,f1,z1,zaf,bR.t]
       ·have q6:=q3.resolve_left q4
        simp?[fx,q5,Q3,↓g1,q4,q6,s1,e3,f1,z1,zaf,bR.t]
      ·by_cases q4:x.nB=""
       ·simp?[fx,q0,q2,q5,Q3,q4,s1,e3,f1,z1,zaf,bR.t]
       ·have q6:=q3.resolve_left q4
        simp?[fx,q0,q2,q5,Q3,q4,q6,s1,e3,f1,z1,zaf,bR.t]
     ·have q4:¬ x.nB="" := λz=>q3 (.inl z)
      have q6:¬ x.vR="" := λz=>q3 (.inr z)
      by_cases q7:x.v_=""
      ·refine⟨.pO x2,?_⟩
       by_cases q5:v1=1
       ·have g1:=q1' q5
        simp?[fx,q5,Q3,↓g1,q4,q6,q7,s2,e4,f2,z2,zaf,bR.t]
       ·simp?[fx,q0,q2,q5,Q3,q4,q6,q7,s2,e4,f2,z2,zaf,bR.t]
      ·refine⟨.pN b,?_⟩
       show _=R.ok b.t S
       generalize b.t=bt at *
       by_cases q5:v1=1
       ·have g1:=q1' q5
        simp?[fx,q5,Q3,↓g1,q4,q6,q7,f5]
       ·simp?[fx,q0,q2,q5,Q3,q4,q6,q7,f5]
end
theorem Y3 (w:Str):aP (Str.ofString "rule") [(Str.ofString "rule",Tr.str w),(Str.ofString "number",Tr.int 0)]=some (.str w):=by kernel_rfl
section
variable {S:Cs}{m:M}{y:Ly}{n:Nat}
theorem Fb (h:dP S m y)(z:Sz m n)(hn:n+1<=1000)(e:bR):∃S' y' m',pL [.hd y.a,e.t] S = .ok (.str ((jh m e).getD "")) S'/\Qy S y S' m' y'/\Sz m' (n+1)/\m'=if jh m e=none then iO m e else m:=by
 unfold pL;have ha:=h.a;unfold mF at ha;cases hr:jh m e with
 |none =>
  obtain⟨S',y',k1,k2,k3⟩:=Ar h z hn e hr;refine⟨S',y',_,?_,k2,k3,by rw[if_pos rfl]⟩
  simp?[fx,ha,k1,zcm]
 |some w =>
  obtain⟨S0,⟨G,e0⟩,k1⟩:=Iq h z hn e w hr
  have on:aM [] S (S0++[.tL "NotLet" [("rule",.str w),("number",.int 0)]]):=by
   rw[e0,zbE];exact aM.qW
  refine⟨_,y,m,?_,⟨h.only on (by simp),on.mono (by simp),rfl,λj hj=>.inl hj⟩,z.mono (zaW n),by rw[if_neg (by simp)]⟩
  simp?[fx,ha,k1,Dm,zav,zcJ,Y3]
end
noncomputable def lU (m:M):List bR->Option M
 |[]=>some m
 |e::r=>if jh m e=none then lU (iO m e) r else none
theorem nv:∀{es:List bR} {m m':M} {e:bR},lU m es=some m'->lU m (es++[e])=if jh m' e=none then some (iO m' e) else none
 |[],m,m',e,h=>by cases h;rfl
 |a::r,m,m',e,h=>by
  rw[zbl];unfold lU at h ⊢
  split at h
  ·rename_i q
   rw[if_pos q];exact nv h
  ·cases h
theorem QG (h:jh m e=some w):¬ w="" := λz=>absurd (CY h).1 (by rw[z];decide +kernel)
theorem Vq (e:bR)(k:Nat):Tr.aF k e.t=true:=by
 cases e<;>(unfold bR.t;try unfold B.t)<;>simp only[nY,kM,pq,Nv,zaF,zaN,zaU]
theorem J7 (h:aM [] S S'):S'.take S.length=S:=by
 apply List.ext_getElem?
 intro i;rw[List.getElem?_take];split
 ·exact h.2 i (by assumption) (by simp)
 ·rw[List.getElem?_eq_none (by omega)]
structure Fm (S S':Cs) (m:M) (y:Ly) (d n:Nat):Prop where
 wH:dP S' m y
 a:y.a=S.length
 fp:∀j∈fp y,S.length<=j
 on:aM [] S S'
 D:Dr m d n
section
variable {S S' S2:Cs}{m m2:M}{y y2:Ly}{d n n2:Nat}
theorem Fm.aeS (h:Fm S S' m y d n)(T:Qy S' y S2 m2 y2)(D:Dr m2 d n2):Fm S S2 m2 y2 d n2:=
 ⟨T.wH,T.a.trans h.a,λj hj=>(T.fp j hj).elim (h.fp j) λq=>zai h.on.1 q,h.on.fresh T.on λj hj=>.inr (h.fp j hj),D⟩
theorem Fm.init (u:U)(t0 t1:Str)(l0:p0.length=d)(l1:p1.length=d)(d2:2<=d)(sA:d<=11)(S:Cs):Fm S (f9 S (cL u t0 t1 p0 p1)) (cL u t0 t1 p0 p1) (j6 S.length) d 22:=
 ⟨Ve S u t0 t1 p0 p1,rfl,λj hj=>by simp[My.fp,j6] at hj;omega,aM.qW,⟨Vf u t0 t1 p0 p1 (by omega) (by omega),by decide,l0,l1,d2,sA,[],rfl⟩⟩
theorem Fm.akf (h:Fm S S' m y d n)(hn:n+1<=1000)(e:bR)(hr:jh m e=none):∃S2 y2,mK [.hd S.length,e.t] S' = .ok .bB S2/\Fm S S2 (iO m e) y2 d (n+1)/\Qy S' y S2 (iO m e) y2:=by
 obtain⟨S2,y2,k1,k2,k3⟩:=Ar h.wH h.D.z hn e hr;rw[h.a] at k1;exact⟨S2,y2,k1,h.aeS k2 (h.D.aeL e k3 hn),k2⟩
end
theorem QH (h:lF m=true):∃l,wI m = .tp l:=by
 unfold wI;rw[h,if_neg (by simp)]
 repeat' split
 all_goals exact⟨_,rfl⟩
theorem Fc (cs:List Int)(hl:cs.length<=100)(u:U)(t0 t1:Str)(l0:p0.length=d)(l1:p1.length=d)(d2:2<=d)(sA:d<=11)(dc:Nat)(hm:dc<=100)(S:Cs):
  ∃es m,Ie [.ls (cs.map .int),u.t,aN t0 t1 p0 p1,.int dc] S = .ok (.ls (es.map bR.t)) S/\lU (cL u t0 t1 p0 p1) es=some m/\es.length<=dc:=by
 have F0:=Fm.init u t0 t1 l0 l1 d2 sA S;have e4:=E7 u t0 t1 p0 p1 (by omega) (by omega) S
 have hr:(-4611686018427387904<=(dc:Int)/\(dc:Int)<4611686018427387904)=True:=eq_true (by omega)
 have lS:(f9 S (cL u t0 t1 p0 p1)).length=S.length+4:=by unfold f9;simp
 have ent:=λ(m:M) (y:Ly) (S':Cs) (n:Nat) (h:dP S' m y) (D:Dr m d n) (k:Int) (k0:0<=k) (k1:k<8000)=>QF cs hl h D k0 k1 (aN t0 t1 p0 p1)
 generalize hm0:cL u t0 t1 p0 p1=m0 at *
 generalize aN t0 t1 p0 p1=sT at *
 generalize cs.map Tr.int=X at *
 generalize u.t=uT at *
 unfold Ie;generalize hB:dF P6 _=q
 have Ja:∃(es:List bR) (m:M) (S':Cs),q [.ls X,uT,sT,.int dc] S = .ok (.hd (S.length+4)) S'/\S'[S.length+4]? = some (.bA (es.map bR.t))/\aM [] S S'/\lU m0 es=some m/\es.length<=dc:=by
  subst hB;simp?[fx,e4,hr,zbq,lS];generalize hZ:gS _ _ _ _ _ _=Z
  obtain⟨τ,S',⟨⟨v,w,rfl⟩,es,m,y,kS,F,nk,hR,hle⟩,rfl⟩:=iY hZ (λi τ S'=>(∃v w,τ=[some (.ls X),some uT,some sT,some (.int (dc:Int)),some (.hd S.length),some (.hd (S.length+4)),v,w])/\∃es m y,S'[S.length+4]? = some (.bA (es.map bR.t))/\Fm S S' m y d (22+i)/\S.length+4∉fp y/\lU m0 es=some m/\es.length<=i) (λ_ _ _ _=>trivial) ⟨⟨_,_,rfl⟩,[],m0,_,by rw[<-lS];exact ju _ _,⟨F0.wH.only (F:=[]) aM.qW (by simp),F0.a,F0.fp,F0.on.trans aM.qW,F0.D⟩,by simp[fp,j6],rfl,zah _⟩ (by
   rintro i t τ S' ht ⟨⟨v,w,rfl⟩,es,m,y,kS,F,nk,hR,hle⟩
   obtain⟨ly,rfl⟩:=pA ht;have k1:=YZ F.wH F.D.z F.D.hn;have ha:=F.wH.a;rw[F.a] at k1 ha;unfold mF at ha;cases hd:lF m with
   |true =>
    obtain⟨l,el⟩:=QH hd;rw[el] at k1;refine⟨[some (.ls X),some uT,some sT,some (.int (dc:Int)),some (.hd S.length),some (.hd (S.length+4)),some (.int (0+(i:Int))),w],S',.inl ?_,⟨_,_,rfl⟩,es,m,y,kS,⟨F.wH,F.a,F.fp,F.on,F.D.mono (by omega) (by omega)⟩,nk,hR,by omega⟩
    simp?[fx,ha,k1]
   |false =>
    have er:wI m = .bB:=by unfold wI;rw[hd,if_pos rfl]
    rw[er] at k1;obtain⟨e,k2⟩:=ent m y S' _ F.wH F.D (11 * (i:Int)) (by omega) (by omega)
    obtain⟨S2,y2,m2,k3,T,z2,em⟩:=Fb F.wH F.D.z (by omega) e
    rw[F.a] at k2 k3;have kS2:=T.on.at kS nk;have Y4:S.length+4∉fp y2:=λq=>(T.fp _ q).elim nk λq=>by have:=aD kS;omega
    have hz:(es.length<sizeLine)=True:=gk (by omega)
    cases hr:jh m e with
    |none =>
     rw[hr] at k3 em;rw[if_pos rfl] at em;subst em;have F2:=F.aeS T (F.D.aeL e z2 (by omega))
     refine⟨[some (.ls X),some uT,some sT,some (.int (dc:Int)),some (.hd S.length),some (.hd (S.length+4)),some (.int (0+(i:Int))),some e.t],S2.set (S.length+4) (.bA ((es++[e]).map bR.t)),.inl ?_,⟨_,_,rfl⟩,es++[e],_,y2,cy (aD kS2),⟨F2.wH.only (F:=[S.length+4]) (aM.set (by simp)) (λj hj q=>by rw[zav] at q;subst q;exact Y4 hj),F2.a,F2.fp,F2.on.fresh (F':=[S.length+4]) (aM.set (by simp)) (λj hj=>.inr (by rw[zav] at hj;omega)),F2.D⟩,Y4,by rw[nv hR,if_pos hr],by simp;omega⟩
     rw[zaE,qD,wB];generalize e.t=et at *
     simp?[fx,ha,k1,k2,k3,kS2,hz,zcm]
    |some x =>
     rw[hr] at k3 em;rw[if_neg (by simp)] at em
     subst em;have hx:=QG hr;refine⟨[some (.ls X),some uT,some sT,some (.int (dc:Int)),some (.hd S.length),some (.hd (S.length+4)),some (.int (0+(i:Int))),some e.t],S2,.inl ?_,⟨_,_,rfl⟩,es,_,y2,kS2,F.aeS T (F.D.mono (by omega) (by omega)),Y4,hR,by omega⟩
     generalize e.t=et at *
     simp?[fx,ha,k1,k2,k3,hx,zcJ])
  rw[mG] at hle F;refine⟨es,m,S',?_,kS,F.on,hR,hle⟩
  simp only[↓bp,bx,simprocAttr]
 obtain⟨es,m,S',e1,e2,e3,e5,e6⟩:=Ja;refine⟨es,m,fB (S1:=S') (t:=.hd (S.length+4)) e1 (J7 e3) ?_,e5,e6⟩
 unfold nX;have hq:cF S' (S.length+4)=some (es.map bR.t):=by unfold cF;rw[e2]
 have:(es.map bR.t).all (Tr.aF S.length)=true:=by
  rw[zaM];intro t ht;obtain⟨e,_,rfl⟩:=zbm.mp ht;exact Vq e _
 simp only[hq,show ¬ S.length+4<S.length by omega,if_false,fV,this,if_true]
theorem aeT {x0 x1 x2 x3:Tr}:aP ("rules" : Str) ([("rules",x0),("teams",x1),("kept",x2),("current",x3)]:List (Str×Tr))=some x0:=by kernel_rfl
theorem aeU {x0 v:Tr}:bY ("teams" : Str) v ([("rules",x0)]:List (Str×Tr))=([("rules",x0),("teams",v)]:List (Str×Tr)):=by kernel_rfl
theorem aeV {x0 x1 x2 x3:Tr}:aP ("teams" : Str) ([("rules",x0),("teams",x1),("kept",x2),("current",x3)]:List (Str×Tr))=some x1:=by kernel_rfl
theorem aeW {x0 x1 v:Tr}:bY ("kept" : Str) v ([("rules",x0),("teams",x1)]:List (Str×Tr))=([("rules",x0),("teams",x1),("kept",v)]:List (Str×Tr)):=by kernel_rfl
theorem aeX {x0 x1 x2 x3:Tr}:aP ("kept" : Str) ([("rules",x0),("teams",x1),("kept",x2),("current",x3)]:List (Str×Tr))=some x2:=by kernel_rfl
theorem aeY {x0 x1 x2 x3 v:Tr}:bY ("kept" : Str) v ([("rules",x0),("teams",x1),("kept",x2),("current",x3)]:List (Str×Tr))=([("rules",x0),("teams",x1),("kept",v),("current",x3)]:List (Str×Tr)):=by kernel_rfl
theorem aeZ {x0 x1 x2 v:Tr}:bY ("current" : Str) v ([("rules",x0),("teams",x1),("kept",x2)]:List (Str×Tr))=([("rules",x0),("teams",x1),("kept",x2),("current",v)]:List (Str×Tr)):=by kernel_rfl
theorem ae0 {x0 x1 x2 x3:Tr}:aP ("current" : Str) ([("rules",x0),("teams",x1),("kept",x2),("current",x3)]:List (Str×Tr))=some x3:=by kernel_rfl
theorem ae1 {x0 x1 x2 x3 v:Tr}:bY ("current" : Str) v ([("rules",x0),("teams",x1),("kept",x2),("current",x3)]:List (Str×Tr))=([("rules",x0),("teams",x1),("kept",x2),("current",v)]:List (Str×Tr)):=by kernel_rfl
theorem akg {x0 x1 x2 x3:Tr}:aP ("tell" : Str) ([("rules",x0),("teams",x1),("kept",x2),("current",x3)]:List (Str×Tr))=none:=by kernel_rfl
theorem akh {x0 x1 x2 x3:Tr}:aP ("entries" : Str) ([("rules",x0),("teams",x1),("kept",x2),("current",x3)]:List (Str×Tr))=none:=by kernel_rfl
theorem aki {x0 x1 x2 x3:Tr}:aP ("match" : Str) ([("rules",x0),("teams",x1),("kept",x2),("current",x3)]:List (Str×Tr))=none:=by kernel_rfl
theorem nD {x0 x1 x2 x3:Tr}:aP ("need_number" : Str) ([("rules",x0),("teams",x1),("kept",x2),("current",x3)]:List (Str×Tr))=none:=by kernel_rfl
theorem vX {x0 x1 x2 x3:Tr}:aP ("retell" : Str) ([("rules",x0),("teams",x1),("kept",x2),("current",x3)]:List (Str×Tr))=none:=by kernel_rfl
theorem pT {x0 x1 x2 x3:Tr}:aP ("put_right" : Str) ([("rules",x0),("teams",x1),("kept",x2),("current",x3)]:List (Str×Tr))=none:=by kernel_rfl
theorem vY {x0 x1 x2 x3:Tr}:aP ("put_in" : Str) ([("rules",x0),("teams",x1),("kept",x2),("current",x3)]:List (Str×Tr))=none:=by kernel_rfl
theorem qM {x0 x1 x2 x3:Tr}:aP ("take_out" : Str) ([("rules",x0),("teams",x1),("kept",x2),("current",x3)]:List (Str×Tr))=none:=by kernel_rfl
theorem Vr:(("Book" : Str)∈(["Book"]:List Str))=True:=eq_true (zav.mpr rfl)
open And in
noncomputable def Q4:=intro @aeT<|intro @aeU<|intro @aeV<|intro @aeW<|intro @aeX<|intro @aeY<|intro @aeZ<|intro @ae0<|intro @ae1<|intro @Vr<|intro @akg<|intro @akh<|intro @aki<|intro @nD<|intro @vX<|intro @pT<|intro @vY<|@qM
noncomputable def Vs (u:U)(sT:Tr)(kc:Nat)(cu:Tr):List (Str×Tr):=[("rules",u.t),("teams",sT),("kept",.hd kc),("current",cu)]
structure wJ (S:Cs) (b kc:Nat) (u:U) (sT:Tr) (es:List bR) (cu:Tr):Prop where
 hb:S[b]? = some (.eS "Book" (Vs u sT kc cu))
 hk:S[kc]? = some (.bA (es.map bR.t))
 ne:b≠kc
theorem wJ.only (h:wJ S b kc u sT es cu)(o:aM F S S')(hb:b∉F)(hk:kc∉F):wJ S' b kc u sT es cu:=⟨o.at h.hb hb,o.at h.hk hk,h.ne⟩
theorem yP:∀{es:List bR} {m m':M} (i:Nat),lU m es=some m'->∃m2,lU m (es.take i)=some m2/\∀e,es[i]? = some e->jh m2 e=none
 |[],m,m',i,h=>⟨m,by simp[lU],λe he=>by simp at he⟩
 |a::r,m,m',0,h=>⟨m,rfl,λe he=>by
  cases he;unfold lU at h;split at h
  ·assumption
  ·cases h⟩
 |a::r,m,m',i+1,h=>by
  unfold lU at h;split at h
  ·rename_i q
   obtain⟨m2,k1,k2⟩:=yP i h;refine⟨m2,?_,λe he=>k2 e (by simpa using he)⟩
   rw[List.take_succ_cons];unfold lU;rw[if_pos q];exact k1
  ·cases h
theorem J8 {es:List bR}{m0 m:M}{e:bR}{i:Nat}(h:lU m0 (es.take i)=some m)(he:es[i]? = some e):lU m0 (es.take (i+1))=if jh m e=none then some (iO m e) else none:=by
 have:es.take (i+1)=es.take i++[e]:=by rw[List.take_succ,he];rfl
 rw[this,nv h]
section
variable {S:Cs}{b kc d:Nat}{u:U}{t0 t1:Str}{p0 p1:List Str}{es:List bR}{cu:Tr}
theorem J9 {gM:Cs->Prop}{b:Tr->En->Cs->R En}{f:Sm}{τ:En}{S:Cs}(h:gM S):gS gM b f [] τ S = .nx τ S:=by unfold gS;rw[if_pos h]
theorem Fd {gM:Cs->Prop}{b:Tr->En->Cs->R En}{f:Sm}{t:Tr}{r:List Tr}{τ:En}{S:Cs}(h:gM S):gS gM b f (t::r) τ S=(b t τ S).b_ λeX S1=>lpS (f eX S1) (gS gM b f r):=by
 conv=>lhs;unfold gS
 rw[if_pos h]
theorem Vt {S:Cs}{h a b:Nat}(t0 t1:Str){p0 p1:List Str}(hH:S[h]? = some (.bA [.tp [.str t0,.hd a],.tp [.str t1,.hd b]]))(hA:S[a]? = some (.bA (p0.map .str)))(hB:S[b]? = some (.bA (p1.map .str)))(h0:p0.length<=11)(h1:p1.length<=11):vL [.hd h,.str "player"] S = .ok (.hd S.length) (S++[.bA ((p0++p1).map .str)]):=by
 unfold vL;have hl:(p0.length<=sizeLine)=True:=bF (by omega)
 have Gq:(p0.length+p1.length<=sizeLine)=True:=bF (by omega)
 have hA':∀X,(S++[X])[a]? = some (.bA (p0.map .str)):=λX=>by rw[zab (aD hA)];exact hA
 have hB':∀X,(S++[X])[b]? = some (.bA (p1.map .str)):=λX=>by rw[zab (aD hB)];exact hB
 have hH':∀X,(S++[X])[h]? = some (.bA [.tp [.str t0,.hd a],.tp [.str t1,.hd b]]):=λX=>by rw[zab (aD hH)];exact hH
 simp?[fx,xE,zaf,zaE,hl,Gq,zcf,zaj,hA',hB',hH',hH,Dm,YR,zbd,J9,Fd]
theorem Vu (u:U)(t0 t1:Str)(hH:S[h]? = some (.bA [.tp [.str t0,.hd a],.tp [.str t1,.hd b]]))(hA:S[a]? = some (.bA (p0.map .str)))(hB:S[b]? = some (.bA (p1.map .str)))(h0:p0.length<=11)(h1:p1.length<=11):pJ [.hd S.length,u.t,.hd h] (S++[.eS "Match" []]) = .ok .bB (f9 S (cL u t0 t1 p0 p1)):=by
 unfold pJ f9 cL mF j6;have hA':∀X,(S++X)[a]? = some (.bA (p0.map .str)):=λX=>by rw[zab (aD hA)];exact hA
 have hB':∀X,(S++X)[b]? = some (.bA (p1.map .str)):=λX=>by rw[zab (aD hB)];exact hB
 have hH':∀X,(S++X)[h]? = some (.bA [.tp [.str t0,.hd a],.tp [.str t1,.hd b]]):=λX=>by rw[zab (aD hH)];exact hH
 have ht:=λX=>Vt t0 t1 (hH' X) (hA' X) (hB' X) h0 h1
 have hl0:(p0.length<=sizeLine)=True:=bF (by omega)
 have VU:(p1.length<=sizeLine)=True:=bF (by omega)
 unfold aN;generalize u.t=ut at *
 simp?[fx,ht,zaf,hl0,VU,hA',hB',hH',Dm,YR,zbE,kN,jv]
theorem QI (u:U)(t0 t1:Str)(hH:S[h]? = some (.bA [.tp [.str t0,.hd a],.tp [.str t1,.hd b]]))(hA:S[a]? = some (.bA (p0.map .str)))(hB:S[b]? = some (.bA (p1.map .str)))(l0:p0.length=d)(l1:p1.length=d)(d2:2<=d)(sA:d<=11):∃S' y,UQ [.hd S.length,u.t,.hd h] (S++[.eS "Book" []]) = .ok .bB S'/\wJ S' S.length (S.length+1) u (aN t0 t1 p0 p1) [] (.hd y.a)/\dP S' (cL u t0 t1 p0 p1) y/\aM [] S S'/\(∀j∈fp y,S.length+2<=j):=by
 obtain⟨Sa,hSa⟩:∃Sa:Cs,Sa=S++[Ce.eS "Book" [("rules",u.t),("teams",aN t0 t1 p0 p1),("kept",.hd (S.length+1))],Ce.bA []]:=⟨_,rfl⟩
 have la:Sa.length=S.length+2:=by rw[hSa];simp
 have o1:aM [] S Sa:=by rw[hSa];exact aM.qW
 have e4:=Vu (S:=Sa) u t0 t1 (o1.at hH (by simp)) (o1.at hA (by simp)) (o1.at hB (by simp)) (by omega) (by omega)
 have F:=Fm.init u t0 t1 l0 l1 d2 sA Sa;have hb:(f9 Sa (cL u t0 t1 p0 p1))[S.length]? = some (Ce.eS "Book" [("rules",u.t),("teams",aN t0 t1 p0 p1),("kept",.hd (S.length+1))]):=F.on.at (by rw[hSa];exact Dm) (by simp)
 have hk:(f9 Sa (cL u t0 t1 p0 p1))[S.length+1]? = some (Ce.bA []):=F.on.at (by rw[hSa];exact ga1) (by simp)
 have hl0:(p0.length<=sizeLine)=True:=bF (by omega)
 have VU:(p1.length<=sizeLine)=True:=bF (by omega)
 have hA':∀X,(S++X)[a]? = some (.bA (p0.map .str)):=λX=>by rw[zab (aD hA)];exact hA
 have hB':∀X,(S++X)[b]? = some (.bA (p1.map .str)):=λX=>by rw[zab (aD hB)];exact hB
 have hH':∀X,(S++X)[h]? = some (.bA [.tp [.str t0,.hd a],.tp [.str t1,.hd b]]):=λX=>by rw[zab (aD hH)];exact hH
 rw[la] at e4;generalize hI:f9 Sa (cL u t0 t1 p0 p1)=SI at *
 refine⟨SI.set S.length (.eS "Book" (Vs u (aN t0 t1 p0 p1) (S.length+1) (.hd (j6 (S.length+2)).a))),j6 (S.length+2),?_,⟨cy (aD hb),by rw[cY (by omega)];exact hk,by omega⟩,?_,?_,?_⟩
 ·unfold UQ Vs
  unfold aN at *
  generalize u.t=ut at *
  rw[hSa,zbE,zbl,zbl,zbd] at e4;simp?[fx,Q4,Dm,YR,zbE,zaf,hl0,VU,hA',hB',hH',e4,hb,j6,kN,jv]
 ·have:=F.wH
  rw[la] at this;exact this.only (F:=[S.length]) (aM.set (by simp)) λj hj q=>by
   have:=F.fp j (by rw[la];exact hj)
   rw[zav] at q;omega
 ·exact (o1.trans F.on).fresh (F':=[S.length]) (aM.set (by simp)) λj hj=>.inr (by rw[zav] at hj;omega)
 ·intro j hj
  have:=F.fp j (by rw[la];exact hj)
  omega
theorem Vv (B:wJ S b kc u (aN t0 t1 p0 p1) es (.hd y.a))(h:dP S m y)(D:Dr m d n)(hn:n+1<=1000)(nb:b∉fp y)(nk:kc∉fp y)(hr:jh m e=none)(hl:es.length<=500):
  ∃S' y',JV [.hd b,e.t] S = .ok .bB S'/\wJ S' b kc u (aN t0 t1 p0 p1) (es++[e]) (.hd y'.a)/\dP S' (iO m e) y'/\Dr (iO m e) d (n+1)/\b∉fp y'/\kc∉fp y'/\aM (kc::fp y) S S'/\∀j∈fp y',j∈fp y\/S.length<=j:=by
 obtain⟨S2,y2,k1,T,z2⟩:=Ar h D.z hn e hr;have nb2:b∉fp y2:=λq=>(T.fp _ q).elim nb λq=>by have:=aD B.hb;omega
 have Y4:kc∉fp y2:=λq=>(T.fp _ q).elim nk λq=>by have:=aD B.hk;omega
 have B2:=B.only T.on nb nk;have hb:=B.hb;have hb2:=B2.hb;have hk2:=B2.hk;have ha:=h.a;have hz:(es.length<sizeLine)=True:=gk (by omega)
 refine⟨S2.set kc (.bA ((es++[e]).map bR.t)),y2,?_,⟨by rw[cY B.ne.symm,T.a];exact hb2,cy (aD hk2),B.ne⟩,T.wH.only (F:=[kc]) (aM.set (by simp)) (λj hj q=>by rw[zav] at q;subst q;exact Y4 hj),D.aeL e z2 hn,nb2,Y4,(T.on.mono λj hj=>by simp[hj]).trans (aM.set (by simp)),T.fp⟩
 unfold JV;unfold Vs at hb hb2;unfold mF at ha;rw[zaE,qD,wB];generalize aN t0 t1 p0 p1=sT at *
 generalize u.t=ut at *
 generalize e.t=et at *
 simp?[fx,Q4,hb,ha,k1,hb2,hk2,hz]
theorem C3 (B:wJ S b kc u (aN t0 t1 p0 p1) es cu):P8 [.hd b] S = .ok (.hd S.length) (S++[.bA (es.map bR.t)]):=by
 have hb:=B.hb;have hk:=B.hk;unfold Vs at hb;unfold P8;generalize aN t0 t1 p0 p1=sT at *
 generalize u.t=ut at *
 simp?[fx,Q4,hb,hk,qu,xw,cF]
theorem C4 {m:M}(B:wJ S b kc u (aN t0 t1 p0 p1) es cu)(l0:p0.length=d)(l1:p1.length=d)(d2:2<=d)(sA:d<=11)(hR:lU (cL u t0 t1 p0 p1) es=some m)(hl:es.length<=500):
  ∃S' y,Qc [.hd b] S = .ok (.hd S.length) S'/\Fm S S' m y d (22+es.length):=by
 have F0:=Fm.init u t0 t1 l0 l1 d2 sA S;have e4:=E7 u t0 t1 p0 p1 (by omega) (by omega) S
 have B0:=B.only F0.on (by simp) (by simp)
 have hb:=B.hb;have hb0:=B0.hb;have xC:=B0.hk;unfold Qc;unfold Vs at hb hb0;generalize hI:f9 S (cL u t0 t1 p0 p1)=SI at *
 generalize hm0:cL u t0 t1 p0 p1=m0 at *
 generalize aN t0 t1 p0 p1=sT at *
 generalize hut:u.t=ut at *
 simp?[fx,Q4,hb,e4,hb0,xC];generalize hZ:gS _ _ _ _ _ _=Z
 obtain⟨τ,S',⟨⟨v,rfl⟩,m',y,F,hR'⟩,rfl⟩:=iY hZ (λi τ S'=>(∃v,τ=[some (.hd b),some (.hd S.length),v])/\∃m y,Fm S S' m y d (22+i)/\lU m0 (es.take i)=some m) (λi τ S' ⟨_,m,y,F,_⟩=>by
  show cF S' kc=_
  unfold cF;rw[F.on.at B.hk (by simp)]) ⟨⟨_,rfl⟩,m0,_,F0,by rw[List.take_zero];rfl⟩ (by
  rintro i t τ S' ht ⟨⟨v,rfl⟩,m',y,F,hR'⟩
  rw[zau] at ht;cases he:es[i]? with
  |none=>rw[he] at ht;cases ht
  |some e =>
   rw[he] at ht;cases ht;have ly:=(zae.mp he).1
   obtain⟨m2,q1,q2⟩:=yP i hR;rw[hR'] at q1;cases q1;have hr:=q2 e he;obtain⟨S2,y2,k1,F2,_⟩:=F.akf (by omega) e hr
   have ha:=F.wH.a;rw[F.a] at ha;unfold mF at ha;refine⟨[some (.hd b),some (.hd S.length),some e.t],S2,.inl ?_,⟨_,rfl⟩,_,y2,F2,by rw[J8 hR' he,if_pos hr]⟩
   generalize e.t=et at *
   simp?[fx,Q4,ha,k1])
 rw[zaf] at F hR';rw[zaY,hR] at hR';cases hR';exact⟨S',y,by simp only[↓bp,bx,simprocAttr],F⟩
end
theorem QJ (cs:List Int)(j:Nat)(v:Int):(cs.map Tr.int).set j (.int v)=(cs.set j v).map .int:=by rw[List.map_set]
theorem ae2 (ns:List Int)(Le:ns.length<=63)(S:Cs):∃cs:List Int,Hx [.kl (ns.map .int),.int 40] S = .ok (.ls (cs.map .int)) S/\cs.length<=40:=by
 unfold Hx;generalize hB:dF OQ _=q
 have Ja:∃cs:List Int,q [.kl (ns.map .int),.int 40] S = .ok (.hd S.length) (S++[.bA (cs.map .int)])/\cs.length<=40:=by
  subst hB;simp only[↓bp,bx,simprocAttr];generalize hZ:gS _ _ _ _ _ _=Z
  obtain⟨τ,S',⟨⟨v,w,rfl⟩,cs,rfl,h1,h2,h3⟩,rfl⟩:=iY hZ (λi τ S'=>(∃v w,τ=[some (.kl (ns.map .int)),some (.int 40),some (.hd S.length),v,w])/\∃cs:List Int,S'=S++[.bA (cs.map .int)]/\cs.length<=40/\(i<40->cs.length=i)/\(40<=i->cs.length=40)) (λ_ _ _ _=>trivial) ⟨⟨_,_,rfl⟩,[],rfl,by simp,λ_=>rfl,λh=>by omega⟩ (by
   rintro i t τ S' ht ⟨⟨v,w,rfl⟩,cs,rfl,h1,h2,h3⟩
   obtain⟨w',hw,rfl⟩:=Ej ht;rw[zau] at hw;obtain⟨n,hn,rfl⟩:∃n,ns[i]? = some n/\w' = .int n:=by
    cases hx:ns[i]? with
    |none=>rw[hx] at hw;cases hw
    |some x=>rw[hx] at hw;cases hw;exact⟨x,rfl,rfl⟩
   have hz:(cs.length<sizeLine)=True:=gk (by omega)
   by_cases q:i<40
   ·have q':((i:Int)<40)=True:=eq_true (by omega)
    refine⟨[some (.kl (ns.map .int)),some (.int 40),some (.hd S.length),some (.int (((0:Nat):Int)+(i:Int))),some (.int n)],S++[.bA ((cs++[n]).map .int)],.inl ?_,⟨_,_,rfl⟩,cs++[n],rfl,by rw[zaj,h2 q];simp;omega,λ_=>by simp[h2 q],λh=>by rw[zaj,h2 q];simp;omega⟩
    rw[zaE,qD,wB];simp?[q',zu,hz,Dm,YR]
   ·have q':¬ ((i:Int)<40):=by omega
    have lc:=h3 (by omega)
    obtain⟨x,_,ex⟩:=zD (l:=cs) (n:=(i:Int)) (m:=40) (by omega) (by decide)
    have et:iE (cs.map Tr.int) ((i:Int) % 40)=some (.int x):=by rw[C2,ex];rfl
    have ei:Av cs.length ((i:Int) % 40)=some (i % 40):=by
     unfold Av;rw[lc];rw[if_pos (by omega),if_pos (by omega)]
     congr 1
    refine⟨[some (.kl (ns.map .int)),some (.int 40),some (.hd S.length),some (.int (((0:Nat):Int)+(i:Int))),some (.int n)],S++[.bA ((cs.set (i % 40) (x * 31+n)).map .int)],.inl ?_,⟨_,_,rfl⟩,cs.set (i % 40) (x * 31+n),rfl,by simp[lc],λh=>by omega,λ_=>by simp[lc]⟩
    rw[<-QJ];simp?[q',zu,et,ei,Dm,YR])
  exact⟨cs,by simp only[↓bp,bx,simprocAttr],h1⟩
 obtain⟨cs,e1,e2⟩:=Ja;refine⟨cs,fB (S1:=S++[.bA (cs.map .int)]) (t:=.hd S.length) e1 (xF _ _) ?_,e2⟩
 unfold nX;have hq:cF (S++[.bA (cs.map .int)]) S.length=some (cs.map .int):=by unfold cF;rw[Dm]
 have:(cs.map Tr.int).all (Tr.aF S.length)=true:=by
  rw[zaM];intro t ht;obtain⟨e,_,rfl⟩:=zbm.mp ht;rfl
 simp only[hq,zaO,if_false,fV,this,if_true]
theorem C5 (h:a<es.length):∃e,es[a]? = some e/\es=es.take a++e::es.drop (a+1):=by
 refine⟨es[a],zag h,?_⟩
 rw[<-zcw h,List.take_append_drop]
theorem akk (cs:List Int)(hl:cs.length<=100)(k0:0<=k)(k1:k<8000)(t0 t1:Str)(l0:p0.length=d)(l1:p1.length=d)(d2:2<=d)(sA:d<=11)(K:List bR)(hK:K.length<=400)(S:Cs):∃e:bR,Ig [.ls (cs.map .int),.int k,aN t0 t1 p0 p1,.ls (K.map bR.t)] S = .ok e.t S:=by
 have W:=λ(j dc:Int) (k0:0<=j) (k1:j<10000) (h0:0<dc) (h1:dc<1000000)=>And.intro (C1 cs j h0) (qL cs hl k0 k1 h0 h1 S)
 obtain⟨⟨a1,b1⟩,e1⟩:=W k 6 (by omega) (by omega) (by decide) (by decide)
 obtain⟨⟨a2,b2⟩,e2⟩:=W (k+1) 3 (by omega) (by omega) (by decide) (by decide)
 obtain⟨⟨a3,b3⟩,e3⟩:=W (k+2) 3 (by omega) (by omega) (by decide) (by decide)
 obtain⟨⟨a4,b4⟩,e4⟩:=W (k+1) ((p0++p1++[Str.ofString "nobodyzz"]).length:Int) (by omega) (by omega) (by simp;omega) (by simp;omega)
 obtain⟨x,_,f⟩:=g9 (l:=p0++p1++[Str.ofString "nobodyzz"]) a4 b4
 obtain⟨b,fb⟩:=Iz cs hl (k:=k+3) (by omega) (by omega) x x (st:=[.str "",.str x,.str x,.str ""]) rfl rfl S
 have z3:(p0.length+p1.length<=sizeLine)=True:=bF (by omega)
 have z4:(p0.length+p1.length+1<=sizeLine)=True:=bF (by omega)
 have zK:(K.length<=sizeLine)=True:=bF (by omega)
 rw[zaE,zaE,qD,wB] at f;rw[zaj,zaj,zbb] at e4 f;unfold Ig aN;have Y5:(K.map bR.t).length=K.length:=by simp
 by_cases q0:dv cs k 6=0/\0<K.length
 ·obtain⟨⟨a5,b5⟩,e5⟩:=W (k+1) (K.length:Int) (by omega) (by omega) (by omega) (by omega)
  obtain⟨a,ha⟩:=zbH a5;rw[ha] at e5 b5;obtain⟨e,he,_⟩:=C5 (es:=K) (a:=a) (by omega)
  have hat:iE (K.map bR.t) (a:Int)=some e.t:=f_ (by rw[zau,he];rfl)
  have hp:(0<(K.length:Int))=True:=eq_true (by omega)
  refine⟨e,?_⟩
  generalize cs.map Tr.int=X at *
  generalize K.map bR.t=L at *
  generalize e.t=et at *
  simp?[fx,e1,q0.1,hp,zK,Y5,D9,Jo,e5,hat]
 ·have q0':dv cs k 6=0->¬ 0<(K.length:Int):=λz w=>q0 ⟨z,by omega⟩
  generalize K.map bR.t=L at *
  generalize cs.map Tr.int=X at *
  generalize dv cs k 6=v1 at *
  generalize dv cs (k+1) 3=v2 at *
  generalize dv cs (k+2) 3=v3 at *
  generalize dv cs (k+1) ((p0.length+p1.length+1:Nat):Int)=v4 at *
  generalize hI:cP (lO _ _) _ _=I0
  have key:∀x5 x6,I0 [some (.ls X),some (.int k),some (.ls [.tp [.str t0,.ls (p0.map .str)],.tp [.str t1,.ls (p1.map .str)]]),some (.ls L),some (.int v1),x5,x6] S = .nx [some (.ls X),some (.int k),some (.ls [.tp [.str t0,.ls (p0.map .str)],.tp [.str t1,.ls (p1.map .str)]]),some (.ls L),some (.int v1),x5,x6] S:=λx5 x6=>by
   subst hI;by_cases q:v1=0
   ·have:=q0' q
    simp?[fx,q,this,zK,Y5,D9,Jo]
   ·simp?[fx,q]
  by_cases q1:v1=1
  ·obtain⟨t,ht,et⟩:=vU (l:=[bR.fM.t,bR.jB.t,bR.g8.t]) a2 b2
   obtain⟨e,rfl⟩:∃e:bR,t=e.t:=by
    simp only[zam,zax,or_false] at ht;rcases ht with rfl|rfl|rfl<;>exact⟨_,rfl⟩
   refine⟨e,?_⟩
   generalize hE:e.t=eT at *
   unfold bR.t at et;rw[q1] at e1 key;simp?[fx,e1,key,e2,et]
  ·by_cases q2:v1=2
   ·obtain⟨t,ht,et⟩:=vU (l:=[(bR.rC x).t,(bR.pO x).t,(bR.pP x).t]) a3 b3
    obtain⟨e,rfl⟩:∃e:bR,t=e.t:=by
     simp only[zam,zax,or_false] at ht;rcases ht with rfl|rfl|rfl<;>exact⟨_,rfl⟩
    refine⟨e,?_⟩
    generalize hE:e.t=eT at *
    unfold bR.t at et;rw[q2] at e1 key;simp?[fx,e1,key,z3,z4,e4,f,e3,et,zaj,zaf,zar,zaP]
   ·refine⟨.pN b,?_⟩
    show _=R.ok b.t S
    generalize b.t=bt at *
    simp?[fx,e1,key,q1,q2,z3,z4,e4,f,fb,zaj,zaf,zar,zaP]
structure Tb (S:Cs) (b kb ma kk:Nat) (u:U) (t0 t1:Str) (p0 p1:List Str) (K:List bR) (m:M) (y1 y2:Ly) (d n:Nat):Prop where
 B:wJ S b kb u (aN t0 t1 p0 p1) K (.hd y1.a)
 M1:dP S m y1
 M2:dP S m y2
 a2:y2.a=ma
 D:Dr m d n
 R:lU (cL u t0 t1 p0 p1) K=some m
 n1:b∉fp y1/\kb∉fp y1/\kk∉fp y1
 n2:b∉fp y2/\kb∉fp y2/\kk∉fp y2
 dj:∀j∈fp y1,j∉fp y2
 k:S[kk]? = some (.bA (K.map bR.t))
 nk:kk≠b/\kk≠kb
section
variable {S:Cs}{b kb ma kk d n:Nat}{u:U}{t0 t1:Str}{p0 p1:List Str}{K:List bR}{m:M}{y1 y2:Ly}
theorem Tb.only (T:Tb S b kb ma kk u t0 t1 p0 p1 K m y1 y2 d n)(o:aM [] S S'):Tb S' b kb ma kk u t0 t1 p0 p1 K m y1 y2 d n:=
 ⟨T.B.only o (by simp) (by simp),T.M1.only o (by simp),T.M2.only o (by simp),T.a2,T.D,T.R,T.n1,T.n2,T.dj,o.at T.k (by simp),T.nk⟩
theorem Tb.mono (T:Tb S b kb ma kk u t0 t1 p0 p1 K m y1 y2 d n)(h:n<=n')(hn:n'<=1000):Tb S b kb ma kk u t0 t1 p0 p1 K m y1 y2 d n':=
 ⟨T.B,T.M1,T.M2,T.a2,T.D.mono h hn,T.R,T.n1,T.n2,T.dj,T.k,T.nk⟩
theorem QK (B:wJ S b kb u (aN t0 t1 p0 p1) K (.hd y1.a))(h:dP S m y1)(D:Dr m d n)(hn:n+1<=1000)(hr:jh m e=some w):∃S',rA [.hd b,e.t] S = .ok (.str w) S'/\aM [] S S':=by
 obtain⟨S0,⟨G,e0⟩,k1⟩:=Iq h D.z hn e w hr
 have on:aM [] S (S0++[.tL "NotLet" [("rule",.str w),("number",.int 0)]]):=by
  rw[e0,zbE];exact aM.qW
 have hb:=B.hb;have ha:=h.a;unfold mF at ha;unfold Vs at hb;have k2:JV [.hd b,e.t] S = .ex S0.length (S0++[.tL "NotLet" [("rule",.str w),("number",.int 0)]]):=by
  unfold JV;generalize aN t0 t1 p0 p1=sT at *
  generalize u.t=ut at *
  generalize e.t=et at *
  simp?[fx,Q4,hb,ha,k1,R.aaC,R.GD]
 refine⟨_,?_,on⟩
 have xn:aP (Str.ofString "number") [(Str.ofString "rule",Tr.str w),(Str.ofString "number",Tr.int 0)]=some (.int 0):=by kernel_rfl
 unfold rA;generalize aN t0 t1 p0 p1=sT at *
 generalize u.t=ut at *
 generalize e.t=et at *
 simp?[fx,Q4,hb,k2,Dm,zav,Y3,xn]
theorem QL (T:Tb S b kb ma kk u t0 t1 p0 p1 K m y1 y2 d n)(hn:n+1<=1000)(hl:K.length<=500)(e:bR):
  (∃S1 S2 Lk rQ,pL [.hd ma,e.t] S = .ok (.str "") S1/\rA [.hd b,e.t] S1 = .ok (.str "") S2/\S2[kk]? = some (.bA (K.map bR.t))/\Tb (S2.set kk (.bA ((K++[e]).map bR.t))) b kb ma kk u t0 t1 p0 p1 (K++[e]) (iO m e) Lk rQ d (n+1)) \/
  (∃(S1 S2:Cs) (rQ:Ly) (w:Str),¬ w="" /\ pL [.hd ma,e.t] S = .ok (.str w) S1/\rA [.hd b,e.t] S1 = .ok (.str w) S2/\Tb S2 b kb ma kk u t0 t1 p0 p1 K m y1 rQ d n):=by
 obtain⟨S1,rQ,m',k1,T1,_,em⟩:=Fb T.M2 T.D.z hn e;rw[T.a2] at k1;have B1:=T.B.only T1.on T.n2.1 T.n2.2.1;have M1:dP S1 m y1:=T.M1.only T1.on T.dj
 have c1:=T1.on.at T.k T.n2.2.2;have lb:=aD T.B.hb;have lkb:=aD T.B.hk;have lk:=aD T.k;have nn:∀j,j∉fp y2->j<S.length->j∉fp rQ:=λj h1 h2 z=>(T1.fp j z).elim h1 λq=>by omega
 have n2':b∉fp rQ/\kb∉fp rQ/\kk∉fp rQ:=⟨nn _ T.n2.1 lb,nn _ T.n2.2.1 lkb,nn _ T.n2.2.2 lk⟩
 have dj':∀j∈fp y1,j∉fp rQ:=λj hj=>nn j (T.dj j hj) (T.M1.lt j hj)
 cases hr:jh m e with
 |none =>
  rw[hr] at k1 em;rw[if_pos rfl] at em;subst em;obtain⟨S2,Lk,k2,B2,M2,D2,nb2,Y4,on2,fp2⟩:=Vv (e:=e) B1 M1 T.D hn T.n1.1 T.n1.2.1 hr hl
  have hb:=B1.hb;unfold Vs at hb;have q1:∀j∈fp rQ,j∉kb::fp y1:=λj hj z=>by
   rcases zam.mp z with z|z
   ·subst z;exact n2'.2.1 hj
   ·exact dj' j z hj
  have c2:=on2.at c1 (by intro z;rcases zam.mp z with z|z;exact T.nk.2 z;exact T.n1.2.2 z)
  have k1n:kk∉fp Lk:=λz=>by
   rcases fp2 kk z with q|q
   ·exact T.n1.2.2 q
   ·have:=aD c1;omega
  refine .inl ⟨S1,S2,Lk,rQ,k1,?_,c2,⟨B2.only (F:=[kk]) (aM.set (by simp)) (by simp;exact T.nk.1.symm) (by simp;exact T.nk.2.symm),M2.only (F:=[kk]) (aM.set (by simp)) (λj hj q=>by rw[zav] at q;subst q;exact k1n hj),(T1.wH.only on2 q1).only (F:=[kk]) (aM.set (by simp)) (λj hj q=>by rw[zav] at q;subst q;exact n2'.2.2 hj),T1.a.trans T.a2,D2,by rw[nv T.R,if_pos hr],⟨nb2,Y4,k1n⟩,n2',λj hj z=>?_,cy (aD c2),T.nk⟩⟩
  ·unfold rA
   generalize aN t0 t1 p0 p1=sT at *
   generalize u.t=ut at *
   generalize e.t=et at *
   simp?[fx,Q4,hb,k2]
  ·rcases fp2 j hj with q|q
   ·exact q1 j z (zaD _ q)
   ·have:=T1.wH.lt j z;omega
 |some w =>
  rw[hr] at k1 em;rw[if_neg (by simp)] at em
  subst em;obtain⟨S2,k2,o2⟩:=QK B1 M1 T.D hn hr;have T':Tb S1 b kb ma kk u t0 t1 p0 p1 K m' y1 rQ d n:=⟨B1,M1,T1.wH,T1.a.trans T.a2,T.D,T.R,T.n1,n2',dj',c1,T.nk⟩
  exact .inr ⟨S1,S2,rQ,w,QG hr,k1,k2,T'.only o2⟩
theorem C6 (T:Tb S b kb ma kk u t0 t1 p0 p1 K m y1 y2 d n)(l0:p0.length=d)(l1:p1.length=d)(d2:2<=d)(sA:d<=11)(hl:K.length<=500)(hn:n<=500):∃S',CK [.hd b,.hd ma,.hd kk] S = .ok (.bl true) S'/\aM [] S S':=by
 have lP:Tr.kK (K.map bR.t)=true/\Tr.qX (K.map bR.t)<=5:=by
  refine⟨?_,yO λt ht=>?_⟩
  ·rw[fW,zcU,zaM]
   intro e _;cases e<;>rfl
  ·obtain⟨e,_,rfl⟩:=zbm.mp ht
   cases e<;>simp[bR.t,B.t,Tr.dp,Tr.qX]
 have eqK:∀(neg:Bool) (S:Cs) (i:Nat),S[i]? = some (.bA (K.map bR.t))->S[kk]? = some (.bA (K.map bR.t))->c7 neg (.hd i) (.hd kk) S = .ok (.bl (!neg)) S:=λneg S i h1 h2=>CZ (.inr ⟨_,rfl,h1⟩) (.inr ⟨_,rfl,h2⟩) lP.1 lP.2
 have k1:=C3 T.B;have o1:aM [] S (S++[.bA (K.map bR.t)]):=aM.qW
 have T1:=T.only o1;have g1:=eqK true _ S.length (ju S _) T1.k
 obtain⟨S2,y3,k2,F2⟩:=C4 T1.B l0 l1 d2 sA T.R hl;have T2:=T1.only F2.on;have a1:=Y0 F2.wH F2.D;have a2:=Y0 T2.M2 T.D;have ls1:(S++[Ce.bA (K.map bR.t)]).length=S.length+1:=by simp
 rw[F2.a,ls1] at a1;rw[ls1] at k2;rw[T.a2] at a2;have al:=aeM F2.D true S2;have f2:=F2.on.at (ju S (.bA (K.map bR.t))) (by simp)
 have ls2:=aD f2;obtain⟨S3,Lj⟩:∃S3,S3=S2.set S.length (.bA (K.map bR.t++[.bB])):=⟨_,rfl⟩
 have o3:aM [] S S3:=by
  rw[Lj];exact (o1.trans F2.on).fresh (F':=[S.length]) (aM.set (by simp)) λj hj=>.inr (by rw[zav] at hj;omega)
 have T3:=T.only o3;obtain⟨S4,y4,k4,F4⟩:=C4 T3.B l0 l1 d2 sA T.R hl;obtain⟨S5,y5,m5,k5,T5,_,_⟩:=Fb F4.wH F4.D.z (by omega) .jB
 rw[F4.a] at k5;have o5:aM [] S S5:=(o3.trans F4.on).fresh T5.on λj hj=>.inr (zai o3.1 (F4.fp j hj))
 have T6:=T.only o5;have k6:=C3 T6.B;have g6:=eqK false _ S5.length (ju S5 _) (aM.at (F:=[]) (aM.qW (r:=[.bA (K.map bR.t)])) T6.k (by simp))
 refine⟨S5++[.bA (K.map bR.t)],?_,o5.trans aM.qW⟩
 have hb:=T.B.hb;have hb1:=T1.B.hb;have hb3:=T3.B.hb;have hb6:=T6.B.hb;unfold Vs at hb hb1 hb3 hb6;have zK:(K.length<sizeLine)=True:=gk (by omega)
 have Y5:(K.map bR.t).length=K.length:=by simp
 have ct:bR.jB.t = .tp [.str "close"]:=rfl
 rw[ct] at k5;unfold CK;generalize J6 m=aT at *
 generalize K.map bR.t=L at *
 simp?[fx,Q4,hb,k1,↓g1,hb1,k2,a1,a2,↓al,f2,zK,Y5,<-Lj,hb3,k4,k5,hb6,k6,↓g6]
end
theorem law (ns:List Int)(Le:ns.length<=63):∃S,Qe [.kl (ns.map .int)] [] = .ok (.bl true) S:=by
 obtain⟨cs,ec,lc⟩:=ae2 ns Le []
 obtain⟨u,eu,u2,u11⟩:=QB cs (by omega) []
 obtain⟨d,hd⟩:=zbH (by omega:0<=u.d)
 have d2:2<=d:=by omega
 have sA:d<=11:=by omega
 obtain⟨t0,t1,p0,p1,et,l0,l1⟩:=QD cs (by omega) d d2 sA []
 have hg5:∀S,bJ u.t (.int 5) S = .ok (.int (d:Int)) S:=λS=>by rw[<-hd];rfl
 obtain⟨mn,hmn,atR⟩:∃mn:Nat,(∀S,xx [.int 60,.int (3 * (cs.length:Int))] S = .ok (.int (mn:Int)) S)/\mn<=60:=by
  by_cases q:60<=3 * cs.length
  ·exact⟨60,λS=>by unfold xx;simp only[];split<;>first|rfl | (congr 2;omega)|omega,zah _⟩
  ·exact⟨3 * cs.length,λS=>by unfold xx;simp only[];split<;>first|rfl | (congr 2;omega)|omega,by omega⟩
 obtain⟨es,mN,ee,hR,hle⟩:=Fc cs (by omega) u t0 t1 l0 l1 d2 sA mn (by omega) []
 have zc:(cs.length<=sizeLine)=True:=bF (by omega)
 have odd:=λ(k:Int) (k0:0<=k) (k1:k<8000) (S:Cs)=>akk cs (by omega) k0 k1 t0 t1 l0 l1 d2 sA es (by omega) S
 have drw:=λ(k dc:Int) (k0:0<=k) (k1:k<10000) (h0:0<dc) (h1:dc<1000000) (S:Cs)=>qL cs (by omega) k0 k1 h0 h1 S
 unfold Qe;have lX:(cs.map Tr.int).length=cs.length:=by simp
 have zE:(es.length<=sizeLine)=True:=bF (by omega)
 have lE:(es.map bR.t).length=es.length:=by simp
 generalize hX:cs.map Tr.int=X at *
 generalize hH:zA _ _ _ _ _ _=HC
 generalize hP:fQ (o9 _) _ _ _ _ _=PC
 obtain⟨S0,kH,lS0,c0,c1,c2⟩:∃S0:Cs,HC [some (.kl (ns.map .int)),some (.ls X),some u.t,some (aN t0 t1 p0 p1),some (.ls (es.map bR.t)),none,none,none,none,none,none,none,none] [] = .ok (.hd 2) S0/\S0.length=3/\S0[0]? = some (.bA (p0.map .str))/\S0[1]? = some (.bA (p1.map .str))/\S0[2]? = some (.bA [.tp [.str t0,.hd 0],.tp [.str t1,.hd 1]]):=by
  refine⟨[.bA (p0.map .str),.bA (p1.map .str),.bA [.tp [.str t0,.hd 0],.tp [.str t1,.hd 1]]],?_,rfl,rfl,rfl,rfl⟩
  subst hH;unfold aN;simp?[fx,qu]
 obtain⟨S1,y1,eb,B1,M1,o1,f1⟩:=QI u t0 t1 c2 c0 c1 l0 l1 d2 sA;rw[lS0] at eb B1 f1;have a0:=o1.at c0 (by simp)
 have a2:=o1.at c2 (by simp)
 obtain⟨S2,wj⟩:∃S2,S2=S1.set 0 (.bA (p0.map .str++[.str "zz"])):=⟨_,rfl⟩
 have b2:S2[2]? = some (.bA [.tp [.str t0,.hd 0],.tp [.str t1,.hd 1]]):=by rw[wj,cY (by decide)];exact a2
 obtain⟨S3,Lj⟩:∃S3,S3=S2.set 2 (.bA [.tp [.str t0,.hd 0]]):=⟨_,rfl⟩
 have gp:Ng (.hd 2) [] S2 = .ok (.tp [.str t1,.hd 1]) S3:=by
  have hl:cF S2 2=some [.tp [.str t0,.hd 0],.tp [.str t1,.hd 1]]:=by unfold cF;rw[b2]
  unfold Ng;simp only[hl,Lj];rfl
 have o3:aM [0,2] S1 S3:=by
  rw[Lj,wj];exact (aM.set (by simp)).trans (aM.set (by simp))
 have e4:=E7 u t0 t1 p0 p1 (by omega) (by omega) S3
 have F4:=Fm.init u t0 t1 l0 l1 d2 sA S3;have l13:S3.length=S1.length:=by rw[Lj,wj];simp
 obtain⟨pl,kP⟩:∃pl:List Int,∀gO fU Dl,PC [some (.kl (ns.map .int)),some (.ls X),some u.t,some (aN t0 t1 p0 p1),some (.ls (es.map bR.t)),some (.hd 2),some (.hd 3),some (.hd S3.length),none,none,gO,fU,Dl] (f9 S3 (cL u t0 t1 p0 p1)) = .ok (.ls (pl.map .int)) (f9 S3 (cL u t0 t1 p0 p1)):=by
  refine⟨[dv cs 2000 ((es.length:Int)+1),dv cs 2001 ((es.length:Int)+1),dv cs 2002 ((es.length:Int)+1),dv cs 2003 ((es.length:Int)+1),dv cs 2004 ((es.length:Int)+1),dv cs 2005 ((es.length:Int)+1),dv cs 2006 ((es.length:Int)+1),dv cs 2007 ((es.length:Int)+1)],λgO fU Dl=>?_⟩
  subst hP;generalize f9 S3 (cL u t0 t1 p0 p1)=SI
  have r8:(-4611686018427387904<=(8:Int)/\(8:Int)<4611686018427387904)=True:=eq_true (by decide)
  have D:=λ(k:Int) (k0:0<=k) (k1:k<10000)=>drw k ((es.length:Int)+1) k0 k1 (by omega) (by omega) SI
  have e0:=D 2000 (by decide) (by decide)
  have e1:=D 2001 (by decide) (by decide)
  have e2:=D 2002 (by decide) (by decide)
  have e3:=D 2003 (by decide) (by decide)
  have e4:=D 2004 (by decide) (by decide)
  have e5:=D 2005 (by decide) (by decide)
  have e6:=D 2006 (by decide) (by decide)
  have e7:=D 2007 (by decide) (by decide)
  have r:qx 0 8=[.int 0,.int 1,.int 2,.int 3,.int 4,.int 5,.int 6,.int 7]:=rfl
  generalize es.map bR.t=L at *
  simp?[fx,r8,r,zE,lE,e0,e1,e2,e3,e4,e5,e6,e7,qD,wB]
 have B3:=B1.only o3 (by simp) (by simp)
 have n02:∀j∈fp y1,j∉[0,2]:=λj hj q=>by
  have:=f1 j hj
  simp at q
  omega
 have M3:dP S3 (cL u t0 t1 p0 p1) y1:=M1.only o3 n02
 have lt1:∀j∈fp y1,j<S3.length:=λj hj=>by rw[l13];exact M1.lt j hj
 have l5:5<=S3.length:=by
  have:=aD B3.hk
  have:=F4.on.1
  have hy:=f1 y1.a (by simp[fp])
  have:=lt1 y1.a (by simp[fp])
  omega
 have o5:aM [] S3 (f9 S3 (cL u t0 t1 p0 p1)++[.bA []]):=F4.on.trans aM.qW
 have T5:Tb (f9 S3 (cL u t0 t1 p0 p1)++[.bA []]) 3 4 S3.length (f9 S3 (cL u t0 t1 p0 p1)).length u t0 t1 p0 p1 [] (cL u t0 t1 p0 p1) y1 (j6 S3.length) d 22:=by
  have n2:∀j∈fp (j6 S3.length),S3.length<=j/\j<(f9 S3 (cL u t0 t1 p0 p1)).length:=λj hj=>⟨F4.fp j hj,F4.wH.lt j hj⟩
  have lI:=F4.on.1;exact⟨B3.only o5 (by simp) (by simp),M3.only o5 (by simp),F4.wH.only (F:=[]) aM.qW (by simp),rfl,F4.D,rfl,⟨λq=>by have:=f1 _ q;omega,λq=>by have:=f1 _ q;omega,λq=>by have:=lt1 _ q;omega⟩,⟨λq=>by have:=n2 _ q;omega,λq=>by have:=n2 _ q;omega,λq=>by have:=n2 _ q;omega⟩,λj hj q=>by have:=lt1 _ hj;have:=n2 _ q;omega,ju _ _,by omega,by omega⟩
 have q_:∀(i:Int) (S:Cs),v9 false (.int i) (.ls (pl.map .int)) S = .ok (.bl (GH (.int i) (pl.map .int))) S:=λi S=>by
  unfold v9;simp only[xw];rw[if_pos ⟨rfl,by rw[zcU,zaM];intro _ _;rfl⟩]
  rfl
 have rn:(-4611686018427387904<=(es.length:Int)+1/\(es.length:Int)+1<4611686018427387904)=True:=eq_true (by omega)
 have rt:((es.length:Int)+1).toNat=es.length+1:=by omega
 have z3:(p0.length<sizeLine)=True:=gk (by omega)
 generalize hI0:f9 S3 (cL u t0 t1 p0 p1)=SI at *
 generalize hkk:SI.length=kk at *
 generalize hma:S3.length=ma at *
 generalize hI1:cP (mB (ai (v9 false) _ _)) _ _=I1
 generalize hI2:cP (mB (ai zu _ _)) _ _=I2
 generalize pl.map Tr.int=PL at *
 have akl:∀(i:Nat) (S:Cs) (K:List bR) (m:M) (y1 y2:Ly) (n:Nat) (fU Dl:Option Tr),i<=60->n<=400->K.length<=200->Tb S 3 4 ma kk u t0 t1 p0 p1 K m y1 y2 d n ->
   ∃(S':Cs) (K':List bR) (m':M) (Lk rQ:Ly) (w11 w12:Option Tr),I1 [some (.kl (ns.map .int)),some (.ls X),some u.t,some (aN t0 t1 p0 p1),some (.ls (es.map bR.t)),some (.hd 2),some (.hd 3),some (.hd ma),some (.ls PL),some (.hd kk),some (.int (i:Int)),fU,Dl] S = .nx [some (.kl (ns.map .int)),some (.ls X),some u.t,some (aN t0 t1 p0 p1),some (.ls (es.map bR.t)),some (.hd 2),some (.hd 3),some (.hd ma),some (.ls PL),some (.hd kk),some (.int (i:Int)),w11,w12] S'/\Tb S' 3 4 ma kk u t0 t1 p0 p1 K' m' Lk rQ d (n+1)/\K'.length<=K.length+1:=by
  intro i S K m y1 y2 n fU Dl hi hn hl T;subst hI1;cases hc:GH (.int (i:Int)) PL with
  |false =>
   refine⟨S,K,m,y1,y2,fU,Dl,?_,T.mono (by omega) (by omega),by omega⟩
   have q_:=q_ (i:Int) S
   rw[hc] at q_;generalize es.map bR.t=L at *
   simp?[fx,↓q_]
  |true =>
   have q_:=q_ (i:Int) S
   rw[hc] at q_;obtain⟨e,ho⟩:=odd (2010+9 * (i:Int)) (by omega) (by omega) S
   rcases QL T (by omega) (by omega) e with⟨S1,S2,Lk,rQ,k1,k2,c2,T'⟩|⟨S1,S2,rQ,w,hw,k1,k2,T'⟩
   ·refine⟨_,K++[e],_,Lk,rQ,some e.t,some (.str ""),?_,T',by simp⟩
    have zK:(K.length<sizeLine)=True:=gk (by omega)
    have Y5:(K.map bR.t).length=K.length:=by simp
    rw[zaE,qD,wB];generalize es.map bR.t=L at *
    generalize K.map bR.t=LK at *
    generalize e.t=eT at *
    simp?[fx,↓q_,ho,k1,k2,c2,zK,Y5]
   ·obtain⟨S3,k3,o3⟩:=C6 T' l0 l1 d2 sA (by omega) (by omega)
    refine⟨S3,K,m,y1,rQ,some e.t,some (.str w),?_,(T'.only o3).mono (by omega) (by omega),by omega⟩
    generalize es.map bR.t=L at *
    generalize e.t=eT at *
    simp?[fx,↓q_,ho,k1,k2,hw,k3]
 have akn:∀(i:Nat) (S:Cs) (K:List bR) (m:M) (y1 y2:Ly) (n:Nat) (fU Dl:Option Tr),i<=60->n<=400->K.length<=200->Tb S 3 4 ma kk u t0 t1 p0 p1 K m y1 y2 d n ->
   ∃(S':Cs) (K':List bR) (m':M) (Lk rQ:Ly) (w12:Option Tr),I2 [some (.kl (ns.map .int)),some (.ls X),some u.t,some (aN t0 t1 p0 p1),some (.ls (es.map bR.t)),some (.hd 2),some (.hd 3),some (.hd ma),some (.ls PL),some (.hd kk),some (.int (i:Int)),fU,Dl] S = .nx [some (.kl (ns.map .int)),some (.ls X),some u.t,some (aN t0 t1 p0 p1),some (.ls (es.map bR.t)),some (.hd 2),some (.hd 3),some (.hd ma),some (.ls PL),some (.hd kk),some (.int (i:Int)),fU,w12] S'/\Tb S' 3 4 ma kk u t0 t1 p0 p1 K' m' Lk rQ d (n+1)/\K'.length<=K.length+1:=by
  intro i S K m y1 y2 n fU Dl hi hn hl T;subst hI2;by_cases hc:i<es.length
  ·have F6:((i:Int)<(es.length:Int))=True:=eq_true (by omega)
   obtain⟨e,he,_⟩:=C5 hc;have hat:iE (es.map bR.t) (i:Int)=some e.t:=f_ (by rw[zau,he];rfl)
   rcases QL T (by omega) (by omega) e with⟨S1,S2,Lk,rQ,k1,k2,c2,T'⟩|⟨S1,S2,rQ,w,hw,k1,k2,T'⟩
   ·refine⟨_,K++[e],_,Lk,rQ,some (.str ""),?_,T',by simp⟩
    have zK:(K.length<sizeLine)=True:=gk (by omega)
    have Y5:(K.map bR.t).length=K.length:=by simp
    rw[zaE,qD,wB];generalize es.map bR.t=L at *
    generalize K.map bR.t=LK at *
    generalize e.t=eT at *
    simp?[fx,zu,F6,zE,lE,hat,k1,k2,c2,zK,Y5]
   ·refine⟨S2,K,m,y1,rQ,some (.str w),?_,T'.mono (by omega) (by omega),by omega⟩
    generalize es.map bR.t=L at *
    generalize e.t=eT at *
    simp?[fx,zu,F6,zE,lE,hat,k1,k2,hw]
  ·have F6:¬ (i:Int)<(es.length:Int):=by omega
   refine⟨S,K,m,y1,y2,Dl,?_,T.mono (by omega) (by omega),by omega⟩
   generalize es.map bR.t=L at *
   simp?[fx,zu,F6,zE,lE]
 have right:=λ(S:Cs) (K:List bR) (m:M) (y1 y2:Ly) (n:Nat) (T:Tb S 3 4 ma kk u t0 t1 p0 p1 K m y1 y2 d n) (hl:K.length<=500) (hn:n<=500)=>C6 T l0 l1 d2 sA hl hn
 clear hI1 hI2 q_ odd drw hH hP
 generalize hL:es.map bR.t=L at *
 simp?[fx,Q4,ec,eu,↓hg5,et,lX,zc,↓hmn,ee,kH,lS0,eb,a2,a0,z3,zaf,<-wj,b2,↓gp,hma,e4,kP,hkk,zE,lE,rn,rt];generalize hZ:gS _ _ _ _ _ _=Z
 obtain⟨τ,S7,⟨gO,fU,Dl,K,m,y1,y2,rfl,T7,lK7⟩,rfl⟩:=iY hZ (λi τ S'=>∃gO fU Dl K m y1 y2,τ=[some (.kl (ns.map .int)),some (.ls X),some u.t,some (aN t0 t1 p0 p1),some (.ls L),some (.hd 2),some (.hd 3),some (.hd ma),some (.ls PL),some (.hd kk),gO,fU,Dl]/\Tb S' 3 4 ma kk u t0 t1 p0 p1 K m y1 y2 d (22+2 * i)/\K.length<=2 * i) (λ_ _ _ _=>trivial) ⟨_,_,_,[],_,y1,_,rfl,T5,zah _⟩ (by
  rintro i t τ S' ht ⟨gO,fU,Dl,K,m,y1,y2,rfl,T,lK⟩
  obtain⟨ly,rfl⟩:=pA ht;obtain⟨S2,K2,m2,y12,y22,w11,w12,k1,T2,q2⟩:=akl i S' K m y1 y2 _ fU Dl (by omega) (by omega) (by omega) T
  obtain⟨S3,K3,m3,y13,y23,v12,k2,T3,q3⟩:=akn i S2 K2 m2 y12 y22 _ w11 w12 (by omega) (by omega) (by omega) T2
  refine⟨[some (.kl (ns.map .int)),some (.ls X),some u.t,some (aN t0 t1 p0 p1),some (.ls L),some (.hd 2),some (.hd 3),some (.hd ma),some (.ls PL),some (.hd kk),some (.int (i:Int)),w11,v12],S3,.inl ?_,_,_,_,K3,m3,y13,y23,rfl,T3,by omega⟩
  simp?[fx,k1,k2])
 rw[mG] at T7 lK7;obtain⟨S8,k8,_⟩:=right S7 K m y1 y2 _ T7 (by omega) (by omega)
 exact⟨S8,by simp?[fx,k8]⟩
theorem zq1 {α:Type _}{P:List α -> Prop}(h:∀a,P [a]):∀us:List α,us.length=1->P us
 |[a],_=>h a
theorem zq2 {α:Type _}{P:List α -> Prop}(h:∀a b,P [a,b]):∀us:List α,us.length=2->P us
 |[a,b],_=>h a b
theorem zq3 {α:Type _}{P:List α -> Prop}(h:∀a b c,P [a,b,c]):∀us:List α,us.length=3->P us
 |[a,b,c],_=>h a b c
theorem zq4 {α:Type _}{P:List α -> Prop}(h:∀a b c d,P [a,b,c,d]):∀us:List α,us.length=4->P us
 |[a,b,c,d],_=>h a b c d
theorem zq5 {α:Type _}{P:List α -> Prop}(h:∀a b c d e,P [a,b,c,d,e]):∀us:List α,us.length=5->P us
 |[a,b,c,d,e],_=>h a b c d e
section
variable {K:W.Frag}{h:Heap}{mg:Str->Option Value}{C:Addr}{x bV:Str}{st:Stmt}{ps:List Str}{f:Addr}{oc:Value}{od an:Option Addr}{Dd:Array (Option Value)}{kV nO pm eU ct:Value}(X:K.In h)(G:h.Ns mainGlobals mg)
include X G in
theorem dmk (hb:∀(kV nO pm:Value) (an:Option Addr) (eU ct:Value) (us:List Value),us.length=ps.length->bindArgs (W.fnOf x x (eE st) (cW st) (aj st) .none kV nO pm an eU ct) ⟨us,[]⟩=pure (ps.zip us))(a:W.nsIn K mainGlobals x=some (some (.ref f)))(l:K.lookup f=some ⟨oc,od,.func (W.fnOf x x (eE st) (cW st) (aj st) .none kV nO pm an eU ct),Dd⟩)(c:W.codeIn K eU x=true)(k:W.keepIn K (.ref f)=true):pe K mg x st ps f (W.fnOf x x (eE st) (cW st) (aj st) .none kV nO pm an eU ct):=⟨zh l c k,zed X G a,(zh l c k).qQ hb⟩
theorem mmk (hb:∀(kV nO pm:Value) (an:Option Addr) (eU ct:Value) (us:List Value),us.length=ps.length->bindArgs (W.fnOf x bV (eE st) (cW st) (aj st) .none kV nO pm an eU ct) ⟨us,[]⟩=pure (ps.zip us))(a:W.findIn K (.ref C) x=some (some (.ref f)))(i:W.isFn K (.ref f)=true)(l:K.lookup f=some ⟨oc,od,.func (W.fnOf x bV (eE st) (cW st) (aj st) .none kV nO pm an eU ct),Dd⟩)(c:W.codeIn K eU bV=true)(k:W.keepIn K (.ref f)=true):jt K C x bV st ps f (W.fnOf x bV (eE st) (cW st) (aj st) .none kV nO pm an eU ct):=⟨zh l c k,⟨a,i,k⟩,(zh l c k).qQ hb⟩
end
theorem aoc {l:W.OpenLaw}{w:World}{K:W.Frag}{h:Heap}{mg:Str->Option Value}{fa:Addr}(X:K.In h)(G:h.Ns mainGlobals mg)(hfa:mg "law"=some (.ref fa)){Bx BA BB BC BD BE ue xQ xR xS xT xU xV xW xX xY xZ x_ BF BG ya yb yc BH yd ye yf yg BI BJ BK BL BN BO BP yh Ew yi BQ BR yj JD yk JE JF ym yo JG JH BS BU yq yr yt yu yv yw yx BV BW Ex BX JI BY JJ yy BZ JK B4 B5:Addr}{uf ug uh um uo uq ur uv uw ux uy uz uA uB uC uD uE uF uG uH uI uJ uK uL uM uN uO uP uQ uR uS uU uV uW uX uY B6 uZ u5 u6 u9 B7 u_ B8 B9 vc vd B_ Ca ve vf vg vh vj vm vn vo vp vq vt Cb vz Cc vA Cd vD vE Cf vF nZ:FuncData}{aV bu gG:Addr}{jw zR iR iS m6 iU jx kQ m8 G6 kR iV jy m9:Tok}(TF:TxF K mg (AdF.mk Bx BA BB BC BD BE ue xQ xR xS xT xU xV xW xX xY xZ x_ BF BG ya yb yc BH yd ye yf yg BI BJ BK BL BN BO BP yh Ew yi BQ BR yj JD yk JE JF ym yo JG JH BS BU yq yr yt yu yv yw yx BV BW Ex BX JI BY JJ yy BZ JK B4 B5 uf ug uh um uo uq ur uv uw ux uy uz uA uB uC uD uE uF uG uH uI uJ uK uL uM uN uO uP uQ uR uS uU uV uW uX uY B6 uZ u5 u6 u9 B7 u_ B8 B9 vc vd B_ Ca ve vf vg vh vj vm vn vo vp vq vt Cb vz Cc vA Cd vD vE Cf vF nZ aV bu gG jw zR iR iS m6 iU jx kQ m8 G6 kR iV jy m9))
  {aE:Addr} {cdB:ClassData} {nmB qB:Str} {NB:Addr} {bsB aod:List Value} {TH:Bool} {snB:List Str} {abB:Bool} {aoe:Option Bool} {ddB:Option Addr} {kaB kbB kcB kdB keB:Option Value} {aof:String} {J_ QM:Str} {QN bz bf:Addr} {Ka Fe:List Value} {Kc:List Str} {Kd:Bool} {Ff:Option Bool} {Ke:Option Addr} {Kf Kg Kh Kl Km:Option Value} {Kn QO:Str} {QS bP bQ:Addr} {Ko Fg:List Value} {Kp:List Str} {Kq:Bool} {Fi:Option Bool} {Kr:Option Addr} {Ks Ku Kv Kw Ky:Option Value} {Fj Kz:Str} {KA bK bO:Addr} {Fl C7:List Value} {Fo:List Str} {Fp:Bool} {C8:Option Bool} {Fq:Option Addr} {Ft Fv Fw Fx Fy:Option Value} {FA kZ:Option Addr} {FD:Array (Option Value)} {FE k9 k_ lg ji lq:Value} {mS:Addr} {FF:Value} {FG:Option Addr} {KC:Nat} {FH:Array (Option Value)} {iZ:Tok}
  (aog:W.nsIn K mainGlobals "BookError"=some (some (.ref aE)))
  (aoh:W.clsIn K aE=some cdB)
  (aoi:W.typeIn K (.ref aE)=some (.type "type"))
  (aoj:W.specialIn K (.ref aE) "__getattribute__"=some (some (.builtin "type.__getattribute__")))
  (aok:W.readsIn K aE (.type "type")=true)
  (aol:W.findCls K (.ref aE) (.type "type") "__init__"=some (.val (.builtin "ValueError.__init__")))
  (ae3:W.tailIn K lM (.ref aE::lM)=true)
  (aom:K.lookup aE=some (excClassObj nmB qB aE NB bsB lM TH snB aod abB aoe ddB kaB kbB kcB kdB keB aof))
  (xgc:W.specialIn K (.builtin "object.__class__") "__get__"=some (some (.builtin "getset_descriptor.__get__")))
  (xtc:W.takesIn K (.builtin "object.__class__")=some true)
  (yQ:W.nsIn K mainGlobals "NotLet"=some (some (.ref bz)))
  (KD:K.lookup bz=some (excClassObj J_ QM bz QN Ka (.ref aE::lM) true Kc Fe Kd Ff Ke Kf Kg Kh Kl Km "ValueError.__new__"))
  (KG:W.findIn K (.ref bz) "__init__"=some (some (.ref bf)))
  (KH:W.typeIn K (.ref bf)=some (.type "function"))
  (KI:W.keepIn K (.ref bz)=true)
  (KJ:W.findIn K (.ref bz) "__setattr__"=some (some (.builtin "object.__setattr__")))
  (KL:W.findIn K (.ref bz) "__getattribute__"=some (some (.builtin "BaseException.__getattribute__")))
  (KN:W.findIn K (.ref bz) "__getattr__"=some none)
  (KO:W.findIn K (.ref bz) "__class__"=some (some (.builtin "object.__class__")))
  (KP:W.nsIn K mainGlobals "BadRow"=some (some (.ref bP)))
  (KQ:K.lookup bP=some (excClassObj Kn QO bP QS Ko (.ref aE::lM) true Kp Fg Kq Fi Kr Ks Ku Kv Kw Ky "ValueError.__new__"))
  (KR:W.findIn K (.ref bP) "__init__"=some (some (.ref bQ)))
  (KS:W.typeIn K (.ref bQ)=some (.type "function"))
  (KU:W.keepIn K (.ref bP)=true)
  (KW:W.findIn K (.ref bP) "__setattr__"=some (some (.builtin "object.__setattr__")))
  (KY:W.findIn K (.ref bP) "__getattribute__"=some (some (.builtin "BaseException.__getattribute__")))
  (KZ:W.findIn K (.ref bP) "__getattr__"=some none)
  (K0:W.findIn K (.ref bP) "__class__"=some (some (.builtin "object.__class__")))
  (FI:W.nsIn K mainGlobals "NoEntry"=some (some (.ref bK)))
  (FJ:K.lookup bK=some (excClassObj Fj Kz bK KA Fl (.ref aE::lM) true Fo C7 Fp C8 Fq Ft Fv Fw Fx Fy "ValueError.__new__"))
  (FL:W.findIn K (.ref bK) "__init__"=some (some (.ref bO)))
  (FN:W.typeIn K (.ref bO)=some (.type "function"))
  (FO:W.keepIn K (.ref bK)=true)
  (FP:W.findIn K (.ref bK) "__setattr__"=some (some (.builtin "object.__setattr__")))
  (FQ:W.findIn K (.ref bK) "__getattribute__"=some (some (.builtin "BaseException.__getattribute__")))
  (FT:W.findIn K (.ref bK) "__getattr__"=some none)
  (FU:W.findIn K (.ref bK) "__class__"=some (some (.builtin "object.__class__")))
  (vZ:W.findIn K (.ref bz) "rule"=some none)
  (qN:W.findIn K (.ref bz) "number"=some none)
  (K1:K.lookup bf=some ⟨FE,FA,.func (W.fnOf "__init__" "NotLet.__init__" (eE dM) (cW dM) (aj dM) (.ref mS) k9 k_ lg kZ ji lq),FD⟩)
  (K4:W.codeIn K ji "NotLet.__init__"=true)
  (yR:K.lookup mS=some ⟨FF,FG,.seq #[.int 0 iZ] KC,FH⟩)
  (K5:bz≠aE)
  (K6:bP≠aE)
  (FW:bK≠aE)
  (qO:bP≠bz)
  (pU:bK≠bz)
  : ∃fd:FuncData,(∀(s:Shared) (v:Value),BindsTo s fd ⟨[v],[]⟩ [("_law_script",v)])/\∀base:Heap,K.In base->base.Ns mainGlobals mg->aO l.prog w K mg base eB 12 fa fd ["_law_script"] (GX K):=by
 have e:=hfa.symm.trans TF.OJ.m;cases e;have C_:iW K bz bf (.ref aE::lM):=⟨⟨_,_,_,_,_,_,_,_,_,_,_,_,_,_,KD⟩,ae3,KG,KH,KI,KJ,KL,KN,KO,⟨_,rfl⟩⟩
 have QT:iW K bP bQ (.ref aE::lM):=⟨⟨_,_,_,_,_,_,_,_,_,_,_,_,_,_,KQ⟩,ae3,KR,KS,KU,KW,KY,KZ,K0,⟨_,rfl⟩⟩
 have K7:iW K bK bO (.ref aE::lM):=⟨⟨_,_,_,_,_,_,_,_,_,_,_,_,_,_,FJ⟩,ae3,FL,FN,FO,FP,FQ,FT,FU,⟨_,rfl⟩⟩
 have K8:d_ K (W.fnOf "__init__" "NotLet.__init__" (eE dM) (cW dM) (aj dM) (.ref mS) k9 k_ lg kZ ji lq) ["self","words","rule","number"] []:=λs us X' hl=>by
  rw[zay] at hl ⊢
  match us,hl with|[_,_,_,_],_=>exact W.binds_K X' rfl yR rfl rfl rfl
 have FY:d_ K (W.fnOf "__init__" "NotLet.__init__" (eE dM) (cW dM) (aj dM) (.ref mS) k9 k_ lg kZ ji lq) ["self","words","rule","number"] [.int 0 iZ]:=λs us X' hl=>by
  have Gq:us.length=3:=by simpa using hl
  match us,Gq with|[_,_,_],_=>exact W.binds_K X' rfl yR rfl rfl rfl
 have aon:∀p∈([("NotLet",bz,bf),("BadRow",bP,bQ),("NoEntry",bK,bO)]:List (Str×Addr×Addr)),mg p.1=some (.ref p.2.1)/\iW K p.2.1 p.2.2 (.ref aE::lM):=by
  intro p hp;simp only[zam,zax,or_false] at hp;rcases hp with rfl|rfl|rfl
  ·exact⟨zed X G yQ,C_⟩
  ·exact⟨zed X G KP,QT⟩
  ·exact⟨zed X G FI,K7⟩
 let a:Ad:={ toAdF:=AdF.mk Bx BA BB BC BD BE ue xQ xR xS xT xU xV xW xX xY xZ x_ BF BG ya yb yc BH yd ye yf yg BI BJ BK BL BN BO BP yh Ew yi BQ BR yj JD yk JE JF ym yo JG JH BS BU yq yr yt yu yv yw yx BV BW Ex BX JI BY JJ yy BZ JK B4 B5 uf ug uh um uo uq ur uv uw ux uy uz uA uB uC uD uE uF uG uH uI uJ uK uL uM uN uO uP uQ uR uS uU uV uW uX uY B6 uZ u5 u6 u9 B7 u_ B8 B9 vc vd B_ Ca ve vf vg vh vj vm vn vo vp vq vt Cb vz Cc vA Cd vD vE Cf vF nZ aV bu gG jw zR iR iS m6 iU jx kQ m8 G6 kR iV jy m9,aE:=aE,bz:=bz,bP:=bP,bK:=bK,bf:=bf,bQ:=bQ,bO:=bO,eF:=W.fnOf "__init__" "NotLet.__init__" (eE dM) (cW dM) (aj dM) (.ref mS) k9 k_ lg kZ ji lq,iZ:=iZ}
 have T:Txt K mg a:={
  toTxF:=TF
  Er:=⟨zed X G aog,⟨aoj,aok,aol⟩,by show (W.clsIn K aE).isSome=true;rw[aoh];rfl,aoi,⟨_,_,_,_,_,_,_,_,_,_,_,_,_,_,_,_,aom⟩,⟨xgc,xtc⟩,aon⟩
  gn:=⟨C_,zed X G yQ,K8,⟨_,_,_,_,_,_,_,_,_,_,_,rfl,K1,K4⟩⟩
  yC:=FY
  ja:=vZ
  gZ:=qN
  JO:=K5
  yD:=K6
  vH:=FW
  jW:=qO
  jA:=pU
 }
 obtain⟨_,_,_,_,_,_,_,_,_,ef,_⟩:=TF.OJ.F.ex;exact⟨nZ,λs v=>by rw[show nZ=_ from ef];exact .of_eq rfl,λbase _ _=>abq (adb T) law⟩
theorem walk {l:W.OpenLaw}{q:Program}{wZ:List Str}{XP:(Str->Option Value)->Heap->Prop}{YP:World->Heap->Prop}{d:DefRec}{K:Params->W.Frag}(hn:l.most=some 63)(hdf:d.params.defaults=[])
  (hY:∀(w:World) (h:Heap),YP w h->(K w.params).In h)
  (F:∀(w:World) (mg:Str->Option Value) (fa:Addr) (h:Heap),(K w.params).In h->h.Ns mainGlobals mg->mg d.name=some (.ref fa) ->
   ∃fd:FuncData,(∀(s:Shared) (u:Value),BindsTo s fd ⟨[u],[]⟩ [("_law_script",u)])/\∀base:Heap,(K w.params).In base->base.Ns mainGlobals mg->aO l.prog w (K w.params) mg base eB 12 fa fd ["_law_script"] (GX (K w.params))):
  W.WalkO q wZ XP YP l.row.toRowW d [] (λf vs=>PySem.call f vs):=
 L2.RV (n:=63) (k:=12) (x:= "_law_script") (CX:=λ_=>eB) (sp:=λw=>GX (K w.params)) hn (by decide) hdf ⟨rfl,by decide,by decide⟩ hY F (λ_ _ a ns hl _ hS=>⟨a,ns,rfl,hS,hl,λ_=>rfl⟩) λ_ _ _ _ _ z=>z
end My
structure PySem.W.Fast:Prop where(tw4753376524021929869 tw12583779286835439230 tw7905259484937867221 tw518847917776153931 tw13383037987497823033 tw13264604436947412227 tw375223425856374386 tw5613166457839161866 tw5625856523381768348 tw3149931137460050739 tw4132914903883108809 tw18062918310873743192 tw17260790401154686062 tw1178249255382228429 tw12480021670675172491 tw15431796076642060491 tw1675836523459814193 tw18385692695442541755 tw11084975642645444816 tw8052856767169056720 tw13254828300663452113 tw15237899837142335457 tw17983511446419062448 tw1961538895834738143 tw15576751254195126093 tw12179909409022245878 tw8520122490024373869 tw3030419650420284516 tw10803380613484531393 tw10518142570185278488 tw16732146868421101020 tw1801142103576877717 tw12701816653631555692 tw2213109896051305052 tw8127511543805595384 tw4204810143377299831 tw12981783663681546643 tw10686148208543878421 tw7540671501993326772 tw11016340202543226693 tw13536793060972156627 tw16905039795021734645 tw1609936463598884724 tw16651597406637220078 tw14466272755487011333 tw1016435257427080585 tw4799427258456670028 tw15918657528972696971 tw3045615560988379367 tw9229611776006003034 tw14287445846821536152 tw2187626713867634814 tw15536944855446332993 tw18088102801632592531 tw2516308777341194797 tw7177117229922170885 tw6699019560046400372 tw8115266707776948684 tw340533190080863481 tw10794803176129528414 tw3876650165998309865 tw3810913183281814939 tw13726283534809280680 tw18152010023635074160 tw1495060211013542323 tw5735643612090001283 tw7575731142412329685 tw8428336545995967881 tw11202398027845941080 tw10406203867572706534 tw2032875359879740020 tw2455628376758725153 tw7653478896677864705 tw2342505427249284316 tw376284111631979083 tw15899662983299913623 tw14994642272707598574 tw7934556254014094835 tw11451257129049105641 tw3238439955449875621 tw10995992477754244387 tw7487852435241543468 tw13712529096928146299 tw2632698342985318384 tw11899069397814925986 tw7812534225956352400 tw18378935286568537201 tw16584130402114595130 tw8826742467621803789 tw223857422049703282 tw1355934917681667500 tw7744163803665832793 tw13763426272495347635 tw17398355548269906138 tw8916476311093234344 tw5908889314283560317 tw11140049385982201630 tw16697983489940775026 tw18184714185083381353 tw5999686963787642177 tw2085285345491410346 tw11076677246862367479 tw14346801278022546045 tw16564244809082568223 tw11808943202022250830 tw8262388286651307780 tw14405818814349009825 tw16329104447506897683 tw8229335673592792696 tw8999130955175253236 tw12024321387955437499 tw7098375529403563842 tw13036292390106457412 tw2959475101454200482 tw10353809270145723452 tw3253087657036085426 tw10775229634527335029 tw2656675881197698908 tw16291768939905374780 tw2127770779833568086 tw2541481321293689386 tw9116806362018055623 tw3419656371321061278 tw13562973696301921146 tw7640361310360983568 tw6458844261858836617 tw6784540807260068003 tw15690613284147463007 tw14766965618736245910 tw17366460498020220283 tw4356927066992852528 tw7142607120173163482 tw4874650844656461833 tw17154774930962802424 tw4231366069000325977 tw12897759558887128836 tw10591560366928492609 tw16966188424842697710 tw9446508236911041864 tw17396986056155011801 tw4833092263889258916 tw3575219190671499246 tw249697793963126264 tw5667280991159608027 tw79254759583794035 tw6855624153319254383 tw1320202967348728545 tw3402230093411156227 tw2458300858976755270 tw5907450256961590610 tw8466179790711036768 tw16354232938213056036 tw1050836702593050893 tw12331024920125062650 tw13650129196435114445 tw6822986148748055059 tw8269251440780970900 tw11380162706368295180 tw10618071110835564272 tw11190973981939097686 tw12830662742446343594 tw15296757082966791397 tw11548443280136628060 tw17134403275464714636 tw149262592365335618 tw12371344400938889969 tw5615276544841079306 tw8070273678752332397 tw5469675323938105219 tw15785368406354236029 tw8854157225396102608 tw7994677428025732217 tw4231056326688789792 tw7036920241763355669 tw10451378386476561018 tw14572316284325128261 tw12982268208893714250 tw14997686910399023422 tw5562392144635989779 tw2864020629138655335 tw8593060058098400152 tw6493592991918116269 tw1690612859076000866 tw7199655741208728752 tw7072441988994562302 tw561867222569720068 tw18331132434262345128 tw15105728176643146324 tw5791561105777332986 tw1626117830321010323 tw3683306181730403426 tw15027491920933239470 tw4986541426226443324 tw1477386818463670873 tw3230454453804100801 tw1654399348268032344 tw5965029647675652554 tw2668500180866449858 tw12897805365370786063 tw7029281999945794201 tw7469192692965386785 tw17066627248351720778 tw7102997811262904181 tw8356567784698560449 tw11206980578023743840 tw5346410069503111404 tw2377873697213420859 tw3368039440575758520 tw4321987861977680108 tw14643686681205193380 tw16422644194818402061 tw15572910802427232512 tw7814184048726369518 tw8816588704178165555 tw4770073358753208574 tw1436512826777423926 tw11476445714303182270 tw2341081865656392420 tw8850902084957472806 tw17415645052125020203 tw10105281005408279758 tw6215852330858730313 tw3295201707226539542 tw4209437719027824812 tw12442337659818896478 tw12691548640796902654 tw4103644603628252569 tw6855309331418401466 tw4099170489773348513 tw2621520995385227801 tw4653686360347103734 tw17009575795001659514 tw1035346355921853995 tw13858890017954252615 tw7529266437183232777 tw1554849847087420100 tw16817155251252081511 tw12772875275797171345 tw14268372468841467698 tw7416816665029695265 tw2011894611186814541 tw3030102775444879423 tw14890728809612751686 tw13113876879755241904 tw11432081616656502711 tw16243902772384180487 tw16617145373789935219 tw18041686980982785610 tw544381186276464916 tw10155343850762394828 tw13924528271815032669 tw5124955337088220787 tw10550563044217411855 tw12356186674812162068 tw8273672952483445829 tw14144864155400071062 tw1540841043759699726 tw6687935268446199962 tw16758929588785323609 tw15604234035019598260 tw14615482274014484894 tw18396515302457047966 tw13772200381871665319 tw3480291452660541513 tw3540432570212712187 tw15491851667521581457 tw10205137253923621498 tw8348804192259519824 tw11334725412939386403 tw15751627779069461857 tw14184915170936985839 tw4615130225964057760 tw6416421455029820533 tw16877913105376188895 tw9920360186013181613 tw4087304102426881203 tw16816317519052733455 tw18190650881369043210 tw18340736219995539499 tw7263617966876313897 tw15172654693974712812 tw15546929741286621375 tw12470857155016612195 tw10452853267346285781 tw3554818467741236837 tw12080660227051323963 tw13731229673901744125 tw14047798266133045092 tw8240033893415230707 tw7666801531631398302 tw5694066919402732928 tw2107114658896717744 tw16635435458227668294 tw618753663825028854 tw12850211089163278879 tw5175143506999805693 tw8410521102744419686 tw16079584572600216942 tw13995470714500915173 tw11994532865790375250 tw9630698386878752828 tw9220067561693304362 tw6568904458898054538 tw14335571227223332283 tw17147820262458110686 tw11473779252696346875 tw4795723074383343051 tw357090447056084371 tw346361629587911451 tw10817237228005261923 tw4325419126633385728 tw15121021829716047700 tw1444372760278815344 tw18252787069551812546 tw10721734125916991692 tw8490866993399286159 tw10145850611754942815 tw16787254535470663703 tw1634518697310909341 tw11141154687598465409 tw1940104882623430646 tw16291263388074410643 tw1703130367033779312 tw9566560022500724244 tw5060177672247223027 tw11970030132296474869 tw1073301595465599484 tw4809893088371632124 tw3623646868197981278 tw1056188078765465835 tw4398702360315375375 tw15911935022821122199 tw505497350309551139 tw4481074762708484662 tw18438095093349519947 tw7552453957871487882 tw15813781395455515406 tw4263456908730722728 tw16278961883049868854 tw9925621771731148749 tw7557842878698125200 tw8417594373478884464 tw14584787795281749102 tw411893417577264627 tw957421954132644828 tw2668590858208083583 tw5320238899393819970 tw18301398227926621969 tw2804515982073912265 tw7822602506619300833 tw13020732820886981273 tw16187227160038867666 tw7731684758173159349 tw1580827985400544205 tw4519670931192126109 tw17622333351782849510 tw4194510855564084714 tw5015800528510221879 tw5079317034915041419 tw2660646619453121114 tw6541290622981002267 tw11064622183546423154 tw5226494175819031312 tw7971600274817392241 tw15863105079899688452 tw11336844584438296373 tw5716182689442356350 tw11540543283676244696 tw338157155906963086 tw8387103676393957002 tw11568087425278830219 tw4046736852313933968 tw14075301729097895050 tw12905300791191886750 tw17254028431354728803 tw1035923976315089098 tw4778755904273822692 tw3294713140007914979 tw1410174322281506289 tw15224752045929343921 tw2774150746373189531 tw11553973848070282588 tw6685348427317153428 tw9200698777985684004 tw13825454915435839633 tw13262598207185814835 tw11495354345528912024 tw10517591753056117267 tw13500073718371028360 tw15370459540602078096 tw445672741268778397 tw17147188929781276440 tw14771580778328366025 tw13957618716336135074 tw2753770350204495877 tw16588378646902038506 tw14428078526000001020 tw3364661202187386965 tw16229507494465271406 tw14499414615134399363 tw7427841987307800190 tw9293809795530839964 tw8116522147471503332 tw14098868428513213914 tw10161673531010097598 tw14471850372651923386 tw12961395481024925036 tw4402204902606988703 tw6675030380689680775 tw13381927657637935358 tw4228663358458045124 tw16115328002168849269 tw16670822405940116542 tw14556339825763081718 tw8080746296500023449 tw11242887447797481429 tw13236535099526407478 tw9373176814503510531 tw14073829343649047610 tw2162677531938676689 tw16872815221489675086 tw169988127581947701 tw8263509977546017666 tw4154248873962472320 tw4398223931467546475 tw14245025737851431018 tw11896528884953229453 tw10675255241452409715 tw11441244408175710437 tw2295497457275038286 tw4517552414326541245 tw13733473412203261568 tw17999676003598398403 tw13680705314401979433 tw15721245268327942305 tw8194000904097273421 tw5841950072135199054 tw5399977815998736988 tw7058908001754638666 tw15407520835021611179 tw10352024575141386038 tw6970977372259752440 tw2830331231216656385 tw15623318208890897794 tw13726095384879008356 tw15396937867933679013 tw413195537000309676 tw11407962931603901441 tw15613200861215282981 tw2579785922421217559 tw10117458574782196753 tw13300284398660380427 tw10166804304307886857 tw3639031329136849041 tw7542709308492831884 tw2301423219634632936 tw3766915545142968316 tw6332455823021736465 tw10510494892836973798 tw9079968807746480370 tw3318827874627501908 tw2085508988767285045 tw13447318897371478886 tw12157480349096429732 tw7589080947668128313 tw18088786855687919324 tw11784901563457724387 tw14507329670645241395 tw6410461048002457008 tw988764882745603533 tw7423816200986293614 tw10753449892661948048 tw12404978478690667204 tw9049453516462335953 tw1959025368891476898 tw17837514312777681209 tw14170213025413223401 tw1294438084818582604 tw4074856312636052290 tw8972877872844595492 tw13771983298401011638 tw17560420314199206384 tw6301830149823443053 tw14721621323841511537 tw12233198974505944813 tw10343594039344504025 tw9815401727378558099 tw6461651493956514760 tw12851721891855192466 tw14995726652959265445 tw15564255223238783517 tw14888900983290250807 tw4342702951223424150 tw2217682658496514546 tw1545175405277062167 tw3192242844374059896 tw2972578781301058047 tw4868667366249578023 tw14388271255182529222 tw3373337743974766997 tw16934083653728720696 tw11622616236546549781 tw4733283503699210981 tw17425506279543097535 tw15282088628657610476 tw16564766259747892143 tw3927794302887232861 tw5481605556054768672 tw10426368206659064853 tw10147538043619614760 tw13672915293011058515 tw6442178315637043123 tw8811540014525807199 tw6190544388913828659 tw11108004593411792215 tw17642927542156013582 tw9952337946723083930 tw8514103667832143276 tw11018849385302826950 tw12071002429760539897 tw5860486146958880767 tw15672643798914723349 tw4491008380224087677 tw3157068817619992859:True)
open PySem PySem.W PyProof.Rows
set_option maxRecDepth 100000 in
set_option maxHeartbeats 0 in
theorem PySem.Challenge.cw_inningsbook_k50_told_and_kept_holds : PySem.Challenge.rw_inningsbook_k50_told_and_kept.Holds := by
  w_on; o_law; k_head; (case hw => w_witness2)
  k_fill
  refine My.walk (l := PySem.Challenge.rw_inningsbook_k50_told_and_kept) rfl rfl (fun w h Y => PySem.W.kIn_of Y) ?F
  case F =>
    intro w mg fa h KX G hmg
    refine' My.aoc KX G hmg ⟨PySem.W.mg_none_of KX G ?_, PySem.W.mg_none_of KX G ?_, PySem.W.mg_none_of KX G ?_, PySem.W.mg_none_of KX G ?_, PySem.W.mg_none_of KX G ?_, PySem.W.mg_none_of KX G ?_, PySem.W.mg_none_of KX G ?_, PySem.W.mg_none_of KX G ?_, PySem.W.mg_none_of KX G ?_, PySem.W.mg_none_of KX G ?_, PySem.W.mg_of KX G ?_, PySem.W.mg_of KX G ?_, PySem.W.mg_of KX G ?_, PySem.W.mg_of KX G ?_, PySem.W.mg_of KX G ?_, PySem.W.mg_of KX G ?_, PySem.W.mg_of KX G ?_, PySem.W.mg_of KX G ?_, PySem.W.mg_of KX G ?_, PySem.W.mg_of KX G ?_, PySem.W.mg_of KX G ?_, PySem.W.mg_of KX G ?_, PySem.W.mg_of KX G ?_, PySem.W.mg_of KX G ?_, My.dmk KX G (fun _ _ _ _ _ _ => My.zq2 (fun _ _ => rfl)) ?_ ?_ ?_ ?_, My.dmk KX G (fun _ _ _ _ _ _ => My.zq3 (fun _ _ _ => rfl)) ?_ ?_ ?_ ?_, My.dmk KX G (fun _ _ _ _ _ _ => My.zq3 (fun _ _ _ => rfl)) ?_ ?_ ?_ ?_, My.dmk KX G (fun _ _ _ _ _ _ => My.zq1 (fun _ => rfl)) ?_ ?_ ?_ ?_, My.dmk KX G (fun _ _ _ _ _ _ => My.zq2 (fun _ _ => rfl)) ?_ ?_ ?_ ?_, My.dmk KX G (fun _ _ _ _ _ _ => My.zq2 (fun _ _ => rfl)) ?_ ?_ ?_ ?_, My.mmk (fun _ _ _ _ _ _ => My.zq3 (fun _ _ _ => rfl)) ?_ ?_ ?_ ?_ ?_, My.mmk (fun _ _ _ _ _ _ => My.zq1 (fun _ => rfl)) ?_ ?_ ?_ ?_ ?_, My.mmk (fun _ _ _ _ _ _ => My.zq1 (fun _ => rfl)) ?_ ?_ ?_ ?_ ?_, My.mmk (fun _ _ _ _ _ _ => My.zq2 (fun _ _ => rfl)) ?_ ?_ ?_ ?_ ?_, My.mmk (fun _ _ _ _ _ _ => My.zq2 (fun _ _ => rfl)) ?_ ?_ ?_ ?_ ?_, My.mmk (fun _ _ _ _ _ _ => My.zq1 (fun _ => rfl)) ?_ ?_ ?_ ?_ ?_, My.mmk (fun _ _ _ _ _ _ => My.zq1 (fun _ => rfl)) ?_ ?_ ?_ ?_ ?_, My.mmk (fun _ _ _ _ _ _ => My.zq1 (fun _ => rfl)) ?_ ?_ ?_ ?_ ?_, My.mmk (fun _ _ _ _ _ _ => My.zq1 (fun _ => rfl)) ?_ ?_ ?_ ?_ ?_, My.mmk (fun _ _ _ _ _ _ => My.zq1 (fun _ => rfl)) ?_ ?_ ?_ ?_ ?_, My.mmk (fun _ _ _ _ _ _ => My.zq1 (fun _ => rfl)) ?_ ?_ ?_ ?_ ?_, My.mmk (fun _ _ _ _ _ _ => My.zq1 (fun _ => rfl)) ?_ ?_ ?_ ?_ ?_, My.dmk KX G (fun _ _ _ _ _ _ => My.zq3 (fun _ _ _ => rfl)) ?_ ?_ ?_ ?_, My.dmk KX G (fun _ _ _ _ _ _ => My.zq4 (fun _ _ _ _ => rfl)) ?_ ?_ ?_ ?_, My.mmk (fun _ _ _ _ _ _ => My.zq2 (fun _ _ => rfl)) ?_ ?_ ?_ ?_ ?_, My.mmk (fun _ _ _ _ _ _ => My.zq2 (fun _ _ => rfl)) ?_ ?_ ?_ ?_ ?_, My.mmk (fun _ _ _ _ _ _ => My.zq2 (fun _ _ => rfl)) ?_ ?_ ?_ ?_ ?_, My.dmk KX G (fun _ _ _ _ _ _ => My.zq2 (fun _ _ => rfl)) ?_ ?_ ?_ ?_, My.mmk (fun _ _ _ _ _ _ => My.zq3 (fun _ _ _ => rfl)) ?_ ?_ ?_ ?_ ?_, My.mmk (fun _ _ _ _ _ _ => My.zq1 (fun _ => rfl)) ?_ ?_ ?_ ?_ ?_, My.mmk (fun _ _ _ _ _ _ => My.zq1 (fun _ => rfl)) ?_ ?_ ?_ ?_ ?_, My.mmk (fun _ _ _ _ _ _ => My.zq1 (fun _ => rfl)) ?_ ?_ ?_ ?_ ?_, My.dmk KX G (fun _ _ _ _ _ _ => My.zq2 (fun _ _ => rfl)) ?_ ?_ ?_ ?_, My.dmk KX G (fun _ _ _ _ _ _ => My.zq4 (fun _ _ _ _ => rfl)) ?_ ?_ ?_ ?_, My.dmk KX G (fun _ _ _ _ _ _ => My.zq1 (fun _ => rfl)) ?_ ?_ ?_ ?_, My.dmk KX G (fun _ _ _ _ _ _ => My.zq2 (fun _ _ => rfl)) ?_ ?_ ?_ ?_, My.dmk KX G (fun _ _ _ _ _ _ => My.zq3 (fun _ _ _ => rfl)) ?_ ?_ ?_ ?_, My.dmk KX G (fun _ _ _ _ _ _ => My.zq4 (fun _ _ _ _ => rfl)) ?_ ?_ ?_ ?_, My.dmk KX G (fun _ _ _ _ _ _ => My.zq5 (fun _ _ _ _ _ => rfl)) ?_ ?_ ?_ ?_, My.mmk (fun _ _ _ _ _ _ => My.zq2 (fun _ _ => rfl)) ?_ ?_ ?_ ?_ ?_, My.mmk (fun _ _ _ _ _ _ => My.zq5 (fun _ _ _ _ _ => rfl)) ?_ ?_ ?_ ?_ ?_, My.mmk (fun _ _ _ _ _ _ => My.zq2 (fun _ _ => rfl)) ?_ ?_ ?_ ?_ ?_, My.dmk KX G (fun _ _ _ _ _ _ => My.zq3 (fun _ _ _ => rfl)) ?_ ?_ ?_ ?_, My.dmk KX G (fun _ _ _ _ _ _ => My.zq2 (fun _ _ => rfl)) ?_ ?_ ?_ ?_, My.mmk (fun _ _ _ _ _ _ => My.zq2 (fun _ _ => rfl)) ?_ ?_ ?_ ?_ ?_, My.mmk (fun _ _ _ _ _ _ => My.zq1 (fun _ => rfl)) ?_ ?_ ?_ ?_ ?_, My.mmk (fun _ _ _ _ _ _ => My.zq2 (fun _ _ => rfl)) ?_ ?_ ?_ ?_ ?_, My.mmk (fun _ _ _ _ _ _ => My.zq3 (fun _ _ _ => rfl)) ?_ ?_ ?_ ?_ ?_, My.mmk (fun _ _ _ _ _ _ => My.zq2 (fun _ _ => rfl)) ?_ ?_ ?_ ?_ ?_, My.mmk (fun _ _ _ _ _ _ => My.zq3 (fun _ _ _ => rfl)) ?_ ?_ ?_ ?_ ?_, My.mmk (fun _ _ _ _ _ _ => My.zq2 (fun _ _ => rfl)) ?_ ?_ ?_ ?_ ?_, My.mmk (fun _ _ _ _ _ _ => My.zq2 (fun _ _ => rfl)) ?_ ?_ ?_ ?_ ?_, My.mmk (fun _ _ _ _ _ _ => My.zq2 (fun _ _ => rfl)) ?_ ?_ ?_ ?_ ?_, My.dmk KX G (fun _ _ _ _ _ _ => My.zq3 (fun _ _ _ => rfl)) ?_ ?_ ?_ ?_, My.dmk KX G (fun _ _ _ _ _ _ => My.zq3 (fun _ _ _ => rfl)) ?_ ?_ ?_ ?_, My.mmk (fun _ _ _ _ _ _ => My.zq3 (fun _ _ _ => rfl)) ?_ ?_ ?_ ?_ ?_, My.mmk (fun _ _ _ _ _ _ => My.zq3 (fun _ _ _ => rfl)) ?_ ?_ ?_ ?_ ?_, My.mmk (fun _ _ _ _ _ _ => My.zq1 (fun _ => rfl)) ?_ ?_ ?_ ?_ ?_, My.mmk (fun _ _ _ _ _ _ => My.zq2 (fun _ _ => rfl)) ?_ ?_ ?_ ?_ ?_, My.mmk (fun _ _ _ _ _ _ => My.zq2 (fun _ _ => rfl)) ?_ ?_ ?_ ?_ ?_, My.mmk (fun _ _ _ _ _ _ => My.zq2 (fun _ _ => rfl)) ?_ ?_ ?_ ?_ ?_, My.mmk (fun _ _ _ _ _ _ => My.zq2 (fun _ _ => rfl)) ?_ ?_ ?_ ?_ ?_, My.dmk KX G (fun _ _ _ _ _ _ => My.zq2 (fun _ _ => rfl)) ?_ ?_ ?_ ?_, My.dmk KX G (fun _ _ _ _ _ _ => My.zq4 (fun _ _ _ _ => rfl)) ?_ ?_ ?_ ?_, My.mmk (fun _ _ _ _ _ _ => My.zq3 (fun _ _ _ => rfl)) ?_ ?_ ?_ ?_ ?_, My.dmk KX G (fun _ _ _ _ _ _ => My.zq4 (fun _ _ _ _ => rfl)) ?_ ?_ ?_ ?_, My.mmk (fun _ _ _ _ _ _ => My.zq2 (fun _ _ => rfl)) ?_ ?_ ?_ ?_ ?_, My.dmk KX G (fun _ _ _ _ _ _ => My.zq2 (fun _ _ => rfl)) ?_ ?_ ?_ ?_, My.mmk (fun _ _ _ _ _ _ => My.zq1 (fun _ => rfl)) ?_ ?_ ?_ ?_ ?_, My.mmk (fun _ _ _ _ _ _ => My.zq1 (fun _ => rfl)) ?_ ?_ ?_ ?_ ?_, My.dmk KX G (fun _ _ _ _ _ _ => My.zq1 (fun _ => rfl)) ?_ ?_ ?_ ?_, My.mmk (fun _ _ _ _ _ _ => My.zq1 (fun _ => rfl)) ?_ ?_ ?_ ?_ ?_, My.dmk KX G (fun _ _ _ _ _ _ => My.zq3 (fun _ _ _ => rfl)) ?_ ?_ ?_ ?_, My.dmk KX G (fun _ _ _ _ _ _ => My.zq1 (fun _ => rfl)) ?_ ?_ ?_ ?_, ⟨PySem.W.mg_of KX G ?_, ⟨?_, ?_, ?_, ?_⟩, ⟨?_, ?_, ?_, ?_⟩⟩, ?_, ?_, ?_, ?_, ?_, ?_, ?_, ?_, ?_, ?_, ?_, ?_, ⟨PySem.W.mg_of KX G ?_, ⟨?_, ?_, ?_, ?_⟩, ⟨?_, ?_, ?_, ?_⟩⟩, ?_, ?_, ?_, ?_, ?_, ?_, ?_, ⟨PySem.W.mg_of KX G ?_, ⟨?_, ?_, ?_, ?_⟩, ⟨?_, ?_, ?_, ?_⟩⟩, ?_, ?_, ?_, ?_⟩ ?_ ?_ ?_ ?_ ?_ ?_ ?ae3 ?_ ?_ ?_ ?_ ?_ ?_ ?_ ?_ ?_ ?_ ?_ ?_ ?_ ?_ ?_ ?_ ?_ ?_ ?_ ?_ ?_ ?_ ?_ ?_ ?_ ?_ ?_ ?_ ?_ ?_ ?_ ?_ ?_ ?_ ?_ ?K5 ?K6 ?FW ?qO ?pU
    any_goals first | k_is | (dsimp only[L2.bU]; k_is)
    any_goals first | k_is | (dsimp only[L2.bU]; k_is)
    (case ae3 => kernel_rfl)
    (case K5 => decide)
    (case K6 => decide)
    (case FW => decide)
    (case qO => decide)
    (case pU => decide)
