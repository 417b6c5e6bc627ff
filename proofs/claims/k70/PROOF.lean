import PyProof.Rows.All
import Wide.All
import OpenK.AllK
import Wide.FinOn
import Lean
import PyProof.EqAt
import PyProof.EqKinds
import PyProof.TupleCall
import PyProof.P3Eq
import PyProof.NeData
import PyProof.FitsBits
import PyProof.ZipIter
import PyProof.TupleIter
import KE.KRevIter
import PyProof.TupleOfGen
import PyProof.ListRange
import KE.KIsAll
import PyProof.ExcArgsOwn
import OpenK.KDescr
import PyProof.StationsW
import PyProof.ExcBaseAll.ValueError
import OpenK.KOwn
import PyProof.RulesAs
import PyProof.RulesDel
import PyProof.Rows.SortWalk
import PyProof.CompUse
import KE.KDictSum
import PyProof.WalkInts
import KE.KSortTup
import PyProof.Rows.TupDisplay
import KE.KIntText
import PyProof.JoinWalk
import PyProof.ExcInit
import PyProof.ExcClass2
import PySem.Challenge.RW_pebbletoll_k70_whole_a_place_more
set_option Elab.async false
set_option linter.all false
set_option maxRecDepth 100000
namespace Hd
open PySem
def top (i:Nat):Stmt:=PySem.Challenge.pw_pebbletoll_k70_whole_a_place_more.main.body.getD i (.Pass ⟨0,0,0,0⟩)
def inC (s:Stmt) (j:Nat):Stmt:=match s with
 | .ClassDef _ _ _ b _ _ _ _ _ _ _=>b.getD j (.Pass ⟨0,0,0,0⟩)
 | _=>.Pass ⟨0,0,0,0⟩
def kA (s:Stmt):Arguments:=match s with
 | .FunctionDef _ a _ _ _ _ _ _ _ _=>a
 | _=>{ posonlyargs:=[],args:=[],vararg:=none,kwonlyargs:=[],kw_defaults:=[],kwarg:=none,defaults:=[] }
def kB (s:Stmt):List Stmt:=match s with
 | .FunctionDef _ _ b _ _ _ _ _ _ _=>b
 | _=>[]
def kS (s:Stmt):Scope:=match s with
 | .FunctionDef _ _ _ _ _ _ sc _ _ _=>sc
 | _=>{ kind:=.function,names:=[],isGenerator:=false,isCoroutine:=false }
open PySem.W PySem.Calls PyProof.Rows
def en (P:Params) (s:Str) (t:Tok) (v:Value):DictEntry:=.mk (PyData.keyHash P s) (.str s t) v
def cO (a b:Str) (t1 t2 t3:Tok) (i1 i2 i3 i4 i5:Int) (r1:Value) (b1:Bool) (i6:Int) (r2 v1 v2 v3 r3:Value) (i7 i8:Int) (t4:Tok):Obj:=.mk (.type "code") none (.fields #[.str a t1,.str b t2,.str "/claim/cut.py" t3,.int i1 0,.int i2 0,.int i3 0,.int i4 0,.int i5 0,r1,.bool b1,.int i6 0,r2,v1,v2,v3,r3,.int i7 0,.int i8 0,.str "/claim/cut.py" t4]) #[]
def fR (a b:Str) (s:Stmt):Obj:=.mk .none none (.func (.mk a b (kA s) (.stmts (kB s)) (kS s) 0 [] .none .none .none .none none .none .none 0)) #[]
def fO (a b:Str) (s:Stmt) (pm cd:Value):Obj:=.mk (.type "function") none (.func (PySem.W.fnOf a b (kA s) (kB s) (kS s) .none .none .none pm none cd .none)) #[]
def tO (xs:Array Value):Obj:=.mk (.type "tuple") none (.seq xs 0) #[]
def x0:Obj:=(tO #[])
def x1:Obj:=(.mk .none none (.fields #[]) #[])
def x2:Obj:=(cO "<module>" "<module>" 182 183 184 1 0 0 0 0 (.ref 11) false 181 (.ref 12) .none .none .none .none 185 1 186)
def x3:Obj:=(.mk (.type "frame") none .plain #[(some (.ref 13)),(some (.ref 3)),(some (.ref 3)),none,(some (.str "__main__" 164)),none,(some (.ref 0))])
noncomputable def ha (P:Params):Heap:=.mk (.mk (boot_o_0 P::boot_o_1 P::boot_o_2 P::boot_o_3 P::boot_o_4 P::boot_o_5 P::boot_o_6 P::boot_o_7 P::boot_o_8 P::boot_o_9 P::boot_o_10 P::x0::x1::x2::x3::[])) (.mk [] [] [] 0 [] [] false #[] [] 0 false false false 0 [2000,10,10] false 0 true [] [] 0 false)
noncomputable def hb (P:Params):Heap:=.mk (.mk (boot_o_0 P::boot_o_1 P::boot_o_2 P::boot_o_3 P::boot_o_4 P::boot_o_5 P::boot_o_6 P::boot_o_7 P::boot_o_8 P::boot_o_9 P::boot_o_10 P::x0::x1::x2::x3::[])) (.mk [] [] [] 0 [] [] false #[] [] 0 false false false 0 [2000,10,10] false 0 true [] [] 0 false)
abbrev st0:List Stmt:=[top 0,top 1,top 2,top 3,top 4,top 5,top 6,top 7,top 8,top 9,top 10,top 11,top 12,top 13,top 14,top 15,top 16,top 17,top 18,top 19,top 20]
abbrev st1:List Stmt:=[top 21,top 22,top 23,top 24,top 25,top 26,top 27,top 28,top 29,top 30,top 31,top 32,top 33,top 34,top 35,top 36,top 37,top 38,top 39,top 40,top 41,top 42,top 43,top 44,top 45,top 46,top 47,top 48,top 49,top 50,top 51,top 52,top 53,top 54,top 55,top 56,top 57,top 58,top 59]
abbrev bb:List Stmt:=st0++(st1++([]))
def env:Env:={ scope:=PySem.Challenge.pw_pebbletoll_k70_whole_a_place_more.main.scope,locals:=mainNs,globals:=mainNs,cells:=[],code:=(.ref 13),frame:=some 14 }
abbrev cE:Code:=.body bb env
theorem UC (w:World) (os:OsState):topGo treeTable PySem.Challenge.pw_pebbletoll_k70_whole_a_place_more w 11 (some (.ref 6)) 12 (Shared.mk (boot_heap w.params) (.mk []) boot_drawn boot_toks os) (topStub PySem.Challenge.pw_pebbletoll_k70_whole_a_place_more)=some ((Shared.mk (ha w.params) (.mk []) (.mk 0 0 0 0) 187 os),Thread.mk (denote treeTable cE) cE (.mk 0 0 0 0) [topFrame (.mk 0 0 0 0)]):=by kernel_rfl
theorem Uy (w:World) (os:OsState):segRun treeTable PySem.Challenge.pw_pebbletoll_k70_whole_a_place_more w 11 (some (.ref 6)) 1 1 (Shared.mk (ha w.params) (.mk []) (.mk 0 0 0 0) 187 os) (blockOf bb env cE (.mk 0 0 0 0) [topFrame (.mk 0 0 0 0)])=some (.next,(Shared.mk (hb w.params) (.mk []) (.mk 0 0 0 0) 187 os),cE,(.mk 0 0 0 0)):=by kernel_rfl
def x4 (P:Params):Obj:=(.mk (.type "dict") none (.dict #[(en P "__name__" 165 (.str "pebbletoll.webs" 303)),(en P "__doc__" 166 .none),(en P "__package__" 167 .none),(en P "__loader__" 168 (.builtin "__main__.__loader__#opaque")),(en P "__spec__" 169 .none),(en P "__annotations__" 170 (.ref 6)),(en P "__builtins__" 171 (.ref 4)),(en P "__file__" 173 (.str "/claim/cut.py" 172)),(en P "__cached__" 174 .none),(en P "TollError" 206 (.ref 24)),(en P "BadWeb" 222 (.ref 37)),(en P "NoPlace" 238 (.ref 49)),(en P "NoRoad" 254 (.ref 61)),(en P "BadLaying" 270 (.ref 73)),(en P "BadWish" 286 (.ref 85)),(en P "NoWorst" 302 (.ref 97)),(en P "MOST_PLACES" 306 (.int 24 305)),(en P "LEAST_TOLL" 308 (.int 2 307)),(en P "MOST_TOLL" 310 (.int 1000000 309)),(en P "Web" 338 (.ref 114)),(en P "toll" 351 (.ref 125)),(en P "neighbours" 359 (.ref 132)),(en P "check_place" 367 (.ref 139)),(en P "is_place" 375 (.ref 146)),(en P "check_counts" 383 (.ref 153)),(en P "check_ends" 391 (.ref 160)),(en P "check_tolls" 399 (.ref 167)),(en P "check_joined" 411 (.ref 174))] 28) #[])
def x5:Obj:=(.mk .none none (.fields #[(.int 2 0),(.int 0 0),(.ref 20),(.int 4 0),(.int 0 0),(.ref 33),(.int 6 0),(.int 0 0),(.ref 45),(.int 8 0),(.int 0 0),(.ref 57),(.int 10 0),(.int 0 0),(.ref 69),(.int 12 0),(.int 0 0),(.ref 81),(.int 14 0),(.int 0 0),(.ref 93),(.int 20 0),(.int 0 0),(.ref 105),(.int 31 0),(.int 0 0),(.ref 124),(.int 40 0),(.int 0 0),(.ref 131),(.int 43 0),(.int 0 0),(.ref 138),(.int 46 0),(.int 0 0),(.ref 145),(.int 48 0),(.int 0 0),(.ref 152),(.int 53 0),(.int 0 0),(.ref 159),(.int 58 0),(.int 0 0),(.ref 166),(.int 62 0),(.int 0 0),(.ref 173)]) #[])
def x6:Obj:=(tO #[(.type "ValueError")])
def x7:Obj:=(.mk (.type "builtin_function_or_method") none (.fields #[(.builtin "type.__prepare__"),(.type "type")]) #[])
def x8 (P:Params):Obj:=(.mk (.type "dict") none (.dict #[(en P "__module__" 196 (.str "pebbletoll.errors" 187)),(en P "__qualname__" 198 (.str "TollError" 197)),(en P "__firstlineno__" 200 (.int 2 199)),(en P "__static_attributes__" 201 (.ref 22))] 4) #[])
def x9:Obj:=(cO "TollError" "TollError" 191 192 193 2 0 0 0 0 (.ref 18) false 181 (.ref 19) .none .none .none .none 194 2 195)
def x10:Obj:=(.mk (.type "frame") none .plain #[(some (.ref 20)),(some (.ref 3)),(some (.ref 17)),none,(some (.str "pebbletoll.errors" 187)),none,(some (.ref 0))])
def x11 (P:Params):Obj:=(.mk (.type "dict") none (.dict #[(en P "__module__" 196 (.str "pebbletoll.errors" 187)),(en P "__firstlineno__" 200 (.int 2 199)),(en P "__static_attributes__" 201 (.ref 22)),(en P "__weakref__" 203 (.ref 25)),(en P "__doc__" 204 .none)] 3) #[])
def x12:Obj:=(.mk (.type "type") none (.cls (.mk "TollError" [(.type "ValueError")] [(.ref 24),(.type "ValueError"),(.type "Exception"),(.type "BaseException"),(.type "object")] 23 "TollError" true [] [(.ref 37),(.ref 49),(.ref 61),(.ref 73),(.ref 85),(.ref 97)] false none false)) #[(some (.ref 15)),none,(some (.str "TollError" 189)),(some (.str "TollError" 197)),(some (.builtin "ValueError.__new__")),(some (.bool true))])
def x13:Obj:=(.mk (.type "getset_descriptor") none (.fields #[(.str "__weakref__" 202),(.ref 24),(.builtin "ExceptionGroup.__weakref__"),.none]) #[])
def x14:Obj:=(.mk (.type "super") none (.fields #[(.ref 24),(.ref 24),(.ref 24)]) #[])
def x15:Obj:=(.mk (.type "builtin_function_or_method") none (.fields #[(.builtin "object.__init_subclass__"),(.ref 24)]) #[])
def x16:Obj:=(tO #[(.ref 24)])
def x17 (P:Params):Obj:=(.mk (.type "dict") none (.dict #[(en P "__module__" 214 (.str "pebbletoll.errors" 187)),(en P "__qualname__" 216 (.str "BadWeb" 215)),(en P "__firstlineno__" 218 (.int 4 217)),(en P "__static_attributes__" 219 (.ref 35))] 4) #[])
def x18:Obj:=(cO "BadWeb" "BadWeb" 209 210 211 4 0 0 0 0 (.ref 31) false 181 (.ref 32) .none .none .none .none 212 4 213)
def x19:Obj:=(.mk (.type "frame") none .plain #[(some (.ref 33)),(some (.ref 3)),(some (.ref 30)),none,(some (.str "pebbletoll.errors" 187)),none,(some (.ref 0))])
def x20 (P:Params):Obj:=(.mk (.type "dict") none (.dict #[(en P "__module__" 214 (.str "pebbletoll.errors" 187)),(en P "__firstlineno__" 218 (.int 4 217)),(en P "__static_attributes__" 219 (.ref 35)),(en P "__doc__" 220 .none)] 2) #[])
def x21:Obj:=(.mk (.type "type") none (.cls (.mk "BadWeb" [(.ref 24)] [(.ref 37),(.ref 24),(.type "ValueError"),(.type "Exception"),(.type "BaseException"),(.type "object")] 36 "BadWeb" true [] [] false none false)) #[(some (.ref 28)),none,(some (.str "BadWeb" 207)),(some (.str "BadWeb" 215)),(some (.builtin "ValueError.__new__")),(some (.bool true))])
def x22:Obj:=(.mk (.type "super") none (.fields #[(.ref 37),(.ref 37),(.ref 37)]) #[])
def x23:Obj:=(.mk (.type "builtin_function_or_method") none (.fields #[(.builtin "object.__init_subclass__"),(.ref 37)]) #[])
def x24 (P:Params):Obj:=(.mk (.type "dict") none (.dict #[(en P "__module__" 230 (.str "pebbletoll.errors" 187)),(en P "__qualname__" 232 (.str "NoPlace" 231)),(en P "__firstlineno__" 234 (.int 6 233)),(en P "__static_attributes__" 235 (.ref 47))] 4) #[])
def x25:Obj:=(cO "NoPlace" "NoPlace" 225 226 227 6 0 0 0 0 (.ref 43) false 181 (.ref 44) .none .none .none .none 228 6 229)
def x26:Obj:=(.mk (.type "frame") none .plain #[(some (.ref 45)),(some (.ref 3)),(some (.ref 42)),none,(some (.str "pebbletoll.errors" 187)),none,(some (.ref 0))])
def x27 (P:Params):Obj:=(.mk (.type "dict") none (.dict #[(en P "__module__" 230 (.str "pebbletoll.errors" 187)),(en P "__firstlineno__" 234 (.int 6 233)),(en P "__static_attributes__" 235 (.ref 47)),(en P "__doc__" 236 .none)] 2) #[])
def x28:Obj:=(.mk (.type "type") none (.cls (.mk "NoPlace" [(.ref 24)] [(.ref 49),(.ref 24),(.type "ValueError"),(.type "Exception"),(.type "BaseException"),(.type "object")] 48 "NoPlace" true [] [] false none false)) #[(some (.ref 40)),none,(some (.str "NoPlace" 223)),(some (.str "NoPlace" 231)),(some (.builtin "ValueError.__new__")),(some (.bool true))])
def x29:Obj:=(.mk (.type "super") none (.fields #[(.ref 49),(.ref 49),(.ref 49)]) #[])
def x30:Obj:=(.mk (.type "builtin_function_or_method") none (.fields #[(.builtin "object.__init_subclass__"),(.ref 49)]) #[])
def x31 (P:Params):Obj:=(.mk (.type "dict") none (.dict #[(en P "__module__" 246 (.str "pebbletoll.errors" 187)),(en P "__qualname__" 248 (.str "NoRoad" 247)),(en P "__firstlineno__" 250 (.int 8 249)),(en P "__static_attributes__" 251 (.ref 59))] 4) #[])
def x32:Obj:=(cO "NoRoad" "NoRoad" 241 242 243 8 0 0 0 0 (.ref 55) false 181 (.ref 56) .none .none .none .none 244 8 245)
def x33:Obj:=(.mk (.type "frame") none .plain #[(some (.ref 57)),(some (.ref 3)),(some (.ref 54)),none,(some (.str "pebbletoll.errors" 187)),none,(some (.ref 0))])
def x34 (P:Params):Obj:=(.mk (.type "dict") none (.dict #[(en P "__module__" 246 (.str "pebbletoll.errors" 187)),(en P "__firstlineno__" 250 (.int 8 249)),(en P "__static_attributes__" 251 (.ref 59)),(en P "__doc__" 252 .none)] 2) #[])
def x35:Obj:=(.mk (.type "type") none (.cls (.mk "NoRoad" [(.ref 24)] [(.ref 61),(.ref 24),(.type "ValueError"),(.type "Exception"),(.type "BaseException"),(.type "object")] 60 "NoRoad" true [] [] false none false)) #[(some (.ref 52)),none,(some (.str "NoRoad" 239)),(some (.str "NoRoad" 247)),(some (.builtin "ValueError.__new__")),(some (.bool true))])
def x36:Obj:=(.mk (.type "super") none (.fields #[(.ref 61),(.ref 61),(.ref 61)]) #[])
def x37:Obj:=(.mk (.type "builtin_function_or_method") none (.fields #[(.builtin "object.__init_subclass__"),(.ref 61)]) #[])
def x38 (P:Params):Obj:=(.mk (.type "dict") none (.dict #[(en P "__module__" 262 (.str "pebbletoll.errors" 187)),(en P "__qualname__" 264 (.str "BadLaying" 263)),(en P "__firstlineno__" 266 (.int 10 265)),(en P "__static_attributes__" 267 (.ref 71))] 4) #[])
def x39:Obj:=(cO "BadLaying" "BadLaying" 257 258 259 10 0 0 0 0 (.ref 67) false 181 (.ref 68) .none .none .none .none 260 10 261)
def x40:Obj:=(.mk (.type "frame") none .plain #[(some (.ref 69)),(some (.ref 3)),(some (.ref 66)),none,(some (.str "pebbletoll.errors" 187)),none,(some (.ref 0))])
def x41 (P:Params):Obj:=(.mk (.type "dict") none (.dict #[(en P "__module__" 262 (.str "pebbletoll.errors" 187)),(en P "__firstlineno__" 266 (.int 10 265)),(en P "__static_attributes__" 267 (.ref 71)),(en P "__doc__" 268 .none)] 2) #[])
def x42:Obj:=(.mk (.type "type") none (.cls (.mk "BadLaying" [(.ref 24)] [(.ref 73),(.ref 24),(.type "ValueError"),(.type "Exception"),(.type "BaseException"),(.type "object")] 72 "BadLaying" true [] [] false none false)) #[(some (.ref 64)),none,(some (.str "BadLaying" 255)),(some (.str "BadLaying" 263)),(some (.builtin "ValueError.__new__")),(some (.bool true))])
def x43:Obj:=(.mk (.type "super") none (.fields #[(.ref 73),(.ref 73),(.ref 73)]) #[])
def x44:Obj:=(.mk (.type "builtin_function_or_method") none (.fields #[(.builtin "object.__init_subclass__"),(.ref 73)]) #[])
def x45 (P:Params):Obj:=(.mk (.type "dict") none (.dict #[(en P "__module__" 278 (.str "pebbletoll.errors" 187)),(en P "__qualname__" 280 (.str "BadWish" 279)),(en P "__firstlineno__" 282 (.int 12 281)),(en P "__static_attributes__" 283 (.ref 83))] 4) #[])
def x46:Obj:=(cO "BadWish" "BadWish" 273 274 275 12 0 0 0 0 (.ref 79) false 181 (.ref 80) .none .none .none .none 276 12 277)
def x47:Obj:=(.mk (.type "frame") none .plain #[(some (.ref 81)),(some (.ref 3)),(some (.ref 78)),none,(some (.str "pebbletoll.errors" 187)),none,(some (.ref 0))])
def x48 (P:Params):Obj:=(.mk (.type "dict") none (.dict #[(en P "__module__" 278 (.str "pebbletoll.errors" 187)),(en P "__firstlineno__" 282 (.int 12 281)),(en P "__static_attributes__" 283 (.ref 83)),(en P "__doc__" 284 .none)] 2) #[])
def x49:Obj:=(.mk (.type "type") none (.cls (.mk "BadWish" [(.ref 24)] [(.ref 85),(.ref 24),(.type "ValueError"),(.type "Exception"),(.type "BaseException"),(.type "object")] 84 "BadWish" true [] [] false none false)) #[(some (.ref 76)),none,(some (.str "BadWish" 271)),(some (.str "BadWish" 279)),(some (.builtin "ValueError.__new__")),(some (.bool true))])
def x50:Obj:=(.mk (.type "super") none (.fields #[(.ref 85),(.ref 85),(.ref 85)]) #[])
def x51:Obj:=(.mk (.type "builtin_function_or_method") none (.fields #[(.builtin "object.__init_subclass__"),(.ref 85)]) #[])
def x52 (P:Params):Obj:=(.mk (.type "dict") none (.dict #[(en P "__module__" 294 (.str "pebbletoll.errors" 187)),(en P "__qualname__" 296 (.str "NoWorst" 295)),(en P "__firstlineno__" 298 (.int 14 297)),(en P "__static_attributes__" 299 (.ref 95))] 4) #[])
def x53:Obj:=(cO "NoWorst" "NoWorst" 289 290 291 14 0 0 0 0 (.ref 91) false 181 (.ref 92) .none .none .none .none 292 14 293)
def x54:Obj:=(.mk (.type "frame") none .plain #[(some (.ref 93)),(some (.ref 3)),(some (.ref 90)),none,(some (.str "pebbletoll.errors" 187)),none,(some (.ref 0))])
def x55 (P:Params):Obj:=(.mk (.type "dict") none (.dict #[(en P "__module__" 294 (.str "pebbletoll.errors" 187)),(en P "__firstlineno__" 298 (.int 14 297)),(en P "__static_attributes__" 299 (.ref 95)),(en P "__doc__" 300 .none)] 2) #[])
def x56:Obj:=(.mk (.type "type") none (.cls (.mk "NoWorst" [(.ref 24)] [(.ref 97),(.ref 24),(.type "ValueError"),(.type "Exception"),(.type "BaseException"),(.type "object")] 96 "NoWorst" true [] [] false none false)) #[(some (.ref 88)),none,(some (.str "NoWorst" 287)),(some (.str "NoWorst" 295)),(some (.builtin "ValueError.__new__")),(some (.bool true))])
def x57:Obj:=(.mk (.type "super") none (.fields #[(.ref 97),(.ref 97),(.ref 97)]) #[])
def x58:Obj:=(.mk (.type "builtin_function_or_method") none (.fields #[(.builtin "object.__init_subclass__"),(.ref 97)]) #[])
def x59 (P:Params):Obj:=(.mk (.type "dict") none (.dict #[(en P "__module__" 318 (.str "pebbletoll.webs" 303)),(en P "__qualname__" 320 (.str "Web" 319)),(en P "__firstlineno__" 322 (.int 20 321)),(en P "__init__" 328 (.ref 111)),(en P "__static_attributes__" 331 (.ref 112))] 5) #[])
def x60:Obj:=(.mk .none none (.fields #[(.int 22 0),(.int 4 0),(.ref 110)]) #[])
def x61:Obj:=(cO "Web" "Web" 313 314 315 20 0 0 0 0 (.ref 103) false 181 (.ref 104) .none .none .none .none 316 20 317)
def x62:Obj:=(.mk (.type "frame") none .plain #[(some (.ref 105)),(some (.ref 3)),(some (.ref 102)),none,(some (.str "pebbletoll.webs" 303)),none,(some (.ref 0))])
def x63:Obj:=(fR "__init__" "Web.__init__" (inC (top 12) 0))
def x64:Obj:=(cO "__init__" "Web.__init__" 323 324 325 22 3 0 0 3 (.ref 107) true 181 (.ref 108) .none .none .none (.ref 109) 326 22 327)
def x65:Obj:=(fO "__init__" "Web.__init__" (inC (top 12) 0) (.str "pebbletoll.webs" 303) (.ref 110))
def x66:Obj:=(tO #[(.str "many" 329),(.str "roads" 330)])
def x67 (P:Params):Obj:=(.mk (.type "dict") none (.dict #[(en P "__module__" 318 (.str "pebbletoll.webs" 303)),(en P "__firstlineno__" 322 (.int 20 321)),(en P "__init__" 328 (.ref 111)),(en P "__static_attributes__" 331 (.ref 112)),(en P "__dict__" 333 (.ref 115)),(en P "__weakref__" 335 (.ref 116)),(en P "__doc__" 336 .none)] 4) #[])
def x68:Obj:=(.mk (.type "type") none (.cls (.mk "Web" [(.type "object")] [(.ref 114),(.type "object")] 113 "Web" true [] [] false none false)) #[none,none,(some (.str "Web" 311)),(some (.str "Web" 319)),(some (.builtin "object.__new__")),(some (.bool true))])
def x69:Obj:=(.mk (.type "getset_descriptor") none (.fields #[(.str "__dict__" 332),(.ref 114),(.builtin "function.__dict__"),(.builtin "function.__dict__#set")]) #[])
def x70:Obj:=(.mk (.type "getset_descriptor") none (.fields #[(.str "__weakref__" 334),(.ref 114),(.builtin "ExceptionGroup.__weakref__"),.none]) #[])
def x71:Obj:=(.mk (.type "super") none (.fields #[(.ref 114),(.ref 114),(.ref 114)]) #[])
def x72:Obj:=(.mk (.type "builtin_function_or_method") none (.fields #[(.builtin "object.__init_subclass__"),(.ref 114)]) #[])
def x73:Obj:=(tO #[(.str "web" 342),(.str "a" 343),(.str "b" 344),(.str "one" 345),(.str "other" 346),(.str "there" 347),(.str "back" 348)])
def x74:Obj:=(fR "toll" "toll" (top 13))
def x75:Obj:=(cO "toll" "toll" 339 340 341 31 3 0 0 3 (.ref 119) true 181 (.ref 120) .none (.ref 121) (.ref 122) (.ref 123) 349 31 350)
def x76:Obj:=(fO "toll" "toll" (top 13) (.str "pebbletoll.webs" 303) (.ref 124))
def x77:Obj:=(tO #[(.str "web" 355),(.str "a" 356)])
def x78:Obj:=(fR "neighbours" "neighbours" (top 14))
def x79:Obj:=(cO "neighbours" "neighbours" 352 353 354 40 2 0 0 3 (.ref 126) true 181 (.ref 127) .none (.ref 128) (.ref 129) (.ref 130) 357 40 358)
def x80:Obj:=(fO "neighbours" "neighbours" (top 14) (.str "pebbletoll.webs" 303) (.ref 131))
def x81:Obj:=(tO #[(.str "web" 363),(.str "number" 364)])
def x82:Obj:=(fR "check_place" "check_place" (top 15))
def x83:Obj:=(cO "check_place" "check_place" 360 361 362 43 2 0 0 3 (.ref 133) true 181 (.ref 134) .none (.ref 135) (.ref 136) (.ref 137) 365 43 366)
def x84:Obj:=(fO "check_place" "check_place" (top 15) (.str "pebbletoll.webs" 303) (.ref 138))
def x85:Obj:=(tO #[(.str "many" 371),(.str "number" 372)])
def x86:Obj:=(fR "is_place" "is_place" (top 16))
def x87:Obj:=(cO "is_place" "is_place" 368 369 370 46 2 0 0 3 (.ref 140) true 181 (.ref 141) .none (.ref 142) (.ref 143) (.ref 144) 373 46 374)
def x88:Obj:=(fO "is_place" "is_place" (top 16) (.str "pebbletoll.webs" 303) (.ref 145))
def x89:Obj:=(tO #[(.str "many" 379),(.str "roads" 380)])
def x90:Obj:=(fR "check_counts" "check_counts" (top 17))
def x91:Obj:=(cO "check_counts" "check_counts" 376 377 378 48 2 0 0 3 (.ref 147) true 181 (.ref 148) .none (.ref 149) (.ref 150) (.ref 151) 381 48 382)
def x92:Obj:=(fO "check_counts" "check_counts" (top 17) (.str "pebbletoll.webs" 303) (.ref 152))
def x93:Obj:=(tO #[(.str "many" 387),(.str "road" 388)])
def x94:Obj:=(fR "check_ends" "check_ends" (top 18))
def x95:Obj:=(cO "check_ends" "check_ends" 384 385 386 53 2 0 0 3 (.ref 154) true 181 (.ref 155) .none (.ref 156) (.ref 157) (.ref 158) 389 53 390)
def x96:Obj:=(fO "check_ends" "check_ends" (top 18) (.str "pebbletoll.webs" 303) (.ref 159))
def x97:Obj:=(tO #[(.str "road" 395),(.str "number" 396)])
def x98:Obj:=(fR "check_tolls" "check_tolls" (top 19))
def x99:Obj:=(cO "check_tolls" "check_tolls" 392 393 394 58 1 0 0 3 (.ref 161) true 181 (.ref 162) .none (.ref 163) (.ref 164) (.ref 165) 397 58 398)
def KD:Obj:=(fO "check_tolls" "check_tolls" (top 19) (.str "pebbletoll.webs" 303) (.ref 166))
def JC:Obj:=(tO #[(.str "many" 403),(.str "roads" 404),(.str "reached" 405),(.str "waiting" 406),(.str "place" 407),(.str "end" 408)])
def PU:Obj:=(fR "check_joined" "check_joined" (top 20))
def J9:Obj:=(cO "check_joined" "check_joined" 400 401 402 62 2 0 0 3 (.ref 168) true 181 (.ref 169) .none (.ref 170) (.ref 171) (.ref 172) 409 62 410)
def JZ:Obj:=(fO "check_joined" "check_joined" (top 20) (.str "pebbletoll.webs" 303) (.ref 173))
noncomputable def h0 (P:Params):Heap:=.mk (.mk (boot_o_0 P::boot_o_1 P::boot_o_2 P::x4 P::boot_o_4 P::boot_o_5 P::boot_o_6 P::boot_o_7 P::boot_o_8 P::boot_o_9 P::boot_o_10 P::x0::x5::x2::x3::x6::x7::x8 P::x0::x1::x9::x10::x0::x11 P::x12::x13::x14::x15::x16::x7::x17 P::x0::x1::x18::x19::x0::x20 P::x21::x22::x23::x16::x7::x24 P::x0::x1::x25::x26::x0::x27 P::x28::x29::x30::x16::x7::x31 P::x0::x1::x32::x33::x0::x34 P::x35::x36::x37::x16::x7::x38 P::x0::x1::x39::x40::x0::x41 P::x42::x43::x44::x16::x7::x45 P::x0::x1::x46::x47::x0::x48 P::x49::x50::x51::x16::x7::x52 P::x0::x1::x53::x54::x0::x55 P::x56::x57::x58::x0::x7::x59 P::x0::x60::x61::x62::x0::x1::x63::x64::x65::x66::x67 P::x68::x69::x70::x71::x72::x0::x1::x73::x0::x74::x75::x76::x0::x1::x77::x0::x78::x79::x80::x0::x1::x81::x0::x82::x83::x84::x0::x1::x85::x0::x86::x87::x88::x0::x1::x89::x0::x90::x91::x92::x0::x1::x93::x0::x94::x95::x96::x0::x1::x97::x0::x98::x99::KD::x0::x1::JC::x0::PU::J9::JZ::[])) (.mk [] [] [] 0 [] [] false #[] [] 0 false false false 0 [2000,10,10] false 0 true [] [] 0 false)
theorem UF (w:World) (os:OsState):segRun treeTable PySem.Challenge.pw_pebbletoll_k70_whole_a_place_more w 11 (some (.ref 6)) 1 1978 (Shared.mk (hb w.params) (.mk []) (.mk 0 0 0 0) 187 os) (piecesOf st0 env cE (.mk 0 0 0 0) [topFrame (.mk 0 0 0 0)])=some (.next,(Shared.mk (h0 w.params) (.mk []) (.mk 0 0 0 0) 412 os),cE,(.mk 62 0 72 75)):=by kernel_rfl
def Px (P:Params):Obj:=(.mk (.type "dict") none (.dict #[(en P "__name__" 165 (.str "law_pebbletoll_k70_whole_a_place_more" 689)),(en P "__doc__" 166 .none),(en P "__package__" 167 .none),(en P "__loader__" 168 (.builtin "__main__.__loader__#opaque")),(en P "__spec__" 169 .none),(en P "__annotations__" 170 (.ref 6)),(en P "__builtins__" 171 (.ref 4)),(en P "__file__" 173 (.str "/claim/cut.py" 172)),(en P "__cached__" 174 .none),(en P "TollError" 206 (.ref 24)),(en P "BadWeb" 222 (.ref 37)),(en P "NoPlace" 238 (.ref 49)),(en P "NoRoad" 254 (.ref 61)),(en P "BadLaying" 270 (.ref 73)),(en P "BadWish" 286 (.ref 85)),(en P "NoWorst" 302 (.ref 97)),(en P "MOST_PLACES" 306 (.int 24 305)),(en P "LEAST_TOLL" 308 (.int 2 307)),(en P "MOST_TOLL" 310 (.int 1000000 309)),(en P "Web" 338 (.ref 114)),(en P "toll" 351 (.ref 125)),(en P "neighbours" 359 (.ref 132)),(en P "check_place" 367 (.ref 139)),(en P "is_place" 375 (.ref 146)),(en P "check_counts" 383 (.ref 153)),(en P "check_ends" 391 (.ref 160)),(en P "check_tolls" 399 (.ref 167)),(en P "check_joined" 411 (.ref 174)),(en P "other_ends" 421 (.ref 181)),(en P "laying_of" 431 (.ref 188)),(en P "is_filled" 437 (.ref 193)),(en P "total" 444 (.ref 200)),(en P "way" 457 (.ref 207)),(en P "price" 470 (.ref 214)),(en P "ahead" 483 (.ref 221)),(en P "down" 496 (.ref 228)),(en P "kids" 502 (.ref 233)),(en P "inward" 508 (.ref 238)),(en P "wish_of" 518 (.ref 245)),(en P "standings" 524 (.ref 250)),(en P "handed_on" 534 (.ref 257)),(en P "standing" 544 (.ref 264)),(en P "is_met" 553 (.ref 271)),(en P "pile_need" 564 (.ref 278)),(en P "needs" 576 (.ref 285)),(en P "always" 584 (.ref 292)),(en P "fails" 590 (.ref 297)),(en P "is_idle" 598 (.ref 304)),(en P "failing" 607 (.ref 311)),(en P "Outlook" 637 (.ref 326)),(en P "idle_load" 646 (.ref 337)),(en P "idle_kids" 657 (.ref 344)),(en P "added" 663 (.ref 349)),(en P "greatest_load" 676 (.ref 356)),(en P "load_by" 688 (.ref 363)),(en P "_law_drawn" 701 (.ref 370)),(en P "_law_toll" 708 (.ref 377)),(en P "_law_roads" 723 (.ref 384)),(en P "_law_bound" 731 (.ref 391)),(en P "_law_laying" 743 (.ref 398)),(en P "_law_wish" 755 (.ref 405)),(en P "law" 776 (.ref 412))] 62) #[])
def S8:Obj:=(.mk .none none (.fields #[(.int 2 0),(.int 0 0),(.ref 20),(.int 4 0),(.int 0 0),(.ref 33),(.int 6 0),(.int 0 0),(.ref 45),(.int 8 0),(.int 0 0),(.ref 57),(.int 10 0),(.int 0 0),(.ref 69),(.int 12 0),(.int 0 0),(.ref 81),(.int 14 0),(.int 0 0),(.ref 93),(.int 20 0),(.int 0 0),(.ref 105),(.int 31 0),(.int 0 0),(.ref 124),(.int 40 0),(.int 0 0),(.ref 131),(.int 43 0),(.int 0 0),(.ref 138),(.int 46 0),(.int 0 0),(.ref 145),(.int 48 0),(.int 0 0),(.ref 152),(.int 53 0),(.int 0 0),(.ref 159),(.int 58 0),(.int 0 0),(.ref 166),(.int 62 0),(.int 0 0),(.ref 173),(.int 73 0),(.int 0 0),(.ref 180),(.int 82 0),(.int 0 0),(.ref 187),(.int 86 0),(.int 0 0),(.ref 192),(.int 88 0),(.int 0 0),(.ref 199),(.int 91 0),(.int 0 0),(.ref 206),(.int 98 0),(.int 0 0),(.ref 213),(.int 104 0),(.int 0 0),(.ref 220),(.int 115 0),(.int 0 0),(.ref 227),(.int 125 0),(.int 0 0),(.ref 232),(.int 127 0),(.int 0 0),(.ref 237),(.int 131 0),(.int 0 0),(.ref 244),(.int 135 0),(.int 0 0),(.ref 249),(.int 142 0),(.int 0 0),(.ref 256),(.int 146 0),(.int 0 0),(.ref 263),(.int 148 0),(.int 0 0),(.ref 270),(.int 151 0),(.int 0 0),(.ref 277),(.int 153 0),(.int 0 0),(.ref 284),(.int 158 0),(.int 0 0),(.ref 291),(.int 162 0),(.int 0 0),(.ref 296),(.int 167 0),(.int 0 0),(.ref 303),(.int 169 0),(.int 0 0),(.ref 310),(.int 171 0),(.int 0 0),(.ref 317),(.int 180 0),(.int 0 0),(.ref 336),(.int 184 0),(.int 0 0),(.ref 343),(.int 190 0),(.int 0 0),(.ref 348),(.int 192 0),(.int 0 0),(.ref 355),(.int 201 0),(.int 0 0),(.ref 362),(.int 206 0),(.int 0 0),(.ref 369),(.int 215 0),(.int 0 0),(.ref 376),(.int 219 0),(.int 0 0),(.ref 383),(.int 234 0),(.int 0 0),(.ref 390),(.int 237 0),(.int 0 0),(.ref 397),(.int 244 0),(.int 0 0),(.ref 404),(.int 251 0),(.int 0 0),(.ref 411)]) #[])
def Qd:Obj:=(tO #[(.str "roads" 415),(.str "place" 416),(.str "ends" 417),(.str "road" 418)])
def TQ:Obj:=(fR "other_ends" "other_ends" (top 21))
def QR:Obj:=(cO "other_ends" "other_ends" 412 413 414 73 2 0 0 3 (.ref 175) true 181 (.ref 176) .none (.ref 177) (.ref 178) (.ref 179) 419 73 420)
def O7:Obj:=(fO "other_ends" "other_ends" (top 21) (.str "pebbletoll.webs" 303) (.ref 180))
def OB:Obj:=(tO #[(.str "web" 427),(.str "numbers" 428)])
def TY:Obj:=(fR "laying_of" "laying_of" (top 23))
def ND:Obj:=(cO "laying_of" "laying_of" 424 425 426 82 2 0 0 3 (.ref 182) true 181 (.ref 183) .none (.ref 184) (.ref 185) (.ref 186) 429 82 430)
def PD:Obj:=(fO "laying_of" "laying_of" (top 23) (.str "pebbletoll.layings" 422) (.ref 187))
def T8:Obj:=(fR "is_filled" "is_filled" (top 24))
def Qz:Obj:=(cO "is_filled" "is_filled" 432 433 434 86 2 0 0 3 (.ref 189) true 181 (.ref 190) .none .none .none (.ref 191) 435 86 436)
def P6:Obj:=(fO "is_filled" "is_filled" (top 24) (.str "pebbletoll.layings" 422) (.ref 192))
def P2:Obj:=(tO #[(.str "numbers" 441)])
def Ua:Obj:=(fR "total" "total" (top 25))
def Po:Obj:=(cO "total" "total" 438 439 440 88 1 0 0 3 (.ref 194) true 181 (.ref 195) .none (.ref 196) (.ref 197) (.ref 198) 442 88 443)
def P3:Obj:=(fO "total" "total" (top 25) (.str "pebbletoll.layings" 422) (.ref 199))
def NS:Obj:=(tO #[(.str "web" 450),(.str "a" 451),(.str "b" 452),(.str "nearer" 453),(.str "places" 454)])
def T7:Obj:=(fR "way" "way" (top 27))
def O8:Obj:=(cO "way" "way" 447 448 449 91 3 0 0 3 (.ref 201) true 181 (.ref 202) .none (.ref 203) (.ref 204) (.ref 205) 455 91 456)
def Nk:Obj:=(fO "way" "way" (top 27) (.str "pebbletoll.ways" 445) (.ref 206))
def QE:Obj:=(tO #[(.str "web" 461),(.str "a" 462),(.str "b" 463),(.str "places" 464),(.str "product" 465),(.str "start" 466),(.str "end" 467)])
def SA:Obj:=(fR "price" "price" (top 28))
def P9:Obj:=(cO "price" "price" 458 459 460 98 3 0 0 3 (.ref 208) true 181 (.ref 209) .none (.ref 210) (.ref 211) (.ref 212) 468 98 469)
def NB:Obj:=(fO "price" "price" (top 28) (.str "pebbletoll.ways" 445) (.ref 213))
def PR:Obj:=(tO #[(.str "web" 474),(.str "r" 475),(.str "nearer" 476),(.str "waiting" 477),(.str "place" 478),(.str "front" 479),(.str "kid" 480)])
def S7:Obj:=(fR "ahead" "ahead" (top 29))
def PV:Obj:=(cO "ahead" "ahead" 471 472 473 104 2 0 0 3 (.ref 215) true 181 (.ref 216) .none (.ref 217) (.ref 218) (.ref 219) 481 104 482)
def Pt:Obj:=(fO "ahead" "ahead" (top 29) (.str "pebbletoll.ways" 445) (.ref 220))
def QF:Obj:=(tO #[(.str "web" 487),(.str "r" 488),(.str "nearer" 489),(.str "places" 490),(.str "waiting" 491),(.str "place" 492),(.str "kid" 493)])
def Tz:Obj:=(fR "down" "down" (top 30))
def Oc:Obj:=(cO "down" "down" 484 485 486 115 2 0 0 3 (.ref 222) true 181 (.ref 223) .none (.ref 224) (.ref 225) (.ref 226) 494 115 495)
def QA:Obj:=(fO "down" "down" (top 30) (.str "pebbletoll.ways" 445) (.ref 227))
def Tu:Obj:=(fR "kids" "kids" (top 31))
def Pc:Obj:=(cO "kids" "kids" 497 498 499 125 3 0 0 3 (.ref 229) true 181 (.ref 230) .none .none .none (.ref 231) 500 125 501)
def Pd:Obj:=(fO "kids" "kids" (top 31) (.str "pebbletoll.ways" 445) (.ref 232))
def T5:Obj:=(fR "inward" "inward" (top 32))
def M6:Obj:=(cO "inward" "inward" 503 504 505 127 2 0 0 3 (.ref 234) true 181 (.ref 235) .none .none .none (.ref 236) 506 127 507)
def Ol:Obj:=(fO "inward" "inward" (top 32) (.str "pebbletoll.ways" 445) (.ref 237))
def Ps:Obj:=(tO #[(.str "web" 514),(.str "numbers" 515)])
def SJ:Obj:=(fR "wish_of" "wish_of" (top 34))
def NH:Obj:=(cO "wish_of" "wish_of" 511 512 513 131 2 0 0 3 (.ref 239) true 181 (.ref 240) .none (.ref 241) (.ref 242) (.ref 243) 516 131 517)
def OT:Obj:=(fO "wish_of" "wish_of" (top 34) (.str "pebbletoll.wishes" 509) (.ref 244))
def Tt:Obj:=(fR "standings" "standings" (top 35))
def Oe:Obj:=(cO "standings" "standings" 519 520 521 135 4 0 0 3 (.ref 246) true 181 (.ref 247) .none .none .none (.ref 248) 522 135 523)
def NP:Obj:=(fO "standings" "standings" (top 35) (.str "pebbletoll.wishes" 509) (.ref 249))
def PF:Obj:=(tO #[(.str "web" 528),(.str "over" 529),(.str "place" 530),(.str "front" 531)])
def SD:Obj:=(fR "handed_on" "handed_on" (top 36))
def NN:Obj:=(cO "handed_on" "handed_on" 525 526 527 142 4 0 0 3 (.ref 251) true 181 (.ref 252) .none (.ref 253) (.ref 254) (.ref 255) 532 142 533)
def QS:Obj:=(fO "handed_on" "handed_on" (top 36) (.str "pebbletoll.wishes" 509) (.ref 256))
def OX:Obj:=(tO #[(.str "web" 538),(.str "laying" 539),(.str "wish" 540),(.str "r" 541)])
def SB:Obj:=(fR "standing" "standing" (top 37))
def Oy:Obj:=(cO "standing" "standing" 535 536 537 146 4 0 0 3 (.ref 258) true 181 (.ref 259) .none (.ref 260) (.ref 261) (.ref 262) 542 146 543)
def Of:Obj:=(fO "standing" "standing" (top 37) (.str "pebbletoll.wishes" 509) (.ref 263))
def No:Obj:=(tO #[(.str "web" 548),(.str "laying" 549),(.str "wish" 550)])
def Td:Obj:=(fR "is_met" "is_met" (top 38))
def OF:Obj:=(cO "is_met" "is_met" 545 546 547 148 3 0 0 3 (.ref 265) true 181 (.ref 266) .none (.ref 267) (.ref 268) (.ref 269) 551 148 552)
def QL:Obj:=(fO "is_met" "is_met" (top 38) (.str "pebbletoll.wishes" 509) (.ref 270))
def OU:Obj:=(tO #[(.str "web" 559),(.str "wish" 560),(.str "v" 561)])
def Sy:Obj:=(fR "pile_need" "pile_need" (top 40))
def P1:Obj:=(cO "pile_need" "pile_need" 556 557 558 151 3 0 0 3 (.ref 272) true 181 (.ref 273) .none (.ref 274) (.ref 275) (.ref 276) 562 151 563)
def NV:Obj:=(fO "pile_need" "pile_need" (top 40) (.str "pebbletoll.always" 554) (.ref 277))
def Ql:Obj:=(tO #[(.str "web" 568),(.str "wish" 569),(.str "r" 570),(.str "found" 571),(.str "place" 572),(.str "front" 573)])
def SS:Obj:=(fR "needs" "needs" (top 41))
def Qt:Obj:=(cO "needs" "needs" 565 566 567 153 3 0 0 3 (.ref 279) true 181 (.ref 280) .none (.ref 281) (.ref 282) (.ref 283) 574 153 575)
def NX:Obj:=(fO "needs" "needs" (top 41) (.str "pebbletoll.always" 554) (.ref 284))
def Qr:Obj:=(tO #[(.str "web" 580),(.str "wish" 581)])
def Tc:Obj:=(fR "always" "always" (top 42))
def PJ:Obj:=(cO "always" "always" 577 578 579 158 2 0 0 3 (.ref 286) true 181 (.ref 287) .none (.ref 288) (.ref 289) (.ref 290) 582 158 583)
def NM:Obj:=(fO "always" "always" (top 42) (.str "pebbletoll.always" 554) (.ref 291))
def Ud:Obj:=(fR "fails" "fails" (top 43))
def Qp:Obj:=(cO "fails" "fails" 585 586 587 162 2 0 0 3 (.ref 293) true 181 (.ref 294) .none .none .none (.ref 295) 588 162 589)
def O0:Obj:=(fO "fails" "fails" (top 43) (.str "pebbletoll.always" 554) (.ref 296))
def OE:Obj:=(tO #[(.str "web" 594),(.str "wish" 595)])
def Ts:Obj:=(fR "is_idle" "is_idle" (top 44))
def M8:Obj:=(cO "is_idle" "is_idle" 591 592 593 167 2 0 0 3 (.ref 298) true 181 (.ref 299) .none (.ref 300) (.ref 301) (.ref 302) 596 167 597)
def Pl:Obj:=(fO "is_idle" "is_idle" (top 44) (.str "pebbletoll.always" 554) (.ref 303))
def Ox:Obj:=(tO #[(.str "web" 602),(.str "wish" 603),(.str "r" 604)])
def Sw:Obj:=(fR "failing" "failing" (top 45))
def Qo:Obj:=(cO "failing" "failing" 599 600 601 169 3 0 0 3 (.ref 305) true 181 (.ref 306) .none (.ref 307) (.ref 308) (.ref 309) 605 169 606)
def NY:Obj:=(fO "failing" "failing" (top 45) (.str "pebbletoll.always" 554) (.ref 310))
def SN (P:Params):Obj:=(.mk (.type "dict") none (.dict #[(en P "__module__" 615 (.str "pebbletoll.always" 554)),(en P "__qualname__" 617 (.str "Outlook" 616)),(en P "__firstlineno__" 619 (.int 171 618)),(en P "__init__" 625 (.ref 323)),(en P "__static_attributes__" 630 (.ref 324))] 5) #[])
def SV:Obj:=(.mk .none none (.fields #[(.int 173 0),(.int 4 0),(.ref 322)]) #[])
def SR:Obj:=(cO "Outlook" "Outlook" 610 611 612 171 0 0 0 0 (.ref 315) false 181 (.ref 316) .none .none .none .none 613 171 614)
def Uf:Obj:=(.mk (.type "frame") none .plain #[(some (.ref 317)),(some (.ref 3)),(some (.ref 314)),none,(some (.str "pebbletoll.always" 554)),none,(some (.ref 0))])
def S9:Obj:=(fR "__init__" "Outlook.__init__" (inC (top 46) 0))
def NZ:Obj:=(cO "__init__" "Outlook.__init__" 620 621 622 173 4 0 0 3 (.ref 319) true 181 (.ref 320) .none .none .none (.ref 321) 623 173 624)
def MZ:Obj:=(fO "__init__" "Outlook.__init__" (inC (top 46) 0) (.str "pebbletoll.always" 554) (.ref 322))
def P0:Obj:=(tO #[(.str "idle" 626),(.str "kids" 627),(.str "needs" 628),(.str "web" 629)])
def Nl (P:Params):Obj:=(.mk (.type "dict") none (.dict #[(en P "__module__" 615 (.str "pebbletoll.always" 554)),(en P "__firstlineno__" 619 (.int 171 618)),(en P "__init__" 625 (.ref 323)),(en P "__static_attributes__" 630 (.ref 324)),(en P "__dict__" 632 (.ref 327)),(en P "__weakref__" 634 (.ref 328)),(en P "__doc__" 635 .none)] 4) #[])
def Nd:Obj:=(.mk (.type "type") none (.cls (.mk "Outlook" [(.type "object")] [(.ref 326),(.type "object")] 325 "Outlook" true [] [] false none false)) #[none,none,(some (.str "Outlook" 608)),(some (.str "Outlook" 616)),(some (.builtin "object.__new__")),(some (.bool true))])
def Qg:Obj:=(.mk (.type "getset_descriptor") none (.fields #[(.str "__dict__" 631),(.ref 326),(.builtin "function.__dict__"),(.builtin "function.__dict__#set")]) #[])
def P5:Obj:=(.mk (.type "getset_descriptor") none (.fields #[(.str "__weakref__" 633),(.ref 326),(.builtin "ExceptionGroup.__weakref__"),.none]) #[])
def S3:Obj:=(.mk (.type "super") none (.fields #[(.ref 326),(.ref 326),(.ref 326)]) #[])
def TF:Obj:=(.mk (.type "builtin_function_or_method") none (.fields #[(.builtin "object.__init_subclass__"),(.ref 326)]) #[])
def Oj:Obj:=(tO #[(.str "outlook" 641),(.str "place" 642),(.str "front" 643)])
def SG:Obj:=(fR "idle_load" "idle_load" (top 47))
def PM:Obj:=(cO "idle_load" "idle_load" 638 639 640 180 3 0 0 3 (.ref 331) true 181 (.ref 332) .none (.ref 333) (.ref 334) (.ref 335) 644 180 645)
def Nt:Obj:=(fO "idle_load" "idle_load" (top 47) (.str "pebbletoll.always" 554) (.ref 336))
def Qi:Obj:=(tO #[(.str "outlook" 650),(.str "place" 651),(.str "left_out" 652),(.str "load" 653),(.str "kid" 654)])
def Tf:Obj:=(fR "idle_kids" "idle_kids" (top 48))
def OJ:Obj:=(cO "idle_kids" "idle_kids" 647 648 649 184 3 0 0 3 (.ref 338) true 181 (.ref 339) .none (.ref 340) (.ref 341) (.ref 342) 655 184 656)
def QO:Obj:=(fO "idle_kids" "idle_kids" (top 48) (.str "pebbletoll.always" 554) (.ref 343))
def ST:Obj:=(fR "added" "added" (top 49))
def O5:Obj:=(cO "added" "added" 658 659 660 190 2 0 0 3 (.ref 345) true 181 (.ref 346) .none .none .none (.ref 347) 661 190 662)
def Nu:Obj:=(fO "added" "added" (top 49) (.str "pebbletoll.always" 554) (.ref 348))
def Pg:Obj:=(tO #[(.str "outlook" 667),(.str "place" 668),(.str "over" 669),(.str "room" 670),(.str "best" 671),(.str "kid" 672),(.str "load" 673)])
def T3:Obj:=(fR "greatest_load" "greatest_load" (top 50))
def OO:Obj:=(cO "greatest_load" "greatest_load" 664 665 666 192 3 0 0 3 (.ref 350) true 181 (.ref 351) .none (.ref 352) (.ref 353) (.ref 354) 674 192 675)
def Qv:Obj:=(fO "greatest_load" "greatest_load" (top 50) (.str "pebbletoll.always" 554) (.ref 355))
def Nn:Obj:=(tO #[(.str "outlook" 680),(.str "place" 681),(.str "kid" 682),(.str "room" 683),(.str "given" 684),(.str "over" 685)])
def SZ:Obj:=(fR "load_by" "load_by" (top 51))
def Nx:Obj:=(cO "load_by" "load_by" 677 678 679 201 4 0 0 3 (.ref 357) true 181 (.ref 358) .none (.ref 359) (.ref 360) (.ref 361) 686 201 687)
def Nb:Obj:=(fO "load_by" "load_by" (top 51) (.str "pebbletoll.always" 554) (.ref 362))
def Op:Obj:=(tO #[(.str "script" 694),(.str "k" 695),(.str "cell" 696),(.str "near" 697),(.str "far" 698)])
def S5:Obj:=(fR "_law_drawn" "_law_drawn" (top 53))
def Qs:Obj:=(cO "_law_drawn" "_law_drawn" 691 692 693 206 2 0 0 3 (.ref 364) true 181 (.ref 365) .none (.ref 366) (.ref 367) (.ref 368) 699 206 700)
def Pq:Obj:=(fO "_law_drawn" "_law_drawn" (top 53) (.str "law_pebbletoll_k70_whole_a_place_more" 689) (.ref 369))
def NG:Obj:=(tO #[(.str "part" 705)])
def Tx:Obj:=(fR "_law_toll" "_law_toll" (top 54))
def Qw:Obj:=(cO "_law_toll" "_law_toll" 702 703 704 215 1 0 0 3 (.ref 371) true 181 (.ref 372) .none (.ref 373) (.ref 374) (.ref 375) 706 215 707)
def OW:Obj:=(fO "_law_toll" "_law_toll" (top 54) (.str "law_pebbletoll_k70_whole_a_place_more" 689) (.ref 376))
def O2:Obj:=(tO #[(.str "script" 712),(.str "many" 713),(.str "shape" 714),(.str "roads" 715),(.str "k" 716),(.str "part" 717),(.str "to" 718),(.str "there" 719),(.str "back" 720)])
def SC:Obj:=(fR "_law_roads" "_law_roads" (top 55))
def Oz:Obj:=(cO "_law_roads" "_law_roads" 709 710 711 219 3 0 0 3 (.ref 378) true 181 (.ref 379) .none (.ref 380) (.ref 381) (.ref 382) 721 219 722)
def Ng:Obj:=(fO "_law_roads" "_law_roads" (top 55) (.str "law_pebbletoll_k70_whole_a_place_more" 689) (.ref 383))
def PQ:Obj:=(tO #[(.str "script" 727),(.str "head" 728)])
def SM:Obj:=(fR "_law_bound" "_law_bound" (top 56))
def ON:Obj:=(cO "_law_bound" "_law_bound" 724 725 726 234 1 0 0 3 (.ref 385) true 181 (.ref 386) .none (.ref 387) (.ref 388) (.ref 389) 729 234 730)
def OY:Obj:=(fO "_law_bound" "_law_bound" (top 56) (.str "law_pebbletoll_k70_whole_a_place_more" 689) (.ref 390))
def OL:Obj:=(tO #[(.str "script" 735),(.str "many" 736),(.str "bound" 737),(.str "laying" 738),(.str "k" 739),(.str "place" 740)])
def Sv:Obj:=(fR "_law_laying" "_law_laying" (top 57))
def Pr:Obj:=(cO "_law_laying" "_law_laying" 732 733 734 237 3 0 0 3 (.ref 392) true 181 (.ref 393) .none (.ref 394) (.ref 395) (.ref 396) 741 237 742)
def QT:Obj:=(fO "_law_laying" "_law_laying" (top 57) (.str "law_pebbletoll_k70_whole_a_place_more" 689) (.ref 397))
def QN:Obj:=(tO #[(.str "script" 747),(.str "many" 748),(.str "bound" 749),(.str "wish" 750),(.str "k" 751),(.str "place" 752)])
def TU:Obj:=(fR "_law_wish" "_law_wish" (top 58))
def Pw:Obj:=(cO "_law_wish" "_law_wish" 744 745 746 244 3 0 0 3 (.ref 399) true 181 (.ref 400) .none (.ref 401) (.ref 402) (.ref 403) 753 244 754)
def QH:Obj:=(fO "_law_wish" "_law_wish" (top 58) (.str "law_pebbletoll_k70_whole_a_place_more" 689) (.ref 404))
def Qy:Obj:=(tO #[(.str "script" 759),(.str "many" 760),(.str "roads" 761),(.str "bound" 762),(.str "laying" 763),(.str "wish" 764),(.str "part" 765),(.str "near" 766),(.str "to_it" 767),(.str "wanted" 768),(.str "old" 769),(.str "fresh" 770),(.str "fuller" 771),(.str "r" 772),(.str "grown" 773)])
def SH:Obj:=(fR "law" "law" (top 59))
def Nq:Obj:=(cO "law" "law" 756 757 758 251 1 0 0 3 (.ref 406) true 181 (.ref 407) .none (.ref 408) (.ref 409) (.ref 410) 774 251 775)
def Ot:Obj:=(fO "law" "law" (top 59) (.str "law_pebbletoll_k70_whole_a_place_more" 689) (.ref 411))
noncomputable def h1 (P:Params):Heap:=.mk (.mk (boot_o_0 P::boot_o_1 P::boot_o_2 P::Px P::boot_o_4 P::boot_o_5 P::boot_o_6 P::boot_o_7 P::boot_o_8 P::boot_o_9 P::boot_o_10 P::x0::S8::x2::x3::x6::x7::x8 P::x0::x1::x9::x10::x0::x11 P::x12::x13::x14::x15::x16::x7::x17 P::x0::x1::x18::x19::x0::x20 P::x21::x22::x23::x16::x7::x24 P::x0::x1::x25::x26::x0::x27 P::x28::x29::x30::x16::x7::x31 P::x0::x1::x32::x33::x0::x34 P::x35::x36::x37::x16::x7::x38 P::x0::x1::x39::x40::x0::x41 P::x42::x43::x44::x16::x7::x45 P::x0::x1::x46::x47::x0::x48 P::x49::x50::x51::x16::x7::x52 P::x0::x1::x53::x54::x0::x55 P::x56::x57::x58::x0::x7::x59 P::x0::x60::x61::x62::x0::x1::x63::x64::x65::x66::x67 P::x68::x69::x70::x71::x72::x0::x1::x73::x0::x74::x75::x76::x0::x1::x77::x0::x78::x79::x80::x0::x1::x81::x0::x82::x83::x84::x0::x1::x85::x0::x86::x87::x88::x0::x1::x89::x0::x90::x91::x92::x0::x1::x93::x0::x94::x95::x96::x0::x1::x97::x0::x98::x99::KD::x0::x1::JC::x0::PU::J9::JZ::x0::x1::Qd::x0::TQ::QR::O7::x0::x1::OB::x0::TY::ND::PD::x0::x1::T8::Qz::P6::x0::x1::P2::x0::Ua::Po::P3::x0::x1::NS::x0::T7::O8::Nk::x0::x1::QE::x0::SA::P9::NB::x0::x1::PR::x0::S7::PV::Pt::x0::x1::QF::x0::Tz::Oc::QA::x0::x1::Tu::Pc::Pd::x0::x1::T5::M6::Ol::x0::x1::Ps::x0::SJ::NH::OT::x0::x1::Tt::Oe::NP::x0::x1::PF::x0::SD::NN::QS::x0::x1::OX::x0::SB::Oy::Of::x0::x1::No::x0::Td::OF::QL::x0::x1::OU::x0::Sy::P1::NV::x0::x1::Ql::x0::SS::Qt::NX::x0::x1::Qr::x0::Tc::PJ::NM::x0::x1::Ud::Qp::O0::x0::x1::OE::x0::Ts::M8::Pl::x0::x1::Ox::x0::Sw::Qo::NY::x0::x7::SN P::x0::SV::SR::Uf::x0::x1::S9::NZ::MZ::P0::Nl P::Nd::Qg::P5::S3::TF::x0::x1::Oj::x0::SG::PM::Nt::x0::x1::Qi::x0::Tf::OJ::QO::x0::x1::ST::O5::Nu::x0::x1::Pg::x0::T3::OO::Qv::x0::x1::Nn::x0::SZ::Nx::Nb::x0::x1::Op::x0::S5::Qs::Pq::x0::x1::NG::x0::Tx::Qw::OW::x0::x1::O2::x0::SC::Oz::Ng::x0::x1::PQ::x0::SM::ON::OY::x0::x1::OL::x0::Sv::Pr::QT::x0::x1::QN::x0::TU::Pw::QH::x0::x1::Qy::x0::SH::Nq::Ot::[])) (.mk [] [] [] 0 [] [] false #[] [] 0 false false false 0 [2000,10,10] false 0 true [] [] 0 false)
theorem UA (w:World) (os:OsState):segRun treeTable PySem.Challenge.pw_pebbletoll_k70_whole_a_place_more w 11 (some (.ref 6)) 1 1306 (Shared.mk (h0 w.params) (.mk []) (.mk 0 0 0 0) 412 os) (piecesOf st1 env cE (.mk 62 0 72 75) [topFrame (.mk 0 0 0 0)])=some (.next,(Shared.mk (h1 w.params) (.mk []) (.mk 0 0 0 0) 777 os),cE,(.mk 251 0 275 86)):=by kernel_rfl
noncomputable def hf (P:Params):Heap:=.mk (.mk (boot_o_0 P::boot_o_1 P::boot_o_2 P::Px P::boot_o_4 P::boot_o_5 P::boot_o_6 P::boot_o_7 P::boot_o_8 P::boot_o_9 P::boot_o_10 P::x0::S8::x2::x3::x6::x7::x8 P::x0::x1::x9::x10::x0::x11 P::x12::x13::x14::x15::x16::x7::x17 P::x0::x1::x18::x19::x0::x20 P::x21::x22::x23::x16::x7::x24 P::x0::x1::x25::x26::x0::x27 P::x28::x29::x30::x16::x7::x31 P::x0::x1::x32::x33::x0::x34 P::x35::x36::x37::x16::x7::x38 P::x0::x1::x39::x40::x0::x41 P::x42::x43::x44::x16::x7::x45 P::x0::x1::x46::x47::x0::x48 P::x49::x50::x51::x16::x7::x52 P::x0::x1::x53::x54::x0::x55 P::x56::x57::x58::x0::x7::x59 P::x0::x60::x61::x62::x0::x1::x63::x64::x65::x66::x67 P::x68::x69::x70::x71::x72::x0::x1::x73::x0::x74::x75::x76::x0::x1::x77::x0::x78::x79::x80::x0::x1::x81::x0::x82::x83::x84::x0::x1::x85::x0::x86::x87::x88::x0::x1::x89::x0::x90::x91::x92::x0::x1::x93::x0::x94::x95::x96::x0::x1::x97::x0::x98::x99::KD::x0::x1::JC::x0::PU::J9::JZ::x0::x1::Qd::x0::TQ::QR::O7::x0::x1::OB::x0::TY::ND::PD::x0::x1::T8::Qz::P6::x0::x1::P2::x0::Ua::Po::P3::x0::x1::NS::x0::T7::O8::Nk::x0::x1::QE::x0::SA::P9::NB::x0::x1::PR::x0::S7::PV::Pt::x0::x1::QF::x0::Tz::Oc::QA::x0::x1::Tu::Pc::Pd::x0::x1::T5::M6::Ol::x0::x1::Ps::x0::SJ::NH::OT::x0::x1::Tt::Oe::NP::x0::x1::PF::x0::SD::NN::QS::x0::x1::OX::x0::SB::Oy::Of::x0::x1::No::x0::Td::OF::QL::x0::x1::OU::x0::Sy::P1::NV::x0::x1::Ql::x0::SS::Qt::NX::x0::x1::Qr::x0::Tc::PJ::NM::x0::x1::Ud::Qp::O0::x0::x1::OE::x0::Ts::M8::Pl::x0::x1::Ox::x0::Sw::Qo::NY::x0::x7::SN P::x0::SV::SR::Uf::x0::x1::S9::NZ::MZ::P0::Nl P::Nd::Qg::P5::S3::TF::x0::x1::Oj::x0::SG::PM::Nt::x0::x1::Qi::x0::Tf::OJ::QO::x0::x1::ST::O5::Nu::x0::x1::Pg::x0::T3::OO::Qv::x0::x1::Nn::x0::SZ::Nx::Nb::x0::x1::Op::x0::S5::Qs::Pq::x0::x1::NG::x0::Tx::Qw::OW::x0::x1::O2::x0::SC::Oz::Ng::x0::x1::PQ::x0::SM::ON::OY::x0::x1::OL::x0::Sv::Pr::QT::x0::x1::QN::x0::TU::Pw::QH::x0::x1::Qy::x0::SH::Nq::Ot::[])) (.mk [] [] [] 0 [] [] false #[] [] 0 false false false 0 [2000,10,10] false 0 true [] [] 0 false)
theorem UI (w:World) (os:OsState):topRun treeTable PySem.Challenge.pw_pebbletoll_k70_whole_a_place_more w 11 (some (.ref 6)) 2 (Shared.mk (h1 w.params) (.mk []) (.mk 0 0 0 0) 777 os) (restOf [] env cE (.mk 251 0 275 86) [topFrame (.mk 0 0 0 0)])=some (Shared.mk (hf w.params) (.mk []) (.mk 0 0 0 0) 777 os):=by kernel_rfl
theorem run (w:World) (os:OsState):topRun treeTable PySem.Challenge.pw_pebbletoll_k70_whole_a_place_more w 11 (some (.ref 6)) (12+(1+(1978+(1306+(2))))) (Shared.mk (boot_heap w.params) (.mk []) boot_drawn boot_toks os) (topStub PySem.Challenge.pw_pebbletoll_k70_whole_a_place_more)=some (Shared.mk (hf w.params) (.mk []) (.mk 0 0 0 0) 777 os):=go_top (UC w os) (piece_block (Uy w os) (piece_app (UF w os) (piece_app (UA w os) (UI w os))))
theorem opn:∀ w:World,(fencedOpening treeTable PySem.Challenge.pw_pebbletoll_k70_whole_a_place_more w 6690).map (fun s=>(s.heap,s.gens,s.drawn,s.toks))=some (boot_heap w.params,Array.mk [],boot_drawn,boot_toks):=boot_open (by kernel_rfl) (by decide) fun s=>by kernel_rfl
theorem siz (w:World):((boot_heap w.params).isNs mainGlobals && (Array.mk ([]:List GenState)).size == 0,(boot_heap w.params).objs.size,(boot_heap w.params).nsMap mainGlobals "__annotations__")=(true,11,(some (.ref 6))):=by kernel_rfl
noncomputable def KK:Params->Frag:=fun P =>
 (nat_lit 2,boot_o_2 P) ::
 (nat_lit 3,Px P) ::
 (nat_lit 15,x6) ::
 (nat_lit 22,x0) ::
 (nat_lit 23,x11 P) ::
 (nat_lit 24,x12) ::
 (nat_lit 25,x13) ::
 (nat_lit 28,x16) ::
 (nat_lit 35,x0) ::
 (nat_lit 36,x20 P) ::
 (nat_lit 37,x21) ::
 (nat_lit 40,x16) ::
 (nat_lit 47,x0) ::
 (nat_lit 48,x27 P) ::
 (nat_lit 49,x28) ::
 (nat_lit 52,x16) ::
 (nat_lit 59,x0) ::
 (nat_lit 60,x34 P) ::
 (nat_lit 61,x35) ::
 (nat_lit 64,x16) ::
 (nat_lit 71,x0) ::
 (nat_lit 72,x41 P) ::
 (nat_lit 73,x42) ::
 (nat_lit 76,x16) ::
 (nat_lit 83,x0) ::
 (nat_lit 84,x48 P) ::
 (nat_lit 85,x49) ::
 (nat_lit 88,x16) ::
 (nat_lit 95,x0) ::
 (nat_lit 96,x55 P) ::
 (nat_lit 97,x56) ::
 (nat_lit 107,x0) ::
 (nat_lit 110,x64) ::
 (nat_lit 111,x65) ::
 (nat_lit 112,x66) ::
 (nat_lit 113,x67 P) ::
 (nat_lit 114,x68) ::
 (nat_lit 115,x69) ::
 (nat_lit 116,x70) ::
 (nat_lit 119,x0) ::
 (nat_lit 121,x73) ::
 (nat_lit 122,x0) ::
 (nat_lit 124,x75) ::
 (nat_lit 125,x76) ::
 (nat_lit 126,x0) ::
 (nat_lit 128,x77) ::
 (nat_lit 129,x0) ::
 (nat_lit 131,x79) ::
 (nat_lit 132,x80) ::
 (nat_lit 133,x0) ::
 (nat_lit 135,x81) ::
 (nat_lit 136,x0) ::
 (nat_lit 138,x83) ::
 (nat_lit 139,x84) ::
 (nat_lit 140,x0) ::
 (nat_lit 142,x85) ::
 (nat_lit 143,x0) ::
 (nat_lit 145,x87) ::
 (nat_lit 146,x88) ::
 (nat_lit 147,x0) ::
 (nat_lit 149,x89) ::
 (nat_lit 150,x0) ::
 (nat_lit 152,x91) ::
 (nat_lit 153,x92) ::
 (nat_lit 154,x0) ::
 (nat_lit 156,x93) ::
 (nat_lit 157,x0) ::
 (nat_lit 159,x95) ::
 (nat_lit 160,x96) ::
 (nat_lit 161,x0) ::
 (nat_lit 163,x97) ::
 (nat_lit 164,x0) ::
 (nat_lit 166,x99) ::
 (nat_lit 167,KD) ::
 (nat_lit 168,x0) ::
 (nat_lit 170,JC) ::
 (nat_lit 171,x0) ::
 (nat_lit 173,J9) ::
 (nat_lit 174,JZ) ::
 (nat_lit 175,x0) ::
 (nat_lit 177,Qd) ::
 (nat_lit 178,x0) ::
 (nat_lit 180,QR) ::
 (nat_lit 181,O7) ::
 (nat_lit 182,x0) ::
 (nat_lit 184,OB) ::
 (nat_lit 185,x0) ::
 (nat_lit 187,ND) ::
 (nat_lit 188,PD) ::
 (nat_lit 189,x0) ::
 (nat_lit 192,Qz) ::
 (nat_lit 193,P6) ::
 (nat_lit 194,x0) ::
 (nat_lit 196,P2) ::
 (nat_lit 197,x0) ::
 (nat_lit 199,Po) ::
 (nat_lit 200,P3) ::
 (nat_lit 201,x0) ::
 (nat_lit 203,NS) ::
 (nat_lit 204,x0) ::
 (nat_lit 206,O8) ::
 (nat_lit 207,Nk) ::
 (nat_lit 208,x0) ::
 (nat_lit 210,QE) ::
 (nat_lit 211,x0) ::
 (nat_lit 213,P9) ::
 (nat_lit 214,NB) ::
 (nat_lit 215,x0) ::
 (nat_lit 217,PR) ::
 (nat_lit 218,x0) ::
 (nat_lit 220,PV) ::
 (nat_lit 221,Pt) ::
 (nat_lit 222,x0) ::
 (nat_lit 224,QF) ::
 (nat_lit 225,x0) ::
 (nat_lit 227,Oc) ::
 (nat_lit 228,QA) ::
 (nat_lit 229,x0) ::
 (nat_lit 232,Pc) ::
 (nat_lit 233,Pd) ::
 (nat_lit 234,x0) ::
 (nat_lit 237,M6) ::
 (nat_lit 238,Ol) ::
 (nat_lit 239,x0) ::
 (nat_lit 241,Ps) ::
 (nat_lit 242,x0) ::
 (nat_lit 244,NH) ::
 (nat_lit 245,OT) ::
 (nat_lit 246,x0) ::
 (nat_lit 249,Oe) ::
 (nat_lit 250,NP) ::
 (nat_lit 251,x0) ::
 (nat_lit 253,PF) ::
 (nat_lit 254,x0) ::
 (nat_lit 256,NN) ::
 (nat_lit 257,QS) ::
 (nat_lit 258,x0) ::
 (nat_lit 260,OX) ::
 (nat_lit 261,x0) ::
 (nat_lit 263,Oy) ::
 (nat_lit 264,Of) ::
 (nat_lit 265,x0) ::
 (nat_lit 267,No) ::
 (nat_lit 268,x0) ::
 (nat_lit 270,OF) ::
 (nat_lit 271,QL) ::
 (nat_lit 272,x0) ::
 (nat_lit 274,OU) ::
 (nat_lit 275,x0) ::
 (nat_lit 277,P1) ::
 (nat_lit 278,NV) ::
 (nat_lit 279,x0) ::
 (nat_lit 281,Ql) ::
 (nat_lit 282,x0) ::
 (nat_lit 284,Qt) ::
 (nat_lit 285,NX) ::
 (nat_lit 286,x0) ::
 (nat_lit 288,Qr) ::
 (nat_lit 289,x0) ::
 (nat_lit 291,PJ) ::
 (nat_lit 292,NM) ::
 (nat_lit 293,x0) ::
 (nat_lit 296,Qp) ::
 (nat_lit 297,O0) ::
 (nat_lit 298,x0) ::
 (nat_lit 300,OE) ::
 (nat_lit 301,x0) ::
 (nat_lit 303,M8) ::
 (nat_lit 304,Pl) ::
 (nat_lit 305,x0) ::
 (nat_lit 307,Ox) ::
 (nat_lit 308,x0) ::
 (nat_lit 310,Qo) ::
 (nat_lit 311,NY) ::
 (nat_lit 319,x0) ::
 (nat_lit 322,NZ) ::
 (nat_lit 323,MZ) ::
 (nat_lit 324,P0) ::
 (nat_lit 325,Nl P) ::
 (nat_lit 326,Nd) ::
 (nat_lit 327,Qg) ::
 (nat_lit 328,P5) ::
 (nat_lit 331,x0) ::
 (nat_lit 333,Oj) ::
 (nat_lit 334,x0) ::
 (nat_lit 336,PM) ::
 (nat_lit 337,Nt) ::
 (nat_lit 338,x0) ::
 (nat_lit 340,Qi) ::
 (nat_lit 341,x0) ::
 (nat_lit 343,OJ) ::
 (nat_lit 344,QO) ::
 (nat_lit 345,x0) ::
 (nat_lit 348,O5) ::
 (nat_lit 349,Nu) ::
 (nat_lit 350,x0) ::
 (nat_lit 352,Pg) ::
 (nat_lit 353,x0) ::
 (nat_lit 355,OO) ::
 (nat_lit 356,Qv) ::
 (nat_lit 357,x0) ::
 (nat_lit 359,Nn) ::
 (nat_lit 360,x0) ::
 (nat_lit 362,Nx) ::
 (nat_lit 363,Nb) ::
 (nat_lit 364,x0) ::
 (nat_lit 366,Op) ::
 (nat_lit 367,x0) ::
 (nat_lit 369,Qs) ::
 (nat_lit 370,Pq) ::
 (nat_lit 371,x0) ::
 (nat_lit 373,NG) ::
 (nat_lit 374,x0) ::
 (nat_lit 376,Qw) ::
 (nat_lit 377,OW) ::
 (nat_lit 378,x0) ::
 (nat_lit 380,O2) ::
 (nat_lit 381,x0) ::
 (nat_lit 383,Oz) ::
 (nat_lit 384,Ng) ::
 (nat_lit 385,x0) ::
 (nat_lit 387,PQ) ::
 (nat_lit 388,x0) ::
 (nat_lit 390,ON) ::
 (nat_lit 391,OY) ::
 (nat_lit 392,x0) ::
 (nat_lit 394,OL) ::
 (nat_lit 395,x0) ::
 (nat_lit 397,Pr) ::
 (nat_lit 398,QT) ::
 (nat_lit 399,x0) ::
 (nat_lit 401,QN) ::
 (nat_lit 402,x0) ::
 (nat_lit 404,Pw) ::
 (nat_lit 405,QH) ::
 (nat_lit 406,x0) ::
 (nat_lit 408,Qy) ::
 (nat_lit 409,x0) ::
 (nat_lit 411,Nq) ::
 (nat_lit 412,Ot)::[]
abbrev qq:Program:=PySem.W.view PySem.Challenge.pw_pebbletoll_k70_whole_a_place_more [1,2,3,4,5,6,7,9,10,11,12,13,14,15,16,17,18,19,20,21,23,24,25,27,28,29,30,31,32,34,35,36,37,38,40,41,42,43,44,45,46,47,48,49,50,51,53,54,55,56,57,58,59]
abbrev asK:List Addr:=[2,3,15,22,23,24,25,28,35,36,37,40,47,48,49,52,59,60,61,64,71,72,73,76,83,84,85,88,95,96,97,107,110,111,112,113,114,115,116,119,121,122,124,125,126,128,129,131,132,133,135,136,138,139,140,142,143,145,146,147,149,150,152,153,154,156,157,159,160,161,163,164,166,167,168,170,171,173,174,175,177,178,180,181,182,184,185,187,188,189,192,193,194,196,197,199,200,201,203,204,206,207,208,210,211,213,214,215,217,218,220,221,222,224,225,227,228,229,232,233,234,237,238,239,241,242,244,245,246,249,250,251,253,254,256,257,258,260,261,263,264,265,267,268,270,271,272,274,275,277,278,279,281,282,284,285,286,288,289,291,292,293,296,297,298,300,301,303,304,305,307,308,310,311,319,322,323,324,325,326,327,328,331,333,334,336,337,338,340,341,343,344,345,348,349,350,352,353,355,356,357,359,360,362,363,364,366,367,369,370,371,373,374,376,377,378,380,381,383,384,385,387,388,390,391,392,394,395,397,398,399,401,402,404,405,406,408,409,411,412]
theorem asK_eq:∀ P,asK=(KK P).map (·.1):=fun _=>by kernel_rfl
theorem Up (w:World):(fun os=>((staticsOk (importedModules PySem.Challenge.pw_pebbletoll_k70_whole_a_place_more.main.body) (boot_heap w.params) (hf w.params) && namesBound PySem.Challenge.pw_pebbletoll_k70_whole_a_place_more (hf w.params) && gensDone (Shared.mk (Hd.hf w.params) (.mk []) (.mk 0 0 0 0) 777 os) && laidKept (boot_heap w.params) (hf w.params)),openSeen qq [] (importedModules PySem.Challenge.pw_pebbletoll_k70_whole_a_place_more.main.body) (fun s=>PySem.W.xlAt Hd.qq [] s && PySem.W.recOk (PySem.W.RowW.records (PySem.W.OpenRow.toRowW (PySem.Challenge.rw_pebbletoll_k70_whole_a_place_more).row)) s) true (Shared.mk (Hd.hf w.params) (.mk []) (.mk 0 0 0 0) 777 os),Hook.obs (PySem.W.kHook Hd.KK Hd.asK Hd.asK_eq) (Shared.mk (Hd.hf w.params) (.mk []) (.mk 0 0 0 0) 777 os)))=fun _=>(true,openGood qq [],Hook.val (PySem.W.kHook Hd.KK Hd.asK Hd.asK_eq) w):=by kernel_rfl
theorem left:PySem.W.LeftO (PySem.Challenge.rw_pebbletoll_k70_whole_a_place_more).row.prog qq [] (fun s=>PySem.W.xlAt Hd.qq [] s && PySem.W.recOk (PySem.W.RowW.records (PySem.W.OpenRow.toRowW (PySem.Challenge.rw_pebbletoll_k70_whole_a_place_more).row)) s) (PySem.W.Hook.obs (PySem.W.kHook Hd.KK Hd.asK Hd.asK_eq)) (PySem.W.Hook.val (PySem.W.kHook Hd.KK Hd.asK Hd.asK_eq)) 6690:=LeftO.of_pieces opn siz run (by decide) Up
end Hd
set_option Elab.async false
set_option linter.all false
set_option maxRecDepth 100000
namespace L2
open PySem PySem.Spec PyProof.Rows
abbrev Key:=Sum Int Str
def ze:Key->Value->Bool
 | .inl k,v=>Value.isInt k v
 | .inr x,v=>Value.isStrOf x v
def UH (w:World):Key->Int
 | .inl k=>hashInt k
 | .inr x=>hashStr w x
theorem eh:∀ {k:Key} {v:Value},ze k v=true->(∃ i t,k=Sum.inl i/\v=Value.int i t)\/(∃ x t,k=Sum.inr x/\v=Value.str x t)
 | .inl i,v,h=>by
   obtain ⟨t,e⟩:=Value.isInt_shape (k:=i) (v:=v) h;exact .inl ⟨i,t,rfl,e⟩
 | .inr x,v,h=>by
   obtain ⟨t,e⟩:=Value.isStrOf_shape (x:=x) (v:=v) h;exact .inr ⟨x,t,rfl,e⟩
theorem MD (i:Int) (t:Tok):ze (.inl i) (.int i t)=true:=by simp [ze,Value.isInt]
theorem LQ (x:Str) (t:Tok):ze (.inr x) (.str x t)=true:=by simp [ze,Value.isStrOf]
theorem Sz (a b:Int):decide ((Sum.inl a:Key)=Sum.inl b)=(a == b):=by
 by_cases e:a=b
 . subst e;simp
 . have h:¬ (Sum.inl a:Key)=Sum.inl b:=fun q=>e (Sum.inl.inj q);rw [decide_eq_false h];exact (beq_eq_false_iff_ne.mpr e).symm
theorem Ue (a b:Str):decide ((Sum.inr a:Key)=Sum.inr b)=decide (a=b):=by
 by_cases e:a=b
 . subst e;simp
 . have h:¬ (Sum.inr a:Key)=Sum.inr b:=fun q=>e (Sum.inr.inj q);rw [decide_eq_false h,decide_eq_false e]
theorem TZ (a:Int) (b:Str):decide ((Sum.inl a:Key)=Sum.inr b)=false:=decide_eq_false (fun q=>nomatch q)
theorem Ub (a:Str) (b:Int):decide ((Sum.inr a:Key)=Sum.inl b)=false:=decide_eq_false (fun q=>nomatch q)
def dM (prog:Program) (w:World):PySem.KeyKind prog w Key where
 is:=ze
 hash:=UH w
 inj:=fun v a b ha hb=>by
   rcases eh ha with ⟨i,t,rfl,rfl⟩|⟨x,t,rfl,rfl⟩
   . rcases eh hb with ⟨j,u,rfl,e⟩|⟨y,u,rfl,e⟩
     . injection e with e1 _;rw [e1]
     . exact nomatch e
   . rcases eh hb with ⟨j,u,rfl,e⟩|⟨y,u,rfl,e⟩
     . exact nomatch e
     . injection e with e1 _;rw [e1]
 byValue:=fun k v h=>by
   rcases eh h with ⟨i,t,rfl,rfl⟩|⟨x,t,rfl,rfl⟩ <;> rfl
 pyHash:=fun hv h=>by
   rcases eh hv with ⟨i,t,rfl,rfl⟩|⟨x,t,rfl,rfl⟩
   . exact wpAny_pyHash_int h
   . exact wpAny_pyHash_str h
 eqBool:=fun hu hv h=>by
   rcases eh hu with ⟨i,t,rfl,rfl⟩|⟨x,t,rfl,rfl⟩
   . rcases eh hv with ⟨j,u,rfl,rfl⟩|⟨y,u,rfl,rfl⟩
     . rw [Sz] at h;exact wpAny_eqBool_int h
     . rw [TZ] at h;exact SeqAt.EqAt.int_str i t y u _ _ _ _ h
   . rcases eh hv with ⟨j,u,rfl,rfl⟩|⟨y,u,rfl,rfl⟩
     . rw [Ub] at h;exact SeqAt.EqAt.str_int x t j u _ _ _ _ h
     . rw [Ue] at h;exact wpAny_eqBool_str h
 «strs»:=fun k x t v h=>by
   rcases eh h with ⟨i,u,rfl,e⟩|⟨y,u,rfl,e⟩
   . exact nomatch e
   . injection e with e1 _
     subst e1;cases v <;> rfl
theorem IA (prog:Program) (w:World) (i:Int) (t:Tok):(dM prog w).is (.inl i) (.int i t)=true:=MD i t
theorem Ig (prog:Program) (w:World) (x:Str) (t:Tok):(dM prog w).is (.inr x) (.str x t)=true:=LQ x t
end L2
namespace L2
open PySem PySem.Spec PyProof.Rows
inductive V where
 | non|bl (b:Bool)|int (i:Int)|str (x:Str)|byt (b:Array UInt8)|flt (b:UInt64)|ref (a:Addr)|ty (n:String)
 deriving DecidableEq
def RelV:V->Value->Prop
 | .non,u=>u=Value.none
 | .bl b,u=>u=Value.bool b
 | .int i,u=>∃ t,u=Value.int i t
 | .str x,u=>∃ t,u=Value.str x t
 | .byt b,u=>∃ t,u=Value.bytes b t
 | .flt b,u=>∃ t,u=Value.float b t
 | .ref a,u=>u=Value.ref a
 | .ty n,u=>u=Value.type n
abbrev Vals:List V->List Value->Prop:=Paired RelV
theorem Vals.length {xs:List V} {us:List Value} (r:Vals xs us):xs.length=us.length:=Paired.length r
theorem Vals.get:∀ {xs:List V} {us:List Value} {i:Nat} {x:V},Vals xs us->xs[i]?=some x->∃ u,us[i]?=some u/\RelV x u
 | _,_,_,_,.nil,e=>by simp at e
 | _,_,0,_,.cons r _,e=>by simp at e;subst e;exact ⟨_,rfl,r⟩
 | _,_,i+1,x,.cons _ t,e=>by
   obtain ⟨u,h1,h2⟩:=Vals.get (i:=i) (x:=x) t (by simpa using e);exact ⟨u,by simpa using h1,h2⟩
theorem Vals.set {x:V} {u:Value} (r:RelV x u):∀ {xs:List V} {us:List Value} (i:Nat),Vals xs us->Vals (xs.set i x) (us.set i u)
 | _,_,_,.nil=>.nil
 | _,_,0,.cons _ t=>.cons r t
 | _,_,i+1,.cons q t=>.cons q (Vals.set r i t)
theorem Vals.append:∀ {xs ys:List V} {us ws:List Value},Vals xs us->Vals ys ws->Vals (xs++ys) (us++ws)
 | _,_,_,_,.nil,s=>s
 | _,_,_,_,.cons r t,s=>.cons r (Vals.append t s)
theorem Vals.take:∀ {xs:List V} {us:List Value} (n:Nat),Vals xs us->Vals (xs.take n) (us.take n)
 | _,_,0,_=>.nil
 | _,_,_+1,.nil=>.nil
 | _,_,n+1,.cons r t=>.cons r (Vals.take n t)
theorem Vals.drop:∀ {xs:List V} {us:List Value} (n:Nat),Vals xs us->Vals (xs.drop n) (us.drop n)
 | _,_,0,r=>r
 | _,_,_+1,.nil=>.nil
 | _,_,n+1,.cons _ t=>Vals.drop n t
def RelO:Option V->Option Value->Prop
 | some v,some u=>RelV v u
 | none,none=>True
 | _,_=>False
def KV {κ:Type}:List (κ × V)->List (κ × Value)->Prop:=Paired fun (p:κ × V) (q:κ × Value)=>p.1=q.1/\RelV p.2 q.2
def kV:Key->V
 | .inl i=>.int i
 | .inr x=>.str x
inductive HO where
 /-- a list -/
 | lst (xs:List V)
 /-- a tuple (never changes) -/
 | tup (xs:List V)
 /-- a dict whose keys are ints and texts;one whose keys are tuples of ints and texts (the empty one is both) -/
 | dK (kvs:List (Key × V))|dT (kvs:List (List Key × V))
 /-- a set of ints: its members,its size -/
 | set (S:Int->Bool) (n:Nat)
 /-- an instance of the class at C,its dict at dx,its attributes -/
 | ins (C dx:Addr) (fs:List (Str × V))
 /-- the dict of the instance at x -/
 | own (x:Addr)
 /-- the dict of an exception -/
 | xd (fs:List (Str × V))
 /-- a bound method,f of x -/
 | met (f x:Addr)
 /-- a range object lo,lo+1,.. below hi -/
 | rng (lo hi:Int)
 /-- a thing that is known to the object (the script;a dict while a loop walks it): read,never written while it is so -/
 | frz (o:Obj) (u:HO)
 /-- a code object's table -/
 | tbl (ps:Array Value)
 /-- any other thing,by what is true of its one object (a def of one's own: SetO a S n:=HO.ext fun h=>..) -/
 | ext (φ:Heap->Prop)
abbrev Hp:=Addr->Option HO
def upd (H:Hp) (a:Addr) (o:HO):Hp:=fun b=>if b=a then some o else H b
theorem aj {H:Hp} {a:Addr} {o:HO}:upd H a o a=some o:=by unfold upd;rw [if_pos rfl]
theorem au {H:Hp} {a b:Addr} {o:HO} (h:b≠a):upd H a o b=H b:=by unfold upd;rw [if_neg h]
theorem o0 {H:Hp} {a:Addr} {o u:HO}:upd (upd H a o) a u=upd H a u:=by
 funext b;unfold upd;split <;> rfl
theorem gI {H:Hp} {a b:Addr} {o u:HO} (h:H a=some o) (h':H b=some u) (d:o≠u):a≠b:=by
 intro e;subst e;rw [h] at h';exact d (Option.some.inj h')
theorem bA {H:Hp} {a b:Addr} {o:HO} (h:H a=some o) (h':H b=none):a≠b:=by
 intro e;subst e;rw [h] at h';cases h'
section
variable (P:Program) (w:World)
def ObjOk (H:Hp) (h:Heap) (a:Addr):HO->Prop
 | .lst xs=>xs.length<=sizeLine/\∃ (its:List Value) (n:Nat),Vals xs its/\h.get? a=some { cls:=.type "list",data:=.seq its.toArray n }
 | .tup xs=>xs.length<=sizeLine/\∃ its:List Value,Vals xs its/\IsTup h a its.toArray
 | .dK kvs=>kvs.length<=sizeLine/\(a == sysModules)=false/\∃ vs,KV kvs vs/\h.DictOf (dM P w) a vs
 | .dT kvs=>kvs.length<=sizeLine/\(a == sysModules)=false/\∃ xs:List (List Key × Addr × Value),
     Paired (fun (p:List Key × V) (q:List Key × Addr × Value)=>p.1=q.1/\H q.2.1=some (.tup (p.1.map kV))/\RelV p.2 q.2.2) kvs xs /\
     ∃ o es ep,h.get? a=some o/\o.ExactDict/\o.data=.dict es ep/\es.toList=xs.map (entryOfKey (tupleKind (dM P w)))/\(xs.map (·.1)).Nodup
 | .set S n=>h.SetOf (intKind P w) a S n
 | .ins C dx fs=>H dx=some (.own a)/\fs.length<=1000/\dx≠a/\h.get? a=some (PySem.W.instObj C dx) /\
     ∃ mA,h.Ns1 dx mA/\(∀ f,RelO (fs.lookup f) (mA f))/\PySem.Within mA (fs.map (·.1))
 | .own _=>∃ o,h.get? a=some o
 | .xd fs=>∃ mA,h.Ns1 a mA/\∀ f,RelO (fs.lookup f) (mA f)
 | .rng lo hi=>∃ t u v,h.get? a=some { cls:=.type "range",data:=.fields #[.int lo t,.int hi u,.int 1 v] }
 | .frz o u=>h.get? a=some o/\ObjOk H h a u
 | .tbl ps=>h.get? a=some { cls:=.none,data:=.fields ps }
 | .met f x=>h.get? a=some (PySem.W.methodObj (.ref f) (.ref x))
 | .ext φ=>φ h/\(∃ o,h.get? a=some o)/\∀ h1 h2:Heap,φ h1->(∀ o,h1.get? a=some o->h2.get? a=some o)->φ h2
def HOk (H:Hp) (h:Heap):Prop:=∀ a o,H a=some o->ObjOk P w H h a o
end
section
variable {P:Program} {w:World} {H H':Hp} {h h':Heap} {a:Addr} {o:HO}
theorem ObjOk.lt (x:ObjOk P w H h a o):a<h.objs.size:=by
 cases o with
 | lst xs=>obtain ⟨_,_,_,_,e⟩:=x;exact Heap.lt_size e
 | tup xs=>obtain ⟨_,_,_,p⟩:=x;exact p.lt
 | dK kvs=>obtain ⟨_,_,_,_,o,_,_,e,_⟩:=x;exact Heap.lt_size e
 | dT kvs=>obtain ⟨_,_,_,_,o,_,_,e,_⟩:=x;exact Heap.lt_size e
 | set S n=>obtain ⟨o,_,_,_,e,_⟩:=x;exact Heap.lt_size e
 | ins C dx fs=>obtain ⟨_,_,_,e,_⟩:=x;exact Heap.lt_size e
 | own y=>obtain ⟨_,e⟩:=x;exact Heap.lt_size e
 | xd fs=>obtain ⟨_,⟨_,_,_,e,_⟩,_⟩:=x;exact Heap.lt_size e
 | rng lo hi=>obtain ⟨_,_,_,e⟩:=x;exact Heap.lt_size e
 | frz ob u=>obtain ⟨e,_⟩:=x;exact Heap.lt_size e
 | tbl ps=>exact Heap.lt_size (show h.get? a=some _ from x)
 | met f y=>exact Heap.lt_size (show h.get? a=some _ from x)
 | ext φ=>obtain ⟨_,⟨_,e⟩,_⟩:=x;exact Heap.lt_size e
theorem Paired.mapP {α β:Type} {F G:α->β->Prop}:∀ {l₁:List α} {l₂:List β},Paired F l₁ l₂->(∀ a b,F a b->G a b)->Paired G l₁ l₂
 | _,_,.nil,_=>.nil
 | _,_,.cons r t,f=>.cons (f _ _ r) (Paired.mapP t f)
theorem Paired.imp' {α β:Type} {F G:α->β->Prop} (f:∀ a b,F a b->G a b) {l₁:List α} {l₂:List β} (r:Paired F l₁ l₂):Paired G l₁ l₂:=Paired.mapP r f
theorem ObjOk.stay (x:ObjOk P w H h a o) (k:∀ b u,(b=a\/H b=some (.own a))->h.get? b=some u->h'.get? b=some u)
   (ho:∀ b,H b=some (.own a)->H' b=some (.own a)) (ht:∀ b xs,H b=some (.tup xs)->H' b=some (.tup xs)):ObjOk P w H' h' a o:=by
 induction o with
 | lst xs=>obtain ⟨z,its,n,r,e⟩:=x;exact ⟨z,its,n,r,k _ _ (.inl rfl) e⟩
 | tup xs=>obtain ⟨z,its,r,ob,e,c⟩:=x;exact ⟨z,its,r,ob,k _ _ (.inl rfl) e,c⟩
 | dK kvs=>obtain ⟨z,y,vs,r,ob,es,ep,e,c⟩:=x;exact ⟨z,y,vs,r,ob,es,ep,k _ _ (.inl rfl) e,c⟩
 | dT kvs =>
   obtain ⟨z,y,xs,r,ob,es,ep,e,c⟩:=x;exact ⟨z,y,xs,Paired.mapP r fun p q z=>⟨z.1,ht _ _ z.2.1,z.2.2⟩,ob,es,ep,k _ _ (.inl rfl) e,c⟩
 | set S n=>obtain ⟨ob,es,ep,t,e,c⟩:=x;exact ⟨ob,es,ep,t,k _ _ (.inl rfl) e,c⟩
 | ins C dx fs =>
   obtain ⟨d,z,ne,e,mA,⟨od,es,ep,e2,c⟩,r⟩:=x;exact ⟨ho _ d,z,ne,k _ _ (.inl rfl) e,mA,⟨od,es,ep,k _ _ (.inr d) e2,c⟩,r⟩
 | own y=>obtain ⟨ob,e⟩:=x;exact ⟨ob,k _ _ (.inl rfl) e⟩
 | xd fs=>obtain ⟨mA,⟨od,es,ep,e,c⟩,r⟩:=x;exact ⟨mA,⟨od,es,ep,k _ _ (.inl rfl) e,c⟩,r⟩
 | rng lo hi=>obtain ⟨t,u,v,e⟩:=x;exact ⟨t,u,v,k _ _ (.inl rfl) e⟩
 | frz ob u ih=>obtain ⟨e,q⟩:=x;exact ⟨k _ _ (.inl rfl) e,ih q⟩
 | tbl ps =>
   have e:h.get? a=some { cls:=.none,data:=.fields ps }:=x;show h'.get? a=some { cls:=.none,data:=.fields ps };exact k a _ (.inl rfl) e
 | met f y =>
   have e:h.get? a=some (PySem.W.methodObj (.ref f) (.ref y)):=x;show h'.get? a=some (PySem.W.methodObj (.ref f) (.ref y));exact k a _ (.inl rfl) e
 | ext φ=>obtain ⟨p,⟨o,e⟩,st⟩:=x;exact ⟨st _ _ p fun o q=>k _ _ (.inl rfl) q,⟨o,k _ _ (.inl rfl) e⟩,st⟩
theorem HOk.lt (x:HOk P w H h) (e:H a=some o):a<h.objs.size:=(x a o e).lt
theorem HOk.fresh (x:HOk P w H h) (e:h.objs.size<=a):H a=none:=by
 cases q:H a with
 | none=>rfl
 | some u=>exact absurd (Nat.lt_of_lt_of_le (x.lt q) e) (Nat.lt_irrefl _)
theorem HOk.kept (x:HOk P w H h) (k:∀ b u,h.get? b=some u->h'.get? b=some u):HOk P w H h':=fun a o e =>
 (x a o e).stay (fun b u _ q=>k b u q) (fun _ q=>q) fun _ _ q=>q
theorem HOk.laid (x:HOk P w H h) (k:∀ b u,h.get? b=some u->h'.get? b=some u) (hp:h.objs.size<=a) (new:ObjOk P w (upd H a o) h' a o):HOk P w (upd H a o) h':=fun b u e=>by
 have hn:=x.fresh hp;by_cases hb:b=a
 . subst hb;rw [aj] at e;cases e;exact new
 . rw [au hb] at e;exact (x b u e).stay (fun c v _ q=>k c v q) (fun c q=>by rw [au (bA q hn)];exact q) fun c xs q=>by rw [au (bA q hn)];exact q
end
def Rd (H:Hp) (a:Addr) (u:HO):Prop:=H a=some u\/∃ o,H a=some (.frz o u)
theorem Rd.ok {P:Program} {w:World} {H:Hp} {h:Heap} {a:Addr} {u:HO} (r:Rd H a u) (x:HOk P w H h):ObjOk P w H h a u:=by
 rcases r with r|⟨o,r⟩
 . exact x a u r
 . obtain ⟨_,q⟩:=x a _ r;exact q
def Mut:Option HO->Prop
 | some (.lst _)=>True
 | some (.dK _)=>True
 | some (.dT _)=>True
 | some (.set _ _)=>True
 | some (.ins _ _ _)=>True
 | some (.ext _)=>True
 | _=>False
section
variable {P:Program} {w:World} {H:Hp} {h h':Heap} {x e:Addr} {o':HO}
theorem HOk.write (ok:HOk P w H h) (mu:Mut (H x)) (he:e=x\/H e=some (.own x)) (k:∀ b u,b≠e->h.get? b=some u->h'.get? b=some u) (heo:∃ u,h'.get? e=some u)
   (new:ObjOk P w (upd H x o') h' x o'):HOk P w (upd H x o') h':=fun b u q=>by
 have nown:∀ c y,H c=some (.own y)->c≠x:=fun c y r z=>by subst z;rw [r] at mu;exact mu
 have ntup:∀ c xs,H c=some (.tup xs)->c≠x:=fun c xs r z=>by subst z;rw [r] at mu;exact mu
 by_cases hb:b=x
 . subst hb;rw [aj] at q;cases q;exact new
 . rw [au hb] at q;by_cases hbe:b=e
   . have q':H b=some (.own x):=by
       rcases he with z|z
       . exact absurd (hbe.trans z) hb
       . rw [hbe];exact z
     rw [q] at q';cases q';obtain ⟨v,hv⟩:=heo;exact ⟨v,by rw [hbe];exact hv⟩
   . refine (ok b u q).stay (fun c v hc r=>k c v ?_ r) (fun c r=>by rw [au (nown c b r)];exact r) fun c xs r=>by rw [au (ntup c xs r)];exact r
     rcases hc with rfl|hc
     . exact hbe
     . rintro rfl;rcases he with z|z
       . exact nown c b hc z
       . rw [hc] at z;cases z;exact hb rfl
end
structure Un (fs ex:List Addr) (H H':Hp) (h h':Heap):Prop where
 keep:∀ b o,h.get? b=some o->H b=none->b ∉ fs->b ∉ ex->h'.get? b=some o
 slot:∀ b o,h.get? b=some o->H b=none->b∈fs->b ∉ ex->∃ sl,h'.get? b=some { o with slots:=sl }
 free:∀ b o,h.get? b=some o->H b=none->b ∉ ex->H' b=none
 there:∀ b o,h.get? b=some o->b ∉ ex->∃ o',h'.get? b=some o'
 tups:∀ b xs,H b=some (.tup xs)->H' b=some (.tup xs)
 frzs:∀ b o u,H b=some (.frz o u)->H' b=some (.frz o u)
 tbls:∀ b ps,H b=some (.tbl ps)->∃ more,H' b=some (.tbl (ps++more))
section
variable {fs fs' ex ex':List Addr} {H H1 H2:Hp} {h h1 h2 h':Heap} {a x e:Addr} {o:HO}
theorem Un.any (u:Un fs ex H H1 h h1) {b:Addr} {ob:Obj} (q:h.get? b=some ob) (n:H b=none) (hx:b ∉ ex):∃ sl,h1.get? b=some { ob with slots:=sl }:=by
 by_cases hb:b∈fs
 . exact u.slot b ob q n hb hx
 . exact ⟨ob.slots,u.keep b ob q n hb hx⟩
theorem Un.kept (k:∀ b u,h.get? b=some u->h'.get? b=some u):Un fs ex H H h h' :=
 ⟨fun b ob q _ _ _=>k b ob q,fun b ob q _ _ _=>⟨ob.slots,k b ob q⟩,fun _ _ _ n _=>n,fun b ob q _=>⟨ob,k b ob q⟩,fun _ _ q=>q,fun _ _ _ q=>q,fun _ ps q=>⟨#[],by rw [q];simp⟩⟩
theorem Un.refl:Un fs ex H H h h:=Un.kept fun _ _ q=>q
theorem Un.laid (k:∀ b u,h.get? b=some u->h'.get? b=some u) (hp:h.objs.size<=a) (hn:H a=none):Un fs ex H (upd H a o) h h' where
 keep:=fun b u q _ _ _=>k b u q
 slot:=fun b u q _ _ _=>⟨u.slots,k b u q⟩
 free:=fun b u q n _=>by rw [au (Nat.ne_of_lt (Nat.lt_of_lt_of_le (Heap.lt_size q) hp))];exact n
 there:=fun b u q _=>⟨u,k b u q⟩
 tups:=fun b xs q=>by rw [au (bA q hn)];exact q
 frzs:=fun b u xs q=>by rw [au (bA q hn)];exact q
 tbls:=fun b ps q=>⟨#[],by rw [au (bA q hn),q];simp⟩
theorem Un.write (mu:Mut (H x)) (he:e=x\/H e=some (.own x)) (k:∀ b u,b≠e->h.get? b=some u->h'.get? b=some u) (heo:∃ u,h'.get? e=some u):Un fs ex H (upd H x o) h h':=by
 have hx:∀ b,H b=none->b≠x:=fun b n z=>by subst z;rw [n] at mu;exact mu
 have hb:∀ b,H b=none->b≠e:=fun b n z=>by
   subst z;rcases he with r|r
   . exact hx b n r
   . rw [n] at r;cases r
 have hm:∀ b u,H b=some u->¬ Mut (some u)->b≠x:=fun b u q nm z=>by subst z;rw [q] at mu;exact nm mu
 refine ⟨fun b u q n _ _=>k b u (hb b n) q,fun b u q n _ _=>⟨u.slots,k b u (hb b n) q⟩,fun b u q n _=>by rw [au (hx b n)];exact n,fun b u q _=>?_,
   fun b xs q=>by rw [au (hm b _ q fun z=>z)];exact q,fun b u xs q=>by rw [au (hm b _ q fun z=>z)];exact q,fun b ps q=>⟨#[],by rw [au (hm b _ q fun z=>z),q];simp⟩⟩
 by_cases hbe:b=e
 . subst hbe;exact heo
 . exact ⟨u,k b u hbe q⟩
end
def trk (h:Heap) (H:Hp):List Addr:=(List.range h.objs.size).filter fun a=>(H a).isSome
def vC (h:Heap) (H:Hp):Heap:=PySem.W.hideAll h (trk h H)
theorem MC (h:Heap) (H:Hp):(vC h H).objs.size=h.objs.size:=PySem.W.hideAll_size _ _
theorem Pm {h:Heap} {H:Hp} {b:Addr} {o:Obj} (e:h.get? b=some o) (n:H b=none):(vC h H).get? b=some o :=
 PySem.W.hideAll_get _ e fun hm=>by
   have q:(H b).isSome=true:=(List.mem_filter.mp hm).2;rw [n] at q;simp at q
theorem Sr {h:Heap} {H:Hp} {b:Addr} {o:Obj} (e:(vC h H).get? b=some o):h.get? b=some o/\H b=none:=by
 have e':h.get? b=some o:=PySem.W.of_hideAll (trk h H) e;refine ⟨e',?_⟩;cases q:H b with
 | none=>rfl
 | some x =>
   have hm:b∈trk h H:=List.mem_filter.mpr ⟨List.mem_range.mpr (Heap.lt_size e'),by simp [q]⟩;have z:(vC h H).get? b=none:=PySem.W.hideAll_none (trk h H) hm;rw [z] at e;cases e
def RF (g h:Heap) (L:Addr):List (Addr × Obj):=(List.range h.objs.size).filterMap fun a=>if a=L\/(g.get? a).isSome=true then none else (h.get? a).map fun o=>(a,o)
def rest (g h:Heap) (L d:Addr):List (Addr × Obj):=(RF g h L).filter fun p=>decide (p.1≠d)
end L2
namespace L2
open PySem PySem.Spec PyProof.Rows
structure Mod (K:PySem.W.Frag) (mg:Str->Option Value) (base:Heap):Prop where
 kin:K.In base
 glob:base.Ns mainGlobals mg
 blt:∃ mb,base.Ns builtinsNs mb/\∀ x:Str,x≠"__name__"->mb x=bootBuiltins x
 nolimit:base.NoLimit
structure Cx where
 prog:Program
 w:World
 K:PySem.W.Frag
 mg:Str->Option Value
 base:Heap
 A:Around
 N:List Str
 s₀:Shared
 H₀:Hp
 env:Env
 outer:List Env
 stack:List Env
 ex:List Addr
 fn:Str->Bool
 calm:Bool
 pn:List (Addr × Obj)
 xe:Value->Shared->Prop
def frs (l:List Env):List Addr:=l.filterMap (·.frame)
abbrev Cx.fs (X:Cx):List Addr:=frs X.outer
def Vis (sc:Scope) (x:Str):Prop:=sc.names.lookup x=some .local\/sc.names.lookup x=some .cell\/sc.names.lookup x=some .free
def Loc (sc:Scope) (x:Str):Prop:=sc.names.lookup x=some .local\/sc.names.lookup x=some .cell
def Uz (env:Env) (h:Heap) (m:Str->Option Value) (x:Str) (u:Value):Prop :=
 (env.kindOf x=some .local/\m x=some u)\/((env.kindOf x=some .cell\/env.kindOf x=some .free)/\∃ c,env.cells.lookup x=some c/\h.IsCell c (some u))
structure Cx.Ok (X:Cx):Prop where
 mod:Mod X.K X.mg X.base
 kind:X.env.scope.kind=.function
 glob:X.env.globals=mainGlobals
 blt:X.env.builtins=builtinsNs
 above:X.s₀.heap.objs.size<=X.env.locals
 inj:∀ x y c,X.env.cells.lookup x=some c->X.env.cells.lookup y=some c->x=y
 has:∀ x,(X.env.kindOf x=some .cell\/X.env.kindOf x=some .free)->∃ c,X.env.cells.lookup x=some c
 cab:∀ x c,X.fn x=true->X.env.cells.lookup x=some c->X.s₀.heap.objs.size<=c
 hd:X.calm=true->X.A.handled=none
 frames:X.A.frames=some X.stack
 stk:X.stack=X.outer\/(X.stack=X.env::X.outer/\X.env.frame=some X.env.locals)
 exf:∀ b∈X.ex,b≠X.env.locals/\∀ x c,X.env.cells.lookup x=some c->c≠b
 bs:∀ b o,X.base.get? b=some o->X.s₀.heap.get? b=some o/\X.H₀ b=none
 bsz:X.base.objs.size<=X.s₀.heap.objs.size
 noex:∀ b o,X.base.get? b=some o->b ∉ X.ex
 exfs:∀ b∈X.ex,b ∉ X.fs
 funs:X.s₀.heap.FunFrames X.base X.outer
 frf:∀ b∈X.fs,X.H₀ b=none
structure Inv (X:Cx) (pins:List (Addr × Obj)) (σ:List (Option V)) (H:Hp) (s:Shared):Prop where
 ok:X.Ok
 os:s.os=X.s₀.os
 bare:AllBare s.gens
 base:Un X.fs X.ex X.H₀ H X.s₀.heap s.heap
 loc:∃ m,s.heap.Ns X.env.locals m/\∀ (i:Nat) (x:Str) (v:V),X.N[i]?=some x->σ[i]?=some (some v)->Vis X.env.scope x->∃ u,RelV v u/\Uz X.env s.heap m x u
 cell:∀ x c,X.env.cells.lookup x=some c->∃ v,s.heap.IsCell c v
 free:H X.env.locals=none
 freeC:∀ x c,X.env.cells.lookup x=some c->H c=none
 pin:∀ p∈X.pn++pins,s.heap.get? p.1=some p.2/\H p.1=none/\p.1≠X.env.locals/\p.1 ∉ X.fs/\∀ v,p.2.data≠.cell v
 hok:HOk X.prog X.w H s.heap
 len:σ.length=X.N.length
section
variable {X:Cx} {pins:List (Addr × Obj)} {σ:List (Option V)} {H H':Hp} {s:Shared} {h':Heap}
theorem Cx.Ok.nofr (ok:X.Ok) {b:Addr} {o:Obj} (e:X.base.get? b=some o):b ∉ X.fs:=fun hb=>by
 have:=(ok.funs.mem hb).1;rw [e] at this;cases this
theorem Inv.bs (I:Inv X pins σ H s):∀ b o,X.base.get? b=some o->s.heap.get? b=some o/\H b=none:=fun b o e =>
 ⟨I.base.keep b o (I.ok.bs b o e).1 (I.ok.bs b o e).2 (I.ok.nofr e) (I.ok.noex b o e),I.base.free b o (I.ok.bs b o e).1 (I.ok.bs b o e).2 (I.ok.noex b o e)⟩
theorem Inv.bk (I:Inv X pins σ H s):∀ b o,X.base.get? b=some o->s.heap.get? b=some o:=fun b o e=>(I.bs b o e).1
theorem Inv.mod (I:Inv X pins σ H s):Mod X.K X.mg X.base:=I.ok.mod
theorem Inv.kIn (I:Inv X pins σ H s):X.K.In s.heap:=I.ok.mod.kin.keeps I.bk
theorem Inv.lt (I:Inv X pins σ H s):X.env.locals<s.heap.objs.size:=let ⟨_,hn,_⟩:=I.loc;hn.lt
theorem Inv.sz (I:Inv X pins σ H s):X.s₀.heap.objs.size<=s.heap.objs.size:=Nat.le_trans I.ok.above (Nat.le_of_lt I.lt)
theorem Inv.nofs (I:Inv X pins σ H s) {a:Addr} (h:s.heap.objs.size<=a):a ∉ X.fs:=fun hb=>by
 obtain ⟨_,o,ho,_⟩:=I.ok.funs.mem hb;exact absurd (Nat.lt_of_lt_of_le (Heap.lt_size ho) (Nat.le_trans I.sz h)) (Nat.lt_irrefl _)
theorem Inv.cne (I:Inv X pins σ H s):∀ x c,X.env.cells.lookup x=some c->c≠X.env.locals:=fun x c e z=>by
 obtain ⟨v,o,ho,hd⟩:=I.cell x c e;obtain ⟨m,⟨o',es,ep,ho',hd',_⟩,_⟩:=I.loc;rw [z,ho'] at ho;cases ho;rw [hd'] at hd;cases hd
theorem Inv.funs (I:Inv X pins σ H s):s.heap.FunFrames X.base X.outer:=by
 have all:∀ (l:List Env),(∀ b∈frs l,b∈X.fs)->X.s₀.heap.FunFrames X.base l->s.heap.FunFrames X.base l:=by
   intro l
   induction l with
   | nil=>intro _ _;trivial
   | cons env r ih =>
     intro hs hl;obtain ⟨hk,⟨L,o,hf,hn,ho,hd⟩,hr⟩:=hl;have hL:L∈X.fs:=hs L (by unfold frs;rw [List.filterMap_cons,hf];exact List.mem_cons_self);obtain ⟨sl,e⟩:=I.base.slot L o ho (I.ok.frf L hL) hL fun z=>I.ok.exfs L z hL;exact ⟨hk,⟨L,_,hf,hn,e,hd⟩,ih (fun b hb=>hs b (by unfold frs;rw [List.filterMap_cons,hf];exact List.mem_cons_of_mem _ hb)) hr⟩
 exact all X.outer (fun _ hb=>hb) I.ok.funs
theorem Inv.stack (I:Inv X pins σ H s):s.heap.FunFrames X.base X.stack:=by
 rcases I.ok.stk with e|⟨e,hf⟩
 . rw [e];exact I.funs
 . rw [e];obtain ⟨m,hn,_⟩:=I.loc;refine .cons (by rw [I.ok.kind];decide) hf hn ?_ I.funs;exact Heap.get?_none_of_le (Nat.le_trans I.ok.bsz I.ok.above)
theorem Inv.stkSub (I:Inv X pins σ H s):∀ b∈frs X.stack,b∈X.env.locals::X.fs:=fun b hb=>by
 rcases I.ok.stk with e|⟨e,hf⟩
 . rw [e] at hb;exact List.mem_cons_of_mem _ hb
 . rw [e] at hb;unfold frs at hb;rw [List.filterMap_cons,hf] at hb;exact hb
theorem Inv.stkFree (I:Inv X pins σ H s):∀ b∈frs X.stack,H b=none:=fun b hb=>by
 rcases List.mem_cons.mp (I.stkSub b hb) with e|hb
 . rw [e];exact I.free
 . obtain ⟨_,o,ho,_⟩:=I.ok.funs.mem hb;exact I.base.free b o ho (I.ok.frf b hb) fun z=>I.ok.exfs b z hb
theorem Inv.step {g':Array GenState} {t':Nat} {d':Drawn} {ch:List Addr} (I:Inv X pins σ H s)
   (hch:∀ b∈ch,(b∈X.ex\/X.s₀.heap.objs.size<=b)/\b≠X.env.locals/\(∀ x c,X.env.cells.lookup x=some c->c≠b)/\∀ p∈X.pn++pins,p.1≠b)
   (keep:∀ b o,b≠X.env.locals->b ∉ X.fs->b ∉ ch->s.heap.get? b=some o->H b=none->h'.get? b=some o)
   (slot:∀ b o,b≠X.env.locals->b∈X.fs->b ∉ ch->s.heap.get? b=some o->H b=none->∃ sl,h'.get? b=some { o with slots:=sl }) (free:∀ b o,b ∉ ch->s.heap.get? b=some o->H b=none->H' b=none)
   (there:∀ b o,b ∉ ch->s.heap.get? b=some o->∃ o',h'.get? b=some o')
   (tups:∀ b xs,H b=some (.tup xs)->H' b=some (.tup xs)) (frzs:∀ b o u,H b=some (.frz o u)->H' b=some (.frz o u)) (tbls:∀ b ps,H b=some (.tbl ps)->∃ more,H' b=some (.tbl (ps++more)))
   (ns:∀ m,s.heap.Ns X.env.locals m->h'.Ns X.env.locals m) (hok:HOk X.prog X.w H' h') (hg:AllBare g') :
   Inv X pins σ H' { s with heap:=h',gens:=g',drawn:=d',toks:=t' }:=by
 have neL:∀ b o,X.s₀.heap.get? b=some o->b≠X.env.locals:=fun b o e=>Nat.ne_of_lt (Nat.lt_of_lt_of_le (Heap.lt_size e) I.ok.above);have neC:∀ b o,X.s₀.heap.get? b=some o->b ∉ X.ex->b ∉ ch:=fun b o e hx hb=>by
   rcases (hch b hb).1 with z|z
   . exact hx z
   . exact absurd (Nat.lt_of_lt_of_le (Heap.lt_size e) z) (Nat.lt_irrefl _)
 have cellK:∀ x c,X.env.cells.lookup x=some c->∀ v,s.heap.IsCell c v->h'.IsCell c v:=fun x c e v ⟨o,ho,hd⟩=>by
   have nch:c ∉ ch:=fun z=>(hch c z).2.2.1 x c e rfl;by_cases hc:c∈X.fs
   . obtain ⟨sl,q⟩:=slot c o (I.cne x c e) hc nch ho (I.freeC x c e);exact ⟨_,q,hd⟩
   . exact ⟨o,keep c o (I.cne x c e) hc nch ho (I.freeC x c e),hd⟩
 refine ⟨I.ok,I.os,hg,⟨fun b o e n hb hx=>?_,fun b o e n hb hx=>?_,fun b o e n hx=>?_,fun b o e hx=>?_,fun b xs e=>tups b xs (I.base.tups b xs e),fun b o xs e=>frzs b o xs (I.base.frzs b o xs e),fun b ps e=>?_⟩,?_,fun x c e=>?_,?_,fun x c e=>?_,fun p hp=>?_,hok,I.len⟩
 . exact keep b o (neL b o e) hb (neC b o e hx) (I.base.keep b o e n hb hx) (I.base.free b o e n hx)
 . obtain ⟨sl,e1⟩:=I.base.slot b o e n hb hx;obtain ⟨sl',e2⟩:=slot b _ (neL b o e) hb (neC b o e hx) e1 (I.base.free b o e n hx);exact ⟨sl',e2⟩
 . obtain ⟨o',e1⟩:=I.base.there b o e hx;exact free b o' (neC b o e hx) e1 (I.base.free b o e n hx)
 . obtain ⟨o',e1⟩:=I.base.there b o e hx;exact there b o' (neC b o e hx) e1
 . obtain ⟨m1,e1⟩:=I.base.tbls b ps e;obtain ⟨m2,e2⟩:=tbls b _ e1;exact ⟨m1++m2,by rw [e2,Array.append_assoc]⟩
 . obtain ⟨m,hn,hl⟩:=I.loc;refine ⟨m,ns m hn,fun i x v e1 e2 e3=>?_⟩;obtain ⟨u,r,l⟩:=hl i x v e1 e2 e3;refine ⟨u,r,?_⟩;rcases l with l|⟨k,c,e,z⟩
   . exact .inl l
   . exact .inr ⟨k,c,e,cellK x c e _ z⟩
 . obtain ⟨v,z⟩:=I.cell x c e;exact ⟨v,cellK x c e v z⟩
 . obtain ⟨m,⟨o,_,_,ho,_⟩,_⟩:=I.loc;exact free _ o (fun z=>(hch _ z).2.1 rfl) ho I.free
 . obtain ⟨v,o,ho,hd⟩:=I.cell x c e;exact free c o (fun z=>(hch c z).2.2.1 x c e rfl) ho (I.freeC x c e)
 . obtain ⟨e,n,ne,nf,d⟩:=I.pin p hp;have nch:p.1 ∉ ch:=fun z=>(hch p.1 z).2.2.2 p hp rfl;exact ⟨keep p.1 p.2 ne nf nch e n,free p.1 p.2 nch e n,ne,nf,d⟩
theorem Inv.un {t':Nat} (I:Inv X pins σ H s) (u:Un X.fs [] H H' s.heap h') (hok:HOk X.prog X.w H' h'):Inv X pins σ H' { s with heap:=h',toks:=t' }:=by
 obtain ⟨m,⟨o,es,ep,ho,r⟩,_⟩:=id I.loc;obtain ⟨sl,hL⟩:=u.any ho I.free (by simp);exact I.step (g':=s.gens) (d':=s.drawn) (ch:=[]) (fun _ z=>nomatch z) (fun b o _ hb _ e n=>u.keep b o e n hb (by simp)) (fun b o _ hb _ e n=>u.slot b o e n hb (by simp)) (fun b o _ e n=>u.free b o e n (by simp)) (fun b o _ e=>u.there b o e (by simp)) u.tups u.frzs u.tbls (fun m' hm=>by
   obtain ⟨o',es',ep',ho',r'⟩:=hm;rw [ho] at ho';cases ho';exact ⟨_,es',ep',hL,r'⟩) hok I.bare
theorem Inv.call {g':Array GenState} {t':Nat} {d':Drawn} {ch:List Addr} (I:Inv X pins σ H s) (u:Un (frs X.stack) ch H H' s.heap h') (hok:HOk X.prog X.w H' h') (hg:AllBare g')
   (hch:∀ b∈ch,(b∈X.ex\/X.s₀.heap.objs.size<=b)/\b≠X.env.locals/\(∀ x c,X.env.cells.lookup x=some c->c≠b)/\∀ p∈X.pn++pins,p.1≠b) :
   Inv X pins σ H' { s with heap:=h',gens:=g',drawn:=d',toks:=t' }:=by
 obtain ⟨m,⟨o,es,ep,ho,r⟩,_⟩:=id I.loc;obtain ⟨sl,hL⟩:=u.any ho I.free fun z=>(hch _ z).2.1 rfl;exact I.step (ch:=ch) hch (fun b o hL hb hc e n=>u.keep b o e n (fun z=>(List.mem_cons.mp (I.stkSub b z)).elim hL hb) hc) (fun b o _ _ hc e n=>u.any e n hc) (fun b o hc e n=>u.free b o e n hc) (fun b o hc e=>u.there b o e hc) u.tups u.frzs u.tbls (fun m' hm=>by
   obtain ⟨o',es',ep',ho',r'⟩:=hm;rw [ho] at ho';cases ho';exact ⟨_,es',ep',hL,r'⟩) hok hg
theorem Inv.turned {t':Nat} {it:Addr} (I:Inv X pins σ H s) (k:∀ b o,b≠it->s.heap.get? b=some o->h'.get? b=some o) (hn:H it=none) (hL:it≠X.env.locals)
   (h1:it∈X.ex\/X.s₀.heap.objs.size<=it) (h2:∀ x c,X.env.cells.lookup x=some c->c≠it) (h3:∀ p∈X.pn++pins,p.1≠it):Inv X pins σ H { s with heap:=h',toks:=t' }:=by
 have nit:∀ b u,H b=some u->b≠it:=fun b u e z=>by rw [z,hn] at e;cases e
 refine I.step (g':=s.gens) (d':=s.drawn) (ch:=[it]) (fun b hb=>?_) (fun b o _ _ hc e _=>k b o (fun z=>hc (by simp [z])) e) (fun b o _ _ hc e _=>⟨o.slots,k b o (fun z=>hc (by simp [z])) e⟩) (fun _ _ _ _ n=>n)
   (fun b o hc e=>⟨o,k b o (fun z=>hc (by simp [z])) e⟩) (fun _ _ e=>e) (fun _ _ _ e=>e) (fun b ps e=>⟨#[],by rw [e];simp⟩) (fun m hm=>?_) (fun b u e=>?_) I.bare
 . have e:b=it:=by simpa using hb
   subst e;exact ⟨h1,hL,h2,h3⟩
 . obtain ⟨o,es,ep,ho,r⟩:=hm;exact ⟨o,es,ep,k _ o (Ne.symm hL) ho,r⟩
 . refine (I.hok b u e).stay (fun c v hc q=>k c v ?_ q) (fun _ q=>q) fun _ _ q=>q;rcases hc with z|z
   . rw [z];exact nit b u e
   . exact nit c _ z
theorem Inv.tok (I:Inv X pins σ H s) (t:Nat):Inv X pins σ H { s with toks:=t }:=I.un (h':=s.heap) (t':=t) Un.refl I.hok
theorem Inv.kept {t':Nat} (I:Inv X pins σ H s) (k:∀ b u,s.heap.get? b=some u->h'.get? b=some u):Inv X pins σ H { s with heap:=h',toks:=t' }:=I.un (Un.kept k) (I.hok.kept k)
theorem Inv.laid {a:Addr} {o:HO} {t':Nat} (I:Inv X pins σ H s) (k:∀ b u,s.heap.get? b=some u->h'.get? b=some u) (hp:s.heap.objs.size<=a) (new:ObjOk X.prog X.w (upd H a o) h' a o) :
   Inv X pins σ (upd H a o) { s with heap:=h',toks:=t' }:=I.un (Un.laid k hp (I.hok.fresh hp)) (I.hok.laid k hp new)
theorem Inv.write {x e:Addr} {o:HO} {t':Nat} (I:Inv X pins σ H s) (mu:Mut (H x)) (he:e=x\/H e=some (.own x)) (k:∀ b u,b≠e->s.heap.get? b=some u->h'.get? b=some u) (heo:∃ u,h'.get? e=some u)
   (new:ObjOk X.prog X.w (upd H x o) h' x o):Inv X pins σ (upd H x o) { s with heap:=h',toks:=t' }:=I.un (Un.write mu he k heo) (I.hok.write mu he k heo new)
theorem Inv.pins_of {pins':List (Addr × Obj)} (I:Inv X pins σ H s) (h:∀ p∈pins',s.heap.get? p.1=some p.2/\H p.1=none/\p.1≠X.env.locals/\p.1 ∉ X.fs/\∀ v,p.2.data≠.cell v):Inv X pins' σ H s :=
 ⟨I.ok,I.os,I.bare,I.base,I.loc,I.cell,I.free,I.freeC,fun p hp=>(List.mem_append.mp hp).elim (fun z=>I.pin p (List.mem_append_left _ z)) (h p),I.hok,I.len⟩
theorem E6 {N:List Str} (hN:N.Nodup) {i j:Nat} {x:Str} (a:N[i]?=some x) (b:N[j]?=some x):i=j:=by
 obtain ⟨h1,e1⟩:=List.getElem?_eq_some_iff.mp a;obtain ⟨h2,e2⟩:=List.getElem?_eq_some_iff.mp b;exact (List.getElem_inj hN).mp (e1.trans e2.symm)
theorem Dl {M:Model} {A:Around} {E:Value->Shared->Prop} {i:Nat} {x:Str} {v:V} {u:Value} {Q:Unit->Shared->Prop} (I:Inv X pins σ H s) (hN:X.N.Nodup) (hi:X.N[i]?=some x) (hx:Loc X.env.scope x) (r:RelV v u)
   (h:∀ s',Inv X pins (σ.set i (some v)) H s'->(∃ a,Heap.SameBut a s.heap s'.heap/\(a=X.env.locals\/X.env.cells.lookup x=some a))->Q () s') (hf:X.fn x=true\/X.env.scope.names.lookup x=some .local:=by first|exact .inl rfl|exact .inr rfl|assumption):wpAny M A (storeName X.env x u) Q E s:=by
 obtain ⟨m,hn,hl⟩:=id I.loc;have hcls:(X.env.scope.kind == .class || (X.env.scope.kind == .module && X.env.locals != X.env.globals))=false:=by rw [I.ok.kind];rfl
 have hiσ:i<σ.length:=by rw [I.len];exact (List.getElem?_eq_some_iff.mp hi).1
 have cne:=I.cne;have tracked:∀ {a:Addr} {h':Heap},(∃ o,s.heap.get? a=some o/\H a=none)->Heap.SameBut a s.heap h'->HOk X.prog X.w H h':=fun {a h'} ha hs b ob e=>by
   obtain ⟨_,_,hfree⟩:=ha;refine (I.hok b ob e).stay (fun c w' hc q=>(hs.2 c ?_).trans q) (fun _ q=>q) fun _ _ q=>q;rintro rfl;rcases hc with rfl|hc
   . rw [hfree] at e;cases e
   . rw [hfree] at hc;cases hc
 rcases hx with hk|hk
 . refine wpAny_storeName_local hk hn (fun h' hn' hs=>?_) hcls;obtain ⟨oL,_,_,hoL,_⟩:=id hn;refine h _ ⟨I.ok,I.os,I.bare,⟨fun b o e n hb hx=>?_,fun b o e n hb hx=>?_,I.base.free,fun b o e hx=>?_,I.base.tups,I.base.frzs,I.base.tbls⟩,⟨_,hn',fun j y v' e1 e2 e3=>?_⟩,fun y c e=>?_,I.free,I.freeC,fun p hp=>?_,tracked ⟨oL,hoL,I.free⟩ hs,by simpa using I.len⟩ ⟨_,hs,.inl rfl⟩
   . exact (hs.2 b (Nat.ne_of_lt (Nat.lt_of_lt_of_le (Heap.lt_size e) I.ok.above))).trans (I.base.keep b o e n hb hx)
   . obtain ⟨sl,e1⟩:=I.base.slot b o e n hb hx;exact ⟨sl,(hs.2 b (Nat.ne_of_lt (Nat.lt_of_lt_of_le (Heap.lt_size e) I.ok.above))).trans e1⟩
   . obtain ⟨o',e1⟩:=I.base.there b o e hx;exact ⟨o',(hs.2 b (Nat.ne_of_lt (Nat.lt_of_lt_of_le (Heap.lt_size e) I.ok.above))).trans e1⟩
   . by_cases hj:j=i
     . subst hj;rw [hi] at e1;cases e1;rw [List.getElem?_set_self hiσ] at e2;cases e2;exact ⟨u,r,.inl ⟨hk,by simp⟩⟩
     . rw [List.getElem?_set_ne (Ne.symm hj)] at e2;obtain ⟨u',r',q⟩:=hl j y v' e1 e2 e3;refine ⟨u',r',?_⟩;rcases q with ⟨k,e⟩|⟨k,c,e,z⟩
       . refine .inl ⟨k,?_⟩;have:y≠x:=fun e=>hj (E6 hN e1 (e ▸ hi));simp [this,e]
       . exact .inr ⟨k,c,e,z.sameBut hs (cne y c e)⟩
   . obtain ⟨w',z⟩:=I.cell y c e;exact ⟨w',z.sameBut hs (cne y c e)⟩
   . obtain ⟨e,n,ne,nf,d⟩:=I.pin p hp;exact ⟨(hs.2 p.1 ne).trans e,n,ne,nf,d⟩
 . have hfn:X.fn x=true:=by
     rcases hf with z|z
     . exact z
     . rw [z] at hk;cases hk
   obtain ⟨c,hc⟩:=I.ok.has x (.inl hk);obtain ⟨w',z⟩:=I.cell x c hc;refine wpAny_storeName_cell I.ok.kind hk hc z (fun h' hc' hs=>?_);obtain ⟨oc,hoc,hocd⟩:=id z;refine h { s with heap:=h' } ⟨I.ok,I.os,I.bare,⟨fun b o e n hb hx=>?_,fun b o e n hb hx=>?_,I.base.free,fun b o e hx=>?_,I.base.tups,I.base.frzs,I.base.tbls⟩,⟨m,hn.sameBut hs (Ne.symm (cne x c hc)),fun j y v' e1 e2 e3=>?_⟩,fun y c' e=>?_,I.free,I.freeC,fun p hp=>?_,tracked ⟨oc,hoc,I.freeC x c hc⟩ hs,by simpa using I.len⟩ ⟨c,hs,.inr hc⟩
   . exact (hs.2 b (Nat.ne_of_lt (Nat.lt_of_lt_of_le (Heap.lt_size e) (I.ok.cab x c hfn hc)))).trans (I.base.keep b o e n hb hx)
   . obtain ⟨sl,e1⟩:=I.base.slot b o e n hb hx;exact ⟨sl,(hs.2 b (Nat.ne_of_lt (Nat.lt_of_lt_of_le (Heap.lt_size e) (I.ok.cab x c hfn hc)))).trans e1⟩
   . obtain ⟨o',e1⟩:=I.base.there b o e hx;exact ⟨o',(hs.2 b (Nat.ne_of_lt (Nat.lt_of_lt_of_le (Heap.lt_size e) (I.ok.cab x c hfn hc)))).trans e1⟩
   . by_cases hj:j=i
     . subst hj;rw [hi] at e1;cases e1;rw [List.getElem?_set_self hiσ] at e2;cases e2;exact ⟨u,r,.inr ⟨.inl hk,c,hc,hc'⟩⟩
     . rw [List.getElem?_set_ne (Ne.symm hj)] at e2;obtain ⟨u',r',q⟩:=hl j y v' e1 e2 e3;refine ⟨u',r',?_⟩;rcases q with q|⟨k,c',e,z'⟩
       . exact .inl q
       . refine .inr ⟨k,c',e,z'.sameBut hs ?_⟩;rintro rfl;exact hj (E6 hN e1 (I.ok.inj _ _ _ e hc ▸ hi))
   . by_cases hcc:c'=c
     . subst hcc;exact ⟨_,hc'⟩
     . obtain ⟨w2,z2⟩:=I.cell y c' e;exact ⟨w2,z2.sameBut hs hcc⟩
   . obtain ⟨e,n,ne,nf,d⟩:=I.pin p hp;refine ⟨(hs.2 p.1 ?_).trans e,n,ne,nf,d⟩;intro q;rw [q,hoc] at e;have q':oc=p.2:=Option.some.inj e;exact d w' (by rw [<- q'];exact hocd)
theorem FM {M:Model} {A:Around} {E:Value->Shared->Prop} {i:Nat} {x:Str} {v:V} {u:Value} {Q:Unit->Shared->Prop} (I:Inv X pins σ H s) (hN:X.N.Nodup) (hi:X.N[i]?=some x) (hx:Loc X.env.scope x) (r:RelV v u)
   (h:∀ s',Inv X pins (σ.set i (some v)) H s'->Q () s') (hf:X.fn x=true\/X.env.scope.names.lookup x=some .local:=by first|exact .inl rfl|exact .inr rfl|assumption):wpAny M A (storeName X.env x u) Q E s :=
 Dl I hN hi hx r (fun s' I' _=>h s' I') hf
theorem Inv.call' {s':Shared} {ch:List Addr} (I:Inv X pins σ H s) (ho:s'.os=s.os) (u:Un (frs X.stack) ch H H' s.heap s'.heap) (hok:HOk X.prog X.w H' s'.heap) (hg:AllBare s'.gens)
   (hch:∀ b∈ch,(b∈X.ex\/X.s₀.heap.objs.size<=b)/\b≠X.env.locals/\(∀ x c,X.env.cells.lookup x=some c->c≠b)/\∀ p∈X.pn++pins,p.1≠b):Inv X pins σ H' s':=by
 obtain ⟨h',g',d',t',o'⟩:=s';have e:o'=s.os:=ho;subst e;exact I.call (g':=g') (t':=t') (d':=d') u hok hg hch
end
abbrev XK:=Value->Option Addr->Hp->Prop
abbrev St:=List (Option V)
abbrev VK:=V->Hp->Prop
abbrev TE:=St->Hp->VK->Prop
abbrev TT:=St->Hp->(Bool->Hp->Prop)->Prop
abbrev TA:=St->Hp->(List V->Hp->Prop)->Prop
structure Ends where
 nx:St->Hp->Prop
 rt:VK
 bk:St->Hp->Prop:=fun _ _=>False
 ct:St->Hp->Prop:=fun _ _=>False
abbrev TS:=Ends->St->Hp->Prop
def EP (X:Cx) (pins:List (Addr × Obj)) (σ:St) (Q:VK) (u:Value) (s':Shared):Prop:=∃ v H',Inv X pins σ H' s'/\RelV v u/\Q v H'
def TP (X:Cx) (pins:List (Addr × Obj)) (σ:St) (Q:Bool->Hp->Prop) (b:Bool) (s':Shared):Prop:=∃ H',Inv X pins σ H' s'/\Q b H'
def AP (X:Cx) (pins:List (Addr × Obj)) (σ:St) (Q:List V->Hp->Prop) (us:List Value) (s':Shared):Prop:=∃ vs H',Inv X pins σ H' s'/\Vals vs us/\Q vs H'
def SP (X:Cx) (pins:List (Addr × Obj)) (D:Ends) (f:Flow) (s':Shared):Prop :=
 match f with
 | .next=>∃ σ' H',Inv X pins σ' H' s'/\D.nx σ' H'
 | .brk=>∃ σ' H',Inv X pins σ' H' s'/\D.bk σ' H'
 | .cont=>∃ σ' H',Inv X pins σ' H' s'/\D.ct σ' H'
 | .ret u=>∃ v σ' H',Inv X pins σ' H' s'/\RelV v u/\D.rt v H'
def PE (X:Cx) (e:Expr) (t:TE):Prop :=
 ∀ (pins:List (Addr × Obj)) (s:Shared) (σ:St) (H:Hp) (Q:VK),Inv X pins σ H s->t σ H Q->wpAny (model X.prog X.w) X.A (eval e X.env) (EP X pins σ Q) X.xe s
def PT (X:Cx) (e:Expr) (t:TT):Prop :=
 ∀ (pins:List (Addr × Obj)) (s:Shared) (σ:St) (H:Hp) (Q:Bool->Hp->Prop),Inv X pins σ H s->t σ H Q->wpAny (model X.prog X.w) X.A (isTrue e X.env (eval e X.env)) (TP X pins σ Q) X.xe s
def PW (X:Cx) (e:Expr) (t:TT):Prop :=
 ∀ (whole:Sem Value) (pins:List (Addr × Obj)) (s:Shared) (σ:St) (H:Hp) (Q:Bool->Hp->Prop),Inv X pins σ H s->t σ H Q->wpAny (model X.prog X.w) X.A (isTrue e X.env whole) (TP X pins σ Q) X.xe s
theorem PW.pt {X:Cx} {e:Expr} {t:TT} (h:PW X e t):PT X e t:=h _
def PA (X:Cx) (es:List Expr) (t:TA):Prop :=
 ∀ (pos:Pos) (pins:List (Addr × Obj)) (s:Shared) (σ:St) (H:Hp) (Q:List V->Hp->Prop),Inv X pins σ H s->t σ H Q->wpAny (model X.prog X.w) X.A (spliced (backTo pos (starEach es X.env))) (AP X pins σ Q) X.xe s
def PS (X:Cx) (st:Stmt) (t:TS):Prop :=
 ∀ (pins:List (Addr × Obj)) (s:Shared) (σ:St) (H:Hp) (D:Ends),Inv X pins σ H s->t D σ H->wpAny (model X.prog X.w) X.A (exec st X.env) (SP X pins D) X.xe s
def PSs (X:Cx) (st:List Stmt) (t:TS):Prop :=
 ∀ (pins:List (Addr × Obj)) (s:Shared) (σ:St) (H:Hp) (D:Ends),Inv X pins σ H s->t D σ H->wpAny (model X.prog X.w) X.A (execs st X.env) (SP X pins D) X.xe s
theorem thn {α:Type} {t:Sem α} {Q Q':α->Shared->Prop} {M:Model} {A:Around} {E:Value->Shared->Prop} {s:Shared} (h:wpAny M A t Q E s) (hQ:∀ a s,Q a s->Q' a s):wpAny M A t Q' E s:=wpAny_mono h hQ fun _ _ x=>x
theorem bG {t:Sem Value} {X:Cx} {pins:List (Addr × Obj)} {σ:St} {Q:VK} {Q':Value->Shared->Prop} {M:Model} {A:Around} {E:Value->Shared->Prop} {s:Shared} (h:wpAny M A t (EP X pins σ Q) E s) (hQ:∀ u s v H,Inv X pins σ H s->RelV v u->Q v H->Q' u s):wpAny M A t Q' E s:=thn h fun u s ⟨v,H,I,r,q⟩=>hQ u s v H I r q
theorem rF {t:Sem (List Value)} {X:Cx} {pins:List (Addr × Obj)} {σ:St} {Q:List V->Hp->Prop} {Q':List Value->Shared->Prop} {M:Model} {A:Around} {E:Value->Shared->Prop} {s:Shared} (h:wpAny M A t (AP X pins σ Q) E s) (hQ:∀ u s v H,Inv X pins σ H s->Vals v u->Q v H->Q' u s):wpAny M A t Q' E s:=thn h fun u s ⟨v,H,I,r,q⟩=>hQ u s v H I r q
theorem Cs {t:Sem Bool} {X:Cx} {pins:List (Addr × Obj)} {σ:St} {Q:Bool->Hp->Prop} {Q':Bool->Shared->Prop} {M:Model} {A:Around} {E:Value->Shared->Prop} {s:Shared} (h:wpAny M A t (TP X pins σ Q) E s) (hQ:∀ u s H,Inv X pins σ H s->Q u H->Q' u s):wpAny M A t Q' E s:=thn h fun u s ⟨H,I,q⟩=>hQ u s H I q
end L2
namespace L2
open PySem PySem.Spec PyProof.Rows
section
variable {X:Cx}
def B5 (i:Nat):TE:=fun σ H Q=>∃ v,σ[i]?=some (some v)/\Q v H
def tC (v:V):TE:=fun _ H Q=>Q v H
theorem FE {i:Nat} {x:Str} {pos:Pos} (hN:X.N[i]?=some x) (hv:Vis X.env.scope x) (hd:(x == ("__debug__":Str))=false:=by decide) (hcd:(x == ("__classdict__":Str))=false:=by decide):PE X (.Name x pos) (B5 i):=by
 intro pins s σ H Q I h;obtain ⟨v,e,h⟩:=h;obtain ⟨m,hn,hl⟩:=I.loc;obtain ⟨u,r,l⟩:=hl i x v hN e hv;have fin:EP X pins σ Q u s:=⟨v,H,I,r,h⟩;rcases l with ⟨hk,hm⟩|⟨hk,c,hc,hcell⟩
 . exact wpAny_Name (wpAny_loadName_local I.ok.kind hk hn hm fin) hd
 . rcases hk with hk|hk
   . exact wpAny_Name (wpAny_loadName_cell I.ok.kind hk hc hcell fin) hd
   . exact wpAny_Name (wpAny_loadName_free I.ok.kind hk hc hcell fin hcd) hd
theorem ap {i j pos}:PE X (.Constant (.int i) j pos) (tC (.int i)):=fun _ _ _ H _ I h=>wpAny_Constant_int ⟨.int i,H,I.tok _,⟨_,rfl⟩,h⟩
theorem y3 {b j pos}:PE X (.Constant (.bool b) j pos) (tC (.bl b)):=fun _ _ _ H _ I h=>Constant_bool ⟨.bl b,H,I,rfl,h⟩
theorem BE {j pos}:PE X (.Constant .none j pos) (tC .non):=fun _ _ _ H _ I h=>Constant_none ⟨.non,H,I,rfl,h⟩
theorem yM {x j pos}:PE X (.Constant (.str x) j pos) (tC (.str x)):=fun _ _ _ H _ I h=>Calls.Constant_str ⟨.str x,H,I.tok _,⟨_,rfl⟩,h⟩
def Gl (X:Cx) (x:Str):Prop:=X.env.kindOf x=some .globalImplicit
theorem y4 {E:Value->Shared->Prop} {pins:List (Addr × Obj)} {s:Shared} {σ:St} {H:Hp} {x:Str} {u:Value} {pos:Pos} {Q:Value->Shared->Prop} (I:Inv X pins σ H s) (hg:Gl X x) (hm:X.mg x=some u) (h:Q u s)
   (hd:(x == ("__debug__":Str))=false:=by decide):wpAny (model X.prog X.w) X.A (eval (.Name x pos) X.env) Q E s :=
 Calls.Name_function_global I.ok.kind hg (Calls.loadGlobal_global (by rw [I.ok.glob];exact I.mod.glob.keeps I.bk) hm h) hd
theorem qy {E:Value->Shared->Prop} {pins:List (Addr × Obj)} {s:Shared} {σ:St} {H:Hp} {x:Str} {u:Value} {pos:Pos} {Q:Value->Shared->Prop} (I:Inv X pins σ H s) (hg:Gl X x) (hm:X.mg x=none) (hv:bootBuiltins x=some u) (h:Q u s)
   (hn:x≠"__name__":=by decide) (hd:(x == ("__debug__":Str))=false:=by decide):wpAny (model X.prog X.w) X.A (eval (.Name x pos) X.env) Q E s:=by
 obtain ⟨mb,h1,h2⟩:=I.mod.blt;exact Calls.Name_function_global I.ok.kind hg (Calls.loadGlobal_builtin (by rw [I.ok.glob];exact I.mod.glob.keeps I.bk) hm (by rw [I.ok.blt];exact h1.keeps I.bk) ((h2 x hn).trans hv) h) hd
theorem RB {x:Str} {v:V} {u:Value} {pos:Pos} (hg:Gl X x) (hm:X.mg x=some u) (r:RelV v u) (hd:(x == ("__debug__":Str))=false:=by decide):PE X (.Name x pos) (tC v) :=
 fun _ _ _ H _ I h=>y4 I hg hm ⟨v,H,I,r,h⟩ hd
variable {a b:Expr} {ta tb:TE} {pos:Pos}
def PC (X:Cx) (op:CmpOp) (a b:Expr) (t:TE):Prop :=
 ∀ (pins:List (Addr × Obj)) (s:Shared) (σ:St) (H:Hp) (Q:VK),Inv X pins σ H s->t σ H Q ->
   wpAny (model X.prog X.w) X.A (eval a X.env) (fun v s₁=>wpAny (model X.prog X.w) X.A (eval b X.env) (fun u s₂=>wpAny (model X.prog X.w) X.A (compareOp op v u) (EP X pins σ Q) X.xe s₂) X.xe s₁) X.xe s
def S0 (ta:TE):TE:=fun σ H Q=>ta σ H fun x H1=>Q (.bl (decide (x=.non))) H1
def Rf (ta:TE):TE:=fun σ H Q=>ta σ H fun x H1=>Q (.bl (!decide (x=.non))) H1
def tB (t:TE):TT:=fun σ H Q=>t σ H fun x H1=>∃ c,x=.bl c/\Q c H1
theorem TJ {op:CmpOp} {t:TE} (h:PC X op a b t) (h1:behindInMarks op b=false:=by first|exact nobehind _ (by decide) (by decide)|rfl):PT X (.Compare a [op] [b] pos) (tB t):=by
 intro pins s σ H Q I hw;refine wpAny_isTrue_Compare1 (thn (h pins s σ H _ I hw) fun v s1 h1=>thn h1 fun u s2 h2=>thn h2 fun c s3 ⟨x,H1,I1,r1,q1⟩=>?_) h1;obtain ⟨d,rfl,q⟩:=q1;cases r1;exact wpAny_truthy_bool ⟨H1,I1,q⟩
theorem p8 {e:Expr} {t:TE} (h:PE X e t) (he:∀ whole,isTrue e X.env whole=(do let v <- whole;standAt e.pos;holding [v] (truthy v)):=by intro _;rfl):PT X e (tB t):=by
 intro pins s σ H Q I hw;refine isTrue_plain (bG (h pins s σ H _ I hw) fun v s1 x H1 I1 r1 q1=>?_) (he _);obtain ⟨d,rfl,q⟩:=q1;cases r1;exact wpAny_truthy_bool ⟨H1,I1,q⟩
variable {tA tB':TT} {rest:List Expr}
def Qb (t u:TT):TT:=fun σ H Q=>t σ H fun c H1=>if c=true then u σ H1 Q else Q false H1
def tOr (t u:TT):TT:=fun σ H Q=>t σ H fun c H1=>if c=true then Q true H1 else u σ H1 Q
def Ow (t:TT):TT:=fun σ H Q=>t σ H fun c H1=>Q (!c) H1
theorem Cp (ha:PT X a tA):PW X (.BoolOp .And [a] pos) tA:=by
 intro wh pins s σ H Q I h;refine isTrue_and (thn (ha pins s σ H Q I h) fun c s1 e=>?_);cases c with
 | true=>exact isTrue_and_nil e
 | false=>exact e
theorem Th (ha:PT X a tA):PW X (.BoolOp .Or [a] pos) tA:=by
 intro wh pins s σ H Q I h;refine isTrue_or (thn (ha pins s σ H Q I h) fun c s1 e=>?_);cases c with
 | false=>exact isTrue_or_nil e
 | true=>exact e
theorem Gv (ha:PT X a tA) (hb:PW X (.BoolOp .And (b::rest) pos) tB'):PW X (.BoolOp .And (a::b::rest) pos) (Qb tA tB'):=by
 intro wh pins s σ H Q I h;refine isTrue_and (Cs (ha pins s σ H _ I h) fun c s1 H1 I1 q1=>?_);cases c with
 | true=>exact hb wh pins s1 σ H1 Q I1 q1
 | false=>exact ⟨H1,I1,q1⟩
theorem Uo (ha:PT X a tA) (hb:PW X (.BoolOp .Or (b::rest) pos) tB'):PW X (.BoolOp .Or (a::b::rest) pos) (tOr tA tB'):=by
 intro wh pins s σ H Q I h;refine isTrue_or (Cs (ha pins s σ H _ I h) fun c s1 H1 I1 q1=>?_);cases c with
 | true=>exact ⟨H1,I1,q1⟩
 | false=>exact hb wh pins s1 σ H1 Q I1 q1
theorem pW (ha:PT X a tA):PT X (.UnaryOp .Not a pos) (Ow tA):=by
 intro pins s σ H Q I h;exact isTrue_not (ha pins s σ H (fun c H1=>Q (!c) H1) I h)
def KJ (ta tb:TE):TE:=fun σ H Q=>ta σ H fun x H1=>∃ c,x=.bl c/\if c=true then tb σ H1 Q else Q (.bl false) H1
def SK (ta tb:TE):TE:=fun σ H Q=>ta σ H fun x H1=>∃ c,x=.bl c/\if c=true then Q (.bl true) H1 else tb σ H1 Q
def Rh (ta:TE):TE:=fun σ H Q=>ta σ H fun x H1=>∃ c,x=.bl c/\Q (.bl (!c)) H1
theorem SQ {op} {t:TE} (h:PE X a t):PE X (.BoolOp op [a] pos) t:=fun pins s σ H Q I hw=>BoolOp_one (h pins s σ H Q I hw)
theorem Tk (ha:PE X a ta) (hb:PE X (.BoolOp .And (b::rest) pos) tb):PE X (.BoolOp .And (a::b::rest) pos) (KJ ta tb):=by
 intro pins s σ H Q I h;refine BoolOp_and (bG (ha pins s σ H _ I h) fun v s1 x H1 I1 r1 q1=>?_);obtain ⟨c,rfl,q1⟩:=q1;cases r1;refine wpAny_truthy_bool ?_;cases c with
 | true=>exact hb pins s1 σ H1 Q I1 q1
 | false=>exact ⟨.bl false,H1,I1,rfl,q1⟩
def tIf (t:TT) (ta tb:TE):TE:=fun σ H Q=>t σ H fun c H1=>if c=true then ta σ H1 Q else tb σ H1 Q
end
end L2
namespace L2
open PySem PySem.Spec PyProof.Rows
def SqL (K:PySem.W.Frag) (H:Hp) (a:Addr) (xs:List V):Prop :=
 Rd H a (.lst xs) \/
   ∃ (o:Obj) (its:Array Value) (n:Nat),K.lookup a=some o/\o.cls=.type "list"/\o.dict=none/\o.data=.seq its n/\its.size<=sizeLine/\Vals xs its.toList
def SqT (K:PySem.W.Frag) (H:Hp) (a:Addr) (xs:List V):Prop :=
 Rd H a (.tup xs) \/
   ∃ (o:Obj) (its:Array Value) (n:Nat),K.lookup a=some o/\o.cls=.type "tuple"/\o.data=.seq its n/\its.size<=sizeLine/\Vals xs its.toList
def UE:Value->Option V
 | .none=>some .non
 | .bool b=>some (.bl b)
 | .int i _=>some (.int i)
 | .str x _=>some (.str x)
 | .bytes b _=>some (.byt b)
 | .float b _=>some (.flt b)
 | .ref a=>some (.ref a)
 | .type n=>some (.ty n)
 | _=>none
theorem RelV.abs {x:V} {u:Value} (r:RelV x u):UE u=some x:=by
 cases x with
 | non=>cases r;rfl
 | bl _=>cases r;rfl
 | int _=>obtain ⟨t,rfl⟩:=r;rfl
 | str _=>obtain ⟨t,rfl⟩:=r;rfl
 | byt _=>obtain ⟨t,rfl⟩:=r;rfl
 | flt _=>obtain ⟨t,rfl⟩:=r;rfl
 | ref _=>cases r;rfl
 | ty _=>cases r;rfl
theorem RelV.inj {x y:V} {u:Value} (r:RelV x u) (q:RelV y u):x=y:=Option.some.inj (r.abs.symm.trans q.abs)
theorem Vals.inj {xs ys:List V} {us:List Value} (h:Vals xs us) (h2:Vals ys us):xs=ys:=by
 induction h generalizing ys with
 | nil=>cases h2;rfl
 | cons r _ ih=>cases h2 with|cons r2 t2=>rw [r.inj r2,ih t2]
section
variable {X:Cx} {pins:List (Addr × Obj)} {σ:St} {H:Hp} {s:Shared} {a:Addr} {xs ys:List V}
theorem SqL.of {K:PySem.W.Frag} (h:H a=some (.lst xs)):SqL K H a xs:=.inl (.inl h)
theorem SqT.of {K:PySem.W.Frag} (h:H a=some (.tup xs)):SqT K H a xs:=.inl (.inl h)
theorem Inv.list (I:Inv X pins σ H s) (h:SqL X.K H a xs):∃ its:List Value,Vals xs its/\PlainL s.heap a its.toArray/\xs.length<=sizeLine:=by
 rcases h with h|⟨o,its,n,hk,hc,hd,hs,hz,r⟩
 . obtain ⟨z,its,n,r,e⟩:=h.ok I.hok;exact ⟨its,r,⟨_,n,e,rfl,rfl,rfl⟩,z⟩
 . refine ⟨its.toList,r,⟨o,n,I.kIn a o hk,hc,hd,by simpa using hs⟩,?_⟩;have e:=r.length;simp only [Array.length_toList] at e;omega
theorem Inv.tuple (I:Inv X pins σ H s) (h:SqT X.K H a xs):∃ its:List Value,Vals xs its/\IsTup s.heap a its.toArray/\xs.length<=sizeLine:=by
 rcases h with h|⟨o,its,n,hk,hc,hs,hz,r⟩
 . obtain ⟨z,its,r,p⟩:=h.ok I.hok;exact ⟨its,r,p,z⟩
 . refine ⟨its.toList,r,⟨o,I.kIn a o hk,hc,n,by simpa using hs⟩,?_⟩;have e:=r.length;simp only [Array.length_toList] at e;omega
theorem Inv.list_inj (I:Inv X pins σ H s) (h:SqL X.K H a xs) (h':SqL X.K H a ys):xs=ys:=by
 obtain ⟨its,r,⟨o,n,e,_,_,d⟩,_⟩:=I.list h;obtain ⟨its',r',⟨o',n',e',_,_,d'⟩,_⟩:=I.list h';rw [e] at e';cases e';rw [d] at d';injection d' with d1 _
 have:its=its':=by simpa using congrArg Array.toList d1
 subst this;exact r.inj r'
theorem Inv.tuple_inj (I:Inv X pins σ H s) (h:SqT X.K H a xs) (h':SqT X.K H a ys):xs=ys:=by
 obtain ⟨its,r,⟨o,e,_,n,d⟩,_⟩:=I.tuple h;obtain ⟨its',r',⟨o',e',_,n',d'⟩,_⟩:=I.tuple h';rw [e] at e';cases e';rw [d] at d';injection d' with d1 _
 have:its=its':=by simpa using congrArg Array.toList d1
 subst this;exact r.inj r'
end
abbrev Cx.wish (X:Cx) (E:Value->Shared->Prop):Cx:={ X with xe:=E }
abbrev Cx.nox (X:Cx):Cx:=X.wish fun _ _=>False
theorem Cx.Ok.wish {X:Cx} (ok:X.Ok) (E:Value->Shared->Prop):(X.wish E).Ok :=
 ⟨ok.mod,ok.kind,ok.glob,ok.blt,ok.above,ok.inj,ok.has,ok.cab,ok.hd,ok.frames,ok.stk,ok.exf,ok.bs,ok.bsz,ok.noex,ok.exfs,ok.funs,ok.frf⟩
theorem Cx.Ok.unwish {X:Cx} {E:Value->Shared->Prop} (ok:(X.wish E).Ok):X.Ok :=
 ⟨ok.mod,ok.kind,ok.glob,ok.blt,ok.above,ok.inj,ok.has,ok.cab,ok.hd,ok.frames,ok.stk,ok.exf,ok.bs,ok.bsz,ok.noex,ok.exfs,ok.funs,ok.frf⟩
section
variable {X:Cx} {pins:List (Addr × Obj)} {σ:St} {H:Hp} {s:Shared} {E:Value->Shared->Prop}
theorem Inv.wish (I:Inv X pins σ H s) (E:Value->Shared->Prop):Inv (X.wish E) pins σ H s:=⟨I.ok.wish E,I.os,I.bare,I.base,I.loc,I.cell,I.free,I.freeC,I.pin,I.hok,I.len⟩
theorem Inv.unwish (I:Inv (X.wish E) pins σ H s):Inv X pins σ H s:=⟨I.ok.unwish,I.os,I.bare,I.base,I.loc,I.cell,I.free,I.freeC,I.pin,I.hok,I.len⟩
theorem SP.unwish {D:Ends} {f:Flow} {s':Shared} (h:SP (X.wish E) pins D f s'):SP X pins D f s':=by
 cases f with
 | next=>obtain ⟨σ',H',I,q⟩:=h;exact ⟨σ',H',I.unwish,q⟩
 | brk=>obtain ⟨σ',H',I,q⟩:=h;exact ⟨σ',H',I.unwish,q⟩
 | cont=>obtain ⟨σ',H',I,q⟩:=h;exact ⟨σ',H',I.unwish,q⟩
 | ret u=>obtain ⟨v,σ',H',I,r,q⟩:=h;exact ⟨v,σ',H',I.unwish,r,q⟩
theorem PSs.nox {st:List Stmt} {t:TS} (h:PSs X.nox st t):PSs X st t:=fun pins s σ H D I hw =>
 wpAny_mono (h pins s σ H D (I.wish _) hw) (fun _ _ q=>q.unwish) fun _ _ z=>False.elim z
end
section
variable {X:Cx} {st:Stmt} {rest:List Stmt} {t u:TS} {e:Expr} {te:TE} {pos:Pos}
def tNext:TS:=fun D σ H=>D.nx σ H
def Ka (t u:TS):TS:=fun D σ H=>t { D with nx:=u D } σ H
theorem bc:PSs X [] tNext:=fun _ _ σ H _ I h=>wpAny_execs_nil ⟨σ,H,I,h⟩
theorem ao (h1:PS X st t) (h2:PSs X rest u):PSs X (st::rest) (Ka t u):=by
 intro pins s σ H D I h;refine wpAny_execs_cons (thn (h1 pins s σ H { D with nx:=u D } I h) fun f s1 q=>?_);cases f with
 | next =>
   obtain ⟨σ',H',I',q⟩:=q;exact h2 pins s1 σ' H' D I' q
 | ret v=>exact q
 | brk=>exact q
 | cont=>exact q
theorem aq (h1:PS X st t):PSs X [st] t:=by
 intro pins s σ H D I h;refine wpAny_execs_cons (thn (h1 pins s σ H D I h) fun f s1 q=>?_);cases f with
 | next=>exact wpAny_execs_nil q
 | ret v=>exact q
 | brk=>exact q
 | cont=>exact q
theorem Inv.quiet {pins:List (Addr × Obj)} {σ:St} {H:Hp} {s:Shared} (I:Inv X pins σ H s):interactive X.env=false:=by simp [interactive,I.ok.kind]
def KF (te:TE):TS:=fun D σ H=>te σ H fun _ H1=>D.nx σ H1
theorem cY (he:PE X e te) (hs:swapsWith e none pos.line X.env=pure false:=by rfl):PS X (.Expr e pos) (KF te):=by
 intro pins s σ H D I h;exact wpAny_Expr_any (bG (he pins s σ H _ I h) fun v s1 x H1 I1 r1 q1=>⟨σ,H1,I1,q1⟩) I.quiet hs
def NA (te:TE):TS:=fun D σ H=>te σ H D.rt
theorem aK (he:PE X e te):PS X (.Return (some e) pos) (NA te):=by
 intro pins s σ H D I h;exact wpAny_Return_some (bG (he pins s σ H _ I h) fun v s1 x H1 I1 r1 q1=>⟨x,σ,H1,I1,r1,q1⟩)
def QY:TS:=fun D _ H=>D.rt .non H
def Oi (c:TT) (t u:TS):TS:=fun D σ H=>c σ H fun b H1=>if b=true then t D σ H1 else u D σ H1
theorem bX {c:Expr} {a b:List Stmt} {tc:TT} (hc:PT X c tc) (ha:PSs X a t) (hb:PSs X b u):PS X (.If c a b pos) (Oi tc t u):=by
 intro pins s σ H D I h;refine wpAny_If (Cs (hc pins s σ H _ I h) fun d s1 H1 I1 q1=>?_);cases d with
 | true=>exact ha pins s1 σ H1 D I1 q1
 | false=>exact hb pins s1 σ H1 D I1 q1
def tNever:TS:=fun _ _ _=>False
theorem mW:PS X st tNever:=fun _ _ _ _ _ _ h=>h.elim
end
abbrev TG:=V->St->Hp->(St->Hp->Prop)->Prop
abbrev TGs:=List V->St->Hp->(St->Hp->Prop)->Prop
def PG (X:Cx) (target:Expr) (t:TG):Prop :=
 ∀ (pins:List (Addr × Obj)) (s:Shared) (σ:St) (H:Hp) (v:V) (u:Value) (Q:St->Hp->Prop),Inv X pins σ H s->RelV v u->t v σ H Q ->
   wpAny (model X.prog X.w) X.A (assign target X.env u) (fun _ s'=>∃ σ' H',Inv X pins σ' H' s'/\Q σ' H') X.xe s
def PGs (X:Cx) (ts:List Expr) (t:TGs):Prop :=
 ∀ (pins:List (Addr × Obj)) (s:Shared) (σ:St) (H:Hp) (vs:List V) (us:List Value) (Q:St->Hp->Prop),Inv X pins σ H s->Vals vs us->t vs σ H Q ->
   wpAny (model X.prog X.w) X.A (assignInOrder ((assignEach ts X.env).map (·.2)) us) (fun _ s'=>∃ σ' H',Inv X pins σ' H' s'/\Q σ' H') X.xe s
abbrev GV:=V->V->V->Hp->(Hp->Prop)->Prop
def Pn (X:Cx) (t:GV):Prop :=
 ∀ (pins:List (Addr × Obj)) (s:Shared) (σ:St) (H:Hp) (o i v:V) (ov iv u:Value) (Q:Hp->Prop),Inv X pins σ H s->RelV o ov->RelV i iv->RelV v u->t o i v H Q ->
   wpAny (model X.prog X.w) X.A (setItem ov iv u) (fun _ s'=>∃ H',Inv X pins σ H' s'/\Q H') X.xe s
abbrev TIp:=V->V->Hp->VK->Prop
def PIp (X:Cx) (op:Operator) (t:TIp):Prop :=
 ∀ (pins:List (Addr × Obj)) (s:Shared) (σ:St) (H:Hp) (x y:V) (v u:Value) (Q:VK),Inv X pins σ H s->RelV x v->RelV y u->t x y H Q ->
   wpAny (model X.prog X.w) X.A (inplaceOp op v u) (EP X pins σ Q) X.xe s
section
variable {X:Cx} {pos:Pos}
def AZ (i:Nat):TG:=fun v σ H Q=>Q (σ.set i (some v)) H
theorem aR {i:Nat} {x:Str} (hN:X.N.Nodup) (hi:X.N[i]?=some x) (hx:Loc X.env.scope x) (hf:X.fn x=true\/X.env.scope.names.lookup x=some .local:=by first|exact .inl rfl|exact .inr rfl|assumption):PG X (.Name x pos) (AZ i):=by
 intro pins s σ H v u Q I r h;exact wpAny_assign_Name (FM I hN hi hx r (fun s' I'=>⟨_,H,I',h⟩) hf)
def gNil:TGs:=fun vs σ H Q=>vs=[]/\Q σ H
def JQ (t:TG) (u:TGs):TGs:=fun vs σ H Q=>∃ v r,vs=v::r/\t v σ H fun σ' H'=>u r σ' H' Q
theorem ng:PGs X [] gNil:=by
 intro pins s σ H vs us Q I r h;obtain ⟨e,h⟩:=h;subst e;cases r;exact assignInOrder_nil ⟨σ,H,I,h⟩
theorem cT {e:Expr} {es:List Expr} {t:TG} {u:TGs} (h1:PG X e t) (h2:PGs X es u)
   (hs:(assignEach (e::es) X.env).map (·.2)=assign e X.env::(assignEach es X.env).map (·.2):=by rfl):PGs X (e::es) (JQ t u):=by
 intro pins s σ H vs us Q I r h;obtain ⟨v,vr,e1,h⟩:=h;subst e1;cases r with
 | cons r rr =>
   rw [hs];refine assignInOrder_cons (thn (h1 pins s σ H _ _ _ I r h) fun _ s1 ⟨σ1,H1,I1,q1⟩=>?_);exact h2 pins s1 σ1 H1 _ _ Q I1 rr q1
def JU (K:PySem.W.Frag) (n:Nat) (t:TGs):TG:=fun v σ H Q=>∃ a xs,v=.ref a/\SqT K H a xs/\xs.length=n/\t xs σ H Q
theorem sV {es:List Expr} {k:Nat} {t:TGs} {n:Nat} (hc:X.calm=true) (h:PGs X es t)
   (hn:(assignEach es X.env).length=n:=by rfl) (hst:(assignEach es X.env).findIdx? (·.1)=none:=by rfl):PG X (.Tuple es k pos) (JU X.K n t):=by
 intro pins s σ H v u Q I r hw;obtain ⟨a,xs,e1,hq,hl,hw⟩:=hw;subst e1;cases r;obtain ⟨its,rv,ht,hz⟩:=I.tuple hq;refine assign_Tuple_tuple (I.ok.hd hc) ht (by simp [hn,<- hl,rv.length]) hst fun h' hx=>?_;have I1:Inv X pins σ H { s with heap:=h' }:=I.kept (t':=s.toks) fun b o e=>hx b o (Nat.ne_of_lt (Heap.lt_size e)) e;exact h pins _ σ H xs _ Q I1 (by simpa using rv) hw
def Oq (to ti:TE) (t:GV):TG:=fun v σ H Q=>to σ H fun o H1=>ti σ H1 fun i H2=>t o i v H2 fun H3=>Q σ H3
theorem xK {o i:Expr} {to ti:TE} {t:GV} (ho:PE X o to) (hi:PE X i ti) (hs:Pn X t)
   (ha:∀ v,assign (.Subscript o i pos) X.env v=(do
     let ov <- holding [v] (eval o X.env)
     let iv <- holding [v,ov] (eval i X.env)
     standAt pos
     holding [v,ov,iv] (setItem ov iv v)
     release [v,ov,iv] []):=by intro _;rfl):PG X (.Subscript o i pos) (Oq to ti t):=by
 intro pins s σ H v u Q I r h;rw [ha];refine wpAny_bind (wpAny_holding (bG (ho pins s σ H _ I h) fun ov s1 x H1 I1 r1 q1=>?_));refine wpAny_bind (wpAny_holding (bG (hi pins s1 σ H1 _ I1 q1) fun iv s2 y H2 I2 r2 q2=>?_));refine wpAny_bind (wpAny_standAt (wpAny_bind (wpAny_holding (thn (hs pins s2 σ H2 x y v ov iv u _ I2 r1 r2 r q2) fun _ s3 ⟨H3,I3,q3⟩=>?_))));exact wpAny_release ⟨σ,H3,I3,q3⟩
def F9 (te:TE) (g:TG):TS:=fun D σ H=>te σ H fun x H1=>g x σ H1 D.nx
theorem yQ {tg e:Expr} {te:TE} {g:TG} (he:PE X e te) (hg:PG X tg g) (hs:swapsWithSole [tg] e pos.line X.env=pure false:=by rfl) (hw:swappedStores [tg] e X.env=pure none:=by rfl)
   (h1:(assignEach [tg] X.env).map (·.2)=[assign tg X.env]:=by rfl):PS X (.Assign [tg] e pos) (F9 te g):=by
 intro pins s σ H D I h;refine wpAny_Assign_stores (bG (he pins s σ H _ I h) fun v s1 x H1 I1 r1 q1=>?_) hs hw;rw [h1];exact thn (hg pins s1 σ H1 x v _ I1 r1 q1) fun _ s2 q=>q
theorem aA {i:Nat} {x:Str} {e:Expr} {te:TE} {pos':Pos} (hN:X.N.Nodup) (hi:X.N[i]?=some x) (hx:Loc X.env.scope x) (he:PE X e te) (hs:swapsWith e (some (.Name x pos')) pos.line X.env=pure false:=by rfl) (hf:X.fn x=true\/X.env.scope.names.lookup x=some .local:=by first|exact .inl rfl|exact .inr rfl|assumption) :
   PS X (.Assign [.Name x pos'] e pos) (F9 te (AZ i)):=by
 intro pins s σ H D I h;refine wpAny_Assign_Name (bG (he pins s σ H _ I h) fun v s1 y H1 I1 r1 q1=>?_) hs;exact FM I1 hN hi hx r1 (fun s2 I2=>⟨_,H1,I2,q1⟩) hf
def Te (i:Nat) (te:TE) (ti:TIp):TS:=fun D σ H=>∃ x,σ[i]?=some (some x)/\te σ H fun y H1=>ti x y H1 fun z H2=>D.nx (σ.set i (some z)) H2
def Kz (to ti te:TE) (tget:V->V->Hp->VK->Prop) (tip:TIp) (tset:GV):TS:=fun D σ H=>to σ H fun o H1=>ti σ H1 fun i H2=>tget o i H2 fun x H3=>te σ H3 fun y H4=>tip x y H4 fun z H5=>tset o i z H5 fun H6=>D.nx σ H6
def Tm (X:Cx) (t:V->V->Hp->VK->Prop):Prop :=
 ∀ (pins:List (Addr × Obj)) (s:Shared) (σ:St) (H:Hp) (o i:V) (ov iv:Value) (Q:VK),Inv X pins σ H s->RelV o ov->RelV i iv->t o i H Q ->
   wpAny (model X.prog X.w) X.A (getItem ov iv) (EP X pins σ Q) X.xe s
theorem De {o i e:Expr} {to ti te:TE} {tget:V->V->Hp->VK->Prop} {tip:TIp} {tset:GV} {op:Operator} {tpos:Pos} (ho:PE X o to) (hi:PE X i ti) (hg:Tm X tget) (he:PE X e te) (hp:PIp X op tip) (hs:Pn X tset)
   (ha:∀ ov iv new,augStore i ov iv new=(do holding [new,ov,iv] (setItem ov iv new);release [new,ov,iv] [];pure .next):=by intros;rfl):PS X (.AugAssign (.Subscript o i tpos) op e pos) (Kz to ti te tget tip tset):=by
 intro pins s σ H D I h;refine wpAny_AugAssign_SubscriptAny (bG (ho pins s σ H _ I h) fun ov s1 x1 H1 I1 r1 q1=>?_) ha;refine bG (hi pins s1 σ H1 _ I1 q1) fun iv s2 x2 H2 I2 r2 q2=>?_;refine thn (hg pins s2 σ H2 x1 x2 ov iv _ I2 r1 r2 q2) fun old s3 ⟨x3,H3,I3,r3,q3⟩=>?_;refine bG (he pins s3 σ H3 _ I3 q3) fun v s4 x4 H4 I4 r4 q4=>?_;refine thn (hp pins s4 σ H4 x3 x4 old v _ I4 r3 r4 q4) fun new s5 ⟨x5,H5,I5,r5,q5⟩=>?_;exact thn (hs pins s5 σ H5 x1 x2 x5 ov iv new _ I5 r1 r2 r5 q5) fun _ s6 ⟨H6,I6,q6⟩=>⟨σ,H6,I6,q6⟩
def ipI (f:Int->Int->Int):TIp:=fun x y H Q=>∃ i j,x=.int i/\y=.int j/\Q (.int (f i j)) H
theorem GC:PIp X .Add (ipI fun i j=>i+j):=by
 intro pins s σ H x y v u Q I r1 r2 h;obtain ⟨i,j,e1,e2,q⟩:=h;subst e1;subst e2;obtain ⟨t,rfl⟩:=r1;obtain ⟨t',rfl⟩:=r2;exact iadd_int ⟨.int _,H,I.tok _,⟨_,rfl⟩,q⟩
end
section
variable {X:Cx} {pos:Pos}
def Gp (c:TT) (tb:TS):TS:=fun D σ H=>∃ W:Nat->St->Hp->Prop,(∃ m,W m σ H)/\∀ m σ H,W m σ H ->
 c σ H fun b H1=>if b=true then ∃ N:St->Hp->Prop,(∀ σ' H',N σ' H'->∃ m',m'<m/\W m' σ' H')/\tb { D with nx:=N,ct:=N,bk:=D.nx } σ H1 else D.nx σ H1
theorem vH {c:Expr} {body:List Stmt} {tc:TT} {tb:TS} (hp:PassesOwn (model X.prog X.w) X.A X.env X.xe) (hc:PT X c tc) (hb:PSs X body tb):PS X (.While c body [] pos) (Gp tc tb):=by
 intro pins s σ H D I h;obtain ⟨W,⟨m0,w0⟩,turn⟩:=h;refine wpAny_While (codeAny_whileLoop (fun n s'=>∃ σ' H',Inv X pins σ' H' s'/\W n σ' H') ?_ m0 ⟨σ,H,I,w0⟩);rintro n s1 ⟨σ1,H1,I1,w1⟩;refine wpAny_passesOwn hp (Cs (hc pins s1 σ1 H1 _ I1 (turn n σ1 H1 w1)) fun b s2 H2 I2 q2=>?_);cases b with
 | true =>
   obtain ⟨N,hN,q2⟩:=q2;rw [if_pos rfl];refine wpAny_passesOwn hp (thn (hb pins s2 σ1 H2 _ I2 q2) fun f s3 q3=>?_);cases f with
   | next =>
     obtain ⟨σ3,H3,I3,n3⟩:=q3;obtain ⟨m',hm,w3⟩:=hN σ3 H3 n3;exact ⟨m',hm,σ3,H3,I3,w3⟩
   | cont =>
     obtain ⟨σ3,H3,I3,n3⟩:=q3;obtain ⟨m',hm,w3⟩:=hN σ3 H3 n3;exact ⟨m',hm,σ3,H3,I3,w3⟩
   | brk=>exact q3
   | ret v=>exact q3
 | false =>
   rw [if_neg Bool.false_ne_true];exact wpAny_execs_nil ⟨σ1,H2,I2,q2⟩
end
structure It where
 go:Nat->Hp->Prop
 yld:Nat->Hp->V->Hp->Prop
 stop:Nat->Hp->Prop
def lp (X:Cx) (pins:List (Addr × Obj)) (H:Hp) (b:Addr):Prop :=
 H b=none/\b≠X.env.locals/\b ∉ X.fs/\(b∈X.ex\/X.s₀.heap.objs.size<=b)/\(∀ x c,X.env.cells.lookup x=some c->c≠b)/\∀ p∈X.pn++pins,p.1≠b
theorem Inv.fpOk {X:Cx} {pins:List (Addr × Obj)} {σ:St} {H H':Hp} {s:Shared} {b:Addr} (I:Inv X pins σ H s) (hb:s.heap.objs.size<=b) (hn:H' b=none):lp X pins H' b:=by
 refine ⟨hn,Nat.ne_of_gt (Nat.lt_of_lt_of_le I.lt hb),I.nofs hb,.inr (Nat.le_trans I.sz hb),fun x c e z=>?_,fun p hp z=>?_⟩
 . obtain ⟨v,q⟩:=I.cell x c e;exact absurd (Nat.lt_of_lt_of_le q.lt (by rw [z];exact hb)) (Nat.lt_irrefl _)
 . exact absurd (Nat.lt_of_lt_of_le (Heap.lt_size (I.pin p hp).1) (by rw [z];exact hb)) (Nat.lt_irrefl _)
structure Turn (P:Program) (w:World) (K:PySem.W.Frag) (tg:Expr) (J:It) (fp:List Addr) (it:Addr) (tn:Nat->Heap->Prop):Prop where
 mem:it∈fp
 obj:∀ i h,tn i h->∀ b∈fp,∃ o,h.get? b=some o/\∀ v,o.data≠.cell v
 keep:∀ i h h',tn i h->(∀ b∈fp,∀ o,h.get? b=some o->h'.get? b=some o)->tn i h'
 item:∀ (X:Cx),X.prog=P->X.w=w->X.K=K->X.calm=true->∀ (i:Nat) (pins:List (Addr × Obj)) (s:Shared) (σ:St) (H:Hp) (E:Value->Shared->Prop),Inv X pins σ H s->(∀ b∈fp,lp X pins H b)->tn i s.heap->J.go i H ->
   wpAny (model P w) X.A (pyNext (.ref it)) (fun r s1=>∃ u,r=some u /\
     wpAny (model P w) X.A (letOwnedTupleGo tg (.ref it) u) (fun _ s2=>∃ x H',Inv X pins σ H' s2/\RelV x u/\J.yld i H x H'/\tn (i+1) s2.heap/\∀ b∈fp,H' b=none) E s1) E s
 done:∀ (X:Cx),X.prog=P->X.w=w->X.K=K->X.calm=true->∀ (i:Nat) (pins:List (Addr × Obj)) (s:Shared) (σ:St) (H:Hp) (E:Value->Shared->Prop),Inv X pins σ H s->(∀ b∈fp,lp X pins H b)->tn i s.heap->J.stop i H ->
   wpAny (model P w) X.A (pyNext (.ref it)) (fun r s1=>r=none/\Inv X pins σ H s1) E s
 self:∀ (A:Around) (i:Nat) (s:Shared) (Q:Value->Shared->Prop) (E:Value->Shared->Prop),tn i s.heap->Q (.ref it) s->wpAny (model P w) A (pyIter (.ref it)) Q E s
abbrev TI:=St->Hp->(It->Hp->Prop)->Prop
def PIE (X:Cx) (pins:List (Addr × Obj)) (σ:St) (tg:Expr) (R:It->Hp->Prop) (itv:Value) (s2:Shared):Prop :=
 ∃ (it:Addr) (fp:List Addr) (tn:Nat->Heap->Prop) (J:It) (H':Hp),itv=.ref it/\Inv X pins σ H' s2/\Turn X.prog X.w X.K tg J fp it tn/\tn 0 s2.heap/\(∀ b∈fp,lp X pins H' b)/\R J H'
def PI (X:Cx) (tg iter:Expr) (wi:TI):Prop :=
 ∀ (pins:List (Addr × Obj)) (s:Shared) (σ:St) (H:Hp) (R:It->Hp->Prop),Inv X pins σ H s->wi σ H R ->
   wpAny (model X.prog X.w) X.A (eval iter X.env) (fun v s1=>wpAny (model X.prog X.w) X.A (pyIter v) (PIE X pins σ tg R) X.xe s1) X.xe s
theorem Ew {M:Model} {A:Around} {E:Value->Shared->Prop} {s:Shared} {tg:Expr} {it:Addr} {u:Value} {o:Obj} {n:String} {vs:Array Value} {Q:Unit->Shared->Prop} (ho:s.heap.get? it=some o) (hc:o.cls=.type n) (hd:o.data=.fields vs)
   (hn:["enumerate","zip","dict_itemiterator","dict_reverseitemiterator","odict_iterator","itertools.zip_longest","itertools.pairwise"].contains n=false) (hQ:Q () s):wpAny M A (letOwnedTupleGo tg (.ref it) u) Q E s:=by
 unfold letOwnedTupleGo;cases tg <;> first
   | exact wpAny_pure hQ
   | (cases u <;> first
       | exact wpAny_pure hQ
       | (refine wpAny_bind (wpAny_load ho ?_)
          rw [hc,hd];show wpAny M A (if (["enumerate","zip","dict_itemiterator","dict_reverseitemiterator","odict_iterator","itertools.zip_longest","itertools.pairwise"].contains n && vs[0]? == some (rawInt _))=true then _ else _) Q E s;rw [if_neg (by intro h;rw [hn,Bool.false_and] at h;cases h)];exact wpAny_pure hQ))
def Itl (K:PySem.W.Frag) (a:Addr):It :=
 ⟨fun i H=>∃ xs x,SqL K H a xs/\xs[i]?=some x,fun i H x H'=>H'=H/\∀ xs,SqL K H a xs->xs[i]?=some x,fun i H=>∃ xs,SqL K H a xs/\xs.length<=i⟩
def Itt (K:PySem.W.Frag) (a:Addr):It :=
 ⟨fun i H=>∃ xs x,SqT K H a xs/\xs[i]?=some x,fun i H x H'=>H'=H/\∀ xs,SqT K H a xs->xs[i]?=some x,fun i H=>∃ xs,SqT K H a xs/\xs.length<=i⟩
def Itr (lo:Int) (n:Nat):It:=⟨fun i _=>i<n,fun i H x H'=>H'=H/\x=.int (lo+i),fun i _=>n<=i⟩
theorem Mc {P:Program} {w:World} {K:PySem.W.Frag} {tg:Expr} (a it:Addr):Turn P w K tg (Itl K a) [it] it (fun i h=>h.IsListIter it a i) where
 mem:=by simp
 obj:=fun i h st b hb=>by
   have e:b=it:=by simpa using hb
   subst e;obtain ⟨o,e,c,d⟩:=st;exact ⟨o,e,fun v z=>by rw [d] at z;cases z⟩
 keep:=fun i h h' st k=>st.at fun o e=>k it (by simp) o e
 item:=by
   intro X hP hw hK hc i pins s σ H E I hf st hg;subst hP hw hK;obtain ⟨xs,x,hq,hx⟩:=hg;obtain ⟨its,rv,p,hz⟩:=I.list hq;obtain ⟨u,hu,ru⟩:=rv.get hx;obtain ⟨f0,f1,f2,f3,f4,f5⟩:=hf it (by simp);refine wpAny_pyNext_list_item st p.isList (x:=u) (by simpa using hu) fun h' st' sb=>?_;have I1:Inv X pins σ H { s with heap:=h' }:=I.turned (t':=s.toks) (fun b o hb e=>(sb.2 b hb).trans e) f0 f1 f3 f4 f5;obtain ⟨o,e,c,d⟩:=id st';exact ⟨u,rfl,Ew (s:={ s with heap:=h' }) e c d (by decide) ⟨x,H,I1,ru,⟨rfl,fun ys hy=>by rw [I.list_inj hy hq];exact hx⟩,st',fun b hb=>(hf b hb).1⟩⟩
 done:=by
   intro X hP hw hK hc i pins s σ H E I hf st hg;subst hP hw hK;obtain ⟨xs,hq,hx⟩:=hg;obtain ⟨its,rv,p,hz⟩:=I.list hq;obtain ⟨f0,f1,f2,f3,f4,f5⟩:=hf it (by simp);have hl:=rv.length;exact wpAny_pyNext_list_end (I.ok.hd hc) st p.isList (by simp;omega) fun h' eb=>⟨rfl,I.turned (t':=s.toks) (fun b o hb e=>eb b o hb e) f0 f1 f3 f4 f5⟩
 self:=fun _ _ _ _ _ st h=>wpAny_pyIter_listiter st h
theorem JR {P:Program} {w:World} {K:PySem.W.Frag} {tg:Expr} (a it:Addr):Turn P w K tg (Itt K a) [it] it (fun i h=>h.IsTupleIter it a i) where
 mem:=by simp
 obj:=fun i h st b hb=>by
   have e:b=it:=by simpa using hb
   subst e;obtain ⟨o,e,c,d⟩:=st;exact ⟨o,e,fun v z=>by rw [d] at z;cases z⟩
 keep:=fun i h h' st k=>st.at fun o e=>k it (by simp) o e
 item:=by
   intro X hP hw hK hc i pins s σ H E I hf st hg;subst hP hw hK;obtain ⟨xs,x,hq,hx⟩:=hg;obtain ⟨its,rv,p,hz⟩:=I.tuple hq;obtain ⟨u,hu,ru⟩:=rv.get hx;obtain ⟨f0,f1,f2,f3,f4,f5⟩:=hf it (by simp);refine wpAny_pyNext_tuple_item st (show s.heap.IsTuple a its.toArray from p) (x:=u) (by simpa using hu) fun h' st' sb=>?_;have I1:Inv X pins σ H { s with heap:=h' }:=I.turned (t':=s.toks) (fun b o hb e=>(sb.2 b hb).trans e) f0 f1 f3 f4 f5;obtain ⟨o,e,c,d⟩:=id st';exact ⟨u,rfl,Ew (s:={ s with heap:=h' }) e c d (by decide) ⟨x,H,I1,ru,⟨rfl,fun ys hy=>by rw [I.tuple_inj hy hq];exact hx⟩,st',fun b hb=>(hf b hb).1⟩⟩
 done:=by
   intro X hP hw hK hc i pins s σ H E I hf st hg;subst hP hw hK;obtain ⟨xs,hq,hx⟩:=hg;obtain ⟨its,rv,p,hz⟩:=I.tuple hq;obtain ⟨f0,f1,f2,f3,f4,f5⟩:=hf it (by simp);have hl:=rv.length;exact wpAny_pyNext_tuple_end (I.ok.hd hc) st (show s.heap.IsTuple a its.toArray from p) (by simp;omega) fun h' eb=>⟨rfl,I.turned (t':=s.toks) (fun b o hb e=>eb b o hb e) f0 f1 f3 f4 f5⟩
 self:=fun _ _ _ _ _ st h=>wpAny_pyIter_tupleiter st h
theorem KZ {P:Program} {w:World} {K:PySem.W.Frag} {tg:Expr} (it:Addr) (lo:Int) (n:Nat):Turn P w K tg (Itr lo n) [it] it (fun i h=>IsRangeIter h it (lo+(i:Nat)*1) ((n:Int) - (i:Nat)) 1) where
 mem:=by simp
 obj:=fun i h st b hb=>by
   have e:b=it:=by simpa using hb
   subst e;exact ⟨_,st,fun v z=>by
     have z':Data.fields _=Data.cell v:=z;cases z'⟩
 keep:=fun i h h' st k=>k it (by simp) _ st
 item:=by
   intro X hP hw hK hc i pins s σ H E I hf st hg;subst hP hw hK;obtain ⟨f0,f1,f2,f3,f4,f5⟩:=hf it (by simp);have W:=Walks.range (prog:=X.prog) (w:=X.w) (I.ok.hd hc) it lo 1 n;refine W.item i s _ _ hg st fun v h' tk hv st' kk=>?_;obtain ⟨t,rfl⟩:=hv;have I1:Inv X pins σ H { s with heap:=h',toks:=tk }:=I.turned (fun b o hb e=>kk b o (by simpa using hb) e) f0 f1 f3 f4 f5;refine ⟨_,rfl,Ew (s:={ s with heap:=h',toks:=tk }) (n:="range_iterator") st' rfl rfl (by decide) ⟨.int (lo+i),H,I1,⟨t,?_⟩,⟨rfl,rfl⟩,st',fun b hb=>(hf b hb).1⟩⟩;rw [Int.mul_one]
 done:=by
   intro X hP hw hK hc i pins s σ H E I hf st hg;subst hP hw hK;obtain ⟨f0,f1,f2,f3,f4,f5⟩:=hf it (by simp);exact wpAny_pyNext_range_end (I.ok.hd hc) st (by have:n<=i:=hg;omega) fun h' eb=>⟨rfl,I.turned (t':=s.toks) (fun b o hb e=>eb b o hb e) f0 f1 f3 f4 f5⟩
 self:=fun _ _ _ _ _ st h=>wpAny_pyIter_rangeiter st h
end L2
namespace L2
open PySem PySem.Spec PyProof.Rows
section
variable {X:Cx} {tg:Expr}
def Kg (K:PySem.W.Frag) (tl:TE):TI:=fun σ H R=>tl σ H fun x H1=>∃ a,x=.ref a/\(∃ xs,SqL K H1 a xs)/\R (Itl K a) H1
def Nj (K:PySem.W.Frag) (tl:TE):TI:=fun σ H R=>tl σ H fun x H1=>∃ a,x=.ref a/\(∃ xs,SqT K H1 a xs)/\R (Itt K a) H1
theorem kb {l:Expr} {tl:TE} (hl:PE X l tl):PI X tg l (Kg X.K tl):=by
 intro pins s σ H R I h;refine bG (hl pins s σ H _ I h) fun v s1 x H1 I1 r1 q1=>?_;obtain ⟨a,e,⟨xs,hq⟩,q⟩:=q1;subst e;cases r1;obtain ⟨its,rv,p,hz⟩:=I1.list hq;refine wpAny_pyIter_list p.isList ?_;refine ⟨s1.heap.objs.size,[s1.heap.objs.size],_,_,H1,rfl,I1.kept (t':=s1.toks) fun b o e=>Heap.get?_push_of_some _ e,Mc a _,⟨_,Heap.get?_push_size _ rfl,rfl,rfl⟩,fun b hb=>?_,q⟩;have e:b=s1.heap.objs.size:=by simpa using hb
 subst e;exact I1.fpOk (Nat.le_refl _) (I1.hok.fresh (Nat.le_refl _))
theorem wP {l:Expr} {tl:TE} (hl:PE X l tl):PI X tg l (Nj X.K tl):=by
 intro pins s σ H R I h;refine bG (hl pins s σ H _ I h) fun v s1 x H1 I1 r1 q1=>?_;obtain ⟨a,e,⟨xs,hq⟩,q⟩:=q1;subst e;cases r1;obtain ⟨its,rv,p,hz⟩:=I1.tuple hq;refine wpAny_pyIter_tuple (show s1.heap.IsTuple a its.toArray from p) ?_;refine ⟨s1.heap.objs.size,[s1.heap.objs.size],_,_,H1,rfl,I1.kept (t':=s1.toks) fun b o e=>Heap.get?_push_of_some _ e,JR a _,⟨_,Heap.get?_push_size _ rfl,rfl,rfl⟩,fun b hb=>?_,q⟩;have e:b=s1.heap.objs.size:=by simpa using hb
 subst e;exact I1.fpOk (Nat.le_refl _) (I1.hok.fresh (Nat.le_refl _))
theorem EF {pins:List (Addr × Obj)} {σ:St} {H:Hp} {s:Shared} {R:It->Hp->Prop} {E:Value->Shared->Prop} {lo hi:Int} {t u v:Tok} {tk:Nat} (I:Inv X pins σ H s) (h1:-(2^62)<=lo) (h2:lo<2^62) (h3:-(2^62)<=hi) (h4:hi<2^62)
   (q:R (Itr lo (hi - lo).toNat) H):wpAny (model X.prog X.w) X.A (pyIter (.ref s.heap.objs.size)) (PIE X pins σ tg R) E { s with heap:=s.heap.push { cls:=.type "range",data:=.fields #[.int lo t,.int hi u,.int 1 v] },toks:=tk }:=by
 refine wpAny_pyIter_range (IsRange.new ..) (small_one h1 h2 h3 h4) ?_;have I1:Inv X pins σ H { s with heap:=s.heap.push { cls:=.type "range",data:=.fields #[.int lo t,.int hi u,.int 1 v] },toks:=tk }:=I.kept fun b o e=>Heap.get?_push_of_some _ e;refine ⟨(s.heap.push { cls:=.type "range",data:=.fields #[.int lo t,.int hi u,.int 1 v] }).objs.size,[(s.heap.push { cls:=.type "range",data:=.fields #[.int lo t,.int hi u,.int 1 v] }).objs.size],_,_,H,rfl,
   I1.kept (t':=tk) fun b o e=>Heap.get?_push_of_some _ e,KZ _ lo (hi - lo).toNat,?_,fun b hb=>?_,q⟩
 . have e1:lo+((0:Nat):Int)*1=lo:=by simp
   have e2:(((hi - lo).toNat:Nat):Int) - ((0:Nat):Int)=Builtin.Range.rangeSize lo hi 1:=by rw [rangeSize_one];split <;> omega
   show IsRangeIter _ _ (lo+((0:Nat):Int)*1) ((((hi - lo).toNat:Nat):Int) - ((0:Nat):Int)) 1;rw [e1,e2];exact Heap.get?_push_size _ rfl
 . have e:b=(s.heap.push { cls:=.type "range",data:=.fields #[.int lo t,.int hi u,.int 1 v] }).objs.size:=by simpa using hb
   subst e;exact I1.fpOk (Nat.le_refl _) (I1.hok.fresh (Nat.le_refl _))
def JK (ta:TA):TI:=fun σ H R=>ta σ H fun vs H1=>∃ j:Int,vs=[.int j]/\-(2^62)<=j/\j<2^62/\R (Itr 0 j.toNat) H1
def J5 (ta:TA):TI:=fun σ H R=>ta σ H fun vs H1=>∃ i j:Int,vs=[.int i,.int j]/\(-(2^62)<=i/\i<2^62/\-(2^62)<=j/\j<2^62)/\R (Itr i (j - i).toNat) H1
theorem xW {a:Expr} {ta:TA} {p pos:Pos} (hg:Gl X "range") (hm:X.mg "range"=none) (ha:PA X [a] ta) (hs:starEach [a] X.env=[(false,eval a X.env)]:=by rfl):PI X tg (.Call (.Name "range" p) [a] [] pos) (JK ta):=by
 intro pins s σ H R I h;refine Call_ (qy I hg hm boot_range (PyProof.Rows.callWith_type1 (rF (ha pos pins s σ H _ I h) fun us s1 vs H1 I1 r1 q1=>?_) hs rfl));obtain ⟨j,e,q1,q2,q⟩:=q1;subst e;cases r1 with
 | cons r rr =>
   cases rr;obtain ⟨t,rfl⟩:=r;exact call_range_1 (EF I1 (by omega) (by omega) q1 q2 (by simpa using q))
theorem xM {a b:Expr} {ta:TA} {p pos:Pos} (hg:Gl X "range") (hm:X.mg "range"=none) (ha:PA X [a,b] ta) (hs:starEach [a,b] X.env=[(false,eval a X.env),(false,eval b X.env)]:=by rfl) (hs2:starEach [b] X.env=[(false,eval b X.env)]:=by rfl) :
   PI X tg (.Call (.Name "range" p) [a,b] [] pos) (J5 ta):=by
 intro pins s σ H R I h;refine Call_ (qy I hg hm boot_range (PyProof.Rows.callWith_type1 (rF (ha pos pins s σ H _ I h) fun us s1 vs H1 I1 r1 q1=>?_) (by rw [hs,hs2]) (by rw [hs2];rfl)));obtain ⟨i,j,e,⟨q1,q2,q3,q4⟩,q⟩:=q1;subst e;cases r1 with
 | cons r rr =>
   cases rr with
   | cons r' rr =>
     cases rr;obtain ⟨t,rfl⟩:=r;obtain ⟨t',rfl⟩:=r';exact call_range_2 (EF I1 q1 q2 q3 q4 q)
def SL (wi:TI) (g:TG) (tb:TS):TS:=fun D σ H=>wi σ H fun J H1=>∃ W:Nat->Nat->St->Hp->Prop,(∃ m,W 0 m σ H1)/\∀ i m σ H,W i m σ H ->
 (J.stop i H/\D.nx σ H)\/(J.go i H/\∃ N:St->Hp->Prop,(∀ σ' H',N σ' H'->∃ m',m'<m/\W (i+1) m' σ' H')/\∀ x H',J.yld i H x H'->g x σ H' fun σ2 H2=>tb { D with nx:=N,ct:=N,bk:=D.nx } σ2 H2)
def sZ (fp:List Addr) (h:Heap):List (Addr × Obj):=fp.filterMap fun b=>(h.get? b).map fun o=>(b,o)
theorem ki {fp:List Addr} {h:Heap} {b:Addr} {o:Obj} (hb:b∈fp) (e:h.get? b=some o):(b,o)∈sZ fp h:=List.mem_filterMap.mpr ⟨b,hb,by rw [e];rfl⟩
theorem Ls {fp:List Addr} {h:Heap} {p:Addr × Obj} (hp:p∈sZ fp h):p.1∈fp/\h.get? p.1=some p.2:=by
 obtain ⟨b,hb,e⟩:=List.mem_filterMap.mp hp;cases q:h.get? b with
 | none=>rw [q] at e;cases e
 | some o =>
   rw [q] at e;have e':(b,o)=p:=Option.some.inj e;subst e';exact ⟨hb,q⟩
theorem Inv.pinned {pins:List (Addr × Obj)} {σ:St} {H:Hp} {s:Shared} {fp:List Addr} (I:Inv X pins σ H s) (hf:∀ b∈fp,lp X pins H b) (ho:∀ b∈fp,∃ o,s.heap.get? b=some o/\∀ v,o.data≠.cell v):Inv X (pins++sZ fp s.heap) σ H s :=
 I.pins_of fun p hp=>(List.mem_append.mp hp).elim (fun z=>I.pin p (List.mem_append_right _ z)) fun z=>by
   obtain ⟨hb,e⟩:=Ls z;obtain ⟨f0,f1,f2,_⟩:=hf p.1 hb;obtain ⟨o,e',d⟩:=ho p.1 hb;rw [e] at e';cases e';exact ⟨e,f0,f1,f2,d⟩
theorem Inv.unpinned {pins pl:List (Addr × Obj)} {σ:St} {H:Hp} {s:Shared} (I:Inv X (pins++pl) σ H s):Inv X pins σ H s:=I.pins_of fun p hp=>I.pin p (List.mem_append_right _ (List.mem_append_left _ hp))
theorem eF {iter:Expr} {body:List Stmt} {wi:TI} {g:TG} {tb:TS} {pos:Pos} (hp:PassesOwn (model X.prog X.w) X.A X.env X.xe) (hc:X.calm=true) (hi:PI X tg iter wi) (hg:PG X tg g) (hb:PSs X body tb)
   (hs:∀ x,foldedSetIterable iter X.env x=pure x:=by intro _;rfl):PS X (.For tg iter body [] pos) (SL wi g tb):=by
 intro pins s σ H D I h;refine wpAny_For (thn (hi pins s σ H _ I h) fun v s1 h1=>thn h1 fun itv s2 h2=>?_) hs;obtain ⟨it,fp,tn,J,H2,e,I2,T,st2,f2,W,⟨m0,w0⟩,turn⟩:=h2;subst e;have stat:∀ {H':Hp},(∀ b∈fp,H' b=none)->∀ b∈fp,lp X pins H' b:=fun hn b hb=>⟨hn b hb,(f2 b hb).2⟩;refine codeAny_forLoop_any (fun n s'=>∃ i σ' H',Inv X pins σ' H' s'/\tn i s'.heap/\(∀ b∈fp,H' b=none)/\W i n σ' H') ?_ m0 ⟨0,σ,H2,I2,st2,fun b hb=>(f2 b hb).1,w0⟩;rintro n s3 ⟨i,σ3,H3,I3,st3,fr3,w3⟩;rcases turn i n σ3 H3 w3 with ⟨stop,qn⟩|⟨go,N,hN,step⟩
 . refine wpAny_passesOwn hp (thn (T.done X rfl rfl rfl hc i pins s3 σ3 H3 X.xe I3 (stat fr3) st3 stop) fun r s4 ⟨hr,I4⟩=>?_);subst hr;exact wpAny_execs_nil ⟨σ3,H3,I4,qn⟩
 . refine wpAny_passesOwn hp (thn (T.item X rfl rfl rfl hc i pins s3 σ3 H3 X.xe I3 (stat fr3) st3 go) fun r s4 ⟨u,hr,h4⟩=>?_);subst hr;refine wpAny_passesOwn hp (thn h4 fun _ s5 ⟨x,H5,I5,r5,y5,st5,fr5⟩=>?_);have I5':=I5.pinned (stat fr5) (T.obj _ _ st5);refine wpAny_passesOwn hp (thn (hg _ s5 σ3 H5 x u _ I5' r5 (step x H5 y5)) fun _ s6 ⟨σ6,H6,I6,q6⟩=>?_);refine wpAny_passesOwn hp (thn (hb _ s6 σ6 H6 _ I6 q6) fun f s7 q7=>?_);have again:∀ {σ7:St} {H7:Hp},Inv X (pins++sZ fp s5.heap) σ7 H7 s7->N σ7 H7->∃ m,m<n/\∃ i σ' H',Inv X pins σ' H' s7/\tn i s7.heap/\(∀ b∈fp,H' b=none)/\W i m σ' H':=fun {σ7 H7} I7 n7=>by
     obtain ⟨m',hm,w7⟩:=hN σ7 H7 n7;refine ⟨m',hm,i+1,σ7,H7,I7.unpinned,T.keep _ _ _ st5 fun b hb o e=>(I7.pin (b,o) (List.mem_append_right _ (List.mem_append_right _ (ki hb e)))).1,fun b hb=>?_,w7⟩;obtain ⟨o,e,d⟩:=T.obj _ _ st5 b hb;exact (I7.pin (b,o) (List.mem_append_right _ (List.mem_append_right _ (ki hb e)))).2.1
   cases f with
   | next=>obtain ⟨σ7,H7,I7,n7⟩:=q7;exact again I7 n7
   | cont=>obtain ⟨σ7,H7,I7,n7⟩:=q7;exact again I7 n7
   | brk=>obtain ⟨σ7,H7,I7,q7⟩:=q7;exact ⟨σ7,H7,I7.unpinned,q7⟩
   | ret v=>obtain ⟨x7,σ7,H7,I7,r7,q7⟩:=q7;exact ⟨x7,σ7,H7,I7.unpinned,r7,q7⟩
end
theorem NJ {K:PySem.W.Frag} {a:Addr} {xs:List V} {g:TG} {tb:TS} {D:Ends} {σ:St} {H:Hp} (Pv:Nat->St->Hp->Prop) (h0:Pv 0 σ H) (hl:∀ i σ H,i<=xs.length->Pv i σ H->SqL K H a xs)
   (hs:∀ i x σ H,xs[i]?=some x->Pv i σ H->g x σ H fun σ2 H2=>tb { D with nx:=Pv (i+1),ct:=Pv (i+1),bk:=D.nx } σ2 H2) (hd:∀ σ H,Pv xs.length σ H->D.nx σ H) :
   ∃ W:Nat->Nat->St->Hp->Prop,(∃ m,W 0 m σ H)/\∀ i m σ H,W i m σ H ->
     ((Itl K a).stop i H/\D.nx σ H)\/((Itl K a).go i H/\∃ N:St->Hp->Prop,(∀ σ' H',N σ' H'->∃ m',m'<m/\W (i+1) m' σ' H')/\∀ x H',(Itl K a).yld i H x H'->g x σ H' fun σ2 H2=>tb { D with nx:=N,ct:=N,bk:=D.nx } σ2 H2):=by
 refine ⟨fun i m σ H=>m=xs.length - i/\i<=xs.length/\Pv i σ H,⟨xs.length,by simp,Nat.zero_le _,h0⟩,?_⟩;rintro i m σ H ⟨rfl,hi,p⟩;have q:=hl i σ H hi p;by_cases hlt:i<xs.length
 . refine .inr ⟨⟨xs,xs[i],q,by simp [hlt]⟩,Pv (i+1),fun σ' H' p'=>⟨xs.length - (i+1),by omega,rfl,hlt,p'⟩,fun x H' y=>?_⟩;obtain ⟨e,y⟩:=y;subst e;exact hs i x σ _ (y xs q) p
 . have e:i=xs.length:=by omega
   subst e;exact .inl ⟨⟨xs,q,Nat.le_refl _⟩,hd σ H p⟩
theorem CH {K:PySem.W.Frag} {a:Addr} {xs:List V} {g:TG} {tb:TS} {D:Ends} {σ:St} {H:Hp} (Pv:Nat->St->Hp->Prop) (h0:Pv 0 σ H) (hl:∀ i σ H,i<=xs.length->Pv i σ H->SqT K H a xs)
   (hs:∀ i x σ H,xs[i]?=some x->Pv i σ H->g x σ H fun σ2 H2=>tb { D with nx:=Pv (i+1),ct:=Pv (i+1),bk:=D.nx } σ2 H2) (hd:∀ σ H,Pv xs.length σ H->D.nx σ H) :
   ∃ W:Nat->Nat->St->Hp->Prop,(∃ m,W 0 m σ H)/\∀ i m σ H,W i m σ H ->
     ((Itt K a).stop i H/\D.nx σ H)\/((Itt K a).go i H/\∃ N:St->Hp->Prop,(∀ σ' H',N σ' H'->∃ m',m'<m/\W (i+1) m' σ' H')/\∀ x H',(Itt K a).yld i H x H'->g x σ H' fun σ2 H2=>tb { D with nx:=N,ct:=N,bk:=D.nx } σ2 H2):=by
 refine ⟨fun i m σ H=>m=xs.length - i/\i<=xs.length/\Pv i σ H,⟨xs.length,by simp,Nat.zero_le _,h0⟩,?_⟩;rintro i m σ H ⟨rfl,hi,p⟩;have q:=hl i σ H hi p;by_cases hlt:i<xs.length
 . refine .inr ⟨⟨xs,xs[i],q,by simp [hlt]⟩,Pv (i+1),fun σ' H' p'=>⟨xs.length - (i+1),by omega,rfl,hlt,p'⟩,fun x H' y=>?_⟩;obtain ⟨e,y⟩:=y;subst e;exact hs i x σ _ (y xs q) p
 . have e:i=xs.length:=by omega
   subst e;exact .inl ⟨⟨xs,q,Nat.le_refl _⟩,hd σ H p⟩
theorem LV {lo:Int} {n:Nat} {g:TG} {tb:TS} {D:Ends} {σ:St} {H:Hp} (Pv:Nat->St->Hp->Prop) (h0:Pv 0 σ H)
   (hs:∀ i σ H,i<n->Pv i σ H->g (.int (lo+i)) σ H fun σ2 H2=>tb { D with nx:=Pv (i+1),ct:=Pv (i+1),bk:=D.nx } σ2 H2) (hd:∀ σ H,Pv n σ H->D.nx σ H) :
   ∃ W:Nat->Nat->St->Hp->Prop,(∃ m,W 0 m σ H)/\∀ i m σ H,W i m σ H ->
     ((Itr lo n).stop i H/\D.nx σ H)\/((Itr lo n).go i H/\∃ N:St->Hp->Prop,(∀ σ' H',N σ' H'->∃ m',m'<m/\W (i+1) m' σ' H')/\∀ x H',(Itr lo n).yld i H x H'->g x σ H' fun σ2 H2=>tb { D with nx:=N,ct:=N,bk:=D.nx } σ2 H2):=by
 refine ⟨fun i m σ H=>m=n - i/\i<=n/\Pv i σ H,⟨n,by simp,Nat.zero_le _,h0⟩,?_⟩;rintro i m σ H ⟨rfl,hi,p⟩;by_cases hlt:i<n
 . refine .inr ⟨hlt,Pv (i+1),fun σ' H' p'=>⟨n - (i+1),by omega,rfl,hlt,p'⟩,fun x H' y=>?_⟩;obtain ⟨e,y⟩:=y;subst e y;exact hs i σ _ hlt p
 . have e:i=n:=by omega
   subst e;exact .inl ⟨Nat.le_refl _,hd σ H p⟩
end L2
namespace L2
open PySem PySem.Spec PyProof.Rows
abbrev R2:=V->V->Hp->VK->Prop
def OpR (X:Cx) (f:Value->Value->Sem Value) (r:R2):Prop :=
 ∀ (pins:List (Addr × Obj)) (s:Shared) (σ:St) (H:Hp) (x y:V) (v u:Value) (Q:VK),Inv X pins σ H s->RelV x v->RelV y u->r x y H Q ->
   wpAny (model X.prog X.w) X.A (f v u) (EP X pins σ Q) X.xe s
def UnR (X:Cx) (f:Value->Sem Value) (r:V->Hp->VK->Prop):Prop :=
 ∀ (pins:List (Addr × Obj)) (s:Shared) (σ:St) (H:Hp) (x:V) (v:Value) (Q:VK),Inv X pins σ H s->RelV x v->r x H Q ->
   wpAny (model X.prog X.w) X.A (f v) (EP X pins σ Q) X.xe s
def ml (X:Cx) (f:Value) (r:List V->Hp->VK->Prop):Prop :=
 ∀ (pins:List (Addr × Obj)) (s:Shared) (σ:St) (H:Hp) (xs:List V) (us:List Value) (Q:VK),Inv X pins σ H s->Vals xs us->r xs H Q ->
   wpAny (model X.prog X.w) X.A (call f us) (EP X pins σ Q) X.xe s
def Ux (X:Cx) (r:V->Hp->(Bool->Hp->Prop)->Prop):Prop :=
 ∀ (pins:List (Addr × Obj)) (s:Shared) (σ:St) (H:Hp) (x:V) (v:Value) (Q:Bool->Hp->Prop),Inv X pins σ H s->RelV x v->r x H Q ->
   wpAny (model X.prog X.w) X.A (truthy v) (TP X pins σ Q) X.xe s
def tOp (r:R2) (ta tb:TE):TE:=fun σ H Q=>ta σ H fun x H1=>tb σ H1 fun y H2=>r x y H2 Q
def tUn (r:V->Hp->VK->Prop) (ta:TE):TE:=fun σ H Q=>ta σ H fun x H1=>r x H1 Q
def rI (C:Int->Int->Prop) (g:Int->Int->V):R2:=fun x y H Q=>∃ i j,x=.int i/\y=.int j/\C i j/\Q (g i j) H
def rI0 (g:Int->Int->V):R2:=fun x y H Q=>∃ i j,x=.int i/\y=.int j/\Q (g i j) H
def rU (g:Int->V):V->Hp->VK->Prop:=fun x H Q=>∃ i,x=.int i/\Q (g i) H
section
variable {X:Cx} {a b c:Expr} {ta tb tc:TE} {pos:Pos}
theorem NU (ha:PE X a ta) (hb:PE X b tb) {pins:List (Addr × Obj)} {s:Shared} {σ:St} {H:Hp} {R:V->V->Hp->Prop} (I:Inv X pins σ H s)
   (h:ta σ H fun x H1=>tb σ H1 fun y H2=>R x y H2) {Q:Value->Shared->Prop} {f:Value->Value->Sem Value}
   (hf:∀ v u s2 x y H2,Inv X pins σ H2 s2->RelV x v->RelV y u->R x y H2->wpAny (model X.prog X.w) X.A (f v u) Q X.xe s2) :
   wpAny (model X.prog X.w) X.A (eval a X.env) (fun v s₁=>wpAny (model X.prog X.w) X.A (eval b X.env) (fun u s₂=>wpAny (model X.prog X.w) X.A (f v u) Q X.xe s₂) X.xe s₁) X.xe s:=by
 refine bG (ha pins s σ H _ I h) fun v s1 x H1 I1 r1 q1=>?_;refine bG (hb pins s1 σ H1 _ I1 q1) fun u s2 y H2 I2 r2 q2=>?_;exact hf v u s2 x y H2 I2 r1 r2 q2
theorem ax {op:Operator} {r:R2} (ho:OpR X (binaryOp op) r) (ha:PE X a ta) (hb:PE X b tb):PE X (.BinOp a op b pos) (tOp r ta tb):=by
 intro pins s σ H Q I h;exact wpAny_BinOp (NU ha hb I h fun v u s2 x y H2 I2 rx ry q=>ho pins s2 σ H2 x y v u Q I2 rx ry q)
theorem KH {op:UnaryOp} {r:V->Hp->VK->Prop} (ho:UnR X (unaryOp op) r) (ha:PE X a ta):PE X (.UnaryOp op a pos) (tUn r ta):=by
 intro pins s σ H Q I h;exact UnaryOp_ (bG (ha pins s σ H _ I h) fun v s1 x H1 I1 r1 q1=>ho pins s1 σ H1 x v Q I1 r1 q1)
theorem opI {f:Value->Value->Sem Value} {C:Int->Int->Prop} {g:Int->Int->Int}
   (rule:∀ (i j:Int) (t u:Tok) (s:Shared) (Q:Value->Shared->Prop) (E:Value->Shared->Prop),C i j->Q (.int (g i j) s.toks) { s with toks:=s.toks+1 }->wpAny (model X.prog X.w) X.A (f (.int i t) (.int j u)) Q E s) :
   OpR X f (rI C fun i j=>.int (g i j)):=by
 intro pins s σ H x y v u Q I rx ry h;obtain ⟨i,j,rfl,rfl,hc,q⟩:=h;obtain ⟨t,rfl⟩:=rx;obtain ⟨t',rfl⟩:=ry;exact rule i j t t' s _ _ hc ⟨.int (g i j),H,I.tok _,⟨_,rfl⟩,q⟩
theorem Tr {f:Value->Value->Sem Value} {g:Int->Int->Int}
   (rule:∀ (i j:Int) (t u:Tok) (s:Shared) (Q:Value->Shared->Prop) (E:Value->Shared->Prop),Q (.int (g i j) s.toks) { s with toks:=s.toks+1 }->wpAny (model X.prog X.w) X.A (f (.int i t) (.int j u)) Q E s) :
   OpR X f (rI0 fun i j=>.int (g i j)):=by
 intro pins s σ H x y v u Q I rx ry h;obtain ⟨i,j,rfl,rfl,q⟩:=h;obtain ⟨t,rfl⟩:=rx;obtain ⟨t',rfl⟩:=ry;exact rule i j t t' s _ _ ⟨.int (g i j),H,I.tok _,⟨_,rfl⟩,q⟩
theorem JB {f:Value->Value->Sem Value} {g:Int->Int->Bool}
   (rule:∀ (i j:Int) (t u:Tok) (s:Shared) (Q:Value->Shared->Prop) (E:Value->Shared->Prop),Q (.bool (g i j)) s->wpAny (model X.prog X.w) X.A (f (.int i t) (.int j u)) Q E s) :
   OpR X f (rI0 fun i j=>.bl (g i j)):=by
 intro pins s σ H x y v u Q I rx ry h;obtain ⟨i,j,rfl,rfl,q⟩:=h;obtain ⟨t,rfl⟩:=rx;obtain ⟨t',rfl⟩:=ry;exact rule i j t t' s _ _ ⟨.bl (g i j),H,I,rfl,q⟩
def TX (i j:Int):Prop:=0<j/\j<1073741824
def T4 (i j:Int):Prop:=0<=j/\j<=1000000/\i.natAbs<2^64
def CMul (i j:Int):Prop:=(-(2^64)<i/\i<2^64)\/(-(2^64)<j/\j<2^64)
theorem CMul.ok {i j:Int} (h:CMul i j):IntMulOk i j:=by
 rcases h with ⟨h1,h2⟩|⟨h1,h2⟩
 . exact .of_left (intBits_le_64 h1 h2)
 . exact .of_right (intBits_le_64 h1 h2)
theorem gd:OpR X (binaryOp .Add) (rI0 fun i j=>.int (i+j)):=Tr fun _ _ _ _ _ _ _ q=>add_int q
theorem pQ:OpR X (binaryOp .Sub) (rI0 fun i j=>.int (i - j)):=Tr fun _ _ _ _ _ _ _ q=>sub_int q
theorem i9:OpR X (binaryOp .Mult) (rI CMul fun i j=>.int (i*j)):=opI fun _ _ _ _ _ _ _ hc q=>mul_int q hc.ok
theorem dY:OpR X (binaryOp .FloorDiv) (rI TX fun i j=>.int (i / j)):=opI fun i j _ _ _ _ _ hc q=>by
 have h1:(0:Int)<j:=hc.1;have h2:j<1073741824:=hc.2;exact floordiv_int (by omega) (by rw [Int.fdiv_eq_ediv_of_nonneg i (by omega)];exact q) (.inl (PyProof.noPylong_small (by omega)))
theorem bN:OpR X (binaryOp .Mod) (rI (fun _ j=>0<j) fun i j=>.int (i % j)):=opI fun i j _ _ _ _ _ hc q=>by
 have h1:(0:Int)<j:=hc;exact mod_int' (by omega) (by rw [Int.fmod_eq_emod_of_nonneg i (by omega)];exact q)
theorem jK:OpR X (binaryOp .Pow) (rI T4 fun i j=>.int (i^j.toNat)):=opI fun _ _ _ _ _ _ _ hc q=>pow_int_small hc.1 hc.2.1 hc.2.2 q
theorem unI {f:Value->Sem Value} {g:Int->Int}
   (rule:∀ (i:Int) (t:Tok) (s:Shared) (Q:Value->Shared->Prop) (E:Value->Shared->Prop),Q (.int (g i) s.toks) { s with toks:=s.toks+1 }->wpAny (model X.prog X.w) X.A (f (.int i t)) Q E s) :
   UnR X f (rU fun i=>.int (g i)):=by
 intro pins s σ H x v Q I rx h;obtain ⟨i,rfl,q⟩:=h;obtain ⟨t,rfl⟩:=rx;exact rule i t s _ _ ⟨.int (g i),H,I.tok _,⟨_,rfl⟩,q⟩
theorem Hb:UnR X (unaryOp .USub) (rU fun i=>.int (-i)):=unI fun _ _ _ _ _ q=>neg_int q
end
def rK:V->V->Bool
 | .non,.non=>true|.non,.int _=>true|.int _,.non=>true|.non,.bl _=>true|.bl _,.non=>true|.non,.str _=>true|.str _,.non=>true
 | .int _,.int _=>true|.bl _,.bl _=>true|.str _,.str _=>true|.byt _,.byt _=>true
 | .int _,.str _=>true|.str _,.int _=>true|.bl _,.str _=>true|.str _,.bl _=>true
 | _,_=>false
def rEq:R2:=fun x y H Q=>rK x y=true/\Q (.bl (decide (x=y))) H
def rNe:R2:=fun x y H Q=>rK x y=true/\Q (.bl (!decide (x=y))) H
theorem Jg {i j:Int}:decide (V.int i=V.int j)=(i == j):=by
 rw [Bool.eq_iff_iff];simp
theorem MB {i j:Bool}:decide (V.bl i=V.bl j)=(i == j):=by
 rw [Bool.eq_iff_iff];simp
theorem Jm {i j:Str}:decide (V.str i=V.str j)=(i == j):=by
 rw [Bool.eq_iff_iff];simp
theorem IM {i j:Array UInt8}:decide (V.byt i=V.byt j)=(i.toList == j.toList):=by
 rw [Bool.eq_iff_iff];cases i;cases j;simp
section
variable {X:Cx} {a b c:Expr} {ta tb tc:TE} {pos:Pos}
theorem bE {pins:List (Addr × Obj)} {σ:St} {H:Hp} {s:Shared} {Q:VK} {k k':Bool} (I:Inv X pins σ H s) (q:Q (.bl k) H) (e:k=k'):EP X pins σ Q (.bool k') s:=by
 subst e;exact ⟨.bl k,H,I,rfl,q⟩
theorem gH:OpR X (compareOp .Eq) rEq:=by
 intro pins s σ H x y v u Q I rx ry h;obtain ⟨hs,q⟩:=h;cases x with
 | non =>
   cases rx;cases y with
   | non=>cases ry;exact PySem.EqNone.eq_none_none (bE I q (by simp))
   | bl j=>cases ry;exact PySem.EqNone.eq_none_bool (bE I q (by simp))
   | int j=>obtain ⟨t',rfl⟩:=ry;exact PySem.EqNone.eq_none_int (bE I q (by simp))
   | str j=>obtain ⟨t',rfl⟩:=ry;exact PySem.EqNone.eq_none_str (bE I q (by simp))
   | _=>exact absurd (show false=true from hs) Bool.false_ne_true
 | bl i =>
   cases rx;cases y with
   | non=>cases ry;exact PySem.EqNone.eq_bool_none (bE I q (by simp))
   | bl j=>cases ry;exact eq_bool (bE I q MB)
   | str j=>obtain ⟨t',rfl⟩:=ry;exact PySem.EqMixed.eq_bool_str (bE I q (by simp))
   | _=>exact absurd (show false=true from hs) Bool.false_ne_true
 | int i =>
   obtain ⟨t,rfl⟩:=rx;cases y with
   | non=>cases ry;exact PySem.EqNone.eq_int_none (bE I q (by simp))
   | int j=>obtain ⟨t',rfl⟩:=ry;exact eq_int (bE I q Jg)
   | str j=>obtain ⟨t',rfl⟩:=ry;exact PySem.EqMixed.eq_int_str (bE I q (by simp))
   | _=>exact absurd (show false=true from hs) Bool.false_ne_true
 | str i =>
   obtain ⟨t,rfl⟩:=rx;cases y with
   | non=>cases ry;exact PySem.EqNone.eq_str_none (bE I q (by simp))
   | bl j=>cases ry;exact PySem.EqMixed.eq_str_bool (bE I q (by simp))
   | int j=>obtain ⟨t',rfl⟩:=ry;exact PySem.EqMixed.eq_str_int (bE I q (by simp))
   | str j=>obtain ⟨t',rfl⟩:=ry;exact eq_str (bE I q Jm)
   | _=>exact absurd (show false=true from hs) Bool.false_ne_true
 | byt i =>
   obtain ⟨t,rfl⟩:=rx;cases y with
   | byt j=>obtain ⟨t',rfl⟩:=ry;exact PySem.W.eq_bytes (bE I q IM)
   | _=>exact absurd (show false=true from hs) Bool.false_ne_true
 | _=>cases y <;> exact absurd (show false=true from hs) Bool.false_ne_true
theorem oN:OpR X (compareOp .NotEq) rNe:=by
 intro pins s σ H x y v u Q I rx ry h;obtain ⟨hs,q⟩:=h;cases x with
 | non =>
   cases rx;cases y with
   | non=>cases ry;exact PySem.EqNone.ne_none_none (bE I q (by simp))
   | bl j=>cases ry;exact PySem.EqNone.ne_none_bool (bE I q (by simp))
   | int j=>obtain ⟨t',rfl⟩:=ry;exact PySem.EqNone.ne_none_int (bE I q (by simp))
   | str j=>obtain ⟨t',rfl⟩:=ry;exact PySem.EqNone.ne_none_str (bE I q (by simp))
   | _=>exact absurd (show false=true from hs) Bool.false_ne_true
 | bl i =>
   cases rx;cases y with
   | non=>cases ry;exact PySem.EqNone.ne_bool_none (bE I q (by simp))
   | bl j=>cases ry;exact ne_bool (bE I q (congrArg not MB))
   | str j=>obtain ⟨t',rfl⟩:=ry;exact PySem.EqMixed.ne_bool_str (bE I q (by simp))
   | _=>exact absurd (show false=true from hs) Bool.false_ne_true
 | int i =>
   obtain ⟨t,rfl⟩:=rx;cases y with
   | non=>cases ry;exact PySem.EqNone.ne_int_none (bE I q (by simp))
   | int j=>obtain ⟨t',rfl⟩:=ry;exact ne_int (bE I q (congrArg not Jg))
   | str j=>obtain ⟨t',rfl⟩:=ry;exact PySem.EqMixed.ne_int_str (bE I q (by simp))
   | _=>exact absurd (show false=true from hs) Bool.false_ne_true
 | str i =>
   obtain ⟨t,rfl⟩:=rx;cases y with
   | non=>cases ry;exact PySem.EqNone.ne_str_none (bE I q (by simp))
   | bl j=>cases ry;exact PySem.EqMixed.ne_str_bool (bE I q (by simp))
   | int j=>obtain ⟨t',rfl⟩:=ry;exact PySem.EqMixed.ne_str_int (bE I q (by simp))
   | str j=>obtain ⟨t',rfl⟩:=ry;exact ne_str (bE I q (congrArg not Jm))
   | _=>exact absurd (show false=true from hs) Bool.false_ne_true
 | byt i =>
   obtain ⟨t,rfl⟩:=rx;cases y with
   | byt j=>obtain ⟨t',rfl⟩:=ry;exact PySem.W.ne_bytes (bE I q (congrArg not IM))
   | _=>exact absurd (show false=true from hs) Bool.false_ne_true
 | _=>cases y <;> exact absurd (show false=true from hs) Bool.false_ne_true
theorem K3:OpR X (compareOp .Lt) (rI0 fun i j=>.bl (decide (i<j))):=JB fun _ _ _ _ _ _ _ q=>lt_int q
theorem Bn:OpR X (compareOp .LtE) (rI0 fun i j=>.bl (decide (i<=j))):=JB fun _ _ _ _ _ _ _ q=>le_int q
theorem Ez:OpR X (compareOp .Gt) (rI0 fun i j=>.bl (decide (j<i))):=JB fun _ _ _ _ _ _ _ q=>gt_int q
theorem KR:OpR X (compareOp .GtE) (rI0 fun i j=>.bl (decide (j<=i))):=JB fun _ _ _ _ _ _ _ q=>ge_int q
theorem bh (b:Expr) {op:CmpOp} (h:op≠.In:=by decide) (h2:op≠.NotIn:=by decide):behindInMarks op b=false:=by
 have e1:(op == CmpOp.In)=false:=by cases op <;> first|rfl|exact absurd rfl h
 have e2:(op == CmpOp.NotIn)=false:=by cases op <;> first|rfl|exact absurd rfl h2
 cases b <;> simp [behindInMarks,e1,e2]
theorem sS {op:CmpOp} {r:R2} (ho:OpR X (compareOp op) r) (ha:PE X a ta) (hb:PE X b tb) (hm:behindInMarks op b=false):PE X (.Compare a [op] [b] pos) (tOp r ta tb):=by
 intro pins s σ H Q I h;exact wpAny_Compare1 (NU ha hb I h fun v u s2 x y H2 I2 rx ry q=>ho pins s2 σ H2 x y v u Q I2 rx ry q) hm
def Eu (t:TE):TT:=fun σ H Q=>t σ H fun x H'=>∃ k,x=.bl k/\Q k H'
theorem bf {op:CmpOp} {r:R2} (ho:OpR X (compareOp op) r) (ha:PE X a ta) (hb:PE X b tb) (hm:behindInMarks op b=false):PT X (.Compare a [op] [b] pos) (Eu (tOp r ta tb)):=by
 intro pins s σ H Q I h;refine wpAny_isTrue_Compare1 (bG (ha pins s σ H _ I h) fun v s1 x H1 I1 r1 q1=>bG (hb pins s1 σ H1 _ I1 q1) fun u s2 y H2 I2 r2 q2 =>
   bG (ho pins s2 σ H2 x y v u _ I2 r1 r2 q2) fun c s3 z H3 I3 r3 ⟨k,e,q3⟩=>?_) hm
 subst e;cases r3;exact wpAny_truthy_bool ⟨H3,I3,q3⟩
def BA (r r':R2) (ta tb tc:TE):TE:=fun σ H Q=>ta σ H fun x H1=>tb σ H1 fun y H2=>r x y H2 fun z H3=>∃ k,z=.bl k /\
 (if k=true then tc σ H3 fun w' H4=>r' y w' H4 Q else Q (.bl false) H3)
theorem MU {op op':CmpOp} {r r':R2} (ho:OpR X (compareOp op) r) (ho':OpR X (compareOp op') r') (ha:PE X a ta) (hb:PE X b tb) (hc:PE X c tc)
   (hm:lastMarks [op,op'] [b,c]=false:=by with_unfolding_all rfl):PE X (.Compare a [op,op'] [b,c] pos) (BA r r' ta tb tc):=by
 intro pins s σ H Q I h;refine Compare_chain (bG (ha pins s σ H _ I h) fun v s1 x H1 I1 r1 q1=>chain_link (bG (hb pins s1 σ H1 _ I1 q1) fun u s2 y H2 I2 r2 q2 =>
   bG (ho pins s2 σ H2 x y v u _ I2 r1 r2 q2) fun d s3 z H3 I3 r3 ⟨k,e,q3⟩=>?_)) hm
 subst e;cases r3;refine wpAny_truthy_bool ?_;cases k with
 | false=>exact ite_ff ⟨.bl false,H3,I3,rfl,q3⟩
 | true=>exact ite_tt (chain_last (thn (hc pins s3 σ H3 _ I3 q3) fun w' s4 ⟨z',H4,I4,r4,q4⟩=>ho' pins s4 σ H4 y z' u w' Q I4 r2 r4 q4))
theorem EL {op op':CmpOp} {r r':R2} (ho:OpR X (compareOp op) r) (ho':OpR X (compareOp op') r') (ha:PE X a ta) (hb:PE X b tb) (hc:PE X c tc)
   (hm:lastMarks [op,op'] [b,c]=false:=by with_unfolding_all rfl):PT X (.Compare a [op,op'] [b,c] pos) (Eu (BA r r' ta tb tc)):=by
 intro pins s σ H Q I h;refine isTrue_chain (bG (ha pins s σ H _ I h) fun v s1 x H1 I1 r1 q1=>test_link (bG (hb pins s1 σ H1 _ I1 q1) fun u s2 y H2 I2 r2 q2 =>
   bG (ho pins s2 σ H2 x y v u _ I2 r1 r2 q2) fun d s3 z H3 I3 r3 ⟨k,e,q3⟩=>?_)) hm
 subst e;cases r3;refine wpAny_truthy_bool ?_;cases k with
 | false =>
   obtain ⟨k',e',q'⟩:=q3;cases e';exact ite_ff ⟨H3,I3,q'⟩
 | true =>
   refine ite_tt (test_last (thn (hc pins s3 σ H3 _ I3 q3) fun w' s4 ⟨z',H4,I4,r4,q4⟩=>thn (ho' pins s4 σ H4 y z' u w' _ I4 r2 r4 q4) fun d' s5 ⟨z2,H5,I5,r5,k2,e2,q5⟩=>?_));subst e2;cases r5;exact wpAny_truthy_bool ⟨H5,I5,q5⟩
def Uc (K:PySem.W.Frag) (x:V) (H:Hp) (k:Bool):Prop :=
 match x with
 | .non=>k=false
 | .bl b=>k=b
 | .int i=>k=(i != 0)
 | .str y=>y.length<=sizeLine/\k=((y.length:Int) != 0)
 | .byt y=>y.size<=sizeLine/\k=((y.size:Int) != 0)
 | .ref p=>(∃ xs,SqL K H p xs/\k=!xs.isEmpty)\/(∃ xs,SqT K H p xs/\k=!xs.isEmpty)\/∃ kvs,H p=some (.dK kvs)/\k=!kvs.isEmpty
 | _=>False
theorem KS {κ:Type} {kvs:List (κ × V)} {vs:List (κ × Value)} (r:KV kvs vs):(!vs.isEmpty)=!kvs.isEmpty:=by
 cases r <;> rfl
theorem BD {xs:List V} {its:List Value} (r:Vals xs its):(!its.toArray.isEmpty)=!xs.isEmpty:=by
 cases r <;> simp
theorem qh:(sizeLine:Nat)<2^63:=by rw [sizeLine_eq];decide
theorem T9:Ux X (fun x H Q=>∃ k,Uc X.K x H k/\Q k H):=by
 intro pins s σ H x v Q I rx h;obtain ⟨k,e,q⟩:=h;have hl:=qh;have hs:sizeLine=16777216:=sizeLine_eq;cases x with
 | non =>
   cases rx;have e':k=false:=e;subst e';exact truthy_none ⟨H,I,q⟩
 | bl b =>
   cases rx;have e':k=b:=e;subst e';exact wpAny_truthy_bool ⟨H,I,q⟩
 | int i =>
   obtain ⟨t,rfl⟩:=rx;have e':k=(i != 0):=e;subst e';exact PySem.P.truthy_int ⟨H,I,q⟩
 | str y =>
   obtain ⟨t,rfl⟩:=rx;obtain ⟨hy,e'⟩:y.length<=sizeLine/\k=((y.length:Int) != 0):=e;subst e';exact PySem.P.truthy_str (by omega) ⟨H,I.tok _,q⟩
 | byt y =>
   obtain ⟨t,rfl⟩:=rx;obtain ⟨hy,e'⟩:y.size<=sizeLine/\k=((y.size:Int) != 0):=e;subst e';exact PySem.W.truthy_bytes (by omega) ⟨H,I.tok _,q⟩
 | ref p =>
   cases rx;have e':(∃ xs,SqL X.K H p xs/\k=!xs.isEmpty)\/(∃ xs,SqT X.K H p xs/\k=!xs.isEmpty)\/∃ kvs,H p=some (.dK kvs)/\k=!kvs.isEmpty:=e;rcases e' with ⟨xs,hx,e'⟩|⟨xs,hx,e'⟩|⟨kvs,hx,e'⟩
   . subst e';obtain ⟨its,r,pl,hz⟩:=I.list hx;have hlen:=r.length;exact wpAny_truthy_list pl.isList (by simp only [List.size_toArray];omega) ⟨H,I.tok _,by rw [BD r];exact q⟩
   . subst e';obtain ⟨its,r,pl,hz⟩:=I.tuple hx;have hlen:=r.length;exact truthy_tuple pl (by simp only [List.size_toArray];omega) ⟨H,I.tok _,by rw [BD r];exact q⟩
   . subst e';obtain ⟨hz,hS,vs,r,m⟩:kvs.length<=sizeLine/\(p == sysModules)=false/\∃ vs,KV kvs vs/\s.heap.DictOf (dM X.prog X.w) p vs:=I.hok p _ hx;have hlen:kvs.length=vs.length:=Paired.length r;exact wpAny_truthy_dict hS m (by omega) ⟨H,I.tok _,by rw [KS r];exact q⟩
 | _=>exact (show False from e).elim
theorem Aj (ha:PE X a ta) (he:∀ whole,isTrue a X.env whole=(do let v <- whole;standAt a.pos;holding [v] (truthy v))) :
   PT X a (fun σ H Q=>ta σ H fun x H'=>∃ k,Uc X.K x H' k/\Q k H'):=by
 intro pins s σ H Q I h;exact isTrue_plain (bG (ha pins s σ H _ I h) fun v s1 x H1 I1 r1 q1=>T9 pins s1 σ H1 x v Q I1 r1 q1) (he _)
theorem vN {x:V} {us:List Value} (r:Vals [x] us):∃ u,us=[u]/\RelV x u:=by
 cases r with
 | cons r1 r2=>cases r2;exact ⟨_,rfl,r1⟩
theorem Q0 {x y:V} {us:List Value} (r:Vals [x,y] us):∃ u w',us=[u,w']/\RelV x u/\RelV y w':=by
 cases r with
 | cons r1 r2 =>
   cases r2 with
   | cons r3 r4=>cases r4;exact ⟨_,_,rfl,r1,r3⟩
theorem Lo (hc:X.calm=true):ml X (.builtin "min") (fun xs H Q=>∃ i j,xs=[.int i,.int j]/\Q (.int (if j<i then j else i)) H):=by
 intro pins s σ H xs us Q I r h;obtain ⟨i,j,rfl,q⟩:=h;obtain ⟨u,w',rfl,⟨t,rfl⟩,⟨t',rfl⟩⟩:=Q0 r;refine min_two_ints (I.ok.hd hc) fun h' tk k=>⟨_,H,I.kept k,?_,q⟩;by_cases hj:j<i
 . rw [if_pos hj,if_pos hj];exact ⟨_,rfl⟩
 . rw [if_neg hj,if_neg hj];exact ⟨_,rfl⟩
end
end L2
namespace L2
open PySem PySem.Spec PyProof.Rows
structure ObjM (h:Heap) (x dx C:Addr) (mA:Str->Option Value):Prop where
 obj:h.get? x=some (PySem.W.instObj C dx)
 ns:h.Ns1 dx mA
 ne:dx≠x
theorem LF {h:Heap} {dx:Addr} {mA:Str->Option Value} (n:h.Ns1 dx mA):∃ od,h.get? dx=some od/\∀ name,PySem.W.lookIn name od=some (mA name):=by
 obtain ⟨o,es,ep,ho,hd,hk,_,hm⟩:=n;refine ⟨o,ho,fun name=>?_⟩;have e:=hm name;unfold nsFind findBy at e;rw [<- Array.find?_toList] at e;unfold PySem.W.lookIn;rw [hd];dsimp only;split
 . rename_i y q
   rw [q] at e;exact congrArg some e
 . rename_i q
   rw [q] at e;have a:es.toList.any (·.refKey)=false:=by
     rw [List.any_eq_false];intro y hy;obtain ⟨z,t,hkey⟩:=hk y (Array.mem_toList_iff.mp hy);simp [DictEntry.refKey,hkey]
   have a':¬ es.toList.any (·.refKey)=true:=by rw [a];exact Bool.false_ne_true
   rw [if_neg a'];exact congrArg some e
theorem ObjM.look {h:Heap} {x dx C:Addr} {mA:Str->Option Value} (I:ObjM h x dx C mA):∃ od,PySem.W.InstAt h x (PySem.W.instObj C dx) C (some od)/\∀ name,PySem.W.lookIn name od=some (mA name) :=
 let ⟨od,ho,hl⟩:=LF I.ns
 ⟨od,⟨I.obj,rfl,rfl,ho⟩,hl⟩
section
variable {prog:Program} {w:World} {A:Around} {E:Value->Shared->Prop} {s:Shared} {K:PySem.W.Frag} {x dx C f:Addr} {mA:Str->Option Value} {name:Str} {v:Value}
theorem R8 {expr:Bool} {Q:Value->Shared->Prop} (X:K.In s.heap) (I:ObjM s.heap x dx C mA) (hg:PySem.W.plainGet K C name=true) (hh:PySem.W.hasDictIn K C=true)
   (ha:PySem.W.findIn K (.ref C) name=some none) (hv:mA name=some v) (hv':PySem.W.handedIn v=true) (h:Q v { s with toks:=s.toks+1 }) :
   wpAny (model prog w) A (getAttr (.ref x) name expr) Q E s:=by
 obtain ⟨od,J,hl⟩:=I.look;exact PySem.W.get_value X J (PySem.W.plainGet_of hg).1 (PySem.W.findObj_own hh ha rfl (by rw [hl,hv])) hv' h
theorem Rq {ns:List Str} {Q:Unit->Shared->Prop} (X:K.In s.heap) (I:ObjM s.heap x dx C mA)
   (hs:PySem.W.findIn K (.ref C) "__setattr__"=some (some (.builtin "object.__setattr__"))) (hp:PySem.W.plainOver K C=true) (ht:PySem.W.takerIn K C name=some none) (hh:PySem.W.hasDictIn K C=true)
   (hw:PySem.Within mA ns) (hsz:ns.length<=sizeLine)
   (h:∀ h',ObjM h' x dx C (fun y=>if y=name then some v else mA y)->Heap.SameBut dx s.heap h'->Q () { s with heap:=h',toks:=s.toks+2 }) :
   wpAny (model prog w) A (setAttr (.ref x) name v) Q E s:=by
 obtain ⟨od,J,hl⟩:=I.look;refine PySem.W.set_plain X J hs (PySem.W.osa_open (s:={ s with toks:=s.toks+1 }) (r:=none) X J hp ht fun b=>?_);obtain ⟨cd,hc,hd'⟩:=PySem.W.any_some hh;have hx:s.heap.get? x=some ⟨.ref C,some dx,.plain,#[]⟩:=I.obj;refine wpAny_bind (wpAny_pure (wpAny_bind (wpAny_bind (wpAny_loadPart hx (wpAny_bind (PySem.W.Looks.here (s:={ s with toks:=s.toks+1 }) (PySem.W.looks_clsIn X hc) ?_))))));rw [hd'];refine wpAny_pure (a:=some dx) (wpAny_bind (wpAny_pure (wpAny_bind ?_)));refine wpAny_nsSet1 (s:={ s with toks:=s.toks+1 }) I.ns fun h' hn2 hs2=>?_;obtain ⟨oD,esD,epD,hoD,hdD,hcD⟩:=hn2.count (PySem.Within.cons name v hw);refine wpAny_bind (wpAny_lookBehind hoD (by rw [hdD];exact pastItsLine_dict (Nat.le_trans hcD (by rw [List.length_cons];omega))) ?_);exact wpAny_pure (h _ ⟨(hs2.2 _ (Ne.symm I.ne)).trans I.obj,hn2,I.ne⟩ hs2)
theorem NT {R:Result->Shared->Prop} {vs:List Value} {kw:List (Str × Value)} (X:K.In s.heap) (hm:PySem.W.makesIn K C=true)
   (hi:PySem.W.findIn K (.ref C) "__init__"=some (some (.ref f))) (hf:PySem.W.typeIn K (.ref f)=some (.type "function"))
   (h:codeAny (model prog w) (A.under (.builtin "type.__call__" ⟨.ref C::vs,kw⟩)) (.call (.ref f) ⟨.ref (s.heap.objs.size+1)::vs,kw⟩) (PySem.W.InitBack (s.heap.objs.size+1) R)
     { s with heap:=(s.heap.push PySem.W.emptyDict).push (PySem.W.instObj C s.heap.objs.size) }) :
   codeAny (model prog w) A (.call (.ref C) ⟨vs,kw⟩) R s:=by
 obtain ⟨hh,g,d,t,os⟩:=s;exact PySem.W.make_core (PySem.W.makes_of X hm) (PySem.W.looks_findIn X hi) (fun self=>PySem.W.bind_fn X self hf) (.inl rfl) h
end
def aV (f:Str) (v:V):List (Str × V)->List (Str × V)
 | []=>[(f,v)]
 | (g,x)::r=>if g=f then (g,v)::r else (g,x)::aV f v r
theorem bM (f g:Str) (v:V):∀ fs:List (Str × V),(aV f v fs).lookup g=if g=f then some v else fs.lookup g
 | []=>by
   show List.lookup g [(f,v)]=_;by_cases h:g=f
   . have hb:(g == f)=true:=beq_iff_eq.mpr h;simp only [List.lookup,hb,if_pos h]
   . have hb:(g == f)=false:=beq_eq_false_iff_ne.mpr h;simp only [List.lookup,hb,if_neg h]
 | (k,x)::r=>by
   have ih:=bM f g v r;rw [show aV f v ((k,x)::r)=(if k=f then (k,v)::r else (k,x)::aV f v r) from rfl];by_cases hk:k=f
   . rw [if_pos hk];by_cases h:g=k
     . have hb:(g == k)=true:=beq_iff_eq.mpr h;simp only [List.lookup,hb,if_pos (h.trans hk)]
     . have hb:(g == k)=false:=beq_eq_false_iff_ne.mpr h;simp only [List.lookup,hb,if_neg (fun e:g=f=>h (e.trans hk.symm))]
   . rw [if_neg hk];by_cases h:g=k
     . have hb:(g == k)=true:=beq_iff_eq.mpr h;simp only [List.lookup,hb,if_neg (fun e:g=f=>hk (h.symm.trans e))]
     . have hb:(g == k)=false:=beq_eq_false_iff_ne.mpr h;simp only [List.lookup,hb];exact ih
theorem wS (f:Str) (v:V):∀ fs:List (Str × V),f∈(aV f v fs).map (·.1)/\∀ g,g∈fs.map (·.1)->g∈(aV f v fs).map (·.1)
 | []=>⟨by simp [aV],fun g h=>by simp at h⟩
 | (k,x)::r=>by
   obtain ⟨i1,i2⟩:=wS f v r;rw [show aV f v ((k,x)::r)=(if k=f then (k,v)::r else (k,x)::aV f v r) from rfl];by_cases hk:k=f
   . rw [if_pos hk];subst hk;exact ⟨by simp,fun g h=>by simpa using h⟩
   . rw [if_neg hk];refine ⟨?_,fun g h=>?_⟩
     . rw [List.map_cons];exact List.mem_cons_of_mem _ i1
     . rw [List.map_cons] at h ⊢;rcases List.mem_cons.mp h with e|e
       . exact List.mem_cons.mpr (.inl e)
       . exact List.mem_cons_of_mem _ (i2 g e)
theorem zD (f:Str) (v:V):∀ fs:List (Str × V),(aV f v fs).length<=fs.length+1
 | []=>by simp [aV]
 | (k,x)::r=>by
   have ih:=zD f v r;rw [show aV f v ((k,x)::r)=(if k=f then (k,v)::r else (k,x)::aV f v r) from rfl];by_cases hk:k=f
   . rw [if_pos hk,List.length_cons,List.length_cons];omega
   . rw [if_neg hk,List.length_cons,List.length_cons];omega
theorem RelO.some_of {v:V} {o:Option Value} (r:RelO (some v) o):∃ u,o=some u/\RelV v u:=by
 cases o with
 | none=>exact (show False from r).elim
 | some u=>exact ⟨u,rfl,r⟩
theorem MJ {v:V} {u:Value} (r:RelV v u):PySem.W.handedIn u=true:=by
 cases v with
 | non=>cases (show u=Value.none from r);rfl
 | bl b=>cases (show u=Value.bool b from r);rfl
 | int i=>obtain ⟨t,e⟩:=(show ∃ t,u=Value.int i t from r);cases e;rfl
 | str x=>obtain ⟨t,e⟩:=(show ∃ t,u=Value.str x t from r);cases e;rfl
 | byt b=>obtain ⟨t,e⟩:=(show ∃ t,u=Value.bytes b t from r);cases e;rfl
 | flt b=>obtain ⟨t,e⟩:=(show ∃ t,u=Value.float b t from r);cases e;rfl
 | ref a=>cases (show u=Value.ref a from r);rfl
 | ty n=>cases (show u=Value.type n from r);rfl
section
variable {P:Program} {w:World} {H H':Hp} {h h':Heap} {a C dx:Addr} {fs fs':List (Str × V)}
theorem I0 (hok:HOk P w H h) (e:H a=some (.ins C dx fs)):∃ mA,ObjM h a dx C mA/\(∀ f,RelO (fs.lookup f) (mA f))/\PySem.Within mA (fs.map (·.1))/\fs.length<=1000/\H dx=some (.own a):=by
 obtain ⟨d,z,ne,ob,mA,n,r,q⟩:=(show ObjOk P w H h a (.ins C dx fs) from hok a _ e);exact ⟨mA,⟨ob,n,ne⟩,r,q,z,d⟩
end
structure Cls (K:PySem.W.Frag) (C:Addr):Prop where
 pg:PySem.W.plainGet K C Str.empty=true
 hd:PySem.W.hasDictIn K C=true
 po:PySem.W.plainOver K C=true
 sa:PySem.W.findIn K (.ref C) "__setattr__"=some (some (.builtin "object.__setattr__"))
theorem Cls.get {K:PySem.W.Frag} {C:Addr} (c:Cls K C) (f:Str):PySem.W.plainGet K C f=true:=c.pg
def NoAttr (K:PySem.W.Frag) (C:Addr) (f:Str):Prop:=PySem.W.findIn K (.ref C) f=some none
theorem NoAttr.taker {K:PySem.W.Frag} {C:Addr} {f:Str} (n:NoAttr K C f):PySem.W.takerIn K C f=some none:=by
 unfold PySem.W.takerIn;rw [show PySem.W.findIn K (.ref C) f=some none from n]
 rfl
section
variable {X:Cx} {pins:List (Addr × Obj)} {σ:St} {H:Hp} {s:Shared} {a C dx:Addr} {fs:List (Str × V)} {f:Str} {v:V} {A:Around} {E:Value->Shared->Prop}
theorem JP {b:Bool} {Q:Value->Shared->Prop} (I:Inv X pins σ H s) (e:H a=some (.ins C dx fs)) (c:Cls X.K C) (n:NoAttr X.K C f) (l:fs.lookup f=some v)
   (h:∀ u s',Inv X pins σ H s'->RelV v u->Q u s'):wpAny (model X.prog X.w) A (getAttr (.ref a) f b) Q E s:=by
 obtain ⟨mA,O,r,_,_,_⟩:=I0 I.hok e;obtain ⟨u,hu,ru⟩:=RelO.some_of (v:=v) (o:=mA f) (by rw [<- l];exact r f);exact R8 I.kIn O (c.get f) c.hd n hu (MJ ru) (h u _ (I.tok _) ru)
theorem Km {y:V} {u:Value} {Q:Unit->Shared->Prop} (I:Inv X pins σ H s) (e:H a=some (.ins C dx fs)) (c:Cls X.K C) (n:NoAttr X.K C f) (hl:fs.length<1000) (ry:RelV y u)
   (h:∀ s',Inv X pins σ (upd H a (.ins C dx (aV f y fs))) s'->Q () s'):wpAny (model X.prog X.w) A (setAttr (.ref a) f u) Q E s:=by
 obtain ⟨mA,O,r,wi,_,ho⟩:=I0 I.hok e;have hz:(fs.map (·.1)).length<=sizeLine:=by rw [List.length_map,sizeLine_eq];omega
 refine Rq I.kIn O c.sa c.po n.taker c.hd wi hz fun h' O' sb=>h _ ?_;have hd:∃ o,h'.get? dx=some o:=let ⟨o,_,_,e',_⟩:=O'.ns;⟨o,e'⟩;refine I.write (x:=a) (e:=dx) (by rw [e];exact True.intro) (.inr ho) (fun b q hb z=>(sb.2 b hb).trans z) hd ?_;refine ⟨by rw [au O.ne];exact ho,?_,O.ne,O'.obj,_,O'.ns,fun g=>?_,fun g hg=>?_⟩
 . have:=zD f y fs;omega
 . show RelO ((aV f y fs).lookup g) (if g=f then some u else mA g);rw [bM];by_cases q:g=f
   . rw [if_pos q,if_pos q];exact ry
   . rw [if_neg q,if_neg q];exact r g
 . by_cases q:g=f
   . rw [q];exact (wS f y fs).1
   . refine (wS f y fs).2 g (wi g fun z=>hg ?_);show (if g=f then some u else mA g)=none;rw [if_neg q];exact z
theorem Inv.made (I:Inv X pins σ H s):Inv X pins σ (upd (upd H s.heap.objs.size (.own (s.heap.objs.size+1))) (s.heap.objs.size+1) (.ins C s.heap.objs.size []))
   { s with heap:=(s.heap.push PySem.W.emptyDict).push (PySem.W.instObj C s.heap.objs.size) }:=by
 have e1:(s.heap.push PySem.W.emptyDict).get? s.heap.objs.size=some PySem.W.emptyDict:=Heap.get?_push_size s.heap rfl;have e2:((s.heap.push PySem.W.emptyDict).push (PySem.W.instObj C s.heap.objs.size)).get? (s.heap.objs.size+1)=some (PySem.W.instObj C s.heap.objs.size):=by
   have:=Heap.get?_push_size (s.heap.push PySem.W.emptyDict) (o:=PySem.W.instObj C s.heap.objs.size) rfl
   rwa [Heap.size_push] at this
 have e3:(s.heap.push PySem.W.emptyDict).Ns s.heap.objs.size (fun _=>none):=⟨PySem.W.emptyDict,#[],_,e1,rfl,(fun e he=>absurd he (by simp)),fun _=>rfl⟩;have I1:=I.laid (a:=s.heap.objs.size) (o:=.own (s.heap.objs.size+1)) (h':=s.heap.push PySem.W.emptyDict) (t':=s.toks) (fun b u q=>Heap.get?_push_of_some _ q) (Nat.le_refl _) ⟨_,e1⟩;refine I1.laid (a:=s.heap.objs.size+1) (o:=.ins C s.heap.objs.size []) (t':=s.toks) (fun b u q=>Heap.get?_push_of_some _ q) (Nat.le_of_eq (Heap.size_push _ _)) ?_;have ne:s.heap.objs.size≠s.heap.objs.size+1:=Nat.ne_of_lt (Nat.lt_succ_self _);refine ⟨by rw [au ne,aj],Nat.zero_le _,ne,e2,fun _=>none,(Heap.Ns1.of_empty e3).at fun o q=>Heap.get?_push_of_some _ q,fun _=>True.intro,fun y hy=>absurd rfl hy⟩
theorem RV {prog:Program} {w:World} {env:Env} {e:Expr} {f:Str} {pos:Pos} {s:Shared} {Q:Value->Shared->Prop} (hb:attributeBase e f env (eval e env)=eval e env)
   (h:wpAny (model prog w) A (eval e env) (fun o s₁=>wpAny (model prog w) A (getAttr o f true) Q E s₁) E s):wpAny (model prog w) A (eval (.Attribute e f pos) env) Q E s :=
 Attribute_any_ h (by rw [arm_eval_Attribute,hb])
end
def Nv (K:PySem.W.Frag) (ta:TE) (f:Str):TE:=fun σ H Q=>ta σ H fun x H1=>∃ a C dx fs v,x=.ref a/\H1 a=some (.ins C dx fs)/\Cls K C/\NoAttr K C f/\fs.lookup f=some v/\Q v H1
def OC (K:PySem.W.Frag) (ta tv:TE) (f:Str):TS:=fun D σ H=>tv σ H fun y H1=>ta σ H1 fun x H2=>∃ a C dx fs,x=.ref a/\H2 a=some (.ins C dx fs)/\Cls K C/\NoAttr K C f/\fs.length<1000 /\
 D.nx σ (upd H2 a (.ins C dx (aV f y fs)))
section
variable {X:Cx} {o e value:Expr} {f:Str} {pos pos' tpos:Pos} {ta tv:TE}
theorem di (he:PE X e ta) (hb:attributeBase e f X.env (eval e X.env)=eval e X.env):PE X (.Attribute e f pos) (Nv X.K ta f):=by
 intro pins s σ H Q I h;refine RV hb (bG (he pins s σ H _ I h) fun u s1 x H1 I1 rx ⟨a,C,dx,fs,v,ex,ea,c,n,l,q⟩=>?_);subst ex;obtain rfl:u=Value.ref a:=rx;exact JP I1 ea c n l fun u' s2 I2 ru=>⟨v,H1,I2,ru,q⟩
theorem t6 (ha:PE X o ta) (hv:PE X value tv) (hs:swapsWith value (some (.Attribute o f pos')) pos.line X.env=pure false):PS X (.Assign [.Attribute o f pos'] value pos) (OC X.K ta tv f):=by
 intro pins s σ H D I h;refine plainObj_wpAny_Assign_Attribute (bG (hv pins s σ H _ I h) fun u s1 y H1 I1 ry q=>bG (ha pins s1 σ H1 _ I1 q) fun ov s2 x H2 I2 rx ⟨a,C,dx,fs,ex,ea,c,n,l,q2⟩=>?_) hs;subst ex;obtain rfl:ov=Value.ref a:=rx;exact Km I2 ea c n l ry fun s3 I3=>⟨σ,_,I3,q2⟩
end
section
variable {X:Cx} {pins:List (Addr × Obj)} {σ:St} {H:Hp} {s:Shared} {A:Around} {E:Value->Shared->Prop} {Q:Value->Shared->Prop} {c:Value} {b:Bool}
end
end L2
namespace L2
open PySem PySem.Spec PyProof.Rows
structure Room (k:Nat) (A:Around):Prop where
 hd:A.handled=none
 dp:A.depth+3*k+5<recursionLimit
 un:A.units+16*k+200<cLine
theorem Room.mono {j k:Nat} {A:Around} (r:Room k A) (h:j<=k):Room j A:=⟨r.hd,by have:=r.dp;omega,by have:=r.un;omega⟩
theorem Room.deeper {k:Nat} {A:Around} (r:Room (k+1) A) (env:Env):Room k (A.deeper env) :=
 ⟨r.hd,by have:=r.dp;show A.depth+1+3*k+5<_;omega,by have:=r.un;show A.units+3+16*k+200<_;omega⟩
theorem JL {A:Around} {C:Addr} {us:List Value} {kw:List (Str × Value)}:(A.under (.builtin "type.__call__" ⟨.ref C::us,kw⟩)).depth=A.depth+1:=by
 first|rfl|simp [Around.under,Code.weight,Code.isCreation,Code.isGuard,Code.isCaller,Code.frames,Code.isFrame,guardIds]
theorem KC {A:Around} {C:Addr} {us:List Value} {kw:List (Str × Value)}:(A.under (.builtin "type.__call__" ⟨.ref C::us,kw⟩)).units=A.units+1:=by
 first|rfl|simp [Around.under,Code.cUnits,Code.frames,Code.isFrame]
theorem Room.make {k:Nat} {A:Around} (r:Room (k+1) A) (C:Addr) (us:List Value) (kw:List (Str × Value)):Room k (A.under (.builtin "type.__call__" ⟨.ref C::us,kw⟩)) :=
 ⟨r.hd,by have:=r.dp;rw [JL];omega,by have:=r.un;rw [KC];omega⟩
theorem Room.depth {k:Nat} {A:Around} (r:Room k A):A.depth<recursionLimit:=by have:=r.dp;omega
theorem Room.units {k:Nat} {A:Around} (r:Room k A):A.units+64<cLine:=by have:=r.un;omega
def tNil:TA:=fun _ H Q=>Q [] H
def JV (ta:TE) (tr:TA):TA:=fun σ H Q=>ta σ H fun x H1=>tr σ H1 fun xs H2=>Q (x::xs) H2
section
variable {X:Cx} {e:Expr} {es:List Expr} {te:TE} {t:TA} {pos:Pos}
theorem ah:PA X [] tNil:=fun _ _ _ _ H Q I h=>Calls.spliced_nil ⟨[],H,I,.nil,h⟩
theorem ag (ha:PE X e te) (hr:PA X es t) (hs:starEach (e::es) X.env=(false,eval e X.env)::starEach es X.env:=by rfl):PA X (e::es) (JV te t):=by
 intro pos pins s σ H Q I h;rw [hs];show wpAny _ _ (spliced ((false,eval e X.env)::backTo pos (starEach es X.env))) _ _ s;refine Calls.spliced_cons (bG (ha pins s σ H _ I h) fun u s1 x H1 I1 r1 q1=>?_);exact rF (hr pos pins s1 σ H1 _ I1 q1) fun us s2 xs H2 I2 r2 q2=>⟨x::xs,H2,I2,.cons r1 r2,q2⟩
def O1 (t:TA):TE:=fun σ H Q=>t σ H fun xs H1=>xs.length<=sizeLine/\∀ p,H1 p=none->Q (.ref p) (upd H1 p (.tup xs))
def Qh (t:TA):TE:=fun σ H Q=>t σ H fun xs H1=>xs.length<=sizeLine/\∀ p,H1 p=none->Q (.ref p) (upd H1 p (.lst xs))
theorem wQ {x1} (h:PA X es t):PE X (.Tuple es x1 pos) (O1 t):=by
 intro pins s σ H Q I hq;refine wpAny_Tuple_spliced (rF (h pos pins s σ H _ I hq) fun us s1 xs H1 I1 r ⟨z,q⟩=>⟨by rw [<- r.length];exact z,?_⟩);have hf:H1 s1.heap.objs.size=none:=I1.hok.fresh (Nat.le_refl _);refine ⟨.ref s1.heap.objs.size,upd H1 s1.heap.objs.size (.tup xs),I1.laid (t':=s1.toks) (fun b u e=>Heap.get?_push_of_some _ e) (Nat.le_refl _) ?_,rfl,q _ hf⟩;exact ⟨z,us,r,⟨_,Heap.get?_push_size _ rfl,rfl,_,rfl⟩⟩
theorem b5 (h:PA X es t):PE X (.List es pos) (Qh t):=by
 intro pins s σ H Q I hq;refine wpAny_List_spliced (rF (h pos pins s σ H _ I hq) fun us s1 xs H1 I1 r ⟨z,q⟩=>⟨by rw [<- r.length];exact z,?_⟩);have hf:H1 s1.heap.objs.size=none:=I1.hok.fresh (Nat.le_refl _);refine ⟨.ref s1.heap.objs.size,upd H1 s1.heap.objs.size (.lst xs),I1.laid (t':=s1.toks) (fun b u e=>Heap.get?_push_of_some _ e) (Nat.le_refl _) ?_,rfl,q _ hf⟩;exact ⟨z,us,0,r,Heap.get?_push_size _ rfl⟩
end
abbrev Sp:=List V->Hp->VK->XK->Prop
abbrev CXT:=List Env->Hp->Shared->XK->Value->Shared->Prop
structure Env0 (P:Program) (w:World) (K:PySem.W.Frag) (mg:Str->Option Value) (base:Heap) (A:Around) (outer:List Env) (s:Shared) (H:Hp):Prop where
 frames:A.frames=some outer
 mod:Mod K mg base
 bs:∀ b o,base.get? b=some o->s.heap.get? b=some o/\H b=none
 bsz:base.objs.size<=s.heap.objs.size
 funs:s.heap.FunFrames base outer
 frf:∀ b∈frs outer,H b=none
 hok:HOk P w H s.heap
 bare:AllBare s.gens
def CE (outer:List Env) (P:Program) (w:World) (H:Hp) (s:Shared) (Q:VK) (u:Value) (s':Shared):Prop :=
 ∃ v H',s'.os=s.os/\AllBare s'.gens/\Un (frs outer) [] H H' s.heap s'.heap/\HOk P w H' s'.heap/\RelV v u/\Q v H'
def CR (CX:CXT) (outer:List Env) (P:Program) (w:World) (H:Hp) (s:Shared) (Q:VK) (E:XK) (r:Result) (s':Shared):Prop :=
 match r with
 | .ok (.ret u)=>CE outer P w H s Q u s'
 | .ok _=>False
 | .error e=>CX outer H s E e s'
structure FnOk (P:Program) (w:World) (K:PySem.W.Frag) (mg:Str->Option Value) (base:Heap) (CX:CXT) (k:Nat) (f:Addr) (fd:FuncData) (ps:List Str) (sp:Sp):Prop where
 len:∀ vs H Q E,sp vs H Q E->vs.length=ps.length
 run:∀ (A:Around) (outer:List Env) (s:Shared) (H:Hp) (args:Args) (us:List Value) (vs:List V) (Q:VK) (E:XK),Room k A->Env0 P w K mg base A outer s H->BindsTo s fd args (ps.zip us)->Vals vs us->sp vs H Q E ->
   codeAny (model P w) A (.call (.ref f) args) (CR CX outer P w H s Q E) s
theorem Env0.make {P:Program} {w:World} {K:PySem.W.Frag} {mg:Str->Option Value} {base:Heap} {A:Around} {outer:List Env} {s:Shared} {H:Hp} (e:Env0 P w K mg base A outer s H) (C:Addr) (us:List Value) (kw:List (Str × Value)) :
   Env0 P w K mg base (A.under (.builtin "type.__call__" ⟨.ref C::us,kw⟩)) outer s H:=⟨by first|exact e.frames|(simpa [Around.under,Code.envs,Code.isFrame,pushEnvs] using e.frames),e.mod,e.bs,e.bsz,e.funs,e.frf,e.hok,e.bare⟩
section
variable {X:Cx} {pins:List (Addr × Obj)} {σ:St} {H:Hp} {s s':Shared}
theorem Inv.env0 (I:Inv X pins σ H s):Env0 X.prog X.w X.K X.mg X.base X.A X.stack s H :=
 ⟨I.ok.frames,I.ok.mod,I.bs,Nat.le_trans I.ok.bsz I.sz,I.stack,I.stkFree,I.hok,I.bare⟩
theorem Inv.after {Q:VK} {u:Value} (I:Inv X pins σ H s) (h:CE X.stack X.prog X.w H s Q u s'):EP X pins σ Q u s':=by
 obtain ⟨v,H',os,bare,un,hok,r,q⟩:=h;obtain ⟨hh,g,d,t,os'⟩:=s';obtain rfl:os'=s.os:=os;exact ⟨v,H',I.call (h':=hh) (g':=g) (d':=d) (t':=t) (ch:=[]) un hok bare (fun b z=>absurd z (by simp)),r,q⟩
end
def KI (sp:Sp) (dvs:List V) (E:XK) (t:TA):TE:=fun σ H Q=>t σ H fun vs H1=>sp (vs++dvs) H1 Q E
def Kp (C:Addr) (sp:Sp) (dvs:List V) (E:XK) (t:TA):TE:=fun σ H Q=>t σ H fun vs H1=>∀ x dx,H1 x=none->H1 dx=none->dx≠x ->
 sp (.ref x::(vs++dvs)) (upd (upd H1 dx (.own x)) x (.ins C dx [])) (fun v H2=>v=.non/\Q (.ref x) H2) E
def Binds (K:PySem.W.Frag) (fd:FuncData) (ps:List Str) (ds:List Value):Prop :=
 ∀ (s:Shared) (us:List Value),K.In s.heap->(us++ds).length=ps.length->BindsTo s fd ⟨us,[]⟩ (ps.zip (us++ds))
theorem Binds.all {K:PySem.W.Frag} {fd:FuncData} {ps:List Str} (h:∀ us:List Value,us.length=ps.length->bindArgs fd ⟨us,[]⟩=pure (ps.zip us)):Binds K fd ps []:=fun s us _ hl=>by
 rw [List.append_nil] at hl ⊢;exact .of_eq (h us hl)
def tW (CX:CXT) (X:Cx) (E:XK):Prop:=∀ (pins:List (Addr × Obj)) (σ:St) (H:Hp) (s:Shared) (e:Value) (s':Shared),Inv X pins σ H s->CX X.stack H s E e s'->X.xe e s'
section
variable {X:Cx} {CX:CXT} {k:Nat} {f C:Addr} {fd:FuncData} {ps:List Str} {sp:Sp} {dvs:List V} {ds:List Value} {E:XK} {x m:Str} {p pos apos:Pos} {e o:Expr} {es:List Expr} {ta:TE} {t:TA}
theorem T2 {pins:List (Addr × Obj)} {σ:St} {H:Hp} {s:Shared} {Q:VK} {us:List Value} {vs:List V} (F:FnOk X.prog X.w X.K X.mg X.base CX k f fd ps sp) (hr:Room k X.A) (hb:Binds X.K fd ps ds) (hd:Vals dvs ds) (hx:tW CX X E)
   (I:Inv X pins σ H s) (r:Vals vs us) (h:sp (vs++dvs) H Q E):wpAny (model X.prog X.w) X.A (call (.ref f) us) (EP X pins σ Q) X.xe s:=by
 have r2:Vals (vs++dvs) (us++ds):=r.append hd;have hl:(us++ds).length=ps.length:=by rw [<- r2.length];exact F.len _ _ _ _ h
 refine wpAny_call (codeAny_mono (F.run X.A X.stack s H ⟨us,[]⟩ (us++ds) (vs++dvs) Q E hr I.env0 (hb s us I.kIn hl) r2 h) fun r s' hq=>?_);cases r with
 | error e=>exact hx pins σ H s e s' I hq
 | ok fl =>
   cases fl with
   | ret u=>exact I.after hq
   | next=>exact False.elim hq
   | brk=>exact False.elim hq
   | cont=>exact False.elim hq
theorem aw (F:FnOk X.prog X.w X.K X.mg X.base CX k f fd ps sp) (hr:Room k X.A) (hg:Gl X x) (hm:X.mg x=some (.ref f)) (hk:PySem.W.keepIn X.K (.ref f)=true) (hb:Binds X.K fd ps ds) (hd:Vals dvs ds) (hx:tW CX X E)
   (ha:PA X (e::es) t) (hdb:(x == ("__debug__":Str))=false:=by decide) (he:starEach (e::es) X.env=(false,eval e X.env)::starEach es X.env:=by rfl) (hpl:(backTo pos (starEach es X.env)).any (·.1)=false:=by rfl) :
   PE X (.Call (.Name x p) (e::es) [] pos) (KI sp dvs E t):=by
 intro pins s σ H Q I h;refine wpAny_Call_Name_kw (y4 I hg hm ?_ hdb);refine PySem.W.callWith_K (h₀:=X.base) I.ok.mod.kin hk (rF (ha pos pins s σ H _ I h) fun us s1 vs H1 I1 r q=>⟨I1.kIn,?_⟩) he hpl;exact T2 F hr hb hd hx I1 r q
structure Mk (K:PySem.W.Frag) (C f:Addr):Prop where
 makes:PySem.W.makesIn K C=true
 init:PySem.W.findIn K (.ref C) "__init__"=some (some (.ref f))
 fn:PySem.W.isFn K (.ref f)=true
 kp:PySem.W.keepIn K (.ref C)=true
theorem Oo {pins:List (Addr × Obj)} {σ:St} {H:Hp} {s:Shared} {Q:VK} {us:List Value} {vs:List V} (M:Mk X.K C f) (F:FnOk X.prog X.w X.K X.mg X.base CX k f fd ps sp) (hr:Room (k+1) X.A) (hb:Binds X.K fd ps ds) (hd:Vals dvs ds)
   (hx:tW CX X E) (I:Inv X pins σ H s) (r:Vals vs us)
   (h:∀ x dx,H x=none->H dx=none->dx≠x->sp (.ref x::(vs++dvs)) (upd (upd H dx (.own x)) x (.ins C dx [])) (fun v H2=>v=.non/\Q (.ref x) H2) E) :
   wpAny (model X.prog X.w) X.A (call (.ref C) us) (EP X pins σ Q) X.xe s:=by
 have hq:=h (s.heap.objs.size+1) s.heap.objs.size (I.hok.fresh (Nat.le_succ _)) (I.hok.fresh (Nat.le_refl _)) (Nat.ne_of_lt (Nat.lt_succ_self _));have I2:=Inv.made (C:=C) I;have r2:Vals (V.ref (s.heap.objs.size+1)::(vs++dvs)) (Value.ref (s.heap.objs.size+1)::(us++ds)):=.cons rfl (r.append hd);have hl:(Value.ref (s.heap.objs.size+1)::us++ds).length=ps.length:=by
   have e:=r2.length;rw [F.len _ _ _ _ hq] at e;exact e.symm
 refine wpAny_call (NT (f:=f) I.kIn M.makes M.init (beq_iff_eq.mp M.fn) (codeAny_mono (F.run _ X.stack _ _ ⟨Value.ref (s.heap.objs.size+1)::us,[]⟩ (Value.ref (s.heap.objs.size+1)::(us++ds)) _ _ E (hr.make C us [])
   (I2.env0.make C us []) (hb _ (Value.ref (s.heap.objs.size+1)::us) I2.kIn hl) r2 hq) fun r s' hq'=>?_))
 cases r with
 | error e=>exact hx pins σ _ _ e s' I2 hq'
 | ok fl =>
   cases fl with
   | ret u =>
     obtain ⟨v,H',I3,rv,ev,q3⟩:=I2.after hq';subst ev;exact ⟨rv,⟨V.ref (s.heap.objs.size+1),H',I3,rfl,q3⟩⟩
   | next=>exact False.elim hq'
   | brk=>exact False.elim hq'
   | cont=>exact False.elim hq'
theorem Cc (M:Mk X.K C f) (F:FnOk X.prog X.w X.K X.mg X.base CX k f fd ps sp) (hr:Room (k+1) X.A) (hg:Gl X x) (hm:X.mg x=some (.ref C)) (hb:Binds X.K fd ps ds) (hd:Vals dvs ds) (hx:tW CX X E)
   (ha:PA X (e::es) t) (hdb:(x == ("__debug__":Str))=false:=by decide) (he:starEach (e::es) X.env=(false,eval e X.env)::starEach es X.env:=by rfl) (hpl:(backTo pos (starEach es X.env)).any (·.1)=false:=by rfl) :
   PE X (.Call (.Name x p) (e::es) [] pos) (Kp C sp dvs E t):=by
 intro pins s σ H Q I h;refine wpAny_Call_Name_kw (y4 I hg hm ?_ hdb);refine PySem.W.callWith_K (h₀:=X.base) I.ok.mod.kin M.kp (rF (ha pos pins s σ H _ I h) fun us s1 vs H1 I1 r q=>⟨I1.kIn,?_⟩) he hpl;exact Oo M F hr hb hd hx I1 r q
end
section
variable {X:Cx} {CX:CXT} {k:Nat} {f C:Addr} {fd:FuncData} {ps ks:List Str} {sp:Sp} {E:XK} {x m:Str} {p pos apos kpos:Pos} {e o:Expr} {es:List Expr} {kws:List Keyword} {te ta:TE} {t tk:TA} {nm:Option Str}
variable {g:List Value->List Value->List Value} {gV:List V->List V->List V}
end
structure FnScope (N P:List Str) (sc:Scope):Prop where
 kind:sc.kind=.function
 co:sc.isCoroutine=false
 gen:sc.isGenerator=false
 nd:N.Nodup
 pre:N.take P.length=P
 par:∀ x∈P,sc.names.lookup x=some .local\/sc.names.lookup x=some .cell
 nofree:∀ y∈sc.names,y.2≠.free
theorem DD {kindOf:Str->Option NameKind} {x:Str}:∀ {binds:List (Str × Value)} {m:Str->Option Value},(∀ v,(x,v) ∉ binds)->bindL kindOf binds m x=m x
 | [],_,_=>rfl
 | (n,v)::r,m,h=>by
   unfold bindL;rw [DD fun w hw=>h w (List.mem_cons_of_mem _ hw)];split
   . have:x≠n:=(by rintro rfl;exact h v List.mem_cons_self);simp [this]
   . rfl
theorem Dx {kindOf:Str->Option NameKind} {x:Str}:∀ {binds:List (Str × Value)} {m:Str->Option Value},(∀ v,(x,v) ∉ binds)->bindC kindOf binds m x=m x
 | [],_,_=>rfl
 | (n,v)::r,m,h=>by
   unfold bindC;rw [Dx fun w hw=>h w (List.mem_cons_of_mem _ hw)];split
   . rfl
   . have:x≠n:=(by rintro rfl;exact h v List.mem_cons_self);simp [this]
theorem DA {kindOf:Str->Option NameKind} {x:Str} {v:Value}:∀ {P:List Str} {vs:List Value} {i:Nat} {m:Str->Option Value},P.Nodup->P[i]?=some x->vs[i]?=some v->kindOf x=some .local ->
   bindL kindOf (P.zip vs) m x=some v
 | [],_,_,_,_,h,_,_=>by simp at h
 | _::_,[],_,_,_,_,h,_=>by simp at h
 | p::P,w::vs,0,m,nd,h1,h2,hk=>by
   simp at h1 h2;subst h1;subst h2;show bindL kindOf ((p,w)::P.zip vs) m p=_;unfold bindL;rw [DD fun v hv=>(List.nodup_cons.mp nd).1 (List.of_mem_zip hv).1,if_pos hk];simp
 | p::P,w::vs,i+1,m,nd,h1,h2,hk=>by
   show bindL kindOf ((p,w)::P.zip vs) m x=_;unfold bindL;exact DA (i:=i) (List.nodup_cons.mp nd).2 (by simpa using h1) (by simpa using h2) hk
theorem DF {kindOf:Str->Option NameKind} {x:Str} {v:Value}:∀ {P:List Str} {vs:List Value} {i:Nat} {m:Str->Option Value},P.Nodup->P[i]?=some x->vs[i]?=some v->kindOf x≠some .local ->
   bindC kindOf (P.zip vs) m x=some v
 | [],_,_,_,_,h,_,_=>by simp at h
 | _::_,[],_,_,_,_,h,_=>by simp at h
 | p::P,w::vs,0,m,nd,h1,h2,hk=>by
   simp at h1 h2;subst h1;subst h2;show bindC kindOf ((p,w)::P.zip vs) m p=_;unfold bindC;rw [Dx fun v hv=>(List.nodup_cons.mp nd).1 (List.of_mem_zip hv).1,if_neg hk];simp
 | p::P,w::vs,i+1,m,nd,h1,h2,hk=>by
   show bindC kindOf ((p,w)::P.zip vs) m x=_;unfold bindC;exact DF (i:=i) (List.nodup_cons.mp nd).2 (by simpa using h1) (by simpa using h2) hk
def start (N:List Str) (vs:List V):St:=vs.map some++List.replicate (N.length - vs.length) none
def og (CX:CXT) (P:Program) (w:World) (K:PySem.W.Frag) (mg:Str->Option Value) (base:Heap) (N:List Str) (qual:Str) (scope:Scope) (f:Addr) (cd:Value) (A:Around) (outer:List Env) (s:Shared) (H:Hp) (E:XK):Cx where
 prog:=P
 w:=w
 K:=K
 mg:=mg
 base:=base
 A:=A.deeper (envOfC qual scope s.heap.objs.size f cd)
 N:=N
 s₀:=s
 H₀:=H
 env:=envOfC qual scope s.heap.objs.size f cd
 outer:=outer
 stack:=envOfC qual scope s.heap.objs.size f cd::outer
 ex:=[]
 calm:=true
 fn:=fun _=>true
 pn:=[]
 xe:=fun e s'=>wpAny (model P w) (A.deeper (envOfC qual scope s.heap.objs.size f cd)) (leaving (envOfC qual scope s.heap.objs.size f cd) e) (fun _ s''=>CX outer H s E e s'') (fun e' s''=>CX outer H s E e' s'') s'
theorem kY {sc:Scope} {n:Nat} {x:Str} (h:sc.names.lookup x=some .cell):∃ c,(cellsFrom n sc.names []).lookup x=some c:=by
 have q:=PySem.W.cellsFrom_some sc.names n [] (.inl h);exact Option.isSome_iff_exists.mp q
theorem L7 {CX:CXT} {P:Program} {w:World} {K:PySem.W.Frag} {mg:Str->Option Value} {base:Heap} {N ps:List Str} {qual:Str} {scope:Scope} {f:Addr} {cd:Value} {A:Around} {outer:List Env} {s s1:Shared} {H:Hp} {E:XK} {us:List Value} {vs:List V}
   (S:FnScope N ps scope) (hd:A.handled=none) (e0:Env0 P w K mg base A outer s H) (hl:vs.length=ps.length) (r:Vals vs us)
   (x:InCallC s s.heap.objs.size (bindL (envOfC qual scope s.heap.objs.size f cd).kindOf (ps.zip us) fun _=>none) (cellsFrom (s.heap.objs.size+1) scope.names []) (bindC (envOfC qual scope s.heap.objs.size f cd).kindOf (ps.zip us) fun _=>none) s1) :
   Inv (og CX P w K mg base N qual scope f cd A outer s H E) [] (start N vs) H s1:=by
 have hpl:ps.length<=N.length:=by have:=congrArg List.length S.pre;rw [List.length_take] at this;omega
 obtain ⟨h1,tk,rfl,hk⟩:=x.done;have noA:∀ b:Addr,b ∉ (og CX P w K mg base N qual scope f cd A outer s H E).ex:=fun b z=>absurd (show b∈([]:List Addr) from z) (by simp);refine ⟨⟨e0.mod,S.kind,rfl,rfl,Nat.le_refl _,fun y z c h1 h2=>?_,fun y hy=>?_,fun y c _ h=>?_,fun _=>hd,Around.frames_deeper e0.frames,.inr ⟨rfl,rfl⟩,fun b z=>absurd z (noA b),e0.bs,e0.bsz,fun b _ _=>noA b,fun b z=>absurd z (noA b),e0.funs,e0.frf⟩,
   rfl,e0.bare,Un.kept hk,⟨_,x.toInCall.ns,fun i y v h1 h2 h3=>?_⟩,fun y c h=>⟨_,x.cell y c h⟩,e0.hok.fresh (Nat.le_refl _),fun y c h=>?_,fun p hp=>absurd (show p∈([]:List (Addr × Obj)) from hp) (by simp),e0.hok.kept hk,?_⟩
 . exact name_of_addr x.apart (PySem.mem_of_lookup h1) (PySem.mem_of_lookup h2)
 . have hy:scope.names.lookup y=some .cell\/scope.names.lookup y=some .free:=hy;rcases hy with hy|hy
   . exact kY hy
   . exact absurd rfl (S.nofree _ (PySem.mem_of_lookup hy))
 . exact Nat.le_of_lt (x.above y c (PySem.mem_of_lookup h))
 . have hi:i<vs.length:=by
     unfold start at h2;by_cases hi:i<vs.length
     . exact hi
     . rw [List.getElem?_append_right (by simpa using hi)] at h2;rw [List.getElem?_replicate] at h2;split at h2 <;> cases h2
   have ha:vs[i]?=some v:=by
     unfold start at h2;rw [List.getElem?_append_left (by simpa using hi),List.getElem?_map] at h2;cases e:vs[i]? with
     | none=>rw [e] at h2;cases h2
     | some a=>rw [e] at h2;cases h2;rfl
   obtain ⟨u,hu,rv⟩:=r.get ha;have hp:ps[i]?=some y:=by
     rw [<- S.pre,List.getElem?_take_of_lt (by omega)];exact h1
   have ndP:ps.Nodup:=by rw [<- S.pre];exact S.nd.sublist (List.take_sublist _ _)
   refine ⟨u,rv,?_⟩;rcases S.par y (List.mem_of_getElem? hp) with k|k
   . exact .inl ⟨k,DA ndP hp hu k⟩
   . obtain ⟨c,e⟩:=kY (n:=s.heap.objs.size+1) k;refine .inr ⟨.inl k,c,e,?_⟩;have q:=x.cell y c e;rw [DF ndP hp hu (by show scope.names.lookup y≠_;rw [k];decide)] at q;exact q
 . exact e0.hok.fresh (Nat.le_of_lt (x.above y c (PySem.mem_of_lookup h)))
 . unfold start;show _=N.length;rw [List.length_append,List.length_map,List.length_replicate];omega
theorem QX {CX:CXT} {P:Program} {w:World} {K:PySem.W.Frag} {mg:Str->Option Value} {base:Heap} {k:Nat} {f:Addr} {name qual:Str} {params:Arguments} {body:List Stmt} {scope:Scope} {dV kV doc pm cdv ct oc:Value} {an od:Option Addr}
   {osl:Array (Option Value)} {N ps:List Str} {sp:Sp} (lk:K.lookup f=some ⟨oc,od,.func (PySem.W.fnOf name qual params body scope dV kV doc pm an cdv ct),osl⟩) (hcd:PySem.W.codeIn K cdv qual=true) (S:FnScope N ps scope)
   (len:∀ vs H Q E,sp vs H Q E->vs.length=ps.length)
   (hbody:∀ (A:Around) (outer:List Env) (s:Shared) (H:Hp) (vs:List V) (Q:VK) (E:XK),Room k (A.deeper (envOfC qual scope s.heap.objs.size f cdv))->sp vs H Q E ->
     ∃ t,PSs (og CX P w K mg base N qual scope f cdv A outer s H E) body t/\t { nx:=fun _ H'=>Q .non H',rt:=Q } (start N vs) H) :
   FnOk P w K mg base CX (k+1) f (PySem.W.fnOf name qual params body scope dV kV doc pm an cdv ct) ps sp:=by
 refine ⟨len,fun A outer s H args us vs Q E hr e0 hb r hsp=>?_⟩;have hl:=len _ _ _ _ hsp;have KX:K.In s.heap:=e0.mod.kin.keeps fun b o e=>(e0.bs b o e).1;have lim:s.heap.NoLimit:=e0.mod.nolimit.keeps fun b o e=>(e0.bs b o e).1;have hkind:∀ y∈ps.zip us,scope.names.lookup y.1=some .local\/(scope.names.lookup y.1=some .cell/\((cellsFrom (s.heap.objs.size+1) scope.names []).lookup y.1).isSome=true):=fun ⟨n,v⟩ hy=>by
   rcases S.par n (List.of_mem_zip hy).1 with q|q
   . exact .inl q
   . exact .inr ⟨q,PySem.W.cellsFrom_some _ _ _ (.inl q)⟩
 refine codeAny_call_function hr.depth (KX _ _ lk) rfl S.co S.gen rfl (PySem.W.codeRec_of KX hcd) (hb _ _ _ _ ?_);refine wpAny_newFunctionEnv_cells S.kind hkind fun env he s1 x=>?_;subst he;refine ⟨lim.keeps x.toInCall.keep,codeAny_func ?_⟩;obtain ⟨t,ht,hq⟩:=hbody A outer s H vs Q E (hr.deeper _) hsp;have I:Inv (og CX P w K mg base N qual scope f cdv A outer s H E) [] (start N vs) H s1:=L7 S hr.hd e0 hl r x;refine wpAny_mono (ht [] s1 (start N vs) H _ I hq) (fun fl s' hs=>?_) fun e s' hs=>hs;have fin:∀ {σ':St} {H':Hp} {v:V} {u:Value},Inv (og CX P w K mg base N qual scope f cdv A outer s H E) [] σ' H' s'->RelV v u->Q v H'->CE outer P w H s Q u s' :=
   fun {σ' H' v u} J rv q=>⟨v,H',J.os,J.bare,J.base,J.hok,rv,q⟩
 cases fl with
 | ret u =>
   obtain ⟨v,σ',H',J,rv,q⟩:=hs;exact fin J rv q
 | next =>
   obtain ⟨σ',H',J,q⟩:=hs;exact fin (v:=V.non) (u:=Value.none) J rfl q
 | brk =>
   obtain ⟨_,_,_,q⟩:=hs;exact False.elim q
 | cont =>
   obtain ⟨_,_,_,q⟩:=hs;exact False.elim q
end L2
namespace L2
open PySem PySem.Spec PyProof.Rows
section
variable {X:Cx} {x:Str} {p pos:Pos} {e:Expr} {es:List Expr} {t:TA} {id T:String} {r:List V->Hp->VK->Prop}
def tCB (r:List V->Hp->VK->Prop) (t:TA):TE:=fun σ H Q=>t σ H fun vs H1=>r vs H1 Q
theorem fM (hc:ml X (.builtin id) r) (hg:Gl X x) (hm:X.mg x=none) (hv:bootBuiltins x=some (.builtin id)) (ha:PA X (e::es) t) (hn:x≠"__name__":=by decide) (hdb:(x == ("__debug__":Str))=false:=by decide)
   (he:starEach (e::es) X.env=(false,eval e X.env)::starEach es X.env:=by rfl) (hpl:(backTo pos (starEach es X.env)).any (·.1)=false:=by rfl):PE X (.Call (.Name x p) (e::es) [] pos) (tCB r t):=by
 intro pins s σ H Q I h;refine wpAny_Call_Name_kw (qy I hg hm hv ?_ hn hdb);exact PyProof.Rows.callWith_builtin1 (rF (ha pos pins s σ H _ I h) fun us s1 vs H1 I1 r1 q1=>hc pins s1 σ H1 vs us Q I1 r1 q1) he hpl
theorem gj (hc:ml X (.type T) r) (hg:Gl X x) (hm:X.mg x=none) (hv:bootBuiltins x=some (.type T)) (ha:PA X (e::es) t) (hn:x≠"__name__":=by decide) (hdb:(x == ("__debug__":Str))=false:=by decide)
   (he:starEach (e::es) X.env=(false,eval e X.env)::starEach es X.env:=by rfl) (hpl:(backTo pos (starEach es X.env)).any (·.1)=false:=by rfl):PE X (.Call (.Name x p) (e::es) [] pos) (tCB r t):=by
 intro pins s σ H Q I h;refine wpAny_Call_Name_kw (qy I hg hm hv ?_ hn hdb);exact PyProof.Rows.callWith_type1 (rF (ha pos pins s σ H _ I h) fun us s1 vs H1 I1 r1 q1=>hc pins s1 σ H1 vs us Q I1 r1 q1) he hpl
end
end L2
namespace HT
open PySem PyProof.Rows
section
open PySem.SeqAt
open PySem.AutoSeq1 (wpAny_loadPart')
open PySem.MeetsSeq PySem.MeetsSeq2 PySem.MeetsSeq3
end
section
variable {prog:Program} {w:World} {A:Around} {E:Value->Shared->Prop} {s:Shared}
def sIx (n d:Nat):Option Int->Nat
 | none=>d
 | some v=>if v<0 then (v+(n:Int)).toNat else min v.toNat n
end
end HT
namespace L2
open PySem PySem.Spec PyProof.Rows
abbrev TO:=St->Hp->(Option Int->Hp->Prop)->Prop
def PO (X:Cx) (e:Option Expr) (t:TO):Prop :=
 ∀ (pins:List (Addr × Obj)) (s:Shared) (σ:St) (H:Hp) (Q:Option Int->Hp->Prop),Inv X pins σ H s->t σ H Q ->
   wpAny (model X.prog X.w) X.A (evalPart e X.env) (fun u s'=>∃ o H',Inv X pins σ H' s'/\IsPart u o/\Q o H') X.xe s
def tNoPart:TO:=fun _ H Q=>Q none H
def Q1 (t:TE):TO:=fun σ H Q=>t σ H fun x H1=>∃ i,x=.int i/\Q (some i) H1
section
variable {X:Cx} {e:Expr} {te:TE} {lo hi:Option Expr} {tl th:TO} {pos p2:Pos}
theorem Sd:PO X none tNoPart:=by
 intro pins s σ H Q I h;rw [evalPart_none];exact wpAny_pure ⟨none,H,I,.none,h⟩
theorem Ry (h:PE X e te):PO X (some e) (Q1 te):=by
 intro pins s σ H Q I hw;rw [evalPart_some];refine bG (h pins s σ H _ I hw) fun u s1 x H1 I1 r1 q1=>?_;obtain ⟨i,rfl,q⟩:=q1;obtain ⟨t,rfl⟩:=r1;exact ⟨some i,H1,I1,.int i t,q⟩
def SlR (X:Cx) (r:V->Option Int->Option Int->Hp->VK->Prop):Prop :=
 ∀ (pins:List (Addr × Obj)) (s:Shared) (σ:St) (H:Hp) (x:V) (v vl vu:Value) (lo hi:Option Int) (sl:Addr) (Q:VK),Inv X pins σ H s->RelV x v->s.heap.IsSliceOf sl vl vu .none->IsPart vl lo->IsPart vu hi->r x lo hi H Q ->
   ∃ T id,typeLookup (.type T) "__getitem__"=pure (some (.builtin id))/\s.TypeIs v T/\wpAny (model X.prog X.w) X.A (getItem v (.ref sl)) (EP X pins σ Q) X.xe s
def tSl (r:V->Option Int->Option Int->Hp->VK->Prop) (te:TE) (tl th:TO):TE:=fun σ H Q=>te σ H fun x H1=>tl σ H1 fun l H2=>th σ H2 fun u H3=>r x l u H3 Q
theorem Nr {r:V->Option Int->Option Int->Hp->VK->Prop} (hr:SlR X r) (he:PE X e te) (hl:PO X lo tl) (hu:PO X hi th):PE X (.Subscript e (.Slice lo hi none p2) pos) (tSl r te tl th):=by
 intro pins s σ H Q I h;refine Subscript_ (bG (he pins s σ H _ I h) fun v s1 x H1 I1 r1 q1=>?_);refine wpAny_Slice (thn (hl pins s1 σ H1 _ I1 q1) fun vl s2 ⟨l,H2,I2,pl,q2⟩=>thn (hu pins s2 σ H2 _ I2 q2) fun vu s3 ⟨u,H3,I3,pu,q3⟩=>?_);rw [evalPart_none];refine wpAny_pure ?_;have I4:Inv X pins σ H3 { s3 with heap:=s3.heap.push { cls:=.type "slice",data:=.fields #[vl,vu,.none] } }:=I3.kept (t':=s3.toks) fun b ob q=>Heap.get?_push_of_some _ q;obtain ⟨T,id,hT,ht,hg⟩:=hr pins { s3 with heap:=s3.heap.push { cls:=.type "slice",data:=.fields #[vl,vu,.none] } } σ H3 x v vl vu l u s3.heap.objs.size Q I4 r1 (Heap.IsSliceOf.new ..) pl pu q3;show wpAny (model X.prog X.w) X.A (subscriptTail e (.Slice lo hi none p2) v (.ref s3.heap.objs.size)) (EP X pins σ Q) X.xe { s3 with heap:=s3.heap.push { cls:=.type "slice",data:=.fields #[vl,vu,.none] } };exact tail_any (ops:=[.ref s3.heap.objs.size,v]) ht hT hg (by with_unfolding_all rfl)
def Aw (xs:List V) (lo hi:Option Int):List V:=(xs.drop (HT.sIx xs.length 0 lo)).take (HT.sIx xs.length xs.length hi - HT.sIx xs.length 0 lo)
theorem Ik (xs:List V) (lo hi:Option Int):(Aw xs lo hi).length<=xs.length:=by
 unfold Aw;rw [List.length_take,List.length_drop];omega
end
end L2
namespace L2
open PySem PySem.Spec PyProof.Rows
def ixN (n:Nat) (i:Int):Option Nat:=if 0<=i then (if i<n then some i.toNat else none) else if -(n:Int)<=i then some (i+n).toNat else none
def atI {α:Type} (xs:List α) (i:Int):Option α:=(ixN xs.length i).bind fun j=>xs[j]?
theorem Jf {n:Nat} {i:Int} {j:Nat} (h:ixN n i=some j):seqIndex? i n=some j/\j<n/\-(n:Int)<=i/\i<n:=by
 unfold ixN at h;by_cases h0:0<=i
 . rw [if_pos h0] at h;by_cases h1:i<n
   . rw [if_pos h1] at h;have e:i.toNat=j:=Option.some.inj h;exact ⟨by rw [seqIndex_of h0 h1,e],by omega,by omega,h1⟩
   . rw [if_neg h1] at h;cases h
 . rw [if_neg h0] at h;by_cases h1:-(n:Int)<=i
   . rw [if_pos h1] at h;have e:(i+n).toNat=j:=Option.some.inj h;exact ⟨by rw [seqIndex_neg (by omega) h1,e],by omega,h1,by omega⟩
   . rw [if_neg h1] at h;cases h
theorem B7 {α:Type} {xs:List α} {i:Int} {v:α} (h:atI xs i=some v):∃ j,seqIndex? i xs.length=some j/\xs[j]?=some v/\j<xs.length/\-(xs.length:Int)<=i/\i<xs.length:=by
 unfold atI at h;cases e:ixN xs.length i with
 | none=>rw [e] at h;cases h
 | some j =>
   rw [e] at h;obtain ⟨h1,h2,h3,h4⟩:=Jf e;exact ⟨j,h1,h,h2,h3,h4⟩
theorem R9 {α:Type} {xs:List α} {j:Nat} {v:α} (h:xs[j]?=some v):atI xs (j:Int)=some v:=by
 have hj:j<xs.length:=(List.getElem?_eq_some_iff.mp h).1;have e:ixN xs.length (j:Int)=some j:=by
   unfold ixN;rw [if_pos (by omega),if_pos (by omega)];simp
 unfold atI;rw [e];exact h
theorem Fj {α:Type} (xs:List α) (v:α):atI (xs++[v]) (-1)=some v:=by
 have hl:(xs++[v]).length=xs.length+1:=by simp
 have e:ixN (xs++[v]).length (-1)=some xs.length:=by
   unfold ixN;rw [hl,if_neg (by decide),if_pos (by omega)]
   congr 1
   omega
 unfold atI;rw [e];show (xs++[v])[xs.length]?=some v;simp
def Rt (b:Expr):Prop:=∀ o i,subscripted b false o i=operate [o,i] (getItem o i)
def IxR (X:Cx) (r:R2):Prop :=
 ∀ (value slice:Expr) (pins:List (Addr × Obj)) (s:Shared) (σ:St) (H:Hp) (x y:V) (v u:Value) (Q:VK),Inv X pins σ H s->RelV x v->RelV y u->r x y H Q ->
   subscripted slice false v u=operate [v,u] (getItem v u)->wpAny (model X.prog X.w) X.A (subscriptTail value slice v u) (EP X pins σ Q) X.xe s
def MtR (X:Cx) (id:String) (r:V->List V->Hp->VK->Prop):Prop :=
 ∀ (pins:List (Addr × Obj)) (s:Shared) (σ:St) (H:Hp) (x:V) (xs:List V) (v:Value) (us:List Value) (Q:VK),Inv X pins σ H s->RelV x v->Vals xs us->r x xs H Q ->
   wpAny (model X.prog X.w) X.A (call (.builtin id) (v::us)) (EP X pins σ Q) X.xe s
section
variable {X:Cx} {a b:Expr} {ta tb:TE} {pos:Pos}
theorem bx {r:R2} (hr:IxR X r) (ha:PE X a ta) (hb:PE X b tb) (hs:Rt b):PE X (.Subscript a b pos) (tOp r ta tb):=by
 intro pins s σ H Q I h;exact Subscript_ (NU ha hb I h fun v u s2 x y H2 I2 rx ry q=>hr a b pins s2 σ H2 x y v u Q I2 rx ry q (hs _ _))
def EX (K:PySem.W.Frag):R2:=fun x y H Q=>∃ p xs i v,x=.ref p/\y=.int i/\SqL K H p xs/\atI xs i=some v/\Q v H
def Ko (K:PySem.W.Frag):R2:=fun x y H Q=>∃ p xs i v,x=.ref p/\y=.int i/\SqT K H p xs/\atI xs i=some v/\Q v H
theorem bB:IxR X (EX X.K):=by
 intro value slice pins s σ H x y v u Q I rx ry h hs;obtain ⟨p,xs,i,z,rfl,rfl,hq,he,q⟩:=h;cases rx;obtain ⟨t,rfl⟩:=ry;obtain ⟨its,r,pl,hz⟩:=I.list hq;obtain ⟨j,h1,h2,h3,h4,h5⟩:=B7 he;obtain ⟨w,ew,rw'⟩:=r.get h2;have hl:=r.length;have hn:=qh;have fin:EP X pins σ Q w s:=⟨z,H,I,rw',q⟩;by_cases h0:0<=i
 . have hj:i.toNat=j:=by
     rw [seqIndex_of h0 h5] at h1;exact Option.some.inj h1
   exact item_listR pl.isList h0 (by omega) (by rw [hj];simpa using ew) fin hs
 . have hj:(i+(its.toArray.size:Int)).toNat=j:=by
     rw [seqIndex_neg (by omega) h4] at h1;rw [List.size_toArray,<- hl];exact Option.some.inj h1
   exact subscriptTail_builtinR (x:=w) pl.isList.typeIs slot_list_getitem.lookup
     (wpAny_getItem_list_neg (Q:=fun r s'=>r=w/\EP X pins σ Q r s') pl.isList (by omega) (by rw [List.size_toArray] <;> omega) (by omega) (by rw [hj];simpa using ew) ⟨rfl,fin⟩) hs
theorem iU:IxR X (Ko X.K):=by
 intro value slice pins s σ H x y v u Q I rx ry h hs;obtain ⟨p,xs,i,z,rfl,rfl,hq,he,q⟩:=h;cases rx;obtain ⟨t,rfl⟩:=ry;obtain ⟨its,r,pl,hz⟩:=I.tuple hq;obtain ⟨j,h1,h2,h3,h4,h5⟩:=B7 he;obtain ⟨w,ew,rw'⟩:=r.get h2;have hl:=r.length;have hn:=qh;have fin:EP X pins σ Q w s:=⟨z,H,I,rw',q⟩;exact subscriptTail_builtinR (x:=w) pl.typeIs slot_tuple_getitem.lookup
   (getItem_tuple (j:=j) (Q:=fun r s'=>r=w/\EP X pins σ Q r s') pl (by omega) (by omega) (by rw [List.size_toArray,<- hl];exact h1) (by simpa using ew) ⟨rfl,fin⟩) hs
theorem JA (its:List Value) (n j:Nat) (u:Value):Obj.mapSeq (·.setIfInBounds j u) { cls:=.type "list",data:=.seq its.toArray n }={ cls:=.type "list",data:=.seq (its.set j u).toArray n }:=by
 simp [Obj.mapSeq]
theorem Inv.lst {pins:List (Addr × Obj)} {σ:St} {H:Hp} {s:Shared} {p:Addr} {xs:List V} (I:Inv X pins σ H s) (h:H p=some (.lst xs)) :
   ∃ (its:List Value) (n:Nat),Vals xs its/\s.heap.get? p=some { cls:=.type "list",data:=.seq its.toArray n }/\xs.length<=sizeLine:=by
 obtain ⟨z,its,n,r,e⟩:=I.hok p _ h;exact ⟨its,n,r,e,z⟩
theorem Inv.lstUpd {pins:List (Addr × Obj)} {σ:St} {H:Hp} {s:Shared} {p:Addr} {xs ys:List V} {its its':List Value} {n n':Nat} {f:Obj->Obj} (I:Inv X pins σ H s) (h:H p=some (.lst xs))
   (ho:s.heap.get? p=some { cls:=.type "list",data:=.seq its.toArray n }) (hf:f { cls:=.type "list",data:=.seq its.toArray n }={ cls:=.type "list",data:=.seq its'.toArray n' }) (r:Vals ys its') (hz:ys.length<=sizeLine) (t:Nat) :
   Inv X pins σ (upd H p (.lst ys)) { s with heap:=s.heap.update p f,toks:=t }:=by
 have e:(s.heap.update p f).get? p=some { cls:=.type "list",data:=.seq its'.toArray n' }:=by
   rw [Heap.get?_update_self f ho (by rw [hf] <;> rfl),hf]
 refine I.write (x:=p) (e:=p) (by rw [h];trivial) (.inl rfl) (fun b u hb q=>(Heap.get?_update_other _ _ (Ne.symm hb)).trans q) ⟨_,e⟩ ?_;exact ⟨hz,its',n',r,e⟩
def rSetL:V->V->V->Hp->(Hp->Prop)->Prop:=fun o i v H Q=>∃ p xs k j,o=.ref p/\i=.int k/\H p=some (.lst xs)/\ixN xs.length k=some j/\Q (upd H p (.lst (xs.set j v)))
theorem jQ:Pn X rSetL:=by
 intro pins s σ H o i v ov iv u Q I ro ri rv h;obtain ⟨p,xs,k,j,rfl,rfl,hp,hj,q⟩:=h;cases ro;obtain ⟨t,rfl⟩:=ri;obtain ⟨its,n,r,ho,hz⟩:=I.lst hp;obtain ⟨h1,h2,h3,h4⟩:=Jf hj;have hl:=r.length;have hn:=qh;have I':Inv X pins σ (upd H p (.lst (xs.set j v))) { s with heap:=s.heap.update p (Obj.mapSeq (·.setIfInBounds j u)) } :=
   I.lstUpd hp ho (JA its n j u) (r.set rv j) (by rw [List.length_set];exact hz) s.toks
 by_cases h0:0<=k
 . have hk:k.toNat=j:=by
     rw [seqIndex_of h0 h4] at h1;exact Option.some.inj h1
   exact PySem.W.ki_setAt ho h0 (by omega) (by rw [List.size_toArray,<- hl];exact h4) (by rw [hk];exact ⟨_,I',q⟩)
 . have hk:(k+(its.toArray.size:Int)).toNat=j:=by
     rw [seqIndex_neg (by omega) h3] at h1;rw [List.size_toArray,<- hl];exact Option.some.inj h1
   exact PySem.W.ki_setBack ho (by omega) (by rw [List.size_toArray,<- hl];exact h3) (by omega) (by rw [hk];exact ⟨_,I',q⟩)
theorem G8 (lo hi:Option Int) (n:Nat):(sliceBounds lo hi none n).1=((HT.sIx n 0 lo:Nat):Int)/\(sliceBounds lo hi none n).2.1=((HT.sIx n n hi:Nat):Int)/\(sliceBounds lo hi none n).2.2=1:=by
 refine ⟨?_,?_,rfl⟩
 . cases lo with
   | none=>simp [sliceBounds,HT.sIx]
   | some i =>
     simp only [sliceBounds,HT.sIx,Option.getD_none,show (1:Int) > 0 by decide,if_true];by_cases h:i<0
     . simp only [h,if_true] <;> omega
     . simp only [h,if_false] <;> omega
 . cases hi with
   | none=>simp [sliceBounds,HT.sIx]
   | some i =>
     simp only [sliceBounds,HT.sIx,Option.getD_none,show (1:Int) > 0 by decide,if_true];by_cases h:i<0
     . simp only [h,if_true] <;> omega
     . simp only [h,if_false] <;> omega
theorem D6 (its:List Value) (lo hi:Option Int):slicePick its.toArray lo hi none=((its.drop (HT.sIx its.length 0 lo)).take (HT.sIx its.length its.length hi - HT.sIx its.length 0 lo)).toArray:=by
 obtain ⟨h1,h2,h3⟩:=G8 lo hi its.toArray.size;unfold slicePick;rw [h1,h2,h3];simp only [sliceRange_one,pick_run,List.size_toArray] <;> rfl
def UJ (K:PySem.W.Frag):V->Option Int->Option Int->Hp->VK->Prop:=fun x lo hi H Q=>∃ a xs,x=.ref a/\SqL K H a xs/\∀ p,H p=none->Q (.ref p) (upd H p (.lst (Aw xs lo hi)))
theorem Rp:SlR X (UJ X.K):=by
 intro pins s σ H x v vl vu lo hi sl Q I rx hs pl pu h;obtain ⟨a,xs,rfl,hx,q⟩:=h;cases rx;obtain ⟨its,r,ht,hz⟩:=I.list hx;have hlen:=r.length;refine ⟨"list",_,slot_list_getitem.lookup,ht.isList.typeIs,?_⟩;refine wpAny_getItem_list_slice ht.isList hs pl pu .none (by simp) ?_ (by rw [List.size_toArray] <;> omega);rw [D6,<- hlen];refine ⟨.ref s.heap.objs.size,_,I.laid (t':=s.toks) (o:=.lst (Aw xs lo hi)) (fun b ob q=>Heap.get?_push_of_some _ q) (Nat.le_refl _) ?_,rfl,q _ (I.hok.fresh (Nat.le_refl _))⟩;exact ⟨Nat.le_trans (Ik xs lo hi) hz,_,0,(r.drop (HT.sIx xs.length 0 lo)).take (HT.sIx xs.length xs.length hi - HT.sIx xs.length 0 lo),Heap.get?_push_size _ rfl⟩
theorem gZ:ml X (.builtin "len") (fun xs H Q=>∃ p ys,xs=[.ref p]/\(SqL X.K H p ys\/SqT X.K H p ys)/\Q (.int ys.length) H):=by
 intro pins s σ H xs us Q I r h;obtain ⟨p,ys,rfl,hq,q⟩:=h;obtain ⟨u,rfl,rx⟩:=vN r;cases rx;have hn:=qh;rcases hq with hq|hq
 . obtain ⟨its,r',pl,hz⟩:=I.list hq;have hlen:=r'.length;exact Calls.call_len_list pl.isList (by simp only [List.size_toArray] <;> omega) ⟨.int ys.length,H,I.tok _,⟨s.toks+1,by rw [List.size_toArray,hlen]⟩,q⟩
 . obtain ⟨its,r',pl,hz⟩:=I.tuple hq;have hlen:=r'.length;exact len_tuple pl (by simp only [List.size_toArray] <;> omega) ⟨.int ys.length,H,I.tok _,⟨s.toks+1,by rw [List.size_toArray,hlen]⟩,q⟩
theorem l5:ml X (.type "list") (fun xs H Q=>∃ p ys,xs=[.ref p]/\(SqL X.K H p ys\/SqT X.K H p ys)/\∀ l,H l=none->Q (.ref l) (upd H l (.lst ys))):=by
 intro pins s σ H xs us Q I r h;obtain ⟨p,ys,rfl,hq,q⟩:=h;obtain ⟨u,rfl,rx⟩:=vN r;cases rx;have fin:∀ (its:List Value),Vals ys its->ys.length<=sizeLine->∀ (h':Heap) (c':Nat),(∀ b o',s.heap.get? b=some o'->h'.get? b=some o') ->
     h'.get? s.heap.objs.size=some { cls:=.type "list",dict:=none,data:=.seq its.toArray c',slots:=#[] }->EP X pins σ Q (.ref s.heap.objs.size) { s with heap:=h' }:=fun its r' hz h' c' kp e =>
   ⟨.ref s.heap.objs.size,_,I.laid (t':=s.toks) kp (Nat.le_refl _) (show ObjOk X.prog X.w _ h' _ (.lst ys) from ⟨hz,its,c',r',e⟩),rfl,q _ (I.hok.fresh (Nat.le_refl _))⟩
 rcases hq with hq|hq
 . obtain ⟨its,r',pl,hz⟩:=I.list hq;have hlen:=r'.length;obtain ⟨o,ho,hc,n,hd⟩:=pl.isList;exact call_list_seq p (.inl rfl) ho hc hd (fun h' c' kp e=>fin its r' hz h' c' kp e) (by simp only [List.size_toArray] <;> omega)
 . obtain ⟨its,r',pl,hz⟩:=I.tuple hq;have hlen:=r'.length;obtain ⟨o,ho,hc,n,hd⟩:=pl;exact call_list_seq p (.inr rfl) ho hc hd (fun h' c' kp e=>fin its r' hz h' c' kp e) (by simp only [List.size_toArray] <;> omega)
theorem ja:ml X (.type "tuple") (fun xs H Q=>∃ p ys,xs=[.ref p]/\((SqL X.K H p ys/\∀ l,H l=none->Q (.ref l) (upd H l (.tup ys)))\/(SqT X.K H p ys/\Q (.ref p) H))):=by
 intro pins s σ H xs us Q I r h;obtain ⟨p,ys,rfl,h⟩:=h;obtain ⟨u,rfl,rx⟩:=vN r;cases rx;rcases h with ⟨hq,q⟩|⟨hq,q⟩
 . obtain ⟨its,r',pl,hz⟩:=I.list hq;have hlen:=r'.length;refine call_tuple_list pl.isList (fun h' kp=>?_) (by simp only [List.size_toArray] <;> omega);have I1:Inv X pins σ H { s with heap:=h' }:=I.kept (t':=s.toks) kp;have I2:Inv X pins σ (upd H h'.objs.size (.tup ys)) { s with heap:=h'.push { cls:=.type "tuple",data:=.seq its.toArray } } :=
     I1.laid (t':=s.toks) (fun b o e=>Heap.get?_push_of_some _ e) (Nat.le_refl _) (show ObjOk X.prog X.w _ _ _ (.tup ys) from ⟨hz,its,r',IsTup.new _ _⟩)
   exact ⟨.ref h'.objs.size,_,I2,rfl,q _ (I1.hok.fresh (Nat.le_refl _))⟩
 . obtain ⟨its,r',pl,hz⟩:=I.tuple hq;exact call_tuple_same pl ⟨.ref p,H,I,rfl,q⟩
def tyV (K:PySem.W.Frag) (T:String) (x:V) (H:Hp):Prop:=match x with
 | .str _=>T="str"
 | .int _=>T="int"
 | .ref p=>(T="list"/\∃ xs,SqL K H p xs)\/(T="tuple"/\∃ o,K.lookup p=some o/\o.cls=.type "tuple"/\o.dict=none) \/
     (T="dict"/\((∃ kvs,H p=some (.dK kvs))\/∃ kvs,H p=some (.dT kvs)))\/(T="set"/\∃ S n,H p=some (.set S n))
 | _=>False
theorem LC {pins:List (Addr × Obj)} {σ:St} {H:Hp} {s:Shared} {T:String} {x:V} {v:Value} (I:Inv X pins σ H s) (r:RelV x v) (ty:tyV X.K T x H) :
   s.TypeIs v T/\∀ a,v=.ref a->∃ ob,s.heap.get? a=some ob/\ob.dict=none:=by
 cases x with
 | str z =>
   obtain ⟨t,rfl⟩:=r;cases (show T="str" from ty);exact ⟨typeIs_str s z t,fun _ e=>nomatch e⟩
 | int i =>
   obtain ⟨t,rfl⟩:=r;cases (show T="int" from ty);exact ⟨typeIs_int s i t,fun _ e=>nomatch e⟩
 | ref p =>
   cases r;rcases ty with ⟨rfl,xs,hq⟩|⟨rfl,o,hk,hc,hd⟩|⟨rfl,hk⟩|⟨rfl,S,n,hk⟩
   . obtain ⟨its,_,pl,_⟩:=I.list hq;refine ⟨pl.isList.typeIs,fun a e=>?_⟩;cases e;obtain ⟨o,n,e,c,hd,_⟩:=pl;exact ⟨o,e,hd⟩
   . refine ⟨⟨o,I.kIn p o hk,hc⟩,fun a e=>?_⟩;cases e;exact ⟨o,I.kIn _ o hk,hd⟩
   . have z:∃ o,s.heap.get? p=some o/\o.ExactDict:=by
       rcases hk with ⟨kvs,hk⟩|⟨kvs,hk⟩
       . obtain ⟨_,_,_,_,o,_,_,e,ex,_⟩:=I.hok p _ hk;exact ⟨o,e,ex⟩
       . obtain ⟨_,_,_,_,o,_,_,e,ex,_⟩:=I.hok p _ hk;exact ⟨o,e,ex⟩
     obtain ⟨o,e,ex⟩:=z;refine ⟨⟨o,e,ex.1⟩,fun a e2=>?_⟩;cases e2;exact ⟨o,e,ex.2.1⟩
   . obtain ⟨o,_,_,_,e,ex,_⟩:=I.hok p _ hk;refine ⟨⟨o,e,ex.1⟩,fun a e2=>?_⟩;cases e2;exact ⟨o,e,ex.2.1⟩
 | _=>exact False.elim ty
def PN (K:PySem.W.Frag) (T:String) (r:V->List V->Hp->VK->Prop) (to:TE):TE:=fun σ H Q=>to σ H fun x H1=>tyV K T x H1/\r x [] H1 Q
def tBM (K:PySem.W.Frag) (T:String) (r:V->List V->Hp->VK->Prop) (to:TE) (t:TA):TE:=fun σ H Q=>to σ H fun x H1=>tyV K T x H1/\t σ H1 fun xs H2=>r x xs H2 Q
variable {o e:Expr} {es:List Expr} {to:TE} {t:TA} {name:Str} {apos cpos:Pos} {T id:String} {r:V->List V->Hp->VK->Prop}
theorem Hy (pa:PlainAttrs T) (slot:Slot T name id) (hty:typeOf (.builtin id)=pure (.type "method_descriptor")) (hm:MtR X id r) (ho:PE X o to)
   (hbase:attributeBase o name X.env (eval o X.env)=eval o X.env:=by rfl) (hline:(apos.endLine == cpos.line)=true:=by rfl):PE X (.Call (.Attribute o name apos) [] [] cpos) (PN X.K T r to):=by
 intro pins s σ H Q I h;refine wpAny_Call_method0_late hbase hline (bG (ho pins s σ H _ I h) fun v s1 x H1 I1 r1 ⟨ty,q1⟩=>?_);obtain ⟨h1,h2⟩:=LC I1 r1 ty;exact ⟨T,id,pa,slot,hty,h1,h2,Calls.callWith_builtin rfl (PySem.evalArgs_none (hm pins s1 σ H1 x [] v [] Q I1 r1 .nil q1))⟩
theorem oS (pa:PlainAttrs T) (slot:Slot T name id) (hty:typeOf (.builtin id)=pure (.type "method_descriptor")) (hm:MtR X id r) (ho:PE X o to) (ha:PA X (e::es) t)
   (hbase:attributeBase o name X.env (eval o X.env)=eval o X.env:=by rfl)
   (hfew:((backTo cpos (starEach (e::es) X.env)).all (fun x=>!x.1) && (backToKw cpos (keywordEach [] X.env)).all (fun x=>x.1.isSome)
     && decide ((e::es).length+([]:List Keyword).length+(if ([]:List Keyword).isEmpty then 0 else 1)<30))=true:=by rfl)
   (hline:(apos.endLine == cpos.line)=true:=by rfl) (hs:starEach (e::es) X.env=(false,eval e X.env)::starEach es X.env:=by rfl) (hplain:(backTo cpos (starEach es X.env)).any (·.1)=false:=by rfl) :
   PE X (.Call (.Attribute o name apos) (e::es) [] cpos) (tBM X.K T r to t):=by
 intro pins s σ H Q I h;refine wpAny_Call_method_late hbase hfew hline rfl (bG (ho pins s σ H _ I h) fun v s1 x H1 I1 r1 ⟨ty,q1⟩=>?_);obtain ⟨h1,h2⟩:=LC I1 r1 ty;refine ⟨T,id,pa,slot,hty,h1,h2,?_⟩;have hA:=ha cpos pins s1 σ H1 _ I1 q1;rw [hs] at hA ⊢;refine Calls.callWith_builtin (by show (false || (backTo cpos (starEach es X.env)).any (·.1))=false;rw [hplain] <;> rfl) (Calls.evalArgs_plain ?_);exact thn hA fun us s2 ⟨vs,H2,I2,r2,q2⟩=>hm pins s2 σ H2 x vs v us Q I2 r1 r2 q2
end
end L2
namespace L2
open PySem PySem.Spec PyProof.Rows
def MtM (X:Cx) (id:String) (r:V->List V->Hp->VK->Prop):Prop :=
 ∀ (pins:List (Addr × Obj)) (s:Shared) (σ:St) (H:Hp) (x:V) (xs:List V) (v:Value) (us:List Value) (Q:VK),Inv X pins σ H s->RelV x v->Vals xs us->r x xs H Q ->
   wpAny (model X.prog X.w) X.A (call (.builtin id) (v::us)) (EP X pins σ Q) X.xe s
theorem Vals.one {x:V} {us:List Value} (h:Vals [x] us):∃ u,us=[u]/\RelV x u:=by
 cases h with
 | cons r t=>cases t;exact ⟨_,rfl,r⟩
theorem Vals.two {x y:V} {us:List Value} (h:Vals [x,y] us):∃ u v,us=[u,v]/\RelV x u/\RelV y v:=by
 cases h with
 | cons r t =>
   obtain ⟨v,e,q⟩:=Vals.one t;subst e;exact ⟨_,v,rfl,r,q⟩
theorem Vals.zero:∀ {us:List Value},Vals [] us->us=[]
 | _,.nil=>rfl
theorem Vals.dropLast {xs:List V} {us:List Value} (h:Vals xs us):Vals xs.dropLast us.dropLast:=by
 induction h with
 | nil=>exact .nil
 | cons r t ih =>
   cases t with
   | nil=>exact .nil
   | cons q t'=>exact .cons r ih
theorem Vals.rep {xs:List V} {us:List Value} (h:Vals xs us):∀ k:Nat,Vals (List.replicate k xs).flatten (List.replicate k us).flatten
 | 0=>.nil
 | k+1=>by
   rw [List.replicate_succ,List.replicate_succ,List.flatten_cons,List.flatten_cons];exact Vals.append h (Vals.rep h k)
theorem J4 {α:Type} (l:List α):l.eraseIdx (l.length - 1)=l.dropLast:=by
 induction l with
 | nil=>rfl
 | cons a r ih =>
   cases r with
   | nil=>rfl
   | cons b r =>
     have e:(a::b::r).length - 1=((b::r).length - 1)+1:=by
       have h1:(a::b::r).length=r.length+2:=rfl;have h2:(b::r).length=r.length+1:=rfl;omega
     rw [e,List.eraseIdx_cons_succ,ih]
     all_goals rfl
theorem Dt (its:List Value):∀ (k:Nat) (acc:List Value),
   List.foldl (fun x1 x2=>x1++x2) acc.toArray (List.replicate k its.toArray)=(acc++(List.replicate k its).flatten).toArray
 | 0,acc=>by simp
 | k+1,acc=>by
   have e:acc.toArray++its.toArray=(acc++its).toArray:=by simp
   have e2:(acc++its)++(List.replicate k its).flatten=acc++(List.replicate (k+1) its).flatten:=by
     rw [List.replicate_succ,List.flatten_cons,List.append_assoc]
   rw [<- e2,<- Dt its k (acc++its),<- e,List.replicate_succ,List.foldl_cons]
section
variable {X:Cx} {pins:List (Addr × Obj)} {σ:St} {H:Hp} {s:Shared} {l b:Addr} {xs ys zs:List V}
theorem Inv.lset {its its':List Value} {n:Nat} {f:Array Value->Array Value} {t':Nat} (I:Inv X pins σ H s) (hH:H l=some (.lst xs))
   (e:s.heap.get? l=some { cls:=.type "list",data:=.seq its.toArray n }) (hf:f its.toArray=its'.toArray) (hv:Vals ys its') (hz:ys.length<=sizeLine) :
   Inv X pins σ (upd H l (.lst ys)) { s with heap:=s.heap.update l (Obj.mapSeq f),toks:=t' }:=by
 have q:=PySem.IsL.update e f;rw [hf] at q;refine I.write (x:=l) (e:=l) (by rw [hH];exact trivial) (.inl rfl) (fun b' u hb hu=>(Heap.get?_update_other s.heap (Obj.mapSeq f) (Ne.symm hb)).trans hu) ⟨_,q⟩ ?_;exact ⟨hz,its',_,hv,q⟩
theorem Inv.lnew {its:List Value} {t':Nat} (I:Inv X pins σ H s) (hv:Vals ys its) (hz:ys.length<=sizeLine) :
   Inv X pins σ (upd H s.heap.objs.size (.lst ys)) { s with heap:=s.heap.push { cls:=.type "list",data:=.seq its.toArray },toks:=t' } :=
 I.laid (fun _ _ q=>Heap.get?_push_of_some _ q) (Nat.le_refl _) ⟨hz,its,0,hv,Heap.get?_push_size _ rfl⟩
theorem Inv.fresh (I:Inv X pins σ H s):H s.heap.objs.size=none:=I.hok.fresh (Nat.le_refl _)
theorem Inv.lstM (I:Inv X pins σ H s) (hH:H l=some (.lst xs)):xs.length<=sizeLine/\∃ (its:List Value) (n:Nat),Vals xs its/\xs.length=its.length/\s.heap.get? l=some { cls:=.type "list",data:=.seq its.toArray n }:=by
 obtain ⟨z,its,n,r,e⟩:=I.hok l _ hH;exact ⟨z,its,n,r,r.length,e⟩
theorem Nh {n:Nat} (h:n<=sizeLine):Builtin.List.listTooLong n=false:=by
 unfold Builtin.List.listTooLong;exact decide_eq_false (by omega)
end
section
variable {X:Cx}
def rAppend:V->List V->Hp->VK->Prop:=fun x vs H Q=>∃ l xs y,x=.ref l/\vs=[y]/\H l=some (.lst xs)/\xs.length<sizeLine/\Q .non (upd H l (.lst (xs++[y])))
theorem ft:MtM X "list.append" rAppend:=by
 intro pins s σ H x vs v us Q I rx rv h;obtain ⟨l,xs,y,rfl,rfl,hH,hz,q⟩:=h;cases rx;obtain ⟨u,rfl,ru⟩:=rv.one;obtain ⟨z,its,n,r,hl,e⟩:=I.lstM hH;refine call_meets F.slot_list_append ⟨_,e,rfl⟩ F.entry_list_append (F.args_list_append_2 _ _) (PySem.list_append l its.toArray n u (by rw [List.size_toArray];omega)) ⟨e,?_⟩;refine ⟨.non,_,I.lset (its':=its++[u]) hH e (by simp) (r.append (.cons ru .nil)) ?_,rfl,q⟩;rw [List.length_append,List.length_singleton];omega
def rPop:V->List V->Hp->VK->Prop:=fun x vs H Q=>∃ l xs y,x=.ref l/\vs=[]/\H l=some (.lst xs)/\xs[xs.length - 1]?=some y/\Q y (upd H l (.lst xs.dropLast))
theorem Fg:MtM X "list.pop" rPop:=by
 intro pins s σ H x vs v us Q I rx rv h;obtain ⟨l,xs,y,rfl,rfl,hH,hy,q⟩:=h;cases rx;have hus:=rv.zero;subst hus;obtain ⟨z,its,n,r,hl,e⟩:=I.lstM hH;obtain ⟨u,hu,ru⟩:=r.get hy;have hy':its.toArray[its.toArray.size - 1]?=some u:=by
   show its.toArray[its.length - 1]?=some u;rw [<- Array.getElem?_toList,<- hl];exact hu
 refine call_meets F.slot_list_pop ⟨_,e,rfl⟩ F.entry_list_pop (F.args_list_pop_1 _) (MeetsSeq.list_pop_last l its.toArray n u hy' (by rw [List.size_toArray];omega)) ⟨e,?_⟩;refine ⟨y,_,I.lset (its':=its.dropLast) hH e ?_ r.dropLast ?_,ru,q⟩
 . show its.toArray.eraseIdxIfInBounds (its.toArray.size - 1)=its.dropLast.toArray;rw [List.size_toArray,List.eraseIdxIfInBounds_toArray,J4]
 . rw [List.length_dropLast];omega
def rCat:R2:=fun x y H Q=>∃ l b xs zs,x=.ref l/\y=.ref b/\H l=some (.lst xs)/\H b=some (.lst zs)/\xs.length+zs.length<=sizeLine/\∀ p,H p=none->Q (.ref p) (upd H p (.lst (xs++zs)))
theorem mj:OpR X (binaryOp .Add) rCat:=by
 intro pins s σ H x y v u Q I rx ry h;obtain ⟨l,b,xs,zs,rfl,rfl,hH,hB,hz,q⟩:=h;cases rx;cases ry;obtain ⟨z,its,n,r,hl,e⟩:=I.lstM hH;obtain ⟨z2,its2,n2,r2,hl2,e2⟩:=I.lstM hB;refine PySem.P.add_list e e2 ?_ (by rw [List.size_toArray,List.size_toArray];omega);have ea:its.toArray++its2.toArray=(its++its2).toArray:=by simp
 rw [ea];exact ⟨.ref _,_,I.lnew (t':=s.toks) (r.append r2) (by rw [List.length_append];omega),rfl,q _ I.fresh⟩
def rRep:R2:=fun x y H Q=>∃ l k xs,x=.ref l/\y=.int k/\H l=some (.lst xs)/\-(2^63)<=k/\k<2^63/\xs.length*k.toNat<=sizeLine /\
 ∀ p,H p=none->Q (.ref p) (upd H p (.lst (List.replicate k.toNat xs).flatten))
theorem So {α:Type} (xs:List α) (k:Nat):(List.replicate k xs).flatten.length=k*xs.length:=by
 induction k with
 | zero=>simp
 | succ k ih=>rw [List.replicate_succ,List.flatten_cons,List.length_append,ih,Nat.succ_mul,Nat.add_comm]
theorem xa:OpR X (binaryOp .Mult) rRep:=by
 intro pins s σ H x y v u Q I rx ry h;obtain ⟨l,k,xs,rfl,rfl,hH,h1,h2,hz,q⟩:=h;cases rx;obtain ⟨t,rfl⟩:=ry;obtain ⟨z,its,n,r,hl,e⟩:=I.lstM hH;have hlen:its.toArray.size*k.toNat<=sizeLine:=by rw [List.size_toArray,<- hl];exact hz
 have hcap:¬ its.toArray.size*k.toNat > (2^63 - 1) / 8:=by
   have:(sizeLine:Nat)<=(2^63 - 1) / 8:=by decide
   omega
 have hfit:¬ (!Builtin.List.listFitsIndex k)=true:=by
   rw [fitsIndex_both h1 h2];exact Bool.false_ne_true
 have hlong:¬ Builtin.List.listTooLong (its.toArray.size*k.toNat)=true:=by
   rw [Nh hlen];exact Bool.false_ne_true
 have hnew:List.foldl (fun x1 x2=>x1++x2) #[] (List.replicate (if its.toArray.isEmpty=true then 0 else k.toNat) its.toArray)=(List.replicate k.toNat its).flatten.toArray:=by
   have f0:∀ m:Nat,List.foldl (fun x1 x2=>x1++x2) #[] (List.replicate m its.toArray)=(List.replicate m its).flatten.toArray:=fun m=>by
     have:=Dt its m [];rw [List.nil_append] at this;exact this
   rw [f0];cases its with
   | nil=>simp
   | cons a r'=>rw [if_neg (by simp)]
 refine wpAny_binaryOp_repeat_ref (T:="list") (U:="int") (by decide) ⟨_,e,rfl⟩ (fun s'=>typeIs_int s' k t) noFill_list_mul F.fills_int_mul F.slot_int_rmul repeat_list F.slot_int_index.lookup
   (call_meets F.slot_int_rmul (typeIs_int s k t) F.entry_int_rmul (F.args_int_rmul_2 _ _) (int___rmul___int_list k t l its.toArray n)
     ⟨e,rfl,⟨_,e,rfl⟩,call_meets F.slot_list_mul ⟨_,e,rfl⟩ F.entry_list_mul (F.args_list_mul_2 _ _) (AutoListH.list___mul___list_int_3 l its.toArray n k t hfit hcap hlong) ⟨e,?_⟩⟩)
 rw [hnew];exact ⟨.ref _,_,I.lnew (t':=s.toks) (r.rep k.toNat) (by rw [So,Nat.mul_comm];exact hz),rfl,q _ I.fresh⟩
end
section
variable {prog:Program} {w:World} {A:Around} {E:Value->Shared->Prop} {s:Shared}
set_option maxRecDepth 100000 in
end
section
variable {X:Cx}
end
end L2
namespace L2
open PySem PySem.Spec PyProof.Rows
section
variable {κ:Type} [DecidableEq κ]
def mX (kvs:List (κ × V)) (k:κ):Option V:=(kvs.find? fun kv=>decide (kv.1=k)).map (·.2)
def jr (kvs:List (κ × V)) (k:κ) (v:V):List (κ × V) :=
 if (kvs.any fun kv=>decide (kv.1=k))=true then kvs.map (fun kv=>if kv.1=k then (kv.1,v) else kv) else kvs++[(k,v)]
theorem uY {p:κ × V} {r:List (κ × V)} {k:κ} (e:p.1=k):mX (p::r) k=some p.2:=by simp [mX,List.find?_cons,e]
theorem vb {p:κ × V} {r:List (κ × V)} {k:κ} (e:¬ p.1=k):mX (p::r) k=mX r k:=by simp [mX,List.find?_cons,e]
theorem AJ (k:κ):∀ kvs:List (κ × V),(kvs.any fun kv=>decide (kv.1=k))=(mX kvs k).isSome
 | []=>rfl
 | p::r=>by
   rw [List.any_cons];by_cases e:p.1=k
   . simp only [uY e,decide_eq_true e,Bool.true_or,Option.isSome_some]
   . rw [vb e,decide_eq_false e,Bool.false_or];exact AJ k r
theorem sO (kvs:List (κ × V)) (k:κ) (v:V):(jr kvs k v).length<=kvs.length+1:=by
 unfold jr;split
 . rw [List.length_map];omega
 . rw [List.length_append,List.length_cons,List.length_nil];omega
theorem QP {kvs:List (κ × V)} {k:κ} (v:V) (h:mX kvs k=none):jr kvs k v=kvs++[(k,v)]:=by
 unfold jr;rw [AJ,h];exact if_neg (by decide)
theorem RelO.isSome_eq {o:Option V} {u:Option Value} (r:RelO o u):o.isSome=u.isSome:=by
 cases o with
 | none=>cases u with
   | none=>rfl
   | some _=>exact (show False from r).elim
 | some _=>cases u with
   | none=>exact (show False from r).elim
   | some _=>rfl
theorem KV.val {kvs:List (κ × V)} {vs:List (κ × Value)} (r:KV kvs vs) (k:κ):RelO (mX kvs k) (valueAt vs k):=by
 unfold KV at r
 induction r with
 | nil=>exact True.intro
 | @cons p q ps qs h t ih =>
   obtain ⟨h1,h2⟩:=h;by_cases e:p.1=k
   . have e':q.1=k:=h1.symm.trans e;have b:valueAt (q::qs) k=some q.2:=(by simp [valueAt,List.find?_cons,e']);rw [uY e,b];exact h2
   . have e':¬ q.1=k:=fun z=>e (h1.trans z);have b:valueAt (q::qs) k=valueAt qs k:=(by simp [valueAt,List.find?_cons,e']);rw [vb e,b];exact ih
theorem KV.any {kvs:List (κ × V)} {vs:List (κ × Value)} (r:KV kvs vs) (k:κ):(kvs.any fun kv=>decide (kv.1=k))=vs.any fun kv=>decide (kv.1=k):=by
 unfold KV at r
 induction r with
 | nil=>rfl
 | cons h t ih=>rw [List.any_cons,List.any_cons,ih,h.1]
theorem KV.repl {kvs:List (κ × V)} {vs:List (κ × Value)} (r:KV kvs vs) (k:κ) {y:V} {u:Value} (ry:RelV y u) :
   KV (kvs.map fun kv=>if kv.1=k then (kv.1,y) else kv) (vs.map fun kv=>if kv.1=k then (kv.1,u) else kv):=by
 unfold KV at r ⊢
 induction r with
 | nil=>exact .nil
 | @cons p q ps qs h t ih =>
   rw [List.map_cons,List.map_cons];refine .cons ?_ ih;obtain ⟨h1,h2⟩:=h;by_cases e:p.1=k
   . rw [if_pos e,if_pos (h1.symm.trans e)];exact ⟨h1,ry⟩
   . rw [if_neg e,if_neg (fun z=>e (h1.trans z))];exact ⟨h1,h2⟩
theorem KV.put {kvs:List (κ × V)} {vs:List (κ × Value)} (r:KV kvs vs) (k:κ) {y:V} {u:Value} (ry:RelV y u):KV (jr kvs k y) (stored vs k u):=by
 unfold jr stored;rw [r.any k];by_cases e:(vs.any fun kv=>decide (kv.1=k))=true
 . rw [if_pos e,if_pos e];exact r.repl k ry
 . rw [if_neg e,if_neg e];exact Paired.snoc r ⟨rfl,ry⟩
theorem KV.length {kvs:List (κ × V)} {vs:List (κ × Value)} (r:KV kvs vs):kvs.length=vs.length:=Paired.length r
end
theorem Et {P:Program} {w:World} {k:Key} {u:Value} (r:RelV (kV k) u):(dM P w).is k u=true:=by
 cases k with
 | inl i=>obtain ⟨t,e⟩:=(show ∃ t,u=Value.int i t from r);subst e;exact IA P w i t
 | inr x=>obtain ⟨t,e⟩:=(show ∃ t,u=Value.str x t from r);subst e;exact Ig P w x t
theorem Dq {P:Program} {w:World}:∀ {ks:List Key} {us:List Value},Vals (ks.map kV) us->ItemsAre (dM P w) ks us
 | [],_,r=>by rw [List.map_nil] at r;cases r;exact .nil
 | k::ks,_,r=>by
   rw [List.map_cons] at r;cases r with
   | cons h t=>exact .cons (Et h) (Dq t)
abbrev KT (H:Hp):List (List Key × V)->List (List Key × Addr × Value)->Prop:=Paired fun p q=>p.1=q.1/\H q.2.1=some (.tup (p.1.map kV))/\RelV p.2 q.2.2
theorem KT.val {H:Hp} {kvs:List (List Key × V)} {xs:List (List Key × Addr × Value)} (r:KT H kvs xs) (k:List Key):RelO (mX kvs k) ((atKey xs k).map (·.2)):=by
 induction r with
 | nil=>exact True.intro
 | @cons p q ps qs h t ih =>
   obtain ⟨h1,_,h2⟩:=h;by_cases e:p.1=k
   . have e':q.1=k:=h1.symm.trans e;have b:atKey (q::qs) k=some q.2:=(by simp [atKey,List.find?_cons,e']);rw [uY e,b];exact h2
   . have e':¬ q.1=k:=fun z=>e (h1.trans z);have b:atKey (q::qs) k=atKey qs k:=(by simp [atKey,List.find?_cons,e']);rw [vb e,b];exact ih
theorem KT.repl {H:Hp} {kvs:List (List Key × V)} {xs:List (List Key × Addr × Value)} (r:KT H kvs xs) (k:List Key) {y:V} {u:Value} (ry:RelV y u) :
   KT H (kvs.map fun kv=>if kv.1=k then (kv.1,y) else kv) (xs.map (putAt k u)):=by
 induction r with
 | nil=>exact .nil
 | @cons p q ps qs h t ih =>
   rw [List.map_cons,List.map_cons];refine .cons ?_ ih;obtain ⟨h1,h2,h3⟩:=h;unfold putAt;by_cases e:p.1=k
   . rw [if_pos e,if_pos (h1.symm.trans e)];exact ⟨h1,h2,ry⟩
   . rw [if_neg e,if_neg (fun z=>e (h1.trans z))];exact ⟨h1,h2,h3⟩
theorem KT.put {H:Hp} {kvs:List (List Key × V)} {xs:List (List Key × Addr × Value)} (r:KT H kvs xs) (k:List Key) {b:Addr} {y:V} {u:Value} (hb:H b=some (.tup (k.map kV))) (ry:RelV y u) :
   KT H (jr kvs k y) (storedH xs k b u):=by
 have e:(kvs.any fun kv=>decide (kv.1=k))=(atKey xs k).isSome:=by
   rw [AJ,(r.val k).isSome_eq,Option.isSome_map]
 unfold jr storedH;rw [e];by_cases q:(atKey xs k).isSome=true
 . rw [if_pos q,if_pos q];exact r.repl k ry
 . rw [if_neg q,if_neg q];exact Paired.snoc r ⟨rfl,hb,ry⟩
theorem KT.keeps {H H':Hp} {kvs:List (List Key × V)} {xs:List (List Key × Addr × Value)} (r:KT H kvs xs) (ht:∀ b ys,H b=some (.tup ys)->H' b=some (.tup ys)):KT H' kvs xs :=
 Paired.mapP r fun _ _ z=>⟨z.1,ht _ _ z.2.1,z.2.2⟩
section
variable {P:Program} {w:World} {H:Hp} {h:Heap} {a:Addr}
theorem QZ {u:HO} (ok:HOk P w H h) (e:Rd H a u):ObjOk P w H h a u:=e.ok ok
theorem Ke {kvs:List (Key × V)} (ok:HOk P w H h) (e:Rd H a (.dK kvs)):kvs.length<=sizeLine/\(a == sysModules)=false/\∃ vs,KV kvs vs/\h.DictOf (dM P w) a vs :=
 show ObjOk P w H h a (.dK kvs) from QZ ok e
theorem Re {kvs:List (Key × V)} (ok:HOk P w H h) (e:H a=some (.dK kvs)):kvs.length<=sizeLine/\(a == sysModules)=false/\∃ vs,KV kvs vs/\h.DictOf (dM P w) a vs:=Ke ok (.inl e)
theorem Fd {ks:List Key} (ok:HOk P w H h) (e:H a=some (.tup (ks.map kV))):(tupleKind (dM P w)).is h ks a:=by
 obtain ⟨_,its,r,o,h1,h2,n,h3⟩:=(show ObjOk P w H h a (.tup (ks.map kV)) from ok a _ e);exact ⟨o,its.toArray,n,h1,h2,h3,by simpa using Dq r⟩
theorem Rg {kvs:List (List Key × V)} (ok:HOk P w H h) (e:Rd H a (.dT kvs)):kvs.length<=sizeLine/\(a == sysModules)=false /\
   ∃ xs,KT H kvs xs/\h.DictOfH (tupleKind (dM P w)) a xs:=by
 obtain ⟨z,y,xs,r,o,es,ep,h1,h2,h3,h4,h5⟩:=(show ObjOk P w H h a (.dT kvs) from QZ ok e);refine ⟨z,y,xs,r,o,es,ep,h1,h2,h3,h4,fun x hx=>?_,h5⟩;have all:∀ {l:List (List Key × V)} {m:List (List Key × Addr × Value)},KT H l m->∀ x∈m,(tupleKind (dM P w)).is h x.1 x.2.1:=by
   intro l m q
   induction q with
   | nil=>intro x hx;exact nomatch hx
   | @cons p q ps qs hq t ih =>
     intro x hx;rcases List.mem_cons.mp hx with e|hx
     . subst e;exact Fd ok (by rw [<- hq.1];exact hq.2.1)
     . exact ih x hx
 exact all r x hx
theorem Ur {kvs:List (List Key × V)} (ok:HOk P w H h) (e:H a=some (.dT kvs)):kvs.length<=sizeLine/\(a == sysModules)=false /\
   ∃ xs,KT H kvs xs/\h.DictOfH (tupleKind (dM P w)) a xs:=Rg ok (.inl e)
end
def DGet (H:Hp) (a:Addr) (y:V) (r:Option V):Prop :=
 (∃ kvs k,Rd H a (.dK kvs)/\y=kV k/\r=mX kvs k)\/∃ kvs k b,Rd H a (.dT kvs)/\y=.ref b/\H b=some (.tup (k.map kV))/\r=mX kvs k
def DPut (H:Hp) (a:Addr) (y v:V) (H':Hp):Prop :=
 (∃ kvs k,H a=some (.dK kvs)/\y=kV k/\kvs.length<sizeLine/\H'=upd H a (.dK (jr kvs k v))) \/
 ∃ kvs k b,H a=some (.dT kvs)/\y=.ref b/\H b=some (.tup (k.map kV))/\kvs.length<sizeLine/\H'=upd H a (.dT (jr kvs k v))
theorem DGet.k {H:Hp} {a:Addr} {kvs:List (Key × V)} {k:Key} (e:H a=some (.dK kvs)):DGet H a (kV k) (mX kvs k):=.inl ⟨kvs,k,.inl e,rfl,rfl⟩
theorem DPut.k {H:Hp} {a:Addr} {kvs:List (Key × V)} {k:Key} {v:V} (e:H a=some (.dK kvs)) (hl:kvs.length<sizeLine):DPut H a (kV k) v (upd H a (.dK (jr kvs k v))):=.inl ⟨kvs,k,e,rfl,hl,rfl⟩
section
variable {X:Cx} {pins:List (Addr × Obj)} {σ:St} {H:Hp} {s:Shared} {a:Addr} {y v:V} {u r:Value} {o:Option V} {A:Around} {E:Value->Shared->Prop}
theorem Inv.big (I:Inv X pins σ H s):sysModules<s.heap.objs.size:=by
 have h:mainGlobals<s.heap.objs.size:=(I.mod.glob.keeps I.bk).lt;exact Nat.lt_trans (by decide) h
theorem Ro {Q:Value->Shared->Prop} (hu:A.units+1<cLine) (I:Inv X pins σ H s) (g:DGet H a y o) (ry:RelV y u) (h:∀ s',Inv X pins σ H s'->Q (.bool (!o.isSome)) s') :
   wpAny (model X.prog X.w) A (compareOp .NotIn u (.ref a)) Q E s:=by
 rcases g with ⟨kvs,k,e,ey,l⟩|⟨kvs,k,b,e,ey,eb,l⟩
 . subst ey;obtain ⟨z,hd,vs,rel,dd⟩:=Ke I.hok e;refine wpAny_notIn_of (Et ry) hd dd.mapOf ?_;rw [<- (rel.val k).isSome_eq,<- l];exact h _ (I.tok _)
 . subst ey;cases (show u=Value.ref b from ry);obtain ⟨z,hd,xs,rel,dd⟩:=Rg I.hok e;refine wpAny_notIn_heap (tupleKind_room_in1 hu) (Fd I.hok eb) hd dd ?_;have q:=(rel.val k).isSome_eq;rw [Option.isSome_map] at q;rw [<- q,<- l];exact h _ (I.tok _)
theorem CT {h':Heap} {t':Nat} {ob:HO} (I:Inv X pins σ H s) (mu:Mut (H a)) (hs:Heap.SameBut a s.heap h') (he:∃ q,h'.get? a=some q) (new:ObjOk X.prog X.w (upd H a ob) h' a ob) :
   Inv X pins σ (upd H a ob) { s with heap:=h',toks:=t' } :=
 I.write (x:=a) (e:=a) mu (.inl rfl) (fun b q hb z=>(hs.2 b hb).trans z) he new
theorem Mu {P:Program} {w:World} {H':Hp} {h':Heap} {kvs:List (Key × V)} {vs:List (Key × Value)} (z:kvs.length<=sizeLine) (hd:(a == sysModules)=false) (rel:KV kvs vs) (dd:h'.DictOf (dM P w) a vs) :
   ObjOk P w H' h' a (.dK kvs):=⟨z,hd,vs,rel,dd⟩
theorem Mn {H':Hp} {Q:Unit->Shared->Prop} (hu:A.units+1<cLine) (I:Inv X pins σ H s) (g:DPut H a y v H') (ry:RelV y u) (rv:RelV v r) (h:∀ s',Inv X pins σ H' s'->Q () s') :
   wpAny (model X.prog X.w) A (setItem (.ref a) u r) Q E s:=by
 rcases g with ⟨kvs,k,e,ey,l,eH⟩|⟨kvs,k,b,e,ey,eb,l,eH⟩
 . subst ey eH;obtain ⟨z,hd,vs,rel,dd⟩:=Re I.hok e;have hz:vs.length<=sizeLine:=by rw [<- rel.length];exact z
   have hl:(jr kvs k v).length<=sizeLine:=by have:=sO kvs k v;omega
   refine wpAny_setItem_pairs (hsz:=hz) (Et ry) dd fun h' dd' hs=>h _ ?_;have he:∃ q,h'.get? a=some q:=let ⟨q,_,_,hq,_⟩:=dd';⟨q,hq⟩;exact CT I (by rw [e];exact True.intro) hs he (Mu hl hd (rel.put k rv) dd')
 . subst ey eH;cases (show u=Value.ref b from ry);obtain ⟨z,hd,xs,rel,dd⟩:=Ur I.hok e;have hz:xs.length<=sizeLine:=by rw [<- Paired.length rel];exact z
   have hl:(jr kvs k v).length<=sizeLine:=by have:=sO kvs k v;omega
   refine wpAny_setItem_heap (hsz:=hz) (tupleKind_room_in1 hu) (Fd I.hok eb) dd fun h' dd' hs=>h _ ?_;obtain ⟨q,es,ep,hq,h2,h3,h4,_,h5⟩:=dd';refine CT I (by rw [e];exact True.intro) hs ⟨q,hq⟩ ⟨hl,hd,_,(rel.put k eb rv).keeps fun c ys ec=>?_,q,es,ep,hq,h2,h3,h4,h5⟩;rw [au (gI ec e (fun z=>nomatch z))];exact ec
end
section
variable {X:Cx} {pins:List (Addr × Obj)} {σ:St} {H:Hp} {s:Shared} {a:Addr} {kvs:List (Key × V)} {k:Key} {u:Value} {A:Around} {E:Value->Shared->Prop}
theorem Uj {Q:Value->Shared->Prop} (I:Inv X pins σ H s) (e:Rd H a (.dK kvs)) (h:∀ t s',Inv X pins σ H s'->Q (.int kvs.length t) s'):wpAny (model X.prog X.w) A (call (.builtin "len") [.ref a]) Q E s:=by
 obtain ⟨z,hd,vs,rel,dd⟩:=Ke I.hok e;refine call_len_dict hd dd (by rw [<- rel.length];rw [sizeLine_eq] at z;omega) ?_;rw [<- rel.length];exact h _ _ (I.tok _)
end
def Q8 (td ty:TE):TE:=fun σ H Q=>td σ H fun x H1=>ty σ H1 fun y H2=>∃ a v,x=.ref a/\DGet H2 a y (some v)/\Q v H2
def SI (ty td:TE):TE:=fun σ H Q=>ty σ H fun y H1=>td σ H1 fun x H2=>∃ a o,x=.ref a/\DGet H2 a y o/\Q (.bl o.isSome) H2
def Cw (ty td:TE):TE:=fun σ H Q=>ty σ H fun y H1=>td σ H1 fun x H2=>∃ a o,x=.ref a/\DGet H2 a y o/\Q (.bl (!o.isSome)) H2
def Kb (td ty tv:TE):TS:=fun D σ H=>tv σ H fun v H1=>td σ H1 fun x H2=>ty σ H2 fun y H3=>∃ a H4,x=.ref a/\DPut H3 a y v H4/\D.nx σ H4
section
variable {X:Cx} {o i e value:Expr} {pos pos' tpos:Pos} {td ty tv:TE}
theorem Mm (hu:X.A.units+1<cLine) (hi:PE X i ty) (ho:PE X o td):PC X .NotIn i o (Cw ty td):=by
 intro pins s σ H Q I h;refine bG (hi pins s σ H _ I h) fun iv s1 y H1 I1 ry q1=>bG (ho pins s1 σ H1 _ I1 q1) fun u s2 x H2 I2 rx ⟨a,ov,ex,g,q2⟩=>?_;subst ex;obtain rfl:u=Value.ref a:=rx;exact Ro hu I2 g ry fun s3 I3=>⟨.bl (!ov.isSome),H2,I3,rfl,q2⟩
theorem Rj (hu:X.A.units+1<cLine) (ho:PE X o td) (hi:PE X i ty) (hv:PE X value tv) (hs:swapsWith value (some (.Subscript o i pos')) pos.line X.env=pure false) :
   PS X (.Assign [.Subscript o i pos'] value pos) (Kb td ty tv):=by
 intro pins s σ H D I h;refine wpAny_Assign_Subscript (bG (hv pins s σ H _ I h) fun r s1 v H1 I1 rv q1=>bG (ho pins s1 σ H1 _ I1 q1) fun u s2 x H2 I2 rx q2=>bG (hi pins s2 σ H2 _ I2 q2) fun iv s3 y H3 I3 ry ⟨a,H4,ex,g,q3⟩=>?_) hs;subst ex;obtain rfl:u=Value.ref a:=rx;exact Mn hu I3 g ry rv fun s4 I4=>⟨σ,H4,I4,q3⟩
end
theorem OV {P:Program} {w:World} {H:Hp} (h:Heap) (hb:sysModules<h.objs.size):ObjOk P w H (h.push { cls:=.type "dict",data:=.dict #[] }) h.objs.size (.dK []) :=
 ⟨Nat.zero_le _,beq_eq_false_iff_ne.mpr (Ne.symm (Nat.ne_of_lt hb)),[],.nil,Heap.DictOf.new h⟩
def LR:TE:=fun _ H Q=>∀ p,H p=none->Q (.ref p) (upd H p (.dK []))
def L1:TE:=fun _ H Q=>∀ p,H p=none->Q (.ref p) (upd H p (.dT []))
section
variable {X:Cx} {pos:Pos}
end
def tf:List (TE × TE)->St->Hp->(List (V × V)->Hp->Prop)->Prop
 | [],_,H,Q=>Q [] H
 | (tk,tv)::r,σ,H,Q=>tk σ H fun x H1=>tv σ H1 fun y H2=>tf r σ H2 fun ps H3=>Q ((x,y)::ps) H3
abbrev VV:List (V × V)->List (Value × Value)->Prop:=Paired fun p q=>RelV p.1 q.1/\RelV p.2 q.2
def PPs (X:Cx) (pos:Pos) (keys:List (Option Expr)) (values:List Expr) (trs:List (TE × TE)):Prop :=
 ∀ (pins:List (Addr × Obj)) (s:Shared) (σ:St) (H:Hp) (Q:List (V × V)->Hp->Prop),Inv X pins σ H s->tf trs σ H Q ->
   wpAny (model X.prog X.w) X.A (evalPairs (pairTrees keys values X.env pos)) (fun vs s'=>∃ ps H',Inv X pins σ H' s'/\VV ps vs/\Q ps H') X.xe s
theorem Sg {X:Cx} {pos:Pos}:PPs X pos [] [] []:=fun pins s σ H Q I h=>pairTrees_nil_walk ⟨[],H,I,.nil,h⟩
theorem MY {X:Cx} {pos:Pos} {k v:Expr} {ks:List (Option Expr)} {vs:List Expr} {tk tv:TE} {trs:List (TE × TE)} (hk:PE X k tk) (hv:PE X v tv) (hr:PPs X pos ks vs trs) :
   PPs X pos (some k::ks) (v::vs) ((tk,tv)::trs):=fun pins s σ H Q I h =>
 pairTrees_cons_walk (bG (hk pins s σ H _ I h) fun u s1 x H1 I1 rx q1=>bG (hv pins s1 σ H1 _ I1 q1) fun w2 s2 y H2 I2 ry q2 =>
   thn (hr pins s2 σ H2 _ I2 q2) fun ws s3 ⟨ps,H3,I3,rel,q3⟩=>⟨(x,y)::ps,H3,I3,.cons ⟨rx,ry⟩ rel,q3⟩)
def tE (kvs more:List (Key × V)):List (Key × V):=more.foldl (fun acc kv=>jr acc kv.1 kv.2) kvs
theorem KV.merge:∀ {more:List (Key × V)} {rs:List (Key × Value)} {kvs:List (Key × V)} {vs:List (Key × Value)},KV more rs->KV kvs vs->KV (tE kvs more) (merged vs rs):=by
 intro more rs kvs vs r;unfold KV at r
 induction r generalizing kvs vs with
 | nil=>intro q;exact q
 | @cons p q ps qs h t ih =>
   intro r0;have e:KV (jr kvs p.1 p.2) (stored vs q.1 q.2):=by
     have:=r0.put p.1 h.2;rw [<- h.1];exact this
   exact ih e
theorem wa:∀ (more kvs:List (Key × V)),(tE kvs more).length<=kvs.length+more.length
 | [],kvs=>by show kvs.length<=kvs.length+0;omega
 | p::r,kvs=>by
   have h1:=wa r (jr kvs p.1 p.2);have h2:=sO kvs p.1 p.2;show (tE (jr kvs p.1 p.2) r).length<=_;rw [List.length_cons];omega
theorem BL {P:Program} {w:World}:∀ {kvs:List (Key × V)} {ws:List (Value × Value)},VV (kvs.map fun kv=>(kV kv.1,kv.2)) ws->∃ rs,Carries (dM P w) ws rs/\KV kvs rs
 | [],_,r=>by rw [List.map_nil] at r;cases r;exact ⟨[],True.intro,.nil⟩
 | p::kvs,_,r=>by
   rw [List.map_cons] at r;cases r with
   | @cons a b as bs h t =>
     obtain ⟨rs,c,q⟩:=BL (P:=P) (w:=w) t;obtain ⟨b1,b2⟩:=b;exact ⟨(p.1,b2)::rs,⟨Et h.1,rfl,c⟩,.cons ⟨rfl,h.2⟩ q⟩
def JI (trs:List (TE × TE)):TE:=fun σ H Q=>∀ p,H p=none->tf trs σ (upd H p (.dK [])) fun ps H2=>H2 p=some (.dK [])/\∃ kvs:List (Key × V),ps=kvs.map (fun kv=>(kV kv.1,kv.2))/\kvs.length<=15/\Q (.ref p) (upd H2 p (.dK (tE [] kvs)))
theorem Sh {X:Cx} {pos:Pos} {keys:List (Option Expr)} {values:List Expr} {trs:List (TE × TE)} (h:PPs X pos keys values trs) (hall:keys.all (·.isSome)=true) (hl:keys.length=values.length) (h0:keys≠[])
   (h15:keys.length<=15):PE X (.Dict keys values pos) (JI trs):=by
 intro pins s σ H Q I q;have hn:=I.hok.fresh (Nat.le_refl s.heap.objs.size);have I1:=I.laid (a:=s.heap.objs.size) (o:=.dK []) (h':=s.heap.push { cls:=.type "dict",data:=.dict #[] }) (t':=s.toks) (fun _ _ q=>Heap.get?_push_of_some _ q) (Nat.le_refl _) (OV s.heap I.big);refine wpAny_Dict_walk (knd:=dM X.prog X.w) hall hl h0 h15 (thn (h pins _ σ _ _ I1 (q _ hn)) fun ws s2 ⟨ps,H2,I2,rel,e,kvs,ep,lk,q2⟩=>?_);subst ep;obtain ⟨rs,c,rk⟩:=BL (P:=X.prog) (w:=X.w) rel;obtain ⟨z,hd,vs0,r0,dd⟩:=Re I2.hok e;cases r0;refine ⟨rs,c,dd,fun h' dd' hs=>⟨.ref s.heap.objs.size,_,?_,rfl,q2⟩⟩;have hz:(tE [] kvs).length<=sizeLine:=by
   have h1:=wa kvs [];rw [List.length_nil] at h1;rw [sizeLine_eq];omega
 have he:∃ q,h'.get? s.heap.objs.size=some q:=let ⟨q,_,_,hq,_⟩:=dd';⟨q,hq⟩;exact CT I2 (by rw [e];exact True.intro) hs he (Mu hz hd (rk.merge .nil) dd')
section
variable {X:Cx} {pins:List (Addr × Obj)} {σ:St} {H:Hp} {s:Shared} {a:Addr} {y d:V} {u r:Value} {o:Option V} {A:Around} {E:Value->Shared->Prop}
end
section
variable {X:Cx} {o e f:Expr} {apos cpos:Pos} {td ty tx:TE}
end
section
variable {X:Cx} {pins:List (Addr × Obj)} {σ:St} {H:Hp} {s:Shared} {a:Addr} {kvs:List (Key × V)} {A:Around} {E:Value->Shared->Prop}
end
section
variable {X:Cx} {pins:List (Addr × Obj)} {σ:St} {H:Hp} {s:Shared} {a:Addr} {y:V} {u:Value} {A:Around} {E:Value->Shared->Prop}
end
end L2
namespace Att
open PySem PySem.W PySem.Calls PyProof.Rows
theorem BZ {P:Params} {h:Heap}:∀ (ns:List Int) (vs:List Value),WellAll P h vs (ns.map WData.int)->IntsAre vs ns:=by
 intro ns
 induction ns with
 | nil =>
   intro vs w;rw [List.map_nil] at w;cases w;exact .nil
 | cons n ns ih =>
   intro vs w;rw [List.map_cons] at w;cases w with
   | cons a b =>
     cases a;exact .cons _ _ (ih _ b)
theorem My {l:OpenLaw} {n:Nat} (hn:l.most=some n) {P:Params} {h:Heap} {args:List WData} {vals:List Value}
   (hpre:l.row.toRowW.claim.pre args=true) (hwl:WellAll P h vals args) :
   ∃ a vs ns,vals=[Value.ref a]/\args=[WData.list (ns.map WData.int)]/\h.get? a=some { cls:=.type "list",data:=.seq vs.toArray }/\IntsAre vs ns/\ns.length<=n:=by
 have hsh:WShape.hasAll [] args [.list .int]=true:=(pre_splitW hpre).1;have hc:l.pre.holds [] { args:=args }=true:=(pre_splitW hpre).2;obtain ⟨d,r,rfl,h1,h2⟩:=hasAllW_cons hsh;obtain rfl:=hasAllW_nil h2;obtain ⟨xs,rfl,h3⟩:=hasW_list h1;obtain ⟨ns,rfl⟩:=items_int h3;have hlen:ns.length<=n:=by
   unfold OpenLaw.pre at hc;have h4:(WTm.not (.lt (.lit (.int (n:Int))) (.len (.arg 0)))).holds [] { args:=[.list (ns.map .int)] }=true:=by
     have h4:=(holds_andW hc).1;rw [hn] at h4;exact h4
   have h5:=condW_of h4 (w_not (w_lt w_lit (w_len_list (w_arg rfl))));rw [List.length_map] at h5;refine Nat.le_of_not_lt fun q=>?_;have q':(n:Int)<((ns.length:Nat):Int):=by omega
   first
     | (rw [decide_eq_true q'] at h5;exact absurd h5 (by decide))
     | (simp at h5;omega)
 cases hwl with
 | cons w1 w2 =>
   cases w2;cases w1 with
   | list ho hall=>exact ⟨_,_,ns,rfl,rfl,ho,BZ ns _ hall,hlen⟩
theorem LM (l:OpenLaw) (args:List WData):l.row.toRowW.claim.post args (.bool true) args=true :=
 postW_of (r:=l.row.toRowW) (X:=(true == true))
   (show WShape.has [] (.bool true) .bool=true by first|rfl|decide|simp [WShape.has,WShape.arms,WShape.armsAll])
   (show (WTm.eq .res (.lit (.bool true))).value [] { args:=args,res:=some (.bool true),after:=args }=some (.bool (true == true)) from w_eq_bool (w_res rfl) w_lit) rfl
theorem attach_call {l:OpenLaw} {n:Nat} {q:Program} {loose:List Str} {XP:(Str->Option Value)->Heap->Prop} {YP:World->Heap->Prop} {d:DefRec}
   (hn:l.most=some n) (hdf:d.params.defaults=[])
   (call:∀ (w:World) (s₀ s₁:Shared) (mg mb:Str->Option Value) (fa:Addr) (o:Obj) (pm cd doc:Value) (a:Addr) (vs:List Value) (ns:List Int),
     Ground q loose [] XP w s₀ mg mb s₁.heap->YP w s₁.heap ->
     s₁.heap.get? fa=some o->o.data=.func (docDef d.name d.params d.body d.scope pm cd doc)->s₁.heap.CodeRec cd d.name->mg d.name=some (.ref fa) ->
     s₁.heap.get? a=some { cls:=.type "list",data:=.seq vs.toArray }->IntsAre vs ns->ns.length<=n->s₁.gens=#[] ->
     codeAny (model l.prog w) callerA (.call (.ref fa) ⟨[.ref a],[]⟩) (fun r s'=>r=.ok (.ret (.bool true))/\OldK s₁.heap s'.heap/\s'.os=s₁.os/\AllBare s'.gens) s₁) :
   WalkO q loose XP YP l.row.toRowW d [] (fun f vs=>PySem.call f vs):=by
 intro w s₀ s₁ mg mb G Y fa o pm cd doc dV kV ho hd hcd hD hmg hg args vals as hpre hlay hrd hwl hlo;obtain rfl:dV=.none:=Dflts.none hD hdf;obtain rfl:kV=.none:=Dflts.noKw hD;obtain ⟨a,vs,ns,rfl,rfl,hobj,hints,hlen⟩:=My hn hpre hwl;refine enter_call (codeAny_mono (call w s₀ s₁ mg mb fa o pm cd doc a vs ns G Y ho (fd_plain hd) hcd hmg hobj hints hlen hg) fun r s' hq=>?_);obtain ⟨rfl,h2,h3,h4⟩:=hq;exact ⟨.inl ⟨.bool true,.bool true,[],rfl,fun _=>rfl,.bool true,LM l _,fun _=>⟨List.Pairwise.nil,fun _ hm=>(nomatch hm)⟩⟩,h2,h3,h4⟩
section
variable {prog:Program} {w:World} {A:Around} {E:Value->Shared->Prop} {s:Shared} {K:Frag}
end
end Att
namespace L2
open PySem PySem.Spec PyProof.Rows
theorem DC:∀ {vs:List Value} {ns:List Int},IntsAre vs ns->Vals (ns.map V.int) vs
 | _,_,.nil=>.nil
 | _,_,.cons n t h=>.cons ⟨t,rfl⟩ (DC h)
def NK (H:Hp):Prop:=∀ b,H b=none\/∃ o xs,H b=some (.frz o (.lst xs))
theorem M0 {P:Program} {w:World} {K:PySem.W.Frag} {mg mb:Str->Option Value} {CX:CXT} {k:Nat} {fa a:Addr} {fd:FuncData} {x:Str} {sp:Sp} {s₁:Shared} {vs:List Value} {ns:List Int}
   (KX:K.In s₁.heap) (hns:s₁.heap.Ns mainGlobals mg) (hb:s₁.heap.Ns builtinsNs mb) (hbb:∀ x:Str,x≠"__name__"->mb x=bootBuiltins x) (hlim:s₁.heap.NoLimit) (hg:s₁.gens=#[])
   (ha:s₁.heap.get? a=some { cls:=.type "list",data:=.seq vs.toArray }) (hi:IntsAre vs ns) (hl:ns.length<=sizeLine) (hr:Room k callerA)
   (F:∀ base:Heap,K.In base->base.Ns mainGlobals mg->FnOk P w K mg base CX k fa fd [x] sp) (hbind:∀ (s:Shared) (u:Value),BindsTo s fd ⟨[u],[]⟩ [(x,u)])
   (hsp:∀ H:Hp,NK H->SqL K H a (ns.map V.int)->sp [.ref a] H (fun v _=>v=.bl true) fun _ _ _=>False)
   (hCX:∀ H e s',CX [] H s₁ (fun _ _ _=>False) e s'->False) :
   codeAny (model P w) callerA (.call (.ref fa) ⟨[.ref a],[]⟩) (fun r s'=>r=.ok (.ret (.bool true))/\OldK s₁.heap s'.heap/\s'.os=s₁.os/\AllBare s'.gens) s₁:=by
 have rv:=DC hi;have lenV:=hi.length;have core:∀ H:Hp,NK H->SqL K H a (ns.map V.int)->HOk P w H s₁.heap->(∀ b,H b≠none->b=a)->(H a≠none->K.lookup a=none) ->
     codeAny (model P w) callerA (.call (.ref fa) ⟨[.ref a],[]⟩) (fun r s'=>r=.ok (.ret (.bool true))/\OldK s₁.heap s'.heap/\s'.os=s₁.os/\AllBare s'.gens) s₁:=by
   intro H hO hS hok hA hK;have base_of:∀ {b:Addr} {o:Obj},s₁.heap.get? b=some o->H b=none->(vC s₁.heap H).get? b=some o:=fun e n=>Pm e n;have noA:∀ {b:Addr} {o:Obj} {es:Array DictEntry} {ep:Nat},s₁.heap.get? b=some o->o.data=.dict es ep->H b=none:=fun {b o es ep} e d=>by
     cases q:H b with
     | none=>rfl
     | some u =>
       have e':b=a:=hA b (by rw [q];simp);subst e';rw [ha] at e;cases e;have d':Data.seq vs.toArray _=Data.dict es ep:=d;cases d'
   have nsK:∀ {b:Addr} {m:Str->Option Value},s₁.heap.Ns b m->(vC s₁.heap H).Ns b m:=fun {b m} ⟨o,es,ep,e,d,r⟩=>⟨o,es,ep,base_of e (noA e d),d,r⟩;have hKb:K.In (vC s₁.heap H):=fun b o e=>base_of (KX b o e) (by
     cases q:H b with
     | none=>rfl
     | some u =>
       have e':b=a:=hA b (by rw [q];simp);subst e';rw [hK (by rw [q];simp)] at e;cases e)
   have hM:Mod K mg (vC s₁.heap H):=⟨hKb,nsK hns,⟨mb,nsK hb,hbb⟩,let ⟨mc,h1,h2⟩:=hlim;⟨mc,nsK h1,h2⟩⟩;have e0:Env0 P w K mg (vC s₁.heap H) callerA [] s₁ H:=⟨rfl,hM,fun b o e=>Sr e,Nat.le_of_eq (MC _ _),trivial,fun b hb=>absurd (show b∈([]:List Addr) from hb) (by simp),hok,.of_eq hg⟩;refine codeAny_mono ((F _ hKb (nsK hns)).run callerA [] s₁ H ⟨[.ref a],[]⟩ [.ref a] [.ref a] _ _ hr e0 (hbind s₁ (.ref a)) (.cons rfl .nil) (hsp H hO hS)) fun r s' h=>?_;cases r with
   | error e=>exact (hCX H e s' h).elim
   | ok fl =>
     cases fl with
     | next=>exact False.elim h
     | brk=>exact False.elim h
     | cont=>exact False.elim h
     | ret u =>
       obtain ⟨v,H',os,bare,un,hok',r',q⟩:=h;have q':v=.bl true:=q;subst q';obtain rfl:u=Value.bool true:=r';refine ⟨rfl,OldK.of_keep fun b o e=>?_,os,bare⟩;cases q:H b with
       | none=>exact un.keep b o e q (by intro z;exact absurd (show b∈([]:List Addr) from z) (by simp)) (by simp)
       | some u =>
         rcases hO b with z|⟨ob,xs,z⟩
         . rw [q] at z;cases z
         . have z2:=un.frzs b ob _ z;obtain ⟨e1,_⟩:=hok b _ z;obtain ⟨e2,_⟩:=hok' b _ z2;rw [e] at e1;cases e1;exact e2
 cases hk:K.lookup a with
 | some o =>
   have e:=KX a o hk;rw [ha] at e;cases e;refine core (fun _=>none) (fun _=>.inl rfl) (.inr ⟨_,vs.toArray,_,hk,rfl,rfl,rfl,by rw [List.size_toArray,lenV];exact hl,by simpa using rv⟩) (fun b u z=>by have z':(none:Option HO)=some u:=z;cases z') (fun b z=>absurd rfl z) fun z=>absurd rfl z
 | none =>
   refine core (fun b=>if b=a then some (.frz { cls:=.type "list",data:=.seq vs.toArray } (.lst (ns.map V.int))) else none) (fun b=>?_) (.inl (.inr ⟨{ cls:=.type "list",data:=.seq vs.toArray },if_pos rfl⟩)) (fun b u z=>?_) (fun b z=>?_) fun _=>hk
   . by_cases hb:b=a
     . exact .inr ⟨_,_,if_pos hb⟩
     . exact .inl (if_neg hb)
   . by_cases hb:b=a
     . have z':=(if_pos hb).symm.trans z;cases z';subst hb;exact ⟨ha,by rw [List.length_map];exact hl,vs,_,rv,ha⟩
     . have z':=(if_neg hb).symm.trans z;cases z'
   . by_cases hb:b=a
     . exact hb
     . exact absurd (if_neg hb) z
end L2
namespace L2
open PySem PySem.Spec PyProof.Rows
theorem walk_of {l:PySem.W.OpenLaw} {n k:Nat} {q:Program} {loose:List Str} {XP:(Str->Option Value)->Heap->Prop} {YP:World->Heap->Prop} {d:DefRec} {K:Params->PySem.W.Frag} {CX:World->CXT} {sp:World->Sp} {x:Str}
   (hn:l.most=some n) (hn2:n<=sizeLine) (hdf:d.params.defaults=[]) (hr:Room k callerA)
   (hY:∀ (w:World) (h:Heap),YP w h->(K w.params).In h)
   (F:∀ (w:World) (mg:Str->Option Value) (fa:Addr) (h:Heap),(K w.params).In h->h.Ns mainGlobals mg->mg d.name=some (.ref fa) ->
     ∃ fd:FuncData,(∀ (s:Shared) (u:Value),BindsTo s fd ⟨[u],[]⟩ [(x,u)]) /\
       ∀ base:Heap,(K w.params).In base->base.Ns mainGlobals mg->FnOk l.prog w (K w.params) mg base (CX w) k fa fd [x] (sp w))
   (hsp:∀ (w:World) (H:Hp) (a:Addr) (ns:List Int),ns.length<=n->NK H->SqL (K w.params) H a (ns.map V.int)->sp w [.ref a] H (fun v _=>v=.bl true) fun _ _ _=>False)
   (hCX:∀ (w:World) (H:Hp) (s:Shared) (e:Value) (s':Shared),CX w [] H s (fun _ _ _=>False) e s'->False) :
   PySem.W.WalkO q loose XP YP l.row.toRowW d [] (fun f vs=>PySem.call f vs):=by
 refine Att.attach_call hn hdf fun w s₀ s₁ mg mb fa o pm cd doc a vs ns G Y ho hd hcd hmg hobj hints hlen hg=>?_;have KX:=hY w _ Y;obtain ⟨fd,hb,hF⟩:=F w mg fa _ KX G.T.g hmg;exact M0 KX G.T.g G.T.b G.T.builtins G.T.nolimit hg hobj hints (Nat.le_trans hlen hn2) hr hF hb (fun H hO hS=>hsp w H a ns hlen hO hS) fun H e s'=>hCX w H s₁ e s'
end L2
namespace L2
open PySem PySem.Spec PyProof.Rows
def Jp (s:Stmt) (j:Nat):Stmt:=match s with
 | .ClassDef _ _ _ body _ _ _ _ _ _ _=>body.getD j (.Pass ⟨0,0,0,0⟩)
 | _=>.Pass ⟨0,0,0,0⟩
def aE (s:Stmt):Arguments:=match s with
 | .FunctionDef _ a _ _ _ _ _ _ _ _=>a
 | _=>{ posonlyargs:=[],args:=[],vararg:=none,kwonlyargs:=[],kw_defaults:=[],kwarg:=none,defaults:=[] }
def aD (s:Stmt):List Stmt:=match s with
 | .FunctionDef _ _ b _ _ _ _ _ _ _=>b
 | _=>[]
def aa (s:Stmt):Scope:=match s with
 | .FunctionDef _ _ _ _ _ _ sc _ _ _=>sc
 | _=>{ kind:=.function,names:=[],isGenerator:=false,isCoroutine:=false }
abbrev CX0:CXT:=fun _ _ _ _ _ _=>False
abbrev E0:XK:=fun _ _ _=>False
structure Fun (K:PySem.W.Frag) (x qual:Str) (st:Stmt) (f:Addr) (fd:FuncData):Prop where
 ex:∃ (oc:Value) (od:Option Addr) (kV doc pm:Value) (an:Option Addr) (cdv ct:Value) (osl:Array (Option Value)),
   fd=PySem.W.fnOf x qual (aE st) (aD st) (aa st) .none kV doc pm an cdv ct/\K.lookup f=some ⟨oc,od,.func fd,osl⟩/\PySem.W.codeIn K cdv qual=true
 kp:PySem.W.keepIn K (.ref f)=true
section
variable {P:Program} {w:World} {K:PySem.W.Frag} {mg:Str->Option Value} {base:Heap}
theorem Fun.binds {x qual:Str} {st:Stmt} {f:Addr} {fd:FuncData} {ps:List Str} (F:Fun K x qual st f fd)
   (h:∀ (kV doc pm:Value) (an:Option Addr) (cdv ct:Value) (us:List Value),us.length=ps.length->bindArgs (PySem.W.fnOf x qual (aE st) (aD st) (aa st) .none kV doc pm an cdv ct) ⟨us,[]⟩=pure (ps.zip us)):Binds K fd ps []:=by
 obtain ⟨oc,od,kV,doc,pm,an,cdv,ct,osl,rfl,lk,hcd⟩:=F.ex;exact .all (h kV doc pm an cdv ct)
theorem aM {x qual:Str} {st:Stmt} {f:Addr} {oc:Value} {od an:Option Addr} {osl:Array (Option Value)} {kV doc pm cdv ct:Value} (l:K.lookup f=some ⟨oc,od,.func (PySem.W.fnOf x qual (aE st) (aD st) (aa st) .none kV doc pm an cdv ct),osl⟩)
   (c:PySem.W.codeIn K cdv qual=true) (k:PySem.W.keepIn K (.ref f)=true):Fun K x qual st f (PySem.W.fnOf x qual (aE st) (aD st) (aa st) .none kV doc pm an cdv ct):=⟨⟨oc,od,kV,doc,pm,an,cdv,ct,osl,rfl,l,c⟩,k⟩
end
theorem Uq {A:Around} {k:Nat} (hr:Room k A):A.units+1<cLine:=Nat.lt_of_le_of_lt (Nat.add_le_add_left (by decide:1<=64) _) hr.units
section
variable {X:Cx}
theorem pv (i:Nat) {x:Str} {pos:Pos} (hN:X.N[i]?=some x:=by rfl) (hv:Vis X.env.scope x:=by first|exact Or.inl rfl|exact Or.inr (Or.inl rfl)|exact Or.inr (Or.inr rfl)) (hd:(x == ("__debug__":Str))=false:=by decide)
   (hcd:(x == ("__classdict__":Str))=false:=by decide):PE X (.Name x pos) (B5 i):=FE hN hv hd hcd
end
theorem UM {A B:Prop} (h:B):if false=true then A else B:=by
 rw [if_neg Bool.false_ne_true];exact h
theorem UO {A B:Prop} (h:A):if true=true then A else B:=by
 rw [if_pos rfl];exact h
def Same (H H':Hp):Prop:=∀ b o,H b=some o->H' b=some o
theorem Same.refl (H:Hp):Same H H:=fun _ _ h=>h
theorem Same.trans {H H1 H2:Hp} (a:Same H H1) (b:Same H1 H2):Same H H2:=fun c o h=>b c o (a c o h)
theorem Same.free {H H':Hp} (e:Same H H') {l:Addr} (h:H' l=Option.none):H l=Option.none:=by
 cases q:H l with
 | none=>rfl
 | some o =>
   rw [e l o q] at h;cases h
theorem Same.seq {K:PySem.W.Frag} {H H':Hp} {a:Addr} {xs:List V} (e:Same H H') (h:SqL K H a xs):SqL K H' a xs:=by
 rcases h with (h|⟨o,h⟩)|h
 . exact .inl (.inl (e _ _ h))
 . exact .inl (.inr ⟨o,e _ _ h⟩)
 . exact .inr h
end L2
namespace L2
open PySem PySem.Spec PyProof.Rows
section
variable {X:Cx}
theorem LX:ml X (.builtin "len") (fun xs H Q=>∃ a kvs,xs=[V.ref a]/\H a=some (.dK kvs)/\Q (.int kvs.length) H):=by
 intro pins s σ H xs us Q I r h;obtain ⟨a,kvs,rfl,ha,q⟩:=h;obtain ⟨u,rfl,ru⟩:=vN r;cases ru;exact Uj I (.inl ha) fun t s' I'=>⟨.int kvs.length,H,I',⟨t,rfl⟩,q⟩
end
section
variable {κ:Type} [DecidableEq κ]
end
end L2
set_option Elab.async false
set_option linter.all false
set_option maxRecDepth 100000
namespace L2
open PySem PySem.Spec PyProof.Rows
def Cx.comp (X:Cx) (Nc:List Str) (scope:Scope) (cl:List (Str × Addr)) (C:Addr) (s₂:Shared) (H₁:Hp) (fp:List Addr):Cx where
 prog:=X.prog
 w:=X.w
 K:=X.K
 mg:=X.mg
 base:=X.base
 A:=X.A
 N:=Nc
 s₀:=s₂
 H₀:=H₁
 env:=compEnvC scope cl C X.env
 outer:=X.stack
 stack:=X.stack
 ex:=fp
 fn:=fun _=>false
 calm:=X.calm
 pn:=[]
 xe:=fun _ _=>False
structure CompTxt (X:Cx) (Nc:List Str) (own:Nat) (js:List Nat) (scope:Scope) (cl:List (Str × Addr)):Prop where
 clos:closureFor scope X.env=pure cl
 kind:scope.kind=.function
 nocell:∀ y∈scope.names,y.2≠.cell
 names:∀ y∈scope.names,y.2=.local->scope.names.lookup y.1=some .local
 cells:∀ x c,cl.lookup x=some c->X.env.cells.lookup x=some c
 has:∀ x,((relabel scope X.env).names.lookup x=some .cell\/(relabel scope X.env).names.lookup x=some .free)->∃ c,cl.lookup x=some c
 len:Nc.length=own+js.length
 outer:∀ i x,Nc[own+i]?=some x->∃ j,js[i]?=some j/\X.N[j]?=some x/\X.env.scope.names.lookup x=some .cell/\(relabel scope X.env).names.lookup x=some .cell
def iH (own:Nat) (js:List Nat) (σ:St):St:=List.replicate own none++js.map fun j=>(σ[j]?).getD none
def K6 (own:Nat) (js:List Nat) (wi:TI) (g:TG) (tc:TT) (te:TE):TE:=fun σ H Q=>wi σ H fun J H1=>∀ p,H1 p=none ->
 ∃ W:Nat->Nat->List V->St->Hp->Prop,(∃ m,W 0 m [] (iH own js σ) (upd H1 p (.lst [])))/\∀ i m ys σc Hc,W i m ys σc Hc ->
   (J.stop i Hc/\Q (.ref p) Hc)\/(J.go i Hc/\∀ x H',J.yld i Hc x H'->g x σc H' fun σ2 H2=>tc σ2 H2 fun b H3 =>
     if b=true then te σ2 H3 fun y H4=>H4 p=some (.lst ys)/\ys.length<sizeLine/\∃ m',m'<m/\W (i+1) m' (ys++[y]) σ2 (upd H4 p (.lst (ys++[y])))
     else ∃ m',m'<m/\W (i+1) m' ys σ2 H3)
def PTs (X:Cx) (ifs:List Expr) (t:TT):Prop :=
 ∀ (pins:List (Addr × Obj)) (s:Shared) (σ:St) (H:Hp) (Q:Bool->Hp->Prop),Inv X pins σ H s->t σ H Q ->
   wpAny (model X.prog X.w) X.A (forIn ifs true fun c r=>if r=true then do let ok <- isTrue c X.env (eval c X.env);pure (ForInStep.yield ok) else pure (ForInStep.yield r)) (TP X pins σ Q) X.xe s
def tYes:TT:=fun _ H Q=>Q true H
theorem tQ {X:Cx}:PTs X [] tYes:=fun pins s σ H Q I h=>wpAny_tests_nil ⟨H,I,h⟩
theorem C8 {X:Cx} {c:Expr} {t:TT} (h:PT X c t):PTs X [c] t:=fun pins s σ H Q I q=>wpAny_tests_one (h pins s σ H Q I q)
section
variable {prog:Program} {w:World} {A:Around} {E:Value->Shared->Prop} {R:Result->Shared->Prop} {s:Shared}
theorem zv {elt target iter:Expr} {ifs:List Expr} {scope:Scope} {pos:Pos} {it acc:Value} {env:Env} (I:Nat->Shared->Prop)
   (turn:∀ n s,I n s->wpAny (model prog w) A (pyNext it) (fun r s₁=>match r with
     | none=>R (.ok .next) s₁
     | some v=>wpAny (model prog w) A (letOwnedTupleGo target it v) (fun _ s₁'=>wpAny (model prog w) A (assign target env v) (fun _ s₂ =>
         wpAny (model prog w) A (forIn ifs true fun c r=>if r=true then do let ok <- isTrue c env (eval c env);pure (ForInStep.yield ok) else pure (ForInStep.yield r)) (fun ok s₃ =>
           if ok=true then wpAny (model prog w) A (eval elt env) (fun x s₄ =>
             wpAny (model prog w) A (call (.builtin "list.append") [acc,x]) (fun _ s₅=>∃ m,m<n/\I m s₅) (fun _ _=>False) s₄) (fun _ _=>False) s₃
           else ∃ m,m<n/\I m s₃) (fun _ _=>False) s₂) (fun _ _=>False) s₁') (fun _ _=>False) s₁) (fun _ _=>False) s)
   (n:Nat) (h:I n s) :
   codeAny (model prog w) A (.compLoop (.ListComp elt [⟨target,iter,ifs,0⟩] scope pos) 0 it acc env) R s:=by
 refine codeAny_loop rfl I (fun n s hI=>?_) n h;show wpAny _ A ((compTurn (.ListComp elt [⟨target,iter,ifs,0⟩] scope pos) 0 it acc env).onRaise (fun x=>do noteFrame x env;theTreesLotGoes x)) _ _ s;refine wpAny_noted ?_;rw [compTurn_list];refine wpAny_bind (wpAny_standAt (wpAny_bind (wpAny_mono (turn n s hI) (fun r s₁ h₁=>?_) fun _ _ h'=>h'.elim)));cases r with
 | none=>exact wpAny_pure h₁
 | some v =>
   refine wpAny_bind (wpAny_mono h₁ (fun _ s₁' h₁'=>?_) fun _ _ h'=>h'.elim);refine wpAny_bind (wpAny_mono h₁' (fun _ s₂ h₂=>wpAny_bind (wpAny_mono h₂ (fun ok s₃ h₃=>?_) fun _ _ h'=>h'.elim)) fun _ _ h'=>h'.elim);cases ok with
   | true =>
     rw [if_pos rfl] at h₃;simp only [if_true];exact wpAny_bind (wpAny_bind (wpAny_mono h₃ (fun x s₄ h₄=>wpAny_bind (wpAny_mono h₄ (fun _ s₅ h₅=>wpAny_pure (wpAny_pure ⟨rfl,h₅⟩)) fun _ _ h'=>h'.elim)) fun _ _ h'=>h'.elim))
   | false =>
     rw [if_neg Bool.false_ne_true] at h₃;simp only [Bool.false_eq_true,if_false]
     first
       | exact wpAny_pure ⟨rfl,h₃⟩
       | exact wpAny_bind (wpAny_pure (wpAny_pure ⟨rfl,h₃⟩))
end
end L2
set_option Elab.async false
set_option linter.all false
set_option maxRecDepth 100000
namespace L2
open PySem PySem.Spec PyProof.Rows
section
variable {X:Cx} {Nc:List Str} {own:Nat} {js:List Nat} {scope:Scope} {cl:List (Str × Addr)}
theorem C9 {pins:List (Addr × Obj)} {σ:St} {H₁:Hp} {s₂:Shared} {C:Addr} {fp:List Addr} (T:CompTxt X Nc own js scope cl) (I:Inv X pins σ H₁ s₂) (hC:s₂.heap.objs.size<=C)
   (f1:∀ b∈fp,lp X pins H₁ b) (hlt:∀ b∈fp,b<s₂.heap.objs.size):(X.comp Nc scope cl C s₂ H₁ fp).Ok where
 mod:=I.ok.mod
 kind:=by show (relabel scope X.env).kind=_;exact T.kind
 glob:=I.ok.glob
 blt:=I.ok.blt
 above:=hC
 inj:=fun x y c h1 h2=>I.ok.inj x y c (T.cells x c h1) (T.cells y c h2)
 has:=fun x h=>T.has x h
 cab:=fun x c h=>by cases h
 hd:=I.ok.hd
 frames:=I.ok.frames
 stk:=.inl rfl
 exf:=fun b hb=>⟨Nat.ne_of_lt (Nat.lt_of_lt_of_le (hlt b hb) hC),fun x c h=>(f1 b hb).2.2.2.2.1 x c (T.cells x c h)⟩
 bs:=I.bs
 bsz:=Nat.le_trans I.ok.bsz I.sz
 noex:=fun b o e hb=>by
   rcases (f1 b hb).2.2.2.1 with z|z
   . exact I.ok.noex b o e z
   . exact absurd (Nat.lt_of_lt_of_le (Heap.lt_size (I.ok.bs b o e).1) z) (Nat.lt_irrefl _)
 exfs:=fun b hb hs=>by
   rcases List.mem_cons.mp (I.stkSub b hs) with z|z
   . exact (f1 b hb).2.1 z
   . exact (f1 b hb).2.2.1 z
 funs:=I.stack
 frf:=I.stkFree
theorem Gx {pins:List (Addr × Obj)} {σ:St} {H₁:Hp} {s₂:Shared} {C D:Addr} {fp:List Addr} {h₁:Heap} {t:Nat} {m:Str->Option Value} (T:CompTxt X Nc own js scope cl) (I:Inv X pins σ H₁ s₂) (hC:s₂.heap.objs.size<=C)
   (hD:s₂.heap.objs.size<=D) (hDC:D≠C) (f1:∀ b∈fp,lp X pins H₁ b) (hlt:∀ b∈fp,b<s₂.heap.objs.size) (old:∀ b o,s₂.heap.get? b=some o->h₁.get? b=some o) (hns:h₁.Ns C m)
   (hacc:∃ n,h₁.get? D=some { cls:=.type "list",data:=.seq ([]:List Value).toArray n }) :
   Inv (X.comp Nc scope cl C s₂ H₁ fp) [] (iH own js σ) (upd H₁ D (.lst [])) { s₂ with heap:=h₁,toks:=t }:=by
 obtain ⟨na,hacc⟩:=hacc;have cellK:∀ c v,s₂.heap.IsCell c v->h₁.IsCell c v:=fun c v ⟨o,ho,hd⟩=>⟨o,old c o ho,hd⟩;refine ⟨C9 T I hC f1 hlt,rfl,I.bare,Un.laid old hD (I.hok.fresh hD),⟨m,hns,fun i x v e1 e2 e3=>?_⟩,fun x c e=>?_,?_,fun x c e=>?_,fun p hp=>(by cases hp),I.hok.laid old hD ?_,?_⟩
 . have hN:Nc[i]?=some x:=e1;have hσ:(iH own js σ)[i]?=some (some v):=e2;unfold iH at hσ;by_cases hi:i<own
   . rw [List.getElem?_append_left (by simpa using hi),List.getElem?_replicate] at hσ;simp [hi] at hσ
   . obtain ⟨k,rfl⟩:∃ k,i=own+k:=⟨i - own,by omega⟩;rw [List.getElem?_append_right (by simp)] at hσ;simp only [List.length_replicate,Nat.add_sub_cancel_left,List.getElem?_map] at hσ;obtain ⟨j,hj,hx,hk,hr⟩:=T.outer k x hN;rw [hj] at hσ;replace hσ:some (σ[j]?.getD none)=some (some v):=hσ;have hσj:σ[j]?=some (some v):=by
       cases q:σ[j]? with
       | none=>rw [q] at hσ;simp at hσ
       | some y=>rw [q] at hσ;simpa using hσ
     obtain ⟨m0,hn0,hl0⟩:=I.loc;obtain ⟨u,ru,lk⟩:=hl0 j x v hx hσj (.inr (.inl hk));refine ⟨u,ru,.inr ⟨.inl hr,?_⟩⟩;rcases lk with ⟨z,_⟩|⟨_,c,hc,hcell⟩
     . have z':X.env.scope.names.lookup x=some .local:=z;rw [hk] at z';cases z'
     . obtain ⟨c',hc'⟩:=T.has x (.inl hr);have:=T.cells x c' hc';rw [hc] at this;cases this;exact ⟨c,hc',cellK c _ hcell⟩
 . obtain ⟨v,z⟩:=I.cell x c (T.cells x c e);exact ⟨v,cellK c v z⟩
 . show upd H₁ D (.lst []) C=none;rw [au (Ne.symm hDC)];exact I.hok.fresh hC
 . have e':=T.cells x c e;obtain ⟨v,o,ho,_⟩:=I.cell x c e';rw [au (Nat.ne_of_lt (Nat.lt_of_lt_of_le (Heap.lt_size ho) hD))];exact I.freeC x c e'
 . exact ⟨Nat.zero_le _,[],na,.nil,hacc⟩
 . show (iH own js σ).length=Nc.length;rw [T.len];simp [iH]
theorem DN {pins:List (Addr × Obj)} {σ σc:St} {H₁ H':Hp} {s₂ s':Shared} {C:Addr} {fp:List Addr} {h':Heap} (I:Inv X pins σ H₁ s₂) (hC:s₂.heap.objs.size<=C)
   (f1:∀ b∈fp,lp X pins H₁ b) (I':Inv (X.comp Nc scope cl C s₂ H₁ fp) [] σc H' s') (hs:Heap.SameBut C s'.heap h'):Inv X pins σ H' { s' with heap:=h' }:=by
 have u:Un (frs X.stack) fp H₁ H' s₂.heap s'.heap:=I'.base;have ne:∀ b o,s₂.heap.get? b=some o->b≠C:=fun b o e=>Nat.ne_of_lt (Nat.lt_of_lt_of_le (Heap.lt_size e) hC);have k:∀ b o,b≠C->s'.heap.get? b=some o->h'.get? b=some o:=fun b o n e=>hs.extBut b o n e;have u':Un (frs X.stack) fp H₁ H' s₂.heap h':=⟨fun b o e n hb hx=>k b o (ne b o e) (u.keep b o e n hb hx),fun b o e n hb hx=>let ⟨sl,q⟩:=u.slot b o e n hb hx;⟨sl,k b _ (ne b o e) q⟩,
   u.free,fun b o e hx=>let ⟨o',q⟩:=u.there b o e hx;⟨o',k b o' (ne b o e) q⟩,u.tups,u.frzs,u.tbls⟩
 have hfree:H' C=none:=I'.free;have hok':HOk X.prog X.w H' h':=fun a o e=>(I'.hok a o e).stay (fun b v hb q=>k b v (fun z=>by
   rcases hb with y|y
   . rw [y] at z;rw [z,hfree] at e;cases e
   . rw [z,hfree] at y;cases y) q) (fun _ q=>q) fun _ _ q=>q
 exact I.call' (s':={ s' with heap:=h' }) (ch:=fp) I'.os u' hok' I'.bare fun b hb=>⟨(f1 b hb).2.2.2.1,(f1 b hb).2.1,(f1 b hb).2.2.2.2.1,(f1 b hb).2.2.2.2.2⟩
theorem oZ {elt target iter:Expr} {ifs:List Expr} {pos:Pos} {wi:TI} {g:TG} {tc:TT} {te:TE} (hc:X.calm=true) (T:CompTxt X Nc own js scope cl)
   (hi:PI X target iter wi) (hg:∀ C s₂ H₁ fp,PG (X.comp Nc scope cl C s₂ H₁ fp) target g) (ht:∀ C s₂ H₁ fp,PTs (X.comp Nc scope cl C s₂ H₁ fp) ifs tc)
   (he:∀ C s₂ H₁ fp,PE (X.comp Nc scope cl C s₂ H₁ fp) elt te) (hs:∀ x,foldedSetIterable iter X.env x=pure x:=by intro _;rfl) :
   PE X (.ListComp elt [⟨target,iter,ifs,0⟩] scope pos) (K6 own js wi g tc te):=by
 intro pins s σ H Q I h;rw [eval_ListComp];refine wpAny_comprehension_free (use:=none) rfl hs T.clos T.kind T.names (thn (hi pins s σ H _ I h) fun v s1 h1=>thn h1 fun itv s2 h2=>?_);obtain ⟨it,fp,tn,J,H1,rfl,I1,Tn,st,f1,R⟩:=h2;have hfp:∀ b∈fp,b<s2.heap.objs.size:=fun b hb=>let ⟨o,e,_⟩:=Tn.obj _ _ st b hb;Heap.lt_size e;refine wpAny_newObj_type (wpAny_newFunctionEnv T.nocell (by intro y hy;simp at hy) (fun h₁ hns₁ hsb₁=>?_) T.kind);dsimp only at hns₁ hsb₁ ⊢;generalize hH2:s2.heap.push { cls:=.type "list",dict:=none,data:=.seq ([]:List Value).toArray }=H2 at hns₁ hsb₁ ⊢;have hC:H2.objs.size=s2.heap.objs.size+1:=by rw [<- hH2,Heap.size_push]
 have hDC:s2.heap.objs.size≠H2.objs.size:=by rw [hC];exact Nat.ne_of_lt (Nat.lt_succ_self _)
 have hCle:s2.heap.objs.size<=H2.objs.size:=by rw [hC];exact Nat.le_succ _
 have below:∀ b,b<s2.heap.objs.size->b≠H2.objs.size:=fun b hb=>by rw [hC];exact Nat.ne_of_lt (Nat.lt_succ_of_lt hb)
 have old:∀ b o,s2.heap.get? b=some o->h₁.get? b=some o:=fun b o e=>hsb₁.extBut b o (below b (Heap.lt_size e)) (Heap.get?_push_of_some _ (hH2 ▸ Heap.get?_push_of_some _ e));have hacc:∃ n,h₁.get? s2.heap.objs.size=some { cls:=.type "list",data:=.seq ([]:List Value).toArray n }:=⟨_,hsb₁.extBut _ _ hDC (Heap.get?_push_of_some _ (hH2 ▸ Heap.get?_push_size _ rfl))⟩;have st₁:tn 0 h₁:=Tn.keep _ _ _ st fun b _ o e=>old b o e;obtain ⟨W,⟨m0,w0⟩,turn⟩:=R s2.heap.objs.size I1.fresh;have Ic:=Gx (t:=s2.toks+([]:List (Str × Value)).length) T I1 hCle (Nat.le_refl _) hDC f1 hfp old hns₁ hacc;generalize hXc:X.comp Nc scope cl H2.objs.size s2 H1 fp=Xc at Ic;have stat:∀ {H':Hp},(∀ b∈fp,H' b=none)->∀ b∈fp,lp Xc [] H' b:=fun {H'} hn b hb=>by
   subst hXc;exact ⟨hn b hb,below b (hfp b hb),(C9 T I1 hCle f1 hfp).exfs b hb,.inl hb,fun x c e=>(f1 b hb).2.2.2.2.1 x c (T.cells x c e),fun p hp=>by cases hp⟩
 have fr0:∀ b∈fp,upd H1 s2.heap.objs.size (.lst []) b=none:=fun b hb=>by
   rw [au (Nat.ne_of_lt (hfp b hb))];exact (f1 b hb).1
 have calmc:Xc.calm=true:=by subst hXc;exact hc
 have loop:∀ s₃:Shared,s₃={ s2 with heap:=h₁,toks:=s2.toks+([]:List (Str × Value)).length } ->
     codeAny (model X.prog X.w) X.A (.compLoop (.ListComp elt [⟨target,iter,ifs,0⟩] scope pos) 0 (.ref it) (.ref s2.heap.objs.size) (compEnvC scope cl H2.objs.size X.env))
       (compPost (model X.prog X.w) X.A X.xe none (EP X pins σ Q) (.ref s2.heap.objs.size) H2.objs.size) s₃:=by
   rintro s₃ rfl;refine zv (fun n s'=>∃ i ys σ' H',Inv Xc [] σ' H' s'/\tn i s'.heap/\(∀ b∈fp,H' b=none)/\W i n ys σ' H') ?_ m0 ⟨0,[],_,_,Ic,st₁,fr0,w0⟩;rintro n s3 ⟨i,ys,σ3,H3,I3,st3,fr3,w3⟩;rcases turn i n ys σ3 H3 w3 with ⟨stop,q⟩|⟨go,step⟩
   . subst hXc;refine thn (Tn.done (X.comp Nc scope cl H2.objs.size s2 H1 fp) rfl rfl rfl hc i [] s3 σ3 H3 _ I3 (stat fr3) st3 stop) fun r s4 ⟨hr,I4⟩=>?_;subst hr;obtain ⟨m4,hn4,_⟩:=id I4.loc;exact ⟨m4,hn4,fun h' hs'=>⟨.ref s2.heap.objs.size,H3,DN I1 hCle f1 I4 hs',rfl,q⟩⟩
   . subst hXc;refine thn (Tn.item (X.comp Nc scope cl H2.objs.size s2 H1 fp) rfl rfl rfl hc i [] s3 σ3 H3 _ I3 (stat fr3) st3 go) fun r s4 ⟨u,hr,h4⟩=>?_;subst hr;refine thn h4 fun _ s5 ⟨x,H5,I5,r5,y5,st5,fr5⟩=>?_;have I5':=I5.pinned (stat fr5) (Tn.obj _ _ st5);have back:∀ {σ7:St} {H7:Hp} {s7:Shared},Inv (X.comp Nc scope cl H2.objs.size s2 H1 fp) ([]++sZ fp s5.heap) σ7 H7 s7->Inv (X.comp Nc scope cl H2.objs.size s2 H1 fp) [] σ7 H7 s7/\tn (i+1) s7.heap/\∀ b∈fp,H7 b=none:=fun {σ7 H7 s7} I7=>by
       refine ⟨I7.unpinned,Tn.keep _ _ _ st5 fun b hb o e=>(I7.pin (b,o) (List.mem_append_right _ (List.mem_append_right _ (ki hb e)))).1,fun b hb=>?_⟩;obtain ⟨o,e,d⟩:=Tn.obj _ _ st5 b hb;exact (I7.pin (b,o) (List.mem_append_right _ (List.mem_append_right _ (ki hb e)))).2.1
     refine thn (hg _ _ _ _ _ s5 σ3 H5 x u _ I5' r5 (step x H5 y5)) fun _ s6 ⟨σ6,H6,I6,q6⟩=>?_;refine Cs (ht _ _ _ _ _ s6 σ6 H6 _ I6 q6) fun ok s7 H7 I7 q7=>?_;cases ok with
     | false =>
       rw [if_neg Bool.false_ne_true] at q7 ⊢;obtain ⟨m',hm,w7⟩:=q7;obtain ⟨J1,J2,J3⟩:=back I7;exact ⟨m',hm,i+1,ys,σ6,H7,J1,J2,J3,w7⟩
     | true =>
       rw [if_pos rfl] at q7 ⊢;refine bG (he _ _ _ _ _ s7 σ6 H7 _ I7 q7) fun y s8 yv H8 I8 r8 ⟨hp8,hl8,m',hm,w8⟩=>?_;refine thn (ft _ s8 σ6 H8 (.ref s2.heap.objs.size) [yv] _ [y] (fun v' H'=>W (i+1) m' (ys++[yv]) σ6 H') I8 rfl (.cons r8 .nil) ⟨_,ys,yv,rfl,rfl,hp8,hl8,w8⟩) fun v9 s9 ⟨_,H9,I9,_,w9⟩=>?_;obtain ⟨J1,J2,J3⟩:=back I9;exact ⟨m',hm,i+1,ys++[yv],σ6,H9,J1,J2,J3,w9⟩
 exact codeAny_compStart_list (loop _ rfl) (Tn.self _ 0 _ _ _ st₁ (loop _ rfl))
end
end L2
set_option Elab.async false
set_option linter.all false
set_option maxRecDepth 100000
namespace L2
open PySem PySem.Spec PyProof.Rows
section
variable {X:Cx}
def rInsert:V->List V->Hp->VK->Prop:=fun x vs H Q=>∃ (l:Addr) (xs:List V) (i:Int) (y:V),x=.ref l/\vs=[.int i,y]/\H l=some (.lst xs)/\0<=i/\i<=xs.length/\xs.length<sizeLine/\Q .non (upd H l (.lst (xs.take i.toNat++y::xs.drop i.toNat)))
theorem LI:MtM X "list.insert" rInsert:=by
 intro pins s σ H x vs v us Q I rx rv h;obtain ⟨l,xs,i,y,rfl,rfl,hH,h0,hk,hz,q⟩:=h;cases rx;obtain ⟨u1,u2,rfl,⟨t,rfl⟩,ru⟩:=rv.two;obtain ⟨z,its,n,r,hl,e⟩:=I.lstM hH;have hn:=qh;have hf:Builtin.List.listFitsIndex i=true:=by
   unfold Builtin.List.listFitsIndex;rw [Bool.and_eq_true];exact ⟨decide_eq_true (by omega),decide_eq_true (by omega)⟩
 have hf':¬ (!Builtin.List.listFitsIndex i)=true:=by rw [hf];decide
 have hzz:its.toArray.size<=sizeLine:=by rw [List.size_toArray,<- hl];exact z
 refine call_meets PySem.F.slot_list_insert ⟨_,e,rfl⟩ PySem.F.entry_list_insert (PySem.F.args_list_insert_3 _ _ _) (PySem.AutoSeq1.list_insert_list_int_val_1 l its.toArray n i t u2 hf' hzz) ⟨e,?_⟩;refine ⟨.non,_,I.lset (its':=its.take i.toNat++u2::its.drop i.toNat) hH e ?_ ((r.take i.toNat).append (.cons ru (r.drop i.toNat))) ?_,rfl,q⟩
 . show (its.toArray.extract 0 (if i<0 then (i+(its.toArray.size:Int)).toNat else min i.toNat its.toArray.size)).push u2++its.toArray.extract (if i<0 then (i+(its.toArray.size:Int)).toNat else min i.toNat its.toArray.size)=_;have e0:(if i<0 then (i+(its.toArray.size:Int)).toNat else min i.toNat its.toArray.size)=i.toNat:=by
     rw [if_neg (by omega),List.size_toArray];omega
   rw [e0];exact PySem.W.kl_ins_eq its i.toNat u2
 . rw [List.length_append,List.length_cons,List.length_take,List.length_drop];omega
theorem RK:OpR X (binaryOp .Mult) (rI (fun i j=>IntMulOk i j) fun i j=>.int (i*j)):=opI fun i j t u s Q E h q=>PyProof.Rows.mul_int q h
theorem NL (hc:X.calm=true):ml X (.builtin "all") (fun xs H Q=>∃ (p:Addr) (bs:List Bool),xs=[.ref p]/\SqL X.K H p (bs.map V.bl)/\Q (.bl (bs.all id)) H):=by
 intro pins s σ H xs us Q I r h;obtain ⟨p,bs,rfl,hp,q⟩:=h;obtain ⟨u,rfl,ru⟩:=vN r;cases ru;obtain ⟨its,rv,pl,hz⟩:=I.list hp;have hl:=pl.isList;have hlt:=pl.lt;have hh:X.A.in1.handled=none:=I.ok.hd hc;have hlen:its.length=bs.length:=by rw [<- rv.length,List.length_map]
 refine call_all_walk (wpAny_pyIter_list hl ?_);refine ⟨s.heap.objs.size,[s.heap.objs.size,p],[s.heap.objs.size],its.toArray.size,_,_,fun i=>(bs[i]?).getD true,rfl,Walks.list (A:=X.A.in1) hh _ p (Nat.ne_of_lt hlt) its.toArray,
   ⟨⟨_,Heap.get?_push_size _ rfl,rfl,rfl⟩,hl.push _⟩,fun i v s' Q' E' hP hQ=>?_,fun h' tk hk=>?_⟩
 . have hi:its[i]?=some v:=by simpa using hP
   have hib:i<bs.length:=by rw [<- hlen];exact (List.getElem?_eq_some_iff.mp hi).1
   obtain ⟨u,hu,ru⟩:=rv.get (i:=i) (x:=V.bl bs[i]) (by rw [List.getElem?_map,List.getElem?_eq_getElem hib];rfl);rw [hi] at hu;cases hu;cases ru;replace hQ:Q' (bs[i]?.getD true) s':=hQ;rw [List.getElem?_eq_getElem hib] at hQ;exact wpAny_truthy_bool hQ
 . have e:((List.range its.toArray.size).all fun i=>(bs[i]?).getD true)=bs.all id:=by
     rw [List.size_toArray,hlen];rw [Bool.eq_iff_iff,List.all_eq_true,List.all_eq_true]
     constructor
     . intro z b hb;obtain ⟨i,hi,rfl⟩:=List.getElem_of_mem hb;have:=z i (List.mem_range.mpr hi);rw [List.getElem?_eq_getElem hi] at this;exact this
     . intro z i hi;have hi':=List.mem_range.mp hi;rw [List.getElem?_eq_getElem hi'];exact z _ (List.getElem_mem hi')
   have kk:∀ b o,s.heap.get? b=some o->h'.get? b=some o:=fun b o eb=>hk b o (fun hm=>by rw [List.mem_singleton.mp hm] at eb;exact Nat.lt_irrefl _ (Heap.lt_size eb)) (Heap.get?_push_of_some _ eb);rw [e];exact ⟨.bl _,H,I.kept (t':=tk) kk,rfl,q⟩
end
section
variable {X:Cx}
end
end L2
set_option Elab.async false
set_option linter.all false
set_option maxRecDepth 100000
namespace L2
open PySem PySem.Spec PyProof.Rows
structure SubF (P:Program) (w:World) (l:Addr) (ob:Obj) (src:Heap->Array Value->Prop) (at':Addr->Nat->Heap->Prop):Prop where
 start:∀ (A:Around) (s:Shared) (vs:Array Value) (Q:Value->Shared->Prop) (E:Value->Shared->Prop),src s.heap vs->Q (.ref s.heap.objs.size) { s with heap:=s.heap.push ob }->wpAny (model P w) A (pyIter (.ref l)) Q E s
 first:∀ it h,h.get? it=some ob->at' it 0 h
 atK:∀ it i h h',at' it i h->(∀ o,h.get? it=some o->h'.get? it=some o)->at' it i h'
 srcK:∀ h h' vs,src h vs->(∀ o,h.get? l=some o->h'.get? l=some o)->src h' vs
 obj:∀ it i h,at' it i h->∃ o,h.get? it=some o/\∀ v,o.data≠.cell v
 item:∀ (A:Around) (s:Shared) (it:Addr) (i:Nat) (vs:Array Value) (x:Value) (Q:Value->Shared->Prop) (E:Value->Shared->Prop),at' it i s.heap->src s.heap vs->vs[i]?=some x ->
   (∀ h',at' it (i+1) h'->Heap.SameBut it s.heap h'->Q x { s with heap:=h' })->wpAny (model P w) A (Builtin.SmallTypes.nextOf (.ref it)) Q E s
 fin:∀ (A:Around) (s:Shared) (it:Addr) (i:Nat) (vs:Array Value) (Q:Value->Shared->Prop) (E:Value->Shared->Prop),A.handled=none->at' it i s.heap->src s.heap vs->vs[i]?=none ->
   (∀ h' e,Heap.ExtBut it s.heap h'->(∃ o,h'.get? e=some o/\o.cls=.type "StopIteration")->E (.ref e) { s with heap:=h' })->wpAny (model P w) A (Builtin.SmallTypes.nextOf (.ref it)) Q E s
theorem Lr {P:Program} {w:World} (l:Addr):SubF P w l { cls:=.type "list_iterator",data:=.fields #[.ref l,.int 0 0] } (fun h vs=>h.IsList l vs) (fun it i h=>h.IsListIter it l i) where
 start:=fun A s vs Q E hl hq=>wpAny_pyIter_list hl hq
 first:=fun it h e=>⟨_,e,rfl,rfl⟩
 atK:=fun it i h h' x k=>x.at k
 srcK:=fun h h' vs x k=>x.at k
 obj:=fun it i h x=>by
   obtain ⟨o,ho,_,hd⟩:=x;exact ⟨o,ho,fun v z=>by rw [hd] at z;cases z⟩
 item:=fun A s it i vs x Q E ha hs hx hq=>wpAny_nextOf_list_item ha hs hx hq
 fin:=fun A s it i vs Q E hh ha hs hx hq=>wpAny_nextOf_list_end hh ha hs hx hq
section
variable {P:Program} {w:World} {A:Around} {E:Value->Shared->Prop} {s:Shared}
theorem zm {it t:Addr} {i:Nat} {vs:Array Value} {x:Value} {Q:Value->Shared->Prop} (hi:s.heap.IsTupleIter it t i) (ht:s.heap.IsTuple t vs) (hx:vs[i]?=some x)
   (hq:∀ h',h'.IsTupleIter it t (i+1)->Heap.SameBut it s.heap h'->Q x { s with heap:=h' }):wpAny (model P w) A (Builtin.SmallTypes.nextOf (.ref it)) Q E s:=by
 obtain ⟨oi,hoi,hci,hdi⟩:=id hi;obtain ⟨ot,hot,_,nt,hdt⟩:=ht;unfold Builtin.SmallTypes.nextOf;refine wpAny_bind (wpAny_callSpecial?_slot (name:=Str.ofString "__next__") hi.typeIs F.slot_tuple_iterator_next (wpAny_call_entry F.slot_tuple_iterator_next hi.typeIs F.entry_tuple_iterator_next ?_ (F.args_tuple_iterator_next_1 _)));show wpAny (model P w) _ (field (.ref it) 0 >>= _) _ _ s;refine wpAny_bind (wpAny_field hoi hdi (x:=.ref t) rfl ?_);show wpAny (model P w) _ (if (Value.ref t == Value.none)=true then _ else _) _ _ s;rw [if_neg (by exact Bool.false_ne_true)];show wpAny (model P w) _ (field (.ref it) 1 >>= _) _ _ s;refine wpAny_bind (wpAny_field hoi hdi (x:=.int i 0) rfl ?_);show wpAny (model P w) _ (seqItems? (.ref t) >>= _) _ _ s;refine wpAny_bind (wpAny_seqItems hot hdt ?_);simp only [Int.toNat_natCast,hx];refine wpAny_bind (wpAny_setField hoi hdi (by simp) (wpAny_pure ⟨x,rfl,wpAny_pure (hq _ ?_ (Heap.SameBut.update ..))⟩));exact ⟨_,Heap.get?_update_self _ hoi (Obj.isFreed_of_fields (Obj.data_mapFields hdi _)),(Obj.cls_mapFields ..).trans hci,by rw [Obj.data_mapFields hdi];simp [rawInt]⟩
theorem AM {it t:Addr} {i:Nat} {vs:Array Value} {Q:Value->Shared->Prop} (hh:A.handled=none) (hi:s.heap.IsTupleIter it t i) (ht:s.heap.IsTuple t vs) (hx:vs[i]?=none)
   (hE:∀ h' e,Heap.ExtBut it s.heap h'->(∃ o,h'.get? e=some o/\o.cls=.type "StopIteration")->E (.ref e) { s with heap:=h' }):wpAny (model P w) A (Builtin.SmallTypes.nextOf (.ref it)) Q E s:=by
 obtain ⟨oi,hoi,hci,hdi⟩:=id hi;obtain ⟨ot,hot,_,nt,hdt⟩:=ht;unfold Builtin.SmallTypes.nextOf;refine wpAny_bind (wpAny_callSpecial?_slot (name:=Str.ofString "__next__") hi.typeIs F.slot_tuple_iterator_next (wpAny_call_entry F.slot_tuple_iterator_next hi.typeIs F.entry_tuple_iterator_next ?_ (F.args_tuple_iterator_next_1 _)));show wpAny (model P w) _ (field (.ref it) 0 >>= _) _ _ s;refine wpAny_bind (wpAny_field hoi hdi (x:=.ref t) rfl ?_);show wpAny (model P w) _ (if (Value.ref t == Value.none)=true then _ else _) _ _ s;rw [if_neg (by exact Bool.false_ne_true)];show wpAny (model P w) _ (field (.ref it) 1 >>= _) _ _ s;refine wpAny_bind (wpAny_field hoi hdi (x:=.int i 0) rfl ?_);show wpAny (model P w) _ (seqItems? (.ref t) >>= _) _ _ s;refine wpAny_bind (wpAny_seqItems hot hdt ?_);simp only [Int.toNat_natCast,hx];refine wpAny_bind (wpAny_rule (wpAny_bind (wpAny_setField hoi hdi (by simp) ?_)));show wpAny (model P w) _ (newExc (.type "StopIteration") [] >>= _) _ _ _;refine wpAny_bind ?_;simp only [newExc,newTuple];refine wpAny_bind (wpAny_newObj_type ?_ (by size_fits));refine wpAny_bind (m:=firstArgMember _ _) (wpAny_of_eq (a:=Value.none) (by first|rfl|(simp only [firstArgMember];rfl)) ?_);refine wpAny_newObj_type ?_ (by size_fits);simp only [raiseNew];refine wpAny_bind (wpAny_handled ?_)
 first|rw [show A.in1.handled=none from hh]|rw [hh]
 refine wpAny_bind (wpAny_pure (wpAny_throw ?_));exact hE _ _ (((Heap.SameBut.update ..).extBut.push _).push _) ⟨_,Heap.get?_push_size _ rfl,rfl⟩
end
theorem Ob {P:Program} {w:World} (l:Addr):SubF P w l { cls:=.type "tuple_iterator",data:=.fields #[.ref l,.int 0 0] } (fun h vs=>h.IsTuple l vs) (fun it i h=>h.IsTupleIter it l i) where
 start:=fun A s vs Q E hl hq=>wpAny_pyIter_tuple hl hq
 first:=fun it h e=>⟨_,e,rfl,rfl⟩
 atK:=fun it i h h' x k=>let ⟨o,ho,r⟩:=x;⟨o,k o ho,r⟩
 srcK:=fun h h' vs x k=>let ⟨o,ho,r⟩:=x;⟨o,k o ho,r⟩
 obj:=fun it i h x=>by
   obtain ⟨o,ho,_,hd⟩:=x;exact ⟨o,ho,fun v z=>by rw [hd] at z;cases z⟩
 item:=fun A s it i vs x Q E ha hs hx hq=>zm ha hs hx hq
 fin:=fun A s it i vs Q E hh ha hs hx hq=>AM hh ha hs hx hq
end L2
set_option Elab.async false
set_option linter.all false
set_option maxRecDepth 100000
namespace L2
open PySem PySem.Spec PyProof.Rows
structure ZAp (z TI TO i1 i2 l1 l2:Addr):Prop where
 a1:TI≠z
 a2:TO≠z
 a3:i1≠z
 a4:i2≠z
 a5:TI≠TO
 a6:TI≠i1
 a7:TI≠i2
 a8:TO≠i1
 a9:TO≠i2
 a0:i1≠i2
 b1:l1≠z/\l1≠TO/\l1≠i1/\l1≠i2
 b2:l2≠z/\l2≠TO/\l2≠i1/\l2≠i2
section
variable {P:Program} {w:World} {A:Around} {E:Value->Shared->Prop} {s:Shared} {l1 l2:Addr} {ob1 ob2:Obj} {src1 src2:Heap->Array Value->Prop} {at1 at2:Addr->Nat->Heap->Prop}
theorem Hf (S1:SubF P w l1 ob1 src1 at1) (S2:SubF P w l2 ob2 src2 at2) {z TI TO i1 i2:Addr} {k1 k2:Nat} {xs ys:Array Value} {x y a b:Value} {Q:Value->Shared->Prop} (D:ZAp z TI TO i1 i2 l1 l2)
   (Hz:IsZip s.heap z TI TO .none) (HI:IsPair s.heap TI (.ref i1) (.ref i2)) (HO':IsPair s.heap TO a b) (p1:at1 i1 k1 s.heap) (p2:at2 i2 k2 s.heap) (q1:src1 s.heap xs) (q2:src2 s.heap ys) (hx:xs[k1]?=some x) (hy:ys[k2]?=some y)
   (hQ:∀ h',IsZip h' z TI TO (rawInt s.heap.objs.size)->IsPair h' TO x y->at1 i1 (k1+1) h'->at2 i2 (k2+1) h'->IsPair h' s.heap.objs.size x y->h'.objs.size=s.heap.objs.size+1 ->
     (∀ c o,c≠z->c≠TO->c≠i1->c≠i2->s.heap.get? c=some o->h'.get? c=some o)->Q (.ref s.heap.objs.size) { s with heap:=h' }) :
   wpAny (model P w) A (Builtin.«zip.__next__» ⟨[.ref z],[]⟩) (fun fn s'=>∃ v,fn=.done (.ret v)/\Q v s') E s:=by
 show wpAny (model P w) _ (field (.ref z) 2 >>= _) _ _ _;refine wpAny_bind (wpAny_field Hz rfl (x:=.bool false) rfl ?_);show wpAny (model P w) _ (field (.ref z) 3 >>= _) _ _ _;refine wpAny_bind (wpAny_field Hz rfl (x:=.ref TI) rfl ?_);refine wpAny_bind (wpAny_seqItems HI rfl ?_);show wpAny (model P w) _ (Builtin.SmallTypes.ownedTupleIsFree (.ref z) >>= _) _ _ _;refine wpAny_bind ?_;unfold Builtin.SmallTypes.ownedTupleIsFree;refine wpAny_bind (wpAny_field Hz rfl (x:=.none) rfl (wpAny_pure ?_));simp only [if_true];refine wpAny_bind (wpAny_rule ?_);refine wpAny_bind (wpAny_field Hz rfl (x:=.ref TO) rfl ?_);refine wpAny_bind (wpAny_setField_rec Hz (by simp) fun g1 z1 e1=>?_);replace z1:IsZip g1 z TI TO .ellipsis:=z1;refine wpAny_bind ?_;simp only [List.zipIdx_cons,List.zipIdx_nil,List.forIn_cons,List.forIn_nil];refine wpAny_bind (wpAny_bind (wpAny_onRaise ?_));show wpAny (model P w) _ (Builtin.SmallTypes.nextOf (.ref i1) >>= _) _ _ _;refine wpAny_bind (S1.item _ { s with heap:=g1 } i1 k1 xs x _ _ (S1.atK _ _ _ _ p1 fun o e=>e1.extBut _ _ D.a3 e) (S1.srcK _ _ _ q1 fun o e=>e1.extBut _ _ D.b1.1 e) hx fun g2 p1b e2=>wpAny_pure ?_);have o2:IsPair g2 TO a b:=e2.extBut _ _ D.a8 (e1.extBut _ _ D.a2 HO');refine wpAny_bind (wpAny_seqItems o2 rfl ?_);refine wpAny_bind (wpAny_updateSeq_pair o2 fun g3 o3 e3=>?_);replace o3:IsPair g3 TO x b:=o3;refine wpAny_bind (wpAny_letGo (wpAny_pure ?_));refine wpAny_bind (wpAny_bind (wpAny_onRaise ?_));show wpAny (model P w) _ (Builtin.SmallTypes.nextOf (.ref i2) >>= _) _ _ _;refine wpAny_bind (S2.item _ { s with heap:=g3 } i2 k2 ys y _ _ (S2.atK _ _ _ _ p2 fun o e=>e3.extBut _ _ D.a9.symm (e2.extBut _ _ D.a0.symm (e1.extBut _ _ D.a4 e))) (S2.srcK _ _ _ q2 fun o e=>e3.extBut _ _ D.b2.2.1 (e2.extBut _ _ D.b2.2.2.1 (e1.extBut _ _ D.b2.1 e))) hy fun g4 p2b e4=>wpAny_pure ?_);have o4:IsPair g4 TO x b:=e4.extBut _ _ D.a9 o3;refine wpAny_bind (wpAny_seqItems o4 rfl ?_);refine wpAny_bind (wpAny_updateSeq_pair o4 fun g5 o5 e5=>?_);replace o5:IsPair g5 TO x y:=o5;refine wpAny_bind (wpAny_letGo (wpAny_pure (wpAny_pure ?_)));refine wpAny_bind (wpAny_seqItems o5 rfl ?_);refine wpAny_bind (wpAny_newTuple ?_);have sz:g5.objs.size=s.heap.objs.size:=by rw [e5.1,e4.1,e3.1,e2.1,e1.1]
 have z5:IsZip g5 z TI TO .ellipsis:=e5.extBut _ _ D.a2.symm (e4.extBut _ _ D.a4.symm (e3.extBut _ _ D.a2.symm (e2.extBut _ _ D.a3.symm z1)));have k5:∀ c o,c≠z->c≠TO->c≠i1->c≠i2->s.heap.get? c=some o->g5.get? c=some o:=fun c o c1 c2 c3 c4 e =>
   e5.extBut _ _ c2 (e4.extBut _ _ c4 (e3.extBut _ _ c2 (e2.extBut _ _ c3 (e1.extBut _ _ c1 e))))
 have p15:at1 i1 (k1+1) g5:=S1.atK _ _ _ _ p1b fun o e=>e5.extBut _ _ D.a8.symm (e4.extBut _ _ D.a0 (e3.extBut _ _ D.a8.symm e));have p25:at2 i2 (k2+1) g5:=S2.atK _ _ _ _ p2b fun o e=>e5.extBut _ _ D.a9.symm e;have zlt:z<g5.objs.size:=Heap.lt_size z5;show wpAny (model P w) _ (Builtin.SmallTypes.ownedTupleHandOut (.ref z) (.ref g5.objs.size) >>= _) _ _ _;refine wpAny_bind ?_;unfold Builtin.SmallTypes.ownedTupleHandOut;have z6:IsZip (g5.push { cls:=.type "tuple",data:=.seq #[x,y] }) z TI TO .ellipsis:=Heap.get?_push_of_some _ z5;refine wpAny_bind (wpAny_setField_rec z6 (by simp) fun g7 z7 e7=>?_);replace z7:IsZip g7 z TI TO (rawInt g5.objs.size):=z7;refine wpAny_setField_rec z7 (by simp) fun g8 z8 e8=>?_;replace z8:IsZip g8 z TI TO (rawInt g5.objs.size):=z8;have up:∀ c o,c≠z->g5.get? c=some o->g8.get? c=some o:=fun c o c1 e=>e8.extBut _ _ c1 (e7.extBut _ _ c1 (Heap.get?_push_of_some _ e));have t8:IsPair g8 g5.objs.size x y:=e8.extBut _ _ (Nat.ne_of_gt zlt) (e7.extBut _ _ (Nat.ne_of_gt zlt) (Heap.get?_push_size _ rfl));have s8:g8.objs.size=g5.objs.size+1:=by rw [e8.1,e7.1,Heap.size_push]
 rw [sz] at z8 t8 s8;refine wpAny_pure ⟨_,rfl,?_⟩;show Q (.ref g5.objs.size) _;rw [sz];exact hQ g8 z8 (up _ _ D.a2 o5) (S1.atK _ _ _ _ p15 fun o e=>up _ o D.a3 e) (S2.atK _ _ _ _ p25 fun o e=>up _ o D.a4 e) t8 s8 fun c o c1 c2 c3 c4 e=>up c o c1 (k5 c o c1 c2 c3 c4 e)
theorem HS (S1:SubF P w l1 ob1 src1 at1) (S2:SubF P w l2 ob2 src2 at2) {z TI TO i1 i2:Addr} {k1 k2:Nat} {xs ys:Array Value} {a b:Value} {Q:Fin->Shared->Prop} (hh:A.handled=none) (D:ZAp z TI TO i1 i2 l1 l2)
   (Hz:IsZip s.heap z TI TO .none) (HI:IsPair s.heap TI (.ref i1) (.ref i2)) (HO':IsPair s.heap TO a b) (p1:at1 i1 k1 s.heap) (p2:at2 i2 k2 s.heap) (q1:src1 s.heap xs) (q2:src2 s.heap ys) (hend:xs[k1]?=none\/ys[k2]?=none)
   (hE:∀ h' e,(∀ c o,c≠z->c≠TO->c≠i1->c≠i2->s.heap.get? c=some o->h'.get? c=some o)->(∃ o,h'.get? e=some o/\o.cls=.type "StopIteration")->E (.ref e) { s with heap:=h' }) :
   wpAny (model P w) A (Builtin.«zip.__next__» ⟨[.ref z],[]⟩) Q E s:=by
 show wpAny (model P w) _ (field (.ref z) 2 >>= _) _ _ _;refine wpAny_bind (wpAny_field Hz rfl (x:=.bool false) rfl ?_);show wpAny (model P w) _ (field (.ref z) 3 >>= _) _ _ _;refine wpAny_bind (wpAny_field Hz rfl (x:=.ref TI) rfl ?_);refine wpAny_bind (wpAny_seqItems HI rfl ?_);show wpAny (model P w) _ (Builtin.SmallTypes.ownedTupleIsFree (.ref z) >>= _) _ _ _;refine wpAny_bind ?_;unfold Builtin.SmallTypes.ownedTupleIsFree;refine wpAny_bind (wpAny_field Hz rfl (x:=.none) rfl (wpAny_pure ?_));simp only [if_true];refine wpAny_bind (wpAny_rule ?_);refine wpAny_bind (wpAny_field Hz rfl (x:=.ref TO) rfl ?_);refine wpAny_bind (wpAny_setField_rec Hz (by simp) fun g1 z1 e1=>?_);replace z1:IsZip g1 z TI TO .ellipsis:=z1;refine wpAny_bind ?_;simp only [List.zipIdx_cons,List.zipIdx_nil,List.forIn_cons,List.forIn_nil];refine wpAny_bind (wpAny_bind (wpAny_onRaise ?_));show wpAny (model P w) _ (Builtin.SmallTypes.nextOf (.ref i1) >>= _) _ _ _;have p1a:at1 i1 k1 g1:=S1.atK _ _ _ _ p1 fun o e=>e1.extBut _ _ D.a3 e;have q1a:src1 g1 xs:=S1.srcK _ _ _ q1 fun o e=>e1.extBut _ _ D.b1.1 e;cases hx:xs[k1]? with
 | none =>
   refine wpAny_bind (S1.fin _ { s with heap:=g1 } i1 k1 xs _ _ hh p1a q1a hx fun g2 e e2 he=>?_);obtain ⟨oe,hoe,hce⟩:=he;have z2:IsZip g2 z TI TO .ellipsis:=e2 _ _ D.a3.symm z1;have ez:e≠z:=fun t=>by subst t;rw [z2] at hoe;cases hoe;simp at hce
   refine wpAny_setField_rec z2 (by simp) fun g3 _ e3=>hE g3 e (fun c o c1 _ c3 _ t=>e3.extBut _ _ c1 (e2 _ _ c3 (e1.extBut _ _ c1 t))) ⟨oe,e3.extBut _ _ ez hoe,hce⟩
 | some x =>
   have hy:ys[k2]?=none:=by
     rcases hend with h|h
     . rw [hx] at h;cases h
     . exact h
   refine wpAny_bind (S1.item _ { s with heap:=g1 } i1 k1 xs x _ _ p1a q1a hx fun g2 p1b e2=>wpAny_pure ?_);have o2:IsPair g2 TO a b:=e2.extBut _ _ D.a8 (e1.extBut _ _ D.a2 HO');refine wpAny_bind (wpAny_seqItems o2 rfl ?_);refine wpAny_bind (wpAny_updateSeq_pair o2 fun g3 o3 e3=>?_);refine wpAny_bind (wpAny_letGo (wpAny_pure ?_));refine wpAny_bind (wpAny_bind (wpAny_onRaise ?_));show wpAny (model P w) _ (Builtin.SmallTypes.nextOf (.ref i2) >>= _) _ _ _;refine wpAny_bind (S2.fin _ { s with heap:=g3 } i2 k2 ys _ _ hh (S2.atK _ _ _ _ p2 fun o e=>e3.extBut _ _ D.a9.symm (e2.extBut _ _ D.a0.symm (e1.extBut _ _ D.a4 e))) (S2.srcK _ _ _ q2 fun o e=>e3.extBut _ _ D.b2.2.1 (e2.extBut _ _ D.b2.2.2.1 (e1.extBut _ _ D.b2.1 e))) hy fun g4 e e4 he=>?_);obtain ⟨oe,hoe,hce⟩:=he;have z4:IsZip g4 z TI TO .ellipsis:=e4 _ _ D.a4.symm (e3.extBut _ _ D.a2.symm (e2.extBut _ _ D.a3.symm z1));have ez:e≠z:=fun t=>by subst t;rw [z4] at hoe;cases hoe;simp at hce
   refine wpAny_setField_rec z4 (by simp) fun g5 _ e5=>hE g5 e (fun c o c1 c2 c3 c4 t=>e5.extBut _ _ c1 (e4 _ _ c4 (e3.extBut _ _ c2 (e2.extBut _ _ c3 (e1.extBut _ _ c1 t))))) ⟨oe,e5.extBut _ _ ez hoe,hce⟩
abbrev zp1 (h:Heap) (ob1 ob2:Obj):Heap:=(h.push ob1).push ob2
abbrev zp2 (h:Heap) (ob1 ob2:Obj):Heap:=(zp1 h ob1 ob2).push { cls:=.type "tuple",data:=.seq #[.ref h.objs.size,.ref (h.push ob1).objs.size] }
abbrev zp3 (h:Heap) (ob1 ob2:Obj):Heap:=(zp2 h ob1 ob2).push { cls:=.type "tuple",data:=.seq #[.none,.none] }
abbrev zp4 (h:Heap) (ob1 ob2:Obj):Heap:=(zp3 h ob1 ob2).push { cls:=.type "zip",data:=.fields #[.none,.bool false,.bool false,.ref (zp1 h ob1 ob2).objs.size,.ref (zp2 h ob1 ob2).objs.size] }
theorem Em (S1:∀ P w,SubF P w l1 ob1 src1 at1) (S2:∀ P w,SubF P w l2 ob2 src2 at2) (ne:∀ h vs,src2 h vs->∃ o,h.get? l2=some o) (xs ys:Array Value) :
   Meets (Builtin.«zip.__new__» ⟨[.type "zip",.ref l1,.ref l2],[]⟩) (fun _ R s=>src1 s.heap xs/\src2 s.heap ys/\R (.ok (.ret (.ref (zp3 s.heap ob1 ob2).objs.size))) { s with heap:=zp4 s.heap ob1 ob2 }) :=
 .of_wp fun prog w A R s hyp=>by
   obtain ⟨hp,g,d,tk,os⟩:=s;obtain ⟨q1,q2,r⟩:=hyp;have zsub:=sub_zip;have B1:src1 (Shared.heap ⟨hp,g,d,tk,os⟩) xs:=q1;have B2:src2 (Shared.heap ⟨hp.push ob1,g,d,tk,os⟩) ys:=(S2 prog w).srcK _ _ _ q2 fun o e=>Heap.get?_push_of_some _ e
   wp_walk using ((S1 prog w).start _ _ _ _ _ B1),((S2 prog w).start _ _ _ _ _ B2)
   exact ⟨_,rfl,r⟩
theorem PY (S1:∀ P w,SubF P w l1 ob1 src1 at1) (S2:∀ P w,SubF P w l2 ob2 src2 at2) (ne:∀ h vs,src2 h vs->∃ o,h.get? l2=some o) {xs ys:Array Value} {Q:Value->Shared->Prop} (q1:src1 s.heap xs) (q2:src2 s.heap ys)
   (h:∀ h',IsZip h' (s.heap.objs.size+4) (s.heap.objs.size+2) (s.heap.objs.size+3) .none->IsPair h' (s.heap.objs.size+2) (.ref s.heap.objs.size) (.ref (s.heap.objs.size+1)) ->
     IsPair h' (s.heap.objs.size+3) .none .none->at1 s.heap.objs.size 0 h'->at2 (s.heap.objs.size+1) 0 h' ->
     (∀ c o,s.heap.get? c=some o->h'.get? c=some o)->Q (.ref (s.heap.objs.size+4)) { s with heap:=h' }) (f1:ob1.isFreed=false) (f2:ob2.isFreed=false) :
   wpAny (model P w) A (call (.type "zip") [.ref l1,.ref l2]) Q E s:=by
 refine callType_new F.called_zip (by decide) (F.typeCall_zip_2 _ _) (F.newCall_zip_2 _ _) (fun obj=>F.args_object_init_3 obj _ _) F.entry_zip_new (Em S1 S2 ne xs ys) ⟨q1,q2,?_⟩;have n0:(s.heap.push ob1).objs.size=s.heap.objs.size+1:=Heap.size_push ..;have n1:(zp1 s.heap ob1 ob2).objs.size=s.heap.objs.size+2:=by rw [Heap.size_push,n0]
 have n2:(zp2 s.heap ob1 ob2).objs.size=s.heap.objs.size+3:=by rw [Heap.size_push,n1]
 have n3:(zp3 s.heap ob1 ob2).objs.size=s.heap.objs.size+4:=by rw [Heap.size_push,n2]
 have c5:(zp4 s.heap ob1 ob2).get? (zp3 s.heap ob1 ob2).objs.size=some _:=Heap.get?_push_size _ rfl;have c4:(zp4 s.heap ob1 ob2).get? (zp2 s.heap ob1 ob2).objs.size=some _:=Heap.get?_push_of_some _ (Heap.get?_push_size _ rfl);have c3:(zp4 s.heap ob1 ob2).get? (zp1 s.heap ob1 ob2).objs.size=some _:=Heap.get?_push_of_some _ (Heap.get?_push_of_some _ (Heap.get?_push_size _ rfl));have c2:(zp4 s.heap ob1 ob2).get? (s.heap.push ob1).objs.size=some ob2:=Heap.get?_push_of_some _ (Heap.get?_push_of_some _ (Heap.get?_push_of_some _ (Heap.get?_push_size _ f2)));have c1:(zp4 s.heap ob1 ob2).get? s.heap.objs.size=some ob1:=Heap.get?_push_of_some _ (Heap.get?_push_of_some _ (Heap.get?_push_of_some _ (Heap.get?_push_of_some _ (Heap.get?_push_size _ f1))));show _/\_;rw [n1,n2,n3] at c5;rw [n0,n1] at c3;rw [n2] at c4;rw [n0] at c2;rw [n3];exact ⟨⟨_,c5,rfl⟩,h _ c5 c3 c4 ((S1 P w).first _ _ c1) ((S2 P w).first _ _ c2) fun c o e=>Heap.get?_push_of_some _ (Heap.get?_push_of_some _ (Heap.get?_push_of_some _ (Heap.get?_push_of_some _ (Heap.get?_push_of_some _ e))))⟩
end
def SqX (K:PySem.W.Frag):Bool->Hp->Addr->List V->Prop
 | true,H,a,xs=>SqL K H a xs
 | false,H,a,xs=>SqT K H a xs
def Itz (K:PySem.W.Frag) (c d:Bool) (a b:Addr):It :=
 ⟨fun i H=>∃ xs ys x y,SqX K c H a xs/\SqX K d H b ys/\xs[i]?=some x/\ys[i]?=some y,
  fun i H v H'=>∃ p x y,H p=none/\v=.ref p/\H'=upd H p (.tup [x,y])/\(∀ xs,SqX K c H a xs->xs[i]?=some x)/\∀ ys,SqX K d H b ys->ys[i]?=some y,
  fun i H=>∃ xs ys,SqX K c H a xs/\SqX K d H b ys/\(xs.length<=i\/ys.length<=i)⟩
def TD (a:Addr):Bool->Obj
 | true=>{ cls:=.type "list_iterator",data:=.fields #[.ref a,.int 0 0] }
 | false=>{ cls:=.type "tuple_iterator",data:=.fields #[.ref a,.int 0 0] }
def JH (a:Addr):Bool->Heap->Array Value->Prop
 | true,h,vs=>h.IsList a vs
 | false,h,vs=>h.IsTuple a vs
def zAt (a:Addr):Bool->Addr->Nat->Heap->Prop
 | true,it,i,h=>h.IsListIter it a i
 | false,it,i,h=>h.IsTupleIter it a i
theorem fe (a:Addr) (c:Bool) (P:Program) (w:World):SubF P w a (TD a c) (JH a c) (zAt a c):=by
 cases c
 . exact Ob a
 . exact Lr a
theorem xp (a:Addr) (c:Bool):(TD a c).isFreed=false:=by cases c <;> rfl
theorem oI (a:Addr) (c:Bool) (h:Heap) (vs:Array Value) (e:JH a c h vs):∃ o,h.get? a=some o:=by
 cases c
 . obtain ⟨o,ho,_⟩:=e;exact ⟨o,ho⟩
 . obtain ⟨o,ho,_⟩:=e;exact ⟨o,ho⟩
theorem Inv.sqX {X:Cx} {pins:List (Addr × Obj)} {σ:St} {H:Hp} {s:Shared} {c:Bool} {a:Addr} {xs:List V} (I:Inv X pins σ H s) (h:SqX X.K c H a xs):∃ its:List Value,Vals xs its/\JH a c s.heap its.toArray:=by
 cases c with
 | true =>
   obtain ⟨its,r,pl,_⟩:=I.list h;exact ⟨its,r,pl.isList⟩
 | false =>
   obtain ⟨its,r,⟨o,ho,hc,n,hd⟩,_⟩:=I.tuple h;exact ⟨its,r,⟨o,ho,hc,n,hd⟩⟩
theorem Inv.sqX_inj {X:Cx} {pins:List (Addr × Obj)} {σ:St} {H:Hp} {s:Shared} {c:Bool} {a:Addr} {xs ys:List V} (I:Inv X pins σ H s) (h:SqX X.K c H a xs) (h':SqX X.K c H a ys):xs=ys:=by
 cases c with
 | true=>exact I.list_inj h h'
 | false=>exact I.tuple_inj h h'
theorem Qe {P:Program} {w:World} {K:PySem.W.Frag} {elts:List Expr} {x1} {tpos:Pos} (c d:Bool) (a b z TI TO i1 i2:Addr) (D:ZAp z TI TO i1 i2 a b) :
   Turn P w K (.Tuple elts x1 tpos) (Itz K c d a b) [z,TI,TO,i1,i2] z (fun i h=>IsZip h z TI TO .none/\IsPair h TI (.ref i1) (.ref i2)/\(∃ u v,IsPair h TO u v)/\zAt a c i1 i h/\zAt b d i2 i h) where
 mem:=by simp
 obj:=fun i h t e he=>by
   obtain ⟨t1,t2,⟨u,v,t3⟩,t4,t5⟩:=t;simp only [List.mem_cons,List.mem_nil_iff,or_false] at he;rcases he with rfl|rfl|rfl|rfl|rfl
   . exact ⟨_,t1,fun v z=>by cases z⟩
   . exact ⟨_,t2,fun v z=>by cases z⟩
   . exact ⟨_,t3,fun v z=>by cases z⟩
   . exact (fe a c P w).obj _ _ _ t4
   . exact (fe b d P w).obj _ _ _ t5
 keep:=fun i h h' t k=>by
   obtain ⟨t1,t2,⟨u,v,t3⟩,t4,t5⟩:=t;exact ⟨k z (by simp) _ t1,k TI (by simp) _ t2,⟨u,v,k TO (by simp) _ t3⟩,(fe a c P w).atK _ _ _ _ t4 fun o e=>k i1 (by simp) o e,(fe b d P w).atK _ _ _ _ t5 fun o e=>k i2 (by simp) o e⟩
 item:=fun X e1 e2 e3 hc i pins s σ H E I f t g=>by
   subst e1 e2 e3;obtain ⟨t1,t2,⟨u,v,t3⟩,t4,t5⟩:=t;obtain ⟨xs,ys,x,y,s1,s2,hx,hy⟩:=g;obtain ⟨us,r1,q1⟩:=I.sqX s1;obtain ⟨vs,r2,q2⟩:=I.sqX s2;obtain ⟨xu,hxu,rx⟩:=r1.get hx;obtain ⟨yu,hyu,ry⟩:=r2.get hy;have hT:s.TypeIs (.ref z) "zip":=⟨_,t1,rfl⟩;unfold pyNext;refine wpAny_bind (wpAny_attempt (wpAny_callSpecial?_slot (name:=Str.ofString "__next__") hT F.slot_zip_next (wpAny_call_entry F.slot_zip_next hT F.entry_zip_next
     (Hf (fe a c _ _) (fe b d _ _) D t1 t2 t3 t4 t5 q1 q2 (x:=xu) (y:=yu) (by simpa using hxu) (by simpa using hyu) fun h' w1 w2 w3 w4 w5 w6 w7=>wpAny_pure ?_) (F.args_zip_next_1 _))))
   refine ⟨_,rfl,wpAny_letOwnedTupleGo_zip w1 fun h2 n1 n2=>?_⟩;have fz:∀ q∈[z,TI,TO,i1,i2],lp X pins H q:=f;have lt0:s.heap.objs.size≠z:=Nat.ne_of_gt (Heap.lt_size t1);have new:IsPair h2 s.heap.objs.size xu yu:=n2.extBut _ _ lt0 w5;have kp:∀ q o,q ∉ [z,TI,TO,i1,i2]->s.heap.get? q=some o->h2.get? q=some o:=fun q o hq e=>by
     simp only [List.mem_cons,List.mem_nil_iff,or_false,not_or] at hq;exact n2.extBut _ _ hq.1 (w7 q o hq.1 hq.2.2.1 hq.2.2.2.1 hq.2.2.2.2 e)
   have kTI:h2.get? TI=some _:=n2.extBut _ _ D.a1 (w7 TI _ D.a1 D.a5 D.a6 D.a7 t2);have Hn:∀ q u,H q=some u->q ∉ [z,TI,TO,i1,i2]:=fun q u e hq=>by rw [(fz q hq).1] at e;cases e
   have I2:Inv X pins σ H { s with heap:=h2 }:=by
     refine I.step (g':=s.gens) (d':=s.drawn) (t':=s.toks) (ch:=[z,TI,TO,i1,i2]) (fun q hq=>⟨(fz q hq).2.2.2.1,(fz q hq).2.1,(fz q hq).2.2.2.2.1,(fz q hq).2.2.2.2.2⟩) (fun q o _ _ hq e _=>kp q o hq e) (fun q o _ _ hq e _=>⟨o.slots,kp q o hq e⟩) (fun _ _ _ _ n=>n)
       (fun q o hq e=>⟨o,kp q o hq e⟩) (fun _ _ e=>e) (fun _ _ _ e=>e) (fun q ps e=>⟨#[],by rw [e];simp⟩) (fun m hm=>?_) (fun q u e=>?_) I.bare
     . obtain ⟨o,es,ep,ho,r⟩:=hm;exact ⟨o,es,ep,kp _ o (fun hq=>(fz _ hq).2.1 rfl) ho,r⟩
     . refine (I.hok q u e).stay (fun q' v hq' e'=>kp q' v ?_ e') (fun _ e'=>e') fun _ _ e'=>e';rcases hq' with rfl|hq'
       . exact Hn _ u e
       . exact Hn _ _ hq'
   have nH:H s.heap.objs.size=none:=I.fresh;have I3:Inv X pins σ (upd H s.heap.objs.size (.tup [x,y])) { s with heap:=h2 }:=by
     refine ⟨I2.ok,I2.os,I2.bare,?_,I2.loc,I2.cell,?_,fun n c e=>?_,fun p hp=>?_,fun q u e=>?_,I2.len⟩
     . refine ⟨I2.base.keep,I2.base.slot,fun q o e n hx=>?_,I2.base.there,fun q xs e=>?_,fun q o u e=>?_,fun q ps e=>?_⟩
       . have lt:q<X.s₀.heap.objs.size:=Heap.lt_size e;rw [au (Nat.ne_of_lt (Nat.lt_of_lt_of_le lt I.sz))];exact I2.base.free q o e n hx
       . have e':=I2.base.tups q xs e;rw [au (fun z=>by rw [z,nH] at e';cases e')];exact e'
       . have e':=I2.base.frzs q o u e;rw [au (fun z=>by rw [z,nH] at e';cases e')];exact e'
       . obtain ⟨more,e'⟩:=I2.base.tbls q ps e;exact ⟨more,by rw [au (fun z=>by rw [z,nH] at e';cases e')];exact e'⟩
     . rw [au (Nat.ne_of_lt I.lt)];exact I2.free
     . obtain ⟨vv,o,ho,_⟩:=I.cell n c e;rw [au (Nat.ne_of_lt (Heap.lt_size ho))];exact I2.freeC n c e
     . obtain ⟨k1,k2,k3⟩:=I.pin p hp;rw [au (Nat.ne_of_lt (Heap.lt_size k1))];exact I2.pin p hp
     . by_cases hq:q=s.heap.objs.size
       . subst hq;rw [aj] at e;cases e;exact ⟨by show 2<=sizeLine;decide,[xu,yu],.cons rx (.cons ry .nil),_,new,rfl,_,rfl⟩
       . rw [au hq] at e;refine (I2.hok q u e).stay (fun _ _ _ e'=>e') (fun q' e'=>?_) fun q' xs e'=>?_
         . rw [au (fun z=>by rw [z,nH] at e';cases e')];exact e'
         . rw [au (fun z=>by rw [z,nH] at e';cases e')];exact e'
   refine ⟨.ref s.heap.objs.size,_,I3,rfl,⟨_,x,y,nH,rfl,rfl,fun xs' q=>?_,fun ys' q=>?_⟩,⟨n1,kTI,⟨_,_,n2.extBut _ _ D.a2 w2⟩,(fe a c X.prog X.w).atK _ _ _ _ w3 fun o e=>n2.extBut _ _ D.a3 e,(fe b d X.prog X.w).atK _ _ _ _ w4 fun o e=>n2.extBut _ _ D.a4 e⟩,fun q hq=>?_⟩
   . rw [<- I.sqX_inj s1 q];exact hx
   . rw [<- I.sqX_inj s2 q];exact hy
   . have hlt:q<s.heap.objs.size:=by
       simp only [List.mem_cons,List.mem_nil_iff,or_false] at hq;rcases hq with rfl|rfl|rfl|rfl|rfl
       . exact Heap.lt_size t1
       . exact Heap.lt_size t2
       . exact Heap.lt_size t3
       . exact let ⟨o,e,_⟩:=(fe a c X.prog X.w).obj _ _ _ t4;Heap.lt_size e
       . exact let ⟨o,e,_⟩:=(fe b d X.prog X.w).obj _ _ _ t5;Heap.lt_size e
     rw [au (Nat.ne_of_lt hlt)];exact (fz q hq).1
 done:=fun X e1 e2 e3 hc i pins s σ H E I f t g=>by
   subst e1 e2 e3;obtain ⟨t1,t2,⟨u,v,t3⟩,t4,t5⟩:=t;obtain ⟨xs,ys,s1,s2,hend⟩:=g;obtain ⟨us,r1,q1⟩:=I.sqX s1;obtain ⟨vs,r2,q2⟩:=I.sqX s2;have fz:∀ q∈[z,TI,TO,i1,i2],lp X pins H q:=f;have hh:X.A.handled=none:=I.ok.hd hc;have hT:s.TypeIs (.ref z) "zip":=⟨_,t1,rfl⟩;have hend':us.toArray[i]?=none\/vs.toArray[i]?=none:=by
     rcases hend with e|e
     . exact .inl (by have:=r1.length;simp;omega)
     . exact .inr (by have:=r2.length;simp;omega)
   unfold pyNext;refine wpAny_bind (wpAny_attempt (wpAny_callSpecial?_slot (name:=Str.ofString "__next__") hT F.slot_zip_next (wpAny_call_entry F.slot_zip_next hT F.entry_zip_next
     (HS (fe a c _ _) (fe b d _ _) hh D t1 t2 t3 t4 t5 q1 q2 hend' fun h' e hk he=>?_) (F.args_zip_next_1 _))))
   obtain ⟨o,ho,hcl⟩:=he;refine wpAny_bind (wpAny_isInstance (T:="StopIteration") (b:=true) ⟨o,ho,hcl⟩ isSubtype_stop (wpAny_pure ⟨rfl,?_⟩));have kp:∀ q o,q ∉ [z,TI,TO,i1,i2]->s.heap.get? q=some o->h'.get? q=some o:=fun q o hq e=>by
     simp only [List.mem_cons,List.mem_nil_iff,or_false,not_or] at hq;exact hk q o hq.1 hq.2.2.1 hq.2.2.2.1 hq.2.2.2.2 e
   have Hn:∀ q u,H q=some u->q ∉ [z,TI,TO,i1,i2]:=fun q u e hq=>by rw [(fz q hq).1] at e;cases e
   refine I.step (g':=s.gens) (d':=s.drawn) (t':=s.toks) (ch:=[z,TI,TO,i1,i2]) (fun q hq=>⟨(fz q hq).2.2.2.1,(fz q hq).2.1,(fz q hq).2.2.2.2.1,(fz q hq).2.2.2.2.2⟩) (fun q o _ _ hq e _=>kp q o hq e) (fun q o _ _ hq e _=>⟨o.slots,kp q o hq e⟩) (fun _ _ _ _ n=>n)
     (fun q o hq e=>⟨o,kp q o hq e⟩) (fun _ _ e=>e) (fun _ _ _ e=>e) (fun q ps e=>⟨#[],by rw [e];simp⟩) (fun m hm=>?_) (fun q u e=>?_) I.bare
   . obtain ⟨o,es,ep,ho,r⟩:=hm;exact ⟨o,es,ep,kp _ o (fun hq=>(fz _ hq).2.1 rfl) ho,r⟩
   . refine (I.hok q u e).stay (fun q' v hq' e'=>kp q' v ?_ e') (fun _ e'=>e') fun _ _ e'=>e';rcases hq' with rfl|hq'
     . exact Hn _ u e
     . exact Hn _ _ hq'
 self:=fun A i s Q E t q=>wpAny_pyIter_zip t.1 q
end L2
set_option Elab.async false
set_option linter.all false
set_option maxRecDepth 100000
namespace L2
open PySem PySem.Spec PyProof.Rows
section
variable {X:Cx} {pins:List (Addr × Obj)} {σ:St} {H H2:Hp} {s s2:Shared} {a:Addr} {o:HO}
end
section
variable {P:Program} {w:World} {A:Around} {E:Value->Shared->Prop} {s:Shared}
end
end L2
set_option Elab.async false
set_option linter.all false
set_option maxRecDepth 100000
namespace L2
open PySem PySem.Spec PyProof.Rows
section
variable {P:Program} {w:World} {A:Around} {E:Value->Shared->Prop} {s:Shared} {R:Result->Shared->Prop}
end
section
variable {X:Cx} {e:Expr} {te:TE} {p1 p2 pos pos2:Pos}
end
end L2
set_option Elab.async false
set_option linter.all false
set_option maxRecDepth 100000
namespace L2
open PySem PySem.Spec PyProof.Rows
theorem fU {a b:Nat} (h:a<b\/b<a):a≠b:=by omega
theorem S6 (n a b:Nat) (h1:a<n) (h2:b<n):ZAp (n+4) (n+2) (n+3) n (n+1) a b :=
 ⟨fU (by omega),fU (by omega),fU (by omega),fU (by omega),fU (by omega),fU (by omega),fU (by omega),fU (by omega),fU (by omega),fU (by omega),⟨fU (by omega),fU (by omega),fU (by omega),fU (by omega)⟩,⟨fU (by omega),fU (by omega),fU (by omega),fU (by omega)⟩⟩
section
variable {X:Cx}
def QK (K:PySem.W.Frag) (c d:Bool) (ta:TA):TI:=fun σ H R=>ta σ H fun vs H1=>∃ a b,vs=[.ref a,.ref b]/\(∃ xs,SqX K c H1 a xs)/\(∃ ys,SqX K d H1 b ys)/\R (Itz K c d a b) H1
theorem MR {elts:List Expr} {x1} {tpos:Pos} {ea eb:Expr} {ta:TA} {p pos:Pos} (c d:Bool) (hg:Gl X "zip") (hm:X.mg "zip"=none) (ha:PA X [ea,eb] ta)
   (hs:starEach [ea,eb] X.env=[(false,eval ea X.env),(false,eval eb X.env)]:=by rfl) (hs2:starEach [eb] X.env=[(false,eval eb X.env)]:=by rfl) :
   PI X (.Tuple elts x1 tpos) (.Call (.Name "zip" p) [ea,eb] [] pos) (QK X.K c d ta):=by
 intro pins s σ H R I h;refine Call_ (qy I hg hm boot_zip (PyProof.Rows.callWith_type1 (rF (ha pos pins s σ H _ I h) fun us s1 vs H1 I1 r1 q1=>?_) (by rw [hs,hs2]) (by rw [hs2];rfl)));obtain ⟨a,b,e,⟨xs,sa⟩,⟨ys,sb⟩,q⟩:=q1;subst e;obtain ⟨u,v,rfl,ru,rv⟩:=Q0 r1;cases ru;cases rv;obtain ⟨us,r1,q1⟩:=I1.sqX sa;obtain ⟨vs,r2,q2⟩:=I1.sqX sb;obtain ⟨oa,hoa⟩:=oI a c _ _ q1;obtain ⟨ob,hob⟩:=oI b d _ _ q2;have la:=Heap.lt_size hoa;have lb:=Heap.lt_size hob;refine PY (fe a c) (fe b d) (oI b d) q1 q2 (fun h' w1 w2 w3 w4 w5 w6=>?_) (xp a c) (xp b d);refine wpAny_pyIter_zip w1 ?_;have D:=S6 s1.heap.objs.size a b la lb;refine ⟨_,[s1.heap.objs.size+4,s1.heap.objs.size+2,s1.heap.objs.size+3,s1.heap.objs.size,s1.heap.objs.size+1],_,_,H1,rfl,I1.kept (t':=s1.toks) w6,Qe c d a b _ _ _ _ _ D,⟨w1,w2,⟨_,_,w3⟩,w4,w5⟩,fun q hq=>?_,q⟩;have hle:s1.heap.objs.size<=q:=by
   simp only [List.mem_cons,List.mem_nil_iff,or_false] at hq;rcases hq with rfl|rfl|rfl|rfl|rfl
   . exact Nat.le_add_right _ 4
   . exact Nat.le_add_right _ 2
   . exact Nat.le_add_right _ 3
   . exact Nat.le_refl _
   . exact Nat.le_add_right _ 1
 exact I1.fpOk hle (I1.hok.fresh hle)
end
theorem Se {K:PySem.W.Frag} {c d:Bool} {a b:Addr} {xs ys:List V} {g:TG} {tb:TS} {D:Ends} {σ:St} {H:Hp} (Pv:Nat->St->Hp->Prop) (h0:Pv 0 σ H) (hl:∀ i σ H,Pv i σ H->SqX K c H a xs/\SqX K d H b ys)
   (hs:∀ i x y σ H p,xs[i]?=some x->ys[i]?=some y->Pv i σ H->H p=none->g (.ref p) σ (upd H p (.tup [x,y])) fun σ2 H2=>tb { D with nx:=Pv (i+1),ct:=Pv (i+1),bk:=D.nx } σ2 H2) (hd:∀ σ H,Pv (min xs.length ys.length) σ H->D.nx σ H) :
   ∃ W:Nat->Nat->St->Hp->Prop,(∃ m,W 0 m σ H)/\∀ i m σ H,W i m σ H ->
     ((Itz K c d a b).stop i H/\D.nx σ H)\/((Itz K c d a b).go i H/\∃ N:St->Hp->Prop,(∀ σ' H',N σ' H'->∃ m',m'<m/\W (i+1) m' σ' H')/\∀ x H',(Itz K c d a b).yld i H x H'->g x σ H' fun σ2 H2=>tb { D with nx:=N,ct:=N,bk:=D.nx } σ2 H2):=by
 refine ⟨fun i m σ H=>m=min xs.length ys.length - i/\i<=min xs.length ys.length/\Pv i σ H,⟨_,rfl,Nat.zero_le _,h0⟩,?_⟩;rintro i m σ H ⟨rfl,hi,p⟩;obtain ⟨q1,q2⟩:=hl i σ H p;by_cases hlt:i<min xs.length ys.length
 . refine .inr ⟨⟨xs,ys,xs[i]'(by omega),ys[i]'(by omega),q1,q2,List.getElem?_eq_getElem (by omega),List.getElem?_eq_getElem (by omega)⟩,Pv (i+1),fun σ' H' p'=>⟨min xs.length ys.length - (i+1),by omega,rfl,hlt,p'⟩,fun x H' y=>?_⟩;obtain ⟨p',x',y',hp,rfl,rfl,e1,e2⟩:=y;exact hs i x' y' σ H p' (e1 xs q1) (e2 ys q2) p hp
 . have e:i=min xs.length ys.length:=by omega
   subst e;exact .inl ⟨⟨xs,ys,q1,q2,by omega⟩,hd σ H p⟩
end L2
set_option linter.all false
namespace Pb
structure Road where
 a:Int
 b:Int
 t:Int
 u:Int
 deriving DecidableEq
def LU (m:Int) (rs:List Road):Prop:=∀ S:Int->Prop,S 0->(∀ r∈rs,(S r.a↔S r.b))->∀ v,0<=v->v<m->S v
structure RoadOk (m:Int) (r:Road):Prop where
 a0:0<=r.a
 a1:r.a<m
 b0:0<=r.b
 b1:r.b<m
 ne:r.a≠r.b
 t0:2<=r.t
 t1:r.t<=1000000
 u0:2<=r.u
 u1:r.u<=1000000
structure Good (m:Int) (rs:List Road):Prop where
 m1:1<=m
 m24:m<=24
 len:(rs.length:Int)=m - 1
 ok:∀ r∈rs,RoadOk m r
 jn:LU m rs
theorem mQ {α:Type} [DecidableEq α]:∀ {l l':List α},l.Nodup->(∀ x∈l,x∈l')->l.length<=l'.length
 | [],_,_,_=>Nat.zero_le _
 | x::r,l',hn,hs=>by
   obtain ⟨h1,h2⟩:=List.nodup_cons.mp hn;have hx:x∈l':=hs x List.mem_cons_self;have:r.length<=(l'.erase x).length:=mQ h2 fun y hy=>(List.mem_erase_of_ne (fun (e:y=x)=>h1 (by rw [<- e];exact hy))).mpr (hs y (List.mem_cons_of_mem _ hy));rw [List.length_erase_of_mem hx] at this;have hp:0<l'.length:=List.length_pos_of_mem hx;rw [List.length_cons];omega
def below (n:Nat):List Int:=(List.range n).map fun (k:Nat)=>(k:Int)
theorem dh {n:Nat} {v:Int}:v∈below n↔0<=v/\v<n:=by
 unfold below;rw [List.mem_map]
 constructor
 . rintro ⟨k,hk,rfl⟩;have:=List.mem_range.mp hk;omega
 . rintro ⟨h0,h1⟩;exact ⟨v.toNat,List.mem_range.mpr (by omega),by omega⟩
theorem bz (n:Nat):(below n).length=n:=by simp [below]
theorem fA (n:Nat):(below n).Nodup:=by
 unfold below;refine List.Pairwise.map _ (fun a b h=>?_) (List.nodup_range (n:=n));intro e;exact h (by omega)
theorem dv {m:Int} {l:List Int} (hm:0<=m) (hn:l.Nodup) (h:∀ x∈l,0<=x/\x<m):(l.length:Int)<=m:=by
 have:=mQ (l':=below m.toNat) hn fun x hx=>dh.mpr ⟨(h x hx).1,by have:=(h x hx).2;omega⟩;rw [bz] at this;omega
theorem Pj {m:Int} {l:List Int} (hm:0<=m) (h:∀ v,0<=v->v<m->v∈l):m<=(l.length:Int):=by
 have:=mQ (l:=below m.toNat) (l':=l) (fA _) fun x hx=>by
   obtain ⟨h0,h1⟩:=dh.mp hx;exact h x h0 (by omega)
 rw [bz] at this;omega
def qX (p:Int) (r:Road):List Int:=(if r.a=p then [r.b] else [])++(if r.b=p then [r.a] else [])
def ci (rs:List Road) (p:Int):List Int:=rs.flatMap (qX p)
theorem qk {rs:List Road} {p e:Int}:e∈ci rs p↔∃ r∈rs,(r.a=p/\r.b=e)\/(r.b=p/\r.a=e):=by
 unfold ci qX;rw [List.mem_flatMap]
 constructor
 . rintro ⟨r,hr,h⟩;refine ⟨r,hr,?_⟩;rcases List.mem_append.mp h with h|h
   . by_cases c:r.a=p
     . rw [if_pos c] at h;exact .inl ⟨c,(List.mem_singleton.mp h).symm⟩
     . rw [if_neg c] at h;cases h
   . by_cases c:r.b=p
     . rw [if_pos c] at h;exact .inr ⟨c,(List.mem_singleton.mp h).symm⟩
     . rw [if_neg c] at h;cases h
 . rintro ⟨r,hr,h⟩;refine ⟨r,hr,List.mem_append.mpr ?_⟩;rcases h with ⟨h1,h2⟩|⟨h1,h2⟩
   . exact .inl (by rw [if_pos h1,h2];exact List.mem_singleton.mpr rfl)
   . exact .inr (by rw [if_pos h1,h2];exact List.mem_singleton.mpr rfl)
theorem G2 (rs:List Road) (p:Int):(ci rs p).length<=2*rs.length:=by
 unfold ci
 induction rs with
 | nil=>simp
 | cons r rs ih =>
   rw [List.flatMap_cons,List.length_append,List.length_cons];have:(qX p r).length<=2:=by
     unfold qX;rw [List.length_append];by_cases c:r.a=p <;> by_cases d:r.b=p <;> simp [c,d]
   omega
theorem rh (rs:List Road) (r:Road) (p:Int):ci (rs++[r]) p=ci rs p++qX p r:=by
 unfold ci;rw [List.flatMap_append];simp
def BR (c:List Int × List Int) (e:Int):List Int × List Int:=if e∈c.1 then c else (c.1++[e],c.2++[e])
structure JInv (m:Int) (rs:List Road) (ks ws:List Int):Prop where
 nd:ks.Nodup
 zero:0∈ks
 rng:∀ k∈ks,0<=k/\k<m
 sub:∀ w∈ws,w∈ks
 cl:∀ k∈ks,k ∉ ws->∀ e∈ci rs k,e∈ks
 wl:ws.length<=ks.length
theorem J8 {l:List Int} {e:Int} (h:l.Nodup) (he:e ∉ l):(l++[e]).Nodup:=by
 rw [List.nodup_append];refine ⟨h,by simp,fun a ha b hb=>?_⟩;rw [List.mem_singleton.mp hb];exact fun z=>he (z ▸ ha)
structure JMid (m:Int) (rs:List Road) (p:Int) (es ks ws ks0:List Int) (n0:Nat):Prop where
 nd:ks.Nodup
 zero:0∈ks
 rng:∀ k∈ks,0<=k/\k<m
 sub:∀ w∈ws,w∈ks
 cl:∀ k∈ks,k ∉ ws->k=p\/∀ e∈ci rs k,e∈ks
 seen:∀ e∈es,e∈ks
 pin:p∈ks
 mu:ks.length+n0=ks0.length+ws.length
 up:ks0.length<=ks.length
 wl:ws.length<=ks.length
theorem JMid.start {m:Int} {rs:List Road} {ks ws:List Int} {p:Int} (h:JInv m rs ks (ws++[p])):JMid m rs p [] ks ws ks ws.length where
 nd:=h.nd
 zero:=h.zero
 rng:=h.rng
 sub:=fun w hw=>h.sub w (List.mem_append_left _ hw)
 cl:=fun k hk hw=>by
   by_cases e:k=p
   . exact .inl e
   . exact .inr (h.cl k hk fun z=>by
       rcases List.mem_append.mp z with z|z
       . exact hw z
       . exact e (List.mem_singleton.mp z))
 seen:=fun e he=>by cases he
 pin:=h.sub p (List.mem_append_right _ (List.mem_singleton.mpr rfl))
 mu:=rfl
 up:=Nat.le_refl _
 wl:=by have:=h.wl;rw [List.length_append] at this;simp at this;omega
theorem JMid.step {m:Int} {rs:List Road} {p:Int} {es ks ws ks0:List Int} {n0:Nat} {e:Int} (h:JMid m rs p es ks ws ks0 n0) (h0:0<=e) (h1:e<m) :
   JMid m rs p (es++[e]) (BR (ks,ws) e).1 (BR (ks,ws) e).2 ks0 n0:=by
 unfold BR;by_cases c:e∈ks
 . rw [if_pos c];refine ⟨h.nd,h.zero,h.rng,h.sub,h.cl,fun x hx=>?_,h.pin,h.mu,h.up,h.wl⟩;rcases List.mem_append.mp hx with z|z
   . exact h.seen x z
   . rw [List.mem_singleton.mp z];exact c
 . rw [if_neg c];dsimp only;refine ⟨J8 h.nd c,List.mem_append_left _ h.zero,fun k hk=>?_,fun w hw=>?_,fun k hk hw=>?_,fun x hx=>?_,List.mem_append_left _ h.pin,?_,by have:=h.up;simp;omega,by have:=h.wl;simp;exact this⟩
   . rcases List.mem_append.mp hk with z|z
     . exact h.rng k z
     . rw [List.mem_singleton.mp z];exact ⟨h0,h1⟩
   . rcases List.mem_append.mp hw with z|z
     . exact List.mem_append_left _ (h.sub w z)
     . exact List.mem_append_right _ z
   . rcases List.mem_append.mp hk with z|z
     . rcases h.cl k z fun y=>hw (List.mem_append_left _ y) with y|y
       . exact .inl y
       . exact .inr fun x hx=>List.mem_append_left _ (y x hx)
     . exact absurd (List.mem_append_right _ z) hw
   . rcases List.mem_append.mp hx with z|z
     . exact List.mem_append_left _ (h.seen x z)
     . exact List.mem_append_right _ z
   . have:=h.mu;simp only [List.length_append,List.length_cons,List.length_nil];omega
theorem JMid.done {m:Int} {rs:List Road} {p:Int} {ks ws ks0:List Int} {n0:Nat} (h:JMid m rs p (ci rs p) ks ws ks0 n0):JInv m rs ks ws where
 nd:=h.nd
 zero:=h.zero
 rng:=h.rng
 sub:=h.sub
 cl:=fun k hk hw=>by
   rcases h.cl k hk hw with z|z
   . rw [z];exact h.seen
   . exact z
 wl:=h.wl
theorem JInv.start {m:Int} {rs:List Road} (hm:1<=m):JInv m rs [0] [0] where
 nd:=by simp
 zero:=by simp
 rng:=fun k hk=>by rw [List.mem_singleton.mp hk];omega
 sub:=fun w hw=>hw
 cl:=fun k hk hw=>absurd hk hw
 wl:=by simp
theorem JInv.all {m:Int} {rs:List Road} {ks:List Int} (h:JInv m rs ks []) (hm:1<=m) (j:LU m rs):(ks.length:Int)=m:=by
 have up:=dv (by omega) h.nd h.rng;have:∀ v,0<=v->v<m->v∈ks:=j (fun v=>v∈ks) h.zero fun r hr=>by
   constructor
   . intro ha;exact h.cl r.a ha (by simp) r.b (qk.mpr ⟨r,hr,.inl ⟨rfl,rfl⟩⟩)
   . intro hb;exact h.cl r.b hb (by simp) r.a (qk.mpr ⟨r,hr,.inr ⟨rfl,rfl⟩⟩)
 have:=Pj (by omega) this;omega
theorem Pa {m:Int} {rs:List Road} (h:∀ r∈rs,RoadOk m r) {p e:Int} (he:e∈ci rs p):0<=e/\e<m:=by
 obtain ⟨r,hr,z⟩:=qk.mp he;have k:=h r hr;rcases z with ⟨_,rfl⟩|⟨_,rfl⟩
 . exact ⟨k.b0,k.b1⟩
 . exact ⟨k.a0,k.a1⟩
structure Row where
 k:Int
 un:Int
 t:Int
 u:Int
 sw:Int
 sp:Int
structure RowOk (r:Row):Prop where
 u0:0<=r.un
 u1:r.un<r.k
 t0:2<=r.t
 t1:r.t<=1000000
 v0:2<=r.u
 v1:r.u<=1000000
 s0:0<=r.sp
 s1:r.sp<r.k
structure Rows (n:Nat) (rows:List Row):Prop where
 len:rows.length=n
 ok:∀ (i:Nat) (r:Row),rows[i]?=some r->r.k=(i:Int)+1/\RowOk r
structure Labels (n:Nat) (ls:List Int):Prop where
 len:ls.length=n
 nd:ls.Nodup
 all:∀ v:Int,0<=v->v<n->v∈ls
 rng:∀ v∈ls,0<=v/\v<n
theorem Bc {α:Type} {l:List α} {k:Nat} {x y:α}:y∈l.take k++x::l.drop k↔y=x\/y∈l:=by
 rw [List.mem_append,List.mem_cons]
 constructor
 . rintro (h|h|h)
   . exact .inr (List.mem_of_mem_take h)
   . exact .inl h
   . exact .inr (List.mem_of_mem_drop h)
 . rintro (h|h)
   . exact .inr (.inl h)
   . rw [<- List.take_append_drop k l] at h;rcases List.mem_append.mp h with z|z
     . exact .inl z
     . exact .inr (.inr z)
def gY (ls:List Int) (r:Row):Road:=if r.sw=1 then ⟨ls.getD r.un.toNat 0,ls.getD r.k.toNat 0,r.t,r.u⟩ else ⟨ls.getD r.k.toNat 0,ls.getD r.un.toNat 0,r.t,r.u⟩
structure Put (ls:List Int) (rows:List Row) (rs:List Road):Prop where
 len:rs.length=rows.length
 of:∀ r∈rs,∃ w∈rows,r=gY ls w
 to:∀ w∈rows,gY ls w∈rs
theorem Put.nil (ls:List Int):Put ls [] []:=⟨rfl,fun r h=>(by cases h),fun r h=>(by cases h)⟩
theorem Put.step {ls:List Int} {rows:List Row} {rs:List Road} (h:Put ls rows rs) (w:Row) (k:Nat):Put ls (rows++[w]) (rs.take k++gY ls w::rs.drop k) where
 len:=by
   rw [List.length_append,List.length_cons,List.length_take,List.length_drop,List.length_append,h.len];simp;omega
 of:=fun r hr=>by
   rcases Bc.mp hr with z|z
   . exact ⟨w,by simp,z⟩
   . obtain ⟨w',hw,e⟩:=h.of r z;exact ⟨w',List.mem_append_left _ hw,e⟩
 to:=fun w' hw=>by
   rw [Bc];rcases List.mem_append.mp hw with z|z
   . exact .inr (h.to w' z)
   . exact .inl (by rw [List.mem_singleton.mp z])
theorem y8 {ls:List Int} {n:Nat} (h:Labels n ls) {i:Nat} (hi:i<n):ls[i]?=some (ls.getD i 0):=by
 have:i<ls.length:=by rw [h.len];exact hi
 simp [List.getD,List.getElem?_eq_getElem this]
theorem GQ {ls:List Int} {n:Nat} (h:Labels n ls) {i:Nat} (hi:i<n):ls.getD i 0∈ls:=List.mem_of_getElem? (y8 h hi)
theorem Ov {ls:List Int} {n:Nat} (h:Labels n ls) {i j:Nat} (hi:i<n) (hj:j<n) (e:ls.getD i 0=ls.getD j 0):i=j:=by
 have h1:i<ls.length:=by rw [h.len];exact hi
 have h2:j<ls.length:=by rw [h.len];exact hj
 have e1:=y8 h hi;have e2:=y8 h hj;rw [e] at e1;have e3:ls[i]'h1=ls[j]'h2:=by
   rw [List.getElem?_eq_getElem h1] at e1;rw [List.getElem?_eq_getElem h2] at e2;exact Option.some.inj (e1.trans e2.symm)
 have nd:=List.pairwise_iff_getElem.mp h.nd;rcases Nat.lt_trichotomy i j with z|z|z
 . exact absurd e3 (nd i j h1 h2 z)
 . exact z
 . exact absurd e3.symm (nd j i h2 h1 z)
theorem R6 {n:Nat} {ls:List Int} {rows:List Row} {rs:List Road} (h1:1<=n) (h24:n<=24) (L:Labels n ls) (W:Rows (n - 1) rows) (P:Put ls rows rs):Good n rs where
 m1:=by omega
 m24:=by omega
 len:=by rw [P.len,W.len];omega
 ok:=fun r hr=>by
   obtain ⟨w,hw,rfl⟩:=P.of r hr;obtain ⟨i,hi⟩:=List.getElem?_of_mem hw;obtain ⟨ek,ok⟩:=W.ok i w hi;have hil:i<rows.length:=(List.getElem?_eq_some_iff.mp hi).1;rw [W.len] at hil;have hk:w.k.toNat<n:=by omega
   have hu:w.un.toNat<n:=by have:=ok.u0;have:=ok.u1;omega
   have r1:=L.rng _ (GQ L hk);have r2:=L.rng _ (GQ L hu);have ne:ls.getD w.k.toNat 0≠ls.getD w.un.toNat 0:=fun e=>by
     have:=Ov L hk hu e;have:=ok.u0;have:=ok.u1;omega
   unfold gY;by_cases c:w.sw=1
   . rw [if_pos c];exact ⟨r2.1,r2.2,r1.1,r1.2,ne.symm,ok.t0,ok.t1,ok.v0,ok.v1⟩
   . rw [if_neg c];exact ⟨r1.1,r1.2,r2.1,r2.2,ne,ok.t0,ok.t1,ok.v0,ok.v1⟩
 jn:=by
   intro S s0 hS;have key:∀ i:Nat,i<n->(S (ls.getD i 0)↔S (ls.getD 0 0)):=by
     intro i
     induction i using Nat.strongRecOn with
     | ind i ih =>
       intro hi;by_cases z:i=0
       . rw [z]
       . have hil:i - 1<rows.length:=(by rw [W.len];omega);obtain ⟨ek,ok⟩:=W.ok (i - 1) rows[i - 1] (List.getElem?_eq_getElem hil);have hm:=P.to rows[i - 1] (List.getElem_mem hil);have hr:=hS _ hm;have hk:(rows[i - 1]).k.toNat=i:=(by omega);have hu:(rows[i - 1]).un.toNat<i:=(by have:=ok.u0;have:=ok.u1;omega);have hh:=ih _ hu (by omega);unfold gY at hr;rw [hk] at hr;by_cases c:(rows[i - 1]).sw=1
         . rw [if_pos c] at hr;exact hr.symm.trans hh
         . rw [if_neg c] at hr;exact hr.trans hh
   have at_:∀ v,0<=v->v<(n:Int)->∃ i,i<n/\ls.getD i 0=v:=fun v h0 h1=>by
     obtain ⟨i,hi⟩:=List.getElem?_of_mem (L.all v h0 h1);have hil:i<n:=(by have:=(List.getElem?_eq_some_iff.mp hi).1;rw [L.len] at this;exact this);refine ⟨i,hil,?_⟩;have:=y8 L hil;rw [hi] at this;exact (Option.some.inj this).symm
   intro v h0 hv;obtain ⟨i,hi,rfl⟩:=at_ v h0 hv;obtain ⟨j,hj,ej⟩:=at_ 0 (by omega) (by omega);refine (key i hi).mpr ((key j hj).mp ?_);rw [ej];exact s0
end Pb
set_option linter.all false
namespace Pb
def Adj (rs:List Road) (a b:Int):Prop:=∃ x∈rs,(x.a=a/\x.b=b)\/(x.b=a/\x.a=b)
theorem Adj.symm {rs:List Road} {a b:Int} (h:Adj rs a b):Adj rs b a:=by
 obtain ⟨x,hx,h⟩:=h;rcases h with ⟨h1,h2⟩|⟨h1,h2⟩
 . exact ⟨x,hx,.inr ⟨h2,h1⟩⟩
 . exact ⟨x,hx,.inl ⟨h2,h1⟩⟩
theorem G3 {rs:List Road} {a b:Int}:b∈ci rs a↔Adj rs a b:=qk
theorem Good.adj {m:Int} {rs:List Road} (g:Good m rs) {a b:Int} (h:Adj rs a b):(0<=a/\a<m)/\(0<=b/\b<m)/\a≠b:=by
 obtain ⟨x,hx,h⟩:=h;have k:=g.ok x hx;rcases h with ⟨h1,h2⟩|⟨h1,h2⟩
 . subst h1 h2;exact ⟨⟨k.a0,k.a1⟩,⟨k.b0,k.b1⟩,k.ne⟩
 . subst h1 h2;exact ⟨⟨k.b0,k.b1⟩,⟨k.a0,k.a1⟩,k.ne.symm⟩
theorem Good.from {m:Int} {rs:List Road} (g:Good m rs) {r:Int} (h0:0<=r) (h1:r<m) (S:Int->Prop) (sr:S r) (hS:∀ x∈rs,(S x.a↔S x.b)):∀ v,0<=v->v<m->S v:=by
 have key:∀ v,0<=v->v<m->(S v↔S 0):=g.jn (fun v=>S v↔S 0) Iff.rfl fun x hx=>by
   have:=hS x hx;exact ⟨fun h=>this.symm.trans h,fun h=>this.trans h⟩
 intro v a b;exact (key v a b).mpr ((key r h0 h1).mp sr)
inductive Dist (rs:List Road) (r:Int):Nat->Int->Prop
 | zero:Dist rs r 0 r
 | step {n:Nat} {u v:Int}:Dist rs r n u->Adj rs u v->Dist rs r (n+1) v
theorem Ut {P:Nat->Prop}:∀ n,P n->∃ k,P k/\∀ j,j<k->¬ P j:=by
 intro n
 induction n using Nat.strongRecOn with
 | ind n ih =>
   intro h;by_cases z:∃ j,j<n/\P j
   . obtain ⟨j,hj,hp⟩:=z;exact ih j hj hp
   . exact ⟨n,h,fun j hj hp=>z ⟨j,hj,hp⟩⟩
structure Rooted (m:Int) (rs:List Road) (r:Int) (par:Int->Int) (dep:Int->Nat):Prop where
 root:dep r=0
 up:∀ v,0<=v->v<m->v≠r->(0<=par v/\par v<m)/\Adj rs v (par v)/\dep (par v)+1=dep v
 road:∀ x∈rs,(x.a≠r/\par x.a=x.b)\/(x.b≠r/\par x.b=x.a)
 one:(rs.map fun x=>if x.a≠r/\par x.a=x.b then x.a else x.b).Nodup
theorem Rk {n:Nat} {l:List Nat} (hn:l.Nodup) (hl:l.length=n) (hb:∀ x∈l,x<n):∀ i,i<n->i∈l:=by
 intro i hi;by_cases z:i∈l
 . exact z
 . have:=mQ (l:=i::l) (l':=List.range n) (List.nodup_cons.mpr ⟨z,hn⟩) fun x hx=>by
     rcases List.mem_cons.mp hx with rfl|hx
     . exact List.mem_range.mpr hi
     . exact List.mem_range.mpr (hb x hx)
   rw [List.length_cons,List.length_range] at this;omega
theorem mt {m:Int} {rs:List Road} (g:Good m rs) {r:Int} (h0:0<=r) (h1:r<m):∃ par dep,Rooted m rs r par dep:=by
 classical
 have reach:∀ v,0<=v->v<m->∃ n,Dist rs r n v:=g.from h0 h1 (fun v=>∃ n,Dist rs r n v) ⟨0,.zero⟩ fun x hx=>by
   constructor
   . rintro ⟨n,d⟩;exact ⟨n+1,d.step ⟨x,hx,.inl ⟨rfl,rfl⟩⟩⟩
   . rintro ⟨n,d⟩;exact ⟨n+1,d.step ⟨x,hx,.inr ⟨rfl,rfl⟩⟩⟩
 have hd:∀ v,∃ k,(0<=v/\v<m)->Dist rs r k v/\∀ j,j<k->¬ Dist rs r j v:=fun v=>by
   by_cases z:0<=v/\v<m
   . obtain ⟨n,d⟩:=reach v z.1 z.2;obtain ⟨k,h⟩:=Ut (P:=fun k=>Dist rs r k v) n d;exact ⟨k,fun _=>h⟩
   . exact ⟨0,fun h=>absurd h z⟩
 let dep:Int->Nat:=fun v=>(hd v).choose
 have dspec:∀ v,0<=v->v<m->Dist rs r (dep v) v/\∀ j,j<dep v->¬ Dist rs r j v:=fun v a b=>(hd v).choose_spec ⟨a,b⟩;have dr:dep r=0:=by
   have:=(dspec r h0 h1).2 0;by_cases z:dep r=0
   . exact z
   . exact absurd Dist.zero (this (by omega))
 have hp:∀ v,∃ u,(0<=v/\v<m/\v≠r)->Adj rs v u/\dep u+1=dep v:=fun v=>by
   by_cases z:0<=v/\v<m/\v≠r
   . obtain ⟨a,b,c⟩:=z;obtain ⟨d,dm⟩:=dspec v a b;generalize hk:dep v=k at d dm;cases d with
     | zero=>exact absurd rfl c
     | @step n u _ d e =>
       refine ⟨u,fun _=>⟨e.symm,?_⟩⟩;obtain ⟨⟨u0,u1⟩,_⟩:=g.adj e;have l1:dep u<=n:=by
         by_cases w:dep u<=n
         . exact w
         . exact absurd d ((dspec u u0 u1).2 n (by omega))
       have l2:¬ dep u<n:=fun w=>dm (dep u+1) (by omega) ((dspec u u0 u1).1.step e);omega
   . exact ⟨0,fun h=>absurd h z⟩
 let par:Int->Int:=fun v=>(hp v).choose
 have pspec:∀ v,0<=v->v<m->v≠r->Adj rs v (par v)/\dep (par v)+1=dep v:=fun v a b c=>(hp v).choose_spec ⟨a,b,c⟩;have hi:∀ v,∃ i:Nat,(0<=v/\v<m/\v≠r)->∃ x,rs[i]?=some x/\((x.a=v/\x.b=par v)\/(x.b=v/\x.a=par v)):=fun v=>by
   by_cases z:0<=v/\v<m/\v≠r
   . obtain ⟨x,hx,h⟩:=(pspec v z.1 z.2.1 z.2.2).1;obtain ⟨i,e⟩:=List.getElem?_of_mem hx;exact ⟨i,fun _=>⟨x,e,h⟩⟩
   . exact ⟨0,fun h=>absurd h z⟩
 let ix:Int->Nat:=fun v=>(hi v).choose
 have ispec:∀ v,0<=v->v<m->v≠r->∃ x,rs[ix v]?=some x/\((x.a=v/\x.b=par v)\/(x.b=v/\x.a=par v)):=fun v a b c=>(hi v).choose_spec ⟨a,b,c⟩;have inj:∀ v u,0<=v->v<m->v≠r->0<=u->u<m->u≠r->ix v=ix u->v=u:=by
   intro v u a b c a' b' c' e;obtain ⟨x,hx,h⟩:=ispec v a b c;obtain ⟨y,hy,h'⟩:=ispec u a' b' c';rw [e,hy] at hx;cases hx;have d1:=(pspec v a b c).2;have d2:=(pspec u a' b' c').2;rcases h with ⟨p,q⟩|⟨p,q⟩ <;> rcases h' with ⟨p',q'⟩|⟨p',q'⟩
   . exact p.symm.trans p'
   . exfalso
     have e1:v=par u:=p.symm.trans q';have e2:u=par v:=p'.symm.trans q;rw [<- e1] at d2;rw [<- e2] at d1;omega
   . exfalso
     have e1:v=par u:=p.symm.trans q';have e2:u=par v:=p'.symm.trans q;rw [<- e1] at d2;rw [<- e2] at d1;omega
   . exact p.symm.trans p'
 let vs:List Int:=(below m.toNat).filter fun v=>decide (v≠r)
 have mv:∀ v,v∈vs↔(0<=v/\v<m/\v≠r):=fun v=>by
   rw [List.mem_filter,dh,decide_eq_true_eq]
   constructor
   . rintro ⟨⟨a,b⟩,c⟩;exact ⟨a,by omega,c⟩
   . rintro ⟨a,b,c⟩;exact ⟨⟨a,by omega⟩,c⟩
 have nv:vs.Nodup:=(fA _).filter _;have lv:vs.length=rs.length:=by
   have e1:(r::vs).length<=(below m.toNat).length:=mQ (List.nodup_cons.mpr ⟨fun h=>((mv r).mp h).2.2 rfl,nv⟩) fun x hx=>by
     rcases List.mem_cons.mp hx with rfl|hx
     . exact dh.mpr ⟨h0,by omega⟩
     . have:=(mv x).mp hx;exact dh.mpr ⟨this.1,by omega⟩
   have e2:(below m.toNat).length<=(r::vs).length:=mQ (fA _) fun x hx=>by
     have:=dh.mp hx;by_cases z:x=r
     . rw [z];exact List.mem_cons_self
     . exact List.mem_cons_of_mem _ ((mv x).mpr ⟨this.1,by omega,z⟩)
   rw [bz,List.length_cons] at e1 e2;have:=g.len;have:=g.m1;omega
 have il:(vs.map ix).Nodup:=by
   have:∀ (l:List Int),l.Nodup->(∀ v∈l,0<=v/\v<m/\v≠r)->(l.map ix).Nodup:=by
     intro l
     induction l with
     | nil=>intro _ _;simp
     | cons v l ih =>
       intro hn hm;obtain ⟨n1,n2⟩:=List.nodup_cons.mp hn;rw [List.map_cons];refine List.nodup_cons.mpr ⟨fun z=>?_,ih n2 fun u hu=>hm u (List.mem_cons_of_mem _ hu)⟩;obtain ⟨u,hu,e⟩:=List.mem_map.mp z;obtain ⟨a,b,c⟩:=hm v List.mem_cons_self;obtain ⟨a',b',c'⟩:=hm u (List.mem_cons_of_mem _ hu);exact n1 (inj u v a' b' c' a b c e ▸ hu)
   exact this vs nv fun v hv=>(mv v).mp hv
 have ib:∀ i∈vs.map ix,i<rs.length:=fun i hi'=>by
   obtain ⟨v,hv,rfl⟩:=List.mem_map.mp hi';obtain ⟨a,b,c⟩:=(mv v).mp hv;obtain ⟨x,hx,_⟩:=ispec v a b c;exact (List.getElem?_eq_some_iff.mp hx).1
 have all:=Rk il (by rw [List.length_map,lv]) ib;have back:∀ i x,rs[i]?=some x->∃ v,(0<=v/\v<m/\v≠r)/\ix v=i/\((x.a=v/\x.b=par v)\/(x.b=v/\x.a=par v)):=fun i x e=>by
   obtain ⟨v,hv,rfl⟩:=List.mem_map.mp (all i (List.getElem?_eq_some_iff.mp e).1);obtain ⟨a,b,c⟩:=(mv v).mp hv;obtain ⟨y,hy,h⟩:=ispec v a b c;rw [e] at hy;cases hy;exact ⟨v,⟨a,b,c⟩,rfl,h⟩
 have noback:∀ v,0<=v->v<m->v≠r->par v≠r->par (par v)≠v:=fun v a b c c' z=>by
   have d1:=pspec v a b c;obtain ⟨_,⟨a',b'⟩,_⟩:=g.adj d1.1;have d2:=pspec (par v) a' b' c';rw [z] at d2;omega
 have kid:∀ i x,rs[i]?=some x->∃ v,(0<=v/\v<m/\v≠r)/\ix v=i/\(if x.a≠r/\par x.a=x.b then x.a else x.b)=v:=fun i x e=>by
   obtain ⟨v,⟨a,b,c⟩,hv,h⟩:=back i x e;refine ⟨v,⟨a,b,c⟩,hv,?_⟩;rcases h with ⟨p,q⟩|⟨p,q⟩
   . rw [if_pos ⟨by rw [p];exact c,by rw [p];exact q.symm⟩];exact p
   . rw [if_neg]
     . exact p
     . rintro ⟨z1,z2⟩;rw [q] at z1 z2;exact noback v a b c z1 (z2.trans p)
 refine ⟨par,dep,dr,fun v a b c=>?_,fun x hx=>?_,?_⟩
 . obtain ⟨p,q⟩:=pspec v a b c;obtain ⟨_,w,_⟩:=g.adj p;exact ⟨w,p,q⟩
 . obtain ⟨i,e⟩:=List.getElem?_of_mem hx;obtain ⟨v,⟨a,b,c⟩,_,h⟩:=back i x e;rcases h with ⟨p,q⟩|⟨p,q⟩
   . exact .inl ⟨by rw [p];exact c,by rw [p];exact q.symm⟩
   . exact .inr ⟨by rw [p];exact c,by rw [p];exact q.symm⟩
 . refine List.pairwise_iff_getElem.mpr fun i j hi' hj' lt=>?_;rw [List.length_map] at hi' hj';rw [List.getElem_map,List.getElem_map];intro z;obtain ⟨v,_,e1,k1⟩:=kid i rs[i] (List.getElem?_eq_getElem hi');obtain ⟨u,_,e2,k2⟩:=kid j rs[j] (List.getElem?_eq_getElem hj');rw [k1,k2] at z;rw [z] at e1;omega
theorem Jz {m:Int} {rs:List Road} (g:Good m rs) {p:Int} (h0:0<=p) (h1:p<m):(ci rs p).Nodup:=by
 obtain ⟨par,dep,R⟩:=mt g h0 h1;have one:=R.one;have ok:=g.ok;have road:=R.road;clear R g
 induction rs with
 | nil=>simp [ci]
 | cons x l ih =>
   have ox:=ok x List.mem_cons_self;have ol:∀ y∈l,RoadOk m y:=fun y hy=>ok y (List.mem_cons_of_mem _ hy);rw [List.map_cons] at one;obtain ⟨n1,n2⟩:=List.nodup_cons.mp one;have il:=ih n2 ol fun y hy=>road y (List.mem_cons_of_mem _ hy);have e:ci (x::l) p=qX p x++ci l p:=by unfold ci;rw [List.flatMap_cons]
   rw [e];have kid:∀ y,RoadOk m y->((y.a≠p/\par y.a=y.b)\/(y.b≠p/\par y.b=y.a))->(y.a=p->(if y.a≠p/\par y.a=y.b then y.a else y.b)=y.b)/\(y.b=p->(if y.a≠p/\par y.a=y.b then y.a else y.b)=y.a):=fun y oy hy=>by
     constructor
     . intro z;rw [if_neg (fun w=>w.1 z)]
     . intro z;rcases hy with hy|hy
       . rw [if_pos hy]
       . exact absurd z hy.1
   have kx:=kid x ox (road x List.mem_cons_self);have inl:∀ e∈ci l p,e∈l.map fun y=>if y.a≠p/\par y.a=y.b then y.a else y.b:=fun e he=>by
     obtain ⟨y,hy,h⟩:=qk.mp he;have ky:=kid y (ol y hy) (road y (List.mem_cons_of_mem _ hy));refine List.mem_map.mpr ⟨y,hy,?_⟩;rcases h with ⟨p1,q1⟩|⟨p1,q1⟩
     . rw [ky.1 p1];exact q1
     . rw [ky.2 p1];exact q1
   unfold qX;by_cases c:x.a=p
   . have d:¬ x.b=p:=fun z=>ox.ne (c.trans z.symm);rw [if_pos c,if_neg d,List.append_nil];refine List.nodup_cons.mpr ⟨fun z=>n1 ?_,il⟩;rw [kx.1 c];exact inl _ z
   . rw [if_neg c,List.nil_append];by_cases d:x.b=p
     . rw [if_pos d];refine List.nodup_cons.mpr ⟨fun z=>n1 ?_,il⟩;rw [kx.2 d];exact inl _ z
     . rw [if_neg d];exact il
def hW (m:Int) (rs:List Road) (p:Int):List Int:=(below m.toNat).filter fun q=>decide (q∈ci rs p)
theorem Dn:∀ {l l':List Int},l.Perm l'->l.Pairwise (·<=·)->l'.Pairwise (·<=·)->l=l'
 | [],l',p,_,_=>(List.Perm.nil_eq p)
 | a::l,l',p,h,h'=>by
   cases l' with
   | nil=>exact absurd p.symm.nil_eq (by simp)
   | cons b r =>
     obtain ⟨h1,h2⟩:=List.pairwise_cons.mp h;obtain ⟨h1',h2'⟩:=List.pairwise_cons.mp h';have e:a=b:=by
       have ma:a∈b::r:=p.subset List.mem_cons_self;have mb:b∈a::l:=p.symm.subset List.mem_cons_self;rcases List.mem_cons.mp ma with z|z
       . exact z
       . rcases List.mem_cons.mp mb with w|w
         . exact w.symm
         . have:=h1 b w;have:=h1' a z;omega
     subst e;rw [Dn (List.Perm.cons_inv p) h2 h2']
theorem GL (n:Nat):(below n).Pairwise (·<=·):=by
 unfold below;refine List.Pairwise.map _ (fun a b (h:a<b)=>?_) List.pairwise_lt_range;omega
theorem IC (m:Int) (rs:List Road) (p:Int):(hW m rs p).Pairwise (·<=·):=(GL _).filter _
theorem A1 (m:Int) (rs:List Road) (p:Int):(hW m rs p).Nodup:=(fA _).filter _
theorem jS {m:Int} {rs:List Road} (g:Good m rs) {p q:Int}:q∈hW m rs p↔Adj rs p q:=by
 unfold hW;rw [List.mem_filter,decide_eq_true_eq,G3,dh]
 constructor
 . exact fun h=>h.2
 . intro h;obtain ⟨_,⟨a,b⟩,_⟩:=g.adj h;exact ⟨⟨a,by omega⟩,h⟩
theorem eV:∀ {l l':List Int},l.Nodup->l'.Nodup->(∀ x,x∈l↔x∈l')->l.Perm l'
 | [],l',_,_,h=>by
   cases l' with
   | nil=>exact .nil
   | cons b r=>exact absurd ((h b).mpr List.mem_cons_self) (by simp)
 | a::l,l',n,n',h=>by
   obtain ⟨n1,n2⟩:=List.nodup_cons.mp n;have ma:a∈l':=(h a).mp List.mem_cons_self;refine List.Perm.trans (List.Perm.cons a ?_) (List.perm_cons_erase ma).symm;refine eV n2 (n'.erase a) fun x=>?_
   constructor
   . intro hx;have ne:x≠a:=fun z=>n1 (z ▸ hx);exact (List.mem_erase_of_ne ne).mpr ((h x).mp (List.mem_cons_of_mem _ hx))
   . intro hx;have:x≠a:=fun z=>by
       subst z;exact (List.Nodup.not_mem_erase n') hx
     rcases List.mem_cons.mp ((h x).mpr (List.mem_of_mem_erase hx)) with z|z
     . exact absurd z this
     . exact z
theorem RL {m:Int} {rs:List Road} (g:Good m rs) {p:Int} (h0:0<=p) (h1:p<m) {zs:List Int} (hp:zs.Perm (ci rs p)) (hs:zs.Pairwise (·<=·)):zs=hW m rs p:=by
 refine Dn (hp.trans (eV (Jz g h0 h1) (A1 m rs p) fun x=>?_)) hs (IC m rs p);rw [jS g,G3]
def dR (a b:Int) (x:Road):Option Int:=if x.a=a/\x.b=b then some x.t else if x.a=b/\x.b=a then some x.u else none
def aH (rs:List Road) (a b:Int):Option Int:=rs.findSome? (dR a b)
theorem E9 {rs:List Road} {a b:Int}:(aH rs a b).isSome=true↔Adj rs a b:=by
 unfold aH;rw [List.findSome?_isSome_iff]
 constructor
 . rintro ⟨x,hx,h⟩;unfold dR at h;by_cases c:x.a=a/\x.b=b
   . exact ⟨x,hx,.inl c⟩
   . rw [if_neg c] at h;by_cases d:x.a=b/\x.b=a
     . exact ⟨x,hx,.inr ⟨d.2,d.1⟩⟩
     . rw [if_neg d] at h;cases h
 . rintro ⟨x,hx,h⟩;refine ⟨x,hx,?_⟩;unfold dR;rcases h with h|h
   . rw [if_pos h];rfl
   . by_cases c:x.a=a/\x.b=b
     . rw [if_pos c];rfl
     . rw [if_neg c,if_pos ⟨h.2,h.1⟩];rfl
def uB (x:Road) (a b:Int):Prop:=(x.a=a/\x.b=b)\/(x.b=a/\x.a=b)
theorem LZ {m:Int} {rs:List Road} (g:Good m rs) {a b:Int} {i j:Nat} {x y:Road} (hi:rs[i]?=some x) (hj:rs[j]?=some y) (jx:uB x a b) (jy:uB y a b):i=j:=by
 obtain ⟨⟨a0,a1⟩,_,_⟩:=g.adj (show Adj rs a b from ⟨x,List.mem_of_getElem? hi,jx⟩);obtain ⟨par,dep,R⟩:=mt g a0 a1;have kid:∀ z∈rs,uB z a b->(if z.a≠a/\par z.a=z.b then z.a else z.b)=b:=fun z hz jz=>by
   rcases jz with ⟨p,q⟩|⟨p,q⟩
   . rw [if_neg (fun w=>w.1 p)];exact q
   . rcases R.road z hz with w|w
     . rw [if_pos w];exact q
     . exact absurd p w.1
 have li:=(List.getElem?_eq_some_iff.mp hi);have lj:=(List.getElem?_eq_some_iff.mp hj);obtain ⟨li,ei⟩:=li;obtain ⟨lj,ej⟩:=lj;have nd:=List.pairwise_iff_getElem.mp R.one;have vi:(rs.map fun z=>if z.a≠a/\par z.a=z.b then z.a else z.b)[i]'(by rw [List.length_map];exact li)=b:=by
   rw [List.getElem_map];exact kid _ (List.getElem_mem li) (ei ▸ jx)
 have vj:(rs.map fun z=>if z.a≠a/\par z.a=z.b then z.a else z.b)[j]'(by rw [List.length_map];exact lj)=b:=by
   rw [List.getElem_map];exact kid _ (List.getElem_mem lj) (ej ▸ jy)
 rcases Nat.lt_trichotomy i j with z|z|z
 . exact absurd (vi.trans vj.symm) (nd i j _ _ z)
 . exact z
 . exact absurd (vj.trans vi.symm) (nd j i _ _ z)
theorem Kh {a b:Int} {x:Road} (h:¬ uB x a b):dR a b x=none:=by
 unfold dR;rw [if_neg (fun z=>h (.inl z)),if_neg (fun z=>h (.inr ⟨z.2,z.1⟩))]
theorem wV {m:Int} {rs:List Road} (g:Good m rs) {a b:Int} {i:Nat} {x:Road} (hi:rs[i]?=some x) (j:uB x a b):aH rs a b=dR a b x:=by
 have lt:=(List.getElem?_eq_some_iff.mp hi);obtain ⟨lt,ex⟩:=lt;have e:rs=rs.take i++x::rs.drop (i+1):=by rw [<- ex,List.getElem_cons_drop,List.take_append_drop]
 have pre:aH (rs.take i) a b=none:=by
   unfold aH;rw [List.findSome?_eq_none_iff];intro y hy;refine Kh fun jy=>?_;obtain ⟨k,hk⟩:=List.getElem?_of_mem hy;have lk:=(List.getElem?_eq_some_iff.mp hk).1;rw [List.length_take] at lk;rw [List.getElem?_take_of_lt (by omega)] at hk;have:=LZ g hk hi jy j;omega
 have hx:(dR a b x).isSome=true:=by
   unfold dR;rcases j with z|z
   . rw [if_pos z];rfl
   . by_cases c:x.a=a/\x.b=b
     . rw [if_pos c];rfl
     . rw [if_neg c,if_pos ⟨z.2,z.1⟩];rfl
 obtain ⟨v,hv⟩:=Option.isSome_iff_exists.mp hx;have:aH (rs.take i++x::rs.drop (i+1)) a b=dR a b x:=by
   unfold aH at pre ⊢;rw [List.findSome?_append,pre,List.findSome?_cons,hv]
   rfl
 rw [<- e] at this;exact this
theorem Mt {rs:List Road} {a b:Int} (h:¬ Adj rs a b):aH rs a b=none:=by
 cases q:aH rs a b with
 | none=>rfl
 | some v=>exact absurd (E9.mp (by rw [q];rfl)) h
section
variable {m:Int} {row:List Int} {rs rs':List Road}
end
end Pb
set_option Elab.async false
set_option linter.all false
set_option maxRecDepth 100000
namespace L2
open PySem PySem.Spec PyProof.Rows
def aU (CX:CXT):Prop:=∀ outer H s e s',¬ CX outer H s E0 e s'
theorem aI {CX:CXT} (q:aU CX) {X:Cx}:tW CX X E0:=fun _ _ _ _ _ _ _ h=>(q _ _ _ _ _ h).elim
structure Df (K:PySem.W.Frag) (mg:Str->Option Value) (x:Str) (st:Stmt) (ps:List Str) (f:Addr) (fd:FuncData):Prop where
 F:Fun K x x st f fd
 m:mg x=some (.ref f)
 b:Binds K fd ps []
section
variable {P:Program} {w:World} {K:PySem.W.Frag} {mg:Str->Option Value} {base:Heap} {CX:CXT}
theorem Fun.okC {x qual:Str} {st:Stmt} {f:Addr} {fd:FuncData} {N ps:List Str} {k:Nat} {sp:Sp} (F:Fun K x qual st f fd) (S:FnScope N ps (aa st)) (len:∀ vs H Q E,sp vs H Q E->vs.length=ps.length)
   (hbody:∀ (cdv:Value) (A:Around) (outer:List Env) (s:Shared) (H:Hp) (vs:List V) (Q:VK) (E:XK),Room k (A.deeper (envOfC qual (aa st) s.heap.objs.size f cdv))->sp vs H Q E ->
     ∃ t,PSs (og CX P w K mg base N qual (aa st) f cdv A outer s H E).nox (aD st) t/\t { nx:=fun _ H'=>Q .non H',rt:=Q } (start N vs) H):FnOk P w K mg base CX (k+1) f fd ps sp:=by
 obtain ⟨oc,od,kV,doc,pm,an,cdv,ct,osl,rfl,lk,hcd⟩:=F.ex;refine QX lk hcd S len fun A outer s H vs Q E hr hsp=>?_;obtain ⟨t,h,q⟩:=hbody cdv A outer s H vs Q E hr hsp;exact ⟨t,h.nox,q⟩
end
structure NmL (sc:Scope) (x:Str):Prop where
 l:sc.names.lookup x=some .local
 d:(x == ("__debug__":Str))=false
 c:(x == ("__classdict__":Str))=false
structure NmC (sc:Scope) (x:Str):Prop where
 l:sc.names.lookup x=some .cell
 d:(x == ("__debug__":Str))=false
 c:(x == ("__classdict__":Str))=false
structure NmG (sc:Scope) (x:Str):Prop where
 g:sc.names.lookup x=some .globalImplicit
 d:(x == ("__debug__":Str))=false
 n:x≠"__name__"
theorem us1 {us:List Value} (h:us.length=1):∃ a0,us=[a0]:=List.length_eq_one_iff.mp h
theorem us2 {us:List Value} (h:us.length=2):∃ a0 a1,us=[a0,a1]:=by
 cases us with
 | nil=>cases h
 | cons a0 t =>
   obtain ⟨a1,e⟩:=us1 (Nat.succ.inj h);subst e;exact ⟨a0,a1,rfl⟩
theorem us3 {us:List Value} (h:us.length=3):∃ a0 a1 a2,us=[a0,a1,a2]:=by
 cases us with
 | nil=>cases h
 | cons a0 t =>
   obtain ⟨a1,a2,e⟩:=us2 (Nat.succ.inj h);subst e;exact ⟨a0,a1,a2,rfl⟩
theorem us4 {us:List Value} (h:us.length=4):∃ a0 a1 a2 a3,us=[a0,a1,a2,a3]:=by
 cases us with
 | nil=>cases h
 | cons a0 t =>
   obtain ⟨a1,a2,a3,e⟩:=us3 (Nat.succ.inj h);subst e;exact ⟨a0,a1,a2,a3,rfl⟩
def nmL (sc:Scope) (x:Str):Bool:=decide (sc.names.lookup x=some .local) && !(x == ("__debug__":Str)) && !(x == ("__classdict__":Str))
def nmC (sc:Scope) (x:Str):Bool:=decide (sc.names.lookup x=some .cell) && !(x == ("__debug__":Str)) && !(x == ("__classdict__":Str))
def nmG (sc:Scope) (x:Str):Bool:=decide (sc.names.lookup x=some .globalImplicit) && !(x == ("__debug__":Str)) && !decide (x="__name__")
theorem NmL.of {sc:Scope} {x:Str} (h:nmL sc x=true):NmL sc x:=by
 unfold nmL at h;simp only [Bool.and_eq_true,decide_eq_true_eq,Bool.not_eq_true'] at h;exact ⟨h.1.1,h.1.2,h.2⟩
theorem NmC.of {sc:Scope} {x:Str} (h:nmC sc x=true):NmC sc x:=by
 unfold nmC at h;simp only [Bool.and_eq_true,decide_eq_true_eq,Bool.not_eq_true'] at h;exact ⟨h.1.1,h.1.2,h.2⟩
theorem NmG.of {sc:Scope} {x:Str} (h:nmG sc x=true):NmG sc x:=by
 unfold nmG at h;simp only [Bool.and_eq_true,decide_eq_true_eq,Bool.not_eq_true',decide_eq_false_iff_not] at h;exact ⟨h.1.1,h.1.2,h.2⟩
def Tv (N ps:List Str) (sc:Scope):Bool:=decide (sc.kind=.function) && !sc.isCoroutine && !sc.isGenerator && decide N.Nodup && decide (N.take ps.length=ps) && (ps.all fun x=>decide (sc.names.lookup x=some .local\/sc.names.lookup x=some .cell)) && (sc.names.all fun y=>decide (y.2≠.free))
theorem FnScope.of {N ps:List Str} {sc:Scope} (h:Tv N ps sc=true):FnScope N ps sc:=by
 unfold Tv at h;simp only [Bool.and_eq_true,decide_eq_true_eq,Bool.not_eq_true',List.all_eq_true] at h;obtain ⟨⟨⟨⟨⟨⟨h1,h2⟩,h3⟩,h4⟩,h5⟩,h6⟩,h7⟩:=h;exact ⟨h1,h2,h3,h4,h5,h6,h7⟩
theorem pvl {X:Cx} (i:Nat) {x:Str} {pos:Pos} (n:NmL X.env.scope x) (hN:X.N[i]?=some x:=by rfl):PE X (.Name x pos) (B5 i):=FE hN (.inl n.l) n.d n.c
theorem pvc {X:Cx} (i:Nat) {x:Str} {pos:Pos} (n:NmC X.env.scope x) (hN:X.N[i]?=some x:=by rfl):PE X (.Name x pos) (B5 i):=FE hN (.inr (.inl n.l)) n.d n.c
theorem Lx {CX:CXT} {P:Program} {w:World} {K:PySem.W.Frag} {mg:Str->Option Value} {base:Heap} {N:List Str} {qual:Str} {scope:Scope} {f:Addr} {cd:Value} {A:Around} {outer:List Env} {s:Shared} {H:Hp} {E:XK} :
   (og CX P w K mg base N qual scope f cd A outer s H E).K=K:=rfl
theorem Dv (D:Ends) (σ:St) (H:Hp):tNever D σ H=False:=rfl
theorem Sf (i j:Int):rK (.int i) (.int j)=true:=rfl
theorem Rv (i j:Bool):rK (.bl i) (.bl j)=true:=rfl
theorem RD (i:Int):rK (.int i) .non=true:=rfl
theorem RQ (i:Int):rK .non (.int i)=true:=rfl
theorem Sa:rK .non .non=true:=rfl
theorem R4 (i j:Str):rK (.str i) (.str j)=true:=rfl
theorem ixT {K:PySem.W.Frag} {H:Hp} {p:Addr} {xs:List V} {i:Int} {v:V} {Q:VK} (h:H p=some (.tup xs)) (e:atI xs i=some v) (q:Q v H):Ko K (.ref p) (.int i) H Q:=⟨p,xs,i,v,rfl,rfl,SqT.of h,e,q⟩
theorem ixL {K:PySem.W.Frag} {H:Hp} {p:Addr} {xs:List V} {i:Int} {v:V} {Q:VK} (h:H p=some (.lst xs)) (e:atI xs i=some v) (q:Q v H):EX K (.ref p) (.int i) H Q:=⟨p,xs,i,v,rfl,rfl,SqL.of h,e,q⟩
theorem ixS {K:PySem.W.Frag} {H:Hp} {p:Addr} {xs:List V} {i:Int} {v:V} {Q:VK} (h:SqL K H p xs) (e:atI xs i=some v) (q:Q v H):EX K (.ref p) (.int i) H Q:=⟨p,xs,i,v,rfl,rfl,h,e,q⟩
theorem tyL {K:PySem.W.Frag} {H:Hp} {l:Addr} {xs:List V} (h:H l=some (.lst xs)):tyV K "list" (.ref l) H:=.inl ⟨rfl,_,SqL.of h⟩
theorem vU {H:Hp} {l:Addr} {xs:List V} {y:V} {Q:VK} (h:H l=some (.lst xs)) (hz:xs.length<sizeLine) (q:Q .non (upd H l (.lst (xs++[y])))):rAppend (.ref l) [y] H Q:=⟨l,xs,y,rfl,rfl,h,hz,q⟩
theorem UP {H:Hp} {l:Addr} {xs:List V} {i:Int} {y:V} {Q:VK} (h:H l=some (.lst xs)) (h0:0<=i) (h1:i<=xs.length) (hz:xs.length<sizeLine) (q:Q .non (upd H l (.lst (xs.take i.toNat++y::xs.drop i.toNat)))):rInsert (.ref l) [.int i,y] H Q :=
 ⟨l,xs,i,y,rfl,rfl,h,h0,h1,hz,q⟩
theorem PK {H:Hp} {l:Addr} {xs:List V} {y:V} {Q:VK} (h:H l=some (.lst (xs++[y]))) (q:Q y (upd H l (.lst xs))):rPop (.ref l) [] H Q :=
 ⟨l,xs++[y],y,rfl,rfl,h,by simp,by rw [List.dropLast_concat];exact q⟩
theorem eP {n:Nat} (h:n<=100000):n<sizeLine:=Nat.lt_of_le_of_lt h (by decide)
theorem cq {n:Nat} (h:n<=100000):n<=sizeLine:=Nat.le_of_lt (eP h)
theorem g9 {α:Type} {xs:List α} {i:Int} {v:α} (h0:0<=i) (h:xs[i.toNat]?=some v):atI xs i=some v:=by
 obtain ⟨n,rfl⟩:∃ n:Nat,i=n:=⟨i.toNat,by omega⟩;exact R9 (by simpa using h)
theorem Af {X:Cx} {x:Str} {i:Int} {pos:Pos} (hg:Gl X x) (hm:∃ t,X.mg x=some (.int i t)) (hd:(x == ("__debug__":Str))=false:=by decide):PE X (.Name x pos) (tC (.int i)):=by
 obtain ⟨t,e⟩:=hm;exact RB hg e ⟨t,rfl⟩ hd
def Itx (K:PySem.W.Frag):Bool->Addr->It
 | true,a=>Itl K a
 | false,a=>Itt K a
def OZ (K:PySem.W.Frag) (c:Bool) (tl:TE):TI:=fun σ H R=>tl σ H fun x H1=>∃ a,x=.ref a/\(∃ xs,SqX K c H1 a xs)/\R (Itx K c a) H1
theorem Lg {X:Cx} {tg l:Expr} {tl:TE} (c:Bool) (hl:PE X l tl):PI X tg l (OZ X.K c tl):=by
 cases c
 . exact wP hl
 . exact kb hl
def t9 (J:It) (p:Addr) (Q:VK) (g:TG) (tc:TT) (te:TE) (σ0:St) (H0:Hp):Prop :=
 ∃ W:Nat->Nat->List V->St->Hp->Prop,(∃ m,W 0 m [] σ0 H0)/\∀ i m ys σc Hc,W i m ys σc Hc ->
   (J.stop i Hc/\Q (.ref p) Hc)\/(J.go i Hc/\∀ x H',J.yld i Hc x H'->g x σc H' fun σ2 H2=>tc σ2 H2 fun b H3 =>
     if b=true then te σ2 H3 fun y H4=>H4 p=some (.lst ys)/\ys.length<sizeLine/\∃ m',m'<m/\W (i+1) m' (ys++[y]) σ2 (upd H4 p (.lst (ys++[y])))
     else ∃ m',m'<m/\W (i+1) m' ys σ2 H3)
theorem Dk {own:Nat} {js:List Nat} {wi:TI} {g:TG} {tc:TT} {te:TE} {σ:St} {H:Hp} {Q:VK}:K6 own js wi g tc te σ H Q=wi σ H fun J H1=>∀ p,H1 p=none->t9 J p Q g tc te (iH own js σ) (upd H1 p (.lst [])):=rfl
def oX (J:It) (D:Ends) (g:TG) (tb:TS) (σ:St) (H:Hp):Prop:=∃ W:Nat->Nat->St->Hp->Prop,(∃ m,W 0 m σ H)/\∀ i m σ H,W i m σ H ->
 (J.stop i H/\D.nx σ H)\/(J.go i H/\∃ N:St->Hp->Prop,(∀ σ' H',N σ' H'->∃ m',m'<m/\W (i+1) m' σ' H')/\∀ x H',J.yld i H x H'->g x σ H' fun σ2 H2=>tb { D with nx:=N,ct:=N,bk:=D.nx } σ2 H2)
theorem Jc {wi:TI} {g:TG} {tb:TS} {D:Ends} {σ:St} {H:Hp}:SL wi g tb D σ H=wi σ H fun J H1=>oX J D g tb σ H1:=rfl
theorem Ax {K:PySem.W.Frag} {c:Bool} {a p:Addr} {xs:List V} {Q:VK} {g:TG} {tc:TT} {te:TE} {σ0:St} {H0:Hp} (Pv:Nat->List V->St->Hp->Prop) (h0:Pv 0 [] σ0 H0) (hl:∀ i ys σ H,i<=xs.length->Pv i ys σ H->SqX K c H a xs)
   (hs:∀ (i:Nat) (x:V) (ys:List V) (σ:St) (H:Hp) (N:List V->St->Hp->Prop),(∀ ys' σ' H',Pv (i+1) ys' σ' H'->N ys' σ' H')->xs[i]?=some x->Pv i ys σ H->g x σ H fun σ2 H2=>tc σ2 H2 fun b H3 =>
     if b=true then te σ2 H3 fun y H4=>H4 p=some (.lst ys)/\ys.length<sizeLine/\N (ys++[y]) σ2 (upd H4 p (.lst (ys++[y]))) else N ys σ2 H3)
   (hd:∀ ys σ H,Pv xs.length ys σ H->Q (.ref p) H):t9 (Itx K c a) p Q g tc te σ0 H0:=by
 refine ⟨fun i m ys σ H=>m=xs.length - i/\i<=xs.length/\Pv i ys σ H,⟨xs.length,by simp,Nat.zero_le _,h0⟩,?_⟩;rintro i m ys σ H ⟨rfl,hi,pv⟩;have q:=hl i ys σ H hi pv;by_cases hlt:i<xs.length
 . refine .inr ⟨?_,fun x H' y=>?_⟩
   . cases c
     . exact ⟨xs,xs[i],q,by simp [hlt]⟩
     . exact ⟨xs,xs[i],q,by simp [hlt]⟩
   . have e:H'=H/\xs[i]?=some x:=by
       cases c
       . exact ⟨y.1,y.2 xs q⟩
       . exact ⟨y.1,y.2 xs q⟩
     obtain ⟨rfl,hx⟩:=e;exact hs i x ys σ _ (fun ys' σ' H'=>∃ m',m'<xs.length - i/\(m'=xs.length - (i+1)/\i+1<=xs.length/\Pv (i+1) ys' σ' H')) (fun ys' σ' H' pv'=>⟨xs.length - (i+1),by omega,rfl,hlt,pv'⟩) hx pv
 . have e:i=xs.length:=by omega
   subst e;refine .inl ⟨?_,hd ys σ H pv⟩;cases c
   . exact ⟨xs,q,Nat.le_refl _⟩
   . exact ⟨xs,q,Nat.le_refl _⟩
theorem BT {lo:Int} {n:Nat} {p:Addr} {Q:VK} {g:TG} {tc:TT} {te:TE} {σ0:St} {H0:Hp} (Pv:Nat->List V->St->Hp->Prop) (h0:Pv 0 [] σ0 H0)
   (hs:∀ (i:Nat) (ys:List V) (σ:St) (H:Hp) (N:List V->St->Hp->Prop),(∀ ys' σ' H',Pv (i+1) ys' σ' H'->N ys' σ' H')->i<n->Pv i ys σ H->g (.int (lo+i)) σ H fun σ2 H2=>tc σ2 H2 fun b H3 =>
     if b=true then te σ2 H3 fun y H4=>H4 p=some (.lst ys)/\ys.length<sizeLine/\N (ys++[y]) σ2 (upd H4 p (.lst (ys++[y]))) else N ys σ2 H3)
   (hd:∀ ys σ H,Pv n ys σ H->Q (.ref p) H):t9 (Itr lo n) p Q g tc te σ0 H0:=by
 refine ⟨fun i m ys σ H=>m=n - i/\i<=n/\Pv i ys σ H,⟨n,by simp,Nat.zero_le _,h0⟩,?_⟩;rintro i m ys σ H ⟨rfl,hi,pv⟩;by_cases hlt:i<n
 . refine .inr ⟨hlt,fun x H' y=>?_⟩;obtain ⟨rfl,rfl⟩:=y;exact hs i ys σ _ (fun ys' σ' H'=>∃ m',m'<n - i/\(m'=n - (i+1)/\i+1<=n/\Pv (i+1) ys' σ' H')) (fun ys' σ' H' pv'=>⟨n - (i+1),by omega,rfl,hlt,pv'⟩) hlt pv
 . have e:i=n:=by omega
   subst e;exact .inl ⟨Nat.le_refl _,hd ys σ H pv⟩
theorem pM:bootBuiltins "len"=some (.builtin "len"):=by decide +kernel
theorem Ta:bootBuiltins "all"=some (.builtin "all"):=by decide +kernel
theorem TN:bootBuiltins "min"=some (.builtin "min"):=by decide +kernel
theorem Mw:bootBuiltins "sorted"=some (.builtin "sorted"):=by decide +kernel
theorem y9:bootBuiltins "list"=some (.type "list"):=by decide +kernel
theorem pZ:bootBuiltins "tuple"=some (.type "tuple"):=by decide +kernel
section
variable {X:Cx} {a b o e:Expr} {es:List Expr} {ta tb to:TE} {t:TA} {pos apos cpos:Pos} {f name:Str} {T id:String} {r:V->List V->Hp->VK->Prop}
theorem CU (K:PySem.W.Frag) (h:X.K=K):ml X (.type "tuple") (fun xs H Q=>∃ p ys,xs=[.ref p]/\((SqL K H p ys/\∀ l,H l=none->Q (.ref l) (upd H l (.tup ys)))\/(SqT K H p ys/\Q (.ref p) H))):=by subst h;exact ja
theorem QQ (K:PySem.W.Frag) (h:X.K=K):IxR X (EX K):=by subst h;exact bB
theorem Je (K:PySem.W.Frag) (h:X.K=K):IxR X (Ko K):=by subst h;exact iU
end
theorem A7 {x:Str} {k:NameKind}:∀ {l:List (Str × NameKind)},l.lookup x=some k->∃ y,(y,k)∈l
 | [],h=>by simp at h
 | (n,j)::r,h=>by
   rw [List.lookup_cons] at h;cases q:x == n with
   | true =>
     rw [q] at h;cases h;exact ⟨n,List.mem_cons_self⟩
   | false =>
     rw [q] at h;obtain ⟨y,hy⟩:=A7 h;exact ⟨y,List.mem_cons_of_mem _ hy⟩
theorem AL {X:Cx} {Nc:List Str} {scope:Scope} (own:Nat) (hf:∀ y∈scope.names,y.2≠.free) (hc:∀ y∈scope.names,y.2≠.cell) (hk:scope.kind=.function) (hn:∀ y∈scope.names,y.2=.local->scope.names.lookup y.1=some .local)
   (hl:Nc.length=own):CompTxt X Nc own [] scope [] where
 clos:=closureFor_none hf
 kind:=hk
 nocell:=hc
 names:=hn
 cells:=fun x c h=>by cases h
 has:=fun x h=>by
   have key:∀ k,(relabel scope X.env).names.lookup x=some k->k≠.cell/\k≠.free:=fun k e=>by
     obtain ⟨y,hy⟩:=A7 e;obtain ⟨⟨n,k0⟩,hm,e2⟩:=List.mem_map.mp hy;have h1:=hf _ hm;have h2:=hc _ hm;have e3:(k0 == NameKind.free)=false:=(by simpa using h1);simp only [e3,Bool.false_and,Bool.false_eq_true,if_false] at e2;cases e2;exact ⟨h2,h1⟩
   rcases h with h|h
   . exact absurd rfl (key _ h).1
   . exact absurd rfl (key _ h).2
 len:=by simpa using hl
 outer:=fun i x h=>by
   rw [List.getElem?_eq_none (by omega)] at h;cases h
theorem xf {K:PySem.W.Frag} {a:Addr} {xs:List V} {g:TG} {tb:TS} {D:Ends} {σ:St} {H:Hp} (Pv:Nat->St->Hp->Prop) (h0:Pv 0 σ H) (hl:∀ i σ H,i<=xs.length->Pv i σ H->SqL K H a xs)
   (hs:∀ (i:Nat) (x:V) (σ:St) (H:Hp) (N:St->Hp->Prop),(∀ σ' H',Pv (i+1) σ' H'->N σ' H')->xs[i]?=some x->Pv i σ H->g x σ H fun σ2 H2=>tb { D with nx:=N,ct:=N,bk:=D.nx } σ2 H2) (hd:∀ σ H,Pv xs.length σ H->D.nx σ H) :
   oX (Itl K a) D g tb σ H:=NJ Pv h0 hl (fun i x σ H hx p=>hs i x σ H (Pv (i+1)) (fun _ _ z=>z) hx p) hd
theorem Hh {K:PySem.W.Frag} {a:Addr} {xs:List V} {g:TG} {tb:TS} {D:Ends} {σ:St} {H:Hp} (Pv:Nat->St->Hp->Prop) (h0:Pv 0 σ H) (hl:∀ i σ H,i<=xs.length->Pv i σ H->SqT K H a xs)
   (hs:∀ (i:Nat) (x:V) (σ:St) (H:Hp) (N:St->Hp->Prop),(∀ σ' H',Pv (i+1) σ' H'->N σ' H')->xs[i]?=some x->Pv i σ H->g x σ H fun σ2 H2=>tb { D with nx:=N,ct:=N,bk:=D.nx } σ2 H2) (hd:∀ σ H,Pv xs.length σ H->D.nx σ H) :
   oX (Itt K a) D g tb σ H:=CH Pv h0 hl (fun i x σ H hx p=>hs i x σ H (Pv (i+1)) (fun _ _ z=>z) hx p) hd
theorem oV {lo:Int} {n:Nat} {g:TG} {tb:TS} {D:Ends} {σ:St} {H:Hp} (Pv:Nat->St->Hp->Prop) (h0:Pv 0 σ H)
   (hs:∀ (i:Nat) (σ:St) (H:Hp) (N:St->Hp->Prop),(∀ σ' H',Pv (i+1) σ' H'->N σ' H')->i<n->Pv i σ H->g (.int (lo+i)) σ H fun σ2 H2=>tb { D with nx:=N,ct:=N,bk:=D.nx } σ2 H2) (hd:∀ σ H,Pv n σ H->D.nx σ H) :
   oX (Itr lo n) D g tb σ H:=LV Pv h0 (fun i σ H hi p=>hs i σ H (Pv (i+1)) (fun _ _ z=>z) hi p) hd
theorem P4 {K:PySem.W.Frag} {c d:Bool} {a b:Addr} {xs ys:List V} {g:TG} {tb:TS} {D:Ends} {σ:St} {H:Hp} (Pv:Nat->St->Hp->Prop) (h0:Pv 0 σ H) (hl:∀ i σ H,Pv i σ H->SqX K c H a xs/\SqX K d H b ys)
   (hs:∀ (i:Nat) (x y:V) (σ:St) (H:Hp) (p:Addr) (N:St->Hp->Prop),(∀ σ' H',Pv (i+1) σ' H'->N σ' H')->xs[i]?=some x->ys[i]?=some y->Pv i σ H->H p=none->g (.ref p) σ (upd H p (.tup [x,y])) fun σ2 H2=>tb { D with nx:=N,ct:=N,bk:=D.nx } σ2 H2)
   (hd:∀ σ H,Pv (min xs.length ys.length) σ H->D.nx σ H):oX (Itz K c d a b) D g tb σ H:=Se Pv h0 hl (fun i x y σ H p hx hy pv hp=>hs i x y σ H p (Pv (i+1)) (fun _ _ z=>z) hx hy pv hp) hd
theorem Co {c:TT} {tb:TS} {D:Ends} {σ:St} {H:Hp} (W:Nat->St->Hp->Prop) (n0:Nat) (h0:W n0 σ H)
   (hs:∀ (n:Nat) (σ:St) (H:Hp) (N:St->Hp->Prop),(∀ n' σ' H',n'<n->W n' σ' H'->N σ' H')->(∀ σ' H',N σ' H'->∃ m',m'<n/\W m' σ' H')->W n σ H ->
     c σ H fun b H1=>if b=true then ∃ N:St->Hp->Prop,(∀ σ' H',N σ' H'->∃ m',m'<n/\W m' σ' H')/\tb { D with nx:=N,ct:=N,bk:=D.nx } σ H1 else D.nx σ H1):Gp c tb D σ H :=
 ⟨W,⟨n0,h0⟩,fun n σ H w=>hs n σ H (fun σ' H'=>∃ m',m'<n/\W m' σ' H') (fun n' _ _ hn w'=>⟨n',hn,w'⟩) (fun _ _ z=>z) w⟩
theorem p60:(0:Int)<10^(60:Int).toNat:=Int.pow_pos (by decide)
theorem IP {a:Int} {n:Nat} (h:a.natAbs<2^n):Builtin.Int.intBits a<=n:=by
 unfold Builtin.Int.intBits;by_cases z:a=0
 . subst z;simp
 . have hz:(a == 0)=false:=by simpa using z
   rw [hz];simp only [Bool.false_eq_true,if_false];have:=(Nat.log2_lt (by omega)).mpr h;omega
theorem Ti {a b:Int} (ha:a.natAbs<2^4000) (hb:b.natAbs<2^4000):IntMulOk a b :=
 IntMulOk.of_bits (Nat.le_trans (IP ha) (by decide)) (Nat.le_trans (IP hb) (by decide))
theorem OP {a b:Int} {m n:Nat} (ha:a.natAbs<2^m) (hb:b.natAbs<2^n):(a*b).natAbs<2^(m+n):=by
 rw [Int.natAbs_mul,Nat.pow_add];exact Nat.mul_lt_mul'' ha hb
open Pb
def jC (r:Road):List V:=[.int r.a,.int r.b,.int r.t,.int r.u]
abbrev RoadsAt (H:Hp):List Addr->List Road->Prop:=Paired fun p r=>H p=some (.tup (jC r))
theorem RoadsAt.same {H H':Hp} (e:Same H H') {ps:List Addr} {rs:List Road} (h:RoadsAt H ps rs):RoadsAt H' ps rs:=Paired.imp' (fun p r q=>e p _ q) h
theorem RoadsAt.get {H:Hp}:∀ {ps:List Addr} {rs:List Road} {i:Nat} {x:V},RoadsAt H ps rs->(ps.map V.ref)[i]?=some x->∃ p r,x=.ref p/\ps[i]?=some p/\rs[i]?=some r/\H p=some (.tup (jC r))
 | _,_,i,x,.nil,e=>by simp at e
 | _,_,0,x,.cons (a:=p) (b:=r) h hs,e=>⟨p,r,by simpa using e.symm,by simp,by simp,h⟩
 | a::l1,_,i+1,x,.cons h hs,e=>by
   have e':(List.map V.ref l1)[i]?=some x:=by simpa using e
   obtain ⟨p,r,h1,h2,h3,h4⟩:=RoadsAt.get hs e';exact ⟨p,r,h1,by simpa using h2,by simpa using h3,h4⟩
theorem Same.tup {K:PySem.W.Frag} {H H':Hp} {a:Addr} {xs:List V} (e:Same H H') (h:SqT K H a xs):SqT K H' a xs:=by
 rcases h with (h|⟨o,h⟩)|h
 . exact .inl (.inl (e _ _ h))
 . exact .inl (.inr ⟨o,e _ _ h⟩)
 . exact .inr h
theorem Same.sqX {K:PySem.W.Frag} {H H':Hp} {c:Bool} {a:Addr} {xs:List V} (e:Same H H') (h:SqX K c H a xs):SqX K c H' a xs:=by
 cases c
 . exact Same.tup e h
 . exact Same.seq e h
theorem Same.new {H:Hp} {p:Addr} (o:HO) (h:H p=none):Same H (upd H p o):=fun b u e=>by rw [au (bA e h)];exact e
end L2
set_option Elab.async false
set_option linter.all false
set_option maxRecDepth 100000
namespace L2
open PySem PySem.Spec PyProof.Rows
abbrev bmV:List Value:=[.type "ValueError",.type "Exception",.type "BaseException",.type "object"]
structure XCls (K:PySem.W.Frag) (C:Addr):Prop where
 ty:PySem.W.typeIn K (.ref C)=some (.type "type")
 ga:PySem.W.findIn K (.ref C) "__getattribute__"=some (some (.builtin "BaseException.__getattribute__"))
 gt:PySem.W.findIn K (.ref C) "__getattr__"=some none
 cl:PySem.W.findIn K (.ref C) "__class__"=some (some (.builtin "object.__class__"))
 gs:PySem.W.specialIn K (.builtin "object.__class__") "__get__"=some (some (.builtin "getset_descriptor.__get__"))
 tk:PySem.W.takesIn K (.builtin "object.__class__")=some true
 mo:PySem.W.mroIn K C (.type "object")=some true
 mb:PySem.W.mroIn K C (.type "BaseException")=some true
 hd:PySem.W.hasDictIn K C=true
 sf:PySem.W.mroIn K C (.ref C)=some true
section
variable {prog:Program} {w:World} {A:Around} {E:Value->Shared->Prop} {s:Shared} {K:PySem.W.Frag} {x C:Addr} {ox:Obj} {od:Option Obj}
end
end L2
set_option Elab.async false
set_option linter.all false
set_option maxRecDepth 100000
namespace L2
open PySem PySem.Spec PyProof.Rows
def mi (h:Heap) (ea:Addr) (cls:Value) (od:Option Addr) (head:Value):Prop:=∃ oe vs,h.get? ea=some oe/\oe.cls=cls/\oe.dict=od/\oe.data=.fields vs/\vs[1]?=some head/\vs[2]?=some .none
def TbO (h:Heap) (T:Addr) (fl:Value):Prop:=∃ oT ts,h.get? T=some oT/\oT.data=.fields ts/\ts[3]?=some fl
structure Err (h:Heap) (ea T:Addr) (cls:Value) (od:Option Addr) (fl:Value):Prop where
 e:mi h ea cls od (.ref T)
 t:TbO h T fl
 ne:T≠ea
structure Kept (fs xs:List Addr) (h h':Heap):Prop where
 keep:∀ b o,h.get? b=some o->b ∉ fs->b ∉ xs->h'.get? b=some o
 slot:∀ b o,h.get? b=some o->b∈fs->b ∉ xs->∃ sl,h'.get? b=some { o with slots:=sl }
 there:∀ b o,h.get? b=some o->∃ o',h'.get? b=some o'
theorem Kept.mono {fs xs ys:List Addr} {h h':Heap} (k:Kept fs xs h h') (s:∀ b∈xs,b∈ys):Kept fs ys h h':=⟨fun b o e f x=>k.keep b o e f fun z=>x (s b z),fun b o e f x=>k.slot b o e f fun z=>x (s b z),k.there⟩
theorem Kept.trans {fs xs:List Addr} {h h1 h2:Heap} (a:Kept fs xs h h1) (b:Kept fs xs h1 h2):Kept fs xs h h2 where
 keep:=fun c o e f x=>b.keep c o (a.keep c o e f x) f x
 slot:=fun c o e f x=>by
   obtain ⟨s1,e1⟩:=a.slot c o e f x;obtain ⟨s2,e2⟩:=b.slot c _ e1 f x;exact ⟨s2,e2⟩
 there:=fun c o e=>by
   obtain ⟨o1,e1⟩:=a.there c o e;exact b.there c o1 e1
theorem Kept.of_all {fs xs:List Addr} {h h':Heap} (k:∀ b o,h.get? b=some o->h'.get? b=some o):Kept fs xs h h':=⟨fun b o e _ _=>k b o e,fun b o e _ _=>⟨o.slots,k b o e⟩,fun b o e=>⟨o,k b o e⟩⟩
theorem zZ {fs xs:List Addr} {h:Heap} {a:Addr} {oa:Obj} {vs:Array Value} {i:Nat} {v:Value} (ha:h.get? a=some oa) (hd:oa.data=.fields vs) (hx:a∈xs):Kept fs xs h (h.update a (Obj.mapFields (·.setIfInBounds i v))):=by
 have oth:∀ b o,h.get? b=some o->b ∉ xs->(h.update a (Obj.mapFields (·.setIfInBounds i v))).get? b=some o:=fun b o e x=>by
   rw [Heap.get?_update_other _ _ (fun (z:a=b)=>x (z ▸ hx))];exact e
 refine ⟨fun b o e _ x=>oth b o e x,fun b o e _ x=>⟨o.slots,oth b o e x⟩,fun b o e=>?_⟩;by_cases z:b=a
 . subst z;exact ⟨_,Heap.get?_update_self _ ha (Obj.isFreed_of_fields (Obj.data_mapFields hd _))⟩
 . rw [Heap.get?_update_other _ _ (Ne.symm z)];exact ⟨o,e⟩
theorem O4 {h:Heap} {ea:Addr} {cls hd v:Value} {od:Option Addr} (e:mi h ea cls od hd):mi (h.update ea (Obj.mapFields (·.setIfInBounds 1 v))) ea cls od v:=by
 obtain ⟨oe,vs,h1,h2,h3,h4,h5,h6⟩:=e;have sz:1<vs.size:=(Array.getElem?_eq_some_iff.mp h5).1;refine ⟨_,_,Heap.get?_update_self _ h1 (Obj.isFreed_of_fields (Obj.data_mapFields h4 _)),?_,?_,Obj.data_mapFields h4 _,by simp [sz],by rw [Array.getElem?_setIfInBounds_ne (by decide)];exact h6⟩
 . rw [<- h2];exact Obj.cls_mapFields _ _
 . rw [<- h3];obtain ⟨c,d,dt,sl⟩:=oe;cases dt <;> rfl
theorem BW {h:Heap} {ea a:Addr} {cls hd:Value} {od:Option Addr} {f:Obj->Obj} (e:mi h ea cls od hd) (ne:a≠ea):mi (h.update a f) ea cls od hd:=by
 obtain ⟨oe,vs,h1,h2⟩:=e;exact ⟨oe,vs,by rw [Heap.get?_update_other _ _ ne];exact h1,h2⟩
theorem Dm {h h':Heap} {ea:Addr} {cls hd:Value} {od:Option Addr} (e:mi h ea cls od hd) (k:∀ o,h.get? ea=some o->h'.get? ea=some o):mi h' ea cls od hd:=by
 obtain ⟨oe,vs,h1,h2⟩:=e;exact ⟨oe,vs,k _ h1,h2⟩
theorem Ly {h base:Heap} {ea:Addr} {cls hd:Value} {od:Option Addr} {l:List Env} (e:mi h ea cls od hd) (f:h.FunFrames base l):ea ∉ frs l:=fun z=>by
 obtain ⟨oe,vs,h1,_,_,h4,_⟩:=e;obtain ⟨_,o,ho,hn⟩:=f.mem z;rw [h1] at ho;cases ho;exact hn vs h4
theorem QD {h base:Heap} {T:Addr} {fl:Value} {l:List Env} (e:TbO h T fl) (f:h.FunFrames base l):T ∉ frs l:=fun z=>by
 obtain ⟨oe,vs,h1,h4,_⟩:=e;obtain ⟨_,o,ho,hn⟩:=f.mem z;rw [h1] at ho;cases ho;exact hn vs h4
section
variable {M:Model} {A:Around} {E:Value->Shared->Prop} {s:Shared} {Q:Unit->Shared->Prop} {fs:List Addr} {ea T L:Addr} {cls fl hd:Value} {od:Option Addr} {base:Heap} {env:Env} {outer:List Env}
theorem Jl (r:Err s.heap ea T cls od fl) (h:∀ h',Err h' ea T cls od .none->Kept fs [T] s.heap h'->Q () { s with heap:=h' }):wpAny M A (setFlight (.ref ea) none) Q E s:=by
 obtain ⟨⟨oe,vs,h1,h2,h3,h4,h5,h6⟩,⟨oT,ts,t1,t2,t3⟩,ne⟩:=r;have sz:3<ts.size:=(Array.getElem?_eq_some_iff.mp t3).1;unfold setFlight;refine wpAny_bind (wpAny_field h1 h4 h5 ?_);rw [if_pos (by simp:(Value.ref T != Value.none)=true)];refine wpAny_setField t1 t2 sz (h _ ⟨BW ⟨oe,vs,h1,h2,h3,h4,h5,h6⟩ ne,⟨_,_,Heap.get?_update_self _ t1 (Obj.isFreed_of_fields (Obj.data_mapFields t2 _)),Obj.data_mapFields t2 _,by simp [sz]⟩,ne⟩ (zZ t1 t2 (by simp)))
theorem Ft {head:Value} {hadNext:Bool} (hfr:A.frames=some (env::outer)) (hl:s.heap.FunFrames base (env::outer)) (hf:env.frame=some L) (r:mi s.heap ea cls od hd)
   (h:∀ h' T',Err h' ea T' cls od (rawInt L)->Kept (frs (env::outer)) [ea] s.heap h'->s.heap.get? T'=none->Q () { s with heap:=h' }) :
   wpAny M A (do let a <- frameOf env;let pl <- entryPlaceOf L hadNext;let b <- EntryCells.newEntry head a .none (rawInt L) .none pl;setField (.ref ea) 1 b) Q E s:=by
 have nf:=Ly r hl;refine wpAny_bind (wpAny_frameOf_fun hfr hl hf fun g1 so=>wpAny_bind (wpAny_entryPlaceOf fun pl hpl=>?_));unfold EntryCells.newEntry newFields;refine wpAny_bind (wpAny_newObj_type ?_ (hpl.sizeOk5 _ _ _ _ _));have r1:mi g1 ea cls od hd:=Dm r fun o e=>(so.2.1 ea nf).trans e;generalize ht:({ cls:=.type "traceback",dict:=none,data:=.fields ([head,.ref L,.none,rawInt L,.none]++(if pl.isEmpty then List.replicate 6 Value.none else pl)).toArray }:Obj)=tb;have r2:mi (g1.push tb) ea cls od hd:=Dm r1 fun o e=>Heap.get?_push_of_some _ e;obtain ⟨oe,vs,e1,e2,e3,e4,e5,e6⟩:=id r2;have lt:ea<g1.objs.size:=by
   obtain ⟨_,_,e,_⟩:=r1;exact Heap.lt_size e
 have hT:(g1.push tb).get? g1.objs.size=some tb:=Heap.get?_push_size g1 (by rw [<- ht];rfl);refine wpAny_setField e1 e4 (Array.getElem?_eq_some_iff.mp e5).1 (h _ g1.objs.size ⟨O4 r2,⟨tb,([head,.ref L,.none,rawInt L,.none]++(if pl.isEmpty then List.replicate 6 Value.none else pl)).toArray,?_,by rw [<- ht],by simp⟩,Nat.ne_of_gt lt⟩ ?_ ?_)
 . rw [Heap.get?_update_other _ _ (Nat.ne_of_lt lt)];exact hT
 . have k1:Kept (frs (env::outer)) [ea] s.heap g1:=⟨fun b o e f _=>(so.2.1 b f).trans e,fun b o e _ _=>so.2.2 b o e,fun b o e=>by
     obtain ⟨sl,z⟩:=so.2.2 b o e;exact ⟨_,z⟩⟩
   exact k1.trans ((Kept.of_all fun b o e=>Heap.get?_push_of_some _ e).trans (zZ e1 e4 (by simp)))
 . exact Heap.get?_none_of_le (by rw [so.1];exact Nat.le_refl _)
theorem OG (hfr:A.frames=some (env::outer)) (hl:s.heap.FunFrames base (env::outer)) (hf:env.frame=some L) (r:mi s.heap ea cls od .none)
   (h:∀ h' T',Err h' ea T' cls od (rawInt L)->Kept (frs (env::outer)) [ea] s.heap h'->s.heap.get? T'=none->Q () { s with heap:=h' }):wpAny M A (noteFrame (.ref ea) env) Q E s:=by
 obtain ⟨oe,vs,e1,e2,e3,e4,e5,e6⟩:=id r;unfold noteFrame;simp only [hf];refine wpAny_bind (wpAny_field e1 e4 e5 ?_);rw [if_neg (by decide)];exact Ft hfr hl hf r h
theorem Rz (hfr:A.frames=some (env::outer)) (hl:s.heap.FunFrames base (env::outer)) (hf:env.frame=some L) (r:Err s.heap ea T cls od .none)
   (h:∀ h' T',Err h' ea T' cls od (rawInt L)->Kept (frs (env::outer)) [ea,T] s.heap h'->s.heap.get? T'=none->Q () { s with heap:=h' }):wpAny M A (noteFrame (.ref ea) env) Q E s:=by
 have nT:=QD r.t hl;obtain ⟨⟨oe,vs,e1,e2,e3,e4,e5,e6⟩,⟨oT,ts,t1,t2,t3⟩,ne⟩:=id r;unfold noteFrame;simp only [hf];refine wpAny_bind (wpAny_field e1 e4 e5 ?_);rw [if_pos (by simp:(Value.ref T != Value.none)=true)];refine wpAny_bind (wpAny_field t1 t2 t3 ?_);rw [if_neg (by simp [rawInt])];have k1:Kept (frs (env::outer)) [ea,T] s.heap (s.heap.update T (Obj.mapFields (·.setIfInBounds 3 Value.none))):=zZ t1 t2 (by simp);refine wpAny_bind (wpAny_setField t1 t2 (Array.getElem?_eq_some_iff.mp t3).1 ?_);refine Ft hfr (hl.of_keeps fun b o e nf=>⟨o,?_,rfl⟩) hf (BW r.e ne) fun h' T' r' k2 n=>h h' T' r' (k1.trans (k2.mono (by simp))) ?_
 . by_cases z:b=T
   . subst z;rw [t1] at e;cases e;exact absurd t2 (nf ts)
   . rw [Heap.get?_update_other _ _ (Ne.symm z)];exact e
 . cases q:s.heap.get? T' with
   | none=>rfl
   | some o =>
     obtain ⟨o',z⟩:=k1.there T' o q;rw [z] at n;cases n
theorem Ll (hfr:A.frames=some (env::outer)) (hl:s.heap.FunFrames base (env::outer)) (hf:env.frame=some L) (r:mi s.heap ea cls od .none)
   (h:∀ h' T',Err h' ea T' cls od .none->Kept (frs (env::outer)) [ea] s.heap h'->s.heap.get? T'=none->Q () { s with heap:=h' }):wpAny M A (leaving env (.ref ea)) Q E s:=by
 unfold leaving;refine wpAny_bind (OG hfr hl hf r fun h1 T1 r1 k1 n1=>Jl (fs:=frs (env::outer)) (s:={ s with heap:=h1 }) r1 fun h2 r2 k2=>h h2 T1 r2 ⟨fun b o e f x=>k2.keep b o (k1.keep b o e f x) f ?_,fun b o e f x=>?_,fun b o e=>?_⟩ n1)
 . simp only [List.mem_singleton];rintro rfl;rw [n1] at e;cases e
 . obtain ⟨s1,e1⟩:=k1.slot b o e f x;obtain ⟨s2,e2⟩:=k2.slot b _ e1 f (by
     simp only [List.mem_singleton];rintro rfl;rw [n1] at e;cases e)
   exact ⟨s2,e2⟩
 . obtain ⟨o1,e1⟩:=k1.there b o e;exact k2.there b o1 e1
theorem NC (hfr:A.frames=some (env::outer)) (hl:s.heap.FunFrames base (env::outer)) (hf:env.frame=some L) (r:Err s.heap ea T cls od .none)
   (h:∀ h' T',Err h' ea T' cls od .none->Kept (frs (env::outer)) [ea,T] s.heap h'->s.heap.get? T'=none->Q () { s with heap:=h' }):wpAny M A (leaving env (.ref ea)) Q E s:=by
 unfold leaving;refine wpAny_bind (Rz hfr hl hf r fun h1 T1 r1 k1 n1=>Jl (fs:=frs (env::outer)) (s:={ s with heap:=h1 }) r1 fun h2 r2 k2=>h h2 T1 r2 ⟨fun b o e f x=>k2.keep b o (k1.keep b o e f x) f ?_,fun b o e f x=>?_,fun b o e=>?_⟩ n1)
 . simp only [List.mem_singleton];rintro rfl;rw [n1] at e;cases e
 . obtain ⟨s1,e1⟩:=k1.slot b o e f x;obtain ⟨s2,e2⟩:=k2.slot b _ e1 f (by
     simp only [List.mem_singleton];rintro rfl;rw [n1] at e;cases e)
   exact ⟨s2,e2⟩
 . obtain ⟨o1,e1⟩:=k1.there b o e;exact k2.there b o1 e1
end
def CXe (P:Program) (w:World):CXT:=fun outer H s E e s'=>∃ (ea T:Addr) (cls:Value) (od:Option Addr) (H':Hp),e=.ref ea/\s'.os=s.os/\AllBare s'.gens/\Un (frs outer) [] H H' s.heap s'.heap/\HOk P w H' s'.heap /\
 H' ea=none/\H' T=none/\s.heap.get? ea=none/\s.heap.get? T=none/\Err s'.heap ea T cls od .none/\E cls od H'
theorem aL {P:Program} {w:World}:aU (CXe P w):=fun outer H s e s' h=>by
 obtain ⟨_,_,_,_,_,_,_,_,_,_,_,_,_,_,_,z⟩:=h;exact z
theorem FH {P:Program} {w:World} {H:Hp} {h h':Heap} {fs xs:List Addr} (x:HOk P w H h) (k:Kept fs xs h h') (f:∀ b∈fs,H b=none) (u:∀ b∈xs,H b=none):HOk P w H h':=fun a o e=>by
 refine (x a o e).stay (fun b ob hb q=>k.keep b ob q ?_ ?_) (fun _ q=>q) fun _ _ q=>q
 . intro z;rcases hb with rfl|hb
   . rw [f _ z] at e;cases e
   . rw [f _ z] at hb;cases hb
 . intro z;rcases hb with rfl|hb
   . rw [u _ z] at e;cases e
   . rw [u _ z] at hb;cases hb
theorem JS {P:Program} {w:World} {H:Hp} {h:Heap} {b:Addr} (x:HOk P w H h) (n:h.get? b=none):H b=none:=by
 cases q:H b with
 | none=>rfl
 | some o =>
   have lt:=x.lt q;cases z:h.get? b with
   | some o'=>rw [z] at n;cases n
   | none =>
     exfalso
     have:=(x b o q);cases o with
     | lst xs=>obtain ⟨_,_,_,_,e⟩:=this;rw [n] at e;cases e
     | tup xs=>obtain ⟨_,_,_,ob,e,_⟩:=this;rw [n] at e;cases e
     | dK kvs=>obtain ⟨_,_,_,_,ob,_,_,e,_⟩:=this;rw [n] at e;cases e
     | dT kvs=>obtain ⟨_,_,_,_,ob,_,_,e,_⟩:=this;rw [n] at e;cases e
     | set S m=>obtain ⟨ob,_,_,_,e,_⟩:=this;rw [n] at e;cases e
     | ins C dx fs=>obtain ⟨_,_,_,e,_⟩:=this;rw [n] at e;cases e
     | own y=>obtain ⟨_,e⟩:=this;rw [n] at e;cases e
     | xd fs=>obtain ⟨_,⟨_,_,_,e,_⟩,_⟩:=this;rw [n] at e;cases e
     | rng lo hi=>obtain ⟨_,_,_,e⟩:=this;rw [n] at e;cases e
     | frz ob u=>obtain ⟨e,_⟩:=this;rw [n] at e;cases e
     | tbl ps=>have e:h.get? b=some _:=this;rw [n] at e;cases e
     | met f y=>have e:h.get? b=some _:=this;rw [n] at e;cases e
     | ext φ=>obtain ⟨_,⟨_,e⟩,_⟩:=this;rw [n] at e;cases e
section
variable {P:Program} {w:World} {K:PySem.W.Frag} {mg:Str->Option Value} {base:Heap} {N:List Str} {qual:Str} {scope:Scope} {f:Addr} {cd:Value} {A:Around} {outer:List Env} {s:Shared} {H:Hp} {E:XK}
theorem F5 {CX:CXT} {pins:List (Addr × Obj)} {σ:St} {H':Hp} {s':Shared} {h':Heap} {xs:List Addr} (J:Inv (og CX P w K mg base N qual scope f cd A outer s H E) pins σ H' s') (k:Kept (frs (envOfC qual scope s.heap.objs.size f cd::outer)) xs s'.heap h') (nx:∀ b∈xs,s.heap.get? b=none) :
   Un (frs outer) [] H H' s.heap h':=by
 have b0:Un (frs outer) [] H H' s.heap s'.heap:=J.base;have nl:∀ b o,s.heap.get? b=some o->b ∉ xs:=fun b o e z=>by rw [nx b z] at e;cases e
 have nf:∀ b o,s.heap.get? b=some o->b ∉ frs outer->b ∉ frs (envOfC qual scope s.heap.objs.size f cd::outer):=fun b o e z m=>by
   unfold frs at m z;rw [List.filterMap_cons] at m;have:(envOfC qual scope s.heap.objs.size f cd).frame=some s.heap.objs.size:=rfl;rw [this] at m;rcases List.mem_cons.mp m with m|m
   . exact absurd (Heap.lt_size e) (by rw [m];exact Nat.lt_irrefl _)
   . exact z m
 refine ⟨fun b o e n hf hx=>k.keep b o (b0.keep b o e n hf hx) (nf b o e hf) (nl b o e),fun b o e n hf hx=>?_,b0.free,fun b o e hx=>?_,b0.tups,b0.frzs,b0.tbls⟩
 . obtain ⟨sl,e1⟩:=b0.slot b o e n hf hx;by_cases m:b∈frs (envOfC qual scope s.heap.objs.size f cd::outer)
   . obtain ⟨s2,e2⟩:=k.slot b _ e1 m (nl b o e);exact ⟨s2,e2⟩
   . exact ⟨sl,k.keep b _ e1 m (nl b o e)⟩
 . obtain ⟨o1,e1⟩:=b0.there b o e hx;exact k.there b o1 e1
theorem mU {CX:CXT} {pins:List (Addr × Obj)} {σ:St} {H':Hp} {s':Shared} (J:Inv (og CX P w K mg base N qual scope f cd A outer s H E) pins σ H' s') {b:Addr} (n:s'.heap.get? b=none):s.heap.get? b=none:=by
 cases q:s.heap.get? b with
 | none=>rfl
 | some o =>
   have b0:Un (frs outer) [] H H' s.heap s'.heap:=J.base;obtain ⟨o',e⟩:=b0.there b o q (by simp);rw [n] at e;cases e
theorem bF:tW (CXe P w) (og (CXe P w) P w K mg base N qual scope f cd A outer s H E) E:=by
 intro pins σ H1 s1 e s' I h;obtain ⟨ea,T,cls,od,H',rfl,os,bare,un,hok,n1,n2,f1,f2,er,q⟩:=h;have J:=I.call' (ch:=[]) os un hok bare (by simp);refine NC (base:=base) J.ok.frames J.stack rfl er fun h' T' er' k nT=>?_;have fr:∀ b∈frs (envOfC qual scope s.heap.objs.size f cd::outer),H' b=none:=J.stkFree;refine ⟨ea,T',cls,od,H',rfl,J.os,J.bare,F5 J k ?_,FH hok k fr ?_,n1,JS hok nT,mU I f1,mU J nT,er',q⟩
 . intro b hb;simp only [List.mem_cons,List.not_mem_nil,or_false] at hb;rcases hb with rfl|rfl
   . exact mU I f1
   . exact mU I f2
 . intro b hb;simp only [List.mem_cons,List.not_mem_nil,or_false] at hb;rcases hb with rfl|rfl
   . exact n1
   . exact n2
end
def LN (X:Cx) (E:XK):Prop:=∀ (pins:List (Addr × Obj)) (σ:St) (H:Hp) (s:Shared) (ea:Addr) (cls:Value) (od:Option Addr) (h':Heap) (tk:Nat),Inv X pins σ H s->(∀ b o,s.heap.get? b=some o->h'.get? b=some o)->s.heap.get? ea=none->mi h' ea cls od .none->E cls od H ->
 X.xe (.ref ea) { s with heap:=h',toks:=tk }
section
variable {P:Program} {w:World} {K:PySem.W.Frag} {mg:Str->Option Value} {base:Heap} {N:List Str} {qual:Str} {scope:Scope} {f:Addr} {cd:Value} {A:Around} {outer:List Env} {s:Shared} {H:Hp} {E:XK}
theorem tP:LN (og (CXe P w) P w K mg base N qual scope f cd A outer s H E) E:=by
 intro pins σ H1 s1 ea cls od h' tk I kp nw er q;have J:=I.kept (t':=tk) kp;refine Ll (base:=base) J.ok.frames J.stack rfl er fun h2 T' er' k nT=>?_;have fr:∀ b∈frs (envOfC qual scope s.heap.objs.size f cd::outer),H1 b=none:=J.stkFree;refine ⟨ea,T',cls,od,H1,rfl,J.os,J.bare,F5 J k ?_,FH J.hok k fr ?_,JS I.hok nw,JS J.hok nT,mU I nw,mU J nT,er',q⟩
 . intro b hb;rw [List.mem_singleton.mp hb];exact mU I nw
 . intro b hb;rw [List.mem_singleton.mp hb];exact JS I.hok nw
end
end L2
set_option Elab.async false
set_option linter.all false
set_option maxRecDepth 100000
namespace L2
open PySem PySem.Spec PyProof.Rows
def AF (K:PySem.W.Frag) (C:Addr):Prop:=∃ (nm qn:Str) (N:Addr) (bs bm:List Value) (hdct:Bool) (sn:List Str) (sub:List Value) (ab:Bool) (col:Option Bool) (dd:Option Addr) (k0 k1 k2 k3 k5:Option Value),
   K.lookup C=some (excClassObj nm qn C N bs bm hdct sn sub ab col dd k0 k1 k2 k3 k5 "ValueError.__new__")/\PySem.W.nsOkIn K N=true/\PySem.W.nsIn K N "__init__"=some none/\PySem.W.tailIn K bmV bm=true
theorem tN {K:PySem.W.Frag} {C:Addr} {o:Obj} (nm qn:Str) (N:Addr) (bs bm:List Value) (hdct:Bool) (sn:List Str) (sub:List Value) (ab:Bool) (col:Option Bool) (dd:Option Addr) (k0 k1 k2 k3 k5:Option Value) (l:K.lookup C=some o)
   (e:o=excClassObj nm qn C N bs bm hdct sn sub ab col dd k0 k1 k2 k3 k5 "ValueError.__new__") (a:PySem.W.nsOkIn K N=true) (b:PySem.W.nsIn K N "__init__"=some none) (c:PySem.W.tailIn K bmV bm=true):AF K C:=by
 subst e;exact ⟨_,_,_,_,_,_,_,_,_,_,_,_,_,_,_,_,l,a,b,c⟩
def LL (C:Addr) (E:XK) (t:TA):TS:=fun _ σ H=>t σ H fun vs H1=>vs.length<=sizeLine/\E (.ref C) none H1
section
variable {X:Cx} {x:Str} {np cpos pos:Pos} {e0:Expr} {es:List Expr} {t:TA} {C:Addr} {E:XK}
theorem pU (q:AF X.K C) (hc:X.calm=true) (hR:LN X E) (hg:Gl X x) (hm:X.mg x=some (.ref C)) (ha:PA X (e0::es) t) (hdb:(x == ("__debug__":Str))=false:=by decide)
   (he:starEach (e0::es) X.env=(false,eval e0 X.env)::starEach es X.env:=by rfl) (hpl:(backTo cpos (starEach es X.env)).any (·.1)=false:=by rfl):PS X (.Raise (some (.Call (.Name x np) (e0::es) [] cpos)) none pos) (LL C E t):=by
 intro pins s σ H D I h;obtain ⟨nm,qn,N,bs,bm,hdct,sn,sub,ab,col,dd,k0,k1,k2,k3,k5,ho,z5,z6,z4⟩:=q;have B:=I.mod.kin;have T0:=PySem.W.tail_of_in B z4;have N0:X.base.Ns N (X.base.nsMap N):=.of_isNs (PySem.W.isNs_of_in B z5);have hp:(backTo cpos (starEach (e0::es) X.env)).any (·.1)=false:=by
   rw [he];show (false || (backTo cpos (starEach es X.env)).any (·.1))=false;rw [hpl]
   rfl
 refine wpAny_Raise_call_subT (C:=C) (nm:=nm) (q:=qn) (N:=N) (bs:=bs) (bm:=bm) (hdct:=hdct) (sn:=sn) (sub:=sub) (ab:=ab) (col:=col) (dd:=dd) (k0:=k0) (k1:=k1) (k2:=k2) (k3:=k3) (k5:=k5) PySem.F.excBase_ValueError
   (T0.hasType (by decide +kernel)) (I.ok.hd hc) hp (PySem.W.nsMap_none_of_in B z5 z6) (y4 I hg hm ⟨rfl,?_⟩ hdb)
 have g:=ha cpos pins s σ H _ I h;rw [he] at g ⊢;refine Calls.evalArgs_plain (thn g fun us s1 ⟨vs,H1,I1,r1,q1⟩=>⟨rfl,by show us.length<=_;rw [<- r1.length];exact q1.1,I1.bk _ _ (B _ _ ho),N0.keeps I1.bk,T0.keeps I1.bk,fun h' ea m=>?_⟩);obtain ⟨tt,m1,_,_⟩:=m.there;exact hR pins σ H1 s1 ea (.ref C) none h' s1.toks I1 m.keeps m.new ⟨_,_,m1,rfl,rfl,rfl,rfl,rfl⟩ q1.2
end
section
variable {CX:CXT} {X:Cx} {k:Nat} {f C:Addr} {fd:FuncData} {ps:List Str} {sp:Sp} {dvs:List V} {ds:List Value} {x:Str} {p pos:Pos} {e:Expr} {es:List Expr} {te:TE} {t:TA} {st:Stmt} {sts:List Stmt} {ts:TS} {tx ux:(St->XK)->TS} {ex:XK->TE}
end
end L2
set_option Elab.async false
set_option linter.all false
set_option maxRecDepth 100000
namespace L2
open PySem PySem.Spec PyProof.Rows
section
variable {X:Cx} {pins:List (Addr × Obj)} {σ:St} {H:Hp} {s:Shared}
end
section
variable {K:PySem.W.Frag} {C C':Addr} {x:Addr} {ox:Obj} {od:Option Obj} {M:Model} {A:Around} {E:Value->Shared->Prop} {s:Shared} {b:Bool} {Q:Bool->Shared->Prop}
end
end L2
set_option Elab.async false
set_option linter.all false
set_option maxRecDepth 100000
namespace L2
open PySem PySem.Spec PyProof.Rows
def ExO (ea:Addr) (cls:Value) (od:Option Addr):HO:=.ext fun h=>∃ oe vs,h.get? ea=some oe/\oe.cls=cls/\oe.dict=od/\oe.data=.fields vs/\vs[2]?=some .none
section
variable {X:Cx} {pins:List (Addr × Obj)} {σ:St} {H:Hp} {s:Shared}
end
abbrev TH:=Ends->St->Value->Option Addr->Hp->Prop
def Ends.less (D:Ends) (i:Nat):Ends:={ nx:=fun σ H=>D.nx (σ.set i none) H,rt:=D.rt,bk:=fun σ H=>D.bk (σ.set i none) H,ct:=fun σ H=>D.ct (σ.set i none) H }
def Uk (K:PySem.W.Frag) (C':Addr) (i:Nat) (ts:TS) (tr:TH):TH:=fun D σ cls od H=>∃ C b,cls=.ref C/\PySem.W.mroIn K C (.ref C')=some b /\
 if b=true then ∀ ea,H ea=none->ts (D.less i) (σ.set i (some (.ref ea))) (upd H ea (ExO ea cls od)) else tr D σ cls od H
section
variable {X:Cx} {x n:Str} {np pos:Pos} {i:Nat} {C':Addr} {b0:Stmt} {suite:List Stmt} {rest:List ExceptHandler} {ts:TS} {tr:TH}
def UL (tb:(St->XK)->TS) (th:TH):TS:=fun D σ H=>tb (fun σ' cls od H'=>th D σ' cls od H') D σ H
end
end L2
set_option Elab.async false
set_option linter.all false
set_option maxRecDepth 100000
namespace L2
open PySem PySem.Spec PyProof.Rows
section
variable {P:Program} {w:World} {K:PySem.W.Frag} {mg:Str->Option Value} {base:Heap}
end
section
variable {X:Cx} {k:Nat} {f:Addr} {fd:FuncData} {ps:List Str} {sp:Sp} {x:Str} {p pos:Pos} {e:Expr} {es:List Expr} {t:TA}
end
section
variable {X:Cx}
end
def rR (cells:List (Str × Addr)):List (Str × NameKind)->List (Str × Addr)->List (Str × Addr)
 | [],acc=>acc
 | (n,k)::r,acc=>if k == .free then rR cells r ((n,(cells.lookup n).getD 0)::acc) else rR cells r acc
theorem Kd {scope:Scope} {env:Env} (h:∀ y∈scope.names,y.2=.free->(env.cells.lookup y.1).isSome=true):closureFor scope env=pure (rR env.cells scope.names []):=by
 have key:∀ (l:List (Str × NameKind)) (acc:List (Str × Addr)),(∀ y∈l,y.2=.free->(env.cells.lookup y.1).isSome=true) ->
     (forIn l acc fun (y:Str × NameKind) (c:List (Str × Addr))=>(if y.2 == NameKind.free then do let a <- cellOf env y.1;pure (ForInStep.yield ((y.1,a)::c)) else pure (ForInStep.yield c):Sem (ForInStep (List (Str × Addr)))))=(pure (rR env.cells l acc):Sem (List (Str × Addr))):=by
   intro l
   induction l with
   | nil=>intro acc _;rfl
   | cons y l ih =>
     obtain ⟨n,k⟩:=y;intro acc hh;have h1:=hh (n,k) List.mem_cons_self;have h2:∀ y∈l,y.2=.free->(env.cells.lookup y.1).isSome=true:=fun y hy=>hh y (List.mem_cons_of_mem _ hy);rw [List.forIn_cons];unfold rR;cases q:k == NameKind.free with
     | false =>
       simp only [Bool.false_eq_true,if_false,pure_bind];exact ih acc h2
     | true =>
       obtain ⟨c,hc⟩:=Option.isSome_iff_exists.mp (h1 (by simpa using q));dsimp only at hc;simp only [if_true,cellOf,hc,pure_bind,Option.getD_some];exact ih _ h2
 have:=key scope.names [] h;unfold closureFor;simp only [bind_pure];exact this
theorem Ad {cells:List (Str × Addr)} {x:Str} {c:Addr}:∀ {l:List (Str × NameKind)} {acc:List (Str × Addr)},(∀ y∈l,y.2=.free->(cells.lookup y.1).isSome=true)->(∀ x c,acc.lookup x=some c->cells.lookup x=some c)->(rR cells l acc).lookup x=some c->cells.lookup x=some c
 | [],acc,_,h2,h3=>h2 x c h3
 | (n,k)::r,acc,h1,h2,h3=>by
   have h1':∀ y∈r,y.2=.free->(cells.lookup y.1).isSome=true:=fun y hy=>h1 y (List.mem_cons_of_mem _ hy);unfold rR at h3;cases q:k == NameKind.free with
   | false =>
     rw [q] at h3;exact Ad h1' h2 (by simpa using h3)
   | true =>
     rw [q] at h3;simp only [if_true] at h3;obtain ⟨a,ha⟩:=Option.isSome_iff_exists.mp (h1 (n,k) List.mem_cons_self (by simpa using q));dsimp only at ha;rw [ha] at h3;refine Ad h1' (fun y d hy=>?_) h3;rw [List.lookup_cons] at hy;cases z:y == n with
     | true =>
       rw [z] at hy;cases hy;rw [eq_of_beq z];exact ha
     | false =>
       rw [z] at hy;exact h2 y d hy
theorem zN {cells:List (Str × Addr)} {x:Str}:∀ {l:List (Str × NameKind)} {acc:List (Str × Addr)},((∃ c,acc.lookup x=some c)\/(x,NameKind.free)∈l)->∃ c,(rR cells l acc).lookup x=some c
 | [],acc,h=>by
   rcases h with h|h
   . exact h
   . cases h
 | (n,k)::r,acc,h=>by
   unfold rR;cases q:k == NameKind.free with
   | false =>
     simp only [Bool.false_eq_true,if_false];refine zN ?_;rcases h with h|h
     . exact .inl h
     . rcases List.mem_cons.mp h with z|z
       . cases z;simp at q
       . exact .inr z
   | true =>
     simp only [if_true];refine zN ?_;by_cases z:x=n
     . subst z;exact .inl ⟨(cells.lookup x).getD 0,by rw [List.lookup_cons];simp⟩
     . rcases h with ⟨c,h⟩|h
       . refine .inl ⟨c,?_⟩;rw [List.lookup_cons];have:(x == n)=false:=(by simpa using z);rw [this];exact h
       . rcases List.mem_cons.mp h with y|y
         . cases y;exact absurd rfl z
         . exact .inr y
theorem nz {env:Env} {x:Str} {k:NameKind}:∀ {l:List (Str × NameKind)},l.lookup x=some k ->
   (l.map fun (n,k)=>if (k == NameKind.free && env.scope.kind == .function && env.kindOf n == some .cell) then (n,NameKind.cell) else (n,k)).lookup x=some (if (k == NameKind.free && env.scope.kind == .function && env.kindOf x == some .cell) then NameKind.cell else k)
 | [],h=>by simp at h
 | (n,j)::r,h=>by
   have ih:=@nz env x k r;rw [List.map_cons];rw [List.lookup_cons] at h;cases z:x == n with
   | true =>
     rw [z] at h;cases h;have e:=eq_of_beq z;subst e;by_cases q:(k == NameKind.free && env.scope.kind == .function && env.kindOf x == some .cell)=true
     . simp only [q,if_true,List.lookup_cons,z]
     . simp only [q,if_false,List.lookup_cons,z,Bool.false_eq_true]
   | false =>
     rw [z] at h;dsimp only;by_cases q:(j == NameKind.free && env.scope.kind == .function && env.kindOf n == some .cell)=true
     . rw [if_pos q,List.lookup_cons,z];exact ih h
     . rw [if_neg q,List.lookup_cons,z];exact ih h
theorem sU {X:Cx} {Nc:List Str} {scope:Scope} (own:Nat) (js:List Nat) (hc:∀ y∈scope.names,y.2≠.cell) (hk:scope.kind=.function) (hn:∀ y∈scope.names,y.2=.local->scope.names.lookup y.1=some .local) (hl:Nc.length=own+js.length)
   (hf:∀ y∈scope.names,y.2=.free->X.env.scope.names.lookup y.1=some .cell) (hX:X.env.scope.kind=.function) (hcell:∀ x,X.env.scope.names.lookup x=some .cell->∃ c,X.env.cells.lookup x=some c)
   (hU:∀ i,i<js.length->∃ x j,Nc[own+i]?=some x/\js[i]?=some j/\X.N[j]?=some x/\scope.names.lookup x=some .free):CompTxt X Nc own js scope (rR X.env.cells scope.names []):=by
 have hs:∀ y∈scope.names,y.2=.free->(X.env.cells.lookup y.1).isSome=true:=fun y hy e=>by
   obtain ⟨c,q⟩:=hcell _ (hf y hy e);rw [q]
   rfl
 have free_cell:∀ x,scope.names.lookup x=some .free->X.env.scope.names.lookup x=some .cell:=fun x h=>hf (x,.free) (PySem.mem_of_lookup h) rfl;refine ⟨Kd hs,hk,hc,hn,fun x c h=>Ad hs (fun x c z=>by simp at z) h,fun x h=>?_,hl,fun i x h=>?_⟩
 . cases q:scope.names.lookup x with
   | none =>
     exfalso
     have:(relabel scope X.env).names.lookup x=none:=by
       unfold relabel;dsimp only
       revert q
       generalize scope.names=l
       induction l with
       | nil=>intro _;rfl
       | cons y l ih =>
         obtain ⟨n,k⟩:=y;intro q;rw [List.lookup_cons] at q;cases z:x == n with
         | true=>rw [z] at q;cases q
         | false =>
           rw [z] at q;rw [List.map_cons];dsimp only;by_cases w:(k == NameKind.free && X.env.scope.kind == .function && X.env.kindOf n == some .cell)=true
           . rw [if_pos w,List.lookup_cons,z];exact ih q
           . rw [if_neg w,List.lookup_cons,z];exact ih q
     rw [this] at h;rcases h with h|h <;> cases h
   | some k =>
     have r:(relabel scope X.env).names.lookup x=some _:=nz (env:=X.env) q;cases k with
     | free=>exact zN (.inr (PySem.mem_of_lookup q))
     | cell=>exact absurd rfl (hc _ (PySem.mem_of_lookup q))
     | _ =>
       rw [r] at h;simp at h
 . have hi:i<js.length:=by
     have:=(List.getElem?_eq_some_iff.mp h).1;omega
   obtain ⟨y,j,e1,e2,e3,e4⟩:=hU i hi;rw [h] at e1;cases e1;have fc:=free_cell x e4;refine ⟨j,e2,e3,fc,?_⟩;have r:(relabel scope X.env).names.lookup x=some _:=nz (env:=X.env) e4;rw [r];have:X.env.kindOf x=some .cell:=fc;rw [this,hX]
   rfl
end L2
set_option Elab.async false
set_option linter.all false
set_option maxRecDepth 100000
namespace L2
open PySem PySem.Spec PyProof.Rows
theorem Jb:∀ {ns:List Int} {us:List Value},Vals (ns.map V.int) us->IntsAre us ns
 | [],_,h=>by cases h;exact .nil
 | n::ns,_,h=>by
   cases h with
   | cons r t =>
     obtain ⟨k,rfl⟩:=(show ∃ t,_=Value.int n t from r);exact .cons n k (Jb t)
theorem IJ:∀ {ns:List Int} {us:List Value},IntsAre us ns->Vals (ns.map V.int) us
 | _,_,.nil=>.nil
 | _,_,.cons n t r=>.cons ⟨t,rfl⟩ (IJ r)
section
variable {X:Cx}
theorem HG:ml X (.builtin "sorted") (fun xs H Q=>∃ (p:Addr) (ns:List Int),xs=[.ref p]/\SqL X.K H p (ns.map V.int)/\ns.length<64/\∀ (l:Addr) (zs:List Int),H l=none->zs.Perm ns->zs.Pairwise (·<=·)->Q (.ref l) (upd H l (.lst (zs.map V.int)))):=by
 intro pins s σ H xs us Q I r h;obtain ⟨p,ns,rfl,hp,h64,q⟩:=h;obtain ⟨u,rfl,ru⟩:=vN r;cases ru;obtain ⟨its,rv,pl,hz⟩:=I.list hp;have hi:=Jb rv;have e1:=IntsAre.length hi;refine sorted_ints pl.isList hi (by omega) fun out zs a1 a2 a3=>?_;obtain ⟨e,he⟩:=sortedAll_at s.heap its out;have hn:H (s.heap.objs.size+1)=none:=I.hok.fresh (Nat.le_succ _);have ln:zs.length=ns.length:=a2.length_eq;refine ⟨.ref (s.heap.objs.size+1),_,I.laid (a:=s.heap.objs.size+1) (o:=.lst (zs.map V.int)) (t':=s.toks) (fun b o e=>sortedAll_old e) (Nat.le_succ _) ⟨?_,out.toList,e,IJ a1,?_⟩,rfl,q _ zs hn a2 a3⟩
 . rw [List.length_map,ln];exact cq (by omega)
 . exact he
end
theorem R5 {K:PySem.W.Frag} {C T:Addr} {c0:Value} {dd:Option Addr} {cd:ClassData} {sl:Array (Option Value)} (h:K.lookup C=some ⟨c0,dd,.cls cd,sl⟩) (m:cd.mro=.ref C::.ref T::bmV) (C':Addr):PySem.W.mroIn K C (.ref C')=some (decide (C'=C) || decide (C'=T)):=by
 unfold PySem.W.mroIn PySem.W.clsIn;rw [h];simp only [Option.bind_some,m,List.isEmpty_cons,Bool.false_eq_true,if_false]
 congr 1
 by_cases h1:C'=C
 . subst h1;simp
 . by_cases h2:C'=T
   . subst h2;simp
   . have a:(Value.ref C' == Value.ref C)=false:=(by simpa using h1);have b:(Value.ref C' == Value.ref T)=false:=(by simpa using h2);simp [List.contains_cons,a,b,h1,h2]
structure XErr (K:PySem.W.Frag) (T C:Addr):Prop where
 x:XCls K C
 mr:∀ C',PySem.W.mroIn K C (.ref C')=some (decide (C'=C) || decide (C'=T))
 mv:PySem.W.mroIn K C (.type "ValueError")=some true
theorem A0 {K:PySem.W.Frag} {C:Addr} {c0:Value} {dd:Option Addr} {cd:ClassData} {sl:Array (Option Value)} {r:List Value} (h:K.lookup C=some ⟨c0,dd,.cls cd,sl⟩) (m:cd.mro=.ref C::r) {v:Value} (hv:(Value.ref C::r).contains v=true):PySem.W.mroIn K C v=some true:=by
 unfold PySem.W.mroIn PySem.W.clsIn;rw [h];simp only [Option.bind_some,m,List.isEmpty_cons,Bool.false_eq_true,if_false,hv]
section
variable {K:PySem.W.Frag} {T C:Addr} {c0:Value} {dd:Option Addr} {cd:ClassData} {sl:Array (Option Value)}
theorem IL {r:List Value} (h1:PySem.W.typeIn K (.ref C)=some (.type "type")) (h2:PySem.W.findIn K (.ref C) "__getattribute__"=some (some (.builtin "BaseException.__getattribute__"))) (h3:PySem.W.findIn K (.ref C) "__getattr__"=some none)
   (h4:PySem.W.findIn K (.ref C) "__class__"=some (some (.builtin "object.__class__"))) (h5:PySem.W.specialIn K (.builtin "object.__class__") "__get__"=some (some (.builtin "getset_descriptor.__get__"))) (h6:PySem.W.takesIn K (.builtin "object.__class__")=some true)
   (h7:PySem.W.hasDictIn K C=true) (h:K.lookup C=some ⟨c0,dd,.cls cd,sl⟩) (m:cd.mro=.ref C::r) (a:r.contains (.type "object")=true) (b:r.contains (.type "BaseException")=true):XCls K C :=
 ⟨h1,h2,h3,h4,h5,h6,A0 h m (by rw [List.contains_cons,a,Bool.or_true]),A0 h m (by rw [List.contains_cons,b,Bool.or_true]),h7,A0 h m (by simp)⟩
structure XTop (K:PySem.W.Frag) (T:Addr):Prop where
 x:XCls K T
theorem RA (h1:PySem.W.typeIn K (.ref C)=some (.type "type")) (h2:PySem.W.findIn K (.ref C) "__getattribute__"=some (some (.builtin "BaseException.__getattribute__"))) (h3:PySem.W.findIn K (.ref C) "__getattr__"=some none)
   (h4:PySem.W.findIn K (.ref C) "__class__"=some (some (.builtin "object.__class__"))) (h5:PySem.W.specialIn K (.builtin "object.__class__") "__get__"=some (some (.builtin "getset_descriptor.__get__"))) (h6:PySem.W.takesIn K (.builtin "object.__class__")=some true)
   (h7:PySem.W.hasDictIn K C=true) (h:K.lookup C=some ⟨c0,dd,.cls cd,sl⟩) (m:cd.mro=.ref C::bmV):XTop K C:=⟨IL h1 h2 h3 h4 h5 h6 h7 h m (by decide +kernel) (by decide +kernel)⟩
theorem o9 (h1:PySem.W.typeIn K (.ref C)=some (.type "type")) (h2:PySem.W.findIn K (.ref C) "__getattribute__"=some (some (.builtin "BaseException.__getattribute__"))) (h3:PySem.W.findIn K (.ref C) "__getattr__"=some none)
   (h4:PySem.W.findIn K (.ref C) "__class__"=some (some (.builtin "object.__class__"))) (h5:PySem.W.specialIn K (.builtin "object.__class__") "__get__"=some (some (.builtin "getset_descriptor.__get__"))) (h6:PySem.W.takesIn K (.builtin "object.__class__")=some true)
   (h7:PySem.W.hasDictIn K C=true) (h:K.lookup C=some ⟨c0,dd,.cls cd,sl⟩) (m:cd.mro=.ref C::.ref T::bmV):XErr K T C:=by
 have a:(Value.ref T::bmV).contains (.type "object")=true:=by rw [List.contains_cons];simp [bmV]
 have b:(Value.ref T::bmV).contains (.type "BaseException")=true:=by rw [List.contains_cons];simp [bmV]
 have c:(Value.ref T::bmV).contains (.type "ValueError")=true:=by rw [List.contains_cons];simp [bmV]
 exact ⟨IL h1 h2 h3 h4 h5 h6 h7 h m a b,R5 h m,A0 h m (by rw [List.contains_cons,c,Bool.or_true])⟩
end
section
variable {P:Program} {w:World} {K:PySem.W.Frag} {mg:Str->Option Value} {base:Heap}
theorem Fun.okX {x qual:Str} {st:Stmt} {f:Addr} {fd:FuncData} {N ps:List Str} {k:Nat} {sp:Sp} (F:Fun K x qual st f fd) (S:FnScope N ps (aa st)) (len:∀ vs H Q E,sp vs H Q E->vs.length=ps.length)
   (hbody:∀ (cdv:Value) (A:Around) (outer:List Env) (s:Shared) (H:Hp) (vs:List V) (Q:VK) (E:XK),Room k (A.deeper (envOfC qual (aa st) s.heap.objs.size f cdv))->sp vs H Q E ->
     ∃ t,PSs (og (CXe P w) P w K mg base N qual (aa st) f cdv A outer s H E) (aD st) t/\t { nx:=fun _ H'=>Q .non H',rt:=Q } (start N vs) H):FnOk P w K mg base (CXe P w) (k+1) f fd ps sp:=by
 obtain ⟨oc,od,kV,doc,pm,an,cdv,ct,osl,rfl,lk,hcd⟩:=F.ex;exact QX lk hcd S len fun A outer s H vs Q E hr hsp=>hbody cdv A outer s H vs Q E hr hsp
end
theorem Dw {C:Addr} {E:XK} {t:TA} {D:Ends} {σ:St} {H:Hp}:LL C E t D σ H=t σ H fun vs H1=>vs.length<=sizeLine/\E (.ref C) none H1:=rfl
theorem IU {tb:(St->XK)->TS} {th:TH} {D:Ends} {σ:St} {H:Hp}:UL tb th D σ H=tb (fun σ' cls od H'=>th D σ' cls od H') D σ H:=rfl
theorem Hk {K:PySem.W.Frag} {C':Addr} {i:Nat} {ts:TS} {tr:TH} {D:Ends} {σ:St} {cls:Value} {od:Option Addr} {H:Hp}:Uk K C' i ts tr D σ cls od H=∃ C b,cls=.ref C/\PySem.W.mroIn K C (.ref C')=some b /\
 if b=true then ∀ ea,H ea=none->ts (D.less i) (σ.set i (some (.ref ea))) (upd H ea (ExO ea cls od)) else tr D σ cls od H:=rfl
theorem Tj {H:Hp} {l b:Addr} {xs zs:List V} {Q:VK} (h1:H l=some (.lst xs)) (h2:H b=some (.lst zs)) (hz:xs.length+zs.length<=sizeLine) (q:∀ p,H p=none->Q (.ref p) (upd H p (.lst (xs++zs)))):rCat (.ref l) (.ref b) H Q:=⟨l,b,xs,zs,rfl,rfl,h1,h2,hz,q⟩
theorem Same.put {H H':Hp} {l:Addr} (e:Same H H') (n:H l=none) (o:HO):Same H (upd H' l o):=fun b u h=>by rw [au (bA h n)];exact e b u h
end L2
set_option Elab.async false
set_option linter.all false
set_option maxRecDepth 100000
namespace L2
open PySem PySem.Spec PyProof.Rows
theorem Nz {M:Model} {A:Around} {E:Value->Shared->Prop} {s:Shared} {env:Env} {x:Str} {px:Pos} {v:Value} {Q:Unit->Shared->Prop} (h:wpAny M A (storeName env x v) Q E s):wpAny M A (assign (.Name x px) env v) Q E s:=by
 show wpAny M A (do standAt px;bindName env x v) Q E s;exact wpAny_bind (wpAny_standAt (wpAny_bindName h))
section
variable {X:Cx} {Nc:List Str} {own:Nat} {js:List Nat} {scope:Scope} {cl:List (Str × Addr)}
theorem AR {i:Nat} {x:Str} {px pos:Pos} {elt target iter:Expr} {ifs:List Expr} {cpos:Pos} {wi:TI} {g:TG} {tc:TT} {te:TE} (hN:X.N.Nodup) (hxi:X.N[i]?=some x) (hxl:X.env.scope.names.lookup x=some .local) (hc:X.calm=true) (T:CompTxt X Nc own js scope cl)
   (hi:PI X target iter wi) (hg:∀ C s₂ H₁ fp,PG (X.comp Nc scope cl C s₂ H₁ fp) target g) (ht:∀ C s₂ H₁ fp,PTs (X.comp Nc scope cl C s₂ H₁ fp) ifs tc)
   (he:∀ C s₂ H₁ fp,PE (X.comp Nc scope cl C s₂ H₁ fp) elt te) (hs:∀ x,foldedSetIterable iter X.env x=pure x:=by intro _;rfl)
   (hsw:swapsWith (.ListComp elt [⟨target,iter,ifs,0⟩] scope cpos) (some (.Name x px)) pos.line X.env=pure true:=by rfl) :
   PS X (.Assign [.Name x px] (.ListComp elt [⟨target,iter,ifs,0⟩] scope cpos) pos) (F9 (K6 own js wi g tc te) (AZ i)):=by
 intro pins s σ H D I h;rw [exec_Assign_Name_used _ _ _ _ hsw];refine wpAny_bind (wpAny_standAt (wpAny_bind ?_));rw [arm_evalThenUse_ListComp];refine wpAny_bind ?_;refine wpAny_comprehension_free (use:=some (assign (.Name x px) X.env)) rfl hs T.clos T.kind T.names (thn (hi pins s σ H _ I h) fun v s1 h1=>thn h1 fun itv s2 h2=>?_);obtain ⟨it,fp,tn,J,H1,rfl,I1,Tn,st,f1,R⟩:=h2;have hfp:∀ b∈fp,b<s2.heap.objs.size:=fun b hb=>let ⟨o,e,_⟩:=Tn.obj _ _ st b hb;Heap.lt_size e;refine wpAny_newObj_type (wpAny_newFunctionEnv T.nocell (by intro y hy;simp at hy) (fun h₁ hns₁ hsb₁=>?_) T.kind);dsimp only at hns₁ hsb₁ ⊢;generalize hH2:s2.heap.push { cls:=.type "list",dict:=none,data:=.seq ([]:List Value).toArray }=H2 at hns₁ hsb₁ ⊢;have hC:H2.objs.size=s2.heap.objs.size+1:=by rw [<- hH2,Heap.size_push]
 have hDC:s2.heap.objs.size≠H2.objs.size:=by rw [hC];exact Nat.ne_of_lt (Nat.lt_succ_self _)
 have hCle:s2.heap.objs.size<=H2.objs.size:=by rw [hC];exact Nat.le_succ _
 have below:∀ b,b<s2.heap.objs.size->b≠H2.objs.size:=fun b hb=>by rw [hC];exact Nat.ne_of_lt (Nat.lt_succ_of_lt hb)
 have old:∀ b o,s2.heap.get? b=some o->h₁.get? b=some o:=fun b o e=>hsb₁.extBut b o (below b (Heap.lt_size e)) (Heap.get?_push_of_some _ (hH2 ▸ Heap.get?_push_of_some _ e));have hacc:∃ n,h₁.get? s2.heap.objs.size=some { cls:=.type "list",data:=.seq ([]:List Value).toArray n }:=⟨_,hsb₁.extBut _ _ hDC (Heap.get?_push_of_some _ (hH2 ▸ Heap.get?_push_size _ rfl))⟩;have st₁:tn 0 h₁:=Tn.keep _ _ _ st fun b _ o e=>old b o e;obtain ⟨W,⟨m0,w0⟩,turn⟩:=R s2.heap.objs.size I1.fresh;have Ic:=Gx (t:=s2.toks+([]:List (Str × Value)).length) T I1 hCle (Nat.le_refl _) hDC f1 hfp old hns₁ hacc;generalize hXc:X.comp Nc scope cl H2.objs.size s2 H1 fp=Xc at Ic;have stat:∀ {H':Hp},(∀ b∈fp,H' b=none)->∀ b∈fp,lp Xc [] H' b:=fun {H'} hn b hb=>by
   subst hXc;exact ⟨hn b hb,below b (hfp b hb),(C9 T I1 hCle f1 hfp).exfs b hb,.inl hb,fun x c e=>(f1 b hb).2.2.2.2.1 x c (T.cells x c e),fun p hp=>by cases hp⟩
 have fr0:∀ b∈fp,upd H1 s2.heap.objs.size (.lst []) b=none:=fun b hb=>by
   rw [au (Nat.ne_of_lt (hfp b hb))];exact (f1 b hb).1
 have calmc:Xc.calm=true:=by subst hXc;exact hc
 have loop:∀ s₃:Shared,s₃={ s2 with heap:=h₁,toks:=s2.toks+([]:List (Str × Value)).length } ->
     codeAny (model X.prog X.w) X.A (.compLoop (.ListComp elt [⟨target,iter,ifs,0⟩] scope cpos) 0 (.ref it) (.ref s2.heap.objs.size) (compEnvC scope cl H2.objs.size X.env))
       (compPost (model X.prog X.w) X.A X.xe (some (assign (.Name x px) X.env)) (fun _ s'=>wpAny (model X.prog X.w) X.A (pure ()) (fun _ s''=>wpAny (model X.prog X.w) X.A (pure Flow.next) (SP X pins D) X.xe s'') X.xe s') (.ref s2.heap.objs.size) H2.objs.size) s₃:=by
   rintro s₃ rfl;refine zv (fun n s'=>∃ i ys σ' H',Inv Xc [] σ' H' s'/\tn i s'.heap/\(∀ b∈fp,H' b=none)/\W i n ys σ' H') ?_ m0 ⟨0,[],_,_,Ic,st₁,fr0,w0⟩;rintro n s3 ⟨i,ys,σ3,H3,I3,st3,fr3,w3⟩;rcases turn i n ys σ3 H3 w3 with ⟨stop,q⟩|⟨go,step⟩
   . subst hXc;refine thn (Tn.done (X.comp Nc scope cl H2.objs.size s2 H1 fp) rfl rfl rfl hc i [] s3 σ3 H3 _ I3 (stat fr3) st3 stop) fun r s4 ⟨hr,I4⟩=>?_;subst hr;obtain ⟨m4,hn4,_⟩:=id I4.loc;have J:=DN I1 hCle f1 I4 (h':=s4.heap) (Heap.SameBut.refl _ _);have cl0:H2.objs.size≠X.env.locals:=Nat.ne_of_gt (Nat.lt_of_lt_of_le I1.lt hCle);have cy:X.s₀.heap.objs.size<=H2.objs.size:=Nat.le_trans I1.sz hCle;have cc:∀ y c,X.env.cells.lookup y=some c->c≠H2.objs.size:=fun y c e=>by
       obtain ⟨v',o',ho',_⟩:=I1.cell y c e;exact Nat.ne_of_lt (Nat.lt_of_lt_of_le (Heap.lt_size ho') hCle)
     have cp:∀ p∈X.pn++pins,p.1≠H2.objs.size:=fun p hp=>by
       obtain ⟨ho',_⟩:=I1.pin p hp;exact Nat.ne_of_lt (Nat.lt_of_lt_of_le (Heap.lt_size ho') hCle)
     refine Nz (Dl (v:=.ref s2.heap.objs.size) J hN hxi (.inl hxl) rfl (fun s5 I5 ⟨ad,sb,had⟩=>?_) (.inr hxl));have nad:H2.objs.size≠ad:=by
       rcases had with rfl|had
       . exact cl0
       . exact (cc _ _ had).symm
     obtain ⟨oo,es,ep,e1,e2⟩:=hn4;refine ⟨m4,⟨oo,es,ep,(sb.2 _ nad).trans e1,e2⟩,fun h' hs'=>wpAny_pure (wpAny_pure ⟨_,H3,?_,q⟩)⟩;exact I5.turned (it:=H2.objs.size) (t':=s5.toks) (fun b o n e=>hs'.extBut b o n e) I4.free cl0 (.inr cy) cc cp
   . subst hXc;refine thn (Tn.item (X.comp Nc scope cl H2.objs.size s2 H1 fp) rfl rfl rfl hc i [] s3 σ3 H3 _ I3 (stat fr3) st3 go) fun r s4 ⟨u,hr,h4⟩=>?_;subst hr;refine thn h4 fun _ s5 ⟨x,H5,I5,r5,y5,st5,fr5⟩=>?_;have I5':=I5.pinned (stat fr5) (Tn.obj _ _ st5);have back:∀ {σ7:St} {H7:Hp} {s7:Shared},Inv (X.comp Nc scope cl H2.objs.size s2 H1 fp) ([]++sZ fp s5.heap) σ7 H7 s7->Inv (X.comp Nc scope cl H2.objs.size s2 H1 fp) [] σ7 H7 s7/\tn (i+1) s7.heap/\∀ b∈fp,H7 b=none:=fun {σ7 H7 s7} I7=>by
       refine ⟨I7.unpinned,Tn.keep _ _ _ st5 fun b hb o e=>(I7.pin (b,o) (List.mem_append_right _ (List.mem_append_right _ (ki hb e)))).1,fun b hb=>?_⟩;obtain ⟨o,e,d⟩:=Tn.obj _ _ st5 b hb;exact (I7.pin (b,o) (List.mem_append_right _ (List.mem_append_right _ (ki hb e)))).2.1
     refine thn (hg _ _ _ _ _ s5 σ3 H5 x u _ I5' r5 (step x H5 y5)) fun _ s6 ⟨σ6,H6,I6,q6⟩=>?_;refine Cs (ht _ _ _ _ _ s6 σ6 H6 _ I6 q6) fun ok s7 H7 I7 q7=>?_;cases ok with
     | false =>
       rw [if_neg Bool.false_ne_true] at q7 ⊢;obtain ⟨m',hm,w7⟩:=q7;obtain ⟨J1,J2,J3⟩:=back I7;exact ⟨m',hm,i+1,ys,σ6,H7,J1,J2,J3,w7⟩
     | true =>
       rw [if_pos rfl] at q7 ⊢;refine bG (he _ _ _ _ _ s7 σ6 H7 _ I7 q7) fun y s8 yv H8 I8 r8 ⟨hp8,hl8,m',hm,w8⟩=>?_;refine thn (ft _ s8 σ6 H8 (.ref s2.heap.objs.size) [yv] _ [y] (fun v' H'=>W (i+1) m' (ys++[yv]) σ6 H') I8 rfl (.cons r8 .nil) ⟨_,ys,yv,rfl,rfl,hp8,hl8,w8⟩) fun v9 s9 ⟨_,H9,I9,_,w9⟩=>?_;obtain ⟨J1,J2,J3⟩:=back I9;exact ⟨m',hm,i+1,ys++[yv],σ6,H9,J1,J2,J3,w9⟩
 exact codeAny_compStart_list (loop _ rfl) (Tn.self _ 0 _ _ _ st₁ (loop _ rfl))
end
end L2
set_option Elab.async false
set_option linter.all false
set_option maxRecDepth 100000
namespace L2
open PySem PySem.Spec PyProof.Rows
end L2
set_option Elab.async false
set_option linter.all false
set_option maxRecDepth 100000
namespace Pb
open L2 PySem
def front (r:Int) (par:Int->Int) (p:Int):V:=if p=r then .non else .int (par p)
def aJ (m:Int) (rs:List Road) (fv:V) (p:Int):List Int:=(hW m rs p).filter fun v=>decide (V.int v≠fv)
variable {m:Int} {rs:List Road} {r:Int} {par:Int->Int} {dep:Int->Nat}
theorem Rooted.ne (R:Rooted m rs r par dep) {v:Int} (h0:0<=v) (h1:v<m) (hr:v≠r):par v≠v:=fun z=>by
 have:=(R.up v h0 h1 hr).2.2;rw [z] at this;omega
theorem aQ (g:Good m rs) (R:Rooted m rs r par dep) {p v:Int} (p0:0<=p) (p1:p<m):v∈aJ m rs (front r par p) p↔(0<=v/\v<m)/\v≠r/\par v=p:=by
 unfold aJ;rw [List.mem_filter,jS g,decide_eq_true_eq]
 constructor
 . rintro ⟨ad,hf⟩;obtain ⟨_,hv,_⟩:=g.adj ad;refine ⟨hv,?_⟩;obtain ⟨x,hx,j⟩:=ad;have key:∀ u w:Int,(u≠r/\par u=w)\/(w≠r/\par w=u)->u=p->w=v->v≠r/\par v=p:=fun u w h e1 e2=>by
     subst e1 e2;rcases h with h|h
     . exfalso
       apply hf;unfold front;rw [if_neg h.1,h.2]
     . exact h
   rcases j with ⟨a,b⟩|⟨a,b⟩
   . exact key x.a x.b (R.road x hx) a b
   . exact key x.b x.a (R.road x hx).symm a b
 . rintro ⟨hv,hr,hp⟩;have u:=R.up v hv.1 hv.2 hr;rw [hp] at u;refine ⟨?_,fun z=>?_⟩
   . obtain ⟨x,hx,j⟩:=u.2.1;exact ⟨x,hx,j.elim (fun q=>.inr ⟨q.2,q.1⟩) (fun q=>.inl ⟨q.2,q.1⟩)⟩
   . unfold front at z;by_cases c:p=r
     . rw [if_pos c] at z;cases z
     . rw [if_neg c] at z;have e:v=par p:=(by injection z);have w:=(R.up p p0 p1 c).2.2;have w2:=u.2.2;rw [<- e] at w;omega
theorem dF {fv:V} {p:Int}:(aJ m rs fv p).Nodup:=(A1 m rs p).filter _
def nl (m:Int) (par:Int->Int) (ks:List Int):List V:=(below m.toNat).map fun v=>if v∈ks then .int (par v) else .non
def lC (m r:Int) (par:Int->Int):List V:=(below m.toNat).map (front r par)
theorem rf {ks:List Int}:(nl m par ks).length=m.toNat:=by unfold nl;rw [List.length_map,bz]
theorem gf {n i:Nat} (h:i<n):(below n)[i]?=some (i:Int):=by unfold below;rw [List.getElem?_map,List.getElem?_range h];rfl
theorem Ma {ks:List Int} {v:Int} (h0:0<=v) (h1:v<m):(nl m par ks)[v.toNat]?=some (if v∈ks then .int (par v) else .non):=by
 unfold nl;rw [List.getElem?_map,gf (by omega)];show some (if ((v.toNat:Nat):Int)∈ks then V.int (par ((v.toNat:Nat):Int)) else V.non)=_;rw [Int.toNat_of_nonneg h0]
theorem Sx {ks:List Int} {v:Int} (h0:0<=v) (h1:v<m):(nl m par ks).set v.toNat (.int (par v))=nl m par (ks++[v]):=by
 refine List.ext_getElem? fun i=>?_;rw [List.getElem?_set];by_cases c:i<m.toNat
 . have e:∀ l:List Int,(nl m par l)[i]?=some (if (i:Int)∈l then .int (par (i:Int)) else .non):=fun l=>by
     have:=Ma (par:=par) (ks:=l) (v:=(i:Int)) (m:=m) (by omega) (by omega)
     rwa [Int.toNat_natCast] at this
   rw [e,rf];by_cases z:v.toNat=i
   . have z2:v=(i:Int):=(by omega);rw [if_pos z,if_pos (by omega),e,if_pos (by rw [z2];simp),<- z2]
   . rw [if_neg z,e];have z2:¬ ((i:Int)=v):=(by omega);simp [z2]
 . have e:∀ l:List Int,(nl m par l)[i]?=none:=fun l=>List.getElem?_eq_none (by rw [rf];omega);rw [e,e,rf];by_cases z:v.toNat=i
   . omega
   . rw [if_neg z]
structure AInv (m:Int) (rs:List Road) (r:Int) (par:Int->Int) (ks ws:List Int):Prop where
 nd:ks.Nodup
 rng:∀ k∈ks,0<=k/\k<m
 nr:r ∉ ks
 sub:∀ w∈ws,w=r\/w∈ks
 wnd:ws.Nodup
 ok:∀ v∈ks,par v ∉ ws/\(par v=r\/par v∈ks)
 dn:∀ v,0<=v->v<m->v≠r->(par v=r\/par v∈ks)->par v ∉ ws->v∈ks
theorem AInv.start:AInv m rs r par [] [r] where
 nd:=List.nodup_nil
 rng:=fun _ h=>by cases h
 nr:=fun h=>by cases h
 sub:=fun w h=>.inl (List.mem_singleton.mp h)
 wnd:=by simp
 ok:=fun _ h=>by cases h
 dn:=fun v _ _ _ h n=>by
   rcases h with h|h
   . exact absurd (by rw [h];simp) n
   . cases h
theorem AInv.at_ (J:AInv m rs r par ks ws) (r0:0<=r) (r1:r<m) {p:Int} (hp:p∈ws):0<=p/\p<m:=by
 rcases J.sub p hp with h|h
 . rw [h];exact ⟨r0,r1⟩
 . exact J.rng p h
theorem AInv.front (J:AInv m rs r par ks ws) {p:Int} (hp:p∈ws):(if p∈ks then V.int (par p) else V.non)=front r par p:=by
 unfold Pb.front;by_cases c:p=r
 . rw [if_pos c,if_neg (by rw [c];exact J.nr)]
 . rw [if_neg c,if_pos ((J.sub p hp).resolve_left c)]
theorem AInv.step (g:Good m rs) (R:Rooted m rs r par dep) (r0:0<=r) (r1:r<m) {ks ws ws':List Int} {p:Int} (J:AInv m rs r par ks ws) (e:ws.Perm (p::ws')):AInv m rs r par (ks++aJ m rs (Pb.front r par p) p) (ws'++aJ m rs (Pb.front r par p) p):=by
 have hp:p∈ws:=e.mem_iff.mpr List.mem_cons_self;have pr:=J.at_ r0 r1 hp;have mk:∀ v,v∈aJ m rs (Pb.front r par p) p↔(0<=v/\v<m)/\v≠r/\par v=p:=fun v=>aQ g R pr.1 pr.2;have nk:(aJ m rs (Pb.front r par p) p).Nodup:=dF;generalize aJ m rs (Pb.front r par p) p=kk at mk nk ⊢;have dis:∀ v∈kk,v ∉ ks:=fun v hv z=>(J.ok v z).1 (by rw [((mk v).mp hv).2.2];exact hp);obtain ⟨n1,n2⟩:=List.nodup_cons.mp (e.nodup_iff.mp J.wnd);have sw:∀ w∈ws',w∈ws:=fun w hw=>e.mem_iff.mpr (List.mem_cons_of_mem _ hw);refine ⟨?_,?_,?_,?_,?_,?_,?_⟩
 . rw [List.nodup_append];exact ⟨J.nd,nk,fun a ha b hb z=>dis b hb (z ▸ ha)⟩
 . intro k hk;rcases List.mem_append.mp hk with h|h
   . exact J.rng k h
   . exact ((mk k).mp h).1
 . intro z;rcases List.mem_append.mp z with h|h
   . exact J.nr h
   . exact ((mk r).mp h).2.1 rfl
 . intro w hw;rcases List.mem_append.mp hw with h|h
   . exact (J.sub w (sw w h)).imp id (List.mem_append_left _)
   . exact .inr (List.mem_append_right _ h)
 . rw [List.nodup_append];refine ⟨n2,nk,fun a ha b hb z=>?_⟩;subst z;rcases J.sub a (sw a ha) with h|h
   . exact ((mk a).mp hb).2.1 h
   . exact dis a hb h
 . intro v hv;rcases List.mem_append.mp hv with h|h
   . obtain ⟨o1,o2⟩:=J.ok v h;refine ⟨fun z=>?_,o2.imp id (List.mem_append_left _)⟩;rcases List.mem_append.mp z with z|z
     . exact o1 (sw _ z)
     . rcases o2 with o|o
       . exact ((mk _).mp z).2.1 o
       . exact dis _ z o
   . obtain ⟨q1,q2,q3⟩:=(mk v).mp h;rw [q3];refine ⟨fun z=>?_,(J.sub p hp).imp id (List.mem_append_left _)⟩;rcases List.mem_append.mp z with z|z
     . exact n1 z
     . obtain ⟨w1,w2,w3⟩:=(mk p).mp z;exact R.ne w1.1 w1.2 w2 w3
 . intro v v0 v1 vr h n;have nk2:par v ∉ kk:=fun z=>n (List.mem_append_right _ z);have h':par v=r\/par v∈ks:=h.imp id fun z=>(List.mem_append.mp z).resolve_right nk2;by_cases c:par v=p
   . exact List.mem_append_right _ ((mk v).mpr ⟨⟨v0,v1⟩,vr,c⟩)
   . refine List.mem_append_left _ (J.dn v v0 v1 vr h' fun z=>?_);rcases List.mem_cons.mp (e.mem_iff.mp z) with z|z
     . exact c z
     . exact n (List.mem_append_left _ z)
theorem AInv.perm {ks ws ws2:List Int} (J:AInv m rs r par ks ws) (e:ws.Perm ws2):AInv m rs r par ks ws2 where
 nd:=J.nd
 rng:=J.rng
 nr:=J.nr
 sub:=fun w h=>J.sub w (e.mem_iff.mpr h)
 wnd:=e.nodup_iff.mp J.wnd
 ok:=fun v h=>⟨fun z=>(J.ok v h).1 (e.mem_iff.mpr z),(J.ok v h).2⟩
 dn:=fun v h0 h1 hr h n=>J.dn v h0 h1 hr h fun z=>n (e.mem_iff.mp z)
theorem AInv.all (R:Rooted m rs r par dep) {ks:List Int} (J:AInv m rs r par ks []):∀ v,0<=v->v<m->v≠r->v∈ks:=by
 have key:∀ n v,dep v=n->0<=v->v<m->v≠r->v∈ks:=by
   intro n
   induction n with
   | zero =>
     intro v e v0 v1 vr;have:=(R.up v v0 v1 vr).2.2;omega
   | succ n ih =>
     intro v e v0 v1 vr;have u:=R.up v v0 v1 vr;refine J.dn v v0 v1 vr ?_ (by simp);by_cases c:par v=r
     . exact .inl c
     . exact .inr (ih (par v) (by omega) u.1.1 u.1.2 c)
 exact fun v=>key _ v rfl
theorem AInv.done (R:Rooted m rs r par dep) {ks:List Int} (J:AInv m rs r par ks []):nl m par ks=lC m r par:=by
 unfold nl lC;refine List.map_congr_left fun v hv=>?_;have hv':0<=v/\v<m:=by
   unfold below at hv;obtain ⟨k,hk,rfl⟩:=List.mem_map.mp hv;have:=List.mem_range.mp hk;omega
 unfold Pb.front;by_cases c:v=r
 . rw [if_pos c,if_neg (by rw [c];exact J.nr)]
 . rw [if_neg c,if_pos (J.all R v hv'.1 hv'.2 c)]
theorem Aa (n:Nat) (v:V):(List.replicate n [v]).flatten=List.replicate n v:=by
 induction n with
 | zero=>rfl
 | succ n ih=>rw [List.replicate_succ,List.flatten_cons,ih,List.replicate_succ];rfl
theorem TM:nl m par []=List.replicate m.toNat V.non:=by
 unfold nl;refine List.ext_getElem? fun i=>?_;by_cases c:i<m.toNat
 . rw [List.getElem?_map,gf c,List.getElem?_replicate,if_pos c];simp
 . rw [List.getElem?_eq_none (by rw [List.length_map,bz];omega),List.getElem?_eq_none (by rw [List.length_replicate];omega)]
def fE (par:Int->Int):Nat->Int->List Int
 | 0,v=>[v]
 | n+1,v=>v::fE par n (par v)
def dg (par:Int->Int) (dep:Int->Nat) (v:Int):List Int:=fE par (dep v) v
theorem Rooted.pos (R:Rooted m rs r par dep) {v:Int} (h0:0<=v) (h1:v<m) (hr:v≠r):dep v=dep (par v)+1:=(R.up v h0 h1 hr).2.2.symm
theorem uq (R:Rooted m rs r par dep):∀ (n:Nat) (v:Int),dep v=n->0<=v->v<m->(fE par n v).Nodup/\(∀ x∈fE par n v,(0<=x/\x<m)/\dep x<=n)/\(fE par n v).length=n+1
 | 0,v,e,h0,h1=>⟨by unfold fE;simp,fun x hx=>by
     unfold fE at hx;rw [List.mem_singleton.mp hx];exact ⟨⟨h0,h1⟩,by omega⟩,rfl⟩
 | n+1,v,e,h0,h1=>by
   have hr:v≠r:=fun z=>by rw [z,R.root] at e;omega
   have u:=R.up v h0 h1 hr;obtain ⟨i1,i2,i3⟩:=uq R n (par v) (by omega) u.1.1 u.1.2;unfold fE;refine ⟨List.nodup_cons.mpr ⟨fun z=>?_,i1⟩,fun x hx=>?_,by rw [List.length_cons,i3]⟩
   . have:=(i2 v z).2;omega
   . rcases List.mem_cons.mp hx with rfl|hx
     . exact ⟨⟨h0,h1⟩,by omega⟩
     . exact ⟨(i2 x hx).1,by have:=(i2 x hx).2;omega⟩
theorem dy (R:Rooted m rs r par dep) {v:Int} (h0:0<=v) (h1:v<m):dep v+1<=m.toNat:=by
 obtain ⟨i1,i2,i3⟩:=uq R _ v rfl h0 h1;have:=dv (m:=m) (by omega) i1 fun x hx=>(i2 x hx).1;omega
theorem Ip (v:Int):∀ n,(fE par n v).length=n+1:=fun n=>by
 induction n generalizing v with
 | zero=>rfl
 | succ n ih=>unfold fE;rw [List.length_cons,ih]
theorem rp (R:Rooted m rs r par dep):dg par dep r=[r]:=by unfold dg;rw [R.root];rfl
theorem gh (R:Rooted m rs r par dep) {v:Int} (h0:0<=v) (h1:v<m) (hr:v≠r):dg par dep v=v::dg par dep (par v):=by
 unfold dg;rw [R.pos h0 h1 hr]
 rfl
theorem yK (v:Int):∃ l,dg par dep v=v::l:=by
 unfold dg;cases dep v with
 | zero=>exact ⟨[],rfl⟩
 | succ n=>exact ⟨_,rfl⟩
theorem um {v:Int} (h0:0<=v) (h1:v<m):(lC m r par)[v.toNat]?=some (front r par v):=by
 unfold lC;rw [List.getElem?_map,gf (by omega)];show some (front r par ((v.toNat:Nat):Int))=_;rw [Int.toNat_of_nonneg h0]
def Tp (rs:List Road) (par:Int->Int):Nat->Int->Int
 | 0,_=>1
 | n+1,v=>(aH rs v (par v)).getD 0*Tp rs par n (par v)
def kD (rs:List Road) (par:Int->Int) (dep:Int->Nat) (v:Int):Int:=Tp rs par (dep v) v
theorem wU (R:Rooted m rs r par dep):kD rs par dep r=1:=by unfold kD;rw [R.root];rfl
theorem rA (R:Rooted m rs r par dep) {v:Int} (h0:0<=v) (h1:v<m) (hr:v≠r):kD rs par dep v=(aH rs v (par v)).getD 0*kD rs par dep (par v):=by
 unfold kD;rw [R.pos h0 h1 hr]
 rfl
theorem ue (g:Good m rs) (R:Rooted m rs r par dep) {v:Int} (h0:0<=v) (h1:v<m) (hr:v≠r):∃ k,aH rs v (par v)=some k/\2<=k/\k<=1000000:=by
 obtain ⟨x,hx,j⟩:=(R.up v h0 h1 hr).2.1;obtain ⟨i,hi⟩:=List.getElem?_of_mem hx;have ok:=g.ok x hx;rw [wV g hi j];unfold dR;by_cases c:x.a=v/\x.b=par v
 . rw [if_pos c];exact ⟨_,rfl,ok.t0,ok.t1⟩
 . rw [if_neg c];have c2:x.a=par v/\x.b=v:=by
     rcases j with j|j
     . exact absurd j c
     . exact ⟨j.2,j.1⟩
   rw [if_pos c2];exact ⟨_,rfl,ok.u0,ok.u1⟩
def nZ (m:Int) (rs:List Road) (r:Int) (par:Int->Int):Nat->Int->List Int
 | 0,v=>[v]
 | n+1,v=>v::(aJ m rs (front r par v) v).flatMap (nZ m rs r par n)
def bU (m:Int) (rs:List Road) (r:Int) (par:Int->Int) (dep:Int->Nat) (v:Int):List Int:=nZ m rs r par (m.toNat - 1 - dep v) v
theorem tY {f h:Int->List Int}:∀ {l:List Int},(∀ x∈l,f x=h x)->l.flatMap f=l.flatMap h
 | [],_=>rfl
 | a::l,e=>by rw [List.flatMap_cons,List.flatMap_cons,e a List.mem_cons_self,tY fun x hx=>e x (List.mem_cons_of_mem _ hx)]
theorem ii (g:Good m rs) (R:Rooted m rs r par dep) {v:Int} (h0:0<=v) (h1:v<m):bU m rs r par dep v=v::(aJ m rs (front r par v) v).flatMap (bU m rs r par dep):=by
 have mk:∀ u,u∈aJ m rs (front r par v) v->(0<=u/\u<m)/\u≠r/\par u=v:=fun u=>(aQ g R h0 h1).mp;have du:∀ u∈aJ m rs (front r par v) v,dep u=dep v+1/\dep u+1<=m.toNat:=fun u hu=>by
   obtain ⟨w1,w2,w3⟩:=mk u hu;have:=R.pos w1.1 w1.2 w2;rw [w3] at this;exact ⟨this,dy R w1.1 w1.2⟩
 unfold bU;cases e:m.toNat - 1 - dep v with
 | zero =>
   have:aJ m rs (front r par v) v=[]:=List.eq_nil_iff_forall_not_mem.mpr fun u hu=>by
     have:=du u hu;omega
   rw [this]
   rfl
 | succ n =>
   show v::(aJ m rs (front r par v) v).flatMap (nZ m rs r par n)=_;rw [tY fun u hu=>show nZ m rs r par n u=nZ m rs r par (m.toNat - 1 - dep u) u by rw [show m.toNat - 1 - dep u=n by have:=du u hu;omega]]
def up (par:Int->Int):Nat->Int->Int
 | 0,x=>x
 | k+1,x=>par (up par k x)
theorem Bt {f:Int->List Int}:∀ {l:List Int},l.Nodup->(∀ u∈l,(f u).Nodup)->(∀ u∈l,∀ w∈l,∀ x,x∈f u->x∈f w->u=w)->(l.flatMap f).Nodup
 | [],_,_,_=>by simp
 | a::l,n,h1,h2=>by
   obtain ⟨n1,n2⟩:=List.nodup_cons.mp n;rw [List.flatMap_cons,List.nodup_append];refine ⟨h1 a List.mem_cons_self,Bt n2 (fun u hu=>h1 u (List.mem_cons_of_mem _ hu)) (fun u hu w hw=>h2 u (List.mem_cons_of_mem _ hu) w (List.mem_cons_of_mem _ hw)),fun x hx y hy z=>?_⟩;subst z;obtain ⟨w,hw,hxw⟩:=List.mem_flatMap.mp hy;have:=h2 a List.mem_cons_self w (List.mem_cons_of_mem _ hw) x hx hxw;exact n1 (this ▸ hw)
theorem tH (g:Good m rs) (R:Rooted m rs r par dep):∀ (n:Nat) (v:Int),0<=v->v<m->(nZ m rs r par n v).Nodup/\∀ x∈nZ m rs r par n v,(0<=x/\x<m)/\∃ k,dep x=dep v+k/\up par k x=v
 | 0,v,h0,h1=>⟨by unfold nZ;simp,fun x hx=>by
     unfold nZ at hx;rw [List.mem_singleton.mp hx];exact ⟨⟨h0,h1⟩,0,rfl,rfl⟩⟩
 | n+1,v,h0,h1=>by
   have mk:∀ u,u∈aJ m rs (front r par v) v->(0<=u/\u<m)/\u≠r/\par u=v:=fun u=>(aQ g R h0 h1).mp;have nk:(aJ m rs (front r par v) v).Nodup:=dF;have ih:=fun u hu=>tH g R n u (mk u hu).1.1 (mk u hu).1.2;have du:∀ u∈aJ m rs (front r par v) v,dep u=dep v+1:=fun u hu=>by
     obtain ⟨w1,w2,w3⟩:=mk u hu;have:=R.pos w1.1 w1.2 w2;rw [w3] at this;exact this
   unfold nZ;refine ⟨List.nodup_cons.mpr ⟨fun z=>?_,Bt nk (fun u hu=>(ih u hu).1) fun u hu w hw x hx hy=>?_⟩,fun x hx=>?_⟩
   . obtain ⟨u,hu,hv⟩:=List.mem_flatMap.mp z;obtain ⟨_,k,e,_⟩:=(ih u hu).2 v hv;have:=du u hu;omega
   . obtain ⟨_,k1,e1,f1⟩:=(ih u hu).2 x hx;obtain ⟨_,k2,e2,f2⟩:=(ih w hw).2 x hy;have d1:=du u hu;have d2:=du w hw;have:k1=k2:=(by omega);rw [<- f1,<- f2,this]
   . rcases List.mem_cons.mp hx with rfl|hx
     . exact ⟨⟨h0,h1⟩,0,rfl,rfl⟩
     . obtain ⟨u,hu,hv⟩:=List.mem_flatMap.mp hx;obtain ⟨xr,k,e,f⟩:=(ih u hu).2 x hv;exact ⟨xr,k+1,by rw [e,du u hu];omega,by show par (up par k x)=v;rw [f];exact (mk u hu).2.2⟩
theorem NR (g:Good m rs) (R:Rooted m rs r par dep) {v:Int} (h0:0<=v) (h1:v<m):(bU m rs r par dep v).length<=24:=by
 obtain ⟨n1,n2⟩:=tH g R (m.toNat - 1 - dep v) v h0 h1;have:=dv (m:=m) (by omega) n1 fun x hx=>(n2 x hx).1;have:=g.m24;unfold bU;omega
end Pb
set_option Elab.async false
set_option linter.all false
set_option maxRecDepth 100000
namespace L2
open PySem PySem.Spec PyProof.Rows
def Itv (K:PySem.W.Frag) (a:Addr) (n:Nat):It :=
 ⟨fun i H=>i<n/\∃ xs x,SqL K H a xs/\xs[n - 1 - i]?=some x,fun i H x H'=>H'=H/\∀ xs,SqL K H a xs->xs[n - 1 - i]?=some x,fun i H=>n<=i⟩
theorem PH {P:Program} {w:World} {K:PySem.W.Frag} {tg:Expr} (a it:Addr) (n:Nat):Turn P w K tg (Itv K a n) [it] it (fun i h=>i<=n/\h.IsRevIter it a ((n:Int) - 1 - (i:Int))) where
 mem:=by simp
 obj:=fun i h st b hb=>by
   have e:b=it:=by simpa using hb
   subst e;obtain ⟨_,o,e,c,d⟩:=st;exact ⟨o,e,fun v z=>by rw [d] at z;cases z⟩
 keep:=fun i h h' st k=>⟨st.1,st.2.at fun o e=>k it (by simp) o e⟩
 item:=by
   intro X hP hw hK hc i pins s σ H E I hf st hg;subst hP hw hK;obtain ⟨hi,xs,x,hq,hx⟩:=hg;obtain ⟨its,rv,p,hz⟩:=I.list hq;obtain ⟨u,hu,ru⟩:=rv.get hx;obtain ⟨f0,f1,f2,f3,f4,f5⟩:=hf it (by simp);have e0:(n:Int) - 1 - (i:Int)=((n - 1 - i:Nat):Int):=by omega
   have st2:=st.2;rw [e0] at st2;refine wpAny_pyNext_rev_item st2 p.isList (x:=u) (by simpa using hu) fun h' st' sb=>?_;have I1:Inv X pins σ H { s with heap:=h' }:=I.turned (t':=s.toks) (fun b o hb e=>(sb.2 b hb).trans e) f0 f1 f3 f4 f5;obtain ⟨o,e,c,d⟩:=id st';have e1:((n - 1 - i:Nat):Int) - 1=(n:Int) - 1 - ((i+1:Nat):Int):=by omega
   rw [e1] at st';exact ⟨u,rfl,Ew (s:={ s with heap:=h' }) e c d (by decide) ⟨x,H,I1,ru,⟨rfl,fun ys hy=>by rw [I.list_inj hy hq];exact hx⟩,⟨hi,st'⟩,fun b hb=>(hf b hb).1⟩⟩
 done:=by
   intro X hP hw hK hc i pins s σ H E I hf st hg;subst hP hw hK;have hg':n<=i:=hg;obtain ⟨f0,f1,f2,f3,f4,f5⟩:=hf it (by simp);have st2:=st.2;have st1:=st.1;rw [show (n:Int) - 1 - (i:Int)=-1 by omega] at st2;exact wpAny_pyNext_rev_end (I.ok.hd hc) st2 fun h' eb=>⟨rfl,I.turned (t':=s.toks) (fun b o hb e=>eb b o hb e) f0 f1 f3 f4 f5⟩
 self:=fun _ _ _ _ _ st h=>wpAny_pyIter_revIter st.2 h
def Od (K:PySem.W.Frag) (tl:TE):TI:=fun σ H R=>tl σ H fun x H1=>∃ a xs,x=.ref a/\SqL K H1 a xs/\R (Itv K a xs.length) H1
section
variable {X:Cx} {tg e:Expr} {te:TE} {p2 pos:Pos}
theorem LY (hg:Gl X "reversed") (hm:X.mg "reversed"=none) (he:PE X e te) (h2:starEach [e] X.env=[(false,eval e X.env)]:=by rfl):PI X tg (.Call (.Name "reversed" p2) [e] [] pos) (Od X.K te):=by
 intro pins s σ H R I h;refine Call_ (qy I hg hm boot_reversed (PyProof.Rows.callWith_type1 ?_ h2 rfl));rw [h2];show wpAny _ _ (spliced ((false,eval e X.env)::backTo pos [])) _ _ s;refine Calls.spliced_cons (bG (he pins s σ H _ I h) fun u s1 x H1 I1 r1 q1=>Calls.spliced_nil ?_);obtain ⟨a,ys,ex,sa,q⟩:=q1;subst ex;cases r1;obtain ⟨its,rv,pl,hz⟩:=I1.list sa;refine call_reversed_list pl.isList ?_;have sz:its.toArray.size=ys.length:=by rw [List.size_toArray,rv.length]
 rw [sz];refine wpAny_pyIter_revIter (i:=(ys.length:Int) - 1) (l:=a) ⟨_,Heap.get?_push_size _ rfl,rfl,rfl⟩ ?_;refine ⟨s1.heap.objs.size,[s1.heap.objs.size],_,_,H1,rfl,I1.kept (t':=s1.toks) fun b o e=>Heap.get?_push_of_some _ e,PH a _ ys.length,⟨Nat.zero_le _,?_⟩,fun b hb=>?_,q⟩
 . exact ⟨_,Heap.get?_push_size _ rfl,rfl,by simp [revObj]⟩
 . have e:b=s1.heap.objs.size:=by simpa using hb
   subst e;exact I1.fpOk (Nat.le_refl _) (I1.hok.fresh (Nat.le_refl _))
end
theorem Qn {K:PySem.W.Frag} {a:Addr} {xs:List V} {g:TG} {tb:TS} {D:Ends} {σ:St} {H:Hp} (Pv:Nat->St->Hp->Prop) (h0:Pv 0 σ H) (hl:∀ i σ H,i<=xs.length->Pv i σ H->SqL K H a xs)
   (hs:∀ (i:Nat) (x:V) (σ:St) (H:Hp) (N:St->Hp->Prop),(∀ σ' H',Pv (i+1) σ' H'->N σ' H')->xs.reverse[i]?=some x->Pv i σ H->g x σ H fun σ2 H2=>tb { D with nx:=N,ct:=N,bk:=D.nx } σ2 H2) (hd:∀ σ H,Pv xs.length σ H->D.nx σ H) :
   oX (Itv K a xs.length) D g tb σ H:=by
 refine ⟨fun i m σ H=>m=xs.length - i/\i<=xs.length/\Pv i σ H,⟨xs.length,by simp,Nat.zero_le _,h0⟩,?_⟩;rintro i m σ H ⟨rfl,hi,p⟩;have q:=hl i σ H hi p;by_cases hlt:i<xs.length
 . have hx:xs[xs.length - 1 - i]?=some xs[xs.length - 1 - i]:=List.getElem?_eq_getElem (by omega);refine .inr ⟨⟨hlt,xs,_,q,hx⟩,fun σ' H'=>∃ m',m'<xs.length - i/\(m'=xs.length - (i+1)/\i+1<=xs.length/\Pv (i+1) σ' H'),fun σ' H' z=>z,fun x H' y=>?_⟩;obtain ⟨e,y⟩:=y;subst e;exact hs i x σ _ _ (fun σ' H' p'=>⟨xs.length - (i+1),by omega,rfl,hlt,p'⟩) (by rw [List.getElem?_reverse hlt];exact y xs q) p
 . have e:i=xs.length:=by omega
   subst e;exact .inl ⟨Nat.le_refl _,hd σ H p⟩
end L2
set_option Elab.async false
set_option linter.all false
set_option maxRecDepth 100000
namespace L2
open PySem PySem.Spec PyProof.Rows
def L9 (te:TE):TE:=fun σ H Q=>te σ H fun x H1=>∃ i,x=.int i/\0<=i/\i<=100000/\∀ l,H1 l=none->Q (.ref l) (upd H1 l (.lst ((Pb.below i.toNat).map V.int)))
section
variable {X:Cx} {e:Expr} {te:TE} {p1 p2 pos pos2:Pos}
end
end L2
set_option Elab.async false
set_option linter.all false
set_option maxRecDepth 100000
namespace L2
open PySem PySem.Spec PyProof.Rows PySem.W
section
variable {X:Cx}
end
end L2
set_option Elab.async false
set_option linter.all false
set_option maxRecDepth 100000
namespace L2
open PySem PySem.Spec PyProof.Rows
theorem Ty:bootBuiltins "sum"=some (.builtin "sum"):=by decide +kernel
theorem zG (ns:List Int):∀ n,n<=ns.length->preSum (fun i=>ns.getD i 0) n=(ns.take n).sum
 | 0,_=>by simp [preSum]
 | n+1,h=>by
   have ih:=zG ns n (by omega);have hn:n<ns.length:=by omega
   rw [List.take_succ,List.getElem?_eq_getElem hn,List.sum_append,<- ih];simp [preSum,List.getD,hn]
section
variable {X:Cx}
theorem O3 (hc:X.calm=true):ml X (.builtin "sum") (fun xs H Q=>∃ (p:Addr) (ns:List Int),xs=[.ref p]/\(SqL X.K H p (ns.map V.int)\/SqT X.K H p (ns.map V.int))/\Q (.int ns.sum) H):=by
 intro pins s σ H xs us Q I r h;obtain ⟨p,ns,rfl,hp,q⟩:=h;obtain ⟨u,rfl,ru⟩:=vN r;cases ru;have hh:X.A.in1.handled=none:=I.ok.hd hc;have vals:∀ {its:List Value},Vals (ns.map V.int) its->its.length=ns.length/\∀ (i:Nat) (v:Value),its.toArray[i]?=some v->∃ t,v=Value.int (ns.getD i 0) t:=by
   intro its rv;have hlen:its.length=ns.length:=by rw [<- rv.length,List.length_map]
   refine ⟨hlen,fun i v hP=>?_⟩;have hi:its[i]?=some v:=by simpa using hP
   have hib:i<ns.length:=by rw [<- hlen];exact (List.getElem?_eq_some_iff.mp hi).1
   obtain ⟨u,hu,ru⟩:=rv.get (i:=i) (x:=V.int ns[i]) (by rw [List.getElem?_map,List.getElem?_eq_getElem hib];rfl);rw [hi] at hu;cases hu;obtain ⟨t,e⟩:=(show ∃ t,v=Value.int ns[i] t from ru);exact ⟨t,by rw [e];simp [List.getD,hib]⟩
 have fin:∀ {n:Nat},n=ns.length->preSum (fun i=>ns.getD i 0) n=ns.sum:=fun {n} e=>by rw [zG ns n (by omega),List.take_of_length_le (by omega)]
 rcases hp with hp|hp
 . obtain ⟨its,rv,pl,hz⟩:=I.list hp;obtain ⟨hlen,hv⟩:=vals rv;have hl:=pl.isList;have hlt:=pl.lt;refine call_sum_walkG (wpAny_pyIter_list hl ?_);refine ⟨s.heap.objs.size,[s.heap.objs.size,p],[s.heap.objs.size],its.toArray.size,_,_,fun i=>ns.getD i 0,rfl,Walks.list (A:=X.A.in1) hh _ p (Nat.ne_of_lt hlt) its.toArray,
     ⟨⟨_,Heap.get?_push_size _ rfl,rfl,rfl⟩,hl.push _⟩,fun b hb=>?_,fun i v hP=>hv i v hP,fun h' tk t' hk=>?_⟩
   . simp only [Heap.push,Array.size_push];rcases List.mem_cons.mp hb with e|e
     . rw [e];exact Nat.lt_succ_self _
     . rw [List.mem_singleton.mp e];exact Nat.lt_succ_of_lt hlt
   . have kk:∀ b o,s.heap.get? b=some o->h'.get? b=some o:=fun b o eb=>hk b o (fun hm=>by rw [List.mem_singleton.mp hm] at eb;exact Nat.lt_irrefl _ (Heap.lt_size eb)) (Heap.get?_push_of_some _ eb);rw [fin (by rw [List.size_toArray,hlen])];exact ⟨.int _,H,I.kept (t':=tk) kk,⟨t',rfl⟩,q⟩
 . obtain ⟨its,rv,pl,hz⟩:=I.tuple hp;obtain ⟨hlen,hv⟩:=vals rv;have hl:s.heap.IsTuple p its.toArray:=pl;have hlt:p<s.heap.objs.size:=by
     obtain ⟨o,e,_⟩:=id hl;exact Heap.lt_size e
   refine call_sum_walkG (wpAny_pyIter_tuple hl ?_);refine ⟨s.heap.objs.size,[s.heap.objs.size,p],[s.heap.objs.size],its.toArray.size,_,_,fun i=>ns.getD i 0,rfl,Walks.tuple (A:=X.A.in1) hh _ p (Nat.ne_of_lt hlt) its.toArray,
     ⟨⟨_,Heap.get?_push_size _ rfl,rfl,rfl⟩,hl.push _⟩,fun b hb=>?_,fun i v hP=>hv i v hP,fun h' tk t' hk=>?_⟩
   . simp only [Heap.push,Array.size_push];rcases List.mem_cons.mp hb with e|e
     . rw [e];exact Nat.lt_succ_self _
     . rw [List.mem_singleton.mp e];exact Nat.lt_succ_of_lt hlt
   . have kk:∀ b o,s.heap.get? b=some o->h'.get? b=some o:=fun b o eb=>hk b o (fun hm=>by rw [List.mem_singleton.mp hm] at eb;exact Nat.lt_irrefl _ (Heap.lt_size eb)) (Heap.get?_push_of_some _ eb);rw [fin (by rw [List.size_toArray,hlen])];exact ⟨.int _,H,I.kept (t':=tk) kk,⟨t',rfl⟩,q⟩
end
def Ul (_ j:Int):Prop:=0<j/\j<18446744073709551616
theorem Gy {X:Cx}:OpR X (binaryOp .FloorDiv) (rI Ul fun i j=>.int (i / j)):=opI fun i j _ _ _ _ _ hc q=>by
 have h1:(0:Int)<j:=hc.1;have h2:j<18446744073709551616:=hc.2;refine floordiv_int (by omega) (by rw [Int.fdiv_eq_ediv_of_nonneg i (by omega)];exact q) (.inl ?_);have h3:j.natAbs.log2<64:=(Nat.log2_lt (by omega)).mpr (by omega);unfold Builtin.divisionGoesByPylong;have hz:(j == 0)=false:=by simp;omega
 simp only [hz,Bool.false_eq_true,if_false];have:¬ (j.natAbs.log2 / 30+1 > 300):=by omega
 simp [this]
theorem Js {X:Cx} (K:PySem.W.Frag) (hK:X.K=K) {es:List Expr} {k:Nat} {pos:Pos} {t:TGs} {n:Nat} (hc:X.calm=true) (h:PGs X es t)
   (hn:(assignEach es X.env).length=n:=by rfl) (hst:(assignEach es X.env).findIdx? (·.1)=none:=by rfl):PG X (.Tuple es k pos) (JU K n t):=by
 subst hK;exact sV hc h hn hst
theorem OS {K:PySem.W.Frag} {c d:Bool} {a b p:Addr} {xs zs:List V} {Q:VK} {g:TG} {tc:TT} {te:TE} {σ0:St} {H0:Hp} (Pv:Nat->List V->St->Hp->Prop) (h0:Pv 0 [] σ0 H0) (hl:∀ i ys σ H,Pv i ys σ H->SqX K c H a xs/\SqX K d H b zs)
   (hs:∀ (i:Nat) (x z:V) (ys:List V) (σ:St) (H:Hp) (q:Addr) (N:List V->St->Hp->Prop),(∀ ys' σ' H',Pv (i+1) ys' σ' H'->N ys' σ' H')->xs[i]?=some x->zs[i]?=some z->Pv i ys σ H->H q=none->g (.ref q) σ (upd H q (.tup [x,z])) fun σ2 H2=>tc σ2 H2 fun b H3 =>
     if b=true then te σ2 H3 fun y H4=>H4 p=some (.lst ys)/\ys.length<sizeLine/\N (ys++[y]) σ2 (upd H4 p (.lst (ys++[y]))) else N ys σ2 H3)
   (hd:∀ ys σ H,Pv (min xs.length zs.length) ys σ H->Q (.ref p) H):t9 (Itz K c d a b) p Q g tc te σ0 H0:=by
 refine ⟨fun i m ys σ H=>m=min xs.length zs.length - i/\i<=min xs.length zs.length/\Pv i ys σ H,⟨_,rfl,Nat.zero_le _,h0⟩,?_⟩;rintro i m ys σ H ⟨rfl,hi,pv⟩;obtain ⟨q1,q2⟩:=hl i ys σ H pv;by_cases hlt:i<min xs.length zs.length
 . refine .inr ⟨⟨xs,zs,xs[i]'(by omega),zs[i]'(by omega),q1,q2,List.getElem?_eq_getElem (by omega),List.getElem?_eq_getElem (by omega)⟩,fun x H' y=>?_⟩;obtain ⟨p',x',y',hp,rfl,rfl,e1,e2⟩:=y;exact hs i x' y' ys σ H p' (fun ys' σ' H'=>∃ m',m'<min xs.length zs.length - i/\(m'=min xs.length zs.length - (i+1)/\i+1<=min xs.length zs.length/\Pv (i+1) ys' σ' H')) (fun ys' σ' H' pv'=>⟨min xs.length zs.length - (i+1),by omega,rfl,hlt,pv'⟩) (e1 xs q1) (e2 zs q2) pv hp
 . have e:i=min xs.length zs.length:=by omega
   subst e;exact .inl ⟨⟨xs,zs,q1,q2,by omega⟩,hd ys σ H pv⟩
theorem AE {H:Hp} {l:Addr} {xs:List V} {i:Int} {v:V} {Q:Hp->Prop} (h:H l=some (.lst xs)) (i0:0<=i) (i1:i<xs.length) (q:Q (upd H l (.lst (xs.set i.toNat v)))):rSetL (.ref l) (.int i) v H Q :=
 ⟨l,xs,i,i.toNat,rfl,rfl,h,by unfold ixN;rw [if_pos i0,if_pos (by omega)],q⟩
theorem atG {xs:List Int} {i:Int} (i0:0<=i) (i1:i<xs.length):atI (xs.map V.int) i=some (.int (xs.getD i.toNat 0)):=g9 i0 (by
 have h:i.toNat<xs.length:=by omega
 rw [List.getElem?_map,List.getElem?_eq_getElem h];simp [List.getD,h])
theorem Q7 (n:Nat) (v:V):(List.replicate n [v]).flatten=List.replicate n v:=by
 induction n with
 | zero=>rfl
 | succ n ih=>rw [List.replicate_succ,List.flatten_cons,ih,List.replicate_succ];rfl
theorem B0 {xs:List Int} {n:Nat} {v:Int} (h:∀ x∈xs,0<=x) (hv:0<=v):∀ x∈xs.set n v,0<=x:=fun x hx=>by
 rcases List.mem_or_eq_of_mem_set hx with h1|h1
 . exact h x h1
 . rw [h1];exact hv
theorem IZ {xs:List Int} (h:∀ x∈xs,0<=x) (n:Nat):0<=xs.getD n 0:=by
 by_cases z:n<xs.length
 . rw [List.getD,List.getElem?_eq_getElem z];exact h _ (List.getElem_mem z)
 . rw [List.getD,List.getElem?_eq_none (by omega)];exact Int.le_refl _
theorem zI {X:Cx}:Tm X (EX X.K):=by
 intro pins s σ H x y v u Q I rx ry h;obtain ⟨p,xs,i,z,rfl,rfl,hq,he,q⟩:=h;cases rx;obtain ⟨t,rfl⟩:=ry;obtain ⟨its,r,pl,hz⟩:=I.list hq;obtain ⟨j,h1,h2,h3,h4,h5⟩:=B7 he;obtain ⟨w,ew,rw'⟩:=r.get h2;have hl:=r.length;have hn:=qh;have fin:EP X pins σ Q w s:=⟨z,H,I,rw',q⟩;by_cases h0:0<=i
 . have hj:i.toNat=j:=by
     rw [seqIndex_of h0 h5] at h1;exact Option.some.inj h1
   exact wpAny_getItem_list pl.isList h0 (by omega) (by rw [hj];simpa using ew) fin
 . have hj:(i+(its.toArray.size:Int)).toNat=j:=by
     rw [seqIndex_neg (by omega) h4] at h1;rw [List.size_toArray,<- hl];exact Option.some.inj h1
   exact wpAny_getItem_list_neg pl.isList (by omega) (by rw [List.size_toArray] <;> omega) (by omega) (by rw [hj];simpa using ew) fin
theorem NQ {K:PySem.W.Frag} {a p:Addr} {xs:List V} {Q:VK} {g:TG} {tc:TT} {te:TE} {σ0:St} {H0:Hp} (Pv:Nat->List V->St->Hp->Prop) (h0:Pv 0 [] σ0 H0) (hl:∀ i ys σ H,i<=xs.length->Pv i ys σ H->SqL K H a xs)
   (hs:∀ (i:Nat) (x:V) (ys:List V) (σ:St) (H:Hp) (N:List V->St->Hp->Prop),(∀ ys' σ' H',Pv (i+1) ys' σ' H'->N ys' σ' H')->xs.reverse[i]?=some x->Pv i ys σ H->g x σ H fun σ2 H2=>tc σ2 H2 fun b H3 =>
     if b=true then te σ2 H3 fun y H4=>H4 p=some (.lst ys)/\ys.length<sizeLine/\N (ys++[y]) σ2 (upd H4 p (.lst (ys++[y]))) else N ys σ2 H3)
   (hd:∀ ys σ H,Pv xs.length ys σ H->Q (.ref p) H):t9 (Itv K a xs.length) p Q g tc te σ0 H0:=by
 refine ⟨fun i m ys σ H=>m=xs.length - i/\i<=xs.length/\Pv i ys σ H,⟨xs.length,by simp,Nat.zero_le _,h0⟩,?_⟩;rintro i m ys σ H ⟨rfl,hi,pv⟩;have q:=hl i ys σ H hi pv;by_cases hlt:i<xs.length
 . have hx:xs[xs.length - 1 - i]?=some xs[xs.length - 1 - i]:=List.getElem?_eq_getElem (by omega);refine .inr ⟨⟨hlt,xs,_,q,hx⟩,fun x H' y=>?_⟩;obtain ⟨e,y⟩:=y;subst e;exact hs i x ys σ _ (fun ys' σ' H'=>∃ m',m'<xs.length - i/\(m'=xs.length - (i+1)/\i+1<=xs.length/\Pv (i+1) ys' σ' H')) (fun ys' σ' H' pv'=>⟨xs.length - (i+1),by omega,rfl,hlt,pv'⟩) (by rw [List.getElem?_reverse hlt];exact y xs q) pv
 . have e:i=xs.length:=by omega
   subst e;exact .inl ⟨Nat.le_refl _,hd ys σ H pv⟩
end L2
set_option Elab.async false
set_option linter.all false
set_option maxRecDepth 100000
namespace Pb
open L2
def After (par:Int->Int):List Int->List Int->Prop
 | _,[]=>True
 | S,c::t=>par c∈S/\After par (c::S) t
section
variable {m:Int} {rs:List Road} {r:Int} {par:Int->Int} {dep:Int->Nat}
theorem After.mono:∀ {l S S':List Int},(∀ x∈S,x∈S')->After par S l->After par S' l
 | [],_,_,_,_=>trivial
 | c::t,S,S',h,a=>⟨h _ a.1,After.mono (fun x hx=>by
     rcases List.mem_cons.mp hx with e|e
     . exact List.mem_cons.mpr (.inl e)
     . exact List.mem_cons_of_mem _ (h x e)) a.2⟩
theorem After.append:∀ {l1 l2 S:List Int},After par S l1->After par S l2->After par S (l1++l2)
 | [],_,_,_,b=>b
 | c::t,l2,S,a,b=>⟨a.1,After.append a.2 (b.mono fun x hx=>List.mem_cons_of_mem _ hx)⟩
theorem After.up:∀ {A B S:List Int},After par S (A++B)->∀ k∈A,par k∈S\/par k∈A
 | [],_,_,_,k,hk=>by cases hk
 | c::t,B,S,a,k,hk=>by
   rcases List.mem_cons.mp hk with e|e
   . rw [e];exact .inl a.1
   . rcases After.up (A:=t) (B:=B) a.2 k e with h|h
     . rcases List.mem_cons.mp h with h|h
       . exact .inr (by rw [h];exact List.mem_cons_self)
       . exact .inl h
     . exact .inr (List.mem_cons_of_mem _ h)
structure Order (m r:Int) (par:Int->Int) (t:List Int):Prop where
 nd:(r::t).Nodup
 rng:∀ v∈t,0<=v/\v<m
 all:∀ v,0<=v->v<m->v=r\/v∈t
 af:After par [r] t
theorem Order.ne {t:List Int} (O:Order m r par t) {v:Int} (h:v∈t):v≠r:=fun z=>(List.nodup_cons.mp O.nd).1 (z ▸ h)
theorem Bp (g:Good m rs) (R:Rooted m rs r par dep):∀ (n:Nat) (v:Int) (S:List Int),0<=v->v<m->par v∈S->After par S (nZ m rs r par n v)
 | 0,v,S,_,_,h=>⟨h,trivial⟩
 | n+1,v,S,h0,h1,h=>by
   refine ⟨h,?_⟩;have:∀ (ks:List Int) (S:List Int),v∈S->(∀ u∈ks,u∈aJ m rs (front r par v) v)->After par S (ks.flatMap (nZ m rs r par n)):=by
     intro ks
     induction ks with
     | nil=>intro S _ _;exact trivial
     | cons u ks ih =>
       intro S hv hk;rw [List.flatMap_cons];obtain ⟨w1,w2,w3⟩:=(aQ g R h0 h1).mp (hk u List.mem_cons_self);exact (Bp g R n u S w1.1 w1.2 (by rw [w3];exact hv)).append (ih S hv fun x hx=>hk x (List.mem_cons_of_mem _ hx))
   exact this _ _ List.mem_cons_self fun u hu=>hu
theorem AQ (g:Good m rs) (R:Rooted m rs r par dep) (r0:0<=r) (r1:r<m) (nd:(bU m rs r par dep r).Nodup) (al:∀ v,v∈bU m rs r par dep r↔0<=v/\v<m):∃ t,bU m rs r par dep r=r::t/\Order m r par t:=by
 have e:=ii g R r0 r1;refine ⟨_,e,?_⟩;rw [e] at nd al;refine ⟨nd,fun v hv=>(al v).mp (List.mem_cons_of_mem _ hv),fun v h0 h1=>List.mem_cons.mp ((al v).mpr ⟨h0,h1⟩),?_⟩;have:∀ ks:List Int,(∀ u∈ks,u∈aJ m rs (front r par r) r)->After par [r] (ks.flatMap (bU m rs r par dep)):=by
   intro ks
   induction ks with
   | nil=>intro _;exact trivial
   | cons u ks ih =>
     intro hk;rw [List.flatMap_cons];obtain ⟨w1,w2,w3⟩:=(aQ g R r0 r1).mp (hk u List.mem_cons_self);exact (Bp g R _ u [r] w1.1 w1.2 (by rw [w3];exact List.mem_cons_self)).append (ih fun x hx=>hk x (List.mem_cons_of_mem _ hx))
 exact this _ fun u hu=>hu
def xX (m:Int) (rs:List Road) (r:Int) (par:Int->Int) (held:Int->Int) (con:Int->Int->Int):Nat->Int->Int
 | 0,v=>held v
 | n+1,v=>held v+((aJ m rs (front r par v) v).map fun c=>con c (xX m rs r par held con n c)).sum
def gat (m:Int) (rs:List Road) (r:Int) (par:Int->Int) (dep:Int->Nat) (held:Int->Int) (con:Int->Int->Int) (v:Int):Int:=xX m rs r par held con (m.toNat - 1 - dep v) v
variable {held:Int->Int} {con:Int->Int->Int}
theorem aX (g:Good m rs) (R:Rooted m rs r par dep) {v:Int} (h0:0<=v) (h1:v<m):gat m rs r par dep held con v=held v+((aJ m rs (front r par v) v).map fun c=>con c (gat m rs r par dep held con c)).sum:=by
 have mk:∀ u,u∈aJ m rs (front r par v) v->(0<=u/\u<m)/\u≠r/\par u=v:=fun u=>(aQ g R h0 h1).mp;have du:∀ u∈aJ m rs (front r par v) v,dep u=dep v+1/\dep u+1<=m.toNat:=fun u hu=>by
   obtain ⟨w1,w2,w3⟩:=mk u hu;have:=R.pos w1.1 w1.2 w2;rw [w3] at this;exact ⟨this,dy R w1.1 w1.2⟩
 unfold gat;cases e:m.toNat - 1 - dep v with
 | zero =>
   have:aJ m rs (front r par v) v=[]:=List.eq_nil_iff_forall_not_mem.mpr fun u hu=>by
     have:=du u hu;omega
   rw [this];simp [xX]
 | succ n =>
   show held v+_=_;rw [List.map_congr_left fun u hu=>show con u (xX m rs r par held con n u)=con u (xX m rs r par held con (m.toNat - 1 - dep u) u) by rw [show m.toNat - 1 - dep u=n by have:=du u hu;omega]]
theorem vR {l l':List Int} (h:l.Perm l'):l.sum=l'.sum:=by
 induction h with
 | nil=>rfl
 | cons x _ ih=>rw [List.sum_cons,List.sum_cons,ih]
 | swap x y l=>simp only [List.sum_cons];omega
 | trans _ _ h1 h2=>exact h1.trans h2
def qU (par:Int->Int) (con:Int->Int->Int) (cs:List Int) (v:Int):List Int:=cs.set (par v).toNat (cs.getD (par v).toNat 0+con v (cs.getD v.toNat 0))
structure Sofar (m:Int) (rs:List Road) (r:Int) (par:Int->Int) (dep:Int->Nat) (held:Int->Int) (con:Int->Int->Int) (t cs:List Int):Prop where
 len:(cs.length:Int)=m
 val:∀ v,0<=v->v<m->cs.getD v.toNat 0=held v+((t.filter fun c=>decide (par c=v)).map fun c=>con c (gat m rs r par dep held con c)).sum
theorem Sofar.nil {hs:List Int} (h:(hs.length:Int)=m):Sofar m rs r par dep (fun v=>hs.getD v.toNat 0) con [] hs:=⟨h,fun v _ _=>by simp⟩
theorem HZ (g:Good m rs) (R:Rooted m rs r par dep) {t:List Int} (nd:t.Nodup) (tr:∀ x∈t,(0<=x/\x<m)/\x≠r) {v:Int} (h0:0<=v) (h1:v<m) (hk:∀ k,0<=k->k<m->k≠r->par k=v->k∈t):(t.filter fun c=>decide (par c=v)).Perm (aJ m rs (front r par v) v):=by
 refine eV (nd.filter _) dF fun x=>?_;rw [List.mem_filter,aQ g R h0 h1,decide_eq_true_eq];exact ⟨fun h=>⟨(tr x h.1).1,(tr x h.1).2,h.2⟩,fun h=>⟨hk x h.1.1 h.1.2 h.2.1 h.2.2,h.2.2⟩⟩
theorem Sofar.full (g:Good m rs) (R:Rooted m rs r par dep) {t cs:List Int} (s:Sofar m rs r par dep held con t cs) (nd:t.Nodup) (tr:∀ x∈t,(0<=x/\x<m)/\x≠r) {v:Int} (h0:0<=v) (h1:v<m) (hk:∀ k,0<=k->k<m->k≠r->par k=v->k∈t):cs.getD v.toNat 0=gat m rs r par dep held con v:=by
 rw [s.val v h0 h1,aX g R h0 h1,vR ((HZ g R nd tr h0 h1 hk).map _)]
theorem Sofar.step (g:Good m rs) (R:Rooted m rs r par dep) {t cs:List Int} (s:Sofar m rs r par dep held con t cs) {v:Int} (h0:0<=v) (h1:v<m) (hr:v≠r) (e:cs.getD v.toNat 0=gat m rs r par dep held con v):Sofar m rs r par dep held con (v::t) (qU par con cs v) where
 len:=by unfold qU;rw [List.length_set];exact s.len
 val:=fun u u0 u1=>by
   have pu:=(R.up v h0 h1 hr).1;have sl:=s.len;have vu:=s.val u u0 u1;unfold qU;rw [e];by_cases c:par v=u
   . have hl:u.toNat<cs.length:=(by omega);rw [List.filter_cons_of_pos (by simpa using c),List.map_cons,List.sum_cons,c];rw [show (cs.set u.toNat (cs.getD u.toNat 0+con v (gat m rs r par dep held con v))).getD u.toNat 0=cs.getD u.toNat 0+con v (gat m rs r par dep held con v) by simp [List.getD,hl],vu];omega
   . rw [List.filter_cons_of_neg (by simpa using c),<- vu];have:(par v).toNat≠u.toNat:=(by omega);simp [List.getD,List.getElem?_set_ne this]
theorem Order.places {t:List Int} (O:Order m r par t):∀ x∈t,(0<=x/\x<m)/\x≠r:=fun x hx=>⟨O.rng x hx,O.ne hx⟩
theorem Order.turn (g:Good m rs) (R:Rooted m rs r par dep) {t cs:List Int} (O:Order m r par t) {i:Nat} {v:Int} (s:Sofar m rs r par dep held con (t.drop (t.length - i)) cs) (hv:t.reverse[i]?=some v) :
   ((0<=v/\v<m)/\v≠r)/\cs.getD v.toNat 0=gat m rs r par dep held con v/\Sofar m rs r par dep held con (t.drop (t.length - (i+1))) (qU par con cs v):=by
 have hi:i<t.length:=by
   have:=(List.getElem?_eq_some_iff.mp hv).1
   rwa [List.length_reverse] at this
 rw [List.getElem?_reverse hi] at hv;generalize hj:t.length - 1 - i=j at hv;have ej:t.length - i=j+1:=by omega
 have ej':t.length - (i+1)=j:=by omega
 rw [ej] at s;rw [ej'];have hjl:j<t.length:=by omega
 have vm:v∈t:=List.mem_of_getElem? hv;have vp:=O.places v vm;have ed:t.drop j=v::t.drop (j+1):=by
   rw [List.drop_eq_getElem_cons hjl];rw [List.getElem?_eq_getElem hjl] at hv;cases hv
   rfl
 have es:t=t.take j++v::t.drop (j+1):=by rw [<- ed,List.take_append_drop]
 have ndt:=(List.nodup_cons.mp O.nd).2;have nd2:=ndt;rw [es] at nd2;have av:v ∉ t.take j:=fun z=>(List.nodup_append.mp nd2).2.2 v z v List.mem_cons_self rfl;have e:=s.full g R (ndt.sublist (List.drop_sublist _ _)) (fun x hx=>O.places x (List.mem_of_mem_drop hx)) vp.1.1 vp.1.2 fun k k0 k1 kr pk=>by
   rcases O.all k k0 k1 with z|z
   . exact absurd z kr
   . rw [es] at z;rcases List.mem_append.mp z with z|z
     . have af:=O.af;rw [es] at af;rcases af.up k z with w|w
       . rw [pk] at w;exact absurd (List.mem_singleton.mp w) vp.2
       . rw [pk] at w;exact absurd w av
     . rcases List.mem_cons.mp z with z|z
       . subst z;exact absurd pk (R.ne k0 k1 kr)
       . exact z
 exact ⟨vp,e,by rw [ed];exact s.step g R vp.1.1 vp.1.2 vp.2 e⟩
def uk (m:Int) (rs:List Road) (r:Int) (par:Int->Int) (dep:Int->Nat) (held:Int->Int) (con:Int->Int->Int):List Int:=(below m.toNat).map (gat m rs r par dep held con)
theorem FS {v:Int} (h0:0<=v) (h1:v<m):(uk m rs r par dep held con).getD v.toNat 0=gat m rs r par dep held con v:=by
 unfold uk;rw [List.getD,List.getElem?_map,gf (by omega),Int.toNat_of_nonneg h0]
 rfl
theorem Order.done (g:Good m rs) (R:Rooted m rs r par dep) {t cs:List Int} (O:Order m r par t) (s:Sofar m rs r par dep held con t cs):cs=uk m rs r par dep held con:=by
 have sl:=s.len;refine List.ext_getElem? fun i=>?_;by_cases h:i<m.toNat
 . have hc:i<cs.length:=by omega
   have e:=s.full g R (List.nodup_cons.mp O.nd).2 O.places (v:=(i:Int)) (by omega) (by omega) fun k k0 k1 kr pk=>(O.all k k0 k1).resolve_left kr;unfold uk;rw [List.getElem?_map,gf h];rw [Int.toNat_natCast,List.getD,List.getElem?_eq_getElem hc] at e;rw [List.getElem?_eq_getElem hc];exact congrArg some e
 . unfold uk;rw [List.getElem?_eq_none (by omega),List.getElem?_eq_none (by rw [List.length_map,bz];omega)]
theorem Rooted.adj (R:Rooted m rs r par dep) {a b:Int} (h:Adj rs a b):(b≠r/\par b=a)\/(a≠r/\par a=b):=by
 obtain ⟨x,hx,j⟩:=h;have:=R.road x hx;rcases j with ⟨e1,e2⟩|⟨e1,e2⟩
 . subst e1;subst e2;exact this.symm
 . subst e1;subst e2;exact this
end
end Pb
set_option Elab.async false
set_option linter.all false
set_option maxRecDepth 100000
namespace Pb
open L2
section
variable {m:Int} {rs:List Road} {r:Int} {par:Int->Int} {dep:Int->Nat} {held:Int->Int}
theorem mY (l:List Int) (i j:Nat) (x:Int) (h:i<l.length):(l.set i x).getD j 0=if i=j then x else l.getD j 0:=by
 by_cases c:i=j
 . subst c;rw [if_pos rfl];simp [List.getD,h]
 . rw [if_neg c];simp [List.getD,List.getElem?_set_ne c]
end
section
open PySem
end
end Pb
set_option Elab.async false
set_option linter.all false
set_option maxRecDepth 100000
namespace L2
open PySem PySem.Spec PyProof.Rows
end L2
set_option Elab.async false
set_option linter.all false
set_option maxRecDepth 100000
namespace L2
open PySem PySem.Spec PyProof.Rows
def UK (lo st:Int) (n:Nat):It:=⟨fun i _=>i<n,fun i H x H'=>H'=H/\x=.int (lo+i*st),fun i _=>n<=i⟩
def Q4 (ta:TA):TI:=fun σ H R=>ta σ H fun vs H1=>∃ i j c:Int,vs=[.int i,.int j,.int c]/\(0<=i/\i<=1000000/\0<=j/\j<=1000000/\0<c/\c<=1000000)/\R (UK i c (Builtin.Range.rangeSize i j c).toNat) H1
section
variable {X:Cx} {tg:Expr}
end
end L2
set_option Elab.async false
set_option linter.all false
set_option maxRecDepth 100000
namespace L2
open PySem PySem.Spec PyProof.Rows
def Og (K:PySem.W.Frag) (c:Bool):R2:=fun x y H Q=>∃ p xs i v,x=.ref p/\y=.int i/\SqX K c H p xs/\atI xs i=some v/\Q v H
theorem TK {X:Cx} (c:Bool):IxR X (Og X.K c):=by
 cases c
 . exact iU
 . exact bB
theorem Si {X:Cx} (c:Bool) (K:PySem.W.Frag) (h:X.K=K):IxR X (Og K c):=by subst h;exact TK c
theorem ixX {K:PySem.W.Frag} {c:Bool} {H:Hp} {p:Addr} {xs:List V} {i:Int} {v:V} {Q:VK} (h:SqX K c H p xs) (e:atI xs i=some v) (q:Q v H):Og K c (.ref p) (.int i) H Q:=⟨p,xs,i,v,rfl,rfl,h,e,q⟩
theorem TL {K:PySem.W.Frag} {H:Hp} {p:Addr} {xs:List V} {i:Int} {v:V} {Q:VK} (h:SqT K H p xs) (e:atI xs i=some v) (q:Q v H):Ko K (.ref p) (.int i) H Q:=⟨p,xs,i,v,rfl,rfl,h,e,q⟩
end L2
namespace Pb
open L2 PySem
theorem Jk {α β:Type} {R:α->β->Prop}:∀ (n:Nat) {l₁:List α} {l₂:List β},Paired R l₁ l₂->Paired R (l₁.take n) (l₂.take n)
 | 0,_,_,_=>by rw [List.take_zero,List.take_zero];exact .nil
 | _+1,_,_,.nil=>.nil
 | n+1,_,_,.cons x xs=>.cons x (Jk n xs)
theorem IW {α β:Type} {R:α->β->Prop}:∀ (n:Nat) {l₁:List α} {l₂:List β},Paired R l₁ l₂->Paired R (l₁.drop n) (l₂.drop n)
 | 0,_,_,h=>h
 | _+1,_,_,.nil=>.nil
 | n+1,_,_,.cons x xs=>IW n xs
theorem LW {α β:Type} {R:α->β->Prop} {k₁:List α} {k₂:List β} (h:Paired R k₁ k₂):∀ {l₁:List α} {l₂:List β},Paired R l₁ l₂->Paired R (l₁++k₁) (l₂++k₂)
 | _,_,.nil=>h
 | _,_,.cons x xs=>.cons x (LW h xs)
theorem TW {α β:Type} {R:α->β->Prop} {ps:List α} {rs:List β} {q:α} {r:β} (n:Nat) (h:Paired R ps rs) (e:R q r):Paired R (ps.take n++q::ps.drop n) (rs.take n++r::rs.drop n):=LW (.cons e (IW n h)) (Jk n h)
theorem Fi (n:Nat):Labels n (below n):=⟨bz n,fA n,fun v h0 h1=>dh.mpr ⟨h0,h1⟩,fun v h=>dh.mp h⟩
theorem Bg {n:Nat} {v:Int} (h0:0<=v) (h1:v<n):(below n).getD v.toNat 0=v:=by
 rw [List.getD,gf (by omega),Int.toNat_of_nonneg h0]
 rfl
theorem Lk {n:Nat} {rows:List Row} {row:Row} (R:Rows n rows) (k:row.k=(n:Int)+1) (ok:RowOk row):Rows (n+1) (rows++[row]):=by
 have rl:=R.len;refine ⟨by rw [List.length_append,rl];rfl,fun j r hj=>?_⟩;by_cases hjl:j<rows.length
 . rw [List.getElem?_append_left hjl] at hj;exact R.ok j r hj
 . have hj2:j=rows.length:=by
     have:=(List.getElem?_eq_some_iff.mp hj).1;rw [List.length_append] at this;simp at this;omega
   rw [hj2,List.getElem?_append_right (Nat.le_refl _),Nat.sub_self] at hj;cases hj;exact ⟨by rw [hj2,rl];exact k,ok⟩
section
variable {m:Int} {rs:List Road} {r:Int} {par:Int->Int} {dep:Int->Nat}
def hnd (rs:List Road) (par:Int->Int) (v x:Int):Int:=if 0<=x then x / (aH rs v (par v)).getD 1 else x*(aH rs (par v) v).getD 1
theorem tM (g:Good m rs) (R:Rooted m rs r par dep) {v:Int} (h0:0<=v) (h1:v<m) (hr:v≠r):∃ k,aH rs (par v) v=some k/\2<=k/\k<=1000000:=by
 obtain ⟨x,hx,j⟩:=(R.up v h0 h1 hr).2.1;obtain ⟨i,hi⟩:=List.getElem?_of_mem hx;have ok:=g.ok x hx;have jj:uB x (par v) v:=by
   rcases j with ⟨a,b⟩|⟨a,b⟩
   . exact .inr ⟨b,a⟩
   . exact .inl ⟨b,a⟩
 rw [wV g hi jj];unfold dR;by_cases c:x.a=par v/\x.b=v
 . rw [if_pos c];exact ⟨_,rfl,ok.t0,ok.t1⟩
 . rw [if_neg c];have c2:x.a=v/\x.b=par v:=by
     rcases jj with w|w
     . exact absurd w c
     . exact ⟨w.2,w.1⟩
   rw [if_pos c2];exact ⟨_,rfl,ok.u0,ok.u1⟩
theorem vo (i:Nat):below (i+1)=below i++[(i:Int)]:=by
 unfold below;rw [List.range_succ,List.map_append]
 rfl
end
def bw (m:Int) (xs ys:List Int):List Int:=(List.range m.toNat).map fun i=>xs.getD i 0 - ys.getD i 0
theorem Ln {m:Int} (h:0<=m) (xs ys:List Int):((bw m xs ys).length:Int)=m:=by unfold bw;rw [List.length_map,List.length_range];omega
end Pb
set_option Elab.async false
set_option linter.all false
set_option maxRecDepth 100000
namespace L2
open PySem PySem.Spec PyProof.Rows
theorem Gu {P:Program} {w:World} {A:Around} {l:Addr} (c:Bool) {it:Addr} (hh:A.handled=none) (ne:l≠it) (its:Array Value):Draws P w A it [it,l] its.size (fun i v=>its[i]?=some v) (fun i h=>zAt l c it i h/\JH l c h its) where
 live:=fun i h st=>let ⟨o,e,_⟩:=(fe l c P w).obj _ _ _ st.1;⟨o,e⟩
 frame:=fun i h h' st k=>⟨(fe l c P w).atK _ _ _ _ st.1 fun o e=>k it (by simp) o e,(fe l c P w).srcK _ _ _ st.2 fun o e=>k l (by simp) o e⟩
 item:=fun i s Q E hi st hq=>(fe l c P w).item A s it i its its[i] Q E st.1 st.2 (by simp [hi]) fun h' at' sb=>hq its[i] h' s.toks (by simp [hi]) ⟨at',(fe l c P w).srcK _ _ _ st.2 fun o e=>sb.extBut _ _ ne e⟩ sb
 done:=fun s Q E st hq=>(fe l c P w).fin A s it its.size its Q E hh st.1 st.2 (by simp) fun h' e eb he=>hq h' e eb he
section
variable {P:Program} {w:World} {A:Around} {E:Value->Shared->Prop} {s:Shared} {l:Addr} {ob:Obj} {src:Heap->Array Value->Prop} {at':Addr->Nat->Heap->Prop}
abbrev Es (n:Nat):Obj:={ cls:=.type "enumerate",data:=.fields #[.none,.bool false,.ref n,rawInt 0,.none,.none] }
theorem Cn (S:∀ P w,SubF P w l ob src at') (xs:Array Value) :
   Meets (Builtin.«enumerate.__new__» ⟨[.type "enumerate",.ref l],[]⟩) (fun _ R s=>src s.heap xs/\R (.ok (.ret (.ref (s.heap.push ob).objs.size))) { s with heap:=(s.heap.push ob).push (Es s.heap.objs.size) }) :=
 .of_wp fun prog w A R s hyp=>by
   obtain ⟨hp,g,d,tk,os⟩:=s;obtain ⟨q1,r⟩:=hyp;have zsub:=sub_enumerate;have B1:src (Shared.heap ⟨hp,g,d,tk,os⟩) xs:=q1
   wp_walk using ((S prog w).start _ _ _ _ _ B1)
   refine wpAny_stack_any fun st=>?_;dsimp only;refine wpAny_pure ?_;have go:∀ b:Bool,b=true\/b=false:=fun b=>by cases b <;> simp
   split
   . rename_i c _ _ _ _ _
     rcases go (c == Value.type "enumerate") with z|z
     . rw [z]
       wp_walk using ((S prog w).start _ _ _ _ _ B1)
       exact ⟨_,rfl,r⟩
     . rw [z]
       wp_walk using ((S prog w).start _ _ _ _ _ B1)
       exact ⟨_,rfl,r⟩
   . wp_walk using ((S prog w).start _ _ _ _ _ B1)
     exact ⟨_,rfl,r⟩
theorem Lm (S:∀ P w,SubF P w l ob src at') {xs:Array Value} {Q:Value->Shared->Prop} (q1:src s.heap xs) (f1:ob.isFreed=false)
   (h:∀ h',IsEnum h' (s.heap.objs.size+1) s.heap.objs.size 0 .none->at' s.heap.objs.size 0 h'->(∀ c o,s.heap.get? c=some o->h'.get? c=some o)->Q (.ref (s.heap.objs.size+1)) { s with heap:=h' }) :
   wpAny (model P w) A (call (.type "enumerate") [.ref l]) Q E s:=by
 refine callType_new F.called_enumerate (by decide) (F.typeCall_enumerate_1 _) (F.newCall_enumerate_1 _) (fun obj=>F.args_object_init_2 obj _) F.entry_enumerate_new (Cn S xs) ⟨q1,?_⟩;have n0:(s.heap.push ob).objs.size=s.heap.objs.size+1:=Heap.size_push ..;have c2:((s.heap.push ob).push (Es s.heap.objs.size)).get? (s.heap.push ob).objs.size=some (Es s.heap.objs.size):=Heap.get?_push_size _ rfl;have c1:((s.heap.push ob).push (Es s.heap.objs.size)).get? s.heap.objs.size=some ob:=Heap.get?_push_of_some _ (Heap.get?_push_size _ f1);show _/\_;rw [n0] at c2;rw [n0];exact ⟨⟨_,c2,rfl⟩,h _ c2 ((S P w).first _ _ c1) fun c o e=>Heap.get?_push_of_some _ (Heap.get?_push_of_some _ e)⟩
end
def Ite (K:PySem.W.Frag) (c:Bool) (a:Addr):It :=
 ⟨fun i H=>∃ xs x,SqX K c H a xs/\xs[i]?=some x,
  fun i H v H'=>∃ p x,H p=none/\v=.ref p/\H'=upd H p (.tup [.int i,x])/\∀ xs,SqX K c H a xs->xs[i]?=some x,
  fun i H=>∃ xs,SqX K c H a xs/\xs.length=i⟩
theorem MO {P:Program} {w:World} {K:PySem.W.Frag} {elts:List Expr} {x1} {tpos:Pos} (c:Bool) (a e it:Addr) (ne:e≠it) (ae:a≠e) (ai:a≠it) :
   Turn P w K (.Tuple elts x1 tpos) (Ite K c a) [e,it] e (fun i h=>(∃ old,IsEnum h e it (i:Nat) old)/\zAt a c it i h) where
 mem:=by simp
 obj:=fun i h t b hb=>by
   obtain ⟨⟨old,t1⟩,t2⟩:=t;simp only [List.mem_cons,List.mem_nil_iff,or_false] at hb;rcases hb with rfl|rfl
   . exact ⟨_,t1,fun v z=>by cases z⟩
   . exact (fe a c P w).obj _ _ _ t2
 keep:=fun i h h' t k=>by
   obtain ⟨⟨old,t1⟩,t2⟩:=t;exact ⟨⟨old,k e (by simp) _ t1⟩,(fe a c P w).atK _ _ _ _ t2 fun o e=>k it (by simp) o e⟩
 item:=fun X e1 e2 e3 hc i pins s σ H E I f t g=>by
   subst e1 e2 e3;obtain ⟨⟨old,t1⟩,t2⟩:=t;obtain ⟨xs,x,s1,hx⟩:=g;obtain ⟨us,r1,q1⟩:=I.sqX s1;obtain ⟨xu,hxu,rx⟩:=r1.get hx;have hh:X.A.in1.handled=none:=I.ok.hd hc;have fz:∀ q∈[e,it],lp X pins H q:=f;have W:=WalksT.enumerateD (A:=X.A) (Gu (P:=X.prog) (w:=X.w) (A:=X.A.in1) (l:=a) c (it:=it) hh ai us.toArray) e ne (by simp;exact ⟨ne,ae.symm⟩) (by simp);have hil:i<us.toArray.size:=by
     have:=(List.getElem?_eq_some_iff.mp hxu).1
     simpa using this
   refine W.item i s _ _ hil ⟨⟨old,t1⟩,t2,q1⟩ fun T vals h' tk pt le tup mid keep=>?_;refine ⟨_,rfl,W.go elts x1 tpos i T { s with heap:=h',toks:=tk } _ _ mid fun h2 st2 keep2=>?_⟩;obtain ⟨tt,xv,px,ev⟩:=pt;have exv:xv=xu:=by
     have h1:us[i]?=some xv:=(by simpa using px);rw [hxu] at h1;cases h1
     rfl
   subst exv;have Tw:T ∉ [e,it]:=W.apart i T h' mid;have kp:∀ q o,q ∉ [e,it]->s.heap.get? q=some o->h2.get? q=some o:=fun q o hq eo=>keep2 q o hq (keep q o hq eo);obtain ⟨ot,ht,hct,nt,hdt⟩:=tup;have new:h2.get? T=some ot:=keep2 T ot Tw ht;have Hn:∀ q u,H q=some u->q ∉ [e,it]:=fun q u e hq=>by rw [(fz q hq).1] at e;cases e
   have nH:H T=none:=I.hok.fresh le;have Tb:∀ q o,s.heap.get? q=some o->q≠T:=fun q o eo=>Nat.ne_of_lt (Nat.lt_of_lt_of_le (Heap.lt_size eo) le);have I2:Inv X pins σ H { s with heap:=h2,toks:=tk }:=by
     refine I.step (g':=s.gens) (d':=s.drawn) (t':=tk) (ch:=[e,it]) (fun q hq=>⟨(fz q hq).2.2.2.1,(fz q hq).2.1,(fz q hq).2.2.2.2.1,(fz q hq).2.2.2.2.2⟩) (fun q o _ _ hq e _=>kp q o hq e) (fun q o _ _ hq e _=>⟨o.slots,kp q o hq e⟩) (fun _ _ _ _ n=>n)
       (fun q o hq e=>⟨o,kp q o hq e⟩) (fun _ _ e=>e) (fun _ _ _ e=>e) (fun q ps e=>⟨#[],by rw [e];simp⟩) (fun m hm=>?_) (fun q u e=>?_) I.bare
     . obtain ⟨o,es,ep,ho,r⟩:=hm;exact ⟨o,es,ep,kp _ o (fun hq=>(fz _ hq).2.1 rfl) ho,r⟩
     . refine (I.hok q u e).stay (fun q' v hq' e'=>kp q' v ?_ e') (fun _ e'=>e') fun _ _ e'=>e';rcases hq' with rfl|hq'
       . exact Hn _ u e
       . exact Hn _ _ hq'
   have I3:Inv X pins σ (upd H T (.tup [.int i,x])) { s with heap:=h2,toks:=tk }:=by
     refine ⟨I2.ok,I2.os,I2.bare,?_,I2.loc,I2.cell,?_,fun n c e=>?_,fun p hp=>?_,fun q u e=>?_,I2.len⟩
     . refine ⟨I2.base.keep,I2.base.slot,fun q o e n hx=>?_,I2.base.there,fun q xs e=>?_,fun q o u e=>?_,fun q ps e=>?_⟩
       . have lt:q<X.s₀.heap.objs.size:=Heap.lt_size e;rw [au (Nat.ne_of_lt (Nat.lt_of_lt_of_le lt (Nat.le_trans I.sz le)))];exact I2.base.free q o e n hx
       . have e':=I2.base.tups q xs e;rw [au (fun z=>by rw [z,nH] at e';cases e')];exact e'
       . have e':=I2.base.frzs q o u e;rw [au (fun z=>by rw [z,nH] at e';cases e')];exact e'
       . obtain ⟨more,e'⟩:=I2.base.tbls q ps e;exact ⟨more,by rw [au (fun z=>by rw [z,nH] at e';cases e')];exact e'⟩
     . rw [au (Nat.ne_of_lt (Nat.lt_of_lt_of_le I.lt le))];exact I2.free
     . obtain ⟨vv,o,ho,_⟩:=I.cell n c e;rw [au (Tb _ _ ho)];exact I2.freeC n c e
     . obtain ⟨k1,k2,k3⟩:=I.pin p hp;rw [au (Tb _ _ k1)];exact I2.pin p hp
     . by_cases hq:q=T
       . subst hq;rw [aj] at e;cases e;refine ⟨by show 2<=sizeLine;decide,[.int (i:Nat) tt,xv],.cons ⟨tt,rfl⟩ (.cons rx .nil),ot,new,hct,nt,?_⟩;rw [hdt,ev]
       . rw [au hq] at e;refine (I2.hok q u e).stay (fun _ _ _ e'=>e') (fun q' e'=>?_) fun q' xs e'=>?_
         . rw [au (fun z=>by rw [z,nH] at e';cases e')];exact e'
         . rw [au (fun z=>by rw [z,nH] at e';cases e')];exact e'
   refine ⟨.ref T,_,I3,rfl,⟨T,x,nH,rfl,rfl,fun xs' q=>?_⟩,⟨st2.1,st2.2.1⟩,fun q hq=>?_⟩
   . rw [<- I.sqX_inj s1 q];exact hx
   . have hlt:q≠T:=by
       simp only [List.mem_cons,List.mem_nil_iff,or_false] at hq;rcases hq with rfl|rfl
       . exact Tb _ _ t1
       . exact let ⟨o,e,_⟩:=(fe a c X.prog X.w).obj _ _ _ t2;Tb _ _ e
     rw [au hlt];exact (fz q hq).1
 done:=fun X e1 e2 e3 hc i pins s σ H E I f t g=>by
   subst e1 e2 e3;obtain ⟨⟨old,t1⟩,t2⟩:=t;obtain ⟨xs,s1,hend⟩:=g;obtain ⟨us,r1,q1⟩:=I.sqX s1;have hh:X.A.in1.handled=none:=I.ok.hd hc;have fz:∀ q∈[e,it],lp X pins H q:=f;have W:=WalksT.enumerateD (A:=X.A) (Gu (P:=X.prog) (w:=X.w) (A:=X.A.in1) (l:=a) c (it:=it) hh ai us.toArray) e ne (by simp;exact ⟨ne,ae.symm⟩) (by simp);have ei:i=us.toArray.size:=by
     have:=r1.length;simp;omega
   subst ei;refine W.done s _ _ ⟨⟨old,t1⟩,t2,q1⟩ fun h' tk keep=>⟨rfl,?_⟩;have kp:∀ q o,q ∉ [e,it]->s.heap.get? q=some o->h'.get? q=some o:=fun q o hq e=>keep q o hq e;have Hn:∀ q u,H q=some u->q ∉ [e,it]:=fun q u e hq=>by rw [(fz q hq).1] at e;cases e
   refine I.step (g':=s.gens) (d':=s.drawn) (t':=tk) (ch:=[e,it]) (fun q hq=>⟨(fz q hq).2.2.2.1,(fz q hq).2.1,(fz q hq).2.2.2.2.1,(fz q hq).2.2.2.2.2⟩) (fun q o _ _ hq e _=>kp q o hq e) (fun q o _ _ hq e _=>⟨o.slots,kp q o hq e⟩) (fun _ _ _ _ n=>n)
     (fun q o hq e=>⟨o,kp q o hq e⟩) (fun _ _ e=>e) (fun _ _ _ e=>e) (fun q ps e=>⟨#[],by rw [e];simp⟩) (fun m hm=>?_) (fun q u e=>?_) I.bare
   . obtain ⟨o,es,ep,ho,r⟩:=hm;exact ⟨o,es,ep,kp _ o (fun hq=>(fz _ hq).2.1 rfl) ho,r⟩
   . refine (I.hok q u e).stay (fun q' v hq' e'=>kp q' v ?_ e') (fun _ e'=>e') fun _ _ e'=>e';rcases hq' with rfl|hq'
     . exact Hn _ u e
     . exact Hn _ _ hq'
 self:=fun A i s Q E t q=>by
   obtain ⟨⟨old,t1⟩,t2⟩:=t;exact wpAny_pyIter_enum t1 q
def JY (K:PySem.W.Frag) (c:Bool) (tl:TE):TI:=fun σ H R=>tl σ H fun x H1=>∃ a,x=.ref a/\(∃ xs,SqX K c H1 a xs)/\R (Ite K c a) H1
section
variable {X:Cx} {e:Expr} {te:TE} {p2 pos:Pos}
theorem RI {elts:List Expr} {x1} {tpos:Pos} (c:Bool) (hg:Gl X "enumerate") (hm:X.mg "enumerate"=none) (he:PE X e te) (h2:starEach [e] X.env=[(false,eval e X.env)]:=by rfl):PI X (.Tuple elts x1 tpos) (.Call (.Name "enumerate" p2) [e] [] pos) (JY X.K c te):=by
 intro pins s σ H R I h;refine Call_ (qy I hg hm boot_enumerate (PyProof.Rows.callWith_type1 ?_ h2 rfl));rw [h2];show wpAny _ _ (spliced ((false,eval e X.env)::backTo pos [])) _ _ s;refine Calls.spliced_cons (bG (he pins s σ H _ I h) fun u s1 x H1 I1 r1 q1=>Calls.spliced_nil ?_);obtain ⟨a,ex,⟨xs,sa⟩,q⟩:=q1;subst ex;cases r1;obtain ⟨us,r1,q1⟩:=I1.sqX sa;obtain ⟨oa,hoa⟩:=oI a c _ _ q1;have la:=Heap.lt_size hoa;refine Lm (fe a c) q1 (xp a c) fun h' w1 w2 w3=>?_;refine wpAny_pyIter_enum w1 ?_;refine ⟨_,[s1.heap.objs.size+1,s1.heap.objs.size],_,_,H1,rfl,I1.kept (t':=s1.toks) w3,MO c a _ _ (Nat.succ_ne_self _) (Nat.ne_of_lt (Nat.lt_succ_of_lt la)) (Nat.ne_of_lt la),⟨⟨_,w1⟩,w2⟩,fun b hb=>?_,q⟩;have hle:s1.heap.objs.size<=b:=by
   simp only [List.mem_cons,List.mem_nil_iff,or_false] at hb;rcases hb with rfl|rfl
   . exact Nat.le_succ _
   . exact Nat.le_refl _
 exact I1.fpOk hle (I1.hok.fresh hle)
end
end L2
set_option Elab.async false
set_option linter.all false
set_option maxRecDepth 100000
namespace Pb
open L2 PySem
abbrev Stp:=Int × Int × Int
def b6 (rs:List Road) (a b:Int):Int:=(aH rs a b).getD 1
def cD (rs:List Road) (xs:List Int) (s:Stp):List Int :=
 (xs.set s.1.toNat (xs.getD s.1.toNat 0 - s.2.2*b6 rs s.1 s.2.1)).set s.2.1.toNat ((xs.set s.1.toNat (xs.getD s.1.toNat 0 - s.2.2*b6 rs s.1 s.2.1)).getD s.2.1.toNat 0+s.2.2)
theorem Dj (rs:List Road) (xs:List Int) (s:Stp):(cD rs xs s).length=xs.length:=by unfold cD;rw [List.length_set,List.length_set]
def lR (m:Int) (rs:List Road) (s:Stp):Bool:=decide (0<=s.1) && decide (s.1<m) && decide (s.2.1∈hW m rs s.1) && decide (1<=s.2.2)
def oJ (m:Int) (rs:List Road) (xs:List Int) (s:Stp):Bool:=lR m rs s && decide (s.2.2*b6 rs s.1 s.2.1<=xs.getD s.1.toNat 0)
theorem qR {m:Int} {rs:List Road} {s:Stp} (h:lR m rs s=true):(0<=s.1/\s.1<m)/\s.2.1∈hW m rs s.1/\1<=s.2.2:=by
 unfold lR at h;rw [Bool.and_eq_true,Bool.and_eq_true,Bool.and_eq_true] at h;exact ⟨⟨of_decide_eq_true h.1.1.1,of_decide_eq_true h.1.1.2⟩,of_decide_eq_true h.1.2,of_decide_eq_true h.2⟩
theorem iA {m:Int} {rs:List Road} (g:Good m rs) {a b:Int} (h:Adj rs a b):∃ k,aH rs a b=some k/\2<=k/\k<=1000000:=by
 obtain ⟨x,hx,j⟩:=h;obtain ⟨i,hi⟩:=List.getElem?_of_mem hx;have ok:=g.ok x hx;have jj:uB x a b:=j;rw [wV g hi jj];unfold dR;by_cases c:x.a=a/\x.b=b
 . rw [if_pos c];exact ⟨_,rfl,ok.t0,ok.t1⟩
 . rw [if_neg c];have c2:x.a=b/\x.b=a:=by
     rcases jj with w|w
     . exact absurd w c
     . exact ⟨w.2,w.1⟩
   rw [if_pos c2];exact ⟨_,rfl,ok.u0,ok.u1⟩
theorem Mh {m:Int} {rs:List Road} (g:Good m rs) {s:Stp} (h:lR m rs s=true):∃ k,aH rs s.1 s.2.1=some k/\b6 rs s.1 s.2.1=k/\(2<=k/\k<=1000000)/\(0<=s.2.1/\s.2.1<m):=by
 obtain ⟨h1,h2,h3⟩:=qR h;have ad:=(jS g).mp h2;obtain ⟨k,e,r⟩:=iA g ad;exact ⟨k,e,by unfold b6;rw [e];rfl,r,(g.adj ad).2.1⟩
end Pb
namespace L2
open PySem PySem.Spec PyProof.Rows
def Rc (i j k:Nat) (ta:TA):TS:=fun D σ H=>ta σ H fun vs H1=>∃ v w z,vs=[v,w,z]/\D.nx (((σ.set i (some v)).set j (some w)).set k (some z)) H1
end L2
set_option Elab.async false
set_option linter.all false
set_option maxRecDepth 100000
namespace Pb
open L2
section
variable {m:Int} {rs:List Road} {r:Int} {par:Int->Int} {dep:Int->Nat} {held held':Int->Int} {con:Int->Int->Int}
theorem IK {f h:Int->Int}:∀ {l:List Int},(∀ c∈l,f c<=h c)->(l.map f).sum<=(l.map h).sum
 | [],_=>Int.le_refl _
 | c::l,hl=>by
   rw [List.map_cons,List.map_cons,List.sum_cons,List.sum_cons];have h1:=hl c List.mem_cons_self;have h2:=IK (l:=l) fun x hx=>hl x (List.mem_cons_of_mem _ hx);omega
theorem sT {f h:Int->Int} {l:List Int} (hl:∀ c∈l,f c=h c):(l.map f).sum=(l.map h).sum:=by rw [List.map_congr_left hl]
theorem IY {f h:Int->Int} {c0:Int}:∀ {l:List Int},l.Nodup->c0∈l->(∀ c∈l,c≠c0->f c=h c)->(l.map f).sum=(l.map h).sum+(f c0 - h c0)
 | [],_,hm,_=>by cases hm
 | c::l,nd,hm,hl=>by
   obtain ⟨n1,n2⟩:=List.nodup_cons.mp nd;rw [List.map_cons,List.map_cons,List.sum_cons,List.sum_cons];by_cases z:c=c0
   . subst z;rw [sT (f:=f) (h:=h) (l:=l) fun x hx=>hl x (List.mem_cons_of_mem _ hx) fun w=>n1 (w ▸ hx)];omega
   . have hm':c0∈l:=by
       rcases List.mem_cons.mp hm with w|w
       . exact absurd w.symm z
       . exact w
     rw [hl c List.mem_cons_self z,IY n2 hm' fun x hx=>hl x (List.mem_cons_of_mem _ hx)];omega
structure Chg (m:Int) (r:Int) (par:Int->Int) (held held':Int->Int) (c0 dc dp:Int):Prop where
 rng:0<=c0/\c0<m
 nr:c0≠r
 own:held' c0=held c0+dc
 up:held' (par c0)=held (par c0)+dp
 oth:∀ v,0<=v->v<m->v≠c0->v≠par c0->held' v=held v
theorem Chg.deep (g:Good m rs) (R:Rooted m rs r par dep) {c0 dc dp:Int} (C:Chg m r par held held' c0 dc dp):∀ (n:Nat) (v:Int),m.toNat - dep v=n->0<=v->v<m->dep c0<dep v->gat m rs r par dep held' con v=gat m rs r par dep held con v:=by
 intro n
 induction n using Nat.strongRecOn with
 | _ n ih =>
   intro v hn v0 v1 hd;have dc0:=R.pos C.rng.1 C.rng.2 C.nr;rw [aX g R v0 v1,aX g R v0 v1,C.oth v v0 v1 (fun z=>by rw [z] at hd;omega) (fun z=>by rw [z] at hd;omega)]
   congr 1
   refine sT fun c hc=>?_;obtain ⟨w1,w2,w3⟩:=(aQ g R v0 v1).mp hc;have dk:=R.pos w1.1 w1.2 w2;have dl:=dy R w1.1 w1.2;rw [w3] at dk;rw [ih (m.toNat - dep c) (by omega) c rfl w1.1 w1.2 (by omega)]
theorem Chg.at (g:Good m rs) (R:Rooted m rs r par dep) {c0 dc dp:Int} (C:Chg m r par held held' c0 dc dp):gat m rs r par dep held' con c0=gat m rs r par dep held con c0+dc:=by
 rw [aX g R C.rng.1 C.rng.2,aX g R C.rng.1 C.rng.2,C.own];have:((aJ m rs (front r par c0) c0).map fun c=>con c (gat m rs r par dep held' con c)).sum=((aJ m rs (front r par c0) c0).map fun c=>con c (gat m rs r par dep held con c)).sum:=by
   refine sT fun c hc=>?_;obtain ⟨w1,w2,w3⟩:=(aQ g R C.rng.1 C.rng.2).mp hc;have dk:=R.pos w1.1 w1.2 w2;rw [w3] at dk;rw [C.deep g R _ c rfl w1.1 w1.2 (by omega)]
 rw [this];omega
theorem Chg.side (g:Good m rs) (R:Rooted m rs r par dep) {c0 dc dp:Int} (C:Chg m r par held held' c0 dc dp) {v:Int} (v0:0<=v) (v1:v<m) (hd:dep v=dep c0) (hv:v≠c0):gat m rs r par dep held' con v=gat m rs r par dep held con v:=by
 have dc0:=R.pos C.rng.1 C.rng.2 C.nr;rw [aX g R v0 v1,aX g R v0 v1,C.oth v v0 v1 hv (fun z=>by rw [z] at hd;omega)]
 congr 1
 refine sT fun c hc=>?_;obtain ⟨w1,w2,w3⟩:=(aQ g R v0 v1).mp hc;have dk:=R.pos w1.1 w1.2 w2;rw [w3] at dk;rw [C.deep g R _ c rfl w1.1 w1.2 (by omega)]
theorem Chg.ahead (g:Good m rs) (R:Rooted m rs r par dep) {c0 dc dp:Int} (C:Chg m r par held held' c0 dc dp):gat m rs r par dep held' con (par c0)=gat m rs r par dep held con (par c0)+(dp+con c0 (gat m rs r par dep held con c0+dc) - con c0 (gat m rs r par dep held con c0)):=by
 have u:=R.up c0 C.rng.1 C.rng.2 C.nr;rw [aX g R u.1.1 u.1.2,aX (held:=held) g R u.1.1 u.1.2,C.up];have:=IY (c0:=c0) (f:=fun c=>con c (gat m rs r par dep held' con c)) (h:=fun c=>con c (gat m rs r par dep held con c)) (l:=aJ m rs (front r par (par c0)) (par c0)) dF ((aQ g R u.1.1 u.1.2).mpr ⟨C.rng,C.nr,rfl⟩) fun c hc hne=>by
   obtain ⟨w1,w2,w3⟩:=(aQ g R u.1.1 u.1.2).mp hc;have dk:=R.pos w1.1 w1.2 w2;have dc0:=R.pos C.rng.1 C.rng.2 C.nr;rw [w3] at dk;show con c _=con c _;rw [C.side g R w1.1 w1.2 (by omega) hne]
 rw [this,C.at g R];omega
theorem Chg.le (g:Good m rs) (R:Rooted m rs r par dep) (hc:∀ v x y,x<=y->con v x<=con v y) {c0 dc dp:Int} (C:Chg m r par held held' c0 dc dp) (key:dp+con c0 (gat m rs r par dep held con c0+dc)<=con c0 (gat m rs r par dep held con c0)):∀ (n:Nat) (v:Int),dep c0 - dep v=n->0<=v->v<m->v≠c0->gat m rs r par dep held' con v<=gat m rs r par dep held con v:=by
 intro n
 induction n with
 | zero =>
   intro v hn v0 v1 hv;by_cases z:dep v=dep c0
   . exact Int.le_of_eq (C.side g R v0 v1 z hv)
   . exact Int.le_of_eq (C.deep g R _ v rfl v0 v1 (by omega))
 | succ n ih =>
   intro v hn v0 v1 hv;by_cases z:v=par c0
   . rw [z,C.ahead g R];omega
   . rw [aX g R v0 v1,aX (held:=held) g R v0 v1,C.oth v v0 v1 hv z];have:=IK (f:=fun c=>con c (gat m rs r par dep held' con c)) (h:=fun c=>con c (gat m rs r par dep held con c)) (l:=aJ m rs (front r par v) v) fun c hk=>by
       obtain ⟨w1,w2,w3⟩:=(aQ g R v0 v1).mp hk;have dk:=R.pos w1.1 w1.2 w2;rw [w3] at dk;exact hc c _ _ (ih c (by omega) w1.1 w1.2 fun w=>z (by rw [<- w,w3]))
     omega
theorem Chg.eq (g:Good m rs) (R:Rooted m rs r par dep) {c0 dc dp:Int} (C:Chg m r par held held' c0 dc dp) (key:dp+con c0 (gat m rs r par dep held con c0+dc)=con c0 (gat m rs r par dep held con c0)):∀ (n:Nat) (v:Int),dep c0 - dep v=n->0<=v->v<m->v≠c0->gat m rs r par dep held' con v=gat m rs r par dep held con v:=by
 intro n
 induction n with
 | zero =>
   intro v hn v0 v1 hv;by_cases z:dep v=dep c0
   . exact C.side g R v0 v1 z hv
   . exact C.deep g R _ v rfl v0 v1 (by omega)
 | succ n ih =>
   intro v hn v0 v1 hv;by_cases z:v=par c0
   . rw [z,C.ahead g R];omega
   . rw [aX g R v0 v1,aX (held:=held) g R v0 v1,C.oth v v0 v1 hv z]
     congr 1
     refine sT fun c hk=>?_;obtain ⟨w1,w2,w3⟩:=(aQ g R v0 v1).mp hk;have dk:=R.pos w1.1 w1.2 w2;rw [w3] at dk;rw [ih c (by omega) w1.1 w1.2 fun w=>z (by rw [<- w,w3])]
theorem Ab (g:Good m rs) (R:Rooted m rs r par dep) {xs:List Int} (xl:(xs.length:Int)=m) {s:Stp} (is:lR m rs s=true) :
   (s.1≠r/\par s.1=s.2.1/\Chg m r par (fun v=>xs.getD v.toNat 0) (fun v=>(cD rs xs s).getD v.toNat 0) s.1 (-(s.2.2*b6 rs s.1 s.2.1)) s.2.2) \/
   (s.2.1≠r/\par s.2.1=s.1/\Chg m r par (fun v=>xs.getD v.toNat 0) (fun v=>(cD rs xs s).getD v.toNat 0) s.2.1 s.2.2 (-(s.2.2*b6 rs s.1 s.2.1))):=by
 obtain ⟨ar,nb,n1⟩:=qR is;have ad:=(jS g).mp nb;have br:=(g.adj ad).2.1;have ab:=(g.adj ad).2.2;have ga:(cD rs xs s).getD s.1.toNat 0=xs.getD s.1.toNat 0 + -(s.2.2*b6 rs s.1 s.2.1):=by
   unfold cD;rw [mY _ _ _ _ (by rw [List.length_set];omega),if_neg (by omega),mY _ _ _ _ (by omega),if_pos rfl];omega
 have gb:(cD rs xs s).getD s.2.1.toNat 0=xs.getD s.2.1.toNat 0+s.2.2:=by
   unfold cD;rw [mY _ _ _ _ (by rw [List.length_set];omega),if_pos rfl,mY _ _ _ _ (by omega),if_neg (by omega)]
 have go:∀ v:Int,0<=v->v≠s.1->v≠s.2.1->(cD rs xs s).getD v.toNat 0=xs.getD v.toNat 0:=fun v v0 h1 h2=>by
   unfold cD;rw [mY _ _ _ _ (by rw [List.length_set];omega),if_neg (by omega),mY _ _ _ _ (by omega),if_neg (by omega)]
 rcases R.adj ad with ⟨h1,h2⟩|⟨h1,h2⟩
 . exact .inr ⟨h1,h2,br,h1,gb,by rw [h2];exact ga,fun v v0 _ w1 w2=>go v v0 (by rw [h2] at w2;exact w2) w1⟩
 . exact .inl ⟨h1,h2,ar,h1,ga,by rw [h2];exact gb,fun v v0 _ w1 w2=>go v v0 w1 (by rw [h2] at w2;exact w2)⟩
end
end Pb
set_option Elab.async false
set_option linter.all false
set_option maxRecDepth 100000
namespace L2
open PySem PySem.Spec PyProof.Rows
end L2
namespace Pb
open L2 PySem
theorem zY {m:Int} {rs:List Road} {xs:List Int} {s:Stp} (h:oJ m rs xs s=true):lR m rs s=true/\s.2.2*b6 rs s.1 s.2.1<=xs.getD s.1.toNat 0:=by
 unfold oJ at h;rw [Bool.and_eq_true] at h;exact ⟨h.1,of_decide_eq_true h.2⟩
theorem Rm {m:Int} {rs:List Road} (g:Good m rs) {xs:List Int} (xl:(xs.length:Int)=m) (x0:∀ x∈xs,0<=x) {s:Stp} (h:oJ m rs xs s=true):∀ x∈cD rs xs s,0<=x:=by
 obtain ⟨is,le⟩:=zY h;obtain ⟨ar,nb,n1⟩:=qR is;have h1:∀ x∈xs.set s.1.toNat (xs.getD s.1.toNat 0 - s.2.2*b6 rs s.1 s.2.1),0<=x:=B0 x0 (by omega);unfold cD;exact B0 h1 (by have:=IZ h1 s.2.1.toNat;omega)
end Pb
set_option Elab.async false
set_option linter.all false
set_option maxRecDepth 100000
namespace Pb
open L2 PySem
section
variable {m:Int} {rs:List Road}
theorem zg:∀ (l:List Int) (i:Nat) (v:Int),i<l.length->(l.set i v).sum=l.sum - l.getD i 0+v
 | [],i,v,h=>by simp at h
 | a::l,0,v,_=>by simp;omega
 | a::l,i+1,v,h=>by
   have ih:=zg l i v (by simpa using h);have e:(a::l).getD (i+1) 0=l.getD i 0:=by simp [List.getD]
   rw [List.set_cons_succ,List.sum_cons,List.sum_cons,ih,e];omega
end
end Pb
set_option Elab.async false
set_option linter.all false
set_option maxRecDepth 100000
namespace L2
open PySem PySem.Spec PyProof.Rows
section
variable {X:Cx} {i o:Expr} {ty td:TE}
def Q5 (ty td:TE):TE:=fun σ H Q=>ty σ H fun y H1=>td σ H1 fun x H2=>∃ a,x=.ref a/\((∃ o,DGet H2 a y o/\Q (.bl o.isSome) H2)\/(y=.non/\(∃ kvs,H2 a=some (.dK kvs))/\Q (.bl false) H2))
end
end L2
set_option Elab.async false
set_option linter.all false
set_option maxRecDepth 100000
namespace Pb
open L2 PySem
section
variable {m:Int} {rs:List Road} {r b:Int} {par:Int->Int} {dep:Int->Nat}
def B3 (par:Int->Int) (b:Int):Nat->Int->Bool
 | 0,v=>decide (v=b)
 | n+1,v=>decide (v=b) || B3 par b n (par v)
def ben (par:Int->Int) (dep:Int->Nat) (b v:Int):Bool:=B3 par b (dep v) v
theorem Qf (R:Rooted m rs r par dep) {v:Int} (v0:0<=v) (v1:v<m) (hr:v≠r):ben par dep b v=(decide (v=b) || ben par dep b (par v)):=by
 unfold ben;rw [R.pos v0 v1 hr]
 rfl
def KB (m:Int) (par:Int->Int) (dep:Int->Nat) (b:Int):List Int:=(below m.toNat).filter (ben par dep b)
theorem Kw:(KB m par dep b).Nodup:=(fA _).filter _
theorem Pz {v:Int}:v∈KB m par dep b↔(0<=v/\v<m)/\ben par dep b v=true:=by
 unfold KB;rw [List.mem_filter,dh]
 constructor
 . rintro ⟨h1,h2⟩;exact ⟨⟨h1.1,by omega⟩,h2⟩
 . rintro ⟨h1,h2⟩;exact ⟨⟨h1.1,by omega⟩,h2⟩
end
end Pb
namespace L2
theorem jk {A B:TS} {D:Ends} {σ:St} {H:Hp} (h:∀ N:St->Hp->Prop,(∀ σ' H',B D σ' H'->N σ' H')->A { D with nx:=N } σ H):Ka A B D σ H:=h (B D) fun _ _ z=>z
end L2
set_option Elab.async false
set_option linter.all false
set_option maxRecDepth 100000
namespace L2
open PySem
theorem nR {K:PySem.W.Frag} {a:Addr} {xs:List V} {g:TG} {tb:TS} {D:Ends} {σ:St} {H:Hp} (Pv:Nat->St->Hp->Prop) (h0:Pv 0 σ H) (hl:∀ i σ H,i<=xs.length->Pv i σ H->SqL K H a xs)
   (hs:∀ (i:Nat) (x:V) (σ:St) (H:Hp) (N B:St->Hp->Prop),(∀ σ H,(g x σ H fun σ2 H2=>tb { D with nx:=N,ct:=N,bk:=D.nx } σ2 H2)->B σ H)->(∀ σ' H',Pv (i+1) σ' H'->N σ' H')->xs[i]?=some x->Pv i σ H->B σ H)
   (hd:∀ (B:St->Hp->Prop) σ H,(∀ σ H,D.nx σ H->B σ H)->Pv xs.length σ H->B σ H):oX (Itl K a) D g tb σ H :=
 xf Pv h0 hl (fun i x σ H N hN hx p=>hs i x σ H N (fun σ H=>g x σ H fun σ2 H2=>tb { D with nx:=N,ct:=N,bk:=D.nx } σ2 H2) (fun _ _ z=>z) hN hx p) fun σ H p=>hd (fun σ H=>D.nx σ H) σ H (fun _ _ z=>z) p
theorem KM {lo:Int} {n:Nat} {g:TG} {tb:TS} {D:Ends} {σ:St} {H:Hp} (Pv:Nat->St->Hp->Prop) (h0:Pv 0 σ H)
   (hs:∀ (i:Nat) (σ:St) (H:Hp) (N B:St->Hp->Prop),(∀ σ H,(g (.int (lo+i)) σ H fun σ2 H2=>tb { D with nx:=N,ct:=N,bk:=D.nx } σ2 H2)->B σ H)->(∀ σ' H',Pv (i+1) σ' H'->N σ' H')->i<n->Pv i σ H->B σ H)
   (hd:∀ (B:St->Hp->Prop) σ H,(∀ σ H,D.nx σ H->B σ H)->Pv n σ H->B σ H):oX (Itr lo n) D g tb σ H :=
 oV Pv h0 (fun i σ H N hN hi p=>hs i σ H N (fun σ H=>g (.int (lo+i)) σ H fun σ2 H2=>tb { D with nx:=N,ct:=N,bk:=D.nx } σ2 H2) (fun _ _ z=>z) hN hi p) fun σ H p=>hd (fun σ H=>D.nx σ H) σ H (fun _ _ z=>z) p
theorem Jh {c:TT} {tb:TS} {D:Ends} {σ:St} {H:Hp} (W:Nat->St->Hp->Prop) (n0:Nat) (h0:W n0 σ H)
   (hs:∀ (n:Nat) (σ:St) (H:Hp) (N:St->Hp->Prop) (B:Nat->St->Hp->Prop),(∀ n σ H,(c σ H fun b H1=>if b=true then ∃ N:St->Hp->Prop,(∀ σ' H',N σ' H'->∃ m',m'<n/\W m' σ' H')/\tb { D with nx:=N,ct:=N,bk:=D.nx } σ H1 else D.nx σ H1)->B n σ H)->(∀ n' σ' H',n'<n->W n' σ' H'->N σ' H')->(∀ σ' H',N σ' H'->∃ m',m'<n/\W m' σ' H')->W n σ H->B n σ H):Gp c tb D σ H :=
 Co W n0 h0 fun n σ H N hN hN2 w=>hs n σ H N (fun n σ H=>c σ H fun b H1=>if b=true then ∃ N:St->Hp->Prop,(∀ σ' H',N σ' H'->∃ m',m'<n/\W m' σ' H')/\tb { D with nx:=N,ct:=N,bk:=D.nx } σ H1 else D.nx σ H1) (fun _ _ _ z=>z) hN hN2 w
theorem ex6 {α0:Sort _} {α1:Sort _} {α2:Sort _} {α3:Sort _} {α4:Sort _} {α5:Sort _} {P:α0->α1->α2->α3->α4->α5->Prop} (a0:α0) (a1:α1) (a2:α2) (a3:α3) (a4:α4) (a5:α5) (h:P a0 a1 a2 a3 a4 a5):∃ a0 a1 a2 a3 a4 a5,P a0 a1 a2 a3 a4 a5:=⟨a0,a1,a2,a3,a4,a5,h⟩
theorem ex8 {α0:Sort _} {α1:Sort _} {α2:Sort _} {α3:Sort _} {α4:Sort _} {α5:Sort _} {α6:Sort _} {α7:Sort _} {P:α0->α1->α2->α3->α4->α5->α6->α7->Prop} (a0:α0) (a1:α1) (a2:α2) (a3:α3) (a4:α4) (a5:α5) (a6:α6) (a7:α7) (h:P a0 a1 a2 a3 a4 a5 a6 a7):∃ a0 a1 a2 a3 a4 a5 a6 a7,P a0 a1 a2 a3 a4 a5 a6 a7:=⟨a0,a1,a2,a3,a4,a5,a6,a7,h⟩
theorem ex9 {α0:Sort _} {α1:Sort _} {α2:Sort _} {α3:Sort _} {α4:Sort _} {α5:Sort _} {α6:Sort _} {α7:Sort _} {α8:Sort _} {P:α0->α1->α2->α3->α4->α5->α6->α7->α8->Prop} (a0:α0) (a1:α1) (a2:α2) (a3:α3) (a4:α4) (a5:α5) (a6:α6) (a7:α7) (a8:α8) (h:P a0 a1 a2 a3 a4 a5 a6 a7 a8):∃ a0 a1 a2 a3 a4 a5 a6 a7 a8,P a0 a1 a2 a3 a4 a5 a6 a7 a8:=⟨a0,a1,a2,a3,a4,a5,a6,a7,a8,h⟩
theorem an4 {p0 p1 p2 p3:Prop} (h0:p0) (h1:p1) (h2:p2) (h3:p3):p0/\p1/\p2/\p3:=⟨h0,h1,h2,h3⟩
theorem an6 {p0 p1 p2 p3 p4 p5:Prop} (h0:p0) (h1:p1) (h2:p2) (h3:p3) (h4:p4) (h5:p5):p0/\p1/\p2/\p3/\p4/\p5:=⟨h0,h1,h2,h3,h4,h5⟩
theorem an7 {p0 p1 p2 p3 p4 p5 p6:Prop} (h0:p0) (h1:p1) (h2:p2) (h3:p3) (h4:p4) (h5:p5) (h6:p6):p0/\p1/\p2/\p3/\p4/\p5/\p6:=⟨h0,h1,h2,h3,h4,h5,h6⟩
end L2
set_option Elab.async false
set_option linter.all false
set_option maxRecDepth 100000
namespace Pb
open L2 PySem
inductive Wlk (rs:List Road):Int->List Int->Int->Prop
 | nil (a:Int):Wlk rs a [] a
 | cons {a b c:Int} {l:List Int} (h:Adj rs a b) (t:Wlk rs b l c):Wlk rs a (b::l) c
def nV (rs:List Road):Int->List Int->Int
 | _,[]=>1
 | a,b::l=>(aH rs a b).getD 0*nV rs b l
section
variable {m:Int} {rs:List Road} {r:Int} {par:Int->Int} {dep:Int->Nat}
theorem Wlk.app {a b c:Int} {l k:List Int} (h:Wlk rs a l b) (t:Wlk rs b k c):Wlk rs a (l++k) c:=by
 induction h with
 | nil a=>exact t
 | cons ad w ih=>exact .cons ad (ih t)
theorem K4 {a b:Int} {l:List Int} (h:Wlk rs a l b) (k:List Int):nV rs a (l++k)=nV rs a l*nV rs b k:=by
 induction h with
 | nil a=>show nV rs a k=1*_;rw [Int.one_mul]
 | cons ad w ih=>show _*nV rs _ (_++k)=_*nV rs _ _*_;rw [ih,Int.mul_assoc]
theorem Wlk.rev {a c:Int} {l:List Int} (h:Wlk rs a l c):∃ k,(a::l).reverse=c::k/\Wlk rs c k a:=by
 induction h with
 | nil a=>exact ⟨[],rfl,.nil a⟩
 | @cons a b c l ad w ih =>
   obtain ⟨k,e,w'⟩:=ih;exact ⟨k++[a],by rw [List.reverse_cons,e];rfl,w'.app (.cons ad.symm (.nil a))⟩
theorem Wlk.last {a b:Int} {l:List Int} (h:Wlk rs a l b):a::l=(a::l).dropLast++[b]:=by
 induction h with
 | nil a=>rfl
 | @cons a b c l ad w ih =>
   show a::(b::l)=a::((b::l).dropLast++[c]);rw [<- ih]
theorem Wlk.at_ {a c b:Int} {l:List Int} (h:Wlk rs a l c) (hb:b∈a::l):∃ l1 l2,l=l1++l2/\Wlk rs a l1 b/\Wlk rs b l2 c:=by
 induction h with
 | nil a =>
   rw [List.mem_singleton.mp hb];exact ⟨[],[],rfl,.nil a,.nil a⟩
 | @cons a x c l ad w ih =>
   rcases List.mem_cons.mp hb with z|z
   . rw [z];exact ⟨[],x::l,rfl,.nil a,.cons ad w⟩
   . obtain ⟨l1,l2,e,h1,h2⟩:=ih z;exact ⟨x::l1,l2,by rw [e];rfl,.cons ad h1,h2⟩
theorem AW (R:Rooted m rs r par dep):∀ (n:Nat) (a:Int),dep a=n->0<=a->a<m->∃ l,dg par dep a=a::l/\Wlk rs a l r/\nV rs a l=kD rs par dep a:=by
 intro n
 induction n with
 | zero =>
   intro a ha a0 a1;by_cases z:a=r
   . subst z;exact ⟨[],rp R,.nil _,(wU R).symm⟩
   . have:=R.pos a0 a1 z;omega
 | succ n ih =>
   intro a ha a0 a1;have z:a≠r:=fun z=>by rw [z,R.root] at ha;omega
   have u:=R.up a a0 a1 z;obtain ⟨l,e,w,p⟩:=ih (par a) (by omega) u.1.1 u.1.2;refine ⟨par a::l,by rw [gh R a0 a1 z,e],.cons u.2.1 w,?_⟩;rw [rA R a0 a1 z,<- p]
   rfl
theorem Ds (R:Rooted m rs r par dep) {a:Int} (a0:0<=a) (a1:a<m):(dg par dep a).Nodup:=(uq R _ a rfl a0 a1).1
theorem Wlk.through (g:Good m rs) (R:Rooted m rs r par dep) {a:Int} {l:List Int} (h:Wlk rs a l r):∀ x∈dg par dep a,x∈a::l:=by
 generalize hc:r=c at h
 induction h with
 | nil a=>intro x hx;rw [<- hc,rp R] at hx;rw [<- hc];exact hx
 | @cons a b c l ad w ih =>
   intro x hx;have ih:=ih hc;have ra:=(g.adj ad).1;have rb:=(g.adj ad).2.1;rcases R.adj ad with ⟨h1,h2⟩|⟨h1,h2⟩
   . refine List.mem_cons_of_mem _ (ih x ?_);rw [gh R rb.1 rb.2 h1,h2];exact List.mem_cons_of_mem _ hx
   . rw [gh R ra.1 ra.2 h1,h2] at hx;rcases List.mem_cons.mp hx with z|z
     . rw [z];exact List.mem_cons_self
     . exact List.mem_cons_of_mem _ (ih x z)
theorem Wlk.uniq (g:Good m rs) (R:Rooted m rs r par dep) {a:Int} {l:List Int} (h:Wlk rs a l r) (nd:(a::l).Nodup):a::l=dg par dep a:=by
 generalize hc:r=c at h
 induction h with
 | nil a=>rw [<- hc,rp R]
 | @cons a b c l ad w ih =>
   have ra:=(g.adj ad).1;have rb:=(g.adj ad).2.1;have nd':=List.nodup_cons.mp nd;rcases R.adj ad with ⟨h1,h2⟩|⟨h1,h2⟩
   . refine absurd (Wlk.through g R (hc ▸ w) a ?_) nd'.1;rw [gh R rb.1 rb.2 h1,h2];obtain ⟨k,e⟩:=yK (par:=par) (dep:=dep) a;rw [e];exact List.mem_cons_of_mem _ List.mem_cons_self
   . rw [gh R ra.1 ra.2 h1,h2,ih nd'.2 hc]
variable {para parb parc:Int->Int} {depa depb depc:Int->Nat} {a b c:Int}
theorem QI (g:Good m rs) (A:Rooted m rs a para depa) (C:Rooted m rs c parc depc) (a0:0<=a) (a1:a<m):dg para depa c=(dg parc depc a).reverse:=by
 obtain ⟨l,e,w,_⟩:=AW C _ a rfl a0 a1;obtain ⟨k,e',w'⟩:=w.rev;have nd:=Ds C a0 a1;rw [e] at nd ⊢;rw [e',w'.uniq g A (by rw [<- e'];exact (List.reverse_perm _).nodup_iff.mpr nd)]
theorem TR (g:Good m rs) (B:Rooted m rs b parb depb) (C:Rooted m rs c parc depc) (a0:0<=a) (a1:a<m) (b0:0<=b) (b1:b<m) (h:b∈dg parc depc a) :
   (dg parb depb a).dropLast++dg parc depc b=dg parc depc a/\kD rs parb depb a*kD rs parc depc b=kD rs parc depc a:=by
 obtain ⟨l,e,w,p⟩:=AW C _ a rfl a0 a1;have nd:=Ds C a0 a1;rw [e] at h nd;obtain ⟨l1,l2,el,w1,w2⟩:=w.at_ h;rw [el,<- List.cons_append,List.nodup_append] at nd;have e1:=w1.uniq g B nd.1;have bm:b∈a::l1:=by rw [w1.last];exact List.mem_append_right _ (List.mem_singleton.mpr rfl)
 have e2:=w2.uniq g C (List.nodup_cons.mpr ⟨fun z=>nd.2.2 b bm b z rfl,nd.2.1⟩);refine ⟨?_,?_⟩
 . rw [<- e1,<- e2,e,el,<- List.cons_append]
   conv=>rhs;rw [w1.last]
   rw [List.append_assoc]
   rfl
 . obtain ⟨l1',e1',_,p1⟩:=AW B _ a rfl a0 a1;obtain ⟨l2',e2',_,p2⟩:=AW C _ b rfl b0 b1;rw [<- e1] at e1';rw [<- e2] at e2';injection e1' with _ e1'
   injection e2' with _ e2'
   rw [<- p1,<- p2,<- p,<- e1',<- e2',el,K4 w1]
end
section
variable {m:Int} {rs:List Road} {r b:Int} {par:Int->Int} {dep:Int->Nat}
theorem Ja:∀ (n:Nat) (v:Int),B3 par b n v=decide (b∈fE par n v)
 | 0,v=>by
   show decide (v=b)=decide (b∈[v]);exact decide_eq_decide.mpr ⟨fun z=>by rw [z];exact List.mem_cons_self,fun z=>(List.mem_singleton.mp z).symm⟩
 | n+1,v=>by
   show (decide (v=b) || B3 par b n (par v))=decide (b∈v::fE par n (par v));rw [Ja n (par v)];by_cases c:v=b
   . rw [decide_eq_true c,Bool.true_or,decide_eq_true (by rw [c];exact List.mem_cons_self)]
   . rw [decide_eq_false c,Bool.false_or];exact decide_eq_decide.mpr ⟨fun z=>List.mem_cons_of_mem _ z,fun z=>by
       rcases List.mem_cons.mp z with z|z
       . exact absurd z.symm c
       . exact z⟩
end
end Pb
set_option Elab.async false
set_option linter.all false
set_option maxRecDepth 100000
namespace Pb
open L2 PySem
section
variable {m:Int} {rs:List Road} {r b:Int} {par:Int->Int} {dep:Int->Nat}
theorem Ra:∀ (k:Nat) (x:Int),up par (k+1) x=up par k (par x)
 | 0,_=>rfl
 | k+1,x=>by show par (up par (k+1) x)=par (up par k (par x));rw [Ra k x]
theorem zC:∀ (n k:Nat) (x:Int),k<=n->up par k x∈fE par n x
 | 0,0,x,_=>List.mem_cons_self
 | n+1,0,x,_=>List.mem_cons_self
 | n+1,k+1,x,h=>by
   rw [Ra];exact List.mem_cons_of_mem _ (zC n k (par x) (by omega))
theorem II {f:Int->List Int}:∀ {l:List Int} {k:Nat} {p:Int},(l.flatMap f)[k]?=some p->∃ u∈l,∃ k' rest,(f u)[k']?=some p/\(l.flatMap f).drop k=(f u).drop k'++rest
 | [],k,p,h=>by simp at h
 | u::l,k,p,h=>by
   rw [List.flatMap_cons] at h ⊢;by_cases c:k<(f u).length
   . rw [List.getElem?_append_left c] at h;exact ⟨u,List.mem_cons_self,k,l.flatMap f,h,List.drop_append_of_le_length (Nat.le_of_lt c)⟩
   . rw [List.getElem?_append_right (by omega)] at h;obtain ⟨w,hw,k',rest,h1,h2⟩:=II h;refine ⟨w,List.mem_cons_of_mem _ hw,k',rest,h1,?_⟩;rw [<- h2,List.drop_append,List.drop_eq_nil_of_le (by omega),List.nil_append]
theorem Ny (g:Good m rs) (R:Rooted m rs r par dep):∀ (n:Nat) (v:Int),m.toNat - 1 - dep v=n->0<=v->v<m->∀ (k:Nat) (p:Int),(bU m rs r par dep v)[k]?=some p->∃ rest,(bU m rs r par dep v).drop k=bU m rs r par dep p++rest:=by
 intro n
 induction n with
 | zero =>
   intro v hn v0 v1 k p h;have e:bU m rs r par dep v=[v]:=by unfold bU;rw [hn];rfl
   cases k with
   | zero =>
     have:p=v:=(by rw [e] at h;exact (Option.some.inj h).symm);rw [this];exact ⟨[],by rw [List.append_nil];rfl⟩
   | succ k=>rw [e] at h;simp at h
 | succ n ih =>
   intro v hn v0 v1 k p h;have e:=ii g R v0 v1;cases k with
   | zero =>
     have:p=v:=(by rw [e] at h;exact (Option.some.inj h).symm);rw [this];exact ⟨[],by rw [List.append_nil];rfl⟩
   | succ k =>
     rw [e,List.getElem?_cons_succ] at h;obtain ⟨u,hu,k',rest,h1,h2⟩:=II h;obtain ⟨ur,un,up⟩:=(aQ g R v0 v1).mp hu;have du:=R.pos ur.1 ur.2 un;rw [up] at du;have dl:=dy R ur.1 ur.2;obtain ⟨rest',h3⟩:=ih u (by omega) ur.1 ur.2 k' p h1;exact ⟨rest'++rest,by rw [e,List.drop_succ_cons,h2,h3,List.append_assoc]⟩
theorem uy (g:Good m rs) (R:Rooted m rs r par dep) {v:Int} (v0:0<=v) (v1:v<m):v∈bU m rs r par dep v:=by
 rw [ii g R v0 v1];exact List.mem_cons_self
theorem za (g:Good m rs) (R:Rooted m rs r par dep) {p:Int} (p0:0<=p) (p1:p<m) (x:Int):x∈bU m rs r par dep p↔(0<=x/\x<m)/\ben par dep p x=true:=by
 constructor
 . intro h;obtain ⟨xr,k,e1,e2⟩:=(tH g R _ p p0 p1).2 x h;refine ⟨xr,?_⟩;unfold ben;rw [Ja];refine decide_eq_true ?_;rw [<- e2];exact zC _ _ _ (by omega)
 . rintro ⟨xr,h⟩;generalize hn:dep x=n
   induction n generalizing x with
   | zero =>
     by_cases z:x=r
     . subst z;have:p=x:=by
         unfold ben at h;rw [R.root] at h;exact (of_decide_eq_true h).symm
       rw [this];exact uy g R xr.1 xr.2
     . have:=R.pos xr.1 xr.2 z;omega
   | succ n ih =>
     have z:x≠r:=fun z=>by rw [z,R.root] at hn;omega
     have u:=R.up x xr.1 xr.2 z;rw [Qf R xr.1 xr.2 z] at h;by_cases y:x=p
     . rw [y];exact uy g R p0 p1
     . rw [decide_eq_false y,Bool.false_or] at h;have hp:=ih (par x) u.1 h (by omega);obtain ⟨k,hk⟩:=List.getElem?_of_mem hp;obtain ⟨rest,e⟩:=Ny g R _ p rfl p0 p1 k _ hk;refine List.mem_of_mem_drop (i:=k) ?_;rw [e,ii g R u.1.1 u.1.2];refine List.mem_append_left _ (List.mem_cons_of_mem _ (List.mem_flatMap.mpr ⟨x,(aQ g R u.1.1 u.1.2).mpr ⟨xr,z,rfl⟩,uy g R xr.1 xr.2⟩))
theorem Pp (g:Good m rs) (R:Rooted m rs r par dep) {p:Int} (p0:0<=p) (p1:p<m):(bU m rs r par dep p).Perm (KB m par dep p) :=
 eV (tH g R _ p p0 p1).1 Kw fun x=>by rw [za g R p0 p1,Pz]
end
end Pb
set_option Elab.async false
set_option linter.all false
namespace L2
open PySem
end L2
namespace Pb
open PySem L2
def ned (rs:List Road) (par:Int->Int) (v x:Int):Int:=x*(aH rs (par v) v).getD 1
theorem M9 {rs:List Road} {par:Int->Int} (v:Int):ned rs par v 0=0:=by unfold ned;exact Int.zero_mul _
end Pb
set_option Elab.async false
set_option linter.all false
set_option maxRecDepth 100000
set_option exponentiation.threshold 5000
namespace Pb
open L2 PySem
section
variable {m:Int} {rs:List Road} {r:Int} {par:Int->Int} {dep:Int->Nat}
def foU (op:Int->Int->Int) (m:Int) (rs:List Road) (r:Int) (par:Int->Int) (held:Int->Int) (con:Int->Int->Int):Nat->Int->Int
 | 0,v=>held v
 | n+1,v=>((aJ m rs (front r par v) v).map fun c=>con c (foU op m rs r par held con n c)).foldl op (held v)
def fo (op:Int->Int->Int) (m:Int) (rs:List Road) (r:Int) (par:Int->Int) (dep:Int->Nat) (held:Int->Int) (con:Int->Int->Int) (v:Int):Int:=foU op m rs r par held con (m.toNat - 1 - dep v) v
variable {op:Int->Int->Int} {held:Int->Int} {con:Int->Int->Int}
theorem RO (g:Good m rs) (R:Rooted m rs r par dep) {v:Int} (h0:0<=v) (h1:v<m):fo op m rs r par dep held con v=((aJ m rs (front r par v) v).map fun c=>con c (fo op m rs r par dep held con c)).foldl op (held v):=by
 have du:∀ u∈aJ m rs (front r par v) v,dep u=dep v+1/\dep u+1<=m.toNat:=fun u hu=>by
   obtain ⟨w1,w2,w3⟩:=(aQ g R h0 h1).mp hu;have:=R.pos w1.1 w1.2 w2;rw [w3] at this;exact ⟨this,dy R w1.1 w1.2⟩
 unfold fo;cases e:m.toNat - 1 - dep v with
 | zero =>
   have:aJ m rs (front r par v) v=[]:=List.eq_nil_iff_forall_not_mem.mpr fun u hu=>by
     have:=du u hu;omega
   rw [this]
   rfl
 | succ n =>
   show List.foldl op (held v) _=_;rw [List.map_congr_left fun u hu=>show con u (foU op m rs r par held con n u)=con u (foU op m rs r par held con (m.toNat - 1 - dep u) u) by rw [show m.toNat - 1 - dep u=n by have:=du u hu;omega]]
theorem Order.cut (R:Rooted m rs r par dep) {t:List Int} (O:Order m r par t) {i:Nat} {v:Int} (hv:t.reverse[i]?=some v) :
   ((0<=v/\v<m)/\v≠r)/\t.drop (t.length - (i+1))=v::t.drop (t.length - i)/\(t.drop (t.length - i)).Nodup/\(∀ x∈t.drop (t.length - i),(0<=x/\x<m)/\x≠r)/\∀ k,0<=k->k<m->k≠r->par k=v->k∈t.drop (t.length - i):=by
 have hi:i<t.length:=by
   have:=(List.getElem?_eq_some_iff.mp hv).1
   rwa [List.length_reverse] at this
 rw [List.getElem?_reverse hi] at hv;generalize hj:t.length - 1 - i=j at hv;have ej:t.length - i=j+1:=by omega
 have ej':t.length - (i+1)=j:=by omega
 rw [ej,ej'];have hjl:j<t.length:=by omega
 have vm:v∈t:=List.mem_of_getElem? hv;have vp:=O.places v vm;have ed:t.drop j=v::t.drop (j+1):=by
   rw [List.drop_eq_getElem_cons hjl];rw [List.getElem?_eq_getElem hjl] at hv;cases hv
   rfl
 have es:t=t.take j++v::t.drop (j+1):=by rw [<- ed,List.take_append_drop]
 have ndt:=(List.nodup_cons.mp O.nd).2;have nd2:=ndt;rw [es] at nd2;have av:v ∉ t.take j:=fun z=>(List.nodup_append.mp nd2).2.2 v z v List.mem_cons_self rfl;refine ⟨vp,ed,ndt.sublist (List.drop_sublist _ _),fun x hx=>O.places x (List.mem_of_mem_drop hx),fun k k0 k1 kr pk=>?_⟩;rcases O.all k k0 k1 with z|z
 . exact absurd z kr
 . rw [es] at z;rcases List.mem_append.mp z with z|z
   . have af:=O.af;rw [es] at af;rcases af.up k z with w|w
     . rw [pk] at w;exact absurd (List.mem_singleton.mp w) vp.2
     . rw [pk] at w;exact absurd w av
   . rcases List.mem_cons.mp z with z|z
     . subst z;exact absurd pk (R.ne k0 k1 kr)
     . exact z
def mx (i j:Int):Int:=if j > i then j else i
def bor (rs:List Road) (par:Int->Int) (v x:Int):Int:=x*(aH rs v (par v)).getD 1
abbrev wgt (m:Int) (rs:List Road) (r:Int) (par:Int->Int) (dep:Int->Nat):Int->Int:=fo mx m rs r par dep (fun _=>1) (bor rs par)
end
end Pb
set_option Elab.async false
set_option linter.all false
set_option maxRecDepth 100000
namespace L2
open PySem PySem.Spec PyProof.Rows
section
variable {X:Cx}
end
end L2
namespace Pb
end Pb
set_option Elab.async false
set_option linter.all false
set_option maxRecDepth 100000
namespace L2
open PySem PySem.Spec PyProof.Rows
section
variable {X:Cx}
end
end L2
set_option Elab.async false
set_option linter.all false
set_option maxRecDepth 100000
namespace L2
open PySem PySem.Spec PyProof.Rows
section
variable {P:Program} {w:World} {A:Around} {R:Result->Shared->Prop} {I S:Addr} {fp wr:List Addr} {n:Nat} {Pv:Nat->Value->Prop} {St:Nat->Heap->Prop} {bt:Nat->Nat->Bool} {kw:List (Str × Value)}
end
section
variable {X:Cx} {x:Str} {p pos kpos:Pos} {e de:Expr} {t tk:TA}
def Rb (K:PySem.W.Frag) (t tk:TA):TE:=fun σ H Q=>t σ H fun vs H1=>tk σ H1 fun zs H2=>∃ (q:Addr) (ns:List Int) (d:V),vs=[.ref q]/\zs=[d]/\SqL K H2 q (ns.map V.int)/\ns≠[]/\∀ y,y∈ns->(∀ x∈ns,y<=x)->Q (.int y) H2
def Q6 (t:TE):TE:=fun σ H Q=>t σ H fun x H1=>∃ b,x=.bl b/\Q (.bl (b != true)) H1
end
end L2
set_option Elab.async false
set_option linter.all false
set_option maxRecDepth 100000
namespace Pb
open L2 PySem
section
variable {m:Int} {rs:List Road} {r:Int} {par:Int->Int} {dep:Int->Nat}
variable {ch:Int->Option Int} {w:Int} {cn:Int->Int}
end
end Pb
set_option Elab.async false
set_option linter.all false
set_option maxRecDepth 100000
namespace L2
open PySem PySem.Spec PyProof.Rows PySem.W
section
variable {n:Nat}
variable (hn:0<n)
include hn
end
section
variable {prog:Program} {w:World} {A:Around} {E:Value->Shared->Prop} {s:Shared}
end
end L2
set_option Elab.async false
set_option linter.all false
set_option maxRecDepth 100000
namespace L2
open PySem PySem.Spec PyProof.Rows PySem.W Pb
section
variable {prog:Program} {w:World} {A:Around} {E:Value->Shared->Prop} {s:Shared} {it d:Addr} {i ep:Nat} {es:Array DictEntry}
end
section
variable {prog:Program} {w:World} {A:Around} {E:Value->Shared->Prop} {s:Shared} {fin:Bool} {C:Bool->Shared->Prop}
end
section
variable {prog:Program} {w:World} {A:Around} {E:Value->Shared->Prop} {s:Shared}
end
section
variable {X:Cx}
end
end L2
set_option Elab.async false
set_option linter.all false
set_option maxRecDepth 100000
namespace L2
end L2
namespace Pb
open L2 PySem
section
variable {m:Int} {rs:List Road} {r:Int} {par:Int->Int} {dep:Int->Nat}
theorem zT (g:Good m rs) (v x y:Int) (h:x<=y):hnd rs par v x<=hnd rs par v y:=by
 have pos:∀ a b:Int,0<(aH rs a b).getD 1:=fun a b=>by
   cases e:aH rs a b with
   | none=>decide
   | some k =>
     obtain ⟨k',e',h2,_⟩:=iA g (E9.mp (show (aH rs a b).isSome=true by rw [e];rfl));rw [e] at e';cases e';show 0<k;omega
 have p1:=pos v (par v);have p2:=pos (par v) v;unfold hnd;by_cases c:0<=x
 . rw [if_pos c,if_pos (by omega)];exact Int.ediv_le_ediv p1 h
 . rw [if_neg c];by_cases c2:0<=y
   . rw [if_pos c2];have a1:0<=y / (aH rs v (par v)).getD 1:=Int.ediv_nonneg c2 (by omega);have a2:x*(aH rs (par v) v).getD 1<=0:=Int.mul_nonpos_of_nonpos_of_nonneg (by omega) (by omega);omega
   . rw [if_neg c2];exact Int.mul_le_mul_of_nonneg_right h (by omega)
theorem FT {x n k k':Int} (n0:1<=n) (k2:2<=k) (k2':2<=k'):(n+(if 0<=x + -(n*k) then (x + -(n*k)) / k else (x + -(n*k))*k')<=if 0<=x then x / k else x*k') /\
   (-(n*k)+(if 0<=x+n then (x+n) / k' else (x+n)*k)<=if 0<=x then x / k' else x*k):=by
 have nk:n*2<=n*k:=Int.mul_le_mul_of_nonneg_left k2 (by omega);have nk':n*2<=n*k':=Int.mul_le_mul_of_nonneg_left k2' (by omega)
 constructor
 . by_cases c1:0<=x + -(n*k)
   . rw [if_pos c1,if_pos (by omega),<- Int.neg_mul,Int.add_mul_ediv_right _ _ (by omega)];omega
   . rw [if_neg c1];by_cases c2:0<=x
     . rw [if_pos c2];have q1:=Int.mul_ediv_add_emod x k;have q2:=Int.emod_lt_of_pos x (show 0<k by omega);have q3:=Int.emod_nonneg x (show k≠0 by omega);have q4:x / k<n:=by
         rw [Int.ediv_lt_iff_lt_mul (by omega)];omega
       have e1:k*(x / k - n)=k*(x / k) - n*k:=(by rw [Int.mul_sub,Int.mul_comm k n]);have e3:x + -(n*k)<=k*(x / k - n+1) - 1:=by
         have:k*(x / k - n+1)=k*(x / k - n)+k:=(by rw [Int.mul_add,Int.mul_one]);omega
       have e4:k*(x / k - n+1)<=2*(x / k - n+1):=by
         have:=Int.mul_le_mul_of_nonpos_right k2 (show x / k - n+1<=0 by omega);omega
       have e5:x + -(n*k)<=(x / k - n):=(by omega);have e6:(x + -(n*k))*k'<=(x / k - n)*k':=Int.mul_le_mul_of_nonneg_right e5 (by omega);have e7:(x / k - n)*k'<=(x / k - n)*1:=Int.mul_le_mul_of_nonpos_left (show x / k - n<=0 by omega) (show 1<=k' by omega);omega
     . rw [if_neg c2];have e1:(x + -(n*k))*k'=x*k' + -(n*k)*k':=Int.add_mul ..;have e2:-(n*k)*k'<=-(n*k)*1:=Int.mul_le_mul_of_nonpos_left (show -(n*k)<=0 by omega) (show 1<=k' by omega);omega
 . by_cases c1:0<=x
   . rw [if_pos c1,if_pos (by omega)];have a1:(x+n) / k'<=(x+n*k') / k':=Int.ediv_le_ediv (by omega) (by omega);rw [Int.add_mul_ediv_right _ _ (by omega)] at a1;omega
   . rw [if_neg c1];by_cases c2:0<=x+n
     . rw [if_pos c2];have a1:(x+n) / k'<=x+n:=Int.ediv_le_self _ c2;have a2:(-x)*2<=(-x)*k:=Int.mul_le_mul_of_nonneg_left k2 (by omega);have a3:(n+x)*2<=(n+x)*k:=Int.mul_le_mul_of_nonneg_left k2 (by omega);have a4:(n+x)*k=n*k+x*k:=Int.add_mul ..;omega
     . rw [if_neg c2,Int.add_mul];omega
theorem Lw (g:Good m rs) (R:Rooted m rs r par dep) (r0:0<=r) (r1:r<m) {xs ys:List Int} (xl:(xs.length:Int)=m) {s:Stp} (is:lR m rs s=true) :
   gat m rs r par dep (fun v=>(bw m (cD rs xs s) ys).getD v.toNat 0) (hnd rs par) r<=gat m rs r par dep (fun v=>(bw m xs ys).getD v.toNat 0) (hnd rs par) r:=by
 obtain ⟨ar,nb,n1⟩:=qR is;have ad:=(jS g).mp nb;have br:=(g.adj ad).2.1;obtain ⟨k,ek,k0,k1⟩:=iA g ad;obtain ⟨k',ek',k0',k1'⟩:=iA g ad.symm;have td:b6 rs s.1 s.2.1=k:=by unfold b6;rw [ek];rfl
 have ov:∀ (zs:List Int) (v:Int),0<=v->v<m->(bw m zs ys).getD v.toNat 0=zs.getD v.toNat 0 - ys.getD v.toNat 0:=fun zs v v0 v1=>by
   unfold bw;rw [List.getD,List.getElem?_map,List.getElem?_range (by omega)]
   rfl
 have cv:∀ {c dc dp:Int},0<=par c/\par c<m->Chg m r par (fun v=>xs.getD v.toNat 0) (fun v=>(cD rs xs s).getD v.toNat 0) c dc dp->Chg m r par (fun v=>(bw m xs ys).getD v.toNat 0) (fun v=>(bw m (cD rs xs s) ys).getD v.toNat 0) c dc dp:=fun {c dc dp} pr C=>by
   refine ⟨C.rng,C.nr,?_,?_,fun v v0 v1 w1 w2=>?_⟩
   . show (bw m (cD rs xs s) ys).getD c.toNat 0=(bw m xs ys).getD c.toNat 0+dc;rw [ov _ c C.rng.1 C.rng.2,ov _ c C.rng.1 C.rng.2];have:=C.own;omega
   . show (bw m (cD rs xs s) ys).getD (par c).toNat 0=(bw m xs ys).getD (par c).toNat 0+dp;rw [ov _ _ pr.1 pr.2,ov _ _ pr.1 pr.2];have:=C.up;omega
   . show (bw m (cD rs xs s) ys).getD v.toNat 0=(bw m xs ys).getD v.toNat 0;rw [ov _ v v0 v1,ov _ v v0 v1];have:=C.oth v v0 v1 w1 w2;omega
 rcases Ab g R xl is with ⟨h1,h2,C⟩|⟨h1,h2,C⟩
 . refine (cv (by rw [h2];exact br) C).le g R (zT g) ?_ _ r rfl r0 r1 fun z=>h1 z.symm;unfold hnd;rw [h2,ek,ek',td];exact (FT n1 k0 k0').1
 . refine (cv (by rw [h2];exact ar) C).le g R (zT g) ?_ _ r rfl r0 r1 fun z=>h1 z.symm;unfold hnd;rw [h2,ek,ek',td];exact (FT n1 k0 k0').2
theorem t7 {zs ys:List Int} (i:Nat):(bw m zs ys).getD i 0=if i<m.toNat then zs.getD i 0 - ys.getD i 0 else 0:=by
 unfold bw;by_cases c:i<m.toNat
 . rw [if_pos c,List.getD,List.getElem?_map,List.getElem?_range c]
   rfl
 . rw [if_neg c,List.getD,List.getElem?_map,List.getElem?_eq_none (by rw [List.length_range];omega)]
   rfl
end
section
end
end Pb
set_option Elab.async false
set_option linter.all false
set_option maxRecDepth 100000
namespace L2
open PySem PySem.Spec PyProof.Rows
def L3 (tk tv:TE):TE:=fun σ H Q=>∀ p,H p=none->tf [(tk,tv)] σ (upd H p (.dT [])) fun ps H2=>H2 p=some (.dT [])/\∃ (k:List Key) (b:Addr) (y:V),ps=[(.ref b,y)]/\H2 b=some (.tup (k.map kV))/\Q (.ref p) (upd H2 p (.dT [(k,y)]))
end L2
set_option Elab.async false
set_option linter.all false
set_option maxRecDepth 100000
namespace Pb
open L2 PySem
inductive Come (m:Int) (rs:List Road) (xs:List Int):List Int->Prop
 | start:Come m rs xs xs
 | step {z:List Int} {a b:Int}:Come m rs xs z->oJ m rs z (a,b,1)=true->Come m rs xs (cD rs z (a,b,1))
theorem BP:∀ {z:List Int},(∀ x∈z,0<=x)->0<=z.sum
 | [],_=>Int.le_refl 0
 | x::z,h=>by
   have h1:=h x (.head _);have h2:=BP fun y hy=>h y (.tail _ hy);rw [List.sum_cons];omega
end Pb
namespace Pb
open L2 PySem
section
variable {m:Int} {rs:List Road} {xs:List Int}
theorem Come.len {z:List Int} (h:Come m rs xs z):z.length=xs.length:=by
 induction h with
 | start=>rfl
 | step _ _ ih=>rw [Dj];exact ih
variable {r:Int} {par:Int->Int} {dep:Int->Nat}
end
end Pb
set_option Elab.async false
set_option linter.all false
set_option maxRecDepth 100000
namespace L2
open PySem PySem.Spec PyProof.Rows Pb
section
variable {X:Cx}
end
end L2
set_option Elab.async false
set_option linter.all false
set_option maxRecDepth 100000
namespace L2
open PySem PySem.Spec PyProof.Rows
end L2
namespace Pb
end Pb
namespace L2
open PySem Pb
end L2
namespace L2
open PySem
end L2
namespace L2
open PySem
end L2
namespace L2
open PySem PySem.Spec PyProof.Rows Pb
end L2
namespace L2
open PySem
end L2
set_option Elab.async false
set_option linter.all false
set_option maxRecDepth 100000
namespace Pb
open L2 PySem
theorem HA {P:Int->Prop} (f:Int->Nat):∀ (n:Nat) (v:Int),f v=n->P v->∃ v,P v/\∀ u,P u->f v<=f u:=by
 intro n
 induction n using Nat.strongRecOn with
 | _ n ih =>
   intro v hn hp;by_cases c:∃ u,P u/\f u<f v
   . obtain ⟨u,h1,h2⟩:=c;exact ih (f u) (by omega) u rfl h1
   . exact ⟨v,hp,fun u hu=>Nat.le_of_not_lt fun h=>c ⟨u,hu,h⟩⟩
theorem EJ:∀ {l:List Int},(∀ x∈l,x<=0)->l.sum<=0
 | [],_=>Int.le_refl 0
 | x::l,h=>by
   have h1:=h x (.head _);have h2:=EJ fun y hy=>h y (.tail _ hy);rw [List.sum_cons];omega
theorem DM:∀ {l:List Int} {y:Int},(∀ x∈l,x<=0)->y∈l->l.sum<=y
 | x::l,y,h,hy=>by
   have h1:=h x (.head _);have h2:=EJ fun y hy=>h y (.tail _ hy);rw [List.sum_cons];rcases List.mem_cons.mp hy with e|e
   . omega
   . have:=DM (fun y hy=>h y (.tail _ hy)) e;omega
theorem zu:∀ {l:List Int},(∀ x∈l,x=0)->l.sum=0
 | [],_=>rfl
 | x::l,h=>by rw [List.sum_cons,h x (.head _),zu fun y hy=>h y (.tail _ hy)];rfl
section
variable {m:Int} {rs:List Road} {r:Int} {par:Int->Int} {dep:Int->Nat}
abbrev stg (m:Int) (rs:List Road) (r:Int) (par:Int->Int) (dep:Int->Nat) (ys z:List Int) (v:Int):Int:=gat m rs r par dep (fun v=>(bw m z ys).getD v.toNat 0) (hnd rs par) v
theorem BF (g:Good m rs) (R:Rooted m rs r par dep) {ys z:List Int} {v:Int} (v0:0<=v) (v1:v<m):stg m rs r par dep ys z v=z.getD v.toNat 0 - ys.getD v.toNat 0+((aJ m rs (front r par v) v).map fun c=>hnd rs par c (stg m rs r par dep ys z c)).sum:=by
 show gat m rs r par dep _ _ v=_;rw [aX g R v0 v1];show (bw m z ys).getD v.toNat 0+_=_;rw [t7,if_pos (by omega)]
theorem Ff {xs ys:List Int} {s:Stp} {c dc dp:Int} (pr:0<=par c/\par c<m) (C:Chg m r par (fun v=>xs.getD v.toNat 0) (fun v=>(cD rs xs s).getD v.toNat 0) c dc dp):Chg m r par (fun v=>(bw m xs ys).getD v.toNat 0) (fun v=>(bw m (cD rs xs s) ys).getD v.toNat 0) c dc dp:=by
 have ov:∀ (zs:List Int) (v:Int),0<=v->v<m->(bw m zs ys).getD v.toNat 0=zs.getD v.toNat 0 - ys.getD v.toNat 0:=fun zs v v0 v1=>by
   rw [t7,if_pos (by omega)]
 refine ⟨C.rng,C.nr,?_,?_,fun v v0 v1 w1 w2=>?_⟩
 . show (bw m (cD rs xs s) ys).getD c.toNat 0=(bw m xs ys).getD c.toNat 0+dc;rw [ov _ c C.rng.1 C.rng.2,ov _ c C.rng.1 C.rng.2];have:=C.own;omega
 . show (bw m (cD rs xs s) ys).getD (par c).toNat 0=(bw m xs ys).getD (par c).toNat 0+dp;rw [ov _ _ pr.1 pr.2,ov _ _ pr.1 pr.2];have:=C.up;omega
 . show (bw m (cD rs xs s) ys).getD v.toNat 0=(bw m xs ys).getD v.toNat 0;rw [ov _ v v0 v1,ov _ v v0 v1];have:=C.oth v v0 v1 w1 w2;omega
theorem MS (g:Good m rs) (R:Rooted m rs r par dep) (r0:0<=r) (r1:r<m) {z ys:List Int} (zl:(z.length:Int)=m) (y0:∀ y∈ys,0<=y) (s0:0<=stg m rs r par dep ys z r) :
   ((∀ v,0<=v->v<m->ys.getD v.toNat 0<=z.getD v.toNat 0)/\z.getD r.toNat 0 - ys.getD r.toNat 0=stg m rs r par dep ys z r)\/∃ a b,oJ m rs z (a,b,1)=true/\stg m rs r par dep ys (cD rs z (a,b,1)) r=stg m rs r par dep ys z r:=by
 have yn:∀ v:Int,0<=ys.getD v.toNat 0:=fun v=>IZ y0 _;have tl:∀ v,0<=v->v<m->v≠r->∃ k k',aH rs v (par v)=some k/\aH rs (par v) v=some k'/\2<=k/\2<=k'/\(0<=par v/\par v<m)/\Adj rs v (par v)/\dep (par v)+1=dep v:=fun v v0 v1 hv=>by
   obtain ⟨u1,u2,u3⟩:=R.up v v0 v1 hv;obtain ⟨k,ek,k0,_⟩:=iA g u2;obtain ⟨k',ek',k0',_⟩:=iA g u2.symm;exact ⟨k,k',ek,ek',k0,k0',u1,u2,u3⟩
 by_cases cA:∃ v,(0<=v/\v<m/\v≠r)/\(aH rs v (par v)).getD 1<=stg m rs r par dep ys z v
 . -- the deepest place that has something to hand on
   obtain ⟨v',hv'⟩:=cA;obtain ⟨v,⟨⟨v0,v1,vr⟩,hv⟩,mx⟩:=HA (P:=fun v=>(0<=v/\v<m/\v≠r)/\(aH rs v (par v)).getD 1<=stg m rs r par dep ys z v) (fun v=>m.toNat - dep v) _ v' rfl hv';obtain ⟨k,k',ek,ek',k0,k0',pr,ad,dp⟩:=tl v v0 v1 vr;rw [ek] at hv;have hv:k<=stg m rs r par dep ys z v:=hv;have np:∀ x∈(aJ m rs (front r par v) v).map fun c=>hnd rs par c (stg m rs r par dep ys z c),x<=0:=fun x hx=>by
     obtain ⟨c,hc,rfl⟩:=List.mem_map.mp hx;obtain ⟨w1,w2,w3⟩:=(aQ g R v0 v1).mp hc;have dk:=R.pos w1.1 w1.2 w2;have dl:=dy R w1.1 w1.2;rw [w3] at dk;obtain ⟨q,q',eq,eq',q0,q0',_⟩:=tl c w1.1 w1.2 w2;have nc:¬ q<=stg m rs r par dep ys z c:=fun h=>by
       have:=mx c ⟨⟨w1.1,w1.2,w2⟩,by rw [eq];exact h⟩;omega
     unfold hnd;rw [eq,eq'];show (if 0<=stg m rs r par dep ys z c then stg m rs r par dep ys z c / q else stg m rs r par dep ys z c*q')<=0;generalize stg m rs r par dep ys z c=G at nc ⊢;by_cases c0:0<=G
     . rw [if_pos c0,Int.ediv_eq_zero_of_lt c0 (by omega)];exact Int.le_refl _
     . rw [if_neg c0];exact Int.mul_nonpos_of_nonpos_of_nonneg (by omega) (by omega)
   have e:=BF g R (ys:=ys) (z:=z) v0 v1;have sp:=EJ np;have yv:=yn v;have td:b6 rs v (par v)=k:=by unfold b6;rw [ek];rfl
   have is:lR m rs (v,par v,1)=true:=by
     unfold lR;have nb:=(jS g).mpr ad;simp only [Bool.and_eq_true,decide_eq_true_eq];exact ⟨⟨⟨v0,v1⟩,nb⟩,by decide⟩
   refine .inr ⟨v,par v,?_,?_⟩
   . unfold oJ;rw [is,Bool.true_and,decide_eq_true_eq];show 1*b6 rs v (par v)<=z.getD v.toNat 0;rw [td];omega
   . rcases Ab g R zl is with ⟨h1,h2,C⟩|⟨h1,h2,C⟩
     . refine (Ff pr C).eq g R ?_ _ r rfl r0 r1 fun w=>vr w.symm;show 1+hnd rs par v (stg m rs r par dep ys z v + -(1*b6 rs v (par v)))=hnd rs par v (stg m rs r par dep ys z v);rw [td];unfold hnd;rw [ek];generalize stg m rs r par dep ys z v=G at hv ⊢;rw [if_pos (by omega),if_pos (by omega)];show 1+(G + -(1*k)) / k=G / k;rw [<- Int.neg_mul,Int.add_mul_ediv_right _ _ (by omega)];omega
     . have d2:=R.pos pr.1 pr.2 h1;simp only at h2;rw [h2] at d2;omega
 . have up:∀ v,0<=v->v<m->v≠r->hnd rs par v (stg m rs r par dep ys z v)<=0/\(0<=stg m rs r par dep ys z v->hnd rs par v (stg m rs r par dep ys z v)=0):=fun v v0 v1 vr=>by
     obtain ⟨k,k',ek,ek',k0,k0',pr,ad,dp⟩:=tl v v0 v1 vr;have nc:¬ k<=stg m rs r par dep ys z v:=fun h=>cA ⟨v,⟨v0,v1,vr⟩,by rw [ek];exact h⟩;unfold hnd;rw [ek,ek'];show (if 0<=stg m rs r par dep ys z v then stg m rs r par dep ys z v / k else stg m rs r par dep ys z v*k')<=0/\(0<=stg m rs r par dep ys z v->(if 0<=stg m rs r par dep ys z v then stg m rs r par dep ys z v / k else stg m rs r par dep ys z v*k')=0);generalize stg m rs r par dep ys z v=G at nc ⊢;by_cases c0:0<=G
     . rw [if_pos c0,Int.ediv_eq_zero_of_lt c0 (by omega)];exact ⟨Int.le_refl _,fun _=>rfl⟩
     . rw [if_neg c0];exact ⟨Int.mul_nonpos_of_nonpos_of_nonneg (by omega) (by omega),fun h=>absurd h c0⟩
   by_cases cB:∃ v,(0<=v/\v<m/\v≠r)/\stg m rs r par dep ys z v<0
   . -- the nearest place that lacks something
     obtain ⟨v',hv'⟩:=cB;obtain ⟨v,⟨⟨v0,v1,vr⟩,hv⟩,mn⟩:=HA (P:=fun v=>(0<=v/\v<m/\v≠r)/\stg m rs r par dep ys z v<0) dep _ v' rfl hv';obtain ⟨k,k',ek,ek',k0,k0',pr,ad,dp⟩:=tl v v0 v1 vr;have pg:0<=stg m rs r par dep ys z (par v):=by
       by_cases c:par v=r
       . rw [c];exact s0
       . refine Int.le_of_not_gt fun h=>?_;have:=mn (par v) ⟨⟨pr.1,pr.2,c⟩,h⟩;omega
     have e:=BF g R (ys:=ys) (z:=z) pr.1 pr.2;have sp:=DM (l:=(aJ m rs (front r par (par v)) (par v)).map fun c=>hnd rs par c (stg m rs r par dep ys z c)) (y:=hnd rs par v (stg m rs r par dep ys z v)) (fun x hx=>by
       obtain ⟨c,hc,rfl⟩:=List.mem_map.mp hx;obtain ⟨w1,w2,w3⟩:=(aQ g R pr.1 pr.2).mp hc;exact (up c w1.1 w1.2 w2).1) (List.mem_map.mpr ⟨v,(aQ g R pr.1 pr.2).mpr ⟨⟨v0,v1⟩,vr,rfl⟩,rfl⟩)
     have hh:hnd rs par v (stg m rs r par dep ys z v)=stg m rs r par dep ys z v*k':=by
       unfold hnd;rw [ek',if_neg (by omega)]
       rfl
     have hk:stg m rs r par dep ys z v*k'<=(-1)*k':=Int.mul_le_mul_of_nonneg_right (by omega) (by omega);have yv:=yn (par v);have td:b6 rs (par v) v=k':=(by unfold b6;rw [ek'];rfl);have is:lR m rs (par v,v,1)=true:=by
       unfold lR;have nb:=(jS g).mpr ad.symm;simp only [Bool.and_eq_true,decide_eq_true_eq];exact ⟨⟨⟨pr.1,pr.2⟩,nb⟩,by decide⟩
     refine .inr ⟨par v,v,?_,?_⟩
     . unfold oJ;rw [is,Bool.true_and,decide_eq_true_eq];show 1*b6 rs (par v) v<=z.getD (par v).toNat 0;rw [td];omega
     . rcases Ab g R zl is with ⟨h1,h2,C⟩|⟨h1,h2,C⟩
       . have d2:=R.pos pr.1 pr.2 h1;simp only at h2;rw [h2] at d2;omega
       . refine (Ff pr C).eq g R ?_ _ r rfl r0 r1 fun w=>vr w.symm;show -(1*b6 rs (par v) v)+hnd rs par v (stg m rs r par dep ys z v+1)=hnd rs par v (stg m rs r par dep ys z v);rw [td,hh];unfold hnd;rw [ek,ek'];generalize stg m rs r par dep ys z v=G at hv ⊢;show -(1*k')+(if 0<=G+1 then (G+1) / k else (G+1)*k')=G*k';by_cases c:0<=G+1
         . have:G=-1:=(by omega);subst this;rw [if_pos c];show -(1*k')+0 / k=-1*k';rw [Int.zero_ediv];omega
         . rw [if_neg c,Int.add_mul];omega
   . have nn:∀ v,0<=v->v<m->0<=stg m rs r par dep ys z v:=fun v v0 v1=>by
       by_cases c:v=r
       . rw [c];exact s0
       . exact Int.le_of_not_gt fun h=>cB ⟨v,⟨v0,v1,c⟩,h⟩
     have ev:∀ v,0<=v->v<m->z.getD v.toNat 0 - ys.getD v.toNat 0=stg m rs r par dep ys z v:=fun v v0 v1=>by
       have e:=BF g R (ys:=ys) (z:=z) v0 v1;rw [zu fun x hx=>?_] at e
       . omega
       . obtain ⟨c,hc,rfl⟩:=List.mem_map.mp hx;obtain ⟨w1,w2,w3⟩:=(aQ g R v0 v1).mp hc;exact (up c w1.1 w1.2 w2).2 (nn c w1.1 w1.2)
     refine .inl ⟨fun v v0 v1=>?_,ev r r0 r1⟩;have h1:=ev v v0 v1;have h2:=nn v v0 v1;omega
theorem Come.pre {xs z:List Int} {a b:Int} (c:oJ m rs xs (a,b,1)=true) (h:Come m rs (cD rs xs (a,b,1)) z):Come m rs xs z:=by
 induction h with
 | start=>exact .step .start c
 | step _ c2 ih=>exact .step ih c2
theorem L8 (g:Good m rs) {z:List Int} (zl:(z.length:Int)=m) {a b:Int} (c:oJ m rs z (a,b,1)=true):(cD rs z (a,b,1)).sum<z.sum:=by
 obtain ⟨is,en⟩:=zY c;obtain ⟨ar,nb,_⟩:=qR is;obtain ⟨k,ek,tk,kk,br⟩:=Mh g is;have ad:=g.adj ((jS g).mp nb);simp only at ar nb ek tk br en ad;unfold cD;show ((z.set a.toNat (z.getD a.toNat 0 - 1*b6 rs a b)).set b.toNat ((z.set a.toNat (z.getD a.toNat 0 - 1*b6 rs a b)).getD b.toNat 0+1)).sum<z.sum;rw [zg _ _ _ (by rw [List.length_set];omega),zg _ _ _ (by omega),tk];omega
theorem RP (g:Good m rs) (R:Rooted m rs r par dep) (r0:0<=r) (r1:r<m) {ys:List Int} (y0:∀ y∈ys,0<=y):∀ (n:Nat) (z:List Int),z.sum.toNat=n->(z.length:Int)=m->(∀ x∈z,0<=x)->0<=stg m rs r par dep ys z r ->
   ∃ z',Come m rs z z'/\(∀ v,0<=v->v<m->ys.getD v.toNat 0<=z'.getD v.toNat 0)/\z'.getD r.toNat 0 - ys.getD r.toNat 0=stg m rs r par dep ys z r:=by
 intro n
 induction n using Nat.strongRecOn with
 | _ n ih =>
   intro z hn zl z0 s0;rcases MS g R r0 r1 zl y0 s0 with ⟨h1,h2⟩|⟨a,b,c,e⟩
   . exact ⟨z,.start,h1,h2⟩
   . have z0':=Rm g zl z0 c;have lt:=L8 g zl c;have s0':=BP z0';obtain ⟨z',h1,h2,h3⟩:=ih _ (by omega) (cD rs z (a,b,1)) rfl (by rw [Dj];exact zl) z0' (by rw [e];exact s0);exact ⟨z',h1.pre c,h2,by rw [h3,e]⟩
theorem Come.stg_le (g:Good m rs) (R:Rooted m rs r par dep) (r0:0<=r) (r1:r<m) {xs ys:List Int} (xl:(xs.length:Int)=m) {z:List Int} (h:Come m rs xs z):stg m rs r par dep ys z r<=stg m rs r par dep ys xs r:=by
 induction h with
 | start=>exact Int.le_refl _
 | step hz c ih=>exact Int.le_trans (Lw g R r0 r1 (by rw [hz.len];exact xl) (zY c).1) ih
theorem Mj (g:Good m rs) (v x:Int) (h:0<=x):0<=hnd rs par v x:=by
 have:=zT (par:=par) g v 0 x h;have e:hnd rs par v 0=0:=by unfold hnd;rw [if_pos (Int.le_refl _)];exact Int.zero_ediv _
 omega
theorem FB {held:Int->Int} {con:Int->Int->Int} (hz:∀ v,0<=held v) (hc:∀ v x,0<=x->0<=con v x):∀ (n:Nat) (v:Int),0<=xX m rs r par held con n v
 | 0,v=>hz v
 | n+1,v=>by
   show 0<=held v+((aJ m rs (front r par v) v).map fun c=>con c (xX m rs r par held con n c)).sum;have h1:=hz v;have h2:0<=((aJ m rs (front r par v) v).map fun c=>con c (xX m rs r par held con n c)).sum:=BP fun x hx=>by
     obtain ⟨c,hc',rfl⟩:=List.mem_map.mp hx;exact hc c _ (FB hz hc n c)
   omega
theorem Tg (g:Good m rs) (R:Rooted m rs r par dep) (r0:0<=r) (r1:r<m) {ys z:List Int} (h:∀ v,0<=v->v<m->ys.getD v.toNat 0<=z.getD v.toNat 0):z.getD r.toNat 0 - ys.getD r.toNat 0<=stg m rs r par dep ys z r:=by
 have hz:∀ v:Int,0<=(bw m z ys).getD v.toNat 0:=fun v=>by
   rw [t7];by_cases c:v.toNat<m.toNat
   . rw [if_pos c];have:=h (v.toNat:Int) (by omega) (by omega);rw [Int.toNat_natCast] at this;omega
   . rw [if_neg c];exact Int.le_refl _
 rw [BF g R r0 r1];have:0<=((aJ m rs (front r par r) r).map fun c=>hnd rs par c (stg m rs r par dep ys z c)).sum:=BP fun x hx=>by
   obtain ⟨c,hc,rfl⟩:=List.mem_map.mp hx;exact Mj g c _ (FB hz (Mj g) _ _)
 omega
end
section
variable {m:Int} {rs:List Road} {xs:List Int}
end
end Pb
set_option Elab.async false
set_option linter.all false
set_option maxRecDepth 100000
namespace L2
open PySem PySem.Spec PyProof.Rows PySem.W Pb
section
variable {X:Cx} {pins:List (Addr × Obj)} {σ:St} {H:Hp} {s:Shared}
end
def Itd (d:Addr) (o:Obj) (kvs:List (List Key × V)):It :=
 ⟨fun i H=>H d=some (.frz o (.dT kvs))/\i<kvs.length,fun i H x H'=>H'=H/\∃ (q:Addr) (k:List Key) (v:V),x=.ref q/\kvs[i]?=some (k,v)/\H q=some (.tup (k.map kV)),fun i H=>H d=some (.frz o (.dT kvs))/\i=kvs.length⟩
def Q9 (tl:TE) (g:TG) (tb:TS):TS:=fun D σ H=>tl σ H fun x H1=>∃ (d:Addr) (kvs:List (List Key × V)),x=.ref d/\H1 d=some (.dT kvs) /\
 ∀ o,oX (Itd d o kvs) { D with nx:=fun σ' H'=>H' d=some (.frz o (.dT kvs))/\D.nx σ' (upd H' d (.dT kvs)) } g tb σ (upd H1 d (.frz o (.dT kvs)))
section
variable {X:Cx} {tg:Expr}
end
end L2
set_option Elab.async false
set_option linter.all false
set_option maxRecDepth 100000
namespace Pb
open L2 PySem
section
variable {α β:Type}
end
section
variable {m:Int} {rs:List Road} {r:Int} {par:Int->Int} {dep:Int->Nat}
theorem Hl (g:Good m rs) {u x:Int} (h:Adj rs u x):2<=b6 rs u x/\b6 rs u x<=1000000:=by
 obtain ⟨k,e,h1,h2⟩:=iA g h;unfold b6;rw [e];exact ⟨h1,h2⟩
end
end Pb
namespace Pb
open L2 PySem
def TV (tl:Int->Int) (par:Int->Int):Nat->Int->Int
 | 0,_=>1
 | n+1,u=>tl u*TV tl par n (par u)
def tlf (rs:List Road) (par:Int->Int) (to:Bool) (u:Int):Int:=if to=true then b6 rs u (par u) else b6 rs (par u) u
def prc (rs:List Road) (par:Int->Int) (dep:Int->Nat) (to:Bool) (u:Int):Int:=TV (tlf rs par to) par (dep u) u
section
variable {m:Int} {rs:List Road} {r:Int} {par:Int->Int} {dep:Int->Nat} {to:Bool}
theorem AG (R:Rooted m rs r par dep):prc rs par dep to r=1:=by unfold prc;rw [R.root];rfl
theorem A3 (R:Rooted m rs r par dep) {c:Int} (c0:0<=c) (c1:c<m) (cr:c≠r):prc rs par dep to c=tlf rs par to c*prc rs par dep to (par c):=by
 have:=(R.up c c0 c1 cr).2.2;unfold prc;rw [<- this]
 rfl
theorem RH (g:Good m rs) (R:Rooted m rs r par dep) {c:Int} (c0:0<=c) (c1:c<m) (cr:c≠r):2<=tlf rs par to c/\tlf rs par to c<=1000000:=by
 have ad:=(R.up c c0 c1 cr).2.1;unfold tlf;split
 . exact Hl g ad
 . exact Hl g ad.symm
theorem OA (g:Good m rs) (R:Rooted m rs r par dep):∀ (n:Nat) {c:Int},dep c=n->0<=c->c<m->0<prc rs par dep to c/\(prc rs par dep to c).natAbs<2^(n*20+1):=by
 intro n
 induction n with
 | zero =>
   intro c e c0 c1;unfold prc;rw [e];show (0:Int)<1/\(1:Int).natAbs<2^1;exact ⟨by decide,by decide⟩
 | succ n ih =>
   intro c e c0 c1;have cr:c≠r:=fun z=>by rw [z,R.root] at e;cases e
   obtain ⟨u1,_,u3⟩:=R.up c c0 c1 cr;obtain ⟨h1,h2⟩:=ih (c:=par c) (by omega) u1.1 u1.2;obtain ⟨t1,t2⟩:=RH (to:=to) g R c0 c1 cr;rw [A3 R c0 c1 cr];refine ⟨Int.mul_pos (by omega) h1,?_⟩;rw [show (n+1)*20+1=20+(n*20+1) by omega];exact OP (by omega) h2
end
end Pb
namespace Pb
open L2 PySem
end Pb
namespace Pb
open L2 PySem
end Pb
set_option Elab.async false
set_option linter.all false
set_option maxRecDepth 100000
namespace L2
open PySem PySem.Spec PyProof.Rows
section
variable {X:Cx} {cx:Str} {Nc:List Str} {own:Nat} {js:List Nat} {scope:Scope} {cl:List (Str × Addr)}
end
section
variable {X:Cx} {cx:Str} {Nc:List Str} {own:Nat} {js:List Nat} {scope:Scope} {cl:List (Str × Addr)}
end
end L2
set_option Elab.async false
set_option linter.all false
set_option maxRecDepth 100000
namespace L2
open PySem PySem.Spec PyProof.Rows PySem.W
section
variable {X:Cx}
end
def Its (z:Str):It:=⟨fun i _=>i<z.cps.size,fun i H x H'=>H'=H/\∃ c,z.cps[i]?=some c/\x=.str ⟨#[c]⟩,fun i _=>z.cps.size<=i⟩
section
variable {X:Cx} {tg:Expr}
def SE (tl:TE):TI:=fun σ H R=>tl σ H fun x H1=>∃ z,x=.str z/\z.cps.all (·<128)=true/\R (Its z) H1
end
section
variable {P:Program} {w:World} {A:Around} {E:Value->Shared->Prop} {s:Shared}
end
section
variable {X:Cx} {e:Expr} {te:TE} {p2 apos cpos pos2:Pos} {z:Str} {zp:Pos} {zk:Nat}
def ME (K:PySem.W.Frag) (z:Str) (te:TE):TE:=fun σ H Q=>te σ H fun x H1=>∃ (a:Addr) (ys:List Str),x=.ref a/\SqL K H1 a (ys.map V.str)/\(ys.map (·.length)).sum+ys.length*z.length<=16777216/\Q (.str (Str.join z ys.reverse)) H1
end
end L2
set_option Elab.async false
set_option linter.all false
set_option maxRecDepth 100000
namespace Pb
open L2 PySem PySem.W NumText
end Pb
set_option Elab.async false
set_option linter.all false
set_option maxRecDepth 100000
namespace L2
open PySem PySem.Spec PyProof.Rows PySem.W
end L2
namespace Pb
open L2 PySem PySem.W NumText
open PySem.StrLaws (At ChainG occ_tight partsBetween_eq partsFrom strSub_toList subAt_eq sub_whole)
section
variable {X:Str} {u c v:Nat}
end
end Pb
set_option Elab.async false
set_option linter.all false
set_option maxRecDepth 100000
namespace L2
open PySem PySem.Spec PyProof.Rows PySem.W
end L2
namespace Pb
open L2 PySem PySem.W NumText
end Pb
set_option Elab.async false
set_option linter.all false
set_option maxRecDepth 100000
namespace Pb
open L2 PySem
section
variable {m:Int} {rs:List Road} {r:Int} {par:Int->Int} {dep:Int->Nat} {held:Int->Int}
theorem Kj:∀ (xs:List Int),(List.range xs.length).map (fun i=>xs.getD i 0)=xs:=fun xs=>by
 refine List.ext_getElem? fun i=>?_;rw [List.getElem?_map];by_cases h:i<xs.length
 . rw [List.getElem?_range h,List.getElem?_eq_getElem h];show some (xs.getD i 0)=_;rw [List.getD,List.getElem?_eq_getElem h]
   rfl
 . rw [List.getElem?_eq_none (by rw [List.length_range];omega),List.getElem?_eq_none (by omega)]
   rfl
theorem L4 {xs:List Int} {n:Nat} (h:xs.length=n):((below n).map fun v=>xs.getD v.toNat 0).sum=xs.sum:=by
 unfold below;rw [List.map_map,<- h];exact congrArg List.sum (Kj xs)
theorem Jo (R:Rooted m rs r par dep):∀ (n:Nat) (v:Int),dep v=n->0<=v->v<m->B3 par r n v=true
 | 0,v,e,h0,h1=>by
   refine decide_eq_true (Classical.byContradiction fun h=>?_);have:=R.pos h0 h1 h;omega
 | n+1,v,e,h0,h1=>by
   show (decide (v=r) || B3 par r n (par v))=true;by_cases h:v=r
   . rw [decide_eq_true h];rfl
   . have u:=R.up v h0 h1 h;rw [Jo R n (par v) (by omega) u.1.1 u.1.2,Bool.or_true]
theorem La (g:Good m rs) (R:Rooted m rs r par dep) (r0:0<=r) (r1:r<m):∃ t,bU m rs r par dep r=r::t/\Order m r par t :=
 AQ g R r0 r1 (tH g R _ r r0 r1).1 fun v=>by
   rw [za g R r0 r1];exact ⟨fun h=>h.1,fun h=>⟨h,Jo R _ v rfl h.1 h.2⟩⟩
end
end Pb
set_option Elab.async false
set_option linter.all false
set_option maxRecDepth 100000
namespace L2
open PySem PySem.Spec PyProof.Rows
section
variable {prog:Program} {w:World} {A:Around} {E:Value->Shared->Prop} {R:Result->Shared->Prop} {s:Shared}
end
section
variable {M:Model} {A:Around} {E:Value->Shared->Prop} {s:Shared} {Q:Unit->Shared->Prop} {fs:List Addr} {ea T L:Addr} {cls fl hd:Value} {od:Option Addr} {base:Heap} {env:Env} {outer:List Env}
end
section
variable {P:Program} {w:World} {K:PySem.W.Frag} {mg:Str->Option Value} {base:Heap} {N:List Str} {qual:Str} {scope:Scope} {f:Addr} {cd:Value} {A:Around} {outer:List Env} {s:Shared} {H:Hp} {E:XK}
end
section
variable {X:Cx} {Nc:List Str} {own:Nat} {js:List Nat} {scope:Scope} {cl:List (Str × Addr)}
end
section
variable {X:Cx} {Nc:List Str} {own:Nat} {js:List Nat} {scope:Scope} {cl:List (Str × Addr)}
end
section
variable {X:Cx}
end
end L2
set_option Elab.async false
set_option linter.all false
set_option maxRecDepth 100000
namespace L2
open PySem PySem.Spec PyProof.Rows
section
variable {prog:Program} {w:World} {A:Around} {E:Value->Shared->Prop} {h:Heap} {g:Array GenState} {d:Drawn} {t:Nat} {os:OsState}
variable {nm q:Str} {C N:Addr} {bs bm bmB:List Value} {hdct:Bool} {sn:List Str} {sub:List Value} {ab:Bool} {col:Option Bool} {dd:Option Addr} {k0 k1 k2 k3 k5:Option Value} {B newId initId:String}
end
section
variable {M:Model} {A:Around} {E:Value->Shared->Prop} {env:Env}
variable {nm q:Str} {C N:Addr} {bs bm:List Value} {hdct:Bool} {sn:List Str} {sub:List Value} {ab:Bool} {col:Option Bool} {dd:Option Addr} {k0 k1 k2 k3 k5:Option Value} {newId:String}
end
section
variable {prog:Program} {w:World} {A:Around} {E:Value->Shared->Prop} {s:Shared} {env:Env}
variable {nm q:Str} {C N:Addr} {bs bm bmB:List Value} {hdct:Bool} {sn:List Str} {sub:List Value} {ab:Bool} {col:Option Bool} {dd:Option Addr} {k0 k1 k2 k3 k5:Option Value} {B newId initId:String}
end
section
variable {X:Cx} {pins:List (Addr × Obj)} {σ:St} {H:Hp} {s:Shared}
end
section
variable {P:Program} {w:World} {K:PySem.W.Frag} {mg:Str->Option Value} {base:Heap} {N:List Str} {qual:Str} {scope:Scope} {f:Addr} {cd:Value} {A:Around} {outer:List Env} {s:Shared} {H:Hp} {E:XK}
end
section
variable {X:Cx} {x:Str} {np cpos pos:Pos} {e0:Expr} {es:List Expr} {t:TA} {C fI:Addr} {E:XK} {CX:CXT} {k:Nat} {fd:FuncData} {ps:List Str} {sp:Sp}
end
section
variable {X:Cx} {x:Str} {np apos pos:Pos} {e0:Expr} {es:List Expr} {t:TA} {Tl:Addr} {pl:Sem Bool}
end
end L2
set_option Elab.async false
set_option linter.all false
set_option maxRecDepth 100000
namespace L2
open PySem PySem.Spec PyProof.Rows PySem.W PySem.Builtin PySem.Builtin.ObjectAttr
section
variable {K:PySem.W.Frag} {prog:Program} {w:World} {A:Around} {s:Shared} {x C Tl:Addr} {R:Result->Shared->Prop}
end
section
variable {X:Cx} {pins:List (Addr × Obj)} {σ:St} {H:Hp} {s:Shared}
end
section
variable {X:Cx} {pins:List (Addr × Obj)} {σ:St} {H:Hp} {s:Shared} {A:Around} {E:Value->Shared->Prop} {ea C Tl:Addr} {f:Str}
end
section
variable {X:Cx} {o value:Expr} {ta tv:TE} {f:Str} {pos pos':Pos}
end
section
variable {prog:Program} {w:World} {A:Around} {E:Value->Shared->Prop} {s:Shared} {K:PySem.W.Frag} {x C:Addr} {ox:Obj} {od:Obj}
end
section
variable {X:Cx} {o:Expr} {ta:TE} {f:Str} {pos:Pos}
end
end L2
set_option Elab.async false
set_option linter.all false
set_option maxRecDepth 100000
namespace L2
open PySem
def MI (K:PySem.W.Frag) (C':Addr) (ts:TS) (tr:TH):TH:=fun D σ cls od H=>∃ C b,cls=.ref C/\PySem.W.mroIn K C (.ref C')=some b/\if b=true then ts D σ H else tr D σ cls od H
section
variable {X:Cx} {x:Str} {np pos:Pos} {C':Addr} {b0:Stmt} {suite:List Stmt} {rest:List ExceptHandler} {ts:TS} {tr:TH}
end
end L2
namespace Pb
open L2 PySem
end Pb
set_option Elab.async false
set_option linter.all false
set_option maxRecDepth 100000
namespace Pb
open L2 PySem
section
variable {m:Int} {rs:List Road}
end
section
variable {m:Int} {rs:List Road} {r:Int} {par:Int->Int} {dep:Int->Nat} {st:Int->Int} {xs ys:List Int}
theorem Rr (g:Good m rs) (R:Rooted m rs r par dep) (r0:0<=r) (r1:r<m) {r':Int} {par':Int->Int} {dep':Int->Nat} (R':Rooted m rs r' par' dep') (r0':0<=r') (r1':r'<m) (xl:(xs.length:Int)=m) (x0:∀ x∈xs,0<=x) (y0:∀ y∈ys,0<=y) (s0:0<=stg m rs r par dep ys xs r):0<=stg m rs r' par' dep' ys xs r':=by
 obtain ⟨z,cz,hz,_⟩:=RP g R r0 r1 y0 _ xs rfl xl x0 s0;have h1:=Tg g R' r0' r1' hz;have h2:=cz.stg_le (ys:=ys) g R' r0' r1' xl;have h3:=hz r' r0' r1';omega
end
end Pb
set_option Elab.async false
set_option linter.all false
set_option maxRecDepth 100000
namespace L2
open PySem PySem.Spec PyProof.Rows
section
variable {X:Cx}
def SF (t:TE):TE:=fun σ H Q=>t σ H fun x H1=>∃ b,x=.bl b/\Q (.bl (b == true)) H1
end
end L2
namespace Pb
open L2 PySem
section
variable {m:Int} {rs:List Road} {r:Int} {par:Int->Int} {dep:Int->Nat} {P:Int->Int} {xs:List Int}
theorem zS (g:Good m rs) (R:Rooted m rs r par dep):∀ (n:Nat) {c:Int},dep c=n->0<=c->c<m->prc rs par dep true c=kD rs par dep c:=by
 intro n
 induction n with
 | zero =>
   intro c e c0 c1;unfold prc kD;rw [e]
   rfl
 | succ n ih =>
   intro c e c0 c1;have cr:c≠r:=fun z=>by rw [z,R.root] at e;cases e
   obtain ⟨u1,ad,u3⟩:=R.up c c0 c1 cr;obtain ⟨k,hk,_⟩:=iA g ad;rw [A3 R c0 c1 cr,rA R c0 c1 cr,ih (by omega) u1.1 u1.2];unfold tlf b6;rw [if_pos rfl,hk]
   rfl
theorem R1 (g:Good m rs) {PAR:Int->Int->Int} {DEP:Int->Int->Nat} (RR:∀ r,0<=r->r<m->Rooted m rs r (PAR r) (DEP r)) {u:Int} (u0:0<=u) (u1:u<m):∀ (n:Nat) {c:Int},DEP u c=n->0<=c->c<m->prc rs (PAR u) (DEP u) false c=prc rs (PAR c) (DEP c) true u:=by
 intro n;have U:=RR u u0 u1
 induction n with
 | zero =>
   intro c e c0 c1;have ec:c=u:=by
     by_cases z:c=u
     . exact z
     . have:=(U.up c c0 c1 z).2.2;omega
   rw [ec,AG U,AG U]
 | succ n ih =>
   intro c e c0 c1;have cu:c≠u:=fun z=>by rw [z,U.root] at e;cases e
   obtain ⟨p1,ad,u3⟩:=U.up c c0 c1 cu;have C:=RR c c0 c1;have B:=RR (PAR u c) p1.1 p1.2;rw [A3 U c0 c1 cu,ih (by omega) p1.1 p1.2,zS g B _ rfl u0 u1,zS g C _ rfl u0 u1];have hin:PAR u c∈dg (PAR c) (DEP c) u:=by
     rw [QI g C U c0 c1,gh U c0 c1 cu];obtain ⟨l,hl⟩:=yK (par:=PAR u) (dep:=DEP u) (PAR u c);rw [hl];simp
   rw [<- (TR g B C u0 u1 p1.1 p1.2 hin).2];have pc:PAR u c≠c:=U.ne c0 c1 cu;have pp:PAR c (PAR u c)=c:=by
     obtain ⟨x,hx,j⟩:=id ad;rcases C.road x hx with ⟨w1,w2⟩|⟨w1,w2⟩ <;> rcases j with ⟨y1,y2⟩|⟨y1,y2⟩
     . exact absurd y1 w1
     . rw [<- y2,w2];exact y1
     . rw [<- y2,w2];exact y1
     . exact absurd y1 w1
   obtain ⟨k,hk,_⟩:=iA g ad.symm;have e2:kD rs (PAR c) (DEP c) (PAR u c)=k:=by
     rw [rA C p1.1 p1.2 pc,pp,wU C,hk];exact Int.mul_one _
   rw [e2,Int.mul_comm];unfold tlf b6;rw [if_neg (by decide),hk]
   rfl
end
end Pb
set_option Elab.async false
set_option linter.all false
set_option maxRecDepth 100000
namespace Pb
open L2 PySem
end Pb
set_option Elab.async false
set_option linter.all false
set_option maxRecDepth 100000
namespace L2
open PySem PySem.Spec PyProof.Rows
section
variable {prog:Program} {w:World} {A:Around} {E:Value->Shared->Prop} {s:Shared}
end
section
variable {X:Cx} {tg:Expr} {Nc:List Str} {own:Nat} {js:List Nat} {scope:Scope} {cl:List (Str × Addr)}
end
section
variable {X:Cx} {x n:Str} {np pos:Pos} {i:Nat} {C':Addr} {b0:Stmt} {suite:List Stmt} {rest:List ExceptHandler} {ts:Addr->TS} {tr:TH}
end
end L2
namespace Pb
open L2 PySem
end Pb
set_option Elab.async false
set_option linter.all false
set_option maxRecDepth 100000
namespace Pb
open L2 PySem
end Pb
set_option Elab.async false
set_option linter.all false
set_option maxRecDepth 100000
namespace L2
open PySem
theorem LS {K:PySem.W.Frag} {c:Bool} {a p:Addr} {xs:List V} {Q:VK} {g:TG} {tc:TT} {te:TE} {σ0:St} {H0:Hp} (Pv:Nat->List V->St->Hp->Prop) (h0:Pv 0 [] σ0 H0) (hl:∀ i ys σ H,Pv i ys σ H->SqX K c H a xs)
   (hs:∀ (i:Nat) (x:V) (ys:List V) (σ:St) (H:Hp) (q:Addr) (N:List V->St->Hp->Prop),(∀ ys' σ' H',Pv (i+1) ys' σ' H'->N ys' σ' H')->xs[i]?=some x->Pv i ys σ H->H q=none->g (.ref q) σ (upd H q (.tup [.int i,x])) fun σ2 H2=>tc σ2 H2 fun b H3 =>
     if b=true then te σ2 H3 fun y H4=>H4 p=some (.lst ys)/\ys.length<sizeLine/\N (ys++[y]) σ2 (upd H4 p (.lst (ys++[y]))) else N ys σ2 H3)
   (hd:∀ ys σ H,Pv xs.length ys σ H->Q (.ref p) H):t9 (Ite K c a) p Q g tc te σ0 H0:=by
 refine ⟨fun i m ys σ H=>m=xs.length - i/\i<=xs.length/\Pv i ys σ H,⟨_,rfl,Nat.zero_le _,h0⟩,?_⟩;rintro i m ys σ H ⟨rfl,hi,pv⟩;have q1:=hl i ys σ H pv;by_cases hlt:i<xs.length
 . refine .inr ⟨⟨xs,xs[i],q1,List.getElem?_eq_getElem hlt⟩,fun x H' y=>?_⟩;obtain ⟨p',x',hp,rfl,rfl,e1⟩:=y;exact hs i x' ys σ H p' (fun ys' σ' H'=>∃ m',m'<xs.length - i/\(m'=xs.length - (i+1)/\i+1<=xs.length/\Pv (i+1) ys' σ' H')) (fun ys' σ' H' pv'=>⟨xs.length - (i+1),by omega,rfl,hlt,pv'⟩) (e1 xs q1) pv hp
 . have e:i=xs.length:=by omega
   subst e;exact .inl ⟨⟨xs,q1,rfl⟩,hd ys σ H pv⟩
def Kpt (o:Addr) (H H':Hp):Prop:=∀ b x,H b=some x->b≠o->H' b=some x
theorem Kpt.refl {o:Addr} {H:Hp}:Kpt o H H:=fun _ _ h _=>h
theorem Kpt.then {o:Addr} {H H1 H2:Hp} (a:Kpt o H H1) (b:Same H1 H2):Kpt o H H2:=fun c x h n=>b c x (a c x h n)
theorem Kpt.put {o:Addr} {H H1:Hp} (a:Kpt o H H1) (x:HO):Kpt o H (upd H1 o x):=fun c y h n=>by rw [au n];exact a c y h n
theorem Kpt.sqX {K:PySem.W.Frag} {H H':Hp} {o C dx:Addr} {fs:List (Str × V)} {c:Bool} {a:Addr} {xs:List V} (e:Kpt o H H') (ho:H o=some (.ins C dx fs)) (h:SqX K c H a xs):SqX K c H' a xs:=by
 have n:∀ {y:HO},H a=some y->y≠.ins C dx fs->a≠o:=fun hy ny z=>by rw [z,ho] at hy;cases hy;exact ny rfl
 cases c
 . rcases h with (h|⟨o',h⟩)|h
   . exact .inl (.inl (e _ _ h (n h (by intro z;cases z))))
   . exact .inl (.inr ⟨o',e _ _ h (n h (by intro z;cases z))⟩)
   . exact .inr h
 . rcases h with (h|⟨o',h⟩)|h
   . exact .inl (.inl (e _ _ h (n h (by intro z;cases z))))
   . exact .inl (.inr ⟨o',e _ _ h (n h (by intro z;cases z))⟩)
   . exact .inr h
end L2
namespace Pb
open PySem L2
def jm (xs ys:List Int):List Int:=List.zipWith (·+·) xs ys
def zrs (m:Int):List Int:=List.replicate m.toNat 0
def oO (m:Int) (ls:List (List Int)):List Int:=ls.foldl jm (zrs m)
def ji (b l:List Int):List Int:=if b.sum<l.sum then l else b
theorem Ga {b l:List Int} (h:b.sum<l.sum):ji b l=l:=if_pos h
theorem ER {b l:List Int} (h:¬ b.sum<l.sum):ji b l=b:=if_neg h
def upT (rs:List Road) (par:Int->Int) (v:Int):Int:=(aH rs v (par v)).getD 1
def dnT (rs:List Road) (par:Int->Int) (v:Int):Int:=(aH rs (par v) v).getD 1
abbrev kd (m:Int) (rs:List Road) (r:Int) (par:Int->Int) (v:Int):List Int:=aJ m rs (front r par v) v
def idK (m:Int) (rs:List Road) (r:Int) (par:Int->Int) (ix:Int->List Int) (v:Int) (x:V):List Int:=oO m (((kd m rs r par v).filter fun k=>decide (V.int k≠x)).map ix)
def kC (b:List Int) (v d:Int):List Int:=b.set v.toNat (b.getD v.toNat 0+d)
def byK (m:Int) (rs:List Road) (r:Int) (par:Int->Int) (nd:Int->Int) (ix:Int->List Int) (gk:Int->Int->List Int) (v room k:Int):List Int :=
 jm (gk k (upT rs par k*(room - nd k*dnT rs par k+1) - 1)) (idK m rs r par ix v (.int k))
def kQ (m:Int) (rs:List Road) (r:Int) (par:Int->Int) (nd:Int->Int) (ix:Int->List Int) (gk:Int->Int->List Int) (v y:Int):List Int :=
 ((kd m rs r par v).map (byK m rs r par nd ix gk v (nd v+y))).foldl ji (kC (idK m rs r par ix v .non) v (nd v+y))
def ld (m:Int) (rs:List Road) (r:Int) (par:Int->Int) (nd:Int->Int):Nat->Bool->Int->Int->List Int
 | 0,_,_,_=>[]
 | n+1,true,v,y=>kQ m rs r par nd (fun k=>ld m rs r par nd n false k 0) (fun k z=>ld m rs r par nd n true k z) v y
 | n+1,false,v,_=>if 0<nd v then idK m rs r par (fun k=>ld m rs r par nd n false k 0) v .non else kQ m rs r par nd (fun k=>ld m rs r par nd n false k 0) (fun k z=>ld m rs r par nd n true k z) v (upT rs par v - 1)
def gld (m:Int) (rs:List Road) (r:Int) (par:Int->Int) (dep:Int->Nat) (nd:Int->Int) (v y:Int):List Int:=ld m rs r par nd (m.toNat - dep v) true v y
def idl (m:Int) (rs:List Road) (r:Int) (par:Int->Int) (dep:Int->Nat) (nd:Int->Int) (v:Int):List Int:=ld m rs r par nd (m.toNat - dep v) false v 0
def gw (m:Int) (xs:List Int):Int:=((below m.toNat).filter fun v=>decide (0<xs.getD v.toNat 0)).headD 0
theorem C4 {m:Int} {xs:List Int} (xl:(xs.length:Int)=m) (nn:∀ x∈xs,0<=x) (h:xs.sum≠0):∃ tl,((below m.toNat).filter fun v=>decide (0<xs.getD v.toNat 0))=gw m xs::tl/\(0<=gw m xs/\gw m xs<m)/\0<xs.getD (gw m xs).toNat 0:=by
 have ex:∃ x∈xs,0<x:=by
   refine Classical.byContradiction fun n=>h ?_;have:∀ l:List Int,(∀ x∈l,x=0)->l.sum=0:=by
     intro l
     induction l with
     | nil=>intro _;rfl
     | cons a l ih=>intro q;rw [List.sum_cons,q a List.mem_cons_self,ih fun x hx=>q x (List.mem_cons_of_mem _ hx)];rfl
   refine this xs fun x hx=>?_;have h1:=nn x hx;have h2:¬ 0<x:=fun z=>n ⟨x,hx,z⟩;omega
 obtain ⟨x,hx,x0⟩:=ex;obtain ⟨i,hi,rfl⟩:=List.mem_iff_getElem.mp hx;have im:(i:Int)∈(below m.toNat).filter fun v=>decide (0<xs.getD v.toNat 0):=by
   refine List.mem_filter.mpr ⟨List.mem_of_getElem? (gf (show i<m.toNat by omega)),decide_eq_true ?_⟩;rw [show ((i:Int)).toNat=i from rfl,List.getD_eq_getElem?_getD,List.getElem?_eq_getElem hi];exact x0
 unfold gw;cases e:(below m.toNat).filter fun v=>decide (0<xs.getD v.toNat 0) with
 | nil=>rw [e] at im;cases im
 | cons a tl =>
   have am:a∈(below m.toNat).filter fun v=>decide (0<xs.getD v.toNat 0):=by rw [e];exact List.mem_cons_self
   have w:=List.mem_filter.mp am;have r:=dh.mp w.1;exact ⟨tl,rfl,⟨r.1,by have:=r.2;show a<m;omega⟩,of_decide_eq_true w.2⟩
theorem RN (m:Int):(zrs m).sum=0:=by
 unfold zrs
 induction m.toNat with
 | zero=>rfl
 | succ n ih=>rw [List.replicate_succ,List.sum_cons,ih];rfl
theorem EU:∀ {l:List Int},(∀ x∈l,0<=x)->0<=l.sum
 | [],_=>by decide
 | a::l,h=>by
   have h1:=h a List.mem_cons_self;have h2:=EU fun x hx=>h x (List.mem_cons_of_mem _ hx);rw [List.sum_cons];omega
theorem Lz:∀ {l:List Int},(∀ x∈l,0<=x)->∀ {x:Int},x∈l->x<=l.sum
 | a::l,h,x,hx=>by
   have h1:=h a List.mem_cons_self;have h2:=EU fun x hx=>h x (List.mem_cons_of_mem _ hx);rw [List.sum_cons];rcases List.mem_cons.mp hx with rfl|hx
   . omega
   . have:=Lz (fun x hx=>h x (List.mem_cons_of_mem _ hx)) hx;omega
theorem LP {α β:Type} {R:α->β->Prop}:∀ {l:List α} {l':List β},Paired R l l'->∀ {i:Nat} {b:β},l'[i]?=some b->∃ a,l[i]?=some a/\R a b
 | _,_,.nil,i,b,e=>by simp at e
 | _,_,.cons (a:=a) (b:=b') h _,0,b,e=>by
   rw [List.getElem?_cons_zero] at e;cases e;exact ⟨a,rfl,h⟩
 | _,_,.cons h hs,i+1,b,e=>by
   rw [List.getElem?_cons_succ] at e;obtain ⟨a,h1,h2⟩:=LP hs e;exact ⟨a,by rw [List.getElem?_cons_succ];exact h1,h2⟩
theorem Ca {α β:Type} {R S:α->β->Prop}:∀ {l:List α} {l':List β},(∀ a b,a∈l->R a b->S a b)->Paired R l l'->Paired S l l'
 | _,_,_,.nil=>.nil
 | _,_,f,.cons h hs=>.cons (f _ _ List.mem_cons_self h) (Ca (fun a b ha=>f a b (List.mem_cons_of_mem _ ha)) hs)
theorem IV {α β:Type} {R:α->β->Prop}:∀ {l:List α} {l':List β},Paired R l l'->∀ {a:α},a∈l->∃ b,R a b
 | _,_,.nil,a,h=>by cases h
 | _,_,.cons (b:=b) h hs,a,ha=>by
   rcases List.mem_cons.mp ha with rfl|ha
   . exact ⟨b,h⟩
   . exact IV hs ha
theorem Ai {α β:Type} {R:α->β->Prop} {a:α} {b:β} (e:R a b):∀ {l:List α} {l':List β},Paired R l l'->Paired R (l++[a]) (l'++[b])
 | _,_,.nil=>.cons e .nil
 | _,_,.cons x xs=>.cons x (Ai e xs)
theorem BH {α:Type} {xs:List α} {i:Int} (h:0<=i):atI xs i=xs[i.toNat]?:=by
 cases e:xs[i.toNat]? with
 | some v=>exact g9 h e
 | none =>
   have:=List.getElem?_eq_none_iff.mp e;unfold atI ixN;rw [if_pos h,if_neg (by omega)]
   rfl
theorem Dh {m v:Int} (v0:0<=v) (v1:v<m):(below m.toNat)[v.toNat]?=some v:=by
 rw [gf (by omega)];exact congrArg some (Int.toNat_of_nonneg v0)
theorem B4 {m v:Int} (nd:Int->Int) (v0:0<=v) (v1:v<m):atI (((below m.toNat).map nd).map V.int) v=some (.int (nd v)):=g9 v0 (by
 rw [List.getElem?_map,List.getElem?_map,Dh v0 v1]
 rfl)
theorem Rl (m:Int):(zrs m).map V.int=List.replicate m.toNat (V.int 0):=by unfold zrs;rw [List.map_replicate]
theorem JT {m:Int} {ls:List (List Int)} {l:List Int}:oO m (ls++[l])=jm (oO m ls) l:=by unfold oO;rw [List.foldl_append];rfl
section
variable {m:Int} {rs:List Road} {r:Int} {par:Int->Int} {dep:Int->Nat} {nd:Int->Int}
theorem yg {ix ix':Int->List Int} {v:Int} {x:V} (h:∀ k∈kd m rs r par v,ix k=ix' k):idK m rs r par ix v x=idK m rs r par ix' v x:=by
 unfold idK;rw [List.map_congr_left fun k hk=>h k (List.mem_filter.mp hk).1]
theorem zB {ix ix':Int->List Int} {gk gk':Int->Int->List Int} {v y:Int} (h:∀ k∈kd m rs r par v,ix k=ix' k) (h':∀ k∈kd m rs r par v,∀ z,gk k z=gk' k z):kQ m rs r par nd ix gk v y=kQ m rs r par nd ix' gk' v y:=by
 unfold kQ byK;rw [yg (x:=.non) h,List.map_congr_left fun k hk=>by rw [h' k hk,yg (x:=.int k) h]]
theorem cR (g:Good m rs) (R:Rooted m rs r par dep) {v:Int} (h0:0<=v) (h1:v<m) {k:Int} (hk:k∈kd m rs r par v):((0<=k/\k<m)/\k≠r/\par k=v)/\m.toNat - dep v=m.toNat - dep k+1/\1<=m.toNat - dep k:=by
 have w:=(aQ g R h0 h1).mp hk;have:=R.pos w.1.1 w.1.2 w.2.1;have d:=dy R w.1.1 w.1.2;rw [w.2.2] at this;exact ⟨w,by omega,by omega⟩
theorem F7 (R:Rooted m rs r par dep) {v:Int} (h0:0<=v) (h1:v<m):∃ n,m.toNat - dep v=n+1:=⟨m.toNat - dep v - 1,by have:=dy R h0 h1;omega⟩
theorem qF (g:Good m rs) (R:Rooted m rs r par dep) {v y:Int} (h0:0<=v) (h1:v<m):gld m rs r par dep nd v y=kQ m rs r par nd (idl m rs r par dep nd) (gld m rs r par dep nd) v y:=by
 obtain ⟨n,e⟩:=F7 R h0 h1;have hn:∀ k∈kd m rs r par v,m.toNat - dep k=n:=fun k hk=>by have:=(cR g R h0 h1 hk).2.1;omega
 unfold gld;rw [e];show kQ m rs r par nd _ _ v y=_;exact zB (fun k hk=>by show _=ld m rs r par nd (m.toNat - dep k) false k 0;rw [hn k hk]) (fun k hk z=>by show _=ld m rs r par nd (m.toNat - dep k) true k z;rw [hn k hk])
theorem vt (g:Good m rs) (R:Rooted m rs r par dep) {v:Int} (h0:0<=v) (h1:v<m):idl m rs r par dep nd v=if 0<nd v then idK m rs r par (idl m rs r par dep nd) v .non else gld m rs r par dep nd v (upT rs par v - 1):=by
 obtain ⟨n,e⟩:=F7 R h0 h1;have hn:∀ k∈kd m rs r par v,m.toNat - dep k=n:=fun k hk=>by have:=(cR g R h0 h1 hk).2.1;omega
 rw [qF g R h0 h1];unfold idl;rw [e];show (if 0<nd v then idK m rs r par _ v .non else kQ m rs r par nd _ _ v _)=_;by_cases c:0<nd v
 . rw [if_pos c,if_pos c];exact yg fun k hk=>by rw [hn k hk]
 . rw [if_neg c,if_neg c];exact zB (fun k hk=>by show _=ld m rs r par nd (m.toNat - dep k) false k 0;rw [hn k hk]) (fun k hk z=>by show _=ld m rs r par nd (m.toNat - dep k) true k z;rw [hn k hk])
theorem qg {xs ys:List Int} {n:Nat} (h1:xs.length=n) (h2:ys.length=n):(jm xs ys).length=n:=by unfold jm;rw [List.length_zipWith];omega
theorem yX {m:Int}:∀ (ls:List (List Int)) (a:List Int),a.length=m.toNat->(∀ l∈ls,l.length=m.toNat)->(ls.foldl jm a).length=m.toNat
 | [],a,h,_=>h
 | l::ls,a,h,hl=>yX ls (jm a l) (qg h (hl l List.mem_cons_self)) fun x hx=>hl x (List.mem_cons_of_mem _ hx)
theorem zd (m:Int):(zrs m).length=m.toNat:=List.length_replicate
theorem tV {ix:Int->List Int} {v:Int} {x:V} (h:∀ k∈kd m rs r par v,(ix k).length=m.toNat):(idK m rs r par ix v x).length=m.toNat:=by
 unfold idK oO;refine yX _ _ (zd m) fun l hl=>?_;obtain ⟨k,hk,rfl⟩:=List.mem_map.mp hl;exact h k (List.mem_filter.mp hk).1
theorem DJ {P:List Int->Prop}:∀ (ls:List (List Int)) (b:List Int),P b->(∀ l∈ls,P l)->P (ls.foldl ji b)
 | [],b,h,_=>h
 | l::ls,b,h,hl=>DJ ls (ji b l) (by
   unfold ji;split
   . exact hl l List.mem_cons_self
   . exact h) fun x hx=>hl x (List.mem_cons_of_mem _ hx)
theorem Gz {b:List Int} {v d:Int}:(kC b v d).length=b.length:=by unfold kC;rw [List.length_set]
theorem Lc {ix:Int->List Int} {gk:Int->Int->List Int} {v y:Int} (h:∀ k∈kd m rs r par v,(ix k).length=m.toNat) (h':∀ k∈kd m rs r par v,∀ z,(gk k z).length=m.toNat):(kQ m rs r par nd ix gk v y).length=m.toNat:=by
 unfold kQ;refine DJ (P:=fun l=>l.length=m.toNat) _ _ (by rw [Gz];exact tV h) fun l hl=>?_;obtain ⟨k,hk,rfl⟩:=List.mem_map.mp hl;exact qg (h' k hk _) (tV h)
theorem EE (g:Good m rs) (R:Rooted m rs r par dep):∀ (n:Nat) (v:Int),0<=v->v<m->m.toNat - dep v=n->(idl m rs r par dep nd v).length=m.toNat/\∀ y,(gld m rs r par dep nd v y).length=m.toNat
 | 0,v,h0,h1,e=>by have:=dy R h0 h1;omega
 | n+1,v,h0,h1,e=>by
   have kk:∀ k∈kd m rs r par v,_:=fun k hk=>by
     have w:=cR g R h0 h1 hk;exact EE g R n k w.1.1.1 w.1.1.2 (by omega)
   have a:∀ y,(gld m rs r par dep nd v y).length=m.toNat:=fun y=>by
     rw [qF g R h0 h1];exact Lc (fun k hk=>(kk k hk).1) fun k hk=>(kk k hk).2
   refine ⟨?_,a⟩;rw [vt g R h0 h1];split
   . exact tV fun k hk=>(kk k hk).1
   . exact a _
theorem tm (g:Good m rs) (R:Rooted m rs r par dep) {v:Int} (h0:0<=v) (h1:v<m):(idl m rs r par dep nd v).length=m.toNat:=(EE g R _ v h0 h1 rfl).1
theorem Jn (g:Good m rs) (R:Rooted m rs r par dep) {v y:Int} (h0:0<=v) (h1:v<m):(gld m rs r par dep nd v y).length=m.toNat:=(EE g R _ v h0 h1 rfl).2 y
end
end Pb
set_option Elab.async false
set_option linter.all false
set_option maxRecDepth 100000
namespace Pb
open PySem L2
theorem Ap:∀ {xs ys:List Int},xs.length=ys.length->(jm xs ys).sum=xs.sum+ys.sum
 | [],[],_=>rfl
 | a::xs,b::ys,h=>by
   have ih:=Ap (xs:=xs) (ys:=ys) (by simpa using h);unfold jm at ih ⊢;rw [List.zipWith_cons_cons,List.sum_cons,List.sum_cons,List.sum_cons,ih];omega
theorem Du {n:Nat}:∀ (ls:List (List Int)) (a:List Int),a.length=n->(∀ l∈ls,l.length=n)->(ls.foldl jm a).sum=a.sum+(ls.map List.sum).sum
 | [],a,_,_=>by simp
 | l::ls,a,ha,hl=>by
   have h1:=hl l List.mem_cons_self;rw [List.foldl_cons,Du ls _ (qg ha h1) fun x hx=>hl x (List.mem_cons_of_mem _ hx),Ap (ha.trans h1.symm),List.map_cons,List.sum_cons];omega
theorem FD (l:List Int):(l.filter fun k=>decide (V.int k≠V.non))=l:=List.filter_eq_self.mpr fun k _=>by simp
theorem Hq {f:Int->Int}:∀ {l:List Int},l.Nodup->∀ {k:Int},k∈l->((l.filter fun j=>decide (V.int j≠V.int k)).map f).sum=(l.map f).sum - f k
 | a::l,nd,k,hk=>by
   obtain ⟨h1,h2⟩:=List.nodup_cons.mp nd;by_cases e:a=k
   . subst e;rw [List.filter_cons_of_neg (by simp),List.map_cons,List.sum_cons];rw [List.filter_eq_self.mpr fun j hj=>by
       have:j≠a:=fun z=>h1 (z ▸ hj)
       simpa using this]
     omega
   . rw [List.filter_cons_of_pos (by simpa using e),List.map_cons,List.sum_cons,List.map_cons,List.sum_cons,Hq h2 ((List.mem_cons.mp hk).resolve_left (Ne.symm e))];omega
theorem Nm {b:List Int} {v d:Int} (h:v.toNat<b.length):(kC b v d).sum=b.sum+d:=by
 unfold kC;rw [zg _ _ _ h];omega
theorem Sb {b l:List Int}:b.sum<=(ji b l).sum/\l.sum<=(ji b l).sum:=by
 by_cases h:b.sum<l.sum
 . rw [Ga h];omega
 . rw [ER h];omega
theorem EC:∀ (ls:List (List Int)) (b:List Int),b.sum<=(ls.foldl ji b).sum/\∀ l∈ls,l.sum<=(ls.foldl ji b).sum
 | [],b=>⟨Int.le_refl _,fun l h=>by cases h⟩
 | a::ls,b=>by
   obtain ⟨h1,h2⟩:=EC ls (ji b a);have g:=Sb (b:=b) (l:=a);refine ⟨Int.le_trans g.1 h1,fun l hl=>?_⟩;rcases List.mem_cons.mp hl with rfl|hl
   . exact Int.le_trans g.2 h1
   . exact h2 l hl
theorem zP:∀ (ls:List (List Int)) (b:List Int),ls.foldl ji b=b\/ls.foldl ji b∈ls
 | [],b=>.inl rfl
 | a::ls,b=>by
   rw [List.foldl_cons];rcases zP ls (ji b a) with h|h
   . rw [h];by_cases z:b.sum<a.sum
     . rw [Ga z];exact .inr List.mem_cons_self
     . rw [ER z];exact .inl rfl
   . exact .inr (List.mem_cons_of_mem _ h)
theorem A6 {f e:Int->Int} {D F:Int}:∀ {l:List Int},(∀ c∈l,f c*D<=e c*F)->(l.map f).sum*D<=(l.map e).sum*F
 | [],_=>by simp
 | a::l,h=>by
   have h1:=h a List.mem_cons_self;have h2:=A6 (l:=l) fun c hc=>h c (List.mem_cons_of_mem _ hc);rw [List.map_cons,List.map_cons,List.sum_cons,List.sum_cons,Int.add_mul,Int.add_mul];omega
theorem oY {f:Int->Int} {l:List Int} (h:∀ c∈l,0<=f c):0<=(l.map f).sum:=EU fun x hx=>by
 obtain ⟨c,hc,rfl⟩:=List.mem_map.mp hx;exact h c hc
theorem vc {f:Int->Int} {l:List Int} (h:∀ c∈l,0<=f c) {c:Int} (hc:c∈l):f c<=(l.map f).sum:=Lz (fun x hx=>by
 obtain ⟨c,hc,rfl⟩:=List.mem_map.mp hx;exact h c hc) (List.mem_map.mpr ⟨c,hc,rfl⟩)
theorem Ag {f h:Int->Int}:∀ {l:List Int},(l.map fun c=>f c+h c).sum=(l.map f).sum+(l.map h).sum
 | []=>by simp
 | a::l=>by rw [List.map_cons,List.map_cons,List.map_cons,List.sum_cons,List.sum_cons,List.sum_cons,Ag];omega
theorem pJ {f h:Int->Int}:∀ {l:List Int},(l.map fun c=>f c - h c).sum=(l.map f).sum - (l.map h).sum
 | []=>by simp
 | a::l=>by rw [List.map_cons,List.map_cons,List.map_cons,List.sum_cons,List.sum_cons,List.sum_cons,pJ];omega
section
variable {m:Int} {rs:List Road} {r:Int} {par:Int->Int} {dep:Int->Nat} {nd:Int->Int}
theorem jX (g:Good m rs) (R:Rooted m rs r par dep) {v:Int} (h0:0<=v) (h1:v<m) (hr:v≠r):2<=upT rs par v/\2<=dnT rs par v:=by
 obtain ⟨k1,e1,a,_⟩:=ue g R h0 h1 hr;obtain ⟨k2,e2,b,_⟩:=tM g R h0 h1 hr;unfold upT dnT;rw [e1,e2];exact ⟨a,b⟩
def idS (m:Int) (rs:List Road) (r:Int) (par:Int->Int) (dep:Int->Nat) (nd:Int->Int) (v:Int):Int:=((kd m rs r par v).map fun c=>(idl m rs r par dep nd c).sum).sum
def gS (m:Int) (rs:List Road) (r:Int) (par:Int->Int) (dep:Int->Nat) (nd:Int->Int) (v D:Int):Int:=(gld m rs r par dep nd v (D - nd v)).sum - idS m rs r par dep nd v
def gK (m:Int) (rs:List Road) (r:Int) (par:Int->Int) (dep:Int->Nat) (nd:Int->Int) (k D:Int):Int:=(gld m rs r par dep nd k (upT rs par k*(D - nd k*dnT rs par k+1) - 1)).sum - (idl m rs r par dep nd k).sum
theorem CB (g:Good m rs) (R:Rooted m rs r par dep) {v:Int} (h0:0<=v) (h1:v<m) (x:V):(idK m rs r par (idl m rs r par dep nd) v x).sum=(((kd m rs r par v).filter fun k=>decide (V.int k≠x)).map fun c=>(idl m rs r par dep nd c).sum).sum:=by
 unfold idK oO;rw [Du _ _ (zd m) fun l hl=>?_,RN,Int.zero_add,List.map_map]
 . rfl
 . obtain ⟨k,hk,rfl⟩:=List.mem_map.mp hl;have w:=cR g R h0 h1 (List.mem_filter.mp hk).1;exact tm g R w.1.1.1 w.1.1.2
theorem FO (g:Good m rs) (R:Rooted m rs r par dep) {v:Int} (h0:0<=v) (h1:v<m) (x:V):(idK m rs r par (idl m rs r par dep nd) v x).length=m.toNat:=tV fun k hk=>by
 have w:=cR g R h0 h1 hk;exact tm g R w.1.1.1 w.1.1.2
theorem Jd (g:Good m rs) (R:Rooted m rs r par dep) {v:Int} (h0:0<=v) (h1:v<m) {k:Int} (hk:k∈kd m rs r par v) (D:Int):(byK m rs r par nd (idl m rs r par dep nd) (gld m rs r par dep nd) v D k).sum=idS m rs r par dep nd v+gK m rs r par dep nd k D:=by
 have w:=cR g R h0 h1 hk;unfold byK gK;rw [Ap ((Jn g R w.1.1.1 w.1.1.2).trans (FO g R h0 h1 _).symm),CB g R h0 h1,Hq (show (kd m rs r par v).Nodup from dF) hk];unfold idS;omega
theorem Bs (g:Good m rs) (R:Rooted m rs r par dep) {v:Int} (h0:0<=v) (h1:v<m) (D:Int):D<=gS m rs r par dep nd v D/\(∀ k∈kd m rs r par v,gK m rs r par dep nd k D<=gS m rs r par dep nd v D)/\(gS m rs r par dep nd v D=D\/∃ k∈kd m rs r par v,gS m rs r par dep nd v D=gK m rs r par dep nd k D):=by
 have e:nd v+(D - nd v)=D:=by omega
 have b0:(kC (idK m rs r par (idl m rs r par dep nd) v .non) v D).sum=idS m rs r par dep nd v+D:=by
   rw [Nm (by rw [FO g R h0 h1];omega),CB g R h0 h1,FD]
   rfl
 unfold gS;rw [qF g R h0 h1];unfold kQ;rw [e];obtain ⟨p1,p2⟩:=EC ((kd m rs r par v).map (byK m rs r par nd (idl m rs r par dep nd) (gld m rs r par dep nd) v D)) (kC (idK m rs r par (idl m rs r par dep nd) v .non) v D);refine ⟨by omega,fun k hk=>?_,?_⟩
 . have:=p2 _ (List.mem_map.mpr ⟨k,hk,rfl⟩);rw [Jd g R h0 h1 hk] at this;omega
 . rcases zP ((kd m rs r par v).map (byK m rs r par nd (idl m rs r par dep nd) (gld m rs r par dep nd) v D)) (kC (idK m rs r par (idl m rs r par dep nd) v .non) v D) with h|h
   . rw [h,b0];exact .inl (by omega)
   . obtain ⟨k,hk,e⟩:=List.mem_map.mp h;rw [<- e,Jd g R h0 h1 hk];exact .inr ⟨k,hk,by omega⟩
theorem yk {k y:Int}:(gld m rs r par dep nd k y).sum=idS m rs r par dep nd k+gS m rs r par dep nd k (y+nd k):=by
 unfold gS;rw [show y+nd k - nd k=y by omega];omega
theorem tF (g:Good m rs) (R:Rooted m rs r par dep) {k:Int} (h0:0<=k) (h1:k<m):(idl m rs r par dep nd k).sum=idS m rs r par dep nd k+if 0<nd k then 0 else gS m rs r par dep nd k (upT rs par k - 1+nd k):=by
 rw [vt g R h0 h1];split
 . rw [CB g R h0 h1,FD];unfold idS;omega
 . exact yk
structure Nds (m:Int) (rs:List Road) (r:Int) (par:Int->Int) (w nd:Int->Int):Prop where
 st:∀ v,0<=v->v<m->nd v=w v+((kd m rs r par v).map fun c=>nd c*dnT rs par c).sum
 nn:∀ v,0<=v->v<m->0<=nd v
 w0:∀ v,0<=v->v<m->0<=w v
variable {w:Int->Int}
theorem dn0 (g:Good m rs) (R:Rooted m rs r par dep) (N:Nds m rs r par w nd) {v:Int} (h0:0<=v) (h1:v<m):∀ c∈kd m rs r par v,0<=nd c*dnT rs par c:=fun c hc=>by
 have q:=(cR g R h0 h1 hc).1;have t:=jX g R q.1.1 q.1.2 q.2.1;exact Int.mul_nonneg (N.nn c q.1.1 q.1.2) (by omega)
theorem yN (g:Good m rs) (R:Rooted m rs r par dep) (N:Nds m rs r par w nd) {v:Int} (h0:0<=v) (h1:v<m) {c:Int} (hc:c∈kd m rs r par v):w v+nd c*dnT rs par c<=nd v:=by
 rw [N.st v h0 h1];have:=vc (dn0 g R N h0 h1) hc;omega
theorem B6 (g:Good m rs) (R:Rooted m rs r par dep) (N:Nds m rs r par w nd) {v:Int} (h0:0<=v) (h1:v<m) (z:nd v<=0) {c:Int} (hc:c∈kd m rs r par v):nd c=0:=by
 have h:=yN g R N h0 h1 hc;have q:=(cR g R h0 h1 hc).1;have t:=jX g R q.1.1 q.1.2 q.2.1;have n:=N.nn c q.1.1 q.1.2;have w0:=N.w0 v h0 h1;have:=Int.mul_le_mul_of_nonneg_left t.2 n;omega
theorem IX (g:Good m rs) (R:Rooted m rs r par dep) {v:Int} (h0:0<=v) (h1:v<m):1<=wgt m rs r par dep v/\(∀ c∈kd m rs r par v,wgt m rs r par dep c*upT rs par c<=wgt m rs r par dep v)/\(wgt m rs r par dep v=1\/∃ c∈kd m rs r par v,wgt m rs r par dep v=wgt m rs r par dep c*upT rs par c):=by
 have e:wgt m rs r par dep v=((kd m rs r par v).map fun c=>wgt m rs r par dep c*upT rs par c).foldl mx 1:=RO g R h0 h1;have fm:∀ (l:List Int) (a:Int),a<=l.foldl mx a/\(∀ x∈l,x<=l.foldl mx a)/\(l.foldl mx a=a\/l.foldl mx a∈l):=by
   intro l
   induction l with
   | nil=>intro a;exact ⟨Int.le_refl _,fun x h=>(by cases h),.inl rfl⟩
   | cons b l ih =>
     intro a;obtain ⟨i1,i2,i3⟩:=ih (mx a b);have hm:a<=mx a b/\b<=mx a b/\(mx a b=a\/mx a b=b):=(by unfold mx;split <;> omega);rw [List.foldl_cons];refine ⟨by omega,fun x hx=>?_,?_⟩
     . rcases List.mem_cons.mp hx with rfl|hx
       . omega
       . exact i2 x hx
     . rcases i3 with i3|i3
       . rw [i3];rcases hm.2.2 with h|h
         . exact .inl h
         . rw [h];exact .inr List.mem_cons_self
       . exact .inr (List.mem_cons_of_mem _ i3)
 obtain ⟨f1,f2,f3⟩:=fm ((kd m rs r par v).map fun c=>wgt m rs r par dep c*upT rs par c) 1;rw [<- e] at f1 f2 f3;refine ⟨f1,fun c hc=>f2 _ (List.mem_map.mpr ⟨c,hc,rfl⟩),f3.imp id fun h=>?_⟩;obtain ⟨c,hc,e⟩:=List.mem_map.mp h;exact ⟨c,hc,e.symm⟩
theorem C5 (g:Good m rs) (R:Rooted m rs r par dep) (N:Nds m rs r par w nd):∀ (n:Nat) (v:Int),0<=v->v<m->m.toNat - dep v=n->(∀ k∈kd m rs r par v,nd k=0)->∀ D,0<=D->gS m rs r par dep nd v D=wgt m rs r par dep v*D
 | 0,v,h0,h1,e,_,_,_=>by have:=dy R h0 h1;omega
 | n+1,v,h0,h1,e,z,D,D0=>by
   have kk:∀ k∈kd m rs r par v,gK m rs r par dep nd k D=wgt m rs r par dep k*upT rs par k*D:=fun k hk=>by
     obtain ⟨q,q2,_⟩:=cR g R h0 h1 hk;have kz:=z k hk;have t:=jX g R q.1.1 q.1.2 q.2.1;have ih:=C5 g R N n k q.1.1 q.1.2 (by omega) (fun c hc=>B6 g R N q.1.1 q.1.2 (by omega) hc);have u1:0<=upT rs par k*(D+1) - 1:=by
       have:=Int.mul_le_mul_of_nonneg_left (show 1<=D+1 by omega) (show 0<=upT rs par k by omega);omega
     unfold gK;rw [yk,tF g R q.1.1 q.1.2,kz,if_neg (by decide),Int.zero_mul,Int.sub_zero,Int.add_zero,Int.add_zero,ih _ u1,ih _ (by omega)];rw [Int.mul_sub,Int.mul_sub,Int.mul_add,Int.mul_add,Int.mul_one,Int.mul_assoc];omega
   obtain ⟨a1,a2,a3⟩:=Bs (nd:=nd) g R h0 h1 D;obtain ⟨b1,b2,b3⟩:=IX g R h0 h1;have le:gS m rs r par dep nd v D<=wgt m rs r par dep v*D:=by
     rcases a3 with h|⟨k,hk,h⟩
     . rw [h];have:=Int.mul_le_mul_of_nonneg_right b1 D0;omega
     . rw [h,kk k hk];exact Int.mul_le_mul_of_nonneg_right (b2 k hk) D0
   have ge:wgt m rs r par dep v*D<=gS m rs r par dep nd v D:=by
     rcases b3 with h|⟨k,hk,h⟩
     . rw [h];omega
     . rw [h,<- kk k hk];exact a2 k hk
   omega
theorem ar1 {st n u d D e:Int} (u2:2<=u) (d2:2<=d) (n1:1<=n) (he:e=(if 0<=st then st / u else st*d)+n*d) (k0:0<=st+n) (eD:e<=D) (hD:n*d<=D):st+n<=u*(D - n*d+1) - 1+n/\n<=u*(D - n*d+1) - 1+n/\(st+n)*D<=e*(u*(D - n*d+1) - 1+n):=by
 have N2:=Int.mul_le_mul_of_nonneg_left d2 (show 0<=n by omega);obtain ⟨C,hC⟩:∃ C,D - n*d=C:=⟨_,rfl⟩;have C0:0<=C:=by omega
 have eDC:D=C+n*d:=by omega
 rw [hC];have uC:=Int.mul_le_mul_of_nonneg_right u2 C0;have uC1:u*(C+1)=u*C+u:=by rw [Int.mul_add,Int.mul_one]
 rw [uC1];by_cases s:0<=st
 . rw [if_pos s] at he;have c0:=Int.ediv_nonneg s (show 0<=u by omega);have c1:=Int.mul_ediv_add_emod st u;have c2:=Int.emod_lt_of_pos st (show 0<u by omega);generalize st / u=c at he c0 c1;have cC:c<=C:=by omega
   have ucC:=Int.mul_le_mul_of_nonneg_left cC (show 0<=u by omega);refine ⟨by omega,by omega,?_⟩;have h1:(st+n)*D<=(u*c+(u - 1+n))*D:=Int.mul_le_mul_of_nonneg_right (by omega) (by omega);have h2:0<=(C - c)*(u*(n*d) - (u - 1+n)):=by
     refine Int.mul_nonneg (by omega) ?_;have q1:=Int.mul_le_mul_of_nonneg_left N2 (show 0<=u by omega);have q2:0<=(u - 1)*(n - 1):=Int.mul_nonneg (by omega) (by omega);have q3:(u - 1)*(n - 1)=u*n - u - n+1:=(by grind);have q4:u*(n*2)=2*(u*n):=(by grind);have q5:0<=u*n:=Int.mul_nonneg (by omega) (by omega);omega
   have h3:(u*c+(u - 1+n))*(C+n*d)+(C - c)*(u*(n*d) - (u - 1+n))=(c+n*d)*(u*C+(u - 1+n)):=by grind
   rw [he,show u*C+u - 1+n=u*C+(u - 1+n) by omega];rw [eDC] at h1 ⊢;omega
 . rw [if_neg s] at he;refine ⟨by omega,by omega,?_⟩;have e1:e=(st+n)*d:=by rw [he,Int.add_mul]
   have q1:C+n*d<=d*(u*C+u - 1+n):=by
     have a1:d*(u*C+u - 1+n)=d*(u*C+u - 1)+n*d:=(by grind);have a2:=Int.mul_le_mul_of_nonneg_right d2 (show 0<=u*C+u - 1 by omega);omega
   rw [e1,eDC,Int.mul_assoc];exact Int.mul_le_mul_of_nonneg_left q1 k0
theorem ar2 {f D D' k e F:Int} (hD':0<D') (D0:0<=D) (F0:0<=F) (h1:f*D'<=k*F) (h2:k*D<=e*D'):f*D<=e*F:=by
 have a1:=Int.mul_le_mul_of_nonneg_right h1 D0;have a2:=Int.mul_le_mul_of_nonneg_right h2 F0;have a3:f*D'*D=f*D*D':=by grind
 have a4:k*F*D=k*D*F:=by grind
 have a5:e*D'*F=e*F*D':=by grind
 exact Int.le_of_mul_le_mul_right (show f*D*D'<=e*F*D' by omega) hD'
structure Lay (m:Int) (rs:List Road) (r:Int) (par:Int->Int) (w x st bl:Int->Int):Prop where
 x0:∀ v,0<=v->v<m->0<=x v
 st:∀ v,0<=v->v<m->st v=x v - w v+((kd m rs r par v).map fun c=>hnd rs par c (st c)).sum
 bl:∀ v,0<=v->v<m->bl v=x v+((kd m rs r par v).map bl).sum
variable {x st bl:Int->Int}
theorem tI (v z:Int):hnd rs par v z=if 0<=z then z / upT rs par v else z*dnT rs par v:=rfl
theorem BU (g:Good m rs) (R:Rooted m rs r par dep) (N:Nds m rs r par w nd) (L:Lay m rs r par w x st bl):∀ (n:Nat) (v:Int),0<=v->v<m->m.toNat - dep v=n->st v+nd v=x v+((kd m rs r par v).map fun c=>hnd rs par c (st c)+nd c*dnT rs par c).sum/\0<=st v+nd v/\∀ c∈kd m rs r par v,0<=hnd rs par c (st c)+nd c*dnT rs par c
 | 0,v,h0,h1,e=>by have:=dy R h0 h1;omega
 | n+1,v,h0,h1,e=>by
   have e1:st v+nd v=x v+((kd m rs r par v).map fun c=>hnd rs par c (st c)+nd c*dnT rs par c).sum:=by
     rw [Ag,L.st v h0 h1,N.st v h0 h1];omega
   have kk:∀ c∈kd m rs r par v,0<=hnd rs par c (st c)+nd c*dnT rs par c:=fun c hc=>by
     obtain ⟨q,q2,_⟩:=cR g R h0 h1 hc;have t:=jX g R q.1.1 q.1.2 q.2.1;have ih:=(BU g R N L n c q.1.1 q.1.2 (by omega)).2.1;have d:=dn0 g R N h0 h1 c hc;rw [tI];split
     . rename_i z
       have:=Int.ediv_nonneg z (show 0<=upT rs par c by omega);omega
     . rw [<- Int.add_mul];exact Int.mul_nonneg ih (by omega)
   refine ⟨e1,?_,kk⟩;rw [e1];have:=oY kk;have:=L.x0 v h0 h1;omega
theorem EZ (g:Good m rs) (R:Rooted m rs r par dep) (N:Nds m rs r par w nd) (L:Lay m rs r par w x st bl) {k:Int} (h0:0<=k) (h1:k<m) (hr:k≠r) (z:nd k=0) (ih:∀ D,st k+nd k<=D->(∀ c∈kd m rs r par k,nd c*dnT rs par c<=D)->1<=D->(bl k - idS m rs r par dep nd k)*D<=(st k+nd k)*gS m rs r par dep nd k D) :
   bl k - (idl m rs r par dep nd k).sum<=wgt m rs r par dep k*upT rs par k*hnd rs par k (st k)/\0<=hnd rs par k (st k):=by
 have t:=jX g R h0 h1 hr;have s0:=(BU g R N L _ k h0 h1 rfl).2.1;rw [z,Int.add_zero] at s0;have G:=C5 g R N _ k h0 h1 rfl (fun c hc=>B6 g R N h0 h1 (by omega) hc);have W1:=(IX g R h0 h1).1;have q:=ih (st k+1) (by omega) (fun c hc=>by
   have:=yN g R N h0 h1 hc;have:=N.w0 k h0 h1;omega) (by omega)
 rw [G _ (by omega),z,Int.add_zero,<- Int.mul_assoc] at q;have q2:=Int.le_of_mul_le_mul_right q (by omega);rw [tF g R h0 h1,if_neg (by omega),z,Int.add_zero,G _ (by omega),tI,if_pos s0];have c0:=Int.ediv_nonneg s0 (show 0<=upT rs par k by omega);have c1:=Int.mul_ediv_add_emod (st k) (upT rs par k);have c2:=Int.emod_lt_of_pos (st k) (show 0<upT rs par k by omega);refine ⟨?_,c0⟩;generalize st k / upT rs par k=c at c0 c1 ⊢;have a1:st k<=upT rs par k*c+(upT rs par k - 1):=by omega
 have a2:=Int.mul_le_mul_of_nonneg_left a1 (show 0<=wgt m rs r par dep k by omega);rw [Int.mul_add,<- Int.mul_assoc] at a2;rw [Int.mul_comm (st k)] at q2;omega
theorem Dd (g:Good m rs) (R:Rooted m rs r par dep) (N:Nds m rs r par w nd) (L:Lay m rs r par w x st bl):∀ (n:Nat) (v:Int),0<=v->v<m->m.toNat - dep v=n->∀ D,st v+nd v<=D->(∀ c∈kd m rs r par v,nd c*dnT rs par c<=D)->1<=D->(bl v - idS m rs r par dep nd v)*D<=(st v+nd v)*gS m rs r par dep nd v D
 | 0,v,h0,h1,e,_,_,_,_=>by have:=dy R h0 h1;omega
 | n+1,v,h0,h1,e,D,hD,hk,D1=>by
   obtain ⟨e1,e2,e3⟩:=BU g R N L _ v h0 h1 rfl;obtain ⟨a1,a2,_⟩:=Bs (nd:=nd) g R h0 h1 D;have x0:=L.x0 v h0 h1;have kk:∀ k∈kd m rs r par v,(bl k - (idl m rs r par dep nd k).sum)*D<=(hnd rs par k (st k)+nd k*dnT rs par k)*gS m rs r par dep nd v D:=fun k hkm=>by
     obtain ⟨q,q2,_⟩:=cR g R h0 h1 hkm;have ih:=Dd g R N L n k q.1.1 q.1.2 (by omega);have t:=jX g R q.1.1 q.1.2 q.2.1;have ke:=e3 k hkm;have keD:hnd rs par k (st k)+nd k*dnT rs par k<=D:=by
       have:=vc e3 hkm;omega
     have up:=a2 k hkm;have key:(bl k - (idl m rs r par dep nd k).sum)*D<=(hnd rs par k (st k)+nd k*dnT rs par k)*gK m rs r par dep nd k D:=by
       by_cases z:nd k=0
       . obtain ⟨z1,z2⟩:=EZ g R N L q.1.1 q.1.2 q.2.1 z ih;have u1:0<=upT rs par k*(D+1) - 1:=by
           have:=Int.mul_le_mul_of_nonneg_left (show 1<=D+1 by omega) (show 0<=upT rs par k by omega);omega
         have G:=C5 g R N _ k q.1.1 q.1.2 rfl (fun c hc=>B6 g R N q.1.1 q.1.2 (by omega) hc);have eg:gK m rs r par dep nd k D=wgt m rs r par dep k*upT rs par k*D:=by
           unfold gK;rw [yk,tF g R q.1.1 q.1.2,z,if_neg (by decide),Int.zero_mul,Int.sub_zero,Int.add_zero,Int.add_zero,G _ u1,G _ (by omega)];rw [Int.mul_sub,Int.mul_sub,Int.mul_add,Int.mul_add,Int.mul_one,Int.mul_assoc];omega
         rw [eg,z,Int.zero_mul,Int.add_zero];have:=Int.mul_le_mul_of_nonneg_right z1 (show 0<=D by omega);have r:hnd rs par k (st k)*(wgt m rs r par dep k*upT rs par k*D)=wgt m rs r par dep k*upT rs par k*hnd rs par k (st k)*D:=(by grind);rw [r];exact this
       . have n1:=N.nn k q.1.1 q.1.2;have s0:=(BU g R N L _ k q.1.1 q.1.2 rfl).2.1;obtain ⟨b1,b2,b3⟩:=ar1 (st:=st k) (n:=nd k) (D:=D) t.1 t.2 (by omega) rfl s0 (by rw [<- tI];exact keD) (hk k hkm);rw [<- tI] at b3;have eg:gK m rs r par dep nd k D=gS m rs r par dep nd k (upT rs par k*(D - nd k*dnT rs par k+1) - 1+nd k):=by
           unfold gK;rw [yk,tF g R q.1.1 q.1.2,if_pos (by omega)];omega
         have ei:(idl m rs r par dep nd k).sum=idS m rs r par dep nd k:=by
           rw [tF g R q.1.1 q.1.2,if_pos (by omega)];omega
         rw [eg,ei];generalize upT rs par k*(D - nd k*dnT rs par k+1) - 1+nd k=D' at b1 b2 b3 ⊢;refine ar2 (D':=D') (k:=st k+nd k) (by omega) (by omega) ?_ (ih D' b1 (fun c hc=>?_) (by omega)) b3
         . have:=(Bs (nd:=nd) g R q.1.1 q.1.2 D').1;omega
         . have:=yN g R N q.1.1 q.1.2 hc;have:=N.w0 k q.1.1 q.1.2;omega
     exact Int.le_trans key (Int.mul_le_mul_of_nonneg_left up ke)
   have eb:bl v - idS m rs r par dep nd v=x v+((kd m rs r par v).map fun k=>bl k - (idl m rs r par dep nd k).sum).sum:=by
     rw [pJ,L.bl v h0 h1];unfold idS;omega
   have h1:=A6 kk;have h2:=Int.mul_le_mul_of_nonneg_left a1 x0;rw [eb,e1,Int.add_mul,Int.add_mul];omega
theorem Lb (g:Good m rs) (R:Rooted m rs r par dep) (N:Nds m rs r par w nd) (L:Lay m rs r par w x st bl) (r0:0<=r) (r1:r<m) (wr:1<=w r) (hs:st r<=-1):bl r<=(gld m rs r par dep nd r (-1)).sum:=by
 obtain ⟨e1,e2,e3⟩:=BU g R N L _ r r0 r1 rfl;have eg:(gld m rs r par dep nd r (-1)).sum=idS m rs r par dep nd r+gS m rs r par dep nd r (nd r - 1):=by
   rw [yk,show (-1:Int)+nd r=nd r - 1 by omega]
 have hk:∀ c∈kd m rs r par r,nd c*dnT rs par c<=nd r - 1:=fun c hc=>by
   have:=yN g R N r0 r1 hc;omega
 have x0:=L.x0 r r0 r1;have a1:=(Bs (nd:=nd) g R r0 r1 (nd r - 1)).1;rw [eg];by_cases D1:1<=nd r - 1
 . have q:=Dd g R N L _ r r0 r1 rfl (nd r - 1) (by omega) hk D1;have q2:(st r+nd r)*gS m rs r par dep nd r (nd r - 1)<=gS m rs r par dep nd r (nd r - 1)*(nd r - 1):=by
     rw [Int.mul_comm];exact Int.mul_le_mul_of_nonneg_left (by omega) (by omega)
   have:=Int.le_of_mul_le_mul_right (Int.le_trans q q2) (by omega);omega
 . have s0:=oY e3;have ek:∀ c∈kd m rs r par r,bl c - (idl m rs r par dep nd c).sum<=0:=fun c hc=>by
     obtain ⟨q,q2,_⟩:=cR g R r0 r1 hc;have t:=jX g R q.1.1 q.1.2 q.2.1;have h1:=hk c hc;have n:=N.nn c q.1.1 q.1.2;have z:nd c=0:=by
       have:=Int.mul_le_mul_of_nonneg_left t.2 n;omega
     obtain ⟨z1,z2⟩:=EZ g R N L q.1.1 q.1.2 q.2.1 z (Dd g R N L _ c q.1.1 q.1.2 rfl);have:=vc e3 hc;simp only [z,Int.zero_mul,Int.add_zero] at this;have hz:hnd rs par c (st c)=0:=(by omega);rw [hz,Int.mul_zero] at z1;exact z1
   have eb:bl r - idS m rs r par dep nd r=x r+((kd m rs r par r).map fun k=>bl k - (idl m rs r par dep nd k).sum).sum:=by
     rw [pJ,L.bl r r0 r1];unfold idS;omega
   have:=oY (l:=kd m rs r par r) (f:=fun c=>(idl m rs r par dep nd c).sum - bl c) fun c hc=>by have:=ek c hc;omega
   rw [pJ] at this;rw [pJ] at eb;omega
theorem Jq (g:Good m rs) (R:Rooted m rs r par dep) (x:Int->Int):∀ (n:Nat) (v:Int),0<=v->v<m->m.toNat - dep v=n->gat m rs r par dep x (fun _ z=>z) v=((bU m rs r par dep v).map x).sum
 | 0,v,h0,h1,e=>by have:=dy R h0 h1;omega
 | n+1,v,h0,h1,e=>by
   rw [aX g R h0 h1,ii g R h0 h1,List.map_cons,List.sum_cons];have:∀ l:List Int,(∀ c∈l,c∈kd m rs r par v)->(l.map fun c=>gat m rs r par dep x (fun _ z=>z) c).sum=((l.flatMap (bU m rs r par dep)).map x).sum:=by
     intro l
     induction l with
     | nil=>intro _;rfl
     | cons a l ih =>
       intro h;obtain ⟨q,q2,_⟩:=cR g R h0 h1 (h a List.mem_cons_self);rw [List.map_cons,List.sum_cons,List.flatMap_cons,List.map_append,List.sum_append,ih fun c hc=>h c (List.mem_cons_of_mem _ hc),Jq g R x n a q.1.1 q.1.2 (by omega)]
   rw [this _ fun c hc=>hc]
theorem IR (g:Good m rs) (R:Rooted m rs r par dep) (r0:0<=r) (r1:r<m) (x:Int->Int):gat m rs r par dep x (fun _ z=>z) r=((below m.toNat).map x).sum:=by
 rw [Jq g R x _ r r0 r1 rfl];obtain ⟨t,e,O⟩:=La g R r0 r1;rw [e];refine vR ((eV O.nd (fA _) fun v=>?_).map x);rw [List.mem_cons,dh];refine ⟨fun h=>?_,fun h=>O.all v h.1 (by have:=h.2;omega)⟩;rcases h with h|h
 . rw [h];exact ⟨r0,by omega⟩
 . have:=O.rng v h;omega
theorem Jw (g:Good m rs) (R:Rooted m rs r par dep) {x:Int->Int} {con:Int->Int->Int} (x0:∀ v,0<=v->v<m->0<=x v) (c0:∀ v z,0<=v->v<m->v≠r->0<=z->0<=con v z):∀ (n:Nat) (v:Int),0<=v->v<m->m.toNat - dep v=n->0<=gat m rs r par dep x con v
 | 0,v,h0,h1,e=>by have:=dy R h0 h1;omega
 | n+1,v,h0,h1,e=>by
   rw [aX g R h0 h1];have a:=x0 v h0 h1;have b:=oY (l:=kd m rs r par v) (f:=fun c=>con c (gat m rs r par dep x con c)) fun c hc=>by
     obtain ⟨q,q2,_⟩:=cR g R h0 h1 hc;exact c0 c _ q.1.1 q.1.2 q.2.1 (Jw g R x0 c0 n c q.1.1 q.1.2 (by omega))
   exact Int.add_nonneg a b
abbrev mD (m:Int) (rs:List Road) (r:Int) (par:Int->Int) (dep:Int->Nat) (xs:List Int):Int->Int:=gat m rs r par dep (fun v=>xs.getD v.toNat 0) (ned rs par)
theorem uj {xs:List Int} (x0:∀ x∈xs,0<=x) (i:Nat):0<=xs.getD i 0:=by
 rw [List.getD_eq_getElem?_getD];cases e:xs[i]? with
 | none=>exact Int.le_refl _
 | some y=>exact x0 y (List.mem_of_getElem? e)
theorem MH (g:Good m rs) (R:Rooted m rs r par dep) {ys:List Int} (y0:∀ y∈ys,0<=y):Nds m rs r par (fun v=>ys.getD v.toNat 0) (mD m rs r par dep ys) where
 st:=fun v h0 h1=>aX g R h0 h1
 nn:=fun v h0 h1=>Jw g R (fun v _ _=>uj y0 _) (fun v z a b c d=>by
   have t:=jX g R a b c;unfold ned;exact Int.mul_nonneg d (show 0<=dnT rs par v by omega)) _ v h0 h1 rfl
 w0:=fun v _ _=>uj y0 _
theorem T6 (g:Good m rs) (R:Rooted m rs r par dep) {xs ys:List Int} (x0:∀ x∈xs,0<=x):Lay m rs r par (fun v=>ys.getD v.toNat 0) (fun v=>xs.getD v.toNat 0) (gat m rs r par dep (fun v=>(bw m xs ys).getD v.toNat 0) (hnd rs par)) (gat m rs r par dep (fun v=>xs.getD v.toNat 0) (fun _ z=>z)) where
 x0:=fun v _ _=>uj x0 _
 st:=fun v h0 h1=>by
   have:=t7 (m:=m) (zs:=xs) (ys:=ys) v.toNat;rw [if_pos (by omega)] at this;rw [aX g R h0 h1,this]
 bl:=fun v h0 h1=>aX g R h0 h1
theorem Mr (g:Good m rs) (R:Rooted m rs r par dep) (r0:0<=r) (r1:r<m) {xs ys:List Int} (xl:(xs.length:Int)=m) (x0:∀ x∈xs,0<=x) (y0:∀ y∈ys,0<=y) (yr:0<ys.getD r.toNat 0) (h:(gld m rs r par dep (mD m rs r par dep ys) r (-1)).sum+1<=xs.sum):0<=gat m rs r par dep (fun v=>(bw m xs ys).getD v.toNat 0) (hnd rs par) r:=by
 refine Classical.byContradiction fun n=>?_;have q:=Lb g R (MH g R y0) (T6 g R (ys:=ys) x0) r0 r1 yr (by omega);rw [IR g R r0 r1,L4 (by omega)] at q;omega
end
end Pb
set_option Elab.async false
set_option linter.all false
set_option maxRecDepth 100000
namespace Pb
open PySem L2
theorem DG {f:Int->List Int}:∀ {l:List Int},(l.flatMap f).Nodup->∀ {a b u:Int},a∈l->b∈l->u∈f a->u∈f b->a=b
 | c::l,nd,a,b,u,ha,hb,ua,ub=>by
   rw [List.flatMap_cons] at nd;obtain ⟨n1,n2,n3⟩:=List.nodup_append.mp nd;rcases List.mem_cons.mp ha with ha|ha <;> rcases List.mem_cons.mp hb with hb|hb
   . rw [ha,hb]
   . rw [ha] at ua;exact absurd rfl (n3 u ua u (List.mem_flatMap.mpr ⟨b,hb,ub⟩))
   . rw [hb] at ub;exact absurd rfl (n3 u ub u (List.mem_flatMap.mpr ⟨a,ha,ua⟩))
   . exact DG n2 ha hb ua ub
theorem j4:∀ {xs ys:List Int},xs.length=ys.length->∀ (i:Nat),(jm xs ys).getD i 0=xs.getD i 0+ys.getD i 0
 | [],[],_,i=>by simp [jm]
 | a::xs,b::ys,h,0=>by simp [jm]
 | a::xs,b::ys,h,i+1=>by
   have ih:=j4 (xs:=xs) (ys:=ys) (by simpa using h) i;unfold jm at ih ⊢;rw [List.zipWith_cons_cons,List.getD_cons_succ,List.getD_cons_succ,List.getD_cons_succ,ih]
theorem Di {n:Nat} (i:Nat):∀ (ls:List (List Int)) (a:List Int),a.length=n->(∀ l∈ls,l.length=n)->(ls.foldl jm a).getD i 0=a.getD i 0+(ls.map fun l=>l.getD i 0).sum
 | [],a,_,_=>by simp
 | l::ls,a,ha,hl=>by
   have h1:=hl l List.mem_cons_self;rw [List.foldl_cons,Di i ls _ (qg ha h1) fun x hx=>hl x (List.mem_cons_of_mem _ hx),j4 (ha.trans h1.symm),List.map_cons,List.sum_cons];omega
theorem Nf (m:Int) (i:Nat):(zrs m).getD i 0=0:=by
 rw [List.getD_eq_getElem?_getD];cases e:(zrs m)[i]? with
 | none=>rfl
 | some y=>exact (List.mem_replicate.mp (List.mem_of_getElem? e)).2
theorem vS {f:Int->Int}:∀ {l:List Int},(∀ c∈l,f c=0)->(l.map f).sum=0
 | [],_=>rfl
 | a::l,h=>by rw [List.map_cons,List.sum_cons,h a List.mem_cons_self,vS fun c hc=>h c (List.mem_cons_of_mem _ hc)];rfl
theorem uQ {f:Int->Int}:∀ {l:List Int},l.Nodup->∀ {c:Int},c∈l->(∀ j∈l,j≠c->f j=0)->(l.map f).sum=f c
 | a::l,nd,c,hc,h=>by
   obtain ⟨n1,n2⟩:=List.nodup_cons.mp nd;rw [List.map_cons,List.sum_cons];by_cases e:a=c
   . subst e;rw [vS fun j hj=>h j (List.mem_cons_of_mem _ hj) fun z=>n1 (z ▸ hj)];omega
   . rw [h a List.mem_cons_self e,uQ n2 ((List.mem_cons.mp hc).resolve_left (Ne.symm e)) fun j hj=>h j (List.mem_cons_of_mem _ hj)];omega
theorem qZ {b:List Int} {v d:Int} (h:v.toNat<b.length) (i:Nat):(kC b v d).getD i 0=b.getD i 0+if i=v.toNat then d else 0:=by
 unfold kC;by_cases e:i=v.toNat
 . subst e;rw [if_pos rfl,List.getD_eq_getElem?_getD,List.getElem?_set_self h]
   rfl
 . rw [if_neg e,List.getD_eq_getElem?_getD,List.getElem?_set_ne (Ne.symm e),<- List.getD_eq_getElem?_getD];omega
section
variable {m:Int} {rs:List Road} {r:Int} {par:Int->Int} {dep:Int->Nat} {nd w:Int->Int}
theorem Lq (g:Good m rs) (R:Rooted m rs r par dep) {v:Int} (h0:0<=v) (h1:v<m):(bU m rs r par dep v).Nodup :=
 (Pp g R h0 h1).nodup_iff.mpr ((fA _).filter _)
theorem zc (g:Good m rs) (R:Rooted m rs r par dep) {v:Int} (h0:0<=v) (h1:v<m) {u:Int}:u∈bU m rs r par dep v↔u=v\/∃ c∈kd m rs r par v,u∈bU m rs r par dep c:=by
 rw [ii g R h0 h1,List.mem_cons,List.mem_flatMap]
theorem Jr (g:Good m rs) (R:Rooted m rs r par dep) {v:Int} (h0:0<=v) (h1:v<m):(∀ c∈kd m rs r par v,v ∉ bU m rs r par dep c)/\∀ {a b u:Int},a∈kd m rs r par v->b∈kd m rs r par v->u∈bU m rs r par dep a->u∈bU m rs r par dep b->a=b:=by
 have n:=Lq g R h0 h1;rw [ii g R h0 h1] at n;obtain ⟨n1,n2⟩:=List.nodup_cons.mp n;exact ⟨fun c hc z=>n1 (List.mem_flatMap.mpr ⟨c,hc,z⟩),fun ha hb ua ub=>DG n2 ha hb ua ub⟩
theorem CW (g:Good m rs) (R:Rooted m rs r par dep) {held held':Int->Int} {con:Int->Int->Int}:∀ (n:Nat) (v:Int),0<=v->v<m->m.toNat - dep v=n->(∀ u∈bU m rs r par dep v,held u=held' u)->gat m rs r par dep held con v=gat m rs r par dep held' con v
 | 0,v,h0,h1,e,_=>by have:=dy R h0 h1;omega
 | n+1,v,h0,h1,e,h=>by
   rw [aX g R h0 h1,aX g R h0 h1,h v (uy g R h0 h1)];rw [List.map_congr_left fun c hc=>?_];obtain ⟨q,q2,_⟩:=cR g R h0 h1 hc;rw [CW g R n c q.1.1 q.1.2 (by omega) fun u hu=>h u ((zc g R h0 h1).mpr (.inr ⟨c,hc,hu⟩))]
structure Ld (m:Int) (rs:List Road) (r:Int) (par:Int->Int) (dep:Int->Nat) (w:Int->Int) (X:List Int) (v y:Int):Prop where
 len:X.length=m.toNat
 nn:∀ i,0<=X.getD i 0
 off:∀ u,0<=u->u ∉ bU m rs r par dep v->X.getD u.toNat 0=0
 st:gat m rs r par dep (fun u=>X.getD u.toNat 0 - w u) (hnd rs par) v=y
theorem zL (g:Good m rs) (R:Rooted m rs r par dep) {v:Int} (h0:0<=v) (h1:v<m) (x:V) (i:Nat):(idK m rs r par (idl m rs r par dep nd) v x).getD i 0=(((kd m rs r par v).filter fun k=>decide (V.int k≠x)).map fun c=>(idl m rs r par dep nd c).getD i 0).sum:=by
 unfold idK oO;rw [Di i _ _ (zd m) fun l hl=>?_,Nf,Int.zero_add,List.map_map]
 . rfl
 . obtain ⟨k,hk,rfl⟩:=List.mem_map.mp hl;have w:=cR g R h0 h1 (List.mem_filter.mp hk).1;exact tm g R w.1.1.1 w.1.1.2
theorem BI (g:Good m rs) (R:Rooted m rs r par dep) {v:Int} (h0:0<=v) (h1:v<m) (x:V) (ih:∀ c∈kd m rs r par v,∃ y,Ld m rs r par dep w (idl m rs r par dep nd c) c y) :
   (∀ i,0<=(idK m rs r par (idl m rs r par dep nd) v x).getD i 0)/\(∀ u,0<=u->(∀ c∈kd m rs r par v,u ∉ bU m rs r par dep c)->(idK m rs r par (idl m rs r par dep nd) v x).getD u.toNat 0=0) /\
   ∀ c∈kd m rs r par v,∀ u,0<=u->u∈bU m rs r par dep c->(idK m rs r par (idl m rs r par dep nd) v x).getD u.toNat 0=if V.int c≠x then (idl m rs r par dep nd c).getD u.toNat 0 else 0:=by
 refine ⟨fun i=>?_,fun u u0 hu=>?_,fun c hc u u0 hu=>?_⟩
 . rw [zL g R h0 h1];refine oY fun c hc=>?_;obtain ⟨y,L⟩:=ih c (List.mem_filter.mp hc).1;exact L.nn i
 . rw [zL g R h0 h1];refine vS fun c hc=>?_;have hc:=(List.mem_filter.mp hc).1;obtain ⟨y,L⟩:=ih c hc;exact L.off u u0 (hu c hc)
 . rw [zL g R h0 h1];have oth:∀ j∈(kd m rs r par v).filter (fun k=>decide (V.int k≠x)),j≠c->(idl m rs r par dep nd j).getD u.toNat 0=0:=fun j hj nj=>by
     have hj:=(List.mem_filter.mp hj).1;obtain ⟨y,L⟩:=ih j hj;exact L.off u u0 fun z=>nj ((Jr g R h0 h1).2 hj hc z hu)
   by_cases e:V.int c≠x
   . rw [if_pos e];exact uQ (dF.filter _) (List.mem_filter.mpr ⟨hc,decide_eq_true e⟩) oth
   . rw [if_neg e];exact vS fun j hj=>oth j hj fun z=>e (by
       rw [<- z];exact of_decide_eq_true (List.mem_filter.mp hj).2)
theorem zM (g:Good m rs) (R:Rooted m rs r par dep) (N:Nds m rs r par w nd) {c:Int} (h0:0<=c) (h1:c<m) (hr:c≠r):hnd rs par c (if 0<nd c then -nd c else upT rs par c - 1)=-(nd c*dnT rs par c):=by
 have t:=jX g R h0 h1 hr;have n:=N.nn c h0 h1;rw [tI];by_cases z:0<nd c
 . rw [if_pos z,if_neg (by omega),Int.neg_mul]
 . rw [if_neg z,if_pos (by omega),show nd c=0 by omega,Int.zero_mul];exact Int.ediv_eq_zero_of_lt (by omega) (by omega)
theorem IQ {f:Int->Int}:∀ {l:List Int},(l.map fun c=>-f c).sum=-(l.map f).sum
 | []=>rfl
 | a::l=>by rw [List.map_cons,List.map_cons,List.sum_cons,List.sum_cons,IQ];omega
theorem EN (g:Good m rs) (R:Rooted m rs r par dep) (N:Nds m rs r par w nd):∀ (n:Nat) (v:Int),0<=v->v<m->m.toNat - dep v=n->(v≠r->Ld m rs r par dep w (idl m rs r par dep nd v) v (if 0<nd v then -nd v else upT rs par v - 1))/\∀ y,-1<=y->(y=-1->1<=w v)->Ld m rs r par dep w (gld m rs r par dep nd v y) v y
 | 0,v,h0,h1,e=>by have:=dy R h0 h1;omega
 | n+1,v,h0,h1,e=>by
   have K1:∀ c∈kd m rs r par v,(c≠r/\(0<=c/\c<m))/\Ld m rs r par dep w (idl m rs r par dep nd c) c (if 0<nd c then -nd c else upT rs par c - 1)/\∀ y,0<=y->Ld m rs r par dep w (gld m rs r par dep nd c y) c y:=fun c hc=>by
     obtain ⟨q,q2,_⟩:=cR g R h0 h1 hc;have ih:=EN g R N n c q.1.1 q.1.2 (by omega);exact ⟨⟨q.2.1,q.1⟩,ih.1 q.2.1,fun y y0=>ih.2 y (by omega) fun z=>by omega⟩
   have K2:∀ c∈kd m rs r par v,∃ y,Ld m rs r par dep w (idl m rs r par dep nd c) c y:=fun c hc=>⟨_,(K1 c hc).2.1⟩;have ben:∀ c∈kd m rs r par v,∀ u∈bU m rs r par dep c,0<=u:=fun c hc u hu=>((za g R (K1 c hc).1.2.1 (K1 c hc).1.2.2 u).mp hu).1.1;have p1:=Jr g R h0 h1;have fin:∀ (X:List Int) (z y:Int) (hc:Int->Int),X.length=m.toNat->(∀ i,0<=X.getD i 0)->(∀ u,0<=u->u ∉ bU m rs r par dep v->X.getD u.toNat 0=0)->X.getD v.toNat 0=z->(∀ c∈kd m rs r par v,∃ Y s,Ld m rs r par dep w Y c s/\hnd rs par c s=hc c/\∀ u∈bU m rs r par dep c,X.getD u.toNat 0=Y.getD u.toNat 0)->z - w v+((kd m rs r par v).map hc).sum=y->Ld m rs r par dep w X v y:=fun X z y hc xl xn xo xz xk hy=>by
     refine ⟨xl,xn,xo,?_⟩;rw [aX g R h0 h1,xz,<- hy,List.map_congr_left fun c hcm=>?_];obtain ⟨Y,s,L,e1,e2⟩:=xk c hcm;rw [<- e1,<- L.st,CW g R _ c (K1 c hcm).1.2.1 (K1 c hcm).1.2.2 rfl fun u hu=>by rw [e2 u hu]]
   have offv:∀ {x:V} {u:Int},0<=u->u ∉ bU m rs r par dep v->(idK m rs r par (idl m rs r par dep nd) v x).getD u.toNat 0=0:=fun u0 hu=>(BI g R h0 h1 _ K2).2.1 _ u0 fun c hc z=>hu ((zc g R h0 h1).mpr (.inr ⟨c,hc,z⟩));have negs:((kd m rs r par v).map fun c=>-(nd c*dnT rs par c)).sum=w v - nd v:=by
     rw [IQ,N.st v h0 h1];omega
   have A:∀ y,-1<=y->(y=-1->1<=w v)->Ld m rs r par dep w (gld m rs r par dep nd v y) v y:=fun y y0 y1=>by
     have w0:=N.w0 v h0 h1;have n0:=N.nn v h0 h1;have room:0<=nd v+y:=by
       have:=oY (dn0 g R N h0 h1);have:=N.st v h0 h1;omega
     rw [qF g R h0 h1];unfold kQ;rcases zP ((kd m rs r par v).map (byK m rs r par nd (idl m rs r par dep nd) (gld m rs r par dep nd) v (nd v+y))) (kC (idK m rs r par (idl m rs r par dep nd) v .non) v (nd v+y)) with h|h
     . rw [h];have kl:=FO (nd:=nd) g R h0 h1 .non;have ia:=BI g R h0 h1 .non K2;have vl:v.toNat<(idK m rs r par (idl m rs r par dep nd) v .non).length:=(by omega);refine fin _ (nd v+y) y (fun c=>-(nd c*dnT rs par c)) (by rw [Gz];exact kl) (fun i=>?_) (fun u u0 hu=>?_) ?_ (fun c hc=>⟨_,_,(K1 c hc).2.1,zM g R N (K1 c hc).1.2.1 (K1 c hc).1.2.2 (K1 c hc).1.1,fun u hu=>?_⟩) (by rw [negs];omega)
       . rw [qZ vl];have:=ia.1 i;split <;> omega
       . have nv:u≠v:=fun z=>hu ((zc g R h0 h1).mpr (.inl z));rw [qZ vl,offv u0 hu,if_neg (by omega)]
         rfl
       . rw [qZ vl,if_pos rfl,ia.2.1 v h0 p1.1];omega
       . have u0:=ben c hc u hu;have nv:u≠v:=fun z=>p1.1 c hc (z ▸ hu);rw [qZ vl,if_neg (by omega),ia.2.2 c hc u u0 hu,if_pos (by intro z;cases z)];omega
     . obtain ⟨k,hk,e⟩:=List.mem_map.mp h;rw [<- e];obtain ⟨⟨kr,k0,k1⟩,_,kg⟩:=K1 k hk;have t:=jX g R k0 k1 kr;have kn:=yN g R N h0 h1 hk;have kd0:=dn0 g R N h0 h1 k hk;obtain ⟨gv,hgv⟩:∃ gv,nd v+y - nd k*dnT rs par k=gv:=⟨_,rfl⟩;have gv0:0<=gv:=(by omega);have u1:0<=upT rs par k*(gv+1) - 1:=by
         have:=Int.mul_le_mul_of_nonneg_left (show 1<=gv+1 by omega) (show 0<=upT rs par k by omega);omega
       have LG:=kg _ u1;have kl:=FO (nd:=nd) g R h0 h1 (.int k);have ia:=BI g R h0 h1 (.int k) K2;unfold byK;rw [hgv];have ll:=LG.len.trans kl.symm;refine fin _ 0 y (fun c=>if c=k then gv else -(nd c*dnT rs par c)) (qg LG.len kl) (fun i=>?_) (fun u u0 hu=>?_) ?_ (fun c hc=>?_) ?_
       . rw [j4 ll];have:=ia.1 i;have:=LG.nn i;omega
       . rw [j4 ll,offv u0 hu,LG.off u u0 fun z=>hu ((zc g R h0 h1).mpr (.inr ⟨k,hk,z⟩))]
         rfl
       . rw [j4 ll,ia.2.1 v h0 p1.1,LG.off v h0 (p1.1 k hk)]
         rfl
       . by_cases ck:c=k
         . subst ck;refine ⟨_,_,LG,?_,fun u hu=>?_⟩
           . rw [if_pos rfl,tI,if_pos u1];have:upT rs par c*(gv+1) - 1=(upT rs par c - 1)+upT rs par c*gv:=(by rw [Int.mul_add,Int.mul_one];omega);rw [this,Int.add_mul_ediv_left _ _ (by omega),Int.ediv_eq_zero_of_lt (by omega) (by omega)];omega
           . rw [j4 ll,ia.2.2 c hc u (ben c hc u hu) hu,if_neg (fun z=>z rfl)];omega
         . refine ⟨_,_,(K1 c hc).2.1,?_,fun u hu=>?_⟩
           . rw [if_neg ck];exact zM g R N (K1 c hc).1.2.1 (K1 c hc).1.2.2 (K1 c hc).1.1
           . have u0:=ben c hc u hu;rw [j4 ll,ia.2.2 c hc u u0 hu,if_pos (by intro z;cases z;exact ck rfl),LG.off u u0 fun z=>ck (p1.2 hc hk hu z)];omega
       . have e1:((kd m rs r par v).map fun c=>if c=k then gv else -(nd c*dnT rs par c)).sum=((kd m rs r par v).map fun c=>-(nd c*dnT rs par c)).sum+((kd m rs r par v).map fun c=>if c=k then gv+nd k*dnT rs par k else 0).sum:=by
           rw [<- Ag];rw [List.map_congr_left fun c hc=>?_];by_cases ck:c=k
           . rw [if_pos ck,if_pos ck,ck];omega
           . rw [if_neg ck,if_neg ck];omega
         rw [e1,negs,uQ (show (kd m rs r par v).Nodup from dF) hk fun j _ nj=>if_neg nj,if_pos rfl];omega
   refine ⟨fun vr=>?_,A⟩;have t:=jX g R h0 h1 vr;rw [vt g R h0 h1];by_cases z:0<nd v
   . rw [if_pos z,if_pos z];have ia:=BI g R h0 h1 .non K2;refine fin _ 0 _ (fun c=>-(nd c*dnT rs par c)) (FO g R h0 h1 _) ia.1 (fun u u0 hu=>offv u0 hu) (ia.2.1 v h0 p1.1) (fun c hc=>⟨_,_,(K1 c hc).2.1,zM g R N (K1 c hc).1.2.1 (K1 c hc).1.2.2 (K1 c hc).1.1,fun u hu=>?_⟩) (by rw [negs];omega);rw [ia.2.2 c hc u (ben c hc u hu) hu,if_pos (by intro z;cases z)]
   . rw [if_neg z,if_neg z];exact A _ (by omega) fun q=>by omega
theorem zO (g:Good m rs) (R:Rooted m rs r par dep) {xs ys:List Int} {con:Int->Int->Int} {v:Int} (h0:0<=v) (h1:v<m):gat m rs r par dep (fun v=>(bw m xs ys).getD v.toNat 0) con v=gat m rs r par dep (fun u=>xs.getD u.toNat 0 - ys.getD u.toNat 0) con v :=
 CW g R _ v h0 h1 rfl fun u hu=>by
   have ur:=((za g R h0 h1 u).mp hu).1;have:=t7 (m:=m) (zs:=xs) (ys:=ys) u.toNat;rw [if_pos (by omega)] at this;exact this
theorem MV (g:Good m rs) (R:Rooted m rs r par dep) (r0:0<=r) (r1:r<m) {ys:List Int} (y0:∀ y∈ys,0<=y) (yr:0<ys.getD r.toNat 0) {X:List Int} (eX:X=gld m rs r par dep (mD m rs r par dep ys) r (-1)):(X.length:Int)=m/\(∀ x∈X,0<=x)/\stg m rs r par dep ys X r=-1:=by
 have L:=(EN g R (MH g R y0) _ r r0 r1 rfl).2 (-1) (by omega) fun _=>yr;rw [<- eX] at L;have l:=L.len;refine ⟨by omega,fun x hx=>?_,?_⟩
 . obtain ⟨i,hi,rfl⟩:=List.mem_iff_getElem.mp hx;have:=L.nn i
   rwa [List.getD_eq_getElem?_getD,List.getElem?_eq_getElem hi] at this
 . show gat m rs r par dep (fun v=>(bw m X ys).getD v.toNat 0) (hnd rs par) r=-1;rw [zO g R r0 r1];exact L.st
end
end Pb
set_option Elab.async false
set_option linter.all false
set_option maxRecDepth 100000
namespace L2
open PySem PySem.Spec PyProof.Rows
section
variable {X:Cx}
def Q2 (t:TE):TE:=fun σ H Q=>t σ H fun x H1=>∃ b,x=.bl b/\Q (.bl (b != false)) H1
end
end L2
namespace L2
open PySem Pb
end L2
set_option Elab.async false
set_option linter.all false
set_option maxRecDepth 100000
namespace Pb
open PySem L2
section
variable {m:Int} {rs:List Road} {r:Int} {par:Int->Int} {dep:Int->Nat} {nd w:Int->Int}
end
end Pb
set_option Elab.async false
set_option linter.all false
set_option maxRecDepth 100000
namespace Pb
open PySem L2
section
variable {m:Int} {rs:List Road} {r:Int} {par:Int->Int} {dep:Int->Nat} {near t u:Int}
theorem O6 (g:Good m rs) (m23:m<24) (n0:0<=near) (n1:near<m) (t0:2<=t) (t1:t<=1000000) (u0:2<=u) (u1:u<=1000000):Good (m+1) (rs++[⟨near,m,t,u⟩]) where
 m1:=by have:=g.m1;omega
 m24:=by omega
 len:=by rw [List.length_append];have:=g.len;simp;omega
 ok:=fun x hx=>by
   rcases List.mem_append.mp hx with h|h
   . have o:=g.ok x h;exact ⟨o.a0,by have:=o.a1;omega,o.b0,by have:=o.b1;omega,o.ne,o.t0,o.t1,o.u0,o.u1⟩
   . rw [List.mem_singleton.mp h];exact ⟨n0,by show near<m+1;omega,by show 0<=m;omega,by show m<m+1;omega,by show near≠m;omega,t0,t1,u0,u1⟩
 jn:=fun S s0 hS v v0 v1=>by
   have old:=g.jn S s0 fun x hx=>hS x (List.mem_append.mpr (.inl hx));by_cases e:v=m
   . rw [e];exact (hS ⟨near,m,t,u⟩ (List.mem_append.mpr (.inr (List.mem_singleton.mpr rfl)))).mp (old near n0 n1)
   . exact old v v0 (by omega)
def fg (m near:Int) (par:Int->Int) (v:Int):Int:=if v=m then near else par v
def jq (m near:Int) (dep:Int->Nat) (v:Int):Nat:=if v=m then dep near+1 else dep v
theorem iR {v:Int} (h:v≠m):fg m near par v=par v:=if_neg h
theorem ud:fg m near par m=near:=if_pos rfl
theorem j7 (g:Good m rs) (R:Rooted m rs r par dep) (r0:0<=r) (r1:r<m) (n0:0<=near) (n1:near<m):Rooted (m+1) (rs++[⟨near,m,t,u⟩]) r (fg m near par) (jq m near dep) where
 root:=by unfold jq;rw [if_neg (by omega)];exact R.root
 up:=fun v v0 v1 vr=>by
   by_cases e:v=m
   . subst e;rw [ud];refine ⟨⟨n0,by omega⟩,⟨⟨near,v,t,u⟩,List.mem_append.mpr (.inr (List.mem_singleton.mpr rfl)),.inr ⟨rfl,rfl⟩⟩,?_⟩;unfold jq;rw [if_pos rfl,if_neg (by omega)]
   . obtain ⟨a,⟨x,hx,hj⟩,c⟩:=R.up v v0 (by omega) vr;rw [iR e];refine ⟨⟨a.1,by omega⟩,⟨x,List.mem_append.mpr (.inl hx),hj⟩,?_⟩;unfold jq;rw [if_neg e,if_neg (by omega)];exact c
 road:=fun x hx=>by
   rcases List.mem_append.mp hx with h|h
   . have o:=g.ok x h;rw [iR (by have:=o.a1;omega),iR (by have:=o.b1;omega)];exact R.road x h
   . rw [List.mem_singleton.mp h];exact .inr ⟨by show m≠r;omega,ud⟩
 one:=by
   rw [List.map_append,List.map_congr_left (g:=fun x:Road=>if x.a≠r/\par x.a=x.b then x.a else x.b) fun x hx=>by rw [iR (by have:=(g.ok x hx).a1;omega)]];refine List.nodup_append.mpr ⟨R.one,by simp,fun a ha b hb z=>?_⟩;obtain ⟨x,hx,rfl⟩:=List.mem_map.mp ha;have o:=g.ok x hx;have hb':b=m:=by
     rw [List.map_cons,List.map_nil] at hb;rw [List.mem_singleton.mp hb];show (if near≠r/\fg m near par near=m then near else m)=m;rw [if_neg];rintro ⟨z1,z2⟩;rw [iR (by omega)] at z2;have:=(R.up near n0 n1 z1).1;omega
   have o1:=o.a1;have o2:=o.b1;rw [hb'] at z;by_cases q:x.a≠r/\par x.a=x.b
   . rw [if_pos q] at z;omega
   . rw [if_neg q] at z;omega
theorem Ay (g:Good m rs) {a b:Int} (h:a<m) (h':b<m):aH (rs++[⟨near,m,t,u⟩]) a b=aH rs a b:=by
 unfold aH;rw [List.findSome?_append];have:List.findSome? (dR a b) [⟨near,m,t,u⟩]=none:=by
   have e:dR a b ⟨near,m,t,u⟩=none:=by
     unfold dR;rw [if_neg (fun z=>by have:=z.2;simp only at this;omega),if_neg (fun z=>by have:=z.2;simp only at this;omega)]
   rw [List.findSome?_cons,e]
   rfl
 rw [this,Option.or_none]
theorem LO (g:Good m rs) (n1:near<m):aH (rs++[⟨near,m,t,u⟩]) near m=some t:=by
 have o:aH rs near m=none:=Mt fun z=>by have:=(g.adj z).2.1;omega
 unfold aH at o ⊢;rw [List.findSome?_append,o,Option.none_or,List.findSome?_cons];have e:dR near m ⟨near,m,t,u⟩=some t:=by unfold dR;rw [if_pos ⟨rfl,rfl⟩]
 rw [e]
theorem PL (g:Good m rs) (R:Rooted m rs r par dep) (r0:0<=r) (r1:r<m) (n0:0<=near) (n1:near<m) (g':Good (m+1) (rs++[⟨near,m,t,u⟩])) {v:Int} (v0:0<=v) (v1:v<m) (f:Int->Int):((kd (m+1) (rs++[⟨near,m,t,u⟩]) r (fg m near par) v).map f).sum=((kd m rs r par v).map f).sum+if v=near then f m else 0:=by
 have R':=j7 (t:=t) (u:=u) g R r0 r1 n0 n1;have mk:=fun c=>aQ (p:=v) (v:=c) g R v0 v1;have mk':=fun c=>aQ (p:=v) (v:=c) g' R' v0 (by omega);by_cases e:v=near
 . rw [if_pos e];have:(kd (m+1) (rs++[⟨near,m,t,u⟩]) r (fg m near par) v).Perm (m::kd m rs r par v):=by
     refine eV dF (List.nodup_cons.mpr ⟨fun z=>by have:=((mk m).mp z).1;omega,dF⟩) fun c=>?_;rw [mk' c,List.mem_cons];show _↔c=m\/c∈aJ m rs (front r par v) v;rw [mk c]
     constructor
     . rintro ⟨a,b,h⟩;by_cases z:c=m
       . exact .inl z
       . rw [iR z] at h;exact .inr ⟨⟨a.1,by omega⟩,b,h⟩
     . rintro (z|⟨a,b,h⟩)
       . rw [z,ud];exact ⟨⟨by omega,by omega⟩,by omega,e.symm⟩
       . rw [iR (by omega)];exact ⟨⟨a.1,by omega⟩,b,h⟩
   rw [vR (this.map f),List.map_cons,List.sum_cons];omega
 . rw [if_neg e,Int.add_zero];refine vR ((eV dF dF fun c=>?_).map f);rw [mk' c,mk c]
   constructor
   . rintro ⟨a,b,h⟩;by_cases z:c=m
     . rw [z,ud] at h;exact absurd h.symm e
     . rw [iR z] at h;exact ⟨⟨a.1,by omega⟩,b,h⟩
   . rintro ⟨a,b,h⟩;rw [iR (by omega)];exact ⟨⟨a.1,by omega⟩,b,h⟩
theorem Qx (g:Good m rs) (R:Rooted m rs r par dep) (r0:0<=r) (r1:r<m) (n0:0<=near) (n1:near<m) (g':Good (m+1) (rs++[⟨near,m,t,u⟩])) (held:Int->Int) (con:Int->Int->Int):gat (m+1) (rs++[⟨near,m,t,u⟩]) r (fg m near par) (jq m near dep) held con m=held m:=by
 have R':=j7 (t:=t) (u:=u) g R r0 r1 n0 n1;rw [aX g' R' (by omega) (by omega)];have:aJ (m+1) (rs++[⟨near,m,t,u⟩]) (front r (fg m near par) m) m=[]:=List.eq_nil_iff_forall_not_mem.mpr fun c hc=>by
   obtain ⟨a,b,h⟩:=(aQ g' R' (by omega) (by omega)).mp hc;by_cases z:c=m
   . rw [z,ud] at h;omega
   . rw [iR z] at h;have:=(R.up c a.1 (by omega) b).1;omega
 rw [this];simp
theorem CF (g:Good m rs) (R:Rooted m rs r par dep) (r0:0<=r) (r1:r<m) (n0:0<=near) (n1:near<m) (g':Good (m+1) (rs++[⟨near,m,t,u⟩])) {held held':Int->Int} {con con':Int->Int->Int} (hc:∀ c z,0<=c->c<m->c≠r->con' c z=con c z) (hh:∀ v,0<=v->v<m->held' v+(if v=near then con' m (held' m) else 0)=held v) :
   ∀ (n:Nat) (v:Int),0<=v->v<m->m.toNat - dep v=n->gat (m+1) (rs++[⟨near,m,t,u⟩]) r (fg m near par) (jq m near dep) held' con' v=gat m rs r par dep held con v
 | 0,v,h0,h1,e=>by have:=dy R h0 h1;omega
 | n+1,v,h0,h1,e=>by
   have R':=j7 (t:=t) (u:=u) g R r0 r1 n0 n1;rw [aX g' R' h0 (by omega),aX g R h0 h1];have k:=PL g R r0 r1 n0 n1 g' h0 h1 (fun c=>con' c (gat (m+1) (rs++[⟨near,m,t,u⟩]) r (fg m near par) (jq m near dep) held' con' c));have k2:=hh v h0 h1;simp only [Qx g R r0 r1 n0 n1 g'] at k;show held' v+((kd (m+1) (rs++[⟨near,m,t,u⟩]) r (fg m near par) v).map _).sum=held v+((kd m rs r par v).map _).sum;rw [k,List.map_congr_left (g:=fun c=>con c (gat m rs r par dep held con c)) fun c hcm=>?_]
   . omega
   . obtain ⟨q,q2,_⟩:=cR g R h0 h1 hcm;rw [CF g R r0 r1 n0 n1 g' hc hh n c q.1.1 q.1.2 (by omega),hc c _ q.1.1 q.1.2 q.2.1]
theorem Sc (g:Good m rs) (R:Rooted m rs r par dep) (c z:Int) (c0:0<=c) (c1:c<m) (cr:c≠r):hnd (rs++[⟨near,m,t,u⟩]) (fg m near par) c z=hnd rs par c z:=by
 have p:=(R.up c c0 c1 cr).1;unfold hnd;rw [iR (by omega),Ay g c1 p.2,Ay g p.2 c1]
theorem Sn (g:Good m rs) (R:Rooted m rs r par dep) (c z:Int) (c0:0<=c) (c1:c<m) (cr:c≠r):ned (rs++[⟨near,m,t,u⟩]) (fg m near par) c z=ned rs par c z:=by
 have p:=(R.up c c0 c1 cr).1;unfold ned;rw [iR (by omega),Ay g p.2 c1]
theorem gm {xs:List Int} {d:Int} (xl:(xs.length:Int)=m) (v:Int) (v0:0<=v):(v<m->(xs++[d]).getD v.toNat 0=xs.getD v.toNat 0)/\(v=m->(xs++[d]).getD v.toNat 0=d):=by
 refine ⟨fun h=>?_,fun h=>?_⟩
 . rw [List.getD_eq_getElem?_getD,List.getElem?_append_left (by omega),<- List.getD_eq_getElem?_getD]
 . rw [List.getD_eq_getElem?_getD,List.getElem?_append_right (by omega),show v.toNat - xs.length=0 by omega]
   rfl
theorem zf (g:Good m rs) (R:Rooted m rs r par dep) (r0:0<=r) (r1:r<m) (n0:0<=near) (n1:near<m) (g':Good (m+1) (rs++[⟨near,m,t,u⟩])) {xs ys fs:List Int} (xl:(xs.length:Int)=m) (yl:(ys.length:Int)=m) {wd:Int} (w0:0<=wd) (hf:∀ v,0<=v->v<m->fs.getD v.toNat 0=ys.getD v.toNat 0+if v=near then t*wd else 0) :
   stg (m+1) (rs++[⟨near,m,t,u⟩]) r (fg m near par) (jq m near dep) (ys++[wd]) (xs++[0]) r=stg m rs r par dep fs xs r:=by
 have R':=j7 (t:=t) (u:=u) g R r0 r1 n0 n1;show gat _ _ _ _ _ _ _ _=gat _ _ _ _ _ _ _ _;rw [zO g' R' r0 (by omega),zO g R r0 r1];refine CF g R r0 r1 n0 n1 g' (fun c z=>Sc g R c z) (fun v v0 v1=>?_) _ r r0 r1 rfl;have a:=gm (d:=(0:Int)) xl v v0;have b:=gm (d:=wd) yl v v0;have am:=(gm (d:=(0:Int)) xl m (by omega)).2 rfl;have bm:=(gm (d:=wd) yl m (by omega)).2 rfl;have f:=hf v v0 v1;simp only [a.1 v1,b.1 v1,am,bm];rw [f];by_cases e:v=near
 . rw [if_pos e,if_pos e];unfold hnd;rw [ud,LO g n1];by_cases z:wd=0
   . rw [z,if_pos (by decide)];simp
   . rw [if_neg (by omega)];show xs.getD v.toNat 0 - ys.getD v.toNat 0+(0 - wd)*t=_;rw [Int.zero_sub,Int.neg_mul,Int.mul_comm t];omega
 . rw [if_neg e,if_neg e];omega
theorem Fc (g:Good m rs) (R:Rooted m rs r par dep) (r0:0<=r) (r1:r<m) (held:Int->Int):gat m rs r par dep held (ned rs par) r=((below m.toNat).map fun v=>prc rs par dep false v*held v).sum:=by
 rw [<- IR g R r0 r1];have key:∀ (n:Nat) (v:Int),0<=v->v<m->m.toNat - dep v=n->gat m rs r par dep (fun v=>prc rs par dep false v*held v) (fun _ z=>z) v=prc rs par dep false v*gat m rs r par dep held (ned rs par) v:=by
   intro n
   induction n with
   | zero=>intro v h0 h1 e;have:=dy R h0 h1;omega
   | succ n ih =>
     intro v h0 h1 e;rw [aX g R h0 h1,aX g R h0 h1,Int.mul_add];have ms:∀ (p:Int) (f:Int->Int) (l:List Int),p*(l.map f).sum=(l.map fun c=>p*f c).sum:=fun p f l=>by
       induction l with
       | nil=>simp
       | cons a l ih=>rw [List.map_cons,List.map_cons,List.sum_cons,List.sum_cons,Int.mul_add,ih]
     rw [ms,List.map_congr_left fun c hc=>?_];obtain ⟨q,q2,_⟩:=cR g R h0 h1 hc;rw [ih c q.1.1 q.1.2 (by omega),A3 R q.1.1 q.1.2 q.2.1,q.2.2];unfold ned tlf;rw [if_neg (by decide),q.2.2];unfold b6;have hx:∀ a b c:Int,a*b*c=b*(c*a):=fun a b c=>by grind
     obtain ⟨k,hk,_⟩:=tM g R q.1.1 q.1.2 q.2.1;rw [q.2.2] at hk;rw [hk];exact hx _ _ _
 rw [key _ r r0 r1 rfl,AG R,Int.one_mul]
theorem M7 (g:Good m rs) (R:Rooted m rs r par dep) (r0:0<=r) (r1:r<m) (n0:0<=near) (n1:near<m) (g':Good (m+1) (rs++[⟨near,m,t,u⟩])) {ys:List Int} (yl:(ys.length:Int)=m) (wd:Int):mD (m+1) (rs++[⟨near,m,t,u⟩]) r (fg m near par) (jq m near dep) (ys++[wd]) r=mD m rs r par dep ys r+prc (rs++[⟨near,m,t,u⟩]) (fg m near par) (jq m near dep) false m*wd:=by
 have R':=j7 (t:=t) (u:=u) g R r0 r1 n0 n1;have e0:mD (m+1) (rs++[⟨near,m,t,u⟩]) r (fg m near par) (jq m near dep) (ys++[0]) r=mD m rs r par dep ys r:=by
   refine CF g R r0 r1 n0 n1 g' (fun c z=>Sn g R c z) (fun v v0 v1=>?_) _ r r0 r1 rfl;have b:=gm (d:=(0:Int)) yl v v0;have bm:=(gm (d:=(0:Int)) yl m (by omega)).2 rfl;simp only [b.1 v1,bm,M9];split <;> omega
 rw [<- e0];show gat _ _ _ _ _ _ _ _=gat _ _ _ _ _ _ _ _+_;rw [Fc g' R' r0 (by omega),Fc g' R' r0 (by omega),show (m+1).toNat=m.toNat+1 by omega,vo,List.map_append,List.map_append,List.sum_append,List.sum_append];have mm:((m.toNat:Nat):Int)=m:=by omega
 rw [List.map_congr_left (l:=below m.toNat) (g:=fun v=>prc (rs++[⟨near,m,t,u⟩]) (fg m near par) (jq m near dep) false v*(ys++[0]).getD v.toNat 0) fun v hv=>?_]
 . simp only [List.map_cons,List.map_nil,List.sum_cons,List.sum_nil,mm];rw [(gm (d:=wd) yl m (by omega)).2 rfl,(gm (d:=(0:Int)) yl m (by omega)).2 rfl];simp
 . have h:=dh.mp hv;have h1:v<m:=by omega
   rw [(gm (d:=wd) yl v h.1).1 h1,(gm (d:=(0:Int)) yl v h.1).1 h1]
end
end Pb
set_option Elab.async false
set_option linter.all false
set_option maxRecDepth 100000
set_option maxHeartbeats 4000000
namespace Pk
open PySem L2 Pb
seal L2.PSs L2.PS L2.PE L2.PT L2.PW L2.PA L2.PG L2.PGs L2.PI L2.PTs L2.PC L2.PPs L2.PO
abbrev top (i:Nat):Stmt:=Hd.top i
local macro_rules|`(tactic| walk_at "rd") => `(tactic| ((try dsimp only [tYes, S0, Rf, Q2, Ends.less, Dw, IU, Hk, MI, Jc, Q9, SE, ME, Dk, Nj, Kg, OZ, JK, J5, Q4, JY, Od, QK, Lx, Dv, L9, NA, QY, Ka, tNext, F9, AZ, JU, JQ, gNil, Oq, Rc, Kz, Te, Rb, Q6, SF, ipI, Oi, KF, Eu, tB, BA, tC, B5, tOp, tUn, rI0, rI, rU, rEq, rNe, KI, Kp, JV, tNil, O1, Qh, tCB, tBM, PN, Nv, OC, SI, Q5, Cw, Kb, Q8, JI, L3, tf, LR, L1, Qb, tOr, Ow, KJ, SK, Rh, tIf, List.nil_append, List.append_nil, List.set_cons_zero, List.set_cons_succ, List.getElem?_cons_zero, List.getElem?_cons_succ]);(try simp only [tYes, S0, Rf, Q2, Ends.less, Dw, IU, Hk, MI, Jc, Q9, SE, ME, Dk, Nj, Kg, OZ, JK, J5, Q4, JY, Od, QK, Lx, Dv, L9, NA, QY, Ka, tNext, F9, AZ, JU, JQ, gNil, Oq, Rc, Kz, Te, Rb, Q6, SF, ipI, Oi, KF, Eu, tB, BA, tC, B5, tOp, tUn, rI0, rI, rU, rEq, rNe, Sf, Rv, RD, RQ, Sa, R4, KI, Kp, JV, tNil, O1, Qh, tCB, tBM, PN, Nv, OC, SI, Q5, Cw, Kb, Q8, JI, L3, tf, LR, L1, Qb, tOr, Ow, KJ, SK, Rh, tIf, List.nil_append, List.append_nil, List.set_cons_zero, List.set_cons_succ, List.getElem?_cons_zero, List.getElem?_cons_succ, Option.some.injEq, V.int.injEq, V.bl.injEq, V.ref.injEq, List.cons.injEq, exists_eq_left, exists_eq_left', exists_and_left, exists_const, and_true, true_and, decide_eq_true_eq, Bool.not_eq_true', decide_eq_false_iff_not, Bool.true_eq_false, Bool.false_eq_true, if_true, if_false])))
set_option genSizeOf false in
set_option genInjectivity false in
structure Txt (K:PySem.W.Frag) (mg:Str->Option Value) where
 TollError:Addr
 Ui:mg "TollError"=some (.ref TollError)
 BadWeb:Addr
 UD:mg "BadWeb"=some (.ref BadWeb)
 NoPlace:Addr
 ML:mg "NoPlace"=some (.ref NoPlace)
 NoRoad:Addr
 PZ:mg "NoRoad"=some (.ref NoRoad)
 BadLaying:Addr
 Iv:mg "BadLaying"=some (.ref BadLaying)
 BadWish:Addr
 Mf:mg "BadWish"=some (.ref BadWish)
 NoWorst:Addr
 MF:mg "NoWorst"=some (.ref NoWorst)
 Web:Addr
 Q3:mg "Web"=some (.ref Web)
 Outlook:Addr
 LB:mg "Outlook"=some (.ref Outlook)
 Ug:XTop K TollError
 UB:XErr K TollError BadWeb
 Uu:XErr K TollError NoPlace
 Lj:AF K NoPlace
 UG:XErr K TollError NoRoad
 Pe:AF K NoRoad
 Uh:XErr K TollError BadLaying
 HW:AF K BadLaying
 Uw:XErr K TollError BadWish
 Md:AF K BadWish
 Uv:XErr K TollError NoWorst
 LA:AF K NoWorst
 ndx:[TollError,BadWeb,NoPlace,NoRoad,BadLaying,BadWish,NoWorst].Nodup
 range:mg "range"=none
 zip:mg "zip"=none
 len:mg "len"=none
 all:mg "all"=none
 int:mg "int"=none
 tuple:mg "tuple"=none
 list:mg "list"=none
 reversed:mg "reversed"=none
 sorted:mg "sorted"=none
 min:mg "min"=none
 enumerate:mg "enumerate"=none
 sum:mg "sum"=none
 c_MOST_PLACES:∃ t,mg "MOST_PLACES"=some (.int 24 t)
 c_LEAST_TOLL:∃ t,mg "LEAST_TOLL"=some (.int 2 t)
 c_MOST_TOLL:∃ t,mg "MOST_TOLL"=some (.int 1000000 t)
 jL:Cls K Web
 n_many:NoAttr K Web "many"
 n_roads:NoAttr K Web "roads"
 bW:Cls K Outlook
 n_web:NoAttr K Outlook "web"
 y6:NoAttr K Outlook "needs"
 Gj:NoAttr K Outlook "kids"
 n_idle:NoAttr K Outlook "idle"
section
variable {P:Program} {w:World} {K:PySem.W.Frag} {mg:Str->Option Value} {base:Heap} {CX:CXT}
def qW (T:Txt K mg):Sp:=fun vs H Q _=>∃ (m:Int) (t:Addr) (xs:List V),vs=[.int m,.ref t]/\SqT K H t xs/\1<=m/\m<=24/\(xs.length:Int)=m - 1/\Q .non H
abbrev bu:Stmt:=top 17
theorem A8:FnScope ["many","roads"] ["many","roads"] (aa bu):=FnScope.of (by kernel_rfl)
theorem mh:NmL (aa bu) "many":=.of (by kernel_rfl)
theorem tJ:NmL (aa bu) "roads":=.of (by kernel_rfl)
theorem iq:NmG (aa bu) "MOST_PLACES":=.of (by kernel_rfl)
theorem Ia:NmG (aa bu) "BadWeb":=.of (by kernel_rfl)
theorem jo:NmG (aa bu) "len":=.of (by kernel_rfl)
theorem Bf (T:Txt K mg) (hq:aU (CXe P w)) {f:Addr} {fd:FuncData} (D:Df K mg "check_counts" bu ["many","roads"] f fd):FnOk P w K mg base (CXe P w) 1 f fd ["many","roads"] (qW T):=by
 refine D.F.okC A8 (fun vs H Q E h=>?_) (fun cdv A outer s H vs Q E hr h=>?_)
 . obtain ⟨m,t,xs,rfl,_⟩:=h
   rfl
 . obtain ⟨m,t,xs,rfl,ht,h1,h2,hl,k⟩:=h;refine ⟨_,(ao (bX (pW (EL Bn Bn ap (pvl 0 mh) (Af iq.g T.c_MOST_PLACES (hd:=iq.d)))) (aq mW) bc) (aq (bX (bf oN (fM gZ jo.g T.len pM (ag (pvl 1 tJ) ah) (hn:=jo.n) (hdb:=jo.d)) (ax pQ (pvl 0 mh) ap) (bh _)) (aq mW) bc))),?_⟩;rw [show L2.start ["many","roads"] [V.int m,V.ref t]=[some (V.int m),some (V.ref t)] from rfl];walk_at "rd";rw [if_pos h1,if_neg (by omega)];exact ⟨xs,.inr ht,by rw [if_neg (by omega)];exact k⟩
def rX (T:Txt K mg):Sp:=fun vs H Q _=>∃ m n:Int,vs=[.int m,.int n]/\Q (.bl (decide (0<=n) && decide (n<m))) H
abbrev dE:Stmt:=top 16
theorem HY:FnScope ["many","number"] ["many","number"] (aa dE):=FnScope.of (by kernel_rfl)
theorem z9:NmL (aa dE) "many":=.of (by kernel_rfl)
theorem xH:NmL (aa dE) "number":=.of (by kernel_rfl)
theorem Iz (T:Txt K mg) (hq:aU (CXe P w)) {f:Addr} {fd:FuncData} (D:Df K mg "is_place" dE ["many","number"] f fd):FnOk P w K mg base (CXe P w) 1 f fd ["many","number"] (rX T):=by
 refine D.F.okC HY (fun vs H Q E h=>?_) (fun cdv A outer s H vs Q E hr h=>?_)
 . obtain ⟨m,n,rfl,_⟩:=h
   rfl
 . obtain ⟨m,n,rfl,k⟩:=h;refine ⟨_,(aq (aK (MU Bn K3 ap (pvl 1 xH) (pvl 0 z9)))),?_⟩;rw [show L2.start ["many","number"] [V.int m,V.int n]=[some (V.int m),some (V.int n)] from rfl];walk_at "rd";by_cases c:0<=n
   . simpa [c] using k
   . simpa [c] using k
def vY (T:Txt K mg):Sp:=fun vs H Q _=>∃ (m:Int) (p:Addr) (r:Road),vs=[.int m,.ref p]/\H p=some (.tup (jC r))/\0<=r.a/\r.a<m/\0<=r.b/\r.b<m/\r.a≠r.b/\Q .non H
abbrev bZ:Stmt:=top 18
theorem Ec:FnScope ["many","road"] ["many","road"] (aa bZ):=FnScope.of (by kernel_rfl)
theorem nF:NmL (aa bZ) "many":=.of (by kernel_rfl)
theorem f6:NmL (aa bZ) "road":=.of (by kernel_rfl)
theorem eu:NmG (aa bZ) "is_place":=.of (by kernel_rfl)
theorem JG:NmG (aa bZ) "BadWeb":=.of (by kernel_rfl)
theorem En (T:Txt K mg) (hq:aU (CXe P w)) {f:Addr} {fd:FuncData} (D:Df K mg "check_ends" bZ ["many","road"] f fd) {eE:Addr} {kP:FuncData} (cw:Df K mg "is_place" dE ["many","number"] eE kP) (G_is_place:FnOk P w K mg base (CXe P w) 1 eE kP ["many","number"] (rX T)):FnOk P w K mg base (CXe P w) 2 f fd ["many","road"] (vY T):=by
 refine D.F.okC Ec (fun vs H Q E h=>?_) (fun cdv A outer s H vs Q E hr h=>?_)
 . obtain ⟨m,p,r,rfl,_⟩:=h
   rfl
 . obtain ⟨m,p,r,rfl,hp,a0,a1,b0,b1,ne,k⟩:=h;refine ⟨_,(ao (bX (PW.pt (Uo (pW (p8 (aw G_is_place (hr.mono (by decide)) eu.g cw.m cw.F.kp cw.b .nil (aI hq) (ag (pvl 0 nF) (ag (bx iU (pvl 1 f6) ap (fun _ _=>rfl)) ah)) (hdb:=eu.d)))) (Th (pW (p8 (aw G_is_place (hr.mono (by decide)) eu.g cw.m cw.F.kp cw.b .nil (aI hq) (ag (pvl 0 nF) (ag (bx iU (pvl 1 f6) ap (fun _ _=>rfl)) ah)) (hdb:=eu.d))))))) (aq mW) bc) (aq (bX (bf gH (bx iU (pvl 1 f6) ap (fun _ _=>rfl)) (bx iU (pvl 1 f6) ap (fun _ _=>rfl)) (bh _)) (aq mW) bc))),?_⟩;rw [show L2.start ["many","road"] [V.int m,V.ref p]=[some (V.int m),some (V.ref p)] from rfl];walk_at "rd";refine ixT hp rfl ⟨m,r.a,rfl,_,rfl,?_⟩;rw [if_neg (by simp [a0,a1])];refine ixT hp rfl ⟨m,r.b,rfl,_,rfl,?_⟩;rw [if_neg (by simp [b0,b1])];refine ixT hp rfl (ixT hp rfl ⟨rfl,?_⟩);rw [if_neg (by simpa using ne)];exact k
def om (T:Txt K mg):Sp:=fun vs H Q _=>∃ (t:Addr) (ps:List Addr) (rs:List Road) (n:Int),vs=[.ref t,.int n]/\SqT K H t (ps.map V.ref)/\RoadsAt H ps rs/\rs.length<=1000 /\
 ∀ l H',H l=none->Same H H'->H' l=some (.lst ((ci rs n).map V.int))->Q (.ref l) H'
abbrev bQ:Stmt:=top 21
theorem oA:FnScope ["roads","place","ends","road"] ["roads","place"] (aa bQ):=FnScope.of (by kernel_rfl)
theorem wI:NmL (aa bQ) "roads":=.of (by kernel_rfl)
theorem mH:NmL (aa bQ) "place":=.of (by kernel_rfl)
theorem f9:NmL (aa bQ) "ends":=.of (by kernel_rfl)
theorem eJ:NmL (aa bQ) "road":=.of (by kernel_rfl)
theorem Ea (T:Txt K mg) (hq:aU (CXe P w)) {f:Addr} {fd:FuncData} (D:Df K mg "other_ends" bQ ["roads","place"] f fd):FnOk P w K mg base (CXe P w) 1 f fd ["roads","place"] (om T):=by
 refine D.F.okC oA (fun vs H Q E h=>?_) (fun cdv A outer s H vs Q E hr h=>?_)
 . obtain ⟨t,ps,rs,n,rfl,_⟩:=h
   rfl
 . obtain ⟨t,ps,rs,n,rfl,ht,hp,hl,k⟩:=h;refine ⟨_,(ao (aA (i:=2) oA.nd rfl (Or.inl f9.l) (b5 ah)) (ao (eF PassesOwn.never rfl (wP (pvl 0 wI)) (aR (i:=3) oA.nd rfl (Or.inl eJ.l)) (ao (bX (bf gH (bx iU (pvl 3 eJ) ap (fun _ _=>rfl)) (pvl 1 mH) (bh _)) (aq (cY (oS PySem.F.plainAttrs_list PySem.F.slot_list_append PySem.F.type_list_append ft (pvl 2 f9) (ag (bx iU (pvl 3 eJ) ap (fun _ _=>rfl)) ah)))) bc) (aq (bX (bf gH (bx iU (pvl 3 eJ) ap (fun _ _=>rfl)) (pvl 1 mH) (bh _)) (aq (cY (oS PySem.F.plainAttrs_list PySem.F.slot_list_append PySem.F.type_list_append ft (pvl 2 f9) (ag (bx iU (pvl 3 eJ) ap (fun _ _=>rfl)) ah)))) bc)))) (aq (aK (pvl 2 f9))))),?_⟩;rw [show L2.start ["roads","place","ends","road"] [V.ref t,V.int n]=[some (V.ref t),some (V.int n),none,none] from rfl];walk_at "rd";refine ⟨by decide,fun l hn=>?_⟩;have hlen:ps.length=rs.length:=Paired.length hp;refine ⟨⟨_,Same.tup (Same.new _ hn) ht⟩,CH (xs:=ps.map V.ref) (fun i σ H2=>H2=upd H l (.lst ((ci (rs.take i) n).map V.int))/\∃ v,σ=[some (.ref t),some (.int n),some (.ref l),v]) ⟨rfl,_,rfl⟩ (fun i σ H2 _ z=>by rw [z.1];exact Same.tup (Same.new _ hn) ht) ?_ ?_⟩
   . rintro i x σ H2 hi ⟨rfl,v,rfl⟩;obtain ⟨p,r,rfl,h1,h2,h3⟩:=hp.get hi;have np:p≠l:=bA h3 hn;have hil:i<rs.length:=(List.getElem?_eq_some_iff.mp h2).1;have et:rs.take (i+1)=rs.take i++[r]:=(by rw [List.take_succ,h2];rfl);have hb:(ci (rs.take i) n).length<=2000:=Nat.le_trans (G2 _ _) (by rw [List.length_take];omega);have hx:∀ o,upd H l o p=some (.tup (jC r)):=fun o=>by rw [au np];exact h3
     walk_at "rd";refine ixT (hx _) rfl ?_;walk_at "rd";have fin:∀ (ys:List Int),(ci (rs.take i) n++ys)=ci (rs.take (i+1)) n->upd H l (.lst ((ci (rs.take i) n).map V.int++ys.map V.int))=upd H l (.lst ((ci (rs.take (i+1)) n).map V.int)):=fun ys e=>by
       rw [<- List.map_append,e]
     have e1:qX n r=(if r.a=n then [r.b] else [])++(if r.b=n then [r.a] else []):=rfl;by_cases ca:r.a=n
     . rw [if_pos ca];refine ⟨tyL aj,ixT (hx _) rfl (vU aj (eP (by rw [List.length_map];omega)) ?_)⟩;rw [o0];refine ixT (hx _) rfl ?_;walk_at "rd";by_cases cb:r.b=n
       . rw [if_pos cb];refine ⟨tyL aj,ixT (hx _) rfl (vU aj (eP (by rw [List.length_append,List.length_map];simp;omega)) ?_)⟩;rw [o0,List.append_assoc];exact ⟨fin [r.b,r.a] (by rw [et,rh,e1,if_pos ca,if_pos cb];rfl),_,rfl⟩
       . rw [if_neg cb];exact ⟨fin [r.b] (by rw [et,rh,e1,if_pos ca,if_neg cb];rfl),_,rfl⟩
     . rw [if_neg ca];refine ixT (hx _) rfl ?_;walk_at "rd";by_cases cb:r.b=n
       . rw [if_pos cb];refine ⟨tyL aj,ixT (hx _) rfl (vU aj (eP (by rw [List.length_map];omega)) ?_)⟩;rw [o0];exact ⟨fin [r.a] (by rw [et,rh,e1,if_neg ca,if_pos cb];rfl),_,rfl⟩
       . rw [if_neg cb];have:=fin [] (by rw [et,rh,e1,if_neg ca,if_neg cb];rfl);rw [List.map_nil,List.append_nil] at this;exact ⟨this,_,rfl⟩
   . rintro σ H2 ⟨rfl,v,rfl⟩;rw [List.length_map,hlen,List.take_length];exact ⟨_,rfl,k l _ hn (Same.new _ hn) aj⟩
def j8 (ks:List Int):List (Key × V):=ks.map fun k=>((Sum.inl k:Key),V.bl true)
theorem DH (ks:List Int):(j8 ks).length=ks.length:=by unfold j8;rw [List.length_map]
theorem Ho (ks:List Int) (e:Int):mX (j8 ks) (Sum.inl e:Key)=if e∈ks then some (V.bl true) else none:=by
 unfold j8
 induction ks with
 | nil=>rfl
 | cons k ks ih =>
   rw [List.map_cons];by_cases c:k=e
   . rw [uY (by rw [c]),if_pos (by rw [c];exact List.mem_cons_self)]
   . rw [vb (fun z=>c (Sum.inl.inj z)),ih];by_cases d:e∈ks
     . rw [if_pos d,if_pos (List.mem_cons_of_mem _ d)]
     . rw [if_neg d,if_neg (fun z=>by rcases List.mem_cons.mp z with z|z;exact c z.symm;exact d z)]
theorem Oa {ks:List Int} {e:Int} (h:e ∉ ks):jr (j8 ks) (Sum.inl e:Key) (V.bl true)=j8 (ks++[e]):=by
 rw [QP _ (by rw [Ho,if_neg h])];unfold j8;rw [List.map_append]
 rfl
def rz (T:Txt K mg):Sp:=fun vs H Q _=>∃ (m:Int) (t:Addr) (ps:List Addr) (rs:List Road),vs=[.int m,.ref t]/\SqT K H t (ps.map V.ref)/\RoadsAt H ps rs/\Good m rs/\∀ H',Same H H'->Q .non H'
abbrev aP:Stmt:=top 20
theorem f8:FnScope ["many","roads","reached","waiting","place","end"] ["many","roads"] (aa aP):=FnScope.of (by kernel_rfl)
theorem uo:NmL (aa aP) "many":=.of (by kernel_rfl)
theorem uc:NmL (aa aP) "roads":=.of (by kernel_rfl)
theorem dS:NmL (aa aP) "reached":=.of (by kernel_rfl)
theorem dU:NmL (aa aP) "waiting":=.of (by kernel_rfl)
theorem lK:NmL (aa aP) "place":=.of (by kernel_rfl)
theorem fX:NmL (aa aP) "end":=.of (by kernel_rfl)
theorem iW:NmG (aa aP) "other_ends":=.of (by kernel_rfl)
theorem jl:NmG (aa aP) "len":=.of (by kernel_rfl)
theorem HL:NmG (aa aP) "BadWeb":=.of (by kernel_rfl)
theorem Bh (T:Txt K mg) (hq:aU (CXe P w)) {f:Addr} {fd:FuncData} (D:Df K mg "check_joined" aP ["many","roads"] f fd) {c8:Addr} {iZ:FuncData} (cL:Df K mg "other_ends" bQ ["roads","place"] c8 iZ) (G_other_ends:FnOk P w K mg base (CXe P w) 1 c8 iZ ["roads","place"] (om T)):FnOk P w K mg base (CXe P w) 2 f fd ["many","roads"] (rz T):=by
 refine D.F.okC f8 (fun vs H Q E h=>?_) (fun cdv A outer s H vs Q E hr h=>?_)
 . obtain ⟨m,t,ps,rs,rfl,_⟩:=h
   rfl
 . obtain ⟨m,t,ps,rs,rfl,ht,hp,g,k⟩:=h;have hu:=Uq hr;refine ⟨_,(ao (aA (i:=2) f8.nd rfl (Or.inl dS.l) (Sh (MY ap y3 Sg) rfl rfl (List.cons_ne_nil _ _) (by decide))) (ao (aA (i:=3) f8.nd rfl (Or.inl dU.l) (b5 (ag ap ah))) (ao (vH PassesOwn.never (Aj (pvl 3 dU) (fun _=>rfl)) (ao (aA (i:=4) f8.nd rfl (Or.inl lK.l) (Hy PySem.F.plainAttrs_list PySem.F.slot_list_pop PySem.F.type_list_pop Fg (pvl 3 dU))) (aq (eF PassesOwn.never rfl (kb (aw G_other_ends (hr.mono (by decide)) iW.g cL.m cL.F.kp cL.b .nil (aI hq) (ag (pvl 1 uc) (ag (pvl 4 lK) ah)) (hdb:=iW.d))) (aR (i:=5) f8.nd rfl (Or.inl fX.l)) (aq (bX (TJ (Mm hu (pvl 5 fX) (pvl 2 dS))) (ao (Rj hu (pvl 2 dS) (pvl 5 fX) y3 rfl) (aq (cY (oS PySem.F.plainAttrs_list PySem.F.slot_list_append PySem.F.type_list_append ft (pvl 3 dU) (ag (pvl 5 fX) ah))))) bc)))))) (aq (bX (bf oN (fM LX jl.g T.len pM (ag (pvl 2 dS) ah) (hn:=jl.n) (hdb:=jl.d)) (pvl 0 uo) (bh _)) (aq mW) bc))))),?_⟩;rw [show L2.start ["many","roads","reached","waiting","place","end"] [V.int m,V.ref t]=[some (V.int m),some (V.ref t),none,none,none,none] from rfl];have m1:=g.m1;have m24:=g.m24;have glen:=g.len;walk_at "rd";intro d hd;refine ⟨aj,[(Sum.inl 0,.bl true)],rfl,by decide,?_⟩;rw [o0];refine ⟨by decide,fun w0 hw=>?_⟩;have ed:tE [] [((Sum.inl 0:Key),V.bl true)]=j8 [0]:=rfl;rw [ed];have ndw:w0≠d:=fun z=>by rw [z,aj] at hw;cases hw
   have hw0:H w0=none:=by rw [au ndw] at hw;exact hw
   refine Co (fun n σ H2=>∃ (ks ws:List Int) (v4 v5:Option V),n=2*(m.toNat - ks.length)+ws.length/\σ=[some (.int m),some (.ref t),some (.ref d),some (.ref w0),v4,v5]/\Same H H2/\H2 d=some (.dK (j8 ks))/\H2 w0=some (.lst (ws.map V.int))/\JInv m rs ks ws) _ ⟨[0],[0],none,none,rfl,rfl,?_,?_,aj,JInv.start m1⟩ ?_
   . exact Same.trans (Same.new _ hd) (Same.new _ hw)
   . rw [au ndw.symm,aj]
   rintro n σ H2 NW hN hN2 ⟨ks,ws,v4,v5,rfl,rfl,sm,h1,h2,J⟩;have kl:=dv (by omega) J.nd J.rng;refine ⟨_,rfl,!(ws.map V.int).isEmpty,.inl ⟨_,SqL.of h2,rfl⟩,?_⟩;rcases List.eq_nil_or_concat ws with rfl|⟨ws',p,rfl⟩
   . -- nothing waits: all places have been reached
     have full:=J.all m1 g.jn;refine UM ?_;walk_at "rd";refine ⟨j8 ks,h1,?_⟩;rw [DH,if_neg (by omega)];exact k _ sm
   . rw [List.concat_eq_append] at J h2 hN hN2 ⊢;have e1:(!(List.map V.int (ws'++[p])).isEmpty)=true:=(by simp);rw [e1];refine UO ⟨NW,hN2,?_⟩;walk_at "rd";rw [List.map_append,List.map_cons,List.map_nil] at h2;refine ⟨tyL h2,PK h2 ?_⟩;have ndw':d≠w0:=ndw.symm;have sm2:Same H (upd H2 w0 (.lst (ws'.map V.int))):=fun b o e=>by rw [au (bA e hw0)];exact sm b o e
     refine ⟨t,ps,rs,p,rfl,Same.tup sm2 ht,RoadsAt.same sm2 hp,by omega,fun l H3 hn s3 hl=>?_⟩;have nlw:w0≠l:=bA (o:=.lst (ws'.map V.int)) aj hn;have nld:d≠l:=bA (o:=.dK (j8 ks)) (by rw [au ndw'];exact h1) hn;have hl0:H l=none:=sm2.free hn;refine ⟨l,rfl,⟨_,SqL.of hl⟩,xf (K:=K) (xs:=(ci rs p).map V.int) (fun i σ H4=>∃ (v5:Option V),σ=[some (.int m),some (.ref t),some (.ref d),some (.ref w0),some (.int p),v5]/\Same H H4/\H4 l=some (.lst ((ci rs p).map V.int)) /\
       ∃ ks4 ws4:List Int,H4 d=some (.dK (j8 ks4))/\H4 w0=some (.lst (ws4.map V.int))/\JMid m rs p ((ci rs p).take i) ks4 ws4 ks ws'.length) ?_ (fun i σ H4 _ z=>by obtain ⟨_,_,_,z,_⟩:=z;exact SqL.of z) ?_ ?_⟩
     . refine ⟨_,rfl,sm2.trans s3,hl,ks,ws',?_,?_,?_⟩
       . exact s3 _ _ (by rw [au ndw'];exact h1)
       . exact s3 _ _ aj
       . rw [List.take_zero];exact JMid.start J
     . rintro i x σ H4 NI hI hi ⟨v5,rfl,s4,hl4,ks4,ws4,hd4,hw4,M⟩;rw [List.getElem?_map] at hi;obtain ⟨e,he,rfl⟩:∃ e,(ci rs p)[i]?=some e/\V.int e=x:=by
         cases q:(ci rs p)[i]? with
         | none=>rw [q] at hi;cases hi
         | some e=>rw [q] at hi;exact ⟨e,rfl,Option.some.inj hi⟩
       have er:=Pa g.ok (List.mem_of_getElem? he);have et:(ci rs p).take (i+1)=(ci rs p).take i++[e]:=(by rw [List.take_succ,he];rfl);have st:=M.step er.1 er.2;have k4:=dv (by omega) M.nd M.rng;have mu4:=M.mu;walk_at "rd";refine ⟨_,DGet.k (k:=Sum.inl e) hd4,?_⟩;rw [Ho];by_cases c:e∈ks4
       . rw [if_pos c];rw [if_neg (by simp)];refine hI _ _ ⟨_,rfl,s4,hl4,ks4,ws4,hd4,hw4,?_⟩;rw [et];unfold BR at st;rw [if_pos c] at st;exact st
       . rw [if_neg c];rw [if_pos (by simp)];refine ⟨_,DPut.k (k:=Sum.inl e) hd4 (eP (by rw [DH];omega)),?_⟩;rw [Oa c];have hw5:upd H4 d (.dK (j8 (ks4++[e]))) w0=some (.lst (ws4.map V.int)):=(by rw [au ndw];exact hw4);refine ⟨tyL hw5,vU hw5 (eP (by rw [List.length_map];have:=M.wl;omega)) ?_⟩;have hmid:=M.mu;refine hI _ _ ⟨_,rfl,fun b o z=>?_,?_,ks4++[e],ws4++[e],?_,?_,?_⟩
         . rw [au (bA z hw0),au (bA z hd)];exact s4 b o z
         . rw [au nlw.symm,au nld.symm];exact hl4
         . rw [au ndw',aj]
         . rw [aj,List.map_append];rfl
         . rw [et];unfold BR at st;rw [if_neg c] at st;exact st
     . rintro σ H4 ⟨v5,rfl,s4,hl4,ks4,ws4,hd4,hw4,M⟩;rw [List.length_map,List.take_length] at M;have k4:=dv (by omega) M.nd M.rng;have mu4:=M.mu;have up4:=M.up;refine hN _ _ _ ?_ ⟨ks4,ws4,some (.int p),v5,rfl,rfl,s4,hd4,hw4,M.done⟩;rw [List.length_append];simp only [List.length_cons,List.length_nil];omega
def sY (T:Txt K mg):Sp:=fun vs H Q _=>∃ (p:Addr) (r:Road),vs=[.ref p]/\H p=some (.tup (jC r))/\2<=r.t/\r.t<=1000000/\2<=r.u/\r.u<=1000000/\∀ H',Same H H'->Q .non H'
abbrev bH:Stmt:=top 19
theorem tz:FnScope ["road","number"] ["road"] (aa bH):=FnScope.of (by kernel_rfl)
theorem mI:NmL (aa bH) "road":=.of (by kernel_rfl)
theorem lI:NmL (aa bH) "number":=.of (by kernel_rfl)
theorem jw:NmG (aa bH) "LEAST_TOLL":=.of (by kernel_rfl)
theorem j1:NmG (aa bH) "MOST_TOLL":=.of (by kernel_rfl)
theorem Jj:NmG (aa bH) "BadWeb":=.of (by kernel_rfl)
theorem CY (T:Txt K mg) (hq:aU (CXe P w)) {f:Addr} {fd:FuncData} (D:Df K mg "check_tolls" bH ["road"] f fd):FnOk P w K mg base (CXe P w) 1 f fd ["road"] (sY T):=by
 refine D.F.okC tz (fun vs H Q E h=>?_) (fun cdv A outer s H vs Q E hr h=>?_)
 . obtain ⟨p,r,rfl,_⟩:=h
   rfl
 . obtain ⟨p,r,rfl,hp,t0,t1,u0,u1,k⟩:=h;refine ⟨_,(aq (eF PassesOwn.never rfl (wP (wQ (ag (bx iU (pvl 0 mI) ap (fun _ _=>rfl)) (ag (bx iU (pvl 0 mI) ap (fun _ _=>rfl)) ah)))) (aR (i:=1) tz.nd rfl (Or.inl lI.l)) (aq (bX (pW (EL Bn Bn (Af jw.g T.c_LEAST_TOLL (hd:=jw.d)) (pvl 1 lI) (Af j1.g T.c_MOST_TOLL (hd:=j1.d)))) (aq mW) bc)))),?_⟩;rw [show L2.start ["road","number"] [V.ref p]=[some (V.ref p),none] from rfl];walk_at "rd";refine ixT hp rfl (ixT hp rfl ⟨cq (by simp),fun q hn=>?_⟩);have e1:upd H q (.tup [.int r.t,.int r.u]) q=some (.tup [.int r.t,.int r.u]):=aj;refine ⟨⟨_,SqT.of e1⟩,CH (K:=K) (xs:=[.int r.t,.int r.u]) (fun i σ H2=>H2=upd H q (.tup [.int r.t,.int r.u])/\∃ v,σ=[some (.ref p),v]) ⟨rfl,_,rfl⟩ (fun i σ H2 _ z=>by rw [z.1];exact SqT.of e1) ?_ ?_⟩
   . rintro i x σ H2 hi ⟨rfl,v,rfl⟩;have hx:∃ n:Int,x=.int n/\2<=n/\n<=1000000:=by
       match i,hi with
       | 0,hi=>exact ⟨r.t,by simpa using hi.symm,t0,t1⟩
       | 1,hi=>exact ⟨r.u,by simpa using hi.symm,u0,u1⟩
     obtain ⟨n,rfl,n0,n1⟩:=hx;walk_at "rd";rw [if_pos n0,if_neg (by omega)];exact ⟨_,rfl⟩
   . rintro σ H2 ⟨rfl,v,rfl⟩;exact k _ (Same.new _ hn)
/-- the attributes of a web -/
def AX (m:Int) (t:Addr):List (Str × V):=aV "roads" (.ref t) (aV "many" (.int m) [])
theorem Us:¬ (("many":Str)="roads"):=by decide +kernel
theorem kc (m:Int) (t:Addr):(AX m t).lookup ("many":Str)=some (.int m):=by
 unfold AX;rw [bM,if_neg Us,bM,if_pos rfl]
theorem zw (m:Int) (t:Addr):(AX m t).lookup ("roads":Str)=some (.ref t):=by
 unfold AX;rw [bM,if_pos rfl]
/-- a web of m places and the roads rs stands at p,its tuple at t,the roads' tuples at ps -/
structure WebAt (C:Addr) (H:Hp) (p:Addr) (m:Int) (t:Addr) (ps:List Addr) (rs:List Road):Prop where
 ob:∃ dx,H p=some (.ins C dx (AX m t))
 tu:H t=some (.tup (ps.map V.ref))
 ro:RoadsAt H ps rs
 go:Good m rs
theorem WebAt.same {C:Addr} {H H':Hp} {p:Addr} {m:Int} {t:Addr} {ps:List Addr} {rs:List Road} (e:Same H H') (h:WebAt C H p m t ps rs):WebAt C H' p m t ps rs :=
 ⟨let ⟨dx,q⟩:=h.ob;⟨dx,e _ _ q⟩,e _ _ h.tu,RoadsAt.same e h.ro,h.go⟩
def mq (T:Txt K mg):Sp:=fun vs H Q _=>∃ (p dx:Addr) (m:Int) (c:Bool) (a:Addr) (ps:List Addr) (rs:List Road),vs=[.ref p,.int m,.ref a]/\H p=some (.ins T.Web dx [])/\SqX K c H a (ps.map V.ref)/\RoadsAt H ps rs/\Good m rs /\
 ∀ t H',H t=none->WebAt T.Web H' p m t ps rs->(∀ b o,H b=some o->b≠p->H' b=some o)->Q .non H'
abbrev aO:Stmt:=Jp (top 12) 0
theorem lW:FnScope ["self","many","roads","kept","road"] ["self","many","roads"] (aa aO):=FnScope.of (by kernel_rfl)
theorem mf:NmL (aa aO) "self":=.of (by kernel_rfl)
theorem fk:NmL (aa aO) "many":=.of (by kernel_rfl)
theorem tZ:NmL (aa aO) "roads":=.of (by kernel_rfl)
theorem dI:NmL (aa aO) "kept":=.of (by kernel_rfl)
theorem iC:NmL (aa aO) "road":=.of (by kernel_rfl)
theorem gX:NmG (aa aO) "tuple":=.of (by kernel_rfl)
theorem gW:NmG (aa aO) "check_counts":=.of (by kernel_rfl)
theorem iP:NmG (aa aO) "check_ends":=.of (by kernel_rfl)
theorem ij:NmG (aa aO) "check_tolls":=.of (by kernel_rfl)
theorem gU:NmG (aa aO) "check_joined":=.of (by kernel_rfl)
theorem Ba (T:Txt K mg) (hq:aU (CXe P w)) {f:Addr} {fd:FuncData} (F:Fun K "__init__" "Web.__init__" aO f fd) {dZ:Addr} {qV:FuncData} (fB:Df K mg "check_counts" bu ["many","roads"] dZ qV) (G_check_counts:FnOk P w K mg base (CXe P w) 1 dZ qV ["many","roads"] (qW T)) {fN:Addr} {vW:FuncData} (gP:Df K mg "check_ends" bZ ["many","road"] fN vW) (G_check_ends:FnOk P w K mg base (CXe P w) 2 fN vW ["many","road"] (vY T)) {d3:Addr} {rn:FuncData} (fD:Df K mg "check_joined" aP ["many","roads"] d3 rn) (G_check_joined:FnOk P w K mg base (CXe P w) 2 d3 rn ["many","roads"] (rz T)) {eW:Addr} {tL:FuncData} (fZ:Df K mg "check_tolls" bH ["road"] eW tL) (G_check_tolls:FnOk P w K mg base (CXe P w) 1 eW tL ["road"] (sY T)):FnOk P w K mg base (CXe P w) 3 f fd ["self","many","roads"] (mq T):=by
 refine F.okC lW (fun vs H Q E h=>?_) (fun cdv A outer s H vs Q E hr h=>?_)
 . obtain ⟨p,dx,m,c,a,ps,rs,rfl,_⟩:=h
   rfl
 . obtain ⟨p,dx,m,c,a,ps,rs,rfl,hp,ha,hro,g,k⟩:=h;refine ⟨_,(ao (aA (i:=3) lW.nd rfl (Or.inl dI.l) (gj ja gX.g T.tuple pZ (ag (oZ rfl (AL (Nc:=["road"]) 1 (by decide +kernel) (by decide +kernel) rfl (by decide +kernel) rfl) (Lg c (pvl 2 tZ)) (fun _ _ _ _=>(aR (i:=0) (show (["road"]:List Str).Nodup from by decide +kernel) rfl (Or.inl rfl))) (fun _ _ _ _=>tQ) (fun _ _ _ _=>(gj (CU K rfl) (by rfl) T.tuple pZ (ag (pv 0) ah)))) ah) (hn:=gX.n) (hdb:=gX.d))) (ao (cY (aw G_check_counts (hr.mono (by decide)) gW.g fB.m fB.F.kp fB.b .nil (aI hq) (ag (pvl 1 fk) (ag (pvl 3 dI) ah)) (hdb:=gW.d))) (ao (eF PassesOwn.never rfl (wP (pvl 3 dI)) (aR (i:=4) lW.nd rfl (Or.inl iC.l)) (ao (cY (aw G_check_ends (hr.mono (by decide)) iP.g gP.m gP.F.kp gP.b .nil (aI hq) (ag (pvl 1 fk) (ag (pvl 4 iC) ah)) (hdb:=iP.d))) (aq (cY (aw G_check_tolls (hr.mono (by decide)) ij.g fZ.m fZ.F.kp fZ.b .nil (aI hq) (ag (pvl 4 iC) ah) (hdb:=ij.d)))))) (ao (cY (aw G_check_joined (hr.mono (by decide)) gU.g fD.m fD.F.kp fD.b .nil (aI hq) (ag (pvl 1 fk) (ag (pvl 3 dI) ah)) (hdb:=gU.d))) (ao (t6 (pvl 0 mf) (pvl 1 fk) rfl) (aq (t6 (pvl 0 mf) (pvl 3 dI) rfl))))))),?_⟩;rw [show L2.start ["self","many","roads","kept","road"] [V.ref p,V.int m,V.ref a]=[some (V.ref p),some (V.int m),some (V.ref a),none,none] from rfl];walk_at "rd";refine ⟨⟨_,ha⟩,fun l hl=>?_⟩;have hlen:ps.length=rs.length:=Paired.length hro;have glen:=g.len;have m24:=g.m24;have hl1:Same H (upd H l (.lst [])):=Same.new _ hl;refine Ax (K:=K) (xs:=ps.map V.ref) (fun i ys σ H2=>H2=upd H l (.lst ((ps.take i).map V.ref))/\ys=(ps.take i).map V.ref/\∃ v,σ=[v]) ⟨rfl,rfl,_,rfl⟩ (fun i ys σ H2 _ ⟨z,_⟩=>by rw [z];exact Same.sqX (Same.new _ hl) ha) ?_ ?_
   . rintro i x ys σ H2 N hN hi ⟨rfl,rfl,v,rfl⟩;obtain ⟨q,r,rfl,h1,h2,h3⟩:=hro.get hi;have nq:q≠l:=bA h3 hl;have hil:i<ps.length:=(List.getElem?_eq_some_iff.mp h1).1;have et:ps.take (i+1)=ps.take i++[q]:=(by rw [List.take_succ,h1];rfl);walk_at "rd";refine ⟨jC r,.inr ⟨SqT.of (by rw [au nq];exact h3),aj,eP (by rw [List.length_map,List.length_take];omega),hN _ _ _ ⟨?_,?_,_,rfl⟩⟩⟩
     . rw [o0,et,List.map_append];rfl
     . rw [et,List.map_append];rfl
   . rintro ys σ H2 ⟨rfl,rfl,v,rfl⟩;rw [List.length_map,List.take_length];refine ⟨l,rfl,ps.map V.ref,.inl ⟨SqL.of aj,fun t ht=>?_⟩⟩;have s1:Same H (upd H l (.lst (ps.map V.ref))):=Same.new _ hl;have s2:Same (upd H l (.lst (ps.map V.ref))) (upd (upd H l (.lst (ps.map V.ref))) t (.tup (ps.map V.ref))):=Same.new _ ht;have ht0:H t=none:=s1.free ht;have ht1:∀ {H':Hp},Same (upd (upd H l (.lst (ps.map V.ref))) t (.tup (ps.map V.ref))) H'->H' t=some (.tup (ps.map V.ref)):=fun e=>e _ _ aj;refine ⟨m,t,ps.map V.ref,rfl,SqT.of aj,g.m1,g.m24,by rw [List.length_map];omega,⟨_,SqT.of aj⟩,?_⟩;refine Hh (K:=K) (xs:=ps.map V.ref) (fun i σ H3=>Same (upd (upd H l (.lst (ps.map V.ref))) t (.tup (ps.map V.ref))) H3/\∃ v,σ=[some (.ref p),some (.int m),some (.ref a),some (.ref t),v]) ⟨Same.refl _,_,rfl⟩ (fun i σ H3 _ ⟨z,_⟩=>SqT.of (ht1 z)) ?_ ?_
     . rintro i x σ H3 N hN hi ⟨s3,v,rfl⟩;have s03:=s1.trans (s2.trans s3);obtain ⟨q,r,rfl,h1,h2,h3⟩:=hro.get hi;have ok:=g.ok r (List.mem_of_getElem? h2);walk_at "rd";refine ⟨m,q,r,rfl,s03 _ _ h3,ok.a0,ok.a1,ok.b0,ok.b1,ok.ne,?_⟩;exact ⟨q,r,rfl,s03 _ _ h3,ok.t0,ok.t1,ok.u0,ok.u1,fun H4 s4=>hN _ _ ⟨s3.trans s4,_,rfl⟩⟩
     . rintro σ H3 ⟨s3,v,rfl⟩;have s03:=s1.trans (s2.trans s3);walk_at "rd";refine ⟨m,t,ps,rs,rfl,SqT.of (ht1 s3),RoadsAt.same s03 hro,g,fun H4 s4=>?_⟩;have s04:=s03.trans s4;have ntp:t≠p:=fun z=>by rw [z,hp] at ht0;cases ht0
       refine ⟨T.Web,dx,[],s04 _ _ hp,T.jL,T.n_many,by decide,?_⟩;refine ⟨T.Web,dx,_,aj,T.jL,T.n_roads,by show 1<1000;decide,?_⟩;rw [o0];refine k t _ ht0 ⟨⟨dx,aj⟩,?_,?_,g⟩ fun b o hb nb=>?_
       . rw [au ntp];exact ht1 (s3.trans s4)
       . refine Paired.imp' (fun q r hq=>?_) hro;rw [au (gI hq hp (by intro z;cases z))];exact s04 _ _ hq
       . rw [au nb];exact s04 _ _ hb
/-- Web(m,roads),at a call: nothing is changed,a new web stands -/
theorem MA (T:Txt K mg) {H:Hp} {m:Int} {c:Bool} {a:Addr} {ps:List Addr} {rs:List Road} {Q:Addr->Hp->Prop} (ha:SqX K c H a (ps.map V.ref)) (ro:RoadsAt H ps rs) (g:Good m rs)
   (k:∀ x t H',H x=none->H t=none->Same H H'->WebAt T.Web H' x m t ps rs->Q x H') :
   ∀ x dx,H x=none->H dx=none->dx≠x->mq T [.ref x,.int m,.ref a] (upd (upd H dx (.own x)) x (.ins T.Web dx [])) (fun v H2=>v=.non/\Q x H2) E0:=by
 intro x dx hx hdx ne;have hx1:upd H dx (.own x) x=none:=by rw [au ne.symm];exact hx
 have s0:Same H (upd (upd H dx (.own x)) x (.ins T.Web dx [])):=(Same.new _ hdx).trans (Same.new _ hx1);exact ⟨x,dx,m,c,a,ps,rs,rfl,aj,Same.sqX s0 ha,RoadsAt.same s0 ro,g,fun t H' ht W kp=>⟨rfl,k x t H' hx (s0.free ht) (fun b o e=>kp b o (s0 b o e) (bA e hx)) W⟩⟩
theorem FU (c i:Int) (i0:0<=i) (i1:i<=1000):CMul 7919 i/\CMul (c % 998244353+7919*i+11) 48271/\CMul ((c % 998244353+7919*i+11)*48271 % 2147483647) ((c % 998244353+7919*i+11)*48271 % 2147483647)/\CMul (((c % 998244353+7919*i+11)*48271 % 2147483647)*((c % 998244353+7919*i+11)*48271 % 2147483647) % 2147483629) (((c % 998244353+7919*i+11)*48271 % 2147483647)*((c % 998244353+7919*i+11)*48271 % 2147483647) % 2147483629)/\CMul ((((c % 998244353+7919*i+11)*48271 % 2147483647)*((c % 998244353+7919*i+11)*48271 % 2147483647) % 2147483629)*(((c % 998244353+7919*i+11)*48271 % 2147483647)*((c % 998244353+7919*i+11)*48271 % 2147483647) % 2147483629)) (((c % 998244353+7919*i+11)*48271 % 2147483647)+12345678901)/\TX ((((c % 998244353+7919*i+11)*48271 % 2147483647)*((c % 998244353+7919*i+11)*48271 % 2147483647) % 2147483629)*(((c % 998244353+7919*i+11)*48271 % 2147483647)*((c % 998244353+7919*i+11)*48271 % 2147483647) % 2147483629)*(((c % 998244353+7919*i+11)*48271 % 2147483647)+12345678901)) 7/\0<=(((c % 998244353+7919*i+11)*48271 % 2147483647)*((c % 998244353+7919*i+11)*48271 % 2147483647) % 2147483629)*(((c % 998244353+7919*i+11)*48271 % 2147483647)*((c % 998244353+7919*i+11)*48271 % 2147483647) % 2147483629)*(((c % 998244353+7919*i+11)*48271 % 2147483647)+12345678901) / 7:=by
 have h3:=Int.emod_nonneg ((c % 998244353+7919*i+11)*48271) (show (2147483647:Int)≠0 by decide);have h4:=Int.emod_lt_of_pos ((c % 998244353+7919*i+11)*48271) (show (0:Int)<2147483647 by decide);generalize (c % 998244353+7919*i+11)*48271 % 2147483647=n at h3 h4 ⊢;have h5:=Int.emod_nonneg (n*n) (show (2147483629:Int)≠0 by decide);have h6:=Int.emod_lt_of_pos (n*n) (show (0:Int)<2147483629 by decide);generalize n*n % 2147483629=f at h5 h6 ⊢;refine ⟨.inl ⟨by decide,by decide⟩,.inr ⟨by decide,by decide⟩,.inl ⟨by omega,by omega⟩,.inl ⟨by omega,by omega⟩,.inr ⟨by omega,by omega⟩,⟨by decide,by decide⟩,?_⟩;exact Int.ediv_nonneg (Int.mul_nonneg (Int.mul_nonneg h5 h5) (by omega)) (by decide)
def hV (T:Txt K mg):Sp:=fun vs H Q _=>∃ (a:Addr) (ns:List Int) (k:Int),vs=[.ref a,.int k]/\SqL K H a (ns.map V.int)/\0<=k/\k<=1000/\∀ v,0<=v->Q (.int v) H
abbrev bj:Stmt:=top 53
theorem g0:FnScope ["script","k","cell","near","far"] ["script","k"] (aa bj):=FnScope.of (by kernel_rfl)
theorem fV:NmL (aa bj) "script":=.of (by kernel_rfl)
theorem mR:NmL (aa bj) "k":=.of (by kernel_rfl)
theorem eY:NmL (aa bj) "cell":=.of (by kernel_rfl)
theorem gL:NmL (aa bj) "near":=.of (by kernel_rfl)
theorem lD:NmL (aa bj) "far":=.of (by kernel_rfl)
theorem d5:NmG (aa bj) "len":=.of (by kernel_rfl)
theorem Gd (T:Txt K mg) (hq:aU (CXe P w)) {f:Addr} {fd:FuncData} (D:Df K mg "_law_drawn" bj ["script","k"] f fd):FnOk P w K mg base (CXe P w) 1 f fd ["script","k"] (hV T):=by
 refine D.F.okC g0 (fun vs H Q E h=>?_) (fun cdv A outer s H vs Q E hr h=>?_)
 . obtain ⟨a,ns,i,rfl,_⟩:=h
   rfl
 . obtain ⟨a,ns,i,rfl,ha,i0,i1,k⟩:=h;refine ⟨_,(ao (aA (i:=2) g0.nd rfl (Or.inl eY.l) ap) (ao (bX (bf K3 (pvl 1 mR) (fM gZ d5.g T.len pM (ag (pvl 0 fV) ah) (hn:=d5.n) (hdb:=d5.d)) (bh _)) (aq (aA (i:=2) g0.nd rfl (Or.inl eY.l) (ax bN (bx bB (pvl 0 fV) (pvl 1 mR) (fun _ _=>rfl)) (ax jK ap ap)))) bc) (ao (bX (PW.pt (Gv (bf Ez (fM gZ d5.g T.len pM (ag (pvl 0 fV) ah) (hn:=d5.n) (hdb:=d5.d)) ap (bh _)) (Cp (bf gH (ax bN (bx bB (pvl 0 fV) ap (fun _ _=>rfl)) ap) ap (bh _))))) (ao (aA (i:=3) g0.nd rfl (Or.inl gL.l) (ax bN (ax i9 (ax gd (ax gd (ax bN (pvl 2 eY) ap) (ax i9 ap (pvl 1 mR))) ap) ap) ap)) (ao (aA (i:=4) g0.nd rfl (Or.inl lD.l) (ax bN (ax i9 (pvl 3 gL) (pvl 3 gL)) ap)) (aq (aA (i:=2) g0.nd rfl (Or.inl eY.l) (ax dY (ax i9 (ax i9 (pvl 4 lD) (pvl 4 lD)) (ax gd (pvl 3 gL) ap)) ap))))) bc) (aq (aK (pvl 2 eY)))))),?_⟩;rw [show L2.start ["script","k","cell","near","far"] [V.ref a,V.int i]=[some (V.ref a),some (V.int i),none,none,none] from rfl];walk_at "rd";refine ⟨_,.inl ha,?_⟩;rw [List.length_map];by_cases z:i<(ns.length:Int)
   . rw [if_pos z];refine ixS ha (atG i0 z) ⟨⟨by decide,by decide,by decide⟩,_,rfl,p60,?_⟩;have c0:=Int.emod_nonneg (ns.getD i.toNat 0) (Int.ne_of_gt p60);generalize ns.getD i.toNat 0 % 10^Int.toNat 60=c at c0 ⊢;obtain ⟨h1,h2,h3,h4,h5,h6,h7⟩:=FU c i i0 i1;refine ⟨_,.inl ha,?_⟩;rw [List.length_map,if_pos (by omega)];refine ixS ha (atG (by decide) (by omega)) ⟨_,rfl,by decide,?_⟩;by_cases y:ns.getD (0:Int).toNat 0 % 2=1
     . rw [if_pos y];exact ⟨by decide,h1,h2,by decide,h3,by decide,h4,h5,h6,k _ h7⟩
     . rw [if_neg y];exact k _ c0
   . rw [if_neg z];obtain ⟨h1,h2,h3,h4,h5,h6,h7⟩:=FU 0 i i0 i1;refine ⟨_,.inl ha,?_⟩;rw [List.length_map];by_cases x:0<(ns.length:Int)
     . rw [if_pos x];refine ixS ha (atG (by decide) x) ⟨_,rfl,by decide,?_⟩;by_cases y:ns.getD (0:Int).toNat 0 % 2=1
       . rw [if_pos y];exact ⟨by decide,h1,h2,by decide,h3,by decide,h4,h5,h6,k _ h7⟩
       . rw [if_neg y];exact k 0 (by decide)
     . rw [if_neg x];exact k 0 (by decide)
def yp (T:Txt K mg):Sp:=fun vs H Q _=>∃ (a:Addr) (ns:List Int),vs=[.ref a]/\SqL K H a (ns.map V.int)/\∀ b H',1<=b->Same H H'->Q (.int b) H'
abbrev c7:Stmt:=top 56
theorem xV:FnScope ["script","head"] ["script"] (aa c7):=FnScope.of (by kernel_rfl)
theorem wG:NmL (aa c7) "script":=.of (by kernel_rfl)
theorem oB:NmL (aa c7) "head":=.of (by kernel_rfl)
theorem kE:NmG (aa c7) "_law_drawn":=.of (by kernel_rfl)
theorem Fx (T:Txt K mg) (hq:aU (CXe P w)) {f:Addr} {fd:FuncData} (D:Df K mg "_law_bound" c7 ["script"] f fd) {ba:Addr} {bJ:FuncData} (ay:Df K mg "_law_drawn" bj ["script","k"] ba bJ) (G_law_drawn:FnOk P w K mg base (CXe P w) 1 ba bJ ["script","k"] (hV T)):FnOk P w K mg base (CXe P w) 2 f fd ["script"] (yp T):=by
 refine D.F.okC xV (fun vs H Q E h=>?_) (fun cdv A outer s H vs Q E hr h=>?_)
 . obtain ⟨a,ns,rfl,_⟩:=h
   rfl
 . obtain ⟨a,ns,rfl,ha,k⟩:=h;refine ⟨_,(ao (aA (i:=1) xV.nd rfl (Or.inl oB.l) (ax dY (aw G_law_drawn (hr.mono (by decide)) kE.g ay.m ay.F.kp ay.b .nil (aI hq) (ag (pvl 0 wG) (ag ap ah)) (hdb:=kE.d)) ap)) (aq (aK (bx bB (b5 (ag ap (ag ap (ag ap (ag (ax jK ap ap) ah))))) (ax bN (pvl 1 oB) ap) (fun _ _=>rfl))))),?_⟩;rw [show L2.start ["script","head"] [V.ref a]=[some (V.ref a),none] from rfl];walk_at "rd";refine ⟨a,ns,0,rfl,ha,by decide,by decide,fun c c0=>⟨c,rfl,⟨by decide,by decide⟩,⟨by decide,by decide,by decide⟩,cq (by simp),fun q nq=>⟨by decide,?_⟩⟩⟩;have h1:=Int.emod_nonneg (c / 1200) (show (4:Int)≠0 by decide);have h2:=Int.emod_lt_of_pos (c / 1200) (show (0:Int)<4 by decide);generalize c / 1200 % 4=j at h1 h2 ⊢;rcases (show j=0\/j=1\/j=2\/j=3 by omega) with z|z|z|z
   . rw [z];exact ixL aj rfl (k _ _ (by decide) (Same.new _ nq))
   . rw [z];exact ixL aj rfl (k _ _ (by decide) (Same.new _ nq))
   . rw [z];exact ixL aj rfl (k _ _ (by decide) (Same.new _ nq))
   . rw [z];exact ixL aj rfl (k _ _ p60 (Same.new _ nq))
def wu (T:Txt K mg):Sp:=fun vs H Q _=>∃ (a:Addr) (ns:List Int) (m b:Int),vs=[.ref a,.int m,.int b]/\SqL K H a (ns.map V.int)/\ns.length<=63/\1<=m/\m<=24/\1<=b/\∀ (l:Addr) (xs:List Int) (H':Hp),H l=none->Same H H'->H' l=some (.lst (xs.map V.int))->(xs.length:Int)=m->(∀ x∈xs,0<=x)->Q (.ref l) H'
abbrev be:Stmt:=top 57
theorem kW:FnScope ["script","many","bound","laying","k","place"] ["script","many","bound"] (aa be):=FnScope.of (by kernel_rfl)
theorem iI:NmL (aa be) "script":=.of (by kernel_rfl)
theorem f7:NmL (aa be) "many":=.of (by kernel_rfl)
theorem wH:NmL (aa be) "bound":=.of (by kernel_rfl)
theorem fq:NmL (aa be) "laying":=.of (by kernel_rfl)
theorem jG:NmL (aa be) "k":=.of (by kernel_rfl)
theorem ju:NmL (aa be) "place":=.of (by kernel_rfl)
theorem wJ:NmG (aa be) "range":=.of (by kernel_rfl)
theorem kt:NmG (aa be) "len":=.of (by kernel_rfl)
theorem dW:NmG (aa be) "_law_drawn":=.of (by kernel_rfl)
theorem DY (T:Txt K mg) (hq:aU (CXe P w)) {f:Addr} {fd:FuncData} (D:Df K mg "_law_laying" be ["script","many","bound"] f fd) {ba:Addr} {bJ:FuncData} (ay:Df K mg "_law_drawn" bj ["script","k"] ba bJ) (G_law_drawn:FnOk P w K mg base (CXe P w) 1 ba bJ ["script","k"] (hV T)):FnOk P w K mg base (CXe P w) 2 f fd ["script","many","bound"] (wu T):=by
 refine D.F.okC kW (fun vs H Q E h=>?_) (fun cdv A outer s H vs Q E hr h=>?_)
 . obtain ⟨a,ns,m,b,rfl,_⟩:=h
   rfl
 . obtain ⟨a,ns,m,b,rfl,ha,hn,m0,m1,b0,k⟩:=h;refine ⟨_,(ao (aA (i:=3) kW.nd rfl (Or.inl fq.l) (ax xa (b5 (ag ap ah)) (pvl 1 f7))) (ao (eF PassesOwn.never rfl (xM wJ.g T.range (ag (pvl 1 f7) (ag (fM gZ kt.g T.len pM (ag (pvl 0 iI) ah) (hn:=kt.n) (hdb:=kt.d)) ah))) (aR (i:=4) kW.nd rfl (Or.inl jG.l)) (aq (bX (bf gH (ax bN (pvl 4 jG) ap) ap (bh _)) (ao (aA (i:=5) kW.nd rfl (Or.inl ju.l) (ax bN (aw G_law_drawn (hr.mono (by decide)) dW.g ay.m ay.F.kp ay.b .nil (aI hq) (ag (pvl 0 iI) (ag (pvl 4 jG) ah)) (hdb:=dW.d)) (pvl 1 f7))) (aq (yQ (ax bN (ax gd (ax i9 (bx bB (pvl 3 fq) (pvl 5 ju) (fun _ _=>rfl)) ap) (ax dY (aw G_law_drawn (hr.mono (by decide)) dW.g ay.m ay.F.kp ay.b .nil (aI hq) (ag (pvl 0 iI) (ag (pvl 4 jG) ah)) (hdb:=dW.d)) (pvl 1 f7))) (pvl 2 wH)) (xK (pvl 3 fq) (pvl 5 ju) jQ)))) bc))) (aq (aK (pvl 3 fq))))),?_⟩;rw [show L2.start ["script","many","bound","laying","k","place"] [V.ref a,V.int m,V.int b]=[some (V.ref a),some (V.int m),some (V.int b),none,none,none] from rfl];walk_at "rd";refine ⟨cq (by simp),fun l0 n0=>?_⟩;refine ⟨l0,m,_,rfl,rfl,aj,by omega,by omega,cq (by simp;omega),fun l n1=>?_⟩;rw [Q7];have s0:Same H (upd H l0 (.lst [.int 0])):=Same.new _ n0;have s1:=s0.trans (Same.new (.lst (List.replicate m.toNat (V.int 0))) n1);have nl:=s0.free n1;refine ⟨_,.inl (Same.seq s1 ha),m,_,⟨rfl,rfl⟩,⟨by omega,by omega,by omega,by rw [List.length_map];omega⟩,?_⟩;rw [List.length_map];have e1:upd (upd H l0 (.lst [.int 0])) l (.lst (List.replicate m.toNat (V.int 0))) l=some (.lst ((List.replicate m.toNat (0:Int)).map V.int)):=by rw [aj,List.map_replicate]
   generalize upd (upd H l0 (.lst [.int 0])) l (.lst (List.replicate m.toNat (V.int 0)))=H1 at s1 e1 ⊢;refine oV (fun i σ H2=>Same H H2/\∃ (xs:List Int) (v4 v5:Option V),H2 l=some (.lst (xs.map V.int))/\(xs.length:Int)=m/\(∀ x∈xs,0<=x)/\σ=[some (.ref a),some (.int m),some (.int b),some (.ref l),v4,v5]) ⟨s1,_,_,_,e1,by rw [List.length_replicate];omega,fun x hx=>by rw [(List.mem_replicate.mp hx).2];decide,rfl⟩ ?_ ?_
   . rintro i σ H2 N hN hi ⟨s2,xs,v4,v5,e2,xl,x0,rfl⟩;have i0:0<=m+(i:Int):=(by omega);have i1:m+(i:Int)<=1000:=(by omega);generalize m+(i:Int)=j at i0 i1 ⊢;have sa:=Same.seq s2 ha;walk_at "rd";refine ⟨by decide,?_⟩;by_cases z:j % 2=0
     . rw [if_pos z];refine ⟨a,ns,j,rfl,sa,i0,i1,fun c c0=>⟨c,rfl,by omega,?_⟩⟩;have h1:=Int.emod_nonneg c (show m≠0 by omega);have h2:=Int.emod_lt_of_pos c (show 0<m by omega);generalize c % m=p at h1 h2 ⊢;refine ixL e2 (atG h1 (by omega)) ⟨_,rfl,.inr ⟨by decide,by decide⟩,a,ns,j,rfl,sa,i0,i1,fun c' c0'=>⟨c',rfl,⟨by omega,by omega⟩,by omega,AE e2 h1 (by rw [List.length_map];omega) (hN _ _ ⟨s2.put nl _,xs.set p.toNat _,_,_,by rw [aj,List.map_set],by rw [List.length_set];exact xl,B0 x0 (Int.emod_nonneg _ (by omega)),rfl⟩)⟩⟩
     . rw [if_neg z];exact hN _ _ ⟨s2,xs,_,_,e2,xl,x0,rfl⟩
   . rintro σ H2 ⟨s2,xs,v4,v5,e2,xl,x0,rfl⟩;exact ⟨_,rfl,k l xs H2 nl s2 e2 xl x0⟩
def rG (T:Txt K mg):Sp:=fun vs H Q _=>∃ (c:Int),vs=[.int c]/\∀ t,2<=t->t<=1000000->Q (.int t) H
abbrev ee:Stmt:=top 54
theorem HH:FnScope ["part"] ["part"] (aa ee):=FnScope.of (by kernel_rfl)
theorem lF:NmL (aa ee) "part":=.of (by kernel_rfl)
theorem IE (T:Txt K mg) (hq:aU (CXe P w)) {f:Addr} {fd:FuncData} (D:Df K mg "_law_toll" ee ["part"] f fd):FnOk P w K mg base (CXe P w) 1 f fd ["part"] (rG T):=by
 refine D.F.okC HH (fun vs H Q E h=>?_) (fun cdv A outer s H vs Q E hr h=>?_)
 . obtain ⟨c,rfl,_⟩:=h
   rfl
 . obtain ⟨c,rfl,k⟩:=h;refine ⟨_,(ao (bX (bf gH (ax bN (pvl 0 lF) ap) ap (bh _)) (aq (aK (ax gd ap (ax bN (ax dY (pvl 0 lF) ap) (ax pQ (ax jK ap ap) ap))))) bc) (aq (aK (ax gd ap (ax bN (ax dY (pvl 0 lF) ap) ap))))),?_⟩;rw [show L2.start ["part"] [V.int c]=[some (V.int c)] from rfl];walk_at "rd";have e6:(10:Int)^Int.toNat 6 - 1=999999:=by decide
   have a1:=Int.emod_nonneg (c / 8) (show (999999:Int)≠0 by decide);have a2:=Int.emod_lt_of_pos (c / 8) (show (0:Int)<999999 by decide);have a3:=Int.emod_nonneg (c / 8) (show (4:Int)≠0 by decide);have a4:=Int.emod_lt_of_pos (c / 8) (show (0:Int)<4 by decide);refine ⟨by decide,?_⟩;by_cases z:c % 8=7
   . rw [if_pos z];refine ⟨⟨by decide,by decide⟩,⟨by decide,by decide,by decide⟩,by decide,?_⟩;rw [e6];exact k _ (by omega) (by omega)
   . rw [if_neg z];exact ⟨⟨by decide,by decide⟩,by decide,k _ (by omega) (by omega)⟩
def xx (T:Txt K mg):Sp:=fun vs H Q _=>∃ (a:Addr) (ns:List Int) (m s:Int),vs=[.ref a,.int m,.int s]/\SqL K H a (ns.map V.int)/\1<=m/\m<=24/\0<=s/\s<4 /\
 ∀ (l:Addr) (ps:List Addr) (rs:List Road) (H':Hp),H l=none->Same H H'->H' l=some (.lst (ps.map V.ref))->RoadsAt H' ps rs->Good m rs->Q (.ref l) H'
abbrev aW:Stmt:=top 55
theorem dG:FnScope ["script","many","shape","roads","k","part","to","there","back"] ["script","many","shape"] (aa aW):=FnScope.of (by kernel_rfl)
theorem wz:NmL (aa aW) "script":=.of (by kernel_rfl)
theorem zi:NmL (aa aW) "many":=.of (by kernel_rfl)
theorem xt:NmL (aa aW) "shape":=.of (by kernel_rfl)
theorem gl:NmL (aa aW) "roads":=.of (by kernel_rfl)
theorem dB:NmL (aa aW) "k":=.of (by kernel_rfl)
theorem bO:NmL (aa aW) "part":=.of (by kernel_rfl)
theorem mw:NmL (aa aW) "to":=.of (by kernel_rfl)
theorem gc:NmL (aa aW) "there":=.of (by kernel_rfl)
theorem gG:NmL (aa aW) "back":=.of (by kernel_rfl)
theorem xi:NmG (aa aW) "range":=.of (by kernel_rfl)
theorem kN:NmG (aa aW) "_law_drawn":=.of (by kernel_rfl)
theorem eR:NmG (aa aW) "_law_toll":=.of (by kernel_rfl)
theorem GN (T:Txt K mg) (hq:aU (CXe P w)) {f:Addr} {fd:FuncData} (D:Df K mg "_law_roads" aW ["script","many","shape"] f fd) {ba:Addr} {bJ:FuncData} (ay:Df K mg "_law_drawn" bj ["script","k"] ba bJ) (G_law_drawn:FnOk P w K mg base (CXe P w) 1 ba bJ ["script","k"] (hV T)) {eC:Addr} {kO:FuncData} (bI:Df K mg "_law_toll" ee ["part"] eC kO) (G_law_toll:FnOk P w K mg base (CXe P w) 1 eC kO ["part"] (rG T)):FnOk P w K mg base (CXe P w) 2 f fd ["script","many","shape"] (xx T):=by
 refine D.F.okC dG (fun vs H Q E h=>?_) (fun cdv A outer s H vs Q E hr h=>?_)
 . obtain ⟨a,ns,m,s,rfl,_⟩:=h
   rfl
 . obtain ⟨a,ns,m,sh,rfl,ha,m1,m24,sh0,sh4,k⟩:=h;refine ⟨_,(ao (aA (i:=3) dG.nd rfl (Or.inl gl.l) (b5 ah)) (ao (eF PassesOwn.never rfl (xM xi.g T.range (ag ap (ag (pvl 1 zi) ah))) (aR (i:=4) dG.nd rfl (Or.inl dB.l)) (ao (aA (i:=5) dG.nd rfl (Or.inl bO.l) (aw G_law_drawn (hr.mono (by decide)) kN.g ay.m ay.F.kp ay.b .nil (aI hq) (ag (pvl 0 wz) (ag (pvl 4 dB) ah)) (hdb:=kN.d))) (ao (aA (i:=6) dG.nd rfl (Or.inl mw.l) (bx bB (b5 (ag (ax bN (pvl 5 bO) (pvl 4 dB)) (ag (ax pQ (pvl 4 dB) ap) (ag ap (ag (ax bN (pvl 5 bO) (pvl 4 dB)) ah))))) (pvl 2 xt) (fun _ _=>rfl))) (ao (aA (i:=5) dG.nd rfl (Or.inl bO.l) (ax dY (pvl 5 bO) (pvl 4 dB))) (ao (aA (i:=7) dG.nd rfl (Or.inl gc.l) (aw G_law_toll (hr.mono (by decide)) eR.g bI.m bI.F.kp bI.b .nil (aI hq) (ag (ax bN (pvl 5 bO) (ax jK ap ap)) ah) (hdb:=eR.d))) (ao (aA (i:=8) dG.nd rfl (Or.inl gG.l) (aw G_law_toll (hr.mono (by decide)) eR.g bI.m bI.F.kp bI.b .nil (aI hq) (ag (ax bN (ax dY (pvl 5 bO) (ax jK ap ap)) (ax jK ap ap)) ah) (hdb:=eR.d))) (ao (bX (bf gH (ax bN (ax Gy (pvl 5 bO) (ax jK ap ap)) ap) ap (bh _)) (aq (aA (i:=8) dG.nd rfl (Or.inl gG.l) (pvl 7 gc))) bc) (aq (bX (bf gH (ax bN (ax Gy (pvl 5 bO) (ax jK ap ap)) ap) ap (bh _)) (aq (cY (oS PySem.F.plainAttrs_list PySem.F.slot_list_append PySem.F.type_list_append ft (pvl 3 gl) (ag (wQ (ag (pvl 6 mw) (ag (pvl 4 dB) (ag (pvl 7 gc) (ag (pvl 8 gG) ah))))) ah)))) (aq (cY (oS PySem.F.plainAttrs_list PySem.F.slot_list_insert PySem.F.type_list_insert LI (pvl 3 gl) (ag ap (ag (wQ (ag (pvl 4 dB) (ag (pvl 6 mw) (ag (pvl 8 gG) (ag (pvl 7 gc) ah))))) ah)))))))))))))) (aq (aK (pvl 3 gl))))),?_⟩;rw [show L2.start ["script","many","shape","roads","k","part","to","there","back"] [V.ref a,V.int m,V.int sh]=[some (V.ref a),some (V.int m),some (V.int sh),none,none,none,none,none,none] from rfl];walk_at "rd";refine ⟨by decide,fun lo nlo=>⟨1,m,⟨rfl,rfl⟩,⟨by decide,by decide,by omega,by omega⟩,?_⟩⟩;refine oV (fun i σ H3=>∃ (ps:List Addr) (rs:List Road) (rows:List Row) (v4 v5 v6 v7 v8:Option V),σ=[some (V.ref a),some (V.int m),some (V.int sh),some (V.ref lo),v4,v5,v6,v7,v8]/\Same H H3/\H3 lo=some (.lst (ps.map V.ref))/\RoadsAt H3 ps rs/\Rows i rows/\Put (below m.toNat) rows rs) ⟨[],[],[],_,_,_,_,_,rfl,Same.new _ nlo,aj,.nil,⟨rfl,fun i r h=>by cases h⟩,Put.nil _⟩ ?_ ?_
   . rintro i σ H3 N hN hi ⟨ps,rs,rows,v4,v5,v6,v7,v8,rfl,s3,hl3,ro3,R,P⟩;have k0:(1:Int)<=1+(i:Int):=(by omega);have k1:1+(i:Int)<m:=(by omega);generalize hk:(1:Int)+(i:Int)=kk at k0 k1 ⊢;have psl:ps.length=rs.length:=Paired.length ro3;have rl:=R.len;have pl:=P.len;walk_at "rd";refine ⟨a,ns,kk,rfl,Same.seq s3 ha,by omega,by omega,fun c c0=>?_⟩;have em:∀ (x n:Int),0<n->0<=x % n/\x % n<n:=fun x n h=>⟨Int.emod_nonneg x (Int.ne_of_gt h),Int.emod_lt_of_pos x h⟩;have hg:=em c kk (by omega);have cp9:T4 10 9:=⟨by decide,by decide,by decide⟩;have e9:(10:Int)^Int.toNat 9=1000000000:=(by decide);have e18:(10:Int)^Int.toNat 18=1000000000000000000:=(by decide);have e19:(10:Int)^Int.toNat 19=10000000000000000000:=(by decide);refine ⟨c,rfl,by omega,c,rfl,by omega,cq (by simp),fun q1 hq1=>?_⟩;have s4:=Same.new (.lst [.int (c % kk),.int (kk - 1),.int 0,.int (c % kk)]) hq1;obtain ⟨un,hun,u0,u1⟩:∃ un:Int,atI [V.int (c % kk),V.int (kk - 1),V.int 0,V.int (c % kk)] sh=some (.int un)/\0<=un/\un<kk:=by
       rcases (show sh=0\/sh=1\/sh=2\/sh=3 by omega) with z|z|z|z
       . exact ⟨_,by rw [z];rfl,hg.1,hg.2⟩
       . exact ⟨_,by rw [z];rfl,by omega,by omega⟩
       . exact ⟨_,by rw [z];rfl,by omega,by omega⟩
       . exact ⟨_,by rw [z];rfl,hg.1,hg.2⟩
     refine ixL aj hun ?_;generalize upd H3 q1 (.lst [.int (c % kk),.int (kk - 1),.int 0,.int (c % kk)])=H4 at s4 ⊢;rw [e9,e18,e19];refine ⟨c,rfl,⟨by omega,by omega⟩,cp9,by decide,_,rfl,fun th t0 t1=>⟨cp9,⟨by decide,by decide⟩,cp9,by decide,_,rfl,fun bk b0 b1=>⟨⟨by decide,by decide,by decide⟩,⟨by decide,by decide⟩,by decide,?_⟩⟩⟩;have hl4:=s4 _ _ hl3;have ro4:=RoadsAt.same s4 ro3;have lu:=Bg (n:=m.toNat) u0 (by omega);have lk:=Bg (n:=m.toNat) (show 0<=kk by omega) (by omega);have keep:∀ {H7:Hp} {zs:List V} {q:Addr} {r':Road},Same H3 H7->H7 q=some (.tup (jC r'))->upd H7 lo (.lst zs) q=some (.tup (jC r')):=fun {H7 zs q r'} s7 h=>by rw [au (gI h (s7 _ _ hl3) (by intro z;cases z))];exact h
     have fin:∀ (H7:Hp) (q:Addr) (row:Row) (n:Nat) (v5 v6 v7 v8:Option V),Same H3 H7->row.k=kk->RowOk row->H7 q=some (.tup (jC (gY (below m.toNat) row)))->N [some (V.ref a),some (V.int m),some (V.int sh),some (V.ref lo),some (V.int kk),v5,v6,v7,v8] (upd H7 lo (.lst ((ps.take n++q::ps.drop n).map V.ref))):=by
       intro H7 q row n v5 v6 v7 v8 s7 rk rok hq;refine hN _ _ ⟨_,rs.take n++gY (below m.toNat) row::rs.drop n,rows++[row],_,_,_,_,_,rfl,(s3.trans s7).put nlo _,aj,?_,Lk R (by omega) rok,P.step row n⟩;exact TW n (Paired.imp' (fun p r h=>keep s7 h) (RoadsAt.same s7 ro3)) (keep s7 hq)
     have app:∀ (H7:Hp) (q:Addr) (row:Row) (v5 v6 v7 v8:Option V),Same H3 H7->row.k=kk->RowOk row->H7 q=some (.tup (jC (gY (below m.toNat) row)))->rAppend (V.ref lo) [V.ref q] H7 fun _ H1=>N [some (V.ref a),some (V.int m),some (V.int sh),some (V.ref lo),some (V.int kk),v5,v6,v7,v8] H1:=fun H7 q row v5 v6 v7 v8 s7 rk rok hq=>by
       refine vU (s7 _ _ hl3) (eP (by rw [List.length_map];omega)) ?_;have:=fin H7 q row ps.length v5 v6 v7 v8 s7 rk rok hq;rw [List.take_length,List.drop_length,List.map_append] at this;exact this
     have ins:∀ (H7:Hp) (q:Addr) (row:Row) (v5 v6 v7 v8:Option V),Same H3 H7->row.k=kk->RowOk row->H7 q=some (.tup (jC (gY (below m.toNat) row)))->rInsert (V.ref lo) [V.int 0,V.ref q] H7 fun _ H1=>N [some (V.ref a),some (V.int m),some (V.int sh),some (V.ref lo),some (V.int kk),v5,v6,v7,v8] H1:=fun H7 q row v5 v6 v7 v8 s7 rk rok hq=>by
       refine UP (s7 _ _ hl3) (Int.le_refl _) (by omega) (eP (by rw [List.length_map];omega)) ?_;have:=fin H7 q row 0 v5 v6 v7 v8 s7 rk rok hq;rw [List.take_zero,List.drop_zero,List.nil_append] at this;exact this
     have e1:∀ x y:Int,jC (gY (below m.toNat) ⟨kk,un,x,y,1,0⟩)=[V.int un,V.int kk,V.int x,V.int y]:=fun x y=>by
       unfold gY;rw [if_pos rfl];show [V.int ((below m.toNat).getD un.toNat 0),V.int ((below m.toNat).getD kk.toNat 0),V.int x,V.int y]=_;rw [lu,lk]
     have e2:∀ x y:Int,jC (gY (below m.toNat) ⟨kk,un,x,y,0,0⟩)=[V.int kk,V.int un,V.int x,V.int y]:=fun x y=>by
       unfold gY;rw [if_neg (show ¬ (0:Int)=1 by decide)];show [V.int ((below m.toNat).getD kk.toNat 0),V.int ((below m.toNat).getD un.toNat 0),V.int x,V.int y]=_;rw [lu,lk]
     have okR:∀ (x y w:Int),2<=x->x<=1000000->2<=y->y<=1000000->RowOk ⟨kk,un,x,y,w,0⟩:=fun x y w a b c d=>⟨u0,u1,a,b,c,d,Int.le_refl _,by show (0:Int)<kk;omega⟩;have both:∀ (th bk:Int) (v5 v7 v8:Option V),2<=th->th<=1000000->2<=bk->bk<=1000000->(tyV K "list" (V.ref lo) H4/\[V.int un,V.int kk,V.int th,V.int bk].length<=sizeLine/\∀ p,H4 p=none->rAppend (V.ref lo) [V.ref p] (upd H4 p (.tup [V.int un,V.int kk,V.int th,V.int bk])) fun _ H1=>N [some (V.ref a),some (V.int m),some (V.int sh),some (V.ref lo),some (V.int kk),v5,some (V.int un),v7,v8] H1)/\(tyV K "list" (V.ref lo) H4/\[V.int kk,V.int un,V.int bk,V.int th].length<=sizeLine/\∀ p,H4 p=none->rInsert (V.ref lo) [V.int 0,V.ref p] (upd H4 p (.tup [V.int kk,V.int un,V.int bk,V.int th])) fun _ H1=>N [some (V.ref a),some (V.int m),some (V.int sh),some (V.ref lo),some (V.int kk),v5,some (V.int un),v7,v8] H1):=fun th bk v5 v7 v8 t0 t1 b0 b1 =>
       ⟨⟨tyL hl4,cq (by simp),fun p hp=>app _ p ⟨kk,un,th,bk,1,0⟩ _ _ _ _ (s4.trans (Same.new _ hp)) rfl (okR _ _ _ t0 t1 b0 b1) (by rw [aj,e1])⟩,⟨tyL hl4,cq (by simp),fun p hp=>ins _ p ⟨kk,un,bk,th,0,0⟩ _ _ _ _ (s4.trans (Same.new _ hp)) rfl (okR _ _ _ b0 b1 t0 t1) (by rw [aj,e2])⟩⟩
     by_cases y1:c / kk / 1000000000000000000 % 3=0
     . rw [if_pos y1];refine ⟨⟨by decide,by decide,by decide⟩,⟨by decide,by decide⟩,by decide,?_⟩;by_cases y2:c / kk / 10000000000000000000 % 2=0
       . rw [if_pos y2];exact (both th th _ _ _ t0 t1 t0 t1).1
       . rw [if_neg y2];exact (both th th _ _ _ t0 t1 t0 t1).2
     . rw [if_neg y1];refine ⟨⟨by decide,by decide,by decide⟩,⟨by decide,by decide⟩,by decide,?_⟩;by_cases y2:c / kk / 10000000000000000000 % 2=0
       . rw [if_pos y2];exact (both th bk _ _ _ t0 t1 b0 b1).1
       . rw [if_neg y2];exact (both th bk _ _ _ t0 t1 b0 b1).2
   . rintro σ H3 ⟨ps,rs,rows,v4,v5,v6,v7,v8,rfl,s3,hl3,ro3,R,P⟩;have g:=R6 (n:=m.toNat) (by omega) (by omega) (Fi _) (by rw [show m.toNat - 1=(m - 1).toNat by omega];exact R) P;rw [Int.toNat_of_nonneg (by omega)] at g;walk_at "rd";exact k lo ps rs H3 nlo s3 hl3 ro3 g
def zA (T:Txt K mg):Sp:=fun vs H Q _=>∃ (a:Addr) (ns:List Int) (m b:Int),vs=[.ref a,.int m,.int b]/\SqL K H a (ns.map V.int)/\ns.length<=63/\1<=m/\m<=24/\1<=b/\∀ (l:Addr) (xs:List Int) (H':Hp),H l=none->Same H H'->H' l=some (.lst (xs.map V.int))->(xs.length:Int)=m->(∀ x∈xs,0<=x)->Q (.ref l) H'
abbrev bK:Stmt:=top 58
theorem nC:FnScope ["script","many","bound","wish","k","place"] ["script","many","bound"] (aa bK):=FnScope.of (by kernel_rfl)
theorem jU:NmL (aa bK) "script":=.of (by kernel_rfl)
theorem iK:NmL (aa bK) "many":=.of (by kernel_rfl)
theorem zn:NmL (aa bK) "bound":=.of (by kernel_rfl)
theorem kZ:NmL (aa bK) "wish":=.of (by kernel_rfl)
theorem iX:NmL (aa bK) "k":=.of (by kernel_rfl)
theorem oC:NmL (aa bK) "place":=.of (by kernel_rfl)
theorem zo:NmG (aa bK) "range":=.of (by kernel_rfl)
theorem l7:NmG (aa bK) "len":=.of (by kernel_rfl)
theorem eS:NmG (aa bK) "_law_drawn":=.of (by kernel_rfl)
theorem HR (T:Txt K mg) (hq:aU (CXe P w)) {f:Addr} {fd:FuncData} (D:Df K mg "_law_wish" bK ["script","many","bound"] f fd) {ba:Addr} {bJ:FuncData} (ay:Df K mg "_law_drawn" bj ["script","k"] ba bJ) (G_law_drawn:FnOk P w K mg base (CXe P w) 1 ba bJ ["script","k"] (hV T)):FnOk P w K mg base (CXe P w) 2 f fd ["script","many","bound"] (zA T):=by
 refine D.F.okC nC (fun vs H Q E h=>?_) (fun cdv A outer s H vs Q E hr h=>?_)
 . obtain ⟨a,ns,m,b,rfl,_⟩:=h
   rfl
 . obtain ⟨a,ns,m,b,rfl,ha,hn,m0,m1,b0,k⟩:=h;refine ⟨_,(ao (aA (i:=3) nC.nd rfl (Or.inl kZ.l) (ax xa (b5 (ag ap ah)) (pvl 1 iK))) (ao (eF PassesOwn.never rfl (xM zo.g T.range (ag (pvl 1 iK) (ag (fM gZ l7.g T.len pM (ag (pvl 0 jU) ah) (hn:=l7.n) (hdb:=l7.d)) ah))) (aR (i:=4) nC.nd rfl (Or.inl iX.l)) (aq (bX (bf gH (ax bN (pvl 4 iX) ap) ap (bh _)) (ao (aA (i:=5) nC.nd rfl (Or.inl oC.l) (ax bN (aw G_law_drawn (hr.mono (by decide)) eS.g ay.m ay.F.kp ay.b .nil (aI hq) (ag (pvl 0 jU) (ag (pvl 4 iX) ah)) (hdb:=eS.d)) (pvl 1 iK))) (aq (yQ (ax bN (ax dY (aw G_law_drawn (hr.mono (by decide)) eS.g ay.m ay.F.kp ay.b .nil (aI hq) (ag (pvl 0 jU) (ag (pvl 4 iX) ah)) (hdb:=eS.d)) (pvl 1 iK)) (bx bB (b5 (ag (pvl 2 zn) (ag ap (ag ap ah)))) (ax bN (ax dY (pvl 4 iX) ap) ap) (fun _ _=>rfl))) (xK (pvl 3 kZ) (pvl 5 oC) jQ)))) bc))) (aq (aK (pvl 3 kZ))))),?_⟩;rw [show L2.start ["script","many","bound","wish","k","place"] [V.ref a,V.int m,V.int b]=[some (V.ref a),some (V.int m),some (V.int b),none,none,none] from rfl];walk_at "rd";refine ⟨cq (by simp),fun l0 n0=>?_⟩;refine ⟨l0,m,_,rfl,rfl,aj,by omega,by omega,cq (by simp;omega),fun l n1=>?_⟩;rw [Q7];have s0:Same H (upd H l0 (.lst [.int 0])):=Same.new _ n0;have s1:=s0.trans (Same.new (.lst (List.replicate m.toNat (V.int 0))) n1);have nl:=s0.free n1;refine ⟨_,.inl (Same.seq s1 ha),m,_,⟨rfl,rfl⟩,⟨by omega,by omega,by omega,by rw [List.length_map];omega⟩,?_⟩;rw [List.length_map];have e1:upd (upd H l0 (.lst [.int 0])) l (.lst (List.replicate m.toNat (V.int 0))) l=some (.lst ((List.replicate m.toNat (0:Int)).map V.int)):=by rw [aj,List.map_replicate]
   generalize upd (upd H l0 (.lst [.int 0])) l (.lst (List.replicate m.toNat (V.int 0)))=H1 at s1 e1 ⊢;refine oV (fun i σ H2=>Same H H2/\∃ (xs:List Int) (v4 v5:Option V),H2 l=some (.lst (xs.map V.int))/\(xs.length:Int)=m/\(∀ x∈xs,0<=x)/\σ=[some (.ref a),some (.int m),some (.int b),some (.ref l),v4,v5]) ⟨s1,_,_,_,e1,by rw [List.length_replicate];omega,fun x hx=>by rw [(List.mem_replicate.mp hx).2];decide,rfl⟩ ?_ ?_
   . rintro i σ H2 N hN hi ⟨s2,xs,v4,v5,e2,xl,x0,rfl⟩;have i0:0<=m+(i:Int):=(by omega);have i1:m+(i:Int)<=1000:=(by omega);generalize m+(i:Int)=j at i0 i1 ⊢;have sa:=Same.seq s2 ha;walk_at "rd";refine ⟨by decide,?_⟩;by_cases z:j % 2=1
     . rw [if_pos z];refine ⟨a,ns,j,rfl,sa,i0,i1,fun c c0=>⟨c,rfl,by omega,?_⟩⟩;have h1:=Int.emod_nonneg c (show m≠0 by omega);have h2:=Int.emod_lt_of_pos c (show 0<m by omega);generalize c % m=p at h1 h2 ⊢;refine ⟨a,ns,j,rfl,sa,i0,i1,fun c' c0'=>?_⟩;refine ⟨c',rfl,⟨by omega,by omega⟩,cq (by simp),fun q nq=>⟨⟨by decide,by decide⟩,by decide,?_⟩⟩;have s3:=Same.new (.lst [V.int b,V.int 3,V.int 2]) nq;obtain ⟨w,hw,w0⟩:∃ w:Int,atI [V.int b,V.int 3,V.int 2] (j / 2 % 3)=some (.int w)/\0<w:=by
         rcases (show j / 2 % 3=0\/j / 2 % 3=1\/j / 2 % 3=2 by omega) with z|z|z
         . exact ⟨_,by rw [z];rfl,b0⟩
         . exact ⟨_,by rw [z];rfl,by decide⟩
         . exact ⟨_,by rw [z];rfl,by decide⟩
       refine ixL aj hw ⟨w,rfl,w0,AE (s3 _ _ e2) h1 (by rw [List.length_map];omega) (hN _ _ ⟨(s2.trans s3).put nl _,xs.set p.toNat (c' / m % w),_,_,by rw [aj,List.map_set],by rw [List.length_set];exact xl,B0 x0 (Int.emod_nonneg _ (by omega)),rfl⟩)⟩
     . rw [if_neg z];exact hN _ _ ⟨s2,xs,_,_,e2,xl,x0,rfl⟩
   . rintro σ H2 ⟨s2,xs,v4,v5,e2,xl,x0,rfl⟩;exact ⟨_,rfl,k l xs H2 nl s2 e2 xl x0⟩
def gQ (T:Txt K mg):Sp:=fun vs H Q E=>∃ (p t:Addr) (m:Int) (ps:List Addr) (rs:List Road) (n:Int),vs=[.ref p,.int n]/\WebAt T.Web H p m t ps rs/\(0<=n->n<m->Q .non H)/\(¬ (0<=n/\n<m)->E (.ref T.NoPlace) none H)
abbrev bo:Stmt:=top 15
theorem Cb:FnScope ["web","number"] ["web","number"] (aa bo):=FnScope.of (by kernel_rfl)
theorem xN:NmL (aa bo) "web":=.of (by kernel_rfl)
theorem tq:NmL (aa bo) "number":=.of (by kernel_rfl)
theorem ko:NmG (aa bo) "is_place":=.of (by kernel_rfl)
theorem kM:NmG (aa bo) "NoPlace":=.of (by kernel_rfl)
theorem CA (T:Txt K mg) (hq:aU (CXe P w)) {f:Addr} {fd:FuncData} (D:Df K mg "check_place" bo ["web","number"] f fd) {eE:Addr} {kP:FuncData} (cw:Df K mg "is_place" dE ["many","number"] eE kP) (G_is_place:FnOk P w K mg base (CXe P w) 1 eE kP ["many","number"] (rX T)):FnOk P w K mg base (CXe P w) 2 f fd ["web","number"] (gQ T):=by
 refine D.F.okX Cb (fun vs H Q E h=>?_) (fun cdv A outer s H vs Q E hr h=>?_)
 . obtain ⟨p,t,m,ps,rs,n,rfl,_⟩:=h
   rfl
 . obtain ⟨p,t,m,ps,rs,n,rfl,W,k,e⟩:=h;obtain ⟨dx,ob⟩:=W.ob;refine ⟨_,(aq (bX (pW (p8 (aw G_is_place (hr.mono (by decide)) ko.g cw.m cw.F.kp cw.b .nil bF (ag (di  (pvl 0 xN) rfl) (ag (pvl 1 tq) ah)) (hdb:=ko.d)))) (aq (pU T.Lj rfl tP kM.g T.ML (ag yM ah) (hdb:=kM.d))) bc)),?_⟩;rw [show L2.start ["web","number"] [V.ref p,V.int n]=[some (V.ref p),some (V.int n)] from rfl];walk_at "rd";refine ⟨T.Web,dx,_,ob,T.jL,T.n_many,_,kc m t,m,n,rfl,_,rfl,?_⟩;by_cases c:0<=n/\n<m
   . rw [if_neg (by simp [c.1,c.2])];exact k c.1 c.2
   . rw [if_pos (by simpa [Bool.and_eq_true] using c)];exact ⟨by decide,e c⟩
def we (T:Txt K mg):Sp:=fun vs H Q E=>∃ (p t:Addr) (m:Int) (ps:List Addr) (rs:List Road) (a:Int),vs=[.ref p,.int a]/\WebAt T.Web H p m t ps rs /\
 (∀ l H',0<=a->a<m->H l=none->Same H H'->H' l=some (.lst ((hW m rs a).map V.int))->Q (.ref l) H')/\(¬ (0<=a/\a<m)->E (.ref T.NoPlace) none H)
abbrev bR:Stmt:=top 14
theorem DS:FnScope ["web","a"] ["web","a"] (aa bR):=FnScope.of (by kernel_rfl)
theorem oF:NmL (aa bR) "web":=.of (by kernel_rfl)
theorem qY:NmL (aa bR) "a":=.of (by kernel_rfl)
theorem jI:NmG (aa bR) "check_place":=.of (by kernel_rfl)
theorem iG:NmG (aa bR) "sorted":=.of (by kernel_rfl)
theorem jP:NmG (aa bR) "other_ends":=.of (by kernel_rfl)
theorem D4 (T:Txt K mg) (hq:aU (CXe P w)) {f:Addr} {fd:FuncData} (D:Df K mg "neighbours" bR ["web","a"] f fd) {aZ:Addr} {bS:FuncData} (aG:Df K mg "check_place" bo ["web","number"] aZ bS) (G_check_place:FnOk P w K mg base (CXe P w) 2 aZ bS ["web","number"] (gQ T)) {c8:Addr} {iZ:FuncData} (cL:Df K mg "other_ends" bQ ["roads","place"] c8 iZ) (G_other_ends:FnOk P w K mg base (CXe P w) 1 c8 iZ ["roads","place"] (om T)):FnOk P w K mg base (CXe P w) 3 f fd ["web","a"] (we T):=by
 refine D.F.okX DS (fun vs H Q E h=>?_) (fun cdv A outer s H vs Q E hr h=>?_)
 . obtain ⟨p,t,m,ps,rs,a,rfl,_⟩:=h
   rfl
 . obtain ⟨p,t,m,ps,rs,a,rfl,W,k,e⟩:=h;obtain ⟨dx,ob⟩:=W.ob;refine ⟨_,(ao (cY (aw G_check_place (hr.mono (by decide)) jI.g aG.m aG.F.kp aG.b .nil bF (ag (pvl 0 oF) (ag (pvl 1 qY) ah)) (hdb:=jI.d))) (aq (aK (fM HG iG.g T.sorted Mw (ag (aw G_other_ends (hr.mono (by decide)) jP.g cL.m cL.F.kp cL.b .nil bF (ag (di  (pvl 0 oF) rfl) (ag (pvl 1 qY) ah)) (hdb:=jP.d)) ah) (hn:=iG.n) (hdb:=iG.d))))),?_⟩;rw [show L2.start ["web","a"] [V.ref p,V.int a]=[some (V.ref p),some (V.int a)] from rfl];walk_at "rd";refine ⟨p,t,m,ps,rs,a,rfl,W,fun a0 a1=>?_,e⟩;have hlen:(rs.length:Int)=m - 1:=W.go.len;have m24:=W.go.m24;refine ⟨T.Web,dx,_,ob,T.jL,T.n_roads,_,zw m t,t,ps,rs,a,rfl,SqT.of W.tu,W.ro,by omega,fun l1 H1 n1 s1 e1=>?_⟩;refine ⟨l1,rfl,ci rs a,SqL.of e1,by have:=G2 rs a;omega,fun l2 zs n2 pz sz=>?_⟩;rw [RL W.go a0 a1 pz sz];exact k l2 _ a0 a1 (s1.free n2) (s1.trans (Same.new _ n2)) aj
def y7 (T:Txt K mg):Sp:=fun vs H Q _=>∃ (p t:Addr) (m:Int) (ps:List Addr) (rs:List Road) (a:Int) (fv:V),vs=[.ref p,.int a,fv]/\WebAt T.Web H p m t ps rs/\0<=a/\a<m/\(fv=.non\/∃ i,fv=.int i) /\
 ∀ l H',H l=none->Same H H'->H' l=some (.lst ((aJ m rs fv a).map V.int))->Q (.ref l) H'
abbrev fL:Stmt:=top 31
theorem Sj:FnScope ["web","place","front"] ["web","place","front"] (aa fL):=FnScope.of (by kernel_rfl)
theorem Ij:NmL (aa fL) "web":=.of (by kernel_rfl)
theorem DP:NmL (aa fL) "place":=.of (by kernel_rfl)
theorem Su:NmC (aa fL) "front":=.of (by kernel_rfl)
theorem nS:NmG (aa fL) "neighbours":=.of (by kernel_rfl)
theorem RE (T:Txt K mg) (hq:aU (CXe P w)) {f:Addr} {fd:FuncData} (D:Df K mg "kids" fL ["web","place","front"] f fd) {fP:Addr} {wf:FuncData} (hZ:Df K mg "neighbours" bR ["web","a"] fP wf) (G_neighbours:FnOk P w K mg base (CXe P w) 3 fP wf ["web","a"] (we T)):FnOk P w K mg base (CXe P w) 4 f fd ["web","place","front"] (y7 T):=by
 refine D.F.okC Sj (fun vs H Q E h=>?_) (fun cdv A outer s H vs Q E hr h=>?_)
 . obtain ⟨p,t,m,ps,rs,a,fv,rfl,_⟩:=h
   rfl
 . obtain ⟨p,t,m,ps,rs,a,fv,rfl,W,a0,a1,hf,k⟩:=h;have m24:=W.go.m24;refine ⟨_,(aq (aK (oZ rfl (sU (Nc:=["near","front"]) 1 [2] (by decide +kernel) rfl (by decide +kernel) rfl (by show ∀ (y:Str × NameKind),y∈_->y.2=NameKind.free->(aa fL).names.lookup y.1=some NameKind.cell;decide +kernel) rfl (fun _ h=>kY h) (fun i hi=>match i,hi with|0,_=>⟨"front",2,rfl,rfl,rfl,by decide +kernel⟩|i+1,hi=>absurd hi (by show ¬ i+1<1;omega))) (kb (aw G_neighbours (hr.mono (by decide)) nS.g hZ.m hZ.F.kp hZ.b .nil (aI hq) (ag (pvl 0 Ij) (ag (pvl 1 DP) ah)) (hdb:=nS.d))) (fun _ _ _ _=>(aR (i:=0) (show (["near","front"]:List Str).Nodup from by decide +kernel) rfl (Or.inl rfl))) (fun _ _ _ _=>(C8 (bf oN (pv 0) (pv 1) (bh _)))) (fun _ _ _ _=>(pv 0))))),?_⟩;rw [show L2.start ["web","place","front"] [V.ref p,V.int a,fv]=[some (V.ref p),some (V.int a),some fv] from rfl];walk_at "rd";have nl:(hW m rs a).length<=24:=by
     have:=List.length_filter_le (fun q=>decide (q∈ci rs a)) (below m.toNat);rw [bz] at this;unfold hW;omega
   refine ⟨p,t,m,ps,rs,a,rfl,W,fun l1 H1 _ _ n1 s1 e1=>⟨l1,rfl,⟨_,SqL.of e1⟩,fun l2 n2=>?_⟩,fun z=>absurd ⟨a0,a1⟩ z⟩;have n20:H l2=none:=s1.free n2;refine Ax (c:=true) (K:=K) (a:=l1) (xs:=(hW m rs a).map V.int) (fun j ys σ H2=>Same H1 H2/\H2 l2=some (.lst ys)/\ys=(((hW m rs a).take j).filter fun v=>decide (V.int v≠fv)).map V.int/\∃ v,σ=[v,some fv]) ⟨Same.new _ n2,aj,rfl,_,rfl⟩ (fun j ys σ H2 _ z=>SqL.of (z.1 _ _ e1)) ?_ ?_
   . rintro j xj ys σ H2 N hN hj ⟨s2,h2,rfl,v,rfl⟩;rw [List.getElem?_map] at hj;obtain ⟨b,hb,rfl⟩:=Option.map_eq_some_iff.mp hj;have et:(hW m rs a).take (j+1)=(hW m rs a).take j++[b]:=(by rw [List.take_succ,hb];rfl);have ll:(((hW m rs a).take j).filter fun v=>decide (V.int v≠fv)).length<=24:=by
       have h1:=List.length_filter_le (fun v=>decide (V.int v≠fv)) ((hW m rs a).take j);rw [List.length_take] at h1;omega
     walk_at "rd";have sc:rK (V.int b) fv=true:=by
       rcases hf with rfl|⟨i,rfl⟩ <;> rfl
     refine ⟨sc,?_⟩;by_cases c:V.int b=fv
     . rw [if_neg (fun z=>z c)];refine hN _ _ _ ⟨s2,h2,?_,_,rfl⟩;rw [et,List.filter_append];simp [c]
     . rw [if_pos c];refine ⟨h2,eP (by rw [List.length_map];omega),hN _ _ _ ⟨s2.put n2 _,aj,?_,_,rfl⟩⟩;rw [et,List.filter_append];simp [c]
   . rintro ys σ H2 ⟨s2,h2,rfl,v,rfl⟩;rw [List.length_map,List.take_length] at h2;exact k l2 H2 n20 (s1.trans s2) h2
def pN (T:Txt K mg):Sp:=fun vs H Q E=>∃ (p t:Addr) (m:Int) (ps:List Addr) (rs:List Road) (r:Int),vs=[.ref p,.int r]/\WebAt T.Web H p m t ps rs /\
 (0<=r->r<m->∃ par dep,Rooted m rs r par dep/\∀ l H',H l=none->Same H H'->H' l=some (.lst (lC m r par))->Q (.ref l) H')/\(¬ (0<=r/\r<m)->E (.ref T.NoPlace) none H)
abbrev cF:Stmt:=top 29
theorem mL:FnScope ["web","r","nearer","waiting","place","front","kid"] ["web","r"] (aa cF):=FnScope.of (by kernel_rfl)
theorem qI:NmL (aa cF) "web":=.of (by kernel_rfl)
theorem Bu:NmL (aa cF) "r":=.of (by kernel_rfl)
theorem jD:NmL (aa cF) "nearer":=.of (by kernel_rfl)
theorem iL:NmL (aa cF) "waiting":=.of (by kernel_rfl)
theorem kj:NmL (aa cF) "place":=.of (by kernel_rfl)
theorem tK:NmL (aa cF) "front":=.of (by kernel_rfl)
theorem qr:NmL (aa cF) "kid":=.of (by kernel_rfl)
theorem lV:NmG (aa cF) "check_place":=.of (by kernel_rfl)
theorem wo:NmG (aa cF) "kids":=.of (by kernel_rfl)
theorem Qm (T:Txt K mg) (hq:aU (CXe P w)) {f:Addr} {fd:FuncData} (D:Df K mg "ahead" cF ["web","r"] f fd) {aZ:Addr} {bS:FuncData} (aG:Df K mg "check_place" bo ["web","number"] aZ bS) (G_check_place:FnOk P w K mg base (CXe P w) 2 aZ bS ["web","number"] (gQ T)) {gR:Addr} {lL:FuncData} (eZ:Df K mg "kids" fL ["web","place","front"] gR lL) (G_kids:FnOk P w K mg base (CXe P w) 4 gR lL ["web","place","front"] (y7 T)):FnOk P w K mg base (CXe P w) 5 f fd ["web","r"] (pN T):=by
 refine D.F.okX mL (fun vs H Q E h=>?_) (fun cdv A outer s H vs Q E hr h=>?_)
 . obtain ⟨p,t,m,ps,rs,r,rfl,_⟩:=h
   rfl
 . obtain ⟨p,t,m,ps,rs,r,rfl,W,k,e⟩:=h;obtain ⟨dx,ob⟩:=W.ob;have g:=W.go;have m24:=g.m24;refine ⟨_,(ao (cY (aw G_check_place (hr.mono (by decide)) lV.g aG.m aG.F.kp aG.b .nil bF (ag (pvl 0 qI) (ag (pvl 1 Bu) ah)) (hdb:=lV.d))) (ao (aA (i:=2) mL.nd rfl (Or.inl jD.l) (ax xa (b5 (ag BE ah)) (di  (pvl 0 qI) rfl))) (ao (aA (i:=3) mL.nd rfl (Or.inl iL.l) (b5 (ag (pvl 1 Bu) ah))) (ao (vH PassesOwn.leaving (Aj (pvl 3 iL) (fun _=>rfl)) (ao (aA (i:=4) mL.nd rfl (Or.inl kj.l) (Hy PySem.F.plainAttrs_list PySem.F.slot_list_pop PySem.F.type_list_pop Fg (pvl 3 iL))) (ao (aA (i:=5) mL.nd rfl (Or.inl tK.l) (bx bB (pvl 2 jD) (pvl 4 kj) (fun _ _=>rfl))) (aq (eF PassesOwn.leaving rfl (kb (aw G_kids (hr.mono (by decide)) wo.g eZ.m eZ.F.kp eZ.b .nil bF (ag (pvl 0 qI) (ag (pvl 4 kj) (ag (pvl 5 tK) ah))) (hdb:=wo.d))) (aR (i:=6) mL.nd rfl (Or.inl qr.l)) (ao (yQ (pvl 4 kj) (xK (pvl 2 jD) (pvl 6 qr) jQ)) (aq (cY (oS PySem.F.plainAttrs_list PySem.F.slot_list_append PySem.F.type_list_append ft (pvl 3 iL) (ag (pvl 6 qr) ah)))))))))) (aq (aK (pvl 2 jD))))))),?_⟩;rw [show L2.start ["web","r","nearer","waiting","place","front","kid"] [V.ref p,V.int r]=[some (V.ref p),some (V.int r),none,none,none,none,none] from rfl];walk_at "rd";refine ⟨p,t,m,ps,rs,r,rfl,W,fun r0 r1=>?_,e⟩;obtain ⟨par,dep,R,k⟩:=k r0 r1;refine ⟨by decide,fun l1 n1=>?_⟩;have s1:=Same.new (.lst [V.non]) n1;refine ⟨T.Web,dx,_,s1 _ _ ob,T.jL,T.n_many,_,rfl,?_⟩;refine ⟨l1,m,[V.non],rfl,rfl,aj,by omega,by omega,cq (by simp;omega),fun l2 n2=>?_⟩;have n20:H l2=none:=s1.free n2;rw [Aa,<- TM (par:=par)];have s2:=s1.trans (Same.new (.lst (nl m par [])) n2);refine ⟨cq (by simp),fun l3 n3=>?_⟩;have n30:H l3=none:=s2.free n3;have n32:l3≠l2:=fun z=>by rw [z,aj] at n3;cases n3
   have s3:=s2.trans (Same.new (.lst [V.int r]) n3);have e2:upd (upd (upd H l1 (.lst [V.non])) l2 (.lst (nl m par []))) l3 (.lst [V.int r]) l2=some (.lst (nl m par [])):=by rw [au n32.symm,aj]
   have e3:upd (upd (upd H l1 (.lst [V.non])) l2 (.lst (nl m par []))) l3 (.lst [V.int r]) l3=some (.lst [V.int r]):=aj;generalize upd (upd (upd H l1 (.lst [V.non])) l2 (.lst (nl m par []))) l3 (.lst [V.int r])=H3 at s3 e2 e3 ⊢;refine Jh (fun n σ H4=>∃ (ks ws:List Int) (v4 v5 v6:Option V),n=2*(m.toNat - ks.length)+ws.length/\σ=[some (.ref p),some (.int r),some (.ref l2),some (.ref l3),v4,v5,v6]/\Same H H4/\H4 l2=some (.lst (nl m par ks))/\H4 l3=some (.lst (ws.map V.int))/\AInv m rs r par ks ws) (2*m.toNat+1) ⟨[],[r],_,_,_,rfl,rfl,s3,e2,e3,AInv.start⟩ ?_;rintro n σ H4 NW BB hBB hN hN2 ⟨ks,ws,v4,v5,v6,rfl,rfl,s4,h2,h3,J⟩;refine hBB _ _ _ ?_;have kl:=dv (by omega) J.nd J.rng;walk_at "rd";refine ⟨_,.inl ⟨_,SqL.of h3,rfl⟩,?_⟩;rcases List.eq_nil_or_concat ws with rfl|⟨ws',q,rfl⟩
   . rw [if_neg (by simp)];rw [J.done R] at h2;exact k l2 H4 n20 s4 h2
   . rw [List.concat_eq_append] at J h3 hN hN2 ⊢;rw [if_pos (by simp)];have hq:q∈ws'++[q]:=List.mem_append_right _ (List.mem_singleton.mpr rfl);have pr:=J.at_ r0 r1 hq;have J2:=J.step g R r0 r1 (p:=q) (ws':=ws') (List.perm_append_singleton q ws');refine ⟨NW,fun σ' H' z=>?_,?_⟩
     . obtain ⟨m',lt,ks',ws'',a4,a5,a6,e1,e2,e3⟩:=hN2 _ _ z;exact ⟨m',lt,ks',ws'',e1,a4,a5,a6,e2,e3⟩
     rw [List.map_append,List.map_cons,List.map_nil] at h3;refine ⟨tyL h3,PK h3 ?_⟩;have s5:Same H (upd H4 l3 (.lst (ws'.map V.int))):=s4.put n30 _;have h25:upd H4 l3 (.lst (ws'.map V.int)) l2=some (.lst (nl m par ks)):=(by rw [au n32.symm];exact h2);have h35:upd H4 l3 (.lst (ws'.map V.int)) l3=some (.lst (ws'.map V.int)):=aj;generalize upd H4 l3 (.lst (ws'.map V.int))=H5 at s5 h25 h35 ⊢;refine ixL h25 (g9 pr.1 (Ma pr.1 pr.2)) ?_;rw [J.front hq];have hfv:Pb.front r par q=.non\/∃ i,Pb.front r par q=.int i:=by
       unfold Pb.front;by_cases c:q=r
       . rw [if_pos c];exact .inl rfl
       . rw [if_neg c];exact .inr ⟨_,rfl⟩
     have mk:∀ v,v∈aJ m rs (Pb.front r par q) q->(0<=v/\v<m)/\v≠r/\par v=q:=fun v=>(aQ g R pr.1 pr.2).mp;refine ⟨p,t,m,ps,rs,q,_,rfl,W.same s5,pr.1,pr.2,hfv,fun l6 H6 n6 s6 e6=>⟨l6,rfl,⟨_,SqL.of e6⟩,?_⟩⟩;generalize aJ m rs (Pb.front r par q) q=kk at mk e6 J2 ⊢;have n6':H l6=none:=s5.free n6;have n62:l6≠l2:=fun z=>by rw [z,h25] at n6;cases n6
     have n63:l6≠l3:=fun z=>by rw [z,h35] at n6;cases n6
     have kl2:=dv (by omega) J2.nd J2.rng;rw [List.length_append] at kl2;have wl2:=dv (by omega) J2.wnd fun w hw=>J2.at_ r0 r1 hw;rw [List.length_append] at wl2;refine nR (K:=K) (xs:=kk.map V.int) (fun i σ H7=>∃ v6,σ=[some (.ref p),some (.int r),some (.ref l2),some (.ref l3),some (.int q),some (Pb.front r par q),v6]/\Same H H7/\H7 l6=some (.lst (kk.map V.int))/\H7 l2=some (.lst (nl m par (ks++kk.take i)))/\H7 l3=some (.lst ((ws'++kk.take i).map V.int))) ⟨_,rfl,s5.trans s6,e6,by rw [List.take_zero,List.append_nil];exact s6 _ _ h25,by rw [List.take_zero,List.append_nil];exact s6 _ _ h35⟩ (fun i σ H7 _ z=>by obtain ⟨_,_,_,z,_⟩:=z;exact SqL.of z) ?_ ?_
     . rintro i x σ H7 NI BB hBB hI hi ⟨v6,rfl,s7,e7,h27,h37⟩;refine hBB _ _ ?_;rw [List.getElem?_map] at hi;obtain ⟨v,hv,rfl⟩:=Option.map_eq_some_iff.mp hi;obtain ⟨vr,_,vp⟩:=mk v (List.mem_of_getElem? hv);have et:kk.take (i+1)=kk.take i++[v]:=(by rw [List.take_succ,hv];rfl);walk_at "rd";refine ⟨l2,_,v,v.toNat,rfl,rfl,h27,by unfold ixN;rw [if_pos vr.1,if_pos (by rw [rf];omega)],?_⟩;rw [<- vp,Sx vr.1 vr.2,vp,List.append_assoc,<- et];have h38:upd H7 l2 (.lst (nl m par (ks++kk.take (i+1)))) l3=some (.lst ((ws'++kk.take i).map V.int)):=(by rw [au n32];exact h37);have wlen:(ws'++kk.take i).length<=100:=by
         rw [List.length_append,List.length_take];omega
       refine ⟨tyL h38,vU h38 (eP (by rw [List.length_map];omega)) (hI _ _ ⟨_,rfl,(s7.put n20 _).put n30 _,?_,?_,?_⟩)⟩
       . rw [au n63,au n62];exact e7
       . rw [au n32.symm,aj]
       . rw [aj,et,<- List.append_assoc,List.map_append (l₁:=ws'++kk.take i)];rfl
     . rintro BB σ H7 hBB ⟨v6,rfl,s7,e7,h27,h37⟩;refine hBB _ _ ?_;rw [List.length_map,List.take_length] at h27 h37;refine hN _ _ _ ?_ ⟨_,_,_,_,_,rfl,rfl,s7,h27,h37,J2⟩;rw [List.length_append,List.length_append,List.length_append];simp only [List.length_cons,List.length_nil];omega
def qt (T:Txt K mg):Sp:=fun vs H Q _=>∃ (a b:Addr) (xs ys:List Int),vs=[.ref a,.ref b]/\H a=some (.lst (xs.map V.int))/\H b=some (.lst (ys.map V.int))/\xs.length<=1000/\∀ l H',H l=none->Same H H'->H' l=some (.lst ((jm xs ys).map V.int))->Q (.ref l) H'
abbrev eO:Stmt:=top 49
theorem QJ:FnScope ["one","other"] ["one","other"] (aa eO):=FnScope.of (by kernel_rfl)
theorem GJ:NmL (aa eO) "one":=.of (by kernel_rfl)
theorem CG:NmL (aa eO) "other":=.of (by kernel_rfl)
theorem Go:NmG (aa eO) "zip":=.of (by kernel_rfl)
theorem NF (T:Txt K mg) (hq:aU (CXe P w)) {f:Addr} {fd:FuncData} (D:Df K mg "added" eO ["one","other"] f fd):FnOk P w K mg base (CXe P w) 1 f fd ["one","other"] (qt T):=by
 refine D.F.okC QJ (fun vs H Q E h=>?_) (fun cdv A outer s H vs Q E hr h=>?_)
 . obtain ⟨a,b,xs,ys,rfl,_⟩:=h
   rfl
 . obtain ⟨a,b,xs,ys,rfl,ha,hb,hz,k⟩:=h;refine ⟨_,(aq (aK (oZ rfl (AL (Nc:=["left","right"]) 2 (by decide +kernel) (by decide +kernel) rfl (by decide +kernel) rfl) (MR true true Go.g T.zip (ag (pvl 0 GJ) (ag (pvl 1 CG) ah))) (fun _ _ _ _=>(Js K rfl (n:=2) rfl (cT (aR (i:=0) (show (["left","right"]:List Str).Nodup from by decide +kernel) rfl (Or.inl rfl)) (cT (aR (i:=1) (show (["left","right"]:List Str).Nodup from by decide +kernel) rfl (Or.inl rfl)) ng)))) (fun _ _ _ _=>tQ) (fun _ _ _ _=>(ax gd (pv 0) (pv 1)))))),?_⟩;rw [show L2.start ["one","other"] [V.ref a,V.ref b]=[some (V.ref a),some (V.ref b)] from rfl];walk_at "rd";refine ⟨a,b,⟨rfl,rfl⟩,⟨_,SqL.of ha⟩,⟨_,SqL.of hb⟩,fun p hp=>?_⟩;refine OS (K:=K) (c:=true) (d:=true) (xs:=xs.map V.int) (zs:=ys.map V.int) (fun i bs σ H2=>Same H H2/\H2 p=some (.lst bs)/\bs=(((xs.zip ys).take i).map fun q=>q.1+q.2).map V.int/\∃ v w,σ=[v,w]) ⟨Same.new _ hp,aj,rfl,_,_,rfl⟩ (fun i bs σ H2 z=>⟨SqL.of (z.1 _ _ ha),SqL.of (z.1 _ _ hb)⟩) ?_ ?_
   . rintro i x z bs σ H2 q N hN hx hz' ⟨s2,e2,rfl,v,w,rfl⟩ hq;rw [List.getElem?_map] at hx hz';obtain ⟨x,gx,rfl⟩:=Option.map_eq_some_iff.mp hx;obtain ⟨z,gz,rfl⟩:=Option.map_eq_some_iff.mp hz';have s3:=Same.new (.tup [V.int x,V.int z]) hq;have hix:=(List.getElem?_eq_some_iff.mp gx).1;walk_at "rd";refine ⟨_,SqT.of aj,rfl,_,_,rfl,_,_,rfl,rfl,?_⟩;walk_at "rd";refine ⟨s3 _ _ e2,eP (by simp;omega),hN _ _ _ ⟨(s2.trans s3).put hp _,aj,?_,_,_,rfl⟩⟩;have hzz:(xs.zip ys)[i]?=some (x,z):=(by rw [List.getElem?_zip_eq_some];exact ⟨gx,gz⟩);rw [List.take_succ,hzz,List.map_append,List.map_append]
     rfl
   . rintro bs σ H2 ⟨s2,e2,rfl,v,w,rfl⟩;have e:(((xs.zip ys).take (min (xs.map V.int).length (ys.map V.int).length)).map fun q=>q.1+q.2)=jm xs ys:=by
       rw [List.take_of_length_le (by rw [List.length_zip,List.length_map,List.length_map];exact Nat.le_refl _)];unfold jm;rw [List.zip,List.map_zipWith]
     rw [e] at e2;exact k p H2 hp s2 e2
/-- the fields of an outlook -/
def kh (p na ka ia:Addr):List (Str × V):=aV "idle" (.ref ia) (aV "kids" (.ref ka) (aV "needs" (.ref na) (aV "web" (.ref p) [])))
theorem qT (p na ka ia:Addr):(kh p na ka ia).lookup ("web":Str)=some (.ref p):=by
 unfold kh;rw [bM,if_neg (by decide +kernel),bM,if_neg (by decide +kernel),bM,if_neg (by decide +kernel),bM,if_pos rfl]
theorem rP (p na ka ia:Addr):(kh p na ka ia).lookup ("needs":Str)=some (.ref na):=by
 unfold kh;rw [bM,if_neg (by decide +kernel),bM,if_neg (by decide +kernel),bM,if_pos rfl]
theorem Bq (p na ka ia:Addr):(kh p na ka ia).lookup ("kids":Str)=some (.ref ka):=by
 unfold kh;rw [bM,if_neg (by decide +kernel),bM,if_pos rfl]
theorem A4 (p na ka ia:Addr):(kh p na ka ia).lookup ("idle":Str)=some (.ref ia):=by
 unfold kh;rw [bM,if_pos rfl]
/-- the web as seen from r,at o: the needs at na,the rows of kids kl at ka,the idle loads of the places of S at ia -/
structure OutAt (C O:Addr) (H:Hp) (o p t:Addr) (m:Int) (ps:List Addr) (rs:List Road) (r:Int) (par:Int->Int) (dep:Int->Nat) (nd:Int->Int) (na ka ia:Addr) (kl:List Addr) (bs:List V) (S:Int->Prop):Prop where
 ob:∃ dx,H o=some (.ins O dx (kh p na ka ia))
 web:WebAt C H p m t ps rs
 rt:Rooted m rs r par dep
 hn:H na=some (.lst (((below m.toNat).map nd).map V.int))
 hk:H ka=some (.lst (kl.map V.ref))
 kp:Paired (fun a v=>H a=some (.lst ((kd m rs r par v).map V.int))) kl (below m.toNat)
 hi:H ia=some (.lst bs)
 done:∀ c,S c->∃ a,atI bs c=some (.ref a)/\H a=some (.lst ((idl m rs r par dep nd c).map V.int))
 cl:∀ u,0<=u->u<m->S u->∀ c∈kd m rs r par u,S c
theorem OutAt.same {C O:Addr} {H H':Hp} {o p t:Addr} {m:Int} {ps:List Addr} {rs:List Road} {r:Int} {par:Int->Int} {dep:Int->Nat} {nd:Int->Int} {na ka ia:Addr} {kl:List Addr} {bs:List V} {S:Int->Prop} (e:Same H H') (h:OutAt C O H o p t m ps rs r par dep nd na ka ia kl bs S):OutAt C O H' o p t m ps rs r par dep nd na ka ia kl bs S where
 ob:=let ⟨dx,q⟩:=h.ob;⟨dx,e _ _ q⟩
 web:=h.web.same e
 rt:=h.rt
 hn:=e _ _ h.hn
 hk:=e _ _ h.hk
 kp:=Paired.imp' (fun q v x=>e q _ x) h.kp
 hi:=e _ _ h.hi
 done:=fun c hc=>let ⟨a,h1,h2⟩:=h.done c hc;⟨a,h1,e _ _ h2⟩
 cl:=h.cl
theorem OutAt.kids {C O:Addr} {H:Hp} {o p t:Addr} {m:Int} {ps:List Addr} {rs:List Road} {r:Int} {par:Int->Int} {dep:Int->Nat} {nd:Int->Int} {na ka ia:Addr} {kl:List Addr} {bs:List V} {S:Int->Prop} (h:OutAt C O H o p t m ps rs r par dep nd na ka ia kl bs S) {v:Int} (v0:0<=v) (v1:v<m):∃ a,atI (kl.map V.ref) v=some (.ref a)/\H a=some (.lst ((kd m rs r par v).map V.int)):=by
 obtain ⟨a,ha,hv⟩:=LP h.kp (Dh v0 v1);exact ⟨a,g9 v0 (by rw [List.getElem?_map,ha];rfl),hv⟩
theorem UR {m:Int} {rs:List Road} (g:Good m rs) {r:Int} {par:Int->Int} {v:Int}:(kd m rs r par v).length<=24:=by
 have h1:=List.length_filter_le (fun u=>decide (V.int u≠front r par v)) (hW m rs v);have h2:=List.length_filter_le (fun q=>decide (q∈ci rs v)) (below m.toNat);rw [bz] at h2;have:=g.m24;show ((hW m rs v).filter fun u=>decide (V.int u≠front r par v)).length<=24;unfold hW at h1 ⊢;omega
def j2 (T:Txt K mg):Sp:=fun vs H Q _=>∃ (o p t:Addr) (m:Int) (ps:List Addr) (rs:List Road) (r:Int) (par:Int->Int) (dep:Int->Nat) (nd:Int->Int) (na ka ia:Addr) (kl:List Addr) (bs:List V) (S:Int->Prop) (v:Int) (x:V),vs=[.ref o,.int v,x]/\OutAt T.Web T.Outlook H o p t m ps rs r par dep nd na ka ia kl bs S/\(0<=v/\v<m)/\(x=.non\/∃ i,x=.int i)/\(∀ c∈kd m rs r par v,S c) /\
 ∀ l H',H l=none->Same H H'->H' l=some (.lst ((idK m rs r par (idl m rs r par dep nd) v x).map V.int))->Q (.ref l) H'
abbrev bq:Stmt:=top 48
theorem lY:FnScope ["outlook","place","left_out","load","kid"] ["outlook","place","left_out"] (aa bq):=FnScope.of (by kernel_rfl)
theorem iy:NmL (aa bq) "outlook":=.of (by kernel_rfl)
theorem yC:NmL (aa bq) "place":=.of (by kernel_rfl)
theorem tS:NmL (aa bq) "left_out":=.of (by kernel_rfl)
theorem gN:NmL (aa bq) "load":=.of (by kernel_rfl)
theorem lB:NmL (aa bq) "kid":=.of (by kernel_rfl)
theorem nJ:NmG (aa bq) "added":=.of (by kernel_rfl)
theorem GK (T:Txt K mg) (hq:aU (CXe P w)) {f:Addr} {fd:FuncData} (D:Df K mg "idle_kids" bq ["outlook","place","left_out"] f fd) {dN:Addr} {fH:FuncData} (d7:Df K mg "added" eO ["one","other"] dN fH) (G_added:FnOk P w K mg base (CXe P w) 1 dN fH ["one","other"] (qt T)):FnOk P w K mg base (CXe P w) 2 f fd ["outlook","place","left_out"] (j2 T):=by
 refine D.F.okC lY (fun vs H Q E h=>?_) (fun cdv A outer s H vs Q E hr h=>?_)
 . obtain ⟨o,p,t,m,ps,rs,r,par,dep,nd,na,ka,ia,kl,bs,S,v,x,rfl,_⟩:=h
   rfl
 . obtain ⟨o,p,t,m,ps,rs,r,par,dep,nd,na,ka,ia,kl,bs,S,v,x,rfl,O,vr,hx,hS,k⟩:=h;have g:=O.web.go;have R:=O.rt;have m24:=g.m24;obtain ⟨dx,ob⟩:=O.ob;obtain ⟨dw,wb⟩:=O.web.ob;refine ⟨_,(ao (aA (i:=3) lY.nd rfl (Or.inl gN.l) (ax xa (b5 (ag ap ah)) (di  (di  (pvl 0 iy) rfl) rfl))) (ao (eF PassesOwn.never rfl (kb (bx bB (di  (pvl 0 iy) rfl) (pvl 1 yC) (fun _ _=>rfl))) (aR (i:=4) lY.nd rfl (Or.inl lB.l)) (aq (bX (bf oN (pvl 4 lB) (pvl 2 tS) (bh _)) (aq (aA (i:=3) lY.nd rfl (Or.inl gN.l) (aw G_added (hr.mono (by decide)) nJ.g d7.m d7.F.kp d7.b .nil (aI hq) (ag (pvl 3 gN) (ag (bx bB (di  (pvl 0 iy) rfl) (pvl 4 lB) (fun _ _=>rfl)) ah)) (hdb:=nJ.d)))) bc))) (aq (aK (pvl 3 gN))))),?_⟩;rw [show L2.start ["outlook","place","left_out","load","kid"] [V.ref o,V.int v,x]=[some (V.ref o),some (V.int v),some x,none,none] from rfl];walk_at "rd";refine ⟨by decide,fun l1 n1=>?_⟩;have s1:=Same.new (.lst [V.int 0]) n1;refine ⟨T.Outlook,dx,_,s1 _ _ ob,T.bW,T.n_web,_,qT _ _ _ _,p,rfl,?_⟩;refine ⟨T.Web,dw,_,s1 _ _ wb,T.jL,T.n_many,_,kc _ _,?_⟩;refine ⟨l1,m,[V.int 0],rfl,rfl,aj,by omega,by omega,cq (by simp;omega),fun l2 n2=>?_⟩;rw [Aa,<- Rl];have s2:=s1.trans (Same.new (.lst ((zrs m).map V.int)) n2);have n20:H l2=none:=s1.free n2;have e2:upd (upd H l1 (.lst [V.int 0])) l2 (.lst ((zrs m).map V.int)) l2=some (.lst ((zrs m).map V.int)):=aj;generalize upd (upd H l1 (.lst [V.int 0])) l2 (.lst ((zrs m).map V.int))=H2 at s2 e2 ⊢;obtain ⟨ak,hak,hkk⟩:=O.kids vr.1 vr.2;refine ⟨T.Outlook,dx,_,s2 _ _ ob,T.bW,T.Gj,_,Bq _ _ _ _,ixL (s2 _ _ O.hk) hak ⟨ak,rfl,⟨_,SqL.of (s2 _ _ hkk)⟩,?_⟩⟩;have kr:∀ c∈kd m rs r par v,0<=c/\c<m:=fun c hc=>((aQ g R vr.1 vr.2).mp hc).1;refine nR (K:=K) (xs:=(kd m rs r par v).map V.int) (fun i σ H3=>Same H H3/\∃ (l:Addr) (v5:Option V),H l=none/\H3 l=some (.lst ((oO m ((((kd m rs r par v).take i).filter fun k=>decide (V.int k≠x)).map (idl m rs r par dep nd))).map V.int))/\σ=[some (V.ref o),some (V.int v),some x,some (V.ref l),v5]) ⟨s2,l2,_,n20,e2,rfl⟩ (fun i σ H3 _ z=>SqL.of (z.1 _ _ hkk)) ?_ ?_
   . rintro i y σ H3 N BB hBB hN hy ⟨s3,l,v5,nl,el,rfl⟩;refine hBB _ _ ?_;rw [List.getElem?_map] at hy;obtain ⟨c,hc,rfl⟩:=Option.map_eq_some_iff.mp hy;have cm:c∈kd m rs r par v:=List.mem_of_getElem? hc;have et:(kd m rs r par v).take (i+1)=(kd m rs r par v).take i++[c]:=(by rw [List.take_succ,hc];rfl);walk_at "rd";have sc:rK (V.int c) x=true:=by
       rcases hx with rfl|⟨i,rfl⟩ <;> rfl
     refine ⟨sc,?_⟩;by_cases cx:V.int c=x
     . rw [if_neg (fun z=>z cx)];refine hN _ _ ⟨s3,l,_,nl,?_,rfl⟩;rw [et,List.filter_append]
       simpa [cx] using el
     . rw [if_pos cx];obtain ⟨ai,h1,h2⟩:=O.done c (hS c cm);refine ⟨T.Outlook,dx,_,s3 _ _ ob,T.bW,T.n_idle,_,A4 _ _ _ _,ixL (s3 _ _ O.hi) h1 ?_⟩;have ll:(oO m ((((kd m rs r par v).take i).filter fun k=>decide (V.int k≠x)).map (idl m rs r par dep nd))).length=m.toNat:=yX _ _ (zd m) fun y hy=>by
         obtain ⟨k,hk,rfl⟩:=List.mem_map.mp hy;have:=kr k (List.mem_of_mem_take (List.mem_filter.mp hk).1);exact tm g R this.1 this.2
       refine ⟨l,ai,_,_,rfl,el,s3 _ _ h2,by omega,fun l4 H4 n4 s4 e4=>hN _ _ ⟨s3.trans s4,l4,_,s3.free n4,?_,rfl⟩⟩;rw [et,List.filter_append,List.filter_cons_of_pos (by simpa using cx),List.filter_nil,List.map_append,List.map_cons,List.map_nil,JT];exact e4
   . rintro BB σ H3 hBB ⟨s3,l,v5,nl,el,rfl⟩;refine hBB _ _ ?_;rw [List.length_map,List.take_length] at el;walk_at "rd";exact k l H3 nl s3 el
def lJ (T:Txt K mg):Sp:=fun vs H Q E=>∃ (p t:Addr) (m:Int) (ps:List Addr) (rs:List Road) (a b:Int),vs=[.ref p,.int a,.int b]/\WebAt T.Web H p m t ps rs /\
 (∀ k,0<=a->a<m->0<=b->b<m->aH rs a b=some k->Q (.int k) H)/\(¬ ((0<=a/\a<m)/\(0<=b/\b<m))->E (.ref T.NoPlace) none H)/\(0<=a->a<m->0<=b->b<m->aH rs a b=none->E (.ref T.NoRoad) none H)
abbrev cI:Stmt:=top 13
theorem sX:FnScope ["web","a","b","one","other","there","back"] ["web","a","b"] (aa cI):=FnScope.of (by kernel_rfl)
theorem sL:NmL (aa cI) "web":=.of (by kernel_rfl)
theorem wR:NmL (aa cI) "a":=.of (by kernel_rfl)
theorem yG:NmL (aa cI) "b":=.of (by kernel_rfl)
theorem r9:NmL (aa cI) "one":=.of (by kernel_rfl)
theorem ow:NmL (aa cI) "other":=.of (by kernel_rfl)
theorem wn:NmL (aa cI) "there":=.of (by kernel_rfl)
theorem yf:NmL (aa cI) "back":=.of (by kernel_rfl)
theorem fW:NmG (aa cI) "check_place":=.of (by kernel_rfl)
theorem tj:NmG (aa cI) "NoRoad":=.of (by kernel_rfl)
theorem RC (T:Txt K mg) (hq:aU (CXe P w)) {f:Addr} {fd:FuncData} (D:Df K mg "toll" cI ["web","a","b"] f fd) {aZ:Addr} {bS:FuncData} (aG:Df K mg "check_place" bo ["web","number"] aZ bS) (G_check_place:FnOk P w K mg base (CXe P w) 2 aZ bS ["web","number"] (gQ T)):FnOk P w K mg base (CXe P w) 3 f fd ["web","a","b"] (lJ T):=by
 refine D.F.okX sX (fun vs H Q E h=>?_) (fun cdv A outer s H vs Q E hr h=>?_)
 . obtain ⟨p,t,m,ps,rs,a,b,rfl,_⟩:=h
   rfl
 . obtain ⟨p,t,m,ps,rs,a,b,rfl,W,k,e1,e2⟩:=h;obtain ⟨dx,ob⟩:=W.ob;refine ⟨_,(ao (cY (aw G_check_place (hr.mono (by decide)) fW.g aG.m aG.F.kp aG.b .nil bF (ag (pvl 0 sL) (ag (pvl 1 wR) ah)) (hdb:=fW.d))) (ao (cY (aw G_check_place (hr.mono (by decide)) fW.g aG.m aG.F.kp aG.b .nil bF (ag (pvl 0 sL) (ag (pvl 2 yG) ah)) (hdb:=fW.d))) (ao (eF PassesOwn.leaving rfl (wP (di  (pvl 0 sL) rfl)) (sV (n:=4) rfl (cT (aR (i:=3) sX.nd rfl (Or.inl r9.l)) (cT (aR (i:=4) sX.nd rfl (Or.inl ow.l)) (cT (aR (i:=5) sX.nd rfl (Or.inl wn.l)) (cT (aR (i:=6) sX.nd rfl (Or.inl yf.l)) ng))))) (ao (bX (PW.pt (Gv (bf gH (pvl 3 r9) (pvl 1 wR) (bh _)) (Cp (bf gH (pvl 4 ow) (pvl 2 yG) (bh _))))) (aq (aK (pvl 5 wn))) bc) (aq (bX (PW.pt (Gv (bf gH (pvl 3 r9) (pvl 2 yG) (bh _)) (Cp (bf gH (pvl 4 ow) (pvl 1 wR) (bh _))))) (aq (aK (pvl 6 yf))) bc)))) (aq (pU T.Pe rfl tP tj.g T.PZ (ag yM ah) (hdb:=tj.d)))))),?_⟩;rw [show L2.start ["web","a","b","one","other","there","back"] [V.ref p,V.int a,V.int b]=[some (V.ref p),some (V.int a),some (V.int b),none,none,none,none] from rfl];walk_at "rd";refine ⟨p,t,m,ps,rs,a,rfl,W,fun a0 a1=>?_,fun z=>e1 fun w=>z w.1⟩;refine ⟨p,t,m,ps,rs,b,rfl,W,fun b0 b1=>?_,fun z=>e1 fun w=>z w.2⟩;refine ⟨T.Web,dx,_,ob,T.jL,T.n_roads,_,zw m t,t,rfl,⟨_,SqT.of W.tu⟩,?_⟩;have hlen:ps.length=rs.length:=Paired.length W.ro;refine Hh (K:=K) (xs:=ps.map V.ref) (fun i σ H2=>H2=H/\aH (rs.take i) a b=none/\∃ v1 v2 v3 v4,σ=[some (V.ref p),some (V.int a),some (V.int b),v1,v2,v3,v4]) ⟨rfl,rfl,_,_,_,_,rfl⟩ (fun i σ H2 _ z=>by rw [z.1];exact SqT.of W.tu) ?_ ?_
   . rintro i x σ H2 N hN hx ⟨rfl,hno,v1,v2,v3,v4,rfl⟩;obtain ⟨q,r,rfl,h1,h2,h3⟩:=W.ro.get hx;have et:rs.take (i+1)=rs.take i++[r]:=(by rw [List.take_succ,h2];rfl);have split:aH rs a b=(aH (rs.take i) a b).or ((dR a b r).or (aH (rs.drop (i+1)) a b)):=by
       have:rs=rs.take i++r::rs.drop (i+1):=by
         have hil:i<rs.length:=(List.getElem?_eq_some_iff.mp h2).1;have e:rs[i]=r:=(by rw [List.getElem?_eq_getElem hil] at h2;exact Option.some.inj h2);rw [<- e,List.getElem_cons_drop,List.take_append_drop]
       conv=>lhs;rw [this]
       unfold aH;rw [List.findSome?_append,List.findSome?_cons];cases dR a b r <;> rfl
     rw [hno,Option.none_or] at split;walk_at "rd";refine ⟨_,SqT.of h3,rfl,_,_,rfl,_,_,rfl,_,_,rfl,_,_,rfl,rfl,?_⟩;walk_at "rd";have next:dR a b r=none->N [some (V.ref p),some (V.int a),some (V.int b),some (V.int r.a),some (V.int r.b),some (V.int r.t),some (V.int r.u)] H2:=fun z=>hN _ _ ⟨rfl,by
       rw [et];unfold aH at hno ⊢;rw [List.findSome?_append,hno,List.findSome?_cons,z]
       rfl,_,_,_,_,rfl⟩
     have got:∀ v,dR a b r=some v->aH rs a b=some v:=fun v z=>by rw [split,z];rfl
     unfold dR at next got;split
     . rename_i c1
       split
       . rename_i c2
         exact k _ a0 a1 b0 b1 (got _ (by rw [if_pos ⟨c1,c2⟩]))
       . rename_i c2
         split
         . rename_i c3
           split
           . rename_i c4
             exact k _ a0 a1 b0 b1 (got _ (by rw [if_neg (fun z=>c2 z.2),if_pos ⟨c3,c4⟩]))
           . rename_i c4
             exact next (by rw [if_neg (fun z=>c2 z.2),if_neg (fun z=>c4 z.2)])
         . rename_i c3
           exact next (by rw [if_neg (fun z=>c2 z.2),if_neg (fun z=>c3 z.1)])
     . rename_i c1
       split
       . rename_i c3
         split
         . rename_i c4
           exact k _ a0 a1 b0 b1 (got _ (by rw [if_neg (fun z=>c1 z.1),if_pos ⟨c3,c4⟩]))
         . rename_i c4
           exact next (by rw [if_neg (fun z=>c1 z.1),if_neg (fun z=>c4 z.2)])
       . rename_i c3
         exact next (by rw [if_neg (fun z=>c1 z.1),if_neg (fun z=>c3 z.1)])
   . rintro σ H2 ⟨rfl,hno,v1,v2,v3,v4,rfl⟩;rw [List.length_map,hlen,List.take_length] at hno;walk_at "rd";exact ⟨by decide,e2 a0 a1 b0 b1 hno⟩
def qP (T:Txt K mg):Sp:=fun vs H Q _=>∃ (p:Addr) (ns:List Int),vs=[.ref p]/\(SqL K H p (ns.map V.int)\/SqT K H p (ns.map V.int))/\Q (.int ns.sum) H
abbrev fC:Stmt:=top 25
theorem OD:FnScope ["numbers"] ["numbers"] (aa fC):=FnScope.of (by kernel_rfl)
theorem zV:NmL (aa fC) "numbers":=.of (by kernel_rfl)
theorem qJ:NmG (aa fC) "sum":=.of (by kernel_rfl)
theorem Om (T:Txt K mg) (hq:aU (CXe P w)) {f:Addr} {fd:FuncData} (D:Df K mg "total" fC ["numbers"] f fd):FnOk P w K mg base (CXe P w) 1 f fd ["numbers"] (qP T):=by
 refine D.F.okC OD (fun vs H Q E h=>?_) (fun cdv A outer s H vs Q E hr h=>?_)
 . obtain ⟨p,ns,rfl,_⟩:=h
   rfl
 . obtain ⟨p,ns,rfl,hp,k⟩:=h;refine ⟨_,(aq (aK (fM (O3 rfl) qJ.g T.sum Ty (ag (pvl 0 zV) ah) (hn:=qJ.n) (hdb:=qJ.d)))),?_⟩;rw [show L2.start ["numbers"] [V.ref p]=[some (V.ref p)] from rfl];walk_at "rd";exact ⟨ns,hp,k⟩
def ku (T:Txt K mg):Nat->Sp
 | 0=>fun _ _ _ _=>False
 | n+1=>fun vs H Q _=>∃ (o p t:Addr) (m:Int) (ps:List Addr) (rs:List Road) (r:Int) (par:Int->Int) (dep:Int->Nat) (nd:Int->Int) (na ka ia:Addr) (kl:List Addr) (bs:List V) (S:Int->Prop) (v y:Int),vs=[.ref o,.int v,.int y]/\OutAt T.Web T.Outlook H o p t m ps rs r par dep nd na ka ia kl bs S/\(0<=v/\v<m)/\m.toNat<=dep v+1+n/\(∀ c∈kd m rs r par v,S c) /\
   ∀ l H',H l=none->Same H H'->H' l=some (.lst ((gld m rs r par dep nd v y).map V.int))->Q (.ref l) H'
def lw (T:Txt K mg):Sp:=ku T 25
def Ih (T:Txt K mg):Nat->Sp
 | 0=>fun _ _ _ _=>False
 | n+1=>fun vs H Q _=>∃ (o p t:Addr) (m:Int) (ps:List Addr) (rs:List Road) (r:Int) (par:Int->Int) (dep:Int->Nat) (nd:Int->Int) (na ka ia:Addr) (kl:List Addr) (bs:List V) (S:Int->Prop) (v c y:Int),vs=[.ref o,.int v,.int c,.int y]/\OutAt T.Web T.Outlook H o p t m ps rs r par dep nd na ka ia kl bs S/\(0<=v/\v<m)/\c∈kd m rs r par v/\m.toNat<=dep c+1+n/\(∀ c∈kd m rs r par v,S c) /\
   ∀ l H',H l=none->Same H H'->H' l=some (.lst ((byK m rs r par nd (idl m rs r par dep nd) (gld m rs r par dep nd) v y c).map V.int))->Q (.ref l) H'
abbrev aF:Stmt:=top 50
theorem df:FnScope ["outlook","place","over","room","best","kid","load"] ["outlook","place","over"] (aa aF):=FnScope.of (by kernel_rfl)
theorem dH:NmL (aa aF) "outlook":=.of (by kernel_rfl)
theorem db:NmL (aa aF) "place":=.of (by kernel_rfl)
theorem tX:NmL (aa aF) "over":=.of (by kernel_rfl)
theorem ic:NmL (aa aF) "room":=.of (by kernel_rfl)
theorem dA:NmL (aa aF) "best":=.of (by kernel_rfl)
theorem lP:NmL (aa aF) "kid":=.of (by kernel_rfl)
theorem hG:NmL (aa aF) "load":=.of (by kernel_rfl)
theorem iM:NmG (aa aF) "idle_kids":=.of (by kernel_rfl)
theorem j6:NmG (aa aF) "load_by":=.of (by kernel_rfl)
theorem d9:NmG (aa aF) "total":=.of (by kernel_rfl)
abbrev bL:Stmt:=top 51
theorem uV:FnScope ["outlook","place","kid","room","given","over"] ["outlook","place","kid","room"] (aa bL):=FnScope.of (by kernel_rfl)
theorem eN:NmL (aa bL) "outlook":=.of (by kernel_rfl)
theorem lh:NmL (aa bL) "place":=.of (by kernel_rfl)
theorem ie:NmL (aa bL) "kid":=.of (by kernel_rfl)
theorem Bl:NmL (aa bL) "room":=.of (by kernel_rfl)
theorem qQ:NmL (aa bL) "given":=.of (by kernel_rfl)
theorem rB:NmL (aa bL) "over":=.of (by kernel_rfl)
theorem jF:NmG (aa bL) "toll":=.of (by kernel_rfl)
theorem qu:NmG (aa bL) "added":=.of (by kernel_rfl)
theorem jJ:NmG (aa bL) "greatest_load":=.of (by kernel_rfl)
theorem lS:NmG (aa bL) "idle_kids":=.of (by kernel_rfl)
theorem Iu (T:Txt K mg) (hq:aU (CXe P w)) {f:Addr} {fd:FuncData} (D:Df K mg "load_by" bL ["outlook","place","kid","room"] f fd) {dN:Addr} {fH:FuncData} (d7:Df K mg "added" eO ["one","other"] dN fH) (G_added:FnOk P w K mg base (CXe P w) 1 dN fH ["one","other"] (qt T)) {bD:Addr} {cM:FuncData} (bn:Df K mg "idle_kids" bq ["outlook","place","left_out"] bD cM) (G_idle_kids:FnOk P w K mg base (CXe P w) 2 bD cM ["outlook","place","left_out"] (j2 T)) {b4:Addr} {cG:FuncData} (aY:Df K mg "toll" cI ["web","a","b"] b4 cG) (G_toll:FnOk P w K mg base (CXe P w) 3 b4 cG ["web","a","b"] (lJ T)) {bg:Addr} {cK:FuncData} (D_greatest_load:Df K mg "greatest_load" aF ["outlook","place","over"] bg cK) {n N:Nat} (hN:3<=N) (G_greatest_load:FnOk P w K mg base (CXe P w) N bg cK ["outlook","place","over"] (ku T n)):FnOk P w K mg base (CXe P w) (N+1) f fd ["outlook","place","kid","room"] (Ih T n):=by
 refine D.F.okC uV (fun vs H Q E h=>?_) (fun cdv A outer s H vs Q E hr h=>?_)
 . cases n with
   | zero=>exact h.elim
   | succ n =>
   obtain ⟨o,p,t,m,ps,rs,r,par,dep,nd,na,ka,ia,kl,bs,S,v,c,y,rfl,_⟩:=h
   rfl
 . cases n with
   | zero=>exact h.elim
   | succ n =>
   obtain ⟨o,p,t,m,ps,rs,r,par,dep,nd,na,ka,ia,kl,bs,S,v,c,y,rfl,O,vr,cm,fu,hS,k⟩:=h;have g:=O.web.go;have R:=O.rt;have m24:=g.m24;obtain ⟨dx,ob⟩:=O.ob;obtain ⟨⟨cr,cn,cp⟩,_,_⟩:=cR g R vr.1 vr.2 cm;obtain ⟨k1,hk1,a0,a1⟩:=tM g R cr.1 cr.2 cn;obtain ⟨k2,hk2,b0,b1⟩:=ue g R cr.1 cr.2 cn;have e1:dnT rs par c=k1:=by unfold dnT;rw [hk1];rfl
   have e2:upT rs par c=k2:=by unfold upT;rw [hk2];rfl
   rw [cp] at hk1 hk2;refine ⟨_,(ao (aA (i:=4) uV.nd rfl (Or.inl qQ.l) (ax pQ (pvl 3 Bl) (ax i9 (bx bB (di  (pvl 0 eN) rfl) (pvl 2 ie) (fun _ _=>rfl)) (aw G_toll (hr.mono (by omega)) jF.g aY.m aY.F.kp aY.b .nil (aI hq) (ag (di  (pvl 0 eN) rfl) (ag (pvl 1 lh) (ag (pvl 2 ie) ah))) (hdb:=jF.d))))) (ao (aA (i:=5) uV.nd rfl (Or.inl rB.l) (ax pQ (ax i9 (aw G_toll (hr.mono (by omega)) jF.g aY.m aY.F.kp aY.b .nil (aI hq) (ag (di  (pvl 0 eN) rfl) (ag (pvl 2 ie) (ag (pvl 1 lh) ah))) (hdb:=jF.d)) (ax gd (pvl 4 qQ) ap)) ap)) (aq (aK (aw G_added (hr.mono (by omega)) qu.g d7.m d7.F.kp d7.b .nil (aI hq) (ag (aw G_greatest_load (hr.mono (by omega)) jJ.g D_greatest_load.m D_greatest_load.F.kp D_greatest_load.b .nil (aI hq) (ag (pvl 0 eN) (ag (pvl 2 ie) (ag (pvl 5 rB) ah))) (hdb:=jJ.d)) (ag (aw G_idle_kids (hr.mono (by omega)) lS.g bn.m bn.F.kp bn.b .nil (aI hq) (ag (pvl 0 eN) (ag (pvl 1 lh) (ag (pvl 2 ie) ah))) (hdb:=lS.d)) ah)) (hdb:=qu.d)))))),?_⟩;rw [show L2.start ["outlook","place","kid","room","given","over"] [V.ref o,V.int v,V.int c,V.int y]=[some (V.ref o),some (V.int v),some (V.int c),some (V.int y),none,none] from rfl];walk_at "rd";refine ⟨T.Outlook,dx,_,ob,T.bW,T.y6,_,rP _ _ _ _,ixL O.hn (B4 nd cr.1 cr.2) ?_⟩;have W:=O.web;refine ⟨T.Outlook,dx,_,ob,T.bW,T.n_web,_,qT _ _ _ _,?_⟩;refine ⟨p,t,m,ps,rs,v,c,rfl,W,fun k' _ _ _ _ h=>?_,fun z=>absurd ⟨vr,cr⟩ z,fun _ _ _ _ z=>by rw [hk1] at z;cases z⟩;rw [hk1] at h;cases h;refine ⟨_,rfl,_,rfl,.inr ⟨by omega,by omega⟩,?_⟩;refine ⟨T.Outlook,dx,_,ob,T.bW,T.n_web,_,qT _ _ _ _,?_⟩;refine ⟨p,t,m,ps,rs,c,v,rfl,W,fun k' _ _ _ _ h=>?_,fun z=>absurd ⟨cr,vr⟩ z,fun _ _ _ _ z=>by rw [hk2] at z;cases z⟩;rw [hk2] at h;cases h;refine ⟨_,rfl,.inl ⟨by omega,by omega⟩,?_⟩;refine ⟨o,p,t,m,ps,rs,r,par,dep,nd,na,ka,ia,kl,bs,S,c,_,rfl,O,cr,fu,fun d hd=>O.cl c cr.1 cr.2 (hS c cm) d hd,fun l1 H1 n1 s1 h1=>?_⟩;refine ⟨o,p,t,m,ps,rs,r,par,dep,nd,na,ka,ia,kl,bs,S,v,_,rfl,O.same s1,vr,.inr ⟨_,rfl⟩,hS,fun l2 H2 n2 s2 h2=>?_⟩;refine ⟨l1,l2,_,_,rfl,s2 _ _ h1,h2,by rw [Jn g R cr.1 cr.2];omega,fun l3 H3 n3 s3 h3=>?_⟩;refine k l3 H3 (s1.free (s2.free n3)) (s1.trans (s2.trans s3)) ?_;unfold byK;rw [e1,e2];exact h3
theorem zj (T:Txt K mg) (hq:aU (CXe P w)) {f:Addr} {fd:FuncData} (D:Df K mg "greatest_load" aF ["outlook","place","over"] f fd) {ir:Addr} {u9:FuncData} (ip:Df K mg "load_by" bL ["outlook","place","kid","room"] ir u9) {dN:Addr} {fH:FuncData} (d7:Df K mg "added" eO ["one","other"] dN fH) (G_added:FnOk P w K mg base (CXe P w) 1 dN fH ["one","other"] (qt T)) {bD:Addr} {cM:FuncData} (bn:Df K mg "idle_kids" bq ["outlook","place","left_out"] bD cM) (G_idle_kids:FnOk P w K mg base (CXe P w) 2 bD cM ["outlook","place","left_out"] (j2 T)) {b4:Addr} {cG:FuncData} (aY:Df K mg "toll" cI ["web","a","b"] b4 cG) (G_toll:FnOk P w K mg base (CXe P w) 3 b4 cG ["web","a","b"] (lJ T)) {dJ:Addr} {fJ:FuncData} (b9:Df K mg "total" fC ["numbers"] dJ fJ) (G_total:FnOk P w K mg base (CXe P w) 1 dJ fJ ["numbers"] (qP T)):∀ n:Nat,FnOk P w K mg base (CXe P w) (2*n+4) f fd ["outlook","place","over"] (ku T n):=by
 intro n;have D_greatest_load:=D
 induction n with
 | zero=>exact D.F.okC df (fun vs H Q E h=>h.elim) (fun cdv A outer s H vs Q E hr h=>h.elim)
 | succ n G_greatest_load =>
 have G_load_by:=Iu T hq ip d7 G_added bn G_idle_kids aY G_toll D_greatest_load (by omega) G_greatest_load;refine D.F.okC df (fun vs H Q E h=>?_) (fun cdv A outer s H vs Q E hr h=>?_)
 . obtain ⟨o,p,t,m,ps,rs,r,par,dep,nd,na,ka,ia,kl,bs,S,v,y,rfl,_⟩:=h
   rfl
 . obtain ⟨o,p,t,m,ps,rs,r,par,dep,nd,na,ka,ia,kl,bs,S,v,y,rfl,O,vr,fu,hS,k⟩:=h;have g:=O.web.go;have R:=O.rt;have m24:=g.m24;obtain ⟨dx,ob⟩:=O.ob;refine ⟨_,(ao (aA (i:=3) df.nd rfl (Or.inl ic.l) (ax gd (bx bB (di  (pvl 0 dH) rfl) (pvl 1 db) (fun _ _=>rfl)) (pvl 2 tX))) (ao (aA (i:=4) df.nd rfl (Or.inl dA.l) (aw G_idle_kids (hr.mono (by omega)) iM.g bn.m bn.F.kp bn.b .nil (aI hq) (ag (pvl 0 dH) (ag (pvl 1 db) (ag BE ah))) (hdb:=iM.d))) (ao (De (pvl 4 dA) (pvl 1 db) zI (pvl 3 ic) GC jQ) (ao (eF PassesOwn.never rfl (kb (bx bB (di  (pvl 0 dH) rfl) (pvl 1 db) (fun _ _=>rfl))) (aR (i:=5) df.nd rfl (Or.inl lP.l)) (ao (aA (i:=6) df.nd rfl (Or.inl hG.l) (aw G_load_by (hr.mono (by omega)) j6.g ip.m ip.F.kp ip.b .nil (aI hq) (ag (pvl 0 dH) (ag (pvl 1 db) (ag (pvl 5 lP) (ag (pvl 3 ic) ah)))) (hdb:=j6.d))) (aq (bX (bf Ez (aw G_total (hr.mono (by omega)) d9.g b9.m b9.F.kp b9.b .nil (aI hq) (ag (pvl 6 hG) ah) (hdb:=d9.d)) (aw G_total (hr.mono (by omega)) d9.g b9.m b9.F.kp b9.b .nil (aI hq) (ag (pvl 4 dA) ah) (hdb:=d9.d)) (bh _)) (aq (aA (i:=4) df.nd rfl (Or.inl dA.l) (pvl 6 hG))) bc)))) (aq (aK (pvl 4 dA))))))),?_⟩;rw [show L2.start ["outlook","place","over","room","best","kid","load"] [V.ref o,V.int v,V.int y]=[some (V.ref o),some (V.int v),some (V.int y),none,none,none,none] from rfl];walk_at "rd";refine ⟨T.Outlook,dx,_,ob,T.bW,T.y6,_,rP _ _ _ _,ixL O.hn (B4 nd vr.1 vr.2) ⟨_,rfl,?_⟩⟩;refine ⟨o,p,t,m,ps,rs,r,par,dep,nd,na,ka,ia,kl,bs,S,v,_,rfl,O,vr,.inl rfl,hS,fun l1 H1 n1 s1 h1=>?_⟩;have kl1:(idK m rs r par (idl m rs r par dep nd) v V.non).length=m.toNat:=tV fun k hk=>by
     have w:=cR g R vr.1 vr.2 hk;exact tm g R w.1.1.1 w.1.1.2
   refine ixL h1 (atG vr.1 (by omega)) ⟨_,rfl,AE h1 vr.1 (by rw [List.length_map];omega) ?_⟩;have s2:=s1.put n1 (.lst (((idK m rs r par (idl m rs r par dep nd) v V.non).map V.int).set v.toNat (V.int ((idK m rs r par (idl m rs r par dep nd) v V.non).getD v.toNat 0+(nd v+y)))));have h2:upd H1 l1 (.lst (((idK m rs r par (idl m rs r par dep nd) v V.non).map V.int).set v.toNat (V.int ((idK m rs r par (idl m rs r par dep nd) v V.non).getD v.toNat 0+(nd v+y))))) l1=some (.lst ((kC (idK m rs r par (idl m rs r par dep nd) v V.non) v (nd v+y)).map V.int)):=by
     rw [aj];unfold kC;rw [List.map_set]
   generalize upd H1 l1 (.lst (((idK m rs r par (idl m rs r par dep nd) v V.non).map V.int).set v.toNat (V.int ((idK m rs r par (idl m rs r par dep nd) v V.non).getD v.toNat 0+(nd v+y)))))=H2 at s2 h2 ⊢;obtain ⟨ak,hak,hkk⟩:=O.kids vr.1 vr.2;refine ⟨T.Outlook,dx,_,s2 _ _ ob,T.bW,T.Gj,_,Bq _ _ _ _,ixL (s2 _ _ O.hk) hak ⟨ak,rfl,⟨_,SqL.of (s2 _ _ hkk)⟩,?_⟩⟩;refine nR (K:=K) (xs:=(kd m rs r par v).map V.int) (fun i σ H3=>Same H H3/\∃ (l:Addr) (v5 v6:Option V),H l=none/\H3 l=some (.lst (((((kd m rs r par v).take i).map (byK m rs r par nd (idl m rs r par dep nd) (gld m rs r par dep nd) v (nd v+y))).foldl ji (kC (idK m rs r par (idl m rs r par dep nd) v .non) v (nd v+y))).map V.int))/\σ=[some (V.ref o),some (V.int v),some (V.int y),some (V.int (nd v+y)),some (V.ref l),v5,v6]) ⟨s2,l1,_,_,n1,h2,rfl⟩ (fun i σ H3 _ z=>SqL.of (z.1 _ _ hkk)) ?_ ?_
   . rintro i y' σ H3 N BB hBB hN hy ⟨s3,l,v5,v6,nl,el,rfl⟩;refine hBB _ _ ?_;rw [List.getElem?_map] at hy;obtain ⟨c,hc,rfl⟩:=Option.map_eq_some_iff.mp hy;have cm:c∈kd m rs r par v:=List.mem_of_getElem? hc;have et:(kd m rs r par v).take (i+1)=(kd m rs r par v).take i++[c]:=(by rw [List.take_succ,hc];rfl);have w:=cR g R vr.1 vr.2 cm;obtain ⟨n',rfl⟩:∃ n',n=n'+1:=⟨n - 1,by omega⟩;walk_at "rd";refine ⟨o,p,t,m,ps,rs,r,par,dep,nd,na,ka,ia,kl,bs,S,v,c,_,rfl,O.same s3,vr,cm,by omega,hS,fun l4 H4 n4 s4 h4=>?_⟩;refine ⟨l4,_,rfl,.inl (SqL.of h4),l,_,rfl,.inl (SqL.of (s4 _ _ el)),?_⟩;refine ⟨_,rfl,_,rfl,?_⟩;have ef:(((kd m rs r par v).take (i+1)).map (byK m rs r par nd (idl m rs r par dep nd) (gld m rs r par dep nd) v (nd v+y))).foldl ji (kC (idK m rs r par (idl m rs r par dep nd) v .non) v (nd v+y))=ji ((((kd m rs r par v).take i).map (byK m rs r par nd (idl m rs r par dep nd) (gld m rs r par dep nd) v (nd v+y))).foldl ji (kC (idK m rs r par (idl m rs r par dep nd) v .non) v (nd v+y))) (byK m rs r par nd (idl m rs r par dep nd) (gld m rs r par dep nd) v (nd v+y) c):=by
       rw [et,List.map_append,List.foldl_append]
       rfl
     split
     . rename_i q
       refine hN _ _ ⟨s3.trans s4,l4,_,_,s3.free n4,?_,rfl⟩;rw [ef,Ga q];exact h4
     . rename_i q
       refine hN _ _ ⟨s3.trans s4,l,_,_,nl,?_,rfl⟩;rw [ef,ER q];exact s4 _ _ el
   . rintro BB σ H3 hBB ⟨s3,l,v5,v6,nl,el,rfl⟩;refine hBB _ _ ?_;rw [List.length_map,List.take_length] at el;walk_at "rd";refine k l H3 nl s3 ?_;rw [qF g R vr.1 vr.2];exact el
theorem An (T:Txt K mg) (hq:aU (CXe P w)) {f:Addr} {fd:FuncData} (D:Df K mg "greatest_load" aF ["outlook","place","over"] f fd) {ir:Addr} {u9:FuncData} (ip:Df K mg "load_by" bL ["outlook","place","kid","room"] ir u9) {dN:Addr} {fH:FuncData} (d7:Df K mg "added" eO ["one","other"] dN fH) (G_added:FnOk P w K mg base (CXe P w) 1 dN fH ["one","other"] (qt T)) {bD:Addr} {cM:FuncData} (bn:Df K mg "idle_kids" bq ["outlook","place","left_out"] bD cM) (G_idle_kids:FnOk P w K mg base (CXe P w) 2 bD cM ["outlook","place","left_out"] (j2 T)) {b4:Addr} {cG:FuncData} (aY:Df K mg "toll" cI ["web","a","b"] b4 cG) (G_toll:FnOk P w K mg base (CXe P w) 3 b4 cG ["web","a","b"] (lJ T)) {dJ:Addr} {fJ:FuncData} (b9:Df K mg "total" fC ["numbers"] dJ fJ) (G_total:FnOk P w K mg base (CXe P w) 1 dJ fJ ["numbers"] (qP T)):FnOk P w K mg base (CXe P w) 54 f fd ["outlook","place","over"] (lw T):=zj T hq D ip d7 G_added bn G_idle_kids aY G_toll b9 G_total 25
def xC (T:Txt K mg):Sp:=fun vs H Q _=>∃ (o p t:Addr) (m:Int) (ps:List Addr) (rs:List Road) (r:Int) (par:Int->Int) (dep:Int->Nat) (nd:Int->Int) (na ka ia:Addr) (kl:List Addr) (bs:List V) (S:Int->Prop) (v:Int),vs=[.ref o,.int v,.int (par v)]/\OutAt T.Web T.Outlook H o p t m ps rs r par dep nd na ka ia kl bs S/\(0<=v/\v<m)/\v≠r/\(∀ c∈kd m rs r par v,S c) /\
 ∀ l H',H l=none->Same H H'->H' l=some (.lst ((idl m rs r par dep nd v).map V.int))->Q (.ref l) H'
abbrev bT:Stmt:=top 47
theorem EG:FnScope ["outlook","place","front"] ["outlook","place","front"] (aa bT):=FnScope.of (by kernel_rfl)
theorem fh:NmL (aa bT) "outlook":=.of (by kernel_rfl)
theorem gi:NmL (aa bT) "place":=.of (by kernel_rfl)
theorem yb:NmL (aa bT) "front":=.of (by kernel_rfl)
theorem kJ:NmG (aa bT) "idle_kids":=.of (by kernel_rfl)
theorem iQ:NmG (aa bT) "greatest_load":=.of (by kernel_rfl)
theorem oE:NmG (aa bT) "toll":=.of (by kernel_rfl)
theorem EA (T:Txt K mg) (hq:aU (CXe P w)) {f:Addr} {fd:FuncData} (D:Df K mg "idle_load" bT ["outlook","place","front"] f fd) {bg:Addr} {cK:FuncData} (D_greatest_load:Df K mg "greatest_load" aF ["outlook","place","over"] bg cK) (G_greatest_load:FnOk P w K mg base (CXe P w) 54 bg cK ["outlook","place","over"] (lw T)) {bD:Addr} {cM:FuncData} (bn:Df K mg "idle_kids" bq ["outlook","place","left_out"] bD cM) (G_idle_kids:FnOk P w K mg base (CXe P w) 2 bD cM ["outlook","place","left_out"] (j2 T)) {b4:Addr} {cG:FuncData} (aY:Df K mg "toll" cI ["web","a","b"] b4 cG) (G_toll:FnOk P w K mg base (CXe P w) 3 b4 cG ["web","a","b"] (lJ T)):FnOk P w K mg base (CXe P w) 55 f fd ["outlook","place","front"] (xC T):=by
 refine D.F.okC EG (fun vs H Q E h=>?_) (fun cdv A outer s H vs Q E hr h=>?_)
 . obtain ⟨o,p,t,m,ps,rs,r,par,dep,nd,na,ka,ia,kl,bs,S,v,rfl,_⟩:=h
   rfl
 . obtain ⟨o,p,t,m,ps,rs,r,par,dep,nd,na,ka,ia,kl,bs,S,v,rfl,O,vr,vn,hS,k⟩:=h;have g:=O.web.go;have R:=O.rt;have m24:=g.m24;have W:=O.web;obtain ⟨dx,ob⟩:=O.ob;obtain ⟨k2,hk2,b0,b1⟩:=ue g R vr.1 vr.2 vn;have e2:upT rs par v=k2:=by unfold upT;rw [hk2];rfl
   have u:=R.up v vr.1 vr.2 vn;rw [vt g R vr.1 vr.2] at k;refine ⟨_,(ao (bX (bf Ez (bx bB (di  (pvl 0 fh) rfl) (pvl 1 gi) (fun _ _=>rfl)) ap (bh _)) (aq (aK (aw G_idle_kids (hr.mono (by decide)) kJ.g bn.m bn.F.kp bn.b .nil (aI hq) (ag (pvl 0 fh) (ag (pvl 1 gi) (ag BE ah))) (hdb:=kJ.d)))) bc) (aq (aK (aw G_greatest_load (hr.mono (by decide)) iQ.g D_greatest_load.m D_greatest_load.F.kp D_greatest_load.b .nil (aI hq) (ag (pvl 0 fh) (ag (pvl 1 gi) (ag (ax pQ (aw G_toll (hr.mono (by decide)) oE.g aY.m aY.F.kp aY.b .nil (aI hq) (ag (di  (pvl 0 fh) rfl) (ag (pvl 1 gi) (ag (pvl 2 yb) ah))) (hdb:=oE.d)) ap) ah))) (hdb:=iQ.d))))),?_⟩;rw [show L2.start ["outlook","place","front"] [V.ref o,V.int v,V.int (par v)]=[some (V.ref o),some (V.int v),some (V.int (par v))] from rfl];walk_at "rd";refine ⟨T.Outlook,dx,_,ob,T.bW,T.y6,_,rP _ _ _ _,ixL O.hn (B4 nd vr.1 vr.2) ⟨_,rfl,?_⟩⟩;by_cases c:0<nd v
   . rw [if_pos c] at k ⊢;exact ⟨o,p,t,m,ps,rs,r,par,dep,nd,na,ka,ia,kl,bs,S,v,_,rfl,O,vr,.inl rfl,hS,k⟩
   . rw [if_neg c] at k ⊢;refine ⟨T.Outlook,dx,_,ob,T.bW,T.n_web,_,qT _ _ _ _,?_⟩;refine ⟨p,t,m,ps,rs,v,par v,rfl,W,fun k' _ _ _ _ h=>?_,fun z=>absurd ⟨vr,u.1⟩ z,fun _ _ _ _ z=>by rw [hk2] at z;cases z⟩;rw [hk2] at h;cases h;refine ⟨_,rfl,?_⟩;refine ⟨o,p,t,m,ps,rs,r,par,dep,nd,na,ka,ia,kl,bs,S,v,_,rfl,O,vr,by show m.toNat<=dep v+1+24;omega,hS,?_⟩;rw [<- e2];exact k
def Ju (T:Txt K mg):Sp:=fun vs H Q E=>∃ (p t:Addr) (m:Int) (ps:List Addr) (rs:List Road) (r:Int),vs=[.ref p,.int r]/\WebAt T.Web H p m t ps rs /\
 (0<=r->r<m->∃ par dep,Rooted m rs r par dep/\∀ l H',H l=none->Same H H'->H' l=some (.lst ((bU m rs r par dep r).map V.int))->(bU m rs r par dep r).Nodup->(∀ v,v∈bU m rs r par dep r↔0<=v/\v<m)->Q (.ref l) H')/\(¬ (0<=r/\r<m)->E (.ref T.NoPlace) none H)
abbrev dX:Stmt:=top 30
theorem o7:FnScope ["web","r","nearer","places","waiting","place","kid"] ["web","r"] (aa dX):=FnScope.of (by kernel_rfl)
theorem zE:NmL (aa dX) "web":=.of (by kernel_rfl)
theorem Dp:NmL (aa dX) "r":=.of (by kernel_rfl)
theorem tU:NmL (aa dX) "nearer":=.of (by kernel_rfl)
theorem mZ:NmL (aa dX) "places":=.of (by kernel_rfl)
theorem jB:NmL (aa dX) "waiting":=.of (by kernel_rfl)
theorem kT:NmL (aa dX) "place":=.of (by kernel_rfl)
theorem zr:NmL (aa dX) "kid":=.of (by kernel_rfl)
theorem wk:NmG (aa dX) "ahead":=.of (by kernel_rfl)
theorem Ar:NmG (aa dX) "reversed":=.of (by kernel_rfl)
theorem yS:NmG (aa dX) "kids":=.of (by kernel_rfl)
theorem R7 (T:Txt K mg) (hq:aU (CXe P w)) {f:Addr} {fd:FuncData} (D:Df K mg "down" dX ["web","r"] f fd) {dL:Addr} {fT:FuncData} (cf:Df K mg "ahead" cF ["web","r"] dL fT) (G_ahead:FnOk P w K mg base (CXe P w) 5 dL fT ["web","r"] (pN T)) {gR:Addr} {lL:FuncData} (eZ:Df K mg "kids" fL ["web","place","front"] gR lL) (G_kids:FnOk P w K mg base (CXe P w) 4 gR lL ["web","place","front"] (y7 T)):FnOk P w K mg base (CXe P w) 6 f fd ["web","r"] (Ju T):=by
 refine D.F.okX o7 (fun vs H Q E h=>?_) (fun cdv A outer s H vs Q E hr h=>?_)
 . obtain ⟨p,t,m,ps,rs,r,rfl,_⟩:=h
   rfl
 . obtain ⟨p,t,m,ps,rs,r,rfl,W,k,e⟩:=h;have g:=W.go;have m24:=g.m24;refine ⟨_,(ao (aA (i:=2) o7.nd rfl (Or.inl tU.l) (aw G_ahead (hr.mono (by decide)) wk.g cf.m cf.F.kp cf.b .nil bF (ag (pvl 0 zE) (ag (pvl 1 Dp) ah)) (hdb:=wk.d))) (ao (aA (i:=3) o7.nd rfl (Or.inl mZ.l) (b5 ah)) (ao (aA (i:=4) o7.nd rfl (Or.inl jB.l) (b5 (ag (pvl 1 Dp) ah))) (ao (vH PassesOwn.leaving (Aj (pvl 4 jB) (fun _=>rfl)) (ao (aA (i:=5) o7.nd rfl (Or.inl kT.l) (Hy PySem.F.plainAttrs_list PySem.F.slot_list_pop PySem.F.type_list_pop Fg (pvl 4 jB))) (ao (cY (oS PySem.F.plainAttrs_list PySem.F.slot_list_append PySem.F.type_list_append ft (pvl 3 mZ) (ag (pvl 5 kT) ah))) (aq (eF PassesOwn.leaving rfl (LY Ar.g T.reversed (aw G_kids (hr.mono (by decide)) yS.g eZ.m eZ.F.kp eZ.b .nil bF (ag (pvl 0 zE) (ag (pvl 5 kT) (ag (bx bB (pvl 2 tU) (pvl 5 kT) (fun _ _=>rfl)) ah))) (hdb:=yS.d))) (aR (i:=6) o7.nd rfl (Or.inl zr.l)) (aq (cY (oS PySem.F.plainAttrs_list PySem.F.slot_list_append PySem.F.type_list_append ft (pvl 4 jB) (ag (pvl 6 zr) ah))))))))) (aq (aK (pvl 3 mZ))))))),?_⟩;rw [show L2.start ["web","r","nearer","places","waiting","place","kid"] [V.ref p,V.int r]=[some (V.ref p),some (V.int r),none,none,none,none,none] from rfl];walk_at "rd";refine ⟨p,t,m,ps,rs,r,rfl,W,fun r0 r1=>?_,e⟩;obtain ⟨par,dep,R,k⟩:=k r0 r1;refine ⟨par,dep,R,fun l1 H1 n1 s1 e1=>⟨by decide,fun l3 n3=>⟨cq (by simp),fun l4 n4=>?_⟩⟩⟩;have n30:H l3=none:=s1.free n3;have s3:=s1.trans (Same.new (.lst []) n3);have n40:H l4=none:=s3.free n4;have n13:l1≠l3:=fun z=>by rw [<- z,e1] at n3;cases n3
   have n34:l3≠l4:=fun z=>by rw [<- z,aj] at n4;cases n4
   have e13:=Same.new (.lst []) n3 _ _ e1;have n14:l1≠l4:=fun z=>by rw [<- z,e13] at n4;cases n4
   have s4:=s3.trans (Same.new (.lst [V.int r]) n4);have e14:=Same.new (.lst [V.int r]) n4 _ _ e13;have e34:upd (upd H1 l3 (.lst [])) l4 (.lst [V.int r]) l3=some (.lst []):=by rw [au n34,aj]
   have e44:upd (upd H1 l3 (.lst [])) l4 (.lst [V.int r]) l4=some (.lst [V.int r]):=aj;generalize upd (upd H1 l3 (.lst [])) l4 (.lst [V.int r])=H4 at s4 e14 e34 e44 ⊢;refine Jh (fun n σ H5=>∃ (ks ws pl:List Int) (v5 v6:Option V),n=2*(m.toNat - ks.length)+ws.length/\σ=[some (.ref p),some (.int r),some (.ref l1),some (.ref l3),some (.ref l4),v5,v6]/\Same H H5/\H5 l1=some (.lst (lC m r par))/\H5 l3=some (.lst (pl.map V.int))/\H5 l4=some (.lst (ws.map V.int))/\AInv m rs r par ks ws/\(pl++ws).Perm (r::ks)/\pl++ws.reverse.flatMap (bU m rs r par dep)=bU m rs r par dep r) (2*m.toNat+1) ⟨[],[r],[],_,_,rfl,rfl,s4,e14,e34,e44,AInv.start,List.Perm.refl _,by simp⟩ ?_;rintro n σ H5 NW BB hBB hN hN2 ⟨ks,ws,pl,v5,v6,rfl,rfl,s5,h1,h3,h4,J,pe,ep⟩;refine hBB _ _ _ ?_;have rk:∀ w∈r::ks,0<=w/\w<m:=fun w hw=>by
     rcases List.mem_cons.mp hw with rfl|z
     . exact ⟨r0,r1⟩
     . exact J.rng w z
   have nk:(r::ks).Nodup:=List.nodup_cons.mpr ⟨J.nr,J.nd⟩;have kl:=dv (m:=m) (by omega) nk rk;have kl1:=dv (m:=m) (by omega) J.nd J.rng;have pl1:=pe.length_eq;rw [List.length_append] at pl1;rw [List.length_cons] at kl pl1;walk_at "rd";refine ⟨_,.inl ⟨_,SqL.of h4,rfl⟩,?_⟩;rcases List.eq_nil_or_concat ws with rfl|⟨ws',q,rfl⟩
   . rw [if_neg (by simp)];rw [List.reverse_nil,List.flatMap_nil,List.append_nil] at ep;rw [List.append_nil] at pe;subst ep;refine k l3 H5 n30 s5 h3 (pe.nodup_iff.mpr nk) fun v=>⟨fun z=>rk v (pe.mem_iff.mp z),fun z=>pe.mem_iff.mpr ?_⟩;by_cases c:v=r
     . rw [c];exact List.mem_cons_self
     . exact List.mem_cons_of_mem _ (J.all R v z.1 z.2 c)
   . rw [List.concat_eq_append] at J h4 hN hN2 pe ep pl1 ⊢;rw [if_pos (by simp)];have hq:q∈ws'++[q]:=List.mem_append_right _ (List.mem_singleton.mpr rfl);have pr:=J.at_ r0 r1 hq;have J2:=J.step g R r0 r1 (p:=q) (ws':=ws') (List.perm_append_singleton q ws');refine ⟨NW,fun σ' H' z=>?_,?_⟩
     . obtain ⟨m',lt,ks',ws'',pl',a5,a6,z1,z2⟩:=hN2 _ _ z;exact ⟨m',lt,ks',ws'',z1,pl',a5,a6,z2⟩
     rw [List.map_append,List.map_cons,List.map_nil] at h4;refine ⟨tyL h4,PK h4 ?_⟩;have s6:Same H (upd H5 l4 (.lst (ws'.map V.int))):=s5.put n40 _;have h36:upd H5 l4 (.lst (ws'.map V.int)) l3=some (.lst (pl.map V.int)):=(by rw [au n34];exact h3);have h16:upd H5 l4 (.lst (ws'.map V.int)) l1=some (.lst (lC m r par)):=(by rw [au n14];exact h1);have h46:upd H5 l4 (.lst (ws'.map V.int)) l4=some (.lst (ws'.map V.int)):=aj;generalize upd H5 l4 (.lst (ws'.map V.int))=H6 at s6 h36 h16 h46 ⊢;refine ⟨tyL h36,vU h36 (eP (by rw [List.length_map];omega)) ?_⟩;have s7:Same H (upd H6 l3 (.lst (pl.map V.int++[V.int q]))):=s6.put n30 _;have h37:upd H6 l3 (.lst (pl.map V.int++[V.int q])) l3=some (.lst ((pl++[q]).map V.int)):=(by rw [aj,List.map_append];rfl);have h17:upd H6 l3 (.lst (pl.map V.int++[V.int q])) l1=some (.lst (lC m r par)):=(by rw [au n13];exact h16);have h47:upd H6 l3 (.lst (pl.map V.int++[V.int q])) l4=some (.lst (ws'.map V.int)):=(by rw [au n34.symm];exact h46);generalize upd H6 l3 (.lst (pl.map V.int++[V.int q]))=H7 at s7 h37 h17 h47 ⊢;refine ixL h17 (g9 pr.1 (um pr.1 pr.2)) ?_;have hfv:Pb.front r par q=.non\/∃ i,Pb.front r par q=.int i:=by
       unfold Pb.front;by_cases c:q=r
       . rw [if_pos c];exact .inl rfl
       . rw [if_neg c];exact .inr ⟨_,rfl⟩
     have pq:=ii g R pr.1 pr.2;refine ⟨p,t,m,ps,rs,q,_,rfl,W.same s7,pr.1,pr.2,hfv,fun l8 H8 n8 s8 e8=>⟨l8,rfl,_,SqL.of e8,?_⟩⟩;generalize aJ m rs (Pb.front r par q) q=kk at e8 J2 pq ⊢;have n81:l1≠l8:=fun z=>by rw [<- z,h17] at n8;cases n8
     have n83:l3≠l8:=fun z=>by rw [<- z,h37] at n8;cases n8
     have n84:l4≠l8:=fun z=>by rw [<- z,h47] at n8;cases n8
     have kl2:=dv (m:=m) (by omega) J2.nd J2.rng;rw [List.length_append] at kl2;have wl2:=dv (m:=m) (by omega) J2.wnd fun w hw=>J2.at_ r0 r1 hw;rw [List.length_append] at wl2;refine Qn (K:=K) (xs:=kk.map V.int) (fun i σ H9=>∃ v6,σ=[some (.ref p),some (.int r),some (.ref l1),some (.ref l3),some (.ref l4),some (.int q),v6]/\Same H H9/\H9 l8=some (.lst (kk.map V.int))/\H9 l1=some (.lst (lC m r par))/\H9 l3=some (.lst ((pl++[q]).map V.int))/\H9 l4=some (.lst ((ws'++kk.reverse.take i).map V.int))) ⟨_,rfl,s7.trans s8,e8,s8 _ _ h17,s8 _ _ h37,by rw [List.take_zero,List.append_nil];exact s8 _ _ h47⟩ (fun i σ H9 _ z=>by obtain ⟨_,_,_,z,_⟩:=z;exact SqL.of z) ?_ ?_
     . rintro i x σ H9 NI hI hi ⟨v6,rfl,s9,e9,h19,h39,h49⟩;rw [<- List.map_reverse,List.getElem?_map] at hi;obtain ⟨v,hv,rfl⟩:=Option.map_eq_some_iff.mp hi;have et:kk.reverse.take (i+1)=kk.reverse.take i++[v]:=(by rw [List.take_succ,hv];rfl);have wlen:(ws'++kk.reverse.take i).length<=100:=by
         rw [List.length_append,List.length_take,List.length_reverse];omega
       walk_at "rd";refine ⟨tyL h49,vU h49 (eP (by rw [List.length_map];omega)) (hI _ _ ⟨_,rfl,s9.put n40 _,?_,?_,?_,?_⟩)⟩
       . rw [au n84.symm];exact e9
       . rw [au n14];exact h19
       . rw [au n34];exact h39
       . rw [aj,et,<- List.append_assoc,List.map_append (l₁:=ws'++kk.reverse.take i)];rfl
     . rintro σ H9 ⟨v6,rfl,s9,e9,h19,h39,h49⟩;rw [List.length_map,show kk.length=kk.reverse.length by rw [List.length_reverse],List.take_length] at h49;refine hN _ _ _ ?_ ⟨ks++kk,ws'++kk.reverse,pl++[q],_,_,rfl,rfl,s9,h19,h39,h49,J2.perm (List.Perm.append_left _ kk.reverse_perm.symm),?_,?_⟩
       . rw [List.length_append,List.length_append,List.length_append,List.length_reverse];simp only [List.length_cons,List.length_nil];omega
       . have p1:(pl++[q]++(ws'++kk.reverse)).Perm (pl++(ws'++[q])++kk):=by
           rw [List.append_assoc,List.append_assoc];refine List.Perm.append_left _ ?_;rw [<- List.append_assoc];exact List.Perm.append (List.perm_append_comm) kk.reverse_perm
         exact p1.trans (List.Perm.append_right _ pe)
       . rw [<- ep,List.reverse_append,List.reverse_append,List.reverse_reverse,List.reverse_singleton,List.singleton_append,List.flatMap_cons,pq,List.flatMap_append];simp
/-- the places of a row with the ones ahead of them,from its end -/
def JX (par:Int->Int) (v:Int):List V:=[.int v,.int (par v)]
abbrev PairsAt (H:Hp) (par:Int->Int):List Addr->List Int->Prop:=Paired fun q v=>H q=some (.tup (JX par v))
theorem PairsAt.same {H H':Hp} {par:Int->Int} {qs:List Addr} {vs:List Int} (e:Same H H') (h:PairsAt H par qs vs):PairsAt H' par qs vs:=Paired.imp' (fun q v x=>e q _ x) h
theorem PairsAt.get {H:Hp} {par:Int->Int}:∀ {ps:List Addr} {rs:List Int} {i:Nat} {x:V},PairsAt H par ps rs->(ps.map V.ref)[i]?=some x->∃ p r,x=.ref p/\ps[i]?=some p/\rs[i]?=some r/\H p=some (.tup (JX par r))
 | _,_,i,x,.nil,e=>by simp at e
 | _,_,0,x,.cons (a:=p) (b:=r) h hs,e=>⟨p,r,by simpa using e.symm,by simp,by simp,h⟩
 | a::l1,_,i+1,x,.cons h hs,e=>by
   have e':(List.map V.ref l1)[i]?=some x:=by simpa using e
   obtain ⟨p,r,h1,h2,h3,h4⟩:=PairsAt.get hs e';exact ⟨p,r,h1,by simpa using h2,by simpa using h3,h4⟩
theorem PairsAt.snoc {H:Hp} {par:Int->Int} {q:Addr} {v:Int} (e:H q=some (.tup (JX par v))):∀ {qs:List Addr} {vs:List Int},PairsAt H par qs vs->PairsAt H par (qs++[q]) (vs++[v])
 | _,_,.nil=>.cons e .nil
 | _,_,.cons x xs=>.cons x (PairsAt.snoc e xs)
def nU (T:Txt K mg):Sp:=fun vs H Q E=>∃ (p t:Addr) (m:Int) (ps:List Addr) (rs:List Road) (r:Int),vs=[.ref p,.int r]/\WebAt T.Web H p m t ps rs /\
 (0<=r->r<m->∃ par dep,Rooted m rs r par dep/\∀ l qs tl H',bU m rs r par dep r=r::tl->H l=none->Same H H'->H' l=some (.lst (qs.map V.ref))->PairsAt H' par qs tl.reverse->Order m r par tl->Q (.ref l) H')/\(¬ (0<=r/\r<m)->E (.ref T.NoPlace) none H)
abbrev cJ:Stmt:=top 32
theorem Dy:FnScope ["web","r","nearer"] ["web","r"] (aa cJ):=FnScope.of (by kernel_rfl)
theorem wc:NmL (aa cJ) "web":=.of (by kernel_rfl)
theorem zF:NmC (aa cJ) "r":=.of (by kernel_rfl)
theorem AD:NmC (aa cJ) "nearer":=.of (by kernel_rfl)
theorem rc:NmG (aa cJ) "ahead":=.of (by kernel_rfl)
theorem yV:NmG (aa cJ) "reversed":=.of (by kernel_rfl)
theorem tG:NmG (aa cJ) "down":=.of (by kernel_rfl)
theorem Mo (T:Txt K mg) (hq:aU (CXe P w)) {f:Addr} {fd:FuncData} (D:Df K mg "inward" cJ ["web","r"] f fd) {dL:Addr} {fT:FuncData} (cf:Df K mg "ahead" cF ["web","r"] dL fT) (G_ahead:FnOk P w K mg base (CXe P w) 5 dL fT ["web","r"] (pN T)) {pO:Addr} {IT:FuncData} (tR:Df K mg "down" dX ["web","r"] pO IT) (G_down:FnOk P w K mg base (CXe P w) 6 pO IT ["web","r"] (Ju T)):FnOk P w K mg base (CXe P w) 7 f fd ["web","r"] (nU T):=by
 refine D.F.okX Dy (fun vs H Q E h=>?_) (fun cdv A outer s H vs Q E hr h=>?_)
 . obtain ⟨p,t,m,ps,rs,r,rfl,_⟩:=h
   rfl
 . obtain ⟨p,t,m,ps,rs,r,rfl,W,k,e⟩:=h;have g:=W.go;have m24:=g.m24;refine ⟨_,(ao (aA (i:=2) Dy.nd rfl (Or.inr AD.l) (aw G_ahead (hr.mono (by decide)) rc.g cf.m cf.F.kp cf.b .nil bF (ag (pvl 0 wc) (ag (pvc 1 zF) ah)) (hdb:=rc.d))) (aq (aK (oZ rfl (sU (Nc:=["place","nearer","r"]) 1 [2,1] (by decide +kernel) rfl (by decide +kernel) rfl (by show ∀ (y:Str × NameKind),y∈_->y.2=NameKind.free->(aa cJ).names.lookup y.1=some NameKind.cell;decide +kernel) rfl (fun _ h=>kY h) (fun i hi=>match i,hi with|0,_=>⟨"nearer",2,rfl,rfl,rfl,by decide +kernel⟩|1,_=>⟨"r",1,rfl,rfl,rfl,by decide +kernel⟩|i+2,hi=>absurd hi (by show ¬ i+2<2;omega))) (LY yV.g T.reversed (aw G_down (hr.mono (by decide)) tG.g tR.m tR.F.kp tR.b .nil bF (ag (pvl 0 wc) (ag (pvc 1 zF) ah)) (hdb:=tG.d))) (fun _ _ _ _=>(aR (i:=0) (show (["place","nearer","r"]:List Str).Nodup from by decide +kernel) rfl (Or.inl rfl))) (fun _ _ _ _=>(C8 (bf oN (pv 0) (pv 2) (bh _)))) (fun _ _ _ _=>(wQ (ag (pv 0) (ag (bx (QQ K rfl) (pv 1) (pv 0) (fun _ _=>rfl)) ah)))))))),?_⟩;rw [show L2.start ["web","r","nearer"] [V.ref p,V.int r]=[some (V.ref p),some (V.int r),none] from rfl];walk_at "rd";refine ex6 p t m ps rs r ?_;refine an4 rfl W (fun r0 r1=>?_) e;obtain ⟨par,dep,R,k⟩:=k r0 r1;refine ⟨par,dep,R,fun l1 H1 n1 s1 e1=>?_⟩;refine ex6 p t m ps rs r ?_;refine an4 rfl (W.same s1) (fun _ _=>⟨par,dep,R,fun l2 H2 n2 s2 e2 nd al=>?_⟩) (fun z=>absurd ⟨r0,r1⟩ z);obtain ⟨tl,et,O⟩:=AQ g R r0 r1 nd al;have ll:=NR g R r0 r1;rw [et] at e2 ll;rw [List.length_cons] at ll;refine ⟨l2,rfl,_,SqL.of e2,fun pc npc=>?_⟩;have e12:=s2 _ _ e1;have s12:=s1.trans s2;have npc0:=s12.free npc;refine NQ (K:=K) (xs:=(r::tl).map V.int) (fun i zs σ H3=>Same H2 H3/\H3 pc=some (.lst zs)/\(∃ qs:List Addr,zs=qs.map V.ref/\PairsAt H3 par qs (tl.reverse.take i))/\∃ v,σ=[v,some (V.ref l1),some (V.int r)]) ⟨Same.new _ npc,aj,⟨[],rfl,.nil⟩,_,rfl⟩ (fun i zs σ H3 _ z=>SqL.of (z.1 _ _ e2)) ?_ ?_
   . rintro i x zs σ H3 N hN hx ⟨s3,e3,⟨qs,rfl,pa⟩,v,rfl⟩;rw [<- List.map_reverse,List.reverse_cons,List.getElem?_map] at hx;obtain ⟨y,gy,rfl⟩:=Option.map_eq_some_iff.mp hx;have il:=(List.getElem?_eq_some_iff.mp gy).1;rw [List.length_append,List.length_reverse] at il;have ql:qs.length=(tl.reverse.take i).length:=Paired.length pa;rw [List.length_take,List.length_reverse] at ql;walk_at "rd";by_cases c:i<tl.length
     . rw [List.getElem?_append_left (by rw [List.length_reverse];exact c)] at gy;have ym:y∈tl:=List.mem_reverse.mp (List.mem_of_getElem? gy);have yr:=O.rng y ym;rw [if_pos (O.ne ym)];have gp:atI (lC m r par) y=some (V.int (par y)):=by
         have ef:Pb.front r par y=V.int (par y):=(by unfold Pb.front;rw [if_neg (O.ne ym)]);rw [<- ef];exact g9 yr.1 (um yr.1 yr.2)
       refine ixL (s3 _ _ e12) gp ⟨cq (by simp),fun q nq=>?_⟩;have s4:=Same.new (.tup [V.int y,V.int (par y)]) nq;have nqp:q≠pc:=fun z=>by rw [z,e3] at nq;cases nq
       refine ⟨s4 _ _ e3,eP (by rw [List.length_map];omega),hN _ _ _ ⟨(s3.trans s4).put npc _,aj,⟨qs++[q],by rw [List.map_append];rfl,?_⟩,_,rfl⟩⟩;rw [List.take_succ,gy];refine PairsAt.snoc (by rw [au nqp,aj];rfl) ?_;exact Paired.imp' (fun a b h=>by
         rw [au (gI h e3 (by intro z;cases z)),au (bA h nq)];exact h) pa
     . have ei:i=tl.reverse.length:=(by rw [List.length_reverse];simp at il;omega);rw [ei,List.getElem?_append_right (Nat.le_refl _),Nat.sub_self] at gy;cases gy;rw [if_neg (fun z=>z rfl)];refine hN _ _ _ ⟨s3,e3,⟨qs,rfl,?_⟩,_,rfl⟩;rw [List.take_of_length_le (by omega)] at pa ⊢;exact pa
   . rintro zs σ H3 ⟨s3,e3,⟨qs,rfl,pa⟩,v,rfl⟩;rw [List.take_of_length_le (by rw [List.length_map,List.length_reverse,List.length_cons];omega)] at pa;exact k pc qs tl H3 et npc0 (s12.trans s3) e3 pa O
def az (m:Int) (xs:List Int):Bool:=decide ((xs.length:Int)=m) && xs.all fun x=>decide (0<=x)
theorem q8 {m:Int} {xs:List Int} (h:(xs.length:Int)=m) (h0:∀ x∈xs,0<=x):az m xs=true:=by
 unfold az;rw [decide_eq_true h,Bool.true_and,List.all_eq_true];exact fun x hx=>decide_eq_true (h0 x hx)
theorem JM {m:Int} {xs:List Int} (h:az m xs=true):(xs.length:Int)=m:=by
 unfold az at h;rw [Bool.and_eq_true] at h;exact of_decide_eq_true h.1
theorem Mx {m:Int} {xs:List Int} (h:az m xs=true):∀ x∈xs,0<=x:=by
 unfold az at h;rw [Bool.and_eq_true,List.all_eq_true] at h;exact fun x hx=>of_decide_eq_true (h.2 x hx)
def qS (T:Txt K mg):Sp:=fun vs H Q _=>∃ (p a t:Addr) (c:Bool) (m:Int) (ps:List Addr) (rs:List Road) (xs:List Int),vs=[.ref p,.ref a]/\WebAt T.Web H p m t ps rs/\SqX K c H a (xs.map V.int)/\xs.length<=1000/\∀ H',Same H H'->Q (.bl (az m xs)) H'
abbrev ce:Stmt:=top 24
theorem GB:FnScope ["web","numbers"] ["web","numbers"] (aa ce):=FnScope.of (by kernel_rfl)
theorem Am:NmL (aa ce) "web":=.of (by kernel_rfl)
theorem lO:NmL (aa ce) "numbers":=.of (by kernel_rfl)
theorem k7:NmG (aa ce) "len":=.of (by kernel_rfl)
theorem lG:NmG (aa ce) "all":=.of (by kernel_rfl)
theorem Hi (T:Txt K mg) (hq:aU (CXe P w)) {f:Addr} {fd:FuncData} (D:Df K mg "is_filled" ce ["web","numbers"] f fd):FnOk P w K mg base (CXe P w) 1 f fd ["web","numbers"] (qS T):=by
 refine D.F.okC GB (fun vs H Q E h=>?_) (fun cdv A outer s H vs Q E hr h=>?_)
 . obtain ⟨p,a,t,c,m,ps,rs,xs,rfl,_⟩:=h
   rfl
 . obtain ⟨p,a,t,c,m,ps,rs,xs,rfl,W,ha,hz,k⟩:=h;refine ⟨_,(aq (aK (Tk (sS gH (fM gZ k7.g T.len pM (ag (pvl 1 lO) ah) (hn:=k7.n) (hdb:=k7.d)) (di  (pvl 0 Am) rfl) (bh _)) (SQ (fM (NL rfl) lG.g T.all Ta (ag (oZ rfl (AL (Nc:=["number"]) 1 (by decide +kernel) (by decide +kernel) rfl (by decide +kernel) rfl) (Lg c (pvl 1 lO)) (fun _ _ _ _=>(aR (i:=0) (show (["number"]:List Str).Nodup from by decide +kernel) rfl (Or.inl rfl))) (fun _ _ _ _=>tQ) (fun _ _ _ _=>(sS KR (pv 0) ap (bh _)))) ah) (hn:=lG.n) (hdb:=lG.d)))))),?_⟩;rw [show L2.start ["web","numbers"] [V.ref p,V.ref a]=[some (V.ref p),some (V.ref a)] from rfl];walk_at "rd";obtain ⟨dx,ob⟩:=W.ob;have ha':SqL K H a (xs.map V.int)\/SqT K H a (xs.map V.int):=by
     cases c
     . exact .inr ha
     . exact .inl ha
   refine ⟨_,ha',T.Web,dx,_,ob,T.jL,T.n_many,_,kc m t,rfl,?_⟩;rw [List.length_map];by_cases hm:(xs.length:Int)=m
   . rw [if_pos (by rw [hm])];refine ⟨⟨_,ha⟩,fun l nl=>?_⟩;refine Ax (K:=K) (c:=c) (xs:=xs.map V.int) (fun i bs σ H2=>Same H H2/\H2 l=some (.lst bs)/\bs=((xs.take i).map fun x=>decide (0<=x)).map V.bl/\∃ v,σ=[v]) ⟨Same.new _ nl,aj,rfl,_,rfl⟩ (fun i bs σ H2 _ z=>Same.sqX z.1 ha) ?_ ?_
     . rintro i x bs σ H2 N hN hx ⟨s2,e2,rfl,v,rfl⟩;rw [List.getElem?_map] at hx;obtain ⟨y,gy,rfl⟩:=Option.map_eq_some_iff.mp hx;walk_at "rd";refine ⟨e2,eP (by rw [List.length_map,List.length_map,List.length_take];omega),hN _ _ _ ⟨s2.put nl _,aj,?_,_,rfl⟩⟩;rw [List.take_succ,gy,List.map_append,List.map_append]
       rfl
     . rintro bs σ H2 ⟨s2,e2,rfl,v,rfl⟩;refine ⟨l,rfl,_,SqL.of e2,?_⟩;have e:(((xs.take (xs.map V.int).length).map fun x=>decide (0<=x)).all id)=az m xs:=by
         rw [List.length_map,List.take_length,List.all_map];unfold az;rw [decide_eq_true hm,Bool.true_and]
         rfl
       rw [e];exact k _ s2
   . rw [if_neg (fun z=>hm (by injection z))];have e:az m xs=false:=by
       unfold az;rw [decide_eq_false hm,Bool.false_and]
     rw [e] at k;exact k H (Same.refl _)
def oU (T:Txt K mg):Sp:=fun vs H Q E=>∃ (p a t:Addr) (c:Bool) (m:Int) (ps:List Addr) (rs:List Road) (xs:List Int),vs=[.ref p,.ref a]/\WebAt T.Web H p m t ps rs/\SqX K c H a (xs.map V.int)/\xs.length<=1000 /\
 (az m xs=true->∀ l H',Same H H'->SqT K H' l (xs.map V.int)->Q (.ref l) H')/\(az m xs=false->∀ H',Same H H'->E (.ref T.BadWish) none H')
abbrev cH:Stmt:=top 34
theorem K9:FnScope ["web","numbers"] ["web","numbers"] (aa cH):=FnScope.of (by kernel_rfl)
theorem CC:NmL (aa cH) "web":=.of (by kernel_rfl)
theorem nI:NmL (aa cH) "numbers":=.of (by kernel_rfl)
theorem my:NmG (aa cH) "is_filled":=.of (by kernel_rfl)
theorem nM:NmG (aa cH) "BadWish":=.of (by kernel_rfl)
theorem lm:NmG (aa cH) "tuple":=.of (by kernel_rfl)
theorem Kk (T:Txt K mg) (hq:aU (CXe P w)) {f:Addr} {fd:FuncData} (D:Df K mg "wish_of" cH ["web","numbers"] f fd) {dC:Addr} {jZ:FuncData} (c6:Df K mg "is_filled" ce ["web","numbers"] dC jZ) (G_is_filled:FnOk P w K mg base (CXe P w) 1 dC jZ ["web","numbers"] (qS T)):FnOk P w K mg base (CXe P w) 2 f fd ["web","numbers"] (oU T):=by
 refine D.F.okX K9 (fun vs H Q E h=>?_) (fun cdv A outer s H vs Q E hr h=>?_)
 . obtain ⟨p,a,t,c,m,ps,rs,xs,rfl,_⟩:=h
   rfl
 . obtain ⟨p,a,t,c,m,ps,rs,xs,rfl,W,ha,hz,k,e⟩:=h;refine ⟨_,(ao (bX (pW (p8 (aw G_is_filled (hr.mono (by decide)) my.g c6.m c6.F.kp c6.b .nil bF (ag (pvl 0 CC) (ag (pvl 1 nI) ah)) (hdb:=my.d)))) (aq (pU T.Md rfl tP nM.g T.Mf (ag yM ah) (hdb:=nM.d))) bc) (aq (aK (gj ja lm.g T.tuple pZ (ag (pvl 1 nI) ah) (hn:=lm.n) (hdb:=lm.d))))),?_⟩;rw [show L2.start ["web","numbers"] [V.ref p,V.ref a]=[some (V.ref p),some (V.ref a)] from rfl];walk_at "rd";refine ⟨p,a,t,c,m,ps,rs,xs,rfl,W,ha,hz,fun H1 s1=>⟨_,rfl,?_⟩⟩;by_cases z:az m xs=false
   . rw [if_pos z];exact ⟨by decide,e z H1 s1⟩
   . rw [if_neg z];have z':az m xs=true:=(by simpa using z);cases c
     . exact ⟨_,.inr ⟨Same.sqX (c:=false) s1 ha,k z' a H1 s1 (Same.sqX (c:=false) s1 ha)⟩⟩
     . exact ⟨_,.inl ⟨Same.sqX (c:=true) s1 ha,fun l nl=>k z' l _ (s1.trans (Same.new _ nl)) (SqT.of aj)⟩⟩
def AB (T:Txt K mg):Sp:=fun vs H Q E=>∃ (p a t:Addr) (c:Bool) (m:Int) (ps:List Addr) (rs:List Road) (xs:List Int) (r:Int),vs=[.ref p,.ref a,.int r]/\WebAt T.Web H p m t ps rs/\SqX K c H a (xs.map V.int)/\xs.length<=1000 /\
 (az m xs=true->0<=r->r<m->∃ par dep,Rooted m rs r par dep/\∀ l H',H l=none->Same H H'->H' l=some (.lst ((uk m rs r par dep (fun v=>xs.getD v.toNat 0) (ned rs par)).map V.int))->Q (.ref l) H') /\
 (az m xs=false->∀ H',Same H H'->E (.ref T.BadWish) none H')/\(az m xs=true->¬ (0<=r/\r<m)->∀ H',Same H H'->E (.ref T.NoPlace) none H')
abbrev cQ:Stmt:=top 41
theorem uK:FnScope ["web","wish","r","found","place","front"] ["web","wish","r"] (aa cQ):=FnScope.of (by kernel_rfl)
theorem pS:NmL (aa cQ) "web":=.of (by kernel_rfl)
theorem DT:NmL (aa cQ) "wish":=.of (by kernel_rfl)
theorem JO:NmL (aa cQ) "r":=.of (by kernel_rfl)
theorem kf:NmL (aa cQ) "found":=.of (by kernel_rfl)
theorem mN:NmL (aa cQ) "place":=.of (by kernel_rfl)
theorem nu:NmL (aa cQ) "front":=.of (by kernel_rfl)
theorem oq:NmG (aa cQ) "list":=.of (by kernel_rfl)
theorem qE:NmG (aa cQ) "wish_of":=.of (by kernel_rfl)
theorem re:NmG (aa cQ) "inward":=.of (by kernel_rfl)
theorem wv:NmG (aa cQ) "toll":=.of (by kernel_rfl)
theorem QU (T:Txt K mg) (hq:aU (CXe P w)) {f:Addr} {fd:FuncData} (D:Df K mg "needs" cQ ["web","wish","r"] f fd) {d6:Addr} {ik:FuncData} (cU:Df K mg "inward" cJ ["web","r"] d6 ik) (G_inward:FnOk P w K mg base (CXe P w) 7 d6 ik ["web","r"] (nU T)) {b4:Addr} {cG:FuncData} (aY:Df K mg "toll" cI ["web","a","b"] b4 cG) (G_toll:FnOk P w K mg base (CXe P w) 3 b4 cG ["web","a","b"] (lJ T)) {dj:Addr} {gg:FuncData} (cg:Df K mg "wish_of" cH ["web","numbers"] dj gg) (G_wish_of:FnOk P w K mg base (CXe P w) 2 dj gg ["web","numbers"] (oU T)):FnOk P w K mg base (CXe P w) 8 f fd ["web","wish","r"] (AB T):=by
 refine D.F.okX uK (fun vs H Q E h=>?_) (fun cdv A outer s H vs Q E hr h=>?_)
 . obtain ⟨p,a,t,c,m,ps,rs,xs,r,rfl,_⟩:=h
   rfl
 . obtain ⟨p,a,t,c,m,ps,rs,xs,r,rfl,W,ha,hz,k,e,e'⟩:=h;have g:=W.go;have m24:=g.m24;refine ⟨_,(ao (aA (i:=3) uK.nd rfl (Or.inl kf.l) (gj l5 oq.g T.list y9 (ag (aw G_wish_of (hr.mono (by decide)) qE.g cg.m cg.F.kp cg.b .nil bF (ag (pvl 0 pS) (ag (pvl 1 DT) ah)) (hdb:=qE.d)) ah) (hn:=oq.n) (hdb:=oq.d))) (ao (eF PassesOwn.leaving rfl (kb (aw G_inward (hr.mono (by decide)) re.g cU.m cU.F.kp cU.b .nil bF (ag (pvl 0 pS) (ag (pvl 2 JO) ah)) (hdb:=re.d))) (sV (n:=2) rfl (cT (aR (i:=4) uK.nd rfl (Or.inl mN.l)) (cT (aR (i:=5) uK.nd rfl (Or.inl nu.l)) ng))) (aq (De (pvl 3 kf) (pvl 5 nu) zI (ax i9 (bx bB (pvl 3 kf) (pvl 4 mN) (fun _ _=>rfl)) (aw G_toll (hr.mono (by decide)) wv.g aY.m aY.F.kp aY.b .nil bF (ag (pvl 0 pS) (ag (pvl 5 nu) (ag (pvl 4 mN) ah))) (hdb:=wv.d))) GC jQ))) (aq (aK (pvl 3 kf))))),?_⟩;rw [show L2.start ["web","wish","r","found","place","front"] [V.ref p,V.ref a,V.int r]=[some (V.ref p),some (V.ref a),some (V.int r),none,none,none] from rfl];walk_at "rd";refine ex8 p a t c m ps rs xs ?_;refine an6 rfl W ha hz (fun fi l0 H0 s0 e0=>?_) e;have xl:(xs.length:Int)=m:=by
     unfold az at fi;rw [Bool.and_eq_true] at fi;exact of_decide_eq_true fi.1
   refine ⟨l0,rfl,_,.inr e0,fun l n1=>?_⟩;have s1:=Same.new (.lst (xs.map V.int)) n1;have s01:=s0.trans s1;have nl:=s0.free n1;have e1:upd H0 l (.lst (xs.map V.int)) l=some (.lst (xs.map V.int)):=aj;generalize upd H0 l (.lst (xs.map V.int))=H1 at s1 s01 e1 ⊢;refine ex6 p t m ps rs r ?_;refine an4 rfl (W.same s01) (fun r0 r1=>?_) (fun z=>e' fi z H1 s01);obtain ⟨par,dep,R,k⟩:=k fi r0 r1;refine ⟨par,dep,R,fun l2 qs tl H2 _ n2 s2 e2 pa O=>?_⟩;have nll:l2≠l:=fun z=>by rw [z,e1] at n2;cases n2
   refine ⟨l2,rfl,⟨_,SqL.of e2⟩,?_⟩;have ql:qs.length=tl.reverse.length:=Paired.length pa;refine nR (K:=K) (xs:=qs.map V.ref) (fun i σ H3=>Same H H3/\H3 l2=some (.lst (qs.map V.ref))/\PairsAt H3 par qs tl.reverse/\∃ (cs:List Int) (v4 v5:Option V),H3 l=some (.lst (cs.map V.int))/\Sofar m rs r par dep (fun v=>xs.getD v.toNat 0) (ned rs par) (tl.drop (tl.length - i)) cs/\σ=[some (V.ref p),some (V.ref a),some (V.int r),some (V.ref l),v4,v5]) ⟨s01.trans s2,e2,pa,xs,_,_,s2 _ _ e1,by rw [Nat.sub_zero,List.drop_length];exact Sofar.nil xl,rfl⟩ (fun i σ H3 _ z=>SqL.of z.2.1) ?_ ?_
   . rintro i x σ H3 N BB hBB hN hx ⟨s3,e3,pa3,cs,v4,v5,c3,so,rfl⟩;refine hBB _ _ ?_;obtain ⟨q,v,rfl,hq,hv,eq⟩:=pa3.get hx;obtain ⟨⟨vr,vn⟩,ev,so'⟩:=O.turn g R so hv;have u:=R.up v vr.1 vr.2 vn;obtain ⟨kk,hk,k0,k1⟩:=tM g R vr.1 vr.2 vn;have cl:=so.len;walk_at "rd";refine ⟨_,SqT.of eq,rfl,_,_,rfl,_,_,rfl,rfl,?_⟩;refine ixL c3 (atG u.1.1 (by omega)) (ixL c3 (atG vr.1 (by omega)) ?_);refine ⟨p,t,m,ps,rs,par v,v,rfl,W.same s3,fun k' _ _ _ _ h=>?_,fun z=>absurd ⟨u.1,vr⟩ z,fun _ _ _ _ z=>by rw [hk] at z;cases z⟩;rw [hk] at h;cases h;refine ⟨_,rfl,_,rfl,.inr ⟨by omega,by omega⟩,_,rfl,AE c3 u.1.1 (by rw [List.length_map];omega) (hN _ _ ⟨s3.put nl _,?_,?_,qU par (ned rs par) cs v,_,_,?_,so',rfl⟩)⟩
     . rw [au nll];exact e3
     . exact Paired.imp' (fun a b h=>by rw [au (gI h c3 (by intro z;cases z))];exact h) pa3
     . rw [aj,<- List.map_set];unfold qU ned;rw [hk]
       rfl
   . rintro BB σ H3 hBB ⟨s3,e3,pa3,cs,v4,v5,c3,so,rfl⟩;refine hBB _ _ ?_;rw [List.length_map,ql,List.length_reverse,Nat.sub_self,List.drop_zero] at so;rw [O.done g R so] at c3;walk_at "rd";exact k l H3 nl s3 c3
theorem OutAt.put {C O:Addr} {H:Hp} {o p t:Addr} {m:Int} {ps:List Addr} {rs:List Road} {r:Int} {par:Int->Int} {dep:Int->Nat} {nd:Int->Int} {na ka ia:Addr} {kl:List Addr} {bs:List V} {S:Int->Prop} (h:OutAt C O H o p t m ps rs r par dep nd na ka ia kl bs S) (hna:na≠ia) (hka:ka≠ia) (hkl:∀ q∈kl,q≠ia) (hd:∀ c,S c->0<=c/\∀ a,atI bs c=some (.ref a)->a≠ia) (bl:bs.length=m.toNat) {v:Int} (v0:0<=v) (v1:v<m) (hS:∀ c∈kd m rs r par v,S c) {l:Addr} (hl:H l=some (.lst ((idl m rs r par dep nd v).map V.int))) (nl:l≠ia) :
   OutAt C O (upd H ia (.lst (bs.set v.toNat (.ref l)))) o p t m ps rs r par dep nd na ka ia kl (bs.set v.toNat (.ref l)) (fun c=>c=v\/S c) where
 ob:=by
   obtain ⟨dx,q⟩:=h.ob;exact ⟨dx,by rw [au (gI q h.hi (by intro z;cases z))];exact q⟩
 web:=by
   have W:=h.web;refine ⟨?_,?_,?_,W.go⟩
   . obtain ⟨dx,q⟩:=W.ob;exact ⟨dx,by rw [au (gI q h.hi (by intro z;cases z))];exact q⟩
   . rw [au (gI W.tu h.hi (by intro z;cases z))];exact W.tu
   . exact Paired.imp' (fun q x e=>by rw [au (gI e h.hi (by intro z;cases z))];exact e) W.ro
 rt:=h.rt
 hn:=by rw [au hna];exact h.hn
 hk:=by rw [au hka];exact h.hk
 kp:=Ca (fun q x hq e=>by rw [au (hkl q hq)];exact e) h.kp
 hi:=aj
 done:=fun c hc=>by
   by_cases e:c=v
   . subst e;refine ⟨l,g9 v0 ?_,by rw [au nl];exact hl⟩;rw [List.getElem?_set_self (by omega)]
   . have hc:=hc.resolve_left e;obtain ⟨a,h1,h2⟩:=h.done c hc;obtain ⟨c0,h3⟩:=hd c hc;refine ⟨a,g9 c0 ?_,by rw [au (h3 a h1)];exact h2⟩;rw [List.getElem?_set_ne (by omega)];exact (BH c0).symm.trans h1
 cl:=fun u u0 u1 hu c hc=>by
   rcases hu with rfl|hu
   . exact .inr (hS c hc)
   . exact .inr (h.cl u u0 u1 hu c hc)
theorem OutAt.sub {C O:Addr} {H:Hp} {o p t:Addr} {m:Int} {ps:List Addr} {rs:List Road} {r:Int} {par:Int->Int} {dep:Int->Nat} {nd:Int->Int} {na ka ia:Addr} {kl:List Addr} {bs:List V} {S:Int->Prop} {S':Int->Prop} (h:OutAt C O H o p t m ps rs r par dep nd na ka ia kl bs S) (f:∀ c,S' c->S c) (cl:∀ u,0<=u->u<m->S' u->∀ c∈kd m rs r par u,S' c):OutAt C O H o p t m ps rs r par dep nd na ka ia kl bs S' :=
 ⟨h.ob,h.web,h.rt,h.hn,h.hk,h.kp,h.hi,fun c hc=>h.done c (f c hc),cl⟩
theorem WebAt.kpt {C O:Addr} {H H':Hp} {o p:Addr} {m:Int} {t dx:Addr} {ps:List Addr} {rs:List Road} (e:Kpt o H H') (ho:H o=some (.ins O dx [])) (h:WebAt C H p m t ps rs):WebAt C H' p m t ps rs :=
 ⟨let ⟨dx,q⟩:=h.ob;⟨dx,e _ _ q (gI q ho (by intro z;cases z))⟩,e _ _ h.tu (gI h.tu ho (by intro z;cases z)),Paired.imp' (fun q x z=>e _ _ z (gI z ho (by intro z;cases z))) h.ro,h.go⟩
def mG (T:Txt K mg):Sp:=fun vs H Q _=>∃ (o dx p a t:Addr) (c:Bool) (m:Int) (ps:List Addr) (rs:List Road) (xs:List Int) (r:Int),vs=[.ref o,.ref p,.ref a,.int r]/\H o=some (.ins T.Outlook dx [])/\WebAt T.Web H p m t ps rs/\SqX K c H a (xs.map V.int)/\az m xs=true/\(0<=r/\r<m) /\
 ∃ par dep,Rooted m rs r par dep/\∀ na ka ia kl bs H',OutAt T.Web T.Outlook H' o p t m ps rs r par dep (gat m rs r par dep (fun v=>xs.getD v.toNat 0) (ned rs par)) na ka ia kl bs (fun v=>(0<=v/\v<m)/\v≠r)->(∀ b x,H b=some x->b≠o->H' b=some x)->Q .non H'
abbrev aB:Stmt:=Jp (top 46) 0
theorem jt:FnScope ["self","web","wish","r","place","front"] ["self","web","wish","r"] (aa aB):=FnScope.of (by kernel_rfl)
theorem bP:NmL (aa aB) "self":=.of (by kernel_rfl)
theorem cS:NmC (aa aB) "web":=.of (by kernel_rfl)
theorem qL:NmL (aa aB) "wish":=.of (by kernel_rfl)
theorem gO:NmL (aa aB) "r":=.of (by kernel_rfl)
theorem fb:NmL (aa aB) "place":=.of (by kernel_rfl)
theorem jA:NmL (aa aB) "front":=.of (by kernel_rfl)
theorem jv:NmG (aa aB) "needs":=.of (by kernel_rfl)
theorem mE:NmG (aa aB) "enumerate":=.of (by kernel_rfl)
theorem jH:NmG (aa aB) "ahead":=.of (by kernel_rfl)
theorem iV:NmG (aa aB) "inward":=.of (by kernel_rfl)
theorem gF:NmG (aa aB) "idle_load":=.of (by kernel_rfl)
theorem wF (T:Txt K mg) (hq:aU (CXe P w)) {f:Addr} {fd:FuncData} (F:Fun K "__init__" "Outlook.__init__" aB f fd) {dL:Addr} {fT:FuncData} (cf:Df K mg "ahead" cF ["web","r"] dL fT) (G_ahead:FnOk P w K mg base (CXe P w) 5 dL fT ["web","r"] (pN T)) {gr:Addr} {yi:FuncData} (jd:Df K mg "idle_load" bT ["outlook","place","front"] gr yi) (G_idle_load:FnOk P w K mg base (CXe P w) 55 gr yi ["outlook","place","front"] (xC T)) {d6:Addr} {ik:FuncData} (cU:Df K mg "inward" cJ ["web","r"] d6 ik) (G_inward:FnOk P w K mg base (CXe P w) 7 d6 ik ["web","r"] (nU T)) {gR:Addr} {lL:FuncData} (eZ:Df K mg "kids" fL ["web","place","front"] gR lL) (G_kids:FnOk P w K mg base (CXe P w) 4 gR lL ["web","place","front"] (y7 T)) {jg:Addr} {qc:FuncData} (ig:Df K mg "needs" cQ ["web","wish","r"] jg qc) (G_needs:FnOk P w K mg base (CXe P w) 8 jg qc ["web","wish","r"] (AB T)):FnOk P w K mg base (CXe P w) 56 f fd ["self","web","wish","r"] (mG T):=by
 refine F.okC jt (fun vs H Q E h=>?_) (fun cdv A outer s H vs Q E hr h=>?_)
 . obtain ⟨o,dx,p,a,t,c,m,ps,rs,xs,r,rfl,_⟩:=h
   rfl
 . obtain ⟨o,dx,p,a,t,c,m,ps,rs,xs,r,rfl,ho,W,ha,fi,rr,par,dep,R,k⟩:=h;have g:=W.go;have m24:=g.m24;obtain ⟨dw,wb⟩:=W.ob;refine ⟨_,(ao (t6 (pvl 0 bP) (pvc 1 cS) rfl) (ao (t6 (pvl 0 bP) (aw G_needs (hr.mono (by decide)) jv.g ig.m ig.F.kp ig.b .nil (aI hq) (ag (pvc 1 cS) (ag (pvl 2 qL) (ag (pvl 3 gO) ah))) (hdb:=jv.d)) rfl) (ao (t6 (pvl 0 bP) (oZ rfl (sU (Nc:=["place","front","web"]) 2 [1] (by decide +kernel) rfl (by decide +kernel) rfl (by show ∀ (y:Str × NameKind),y∈_->y.2=NameKind.free->(aa aB).names.lookup y.1=some NameKind.cell;decide +kernel) rfl (fun _ h=>kY h) (fun i hi=>match i,hi with|0,_=>⟨"web",1,rfl,rfl,rfl,by decide +kernel⟩|i+1,hi=>absurd hi (by show ¬ i+1<1;omega))) (RI true mE.g T.enumerate (aw G_ahead (hr.mono (by decide)) jH.g cf.m cf.F.kp cf.b .nil (aI hq) (ag (pvc 1 cS) (ag (pvl 3 gO) ah)) (hdb:=jH.d))) (fun _ _ _ _=>(Js K rfl (n:=2) rfl (cT (aR (i:=0) (show (["place","front","web"]:List Str).Nodup from by decide +kernel) rfl (Or.inl rfl)) (cT (aR (i:=1) (show (["place","front","web"]:List Str).Nodup from by decide +kernel) rfl (Or.inl rfl)) ng)))) (fun _ _ _ _=>tQ) (fun _ _ _ _=>(aw G_kids (hr.mono (by decide)) (by rfl) eZ.m eZ.F.kp eZ.b .nil (aI hq) (ag (pv 2) (ag (pv 0) (ag (pv 1) ah)))))) rfl) (ao (t6 (pvl 0 bP) (ax xa (b5 (ag BE ah)) (di  (pvc 1 cS) rfl)) rfl) (aq (eF PassesOwn.never rfl (kb (aw G_inward (hr.mono (by decide)) iV.g cU.m cU.F.kp cU.b .nil (aI hq) (ag (pvc 1 cS) (ag (pvl 3 gO) ah)) (hdb:=iV.d))) (sV (n:=2) rfl (cT (aR (i:=4) jt.nd rfl (Or.inl fb.l)) (cT (aR (i:=5) jt.nd rfl (Or.inl jA.l)) ng))) (aq (yQ (aw G_idle_load (hr.mono (by decide)) gF.g jd.m jd.F.kp jd.b .nil (aI hq) (ag (pvl 0 bP) (ag (pvl 4 fb) (ag (pvl 5 jA) ah))) (hdb:=gF.d)) (xK (di  (pvl 0 bP) rfl) (pvl 4 fb) jQ))))))))),?_⟩;rw [show L2.start ["self","web","wish","r","place","front"] [V.ref o,V.ref p,V.ref a,V.int r]=[some (V.ref o),some (V.ref p),some (V.ref a),some (V.int r),none,none] from rfl];walk_at "rd";have xl:(xs.length:Int)=m:=by
     have fi:=fi;unfold az at fi;rw [Bool.and_eq_true] at fi;exact of_decide_eq_true fi.1
   refine ⟨T.Outlook,dx,[],ho,T.bW,T.n_web,by decide,?_⟩;have k1:Kpt o H (upd H o (.ins T.Outlook dx (aV "web" (.ref p) []))):=Kpt.refl.put _;have o1:upd H o (.ins T.Outlook dx (aV "web" (.ref p) [])) o=some (.ins T.Outlook dx (aV "web" (.ref p) [])):=aj;generalize upd H o (.ins T.Outlook dx (aV "web" (.ref p) []))=H1 at k1 o1 ⊢;refine ⟨p,a,t,c,m,ps,rs,xs,r,rfl,W.kpt k1 ho,k1.sqX ho ha,by omega,fun _ _ _=>⟨par,dep,R,fun na H2 n2 s2 e2=>?_⟩,fun z=>(by rw [fi] at z;cases z),fun _ z=>absurd rr z⟩;have k2:=k1.then s2;refine ⟨T.Outlook,dx,_,s2 _ _ o1,T.bW,T.y6,by show 1<1000;decide,?_⟩;have nao:na≠o:=fun z=>by rw [z,o1] at n2;cases n2
   have k3:=k2.put (.ins T.Outlook dx (aV "needs" (.ref na) (aV "web" (.ref p) [])));have o3:upd H2 o (.ins T.Outlook dx (aV "needs" (.ref na) (aV "web" (.ref p) []))) o=some (.ins T.Outlook dx (aV "needs" (.ref na) (aV "web" (.ref p) []))):=aj;have e3:upd H2 o (.ins T.Outlook dx (aV "needs" (.ref na) (aV "web" (.ref p) []))) na=_:=(au nao).trans e2;generalize upd H2 o (.ins T.Outlook dx (aV "needs" (.ref na) (aV "web" (.ref p) [])))=H3 at k3 o3 e3 ⊢;have W3:=W.kpt k3 ho;refine ⟨p,t,m,ps,rs,r,rfl,W3,fun _ _=>⟨par,dep,R,fun la H4 n4 s4 e4=>⟨la,rfl,⟨_,SqL.of e4⟩,fun ka nka=>?_⟩⟩,fun z=>absurd rr z⟩;have n3ka:=s4.free nka;refine LS (K:=K) (c:=true) (xs:=lC m r par) (fun i ys σ H5=>Same H4 H5/\H5 ka=some (.lst ys)/\(∃ kl:List Addr,ys=kl.map V.ref/\Paired (fun a v=>H5 a=some (.lst ((kd m rs r par v).map V.int))) kl ((below m.toNat).take i)/\∀ q∈kl,q≠ka)/\∃ v w,σ=[v,w,some (V.ref p)]) ⟨Same.new _ nka,aj,⟨[],rfl,.nil,by simp⟩,_,_,rfl⟩ (fun i ys σ H5 z=>SqL.of (z.1 _ _ e4)) ?_ ?_
   . rintro i x ys σ H5 q N hN hx ⟨s5,e5,⟨kl,rfl,pk,hkq⟩,v,w,rfl⟩ nq;have il:i<m.toNat:=by
       have:=(List.getElem?_eq_some_iff.mp hx).1;unfold lC at this
       rwa [List.length_map,bz] at this
     have ex:x=Pb.front r par (i:Int):=by
       have:=um (m:=m) (r:=r) (par:=par) (v:=(i:Int)) (by omega) (by omega);rw [show ((i:Int)).toNat=i from rfl,hx] at this;exact Option.some.inj this
     have qe:=s5 _ _ e4;have s6:=Same.new (.tup [V.int i,x]) nq;have s46:=s5.trans s6;have et:(below m.toNat).take (i+1)=(below m.toNat).take i++[(i:Int)]:=(by rw [List.take_succ,gf il];rfl);have kll:kl.length<=24:=by
       have:=Paired.length pk;rw [List.length_take] at this;omega
     walk_at "rd";refine ⟨_,SqT.of aj,rfl,_,_,rfl,_,_,rfl,rfl,?_⟩;refine ⟨p,t,m,ps,rs,i,x,rfl,W3.same (s4.trans s46),by omega,by omega,?_,fun l6 H6 n6 s7 e7=>?_⟩
     . rw [ex];unfold Pb.front;split
       . exact .inl rfl
       . exact .inr ⟨_,rfl⟩
     have s57:=s6.trans s7;refine ⟨s57 _ _ e5,eP (by rw [List.length_map];omega),hN _ _ _ ⟨(s5.trans s57).put nka _,aj,⟨kl++[l6],by rw [List.map_append];rfl,?_,fun q hq=>?_⟩,_,_,rfl⟩⟩;have nk:l6≠ka:=fun z=>by rw [z,s6 _ _ e5] at n6;cases n6
     rotate_left
     . rcases List.mem_append.mp hq with h|h
       . exact hkq q h
       . rw [List.mem_singleton.mp h];exact fun z=>by rw [z,s6 _ _ e5] at n6;cases n6
     rw [et];refine Ai (by rw [au nk,e7,ex]) (Ca (fun q v hq h=>?_) pk);have e:q≠ka:=fun z=>hkq q hq z;rw [au e];exact s57 _ _ h
   . rintro ys σ H5 ⟨s5,e5,⟨kl,rfl,pk,hkq⟩,v,w,rfl⟩;rw [show (lC m r par).length=m.toNat by unfold lC;rw [List.length_map,bz],List.take_of_length_le (by rw [bz];exact Nat.le_refl _)] at pk;have o5:=s5 _ _ (s4 _ _ o3);have k5:=(k3.then s4).then s5;have e5n:=s5 _ _ (s4 _ _ e3);refine ⟨T.Outlook,dx,_,o5,T.bW,T.Gj,by show 2<1000;decide,by decide,fun l1 n1=>?_⟩;have kao:ka≠o:=fun z=>by rw [z,o5] at e5;cases e5
     have k6:=k5.put (.ins T.Outlook dx (aV "kids" (.ref ka) (aV "needs" (.ref na) (aV "web" (.ref p) []))));have o6:upd H5 o (.ins T.Outlook dx (aV "kids" (.ref ka) (aV "needs" (.ref na) (aV "web" (.ref p) [])))) o=some (.ins T.Outlook dx (aV "kids" (.ref ka) (aV "needs" (.ref na) (aV "web" (.ref p) [])))):=aj;have e6:upd H5 o (.ins T.Outlook dx (aV "kids" (.ref ka) (aV "needs" (.ref na) (aV "web" (.ref p) [])))) ka=_:=(au kao).trans e5;have e6n:upd H5 o (.ins T.Outlook dx (aV "kids" (.ref ka) (aV "needs" (.ref na) (aV "web" (.ref p) [])))) na=_:=(au nao).trans e5n;have pk6:Paired (fun a v=>upd H5 o (.ins T.Outlook dx (aV "kids" (.ref ka) (aV "needs" (.ref na) (aV "web" (.ref p) [])))) a=some (.lst ((kd m rs r par v).map V.int))) kl (below m.toNat):=Paired.imp' (fun q v h=>by rw [au (gI h o5 (by intro z;cases z))];exact h) pk;generalize upd H5 o (.ins T.Outlook dx (aV "kids" (.ref ka) (aV "needs" (.ref na) (aV "web" (.ref p) []))))=H6 at k6 o6 e6 e6n pk6 n1 ⊢;have s7:=Same.new (.lst [V.non]) n1;obtain ⟨dw',wb'⟩:=(W.kpt k6 ho).ob;refine ⟨T.Web,dw',_,s7 _ _ wb',T.jL,T.n_many,_,kc _ _,?_⟩;refine ⟨l1,m,[V.non],rfl,rfl,aj,by omega,by omega,cq (by simp;omega),fun ia nia=>?_⟩;rw [Aa];have s8:=s7.trans (Same.new (.lst (List.replicate m.toNat V.non)) nia);have i8:upd (upd H6 l1 (.lst [V.non])) ia (.lst (List.replicate m.toNat V.non)) ia=some (.lst (List.replicate m.toNat V.non)):=aj;have nia6:=s7.free nia;generalize upd (upd H6 l1 (.lst [V.non])) ia (.lst (List.replicate m.toNat V.non))=H8 at s8 i8 ⊢;have o8:=s8 _ _ o6;refine ⟨T.Outlook,dx,_,o8,T.bW,T.n_idle,by show 3<1000;decide,?_⟩;have k8:=(k6.then s8).put (.ins T.Outlook dx (kh p na ka ia));have iao:ia≠o:=fun z=>by rw [z,o6] at nia6;cases nia6
     have O9:OutAt T.Web T.Outlook (upd H8 o (.ins T.Outlook dx (kh p na ka ia))) o p t m ps rs r par dep (gat m rs r par dep (fun v=>xs.getD v.toNat 0) (ned rs par)) na ka ia kl (List.replicate m.toNat V.non) (fun _=>False) :=
       ⟨⟨dx,aj⟩,W.kpt k8 ho,R,(au nao).trans (s8 _ _ e6n),(au kao).trans (s8 _ _ e6),Paired.imp' (fun q v h=>by rw [au (gI h o6 (by intro z;cases z))];exact s8 _ _ h) pk6,(au iao).trans i8,fun c z=>z.elim,fun u _ _ z=>z.elim⟩
     have k9:=k8;show nU T [V.ref p,V.int r] (upd H8 o (.ins T.Outlook dx (kh p na ka ia))) _ _;generalize upd H8 o (.ins T.Outlook dx (kh p na ka ia))=H9 at O9 k9 ⊢;have hia:H ia=none:=by
       cases e:H ia with
       | none=>rfl
       | some x=>rw [k6 _ _ e iao] at nia6;cases nia6
     have hna:na≠ia:=fun z=>by rw [<- z,e6n] at nia6;cases nia6
     have hka:ka≠ia:=fun z=>by rw [<- z,e6] at nia6;cases nia6
     have hkl:∀ q∈kl,q≠ia:=fun q hq z=>by
       obtain ⟨v,hv⟩:=IV pk6 hq;rw [z,nia6] at hv;cases hv
     refine ⟨p,t,m,ps,rs,r,rfl,O9.web,fun _ _=>⟨par,dep,R,fun lq qs tl H10 et n10 s10 e10 pa Or=>⟨lq,rfl,⟨_,SqL.of e10⟩,?_⟩⟩,fun z=>absurd rr z⟩;have nlq:lq≠ia:=fun z=>by rw [z,O9.hi] at n10;cases n10
     refine nR (K:=K) (xs:=qs.map V.ref) (fun i σ H11=>Kpt o H H11/\H11 lq=some (.lst (qs.map V.ref))/\PairsAt H11 par qs tl.reverse/\∃ (bs:List V) (v4 v5:Option V),OutAt T.Web T.Outlook H11 o p t m ps rs r par dep (gat m rs r par dep (fun v=>xs.getD v.toNat 0) (ned rs par)) na ka ia kl bs (fun c=>c∈tl.drop (tl.length - i))/\bs.length=m.toNat/\(∀ c,c∈tl.drop (tl.length - i)->∀ a,atI bs c=some (.ref a)->a≠ia)/\σ=[some (V.ref o),some (V.ref p),some (V.ref a),some (V.int r),v4,v5]) ⟨k9.then s10,e10,pa,List.replicate m.toNat V.non,_,_,(O9.same s10).sub (fun c hc=>?_) (fun u _ _ hu=>?_),List.length_replicate,fun c hc=>?_,rfl⟩ (fun i σ H11 _ z=>SqL.of z.2.1) ?_ ?_
     . rw [Nat.sub_zero,List.drop_length] at hc;cases hc
     . rw [Nat.sub_zero,List.drop_length] at hu;cases hu
     . rw [Nat.sub_zero,List.drop_length] at hc;cases hc
     . rintro i x σ H11 N BB hBB hN hx ⟨k11,e11,pa11,bs,v4,v5,O11,bl,hda,rfl⟩;refine hBB _ _ ?_;obtain ⟨q,v,rfl,hq,hv,eq⟩:=pa11.get hx;obtain ⟨⟨vr,vn⟩,ed,_,hdp,hdk⟩:=Or.cut R hv;have hS:∀ c∈kd m rs r par v,c∈tl.drop (tl.length - i):=fun c hc=>by
         have w:=(aQ g R vr.1 vr.2).mp hc;exact hdk c w.1.1 w.1.2 w.2.1 w.2.2
       walk_at "rd";refine ⟨_,SqT.of eq,rfl,_,_,rfl,_,_,rfl,rfl,?_⟩;refine ⟨o,p,t,m,ps,rs,r,par,dep,_,na,ka,ia,kl,bs,_,v,rfl,O11,vr,vn,hS,fun l H12 n12 s12 e12=>?_⟩;have O12:=O11.same s12;obtain ⟨dx',ob'⟩:=O12.ob;have nl:l≠ia:=fun z=>by rw [z,O11.hi] at n12;cases n12
       refine ⟨T.Outlook,dx',_,ob',T.bW,T.n_idle,_,A4 _ _ _ _,AE O12.hi vr.1 (by omega) (hN _ _ ⟨?_,?_,?_,_,_,_,(O12.put hna hka hkl (fun c hc=>⟨(hdp c hc).1.1,hda c hc⟩) bl vr.1 vr.2 hS e12 nl).sub (fun c hc=>?_) (fun u u0 u1 hu c hc=>?_),?_,?_,rfl⟩)⟩
       . exact fun b y hb nb=>by rw [au (bA hb hia)];exact s12 _ _ (k11 b y hb nb)
       . rw [au nlq];exact s12 _ _ e11
       . exact Paired.imp' (fun a b h=>by rw [au (gI (s12 _ _ h) O12.hi (by intro z;cases z))];exact s12 _ _ h) pa11
       . rw [ed] at hc;exact List.mem_cons.mp hc
       . rw [ed];rw [ed] at hu;rcases List.mem_cons.mp hu with rfl|hu
         . exact List.mem_cons_of_mem _ (hS c hc)
         . exact List.mem_cons_of_mem _ (O11.cl u u0 u1 hu c hc)
       . rw [List.length_set];exact bl
       . intro c hc a' ha';rw [ed] at hc;by_cases e:c=v
         . subst e;rw [BH vr.1,List.getElem?_set_self (by omega)] at ha';cases ha';exact nl
         . have hc:=(List.mem_cons.mp hc).resolve_left e;have c0:=(hdp c hc).1.1;rw [BH c0,List.getElem?_set_ne (by omega),<- BH c0] at ha';exact hda c hc a' ha'
     . rintro BB σ H11 hBB ⟨k11,e11,pa11,bs,v4,v5,O11,bl,hda,rfl⟩;refine hBB _ _ ?_;have ql:qs.length=tl.reverse.length:=Paired.length pa11;rw [List.length_map,ql,List.length_reverse,Nat.sub_self,List.drop_zero] at O11;walk_at "rd";refine k na ka ia kl bs H11 (O11.sub (fun c hc=>?_) (fun u u0 u1 hu c hc=>?_)) k11
       . exact (Or.all c hc.1.1 hc.1.2).resolve_left hc.2
       . have w:=(aQ g R u0 u1).mp hc;exact ⟨w.1,w.2.1⟩
def Bi (T:Txt K mg):Sp:=fun vs H Q _=>∃ (p a t:Addr) (c:Bool) (m:Int) (ps:List Addr) (rs:List Road) (xs:List Int) (r:Int),vs=[.ref p,.ref a,.int r]/\WebAt T.Web H p m t ps rs/\SqX K c H a (xs.map V.int)/\az m xs=true/\(0<=r/\r<m) /\
 ∃ par dep,Rooted m rs r par dep/\∀ l H',H l=none->Same H H'->H' l=some (.tup ((gld m rs r par dep (mD m rs r par dep xs) r (-1)).map V.int))->Q (.ref l) H'
abbrev cW:Stmt:=top 45
theorem Ki:FnScope ["web","wish","r"] ["web","wish","r"] (aa cW):=FnScope.of (by kernel_rfl)
theorem CV:NmL (aa cW) "web":=.of (by kernel_rfl)
theorem A5:NmL (aa cW) "wish":=.of (by kernel_rfl)
theorem yE:NmL (aa cW) "r":=.of (by kernel_rfl)
theorem kX:NmG (aa cW) "tuple":=.of (by kernel_rfl)
theorem jY:NmG (aa cW) "greatest_load":=.of (by kernel_rfl)
theorem nO:NmG (aa cW) "Outlook":=.of (by kernel_rfl)
theorem JD (T:Txt K mg) (hq:aU (CXe P w)) {f:Addr} {fd:FuncData} (D:Df K mg "failing" cW ["web","wish","r"] f fd) {f_Outlook___init__:Addr} {jp:FuncData} (F_Outlook___init__:Fun K "__init__" "Outlook.__init__" aB f_Outlook___init__ jp) (b_Outlook:Binds K jp ["self","web","wish","r"] []) (wM:Mk K T.Outlook f_Outlook___init__) (G_Outlook_init:FnOk P w K mg base (CXe P w) 56 f_Outlook___init__ jp ["self","web","wish","r"] (mG T)) {bg:Addr} {cK:FuncData} (D_greatest_load:Df K mg "greatest_load" aF ["outlook","place","over"] bg cK) (G_greatest_load:FnOk P w K mg base (CXe P w) 54 bg cK ["outlook","place","over"] (lw T)):FnOk P w K mg base (CXe P w) 58 f fd ["web","wish","r"] (Bi T):=by
 refine D.F.okC Ki (fun vs H Q E h=>?_) (fun cdv A outer s H vs Q E hr h=>?_)
 . obtain ⟨p,a,t,c,m,ps,rs,xs,r,rfl,_⟩:=h
   rfl
 . obtain ⟨p,a,t,c,m,ps,rs,xs,r,rfl,W,ha,fi,rr,par,dep,R,k⟩:=h;have m24:=W.go.m24;refine ⟨_,(aq (aK (gj ja kX.g T.tuple pZ (ag (aw G_greatest_load (hr.mono (by decide)) jY.g D_greatest_load.m D_greatest_load.F.kp D_greatest_load.b .nil (aI hq) (ag (Cc wM G_Outlook_init (hr.mono (by decide)) nO.g T.LB b_Outlook .nil (aI hq) (ag (pvl 0 CV) (ag (pvl 1 A5) (ag (pvl 2 yE) ah))) (hdb:=nO.d)) (ag (pvl 2 yE) (ag (KH Hb ap) ah))) (hdb:=jY.d)) ah) (hn:=kX.n) (hdb:=kX.d)))),?_⟩;rw [show L2.start ["web","wish","r"] [V.ref p,V.ref a,V.int r]=[some (V.ref p),some (V.ref a),some (V.int r)] from rfl];walk_at "rd";intro o dx no ndx ne;have no1:upd H dx (.own o) o=none:=by rw [au ne.symm];exact no
   have s0:Same H (upd (upd H dx (.own o)) o (.ins T.Outlook dx [])):=(Same.new _ ndx).trans (Same.new _ no1);refine ⟨o,dx,p,a,t,c,m,ps,rs,xs,r,rfl,aj,W.same s0,Same.sqX s0 ha,fi,rr,par,dep,R,fun na ka ia kl bs H1 O kp=>?_⟩;have s1:Same H H1:=fun b x hb=>kp b x (s0 b x hb) (bA hb no);refine ⟨rfl,?_⟩;refine ⟨o,p,t,m,ps,rs,r,par,dep,_,na,ka,ia,kl,bs,_,r,_,rfl,O,rr,by show m.toNat<=dep r+1+24;omega,fun c hc=>?_,fun l H2 n2 s2 h2=>?_⟩
   . have w:=(aQ W.go R rr.1 rr.2).mp hc;exact ⟨w.1,w.2.1⟩
   . refine ⟨l,rfl,_,.inl ⟨SqL.of h2,fun l3 n3=>k l3 _ (s1.free (s2.free n3)) ((s1.trans s2).trans (Same.new _ n3)) aj⟩⟩
def uZ (T:Txt K mg):Sp:=fun vs H Q E=>∃ (p a t:Addr) (c:Bool) (m:Int) (ps:List Addr) (rs:List Road) (xs:List Int),vs=[.ref p,.ref a]/\WebAt T.Web H p m t ps rs/\SqX K c H a (xs.map V.int)/\xs.length<=1000 /\
 (az m xs=true->∀ H',Same H H'->Q (.bl (decide (xs.sum=0))) H')/\(az m xs=false->∀ H',Same H H'->E (.ref T.BadWish) none H')
abbrev dq:Stmt:=top 44
theorem Ky:FnScope ["web","wish"] ["web","wish"] (aa dq):=FnScope.of (by kernel_rfl)
theorem CS:NmL (aa dq) "web":=.of (by kernel_rfl)
theorem BO:NmL (aa dq) "wish":=.of (by kernel_rfl)
theorem pF:NmG (aa dq) "total":=.of (by kernel_rfl)
theorem nW:NmG (aa dq) "wish_of":=.of (by kernel_rfl)
theorem KY (T:Txt K mg) (hq:aU (CXe P w)) {f:Addr} {fd:FuncData} (D:Df K mg "is_idle" dq ["web","wish"] f fd) {dJ:Addr} {fJ:FuncData} (b9:Df K mg "total" fC ["numbers"] dJ fJ) (G_total:FnOk P w K mg base (CXe P w) 1 dJ fJ ["numbers"] (qP T)) {dj:Addr} {gg:FuncData} (cg:Df K mg "wish_of" cH ["web","numbers"] dj gg) (G_wish_of:FnOk P w K mg base (CXe P w) 2 dj gg ["web","numbers"] (oU T)):FnOk P w K mg base (CXe P w) 3 f fd ["web","wish"] (uZ T):=by
 refine D.F.okX Ky (fun vs H Q E h=>?_) (fun cdv A outer s H vs Q E hr h=>?_)
 . obtain ⟨p,a,t,c,m,ps,rs,xs,rfl,_⟩:=h
   rfl
 . obtain ⟨p,a,t,c,m,ps,rs,xs,rfl,W,ha,hz,k,e⟩:=h;refine ⟨_,(aq (aK (sS gH (aw G_total (hr.mono (by decide)) pF.g b9.m b9.F.kp b9.b .nil bF (ag (aw G_wish_of (hr.mono (by decide)) nW.g cg.m cg.F.kp cg.b .nil bF (ag (pvl 0 CS) (ag (pvl 1 BO) ah)) (hdb:=nW.d)) ah) (hdb:=pF.d)) ap (bh _)))),?_⟩;rw [show L2.start ["web","wish"] [V.ref p,V.ref a]=[some (V.ref p),some (V.ref a)] from rfl];walk_at "rd";refine ⟨p,a,t,c,m,ps,rs,xs,rfl,W,ha,hz,fun fi l H1 s1 h1=>?_,e⟩;refine ⟨l,_,rfl,.inr h1,?_⟩;refine ⟨rfl,?_⟩;rw [show decide (V.int xs.sum=V.int 0)=decide (xs.sum=0) by by_cases z:xs.sum=0 <;> simp [z]];exact k fi H1 s1
def Fb (T:Txt K mg):Sp:=fun vs H Q E=>∃ (p a t:Addr) (c:Bool) (m:Int) (ps:List Addr) (rs:List Road) (xs:List Int),vs=[.ref p,.ref a]/\WebAt T.Web H p m t ps rs/\SqX K c H a (xs.map V.int)/\xs.length<=1000 /\
 (az m xs=true->xs.sum≠0->∃ par dep,Rooted m rs (gw m xs) par dep/\∀ l H',H l=none->Same H H'->H' l=some (.tup ((gld m rs (gw m xs) par dep (mD m rs (gw m xs) par dep xs) (gw m xs) (-1)).map V.int))->Q (.ref l) H') /\
 (az m xs=false->∀ H',Same H H'->E (.ref T.BadWish) none H')/\(az m xs=true->xs.sum=0->∀ H',Same H H'->E (.ref T.NoWorst) none H')
abbrev dP:Stmt:=top 43
theorem ED:FnScope ["web","wish","wanted_at"] ["web","wish"] (aa dP):=FnScope.of (by kernel_rfl)
theorem pK:NmL (aa dP) "web":=.of (by kernel_rfl)
theorem vX:NmC (aa dP) "wish":=.of (by kernel_rfl)
theorem nL:NmL (aa dP) "wanted_at":=.of (by kernel_rfl)
theorem qd:NmG (aa dP) "is_idle":=.of (by kernel_rfl)
theorem qD:NmG (aa dP) "NoWorst":=.of (by kernel_rfl)
theorem Cv:NmG (aa dP) "range":=.of (by kernel_rfl)
theorem qv:NmG (aa dP) "failing":=.of (by kernel_rfl)
theorem Py (T:Txt K mg) (hq:aU (CXe P w)) {f:Addr} {fd:FuncData} (D:Df K mg "fails" dP ["web","wish"] f fd) {jT:Addr} {Bb:FuncData} (lM:Df K mg "failing" cW ["web","wish","r"] jT Bb) (G_failing:FnOk P w K mg base (CXe P w) 58 jT Bb ["web","wish","r"] (Bi T)) {fw:Addr} {md:FuncData} (eM:Df K mg "is_idle" dq ["web","wish"] fw md) (G_is_idle:FnOk P w K mg base (CXe P w) 3 fw md ["web","wish"] (uZ T)):FnOk P w K mg base (CXe P w) 59 f fd ["web","wish"] (Fb T):=by
 refine D.F.okX ED (fun vs H Q E h=>?_) (fun cdv A outer s H vs Q E hr h=>?_)
 . obtain ⟨p,a,t,c,m,ps,rs,xs,rfl,_⟩:=h
   rfl
 . obtain ⟨p,a,t,c,m,ps,rs,xs,rfl,W,ha,hz,k,e,e'⟩:=h;have g:=W.go;have m24:=g.m24;obtain ⟨dw,wb⟩:=W.ob;refine ⟨_,(ao (bX (p8 (aw G_is_idle (hr.mono (by decide)) qd.g eM.m eM.F.kp eM.b .nil bF (ag (pvl 0 pK) (ag (pvc 1 vX) ah)) (hdb:=qd.d))) (aq (pU T.LA rfl tP qD.g T.MF (ag yM ah) (hdb:=qD.d))) bc) (ao (AR (i:=2) ED.nd rfl nL.l rfl (sU (Nc:=["place","wish"]) 1 [1] (by decide +kernel) rfl (by decide +kernel) rfl (by show ∀ (y:Str × NameKind),y∈_->y.2=NameKind.free->(aa dP).names.lookup y.1=some NameKind.cell;decide +kernel) rfl (fun _ h=>kY h) (fun i hi=>match i,hi with|0,_=>⟨"wish",1,rfl,rfl,rfl,by decide +kernel⟩|i+1,hi=>absurd hi (by show ¬ i+1<1;omega))) (xW Cv.g T.range (ag (di  (pvl 0 pK) rfl) ah)) (fun _ _ _ _=>(aR (i:=0) (show (["place","wish"]:List Str).Nodup from by decide +kernel) rfl (Or.inl rfl))) (fun _ _ _ _=>(C8 (bf Ez (bx (Si c K rfl) (pv 1) (pv 0) (fun _ _=>rfl)) ap (bh _)))) (fun _ _ _ _=>(pv 0))) (aq (aK (aw G_failing (hr.mono (by decide)) qv.g lM.m lM.F.kp lM.b .nil bF (ag (pvl 0 pK) (ag (pvc 1 vX) (ag (bx bB (pvl 2 nL) ap (fun _ _=>rfl)) ah))) (hdb:=qv.d)))))),?_⟩;rw [show L2.start ["web","wish","wanted_at"] [V.ref p,V.ref a]=[some (V.ref p),some (V.ref a),none] from rfl];walk_at "rd";refine ⟨p,a,t,c,m,ps,rs,xs,rfl,W,ha,hz,fun fi H1 s1=>?_,e⟩;refine ⟨_,rfl,?_⟩;by_cases z:xs.sum=0
   . rw [if_pos (by simpa using z)];exact ⟨by decide,e' fi z H1 s1⟩
   . rw [if_neg (by simpa using z)];obtain ⟨par,dep,R,k⟩:=k fi z;have xl:=JM fi;have nn:=Mx fi;obtain ⟨tl,etl,rr,x0⟩:=C4 xl nn z;refine ⟨T.Web,dw,_,s1 _ _ wb,T.jL,T.n_many,_,kc _ _,m,rfl,by omega,by omega,fun pc npc=>?_⟩;have npc0:=s1.free npc;refine BT (fun i zs σ H3=>Same H1 H3/\H3 pc=some (.lst zs)/\zs=((below i).filter fun v=>decide (0<xs.getD v.toNat 0)).map V.int/\∃ v,σ=[v,some (V.ref a)]) ⟨Same.new _ npc,aj,rfl,_,rfl⟩ ?_ ?_
     . rintro i zs σ H3 N hN hi ⟨s3,e3,rfl,v,rfl⟩;have ll:((below i).filter fun v=>decide (0<xs.getD v.toNat 0)).length<=24:=by
         have h1:=List.length_filter_le (fun v=>decide (0<xs.getD v.toNat 0)) (below i);rw [bz] at h1;omega
       walk_at "rd";rw [Int.zero_add];refine ixX (Same.sqX (s1.trans s3) ha) (atG (by omega) (by omega)) ⟨_,rfl,?_⟩;rw [show ((i:Int)).toNat=i from rfl];by_cases q:0<xs.getD i 0
       . rw [if_pos q];refine ⟨e3,eP (by rw [List.length_map];omega),hN _ _ _ ⟨s3.put npc _,aj,?_,_,rfl⟩⟩;rw [vo,List.filter_append,List.filter_cons_of_pos (by simpa using q),List.filter_nil,List.map_append]
         rfl
       . rw [if_neg q];refine hN _ _ _ ⟨s3,e3,?_,_,rfl⟩;rw [vo,List.filter_append,List.filter_cons_of_neg (by simpa using q),List.filter_nil,List.append_nil]
     . rintro zs σ H3 ⟨s3,e3,rfl,v,rfl⟩;rw [etl] at e3;have s13:=s1.trans s3;refine ixL (v:=V.int (gw m xs)) e3 (g9 (by decide) rfl) ?_;exact ⟨p,a,t,c,m,ps,rs,xs,_,rfl,W.same s13,Same.sqX s13 ha,fi,rr,par,dep,R,fun l H4 n4 s4 h4=>k l H4 (s13.free n4) (s13.trans s4) h4⟩
def DE (T:Txt K mg):Sp:=fun vs H Q E=>∃ (p a t:Addr) (c:Bool) (m:Int) (ps:List Addr) (rs:List Road) (xs:List Int),vs=[.ref p,.ref a]/\WebAt T.Web H p m t ps rs/\SqX K c H a (xs.map V.int)/\xs.length<=1000 /\
 (az m xs=true->xs.sum≠0->∃ par dep,Rooted m rs (gw m xs) par dep/\∀ H',Same H H'->Q (.int ((gld m rs (gw m xs) par dep (mD m rs (gw m xs) par dep xs) (gw m xs) (-1)).sum+1)) H') /\
 (az m xs=true->xs.sum=0->∀ H',Same H H'->Q (.int 0) H')/\(az m xs=false->∀ H',Same H H'->E (.ref T.BadWish) none H')
abbrev d4:Stmt:=top 42
theorem MG:FnScope ["web","wish"] ["web","wish"] (aa d4):=FnScope.of (by kernel_rfl)
theorem vZ:NmL (aa d4) "web":=.of (by kernel_rfl)
theorem sR:NmL (aa d4) "wish":=.of (by kernel_rfl)
theorem oG:NmG (aa d4) "is_idle":=.of (by kernel_rfl)
theorem rD:NmG (aa d4) "total":=.of (by kernel_rfl)
theorem rq:NmG (aa d4) "fails":=.of (by kernel_rfl)
theorem LD (T:Txt K mg) (hq:aU (CXe P w)) {f:Addr} {fd:FuncData} (D:Df K mg "always" d4 ["web","wish"] f fd) {mS:Addr} {G4:FuncData} (pf:Df K mg "fails" dP ["web","wish"] mS G4) (G_fails:FnOk P w K mg base (CXe P w) 59 mS G4 ["web","wish"] (Fb T)) {fw:Addr} {md:FuncData} (eM:Df K mg "is_idle" dq ["web","wish"] fw md) (G_is_idle:FnOk P w K mg base (CXe P w) 3 fw md ["web","wish"] (uZ T)) {dJ:Addr} {fJ:FuncData} (b9:Df K mg "total" fC ["numbers"] dJ fJ) (G_total:FnOk P w K mg base (CXe P w) 1 dJ fJ ["numbers"] (qP T)):FnOk P w K mg base (CXe P w) 60 f fd ["web","wish"] (DE T):=by
 refine D.F.okX MG (fun vs H Q E h=>?_) (fun cdv A outer s H vs Q E hr h=>?_)
 . obtain ⟨p,a,t,c,m,ps,rs,xs,rfl,_⟩:=h
   rfl
 . obtain ⟨p,a,t,c,m,ps,rs,xs,rfl,W,ha,hz,k,e,e'⟩:=h;refine ⟨_,(ao (bX (p8 (aw G_is_idle (hr.mono (by decide)) oG.g eM.m eM.F.kp eM.b .nil bF (ag (pvl 0 vZ) (ag (pvl 1 sR) ah)) (hdb:=oG.d))) (aq (aK ap)) bc) (aq (aK (ax gd (aw G_total (hr.mono (by decide)) rD.g b9.m b9.F.kp b9.b .nil bF (ag (aw G_fails (hr.mono (by decide)) rq.g pf.m pf.F.kp pf.b .nil bF (ag (pvl 0 vZ) (ag (pvl 1 sR) ah)) (hdb:=rq.d)) ah) (hdb:=rD.d)) ap)))),?_⟩;rw [show L2.start ["web","wish"] [V.ref p,V.ref a]=[some (V.ref p),some (V.ref a)] from rfl];walk_at "rd";refine ⟨p,a,t,c,m,ps,rs,xs,rfl,W,ha,hz,fun fi H1 s1=>?_,e'⟩;refine ⟨_,rfl,?_⟩;by_cases z:xs.sum=0
   . rw [if_pos (by simpa using z)];exact e fi z H1 s1
   . rw [if_neg (by simpa using z)];obtain ⟨par,dep,R,k⟩:=k fi z;refine ⟨p,a,t,c,m,ps,rs,xs,rfl,W.same s1,Same.sqX s1 ha,hz,fun _ _=>⟨par,dep,R,fun l H2 n2 s2 h2=>?_⟩,fun z=>(by rw [fi] at z;cases z),fun _ z'=>absurd z' z⟩;refine ⟨l,_,rfl,.inr (SqT.of h2),_,rfl,k H2 (s1.trans s2)⟩
def yP (T:Txt K mg):Sp:=fun vs H Q _=>∃ (p t:Addr) (m:Int) (ps:List Addr) (rs:List Road) (x v u k1 k2:Int),vs=[.ref p,.int x,.int v,.int u]/\WebAt T.Web H p m t ps rs/\(0<=v/\v<m)/\(0<=u/\u<m)/\aH rs v u=some k1/\aH rs u v=some k2/\(2<=k1/\k1<=1000000)/\(2<=k2/\k2<=1000000)/\Q (.int (if 0<=x then x / k1 else x*k2)) H
abbrev b7:Stmt:=top 36
theorem Hu:FnScope ["web","over","place","front"] ["web","over","place","front"] (aa b7):=FnScope.of (by kernel_rfl)
theorem qG:NmL (aa b7) "web":=.of (by kernel_rfl)
theorem kq:NmL (aa b7) "over":=.of (by kernel_rfl)
theorem nK:NmL (aa b7) "place":=.of (by kernel_rfl)
theorem nP:NmL (aa b7) "front":=.of (by kernel_rfl)
theorem gM:NmG (aa b7) "toll":=.of (by kernel_rfl)
theorem Ht (T:Txt K mg) (hq:aU (CXe P w)) {f:Addr} {fd:FuncData} (D:Df K mg "handed_on" b7 ["web","over","place","front"] f fd) {b4:Addr} {cG:FuncData} (aY:Df K mg "toll" cI ["web","a","b"] b4 cG) (G_toll:FnOk P w K mg base (CXe P w) 3 b4 cG ["web","a","b"] (lJ T)):FnOk P w K mg base (CXe P w) 4 f fd ["web","over","place","front"] (yP T):=by
 refine D.F.okX Hu (fun vs H Q E h=>?_) (fun cdv A outer s H vs Q E hr h=>?_)
 . obtain ⟨p,t,m,ps,rs,x,v,u,k1,k2,rfl,_⟩:=h
   rfl
 . obtain ⟨p,t,m,ps,rs,x,v,u,k1,k2,rfl,W,vr,ur,h1,h2,kr1,kr2,k⟩:=h;refine ⟨_,(ao (bX (bf KR (pvl 1 kq) ap (bh _)) (aq (aK (ax dY (pvl 1 kq) (aw G_toll (hr.mono (by decide)) gM.g aY.m aY.F.kp aY.b .nil bF (ag (pvl 0 qG) (ag (pvl 2 nK) (ag (pvl 3 nP) ah))) (hdb:=gM.d))))) bc) (aq (aK (ax i9 (pvl 1 kq) (aw G_toll (hr.mono (by decide)) gM.g aY.m aY.F.kp aY.b .nil bF (ag (pvl 0 qG) (ag (pvl 3 nP) (ag (pvl 2 nK) ah))) (hdb:=gM.d)))))),?_⟩;rw [show L2.start ["web","over","place","front"] [V.ref p,V.int x,V.int v,V.int u]=[some (V.ref p),some (V.int x),some (V.int v),some (V.int u)] from rfl];walk_at "rd";by_cases c:0<=x
   . rw [if_pos c] at k ⊢;refine ⟨p,t,m,ps,rs,v,u,rfl,W,fun k' _ _ _ _ h=>?_,fun z=>absurd ⟨vr,ur⟩ z,fun _ _ _ _ z=>by rw [h1] at z;cases z⟩;rw [h1] at h;cases h;exact ⟨_,rfl,⟨by omega,by omega⟩,k⟩
   . rw [if_neg c] at k ⊢;refine ⟨p,t,m,ps,rs,u,v,rfl,W,fun k' _ _ _ _ h=>?_,fun z=>absurd ⟨ur,vr⟩ z,fun _ _ _ _ z=>by rw [h2] at z;cases z⟩;rw [h2] at h;cases h;exact ⟨_,rfl,.inr ⟨by omega,by omega⟩,k⟩
def xA (T:Txt K mg):Sp:=fun vs H Q E=>∃ (p a t:Addr) (c:Bool) (m:Int) (ps:List Addr) (rs:List Road) (xs:List Int),vs=[.ref p,.ref a]/\WebAt T.Web H p m t ps rs/\SqX K c H a (xs.map V.int)/\xs.length<=1000 /\
 (az m xs=true->∀ l H',Same H H'->(H' l=some (.tup (xs.map V.int))\/(c=false/\l=a))->SqT K H' l (xs.map V.int)->Q (.ref l) H')/\(az m xs=false->∀ H',Same H H'->E (.ref T.BadLaying) none H')
abbrev b8:Stmt:=top 23
theorem Hs:FnScope ["web","numbers"] ["web","numbers"] (aa b8):=FnScope.of (by kernel_rfl)
theorem Ao:NmL (aa b8) "web":=.of (by kernel_rfl)
theorem lU:NmL (aa b8) "numbers":=.of (by kernel_rfl)
theorem kI:NmG (aa b8) "is_filled":=.of (by kernel_rfl)
theorem kG:NmG (aa b8) "BadLaying":=.of (by kernel_rfl)
theorem jW:NmG (aa b8) "tuple":=.of (by kernel_rfl)
theorem Fp (T:Txt K mg) (hq:aU (CXe P w)) {f:Addr} {fd:FuncData} (D:Df K mg "laying_of" b8 ["web","numbers"] f fd) {dC:Addr} {jZ:FuncData} (c6:Df K mg "is_filled" ce ["web","numbers"] dC jZ) (G_is_filled:FnOk P w K mg base (CXe P w) 1 dC jZ ["web","numbers"] (qS T)):FnOk P w K mg base (CXe P w) 2 f fd ["web","numbers"] (xA T):=by
 refine D.F.okX Hs (fun vs H Q E h=>?_) (fun cdv A outer s H vs Q E hr h=>?_)
 . obtain ⟨p,a,t,c,m,ps,rs,xs,rfl,_⟩:=h
   rfl
 . obtain ⟨p,a,t,c,m,ps,rs,xs,rfl,W,ha,hz,k,e⟩:=h;refine ⟨_,(ao (bX (pW (p8 (aw G_is_filled (hr.mono (by decide)) kI.g c6.m c6.F.kp c6.b .nil bF (ag (pvl 0 Ao) (ag (pvl 1 lU) ah)) (hdb:=kI.d)))) (aq (pU T.HW rfl tP kG.g T.Iv (ag yM ah) (hdb:=kG.d))) bc) (aq (aK (gj ja jW.g T.tuple pZ (ag (pvl 1 lU) ah) (hn:=jW.n) (hdb:=jW.d))))),?_⟩;rw [show L2.start ["web","numbers"] [V.ref p,V.ref a]=[some (V.ref p),some (V.ref a)] from rfl];walk_at "rd";refine ⟨p,a,t,c,m,ps,rs,xs,rfl,W,ha,hz,fun H1 s1=>⟨_,rfl,?_⟩⟩;by_cases z:az m xs=false
   . rw [if_pos z];exact ⟨by decide,e z H1 s1⟩
   . rw [if_neg z];have z':az m xs=true:=(by simpa using z);cases c
     . exact ⟨_,.inr ⟨Same.sqX (c:=false) s1 ha,k z' a H1 s1 (.inr ⟨rfl,rfl⟩) (Same.sqX (c:=false) s1 ha)⟩⟩
     . exact ⟨_,.inl ⟨Same.sqX (c:=true) s1 ha,fun l nl=>k z' l _ (s1.trans (Same.new _ nl)) (.inl aj) (SqT.of aj)⟩⟩
def yj (T:Txt K mg):Sp:=fun vs H Q E=>∃ (p a b t:Addr) (c d:Bool) (m:Int) (ps:List Addr) (rs:List Road) (xs ys:List Int) (r:Int),vs=[.ref p,.ref a,.ref b,.int r]/\WebAt T.Web H p m t ps rs/\SqX K c H a (xs.map V.int)/\xs.length<=1000/\SqX K d H b (ys.map V.int)/\ys.length<=1000 /\
 (az m xs=true->az m ys=true->0<=r->r<m->∃ par dep,Rooted m rs r par dep/\∀ l H',H l=none->Same H H'->H' l=some (.lst ((uk m rs r par dep (fun v=>(bw m xs ys).getD v.toNat 0) (hnd rs par)).map V.int))->Q (.ref l) H') /\
 (az m xs=false->∀ H',Same H H'->E (.ref T.BadLaying) none H')/\(az m xs=true->az m ys=false->∀ H',Same H H'->E (.ref T.BadWish) none H')/\(az m xs=true->az m ys=true->¬ (0<=r/\r<m)->∀ H',Same H H'->E (.ref T.NoPlace) none H')
abbrev aN:Stmt:=top 35
theorem g6:FnScope ["web","laying","wish","r","has","wanted","over","place","front"] ["web","laying","wish","r"] (aa aN):=FnScope.of (by kernel_rfl)
theorem fK:NmL (aa aN) "web":=.of (by kernel_rfl)
theorem wC:NmL (aa aN) "laying":=.of (by kernel_rfl)
theorem zq:NmL (aa aN) "wish":=.of (by kernel_rfl)
theorem CJ:NmL (aa aN) "r":=.of (by kernel_rfl)
theorem Av:NmC (aa aN) "has":=.of (by kernel_rfl)
theorem wx:NmC (aa aN) "wanted":=.of (by kernel_rfl)
theorem gJ:NmL (aa aN) "over":=.of (by kernel_rfl)
theorem jV:NmL (aa aN) "place":=.of (by kernel_rfl)
theorem j5:NmL (aa aN) "front":=.of (by kernel_rfl)
theorem kL:NmG (aa aN) "laying_of":=.of (by kernel_rfl)
theorem mC:NmG (aa aN) "wish_of":=.of (by kernel_rfl)
theorem xc:NmG (aa aN) "range":=.of (by kernel_rfl)
theorem mF:NmG (aa aN) "inward":=.of (by kernel_rfl)
theorem kH:NmG (aa aN) "handed_on":=.of (by kernel_rfl)
theorem EV (T:Txt K mg) (hq:aU (CXe P w)) {f:Addr} {fd:FuncData} (D:Df K mg "standings" aN ["web","laying","wish","r"] f fd) {gC:Addr} {ye:FuncData} (jf:Df K mg "handed_on" b7 ["web","over","place","front"] gC ye) (G_handed_on:FnOk P w K mg base (CXe P w) 4 gC ye ["web","over","place","front"] (yP T)) {d6:Addr} {ik:FuncData} (cU:Df K mg "inward" cJ ["web","r"] d6 ik) (G_inward:FnOk P w K mg base (CXe P w) 7 d6 ik ["web","r"] (nU T)) {gD:Addr} {xJ:FuncData} (jh:Df K mg "laying_of" b8 ["web","numbers"] gD xJ) (G_laying_of:FnOk P w K mg base (CXe P w) 2 gD xJ ["web","numbers"] (xA T)) {dj:Addr} {gg:FuncData} (cg:Df K mg "wish_of" cH ["web","numbers"] dj gg) (G_wish_of:FnOk P w K mg base (CXe P w) 2 dj gg ["web","numbers"] (oU T)):FnOk P w K mg base (CXe P w) 8 f fd ["web","laying","wish","r"] (yj T):=by
 refine D.F.okX g6 (fun vs H Q E h=>?_) (fun cdv A outer s H vs Q E hr h=>?_)
 . obtain ⟨p,a,b,t,c,d,m,ps,rs,xs,ys,r,rfl,_⟩:=h
   rfl
 . obtain ⟨p,a,b,t,c,d,m,ps,rs,xs,ys,r,rfl,W,ha,hz,hb,hy,k,e1,e2,e3⟩:=h;have g:=W.go;have m1:=g.m1;have m24:=g.m24;refine ⟨_,(ao (aA (i:=4) g6.nd rfl (Or.inr Av.l) (aw G_laying_of (hr.mono (by decide)) kL.g jh.m jh.F.kp jh.b .nil bF (ag (pvl 0 fK) (ag (pvl 1 wC) ah)) (hdb:=kL.d))) (ao (aA (i:=5) g6.nd rfl (Or.inr wx.l) (aw G_wish_of (hr.mono (by decide)) mC.g cg.m cg.F.kp cg.b .nil bF (ag (pvl 0 fK) (ag (pvl 2 zq) ah)) (hdb:=mC.d))) (ao (AR (i:=6) g6.nd rfl gJ.l rfl (sU (Nc:=["place","has","wanted"]) 1 [4,5] (by decide +kernel) rfl (by decide +kernel) rfl (by show ∀ (y:Str × NameKind),y∈_->y.2=NameKind.free->(aa aN).names.lookup y.1=some NameKind.cell;decide +kernel) rfl (fun _ h=>kY h) (fun i hi=>match i,hi with|0,_=>⟨"has",4,rfl,rfl,rfl,by decide +kernel⟩|1,_=>⟨"wanted",5,rfl,rfl,rfl,by decide +kernel⟩|i+2,hi=>absurd hi (by show ¬ i+2<2;omega))) (xW xc.g T.range (ag (di  (pvl 0 fK) rfl) ah)) (fun _ _ _ _=>(aR (i:=0) (show (["place","has","wanted"]:List Str).Nodup from by decide +kernel) rfl (Or.inl rfl))) (fun _ _ _ _=>tQ) (fun _ _ _ _=>(ax pQ (bx (Je K rfl) (pv 1) (pv 0) (fun _ _=>rfl)) (bx (Je K rfl) (pv 2) (pv 0) (fun _ _=>rfl))))) (ao (eF PassesOwn.leaving rfl (kb (aw G_inward (hr.mono (by decide)) mF.g cU.m cU.F.kp cU.b .nil bF (ag (pvl 0 fK) (ag (pvl 3 CJ) ah)) (hdb:=mF.d))) (sV (n:=2) rfl (cT (aR (i:=7) g6.nd rfl (Or.inl jV.l)) (cT (aR (i:=8) g6.nd rfl (Or.inl j5.l)) ng))) (aq (De (pvl 6 gJ) (pvl 8 j5) zI (aw G_handed_on (hr.mono (by decide)) kH.g jf.m jf.F.kp jf.b .nil bF (ag (pvl 0 fK) (ag (bx bB (pvl 6 gJ) (pvl 7 jV) (fun _ _=>rfl)) (ag (pvl 7 jV) (ag (pvl 8 j5) ah)))) (hdb:=kH.d)) GC jQ))) (aq (aK (pvl 6 gJ))))))),?_⟩;rw [show L2.start ["web","laying","wish","r","has","wanted","over","place","front"] [V.ref p,V.ref a,V.ref b,V.int r]=[some (V.ref p),some (V.ref a),some (V.ref b),some (V.int r),none,none,none,none,none] from rfl];walk_at "rd";refine ⟨p,a,t,c,m,ps,rs,xs,rfl,W,ha,hz,fun fi la H1 s1 _ ea=>?_,e1⟩;refine ⟨p,b,t,d,m,ps,rs,ys,rfl,W.same s1,Same.sqX s1 hb,hy,fun fj lb H2 s2 eb=>?_,fun fj H2 s2=>e2 fi fj H2 (s1.trans s2)⟩;have lens:∀ {zs:List Int},az m zs=true->(zs.length:Int)=m:=fun {zs} f=>by
     unfold az at f;rw [Bool.and_eq_true] at f;exact of_decide_eq_true f.1
   have xl:=lens fi;have yl:=lens fj;have s12:=s1.trans s2;have W2:=W.same s12;obtain ⟨dx,ob⟩:=W2.ob;refine ⟨T.Web,dx,_,ob,T.jL,T.n_many,_,kc m t,m,rfl,by omega,by omega,fun lo no=>?_⟩;have ea2:=Same.tup s2 ea;refine BT (fun i zs σ H3=>Same H2 H3/\H3 lo=some (.lst zs)/\zs=((List.range i).map fun i=>xs.getD i 0 - ys.getD i 0).map V.int/\∃ v,σ=[v,some (V.ref la),some (V.ref lb)]) ⟨Same.new _ no,aj,rfl,_,rfl⟩ ?_ ?_
   . rintro i zs σ H3 N hN hi ⟨s3,e3',rfl,v,rfl⟩;rw [Int.zero_add];have i0:(0:Int)<=(i:Int):=(by omega);have ga:=atG (xs:=xs) i0 (by omega);have gb:=atG (xs:=ys) i0 (by omega);rw [Int.toNat_natCast] at ga gb;walk_at "rd";refine TL (Same.tup s3 ea2) ga (TL (Same.tup s3 eb) gb ⟨_,rfl,_,rfl,e3',eP (by simp;omega),hN _ _ _ ⟨s3.put no _,aj,?_,_,rfl⟩⟩);rw [List.range_succ,List.map_append,List.map_append]
     rfl
   . rintro zs σ H3 ⟨s3,e3',rfl,v,rfl⟩;have no0:=s12.free no;have s13:=s12.trans s3;have ol:=Ln (m:=m) (by omega) xs ys;change H3 lo=some (.lst ((bw m xs ys).map V.int)) at e3';refine ⟨p,t,m,ps,rs,r,rfl,W.same s13,fun r0 r1=>?_,fun z=>e3 fi fj z H3 s13⟩;obtain ⟨par,dep,R,k⟩:=k fi fj r0 r1;refine ⟨par,dep,R,fun l2 qs tl H4 _ n2 s4 e4 pa O=>?_⟩;have nll:l2≠lo:=fun z=>by rw [z,e3'] at n2;cases n2
     refine ⟨l2,rfl,⟨_,SqL.of e4⟩,?_⟩;have ql:qs.length=tl.reverse.length:=Paired.length pa;refine xf (K:=K) (xs:=qs.map V.ref) (fun i σ H5=>Same H H5/\H5 l2=some (.lst (qs.map V.ref))/\PairsAt H5 par qs tl.reverse/\∃ (cs:List Int) (v4 v5:Option V),H5 lo=some (.lst (cs.map V.int))/\Sofar m rs r par dep (fun v=>(bw m xs ys).getD v.toNat 0) (hnd rs par) (tl.drop (tl.length - i)) cs/\σ=[some (V.ref p),some (V.ref a),some (V.ref b),some (V.int r),some (V.ref la),some (V.ref lb),some (V.ref lo),v4,v5]) ⟨s13.trans s4,e4,pa,bw m xs ys,_,_,s4 _ _ e3',by rw [Nat.sub_zero,List.drop_length];exact Sofar.nil ol,rfl⟩ (fun i σ H5 _ z=>SqL.of z.2.1) ?_ ?_
     . rintro i x σ H5 N hN hx ⟨s5,e5,pa5,cs,v4,v5,c5,so,rfl⟩;obtain ⟨q,v,rfl,hq,hv,eq⟩:=pa5.get hx;obtain ⟨⟨vr,vn⟩,ev,so'⟩:=O.turn g R so hv;have u:=R.up v vr.1 vr.2 vn;obtain ⟨kk,hk,k0,k1⟩:=ue g R vr.1 vr.2 vn;obtain ⟨kd,hd,d0,d1⟩:=tM g R vr.1 vr.2 vn;have cl:=so.len;walk_at "rd";refine ⟨_,SqT.of eq,rfl,_,_,rfl,_,_,rfl,rfl,?_⟩;refine ixL c5 (atG u.1.1 (by omega)) (ixL c5 (atG vr.1 (by omega)) ?_);refine ⟨p,t,m,ps,rs,_,v,par v,kk,kd,rfl,W.same s5,vr,u.1,hk,hd,⟨k0,k1⟩,⟨d0,d1⟩,?_⟩;refine ⟨_,rfl,_,rfl,AE c5 u.1.1 (by rw [List.length_map];omega) (hN _ _ ⟨s5.put no0 _,?_,?_,qU par (hnd rs par) cs v,_,_,?_,so',rfl⟩)⟩
       . rw [au nll];exact e5
       . exact Paired.imp' (fun a b h=>by rw [au (gI h c5 (by intro z;cases z))];exact h) pa5
       . rw [aj,<- List.map_set];unfold qU hnd;rw [hk,hd]
         rfl
     . rintro σ H5 ⟨s5,e5,pa5,cs,v4,v5,c5,so,rfl⟩;rw [List.length_map,ql,List.length_reverse,Nat.sub_self,List.drop_zero] at so;rw [O.done g R so] at c5;walk_at "rd";exact k lo H5 no0 s5 c5
def sJ (T:Txt K mg):Sp:=fun vs H Q E=>∃ (p a b t:Addr) (c d:Bool) (m:Int) (ps:List Addr) (rs:List Road) (xs ys:List Int) (r:Int),vs=[.ref p,.ref a,.ref b,.int r]/\WebAt T.Web H p m t ps rs/\SqX K c H a (xs.map V.int)/\xs.length<=1000/\SqX K d H b (ys.map V.int)/\ys.length<=1000 /\
 (az m xs=true->az m ys=true->0<=r->r<m->∃ par dep,Rooted m rs r par dep/\∀ H',Same H H'->Q (.int (gat m rs r par dep (fun v=>(bw m xs ys).getD v.toNat 0) (hnd rs par) r)) H') /\
 (az m xs=false->∀ H',Same H H'->E (.ref T.BadLaying) none H')/\(az m xs=true->az m ys=false->∀ H',Same H H'->E (.ref T.BadWish) none H')/\(az m xs=true->az m ys=true->¬ (0<=r/\r<m)->∀ H',Same H H'->E (.ref T.NoPlace) none H')
abbrev cj:Stmt:=top 37
theorem HP:FnScope ["web","laying","wish","r"] ["web","laying","wish","r"] (aa cj):=FnScope.of (by kernel_rfl)
theorem BG:NmL (aa cj) "web":=.of (by kernel_rfl)
theorem wY:NmL (aa cj) "laying":=.of (by kernel_rfl)
theorem AN:NmL (aa cj) "wish":=.of (by kernel_rfl)
theorem wj:NmL (aa cj) "r":=.of (by kernel_rfl)
theorem lH:NmG (aa cj) "standings":=.of (by kernel_rfl)
theorem Im (T:Txt K mg) (hq:aU (CXe P w)) {f:Addr} {fd:FuncData} (D:Df K mg "standing" cj ["web","laying","wish","r"] f fd) {gq:Addr} {yT:FuncData} (je:Df K mg "standings" aN ["web","laying","wish","r"] gq yT) (G_standings:FnOk P w K mg base (CXe P w) 8 gq yT ["web","laying","wish","r"] (yj T)):FnOk P w K mg base (CXe P w) 9 f fd ["web","laying","wish","r"] (sJ T):=by
 refine D.F.okX HP (fun vs H Q E h=>?_) (fun cdv A outer s H vs Q E hr h=>?_)
 . obtain ⟨p,a,b,t,c,d,m,ps,rs,xs,ys,r,rfl,_⟩:=h
   rfl
 . obtain ⟨p,a,b,t,c,d,m,ps,rs,xs,ys,r,rfl,W,ha,hz,hb,hy,k,e1,e2,e3⟩:=h;refine ⟨_,(aq (aK (bx bB (aw G_standings (hr.mono (by decide)) lH.g je.m je.F.kp je.b .nil bF (ag (pvl 0 BG) (ag (pvl 1 wY) (ag (pvl 2 AN) (ag (pvl 3 wj) ah)))) (hdb:=lH.d)) (pvl 3 wj) (fun _ _=>rfl)))),?_⟩;rw [show L2.start ["web","laying","wish","r"] [V.ref p,V.ref a,V.ref b,V.int r]=[some (V.ref p),some (V.ref a),some (V.ref b),some (V.int r)] from rfl];walk_at "rd";refine ⟨p,a,b,t,c,d,m,ps,rs,xs,ys,r,rfl,W,ha,hz,hb,hy,fun fi fj r0 r1=>?_,e1,e2,e3⟩;obtain ⟨par,dep,R,k⟩:=k fi fj r0 r1;refine ⟨par,dep,R,fun l H1 n1 s1 e1=>?_⟩;refine ixL e1 (atG r0 ?_) ?_
   . unfold uk;rw [List.length_map,bz];omega
   . rw [FS r0 r1];exact k H1 s1
def Dr (T:Txt K mg):Sp:=fun vs H Q E=>∃ (p a b t:Addr) (c d:Bool) (m:Int) (ps:List Addr) (rs:List Road) (xs ys:List Int),vs=[.ref p,.ref a,.ref b]/\WebAt T.Web H p m t ps rs/\SqX K c H a (xs.map V.int)/\xs.length<=1000/\SqX K d H b (ys.map V.int)/\ys.length<=1000 /\
 (az m xs=true->az m ys=true->∃ par dep,Rooted m rs 0 par dep/\∀ H',Same H H'->Q (.bl (decide (0<=gat m rs 0 par dep (fun v=>(bw m xs ys).getD v.toNat 0) (hnd rs par) 0))) H') /\
 (az m xs=false->∀ H',Same H H'->E (.ref T.BadLaying) none H')/\(az m xs=true->az m ys=false->∀ H',Same H H'->E (.ref T.BadWish) none H')
abbrev eT:Stmt:=top 38
theorem LH:FnScope ["web","laying","wish"] ["web","laying","wish"] (aa eT):=FnScope.of (by kernel_rfl)
theorem DQ:NmL (aa eT) "web":=.of (by kernel_rfl)
theorem zW:NmL (aa eT) "laying":=.of (by kernel_rfl)
theorem Cz:NmL (aa eT) "wish":=.of (by kernel_rfl)
theorem nN:NmG (aa eT) "standing":=.of (by kernel_rfl)
theorem MM (T:Txt K mg) (hq:aU (CXe P w)) {f:Addr} {fd:FuncData} (D:Df K mg "is_met" eT ["web","laying","wish"] f fd) {d8:Addr} {kK:FuncData} (bi:Df K mg "standing" cj ["web","laying","wish","r"] d8 kK) (G_standing:FnOk P w K mg base (CXe P w) 9 d8 kK ["web","laying","wish","r"] (sJ T)):FnOk P w K mg base (CXe P w) 10 f fd ["web","laying","wish"] (Dr T):=by
 refine D.F.okX LH (fun vs H Q E h=>?_) (fun cdv A outer s H vs Q E hr h=>?_)
 . obtain ⟨p,a,b,t,c,d,m,ps,rs,xs,ys,rfl,_⟩:=h
   rfl
 . obtain ⟨p,a,b,t,c,d,m,ps,rs,xs,ys,rfl,W,ha,hz,hb,hy,k,e1,e2⟩:=h;have m1:=W.go.m1;refine ⟨_,(aq (aK (sS KR (aw G_standing (hr.mono (by decide)) nN.g bi.m bi.F.kp bi.b .nil bF (ag (pvl 0 DQ) (ag (pvl 1 zW) (ag (pvl 2 Cz) (ag ap ah)))) (hdb:=nN.d)) ap (bh _)))),?_⟩;rw [show L2.start ["web","laying","wish"] [V.ref p,V.ref a,V.ref b]=[some (V.ref p),some (V.ref a),some (V.ref b)] from rfl];walk_at "rd";refine ⟨p,a,b,t,c,d,m,ps,rs,xs,ys,0,rfl,W,ha,hz,hb,hy,fun fi fj _ _=>?_,e1,e2,fun _ _ z=>absurd ⟨Int.le_refl _,by omega⟩ z⟩;obtain ⟨par,dep,R,k⟩:=k fi fj;exact ⟨par,dep,R,fun H' s'=>⟨_,rfl,k H' s'⟩⟩
def yR (T:Txt K mg):Sp:=fun vs H Q E=>∃ (p a t:Addr) (c:Bool) (m:Int) (ps:List Addr) (rs:List Road) (xs:List Int) (r:Int),vs=[.ref p,.ref a,.int r]/\WebAt T.Web H p m t ps rs/\SqX K c H a (xs.map V.int)/\xs.length<=1000 /\
 (az m xs=true->0<=r->r<m->∃ par dep,Rooted m rs r par dep/\∀ H',Same H H'->Q (.int (gat m rs r par dep (fun v=>xs.getD v.toNat 0) (ned rs par) r)) H') /\
 (az m xs=false->∀ H',Same H H'->E (.ref T.BadWish) none H')/\(az m xs=true->¬ (0<=r/\r<m)->∀ H',Same H H'->E (.ref T.NoPlace) none H')
abbrev cP:Stmt:=top 40
theorem EO:FnScope ["web","wish","v"] ["web","wish","v"] (aa cP):=FnScope.of (by kernel_rfl)
theorem Al:NmL (aa cP) "web":=.of (by kernel_rfl)
theorem zh:NmL (aa cP) "wish":=.of (by kernel_rfl)
theorem tT:NmL (aa cP) "v":=.of (by kernel_rfl)
theorem nQ:NmG (aa cP) "needs":=.of (by kernel_rfl)
theorem FP (T:Txt K mg) (hq:aU (CXe P w)) {f:Addr} {fd:FuncData} (D:Df K mg "pile_need" cP ["web","wish","v"] f fd) {jg:Addr} {qc:FuncData} (ig:Df K mg "needs" cQ ["web","wish","r"] jg qc) (G_needs:FnOk P w K mg base (CXe P w) 8 jg qc ["web","wish","r"] (AB T)):FnOk P w K mg base (CXe P w) 9 f fd ["web","wish","v"] (yR T):=by
 refine D.F.okX EO (fun vs H Q E h=>?_) (fun cdv A outer s H vs Q E hr h=>?_)
 . obtain ⟨p,a,t,c,m,ps,rs,xs,r,rfl,_⟩:=h
   rfl
 . obtain ⟨p,a,t,c,m,ps,rs,xs,r,rfl,W,ha,hz,k,e,e'⟩:=h;refine ⟨_,(aq (aK (bx bB (aw G_needs (hr.mono (by decide)) nQ.g ig.m ig.F.kp ig.b .nil bF (ag (pvl 0 Al) (ag (pvl 1 zh) (ag (pvl 2 tT) ah))) (hdb:=nQ.d)) (pvl 2 tT) (fun _ _=>rfl)))),?_⟩;rw [show L2.start ["web","wish","v"] [V.ref p,V.ref a,V.int r]=[some (V.ref p),some (V.ref a),some (V.int r)] from rfl];walk_at "rd";refine ex9 p a t c m ps rs xs r ?_;refine an7 rfl W ha hz (fun fi r0 r1=>?_) e e';obtain ⟨par,dep,R,k⟩:=k fi r0 r1;refine ⟨par,dep,R,fun l H1 n1 s1 e1=>?_⟩;refine ixL e1 (atG r0 ?_) ?_
   . unfold uk;rw [List.length_map,bz];omega
   . rw [FS r0 r1];exact k H1 s1
def Lh (T:Txt K mg):Sp:=fun vs H Q E=>∃ (p t:Addr) (m:Int) (ps:List Addr) (rs:List Road) (a b:Int),vs=[.ref p,.int a,.int b]/\WebAt T.Web H p m t ps rs /\
 (0<=a->a<m->0<=b->b<m->∃ par dep,Rooted m rs b par dep/\∀ l H',H l=none->Same H H'->H' l=some (.lst ((dg par dep a).map V.int))->Q (.ref l) H')/\(¬ ((0<=a/\a<m)/\(0<=b/\b<m))->E (.ref T.NoPlace) none H)
abbrev iE:Stmt:=top 27
theorem FK:FnScope ["web","a","b","nearer","places"] ["web","a","b"] (aa iE):=FnScope.of (by kernel_rfl)
theorem AV:NmL (aa iE) "web":=.of (by kernel_rfl)
theorem Fh:NmL (aa iE) "a":=.of (by kernel_rfl)
theorem Fe:NmL (aa iE) "b":=.of (by kernel_rfl)
theorem wg:NmL (aa iE) "nearer":=.of (by kernel_rfl)
theorem iY:NmL (aa iE) "places":=.of (by kernel_rfl)
theorem nG:NmG (aa iE) "check_place":=.of (by kernel_rfl)
theorem yB:NmG (aa iE) "ahead":=.of (by kernel_rfl)
theorem TC (T:Txt K mg) (hq:aU (CXe P w)) {f:Addr} {fd:FuncData} (D:Df K mg "way" iE ["web","a","b"] f fd) {dL:Addr} {fT:FuncData} (cf:Df K mg "ahead" cF ["web","r"] dL fT) (G_ahead:FnOk P w K mg base (CXe P w) 5 dL fT ["web","r"] (pN T)) {aZ:Addr} {bS:FuncData} (aG:Df K mg "check_place" bo ["web","number"] aZ bS) (G_check_place:FnOk P w K mg base (CXe P w) 2 aZ bS ["web","number"] (gQ T)):FnOk P w K mg base (CXe P w) 6 f fd ["web","a","b"] (Lh T):=by
 refine D.F.okX FK (fun vs H Q E h=>?_) (fun cdv A outer s H vs Q E hr h=>?_)
 . obtain ⟨p,t,m,ps,rs,a,b,rfl,_⟩:=h
   rfl
 . obtain ⟨p,t,m,ps,rs,a,b,rfl,W,k,e⟩:=h;have g:=W.go;have m24:=g.m24;refine ⟨_,(ao (cY (aw G_check_place (hr.mono (by decide)) nG.g aG.m aG.F.kp aG.b .nil bF (ag (pvl 0 AV) (ag (pvl 1 Fh) ah)) (hdb:=nG.d))) (ao (aA (i:=3) FK.nd rfl (Or.inl wg.l) (aw G_ahead (hr.mono (by decide)) yB.g cf.m cf.F.kp cf.b .nil bF (ag (pvl 0 AV) (ag (pvl 2 Fe) ah)) (hdb:=yB.d))) (ao (aA (i:=4) FK.nd rfl (Or.inl iY.l) (b5 (ag (pvl 1 Fh) ah))) (ao (vH PassesOwn.leaving (bf oN (bx bB (pvl 4 iY) (KH Hb ap) (fun _ _=>rfl)) (pvl 2 Fe) (bh _)) (aq (cY (oS PySem.F.plainAttrs_list PySem.F.slot_list_append PySem.F.type_list_append ft (pvl 4 iY) (ag (bx bB (pvl 3 wg) (bx bB (pvl 4 iY) (KH Hb ap) (fun _ _=>rfl)) (fun _ _=>rfl)) ah))))) (aq (aK (pvl 4 iY))))))),?_⟩;rw [show L2.start ["web","a","b","nearer","places"] [V.ref p,V.int a,V.int b]=[some (V.ref p),some (V.int a),some (V.int b),none,none] from rfl];walk_at "rd";refine ⟨p,t,m,ps,rs,a,rfl,W,fun a0 a1=>?_,fun z=>e fun w=>z w.1⟩;refine ⟨p,t,m,ps,rs,b,rfl,W,fun b0 b1=>?_,fun z=>e fun w=>z w.2⟩;obtain ⟨par,dep,R,k⟩:=k a0 a1 b0 b1;refine ⟨par,dep,R,fun l1 H1 n1 s1 e1=>?_⟩;refine ⟨cq (by simp),fun l2 n2=>?_⟩;have n20:H l2=none:=s1.free n2;have n12:l1≠l2:=fun z=>by rw [<- z,e1] at n2;cases n2
   have s2:=s1.trans (Same.new (.lst [V.int a]) n2);have e12:=Same.new (.lst [V.int a]) n2 _ _ e1;have da:=dy R a0 a1;refine Co (fun n σ H4=>∃ (pre:List Int) (c:Int),n=dep c/\(0<=c/\c<m)/\pre++dg par dep c=dg par dep a/\pre.length+dep c=dep a/\σ=[some (.ref p),some (.int a),some (.int b),some (.ref l1),some (.ref l2)]/\Same H H4/\H4 l1=some (.lst (lC m b par))/\H4 l2=some (.lst ((pre++[c]).map V.int))) (dep a) ⟨[],a,rfl,⟨a0,a1⟩,rfl,by simp,rfl,s2,e12,aj⟩ ?_;rintro n σ H4 NW hN hN2 ⟨pre,c,rfl,cr,ew,el,rfl,s4,h1,h2⟩;rw [List.map_append,List.map_cons,List.map_nil] at h2;walk_at "rd";refine ixL h2 (Fj _ _) ⟨rfl,?_⟩;by_cases z:c=b
   . rw [if_neg (fun w=>w (by rw [z]))];rw [z,rp R] at ew;refine k l2 H4 n20 s4 ?_;rw [h2,<- ew,z,List.map_append]
     rfl
   . rw [if_pos (fun w=>z (by injection w))];refine ⟨NW,fun σ' H' z=>?_,?_⟩
     . exact hN2 _ _ z
     have u:=R.up c cr.1 cr.2 z;refine ⟨tyL h2,ixL h2 (Fj _ _) (ixL h1 (g9 cr.1 (um cr.1 cr.2)) ?_)⟩;have ef:Pb.front b par c=V.int (par c):=(by unfold Pb.front;rw [if_neg z]);rw [ef];refine vU h2 (eP ?_) (hN _ _ _ (show dep (par c)<dep c by omega) ⟨pre++[c],par c,rfl,u.1,?_,?_,rfl,s4.put n20 _,by rw [au n12];exact h1,?_⟩)
     . rw [List.length_append,List.length_map];simp;omega
     . rw [List.append_assoc,List.singleton_append,<- gh R cr.1 cr.2 z];exact ew
     . rw [List.length_append];simp;omega
     . rw [aj,List.map_append,List.map_append]
       rfl
theorem UN (xs:List V):Aw xs (some 1) none=xs.drop 1:=by
 have e:HT.sIx xs.length xs.length none=xs.length:=rfl;by_cases z:xs=[]
 . subst z;unfold Aw;simp
 . have h1:1<=xs.length:=by
     cases xs with
     | nil=>exact absurd rfl z
     | cons a l=>simp
   have e1:HT.sIx xs.length 0 (some 1)=1:=by
     unfold HT.sIx;simp;omega
   unfold Aw;rw [e,e1];exact List.take_of_length_le (by rw [List.length_drop];exact Nat.le_refl _)
def GF (T:Txt K mg):Sp:=fun vs H Q E=>∃ (p t:Addr) (m:Int) (ps:List Addr) (rs:List Road) (a b:Int),vs=[.ref p,.int a,.int b]/\WebAt T.Web H p m t ps rs /\
 (0<=a->a<m->0<=b->b<m->∃ par dep,Rooted m rs b par dep/\∀ H',Same H H'->Q (.int (kD rs par dep a)) H')/\(¬ ((0<=a/\a<m)/\(0<=b/\b<m))->E (.ref T.NoPlace) none H)
abbrev cX:Stmt:=top 28
theorem mO:FnScope ["web","a","b","places","product","start","end"] ["web","a","b"] (aa cX):=FnScope.of (by kernel_rfl)
theorem xS:NmL (aa cX) "web":=.of (by kernel_rfl)
theorem K0:NmL (aa cX) "a":=.of (by kernel_rfl)
theorem Kn:NmL (aa cX) "b":=.of (by kernel_rfl)
theorem lX:NmL (aa cX) "places":=.of (by kernel_rfl)
theorem iJ:NmL (aa cX) "product":=.of (by kernel_rfl)
theorem sW:NmL (aa cX) "start":=.of (by kernel_rfl)
theorem xO:NmL (aa cX) "end":=.of (by kernel_rfl)
theorem xB:NmG (aa cX) "way":=.of (by kernel_rfl)
theorem He:NmG (aa cX) "zip":=.of (by kernel_rfl)
theorem ww:NmG (aa cX) "toll":=.of (by kernel_rfl)
theorem Pi (T:Txt K mg) (hq:aU (CXe P w)) {f:Addr} {fd:FuncData} (D:Df K mg "price" cX ["web","a","b"] f fd) {b4:Addr} {cG:FuncData} (aY:Df K mg "toll" cI ["web","a","b"] b4 cG) (G_toll:FnOk P w K mg base (CXe P w) 3 b4 cG ["web","a","b"] (lJ T)) {vO:Addr} {Li:FuncData} (zb:Df K mg "way" iE ["web","a","b"] vO Li) (G_way:FnOk P w K mg base (CXe P w) 6 vO Li ["web","a","b"] (Lh T)):FnOk P w K mg base (CXe P w) 7 f fd ["web","a","b"] (GF T):=by
 refine D.F.okX mO (fun vs H Q E h=>?_) (fun cdv A outer s H vs Q E hr h=>?_)
 . obtain ⟨p,t,m,ps,rs,a,b,rfl,_⟩:=h
   rfl
 . obtain ⟨p,t,m,ps,rs,a,b,rfl,W,k,e⟩:=h;have g:=W.go;have m24:=g.m24;refine ⟨_,(ao (aA (i:=3) mO.nd rfl (Or.inl lX.l) (aw G_way (hr.mono (by decide)) xB.g zb.m zb.F.kp zb.b .nil bF (ag (pvl 0 xS) (ag (pvl 1 K0) (ag (pvl 2 Kn) ah))) (hdb:=xB.d))) (ao (aA (i:=4) mO.nd rfl (Or.inl iJ.l) ap) (ao (eF PassesOwn.leaving rfl (MR true true He.g T.zip (ag (pvl 3 lX) (ag (Nr Rp (pvl 3 lX) (Ry ap) Sd) ah))) (sV (n:=2) rfl (cT (aR (i:=5) mO.nd rfl (Or.inl sW.l)) (cT (aR (i:=6) mO.nd rfl (Or.inl xO.l)) ng))) (aq (aA (i:=4) mO.nd rfl (Or.inl iJ.l) (ax i9 (pvl 4 iJ) (aw G_toll (hr.mono (by decide)) ww.g aY.m aY.F.kp aY.b .nil bF (ag (pvl 0 xS) (ag (pvl 5 sW) (ag (pvl 6 xO) ah))) (hdb:=ww.d)))))) (aq (aK (pvl 4 iJ)))))),?_⟩;rw [show L2.start ["web","a","b","places","product","start","end"] [V.ref p,V.int a,V.int b]=[some (V.ref p),some (V.int a),some (V.int b),none,none,none,none] from rfl];walk_at "rd";refine ⟨p,t,m,ps,rs,a,b,rfl,W,fun a0 a1 b0 b1=>?_,e⟩;obtain ⟨par,dep,R,k⟩:=k a0 a1 b0 b1;refine ⟨par,dep,R,fun l1 H1 n1 s1 e1=>?_⟩;unfold tSl Q1 tNoPart;walk_at "rd";refine ⟨l1,_,rfl,SqL.of e1,fun l2 n2=>?_⟩;rw [UN];have s2:=s1.trans (Same.new (.lst (((dg par dep a).map V.int).drop 1)) n2);have e12:=Same.new (.lst (((dg par dep a).map V.int).drop 1)) n2 _ _ e1;have e22:upd H1 l2 (.lst (((dg par dep a).map V.int).drop 1)) l2=some (.lst (((dg par dep a).map V.int).drop 1)):=aj;generalize upd H1 l2 (.lst (((dg par dep a).map V.int).drop 1))=H2 at s2 e12 e22 ⊢;refine ⟨l1,l2,⟨rfl,rfl⟩,⟨_,SqL.of e12⟩,⟨_,SqL.of e22⟩,?_⟩;have wl:(dg par dep a).length=dep a+1:=Ip a _;refine P4 (K:=K) (c:=true) (d:=true) (xs:=(dg par dep a).map V.int) (ys:=((dg par dep a).map V.int).drop 1) (fun i σ H3=>∃ (pre:List Int) (c pr:Int) (v5 v6:Option V),pre.length=i/\(0<=c/\c<m)/\pre++dg par dep c=dg par dep a/\pre.length+dep c=dep a/\pr*kD rs par dep c=kD rs par dep a/\σ=[some (.ref p),some (.int a),some (.int b),some (.ref l1),some (.int pr),v5,v6]/\Same H2 H3) ⟨[],a,1,_,_,rfl,⟨a0,a1⟩,rfl,by simp,by rw [Int.one_mul],rfl,Same.refl _⟩ (fun i σ H3 z=>by obtain ⟨_,_,_,_,_,_,_,_,_,_,_,s3⟩:=z;exact ⟨SqL.of (s3 _ _ e12),SqL.of (s3 _ _ e22)⟩) ?_ ?_
   . rintro i x y σ H3 q N hN hx hy ⟨pre,c,pr,v5,v6,pl,cr,ew,el,ep,rfl,s3⟩ hq;have hcb:c≠b:=fun z=>by
       have:=(List.getElem?_eq_some_iff.mp hy).1;rw [List.length_drop,List.length_map,wl] at this;rw [z,R.root] at el;omega
     have u:=R.up c cr.1 cr.2 hcb;obtain ⟨l,hl⟩:=yK (par:=par) (dep:=dep) (par c);have ew2:=ew;rw [gh R cr.1 cr.2 hcb,hl] at ew2;have ex:x=V.int c:=by
       rw [<- ew2,List.getElem?_map,List.getElem?_append_right (by omega),pl,Nat.sub_self] at hx
       simpa using hx.symm
     have ey:y=V.int (par c):=by
       rw [<- ew2,List.getElem?_drop,List.getElem?_map,List.getElem?_append_right (by omega),show 1+i - pre.length=1 by omega] at hy
       simpa using hy.symm
     subst ex ey;obtain ⟨kk,hk,k0,k1⟩:=ue g R cr.1 cr.2 hcb;have s4:=Same.new (.tup [V.int c,V.int (par c)]) hq;walk_at "rd";refine ⟨_,SqT.of aj,rfl,_,_,rfl,_,_,rfl,rfl,?_⟩;refine ⟨p,t,m,ps,rs,c,par c,rfl,W.same (s2.trans (s3.trans s4)),fun k' _ _ _ _ h=>?_,fun z=>absurd ⟨cr,u.1⟩ z,fun _ _ _ _ z=>by rw [hk] at z;cases z⟩;rw [hk] at h;cases h;refine ⟨kk,rfl,.inr ⟨by omega,by omega⟩,hN _ _ ⟨pre++[c],par c,pr*kk,_,_,?_,u.1,?_,?_,?_,rfl,s3.trans s4⟩⟩
     . rw [List.length_append,pl];rfl
     . rw [List.append_assoc,List.singleton_append,<- gh R cr.1 cr.2 hcb];exact ew
     . rw [List.length_append];simp;omega
     . rw [<- ep,rA R cr.1 cr.2 hcb,hk];show pr*kk*_=pr*(kk*_);rw [Int.mul_assoc]
   . rintro σ H3 ⟨pre,c,pr,v5,v6,pl,cr,ew,el,ep,rfl,s3⟩;rw [List.length_drop,List.length_map,wl] at pl;have hcb:c=b:=Classical.byContradiction fun z=>by
       have:=R.pos cr.1 cr.2 z;omega
     rw [hcb,wU R,Int.mul_one] at ep;subst ep;exact ⟨_,rfl,k H3 (s2.trans s3)⟩
def Ev (K:PySem.W.Frag):Sp:=fun vs H Q _=>∃ (a:Addr) (ns:List Int),vs=[.ref a]/\SqL K H a (ns.map V.int)/\ns.length<=63/\∀ H',Q (.bl true) H'
def TB (T:Txt K mg):Sp:=Ev K
abbrev bp:Stmt:=top 59
theorem fG:FnScope ["script","many","roads","bound","laying","wish","part","near","to_it","wanted","old","fresh","fuller","r","grown"] ["script"] (aa bp):=FnScope.of (by kernel_rfl)
theorem dQ:NmL (aa bp) "script":=.of (by kernel_rfl)
theorem c9:NmL (aa bp) "many":=.of (by kernel_rfl)
theorem pH:NmL (aa bp) "roads":=.of (by kernel_rfl)
theorem qz:NmL (aa bp) "bound":=.of (by kernel_rfl)
theorem eU:NmL (aa bp) "laying":=.of (by kernel_rfl)
theorem dD:NmL (aa bp) "wish":=.of (by kernel_rfl)
theorem kF:NmL (aa bp) "part":=.of (by kernel_rfl)
theorem nD:NmL (aa bp) "near":=.of (by kernel_rfl)
theorem pB:NmL (aa bp) "to_it":=.of (by kernel_rfl)
theorem fY:NmL (aa bp) "wanted":=.of (by kernel_rfl)
theorem km:NmL (aa bp) "old":=.of (by kernel_rfl)
theorem fS:NmL (aa bp) "fresh":=.of (by kernel_rfl)
theorem iT:NmL (aa bp) "fuller":=.of (by kernel_rfl)
theorem jO:NmL (aa bp) "r":=.of (by kernel_rfl)
theorem xZ:NmL (aa bp) "grown":=.of (by kernel_rfl)
theorem cN:NmG (aa bp) "_law_drawn":=.of (by kernel_rfl)
theorem qN:NmG (aa bp) "_law_roads":=.of (by kernel_rfl)
theorem uW:NmG (aa bp) "min":=.of (by kernel_rfl)
theorem qp:NmG (aa bp) "_law_bound":=.of (by kernel_rfl)
theorem oH:NmG (aa bp) "_law_laying":=.of (by kernel_rfl)
theorem q9:NmG (aa bp) "_law_wish":=.of (by kernel_rfl)
theorem jE:NmG (aa bp) "_law_toll":=.of (by kernel_rfl)
theorem oW:NmG (aa bp) "Web":=.of (by kernel_rfl)
theorem eA:NmG (aa bp) "list":=.of (by kernel_rfl)
theorem kU:NmG (aa bp) "always":=.of (by kernel_rfl)
theorem EK:NmG (aa bp) "range":=.of (by kernel_rfl)
theorem cV:NmG (aa bp) "standing":=.of (by kernel_rfl)
theorem xg:NmG (aa bp) "price":=.of (by kernel_rfl)
theorem iu:NmG (aa bp) "pile_need":=.of (by kernel_rfl)
theorem kR:NmG (aa bp) "is_met":=.of (by kernel_rfl)
theorem SX (T:Txt K mg) (hq:aU (CXe P w)) {f:Addr} {fd:FuncData} (D:Df K mg "law" bp ["script"] f fd) {f_Web___init__:Addr} {lN:FuncData} (F_Web___init__:Fun K "__init__" "Web.__init__" aO f_Web___init__ lN) (b_Web:Binds K lN ["self","many","roads"] []) (Ex:Mk K T.Web f_Web___init__) (G_Web_init:FnOk P w K mg base (CXe P w) 3 f_Web___init__ lN ["self","many","roads"] (mq T)) {gn:Addr} {yA:FuncData} (jc:Df K mg "_law_bound" c7 ["script"] gn yA) (G_law_bound:FnOk P w K mg base (CXe P w) 2 gn yA ["script"] (yp T)) {ba:Addr} {bJ:FuncData} (ay:Df K mg "_law_drawn" bj ["script","k"] ba bJ) (G_law_drawn:FnOk P w K mg base (CXe P w) 1 ba bJ ["script","k"] (hV T)) {fQ:Addr} {wp:FuncData} (hJ:Df K mg "_law_laying" be ["script","many","bound"] fQ wp) (G_law_laying:FnOk P w K mg base (CXe P w) 2 fQ wp ["script","many","bound"] (wu T)) {gA:Addr} {xF:FuncData} (jb:Df K mg "_law_roads" aW ["script","many","shape"] gA xF) (G_law_roads:FnOk P w K mg base (CXe P w) 2 gA xF ["script","many","shape"] (xx T)) {eC:Addr} {kO:FuncData} (bI:Df K mg "_law_toll" ee ["part"] eC kO) (G_law_toll:FnOk P w K mg base (CXe P w) 1 eC kO ["part"] (rG T)) {iw:Addr} {zt:FuncData} (j9:Df K mg "_law_wish" bK ["script","many","bound"] iw zt) (G_law_wish:FnOk P w K mg base (CXe P w) 2 iw zt ["script","many","bound"] (zA T)) {lA:Addr} {DL:FuncData} (iz:Df K mg "always" d4 ["web","wish"] lA DL) (G_always:FnOk P w K mg base (CXe P w) 60 lA DL ["web","wish"] (DE T)) {lg:Addr} {Dz:FuncData} (iB:Df K mg "is_met" eT ["web","laying","wish"] lg Dz) (G_is_met:FnOk P w K mg base (CXe P w) 10 lg Dz ["web","laying","wish"] (Dr T)) {gB:Addr} {yU:FuncData} (eB:Df K mg "pile_need" cP ["web","wish","v"] gB yU) (G_pile_need:FnOk P w K mg base (CXe P w) 9 gB yU ["web","wish","v"] (yR T)) {mV:Addr} {Gc:FuncData} (pd:Df K mg "price" cX ["web","a","b"] mV Gc) (G_price:FnOk P w K mg base (CXe P w) 7 mV Gc ["web","a","b"] (GF T)) {d8:Addr} {kK:FuncData} (bi:Df K mg "standing" cj ["web","laying","wish","r"] d8 kK) (G_standing:FnOk P w K mg base (CXe P w) 9 d8 kK ["web","laying","wish","r"] (sJ T)):FnOk P w K mg base (CXe P w) 61 f fd ["script"] (TB T):=by
 refine D.F.okC fG (fun vs H Q E h=>?_) (fun cdv A outer s H vs Q E hr h=>?_)
 . obtain ⟨a,ns,rfl,_⟩:=h
   rfl
 . obtain ⟨a,ns,rfl,ha,hn,k⟩:=h;refine ⟨_,(ao (aA (i:=1) fG.nd rfl (Or.inl c9.l) (ax gd ap (ax bN (ax dY (aw G_law_drawn (hr.mono (by decide)) cN.g ay.m ay.F.kp ay.b .nil (aI hq) (ag (pvl 0 dQ) (ag ap ah)) (hdb:=cN.d)) ap) ap))) (ao (aA (i:=2) fG.nd rfl (Or.inl pH.l) (aw G_law_roads (hr.mono (by decide)) qN.g jb.m jb.F.kp jb.b .nil (aI hq) (ag (pvl 0 dQ) (ag (pvl 1 c9) (ag (ax bN (ax dY (aw G_law_drawn (hr.mono (by decide)) cN.g ay.m ay.F.kp ay.b .nil (aI hq) (ag (pvl 0 dQ) (ag ap ah)) (hdb:=cN.d)) ap) ap) ah))) (hdb:=qN.d))) (ao (aA (i:=3) fG.nd rfl (Or.inl qz.l) (fM (Lo rfl) uW.g T.min TN (ag (aw G_law_bound (hr.mono (by decide)) qp.g jc.m jc.F.kp jc.b .nil (aI hq) (ag (pvl 0 dQ) ah) (hdb:=qp.d)) (ag (ax jK ap ap) ah)) (hn:=uW.n) (hdb:=uW.d))) (ao (aA (i:=4) fG.nd rfl (Or.inl eU.l) (aw G_law_laying (hr.mono (by decide)) oH.g hJ.m hJ.F.kp hJ.b .nil (aI hq) (ag (pvl 0 dQ) (ag (pvl 1 c9) (ag (pvl 3 qz) ah))) (hdb:=oH.d))) (ao (aA (i:=5) fG.nd rfl (Or.inl dD.l) (aw G_law_wish (hr.mono (by decide)) q9.g j9.m j9.F.kp j9.b .nil (aI hq) (ag (pvl 0 dQ) (ag (pvl 1 c9) (ag (pvl 3 qz) ah))) (hdb:=q9.d))) (ao (aA (i:=6) fG.nd rfl (Or.inl kF.l) (ax dY (aw G_law_drawn (hr.mono (by decide)) cN.g ay.m ay.F.kp ay.b .nil (aI hq) (ag (pvl 0 dQ) (ag ap ah)) (hdb:=cN.d)) ap)) (ao (aA (i:=7) fG.nd rfl (Or.inl nD.l) (ax bN (pvl 6 kF) (pvl 1 c9))) (ao (aA (i:=8) fG.nd rfl (Or.inl pB.l) (aw G_law_toll (hr.mono (by decide)) jE.g bI.m bI.F.kp bI.b .nil (aI hq) (ag (ax bN (ax dY (pvl 6 kF) (pvl 1 c9)) (ax jK ap ap)) ah) (hdb:=jE.d))) (ao (aA (i:=9) fG.nd rfl (Or.inl fY.l) (ax bN (aw G_law_drawn (hr.mono (by decide)) cN.g ay.m ay.F.kp ay.b .nil (aI hq) (ag (pvl 0 dQ) (ag ap ah)) (hdb:=cN.d)) (bx bB (b5 (ag ap (ag (ax jK ap ap) ah))) (ax bN (pvl 6 kF) ap) (fun _ _=>rfl)))) (ao (aA (i:=10) fG.nd rfl (Or.inl km.l) (Cc Ex G_Web_init (hr.mono (by decide)) oW.g T.Q3 b_Web .nil (aI hq) (ag (pvl 1 c9) (ag (gj l5 eA.g T.list y9 (ag (pvl 2 pH) ah) (hn:=eA.n) (hdb:=eA.d)) ah)) (hdb:=oW.d))) (ao (aA (i:=11) fG.nd rfl (Or.inl fS.l) (Cc Ex G_Web_init (hr.mono (by decide)) oW.g T.Q3 b_Web .nil (aI hq) (ag (ax gd (pvl 1 c9) ap) (ag (ax mj (gj l5 eA.g T.list y9 (ag (pvl 2 pH) ah) (hn:=eA.n) (hdb:=eA.d)) (b5 (ag (wQ (ag (pvl 7 nD) (ag (pvl 1 c9) (ag (pvl 8 pB) (ag (aw G_law_toll (hr.mono (by decide)) jE.g bI.m bI.F.kp bI.b .nil (aI hq) (ag (ax dY (pvl 6 kF) ap) ah) (hdb:=jE.d)) ah))))) ah))) ah)) (hdb:=oW.d))) (ao (bX (bf K3 (aw G_always (hr.mono (by decide)) kU.g iz.m iz.F.kp iz.b .nil (aI hq) (ag (pvl 11 fS) (ag (ax mj (pvl 5 dD) (b5 (ag ap ah))) ah)) (hdb:=kU.d)) (aw G_always (hr.mono (by decide)) kU.g iz.m iz.F.kp iz.b .nil (aI hq) (ag (pvl 10 km) (ag (pvl 5 dD) ah)) (hdb:=kU.d)) (bh _)) (aq (aK y3)) bc) (ao (aA (i:=12) fG.nd rfl (Or.inl iT.l) (gj l5 eA.g T.list y9 (ag (pvl 5 dD) ah) (hn:=eA.n) (hdb:=eA.d))) (ao (yQ (ax gd (bx bB (pvl 12 iT) (pvl 7 nD) (fun _ _=>rfl)) (ax i9 (pvl 8 pB) (pvl 9 fY))) (xK (pvl 12 iT) (pvl 7 nD) jQ)) (ao (eF PassesOwn.never rfl (xW EK.g T.range (ag (pvl 1 c9) ah)) (aR (i:=13) fG.nd rfl (Or.inl jO.l)) (ao (bX (bf oN (aw G_standing (hr.mono (by decide)) cV.g bi.m bi.F.kp bi.b .nil (aI hq) (ag (pvl 11 fS) (ag (ax mj (pvl 4 eU) (b5 (ag ap ah))) (ag (ax mj (pvl 5 dD) (b5 (ag ap ah))) (ag (pvl 13 jO) ah)))) (hdb:=cV.d)) (aw G_standing (hr.mono (by decide)) cV.g bi.m bi.F.kp bi.b .nil (aI hq) (ag (pvl 10 km) (ag (pvl 4 eU) (ag (pvl 5 dD) (ag (pvl 13 jO) ah)))) (hdb:=cV.d)) (bh _)) (aq (aK y3)) bc) (ao (aA (i:=14) fG.nd rfl (Or.inl xZ.l) (ax RK (aw G_price (hr.mono (by decide)) xg.g pd.m pd.F.kp pd.b .nil (aI hq) (ag (pvl 11 fS) (ag (pvl 13 jO) (ag (pvl 1 c9) ah))) (hdb:=xg.d)) (pvl 9 fY))) (ao (bX (bf oN (aw G_pile_need (hr.mono (by decide)) iu.g eB.m eB.F.kp eB.b .nil (aI hq) (ag (pvl 11 fS) (ag (ax mj (pvl 5 dD) (b5 (ag (pvl 9 fY) ah))) (ag (pvl 13 jO) ah))) (hdb:=iu.d)) (ax gd (aw G_pile_need (hr.mono (by decide)) iu.g eB.m eB.F.kp eB.b .nil (aI hq) (ag (pvl 10 km) (ag (pvl 5 dD) (ag (pvl 13 jO) ah))) (hdb:=iu.d)) (pvl 14 xZ)) (bh _)) (aq (aK y3)) bc) (aq (bX (bf oN (aw G_standing (hr.mono (by decide)) cV.g bi.m bi.F.kp bi.b .nil (aI hq) (ag (pvl 11 fS) (ag (ax mj (pvl 4 eU) (b5 (ag ap ah))) (ag (ax mj (pvl 5 dD) (b5 (ag (pvl 9 fY) ah))) (ag (pvl 13 jO) ah)))) (hdb:=cV.d)) (aw G_standing (hr.mono (by decide)) cV.g bi.m bi.F.kp bi.b .nil (aI hq) (ag (pvl 10 km) (ag (pvl 4 eU) (ag (pvl 12 iT) (ag (pvl 13 jO) ah)))) (hdb:=cV.d)) (bh _)) (aq (aK y3)) bc)))))) (aq (aK (sS gH (aw G_is_met (hr.mono (by decide)) kR.g iB.m iB.F.kp iB.b .nil (aI hq) (ag (pvl 11 fS) (ag (ax mj (pvl 4 eU) (b5 (ag ap ah))) (ag (ax mj (pvl 5 dD) (b5 (ag (pvl 9 fY) ah))) ah))) (hdb:=kR.d)) (aw G_is_met (hr.mono (by decide)) kR.g iB.m iB.F.kp iB.b .nil (aI hq) (ag (pvl 10 km) (ag (pvl 4 eU) (ag (pvl 12 iT) ah))) (hdb:=kR.d)) (bh _))))))))))))))))))),?_⟩;rw [show L2.start ["script","many","roads","bound","laying","wish","part","near","to_it","wanted","old","fresh","fuller","r","grown"] [V.ref a]=[some (V.ref a),none,none,none,none,none,none,none,none,none,none,none,none,none,none] from rfl];refine jk fun N1 h1=>?_;walk_at "rd";refine ⟨a,ns,0,rfl,ha,by decide,by decide,fun c0 c00=>⟨c0,rfl,⟨by decide,by decide⟩,by decide,h1 _ _ (jk fun N2 h2=>?_)⟩⟩;obtain ⟨m,hm⟩:∃ m,1+c0 / 2 % 6=m:=⟨_,rfl⟩;rw [hm];have m1:1<=m:=by omega
   have m6:m<=6:=by omega
   have mp:0<m:=by omega
   clear hm;walk_at "rd";refine ⟨a,ns,0,rfl,ha,by decide,by decide,fun c1 c10=>⟨c1,rfl,⟨by decide,by decide⟩,by decide,?_⟩⟩;refine ⟨a,ns,m,_,rfl,ha,m1,by omega,by omega,by omega,fun l ps rs H1 nl s1 el ro g=>h2 _ _ (jk fun N3 h3=>?_)⟩;walk_at "rd";refine ⟨a,ns,rfl,Same.seq s1 ha,fun b H2 b1 s2=>?_⟩;have s12:=s1.trans s2;refine ⟨⟨by decide,by decide,by decide⟩,_,_,⟨rfl,rfl⟩,h3 _ _ (jk fun N4 h4=>?_)⟩;obtain ⟨bd,hbd,bd1⟩:∃ bd,(if (10:Int)^Int.toNat 50<b then (10:Int)^Int.toNat 50 else b)=bd/\1<=bd:=⟨_,rfl,by
     have:(1:Int)<=10^Int.toNat 50:=(by decide);split <;> omega⟩
   rw [hbd];clear hbd;walk_at "rd";refine ⟨a,ns,m,bd,rfl,Same.seq s12 ha,hn,m1,by omega,bd1,fun lx xs H3 nx s3 ex xl x0=>h4 _ _ (jk fun N5 h5=>?_)⟩;have s13:=s12.trans s3;walk_at "rd";refine ⟨a,ns,m,bd,rfl,Same.seq s13 ha,hn,m1,by omega,bd1,fun ly ys H4 ny s4 ey yl y0=>h5 _ _ (jk fun N6 h6=>?_)⟩;have s14:=s13.trans s4;have ex4:=s4 _ _ ex;have el4:=s4 _ _ (s3 _ _ (s2 _ _ el));have ro4:=RoadsAt.same (s2.trans (s3.trans s4)) ro;walk_at "rd";refine ⟨a,ns,0,rfl,Same.seq s14 ha,by decide,by decide,fun c2 c20=>⟨c2,rfl,⟨by decide,by decide⟩,h6 _ _ (jk fun N7 h7=>?_)⟩⟩;have pt0:0<=c2 / 13:=by omega
   generalize c2 / 13=pt at pt0 ⊢;walk_at "rd";refine ⟨mp,h7 _ _ (jk fun N8 h8=>?_)⟩;have n0:=Int.emod_nonneg pt (Int.ne_of_gt mp);have n1:=Int.emod_lt_of_pos pt mp;generalize pt % m=near at n0 n1 ⊢;walk_at "rd";refine ⟨⟨by omega,by omega⟩,⟨by decide,by decide,by decide⟩,by decide,_,rfl,fun ti ti0 ti1=>h8 _ _ (jk fun N9 h9=>?_)⟩;walk_at "rd";refine ⟨a,ns,1,rfl,Same.seq s14 ha,by decide,by decide,fun c3 c30=>?_⟩;refine ⟨⟨by decide,by decide,by decide⟩,cq (by simp),fun q1 nq1=>⟨by decide,?_⟩⟩;have u1:=Same.new (.lst [V.int 3,V.int (10^Int.toNat 20)]) nq1;obtain ⟨G,eG,G0,G1⟩:∃ G:Int,atI [V.int 3,V.int (10^Int.toNat 20)] (pt % 2)=some (.int G)/\0<G/\G<=10^20:=by
     rcases (show pt % 2=0\/pt % 2=1 by omega) with z|z <;> rw [z]
     . exact ⟨3,rfl,by decide,by decide⟩
     . exact ⟨10^20,rfl,by decide,by decide⟩
   refine ixL aj eG ⟨_,rfl,_,rfl,G0,h9 _ _ (jk fun N10 h10=>?_)⟩;have w0:=Int.emod_nonneg c3 (Int.ne_of_gt G0);have w1:=Int.emod_lt_of_pos c3 G0;generalize c3 % G=wd at w0 w1 ⊢;have wb:wd<10^20:=by omega
   have s15:=s14.trans u1;have ex5:=u1 _ _ ex4;have ey5:=u1 _ _ ey;have el5:=u1 _ _ el4;have ro5:=RoadsAt.same u1 ro4;generalize upd H4 q1 (.lst [V.int 3,V.int (10^Int.toNat 20)])=H5 at s15 ex5 ey5 el5 ro5 ⊢;clear ex4 ey el4 ro4 el ro ex;walk_at "rd";refine ⟨_,.inl (SqL.of el5),fun lc nlc=>?_⟩;have u2:=Same.new (.lst (ps.map V.ref)) nlc;refine MA T (c:=true) (SqL.of aj) (RoadsAt.same u2 ro5) g fun x tw H6 hx htw s6 W=>h10 _ _ (jk fun N11 h11=>?_);have s56:=u2.trans s6;walk_at "rd";refine ⟨_,.inl (SqL.of (s56 _ _ el5)),fun lc2 nlc2=>?_⟩;have u3:=Same.new (.lst (ps.map V.ref)) nlc2;refine ⟨⟨by decide,by decide⟩,_,rfl,fun bk bk0 bk1=>⟨cq (by simp),fun q2 nq2=>⟨cq (by simp),fun q3 nq3=>?_⟩⟩⟩;have u4:=Same.new (.tup [V.int near,V.int m,V.int ti,V.int bk]) nq2;have u5:=Same.new (.lst [V.ref q2]) nq3;have u45:=u4.trans u5;have e2:=u5 _ _ (aj (H:=upd H6 lc2 (.lst (ps.map V.ref))) (a:=q2) (o:=.tup [V.int near,V.int m,V.int ti,V.int bk]));have e3:=aj (H:=upd (upd H6 lc2 (.lst (ps.map V.ref))) q2 (.tup [V.int near,V.int m,V.int ti,V.int bk])) (a:=q3) (o:=.lst [V.ref q2]);have elc:=u45 _ _ (aj (H:=H6) (a:=lc2) (o:=.lst (ps.map V.ref)));have u35:=u3.trans u45;generalize upd (upd (upd H6 lc2 (.lst (ps.map V.ref))) q2 (.tup [V.int near,V.int m,V.int ti,V.int bk])) q3 (.lst [V.ref q2])=H7 at e2 e3 elc u35 ⊢;have pl:ps.length=rs.length:=Paired.length ro5;have rl:=g.len;refine Tj elc e3 (cq (by simp;omega)) fun lr nlr=>?_;have u6:=Same.new (.lst (ps.map V.ref++[V.ref q2])) nlr;have g':Good (m+1) (rs++[⟨near,m,ti,bk⟩]):=O6 g (by omega) n0 n1 ti0 ti1 bk0 bk1;have ro7:RoadsAt (upd H7 lr (.lst (ps.map V.ref++[V.ref q2]))) (ps++[q2]) (rs++[⟨near,m,ti,bk⟩]):=Ai (R:=fun p rd=>upd H7 lr (.lst (ps.map V.ref++[V.ref q2])) p=some (.tup (jC rd))) (u6 _ _ e2) (RoadsAt.same (s56.trans (u35.trans u6)) ro5);have e6:upd H7 lr (.lst (ps.map V.ref++[V.ref q2])) lr=some (.lst ((ps++[q2]).map V.ref)):=by rw [aj,List.map_append];rfl
   have s7:=s56.trans (u35.trans u6);have W7:=W.same (u35.trans u6);generalize upd H7 lr (.lst (ps.map V.ref++[V.ref q2]))=H8 at ro7 e6 s7 W7 ⊢;refine MA T (c:=true) (SqL.of e6) ro7 g' fun y tw' H9 hy htw' s9 W'=>h11 _ _ (jk fun N12 h12=>?_);have s59:=s7.trans s9;have W9:=W7.same s9;have ex9:=s59 _ _ ex5;have ey9:=s59 _ _ ey5;obtain ⟨PAR,DEP,RR⟩:∃ (PAR:Int->Int->Int) (DEP:Int->Int->Nat),∀ r,0<=r->r<m->Rooted m rs r (PAR r) (DEP r) :=
     ⟨fun r=>if h:0<=r/\r<m then (mt g h.1 h.2).choose else fun _=>0,fun r=>if h:0<=r/\r<m then (mt g h.1 h.2).choose_spec.choose else fun _=>0,fun r r0 r1=>by
       dsimp only;rw [dif_pos ⟨r0,r1⟩,dif_pos ⟨r0,r1⟩];exact (mt g r0 r1).choose_spec.choose_spec⟩
   have RX:∀ r,0<=r->r<m->Rooted (m+1) (rs++[⟨near,m,ti,bk⟩]) r (fg m near (PAR r)) (jq m near (DEP r)):=fun r r0 r1=>j7 g (RR r r0 r1) r0 r1 n0 n1;have fx:=q8 xl x0;have fy:=q8 yl y0;have app:∀ (zs:List Int) (d:Int),(zs.length:Int)=m->(∀ z∈zs,0<=z)->0<=d->((zs++[d]).length:Int)=m+1/\(∀ z∈zs++[d],0<=z)/\az (m+1) (zs++[d])=true:=fun zs d zl z0 d0=>by
     have h1:((zs++[d]).length:Int)=m+1:=(by rw [List.length_append];simp;omega);have h2:∀ z∈zs++[d],0<=z:=fun z hz=>by
       rcases List.mem_append.mp hz with h|h
       . exact z0 z h
       . rw [List.mem_singleton.mp h];exact d0
     exact ⟨h1,h2,q8 h1 h2⟩
   have cat:∀ {H':Hp} {lz:Addr} {zs:List Int} {d:Int} {Q':VK},H' lz=some (.lst (zs.map V.int))->zs.length<=100->(∀ p H'',Same H' H''->H'' p=some (.lst ((zs++[d]).map V.int))->Q' (.ref p) H'')->[V.int d].length<=sizeLine/\∀ (p:Addr),H' p=none->rCat (V.ref lz) (V.ref p) (upd H' p (HO.lst [V.int d])) Q':=fun {H' lz zs d Q'} hz zl q=>⟨cq (by simp),fun p np=>by
     have v1:=Same.new (.lst [V.int d]) np;refine Tj (v1 _ _ hz) aj (cq (by simp;omega)) fun p2 np2=>q p2 _ (v1.trans (Same.new _ np2)) ?_;rw [aj,List.map_append]
     rfl⟩
   walk_at "rd";refine cat ey9 (by omega) fun l1 H10 s10 e10=>?_;obtain ⟨al,a0',fa⟩:=app ys 0 yl y0 (Int.le_refl 0);have asum:(ys++[0]).sum=ys.sum:=by rw [List.sum_append];simp
   have both:∀ (A B:Int) (H':Hp),Same H10 H'->B<=A->(if A<B then Q (V.bl false) H' else N12 [some (V.ref a),some (V.int m),some (V.ref l),some (V.int bd),some (V.ref lx),some (V.ref ly),some (V.int pt),some (V.int near),some (V.int ti),some (V.int wd),some (V.ref x),some (V.ref y),none,none,none] H'):=fun A B H' s' hab=>by
     rw [if_neg (by omega)];refine h12 _ _ (jk fun N13 h13=>?_);have s9':=s10.trans s';walk_at "rd";refine ⟨_,.inl (SqL.of (s9' _ _ ey9)),fun lf nlf=>h13 _ _ (jk fun N14 h14=>?_)⟩;have v1:=Same.new (.lst (ys.map V.int)) nlf;have ef:upd H' lf (.lst (ys.map V.int)) lf=some (.lst (ys.map V.int)):=aj;have nlf9:=s9'.free nlf;have s9a:=s9'.trans v1;generalize upd H' lf (.lst (ys.map V.int))=H11 at s9a ef ⊢;walk_at "rd";refine ixL ef (atG n0 (by omega)) ⟨.inl ⟨by omega,by omega⟩,_,rfl,AE ef n0 (by rw [List.length_map];omega) (h14 _ _ (jk fun N15 h15=>?_))⟩;rw [<- List.map_set];obtain ⟨fs,efs⟩:∃ fs,fs=ys.set near.toNat (ys.getD near.toNat 0+ti*wd):=⟨_,rfl⟩;rw [<- efs];have fl:(fs.length:Int)=m:=(by rw [efs,List.length_set];exact yl);have tw0:0<=ti*wd:=Int.mul_nonneg (by omega) w0;have f0:∀ z∈fs,0<=z:=fun z hz=>by
       rw [efs] at hz;rcases List.mem_or_eq_of_mem_set hz with q|q
       . exact y0 z q
       . have:=uj y0 near.toNat;omega
     have hf:∀ v,0<=v->v<m->fs.getD v.toNat 0=ys.getD v.toNat 0+if v=near then ti*wd else 0:=fun v v0 v1=>by
       rw [efs];by_cases e:v=near
       . rw [if_pos e,e,List.getD_eq_getElem?_getD,List.getElem?_set_self (by omega)];rfl
       . rw [if_neg e,Int.add_zero,List.getD_eq_getElem?_getD,List.getElem?_set_ne (by omega),<- List.getD_eq_getElem?_getD]
     clear efs;have s9b:=s9a.put nlf9 (.lst (fs.map V.int));have ef2:upd H11 lf (.lst (fs.map V.int)) lf=some (.lst (fs.map V.int)):=aj;generalize upd H11 lf (.lst (fs.map V.int))=H12 at s9b ef2 ⊢;have ff:=q8 fl f0;obtain ⟨xl',x0',fxa⟩:=app xs 0 xl x0 (Int.le_refl 0);obtain ⟨wl,w0',fwa⟩:=app ys wd yl y0 w0;have W12:=W9.same s9b;have W12':=W'.same s9b;have ex12:=s9b _ _ ex9;have ey12:=s9b _ _ ey9;have nof:∀ {k:Int} {zs:List Int} {P:Prop},az k zs=true->az k zs=false->P:=fun a b=>by rw [a] at b;cases b
     walk_at "rd";refine ⟨by omega,by omega,?_⟩;refine KM (fun i σ H13=>Same H12 H13/\∃ (v13 v14:Option V),σ=[some (V.ref a),some (V.int m),some (V.ref l),some (V.int bd),some (V.ref lx),some (V.ref ly),some (V.int pt),some (V.int near),some (V.int ti),some (V.int wd),some (V.ref x),some (V.ref y),some (V.ref lf),v13,v14]) ⟨Same.refl _,_,_,rfl⟩ ?_ ?_
     . rintro i σ H13 N BB hBB hN hi ⟨s13',v13,v14,rfl⟩;obtain ⟨r,hr',r0,r1⟩:∃ r:Int,(0:Int)+(i:Int)=r/\0<=r/\r<m:=⟨_,rfl,by omega,by omega⟩;refine hBB _ _ (jk fun M1 k1=>?_);rw [hr'];have R:=RR r r0 r1;have R2:=RX r r0 r1;walk_at "rd";refine cat (s13' _ _ ex12) (by omega) fun p1 H14 s14' e14=>cat (s14' _ _ (s13' _ _ ey12)) (by omega) fun p2 H15 s15' e15=>?_;have t15:=s13'.trans (s14'.trans s15');refine ⟨y,p1,p2,tw',true,true,m+1,_,_,_,_,r,rfl,W12'.same t15,SqL.of (s15' _ _ e14),by omega,SqL.of e15,by omega,fun _ _ _ _=>⟨_,_,R2,fun H16 s16'=>?_⟩,nof fxa,fun _=>nof fa,fun _ _ z=>absurd ⟨r0,by omega⟩ z⟩;have t16:=t15.trans s16';refine ⟨x,lx,ly,tw,true,true,m,ps,rs,xs,ys,r,rfl,W12.same t16,SqL.of (t16 _ _ ex12),by omega,SqL.of (t16 _ _ ey12),by omega,fun _ _ _ _=>⟨_,_,R,fun H17 s17'=>⟨rfl,?_⟩⟩,nof fx,fun _=>nof fy,fun _ _ z=>absurd ⟨r0,r1⟩ z⟩;have E1:=zf g R r0 r1 n0 n1 g' (t:=ti) (u:=bk) xl yl (fs:=ys) (wd:=0) (Int.le_refl 0) (fun v _ _=>by rw [Int.mul_zero];split <;> omega);rw [if_neg (fun z=>z (congrArg V.int E1))];have t17:=t16.trans s17';refine k1 _ _ (jk fun M2 k2=>?_);walk_at "rd";obtain ⟨PX,DX,RRX⟩:∃ (PX:Int->Int->Int) (DX:Int->Int->Nat),(∀ r,0<=r->r<m+1->Rooted (m+1) (rs++[⟨near,m,ti,bk⟩]) r (PX r) (DX r))/\PX r=fg m near (PAR r)/\DX r=jq m near (DEP r) :=
         ⟨fun v=>if v=r then fg m near (PAR r) else if h:0<=v/\v<m+1 then (mt g' h.1 h.2).choose else fun _=>0,fun v=>if v=r then jq m near (DEP r) else if h:0<=v/\v<m+1 then (mt g' h.1 h.2).choose_spec.choose else fun _=>0,fun v v0 v1=>by
           dsimp only;by_cases e:v=r
           . rw [if_pos e,if_pos e,e];exact R2
           . rw [if_neg e,if_neg e,dif_pos ⟨v0,v1⟩,dif_pos ⟨v0,v1⟩];exact (mt g' v0 v1).choose_spec.choose_spec,if_pos rfl,if_pos rfl⟩
       obtain ⟨RRX,ep,ed⟩:=RRX;have RM:=RRX m (by omega) (by omega);have pe:kD (rs++[⟨near,m,ti,bk⟩]) (PX m) (DX m) r=prc (rs++[⟨near,m,ti,bk⟩]) (fg m near (PAR r)) (jq m near (DEP r)) false m:=by
         rw [<- zS g' RM _ rfl r0 (by omega),<- R1 g' RRX r0 (by omega) _ rfl (by omega) (by omega),ep,ed]
       refine ⟨y,tw',m+1,_,_,r,m,rfl,W12'.same t17,fun _ _ _ _=>⟨PX m,DX m,RM,fun H18 s18'=>?_⟩,fun z=>absurd ⟨⟨r0,by omega⟩,⟨by omega,by omega⟩⟩ z⟩;rw [pe];have pb:=OA (to:=false) g' R2 _ rfl (show 0<=m by omega) (show m<m+1 by omega);have dl:=dy R2 (show 0<=m by omega) (show m<m+1 by omega);have pb2:(prc (rs++[⟨near,m,ti,bk⟩]) (fg m near (PAR r)) (jq m near (DEP r)) false m).natAbs<2^4000:=Nat.lt_of_lt_of_le pb.2 (Nat.pow_le_pow_right (by decide) (by omega));have wb2:wd.natAbs<2^4000:=by
         have h1:wd.natAbs<10^20:=by
           have:(10:Int)^20=((10^20:Nat):Int):=(by decide);omega
         exact Nat.lt_trans h1 (by decide +kernel)
       refine ⟨_,rfl,Ti pb2 wb2,k2 _ _ (jk fun M3 k3=>?_)⟩;have t18:=t17.trans s18';walk_at "rd";refine cat (t18 _ _ ey12) (by omega) fun p3 H19 s19' e19=>?_;have t19:=t18.trans s19';refine ⟨y,p3,tw',true,m+1,_,_,_,r,rfl,W12'.same t19,SqL.of e19,by omega,fun _ _ _=>⟨_,_,R2,fun H20 s20'=>?_⟩,nof fwa,fun _ z=>absurd ⟨r0,by omega⟩ z⟩;have t20:=t19.trans s20';refine ⟨x,ly,tw,true,m,ps,rs,ys,r,rfl,W12.same t20,SqL.of (t20 _ _ ey12),by omega,fun _ _ _=>⟨_,_,R,fun H21 s21'=>⟨_,rfl,?_⟩⟩,nof fy,fun _ z=>absurd ⟨r0,r1⟩ z⟩;have E2:=M7 g R r0 r1 n0 n1 g' (t:=ti) (u:=bk) yl wd;refine ⟨rfl,?_⟩;rw [if_neg (fun z=>z (congrArg V.int E2))];have t21:=t20.trans s21';refine k3 _ _ ?_;walk_at "rd";refine cat (t21 _ _ ex12) (by omega) fun p4 H22 s22' e22=>cat (s22' _ _ (t21 _ _ ey12)) (by omega) fun p5 H23 s23' e23=>?_;have t23:=t21.trans (s22'.trans s23');refine ⟨y,p4,p5,tw',true,true,m+1,_,_,_,_,r,rfl,W12'.same t23,SqL.of (s23' _ _ e22),by omega,SqL.of e23,by omega,fun _ _ _ _=>⟨_,_,R2,fun H24 s24'=>?_⟩,nof fxa,fun _=>nof fwa,fun _ _ z=>absurd ⟨r0,by omega⟩ z⟩;have t24:=t23.trans s24';refine ⟨x,lx,lf,tw,true,true,m,ps,rs,xs,fs,r,rfl,W12.same t24,SqL.of (t24 _ _ ex12),by omega,SqL.of (t24 _ _ ef2),by omega,fun _ _ _ _=>⟨_,_,R,fun H25 s25'=>⟨rfl,?_⟩⟩,nof fx,fun _=>nof ff,fun _ _ z=>absurd ⟨r0,r1⟩ z⟩;have E3:=zf g R r0 r1 n0 n1 g' (t:=ti) (u:=bk) xl yl (fs:=fs) w0 hf;rw [if_neg (fun z=>z (congrArg V.int E3))];exact hN _ _ ⟨t24.trans s25',_,_,rfl⟩
     . rintro BB σ H13 hBB ⟨s13',v13,v14,rfl⟩;refine hBB _ _ (h15 _ _ ?_);have R:=RR 0 (Int.le_refl 0) mp;have R2:=RX 0 (Int.le_refl 0) mp;walk_at "rd";refine cat (s13' _ _ ex12) (by omega) fun p1 H14 s14' e14=>cat (s14' _ _ (s13' _ _ ey12)) (by omega) fun p2 H15 s15' e15=>?_;have t15:=s13'.trans (s14'.trans s15');refine ⟨y,p1,p2,tw',true,true,m+1,_,_,_,_,rfl,W12'.same t15,SqL.of (s15' _ _ e14),by omega,SqL.of e15,by omega,fun _ _=>⟨_,_,R2,fun H16 s16'=>?_⟩,nof fxa,fun _=>nof fwa⟩;have t16:=t15.trans s16';refine ⟨x,lx,lf,tw,true,true,m,ps,rs,xs,fs,rfl,W12.same t16,SqL.of (t16 _ _ ex12),by omega,SqL.of ((t16) _ _ ef2),by omega,fun _ _=>⟨_,_,R,fun H17 s17'=>⟨rfl,?_⟩⟩,nof fx,fun _=>nof ff⟩;have E3:=zf g R (Int.le_refl 0) mp n0 n1 g' (t:=ti) (u:=bk) xl yl (fs:=fs) w0 hf;have E4:(0<=stg (m+1) (rs++[⟨near,m,ti,bk⟩]) 0 (fg m near (PAR 0)) (jq m near (DEP 0)) (ys++[wd]) (xs++[0]) 0)=(0<=stg m rs 0 (PAR 0) (DEP 0) fs xs 0):=(by rw [E3]);rw [decide_eq_true]
       . exact k _
       . refine congrArg V.bl ?_;exact decide_eq_decide.mpr (by rw [<- E4])
   have noy:∀ {P:Prop},az m ys=false->P:=fun z=>by rw [fy] at z;cases z
   have noa:∀ {P:Prop},az (m+1) (ys++[0])=false->P:=fun z=>by rw [fa] at z;cases z
   by_cases sn:ys.sum=0
   . refine ⟨y,l1,tw',true,m+1,_,_,_,rfl,W'.same s10,SqL.of e10,by omega,fun _ z=>absurd (asum.trans sn) z,fun _ _ H11 s11=>?_,noa⟩;refine ⟨x,ly,tw,true,m,ps,rs,ys,rfl,W9.same (s10.trans s11),SqL.of ((s10.trans s11) _ _ ey9),by omega,fun _ z=>absurd sn z,fun _ _ H12 s12'=>⟨_,rfl,_,rfl,both 0 0 H12 (s11.trans s12') (Int.le_refl 0)⟩,noy⟩
   . have sn':(ys++[0]).sum≠0:=(by rw [asum];exact sn);obtain ⟨_,_,fr,fp⟩:=C4 yl y0 sn;obtain ⟨_,_,fr',fp'⟩:=C4 al a0' sn';obtain ⟨par',dep',R'⟩:=mt g' fr'.1 fr'.2;have R0:=RR _ fr.1 fr.2;refine ⟨y,l1,tw',true,m+1,_,_,_,rfl,W'.same s10,SqL.of e10,by omega,fun _ _=>⟨par',dep',R',fun H11 s11=>?_⟩,fun _ z=>absurd z sn',noa⟩;refine ⟨x,ly,tw,true,m,ps,rs,ys,rfl,W9.same (s10.trans s11),SqL.of ((s10.trans s11) _ _ ey9),by omega,fun _ _=>⟨_,_,R0,fun H12 s12'=>⟨_,rfl,_,rfl,both _ _ H12 (s11.trans s12') ?_⟩⟩,fun _ z=>absurd z sn,noy⟩;obtain ⟨w1,w2,w3⟩:=MV g R0 fr.1 fr.2 y0 fp rfl;generalize gld m rs (gw m ys) (PAR (gw m ys)) (DEP (gw m ys)) (mD m rs (gw m ys) (PAR (gw m ys)) (DEP (gw m ys)) ys) (gw m ys) (-1)=X at w1 w2 w3 ⊢;obtain ⟨xl',x0',_⟩:=app X 0 w1 w2 (Int.le_refl 0);have es:=zf g R0 fr.1 fr.2 n0 n1 g' (t:=ti) (u:=bk) w1 yl (fs:=ys) (wd:=0) (Int.le_refl 0) (fun v _ _=>by rw [Int.mul_zero];split <;> omega);refine Classical.byContradiction fun n=>?_;have c:=Mr g' R' fr'.1 fr'.2 xl' x0' a0' fp' (by rw [List.sum_append];simp;omega);have d:=Rr g' R' fr'.1 fr'.2 (RX _ fr.1 fr.2) fr.1 (by omega) xl' x0' a0' c;omega
end
theorem UQ:aU CX0:=fun _ _ _ _ _ h=>h
theorem all_mk {l:PySem.W.OpenLaw} {w:World} {K:PySem.W.Frag} {h:Heap} {mg:Str->Option Value} {fa:Addr} {bC:Addr} {gu:Addr} {eL:Addr} {fF:Addr} {cZ:Addr} {eI:Addr} {eK:Addr} {l9:Addr} {dz:Addr} {xc_TollError:Value} {xd_TollError:Option Addr} {xk_TollError:ClassData} {xs_TollError:Array (Option Value)} {xc_BadWeb:Value} {xd_BadWeb:Option Addr} {xk_BadWeb:ClassData} {xs_BadWeb:Array (Option Value)} {xc_NoPlace:Value} {xd_NoPlace:Option Addr} {xk_NoPlace:ClassData} {xs_NoPlace:Array (Option Value)} {qn_NoPlace qq_NoPlace:Str} {qN_NoPlace:Addr} {qb_NoPlace qm_NoPlace:List Value} {qh_NoPlace:Bool} {qs_NoPlace:List Str} {qu_NoPlace:List Value} {qa_NoPlace:Bool} {qc_NoPlace:Option Bool} {qd_NoPlace:Option Addr} {q0_NoPlace q1_NoPlace q2_NoPlace q3_NoPlace q5_NoPlace:Option Value} {xc_NoRoad:Value} {xd_NoRoad:Option Addr} {xk_NoRoad:ClassData} {xs_NoRoad:Array (Option Value)} {qn_NoRoad qq_NoRoad:Str} {qN_NoRoad:Addr} {qb_NoRoad qm_NoRoad:List Value} {qh_NoRoad:Bool} {qs_NoRoad:List Str} {qu_NoRoad:List Value} {qa_NoRoad:Bool} {qc_NoRoad:Option Bool} {qd_NoRoad:Option Addr} {q0_NoRoad q1_NoRoad q2_NoRoad q3_NoRoad q5_NoRoad:Option Value} {xc_BadLaying:Value} {xd_BadLaying:Option Addr} {xk_BadLaying:ClassData} {xs_BadLaying:Array (Option Value)} {qn_BadLaying qq_BadLaying:Str} {qN_BadLaying:Addr} {qb_BadLaying qm_BadLaying:List Value} {qh_BadLaying:Bool} {qs_BadLaying:List Str} {qu_BadLaying:List Value} {qa_BadLaying:Bool} {qc_BadLaying:Option Bool} {qd_BadLaying:Option Addr} {q0_BadLaying q1_BadLaying q2_BadLaying q3_BadLaying q5_BadLaying:Option Value} {xc_BadWish:Value} {xd_BadWish:Option Addr} {xk_BadWish:ClassData} {xs_BadWish:Array (Option Value)} {qn_BadWish qq_BadWish:Str} {qN_BadWish:Addr} {qb_BadWish qm_BadWish:List Value} {qh_BadWish:Bool} {qs_BadWish:List Str} {qu_BadWish:List Value} {qa_BadWish:Bool} {qc_BadWish:Option Bool} {qd_BadWish:Option Addr} {q0_BadWish q1_BadWish q2_BadWish q3_BadWish q5_BadWish:Option Value} {xc_NoWorst:Value} {xd_NoWorst:Option Addr} {xk_NoWorst:ClassData} {xs_NoWorst:Array (Option Value)} {qn_NoWorst qq_NoWorst:Str} {qN_NoWorst:Addr} {qb_NoWorst qm_NoWorst:List Value} {qh_NoWorst:Bool} {qs_NoWorst:List Str} {qu_NoWorst:List Value} {qa_NoWorst:Bool} {qc_NoWorst:Option Bool} {qd_NoWorst:Option Addr} {q0_NoWorst q1_NoWorst q2_NoWorst q3_NoWorst q5_NoWorst:Option Value} {dZ:Addr} {od_check_counts BN:Option Addr} {Br:Array (Option Value)} {oc_check_counts BC AY AU rm A9:Value} {eE:Addr} {od_is_place Ir:Option Addr} {IB:Array (Option Value)} {oc_is_place Ie Iy HU zH HF:Value} {fN:Addr} {od_check_ends DZ:Option Addr} {D5:Array (Option Value)} {oc_check_ends Eb D8 Ep wq Eg:Value} {c8:Addr} {od_other_ends El:Option Addr} {DU:Array (Option Value)} {oc_other_ends DW D9 Eo wm Ej:Value} {d3:Addr} {od_check_joined Be:Option Addr} {BS:Array (Option Value)} {oc_check_joined Bz A2 Bo rj BK:Value} {eW:Addr} {od_check_tolls Cy:Option Addr} {Cu:Array (Option Value)} {oc_check_tolls Cq Ct Ch tp Cm:Value} {f_Web___init__:Addr} {od_Web___init__ BM:Option Addr} {Bm:Array (Option Value)} {oc_Web___init__ Bx Bk Bj rC BX:Value} {ba:Addr} {od_law_drawn FQ:Option Addr} {FA:Array (Option Value)} {oc_law_drawn GA Fa Gs yc Gg:Value} {gn:Addr} {od_law_bound GZ:Option Addr} {Fs:Array (Option Value)} {oc_law_bound ET Hg Fn yZ GD:Value} {fQ:Addr} {od_law_laying Ed:Option Addr} {Er:Array (Option Value)} {oc_law_laying Eh Ek Ef vV Ee:Value} {eC:Addr} {od_law_toll Il:Option Addr} {HM:Array (Option Value)} {oc_law_toll HX HJ HQ zy Ix:Value} {gA:Addr} {od_law_roads Gk:Option Addr} {F4:Array (Option Value)} {oc_law_roads FC E8 Fu xQ Fl:Value} {iw:Addr} {od_law_wish HN:Option Addr} {Ib:Array (Option Value)} {oc_law_wish HV Iw IG zz HE:Value} {aZ:Addr} {od_check_place CD:Option Addr} {Cr:Array (Option Value)} {oc_check_place CK CI CM tD C6:Value} {fP:Addr} {od_neighbours D3:Option Addr} {DR:Array (Option Value)} {oc_neighbours D2 DV D7 wt Ei:Value} {gR:Addr} {od_kids Sq:Option Addr} {R3:Array (Option Value)} {oc_kids Sl RT RZ Ji Rs:Value} {dL:Addr} {od_ahead Pf:Option Addr} {Qk:Array (Option Value)} {oc_ahead Na Nw Qq FF Ou:Value} {dN:Addr} {od_added On:Option Addr} {PP:Array (Option Value)} {oc_added M4 PB QM FX Qa:Value} {bD:Addr} {od_idle_kids GH:Option Addr} {E7:Array (Option Value)} {oc_idle_kids FJ Fk Fr xE Fy:Value} {b4:Addr} {od_toll RY:Option Addr} {Ss:Array (Option Value)} {oc_toll RU Sm Rx Jv Ru:Value} {dJ:Addr} {od_total OM:Option Addr} {Ni:Array (Option Value)} {oc_total QG Pu P8 Fw QC:Value} {ir:Addr} {od_load_by JN:Option Addr} {Kt:Array (Option Value)} {oc_load_by KL K7 Ku BJ J7:Value} {bg:Addr} {od_greatest_load Aq:Option Addr} {AA:Array (Option Value)} {oc_greatest_load AO AH zX pw AI:Value} {gr:Addr} {od_idle_load EB:Option Addr} {GP:Array (Option Value)} {oc_idle_load G5 FW HB xG F3:Value} {pO:Addr} {od_down RJ:Option Addr} {Ri:Array (Option Value)} {oc_down RG Sk Rn Jt RS:Value} {d6:Addr} {od_inward Mz:Option Addr} {Mg:Array (Option Value)} {oc_inward LK MN LJ DK MP:Value} {dC:Addr} {od_is_filled GS:Option Addr} {Gf:Array (Option Value)} {oc_is_filled Gn G7 Ha yF F2:Value} {dj:Addr} {od_wish_of Kc:Option Addr} {JJ:Array (Option Value)} {oc_wish_of Ks JW Jy Bd KQ:Value} {jg:Addr} {od_needs Oh:Option Addr} {Qu:Array (Option Value)} {oc_needs MX M5 OH EM Qc:Value} {f_Outlook___init__:Addr} {od_Outlook___init__ wE:Option Addr} {wy:Array (Option Value)} {oc_Outlook___init__ wB wD wA mJ wK:Value} {jT:Addr} {od_failing Jx:Option Addr} {K5:Array (Option Value)} {oc_failing KU Kv J0 BQ KG:Value} {fw:Addr} {od_is_idle Kx:Option Addr} {Kr:Array (Option Value)} {oc_is_idle Kq Kf KA Bw JF:Value} {mS:Addr} {od_fails P7:Option Addr} {Np:Array (Option Value)} {oc_fails QB QV NO FI Ph:Value} {lA:Addr} {od_always MT:Option Addr} {Ms:Array (Option Value)} {oc_always L5 Mp MK DB Lu:Value} {gC:Addr} {od_handed_on ES:Option Addr} {FG:Array (Option Value)} {oc_handed_on Gb Fo GU wX EH:Value} {gD:Addr} {od_laying_of F1:Option Addr} {EI:Array (Option Value)} {oc_laying_of GM Hx Gr yW EY:Value} {gq:Addr} {od_standings FY:Option Addr} {FZ:Array (Option Value)} {oc_standings GY Fq FL yo Hw:Value} {d8:Addr} {od_standing HD:Option Addr} {Iq:Array (Option Value)} {oc_standing Ii IH HC zx HK:Value} {lg:Addr} {od_is_met MQ:Option Addr} {Ml:Array (Option Value)} {oc_is_met Lv Mi L6 DI L0:Value} {gB:Addr} {od_pile_need Gq:Option Addr} {FV:Array (Option Value)} {oc_pile_need F6 G6 Gw xT GG:Value} {vO:Addr} {od_way Tq:Option Addr} {SY:Array (Option Value)} {oc_way To SO SU Mq S4:Value} {mV:Addr} {od_price Qj:Option Addr} {OQ:Array (Option Value)} {oc_price MW Os QW Hv OI:Value} {KO:Addr} {od_law Me:Option Addr} {SW:Array (Option Value)} {oc_law Mb Lf Mv E5 Lp:Value} {t_MOST_PLACES:Tok} {t_LEAST_TOLL:Tok} {t_MOST_TOLL:Tok} (X:K.In h) (G:h.Ns mainGlobals mg) (hfa:mg "law"=some (.ref fa))
   (pR:PySem.W.nsIn K mainGlobals "TollError"=some (some (.ref bC)))
   (wW:PySem.W.nsIn K mainGlobals "BadWeb"=some (some (.ref gu)))
   (vh:PySem.W.nsIn K mainGlobals "NoPlace"=some (some (.ref eL)))
   (xq:PySem.W.nsIn K mainGlobals "NoRoad"=some (some (.ref fF)))
   (qj:PySem.W.nsIn K mainGlobals "BadLaying"=some (some (.ref cZ)))
   (uz:PySem.W.nsIn K mainGlobals "BadWish"=some (some (.ref eI)))
   (uw:PySem.W.nsIn K mainGlobals "NoWorst"=some (some (.ref eK)))
   (Fz:PySem.W.nsIn K mainGlobals "Web"=some (some (.ref l9)))
   (uT:PySem.W.nsIn K mainGlobals "Outlook"=some (some (.ref dz)))
   (qO:K.lookup bC=some ⟨xc_TollError,xd_TollError,.cls xk_TollError,xs_TollError⟩)
   (pG:xk_TollError.mro=.ref bC::bmV)
   (qH:PySem.W.typeIn K (.ref bC)=some (.type "type"))
   (pV:PySem.W.findIn K (.ref bC) "__getattribute__"=some (some (.builtin "BaseException.__getattribute__")))
   (qa:PySem.W.findIn K (.ref bC) "__getattr__"=some none)
   (qm:PySem.W.findIn K (.ref bC) "__class__"=some (some (.builtin "object.__class__")))
   (qK:PySem.W.hasDictIn K bC=true)
   (yJ:K.lookup gu=some ⟨xc_BadWeb,xd_BadWeb,.cls xk_BadWeb,xs_BadWeb⟩)
   (yY:xk_BadWeb.mro=.ref gu::.ref bC::bmV)
   (xD:PySem.W.typeIn K (.ref gu)=some (.type "type"))
   (xy:PySem.W.findIn K (.ref gu) "__getattribute__"=some (some (.builtin "BaseException.__getattribute__")))
   (yx:PySem.W.findIn K (.ref gu) "__getattr__"=some none)
   (xU:PySem.W.findIn K (.ref gu) "__class__"=some (some (.builtin "object.__class__")))
   (xm:PySem.W.hasDictIn K gu=true)
   (oM:K.lookup eL=some ⟨xc_NoPlace,xd_NoPlace,.cls xk_NoPlace,xs_NoPlace⟩)
   (vD:xk_NoPlace.mro=.ref eL::.ref bC::bmV)
   (uf:PySem.W.typeIn K (.ref eL)=some (.type "type"))
   (uL:PySem.W.findIn K (.ref eL) "__getattribute__"=some (some (.builtin "BaseException.__getattribute__")))
   (uG:PySem.W.findIn K (.ref eL) "__getattr__"=some none)
   (vJ:PySem.W.findIn K (.ref eL) "__class__"=some (some (.builtin "object.__class__")))
   (vz:PySem.W.hasDictIn K eL=true)
   (vy:(⟨xc_NoPlace,xd_NoPlace,.cls xk_NoPlace,xs_NoPlace⟩:Obj)=excClassObj qn_NoPlace qq_NoPlace eL qN_NoPlace qb_NoPlace qm_NoPlace qh_NoPlace qs_NoPlace qu_NoPlace qa_NoPlace qc_NoPlace qd_NoPlace q0_NoPlace q1_NoPlace q2_NoPlace q3_NoPlace q5_NoPlace "ValueError.__new__")
   (uu:PySem.W.nsOkIn K qN_NoPlace=true)
   (va:PySem.W.nsIn K qN_NoPlace "__init__"=some none)
   (vg:PySem.W.tailIn K bmV qm_NoPlace=true)
   (rg:K.lookup fF=some ⟨xc_NoRoad,xd_NoRoad,.cls xk_NoRoad,xs_NoRoad⟩)
   (wZ:xk_NoRoad.mro=.ref fF::.ref bC::bmV)
   (yt:PySem.W.typeIn K (.ref fF)=some (.type "type"))
   (yq:PySem.W.findIn K (.ref fF) "__getattribute__"=some (some (.builtin "BaseException.__getattribute__")))
   (yI:PySem.W.findIn K (.ref fF) "__getattr__"=some none)
   (yL:PySem.W.findIn K (.ref fF) "__class__"=some (some (.builtin "object.__class__")))
   (wO:PySem.W.hasDictIn K fF=true)
   (xw:(⟨xc_NoRoad,xd_NoRoad,.cls xk_NoRoad,xs_NoRoad⟩:Obj)=excClassObj qn_NoRoad qq_NoRoad fF qN_NoRoad qb_NoRoad qm_NoRoad qh_NoRoad qs_NoRoad qu_NoRoad qa_NoRoad qc_NoRoad qd_NoRoad q0_NoRoad q1_NoRoad q2_NoRoad q3_NoRoad q5_NoRoad "ValueError.__new__")
   (yh:PySem.W.nsOkIn K qN_NoRoad=true)
   (yD:PySem.W.nsIn K qN_NoRoad "__init__"=some none)
   (xL:PySem.W.tailIn K bmV qm_NoRoad=true)
   (mz:K.lookup cZ=some ⟨xc_BadLaying,xd_BadLaying,.cls xk_BadLaying,xs_BadLaying⟩)
   (p7:xk_BadLaying.mro=.ref cZ::.ref bC::bmV)
   (pD:PySem.W.typeIn K (.ref cZ)=some (.type "type"))
   (pA:PySem.W.findIn K (.ref cZ) "__getattribute__"=some (some (.builtin "BaseException.__getattribute__")))
   (qi:PySem.W.findIn K (.ref cZ) "__getattr__"=some none)
   (pI:PySem.W.findIn K (.ref cZ) "__class__"=some (some (.builtin "object.__class__")))
   (pP:PySem.W.hasDictIn K cZ=true)
   (pj:(⟨xc_BadLaying,xd_BadLaying,.cls xk_BadLaying,xs_BadLaying⟩:Obj)=excClassObj qn_BadLaying qq_BadLaying cZ qN_BadLaying qb_BadLaying qm_BadLaying qh_BadLaying qs_BadLaying qu_BadLaying qa_BadLaying qc_BadLaying qd_BadLaying q0_BadLaying q1_BadLaying q2_BadLaying q3_BadLaying q5_BadLaying "ValueError.__new__")
   (pi:PySem.W.nsOkIn K qN_BadLaying=true)
   (qB:PySem.W.nsIn K qN_BadLaying "__init__"=some none)
   (pY:PySem.W.tailIn K bmV qm_BadLaying=true)
   (oP:K.lookup eI=some ⟨xc_BadWish,xd_BadWish,.cls xk_BadWish,xs_BadWish⟩)
   (vw:xk_BadWish.mro=.ref eI::.ref bC::bmV)
   (uU:PySem.W.typeIn K (.ref eI)=some (.type "type"))
   (vM:PySem.W.findIn K (.ref eI) "__getattribute__"=some (some (.builtin "BaseException.__getattribute__")))
   (uh:PySem.W.findIn K (.ref eI) "__getattr__"=some none)
   (uI:PySem.W.findIn K (.ref eI) "__class__"=some (some (.builtin "object.__class__")))
   (vd:PySem.W.hasDictIn K eI=true)
   (uJ:(⟨xc_BadWish,xd_BadWish,.cls xk_BadWish,xs_BadWish⟩:Obj)=excClassObj qn_BadWish qq_BadWish eI qN_BadWish qb_BadWish qm_BadWish qh_BadWish qs_BadWish qu_BadWish qa_BadWish qc_BadWish qd_BadWish q0_BadWish q1_BadWish q2_BadWish q3_BadWish q5_BadWish "ValueError.__new__")
   (uv:PySem.W.nsOkIn K qN_BadWish=true)
   (vE:PySem.W.nsIn K qN_BadWish "__init__"=some none)
   (vK:PySem.W.tailIn K bmV qm_BadWish=true)
   (oQ:K.lookup eK=some ⟨xc_NoWorst,xd_NoWorst,.cls xk_NoWorst,xs_NoWorst⟩)
   (ut:xk_NoWorst.mro=.ref eK::.ref bC::bmV)
   (u8:PySem.W.typeIn K (.ref eK)=some (.type "type"))
   (uA:PySem.W.findIn K (.ref eK) "__getattribute__"=some (some (.builtin "BaseException.__getattribute__")))
   (vI:PySem.W.findIn K (.ref eK) "__getattr__"=some none)
   (vB:PySem.W.findIn K (.ref eK) "__class__"=some (some (.builtin "object.__class__")))
   (uE:PySem.W.hasDictIn K eK=true)
   (vq:(⟨xc_NoWorst,xd_NoWorst,.cls xk_NoWorst,xs_NoWorst⟩:Obj)=excClassObj qn_NoWorst qq_NoWorst eK qN_NoWorst qb_NoWorst qm_NoWorst qh_NoWorst qs_NoWorst qu_NoWorst qa_NoWorst qc_NoWorst qd_NoWorst q0_NoWorst q1_NoWorst q2_NoWorst q3_NoWorst q5_NoWorst "ValueError.__new__")
   (vk:PySem.W.nsOkIn K qN_NoWorst=true)
   (vA:PySem.W.nsIn K qN_NoWorst "__init__"=some none)
   (uD:PySem.W.tailIn K bmV qm_NoWorst=true)
   (xgs:PySem.W.specialIn K (.builtin "object.__class__") "__get__"=some (some (.builtin "getset_descriptor.__get__")))
   (xtk:PySem.W.takesIn K (.builtin "object.__class__")=some true)
   (xnd:[bC,gu,eL,fF,cZ,eI,eK].Nodup)
   (nh:PySem.W.nsIn K mainGlobals "check_counts"=some (some (.ref dZ)))
   (m5:K.lookup dZ=some ⟨oc_check_counts,od_check_counts,.func (PySem.W.fnOf "check_counts" "check_counts" (aE bu) (aD bu) (aa bu) .none BC AY AU BN rm A9),Br⟩)
   (nA:PySem.W.codeIn K rm "check_counts"=true)
   (m8:PySem.W.keepIn K (.ref dZ)=true)
   (uH:PySem.W.nsIn K mainGlobals "is_place"=some (some (.ref eE)))
   (vx:K.lookup eE=some ⟨oc_is_place,od_is_place,.func (PySem.W.fnOf "is_place" "is_place" (aE dE) (aD dE) (aa dE) .none Ie Iy HU Ir zH HF),IB⟩)
   (ve:PySem.W.codeIn K zH "is_place"=true)
   (uM:PySem.W.keepIn K (.ref eE)=true)
   (p9:PySem.W.nsIn K mainGlobals "check_ends"=some (some (.ref fN)))
   (pX:K.lookup fN=some ⟨oc_check_ends,od_check_ends,.func (PySem.W.fnOf "check_ends" "check_ends" (aE bZ) (aD bZ) (aa bZ) .none Eb D8 Ep DZ wq Eg),D5⟩)
   (qC:PySem.W.codeIn K wq "check_ends"=true)
   (qf:PySem.W.keepIn K (.ref fN)=true)
   (qx:PySem.W.nsIn K mainGlobals "other_ends"=some (some (.ref c8)))
   (ph:K.lookup c8=some ⟨oc_other_ends,od_other_ends,.func (PySem.W.fnOf "other_ends" "other_ends" (aE bQ) (aD bQ) (aa bQ) .none DW D9 Eo El wm Ej),DU⟩)
   (qM:PySem.W.codeIn K wm "other_ends"=true)
   (pL:PySem.W.keepIn K (.ref c8)=true)
   (m3:PySem.W.nsIn K mainGlobals "check_joined"=some (some (.ref d3)))
   (m9:K.lookup d3=some ⟨oc_check_joined,od_check_joined,.func (PySem.W.fnOf "check_joined" "check_joined" (aE aP) (aD aP) (aa aP) .none Bz A2 Bo Be rj BK),BS⟩)
   (mT:PySem.W.codeIn K rj "check_joined"=true)
   (mK:PySem.W.keepIn K (.ref d3)=true)
   (oh:PySem.W.nsIn K mainGlobals "check_tolls"=some (some (.ref eW)))
   (ou:K.lookup eW=some ⟨oc_check_tolls,od_check_tolls,.func (PySem.W.fnOf "check_tolls" "check_tolls" (aE bH) (aD bH) (aa bH) .none Cq Ct Ch Cy tp Cm),Cu⟩)
   (nY:PySem.W.codeIn K tp "check_tolls"=true)
   (n5:PySem.W.keepIn K (.ref eW)=true)
   (mP:PySem.W.findIn K (.ref l9) "__init__"=some (some (.ref f_Web___init__)))
   (mM:PySem.W.isFn K (.ref f_Web___init__)=true)
   (ni:K.lookup f_Web___init__=some ⟨oc_Web___init__,od_Web___init__,.func (PySem.W.fnOf "__init__" "Web.__init__" (aE aO) (aD aO) (aa aO) .none Bx Bk Bj BM rC BX),Bm⟩)
   (nB:PySem.W.codeIn K rC "Web.__init__"=true)
   (m7:PySem.W.keepIn K (.ref f_Web___init__)=true)
   (sI:PySem.W.nsIn K mainGlobals "_law_drawn"=some (some (.ref ba)))
   (rM:K.lookup ba=some ⟨oc_law_drawn,od_law_drawn,.func (PySem.W.fnOf "_law_drawn" "_law_drawn" (aE bj) (aD bj) (aa bj) .none GA Fa Gs FQ yc Gg),FA⟩)
   (rY:PySem.W.codeIn K yc "_law_drawn"=true)
   (r6:PySem.W.keepIn K (.ref ba)=true)
   (rJ:PySem.W.nsIn K mainGlobals "_law_bound"=some (some (.ref gn)))
   (sd:K.lookup gn=some ⟨oc_law_bound,od_law_bound,.func (PySem.W.fnOf "_law_bound" "_law_bound" (aE c7) (aD c7) (aa c7) .none ET Hg Fn GZ yZ GD),Fs⟩)
   (rZ:PySem.W.codeIn K yZ "_law_bound"=true)
   (sP:PySem.W.keepIn K (.ref gn)=true)
   (pT:PySem.W.nsIn K mainGlobals "_law_laying"=some (some (.ref fQ)))
   (qb:K.lookup fQ=some ⟨oc_law_laying,od_law_laying,.func (PySem.W.fnOf "_law_laying" "_law_laying" (aE be) (aD be) (aa be) .none Eh Ek Ef Ed vV Ee),Er⟩)
   (py:PySem.W.codeIn K vV "_law_laying"=true)
   (pC:PySem.W.keepIn K (.ref fQ)=true)
   (uF:PySem.W.nsIn K mainGlobals "_law_toll"=some (some (.ref eC)))
   (uO:K.lookup eC=some ⟨oc_law_toll,od_law_toll,.func (PySem.W.fnOf "_law_toll" "_law_toll" (aE ee) (aD ee) (aa ee) .none HX HJ HQ Il zy Ix),HM⟩)
   (uN:PySem.W.codeIn K zy "_law_toll"=true)
   (vG:PySem.W.keepIn K (.ref eC)=true)
   (rQ:PySem.W.nsIn K mainGlobals "_law_roads"=some (some (.ref gA)))
   (sv:K.lookup gA=some ⟨oc_law_roads,od_law_roads,.func (PySem.W.fnOf "_law_roads" "_law_roads" (aE aW) (aD aW) (aa aW) .none FC E8 Fu Gk xQ Fl),F4⟩)
   (sB:PySem.W.codeIn K xQ "_law_roads"=true)
   (sy:PySem.W.keepIn K (.ref gA)=true)
   (u7:PySem.W.nsIn K mainGlobals "_law_wish"=some (some (.ref iw)))
   (uS:K.lookup iw=some ⟨oc_law_wish,od_law_wish,.func (PySem.W.fnOf "_law_wish" "_law_wish" (aE bK) (aD bK) (aa bK) .none HV Iw IG HN zz HE),Ib⟩)
   (vL:PySem.W.codeIn K zz "_law_wish"=true)
   (vT:PySem.W.keepIn K (.ref iw)=true)
   (n9:PySem.W.nsIn K mainGlobals "check_place"=some (some (.ref aZ)))
   (oz:K.lookup aZ=some ⟨oc_check_place,od_check_place,.func (PySem.W.fnOf "check_place" "check_place" (aE bo) (aD bo) (aa bo) .none CK CI CM CD tD C6),Cr⟩)
   (oj:PySem.W.codeIn K tD "check_place"=true)
   (nX:PySem.W.keepIn K (.ref aZ)=true)
   (qo:PySem.W.nsIn K mainGlobals "neighbours"=some (some (.ref fP)))
   (qw:K.lookup fP=some ⟨oc_neighbours,od_neighbours,.func (PySem.W.fnOf "neighbours" "neighbours" (aE bR) (aD bR) (aa bR) .none D2 DV D7 D3 wt Ei),DR⟩)
   (pE:PySem.W.codeIn K wt "neighbours"=true)
   (qA:PySem.W.keepIn K (.ref fP)=true)
   (GW:PySem.W.nsIn K mainGlobals "kids"=some (some (.ref gR)))
   (Hj:K.lookup gR=some ⟨oc_kids,od_kids,.func (PySem.W.fnOf "kids" "kids" (aE fL) (aD fL) (aa fL) .none Sl RT RZ Sq Ji Rs),R3⟩)
   (Hm:PySem.W.codeIn K Ji "kids"=true)
   (Gm:PySem.W.keepIn K (.ref gR)=true)
   (Ck:PySem.W.nsIn K mainGlobals "ahead"=some (some (.ref dL)))
   (Ci:K.lookup dL=some ⟨oc_ahead,od_ahead,.func (PySem.W.fnOf "ahead" "ahead" (aE cF) (aD cF) (aa cF) .none Na Nw Qq Pf FF Ou),Qk⟩)
   (Db:PySem.W.codeIn K FF "ahead"=true)
   (C2:PySem.W.keepIn K (.ref dL)=true)
   (CZ:PySem.W.nsIn K mainGlobals "added"=some (some (.ref dN)))
   (CO:K.lookup dN=some ⟨oc_added,od_added,.func (PySem.W.fnOf "added" "added" (aE eO) (aD eO) (aa eO) .none M4 PB QM On FX Qa),PP⟩)
   (Da:PySem.W.codeIn K FX "added"=true)
   (Cj:PySem.W.keepIn K (.ref dN)=true)
   (su:PySem.W.nsIn K mainGlobals "idle_kids"=some (some (.ref bD)))
   (sg:K.lookup bD=some ⟨oc_idle_kids,od_idle_kids,.func (PySem.W.fnOf "idle_kids" "idle_kids" (aE bq) (aD bq) (aa bq) .none FJ Fk Fr GH xE Fy),E7⟩)
   (sj:PySem.W.codeIn K xE "idle_kids"=true)
   (sA:PySem.W.keepIn K (.ref bD)=true)
   (Hr:PySem.W.nsIn K mainGlobals "toll"=some (some (.ref b4)))
   (GO:K.lookup b4=some ⟨oc_toll,od_toll,.func (PySem.W.fnOf "toll" "toll" (aE cI) (aD cI) (aa cI) .none RU Sm Rx RY Jv Ru),Ss⟩)
   (GR:PySem.W.codeIn K Jv "toll"=true)
   (Fm:PySem.W.keepIn K (.ref b4)=true)
   (Cf:PySem.W.nsIn K mainGlobals "total"=some (some (.ref dJ)))
   (Dc:K.lookup dJ=some ⟨oc_total,od_total,.func (PySem.W.fnOf "total" "total" (aE fC) (aD fC) (aa fC) .none QG Pu P8 OM Fw QC),Ni⟩)
   (CN:PySem.W.codeIn K Fw "total"=true)
   (B9:PySem.W.keepIn K (.ref dJ)=true)
   (wN:PySem.W.nsIn K mainGlobals "load_by"=some (some (.ref ir)))
   (wT:K.lookup ir=some ⟨oc_load_by,od_load_by,.func (PySem.W.fnOf "load_by" "load_by" (aE bL) (aD bL) (aa bL) .none KL K7 Ku JN BJ J7),Kt⟩)
   (xR:PySem.W.codeIn K BJ "load_by"=true)
   (ya:PySem.W.keepIn K (.ref ir)=true)
   (lZ:PySem.W.nsIn K mainGlobals "greatest_load"=some (some (.ref bg)))
   (lQ:K.lookup bg=some ⟨oc_greatest_load,od_greatest_load,.func (PySem.W.fnOf "greatest_load" "greatest_load" (aE aF) (aD aF) (aa aF) .none AO AH zX Aq pw AI),AA⟩)
   (me:PySem.W.codeIn K pw "greatest_load"=true)
   (mB:PySem.W.keepIn K (.ref bg)=true)
   (se:PySem.W.nsIn K mainGlobals "idle_load"=some (some (.ref gr)))
   (rO:K.lookup gr=some ⟨oc_idle_load,od_idle_load,.func (PySem.W.fnOf "idle_load" "idle_load" (aE bT) (aD bT) (aa bT) .none G5 FW HB EB xG F3),GP⟩)
   (rT:PySem.W.codeIn K xG "idle_load"=true)
   (rE:PySem.W.keepIn K (.ref gr)=true)
   (F8:PySem.W.nsIn K mainGlobals "down"=some (some (.ref pO)))
   (EW:K.lookup pO=some ⟨oc_down,od_down,.func (PySem.W.fnOf "down" "down" (aE dX) (aD dX) (aa dX) .none RG Sk Rn RJ Jt RS),Ri⟩)
   (FN:PySem.W.codeIn K Jt "down"=true)
   (GX:PySem.W.keepIn K (.ref pO)=true)
   (Ae:PySem.W.nsIn K mainGlobals "inward"=some (some (.ref d6)))
   (Ak:K.lookup d6=some ⟨oc_inward,od_inward,.func (PySem.W.fnOf "inward" "inward" (aE cJ) (aD cJ) (aa cJ) .none LK MN LJ Mz DK MP),Mg⟩)
   (zQ:PySem.W.codeIn K DK "inward"=true)
   (Au:PySem.W.keepIn K (.ref d6)=true)
   (rV:PySem.W.nsIn K mainGlobals "is_filled"=some (some (.ref dC)))
   (si:K.lookup dC=some ⟨oc_is_filled,od_is_filled,.func (PySem.W.fnOf "is_filled" "is_filled" (aE ce) (aD ce) (aa ce) .none Gn G7 Ha GS yF F2),Gf⟩)
   (rH:PySem.W.codeIn K yF "is_filled"=true)
   (sk:PySem.W.keepIn K (.ref dC)=true)
   (yy:PySem.W.nsIn K mainGlobals "wish_of"=some (some (.ref dj)))
   (yw:K.lookup dj=some ⟨oc_wish_of,od_wish_of,.func (PySem.W.fnOf "wish_of" "wish_of" (aE cH) (aD cH) (aa cH) .none Ks JW Jy Kc Bd KQ),JJ⟩)
   (yz:PySem.W.codeIn K Bd "wish_of"=true)
   (xY:PySem.W.keepIn K (.ref dj)=true)
   (CP:PySem.W.nsIn K mainGlobals "needs"=some (some (.ref jg)))
   (C7:K.lookup jg=some ⟨oc_needs,od_needs,.func (PySem.W.fnOf "needs" "needs" (aE cQ) (aD cQ) (aa cQ) .none MX M5 OH Oh EM Qc),Qu⟩)
   (CQ:PySem.W.codeIn K EM "needs"=true)
   (CL:PySem.W.keepIn K (.ref jg)=true)
   (jM:PySem.W.findIn K (.ref dz) "__init__"=some (some (.ref f_Outlook___init__)))
   (j0:PySem.W.isFn K (.ref f_Outlook___init__)=true)
   (j3:K.lookup f_Outlook___init__=some ⟨oc_Outlook___init__,od_Outlook___init__,.func (PySem.W.fnOf "__init__" "Outlook.__init__" (aE aB) (aD aB) (aa aB) .none wB wD wA wE mJ wK),wy⟩)
   (jN:PySem.W.codeIn K mJ "Outlook.__init__"=true)
   (jR:PySem.W.keepIn K (.ref f_Outlook___init__)=true)
   (yH:PySem.W.nsIn K mainGlobals "failing"=some (some (.ref jT)))
   (yd:K.lookup jT=some ⟨oc_failing,od_failing,.func (PySem.W.fnOf "failing" "failing" (aE cW) (aD cW) (aa cW) .none KU Kv J0 Jx BQ KG),K5⟩)
   (xb:PySem.W.codeIn K BQ "failing"=true)
   (xI:PySem.W.keepIn K (.ref jT)=true)
   (xP:PySem.W.nsIn K mainGlobals "is_idle"=some (some (.ref fw)))
   (wL:K.lookup fw=some ⟨oc_is_idle,od_is_idle,.func (PySem.W.fnOf "is_idle" "is_idle" (aE dq) (aD dq) (aa dq) .none Kq Kf KA Kx Bw JF),Kr⟩)
   (xh:PySem.W.codeIn K Bw "is_idle"=true)
   (yO:PySem.W.keepIn K (.ref fw)=true)
   (C1:PySem.W.nsIn K mainGlobals "fails"=some (some (.ref mS)))
   (B8:K.lookup mS=some ⟨oc_fails,od_fails,.func (PySem.W.fnOf "fails" "fails" (aE dP) (aD dP) (aa dP) .none QB QV NO P7 FI Ph),Np⟩)
   (Dg:PySem.W.codeIn K FI "fails"=true)
   (Ce:PySem.W.keepIn K (.ref mS)=true)
   (Az:PySem.W.nsIn K mainGlobals "always"=some (some (.ref lA)))
   (zJ:K.lookup lA=some ⟨oc_always,od_always,.func (PySem.W.fnOf "always" "always" (aE d4) (aD d4) (aa d4) .none L5 Mp MK MT DB Lu),Ms⟩)
   (zU:PySem.W.codeIn K DB "always"=true)
   (zR:PySem.W.keepIn K (.ref lA)=true)
   (sH:PySem.W.nsIn K mainGlobals "handed_on"=some (some (.ref gC)))
   (sq:K.lookup gC=some ⟨oc_handed_on,od_handed_on,.func (PySem.W.fnOf "handed_on" "handed_on" (aE b7) (aD b7) (aa b7) .none Gb Fo GU ES wX EH),FG⟩)
   (sN:PySem.W.codeIn K wX "handed_on"=true)
   (sM:PySem.W.keepIn K (.ref gC)=true)
   (rS:PySem.W.nsIn K mainGlobals "laying_of"=some (some (.ref gD)))
   (sG:K.lookup gD=some ⟨oc_laying_of,od_laying_of,.func (PySem.W.fnOf "laying_of" "laying_of" (aE b8) (aD b8) (aa b8) .none GM Hx Gr F1 yW EY),EI⟩)
   (rN:PySem.W.codeIn K yW "laying_of"=true)
   (sF:PySem.W.keepIn K (.ref gD)=true)
   (sC:PySem.W.nsIn K mainGlobals "standings"=some (some (.ref gq)))
   (sK:K.lookup gq=some ⟨oc_standings,od_standings,.func (PySem.W.fnOf "standings" "standings" (aE aN) (aD aN) (aa aN) .none GY Fq FL FY yo Hw),FZ⟩)
   (ss:PySem.W.codeIn K yo "standings"=true)
   (sE:PySem.W.keepIn K (.ref gq)=true)
   (vF:PySem.W.nsIn K mainGlobals "standing"=some (some (.ref d8)))
   (vP:K.lookup d8=some ⟨oc_standing,od_standing,.func (PySem.W.fnOf "standing" "standing" (aE cj) (aD cj) (aa cj) .none Ii IH HC HD zx HK),Iq⟩)
   (uR:PySem.W.codeIn K zx "standing"=true)
   (ui:PySem.W.keepIn K (.ref d8)=true)
   (AK:PySem.W.nsIn K mainGlobals "is_met"=some (some (.ref lg)))
   (Ah:K.lookup lg=some ⟨oc_is_met,od_is_met,.func (PySem.W.fnOf "is_met" "is_met" (aE eT) (aD eT) (aa eT) .none Lv Mi L6 MQ DI L0),Ml⟩)
   (z3:PySem.W.codeIn K DI "is_met"=true)
   (zK:PySem.W.keepIn K (.ref lg)=true)
   (sQ:PySem.W.nsIn K mainGlobals "pile_need"=some (some (.ref gB)))
   (rL:K.lookup gB=some ⟨oc_pile_need,od_pile_need,.func (PySem.W.fnOf "pile_need" "pile_need" (aE cP) (aD cP) (aa cP) .none F6 G6 Gw Gq xT GG),FV⟩)
   (sx:PySem.W.codeIn K xT "pile_need"=true)
   (sD:PySem.W.keepIn K (.ref gB)=true)
   (Kl:PySem.W.nsIn K mainGlobals "way"=some (some (.ref vO)))
   (K8:K.lookup vO=some ⟨oc_way,od_way,.func (PySem.W.fnOf "way" "way" (aE iE) (aD iE) (aa iE) .none To SO SU Tq Mq S4),SY⟩)
   (KN:PySem.W.codeIn K Mq "way"=true)
   (J6:PySem.W.keepIn K (.ref vO)=true)
   (C3:PySem.W.nsIn K mainGlobals "price"=some (some (.ref mV)))
   (Cl:K.lookup mV=some ⟨oc_price,od_price,.func (PySem.W.fnOf "price" "price" (aE cX) (aD cX) (aa cX) .none MW Os QW Qj Hv OI),OQ⟩)
   (Cg:PySem.W.codeIn K Hv "price"=true)
   (Cd:PySem.W.keepIn K (.ref mV)=true)
   (Ey:PySem.W.nsIn K mainGlobals "law"=some (some (.ref KO)))
   (KW:K.lookup KO=some ⟨oc_law,od_law,.func (PySem.W.fnOf "law" "law" (aE bp) (aD bp) (aa bp) .none Mb Lf Mv Me E5 Lp),SW⟩)
   (KP:PySem.W.codeIn K E5 "law"=true)
   (JE:PySem.W.keepIn K (.ref KO)=true)
   (FR:PySem.W.plainGet K l9 Str.empty=true)
   (Gh:PySem.W.hasDictIn K l9=true)
   (G9:PySem.W.plainOver K l9=true)
   (Fv:PySem.W.findIn K (.ref l9) "__setattr__"=some (some (.builtin "object.__setattr__")))
   (GI:PySem.W.makesIn K l9=true)
   (Gi:PySem.W.keepIn K (.ref l9)=true)
   (n_many_Web:PySem.W.findIn K (.ref l9) "many"=some none)
   (n_roads_Web:PySem.W.findIn K (.ref l9) "roads"=some none)
   (uX:PySem.W.plainGet K dz Str.empty=true)
   (ul:PySem.W.hasDictIn K dz=true)
   (ug:PySem.W.plainOver K dz=true)
   (uP:PySem.W.findIn K (.ref dz) "__setattr__"=some (some (.builtin "object.__setattr__")))
   (vf:PySem.W.makesIn K dz=true)
   (vQ:PySem.W.keepIn K (.ref dz)=true)
   (n_web_Outlook:PySem.W.findIn K (.ref dz) "web"=some none)
   (n_needs_Outlook:PySem.W.findIn K (.ref dz) "needs"=some none)
   (n_kids_Outlook:PySem.W.findIn K (.ref dz) "kids"=some none)
   (n_idle_Outlook:PySem.W.findIn K (.ref dz) "idle"=some none)
   (z_range:PySem.W.nsIn K mainGlobals "range"=some none)
   (z_zip:PySem.W.nsIn K mainGlobals "zip"=some none)
   (z_len:PySem.W.nsIn K mainGlobals "len"=some none)
   (z_all:PySem.W.nsIn K mainGlobals "all"=some none)
   (z_int:PySem.W.nsIn K mainGlobals "int"=some none)
   (z_tuple:PySem.W.nsIn K mainGlobals "tuple"=some none)
   (z_list:PySem.W.nsIn K mainGlobals "list"=some none)
   (z_reversed:PySem.W.nsIn K mainGlobals "reversed"=some none)
   (z_sorted:PySem.W.nsIn K mainGlobals "sorted"=some none)
   (z_min:PySem.W.nsIn K mainGlobals "min"=some none)
   (z_enumerate:PySem.W.nsIn K mainGlobals "enumerate"=some none)
   (z_sum:PySem.W.nsIn K mainGlobals "sum"=some none)
   (v_MOST_PLACES:PySem.W.nsIn K mainGlobals "MOST_PLACES"=some (some (.int 24 t_MOST_PLACES)))
   (v_LEAST_TOLL:PySem.W.nsIn K mainGlobals "LEAST_TOLL"=some (some (.int 2 t_LEAST_TOLL)))
   (v_MOST_TOLL:PySem.W.nsIn K mainGlobals "MOST_TOLL"=some (some (.int 1000000 t_MOST_TOLL))) :
   ∃ fd:FuncData,(∀ (s:Shared) (v:Value),BindsTo s fd ⟨[v],[]⟩ [("script",v)])/\∀ base:Heap,K.In base->base.Ns mainGlobals mg->FnOk l.prog w K mg base (CXe l.prog w) 61 fa fd ["script"] (Ev K):=by
 have e:=hfa.symm.trans (PySem.W.mg_of X G Ey);cases e
 let T:Txt K mg:=⟨bC,PySem.W.mg_of X G pR,gu,PySem.W.mg_of X G wW,eL,PySem.W.mg_of X G vh,fF,PySem.W.mg_of X G xq,cZ,PySem.W.mg_of X G qj,eI,PySem.W.mg_of X G uz,eK,PySem.W.mg_of X G uw,l9,PySem.W.mg_of X G Fz,dz,PySem.W.mg_of X G uT,RA qH pV qa qm xgs xtk qK qO pG,o9 xD xy yx xU xgs xtk xm yJ yY,o9 uf uL uG vJ xgs xtk vz oM vD,tN _ _ _ _ _ _ _ _ _ _ _ _ _ _ _ _ oM vy uu va vg,o9 yt yq yI yL xgs xtk wO rg wZ,tN _ _ _ _ _ _ _ _ _ _ _ _ _ _ _ _ rg xw yh yD xL,o9 pD pA qi pI xgs xtk pP mz p7,tN _ _ _ _ _ _ _ _ _ _ _ _ _ _ _ _ mz pj pi qB pY,o9 uU vM uh uI xgs xtk vd oP vw,tN _ _ _ _ _ _ _ _ _ _ _ _ _ _ _ _ oP uJ uv vE vK,o9 u8 uA vI vB xgs xtk uE oQ ut,tN _ _ _ _ _ _ _ _ _ _ _ _ _ _ _ _ oQ vq vk vA uD,xnd,PySem.W.mg_none_of X G z_range,PySem.W.mg_none_of X G z_zip,PySem.W.mg_none_of X G z_len,PySem.W.mg_none_of X G z_all,PySem.W.mg_none_of X G z_int,PySem.W.mg_none_of X G z_tuple,PySem.W.mg_none_of X G z_list,PySem.W.mg_none_of X G z_reversed,PySem.W.mg_none_of X G z_sorted,PySem.W.mg_none_of X G z_min,PySem.W.mg_none_of X G z_enumerate,PySem.W.mg_none_of X G z_sum,⟨_,PySem.W.mg_of X G v_MOST_PLACES⟩,⟨_,PySem.W.mg_of X G v_LEAST_TOLL⟩,⟨_,PySem.W.mg_of X G v_MOST_TOLL⟩,⟨FR,Gh,G9,Fv⟩,n_many_Web,n_roads_Web,⟨uX,ul,ug,uP⟩,n_web_Outlook,n_needs_Outlook,n_kids_Outlook,n_idle_Outlook⟩
 have F_check_counts:=aM (st:=bu) m5 nA m8;have b_check_counts:=F_check_counts.binds (ps:=["many","roads"]) fun _ _ _ _ _ _ us hl=>by obtain ⟨u0,u1,rfl⟩:=us2 hl;rfl
 have fB:Df K mg "check_counts" bu ["many","roads"] dZ _:=⟨F_check_counts,PySem.W.mg_of X G nh,b_check_counts⟩;have F_is_place:=aM (st:=dE) vx ve uM;have b_is_place:=F_is_place.binds (ps:=["many","number"]) fun _ _ _ _ _ _ us hl=>by obtain ⟨u0,u1,rfl⟩:=us2 hl;rfl
 have cw:Df K mg "is_place" dE ["many","number"] eE _:=⟨F_is_place,PySem.W.mg_of X G uH,b_is_place⟩;have F_check_ends:=aM (st:=bZ) pX qC qf;have b_check_ends:=F_check_ends.binds (ps:=["many","road"]) fun _ _ _ _ _ _ us hl=>by obtain ⟨u0,u1,rfl⟩:=us2 hl;rfl
 have gP:Df K mg "check_ends" bZ ["many","road"] fN _:=⟨F_check_ends,PySem.W.mg_of X G p9,b_check_ends⟩;have F_other_ends:=aM (st:=bQ) ph qM pL;have b_other_ends:=F_other_ends.binds (ps:=["roads","place"]) fun _ _ _ _ _ _ us hl=>by obtain ⟨u0,u1,rfl⟩:=us2 hl;rfl
 have cL:Df K mg "other_ends" bQ ["roads","place"] c8 _:=⟨F_other_ends,PySem.W.mg_of X G qx,b_other_ends⟩;have F_check_joined:=aM (st:=aP) m9 mT mK;have b_check_joined:=F_check_joined.binds (ps:=["many","roads"]) fun _ _ _ _ _ _ us hl=>by obtain ⟨u0,u1,rfl⟩:=us2 hl;rfl
 have fD:Df K mg "check_joined" aP ["many","roads"] d3 _:=⟨F_check_joined,PySem.W.mg_of X G m3,b_check_joined⟩;have F_check_tolls:=aM (st:=bH) ou nY n5;have b_check_tolls:=F_check_tolls.binds (ps:=["road"]) fun _ _ _ _ _ _ us hl=>by obtain ⟨u0,rfl⟩:=us1 hl;rfl
 have fZ:Df K mg "check_tolls" bH ["road"] eW _:=⟨F_check_tolls,PySem.W.mg_of X G oh,b_check_tolls⟩;have F_Web___init__:=aM (st:=aO) ni nB m7;have b_Web:=F_Web___init__.binds (ps:=["self","many","roads"]) fun _ _ _ _ _ _ us hl=>by obtain ⟨u0,u1,u2,rfl⟩:=us3 hl;rfl
 have F_law_drawn:=aM (st:=bj) rM rY r6;have b_law_drawn:=F_law_drawn.binds (ps:=["script","k"]) fun _ _ _ _ _ _ us hl=>by obtain ⟨u0,u1,rfl⟩:=us2 hl;rfl
 have ay:Df K mg "_law_drawn" bj ["script","k"] ba _:=⟨F_law_drawn,PySem.W.mg_of X G sI,b_law_drawn⟩;have F_law_bound:=aM (st:=c7) sd rZ sP;have b_law_bound:=F_law_bound.binds (ps:=["script"]) fun _ _ _ _ _ _ us hl=>by obtain ⟨u0,rfl⟩:=us1 hl;rfl
 have jc:Df K mg "_law_bound" c7 ["script"] gn _:=⟨F_law_bound,PySem.W.mg_of X G rJ,b_law_bound⟩;have F_law_laying:=aM (st:=be) qb py pC;have b_law_laying:=F_law_laying.binds (ps:=["script","many","bound"]) fun _ _ _ _ _ _ us hl=>by obtain ⟨u0,u1,u2,rfl⟩:=us3 hl;rfl
 have hJ:Df K mg "_law_laying" be ["script","many","bound"] fQ _:=⟨F_law_laying,PySem.W.mg_of X G pT,b_law_laying⟩;have F_law_toll:=aM (st:=ee) uO uN vG;have b_law_toll:=F_law_toll.binds (ps:=["part"]) fun _ _ _ _ _ _ us hl=>by obtain ⟨u0,rfl⟩:=us1 hl;rfl
 have bI:Df K mg "_law_toll" ee ["part"] eC _:=⟨F_law_toll,PySem.W.mg_of X G uF,b_law_toll⟩;have F_law_roads:=aM (st:=aW) sv sB sy;have b_law_roads:=F_law_roads.binds (ps:=["script","many","shape"]) fun _ _ _ _ _ _ us hl=>by obtain ⟨u0,u1,u2,rfl⟩:=us3 hl;rfl
 have jb:Df K mg "_law_roads" aW ["script","many","shape"] gA _:=⟨F_law_roads,PySem.W.mg_of X G rQ,b_law_roads⟩;have F_law_wish:=aM (st:=bK) uS vL vT;have b_law_wish:=F_law_wish.binds (ps:=["script","many","bound"]) fun _ _ _ _ _ _ us hl=>by obtain ⟨u0,u1,u2,rfl⟩:=us3 hl;rfl
 have j9:Df K mg "_law_wish" bK ["script","many","bound"] iw _:=⟨F_law_wish,PySem.W.mg_of X G u7,b_law_wish⟩;have F_check_place:=aM (st:=bo) oz oj nX;have b_check_place:=F_check_place.binds (ps:=["web","number"]) fun _ _ _ _ _ _ us hl=>by obtain ⟨u0,u1,rfl⟩:=us2 hl;rfl
 have aG:Df K mg "check_place" bo ["web","number"] aZ _:=⟨F_check_place,PySem.W.mg_of X G n9,b_check_place⟩;have F_neighbours:=aM (st:=bR) qw pE qA;have b_neighbours:=F_neighbours.binds (ps:=["web","a"]) fun _ _ _ _ _ _ us hl=>by obtain ⟨u0,u1,rfl⟩:=us2 hl;rfl
 have hZ:Df K mg "neighbours" bR ["web","a"] fP _:=⟨F_neighbours,PySem.W.mg_of X G qo,b_neighbours⟩;have F_kids:=aM (st:=fL) Hj Hm Gm;have b_kids:=F_kids.binds (ps:=["web","place","front"]) fun _ _ _ _ _ _ us hl=>by obtain ⟨u0,u1,u2,rfl⟩:=us3 hl;rfl
 have eZ:Df K mg "kids" fL ["web","place","front"] gR _:=⟨F_kids,PySem.W.mg_of X G GW,b_kids⟩;have F_ahead:=aM (st:=cF) Ci Db C2;have b_ahead:=F_ahead.binds (ps:=["web","r"]) fun _ _ _ _ _ _ us hl=>by obtain ⟨u0,u1,rfl⟩:=us2 hl;rfl
 have cf:Df K mg "ahead" cF ["web","r"] dL _:=⟨F_ahead,PySem.W.mg_of X G Ck,b_ahead⟩;have F_added:=aM (st:=eO) CO Da Cj;have b_added:=F_added.binds (ps:=["one","other"]) fun _ _ _ _ _ _ us hl=>by obtain ⟨u0,u1,rfl⟩:=us2 hl;rfl
 have d7:Df K mg "added" eO ["one","other"] dN _:=⟨F_added,PySem.W.mg_of X G CZ,b_added⟩;have F_idle_kids:=aM (st:=bq) sg sj sA;have b_idle_kids:=F_idle_kids.binds (ps:=["outlook","place","left_out"]) fun _ _ _ _ _ _ us hl=>by obtain ⟨u0,u1,u2,rfl⟩:=us3 hl;rfl
 have bn:Df K mg "idle_kids" bq ["outlook","place","left_out"] bD _:=⟨F_idle_kids,PySem.W.mg_of X G su,b_idle_kids⟩;have F_toll:=aM (st:=cI) GO GR Fm;have b_toll:=F_toll.binds (ps:=["web","a","b"]) fun _ _ _ _ _ _ us hl=>by obtain ⟨u0,u1,u2,rfl⟩:=us3 hl;rfl
 have aY:Df K mg "toll" cI ["web","a","b"] b4 _:=⟨F_toll,PySem.W.mg_of X G Hr,b_toll⟩;have F_total:=aM (st:=fC) Dc CN B9;have b_total:=F_total.binds (ps:=["numbers"]) fun _ _ _ _ _ _ us hl=>by obtain ⟨u0,rfl⟩:=us1 hl;rfl
 have b9:Df K mg "total" fC ["numbers"] dJ _:=⟨F_total,PySem.W.mg_of X G Cf,b_total⟩;have F_load_by:=aM (st:=bL) wT xR ya;have b_load_by:=F_load_by.binds (ps:=["outlook","place","kid","room"]) fun _ _ _ _ _ _ us hl=>by obtain ⟨u0,u1,u2,u3,rfl⟩:=us4 hl;rfl
 have ip:Df K mg "load_by" bL ["outlook","place","kid","room"] ir _:=⟨F_load_by,PySem.W.mg_of X G wN,b_load_by⟩;have F_greatest_load:=aM (st:=aF) lQ me mB;have b_greatest_load:=F_greatest_load.binds (ps:=["outlook","place","over"]) fun _ _ _ _ _ _ us hl=>by obtain ⟨u0,u1,u2,rfl⟩:=us3 hl;rfl
 have D_greatest_load:Df K mg "greatest_load" aF ["outlook","place","over"] bg _:=⟨F_greatest_load,PySem.W.mg_of X G lZ,b_greatest_load⟩;have F_idle_load:=aM (st:=bT) rO rT rE;have b_idle_load:=F_idle_load.binds (ps:=["outlook","place","front"]) fun _ _ _ _ _ _ us hl=>by obtain ⟨u0,u1,u2,rfl⟩:=us3 hl;rfl
 have jd:Df K mg "idle_load" bT ["outlook","place","front"] gr _:=⟨F_idle_load,PySem.W.mg_of X G se,b_idle_load⟩;have F_down:=aM (st:=dX) EW FN GX;have b_down:=F_down.binds (ps:=["web","r"]) fun _ _ _ _ _ _ us hl=>by obtain ⟨u0,u1,rfl⟩:=us2 hl;rfl
 have tR:Df K mg "down" dX ["web","r"] pO _:=⟨F_down,PySem.W.mg_of X G F8,b_down⟩;have F_inward:=aM (st:=cJ) Ak zQ Au;have b_inward:=F_inward.binds (ps:=["web","r"]) fun _ _ _ _ _ _ us hl=>by obtain ⟨u0,u1,rfl⟩:=us2 hl;rfl
 have cU:Df K mg "inward" cJ ["web","r"] d6 _:=⟨F_inward,PySem.W.mg_of X G Ae,b_inward⟩;have F_is_filled:=aM (st:=ce) si rH sk;have b_is_filled:=F_is_filled.binds (ps:=["web","numbers"]) fun _ _ _ _ _ _ us hl=>by obtain ⟨u0,u1,rfl⟩:=us2 hl;rfl
 have c6:Df K mg "is_filled" ce ["web","numbers"] dC _:=⟨F_is_filled,PySem.W.mg_of X G rV,b_is_filled⟩;have F_wish_of:=aM (st:=cH) yw yz xY;have b_wish_of:=F_wish_of.binds (ps:=["web","numbers"]) fun _ _ _ _ _ _ us hl=>by obtain ⟨u0,u1,rfl⟩:=us2 hl;rfl
 have cg:Df K mg "wish_of" cH ["web","numbers"] dj _:=⟨F_wish_of,PySem.W.mg_of X G yy,b_wish_of⟩;have F_needs:=aM (st:=cQ) C7 CQ CL;have b_needs:=F_needs.binds (ps:=["web","wish","r"]) fun _ _ _ _ _ _ us hl=>by obtain ⟨u0,u1,u2,rfl⟩:=us3 hl;rfl
 have ig:Df K mg "needs" cQ ["web","wish","r"] jg _:=⟨F_needs,PySem.W.mg_of X G CP,b_needs⟩;have F_Outlook___init__:=aM (st:=aB) j3 jN jR;have b_Outlook:=F_Outlook___init__.binds (ps:=["self","web","wish","r"]) fun _ _ _ _ _ _ us hl=>by obtain ⟨u0,u1,u2,u3,rfl⟩:=us4 hl;rfl
 have F_failing:=aM (st:=cW) yd xb xI;have b_failing:=F_failing.binds (ps:=["web","wish","r"]) fun _ _ _ _ _ _ us hl=>by obtain ⟨u0,u1,u2,rfl⟩:=us3 hl;rfl
 have lM:Df K mg "failing" cW ["web","wish","r"] jT _:=⟨F_failing,PySem.W.mg_of X G yH,b_failing⟩;have F_is_idle:=aM (st:=dq) wL xh yO;have b_is_idle:=F_is_idle.binds (ps:=["web","wish"]) fun _ _ _ _ _ _ us hl=>by obtain ⟨u0,u1,rfl⟩:=us2 hl;rfl
 have eM:Df K mg "is_idle" dq ["web","wish"] fw _:=⟨F_is_idle,PySem.W.mg_of X G xP,b_is_idle⟩;have F_fails:=aM (st:=dP) B8 Dg Ce;have b_fails:=F_fails.binds (ps:=["web","wish"]) fun _ _ _ _ _ _ us hl=>by obtain ⟨u0,u1,rfl⟩:=us2 hl;rfl
 have pf:Df K mg "fails" dP ["web","wish"] mS _:=⟨F_fails,PySem.W.mg_of X G C1,b_fails⟩;have F_always:=aM (st:=d4) zJ zU zR;have b_always:=F_always.binds (ps:=["web","wish"]) fun _ _ _ _ _ _ us hl=>by obtain ⟨u0,u1,rfl⟩:=us2 hl;rfl
 have iz:Df K mg "always" d4 ["web","wish"] lA _:=⟨F_always,PySem.W.mg_of X G Az,b_always⟩;have F_handed_on:=aM (st:=b7) sq sN sM;have b_handed_on:=F_handed_on.binds (ps:=["web","over","place","front"]) fun _ _ _ _ _ _ us hl=>by obtain ⟨u0,u1,u2,u3,rfl⟩:=us4 hl;rfl
 have jf:Df K mg "handed_on" b7 ["web","over","place","front"] gC _:=⟨F_handed_on,PySem.W.mg_of X G sH,b_handed_on⟩;have F_laying_of:=aM (st:=b8) sG rN sF;have b_laying_of:=F_laying_of.binds (ps:=["web","numbers"]) fun _ _ _ _ _ _ us hl=>by obtain ⟨u0,u1,rfl⟩:=us2 hl;rfl
 have jh:Df K mg "laying_of" b8 ["web","numbers"] gD _:=⟨F_laying_of,PySem.W.mg_of X G rS,b_laying_of⟩;have F_standings:=aM (st:=aN) sK ss sE;have b_standings:=F_standings.binds (ps:=["web","laying","wish","r"]) fun _ _ _ _ _ _ us hl=>by obtain ⟨u0,u1,u2,u3,rfl⟩:=us4 hl;rfl
 have je:Df K mg "standings" aN ["web","laying","wish","r"] gq _:=⟨F_standings,PySem.W.mg_of X G sC,b_standings⟩;have F_standing:=aM (st:=cj) vP uR ui;have b_standing:=F_standing.binds (ps:=["web","laying","wish","r"]) fun _ _ _ _ _ _ us hl=>by obtain ⟨u0,u1,u2,u3,rfl⟩:=us4 hl;rfl
 have bi:Df K mg "standing" cj ["web","laying","wish","r"] d8 _:=⟨F_standing,PySem.W.mg_of X G vF,b_standing⟩;have F_is_met:=aM (st:=eT) Ah z3 zK;have b_is_met:=F_is_met.binds (ps:=["web","laying","wish"]) fun _ _ _ _ _ _ us hl=>by obtain ⟨u0,u1,u2,rfl⟩:=us3 hl;rfl
 have iB:Df K mg "is_met" eT ["web","laying","wish"] lg _:=⟨F_is_met,PySem.W.mg_of X G AK,b_is_met⟩;have F_pile_need:=aM (st:=cP) rL sx sD;have b_pile_need:=F_pile_need.binds (ps:=["web","wish","v"]) fun _ _ _ _ _ _ us hl=>by obtain ⟨u0,u1,u2,rfl⟩:=us3 hl;rfl
 have eB:Df K mg "pile_need" cP ["web","wish","v"] gB _:=⟨F_pile_need,PySem.W.mg_of X G sQ,b_pile_need⟩;have F_way:=aM (st:=iE) K8 KN J6;have b_way:=F_way.binds (ps:=["web","a","b"]) fun _ _ _ _ _ _ us hl=>by obtain ⟨u0,u1,u2,rfl⟩:=us3 hl;rfl
 have zb:Df K mg "way" iE ["web","a","b"] vO _:=⟨F_way,PySem.W.mg_of X G Kl,b_way⟩;have F_price:=aM (st:=cX) Cl Cg Cd;have b_price:=F_price.binds (ps:=["web","a","b"]) fun _ _ _ _ _ _ us hl=>by obtain ⟨u0,u1,u2,rfl⟩:=us3 hl;rfl
 have pd:Df K mg "price" cX ["web","a","b"] mV _:=⟨F_price,PySem.W.mg_of X G C3,b_price⟩;have F_law:=aM (st:=bp) KW KP JE;have b_law:=F_law.binds (ps:=["script"]) fun _ _ _ _ _ _ us hl=>by obtain ⟨u0,rfl⟩:=us1 hl;rfl
 have Um:Df K mg "law" bp ["script"] fa _:=⟨F_law,PySem.W.mg_of X G Ey,b_law⟩;refine ⟨PySem.W.fnOf "law" "law" (aE bp) (aD bp) (aa bp) .none Mb Lf Mv Me E5 Lp,fun s v=>.of_eq rfl,fun base _ _=>?_⟩;have Ex:Mk K T.Web f_Web___init__:=⟨GI,mP,mM,Gi⟩;have wM:Mk K T.Outlook f_Outlook___init__:=⟨vf,jM,j0,vQ⟩;have G_check_counts:=Bf (P:=l.prog) (w:=w) (base:=base) T aL fB;have G_is_place:=Iz (P:=l.prog) (w:=w) (base:=base) T aL cw;have G_check_ends:=En (P:=l.prog) (w:=w) (base:=base) T aL gP cw G_is_place;have G_other_ends:=Ea (P:=l.prog) (w:=w) (base:=base) T aL cL;have G_check_joined:=Bh (P:=l.prog) (w:=w) (base:=base) T aL fD cL G_other_ends;have G_check_tolls:=CY (P:=l.prog) (w:=w) (base:=base) T aL fZ;have G_Web_init:=Ba (P:=l.prog) (w:=w) (base:=base) T aL F_Web___init__ fB G_check_counts gP G_check_ends fD G_check_joined fZ G_check_tolls;have G_law_drawn:=Gd (P:=l.prog) (w:=w) (base:=base) T aL ay;have G_law_bound:=Fx (P:=l.prog) (w:=w) (base:=base) T aL jc ay G_law_drawn;have G_law_laying:=DY (P:=l.prog) (w:=w) (base:=base) T aL hJ ay G_law_drawn;have G_law_toll:=IE (P:=l.prog) (w:=w) (base:=base) T aL bI;have G_law_roads:=GN (P:=l.prog) (w:=w) (base:=base) T aL jb ay G_law_drawn bI G_law_toll;have G_law_wish:=HR (P:=l.prog) (w:=w) (base:=base) T aL j9 ay G_law_drawn;have G_check_place:=CA (P:=l.prog) (w:=w) (base:=base) T aL aG cw G_is_place;have G_neighbours:=D4 (P:=l.prog) (w:=w) (base:=base) T aL hZ aG G_check_place cL G_other_ends;have G_kids:=RE (P:=l.prog) (w:=w) (base:=base) T aL eZ hZ G_neighbours;have G_ahead:=Qm (P:=l.prog) (w:=w) (base:=base) T aL cf aG G_check_place eZ G_kids;have G_added:=NF (P:=l.prog) (w:=w) (base:=base) T aL d7;have G_idle_kids:=GK (P:=l.prog) (w:=w) (base:=base) T aL bn d7 G_added;have G_toll:=RC (P:=l.prog) (w:=w) (base:=base) T aL aY aG G_check_place;have G_total:=Om (P:=l.prog) (w:=w) (base:=base) T aL b9;have G_greatest_load:=An (P:=l.prog) (w:=w) (base:=base) T aL D_greatest_load ip d7 G_added bn G_idle_kids aY G_toll b9 G_total;have G_idle_load:=EA (P:=l.prog) (w:=w) (base:=base) T aL jd D_greatest_load G_greatest_load bn G_idle_kids aY G_toll;have G_down:=R7 (P:=l.prog) (w:=w) (base:=base) T aL tR cf G_ahead eZ G_kids;have G_inward:=Mo (P:=l.prog) (w:=w) (base:=base) T aL cU cf G_ahead tR G_down;have G_is_filled:=Hi (P:=l.prog) (w:=w) (base:=base) T aL c6;have G_wish_of:=Kk (P:=l.prog) (w:=w) (base:=base) T aL cg c6 G_is_filled;have G_needs:=QU (P:=l.prog) (w:=w) (base:=base) T aL ig cU G_inward aY G_toll cg G_wish_of;have G_Outlook_init:=wF (P:=l.prog) (w:=w) (base:=base) T aL F_Outlook___init__ cf G_ahead jd G_idle_load cU G_inward eZ G_kids ig G_needs;have G_failing:=JD (P:=l.prog) (w:=w) (base:=base) T aL lM F_Outlook___init__ b_Outlook wM G_Outlook_init D_greatest_load G_greatest_load;have G_is_idle:=KY (P:=l.prog) (w:=w) (base:=base) T aL eM b9 G_total cg G_wish_of;have G_fails:=Py (P:=l.prog) (w:=w) (base:=base) T aL pf lM G_failing eM G_is_idle;have G_always:=LD (P:=l.prog) (w:=w) (base:=base) T aL iz pf G_fails eM G_is_idle b9 G_total;have G_handed_on:=Ht (P:=l.prog) (w:=w) (base:=base) T aL jf aY G_toll;have G_laying_of:=Fp (P:=l.prog) (w:=w) (base:=base) T aL jh c6 G_is_filled;have G_standings:=EV (P:=l.prog) (w:=w) (base:=base) T aL je jf G_handed_on cU G_inward jh G_laying_of cg G_wish_of;have G_standing:=Im (P:=l.prog) (w:=w) (base:=base) T aL bi je G_standings;have G_is_met:=MM (P:=l.prog) (w:=w) (base:=base) T aL iB bi G_standing;have G_pile_need:=FP (P:=l.prog) (w:=w) (base:=base) T aL eB ig G_needs;have G_way:=TC (P:=l.prog) (w:=w) (base:=base) T aL zb cf G_ahead aG G_check_place;have G_price:=Pi (P:=l.prog) (w:=w) (base:=base) T aL pd aY G_toll zb G_way;have G_law:=SX (P:=l.prog) (w:=w) (base:=base) T aL Um F_Web___init__ b_Web Ex G_Web_init jc G_law_bound ay G_law_drawn hJ G_law_laying jb G_law_roads bI G_law_toll j9 G_law_wish iz G_always iB G_is_met eB G_pile_need pd G_price bi G_standing;exact G_law
theorem walk {l:PySem.W.OpenLaw} {q:Program} {loose:List Str} {XP:(Str->Option Value)->Heap->Prop} {YP:World->Heap->Prop} {d:DefRec} {K:Params->PySem.W.Frag} (hn:l.most=some 63) (hdf:d.params.defaults=[])
   (hY:∀ (w:World) (h:Heap),YP w h->(K w.params).In h)
   (F:∀ (w:World) (mg:Str->Option Value) (fa:Addr) (h:Heap),(K w.params).In h->h.Ns mainGlobals mg->mg d.name=some (.ref fa) ->
     ∃ fd:FuncData,(∀ (s:Shared) (u:Value),BindsTo s fd ⟨[u],[]⟩ [("script",u)])/\∀ base:Heap,(K w.params).In base->base.Ns mainGlobals mg->FnOk l.prog w (K w.params) mg base (CXe l.prog w) 61 fa fd ["script"] (Ev (K w.params))) :
   PySem.W.WalkO q loose XP YP l.row.toRowW d [] (fun f vs=>PySem.call f vs) :=
 L2.walk_of (n:=63) (k:=61) (x:="script") (CX:=fun w=>(CXe l.prog w)) (sp:=fun w=>Ev (K w.params)) hn (by decide) hdf ⟨rfl,by decide,by decide⟩ hY F (fun _ _ a ns hl _ hS=>⟨a,ns,rfl,hS,hl,fun _=>rfl⟩) fun _ _ _ _ _ z=>aL _ _ _ _ _ z
end Pk
open PySem PySem.W PyProof.Rows
set_option maxRecDepth 100000 in
set_option maxHeartbeats 0 in
theorem PySem.Challenge.cw_pebbletoll_k70_whole_a_place_more_holds : PySem.Challenge.rw_pebbletoll_k70_whole_a_place_more.Holds := by
 w_on;o_law
 refine PySem.W.holds_open (q:=Hd.qq) (loose:=[]) (Xt:=(fun s=>PySem.W.xlAt Hd.qq [] s && PySem.W.recOk (PySem.W.RowW.records (PySem.W.OpenRow.toRowW (PySem.Challenge.rw_pebbletoll_k70_whole_a_place_more).row)) s)) (XP:=PySem.W.XL Hd.qq []) (Yf:=PySem.W.Hook.obs (PySem.W.kHook Hd.KK Hd.asK Hd.asK_eq)) (Ya:=PySem.W.Hook.val (PySem.W.kHook Hd.KK Hd.asK Hd.asK_eq)) (YP:=PySem.W.Hook.says (PySem.W.kHook Hd.KK Hd.asK Hd.asK_eq)) (N:=6690) Hd.left (PySem.W.Hook.of (PySem.W.kHook Hd.KK Hd.asK Hd.asK_eq)) (PySem.W.Hook.keeps (PySem.W.kHook Hd.KK Hd.asK Hd.asK_eq)) (fun s e=>PySem.W.xl_of s (Bool.and_eq_true_iff.mp e).1) PySem.W.XL.keeps (by rfl) (by rfl) (by rfl) (fun s e=>PySem.W.recFacts_of (Bool.and_eq_true_iff.mp e).2) (by rfl) (by assumption) (by decide +kernel) ⟨rfl,rfl,rfl,rfl,rfl,by decide +kernel⟩ ?hw ?hc
 (case hw=>w_witness2)
 k_fill
 refine Pk.walk (l:=PySem.Challenge.rw_pebbletoll_k70_whole_a_place_more) rfl rfl (fun w h Y=>PySem.W.kIn_of Y) ?F
 case F =>
   intro w mg fa h KX G hmg;refine' Pk.all_mk KX G hmg ?pR ?wW ?vh ?xq ?qj ?uz ?uw ?Fz ?uT ?qO ?pG ?qH ?pV ?qa ?qm ?qK ?yJ ?yY ?xD ?xy ?yx ?xU ?xm ?oM ?vD ?uf ?uL ?uG ?vJ ?vz ?vy ?uu ?va ?vg ?rg ?wZ ?yt ?yq ?yI ?yL ?wO ?xw ?yh ?yD ?xL ?mz ?p7 ?pD ?pA ?qi ?pI ?pP ?pj ?pi ?qB ?pY ?oP ?vw ?uU ?vM ?uh ?uI ?vd ?uJ ?uv ?vE ?vK ?oQ ?ut ?u8 ?uA ?vI ?vB ?uE ?vq ?vk ?vA ?uD ?xgs ?xtk ?xnd ?nh ?m5 ?nA ?m8 ?uH ?vx ?ve ?uM ?p9 ?pX ?qC ?qf ?qx ?ph ?qM ?pL ?m3 ?m9 ?mT ?mK ?oh ?ou ?nY ?n5 ?mP ?mM ?ni ?nB ?m7 ?sI ?rM ?rY ?r6 ?rJ ?sd ?rZ ?sP ?pT ?qb ?py ?pC ?uF ?uO ?uN ?vG ?rQ ?sv ?sB ?sy ?u7 ?uS ?vL ?vT ?n9 ?oz ?oj ?nX ?qo ?qw ?pE ?qA ?GW ?Hj ?Hm ?Gm ?Ck ?Ci ?Db ?C2 ?CZ ?CO ?Da ?Cj ?su ?sg ?sj ?sA ?Hr ?GO ?GR ?Fm ?Cf ?Dc ?CN ?B9 ?wN ?wT ?xR ?ya ?lZ ?lQ ?me ?mB ?se ?rO ?rT ?rE ?F8 ?EW ?FN ?GX ?Ae ?Ak ?zQ ?Au ?rV ?si ?rH ?sk ?yy ?yw ?yz ?xY ?CP ?C7 ?CQ ?CL ?jM ?j0 ?j3 ?jN ?jR ?yH ?yd ?xb ?xI ?xP ?wL ?xh ?yO ?C1 ?B8 ?Dg ?Ce ?Az ?zJ ?zU ?zR ?sH ?sq ?sN ?sM ?rS ?sG ?rN ?sF ?sC ?sK ?ss ?sE ?vF ?vP ?uR ?ui ?AK ?Ah ?z3 ?zK ?sQ ?rL ?sx ?sD ?Kl ?K8 ?KN ?J6 ?C3 ?Cl ?Cg ?Cd ?Ey ?KW ?KP ?JE ?FR ?Gh ?G9 ?Fv ?GI ?Gi ?n_many_Web ?n_roads_Web ?uX ?ul ?ug ?uP ?vf ?vQ ?n_web_Outlook ?n_needs_Outlook ?n_kids_Outlook ?n_idle_Outlook ?z_range ?z_zip ?z_len ?z_all ?z_int ?z_tuple ?z_list ?z_reversed ?z_sorted ?z_min ?z_enumerate ?z_sum ?v_MOST_PLACES ?v_LEAST_TOLL ?v_MOST_TOLL
   (case pR=>k_is)
   (case wW=>k_is)
   (case vh=>k_is)
   (case xq=>k_is)
   (case qj=>k_is)
   (case uz=>k_is)
   (case uw=>k_is)
   (case Fz=>k_is)
   (case uT=>k_is)
   (case qO=>k_is)
   (case pG=>rfl)
   (case qH=>k_is)
   (case pV=>k_is)
   (case qa=>k_is)
   (case qm=>k_is)
   (case qK=>k_is)
   (case yJ=>k_is)
   (case yY=>rfl)
   (case xD=>k_is)
   (case xy=>k_is)
   (case yx=>k_is)
   (case xU=>k_is)
   (case xm=>k_is)
   (case oM=>k_is)
   (case vD=>rfl)
   (case uf=>k_is)
   (case uL=>k_is)
   (case uG=>k_is)
   (case vJ=>k_is)
   (case vz=>k_is)
   (case vy=>rfl)
   (case uu=>kernel_rfl)
   (case va=>k_is)
   (case vg=>kernel_rfl)
   (case rg=>k_is)
   (case wZ=>rfl)
   (case yt=>k_is)
   (case yq=>k_is)
   (case yI=>k_is)
   (case yL=>k_is)
   (case wO=>k_is)
   (case xw=>rfl)
   (case yh=>kernel_rfl)
   (case yD=>k_is)
   (case xL=>kernel_rfl)
   (case mz=>k_is)
   (case p7=>rfl)
   (case pD=>k_is)
   (case pA=>k_is)
   (case qi=>k_is)
   (case pI=>k_is)
   (case pP=>k_is)
   (case pj=>rfl)
   (case pi=>kernel_rfl)
   (case qB=>k_is)
   (case pY=>kernel_rfl)
   (case oP=>k_is)
   (case vw=>rfl)
   (case uU=>k_is)
   (case vM=>k_is)
   (case uh=>k_is)
   (case uI=>k_is)
   (case vd=>k_is)
   (case uJ=>rfl)
   (case uv=>kernel_rfl)
   (case vE=>k_is)
   (case vK=>kernel_rfl)
   (case oQ=>k_is)
   (case ut=>rfl)
   (case u8=>k_is)
   (case uA=>k_is)
   (case vI=>k_is)
   (case vB=>k_is)
   (case uE=>k_is)
   (case vq=>rfl)
   (case vk=>kernel_rfl)
   (case vA=>k_is)
   (case uD=>kernel_rfl)
   (case xgs=>k_is)
   (case xtk=>k_is)
   (case xnd=>decide)
   (case nh=>k_is)
   (case m5=>k_is)
   (case nA=>k_is)
   (case m8=>k_is)
   (case uH=>k_is)
   (case vx=>k_is)
   (case ve=>k_is)
   (case uM=>k_is)
   (case p9=>k_is)
   (case pX=>k_is)
   (case qC=>k_is)
   (case qf=>k_is)
   (case qx=>k_is)
   (case ph=>k_is)
   (case qM=>k_is)
   (case pL=>k_is)
   (case m3=>k_is)
   (case m9=>k_is)
   (case mT=>k_is)
   (case mK=>k_is)
   (case oh=>k_is)
   (case ou=>k_is)
   (case nY=>k_is)
   (case n5=>k_is)
   (case mP=>k_is)
   (case mM=>k_is)
   (case ni=>k_is)
   (case nB=>k_is)
   (case m7=>k_is)
   (case sI=>k_is)
   (case rM=>k_is)
   (case rY=>k_is)
   (case r6=>k_is)
   (case rJ=>k_is)
   (case sd=>k_is)
   (case rZ=>k_is)
   (case sP=>k_is)
   (case pT=>k_is)
   (case qb=>k_is)
   (case py=>k_is)
   (case pC=>k_is)
   (case uF=>k_is)
   (case uO=>k_is)
   (case uN=>k_is)
   (case vG=>k_is)
   (case rQ=>k_is)
   (case sv=>k_is)
   (case sB=>k_is)
   (case sy=>k_is)
   (case u7=>k_is)
   (case uS=>k_is)
   (case vL=>k_is)
   (case vT=>k_is)
   (case n9=>k_is)
   (case oz=>k_is)
   (case oj=>k_is)
   (case nX=>k_is)
   (case qo=>k_is)
   (case qw=>k_is)
   (case pE=>k_is)
   (case qA=>k_is)
   (case GW=>k_is)
   (case Hj=>k_is)
   (case Hm=>k_is)
   (case Gm=>k_is)
   (case Ck=>k_is)
   (case Ci=>k_is)
   (case Db=>k_is)
   (case C2=>k_is)
   (case CZ=>k_is)
   (case CO=>k_is)
   (case Da=>k_is)
   (case Cj=>k_is)
   (case su=>k_is)
   (case sg=>k_is)
   (case sj=>k_is)
   (case sA=>k_is)
   (case Hr=>k_is)
   (case GO=>k_is)
   (case GR=>k_is)
   (case Fm=>k_is)
   (case Cf=>k_is)
   (case Dc=>k_is)
   (case CN=>k_is)
   (case B9=>k_is)
   (case wN=>k_is)
   (case wT=>k_is)
   (case xR=>k_is)
   (case ya=>k_is)
   (case lZ=>k_is)
   (case lQ=>k_is)
   (case me=>k_is)
   (case mB=>k_is)
   (case se=>k_is)
   (case rO=>k_is)
   (case rT=>k_is)
   (case rE=>k_is)
   (case F8=>k_is)
   (case EW=>k_is)
   (case FN=>k_is)
   (case GX=>k_is)
   (case Ae=>k_is)
   (case Ak=>k_is)
   (case zQ=>k_is)
   (case Au=>k_is)
   (case rV=>k_is)
   (case si=>k_is)
   (case rH=>k_is)
   (case sk=>k_is)
   (case yy=>k_is)
   (case yw=>k_is)
   (case yz=>k_is)
   (case xY=>k_is)
   (case CP=>k_is)
   (case C7=>k_is)
   (case CQ=>k_is)
   (case CL=>k_is)
   (case jM=>k_is)
   (case j0=>k_is)
   (case j3=>k_is)
   (case jN=>k_is)
   (case jR=>k_is)
   (case yH=>k_is)
   (case yd=>k_is)
   (case xb=>k_is)
   (case xI=>k_is)
   (case xP=>k_is)
   (case wL=>k_is)
   (case xh=>k_is)
   (case yO=>k_is)
   (case C1=>k_is)
   (case B8=>k_is)
   (case Dg=>k_is)
   (case Ce=>k_is)
   (case Az=>k_is)
   (case zJ=>k_is)
   (case zU=>k_is)
   (case zR=>k_is)
   (case sH=>k_is)
   (case sq=>k_is)
   (case sN=>k_is)
   (case sM=>k_is)
   (case rS=>k_is)
   (case sG=>k_is)
   (case rN=>k_is)
   (case sF=>k_is)
   (case sC=>k_is)
   (case sK=>k_is)
   (case ss=>k_is)
   (case sE=>k_is)
   (case vF=>k_is)
   (case vP=>k_is)
   (case uR=>k_is)
   (case ui=>k_is)
   (case AK=>k_is)
   (case Ah=>k_is)
   (case z3=>k_is)
   (case zK=>k_is)
   (case sQ=>k_is)
   (case rL=>k_is)
   (case sx=>k_is)
   (case sD=>k_is)
   (case Kl=>k_is)
   (case K8=>k_is)
   (case KN=>k_is)
   (case J6=>k_is)
   (case C3=>k_is)
   (case Cl=>k_is)
   (case Cg=>k_is)
   (case Cd=>k_is)
   (case Ey=>k_is)
   (case KW=>k_is)
   (case KP=>k_is)
   (case JE=>k_is)
   (case FR=>k_is)
   (case Gh=>k_is)
   (case G9=>k_is)
   (case Fv=>k_is)
   (case GI=>k_is)
   (case Gi=>k_is)
   (case n_many_Web=>k_is)
   (case n_roads_Web=>k_is)
   (case uX=>k_is)
   (case ul=>k_is)
   (case ug=>k_is)
   (case uP=>k_is)
   (case vf=>k_is)
   (case vQ=>k_is)
   (case n_web_Outlook=>k_is)
   (case n_needs_Outlook=>k_is)
   (case n_kids_Outlook=>k_is)
   (case n_idle_Outlook=>k_is)
   (case z_range=>k_is)
   (case z_zip=>k_is)
   (case z_len=>k_is)
   (case z_all=>k_is)
   (case z_int=>k_is)
   (case z_tuple=>k_is)
   (case z_list=>k_is)
   (case z_reversed=>k_is)
   (case z_sorted=>k_is)
   (case z_min=>k_is)
   (case z_enumerate=>k_is)
   (case z_sum=>k_is)
   (case v_MOST_PLACES=>k_is)
   (case v_LEAST_TOLL=>k_is)
   (case v_MOST_TOLL=>k_is)
#print axioms PySem.Challenge.cw_pebbletoll_k70_whole_a_place_more_holds